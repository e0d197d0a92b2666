
import Derived.Test.YtbiojnljihgpoaaGreatDoorZai
namespace Rf
theorem renP_ok (ns : List Int) (p : Part) : VarOk (renP ns p) ns.length /\ after (renP ns p) ns.length = (stepV ns p).length := by
 unfold VarOk after renP stepV
 by_cases hk : p.kind = 1
 ·simp only [hk, if_true, true_and]
  by_cases hm : p.value ∈ ns
  ·have e : numV ns p.value = ns := by unfold numV; rw [if_pos hm]
   have := List.idxOf_lt_length_of_mem hm
   rw [e]
   refine ⟨fun _ => by omega, ?_⟩
   rw [if_neg (by omega)]
  ·have e : numV ns p.value = ns ++ [p.value] := by unfold numV; rw [if_neg hm]
   have e2 : (ns ++ [p.value]).idxOf p.value = ns.length := by
    rw [List.idxOf_append, if_neg hm]
    simp
   rw [e, e2]
   refine ⟨fun _ => by omega, ?_⟩
   rw [if_pos rfl]
   simp
 ·simp only [hk, if_false, false_and]
  exact ⟨fun h => absurd h (by simp), trivial⟩
theorem renT_ok : ∀ (t : List Part) (ns : List Int), VarsOk (renT ns t).1 ns.length /\ afters (renT ns t).1 ns.length = (renT ns t).2.length
 | [], _ => ⟨trivial, rfl⟩
 | p :: t, ns => by
  obtain ⟨h1, h2⟩ := renP_ok ns p
  obtain ⟨h3, h4⟩ := renT_ok t (stepV ns p)
  refine ⟨⟨h1, ?_⟩, ?_⟩
  ·rw [h2]; exact h3
  ·show afters (renT (stepV ns p) t).1 (after (renP ns p) ns.length) = _
   rw [h2]; exact h4
theorem whole_map (ρ : Int -> Int) : ∀ (t : List Part) (m : Int), Whole t m -> Whole (mapT ρ t) m
 | [], _, h => h
 | p :: t, m, h => by
  refine ⟨h.1, ?_⟩
  rw [mapP_args]
  exact whole_map ρ t _ h.2
def PartQ (p : Part) : Prop := (p.kind = 1 /\ p.name = ⟨#[]⟩ /\ p.args = 0) \/ (p.kind = 2 /\ p.name = ⟨#[]⟩ /\ p.args = 0 /\ -999999999 <= p.value /\ p.value <= 999999999) \/ (p.kind = 3 /\ p.value = 0 /\ NmOk p.name /\ 0 <= p.args /\ p.args <= 4)
structure TermQ (t : List Part) : Prop where
 parts : ∀ p ∈ t, PartQ p
 whole : Whole t 1
 len : t.length <= 200
def GoalsQ : List (List Part) -> Nat -> Prop
 | [], _ => True
 | g :: gs, h => (∃ v : Nat, v <= h /\ g = cutT v /\ GoalsQ gs v) \/ ((topP g).kind = 3 /\ TermQ g /\ GoalsQ gs h)
theorem renT_V {t : List Part} (h : TermQ t) {ns : List Int} (hn : (renT ns t).2.length <= 1000000) : TermV (renT ns t).1 ns.length := by
 obtain ⟨e1, e2⟩ := renT_of t ns
 refine ⟨fun p hp => ?_, (renT_ok t ns).1, ?_, by rw [e1]; exact h.len⟩
 ·obtain ⟨q, hq, r1, r2, r3, r4, r5⟩ := e2 p hp
  rcases h.parts q hq with ⟨k1, k2, k3⟩ | ⟨k1, k2, k3, k4, k5⟩ | ⟨k1, k2, k3, k4, k5⟩
  ·have := r5 k1
   exact .inl ⟨by rw [r1]; exact k1, by rw [r2]; exact k2, by rw [r3]; exact k3, this.1, by omega⟩
  ·have := r4 (by rw [k1]; decide)
   exact .inr (.inl ⟨by rw [r1]; exact k1, by rw [r2]; exact k2, by rw [r3]; exact k3, by omega, by omega⟩)
  ·have := r4 (by rw [k1]; decide)
   exact .inr (.inr ⟨by rw [r1]; exact k1, by rw [this]; exact k2, by rw [r2]; exact k3, by rw [r3]; exact k4, by rw [r3]; exact k5⟩)
 ·rw [(renT_map t ns _ List.prefix_rfl).1]
  exact whole_map _ _ _ h.whole
theorem topP_map (ρ : Int -> Int) (g : List Part) : topP (mapT ρ g) = mapP ρ (topP g) := by cases g <;> rfl
theorem renT_cut (ns : List Int) (v : Int) : renT ns (cutT v) = (cutT v, ns) := rfl
theorem sizeT_memQ : ∀ {ts : List (List Part)} {t : List Part}, t ∈ ts -> t.length <= sizeT ts
 | u :: ts, t, h => by
  have e : sizeT (u :: ts) = u.length + sizeT ts := rfl
  rcases List.mem_cons.1 h with rfl | h
  ·omega
  ·have := sizeT_memQ h; omega
theorem renTs_goals : ∀ (gs : List (List Part)) (h : Nat) (ns : List Int), GoalsQ gs h -> (renTs ns gs).2.length <= 1000000 -> GoalsV (renTs ns gs).1 h ns.length /\ aftersT (renTs ns gs).1 ns.length = (renTs ns gs).2.length
 | [], _, _, _, _ => ⟨trivial, rfl⟩
 | g :: gs, h, ns, hg, hn => by
  have hn' : (renTs (renT ns g).2 gs).2.length <= 1000000 := hn
  have hge := renTs_ge gs (renT ns g).2
  rcases hg with ⟨v, hv, rfl, hr⟩ | ⟨h3, ht, hr⟩
  ·rw [renT_cut] at hn'
   obtain ⟨i1, i2⟩ := renTs_goals gs v ns hr hn'
   refine ⟨.inl ⟨v, hv, rfl, i1⟩, ?_⟩
   show aftersT (renTs ns gs).1 (afters (cutT v) ns.length) = _
   rw [afters_cut]; exact i2
  ·obtain ⟨i1, i2⟩ := renTs_goals gs h (renT ns g).2 hr hn'
   have hV := renT_V ht (ns := ns) (by omega)
   have ha := (renT_ok g ns).2
   refine ⟨.inr ⟨?_, hV, ?_⟩, ?_⟩
   ·show (topP (renT ns g).1).kind = 3
    rw [(renT_map g ns _ List.prefix_rfl).1, topP_map, mapP_kind]; exact h3
   ·rw [ha]; exact i1
   ·show aftersT (renTs (renT ns g).2 gs).1 (afters (renT ns g).1 ns.length) = _
    rw [ha]; exact i2
theorem renTs_terms : ∀ (ts : List (List Part)) (ns : List Int), (∀ t ∈ ts, TermQ t) -> (renTs ns ts).2.length <= 1000000 -> TermsV (renTs ns ts).1 ns.length /\ aftersT (renTs ns ts).1 ns.length = (renTs ns ts).2.length
 | [], _, _, _ => ⟨trivial, rfl⟩
 | t :: ts, ns, h, hn => by
  have hn' : (renTs (renT ns t).2 ts).2.length <= 1000000 := hn
  have hge := renTs_ge ts (renT ns t).2
  obtain ⟨i1, i2⟩ := renTs_terms ts (renT ns t).2 (fun u hu => h u (List.mem_cons_of_mem _ hu)) hn'
  have hV := renT_V (h t (by simp)) (ns := ns) (by omega)
  have ha := (renT_ok t ns).2
  refine ⟨⟨hV, ?_⟩, ?_⟩
  ·rw [ha]; exact i1
  ·show aftersT (renTs (renT ns t).2 ts).1 (afters (renT ns t).1 ns.length) = _
   rw [ha]; exact i2
theorem renTs_app : ∀ (a b : List (List Part)) (ns : List Int), renTs ns (a ++ b) = ((renTs ns a).1 ++ (renTs (renTs ns a).2 b).1, (renTs (renTs ns a).2 b).2)
 | [], _, _ => rfl
 | t :: a, b, ns => by
  show ((renT ns t).1 :: (renTs (renT ns t).2 (a ++ b)).1, (renTs (renT ns t).2 (a ++ b)).2) = _
  rw [renTs_app a b (renT ns t).2]
  rfl
theorem renS_two (S : St) : (renS S).goals = (renTs [] S.goals).1 /\ (renS S).terms = (renTs (renTs [] S.goals).2 S.terms).1 /\ (renS S).fresh = ((renTs (renTs [] S.goals).2 S.terms).2.length : Nat) := by
 have hl := (renTs_of S.goals []).1
 unfold renS
 rw [renTs_app]
 exact ⟨List.take_left' hl, List.drop_left' hl, rfl⟩
structure ChQ (cls : List Cl) (n h : Nat) (c : Ch) : Prop where
 g1 : 1 <= c.st.goals.length
 g2 : c.st.goals.length <= 1000
 goals : GoalsQ c.st.goals h
 tl : c.st.terms.length = n
 terms : ∀ t ∈ c.st.terms, TermQ t
 size : sizeT c.st.terms <= 200
 vars : ∀ v ∈ allV c.st, v < c.st.fresh
 left : 1 <= c.cls.length
 used : c.cls.length < (matchN c.st 0 cls).length
 last : c.cls = (matchN c.st 0 cls).drop ((matchN c.st 0 cls).length - c.cls.length)
theorem sizeT_ren (S : St) : sizeT (renS S).terms = sizeT S.terms := by
 rw [(renS_map S).1]
 exact sizeT_map _ _
theorem renT_count : ∀ (t : List Part) (ns : List Int), (renT ns t).2.length <= ns.length + t.length
 | [], _ => by simp [renT]
 | p :: t, ns => by
  have h := renT_count t (stepV ns p)
  have h2 : (stepV ns p).length <= ns.length + 1 := by
   unfold stepV numV
   split
   ·split
    ·omega
    ·simp
   ·omega
  show (renT (stepV ns p) t).2.length <= _
  rw [List.length_cons]; omega
theorem renTs_count2 : ∀ (ts : List (List Part)) (ns : List Int), (renTs ns ts).2.length <= ns.length + sizeT ts
 | [], _ => by simp [renTs, sizeT]
 | t :: ts, ns => by
  have h := renTs_count2 ts (renT ns t).2
  have h2 := renT_count t ns
  have e : sizeT (t :: ts) = t.length + sizeT ts := rfl
  show (renTs (renT ns t).2 ts).2.length <= _
  omega
theorem goalsQ_size : ∀ (gs : List (List Part)) (h : Nat), GoalsQ gs h -> sizeT gs <= 200 * gs.length
 | [], _, _ => by simp [sizeT]
 | g :: gs, h, hg => by
  have e2 : sizeT (g :: gs) = g.length + sizeT gs := rfl
  rw [e2, List.length_cons]
  rcases hg with ⟨v, _, rfl, hr⟩ | ⟨_, ht, hr⟩
  ·have := goalsQ_size gs _ hr
   have e : (cutT v).length = 1 := rfl
   omega
  ·have := goalsQ_size gs _ hr
   have := ht.len
   omega
theorem ren_ChV {cls : List Cl} {n h : Nat} {c : Ch} (hc : ChQ cls n h c) (hcl : ∀ c ∈ cls, ClNn c /\ (topP c.head).kind ≠ 1) : ChV cls n h (renC c) := by
 obtain ⟨l1, l2⟩ := renS_lens c.st
 obtain ⟨e1, e2, e3⟩ := renS_two c.st
 have hz := hc.size
 have hg2 := hc.g2
 have hgz := goalsQ_size _ _ hc.goals
 have hc1 := renTs_count2 c.st.goals []
 have hc2 := renTs_count2 c.st.terms (renTs [] c.st.goals).2
 have h0 : ([] : List Int).length = 0 := rfl
 obtain ⟨a1, a2⟩ := renTs_goals c.st.goals h [] hc.goals (by omega)
 obtain ⟨b1, b2⟩ := renTs_terms c.st.terms (renTs [] c.st.goals).2 hc.terms (by omega)
 rw [h0] at a1 a2
 have hm : matchN (renS c.st) 0 cls = matchN c.st 0 cls := matchN_ren hc.vars 0 cls hcl
 refine ⟨?_, ?_, ?_, ?_, ?_, ?_, ?_, hc.left, ?_, ?_⟩
 ·show 1 <= (renS c.st).goals.length; rw [l1]; exact hc.g1
 ·show (renS c.st).goals.length <= 1000; rw [l1]; exact hc.g2
 ·show GoalsV (renS c.st).goals h 0; rw [e1]; exact a1
 ·show (renS c.st).terms.length = n; rw [l2]; exact hc.tl
 ·show TermsV (renS c.st).terms (aftersT (renS c.st).goals 0); rw [e1, e2, a2]; exact b1
 ·show sizeT (renS c.st).terms <= 200; rw [sizeT_ren]; omega
 ·show (renS c.st).fresh = _
  rw [e3]
  show _ = ((aftersT (renS c.st).terms (aftersT (renS c.st).goals 0) : Nat) : Int)
  rw [e1, e2, a2, b2]
 ·show c.cls.length < (matchN (renS c.st) 0 cls).length; rw [hm]; exact hc.used
 ·show c.cls = (matchN (renS c.st) 0 cls).drop ((matchN (renS c.st) 0 cls).length - c.cls.length); rw [hm]; exact hc.last
theorem whole_nn : ∀ {t : List Part} {m : Int}, Whole t m -> 0 <= m
 | [], m, h => by have : m = 0 := h; omega
 | _ :: _, m, h => by have := h.1; omega
theorem whole_app : ∀ {a t : List Part} {k n : Int}, Whole a k -> Whole t n -> Whole (a ++ t) (k + n)
 | [], t, k, n, ha, ht => by
  have : k = 0 := ha
  rw [this, Int.zero_add]; exact ht
 | p :: a, t, k, n, ha, ht => by
  have := whole_nn ht
  have h1 := ha.1
  refine ⟨by omega, ?_⟩
  have e : k + n + p.args - 1 = (k + p.args - 1) + n := by omega
  rw [e]
  exact whole_app ha.2 ht
theorem whole_put {v : Int} {x : List Part} (hx : Whole x 1) : ∀ {t : List Part} {m : Int}, (∀ p ∈ t, p.kind = 1 -> p.args = 0) -> Whole t m -> Whole (putV v x t) m
 | [], _, _, h => h
 | p :: t, m, hp, h => by
  have ih := whole_put (v := v) hx (fun q hq => hp q (List.mem_cons_of_mem _ hq)) h.2
  rw [putV]
  split
  ·rename_i hv
   have hk : p.kind = 1 := by
    unfold isV at hv
    rw [Bool.and_eq_true] at hv
    simpa using hv.1
   have ha := hp p (by simp) hk
   have := whole_app hx ih
   have e : 1 + (m + p.args - 1) = m := by omega
   rw [e] at this
   exact this
  ·exact ⟨h.1, ih⟩
theorem whole_lead : ∀ {t : List Part} {j m : Int}, (∀ p ∈ t, 0 <= p.args) -> 0 < j -> j <= m -> Whole t m -> Whole (t.take (leadN j t)) j /\ Whole (t.drop (leadN j t)) (m - j)
 | [], j, m, _, h1, h2, h => by have : m = 0 := h; omega
 | p :: t, j, m, hp, h1, h2, h => by
  have ha := hp p (by simp)
  rw [leadN]
  split
  ·rename_i h0
   rw [List.take_succ_cons, List.take_zero, List.drop_succ_cons, List.drop_zero]
   refine ⟨⟨h1, ?_⟩, ?_⟩
   ·show j + p.args - 1 = 0
    omega
   ·have e : m - j = m + p.args - 1 := by omega
    rw [e]; exact h.2
  ·rename_i h0
   have e1 : j + (p.args - 1) = j + p.args - 1 := by omega
   rw [e1] at h0 ⊢
   obtain ⟨i1, i2⟩ := whole_lead (j := j + p.args - 1) (m := m + p.args - 1) (fun q hq => hp q (List.mem_cons_of_mem _ hq)) (by omega) (by omega) h.2
   rw [List.take_succ_cons, List.drop_succ_cons]
   refine ⟨⟨h1, i1⟩, ?_⟩
   have e : m - j = m + p.args - 1 - (j + p.args - 1) := by omega
   rw [e]; exact i2
theorem PartQ.args {p : Part} (h : PartQ p) : 0 <= p.args := by
 rcases h with h | h | h
 ·rw [h.2.2]; decide
 ·rw [h.2.2.1]; decide
 ·exact h.2.2.2.1
theorem PartQ.var {p : Part} (h : PartQ p) (hk : p.kind = 1) : p.args = 0 := by
 rcases h with h | h | h
 ·exact h.2.2
 ·exact h.2.2.1
 ·rw [h.1] at hk; simp at hk
def PsQ (t : List Part) : Prop := ∀ p ∈ t, PartQ p
theorem psQ_put {v : Int} {x t : List Part} (hx : PsQ x) (ht : PsQ t) : PsQ (putV v x t) := by
 intro p hp
 rcases putV_mem hp with ⟨h1, _⟩ | h1
 ·exact ht p h1
 ·exact hx p h1
theorem termQ_put {v : Int} {x t : List Part} (hx : PsQ x) (hw : Whole x 1) (ht : TermQ t) (hl : (putV v x t).length <= 200) : TermQ (putV v x t) :=
 ⟨psQ_put hx ht.parts, whole_put hw (fun p hp hk => (ht.parts p hp).var hk) ht.whole, hl⟩
theorem put_cut (v : Int) (x : List Part) (h : Int) : putV v x (cutT h) = cutT h := rfl
theorem put_top {v : Int} {x g : List Part} (h : (topP g).kind = 3) : (topP (putV v x g)).kind = 3 := by
 cases g with
 | nil => exact h
 | cons p g =>
  have hk : p.kind = 3 := h
  have : ¬ isV v p = true := by unfold isV; rw [hk]; simp
  rw [putV, if_neg this]
  exact hk
theorem goalsQ_put {v : Int} {x : List Part} (hx : PsQ x) (hw : Whole x 1) : ∀ {gs : List (List Part)} {h : Nat}, GoalsQ gs h -> (∀ t ∈ gs.map (putV v x), t.length <= 200) -> GoalsQ (gs.map (putV v x)) h
 | [], _, _, _ => trivial
 | g :: gs, h, hg, hl => by
  rw [List.map_cons] at hl ⊢
  rcases hg with ⟨w, hv, rfl, hr⟩ | ⟨h3, ht, hr⟩
  ·exact .inl ⟨w, hv, put_cut _ _ _, goalsQ_put hx hw hr (fun t ht => hl t (List.mem_cons_of_mem _ ht))⟩
  ·exact .inr ⟨put_top h3, termQ_put hx hw ht (hl _ (by simp)), goalsQ_put hx hw hr (fun t ht => hl t (List.mem_cons_of_mem _ ht))⟩
def CutsAt (h : Nat) (gs : List (List Part)) : Prop := ∀ g ∈ gs, g = cutT h \/ ((topP g).kind = 3 /\ TermQ g)
theorem cutsAt_put {v : Int} {x : List Part} (hx : PsQ x) (hw : Whole x 1) {gs : List (List Part)} {h : Nat} (hg : CutsAt h gs) (hl : ∀ t ∈ gs.map (putV v x), t.length <= 200) : CutsAt h (gs.map (putV v x)) := by
 intro g hg2
 have hl2 := hl g hg2
 obtain ⟨u, hu, rfl⟩ := List.mem_map.1 hg2
 rcases hg u hu with e | ⟨h3, ht⟩
 ·rw [e]; exact .inl (put_cut _ _ _)
 ·exact .inr ⟨put_top h3, termQ_put hx hw ht hl2⟩
structure EqQ (hb hh : Nat) (e : Eqn) : Prop where
 f : PsQ e.f
 s : PsQ e.s
 w : ∃ k : Int, Whole e.f k /\ Whole e.s k
 body : CutsAt hb e.body
 behind : GoalsQ e.behind hh
 terms : ∀ t ∈ e.terms, TermQ t
 size : sizeT e.terms <= 200
theorem putE_Q {hb hh : Nat} {e : Eqn} {v : Int} {x : List Part} (h : EqQ hb hh e) (hx : PsQ x) (hw : Whole x 1) (h0 : (putE e v x).1 = 0) : EqQ hb hh (putE e v x).2 := by
 obtain ⟨_, e2, e3⟩ := putE_ok h0
 rw [e2]
 have hz : (e.put v x).size = (putV v x e.f).length + (putV v x e.s).length + sizeT (e.body.map (putV v x)) + sizeT (e.behind.map (putV v x)) + sizeT (e.terms.map (putV v x)) := rfl
 obtain ⟨k, w1, w2⟩ := h.w
 refine ⟨psQ_put hx h.f, psQ_put hx h.s, ⟨k, whole_put hw (fun p hp hk => (h.f p hp).var hk) w1, whole_put hw (fun p hp hk => (h.s p hp).var hk) w2⟩, ?_, ?_, ?_, ?_⟩
 ·exact cutsAt_put hx hw h.body (fun t ht => by have := sizeT_memQ ht; omega)
 ·exact goalsQ_put hx hw h.behind (fun t ht => by have := sizeT_memQ ht; omega)
 ·intro t (ht : t ∈ e.terms.map (putV v x))
  have hl := sizeT_memQ ht
  obtain ⟨u, hu, rfl⟩ := List.mem_map.1 ht
  exact termQ_put hx hw (h.terms u hu) (by omega)
 ·show sizeT (e.terms.map (putV v x)) <= 200
  omega
theorem psQ_take {t : List Part} (h : PsQ t) (n : Nat) : PsQ (t.take n) := fun p hp => h p (List.mem_of_mem_take hp)
theorem psQ_drop {t : List Part} (h : PsQ t) (n : Nat) : PsQ (t.drop n) := fun p hp => h p (List.mem_of_mem_drop hp)
theorem stepE_Q {hb hh : Nat} {e : Eqn} (h : EqQ hb hh e) (h0 : (stepE e).1 = 0) : EqQ hb hh (stepE e).2 := by
 obtain ⟨ef, es, bo, be, te⟩ := e
 obtain ⟨hf, hs, ⟨k, w1, w2⟩, hbo, hbe, hte, hsz⟩ := h
 simp only at hf hs w1 w2 hbo hbe hte hsz
 cases ef with
 | nil => exact ⟨hf, hs, ⟨k, w1, w2⟩, hbo, hbe, hte, hsz⟩
 | cons p f =>
  cases es with
  | nil => exact ⟨hf, hs, ⟨k, w1, w2⟩, hbo, hbe, hte, hsz⟩
  | cons q s =>
   have hft : PsQ f := fun x hx => hf x (List.mem_cons_of_mem _ hx)
   have hst : PsQ s := fun x hx => hs x (List.mem_cons_of_mem _ hx)
   have k0 := w1.1
   unfold stepE at h0 ⊢
   simp only at h0 ⊢
   split at h0
   ·rename_i hsame
    rw [if_pos hsame]
    have e : p = q := samePart_iff.1 hsame
    subst e
    exact ⟨hft, hst, ⟨_, w1.2, w2.2⟩, hbo, hbe, hte, hsz⟩
   ·rename_i hsame
    rw [if_neg hsame]
    split at h0
    ·rename_i hk
     rw [if_pos hk]
     have hl := whole_lead (t := q :: s) (j := 1) (m := k) (fun x hx => (hs x hx).args) (by omega) (by omega) w2
     have ha := (hf p (by simp)).var hk
     have e : k + p.args - 1 = k - 1 := by omega
     have w3 := w1.2
     rw [e] at w3
     exact putE_Q ⟨hft, psQ_drop hs _, ⟨k - 1, w3, hl.2⟩, hbo, hbe, hte, hsz⟩ (psQ_take hs _) hl.1 h0
    ·rename_i hk
     rw [if_neg hk]
     split at h0
     ·rename_i hk2
      rw [if_pos hk2]
      have hl := whole_lead (t := p :: f) (j := 1) (m := k) (fun x hx => (hf x hx).args) (by omega) (by omega) w1
      have ha := (hs q (by simp)).var hk2
      have e : k + q.args - 1 = k - 1 := by omega
      have w3 := w2.2
      rw [e] at w3
      exact putE_Q ⟨psQ_drop hf _, hst, ⟨k - 1, hl.2, w3⟩, hbo, hbe, hte, hsz⟩ (psQ_take hf _) hl.1 h0
     ·simp at h0
theorem solveN_Q {hb hh : Nat} : ∀ (n : Nat) {e : Eqn}, EqQ hb hh e -> (solveN n e).1 = 0 -> EqQ hb hh (solveN n e).2
 | 0, _, h, _ => h
 | n + 1, e, h, h0 => by
  rw [solveN] at h0 ⊢
  split at h0
  ·rename_i hd
   rw [if_pos hd]; exact h
  ·rename_i hd
   rw [if_neg hd]
   split at h0
   ·rename_i h1
    rw [if_pos h1]
    exact solveN_Q n (stepE_Q h h1) h0
   ·rename_i h1
    exact absurd h0 h1
theorem solveE_Q {hb hh : Nat} {e : Eqn} (h : EqQ hb hh e) (h0 : (solveE e).1 = 0) : EqQ hb hh (solveE e).2 := solveN_Q _ h h0
theorem goalsQ_mono : ∀ {gs : List (List Part)} {h h' : Nat}, GoalsQ gs h -> h <= h' -> GoalsQ gs h'
 | [], _, _, _, _ => trivial
 | g :: gs, h, h', hg, hl => by
  rcases hg with ⟨v, hv, e, hr⟩ | ⟨h3, ht, hr⟩
  ·exact .inl ⟨v, by omega, e, hr⟩
  ·exact .inr ⟨h3, ht, goalsQ_mono hr hl⟩
theorem goalsQ_app : ∀ {a b : List (List Part)} {h h' : Nat}, CutsAt h a -> GoalsQ b h -> h <= h' -> GoalsQ (a ++ b) h'
 | [], b, h, h', _, hb, hl => goalsQ_mono hb hl
 | g :: a, b, h, h', ha, hb, hl => by
  have ha' : CutsAt h a := fun x hx => ha x (List.mem_cons_of_mem _ hx)
  rcases ha g (by simp) with e | ⟨h3, ht⟩
  ·exact .inl ⟨h, hl, e, goalsQ_app ha' hb (Nat.le_refl _)⟩
  ·exact .inr ⟨h3, ht, goalsQ_app ha' hb hl⟩
structure ClQ (c : Cl) : Prop where
 top : (topP c.head).kind = 3
 parts : PsQ c.head
 whole : Whole c.head 1
 body : ∀ g ∈ c.body, (∃ v, g = cutT v) \/ ((topP g).kind = 3 /\ TermQ g)
structure StQ (h : Nat) (S : St) : Prop where
 goals : GoalsQ S.goals h
 terms : ∀ t ∈ S.terms, TermQ t
 size : sizeT S.terms <= 200
def Last (cs : List Cl) (c : Ch) : Prop := c.cls ≠ [] -> c.cls.length < (matchN c.st 0 cs).length /\ c.cls = (matchN c.st 0 cs).drop ((matchN c.st 0 cs).length - c.cls.length)
def ChsI (cs : List Cl) : List Ch -> Prop
 | [] => True
 | c :: low => (StQ low.length c.st /\ Last cs c) /\ ChsI cs low
structure PlQ (cs : List Cl) (r : Int × Cf) : Prop where
 chs : ChsI cs r.2.chs
 now : r.1 = 0 -> StQ r.2.chs.length r.2.now
theorem ownP_Q {off h : Int} {p : Part} (hp : PartQ p) : PartQ (ownP off h p) := by
 unfold ownP
 rcases hp with hp | hp | hp
 ·rw [if_pos hp.1]; exact .inl ⟨hp.1, hp.2.1, hp.2.2⟩
 ·rw [if_neg (by rw [hp.1]; decide), if_neg (by rw [hp.1]; decide)]; exact .inr (.inl hp)
 ·rw [if_neg (by rw [hp.1]; decide), if_neg (by rw [hp.1]; decide)]; exact .inr (.inr hp)
theorem ownP_args (off h : Int) (p : Part) : (ownP off h p).args = p.args := by unfold ownP; split <;> (try split) <;> rfl
theorem ownP_kind (off h : Int) (p : Part) : (ownP off h p).kind = p.kind := by unfold ownP; split <;> (try split) <;> rfl
theorem ownT_Q {off h : Int} {t : List Part} (ht : PsQ t) : PsQ (ownT off h t) := by
 intro p hp
 obtain ⟨q, hq, rfl⟩ := List.mem_map.1 hp
 exact ownP_Q (ht q hq)
theorem ownT_whole {off h : Int} : ∀ {t : List Part} {m : Int}, Whole t m -> Whole (ownT off h t) m
 | [], _, hw => hw
 | p :: t, m, hw => by
  refine ⟨hw.1, ?_⟩
  rw [ownP_args]
  exact ownT_whole hw.2
theorem ownT_top (off h : Int) (t : List Part) (ht : (topP t).kind = 3) : (topP (ownT off h t)).kind = 3 := by
 cases t with
 | nil => exact ht
 | cons p t => show (ownP off h p).kind = 3; rw [ownP_kind]; exact ht
theorem ownT_T {off h : Int} {t : List Part} (ht : TermQ t) : TermQ (ownT off h t) := ⟨ownT_Q ht.parts, ownT_whole ht.whole, by unfold ownT; rw [List.length_map]; exact ht.len⟩
theorem body_cuts {c : Cl} (hc : ClQ c) (off : Int) (h : Nat) : CutsAt h (c.body.map (ownT off h)) := by
 intro g hg
 obtain ⟨u, hu, rfl⟩ := List.mem_map.1 hg
 rcases hc.body u hu with ⟨v, rfl⟩ | ⟨h3, ht⟩
 ·exact .inl rfl
 ·exact .inr ⟨ownT_top _ _ _ h3, ownT_T ht⟩
theorem goalsQ_tail {gs : List (List Part)} {h : Nat} (hg : GoalsQ gs h) : GoalsQ gs.tail h := by
 cases gs with
 | nil => exact hg
 | cons g gs =>
  rcases hg with ⟨v, hv, _, hr⟩ | ⟨_, _, hr⟩
  ·exact goalsQ_mono hr hv
  ·exact hr
theorem matchN_mem {S : St} : ∀ {i : Nat} {cs : List Cl} {k : Nat}, k ∈ matchN S i cs -> ∃ c ∈ cs, cs.getD (k - i) noCl = c /\ i <= k /\ hasPred S c = true
 | i, [], k, h => by simp [matchN] at h
 | i, c :: cs, k, h => by
  rw [matchN] at h
  rcases List.mem_append.1 h with h | h
  ·split at h
   ·rename_i hm
    simp at h
    subst h
    unfold matchB at hm
    rw [Bool.and_eq_true] at hm
    exact ⟨c, by simp, by rw [Nat.sub_self]; rfl, Nat.le_refl _, hm.1⟩
   ·cases h
  ·obtain ⟨d, h1, h2, h3, h4⟩ := matchN_mem h
   refine ⟨d, List.mem_cons_of_mem _ h1, ?_, by omega, h4⟩
   have e : k - i = (k - (i + 1)) + 1 := by omega
   rw [e]
   exact h2
theorem first_T {S : St} {h : Nat} (hS : StQ h S) {c : Cl} (hc : ClQ c) (hp : hasPred S c = true) : TermQ (S.goals.headD []) /\ (topP (S.goals.headD [])).kind = 3 := by
 have e : topP c.head = topP (goalP S) := samePart_iff.1 hp
 have h3 : (topP (goalP S)).kind = 3 := by rw [<- e]; exact hc.top
 unfold goalP at h3
 refine ⟨?_, h3⟩
 have hg := hS.goals
 cases hgs : S.goals with
 | nil => rw [hgs] at h3; exact absurd h3 (by show ¬ (0 : Int) = 3; decide)
 | cons g gs =>
  rw [hgs] at h3 hg
  rcases hg with ⟨v, _, rfl, _⟩ | ⟨_, ht, _⟩
  ·exact absurd h3 (by show ¬ (4 : Int) = 3; decide)
  ·exact ht
theorem with_Q {S : St} {h : Nat} (hS : StQ h S) {c : Cl} (hc : ClQ c) (hp : hasPred S c = true) (h0 : (withS S c h).1 = 0) {h' : Nat} (hh : h <= h') : StQ h' (withS S c h).2 := by
 obtain ⟨hT, _⟩ := first_T hS hc hp
 have hE : EqQ h h (withE S c h) := ⟨hT.parts, ownT_Q hc.parts, ⟨1, hT.whole, ownT_whole hc.whole⟩, body_cuts hc _ _, goalsQ_tail hS.goals, hS.terms, hS.size⟩
 unfold withS at h0 ⊢
 split at h0
 ·rename_i h1
  rw [if_pos h1]
  have hQ := solveE_Q hE h1
  exact ⟨goalsQ_app hQ.body hQ.behind hh, hQ.terms, hQ.size⟩
 ·rename_i h1
  exact absurd h0 h1
theorem putCh_I {cs : List Cl} {low : List Ch} {s : St} {rest : List Nat} (hl : ChsI cs low) (hs : StQ low.length s) (hr : Last cs ⟨s, rest⟩) : ChsI cs (putCh low s rest) /\ low.length <= (putCh low s rest).length := by
 unfold putCh
 split
 ·exact ⟨hl, Nat.le_refl _⟩
 ·exact ⟨⟨⟨hs, hr⟩, hl⟩, by simp⟩
theorem use_Q {cs : List Cl} {low : List Ch} {now s : St} {rest : List Nat} {c : Cl} (hl : ChsI cs low) (hs : StQ low.length s) (hr : Last cs ⟨s, rest⟩) (hc : ClQ c) (hp : hasPred s c = true) : PlQ cs (useP ⟨now, putCh low s rest⟩ s c low.length) := by
 obtain ⟨a1, a2⟩ := putCh_I hl hs hr
 refine ⟨by rw [useP_chs]; exact a1, fun h0 => ?_⟩
 rw [useP_chs]
 unfold useP at h0 ⊢
 simp only at h0 ⊢
 rw [if_pos h0]
 exact with_Q hs hc hp h0 a2
theorem last_step {cs : List Cl} {s : St} {k : Nat} {rest : List Nat} (h : k :: rest = (matchN s 0 cs).drop ((matchN s 0 cs).length - (rest.length + 1))) (hn : rest.length + 1 <= (matchN s 0 cs).length) : Last cs ⟨s, rest⟩ := by
 intro _
 show rest.length < (matchN s 0 cs).length /\ rest = (matchN s 0 cs).drop ((matchN s 0 cs).length - rest.length)
 refine ⟨by omega, ?_⟩
 have e : rest = ((matchN s 0 cs).drop ((matchN s 0 cs).length - (rest.length + 1))).tail := by rw [<- h]; rfl
 rw [List.tail_drop] at e
 have e2 : (matchN s 0 cs).length - (rest.length + 1) + 1 = (matchN s 0 cs).length - rest.length := by omega
 rw [e2] at e
 exact e
theorem drop_mem {k : Nat} {rest l : List Nat} {n : Nat} (h : k :: rest = l.drop n) : k ∈ l := List.mem_of_mem_drop (i := n) (by rw [<- h]; simp)
theorem again_Q {cs : List Cl} (hcs : ∀ c ∈ cs, ClQ c) {cf : Cf} (h : PlQ cs (-1, cf)) : PlQ cs (againP cs cf) := by
 have hc := h.chs
 simp only at hc
 unfold againP
 cases hl : cf.chs with
 | nil => exact ⟨hc, fun e => by simp at e⟩
 | cons c low =>
  rw [hl] at hc
  obtain ⟨⟨h1, h2⟩, h3⟩ := hc
  simp only
  unfold takeUp
  split
  ·exact ⟨h3, fun _ => h1⟩
  ·rename_i k rest he
   have h4 := h2 (by rw [he]; simp)
   rw [he] at h4
   obtain ⟨h5, h6⟩ := h4
   rw [List.length_cons] at h5 h6
   obtain ⟨d, d1, d2, _, d4⟩ := matchN_mem (drop_mem h6)
   rw [Nat.sub_zero] at d2
   rw [d2]
   exact use_Q h3 h1 (last_step h6 (by omega)) (hcs d d1) d4
theorem choose_Q {cs : List Cl} (hcs : ∀ c ∈ cs, ClQ c) {cf : Cf} (h : PlQ cs (0, cf)) : PlQ cs (chooseP cs cf (matchN cf.now 0 cs)) := by
 have h1 := h.now rfl
 cases hm : matchN cf.now 0 cs with
 | nil => exact ⟨h.chs, fun e => by simp [chooseP] at e⟩
 | cons k rest =>
  show PlQ cs (if rest ≠ [] /\ 20 <= cf.chs.length then (6, cf) else useP ⟨cf.now, putCh cf.chs cf.now rest⟩ cf.now (cs.getD k noCl) cf.chs.length)
  split
  ·exact ⟨h.chs, fun e => by simp at e⟩
  ·obtain ⟨d, d1, d2, _, d4⟩ := matchN_mem (S := cf.now) (i := 0) (cs := cs) (k := k) (by rw [hm]; simp)
   rw [Nat.sub_zero] at d2
   rw [d2]
   exact use_Q h.chs h1 (last_step (k := k) (by rw [hm, List.length_cons, Nat.sub_self, List.drop_zero]) (by rw [hm]; simp)) (hcs d d1) d4
theorem argN_Q : ∀ {i : Nat} {r : List Part} {m : Int}, PsQ r -> Whole r m -> (i : Int) < m -> PsQ (argN i r) /\ Whole (argN i r) 1 /\ (argN i r).length <= r.length
 | 0, r, m, hp, hw, hm => by
  have hl := whole_lead (t := r) (j := 1) (m := m) (fun x hx => (hp x hx).args) (by omega) (by omega) hw
  exact ⟨psQ_take hp _, hl.1, by show (r.take (leadT r)).length <= _; rw [List.length_take]; omega⟩
 | i + 1, r, m, hp, hw, hm => by
  have hl := whole_lead (t := r) (j := 1) (m := m) (fun x hx => (hp x hx).args) (by omega) (by omega) hw
  obtain ⟨h1, h2, h3⟩ := argN_Q (i := i) (psQ_drop hp (leadT r)) hl.2 (by omega)
  refine ⟨h1, h2, ?_⟩
  rw [List.length_drop] at h3
  show (argN i (r.drop (leadT r))).length <= _
  omega
theorem argT_Q {g : List Part} (hg : TermQ g) {i : Nat} (hi : (i : Int) < (topP g).args) : TermQ (argT g i) := by
 cases g with
 | nil => exact absurd hi (by show ¬ (i : Int) < 0; omega)
 | cons p r =>
  have hi' : (i : Int) < p.args := hi
  have hw := hg.whole.2
  have e : (1 : Int) + p.args - 1 = p.args := by omega
  rw [e] at hw
  have hl := hg.len
  rw [List.length_cons] at hl
  obtain ⟨h1, h2, h3⟩ := argN_Q (i := i) (fun x hx => hg.parts x (List.mem_cons_of_mem _ hx)) hw hi'
  have e2 : argT (p :: r) i = argN i r := by unfold argT; rw [if_neg (by simp)]; rfl
  rw [e2]
  exact ⟨h1, h2, by omega⟩
theorem chsI_drop {cs : List Cl} : ∀ (n : Nat) {l : List Ch}, ChsI cs l -> ChsI cs (l.drop n)
 | 0, _, h => h
 | _ + 1, [], h => h
 | n + 1, _ :: _, h => chsI_drop n h.2
theorem numT_Q {v : Int} (h1 : -999999999 <= v) (h2 : v <= 999999999) : TermQ (numT v) := by
 refine ⟨fun p hp => ?_, ?_, by show 1 <= 200; omega⟩
 ·unfold numT at hp
  simp at hp
  subst hp
  exact .inr (.inl ⟨rfl, rfl, rfl, h1, h2⟩)
 ·exact ⟨by decide, by show (1 : Int) + 0 - 1 = 0; decide⟩
theorem fail_nm : NmOk failB := ⟨102, [97, 105, 108], rfl, by decide, by decide, by decide⟩
theorem fail_Q : TermQ failT := by
 refine ⟨fun p hp => ?_, ?_, by show 1 <= 200; omega⟩
 ·unfold failT at hp
  simp at hp
  subst hp
  exact .inr (.inr ⟨rfl, rfl, fail_nm, by decide, by decide⟩)
 ·exact ⟨by decide, by show (1 : Int) + 0 - 1 = 0; decide⟩
theorem meet_Q {cs : List Cl} {cf : Cf} (h : PlQ cs (0, cf)) : PlQ cs (meetP cf) := ⟨h.chs, fun _ => ⟨goalsQ_tail (h.now rfl).goals, (h.now rfl).terms, (h.now rfl).size⟩⟩
theorem stay_Q {cs : List Cl} {cf : Cf} (h : PlQ cs (0, cf)) {k : Int} : PlQ cs (k, cf) := ⟨h.chs, fun _ => h.now rfl⟩
theorem equal_Q {cs : List Cl} {cf : Cf} (h : PlQ cs (0, cf)) {a b : List Part} (ha : TermQ a) (hb : TermQ b) : PlQ cs (equalP cf a b) := by
 have hn := h.now rfl
 have hE : EqQ 0 cf.chs.length (equalE cf a b) := ⟨ha.parts, hb.parts, ⟨1, ha.whole, hb.whole⟩, (fun g hg => by cases hg), goalsQ_tail hn.goals, hn.terms, hn.size⟩
 refine ⟨by rw [equal_chs]; exact h.chs, fun h0 => ?_⟩
 rw [equal_chs]
 unfold equalP at h0 ⊢
 simp only at h0 ⊢
 rw [if_pos h0]
 have hQ := solveE_Q hE h0
 exact ⟨hQ.behind, hQ.terms, hQ.size⟩
theorem not_Q {cs : List Cl} {cf : Cf} (h : PlQ cs (0, cf)) {t : List Part} (ht : TermQ t) : PlQ cs (notP cf t) := by
 have hn := h.now rfl
 unfold notP
 split
 ·rename_i hk
  split
  ·exact stay_Q h
  ·refine ⟨⟨⟨⟨goalsQ_tail hn.goals, hn.terms, hn.size⟩, fun e => absurd rfl e⟩, h.chs⟩, fun _ => ⟨?_, hn.terms, hn.size⟩⟩
   have h3 : (topP t).kind = 3 := by
    unfold notK at hk
    split at hk
    ·simp at hk
    ·rename_i h1
     split at hk
     ·simp at hk
     ·rename_i h2
      cases t with
      | nil => exact absurd ht.whole (by show ¬ (1 : Int) = 0; decide)
      | cons p r =>
       rcases ht.parts p (by simp) with k | k | k
       ·exact absurd k.1 h1
       ·exact absurd k.1 h2
       ·exact k.1
   exact .inr ⟨h3, ht, .inl ⟨cf.chs.length, by simp, rfl, .inr ⟨rfl, fail_Q, trivial⟩⟩⟩
 ·exact stay_Q h
theorem built_args {s : ByteArray} {n : Int} (h : builtInB s n = true) : (s = eqB -> n = 2) /\ (s = lessB -> n = 2) /\ (s = plusB -> n = 3) /\ (s = notB -> n = 1) := by
 unfold builtInB at h
 refine ⟨?_, ?_, ?_, ?_⟩ <;>
 ·intro e
  subst e
  simp [eqB, lessB, plusB, notB] at h
  omega
theorem cut_Q {cs : List Cl} {cf : Cf} (h : PlQ cs (0, cf)) {v : Nat} {gs : List (List Part)} (hv : v <= cf.chs.length) (hgs : cf.now.goals = cutT v :: gs) (hr : GoalsQ gs v) : PlQ cs (meetP ⟨cf.now, dropC cf.chs v⟩) := by
 have hn := h.now rfl
 have hl : (dropC cf.chs v).length = v := by unfold dropC; rw [List.length_drop]; omega
 refine ⟨chsI_drop _ h.chs, fun _ => ⟨?_, hn.terms, hn.size⟩⟩
 show GoalsQ cf.now.goals.tail (dropC cf.chs v).length
 rw [hgs, hl]
 exact hr
theorem built_Q {cs : List Cl} {cf : Cf} (h : PlQ cs (0, cf)) (hne : cf.now.goals ≠ []) (hb : isBuilt (goalP cf.now) = true) : PlQ cs (builtP cf (goalP cf.now)) := by
 have hn := h.now rfl
 have hg := hn.goals
 cases hgs : cf.now.goals with
 | nil => exact absurd hgs hne
 | cons g gs =>
  have eg : goalP cf.now = g := by unfold goalP; rw [hgs]; rfl
  rw [eg] at hb ⊢
  simp only at hg
  rw [hgs] at hg
  rcases hg with ⟨v, hv, rfl, hr⟩ | ⟨h3, ht, hr⟩
  ·unfold builtP
   rw [if_pos (show (topP (cutT v)).kind = 4 from rfl)]
   exact cut_Q h hv hgs hr
  ·have h4 : ¬ (topP g).kind = 4 := by rw [h3]; decide
   have hB : builtInB (topP g).name (topP g).args = true := by
    unfold isBuilt at hb
    rw [h3] at hb
    simpa using hb
   obtain ⟨b1, b2, b3, b4⟩ := built_args hB
   unfold builtP
   rw [if_neg h4]
   split
   ·exact meet_Q h
   ·split
    ·rename_i e
     have := b1 e
     exact equal_Q h (argT_Q ht (by omega)) (argT_Q ht (by omega))
    ·split
     ·unfold lessP
      split
      ·split
       ·exact meet_Q h
       ·exact stay_Q h
      ·exact stay_Q h
     ·split
      ·rename_i e
       have := b3 e
       unfold plusP
       split
       ·split
        ·exact stay_Q h
        ·rename_i hr2
         exact equal_Q h (numT_Q (by omega) (by omega)) (argT_Q ht (by omega))
       ·exact stay_Q h
      ·split
       ·rename_i e
        have := b4 e
        exact not_Q h (argT_Q ht (by omega))
       ·exact stay_Q h
theorem take_Q {cs : List Cl} (hcs : ∀ c ∈ cs, ClQ c) {cf : Cf} (h : PlQ cs (0, cf)) (hne : cf.now.goals ≠ []) : PlQ cs (takeP cs cf) := by
 unfold takeP
 split
 ·rename_i hb
  exact built_Q h hne hb
 ·split
  ·exact choose_Q hcs h
  ·exact stay_Q h
theorem whole_flat : ∀ {qs : List (List Part)}, (∀ q ∈ qs, Whole q 1) -> Whole qs.flatten qs.length
 | [], _ => rfl
 | q :: qs, h => by
  rw [List.flatten_cons, List.length_cons]
  have := whole_app (h q (by simp)) (whole_flat (fun x hx => h x (List.mem_cons_of_mem _ hx)))
  have e : (1 : Int) + (qs.length : Nat) = ((qs.length + 1 : Nat) : Int) := by omega
  rw [e] at this
  exact this
theorem wf_whole : ∀ {d : Nat} {t : List Part}, Wf d t -> Whole t 1
 | 0, _, h => h.elim
 | d + 1, t, h => by
  rcases h with ⟨p, rfl, ha⟩ | ⟨s, qs, h1, hq, rfl⟩
  ·exact ⟨by decide, by show (1 : Int) + p.args - 1 = 0; omega⟩
  ·refine ⟨by decide, ?_⟩
   have := whole_flat (fun q hq2 => wf_whole (hq q hq2))
   have e : (1 : Int) + (qs.length : Nat) - 1 = qs.length := by omega
   show Whole qs.flatten ((1 : Int) + (qs.length : Nat) - 1)
   rw [e]
   exact this
theorem join_big {wd : Part -> ByteArray} : ∀ {qs : List (List Part)}, (∀ q ∈ qs, 2 * q.length <= (txtG wd q).size + 1) -> 2 * qs.flatten.length <= (joinG wd qs).size
 | [], _ => by simp [joinG]
 | [q], h => by
  have := h q (by simp)
  have e : (⟨#[41]⟩ : ByteArray).size = 1 := rfl
  rw [joinG, ByteArray.size_append, e]
  simp
  omega
 | q :: q' :: qs, h => by
  have h1 := h q (by simp)
  have ih := join_big (qs := q' :: qs) (fun x hx => h x (List.mem_cons_of_mem _ hx))
  have e : (⟨#[44]⟩ : ByteArray).size = 1 := rfl
  rw [joinG, ByteArray.size_append, ByteArray.size_append, e, List.flatten_cons, List.length_append]
  omega
theorem txt_big {wd : Part -> ByteArray} : ∀ {d : Nat} {t : List Part}, Wf d t -> (∀ p ∈ t, 1 <= (wd p).size) -> 2 * t.length <= (txtG wd t).size + 1
 | 0, _, h, _ => h.elim
 | d + 1, t, h, hw => by
  rcases h with ⟨p, rfl, ha⟩ | ⟨s, qs, h1, hq, rfl⟩
  ·have := hw p (by simp)
   rw [txtG_one wd p ha]
   simp
   omega
  ·have hj := join_big (wd := wd) (qs := qs) (fun q hq2 => txt_big (hq q hq2) (fun p hp => hw p (List.mem_cons_of_mem _ (List.mem_flatten.2 ⟨q, hq2, hp⟩))))
   have h0 := hw ⟨3, s, 0, qs.length⟩ (by simp)
   have e : (⟨#[40]⟩ : ByteArray).size = 1 := rfl
   rw [txtG_comp wd d s qs h1 hq, ByteArray.size_append, ByteArray.size_append, e, List.length_cons]
   omega
theorem goalsT_big {wd : Part -> ByteArray} : ∀ {gs : List (List Part)} {g : List Part}, g ∈ gs -> (txtG wd g).size <= (goalsT wd gs).size
 | [], _, h => by cases h
 | [q], g, h => by
  simp at h
  subst h
  rw [goalsT]
  exact Nat.le_refl _
 | q :: q' :: qs, g, h => by
  rw [goalsT, ByteArray.size_append, ByteArray.size_append]
  rcases List.mem_cons.1 h with rfl | h
  ·omega
  ·have := goalsT_big (wd := wd) h
   omega
theorem body_big {wd : Part -> ByteArray} {gs : List (List Part)} {g : List Part} (h : g ∈ gs) : (txtG wd g).size <= (bodyT wd gs).size := by
 unfold bodyT
 rw [if_neg (by intro e; rw [e] at h; cases h), ByteArray.size_append]
 have := goalsT_big (wd := wd) h
 omega
theorem line_big {ν : List ByteArray} {c : Cl} : (lineN ν c).size = (txtG (wordN ν) c.head).size + ((bodyT (wordN ν) c.body).size + 1) := by
 unfold lineN
 rw [ByteArray.size_append, ByteArray.size_append]
 rfl
theorem PartR.q {n : Nat} {p : Part} (h : PartR n p) : PartQ p := by
 rcases h with h | h | h
 ·exact .inl ⟨h.1, h.2.1, h.2.2.1⟩
 ·exact .inr (.inl h)
 ·exact .inr (.inr h)
theorem itoa_pos {v : Int} (h0 : -999999999 <= v) (h1 : v <= 999999999) : 1 <= (itoaB v).size := by
 show 1 <= (Go.Lib.itoa v).toArray.size
 rw [List.size_toArray]
 unfold Go.Lib.itoa
 split
 ·simp
 ·exact (decDigits_len v.toNat (by omega)).1
theorem nm_pos {W : ByteArray} (h : NmOk W) : 1 <= W.size := by
 obtain ⟨c, W', e, _, _, _⟩ := h
 rw [<- bs_len, e]; simp
theorem word_pos {n : Nat} (hn : n <= 16) {p : Part} (h : PartR n p) : 1 <= (wordN letters p).size := by
 unfold wordN
 rcases h with h | h | h
 ·rw [if_pos h.1]
  have hl : p.value.toNat < 16 := by have := h.2.2.2; omega
  rw [letters_at hl]
  exact Nat.le_refl 1
 ·rw [if_neg (by rw [h.1]; decide), if_pos h.1]
  exact itoa_pos h.2.2.2.1 h.2.2.2.2
 ·rw [if_neg (by rw [h.1]; decide), if_neg (by rw [h.1]; decide), if_neg (by rw [h.1]; decide)]
  exact nm_pos h.2.2.1
theorem goalR_Q {n : Nat} {g : List Part} (h : GoalR n g) (hl : g.length <= 200) : g = cutT 0 \/ ((topP g).kind = 3 /\ TermQ g) := by
 rcases h with h | ⟨h1, h2, h3⟩
 ·exact .inl h
 ·refine .inr ⟨?_, ⟨fun p hp => (h2 p hp).q, wf_whole h1, hl⟩⟩
  cases g with
  | nil => simp at h3
  | cons p g =>
   show p.kind = 3
   simpa using h3
theorem clR_Q {c : Cl} (h : ClR c) (hn : c.vars <= 16) (hs : (lineL c).size <= 400) : ClQ c := by
 have e := line_big (ν := letters) (c := c)
 have hs' : (lineN letters c).size <= 400 := hs
 refine ⟨?_, fun p hp => (h.hp p hp).q, wf_whole h.hw, fun g hg => ?_⟩
 ·have hb := h.hb
  cases hh : c.head with
  | nil => rw [hh] at hb; simp [headB] at hb
  | cons p t =>
   rw [hh] at hb
   unfold headB at hb
   rw [Bool.and_eq_true] at hb
   show p.kind = 3
   simpa using hb.1
 ·have hb := body_big (wd := wordN letters) hg
  have hR := h.bg g hg
  have hl : g.length <= 200 := by
   rcases hR with h1 | ⟨h1, h2, _⟩
   ·rw [h1]; show 1 <= 200; omega
   ·have := txt_big (wd := wordN letters) h1 (fun p hp => word_pos hn (h2 p hp))
    omega
  rcases goalR_Q hR hl with h1 | h1
  ·exact .inl ⟨0, h1⟩
  ·exact .inr h1
theorem sizeT_appQ : ∀ (a b : List (List Part)), sizeT (a ++ b) = sizeT a + sizeT b
 | [], b => by simp [sizeT]
 | t :: a, b => by
  show t.length + sizeT (a ++ b) = t.length + sizeT a + sizeT b
  rw [sizeT_appQ a b]; omega
theorem begin_goals {n : Nat} : ∀ {gs : List (List Part)}, (∀ g ∈ gs, GoalR n g) -> sizeT gs <= 200 -> GoalsQ gs 0
 | [], _, _ => trivial
 | g :: gs, h, hs => by
  have e : sizeT (g :: gs) = g.length + sizeT gs := rfl
  have ih := begin_goals (gs := gs) (fun x hx => h x (List.mem_cons_of_mem _ hx)) (by omega)
  rcases goalR_Q (h g (by simp)) (by omega) with h1 | h1
  ·exact .inl ⟨0, Nat.le_refl _, h1, ih⟩
  ·exact .inr ⟨h1.1, h1.2, ih⟩
theorem varP_Q (i : Int) : TermQ (varP i) := by
 refine ⟨fun p hp => ?_, ?_, by show 1 <= 200; omega⟩
 ·unfold varP at hp
  simp at hp
  subst hp
  exact .inl ⟨rfl, rfl, rfl⟩
 ·exact ⟨by decide, by show (1 : Int) + 0 - 1 = 0; decide⟩
theorem begin_Q {cs : List Cl} {gs : List (List Part)} {ns : List ByteArray} (hq : QuR gs ns) (hs : ¬ 200 < sizeS (beginC gs ns).now) : PlQ cs (0, beginC gs ns) := by
 have hz : sizeT (gs ++ beginT ns) <= 200 := by
  have : sizeS (beginC gs ns).now = sizeT (gs ++ beginT ns) := rfl
  omega
 rw [sizeT_appQ] at hz
 refine ⟨trivial, fun _ => ⟨begin_goals (gs := gs) hq.g (by omega), fun t ht => ?_, by show sizeT (beginT ns) <= 200; omega⟩⟩
 have ht' : t ∈ beginT ns := ht
 unfold beginT at ht'
 obtain ⟨x, _, rfl⟩ := List.mem_map.1 ht'
 exact varP_Q _
theorem play_Q {cs : List Cl} (hcs : ∀ c ∈ cs, ClQ c) (n : Nat) {r : Int × Cf} (h : PlQ cs r) : ChsI cs (playN cs n r).2.chs := by
 obtain ⟨_, o, _, h2, _⟩ := playN_ind (P := fun _ => PlQ cs) (fun _ _ h => again_Q hcs h) (fun _ _ h hne => take_Q hcs h hne) n 0 r h
 exact h2.chs
theorem chsV_app {cls : List Cl} {n : Nat} : ∀ {a b : List Ch} {i : Nat}, ChsV cls n i (a ++ b) ↔ ChsV cls n i a /\ ChsV cls n (i + a.length) b
 | [], b, i => by simp [ChsV]
 | c :: a, b, i => by
  have ih := chsV_app (cls := cls) (n := n) (a := a) (b := b) (i := i + 1)
  have e : i + 1 + a.length = i + (c :: a).length := by rw [List.length_cons]; omega
  rw [e] at ih
  constructor
  ·rintro ⟨h1, h2⟩
   exact ⟨⟨h1, (ih.1 h2).1⟩, (ih.1 h2).2⟩
  ·rintro ⟨⟨h1, h2⟩, h3⟩
   exact ⟨h1, ih.2 ⟨h2, h3⟩⟩
theorem chsV_rev {cls : List Cl} {n : Nat} {c : Ch} {low : List Ch} : ChsV cls n 0 (c :: low).reverse ↔ ChV cls n low.length c /\ ChsV cls n 0 low.reverse := by
 rw [List.reverse_cons, chsV_app, List.length_reverse, Nat.zero_add]
 constructor
 ·rintro ⟨h1, h2, _⟩; exact ⟨h2, h1⟩
 ·rintro ⟨h1, h2⟩; exact ⟨h2, h1, trivial⟩
theorem PartV.q {p : Part} (h : PartV p) : PartQ p := by
 rcases h with h | h | h
 ·exact .inl ⟨h.1, h.2.1, h.2.2.1⟩
 ·exact .inr (.inl h)
 ·exact .inr (.inr h)
theorem TermV.q {t : List Part} {k : Nat} (h : TermV t k) : TermQ t := ⟨fun p hp => (h.parts p hp).q, h.whole, h.len⟩
theorem goalsV_q : ∀ {gs : List (List Part)} {h k : Nat}, GoalsV gs h k -> GoalsQ gs h
 | [], _, _, _ => trivial
 | g :: gs, h, k, hg => by
  rcases hg with ⟨v, hv, e, hr⟩ | ⟨h3, ht, hr⟩
  ·exact .inl ⟨v, hv, e, goalsV_q hr⟩
  ·exact .inr ⟨h3, ht.q, goalsV_q hr⟩
theorem termsV_q : ∀ {ts : List (List Part)} {k : Nat}, TermsV ts k -> ∀ t ∈ ts, TermQ t
 | [], _, _, _, h => by cases h
 | u :: ts, k, h, t, ht => by
  rcases List.mem_cons.1 ht with rfl | ht
  ·exact h.1.q
  ·exact termsV_q h.2 t ht
theorem ChV.i {cls : List Cl} {n h : Nat} {c : Ch} (hc : ChV cls n h c) : StQ h c.st /\ Last cls c := ⟨⟨goalsV_q hc.goals, termsV_q hc.terms, hc.size⟩, fun _ => ⟨hc.used, hc.last⟩⟩
theorem chsV_I {cls : List Cl} {n : Nat} : ∀ {l : List Ch}, ChsV cls n 0 l.reverse -> ChsI cls l
 | [], _ => trivial
 | c :: low, h => by
  obtain ⟨h1, h2⟩ := chsV_rev.1 h
  exact ⟨h1.i, chsV_I h2⟩
theorem renT_from : ∀ {t : List Part} {ns : List Int} {v : Int}, v ∈ (renT ns t).2 -> v ∈ ns \/ ∃ p ∈ t, p.kind = 1 /\ p.value = v
 | [], _, _, h => .inl h
 | p :: t, ns, v, h => by
  have h' : v ∈ (renT (stepV ns p) t).2 := h
  rcases renT_from h' with h1 | ⟨q, hq, h2⟩
  ·unfold stepV at h1
   split at h1
   ·rename_i hk
    unfold numV at h1
    split at h1
    ·exact .inl h1
    ·rcases List.mem_append.1 h1 with h1 | h1
     ·exact .inl h1
     ·simp at h1
      exact .inr ⟨p, by simp, hk, h1.symm⟩
   ·exact .inl h1
  ·exact .inr ⟨q, List.mem_cons_of_mem _ hq, h2⟩
theorem renTs_from : ∀ {ts : List (List Part)} {ns : List Int} {v : Int}, v ∈ (renTs ns ts).2 -> v ∈ ns \/ ∃ t ∈ ts, ∃ p ∈ t, p.kind = 1 /\ p.value = v
 | [], _, _, h => .inl h
 | t :: ts, ns, v, h => by
  have h' : v ∈ (renTs (renT ns t).2 ts).2 := h
  rcases renTs_from h' with h1 | ⟨u, hu, h2⟩
  ·rcases renT_from h1 with h1 | h1
   ·exact .inl h1
   ·exact .inr ⟨t, by simp, h1⟩
  ·exact .inr ⟨u, List.mem_cons_of_mem _ hu, h2⟩
theorem stG_vars {N : Nat} {F : Int} {S : St} (h : StG N F S) : ∀ v ∈ allV S, v < S.fresh := by
 intro v hv
 unfold allV at hv
 rcases renTs_from hv with h1 | ⟨t, ht, p, hp, hk, rfl⟩
 ·cases h1
 ·rcases List.mem_append.1 ht with ht | ht
  ·exact (((h.g t ht).2 p hp).2.1 hk).2
  ·exact (((h.t t ht).2 p hp).2.1 hk).2
structure ChA (n : Nat) (d : Ch) : Prop where
 ne : d.cls ≠ []
 gl : d.st.goals.length <= 1000
 g1 : 1 <= d.st.goals.length
 tl : d.st.terms.length = n
 vars : ∀ v ∈ allV d.st, v < d.st.fresh
theorem ren_chs {cls : List Cl} (hcl : ∀ c ∈ cls, ClNn c /\ (topP c.head).kind ≠ 1) {n : Nat} : ∀ {l : List Ch}, ChsI cls l -> (∀ d ∈ l, ChA n d) -> ChsV cls n 0 (l.map renC).reverse
 | [], _, _ => trivial
 | c :: low, h, hA => by
  have ha := hA c (by simp)
  obtain ⟨⟨h1, h2⟩, h3⟩ := h
  have ih := ren_chs hcl (l := low) h3 (fun d hd => hA d (List.mem_cons_of_mem _ hd))
  rw [List.map_cons]
  refine chsV_rev.2 ⟨?_, ih⟩
  rw [List.length_map]
  have hl := h2 ha.ne
  exact ren_ChV ⟨ha.g1, ha.gl, h1.goals, ha.tl, h1.terms, h1.size, ha.vars, by cases hx : c.cls with
   | nil => exact absurd hx ha.ne
   | cons a b => simp, hl.1, hl.2⟩ hcl
end Rf
