
import Derived.Test.YtbiojnljihgpoaaGreatDoorZad
namespace Rf
def NoCut (t : List Part) : Prop := ∀ p ∈ t, p.kind ≠ 4
def GoalK (g : List Part) : Prop := (∃ h, g = cutT h) \/ NoCut g
structure ClK (c : Cl) : Prop where
 hd : NoCut c.head
 bd : ∀ g ∈ c.body, GoalK g
def subs (σ : List (Int × List Part)) (t : List Part) : List Part := σ.foldl (fun t vx => putV vx.1 vx.2 t) t
def SubOf (P : Part -> Prop) (e e' : Eqn) : Prop := ∃ σ : List (Int × List Part), (∀ vx ∈ σ, ∀ p ∈ vx.2, P p) /\ e'.body = e.body.map (subs σ) /\ e'.behind = e.behind.map (subs σ) /\ e'.terms = e.terms.map (subs σ)
theorem subs_nil (t : List Part) : subs [] t = t := rfl
theorem map_subs_nil (ts : List (List Part)) : ts.map (subs []) = ts := by
 have : subs [] = id := funext subs_nil
 rw [this, List.map_id]
theorem subs_app (a b : List (Int × List Part)) (t : List Part) : subs (a ++ b) t = subs b (subs a t) := by unfold subs; rw [List.foldl_append]
theorem SubOf.refl (P : Part -> Prop) (e : Eqn) : SubOf P e e := ⟨[], by simp, (map_subs_nil _).symm, (map_subs_nil _).symm, (map_subs_nil _).symm⟩
theorem SubOf.trans {P : Part -> Prop} {a b c : Eqn} (h : SubOf P a b) (k : SubOf P b c) : SubOf P a c := by
 obtain ⟨σ, h0, h1, h2, h3⟩ := h
 obtain ⟨τ, k0, k1, k2, k3⟩ := k
 have hc : ∀ ts : List (List Part), (ts.map (subs σ)).map (subs τ) = ts.map (subs (σ ++ τ)) := fun ts => by
  rw [List.map_map]; exact List.map_congr_left (fun t _ => (subs_app σ τ t).symm)
 refine ⟨σ ++ τ, fun vx hvx => ?_, by rw [k1, h1, hc], by rw [k2, h2, hc], by rw [k3, h3, hc]⟩
 rcases List.mem_append.1 hvx with h | h
 ·exact h0 vx h
 ·exact k0 vx h
def FsAll (P : Part -> Prop) (e : Eqn) : Prop := (∀ p ∈ e.f, P p) /\ ∀ p ∈ e.s, P p
theorem put_fs {P : Part -> Prop} {e : Eqn} {v : Int} {x : List Part} (h : FsAll P e) (hx : ∀ p ∈ x, P p) : FsAll P (putE e v x).2 /\ SubOf P e (putE e v x).2 := by
 have one : ∀ t : List Part, (∀ p ∈ t, P p) -> ∀ p ∈ putV v x t, P p := fun t ht p hp => by
  rcases putV_mem hp with ⟨h1, _⟩ | h1
  ·exact ht p h1
  ·exact hx p h1
 unfold putE
 split
 ·exact ⟨h, SubOf.refl _ _⟩
 ·split
  ·exact ⟨h, SubOf.refl _ _⟩
  ·refine ⟨⟨one _ h.1, one _ h.2⟩, [(v, x)], ?_, rfl, rfl, rfl⟩
   intro vx hvx
   simp at hvx; subst hvx
   exact hx
theorem step_fs {P : Part -> Prop} {e : Eqn} (h : FsAll P e) : FsAll P (stepE e).2 /\ SubOf P e (stepE e).2 := by
 obtain ⟨F, S, bo, be, te⟩ := e
 obtain ⟨h1, h2⟩ := h
 unfold stepE
 split
 ·rename_i p f q s e1 e2
  simp only at e1 e2
  subst e1; subst e2
  split
  ·exact ⟨⟨fun x hx => h1 x (List.mem_cons_of_mem _ hx), fun x hx => h2 x (List.mem_cons_of_mem _ hx)⟩, SubOf.refl P ⟨f, s, bo, be, te⟩⟩
  ·split
   ·exact put_fs (e := ⟨f, (q :: s).drop (leadT (q :: s)), bo, be, te⟩) ⟨fun x hx => h1 x (List.mem_cons_of_mem _ hx), fun x hx => h2 x (List.mem_of_mem_drop hx)⟩ (fun x hx => h2 x (List.mem_of_mem_take hx))
   ·split
    ·exact put_fs (e := ⟨(p :: f).drop (leadT (p :: f)), s, bo, be, te⟩) ⟨fun x hx => h1 x (List.mem_of_mem_drop hx), fun x hx => h2 x (List.mem_cons_of_mem _ hx)⟩ (fun x hx => h1 x (List.mem_of_mem_take hx))
    ·exact ⟨⟨h1, h2⟩, SubOf.refl _ _⟩
 ·exact ⟨⟨h1, h2⟩, SubOf.refl _ _⟩
theorem solveN_sub {P : Part -> Prop} : ∀ (n : Nat) (e : Eqn), FsAll P e -> SubOf P e (solveN n e).2
 | 0, e, _ => SubOf.refl _ _
 | n + 1, e, h => by
  have h1 := step_fs h
  rw [solveN]
  split
  ·exact SubOf.refl _ _
  ·split
   ·exact h1.2.trans (solveN_sub n _ h1.1)
   ·exact h1.2
theorem solve_sub {P : Part -> Prop} {e : Eqn} (h : FsAll P e) : SubOf P e (solveE e).2 := solveN_sub _ e h
theorem putV_fix {v : Int} {x : List Part} : ∀ {t : List Part}, (∀ p ∈ t, p.kind ≠ 1) -> putV v x t = t
 | [], _ => rfl
 | p :: t, h => by
  rw [putV, if_neg, putV_fix (fun q hq => h q (List.mem_cons_of_mem _ hq))]
  ·rfl
  ·intro e; unfold isV at e; simp at e; exact h p (by simp) e.1
theorem subs_fix {t : List Part} (h : ∀ p ∈ t, p.kind ≠ 1) : ∀ (σ : List (Int × List Part)), subs σ t = t
 | [] => rfl
 | vx :: σ => by
  show subs σ (putV vx.1 vx.2 t) = t
  rw [putV_fix h]; exact subs_fix h σ
theorem subs_cut (σ : List (Int × List Part)) (h : Int) : subs σ (cutT h) = cutT h := subs_fix (fun p hp => by simp [cutT] at hp; subst hp; simp) σ
theorem subs_fail (σ : List (Int × List Part)) : subs σ failT = failT := subs_fix (fun p hp => by simp [failT] at hp; subst hp; decide) σ
theorem subs_nocut {t : List Part} {σ : List (Int × List Part)} (h : NoCut t) (hσ : ∀ vx ∈ σ, NoCut vx.2) : NoCut (subs σ t) := by
 induction σ generalizing t with
 | nil => exact h
 | cons vx σ ih =>
  refine ih (t := putV vx.1 vx.2 t) (fun p hp => ?_) (fun u hu => hσ u (List.mem_cons_of_mem _ hu))
  rcases putV_mem hp with ⟨h1, _⟩ | h1
  ·exact h p h1
  ·exact hσ vx (by simp) p h1
theorem subs_goalK {g : List Part} {σ : List (Int × List Part)} (h : GoalK g) (hσ : ∀ vx ∈ σ, NoCut vx.2) : GoalK (subs σ g) := by
 rcases h with ⟨v, rfl⟩ | h
 ·exact .inl ⟨v, subs_cut σ v⟩
 ·exact .inr (subs_nocut h hσ)
theorem cut_not (h : Int) : ¬ NoCut (cutT h) := fun e => e ⟨4, ⟨#[]⟩, h, 0⟩ (by simp [cutT]) rfl
theorem cut_inj {a b : Int} (h : cutT a = cutT b) : a = b := by simpa [cutT] using h
theorem subs_is_cut {g : List Part} {σ : List (Int × List Part)} {h : Int} (hg : GoalK g) (hσ : ∀ vx ∈ σ, NoCut vx.2) (e : subs σ g = cutT h) : g = cutT h := by
 rcases hg with ⟨v, rfl⟩ | hg
 ·rw [subs_cut] at e; exact e
 ·exact absurd (e ▸ subs_nocut hg hσ) (cut_not h)
theorem own_cut (off h v : Int) : ownT off h (cutT v) = cutT h := by simp [ownT, cutT, ownP]
theorem own_nocut {off h : Int} {t : List Part} (ht : NoCut t) : NoCut (ownT off h t) := by
 intro p hp
 unfold ownT at hp
 obtain ⟨q, hq, rfl⟩ := List.mem_map.1 hp
 have := ht q hq
 unfold ownP
 split
 ·exact this
 ·exact this
def Shape (j : Nat) (gs : List (List Part)) : Prop := ∃ A, gs = A ++ [cutT j, failT] /\ ∀ h : Int, cutT h ∈ A -> (j : Int) < h
def Fit : Option Nat -> List (List Part) -> Prop
 | none, _ => True
 | some j, gs => Shape j gs
def topNot : List Ch -> Option Nat
 | [] => none
 | c :: l => if c.cls = [] then some l.length else topNot l
def notSum : List Ch -> Nat
 | [] => 0
 | c :: l => (if c.cls = [] then c.st.goals.length else 0) + notSum l
def GoalsK (gs : List (List Part)) : Prop := ∀ g ∈ gs, GoalK g
def ShR : List Ch -> Prop
 | [] => True
 | c :: l => (Fit (topNot l) c.st.goals /\ GoalsK c.st.goals /\ (c.cls ≠ [] -> ∃ g gs, c.st.goals = g :: gs /\ NoCut g)) /\ ShR l
def Rk (a B : Nat) : List Ch -> Prop
 | [] => True
 | c :: l => (c.st.goals.length <= 1000 \/ c.st.goals.length + notSum l + a <= B) /\ Rk a B l
def RkR (t : Nat) : List Ch -> Prop
 | [] => True
 | c :: l => Rk (if c.cls = [] then 0 else 1) (c.st.goals.length + notSum l + t) l /\ RkR t l
theorem Rk.mono {a a' B B' : Nat} : ∀ {l : List Ch}, Rk a B l -> B + a' <= B' + a -> Rk a' B' l
 | [], _, _ => trivial
 | c :: l, h, hB => ⟨h.1.imp id (fun h => by omega), Rk.mono h.2 hB⟩
theorem RkR.mono {t t' : Nat} (ht : t <= t') : ∀ {l : List Ch}, RkR t l -> RkR t' l
 | [], _ => trivial
 | c :: l, h => ⟨h.1.mono (by omega), RkR.mono ht h.2⟩
theorem Rk.drop {a B : Nat} : ∀ {l : List Ch} (n : Nat), Rk a B l -> Rk a B (l.drop n)
 | [], _, _ => by simp [Rk]
 | _ :: _, 0, h => h
 | c :: l, n + 1, h => Rk.drop (l := l) n h.2
theorem RkR.drop {t : Nat} : ∀ {l : List Ch} (n : Nat), RkR t l -> RkR t (l.drop n)
 | [], _, _ => by simp [RkR]
 | _ :: _, 0, h => h
 | c :: l, n + 1, h => RkR.drop (l := l) n h.2
theorem ShR.drop : ∀ {l : List Ch} (n : Nat), ShR l -> ShR (l.drop n)
 | [], _, _ => by simp [ShR]
 | _ :: _, 0, h => h
 | c :: l, n + 1, h => ShR.drop (l := l) n h.2
theorem topNot_lt : ∀ {l : List Ch} {j : Nat}, topNot l = some j -> j < l.length
 | [], _, h => by simp [topNot] at h
 | c :: l, j, h => by
  rw [topNot] at h
  split at h
  ·injection h with h; subst h; simp
  ·have := topNot_lt h; simp only [List.length_cons]; omega
theorem topNot_none : ∀ {l : List Ch}, topNot l = none -> notSum l = 0 /\ (∀ c ∈ l, c.cls ≠ []) /\ ∀ n, topNot (l.drop n) = none /\ notSum (l.drop n) = 0
 | [], _ => ⟨rfl, by simp, fun n => by simp [topNot, notSum]⟩
 | c :: l, h => by
  rw [topNot] at h
  split at h
  ·cases h
  ·rename_i hc
   obtain ⟨h1, h2, h3⟩ := topNot_none h
   refine ⟨by rw [notSum, if_neg hc, h1], ?_, fun n => ?_⟩
   ·intro d hd
    rcases List.mem_cons.1 hd with rfl | hd
    ·exact hc
    ·exact h2 d hd
   ·cases n with
    | zero => exact ⟨by rw [List.drop_zero, topNot, if_neg hc]; exact h, by rw [List.drop_zero, notSum, if_neg hc, h1]⟩
    | succ n => exact h3 n
theorem topNot_drop : ∀ {l : List Ch} {j v : Nat}, topNot l = some j -> j < v -> topNot (l.drop (l.length - v)) = some j /\ notSum (l.drop (l.length - v)) = notSum l
 | [], _, _, h, _ => by simp [topNot] at h
 | c :: l, j, v, h, hv => by
  by_cases hk : (c :: l).length - v = 0
  ·rw [hk]; exact ⟨h, rfl⟩
  ·rw [topNot] at h
   split at h
   ·injection h with h; subst h
    simp only [List.length_cons] at hk; omega
   ·rename_i hc
    have ih := topNot_drop h hv
    obtain ⟨k, hk2⟩ : ∃ k, (c :: l).length - v = k + 1 := ⟨(c :: l).length - v - 1, by omega⟩
    have hk3 : l.length - v = k := by simp only [List.length_cons] at hk2; omega
    rw [hk2, List.drop_succ_cons]
    rw [hk3] at ih
    exact ⟨ih.1, by rw [notSum, if_neg hc, ih.2]; omega⟩
theorem Fit.sub {o : Option Nat} {g : List Part} {gs bs : List (List Part)} {σ : List (Int × List Part)} {h : Int} (hf : Fit o (g :: gs)) (hg : NoCut g) (hk : GoalsK gs) (hσ : ∀ vx ∈ σ, NoCut vx.2) (hb : ∀ b ∈ bs, NoCut b \/ b = cutT h) (hj : ∀ j, o = some j -> (j : Int) < h \/ bs = []) : Fit o (bs ++ gs.map (subs σ)) := by
 cases o with
 | none => trivial
 | some j =>
  obtain ⟨A, e, hA⟩ := hf
  cases A with
  | nil => simp at e; exact absurd (e.1 ▸ hg) (cut_not _)
  | cons a A =>
   simp at e
   obtain ⟨rfl, rfl⟩ := e
   refine ⟨bs ++ A.map (subs σ), ?_, fun v hv => ?_⟩
   ·simp [subs_cut, subs_fail]
   ·rcases List.mem_append.1 hv with hv | hv
    ·rcases hb _ hv with h1 | h1
     ·exact absurd h1 (cut_not v)
     ·rw [cut_inj h1]
      rcases hj j rfl with h2 | h2
      ·exact h2
      ·rw [h2] at hv; cases hv
    ·obtain ⟨q, hq, he⟩ := List.mem_map.1 hv
     have hq2 := subs_is_cut (hk q (by simp [hq])) hσ he
     subst hq2
     exact hA v (by simp [hq])
theorem with_shape {S : St} {c : Cl} {h : Int} {g : List Part} {gs : List (List Part)} {o : Option Nat} (hS : S.goals = g :: gs) (hg : NoCut g) (hk : GoalsK gs) (hc : ClK c) (h0 : (withS S c h).1 = 0) (hf : Fit o (g :: gs)) (hj : ∀ j, o = some j -> (j : Int) < h) :
  Fit o (withS S c h).2.goals /\ GoalsK (withS S c h).2.goals /\ gs.length <= (withS S c h).2.goals.length := by
 have hz : (solveE (withE S c h)).1 = 0 := by
  unfold withS at h0
  split at h0
  ·assumption
  ·exact h0
 have hw : (withS S c h).2 = ⟨(solveE (withE S c h)).2.body ++ (solveE (withE S c h)).2.behind, (solveE (withE S c h)).2.terms, S.fresh + pastC c⟩ := by
  unfold withS; rw [if_pos hz]
 rw [hw]
 have hfs : FsAll (fun p => p.kind ≠ 4) (withE S c h) := by
  unfold withE; rw [hS]
  exact ⟨hg, own_nocut hc.hd⟩
 obtain ⟨σ, hσ, e1, e2, _⟩ := solve_sub hfs
 have hb : ∀ b ∈ (withE S c h).body.map (subs σ), NoCut b \/ b = cutT h := fun b hb => by
  obtain ⟨q, hq, rfl⟩ := List.mem_map.1 hb
  unfold withE at hq
  obtain ⟨r, hr, rfl⟩ := List.mem_map.1 hq
  rcases hc.bd r hr with ⟨v, rfl⟩ | hn
  ·rw [own_cut, subs_cut]; exact .inr rfl
  ·exact .inl (subs_nocut (own_nocut hn) hσ)
 have hbe : (withE S c h).behind = gs := by unfold withE; rw [hS]; rfl
 rw [hbe] at e2
 simp only []
 rw [e1, e2]
 refine ⟨Fit.sub hf hg hk hσ hb (fun j e => .inl (hj j e)), fun q hq => ?_, by simp⟩
 rcases List.mem_append.1 hq with hq | hq
 ·rcases hb q hq with h1 | h1
  ·exact .inr h1
  ·exact .inl ⟨_, h1⟩
 ·obtain ⟨r, hr, rfl⟩ := List.mem_map.1 hq
  exact subs_goalK (hk r hr) hσ
theorem fit_tail {o : Option Nat} {g : List Part} {gs : List (List Part)} (hf : Fit o (g :: gs)) (hg : NoCut g) : Fit o gs := by
 cases o with
 | none => trivial
 | some j =>
  obtain ⟨A, e, hA⟩ := hf
  cases A with
  | nil => simp at e; exact absurd (e.1 ▸ hg) (cut_not _)
  | cons a A =>
   simp at e
   obtain ⟨rfl, rfl⟩ := e
   exact ⟨A, rfl, fun v hv => hA v (List.mem_cons_of_mem _ hv)⟩
structure Base (t : Nat) (chs : List Ch) : Prop where
 sh : ShR chs
 rk : RkR t chs
 old : t = 0 -> ∀ c ∈ chs, c.st.goals.length <= 1000
structure Live (t : Nat) (cf : Cf) : Prop where
 fit : Fit (topNot cf.chs) cf.now.goals
 rk : Rk 0 (cf.now.goals.length + notSum cf.chs + t) cf.chs
structure Inv (t : Nat) (r : Int × Cf) : Prop where
 base : Base t r.2.chs
 go : r.1 = 0 -> GoalsK r.2.now.goals /\ (r.2.now.goals = [failT] \/ Live t r.2)
theorem Base.tail {t : Nat} {c : Ch} {l : List Ch} (h : Base t (c :: l)) : Base t l := ⟨h.sh.2, h.rk.2, fun e d hd => h.old e d (List.mem_cons_of_mem _ hd)⟩
theorem Base.drop {t : Nat} {l : List Ch} (h : Base t l) (n : Nat) : Base t (l.drop n) := ⟨h.sh.drop n, h.rk.drop n, fun e d hd => h.old e d (List.mem_of_mem_drop hd)⟩
theorem Base.next {t : Nat} {l : List Ch} (h : Base t l) : Base (t + 1) l := ⟨h.sh, h.rk.mono (by omega), fun e => by omega⟩
theorem putCh_top (low : List Ch) (s : St) (rest : List Nat) : topNot (putCh low s rest) = topNot low /\ notSum (putCh low s rest) = notSum low := by
 unfold putCh
 split
 ·exact ⟨rfl, rfl⟩
 ·rename_i h
  exact ⟨by rw [topNot, if_neg h], by rw [notSum, if_neg h, Nat.zero_add]⟩
def ClsK (cs : List Cl) : Prop := ∀ c ∈ cs, ClK c
theorem ClsK.at {cs : List Cl} (h : ClsK cs) (k : Nat) : ClK (cs.getD k noCl) := by
 rw [List.getD_eq_getElem?_getD]
 cases hk : cs[k]? with
 | none => exact ⟨(by intro p hp; cases hp), (by intro p hp; cases hp)⟩
 | some c => exact h c (List.mem_of_getElem? hk)
theorem again_inv {cs : List Cl} {t : Nat} {cf : Cf} (hc : ClsK cs) (h : Base t cf.chs) : Inv t (againP cs cf) := by
 unfold againP
 cases hl : cf.chs with
 | nil => exact ⟨h, fun e => by simp at e⟩
 | cons c low =>
  rw [hl] at h
  simp only []
  obtain ⟨hf, hk, hg⟩ := h.sh.1
  have hr := h.rk.1
  unfold takeUp
  split
  ·rename_i he
   rw [if_pos he] at hr
   exact ⟨h.tail, fun _ => ⟨hk, .inr ⟨hf, hr⟩⟩⟩
  ·rename_i k rest he
   have hne : c.cls ≠ [] := by rw [he]; simp
   rw [if_neg hne] at hr
   obtain ⟨g, gs, hgs, hng⟩ := hg hne
   have hput : Base t (putCh low c.st rest) := by
    unfold putCh
    split
    ·exact h.tail
    ·rename_i hrest
     exact ⟨⟨⟨hf, hk, fun _ => ⟨g, gs, hgs, hng⟩⟩, h.sh.2⟩, ⟨by simp only [if_neg hrest]; exact hr, h.rk.2⟩, fun e d hd => by
      rcases List.mem_cons.1 hd with rfl | hd
      ·exact h.old e c (by simp)
      ·exact h.old e d (List.mem_cons_of_mem _ hd)⟩
   refine ⟨by rw [useP_chs]; exact hput, fun h0 => ?_⟩
   unfold useP at h0 ⊢
   simp only at h0 ⊢
   rw [if_pos h0]
   rw [hgs] at hf hk
   have hw := with_shape hgs hng (fun q hq => hk q (List.mem_cons_of_mem _ hq)) (hc.at k) h0 hf (fun j e => by have := topNot_lt e; omega)
   refine ⟨hw.2.1, .inr ⟨?_, ?_⟩⟩
   ·show Fit (topNot (putCh low c.st rest)) _
    rw [(putCh_top low c.st rest).1]; exact hw.1
   ·show Rk 0 (_ + notSum (putCh low c.st rest) + t) (putCh low c.st rest)
    rw [(putCh_top low c.st rest).2]
    have hlen : c.st.goals.length = gs.length + 1 := by rw [hgs]; rfl
    have hlow : Rk 0 ((withS c.st (cs.getD k noCl) low.length).2.goals.length + notSum low + t) low := hr.mono (by have := hw.2.2; omega)
    unfold putCh
    split
    ·exact hlow
    ·refine ⟨?_, hlow⟩
     simp only []
     by_cases ht : t = 0
     ·exact .inl (h.old ht c (by simp))
     ·exact .inr (by have := hw.2.2; omega)
theorem goal_split {cf : Cf} (h : cf.now.goals ≠ []) : ∃ gs, cf.now.goals = goalP cf.now :: gs := by
 unfold goalP
 cases hg : cf.now.goals with
 | nil => exact absurd hg h
 | cons a b => exact ⟨b, rfl⟩
theorem take_dead {cs : List Cl} {cf : Cf} (h : cf.now.goals = [failT]) : takeP cs cf = (-1, cf) := by
 unfold takeP
 have hg : goalP cf.now = failT := by unfold goalP; rw [h]; rfl
 rw [hg, if_pos (by decide)]
 unfold builtP
 rw [if_neg (by decide), if_neg (by decide), if_neg (by decide), if_neg (by decide), if_neg (by decide), if_neg (by decide)]
theorem equal_chs (cf : Cf) (a b : List Part) : (equalP cf a b).2.chs = cf.chs := by unfold equalP; simp only []; split <;> rfl
theorem take_inv {cs : List Cl} {t : Nat} {cf : Cf} (hc : ClsK cs) (h : Inv t (0, cf)) (hne : cf.now.goals ≠ []) : Inv (t + 1) (takeP cs cf) := by
 obtain ⟨hb, hgo⟩ := h
 obtain ⟨hk, hl⟩ := hgo rfl
 simp only at hb hk hl
 rcases hl with hd | hl
 ·rw [take_dead hd]
  exact ⟨hb.next, fun e => by simp at e⟩
 obtain ⟨gs, hgs⟩ := goal_split hne
 have hf := hl.fit
 have hr := hl.rk
 have hlen : cf.now.goals.length = gs.length + 1 := by rw [hgs]; rfl
 have hkg : GoalK (goalP cf.now) := hk _ (by rw [hgs]; simp)
 have hks : GoalsK gs := fun q hq => hk q (by rw [hgs]; exact List.mem_cons_of_mem _ hq)
 have htail : cf.now.goals.tail = gs := by rw [hgs]; rfl
 have stay : ∀ k : Int, k ≠ 0 -> Inv (t + 1) (k, cf) := fun k hk0 => ⟨hb.next, fun e => absurd e hk0⟩
 rcases hkg with ⟨v, hv⟩ | hng
 ·-- a cut
  have ht : takeP cs cf = meetP ⟨cf.now, dropC cf.chs v⟩ := by
   unfold takeP; rw [hv, if_pos (by rfl)]; unfold builtP; rw [if_pos (by rfl)]; rfl
  rw [ht]
  refine ⟨(hb.drop _).next, fun _ => ⟨by show GoalsK cf.now.goals.tail; rw [htail]; exact hks, ?_⟩⟩
  show cf.now.goals.tail = [failT] \/ _
  have hfc : ∀ o, topNot cf.chs = o -> gs = [failT] \/ (Fit (topNot (dropC cf.chs v)) gs /\ notSum (dropC cf.chs v) = notSum cf.chs) := by
   intro o ho
   rw [ho, hgs, hv] at hf
   cases o with
   | none =>
    obtain ⟨n1, _, n3⟩ := topNot_none ho
    refine .inr ?_
    unfold dropC
    rw [(n3 _).1, (n3 _).2, n1]
    exact ⟨trivial, rfl⟩
   | some j =>
    obtain ⟨A, e, hA⟩ := hf
    cases A with
    | nil => simp at e; exact .inl e.2
    | cons a A =>
     simp at e
     obtain ⟨rfl, rfl⟩ := e
     have hjv := hA v (by simp)
     have h3 := topNot_drop (v := v.toNat) ho (by omega)
     refine .inr ?_
     unfold dropC
     rw [h3.1, h3.2]
     exact ⟨⟨A, rfl, fun u hu => hA u (List.mem_cons_of_mem _ hu)⟩, rfl⟩
  rcases hfc _ rfl with h1 | ⟨h1, h2⟩
  ·exact .inl (htail.trans h1)
  ·refine .inr ⟨by show Fit _ cf.now.goals.tail; rw [htail]; exact h1, ?_⟩
   show Rk 0 (cf.now.goals.tail.length + notSum (dropC cf.chs v) + (t + 1)) (dropC cf.chs v)
   rw [htail, h2]
   exact (hr.drop _).mono (by omega)
 ·rw [hgs] at hf
  have meet : Inv (t + 1) (meetP cf) := ⟨hb.next, fun _ => ⟨by show GoalsK cf.now.goals.tail; rw [htail]; exact hks, .inr ⟨by show Fit _ cf.now.goals.tail; rw [htail]; exact fit_tail hf hng, by show Rk 0 (cf.now.goals.tail.length + notSum cf.chs + (t + 1)) cf.chs; rw [htail]; exact hr.mono (by omega)⟩⟩⟩
  have equal : ∀ a b : List Part, NoCut a -> NoCut b -> Inv (t + 1) (equalP cf a b) := by
   intro a b ha hb2
   refine ⟨by rw [equal_chs]; exact hb.next, fun h0 => ?_⟩
   obtain ⟨σ, hσ, _, e2, _⟩ := solve_sub (P := fun p => p.kind ≠ 4) (e := equalE cf a b) ⟨ha, hb2⟩
   have hbe : (equalE cf a b).behind = gs := htail
   rw [hbe] at e2
   unfold equalP at h0 ⊢
   simp only at h0 ⊢
   rw [if_pos h0]
   simp only []
   rw [e2]
   refine ⟨fun q hq => ?_, .inr ⟨?_, ?_⟩⟩
   ·obtain ⟨r, hr, rfl⟩ := List.mem_map.1 hq
    exact subs_goalK (hks r hr) hσ
   ·have := Fit.sub (bs := []) (h := 0) hf hng hks hσ (by intro b hb; cases hb) (fun _ _ => .inr rfl)
    simpa using this
   ·show Rk 0 ((gs.map (subs σ)).length + notSum cf.chs + (t + 1)) cf.chs
    rw [List.length_map]; exact hr.mono (by omega)
  have arg : ∀ i, NoCut (argT (goalP cf.now) i) := fun i p hp => hng p ((argT_sub _ i).2 p hp)
  unfold takeP
  split
  ·unfold builtP
   split
   ·rename_i h4
    exfalso
    cases hgp : goalP cf.now with
    | nil => rw [hgp] at h4; exact absurd h4 (by decide)
    | cons p q => rw [hgp] at h4; exact hng p (by rw [hgp]; simp) h4
   split
   ·exact meet
   split
   ·exact equal _ _ (arg 0) (arg 1)
   split
   ·unfold lessP
    split
    ·split
     ·exact meet
     ·exact stay _ (by decide)
    ·rename_i hn; exact stay _ hn
   split
   ·unfold plusP
    split
    ·split
     ·exact stay _ (by decide)
     ·exact equal _ _ (by intro p hp; simp [numT] at hp; subst hp; simp) (arg 2)
    ·rename_i hn; exact stay _ hn
   split
   ·unfold notP
    split
    ·split
     ·exact stay _ (by decide)
     ·refine ⟨⟨⟨⟨?_, ?_, fun e => absurd rfl e⟩, hb.sh⟩, ⟨?_, hb.rk.mono (by omega)⟩, fun e => by omega⟩, fun _ => ⟨?_, .inr ⟨?_, ?_⟩⟩⟩
      ·show Fit _ cf.now.goals.tail; rw [htail]; exact fit_tail hf hng
      ·show GoalsK cf.now.goals.tail; rw [htail]; exact hks
      ·show Rk 0 (cf.now.goals.tail.length + notSum cf.chs + (t + 1)) cf.chs
       rw [htail]; exact hr.mono (by omega)
      ·intro q hq
       simp only [List.mem_cons, List.not_mem_nil, or_false] at hq
       rcases hq with rfl | rfl | rfl
       ·exact .inr (arg 0)
       ·exact .inl ⟨_, rfl⟩
       ·exact .inr (by intro p hp; simp [failT] at hp; subst hp; decide)
      ·show Shape cf.chs.length _
       refine ⟨[argT (goalP cf.now) 0], rfl, fun v hv => ?_⟩
       simp at hv
       exact absurd (hv ▸ arg 0) (cut_not v)
      ·show Rk 0 (3 + ((cf.now.goals.tail.length) + notSum cf.chs) + (t + 1)) (_ :: cf.chs)
       rw [htail]
       refine ⟨.inr ?_, hr.mono (by omega)⟩
       simp only []; omega
    ·rename_i hn; exact stay _ hn
   ·exact stay _ (by decide)
  ·split
   ·unfold chooseP
    split
    ·exact stay _ (by decide)
    ·rename_i k rest he
     split
     ·exact stay _ (by decide)
     ·have hput : Base (t + 1) (putCh cf.chs cf.now rest) := by
       unfold putCh
       split
       ·exact hb.next
       ·rename_i hrest
        exact ⟨⟨⟨by show Fit _ cf.now.goals; rw [hgs]; exact hf, by show GoalsK cf.now.goals; exact hk, fun _ => ⟨_, gs, hgs, hng⟩⟩, hb.sh⟩, ⟨by simp only [if_neg hrest]; exact hr.mono (by omega), hb.rk.mono (by omega)⟩, fun e => by omega⟩
      refine ⟨by rw [useP_chs]; exact hput, fun h0 => ?_⟩
      unfold useP at h0 ⊢
      simp only at h0 ⊢
      rw [if_pos h0]
      have hw := with_shape hgs hng hks (hc.at k) h0 hf (fun j e => by have := topNot_lt e; omega)
      refine ⟨hw.2.1, .inr ⟨?_, ?_⟩⟩
      ·show Fit (topNot (putCh cf.chs cf.now rest)) _
       rw [(putCh_top _ _ _).1]; exact hw.1
      ·show Rk 0 (_ + notSum (putCh cf.chs cf.now rest) + (t + 1)) (putCh cf.chs cf.now rest)
       rw [(putCh_top _ _ _).2]
       have hlow : Rk 0 ((withS cf.now (cs.getD k noCl) cf.chs.length).2.goals.length + notSum cf.chs + (t + 1)) cf.chs := hr.mono (by have := hw.2.2; omega)
       unfold putCh
       split
       ·exact hlow
       ·refine ⟨.inr ?_, hlow⟩
        simp only []
        have := hw.2.2; omega
   ·exact stay _ (by decide)
theorem settle_inv {cs : List Cl} {t : Nat} {r : Int × Cf} (hc : ClsK cs) (h : Inv t r) : Inv t (settle cs r) := settle_ind (P := Inv t) (fun _ hcf => again_inv hc hcf.base) _ r h
theorem rk_len {B : Nat} : ∀ {l : List Ch}, (∀ c ∈ l, c.cls ≠ []) -> Rk 0 B l -> ∀ c ∈ l, c.st.goals.length <= 1000 \/ c.st.goals.length <= B
 | [], _, _, _, h => by cases h
 | d :: l, hn, h, c, hc => by
  rcases List.mem_cons.1 hc with rfl | hc
  ·exact h.1.imp id (fun h => by omega)
  ·exact rk_len (fun e he => hn e (List.mem_cons_of_mem _ he)) h.2 c hc
def OutK (k : Int) : Prop := k = 0 \/ k = -1 \/ (2 <= k /\ k <= 12)
theorem putE_kind (e : Eqn) (v : Int) (x : List Part) : OutK (putE e v x).1 := by
 unfold putE OutK; split
 ·simp
 ·split <;> simp
theorem stepE_kind (e : Eqn) : OutK (stepE e).1 := by
 unfold stepE
 split
 ·split
  ·exact .inl rfl
  ·split
   ·exact putE_kind _ _ _
   ·split
    ·exact putE_kind _ _ _
    ·exact .inr (.inl rfl)
 ·exact .inl rfl
theorem solveN_kind : ∀ (n : Nat) (e : Eqn), OutK (solveN n e).1
 | 0, _ => .inl rfl
 | n + 1, e => by
  rw [solveN]
  split
  ·exact .inl rfl
  ·split
   ·exact solveN_kind n _
   ·exact stepE_kind e
theorem solve_kind (e : Eqn) : OutK (solveE e).1 := solveN_kind _ e
theorem with_kind (S : St) (c : Cl) (h : Int) : OutK (withS S c h).1 := by
 unfold withS; split
 ·exact .inl rfl
 ·exact solve_kind _
theorem again_kind (cs : List Cl) (cf : Cf) : OutK (againP cs cf).1 := by
 unfold againP
 split
 ·exact .inr (.inr (by simp))
 ·unfold takeUp
  split
  ·exact .inl rfl
  ·exact with_kind _ _ _
theorem numberK_kind (p : Part) : OutK (numberK p) := by
 unfold numberK OutK; split
 ·simp
 ·split <;> simp
theorem numbersK_kind (g : List Part) : OutK (numbersK g) := by
 unfold numbersK; split <;> exact numberK_kind _
theorem take_kind (cs : List Cl) (cf : Cf) : OutK (takeP cs cf).1 := by
 have e1 : ∀ a b, OutK (equalP cf a b).1 := fun a b => solve_kind _
 unfold takeP
 split
 ·unfold builtP
  split
  ·exact .inl rfl
  split
  ·exact .inl rfl
  split
  ·exact e1 _ _
  split
  ·unfold lessP
   split
   ·split
    ·exact .inl rfl
    ·exact .inr (.inl rfl)
   ·exact numbersK_kind _
  split
  ·unfold plusP
   split
   ·split
    ·exact .inr (.inr (by simp))
    ·exact e1 _ _
   ·exact numbersK_kind _
  split
  ·unfold notP
   split
   ·split
    ·exact .inr (.inr (by simp))
    ·exact .inl rfl
   ·unfold notK OutK; simp only []; split
    ·simp
    ·split <;> simp
  ·exact .inr (.inl rfl)
 ·split
  ·unfold chooseP
   split
   ·exact .inr (.inl rfl)
   ·split
    ·exact .inr (.inr (by simp))
    ·exact with_kind _ _ _
  ·exact .inr (.inr (by simp))
theorem settle_kind {cs : List Cl} {r : Int × Cf} (h : OutK r.1) : OutK (settle cs r).1 := settle_ind (P := fun r => OutK r.1) (fun cf _ => again_kind cs cf) _ r h
theorem ShR.each : ∀ {l : List Ch}, ShR l -> ∀ c ∈ l, GoalsK c.st.goals /\ (c.cls ≠ [] -> ∃ g gs, c.st.goals = g :: gs /\ NoCut g)
 | [], _, _, h => by cases h
 | d :: l, h, c, hc => by
  rcases List.mem_cons.1 hc with rfl | hc
  ·exact h.1.2
  ·exact ShR.each h.2 c hc
theorem play_answer {cs : List Cl} (hc : ClsK cs) : ∀ (n t : Nat) (r : Int × Cf), Inv t r -> t + n <= 1000 -> OutK r.1 -> (playN cs n r).1 = 1 ->
  (playN cs n r).2.now.goals = [] /\ ∀ c ∈ (playN cs n r).2.chs, c.cls ≠ [] /\ c.st.goals.length <= 1000 /\ GoalsK c.st.goals /\ ∃ g gs, c.st.goals = g :: gs /\ NoCut g := by
 have fin : ∀ (n t : Nat) (r : Int × Cf), Inv t r -> t + n <= 1000 -> (settle cs r).1 = 0 -> (settle cs r).2.now.goals = [] -> ∀ c ∈ (settle cs r).2.chs, c.cls ≠ [] /\ c.st.goals.length <= 1000 /\ GoalsK c.st.goals /\ ∃ g gs, c.st.goals = g :: gs /\ NoCut g := by
  intro n t r h ht h0 hg c hcm
  have hi := settle_inv hc h
  have hlive : Live t (settle cs r).2 := by
   rcases (hi.go h0).2 with h1 | h1
   ·rw [hg] at h1; cases h1
   ·exact h1
  have hnone : topNot (settle cs r).2.chs = none := by
   cases ho : topNot (settle cs r).2.chs with
   | none => rfl
   | some j =>
    have hf := hlive.fit
    rw [ho, hg] at hf
    obtain ⟨A, e, _⟩ := hf
    simp at e
  obtain ⟨n1, n2, _⟩ := topNot_none hnone
  have hr := hlive.rk
  rw [hg, n1] at hr
  have hl := rk_len n2 hr c hcm
  simp only [List.length_nil, Nat.zero_add] at hl
  have hsh := hi.base.sh.each c hcm
  exact ⟨n2 c hcm, by omega, hsh.1, hsh.2 (n2 c hcm)⟩
 intro n
 induction n with
 | zero =>
  intro t r h ht hk h1
  have hsk := settle_kind (cs := cs) hk
  rw [playN_eq] at h1 ⊢
  split at h1
  ·unfold OutK at hsk; omega
  ·rename_i h0
   have h0 : (settle cs r).1 = 0 := Classical.not_not.1 h0
   rw [if_neg (by simp [h0])]
   split at h1
   ·rename_i hg
    rw [if_pos hg]
    exact ⟨hg, fin 0 t r h ht h0 hg⟩
   ·simp at h1
 | succ n ih =>
  intro t r h ht hk h1
  have hsk := settle_kind (cs := cs) hk
  rw [playN_eq] at h1 ⊢
  split at h1
  ·unfold OutK at hsk; omega
  ·rename_i h0
   have h0 : (settle cs r).1 = 0 := Classical.not_not.1 h0
   rw [if_neg (by simp [h0])]
   split at h1
   ·rename_i hg
    rw [if_pos hg]
    exact ⟨hg, fin (n + 1) t r h ht h0 hg⟩
   ·rename_i hg
    rw [if_neg hg]
    simp only at h1 ⊢
    have hi := settle_inv hc h
    have hi0 : Inv t (0, (settle cs r).2) := ⟨hi.base, fun _ => hi.go h0⟩
    exact ih (t + 1) _ (take_inv hc hi0 hg) (by omega) (take_kind cs _) h1
end Rf
