/- Plain functions: what holds of a session between the calls is kept by all calls (behind promises P5, P7, P8). -/
import Derived.Test.YtpdikdnffehmkaaGreatDoorYah
namespace Rf
theorem NumTo.bd {B : Nat} : ∀ {ps : List Part} {m m' : Nat}, NumTo m ps m' → (∀ p ∈ ps, p.kind = 1 → p.value < B) → m ≤ B → m' ≤ B
  | [], _, _, h, _, hm => by cases h; exact hm
  | p :: ps, m, m', h, hp, hm => by
    obtain ⟨m1, h1, h2⟩ := h
    refine h2.bd (fun q hq => hp q (List.mem_cons_of_mem _ hq)) ?_
    unfold stepN at h1
    split at h1
    · rename_i hk
      have := hp p (by simp) hk
      omega
    · omega
theorem ClR.good {c : Cl} (h : ClR c) (hg : GoodCl c) : c.vars ≤ 16 ∧ ClG c := by
  have hv : c.vars ≤ 16 := by
    refine h.num.bd (fun p hp hk => ?_) (by omega)
    rcases List.mem_append.1 hp with hp | hp
    · exact ((hg.1 p hp).1 hk).2
    · obtain ⟨q, hq, hpq⟩ := List.mem_flatten.1 hp
      exact (((hg.2.2 q hq).1 p hpq).1 hk).2
  refine ⟨hv, ⟨hg.2.1, fun p hp => (h.hp p hp).good 16 (by omega)⟩, h.bl, fun t ht => ⟨(hg.2.2 t ht).2, (h.bg t ht).part (by omega)⟩⟩
theorem readS_ok {s : ByteArray} {out : List Cl} (h : readS s = .ok out) : ∀ c ∈ out, ClR c ∧ c.vars ≤ 16 ∧ ClG c := fun c hc => by
  have h1 := readS_read h c hc
  exact ⟨h1, h1.good ((readS_good h).2 c hc)⟩
theorem ClR.k {c : Cl} (h : ClR c) : ClK c := ⟨fun p hp => (h.hp p hp).kind, fun g hg => (h.bg g hg).k⟩
theorem SeOk.g {S : Se} (h : SeOk S) : ClsG S.cls := fun c hc => (h.cls c hc).2.2
theorem SeOk.k {S : Se} (h : SeOk S) : ClsK S.cls := fun c hc => (h.cls c hc).1.k
theorem numV_ge (ns : List Int) (v : Int) : ns.length ≤ (numV ns v).length := by unfold numV; split <;> simp
theorem stepV_ge (ns : List Int) (p : Part) : ns.length ≤ (stepV ns p).length := by
  unfold stepV; split
  · exact numV_ge _ _
  · exact Nat.le_refl _
theorem renT_ge : ∀ (t : List Part) (ns : List Int), ns.length ≤ (renT ns t).2.length
  | [], _ => Nat.le_refl _
  | p :: t, ns => by rw [renT]; exact Nat.le_trans (stepV_ge ns p) (renT_ge t _)
theorem renTs_ge : ∀ (ts : List (List Part)) (ns : List Int), ns.length ≤ (renTs ns ts).2.length
  | [], _ => Nat.le_refl _
  | t :: ts, ns => by rw [renTs]; exact Nat.le_trans (renT_ge t ns) (renTs_ge ts _)
theorem idx_lt (ns : List Int) (v : Int) : (numV ns v).idxOf v < (numV ns v).length := by
  refine List.idxOf_lt_length_of_mem ?_
  unfold numV; split
  · assumption
  · simp
/-- A part with its variable numbered anew. -/
def RenOf (n : Nat) (q p : Part) : Prop := p.kind = q.kind ∧ p.name = q.name ∧ p.args = q.args ∧ (q.kind ≠ 1 → p.value = q.value) ∧ (q.kind = 1 → 0 ≤ p.value ∧ p.value < n)
theorem RenOf.mono {n n' : Nat} {q p : Part} (h : RenOf n q p) (hn : n ≤ n') : RenOf n' q p := ⟨h.1, h.2.1, h.2.2.1, h.2.2.2.1, fun k => by have := h.2.2.2.2 k; omega⟩
theorem renP_of (ns : List Int) (p : Part) : RenOf (stepV ns p).length p (renP ns p) := by
  unfold renP stepV
  split
  · rename_i hk
    have := idx_lt ns p.value
    exact ⟨rfl, rfl, rfl, fun h => absurd hk h, fun _ => by simp only []; omega⟩
  · rename_i hk
    exact ⟨rfl, rfl, rfl, fun _ => rfl, fun h => absurd h hk⟩
theorem renT_of : ∀ (t : List Part) (ns : List Int), (renT ns t).1.length = t.length ∧ ∀ p ∈ (renT ns t).1, ∃ q ∈ t, RenOf (renT ns t).2.length q p
  | [], ns => ⟨rfl, by simp [renT]⟩
  | x :: t, ns => by
    obtain ⟨h1, h2⟩ := renT_of t (stepV ns x)
    rw [renT]
    refine ⟨by simp [h1], fun p hp => ?_⟩
    rcases List.mem_cons.1 hp with rfl | hp
    · exact ⟨x, by simp, (renP_of ns x).mono (renT_ge t _)⟩
    · obtain ⟨q, hq, hr⟩ := h2 p hp
      exact ⟨q, List.mem_cons_of_mem _ hq, hr⟩
theorem renTs_of : ∀ (ts : List (List Part)) (ns : List Int), (renTs ns ts).1.length = ts.length ∧ ∀ (i : Nat) (u : List Part), (renTs ns ts).1[i]? = some u → ∃ t, ts[i]? = some t ∧ u.length = t.length ∧ (∀ p ∈ u, ∃ q ∈ t, RenOf (renTs ns ts).2.length q p) ∧ (t.head?.map (·.kind)) = u.head?.map (·.kind)
  | [], ns => ⟨rfl, by simp [renTs]⟩
  | t :: ts, ns => by
    obtain ⟨h1, h2⟩ := renTs_of ts (renT ns t).2
    obtain ⟨g1, g2⟩ := renT_of t ns
    rw [renTs]
    refine ⟨by simp [h1], fun i u hu => ?_⟩
    cases i with
    | zero =>
      simp at hu; subst hu
      refine ⟨t, rfl, g1, fun p hp => ?_, ?_⟩
      · obtain ⟨q, hq, hr⟩ := g2 p hp
        exact ⟨q, hq, hr.mono (renTs_ge ts _)⟩
      · cases t with
        | nil => rfl
        | cons x t =>
          rw [renT]
          simp only [List.head?_cons, Option.map_some]
          have := (renP_of ns x).1
          rw [this]
    | succ i =>
      simp at hu
      obtain ⟨t', e1, e2, e3, e4⟩ := h2 i u hu
      exact ⟨t', by simpa using e1, e2, e3, e4⟩
theorem renTs_count : ∀ (ts : List (List Part)) (ns : List Int), (∀ t ∈ ts, t.length ≤ 400) → (renTs ns ts).2.length ≤ ns.length + ts.length * 400 := by
  have one : ∀ (t : List Part) (ns : List Int), (renT ns t).2.length ≤ ns.length + t.length := by
    intro t
    induction t with
    | nil => intro ns; simp [renT]
    | cons p t ih =>
      intro ns
      rw [renT]
      have h1 := ih (stepV ns p)
      have h2 : (stepV ns p).length ≤ ns.length + 1 := by
        unfold stepV; split
        · unfold numV; split <;> simp
        · simp
      simp only [List.length_cons]
      omega
  intro ts
  induction ts with
  | nil => intro ns _; simp [renTs]
  | cons t ts ih =>
    intro ns h
    have h1 := ih (renT ns t).2 (fun u hu => h u (List.mem_cons_of_mem _ hu))
    have h2 := one t ns
    have h3 := h t (by simp)
    rw [renTs]
    simp only [List.length_cons]
    omega
theorem RenOf.good {n : Nat} {f : Int} {q p : Part} (h : RenOf n q p) (hq : PartG f q) : PartG n p := by
  refine ⟨by rw [h.2.2.1]; exact hq.1, fun k => h.2.2.2.2 (by rw [← h.1]; exact k), fun k => ?_, by rw [h.2.1]; exact hq.2.2.2⟩
  have hk : q.kind = 2 := by rw [← h.1]; exact k
  rw [h.2.2.2.1 (by omega)]
  exact hq.2.2.1 hk
theorem renS_lens (S : St) : (renS S).goals.length = S.goals.length ∧ (renS S).terms.length = S.terms.length := by
  have h1 := (renTs_of (S.goals ++ S.terms) []).1
  rw [List.length_append] at h1
  unfold renS
  simp only [List.length_take, List.length_drop]
  omega
theorem renS_each (S : St) : (∀ (i : Nat) (u : List Part), (renS S).goals[i]? = some u → ∃ t, S.goals[i]? = some t ∧ u.length = t.length ∧ (∀ p ∈ u, ∃ q ∈ t, RenOf (renTs [] (S.goals ++ S.terms)).2.length q p) ∧ (t.head?.map (·.kind)) = u.head?.map (·.kind)) ∧ (∀ (i : Nat) (u : List Part), (renS S).terms[i]? = some u → ∃ t, S.terms[i]? = some t ∧ u.length = t.length ∧ (∀ p ∈ u, ∃ q ∈ t, RenOf (renTs [] (S.goals ++ S.terms)).2.length q p)) := by
  have h2 := (renTs_of (S.goals ++ S.terms) []).2
  constructor
  · intro i u hu
    have hi : i < S.goals.length := by
      have := (List.getElem?_eq_some_iff.1 hu).1
      have := (renS_lens S).1
      omega
    unfold renS at hu
    simp only [List.getElem?_take, if_pos hi] at hu
    obtain ⟨t, e1, e2, e3, e4⟩ := h2 i u hu
    rw [List.getElem?_append_left hi] at e1
    exact ⟨t, e1, e2, e3, e4⟩
  · intro i u hu
    unfold renS at hu
    simp only [List.getElem?_drop] at hu
    obtain ⟨t, e1, e2, e3, _⟩ := h2 _ u hu
    rw [List.getElem?_append_right (by omega), show S.goals.length + i - S.goals.length = i by omega] at e1
    exact ⟨t, e1, e2, e3⟩
theorem renS_good {N : Nat} {F : Int} {S : St} (h : StG N F S) (hN : N ≤ 1000) : StG N 406400 (renS S) := by
  obtain ⟨l1, l2⟩ := renS_lens S
  obtain ⟨e1, e2⟩ := renS_each S
  have hc := renTs_count (S.goals ++ S.terms) [] (fun t ht => by
    rcases List.mem_append.1 ht with ht | ht
    · exact (h.g t ht).1
    · exact (h.t t ht).1)
  rw [List.length_append] at hc
  have := h.gl
  have := h.tl
  refine ⟨by omega, by omega, by unfold renS; simp, ?_, fun u hu => ?_, fun u hu => ?_⟩
  · unfold renS; simp only [List.length_nil] at hc ⊢
    have : (S.goals.length + S.terms.length) * 400 ≤ 1016 * 400 := Nat.mul_le_mul_right _ (by omega)
    omega
  · obtain ⟨i, hi⟩ := List.getElem?_of_mem hu
    obtain ⟨t, a1, a2, a3, _⟩ := e1 i u hi
    have ht := h.g t (List.mem_of_getElem? a1)
    exact ⟨by rw [a2]; exact ht.1, fun p hp => by obtain ⟨q, hq, hr⟩ := a3 p hp; exact hr.good (ht.2 q hq)⟩
  · obtain ⟨i, hi⟩ := List.getElem?_of_mem hu
    obtain ⟨t, a1, a2, a3⟩ := e2 i u hi
    have ht := h.t t (List.mem_of_getElem? a1)
    exact ⟨by rw [a2]; exact ht.1, fun p hp => by obtain ⟨q, hq, hr⟩ := a3 p hp; exact hr.good (ht.2 q hq)⟩
theorem renS_goals (S : St) (h : GoalsK S.goals) : GoalsK (renS S).goals := by
  intro u hu
  obtain ⟨i, hi⟩ := List.getElem?_of_mem hu
  obtain ⟨t, a1, a2, a3, _⟩ := (renS_each S).1 i u hi
  rcases h t (List.mem_of_getElem? a1) with ⟨v, rfl⟩ | hn
  · refine .inl ⟨v, ?_⟩
    cases u with
    | nil => simp [cutT] at a2
    | cons x u =>
      cases u with
      | cons y u => simp [cutT] at a2
      | nil =>
        obtain ⟨q, hq, hr⟩ := a3 x (by simp)
        simp [cutT] at hq; subst hq
        obtain ⟨r1, r2, r3, r4, _⟩ := hr
        replace r4 := r4 (by simp)
        obtain ⟨xk, xn, xv, xa⟩ := x
        simp only at r1 r2 r3 r4
        subst r1; subst r2; subst r3; subst r4
        rfl
  · refine .inr (fun p hp => ?_)
    obtain ⟨q, hq, hr⟩ := a3 p hp
    rw [hr.1]; exact hn q hq
theorem renS_first (S : St) (h : ∃ g gs, S.goals = g :: gs ∧ NoCut g) : ∃ g gs, (renS S).goals = g :: gs ∧ NoCut g := by
  obtain ⟨g, gs, hg, hn⟩ := h
  have hl := (renS_lens S).1
  cases hr : (renS S).goals with
  | nil => rw [hr, hg] at hl; simp at hl
  | cons u us =>
    refine ⟨u, us, rfl, fun p hp => ?_⟩
    obtain ⟨t, a1, a2, a3, _⟩ := (renS_each S).1 0 u (by rw [hr]; rfl)
    rw [hg] at a1
    simp at a1; subst a1
    obtain ⟨q, hq, hr⟩ := a3 p hp
    rw [hr.1]; exact hn q hq
theorem playN_ind {cs : List Cl} {P : Nat → Int × Cf → Prop} (hag : ∀ t cf, P t (-1, cf) → P t (againP cs cf)) (htk : ∀ t cf, P t (0, cf) → cf.now.goals ≠ [] → P (t + 1) (takeP cs cf)) : ∀ (n t : Nat) (r : Int × Cf), P t r →
    ∃ t' o, t' ≤ t + n ∧ P t' (o, (playN cs n r).2) ∧ ((o ≠ 0 ∧ (playN cs n r).1 = o) ∨ (o = 0 ∧ ((playN cs n r).1 = 1 ∨ (playN cs n r).1 = 5))) := by
  have hset : ∀ t r, P t r → P t (settle cs r) := fun t r h => settle_ind (P := P t) (hag t) _ r h
  intro n
  induction n with
  | zero =>
    intro t r h
    have h1 := hset t r h
    rw [playN_eq]
    split
    · rename_i h0
      exact ⟨t, _, by omega, h1, .inl ⟨h0, rfl⟩⟩
    · rename_i h0
      have h0 : (settle cs r).1 = 0 := Classical.not_not.1 h0
      have h2 : P t (0, (settle cs r).2) := by rw [← h0]; exact h1
      split
      · exact ⟨t, 0, by omega, h2, .inr ⟨rfl, .inl rfl⟩⟩
      · exact ⟨t, 0, by omega, h2, .inr ⟨rfl, .inr rfl⟩⟩
  | succ n ih =>
    intro t r h
    have h1 := hset t r h
    rw [playN_eq]
    split
    · rename_i h0
      exact ⟨t, _, by omega, h1, .inl ⟨h0, rfl⟩⟩
    · rename_i h0
      have h0 : (settle cs r).1 = 0 := Classical.not_not.1 h0
      have h2 : P t (0, (settle cs r).2) := by rw [← h0]; exact h1
      split
      · exact ⟨t, 0, by omega, h2, .inr ⟨rfl, .inl rfl⟩⟩
      · rename_i hg
        obtain ⟨t', o, a1, a2, a3⟩ := ih (t + 1) _ (htk t _ h2 hg)
        exact ⟨t', o, by omega, a2, a3⟩
/-- The terms are as many as the names. -/
def TmN (n : Nat) (r : Int × Cf) : Prop := (r.1 = 0 → r.2.now.terms.length = n) ∧ ∀ c ∈ r.2.chs, c.st.terms.length = n
theorem with_terms {S : St} {c : Cl} {h : Int} (h0 : (withS S c h).1 = 0) : (withS S c h).2.terms.length = S.terms.length := by
  have hz : (solveE (withE S c h)).1 = 0 := by
    unfold withS at h0
    split at h0
    · assumption
    · exact h0
  unfold withS; rw [if_pos hz]
  exact (solveE_num (withE S c h)).2.2
theorem use_tmn {n : Nat} {cf : Cf} {s : St} {c : Cl} {h : Int} (hs : s.terms.length = n) (hc : ∀ d ∈ cf.chs, d.st.terms.length = n) : TmN n (useP cf s c h) := by
  refine ⟨fun h0 => ?_, by rw [useP_chs]; exact hc⟩
  unfold useP at h0 ⊢
  simp only at h0 ⊢
  rw [if_pos h0]
  exact (with_terms h0).trans hs
theorem putCh_all {P : Ch → Prop} {low : List Ch} {s : St} {rest : List Nat} (hl : ∀ c ∈ low, P c) (hs : P ⟨s, rest⟩) : ∀ c ∈ putCh low s rest, P c := by
  intro c hc
  unfold putCh at hc
  split at hc
  · exact hl c hc
  · rcases List.mem_cons.1 hc with rfl | hc
    · exact hs
    · exact hl c hc
theorem again_tmn {cs : List Cl} {n : Nat} {cf : Cf} (h : TmN n (-1, cf)) : TmN n (againP cs cf) := by
  have hc := h.2
  simp only at hc
  unfold againP
  cases hl : cf.chs with
  | nil => exact ⟨fun e => by simp at e, hc⟩
  | cons c low =>
    rw [hl] at hc
    simp only []
    have hlow : ∀ d ∈ low, d.st.terms.length = n := fun d hd => hc d (List.mem_cons_of_mem _ hd)
    unfold takeUp
    split
    · exact ⟨fun _ => hc c (by simp), hlow⟩
    · exact use_tmn (hc c (by simp)) (putCh_all (P := fun d => d.st.terms.length = n) hlow (hc c (by simp)))
theorem take_tmn {cs : List Cl} {n : Nat} {cf : Cf} (h : TmN n (0, cf)) : TmN n (takeP cs cf) := by
  obtain ⟨hn, hc⟩ := h
  have hn := hn rfl
  simp only at hn hc
  have stay : ∀ k : Int, TmN n (k, cf) := fun k => ⟨fun _ => hn, hc⟩
  have meet : TmN n (meetP cf) := ⟨fun _ => hn, hc⟩
  have equal : ∀ a b, TmN n (equalP cf a b) := fun a b => by
    refine ⟨fun h0 => ?_, by rw [equal_chs]; exact hc⟩
    unfold equalP at h0 ⊢
    simp only at h0 ⊢
    rw [if_pos h0]
    exact (solveE_num (equalE cf a b)).2.2.trans hn
  unfold takeP
  split
  · unfold builtP
    split
    · exact ⟨fun _ => hn, fun c hcm => hc c (List.mem_of_mem_drop hcm)⟩
    split
    · exact meet
    split
    · exact equal _ _
    split
    · unfold lessP
      split
      · split
        · exact meet
        · exact stay _
      · exact stay _
    split
    · unfold plusP
      split
      · split
        · exact stay _
        · exact equal _ _
      · exact stay _
    split
    · unfold notP
      split
      · split
        · exact stay _
        · refine ⟨fun _ => hn, fun c hcm => ?_⟩
          rcases List.mem_cons.1 hcm with rfl | hcm
          · exact hn
          · exact hc c hcm
      · exact stay _
    · exact stay _
  · split
    · unfold chooseP
      split
      · exact stay _
      · split
        · exact stay _
        · exact use_tmn hn (putCh_all (P := fun d => d.st.terms.length = n) hc hn)
    · exact stay _
/-- All that is kept while a question is played. -/
structure Kep (cs : List Cl) (n t : Nat) (r : Int × Cf) : Prop where
  cf : CfG cs 1000 406400 t r.2
  inv : Inv t r
  tm : TmN n r
  out : OutK r.1
theorem kep_again {cs : List Cl} (hg : ClsG cs) (hk : ClsK cs) {n t : Nat} {cf : Cf} (h : Kep cs n t (-1, cf)) : Kep cs n t (againP cs cf) := ⟨again_good hg h.cf, again_inv hk h.inv.base, again_tmn h.tm, again_kind cs cf⟩
theorem kep_take {cs : List Cl} (hg : ClsG cs) (hk : ClsK cs) {n t : Nat} {cf : Cf} (h : Kep cs n t (0, cf)) (hne : cf.now.goals ≠ []) : Kep cs n (t + 1) (takeP cs cf) := ⟨take_good hg h.cf hne, take_inv hk h.inv hne, take_tmn h.tm, take_kind cs cf⟩
theorem kep_settle {cs : List Cl} (hg : ClsG cs) (hk : ClsK cs) {n t : Nat} {r : Int × Cf} (h : Kep cs n t r) : Kep cs n t (settle cs r) := settle_ind (P := Kep cs n t) (fun _ h => kep_again hg hk h) _ r h
/-- What an answer leaves can be asked for more. -/
theorem reply_ok {S : Se} (hS : SeOk S) {names : List ByteArray} (hn : names.length ≤ 16) (hz : ∀ x ∈ names, x.size ≤ 12) {r : Int × Cf} (h : Kep S.cls names.length 0 r) : SeOk (replyS S names (playN S.cls S.lim r)).2 := by
  unfold replyS
  split
  · rename_i h1
    have hl := hS.l2
    obtain ⟨t', o, a1, a2, a3⟩ := playN_ind (P := Kep S.cls names.length) (fun _ _ h => kep_again hS.g hS.k h) (fun _ _ h hne => kep_take hS.g hS.k h hne) S.lim 0 r h
    have han := play_answer hS.k S.lim 0 r h.inv (by omega) h.out h1
    refine ⟨hS.l1, hS.l2, hS.cl, hS.cls, fun q hq => ?_⟩
    simp only [Option.some.injEq] at hq
    subst hq
    refine ⟨hn, hz, by simp only [List.length_map]; exact a2.cf.len, fun c hc => ?_⟩
    simp only at hc
    obtain ⟨d, hd, rfl⟩ := List.mem_map.1 hc
    obtain ⟨n1, n2, n3, n4⟩ := han.2 d hd
    obtain ⟨g1, g2, _⟩ := a2.cf.chs d hd
    refine ⟨?_, ?_, g2, n1, renS_goals _ n3, renS_first _ n4⟩
    · exact renS_good (N := 1000) (F := 406400 + 16 * t') ⟨n2, g1.tl, g1.f0, g1.f1, g1.g, g1.t⟩ (Nat.le_refl _)
    · show (renS d.st).terms.length = _
      rw [(renS_lens d.st).2]; exact a2.tm.2 d hd
  · exact ⟨hS.l1, hS.l2, hS.cl, hS.cls, fun q hq => by cases hq⟩
theorem begin_kep {S : Se} {gs : List (List Part)} {ns : List ByteArray} (hq : QuR gs ns) (hg : ∀ q ∈ gs, (∀ x ∈ q, Good x) ∧ q.length ≤ 400) : ns.length ≤ 16 ∧ Kep S.cls (beginN ns).length 0 (0, beginC gs ns) := by
  have h16 : ns.length ≤ 16 := by
    refine hq.num.bd (fun p hp hk => ?_) (by omega)
    obtain ⟨q, hq2, hpq⟩ := List.mem_flatten.1 hp
    exact (((hg q hq2).1 p hpq).1 hk).2
  have hnl := namedFrom_len 0 ns
  have hlen := hq.len
  refine ⟨h16, ⟨⟨?_, (fun c hc => by cases hc), (by simp [beginC])⟩, ⟨⟨trivial, trivial, (fun _ c hc => by cases hc)⟩, fun _ => ⟨fun q hq2 => (hq.g q hq2).k, .inr ⟨trivial, trivial⟩⟩⟩, ⟨(fun _ => by simp [beginC, beginT, beginN]), (fun c hc => by cases hc)⟩, .inl rfl⟩⟩
  refine ⟨by simp only [beginC]; omega, by simp only [beginC, beginT, List.length_map]; omega, by simp [beginC], by simp only [beginC]; omega, fun t ht => ⟨(hg t ht).2, (hq.g t ht).part (by simp [beginC])⟩, fun t ht => ?_⟩
  simp only [beginC, beginT] at ht
  obtain ⟨x, hx, rfl⟩ := List.mem_map.1 ht
  obtain ⟨b1, b2, _, _⟩ := namedFrom_mem 0 ns x hx
  refine ⟨by simp [varP], fun p hp => ?_⟩
  simp [varP] at hp; subst hp
  exact ⟨by simp, fun _ => by simp only [beginC]; omega, by simp, by simp [ByteArray.size]⟩
theorem next_kep {S : Se} (hS : SeOk S) {q : Qs} (h : QsOk S.cls.length q) : Kep S.cls q.names.length 0 (-1, ⟨stNone, q.chs⟩) := by
  have hk : ∀ c ∈ q.chs, _ := h.c
  have sh : ∀ l : List Ch, (∀ c ∈ l, c ∈ q.chs) → topNot l = none ∧ notSum l = 0 ∧ ShR l ∧ RkR 0 l ∧ (∀ a B, Rk a B l) := by
    intro l
    induction l with
    | nil => intro _; exact ⟨rfl, rfl, trivial, trivial, fun _ _ => trivial⟩
    | cons c l ih =>
      intro hl
      obtain ⟨i1, i2, i3, i4, i5⟩ := ih (fun d hd => hl d (List.mem_cons_of_mem _ hd))
      obtain ⟨g1, _, _, g4, g5, g6⟩ := h.c c (hl c (by simp))
      refine ⟨by rw [topNot, if_neg g4]; exact i1, by rw [notSum, if_neg g4, i2], ⟨⟨by rw [i1]; trivial, g5, fun _ => g6⟩, i3⟩, ⟨i5 _ _, i4⟩, fun a B => ⟨.inl g1.gl, i5 a B⟩⟩
  obtain ⟨_, _, s3, s4, _⟩ := sh q.chs (fun c hc => hc)
  have := hS.l1
  refine ⟨⟨StG.none _ (by omega), fun c hc => ?_, h.cl⟩, ⟨⟨s3, s4, fun _ c hc => (h.c c hc).1.gl⟩, fun e => by simp at e⟩, ⟨fun e => by simp at e, fun c hc => (h.c c hc).2.1⟩, .inr (.inl rfl)⟩
  obtain ⟨g1, _, g3, _, _, g, gs, hgs, _⟩ := h.c c hc
  exact ⟨g1.mono (by omega) (by omega), g3, fun _ => by rw [hgs]; simp⟩
theorem more_ok {S : Se} (hS : SeOk S) : SeOk (moreS S).2 := by
  unfold moreS
  split
  · exact hS
  · rename_i q hq
    have h := hS.q q hq
    exact reply_ok hS h.nl h.nz (next_kep hS h)
theorem stop_ok {S : Se} (hS : SeOk S) : SeOk (stopS S) := ⟨hS.l1, hS.l2, hS.cl, hS.cls, fun q hq => by cases hq⟩
theorem questS_good {s : ByteArray} {gs : List (List Part)} {ns : List ByteArray} (h : questS s = .ok (gs, ns)) : ∀ q ∈ gs, (∀ x ∈ q, Good x) ∧ q.length ≤ 400 := by
  unfold questS at h
  split at h
  · cases h
  · unfold questP at h
    cases hr : goalsP (tokens s).length 8 [] (tokens s) [] with
    | error e => rw [hr] at h; cases h
    | ok x =>
      obtain ⟨g1, l1, n1⟩ := x
      have hlen : (tokens s).length ≤ 401 := by have := toks_len s s.size 0; unfold tokens; omega
      have k1 := (goalsP_good _ _ _ _ _ _ _ _ (toks_ended s _ _) (by simp) (fun q hq => by cases hq) hlen hr).1
      rw [hr] at h
      simp only at h
      split at h
      · cases h
      · split at h
        · split at h
          · cases h
          · split at h
            · simp only [Except.ok.injEq, Prod.mk.injEq] at h; obtain ⟨rfl, rfl⟩ := h; exact k1
            · cases h
        · cases h
end Rf
/- Plain functions: a question that is written is read as itself; a greater limit of steps (promise P8); a clause that is listed is read as itself (promise P6). -/
namespace Rf
theorem goalsP_of {f k : Nat} {acc : List (List Part)} {l : List Tok} {ns : List ByteArray} {a1 : List (List Part)} {l2 : List Tok} {ns2 : List ByteArray} (h : goalsS f k acc l ns = .ok (a1, l2, ns2)) : goalsP f k acc l ns = .ok (a1, l2, ns2) := by
  rw [goalsS_P] at h
  cases hr : goalsP f k acc l ns with
  | error e => rw [hr] at h; simp [noBad] at h
  | ok x =>
    obtain ⟨g, l1, n1⟩ := x
    rw [hr] at h
    cases l1 with
    | nil => exact h
    | cons u l3 =>
      simp only [noBad] at h
      split at h
      · cases h
      · exact h
/-- A question that is written with names for its variables is read as itself. -/
theorem read_quest {ν : List ByteArray} (hν : Names ν) {gs : List (List Part)} (h1 : 1 ≤ gs.length) (h8 : gs.length ≤ 8) (hg : ∀ g ∈ gs, GoalOk ν g) (hn : NumTo 0 gs.flatten ν.length) {s : ByteArray} (hs : s = goalsT (wordN ν) gs ++ ⟨#[46]⟩) (h4 : s.size ≤ 400) : questS s = .ok (gs, ν) := by
  unfold questS
  rw [if_neg (by omega)]
  have h0 : tokens s = rest s 0 := rfl
  rw [h0]
  have hh : Has s 0 (bs (goalsT (wordN ν) gs) ++ [46]) [] := by
    unfold Has
    rw [hs]
    show bs (goalsT (wordN ν) gs ++ ⟨#[46]⟩) = _
    rw [bs_app]; simp [bs]
  obtain ⟨k1, k2⟩ := hh.app
  rw [bs_len, Nat.zero_add] at k2
  have hp := parse_goals hν (f := (rest s 0).length) s 46 (by decide) (by decide) (by decide) gs [] 8 0 0 ν.length [] h1 (by simpa using h8) h8 hg (Nat.zero_le _) (Nat.le_refl _) k1 hn
  rw [List.take_zero, List.nil_append, List.take_length, Nat.zero_add] at hp
  obtain ⟨x, hx⟩ := rest_mark k2 (by decide)
  have hsz : s.size = (goalsT (wordN ν) gs).size + 1 := by rw [hs, ByteArray.size_append]; rfl
  have he : rest s ((goalsT (wordN ν) gs).size + 1) = [endTok s] := by rw [← hsz]; exact rest_end
  rw [he] at hx
  unfold questP
  rw [goalsP_of hp, hx]
  simp only []
  rw [if_pos (by decide), if_pos (show (endTok s).k = 0 from rfl)]
/-- A greater limit of steps. -/
theorem play_longer {cs : List Cl} : ∀ (n m : Nat) (r : Int × Cf), n ≤ m → (playN cs n r).1 ≠ 5 → playN cs m r = playN cs n r := by
  intro n
  induction n with
  | zero =>
    intro m r _ h5
    rw [playN_eq] at h5 ⊢
    rw [playN_eq cs 0 r]
    split
    · rfl
    · rename_i h0
      rw [if_neg h0] at h5
      split
      · rfl
      · rename_i hg
        rw [if_neg hg] at h5
        exact absurd rfl h5
  | succ n ih =>
    intro m r hm h5
    obtain ⟨m, rfl⟩ : ∃ m', m = m' + 1 := ⟨m - 1, by omega⟩
    rw [playN_eq] at h5 ⊢
    rw [playN_eq cs (n + 1) r]
    split
    · rfl
    · rename_i h0
      rw [if_neg h0] at h5
      split
      · rfl
      · rename_i hg
        rw [if_neg hg] at h5
        exact ih m _ (by omega) h5
/-- Two sessions that differ in their limit alone. -/
structure Lg (S T : Se) : Prop where
  l : S.lim ≤ T.lim
  c : S.cls = T.cls
  q : S.q = T.q
theorem reply_lg {S T : Se} (h : Lg S T) {names : List ByteArray} {r : Int × Cf} : (replyS S names r).1 = (replyS T names r).1 ∧ Lg (replyS S names r).2 (replyS T names r).2 := by
  unfold replyS
  split
  · exact ⟨rfl, h.l, h.c, rfl⟩
  · exact ⟨rfl, h.l, h.c, rfl⟩
theorem reply_kind (S : Se) (names : List ByteArray) (r : Int × Cf) : (replyS S names r).1.kind = r.1 := by
  unfold replyS
  split
  · rename_i h; exact h.symm
  · rfl
theorem ask_lg {S T : Se} (h : Lg S T) (s : ByteArray) (h5 : (askS S s).1.kind ≠ 5) : (askS S s).1 = (askS T s).1 ∧ Lg (askS S s).2 (askS T s).2 := by
  unfold askS at *
  split at h5
  · exact ⟨rfl, h.l, h.c, rfl⟩
  · rename_i gs ns _
    rw [reply_kind] at h5
    have hf : firstS T gs ns = firstS S gs ns := by
      unfold firstS at h5 ⊢
      split
      · rfl
      · rename_i hz
        rw [if_neg hz] at h5
        rw [← h.c]
        exact play_longer _ _ _ h.l h5
    rw [hf]
    exact reply_lg h
theorem more_lg {S T : Se} (h : Lg S T) (h5 : (moreS S).1.kind ≠ 5) : (moreS S).1 = (moreS T).1 ∧ Lg (moreS S).2 (moreS T).2 := by
  unfold moreS at *
  rw [← h.q]
  split at h5
  · exact ⟨rfl, h⟩
  · rename_i q hq
    rw [reply_kind] at h5
    have hf : nextS T q = nextS S q := by
      unfold nextS at h5 ⊢
      rw [← h.c]
      exact play_longer _ _ _ h.l h5
    rw [hf]
    exact reply_lg h
end Rf
