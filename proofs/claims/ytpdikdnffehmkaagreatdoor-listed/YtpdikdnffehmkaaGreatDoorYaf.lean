/- Plain functions: what is kept of sizes and parts while a question is played. -/
import Derived.Test.YtpdikdnffehmkaaGreatDoorYae
namespace Rf
theorem pastN_ge : ∀ (t : List Part) (a : Int), a ≤ pastN a t
  | [], a => Int.le_refl _
  | p :: t, a => by
    rw [pastN]
    refine Int.le_trans ?_ (pastN_ge t _)
    split
    · unfold maxI; split <;> omega
    · omega
theorem pastN_mem : ∀ {t : List Part} {a : Int} {p : Part}, p ∈ t → p.kind = 1 → p.value < pastN a t
  | [], _, _, h, _ => by cases h
  | q :: t, a, p, h, hk => by
    rw [pastN]
    rcases List.mem_cons.1 h with rfl | h
    · rw [if_pos hk]
      have := pastN_ge t (maxI a (p.value + 1))
      have h2 : p.value + 1 ≤ maxI a (p.value + 1) := by unfold maxI; split <;> omega
      omega
    · exact pastN_mem h hk
theorem pastTs_ge : ∀ (ts : List (List Part)) (a : Int), a ≤ pastTs a ts
  | [], a => Int.le_refl _
  | t :: ts, a => by
    rw [pastTs]
    refine Int.le_trans ?_ (pastTs_ge ts _)
    unfold maxI; split <;> omega
theorem pastTs_mem : ∀ {ts : List (List Part)} {a : Int} {t : List Part} {p : Part}, t ∈ ts → p ∈ t → p.kind = 1 → p.value < pastTs a ts
  | [], _, _, _, h, _, _ => by cases h
  | u :: ts, a, t, p, h, hp, hk => by
    rw [pastTs]
    rcases List.mem_cons.1 h with rfl | h
    · have h1 : p.value < pastT t := pastN_mem hp hk
      have h2 := pastTs_ge ts (maxI a (pastT t))
      have h3 : pastT t ≤ maxI a (pastT t) := by unfold maxI; split <;> omega
      omega
    · exact pastTs_mem h hp hk
theorem pastN_le {B : Int} : ∀ {t : List Part} {a : Int}, a ≤ B → (∀ p ∈ t, p.kind = 1 → p.value < B) → pastN a t ≤ B
  | [], _, h, _ => h
  | p :: t, a, h, hp => by
    rw [pastN]
    refine pastN_le ?_ (fun q hq => hp q (List.mem_cons_of_mem _ hq))
    split
    · rename_i hk
      have := hp p (by simp) hk
      unfold maxI; split <;> omega
    · exact h
theorem pastTs_le {B : Int} (hB : 0 ≤ B) : ∀ {ts : List (List Part)} {a : Int}, a ≤ B → (∀ t ∈ ts, ∀ p ∈ t, p.kind = 1 → p.value < B) → pastTs a ts ≤ B
  | [], _, h, _ => h
  | t :: ts, a, h, hp => by
    rw [pastTs]
    refine pastTs_le hB ?_ (fun q hq => hp q (List.mem_cons_of_mem _ hq))
    have : pastT t ≤ B := pastN_le (a := 0) hB (hp t (by simp))
    unfold maxI; split <;> omega
def PartG (f : Int) (p : Part) : Prop := (0 ≤ p.args ∧ p.args ≤ 4) ∧ (p.kind = 1 → 0 ≤ p.value ∧ p.value < f) ∧ (p.kind = 2 → -999999999 ≤ p.value ∧ p.value ≤ 999999999) ∧ p.name.size ≤ 12
def TmG (f : Int) (t : List Part) : Prop := t.length ≤ 400 ∧ ∀ p ∈ t, PartG f p
structure StG (N : Nat) (F : Int) (S : St) : Prop where
  gl : S.goals.length ≤ N
  tl : S.terms.length ≤ 16
  f0 : 0 ≤ S.fresh
  f1 : S.fresh ≤ F
  g : ∀ t ∈ S.goals, TmG S.fresh t
  t : ∀ t ∈ S.terms, TmG S.fresh t
structure ClG (c : Cl) : Prop where
  hd : TmG 16 c.head
  bl : c.body.length ≤ 8
  bd : ∀ t ∈ c.body, TmG 16 t
theorem PartG.mono {f f' : Int} {p : Part} (h : PartG f p) (hf : f ≤ f') : PartG f' p := ⟨h.1, fun k => by have := h.2.1 k; omega, h.2.2⟩
theorem TmG.mono {f f' : Int} {t : List Part} (h : TmG f t) (hf : f ≤ f') : TmG f' t := ⟨h.1, fun p hp => (h.2 p hp).mono hf⟩
theorem StG.mono {N N' : Nat} {F F' : Int} {S : St} (h : StG N F S) (hN : N ≤ N') (hF : F ≤ F') : StG N' F' S := ⟨by have := h.gl; omega, h.tl, h.f0, by have := h.f1; omega, h.g, h.t⟩
theorem StG.none (N : Nat) {F : Int} (h : 0 ≤ F) : StG N F ⟨[], [], 0⟩ := ⟨by simp, by simp, by simp, h, by simp, by simp⟩
def EqAll (P : Part → Prop) (e : Eqn) : Prop := (∀ p ∈ e.f, P p) ∧ (∀ p ∈ e.s, P p) ∧ (∀ t ∈ e.body, ∀ p ∈ t, P p) ∧ (∀ t ∈ e.behind, ∀ p ∈ t, P p) ∧ (∀ t ∈ e.terms, ∀ p ∈ t, P p)
def EqLen (e : Eqn) : Prop := (∀ t ∈ e.body, t.length ≤ 400) ∧ (∀ t ∈ e.behind, t.length ≤ 400) ∧ (∀ t ∈ e.terms, t.length ≤ 400)
theorem put_all {P : Part → Prop} {e : Eqn} {v : Int} {x : List Part} (h : EqAll P e) (hx : ∀ p ∈ x, P p) : EqAll P (e.put v x) := by
  have one : ∀ t : List Part, (∀ p ∈ t, P p) → ∀ p ∈ putV v x t, P p := fun t ht p hp => by
    rcases putV_mem hp with ⟨h1, _⟩ | h1
    · exact ht p h1
    · exact hx p h1
  have many : ∀ ts : List (List Part), (∀ t ∈ ts, ∀ p ∈ t, P p) → ∀ t ∈ ts.map (putV v x), ∀ p ∈ t, P p := fun ts hts t ht => by
    obtain ⟨u, hu, rfl⟩ := List.mem_map.1 ht
    exact one u (hts u hu)
  exact ⟨one _ h.1, one _ h.2.1, many _ h.2.2.1, many _ h.2.2.2.1, many _ h.2.2.2.2⟩
theorem putE_all {P : Part → Prop} {e : Eqn} {v : Int} {x : List Part} (h : EqAll P e) (hx : ∀ p ∈ x, P p) : EqAll P (putE e v x).2 := by
  unfold putE
  split
  · exact h
  · split
    · exact h
    · exact put_all h hx
theorem stepE_all {P : Part → Prop} {e : Eqn} (h : EqAll P e) : EqAll P (stepE e).2 := by
  obtain ⟨F, S, bo, be, te⟩ := e
  obtain ⟨h1, h2, h3⟩ := h
  unfold stepE
  split
  · rename_i p f q s e1 e2
    simp only at e1 e2
    subst e1; subst e2
    split
    · exact ⟨fun x hx => h1 x (List.mem_cons_of_mem _ hx), fun x hx => h2 x (List.mem_cons_of_mem _ hx), h3⟩
    · split
      · exact putE_all ⟨fun x hx => h1 x (List.mem_cons_of_mem _ hx), fun x hx => h2 x (List.mem_of_mem_drop hx), h3⟩ (fun x hx => h2 x (List.mem_of_mem_take hx))
      · split
        · exact putE_all ⟨fun x hx => h1 x (List.mem_of_mem_drop hx), fun x hx => h2 x (List.mem_cons_of_mem _ hx), h3⟩ (fun x hx => h1 x (List.mem_of_mem_take hx))
        · exact ⟨h1, h2, h3⟩
  · exact ⟨h1, h2, h3⟩
theorem size_mem : ∀ {ts : List (List Part)} {t : List Part}, t ∈ ts → t.length ≤ sizeT ts
  | [], _, h => by cases h
  | u :: ts, t, h => by
    rw [sizeT]
    rcases List.mem_cons.1 h with rfl | h
    · omega
    · have := size_mem h; omega
theorem putE_len {e : Eqn} {v : Int} {x : List Part} (h : EqLen e) : EqLen (putE e v x).2 := by
  unfold putE
  split
  · exact h
  · split
    · exact h
    · rename_i hz
      simp only []
      unfold Eqn.size at hz
      exact ⟨fun t ht => by have := size_mem ht; omega, fun t ht => by have := size_mem ht; omega, fun t ht => by have := size_mem ht; omega⟩
theorem stepE_len {e : Eqn} (h : EqLen e) : EqLen (stepE e).2 := by
  unfold stepE
  split
  · split
    · exact h
    · split
      · exact putE_len h
      · split
        · exact putE_len h
        · exact h
  · exact h
def EqNum (a b c : Nat) (e : Eqn) : Prop := e.body.length = a ∧ e.behind.length = b ∧ e.terms.length = c
theorem putE_num {e : Eqn} {v : Int} {x : List Part} {a b c : Nat} (h : EqNum a b c e) : EqNum a b c (putE e v x).2 := by
  unfold putE
  split
  · exact h
  · split
    · exact h
    · exact ⟨by simpa [Eqn.put] using h.1, by simpa [Eqn.put] using h.2.1, by simpa [Eqn.put] using h.2.2⟩
theorem stepE_num {e : Eqn} {a b c : Nat} (h : EqNum a b c e) : EqNum a b c (stepE e).2 := by
  unfold stepE
  split
  · split
    · exact h
    · split
      · exact putE_num h
      · split
        · exact putE_num h
        · exact h
  · exact h
theorem solveN_inv {I : Eqn → Prop} (hs : ∀ e, I e → I (stepE e).2) : ∀ (n : Nat) (e : Eqn), I e → I (solveN n e).2
  | 0, _, h => h
  | n + 1, e, h => by
    rw [solveN]
    split
    · exact h
    · split
      · exact solveN_inv hs n _ (hs e h)
      · exact hs e h
theorem solveE_all {P : Part → Prop} {e : Eqn} (h : EqAll P e) : EqAll P (solveE e).2 := solveN_inv (fun _ h => stepE_all h) _ e h
theorem solveE_len {e : Eqn} (h : EqLen e) : EqLen (solveE e).2 := solveN_inv (fun _ h => stepE_len h) _ e h
theorem solveE_num (e : Eqn) : EqNum e.body.length e.behind.length e.terms.length (solveE e).2 := solveN_inv (fun _ h => stepE_num h) _ e ⟨rfl, rfl, rfl⟩
theorem ClG.past {c : Cl} (h : ClG c) : 0 ≤ pastC c ∧ pastC c ≤ 16 := by
  unfold pastC
  have h0 : 0 ≤ pastT c.head := pastN_ge c.head 0
  have h1 : pastT c.head ≤ 16 := pastN_le (a := 0) (by omega) (fun p hp hk => ((h.hd.2 p hp).2.1 hk).2)
  have h2 := pastTs_ge c.body (pastT c.head)
  exact ⟨by omega, pastTs_le (by omega) h1 (fun t ht p hp hk => (((h.bd t ht).2 p hp).2.1 hk).2)⟩
theorem own_tm {t : List Part} {off h m : Int} (ht : TmG 16 t) (hv : ∀ p ∈ t, p.kind = 1 → p.value < m) (h0 : 0 ≤ off) : TmG (off + m) (ownT off h t) := by
  refine ⟨by unfold ownT; simpa using ht.1, fun p hp => ?_⟩
  unfold ownT at hp
  obtain ⟨q, hq, rfl⟩ := List.mem_map.1 hp
  have hg := ht.2 q hq
  have hvq := hv q hq
  unfold ownP
  split
  · rename_i hk
    have := hg.2.1 hk
    have := hvq hk
    exact ⟨hg.1, fun _ => by simp only []; omega, fun e => by simp only [hk] at e; omega, hg.2.2.2⟩
  · split
    · rename_i hk hk4
      exact ⟨hg.1, fun e => absurd e hk, fun e => by simp only [hk4] at e; omega, hg.2.2.2⟩
    · rename_i hk _
      exact ⟨hg.1, fun e => absurd e hk, hg.2.2⟩
theorem withS_good {S : St} {c : Cl} {h : Int} {N : Nat} {F : Int} (hS : StG N F S) (hne : S.goals ≠ []) (hc : ClG c) (h0 : (withS S c h).1 = 0) : StG (N + 7) (F + 16) (withS S c h).2 := by
  have hz : (solveE (withE S c h)).1 = 0 := by
    unfold withS at h0
    split at h0
    · assumption
    · exact h0
  have hw : (withS S c h).2 = ⟨(solveE (withE S c h)).2.body ++ (solveE (withE S c h)).2.behind, (solveE (withE S c h)).2.terms, S.fresh + pastC c⟩ := by
    unfold withS; rw [if_pos hz]
  rw [hw]
  obtain ⟨g0, gs, hg⟩ : ∃ g0 gs, S.goals = g0 :: gs := by
    cases hS' : S.goals with
    | nil => exact absurd hS' hne
    | cons a b => exact ⟨a, b, rfl⟩
  have hp := hc.past
  have hgg := hS.g
  have hgl := hS.gl
  rw [hg] at hgg hgl
  simp only [List.length_cons] at hgl
  have hT : ∀ t ∈ S.goals, TmG (S.fresh + pastC c) t := fun t ht => (hS.g t ht).mono (by omega)
  have hB : ∀ t ∈ c.body.map (ownT S.fresh h), TmG (S.fresh + pastC c) t := fun t ht => by
    obtain ⟨q, hq, rfl⟩ := List.mem_map.1 ht
    exact own_tm (hc.bd q hq) (fun p hp hk => pastTs_mem hq hp hk) hS.f0
  have hH : TmG (S.fresh + pastC c) (ownT S.fresh h c.head) := own_tm hc.hd (fun p hp hk => by
    have h1 : p.value < pastT c.head := pastN_mem hp hk
    have h2 := pastTs_ge c.body (pastT c.head)
    unfold pastC; omega) hS.f0
  have hE : EqAll (PartG (S.fresh + pastC c)) (withE S c h) := by
    unfold withE
    rw [hg]
    exact ⟨(hT g0 (by rw [hg]; simp)).2, hH.2, fun t ht => (hB t ht).2, fun t ht => (hT t (by rw [hg]; exact List.mem_cons_of_mem _ ht)).2, fun t ht => ((hS.t t ht).mono (by omega)).2⟩
  have hL : EqLen (withE S c h) := by
    unfold withE
    rw [hg]
    exact ⟨fun t ht => (hB t ht).1, fun t ht => (hgg t (List.mem_cons_of_mem _ ht)).1, fun t ht => (hS.t t ht).1⟩
  have hN := solveE_num (withE S c h)
  have hA := solveE_all hE
  have hL2 := solveE_len hL
  have n1 : (withE S c h).body.length = c.body.length := by unfold withE; simp
  have n2 : (withE S c h).behind.length = gs.length := by unfold withE; rw [hg]; rfl
  have n3 : (withE S c h).terms.length = S.terms.length := rfl
  have hbl := hc.bl
  have htl := hS.tl
  have hf1 := hS.f1
  have hf0 := hS.f0
  refine ⟨?_, ?_, by simp only []; omega, by simp only []; omega, fun t ht => ?_, fun t ht => ⟨hL2.2.2 t ht, hA.2.2.2.2 t ht⟩⟩
  · rw [List.length_append, hN.1, hN.2.1]; omega
  · have := hN.2.2; simp only []; omega
  · rcases List.mem_append.1 ht with ht | ht
    · exact ⟨hL2.1 t ht, hA.2.2.1 t ht⟩
    · exact ⟨hL2.2.1 t ht, hA.2.2.2.1 t ht⟩
structure CfG (cs : List Cl) (G : Nat) (F : Int) (t : Nat) (cf : Cf) : Prop where
  now : StG (G + 7 * (t + 1)) (F + 16 * (t + 1)) cf.now
  chs : ∀ c ∈ cf.chs, StG (G + 7 * t) (F + 16 * t) c.st ∧ (∀ k ∈ c.cls, k < cs.length) ∧ (c.cls ≠ [] → c.st.goals ≠ [])
  len : cf.chs.length ≤ 20
def ClsG (cs : List Cl) : Prop := ∀ c ∈ cs, ClG c
theorem ClsG.at {cs : List Cl} (h : ClsG cs) {k : Nat} (hk : k < cs.length) : ClG (cs.getD k noCl) := by
  rw [List.getD_eq_getElem?_getD, List.getElem?_eq_getElem hk]
  exact h _ (List.getElem_mem hk)
theorem again_good {cs : List Cl} {G : Nat} {F : Int} {t : Nat} {cf : Cf} (hc : ClsG cs) (h : CfG cs G F t cf) : CfG cs G F t (againP cs cf).2 := by
  unfold againP
  cases hl : cf.chs with
  | nil => exact h
  | cons c low =>
    simp only []
    have hlen2 := h.len
    rw [hl, List.length_cons] at hlen2
    have hmem : c ∈ cf.chs := by rw [hl]; simp
    have hlow : ∀ d ∈ low, d ∈ cf.chs := fun d hd => by rw [hl]; exact List.mem_cons_of_mem _ hd
    obtain ⟨g1, g2, g3⟩ := h.chs c hmem
    unfold takeUp
    split
    · exact ⟨g1.mono (by omega) (by omega), fun d hd => h.chs d (hlow d hd), by simp only []; omega⟩
    · rename_i k rest he
      rw [he] at g2 g3
      have hG := hc.at (g2 k (by simp))
      have hchs : ∀ d ∈ putCh low c.st rest, StG (G + 7 * t) (F + 16 * t) d.st ∧ (∀ k ∈ d.cls, k < cs.length) ∧ (d.cls ≠ [] → d.st.goals ≠ []) := by
        intro d hd
        unfold putCh at hd
        split at hd
        · exact h.chs d (hlow d hd)
        · rcases List.mem_cons.1 hd with rfl | hd
          · exact ⟨g1, fun j hj => g2 j (List.mem_cons_of_mem _ hj), fun _ => g3 (by simp)⟩
          · exact h.chs d (hlow d hd)
      have hl2 : (putCh low c.st rest).length ≤ 20 := by
        unfold putCh; split
        · omega
        · simp only [List.length_cons]; omega
      unfold useP
      simp only []
      split
      · rename_i h0
        exact ⟨(withS_good g1 (g3 (by simp)) hG h0).mono (by omega) (by omega), hchs, hl2⟩
      · exact ⟨h.now, hchs, hl2⟩
theorem matchN_lt (S : St) : ∀ (i : Nat) (cs : List Cl) (k : Nat), k ∈ matchN S i cs → i ≤ k ∧ k < i + cs.length
  | _, [], _, h => by simp [matchN] at h
  | i, c :: cs, k, h => by
    rw [matchN] at h
    rcases List.mem_append.1 h with h | h
    · split at h
      · simp at h; subst h; simp
      · simp at h
    · have := matchN_lt S (i + 1) cs k h
      simp only [List.length_cons]; omega
theorem argN_sub : ∀ (n : Nat) (r : List Part), (argN n r).length ≤ r.length ∧ ∀ p ∈ argN n r, p ∈ r
  | 0, r => ⟨by simp [argN, List.length_take]; omega, fun p hp => List.mem_of_mem_take hp⟩
  | n + 1, r => by
    have h := argN_sub n (r.drop (leadT r))
    refine ⟨?_, fun p hp => List.mem_of_mem_drop (h.2 p hp)⟩
    have := h.1
    rw [argN]
    simp only [List.length_drop] at this
    omega
theorem argT_sub (t : List Part) (i : Nat) : (argT t i).length ≤ t.length ∧ ∀ p ∈ argT t i, p ∈ t := by
  unfold argT
  split
  · exact ⟨by simp, by simp⟩
  · have h := argN_sub i t.tail
    exact ⟨by have := h.1; simp only [List.length_tail] at this; omega, fun p hp => List.mem_of_mem_tail (h.2 p hp)⟩
theorem argT_tm {f : Int} {t : List Part} (h : TmG f t) (i : Nat) : TmG f (argT t i) := ⟨Nat.le_trans (argT_sub t i).1 h.1, fun p hp => h.2 p ((argT_sub t i).2 p hp)⟩
theorem goalP_tm {N : Nat} {F : Int} {S : St} (h : StG N F S) (hne : S.goals ≠ []) : TmG S.fresh (goalP S) := by
  unfold goalP
  cases hg : S.goals with
  | nil => exact absurd hg hne
  | cons a b => exact h.g a (by rw [hg]; simp)
theorem tail_good {N : Nat} {F : Int} {S : St} (h : StG N F S) : StG N F ⟨S.goals.tail, S.terms, S.fresh⟩ :=
  ⟨by have := h.gl; simp only [List.length_tail]; omega, h.tl, h.f0, h.f1, fun t ht => h.g t (List.mem_of_mem_tail ht), h.t⟩
theorem equal_good {N : Nat} {F : Int} {cf : Cf} {a b : List Part} (h : StG N F cf.now) (ha : TmG cf.now.fresh a) (hb : TmG cf.now.fresh b) : StG N F (equalP cf a b).2.now ∧ (equalP cf a b).2.chs = cf.chs := by
  have hE : EqAll (PartG cf.now.fresh) (equalE cf a b) := ⟨ha.2, hb.2, (by intro t ht; cases ht), fun t ht => (h.g t (List.mem_of_mem_tail ht)).2, fun t ht => (h.t t ht).2⟩
  have hL : EqLen (equalE cf a b) := ⟨(by intro t ht; cases ht), fun t ht => (h.g t (List.mem_of_mem_tail ht)).1, fun t ht => (h.t t ht).1⟩
  have hA := solveE_all hE
  have hL2 := solveE_len hL
  have hN := solveE_num (equalE cf a b)
  unfold equalP
  simp only []
  split
  · refine ⟨⟨?_, ?_, h.f0, h.f1, fun t ht => ⟨hL2.2.1 t ht, hA.2.2.2.1 t ht⟩, fun t ht => ⟨hL2.2.2 t ht, hA.2.2.2.2 t ht⟩⟩, rfl⟩
    · have := h.gl; have h2 := hN.2.1; have h3 : (equalE cf a b).behind.length = cf.now.goals.length - 1 := by unfold equalE; simp
      simp only []; omega
    · have := h.tl; have h2 := hN.2.2; have h3 : (equalE cf a b).terms.length = cf.now.terms.length := rfl
      simp only []; omega
  · exact ⟨h, rfl⟩
theorem num_tm {f v : Int} (h0 : ¬ (v < -999999999 ∨ 999999999 < v)) : TmG f (numT v) := by
  refine ⟨by simp [numT], fun p hp => ?_⟩
  simp [numT] at hp; subst hp
  exact ⟨by simp, by simp, fun _ => by simp only []; omega, by simp [ByteArray.size]⟩
theorem cut_tm (f h : Int) : TmG f (cutT h) := by
  refine ⟨by simp [cutT], fun p hp => ?_⟩
  simp [cutT] at hp; subst hp
  exact ⟨by simp, by simp, by simp, by simp [ByteArray.size]⟩
theorem fail_tm (f : Int) : TmG f failT := by
  refine ⟨by simp [failT], fun p hp => ?_⟩
  simp [failT] at hp; subst hp
  exact ⟨by simp, by simp, by simp, by decide⟩
theorem take_good {cs : List Cl} {G : Nat} {F : Int} {t : Nat} {cf : Cf} (hc : ClsG cs) (h : CfG cs G F t cf) (hne : cf.now.goals ≠ []) : CfG cs G F (t + 1) (takeP cs cf).2 := by
  have hold : ∀ c ∈ cf.chs, StG (G + 7 * (t + 1)) (F + 16 * (t + 1 : Nat)) c.st ∧ (∀ k ∈ c.cls, k < cs.length) ∧ (c.cls ≠ [] → c.st.goals ≠ []) := fun c hc => ⟨(h.chs c hc).1.mono (by omega) (by omega), (h.chs c hc).2⟩
  have hn := h.now
  have hn1 : StG (G + 7 * (t + 1 + 1)) (F + 16 * ((t + 1 : Nat) + 1)) cf.now := hn.mono (by omega) (by omega)
  have hn2 : StG (G + 7 * (t + 1)) (F + 16 * (t + 1 : Nat)) cf.now := hn.mono (by omega) (by omega)
  have hstay : CfG cs G F (t + 1) cf := ⟨hn1, hold, h.len⟩
  have hmeet : CfG cs G F (t + 1) (meetP cf).2 := ⟨tail_good hn1, hold, h.len⟩
  have hgt := goalP_tm hn hne
  have hlen := h.len
  have hequal : ∀ a b, TmG cf.now.fresh a → TmG cf.now.fresh b → CfG cs G F (t + 1) (equalP cf a b).2 := fun a b ha hb => by
    have h1 := equal_good hn1 ha hb
    exact ⟨h1.1, by rw [h1.2]; exact hold, by rw [h1.2]; exact hlen⟩
  unfold takeP
  split
  · unfold builtP
    split
    · exact ⟨tail_good hn1, fun c hc => hold c (List.mem_of_mem_drop hc), by show (List.drop _ _).length ≤ 20; rw [List.length_drop]; omega⟩
    split
    · exact hmeet
    split
    · exact hequal _ _ (argT_tm hgt 0) (argT_tm hgt 1)
    split
    · unfold lessP
      split
      · split
        · exact hmeet
        · exact hstay
      · exact hstay
    split
    · unfold plusP
      split
      · split
        · exact hstay
        · rename_i hr
          exact hequal _ _ (num_tm hr) (argT_tm hgt 2)
      · exact hstay
    split
    · unfold notP
      split
      · split
        · exact hstay
        · rename_i h20
          refine ⟨⟨by simp only [List.length_cons, List.length_nil]; omega, hn.tl, hn.f0, by have := hn.f1; simp only []; omega, fun u hu => ?_, hn.t⟩, fun c hc => ?_, by simp only [List.length_cons]; omega⟩
          · simp only [List.mem_cons, List.not_mem_nil, or_false] at hu
            rcases hu with rfl | rfl | rfl
            · exact argT_tm hgt 0
            · exact cut_tm _ _
            · exact fail_tm _
          · rcases List.mem_cons.1 hc with rfl | hc
            · exact ⟨tail_good hn2, by simp, by simp⟩
            · exact hold c hc
      · exact hstay
    · exact hstay
  · split
    · have hm := matchN_lt cf.now 0 cs
      unfold chooseP
      split
      · exact hstay
      · rename_i k rest he
        have hk := hm k (by rw [he]; simp)
        have hrest : ∀ j ∈ rest, j < cs.length := fun j hj => by have := hm j (by rw [he]; exact List.mem_cons_of_mem _ hj); omega
        split
        · exact hstay
        · rename_i hdeep
          have hchs : ∀ d ∈ putCh cf.chs cf.now rest, StG (G + 7 * (t + 1)) (F + 16 * (t + 1 : Nat)) d.st ∧ (∀ k ∈ d.cls, k < cs.length) ∧ (d.cls ≠ [] → d.st.goals ≠ []) := by
            intro d hd
            unfold putCh at hd
            split at hd
            · exact hold d hd
            · rcases List.mem_cons.1 hd with rfl | hd
              · exact ⟨hn2, hrest, fun _ => hne⟩
              · exact hold d hd
          have hl2 : (putCh cf.chs cf.now rest).length ≤ 20 := by
            unfold putCh; split
            · exact hlen
            · rename_i hr
              have : ¬ 20 ≤ cf.chs.length := fun h9 => hdeep ⟨hr, h9⟩
              simp only [List.length_cons]; omega
          unfold useP
          simp only []
          split
          · rename_i h0
            exact ⟨(withS_good hn hne (hc.at (by omega)) h0).mono (by omega) (by omega), hchs, hl2⟩
          · exact ⟨hn1, hchs, hl2⟩
    · exact hstay
end Rf
