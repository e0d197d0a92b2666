/- Plain facts: goals, clauses and texts of clauses that are written with given names for their variables are read back. -/
import Derived.Test.YtpdikdnffehmkaaGreatDoorYad
import Derived.Test.YtpdikdnffehmkaaGreatDoorYac
namespace Rf
theorem Wf.mono : ∀ {d d' : Nat} {ps : List Part}, d ≤ d' → Wf d ps → Wf d' ps
  | 0, _, _, _, h => h.elim
  | d + 1, 0, _, hd, _ => by omega
  | d + 1, d' + 1, ps, hd, h => by
    rcases h with h | ⟨s, qs, h1, hq, e⟩
    · exact .inl h
    · exact .inr ⟨s, qs, h1, fun q hq' => Wf.mono (by omega) (hq q hq'), e⟩
theorem flatten_mem_len : ∀ {qs : List (List Part)} {q : List Part}, q ∈ qs → q.length ≤ qs.flatten.length
  | [], _, h => by cases h
  | x :: qs, q, h => by
    rw [List.flatten_cons, List.length_append]
    rcases List.mem_cons.1 h with rfl | h
    · omega
    · have := flatten_mem_len h; omega
theorem Wf.byLen : ∀ {d : Nat} {ps : List Part}, Wf d ps → Wf ps.length ps
  | 0, _, h => h.elim
  | d + 1, ps, h => by
    rcases h with ⟨p, rfl, h0⟩ | ⟨s, qs, h1, hq, rfl⟩
    · exact .inl ⟨p, rfl, h0⟩
    · exact .inr ⟨s, qs, h1, fun q hq' => Wf.mono (flatten_mem_len hq') (Wf.byLen (hq q hq')), rfl⟩
theorem parse_termF {ν : List ByteArray} (hν : Names ν) {d : Nat} {ps : List Part} (hw : Wf d ps) (hp : ∀ p ∈ ps, PartOk ν p) {s : ByteArray} {n m m' f : Nat} {r : List UInt8} (hf : (rest s n).length ≤ f) (hn : n ≤ s.size) (hh : Has s n (bs (txtG (wordN ν) ps)) r) (hr : Stop letterB r) (hk : ∀ t l, rest s (n + (txtG (wordN ν) ps).size) = t :: l → t.k ≠ 40) (hm : NumTo m ps m') :
    termS f (rest s n) (ν.take m) = .ok (ps, rest s (n + (txtG (wordN ν) ps).size), ν.take m') := by
  have h1 := parse_term hν d ps hw hp s n r m m' d (Nat.le_refl _) hn hh hr hk hm
  have h2 : ps.length + (rest s (n + (txtG (wordN ν) ps).size)).length ≤ (rest s n).length := (termS_good d _ _ _ _ _ (toks_ended s _ _) (by rw [List.length_take]; have := hν.len; omega) h1).2.2.1
  exact parse_term hν ps.length ps hw.byLen hp s n r m m' f (by omega) hn hh hr hk hm
def cutG : List Part := [⟨4, ⟨#[]⟩, 0, 0⟩]
/-- A goal that can be written and read: a cut, or a term that is no variable and no number. -/
def GoalOk (ν : List ByteArray) (g : List Part) : Prop := g = cutG ∨ ((∃ d, Wf d g) ∧ (∀ p ∈ g, PartOk ν p) ∧ (g.head?.map (·.kind)) = some 3)
theorem head_name {ν : List ByteArray} {d : Nat} {g : List Part} (hw : Wf d g) (h3 : (g.head?.map (·.kind)) = some 3) (hp : ∀ p ∈ g, PartOk ν p) : ∃ nm b, NmOk nm ∧ bs (txtG (wordN ν) g) = bs nm ++ b ∧ (b = [] ∨ ∃ b', b = 40 :: b') := by
  cases d with
  | zero => exact hw.elim
  | succ d =>
    rcases hw with ⟨p, rfl, h0⟩ | ⟨nm, qs, h1, hq, rfl⟩
    · simp at h3
      rcases hp p (List.mem_singleton.2 rfl) with ⟨e1, _⟩ | ⟨e1, _⟩ | ⟨e1, e2, e3, e4, e5⟩
      · rw [e1] at h3; cases h3
      · rw [e1] at h3; cases h3
      · refine ⟨p.name, [], e3, ?_, .inl rfl⟩
        rw [txtG_one _ p h0, List.append_nil]
        unfold wordN
        rw [if_neg (by rw [e1]; decide), if_neg (by rw [e1]; decide), if_neg (by rw [e1]; decide)]
    · rcases hp _ List.mem_cons_self with ⟨e1, _⟩ | ⟨e1, _⟩ | ⟨e1, e2, e3, e4, e5⟩
      · cases e1
      · cases e1
      · refine ⟨nm, 40 :: bs (joinG (wordN ν) qs), e3, ?_, .inr ⟨_, rfl⟩⟩
        rw [txtG_comp _ d nm qs h1 hq, bs_app, bs_app]
        rfl
theorem parse_goal {ν : List ByteArray} (hν : Names ν) {g : List Part} (hg : GoalOk ν g) {s : ByteArray} {n m m' f : Nat} {r : List UInt8} (hf : (rest s n).length ≤ f) (hn : n ≤ s.size) (hh : Has s n (bs (txtG (wordN ν) g)) r) (hr : Stop letterB r) (hk : ∀ t l, rest s (n + (txtG (wordN ν) g).size) = t :: l → t.k ≠ 40) (hm : NumTo m g m') :
    goalS f (rest s n) (ν.take m) = .ok (g, rest s (n + (txtG (wordN ν) g).size), ν.take m') := by
  rcases hg with rfl | ⟨⟨d, hw⟩, hp, h3⟩
  · have hx : txtG (wordN ν) cutG = ⟨#[33]⟩ := by unfold cutG; rw [txtG_one _ _ rfl]; rfl
    rw [hx] at hh ⊢
    have hh' : Has s n [33] r := hh
    obtain ⟨x, e⟩ := rest_mark hh' (by decide)
    obtain ⟨m1, hs1, rfl⟩ : ∃ m1, stepN m ⟨4, ⟨#[]⟩, 0, 0⟩ m1 ∧ m' = m1 := by
      obtain ⟨m1, h1, h2⟩ := hm
      exact ⟨m1, h1, h2⟩
    unfold stepN at hs1
    rw [if_neg (by show ¬ (4 : Int) = 1; decide)] at hs1
    subst hs1
    rw [e]
    simp only [goalS]
    rw [if_pos (by decide)]
    rfl
  · have ht := parse_termF hν hw hp hf hn hh hr hk hm
    obtain ⟨nm, b, hnm, hb, hb2⟩ := head_name hw h3 hp
    rw [hb] at hh
    obtain ⟨h1, _⟩ := hh.app
    have hst : Stop letterB (b ++ r) := by
      rcases hb2 with rfl | ⟨b', rfl⟩
      · exact hr
      · exact stop_mark 40 _ (by decide)
    have e := rest_name hnm h1 hst
    rw [e] at ht ⊢
    simp only [goalS]
    rw [if_neg (by show ¬ (97 : Int) = 33; decide), ht]
    simp only []
    rw [if_pos h3]
def goalsT (wd : Part → ByteArray) : List (List Part) → ByteArray
  | [] => ⟨#[]⟩
  | [g] => txtG wd g
  | g :: g' :: gs => txtG wd g ++ (⟨#[44]⟩ ++ goalsT wd (g' :: gs))
/-- Goals, with a mark behind them that is no comma. -/
theorem parse_goals {ν : List ByteArray} (hν : Names ν) {f : Nat} (s : ByteArray) (c : UInt8) (hc : markB c.toNat = true) (hc44 : (c.toNat : Int) ≠ 44) (hc40 : (c.toNat : Int) ≠ 40) : ∀ (gs acc : List (List Part)) (k n m m' : Nat) (r : List UInt8), 1 ≤ gs.length → acc.length + gs.length ≤ 8 → gs.length ≤ k → (∀ g ∈ gs, GoalOk ν g) → n ≤ s.size → (rest s n).length ≤ f → Has s n (bs (goalsT (wordN ν) gs)) (c :: r) → NumTo m gs.flatten m' →
    goalsS f k acc (rest s n) (ν.take m) = .ok (acc ++ gs, rest s (n + (goalsT (wordN ν) gs).size), ν.take m')
  | [], _, _, _, _, _, _, h, _, _, _, _, _, _, _ => by simp at h
  | [g], acc, k, n, m, m', r, _, h8, hk, hg, hn, hf, hh, hm => by
    obtain ⟨k, rfl⟩ : ∃ k', k = k' + 1 := ⟨k - 1, by simp at hk; omega⟩
    rw [goalsT] at hh ⊢
    have h2 : Has s (n + (bs (txtG (wordN ν) g)).length) [c] r := Has.join (a := bs (txtG (wordN ν) g)) (b := [c]) hh
    rw [bs_len] at h2
    obtain ⟨x, hx⟩ := rest_mark h2 hc
    rw [List.flatten_cons, List.flatten_nil, List.append_nil] at hm
    have ht := parse_goal hν (hg g (by simp)) hf hn hh (stop_mark c r hc) (fun t l e => by rw [hx] at e; injection e with e _; rw [← e]; exact hc40) hm
    rw [goalsS, ht, hx]
    simp only []
    have h63 : (c.toNat : Int) ≠ 63 := by unfold markB at hc; simp at hc; omega
    rw [if_neg hc44, if_neg h63]
  | g :: g' :: gs, acc, k, n, m, m', r, _, h8, hk, hg, hn, hf, hh, hm => by
    obtain ⟨k, rfl⟩ : ∃ k', k = k' + 1 := ⟨k - 1, by simp at hk; omega⟩
    rw [goalsT, bs_app, bs_app] at hh
    obtain ⟨h1, h2⟩ := hh.app
    rw [bs_len] at h2
    obtain ⟨h3, h4'⟩ := h2.app
    have h3' : Has s (n + (txtG (wordN ν) g).size) [44] (bs (goalsT (wordN ν) (g' :: gs)) ++ c :: r) := h3
    have h5 : Has s (n + (txtG (wordN ν) g).size + 1) (bs (goalsT (wordN ν) (g' :: gs))) (c :: r) := h4'
    obtain ⟨x, hx⟩ := rest_mark h3' (by decide)
    rw [List.flatten_cons] at hm
    obtain ⟨m1, hm1, hm2⟩ := NumTo.app.1 hm
    have hlt := h3'.lt
    have ht := parse_goal hν (hg g (by simp)) hf hn h1 (by
      intro c' r' e
      have e2 : (44 :: (bs (goalsT (wordN ν) (g' :: gs)) ++ c :: r)) = c' :: r' := e
      exact stop_mark 44 _ (by decide) c' r' e2) (fun t l e => by rw [hx] at e; injection e with e _; rw [← e]; show ((44 : UInt8).toNat : Int) ≠ 40; decide) hm1
    have hlen := goalS_len' ht
    rw [hx] at hlen
    simp only [List.length_cons] at hlen
    have ih := parse_goals hν (f := f) s c hc hc44 hc40 (g' :: gs) (acc ++ [g]) k (n + (txtG (wordN ν) g).size + 1) m1 m' r (by simp) (by simp at h8 ⊢; omega) (by simp at hk ⊢; omega) (fun y hy => hg y (List.mem_cons_of_mem _ hy)) (by omega) (by omega) h5 hm2
    rw [goalsS, ht, hx]
    simp only []
    rw [if_pos (by decide), if_neg (by simp at h8; omega), ih, goalsT, ByteArray.size_append, ByteArray.size_append]
    have e1 : acc ++ [g] ++ g' :: gs = acc ++ g :: g' :: gs := by simp
    have e2 : n + (txtG (wordN ν) g).size + 1 + (goalsT (wordN ν) (g' :: gs)).size = n + ((txtG (wordN ν) g).size + ((⟨#[44]⟩ : ByteArray).size + (goalsT (wordN ν) (g' :: gs)).size)) := by
      have : (⟨#[44]⟩ : ByteArray).size = 1 := rfl
      omega
    rw [e1, e2]
/-- A clause's text, without a newline. -/
def bodyT (wd : Part → ByteArray) (b : List (List Part)) : ByteArray := if b = [] then ⟨#[]⟩ else ⟨#[58, 45]⟩ ++ goalsT wd b
def lineN (ν : List ByteArray) (c : Cl) : ByteArray := txtG (wordN ν) c.head ++ (bodyT (wordN ν) c.body ++ ⟨#[46]⟩)
structure ClOkN (ν : List ByteArray) (c : Cl) : Prop where
  names : Names ν
  hw : ∃ d, Wf d c.head
  hp : ∀ p ∈ c.head, PartOk ν p
  hb : headB c.head = true
  bg : ∀ g ∈ c.body, GoalOk ν g
  bl : c.body.length ≤ 8
  num : NumTo 0 (c.head ++ c.body.flatten) c.vars
  vars : c.vars ≤ ν.length
theorem Has.sub {s : ByteArray} {n : Nat} {a b r : List UInt8} (h : Has s n (a ++ b) r) : Has s (n + a.length) b r := h.app.2
theorem parse_clause {ν : List ByteArray} {c : Cl} (h : ClOkN ν c) {s : ByteArray} {n f : Nat} {r : List UInt8} (hf : (rest s n).length ≤ f) (hn : n ≤ s.size) (hh : Has s n (bs (lineN ν c)) r) : clauseS f (rest s n) = .ok (c, rest s (n + (lineN ν c).size)) := by
  obtain ⟨hd, body, vars⟩ := c
  obtain ⟨hν, ⟨d, hw⟩, hp, hb, hbg, hbl, hnum, hvl⟩ := h
  simp only at hw hp hb hbg hbl hnum hvl
  obtain ⟨m1, hm1, hm2⟩ := NumTo.app.1 hnum
  unfold lineN at hh ⊢
  simp only at hh ⊢
  rw [bs_app] at hh
  obtain ⟨h1, h2⟩ := hh.app
  rw [bs_len] at h2
  have h3 : (hd.head?.map (·.kind)) = some 3 := by
    unfold headB at hb
    cases hd with
    | nil => simp at hb
    | cons p ps => simp at hb; simp [hb.1]
  obtain ⟨nm, b, hnm, hbb, hb2⟩ := head_name hw h3 hp
  have hvt : (ν.take vars).length = vars := by rw [List.length_take]; omega
  have hdot : ∀ (k : Nat) (r' : List UInt8), Has s k [46] r' → ∀ (c : List Part × List (List Part)), dotS c (rest s k) (ν.take vars) = .ok (⟨c.1, c.2, vars⟩, rest s (k + 1)) := by
    intro k r' hk c
    obtain ⟨x, hx⟩ := rest_mark hk (by decide)
    rw [hx]
    simp only [dotS]
    rw [if_pos (by decide), hvt]
  by_cases hb0 : body = []
  · subst hb0
    have e0 : bodyT (wordN ν) [] = ⟨#[]⟩ := by unfold bodyT; rw [if_pos rfl]
    rw [e0] at h1 h2 hh ⊢
    rw [emp_app] at h1 h2 ⊢
    have h2' : Has s (n + (txtG (wordN ν) hd).size) [46] r := h2
    obtain ⟨x, hx⟩ := rest_mark h2' (by decide)
    rw [List.flatten_nil] at hm2
    have hm2' : vars = m1 := hm2
    subst hm2'
    have ht := parse_termF hν (m := 0) hw hp hf hn h1 (stop_mark 46 r (by decide)) (fun t l e => by rw [hx] at e; injection e with e _; rw [← e]; show ((46 : UInt8).toNat : Int) ≠ 40; decide) hm1
    have hd1 := hdot _ r h2' (hd, [])
    obtain ⟨t, l, hrl⟩ := rest_cons hn
    rw [List.take_zero] at ht
    have hfin : clauseS f (rest s n) = dotS (hd, []) (rest s (n + (txtG (wordN ν) hd).size)) (ν.take vars) := by
      rw [hrl] at ht ⊢
      simp only [clauseS]
      rw [ht]
      simp only []
      rw [if_pos hb, hx]
      simp only []
      rw [if_neg (by decide)]
    rw [hfin, hd1, ByteArray.size_append]
    rfl
  · have e0 : bodyT (wordN ν) body = ⟨#[58, 45]⟩ ++ goalsT (wordN ν) body := by unfold bodyT; rw [if_neg hb0]
    rw [e0] at h1 h2 hh ⊢
    rw [bs_app, bs_app] at h1 h2
    have h2' : Has s (n + (txtG (wordN ν) hd).size) (58 :: 45 :: (bs (goalsT (wordN ν) body) ++ [46])) r := by
      have h9 := h2
      rw [List.append_assoc] at h9
      exact h9
    obtain ⟨x, hx⟩ := rest_impl h2'
    have h5 : Has s (n + (txtG (wordN ν) hd).size + 2) (bs (goalsT (wordN ν) body) ++ [46]) r := by
      have h9 : Has s (n + (txtG (wordN ν) hd).size) ([58, 45] ++ (bs (goalsT (wordN ν) body) ++ [46])) r := h2'
      exact h9.sub
    obtain ⟨h6, h7⟩ := h5.app
    rw [bs_len] at h7
    have hle : n + (txtG (wordN ν) hd).size + 2 ≤ s.size := by
      have h9 : Has s (n + (txtG (wordN ν) hd).size) ([58] ++ (45 :: (bs (goalsT (wordN ν) body) ++ [46]))) r := h2'
      have := h9.sub.lt
      simp at this
      omega
    have ht := parse_termF hν (m := 0) hw hp hf hn h1 (by
      intro c' r' e
      have e2 : (58 :: 45 :: (bs (goalsT (wordN ν) body) ++ [46] ++ r)) = c' :: r' := by rw [← e]; simp [bs]
      injection e2 with e3 _
      subst e3
      decide) (fun t l e => by rw [hx] at e; injection e with e _; rw [← e]; show (58 : Int) ≠ 40; decide) hm1
    have hlen := termS_len f _ _ _ _ _ ht
    rw [hx] at hlen
    simp only [List.length_cons] at hlen
    have hg := parse_goals hν (f := f) s 46 (by decide) (by decide) (by decide) body [] 8 _ m1 vars r (by cases body with | nil => exact absurd rfl hb0 | cons => simp) (by simpa using hbl) hbl hbg hle (by omega) h6 hm2
    have hd1 := hdot _ r h7 (hd, body)
    obtain ⟨t, l, hrl⟩ := rest_cons hn
    rw [List.take_zero] at ht
    have hfin : clauseS f (rest s n) = dotS (hd, body) (rest s (n + (txtG (wordN ν) hd).size + 2 + (goalsT (wordN ν) body).size)) (ν.take vars) := by
      rw [hrl] at ht ⊢
      simp only [clauseS]
      rw [ht]
      simp only []
      rw [if_pos hb, hx]
      simp only []
      rw [if_pos (by decide), hg]
      rfl
    rw [hfin, hd1, ByteArray.size_append, ByteArray.size_append, ByteArray.size_append]
    have e9 : n + (txtG (wordN ν) hd).size + 2 + (goalsT (wordN ν) body).size + 1 = n + ((txtG (wordN ν) hd).size + ((⟨#[58, 45]⟩ : ByteArray).size + (goalsT (wordN ν) body).size + (⟨#[46]⟩ : ByteArray).size)) := by
      have a1 : (⟨#[58, 45]⟩ : ByteArray).size = 2 := rfl
      have a2 : (⟨#[46]⟩ : ByteArray).size = 1 := rfl
      omega
    rw [e9]
def textsN : List (List ByteArray × Cl) → ByteArray
  | [] => ⟨#[]⟩
  | x :: l => lineN x.1 x.2 ++ textsN l
theorem clause_first {ν : List ByteArray} {c : Cl} (h : ClOkN ν c) {s : ByteArray} {n : Nat} {r : List UInt8} (hh : Has s n (bs (lineN ν c)) r) : ∃ t l, rest s n = t :: l ∧ t.k ≠ 0 := by
  obtain ⟨d, hw⟩ := h.hw
  have h3 : (c.head.head?.map (·.kind)) = some 3 := by
    have hb := h.hb
    unfold headB at hb
    cases hd : c.head with
    | nil => rw [hd] at hb; simp at hb
    | cons p ps => rw [hd] at hb; simp at hb; simp [hb.1]
  obtain ⟨nm, b, hnm, hbb, hb2⟩ := head_name hw h3 h.hp
  unfold lineN at hh
  rw [bs_app, hbb, List.append_assoc] at hh
  obtain ⟨h1, _⟩ := hh.app
  have hst : Stop letterB (b ++ bs (bodyT (wordN ν) c.body ++ ⟨#[46]⟩) ++ r) := by
    rcases hb2 with rfl | ⟨b', rfl⟩
    · unfold bodyT
      split
      · exact stop_mark 46 _ (by decide)
      · intro x r' e
        rw [bs_app, bs_app] at e
        have e2 : (58 :: (45 :: (bs (goalsT (wordN ν) c.body) ++ bs ⟨#[46]⟩ ++ r))) = x :: r' := by rw [← e]; simp [bs]
        injection e2 with e3 _
        subst e3
        decide
    · exact stop_mark 40 _ (by decide)
  exact ⟨_, _, rest_name hnm h1 hst, by show (97 : Int) ≠ 0; decide⟩
theorem parse_clauses {f : Nat} (s : ByteArray) : ∀ (L : List (List ByteArray × Cl)) (acc : List Cl) (k n : Nat), (∀ x ∈ L, ClOkN x.1 x.2) → n ≤ s.size → (rest s n).length ≤ f → (rest s n).length ≤ k → Has s n (bs (textsN L)) [] → clausesS f k acc (rest s n) = .ok (acc ++ L.map (·.2))
  | [], acc, k, n, _, hn, _, hk, hh => by
    have hl := hh.len hn
    have hn' : n = s.size := by have : (bs (textsN [])).length = 0 := rfl; simp [this] at hl; omega
    subst hn'
    rw [rest_end] at hk ⊢
    obtain ⟨k, rfl⟩ : ∃ k', k = k' + 1 := ⟨k - 1, by simp at hk; omega⟩
    rw [clausesS, if_pos (show (endTok s).k = 0 from rfl)]
    simp
  | (ν, c) :: L, acc, k, n, hL, hn, hf, hk, hh => by
    have hh' : Has s n (bs (lineN ν c ++ textsN L)) [] := hh
    rw [bs_app] at hh'
    obtain ⟨h1, h2⟩ := hh'.app
    rw [bs_len] at h2
    have hc : ClOkN ν c := hL (ν, c) (by simp)
    have hcl := parse_clause hc hf hn h1
    obtain ⟨t, l, e, h0⟩ := clause_first hc h1
    have hle : n + (lineN ν c).size ≤ s.size := by have := h1.len hn; rw [bs_len] at this; omega
    have hlen := clauseS_len hcl
    have hlen' : (rest s (n + (lineN ν c).size)).length < (rest s n).length := hlen
    have ih := parse_clauses (f := f) s L (acc ++ [c]) (k - 1) (n + (lineN ν c).size) (fun y hy => hL y (List.mem_cons_of_mem _ hy)) hle (by omega) (by omega) h2
    obtain ⟨k, rfl⟩ : ∃ k', k = k' + 1 := ⟨k - 1, by rw [e] at hk; simp at hk; omega⟩
    rw [e] at hcl ⊢
    rw [clausesS, if_neg h0, hcl]
    simp only []
    rw [show k + 1 - 1 = k by omega] at ih
    rw [ih]
    simp
/-- A text of clauses, each written with names of its own for its variables, is read as these clauses. -/
theorem read_texts (L : List (List ByteArray × Cl)) (hL : ∀ x ∈ L, ClOkN x.1 x.2) (hs : (textsN L).size ≤ 400) : readS (textsN L) = .ok (L.map (·.2)) := by
  unfold readS
  rw [if_neg (by omega)]
  have h0 : tokens (textsN L) = rest (textsN L) 0 := rfl
  rw [h0]
  have := parse_clauses (f := (rest (textsN L) 0).length) (textsN L) L [] ((rest (textsN L) 0).length + 1) 0 hL (by omega) (Nat.le_refl _) (by omega) (by unfold Has bs; simp)
  simpa using this
end Rf
/- Plain functions: how a question is played (promises P8 to P10): its state, its choices, what comes of a goal, and what is kept of sizes and parts. -/
namespace Rf
structure Ch where
  st : St
  cls : List Nat
structure Cf where
  now : St
  chs : List Ch
def noPart : Part := ⟨0, ⟨#[]⟩, 0, 0⟩
def topP (g : List Part) : Part := g.headD noPart
def goalP (S : St) : List Part := S.goals.headD []
def hasPred (S : St) (c : Cl) : Bool := samePart (topP c.head) (topP (goalP S))
def matchB (S : St) (c : Cl) : Bool := hasPred S c && decide ((withS S c 0).1 ≠ -1)
def matchN (S : St) : Nat → List Cl → List Nat
  | _, [] => []
  | i, c :: cs => (if matchB S c = true then [i] else []) ++ matchN S (i + 1) cs
def knownP (S : St) (cs : List Cl) : Bool := cs.any (hasPred S)
def noCl : Cl := ⟨[], [], 0⟩
def useP (cf : Cf) (s : St) (c : Cl) (h : Int) : Int × Cf := ((withS s c h).1, if (withS s c h).1 = 0 then ⟨(withS s c h).2, cf.chs⟩ else cf)
/-- The choices, the latest first. -/
def putCh (low : List Ch) (s : St) (rest : List Nat) : List Ch := if rest = [] then low else ⟨s, rest⟩ :: low
def takeUp (cs : List Cl) (now : St) (low : List Ch) (c : Ch) : Int × Cf := match c.cls with
  | [] => (0, ⟨c.st, low⟩)
  | k :: rest => useP ⟨now, putCh low c.st rest⟩ c.st (cs.getD k noCl) low.length
def againP (cs : List Cl) (cf : Cf) : Int × Cf := match cf.chs with
  | [] => (2, cf)
  | c :: low => takeUp cs cf.now low c
def chooseP (cs : List Cl) (cf : Cf) : List Nat → Int × Cf
  | [] => (-1, cf)
  | k :: rest => if rest ≠ [] ∧ 20 ≤ cf.chs.length then (6, cf) else useP ⟨cf.now, putCh cf.chs cf.now rest⟩ cf.now (cs.getD k noCl) cf.chs.length
def argN : Nat → List Part → List Part
  | 0, r => r.take (leadT r)
  | n + 1, r => argN n (r.drop (leadT r))
def argT (t : List Part) (i : Nat) : List Part := if t = [] then [] else argN i t.tail
def meetP (cf : Cf) : Int × Cf := (0, ⟨⟨cf.now.goals.tail, cf.now.terms, cf.now.fresh⟩, cf.chs⟩)
def equalE (cf : Cf) (a b : List Part) : Eqn := ⟨a, b, [], cf.now.goals.tail, cf.now.terms⟩
def equalP (cf : Cf) (a b : List Part) : Int × Cf :=
  ((solveE (equalE cf a b)).1, if (solveE (equalE cf a b)).1 = 0 then ⟨⟨(solveE (equalE cf a b)).2.behind, (solveE (equalE cf a b)).2.terms, cf.now.fresh⟩, cf.chs⟩ else cf)
def numberK (p : Part) : Int := if p.kind = 1 then 9 else if p.kind = 2 then 0 else 10
def numbersK (g : List Part) : Int := if numberK (topP (argT g 0)) = 0 then numberK (topP (argT g 1)) else numberK (topP (argT g 0))
def num0 (g : List Part) : Int := (topP (argT g 0)).value
def num1 (g : List Part) : Int := (topP (argT g 1)).value
def lessP (cf : Cf) (g : List Part) : Int × Cf := if numbersK g = 0 then (if num0 g < num1 g then meetP cf else (-1, cf)) else (numbersK g, cf)
def numT (v : Int) : List Part := [⟨2, ⟨#[]⟩, v, 0⟩]
def plusP (cf : Cf) (g : List Part) : Int × Cf := if numbersK g = 0 then (if num0 g + num1 g < -999999999 ∨ 999999999 < num0 g + num1 g then (11, cf) else equalP cf (numT (num0 g + num1 g)) (argT g 2)) else (numbersK g, cf)
def cutT (h : Int) : List Part := [⟨4, ⟨#[]⟩, h, 0⟩]
def failB : ByteArray := ⟨#[102, 97, 105, 108]⟩
def failT : List Part := [⟨3, failB, 0, 0⟩]
def notK (t : List Part) : Int := if (topP t).kind = 1 then 9 else if (topP t).kind = 2 then 10 else 0
def notP (cf : Cf) (t : List Part) : Int × Cf :=
  if notK t = 0 then (if 20 ≤ cf.chs.length then (6, cf) else (0, ⟨⟨[t, cutT cf.chs.length, failT], cf.now.terms, cf.now.fresh⟩, ⟨⟨cf.now.goals.tail, cf.now.terms, cf.now.fresh⟩, []⟩ :: cf.chs⟩)) else (notK t, cf)
/-- The oldest choices, as many as a height says. -/
def dropC (chs : List Ch) (h : Int) : List Ch := chs.drop (chs.length - h.toNat)
def trueB : ByteArray := ⟨#[116, 114, 117, 101]⟩
def eqB : ByteArray := ⟨#[101, 113]⟩
def lessB : ByteArray := ⟨#[108, 101, 115, 115]⟩
def plusB : ByteArray := ⟨#[112, 108, 117, 115]⟩
def notB : ByteArray := ⟨#[110, 111, 116]⟩
def builtP (cf : Cf) (g : List Part) : Int × Cf :=
  if (topP g).kind = 4 then meetP ⟨cf.now, dropC cf.chs (topP g).value⟩
  else if (topP g).name = trueB then meetP cf
  else if (topP g).name = eqB then equalP cf (argT g 0) (argT g 1)
  else if (topP g).name = lessB then lessP cf g
  else if (topP g).name = plusB then plusP cf g
  else if (topP g).name = notB then notP cf (argT g 0)
  else (-1, cf)
def isBuilt (g : List Part) : Bool := (topP g).kind == 4 || ((topP g).kind == 3 && builtInB (topP g).name (topP g).args)
def takeP (cs : List Cl) (cf : Cf) : Int × Cf :=
  if isBuilt (goalP cf.now) = true then builtP cf (goalP cf.now) else if knownP cf.now cs = true then chooseP cs cf (matchN cf.now 0 cs) else (12, cf)
/-- How many clauses are left in all choices, and how many choices there are. -/
def leftC : List Ch → Nat
  | [] => 0
  | c :: l => c.cls.length + 1 + leftC l
def againN (cs : List Cl) : Nat → Int × Cf → Int × Cf
  | 0, r => r
  | n + 1, r => if r.1 = -1 then againN cs n (againP cs r.2) else r
def settle (cs : List Cl) (r : Int × Cf) : Int × Cf := againN cs (leftC r.2.chs + 2) r
def playN (cs : List Cl) : Nat → Int × Cf → Int × Cf
  | n, r => if (settle cs r).1 ≠ 0 then settle cs r else if (settle cs r).2.now.goals = [] then (1, (settle cs r).2) else match n with
    | 0 => (5, (settle cs r).2)
    | m + 1 => playN cs m (takeP cs (settle cs r).2)
theorem useP_chs (cf : Cf) (s : St) (c : Cl) (h : Int) : (useP cf s c h).2.chs = cf.chs := by unfold useP; simp only []; split <;> rfl
theorem again_left {cs : List Cl} {cf : Cf} (h : cf.chs ≠ []) : leftC (againP cs cf).2.chs < leftC cf.chs := by
  unfold againP
  cases hl : cf.chs with
  | nil => exact absurd hl h
  | cons c low =>
    simp only []
    unfold takeUp
    split
    · simp [leftC]
    · rename_i k rest he
      rw [useP_chs]
      unfold putCh
      simp only []
      split
      · simp [leftC]
      · simp [leftC, he]
theorem again_none {cs : List Cl} {cf : Cf} (h : cf.chs = []) : againP cs cf = (2, cf) := by unfold againP; rw [h]
theorem againN_more (cs : List Cl) : ∀ (n : Nat) (r : Int × Cf), leftC r.2.chs + 2 ≤ n → againN cs n r = againN cs (leftC r.2.chs + 2) r := by
  have key : ∀ (n : Nat) (r : Int × Cf), leftC r.2.chs + 2 ≤ n → againN cs (n + 1) r = againN cs n r := by
    intro n
    induction n with
    | zero => intro r h; omega
    | succ n ih =>
      intro r h
      rw [againN, show againN cs (n + 1) r = if r.1 = -1 then againN cs n (againP cs r.2) else r from rfl]
      split
      · rename_i h1
        by_cases hc : r.2.chs = []
        · rw [again_none hc]
          obtain ⟨m, rfl⟩ : ∃ m, n = m + 1 := ⟨n - 1, by omega⟩
          rw [againN, if_neg (by simp), againN, if_neg (by simp)]
        · exact ih _ (by have := again_left (cs := cs) hc; omega)
      · rfl
  intro n r h
  obtain ⟨d, rfl⟩ : ∃ d, n = leftC r.2.chs + 2 + d := ⟨n - (leftC r.2.chs + 2), by omega⟩
  induction d with
  | zero => rfl
  | succ d ih => rw [← ih (by omega)]; exact key (leftC r.2.chs + 2 + d) r (by omega)
/-- How failing goes on, without its measure. -/
theorem settle_step (cs : List Cl) (r : Int × Cf) : settle cs r = if r.1 = -1 then settle cs (againP cs r.2) else r := by
  unfold settle
  rw [againN]
  split
  · by_cases hc : r.2.chs = []
    · rw [again_none hc, againN, if_neg (by simp), againN, if_neg (by simp)]
    · exact againN_more cs _ _ (by have := again_left (cs := cs) hc; omega)
  · rfl
theorem settle_fail (cs : List Cl) (cf : Cf) : settle cs (-1, cf) = settle cs (againP cs cf) := by rw [settle_step, if_pos rfl]
theorem settle_ok {cs : List Cl} {r : Int × Cf} (h : r.1 ≠ -1) : settle cs r = r := by rw [settle_step, if_neg h]
theorem playN_eq (cs : List Cl) (n : Nat) (r : Int × Cf) : playN cs n r = if (settle cs r).1 ≠ 0 then settle cs r else if (settle cs r).2.now.goals = [] then (1, (settle cs r).2) else match n with
    | 0 => (5, (settle cs r).2)
    | m + 1 => playN cs m (takeP cs (settle cs r).2) := by cases n <;> rfl
/-- What is kept of a step behind a fail or not: a rule of induction. -/
theorem settle_ind {cs : List Cl} {P : Int × Cf → Prop} (hstep : ∀ cf, P (-1, cf) → P (againP cs cf)) : ∀ (n : Nat) (r : Int × Cf), P r → P (againN cs n r)
  | 0, _, h => h
  | n + 1, r, h => by
    rw [againN]
    split
    · rename_i h1
      obtain ⟨o, cf⟩ := r
      simp only at h1
      subst h1
      exact settle_ind hstep n _ (hstep cf h)
    · exact h
end Rf
