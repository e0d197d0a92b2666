/- Plain functions: a token's text is what stands at its place; a number's value, digit by digit. -/
import Derived.Test.YtpdikdnffehmkaaGreatDoorYab
import Derived.Test.YtpdikdnffehmkaaGreatDoorYaa
namespace Rf
theorem extract_list (s : ByteArray) (a b : Nat) : (s.extract a b).data.toList = (s.data.toList.drop a).take (b - a) := by
  rw [ByteArray.data_extract, Array.toList_extract, List.extract_eq_take_drop]
theorem ext_list {a b : ByteArray} (h : a.data.toList = b.data.toList) : a = b := by
  cases a; cases b
  simp at h
  rw [h]
theorem byte_at (s : ByteArray) (n : Nat) (h : n < s.size) (c : UInt8) (hc : byteAt s n = c.toNat) : s.data.toList.drop n = c :: s.data.toList.drop (n + 1) := by
  rw [drop_cons s n h]
  have := byteAt_eq s n h
  rw [hc] at this
  rw [UInt8.toNat_inj.1 (Int.ofNat_inj.1 this)]
/-- A token's text is what stands at its place. -/
theorem tokenAt_text (s : ByteArray) (n : Nat) (hn : n < s.size) (h : (tokenAt s n).k ≠ 63) : s.extract n (n + (tokenAt s n).s.size) = (tokenAt s n).s := by
  have hrun : ∀ dg, s.extract n (n + (runS s dg n).size) = runS s dg n := by intro dg; rw [runS_size]; rfl
  unfold tokenAt at *
  split at h
  · rename_i h1
    rw [if_pos h1]
    unfold numTok at *
    split at h
    · simp [bad] at h
    · split at h
      · simp [bad] at h
      · rename_i h2 h3
        rw [if_neg h2, if_neg h3]
        show s.extract n (n + (⟨#[45]⟩ ++ runS s true (n + 1) : ByteArray).size) = ⟨#[45]⟩ ++ runS s true (n + 1)
        refine ext_list ?_
        rw [neg_size, extract_list, byte_at s n hn 45 (by rw [h1]; rfl), ByteArray.data_append, Array.toList_append, runS_size]
        have : n + (runLen s true (n + 1) + 1) - n = runLen s true (n + 1) + 1 := by omega
        rw [this, List.take_succ_cons]
        have h9 := extract_list s (n + 1) (n + 1 + runLen s true (n + 1))
        rw [show n + 1 + runLen s true (n + 1) - (n + 1) = runLen s true (n + 1) by omega] at h9
        rw [← h9]
        rfl
  · rename_i h1
    rw [if_neg h1]
    split at h
    · rename_i h2
      rw [if_pos h2]
      unfold numTok at *
      split at h
      · simp [bad] at h
      · split at h
        · simp [bad] at h
        · rename_i h3 h4
          rw [if_neg h3, if_neg h4]
          exact hrun true
    · rename_i h2
      rw [if_neg h2]
      split at h
      · rename_i h3
        rw [if_pos h3, wordTok_fit _ _ _ h]
        exact hrun false
      · rename_i h3
        rw [if_neg h3]
        split at h
        · rename_i h4
          rw [if_pos h4]
          show s.extract n (n + (s.extract n (n + 1)).size) = s.extract n (n + 1)
          rw [ByteArray.size_extract, show min (n + 1) s.size - n = 1 by omega]
        · rename_i h4
          rw [if_neg h4]
          split at h
          · rename_i h5
            rw [if_pos h5]
            show s.extract n (n + 2) = ⟨#[58, 45]⟩
            refine ext_list ?_
            rw [extract_list, byte_at s n hn 58 (by rw [h5.1]; rfl), byte_at s (n + 1) h5.2.1 45 (by rw [h5.2.2]; rfl), show n + 2 - n = 2 by omega]
            rfl
          · simp [bad] at h
def digAdd (v : Nat) (c : UInt8) : Nat := if digitB c.toNat = true then v * 10 + (c.toNat - 48) else v
/-- The number that the digits of a row spell, whatever else stands between them. -/
def vOf (l : List UInt8) : Nat := l.foldl digAdd 0
theorem vOf_succ (l : List UInt8) (j : Nat) (h : j < l.length) : vOf (l.take (j + 1)) = digAdd (vOf (l.take j)) l[j] := by
  unfold vOf
  rw [List.take_succ_eq_append_getElem h, List.foldl_append]
  rfl
theorem foldl_bd : ∀ (l : List UInt8) (acc : Nat), l.foldl digAdd acc + 1 ≤ (acc + 1) * 10 ^ l.length
  | [], acc => by simp
  | c :: l, acc => by
    refine Nat.le_trans (foldl_bd l (digAdd acc c)) ?_
    rw [List.length_cons, Nat.pow_succ, Nat.mul_comm (10 ^ l.length) 10, ← Nat.mul_assoc]
    refine Nat.mul_le_mul_right _ ?_
    unfold digAdd digitB
    split
    · rename_i h; simp at h; omega
    · omega
theorem vOf_bd (l : List UInt8) (n : Nat) (h : l.length ≤ n) : vOf l + 1 ≤ 10 ^ n := by
  have := foldl_bd l 0
  simp only [Nat.zero_add, Nat.one_mul] at this
  exact Nat.le_trans this (Nat.pow_le_pow_right (by omega) h)
theorem decFrom_fold : ∀ (l : List UInt8) (acc : Nat), (l.all fun c => digitB c.toNat) = true → Go.Lib.decFrom acc l = some (l.foldl digAdd acc)
  | [], acc, _ => rfl
  | c :: l, acc, h => by
    simp only [List.all_cons, Bool.and_eq_true] at h
    have hc := h.1
    unfold digitB at hc
    simp only [Bool.and_eq_true, decide_eq_true_eq] at hc
    rw [Go.Lib.decFrom, Go.Lib.digitVal, if_pos (by omega), List.foldl_cons]
    show Go.Lib.decFrom (acc * 10 + (c.toNat - 48)) l = _
    rw [decFrom_fold l _ h.2]
    unfold digAdd
    rw [if_pos h.1]
def signV (c : Int) (v : Nat) : Int := if c = 45 then -(v : Int) else v
/-- What a number's token spells. -/
theorem numVal_tok (s : ByteArray) (n : Nat) (hk : (tokenAt s n).k = 110) : numVal (tokenAt s n).s = signV (byteAt s n) (vOf (tokenAt s n).s.data.toList) := by
  have hnum : ∀ (neg : Bool) (W : ByteArray), (W.data.toList.all fun c => digitB c.toNat) = true → (numTok n neg W).k = 110 → numVal (numTok n neg W).s = if neg = true then -(vOf (numTok n neg W).s.data.toList : Int) else vOf (numTok n neg W).s.data.toList := by
    intro neg W hW hk
    unfold numTok at *
    split at hk
    · simp [bad] at hk
    · split at hk
      · simp [bad] at hk
      · rename_i h1 h2
        rw [if_neg h1, if_neg h2]
        have hd := decFrom_fold W.data.toList 0 hW
        have hdn : Go.Lib.decNat W.data.toList = some (vOf W.data.toList) := by
          unfold Go.Lib.decNat
          rw [if_neg (by rw [List.isEmpty_iff]; intro e; apply h1; simpa using congrArg List.length e)]
          exact hd
        cases neg with
        | true =>
          show numVal (⟨#[45]⟩ ++ W : ByteArray) = -(vOf (⟨#[45]⟩ ++ W : ByteArray).data.toList : Int)
          unfold numVal
          rw [ByteArray.data_append, Array.toList_append]
          have : vOf ((#[45] : Array UInt8).toList ++ W.data.toList) = vOf W.data.toList := by unfold vOf; rw [List.foldl_append]; rfl
          rw [this]
          simp [Go.Lib.atoi, hdn]
        | false =>
          show numVal W = (vOf W.data.toList : Int)
          unfold numVal
          cases hw : W.data.toList with
          | nil => exact absurd (by simpa using congrArg List.length hw) h1
          | cons c l =>
            rw [hw] at hW hdn
            simp only [List.all_cons, Bool.and_eq_true] at hW
            have hc := hW.1
            unfold digitB at hc
            simp only [Bool.and_eq_true, decide_eq_true_eq] at hc
            have c1 : (c == 45) = false := by rw [beq_eq_false_iff_ne]; rintro rfl; revert hc; decide
            have c2 : (c == 43) = false := by rw [beq_eq_false_iff_ne]; rintro rfl; revert hc; decide
            simp [Go.Lib.atoi, c1, c2, hdn]
  have hm : ∀ c : Int, markB c = true → c ≠ 110 := by intro c h; unfold markB at h; simp at h; omega
  unfold signV
  unfold tokenAt at *
  split at hk
  · rename_i h1
    rw [if_pos h1, if_pos h1, hnum true _ (run_digits _ _) hk, if_pos rfl]
  · rename_i h1
    rw [if_neg h1, if_neg h1]
    split at hk
    · rename_i h2
      rw [if_pos h2, hnum false _ (run_digits _ _) hk, if_neg (by decide)]
    · split at hk
      · unfold wordTok at hk
        split at hk
        · simp [bad] at hk
        · split at hk <;> simp at hk
      · split at hk
        · rename_i h; exact absurd hk (hm _ h)
        · split at hk
          · simp at hk
          · simp [bad] at hk
end Rf
/- Plain functions: goals and questions as the program reads them (promise P4). -/
namespace Rf
/-- Goals as the program reads them: a wrong token behind the last is left to what follows. -/
def goalsP (f : Nat) : Nat → List (List Part) → List Tok → List ByteArray → Except (Int × Nat) (List (List Part) × List Tok × List ByteArray)
  | 0, _, _, _ => .error (2, 0)
  | k + 1, acc, l, ns => match goalS f l ns with
    | .error e => .error e
    | .ok (p, l1, ns1) => match l1 with
      | [] => .error (2, 0)
      | u :: l2 => if u.k = 44 then (if acc.length + 1 = 8 then .error (3, u.at_) else goalsP f k (acc ++ [p]) l2 ns1) else .ok (acc ++ [p], u :: l2, ns1)
def noBad (res : Except (Int × Nat) (List (List Part) × List Tok × List ByteArray)) : Except (Int × Nat) (List (List Part) × List Tok × List ByteArray) :=
  match res with
  | .ok (gs, u :: l2, ns) => if u.k = 63 then .error (errOf u 2) else .ok (gs, u :: l2, ns)
  | x => x
theorem goalsS_P (f : Nat) : ∀ (k : Nat) (acc : List (List Part)) (l : List Tok) (ns : List ByteArray), goalsS f k acc l ns = noBad (goalsP f k acc l ns)
  | 0, _, _, _ => rfl
  | k + 1, acc, l, ns => by
    rw [goalsS, goalsP]
    cases goalS f l ns with
    | error e => rfl
    | ok x =>
      obtain ⟨p, l1, ns1⟩ := x
      cases l1 with
      | nil => rfl
      | cons u l2 =>
        simp only []
        by_cases h : u.k = 44
        · rw [if_pos h, if_pos h]
          split
          · rfl
          · exact goalsS_P f k _ l2 ns1
        · rw [if_neg h, if_neg h]
          rfl
theorem goalsP_len (f : Nat) : ∀ (k : Nat) (acc : List (List Part)) (l : List Tok) (ns : List ByteArray) (a1 : List (List Part)) (l2 : List Tok) (ns2 : List ByteArray),
    goalsP f k acc l ns = .ok (a1, l2, ns2) → ∃ y l3, l2 = y :: l3
  | 0, _, _, _, _, _, _, e => by simp [goalsP] at e
  | k + 1, acc, l, ns, a1, l2, ns2, e => by
    rw [goalsP] at e
    cases hr : goalS f l ns with
    | error x => rw [hr] at e; cases e
    | ok x =>
      obtain ⟨p, l1, ns1⟩ := x
      rw [hr] at e
      cases l1 with
      | nil => cases e
      | cons u l3 =>
        simp only at e
        split at e
        · split at e
          · cases e
          · exact goalsP_len f k _ l3 ns1 a1 l2 ns2 e
        · simp only [Except.ok.injEq, Prod.mk.injEq] at e; obtain ⟨_, rfl, _⟩ := e; exact ⟨_, _, rfl⟩
/-- A question as the program reads it: its goals and its variables' names. -/
def questP (f : Nat) (l : List Tok) : Except (Int × Nat) (List (List Part) × List ByteArray) :=
  match goalsP f 8 [] l [] with
  | .error e => .error e
  | .ok (gs, l1, ns) => match l1 with
    | [] => .error (2, 0)
    | u :: l2 => if u.k = 46 then (match l2 with
        | [] => .error (2, 0)
        | y :: _ => if y.k = 0 then .ok (gs, ns) else .error (errOf y 2))
      else .error (errOf u 2)
theorem goalsP_good (f : Nat) : ∀ (k : Nat) (acc : List (List Part)) (l : List Tok) (ns : List ByteArray) (a1 : List (List Part)) (l2 : List Tok) (ns2 : List ByteArray),
    Ended l → ns.length ≤ 16 → (∀ q ∈ acc, (∀ x ∈ q, Good x) ∧ q.length ≤ 400) → l.length ≤ 401 → goalsP f k acc l ns = .ok (a1, l2, ns2) → (∀ q ∈ a1, (∀ x ∈ q, Good x) ∧ q.length ≤ 400) ∧ ns2.length ≤ 16 ∧ Ended l2
  | 0, _, _, _, _, _, _, _, _, _, _, e => by simp [goalsP] at e
  | k + 1, acc, l, ns, a1, l2, ns2, hl, hn, hacc, h401, e => by
    rw [goalsP] at e
    cases hr : goalS f l ns with
    | error x => rw [hr] at e; cases e
    | ok x =>
      obtain ⟨p, l1, ns1⟩ := x
      obtain ⟨g1, g2, g3, g4⟩ := goalS_good f l ns p l1 ns1 hl hn hr
      rw [hr] at e
      cases l1 with
      | nil => cases e
      | cons u l3 =>
        simp only at e
        simp only [List.length_cons] at g3
        have hacc' : ∀ q ∈ acc ++ [p], (∀ x ∈ q, Good x) ∧ q.length ≤ 400 := fun q hq => by
          rcases List.mem_append.1 hq with hq | hq
          · exact hacc q hq
          · simp at hq; subst hq; exact ⟨g1, by omega⟩
        split at e
        · split at e
          · cases e
          · exact goalsP_good f k _ l3 ns1 a1 l2 ns2 (g4.tail (by omega) (by omega)) g2 hacc' (by omega) e
        · simp only [Except.ok.injEq, Prod.mk.injEq] at e
          obtain ⟨rfl, rfl, rfl⟩ := e
          exact ⟨hacc', g2, g4⟩
theorem goalsP_arg (f : Nat) : ∀ (k : Nat) (acc : List (List Part)) (l : List Tok) (ns : List ByteArray) (a1 : List (List Part)) (l2 : List Tok) (ns2 : List ByteArray),
    (∀ q ∈ acc, ∀ x ∈ q, ArgOk x) → goalsP f k acc l ns = .ok (a1, l2, ns2) → ∀ q ∈ a1, ∀ x ∈ q, ArgOk x
  | 0, _, _, _, _, _, _, _, e => by simp [goalsP] at e
  | k + 1, acc, l, ns, a1, l2, ns2, hacc, e => by
    rw [goalsP] at e
    cases hr : goalS f l ns with
    | error x => rw [hr] at e; cases e
    | ok x =>
      obtain ⟨p, l1, ns1⟩ := x
      have g1 := goalS_arg hr
      rw [hr] at e
      cases l1 with
      | nil => cases e
      | cons u l3 =>
        simp only at e
        have hacc' : ∀ q ∈ acc ++ [p], ∀ x ∈ q, ArgOk x := fun q hq => by
          rcases List.mem_append.1 hq with hq | hq
          · exact hacc q hq
          · simp at hq; subst hq; exact g1
        split at e
        · split at e
          · cases e
          · exact goalsP_arg f k _ l3 ns1 a1 l2 ns2 hacc' e
        · simp only [Except.ok.injEq, Prod.mk.injEq] at e
          obtain ⟨rfl, rfl, rfl⟩ := e
          exact hacc'
def questS (s : ByteArray) : Except (Int × Nat) (List (List Part) × List ByteArray) :=
  if 400 < s.size then .error (1, 0) else questP (tokens s).length (tokens s)
end Rf
/- Plain functions: how a term is written in an answer (promise P12): its variables are _1, _2 and so on; both ways of writing at once. -/
namespace Rf
def wordA (p : Part) : ByteArray := if p.kind = 1 then ⟨#[95]⟩ ++ itoaB (p.value + 1) else if p.kind = 2 then itoaB p.value else if p.kind = 4 then ⟨#[33]⟩ else p.name
def wordW : Bool → Part → ByteArray
  | true, p => wordP p
  | false, p => wordA p
theorem wordW_name (b : Bool) (p : Part) (h1 : (p.kind == 1) = false) (h2 : (p.kind == 2) = false) (h4 : (p.kind == 4) = false) : wordW b p = p.name := by
  rw [beq_eq_false_iff_ne] at h1 h2 h4
  cases b
  · show wordA p = p.name
    unfold wordA; rw [if_neg h1, if_neg h2, if_neg h4]
  · show wordP p = p.name
    unfold wordP; rw [if_neg h1, if_neg h2, if_neg h4]
theorem wordW_cut (b : Bool) (p : Part) (h1 : (p.kind == 1) = false) (h2 : (p.kind == 2) = false) (h4 : (p.kind == 4) = true) : wordW b p = ⟨#[33]⟩ := by
  rw [beq_eq_false_iff_ne] at h1 h2
  have h4 := eq_of_beq h4
  cases b
  · show wordA p = _
    unfold wordA; rw [if_neg h1, if_neg h2, if_pos h4]
  · show wordP p = _
    unfold wordP; rw [if_neg h1, if_neg h2, if_pos h4]
theorem wordW_num (b : Bool) (p : Part) (h1 : (p.kind == 1) = false) (h2 : (p.kind == 2) = true) : wordW b p = itoaB p.value := by
  rw [beq_eq_false_iff_ne] at h1
  have h2 := eq_of_beq h2
  cases b
  · show wordA p = _
    unfold wordA; rw [if_neg h1, if_pos h2]
  · show wordP p = _
    unfold wordP; rw [if_neg h1, if_pos h2]
theorem wordW_let (p : Part) (h1 : (p.kind == 1) = true) : wordW true p = letterOf p.value := by
  show wordP p = _
  unfold wordP; rw [if_pos (eq_of_beq h1)]
theorem wordW_var (p : Part) (h1 : (p.kind == 1) = true) : wordW false p = ⟨#[95]⟩ ++ itoaB (p.value + 1) := by
  show wordA p = _
  unfold wordA; rw [if_pos (eq_of_beq h1)]
def textW (b : Bool) : List Part → List Nat → ByteArray
  | [], _ => ⟨#[]⟩
  | p :: ps, st => if 0 < p.args then wordW b p ++ (⟨#[40]⟩ ++ textW b ps (p.args.toNat :: st)) else wordW b p ++ ((closeP st).1 ++ textW b ps (closeP st).2)
def txtW (b : Bool) (ps : List Part) : ByteArray := textW b ps []
def txtA (ps : List Part) : ByteArray := txtW false ps
theorem textW_true : ∀ (ps : List Part) (st : List Nat), textW true ps st = textP ps st
  | [], _ => rfl
  | p :: ps, st => by rw [textW, textP, textW_true ps, textW_true ps]; rfl
theorem txtW_true (ps : List Part) : txtW true ps = txt ps := textW_true ps []
def GoodA (p : Part) : Prop := (p.kind = 1 → 0 ≤ p.value ∧ p.value < 1000000) ∧ (p.kind = 2 → -999999999 ≤ p.value ∧ p.value ≤ 999999999) ∧ p.name.size ≤ 12
def GoodW : Bool → Part → Prop
  | true, p => Good p
  | false, p => GoodA p
theorem Good.a {p : Part} (h : Good p) : GoodA p := ⟨fun k => by have := h.1 k; omega, h.2.1, h.2.2⟩
theorem GoodW.a {b : Bool} {p : Part} (h : GoodW b p) : GoodA p := by cases b with
  | true => exact Good.a h
  | false => exact h
theorem GoodW.l {p : Part} (h : GoodW true p) (k : p.kind = 1) : 0 ≤ p.value ∧ p.value < 16 := h.1 k
theorem wordW_size (b : Bool) (p : Part) (h : GoodW b p) : (wordW b p).size ≤ 22 := by
  cases b with
  | true => have := word_size p h; show (wordP p).size ≤ 22; omega
  | false =>
    show (wordA p).size ≤ 22
    unfold wordA
    split
    · rename_i h1
      have h3 := h.1 h1
      have := Go.Lib.itoa_length_le (p.value + 1) (by omega) (by omega)
      rw [ByteArray.size_append]
      have h4 : (⟨#[95]⟩ : ByteArray).size = 1 := rfl
      have h5 : (itoaB (p.value + 1)).size ≤ 21 := by unfold itoaB; simpa [ByteArray.size] using this
      omega
    · split
      · rename_i h2
        have h3 := h.2.1 h2
        have := Go.Lib.itoa_length_le p.value (by omega) (by omega)
        have h5 : (itoaB p.value).size ≤ 21 := by unfold itoaB; simpa [ByteArray.size] using this
        omega
      · split
        · show 1 ≤ 22; omega
        · have := h.2.2; omega
theorem textW_size (b : Bool) : ∀ (ps : List Part) (st : List Nat), (∀ p ∈ ps, GoodW b p) → (textW b ps st).size ≤ 24 * ps.length + st.length
  | [], st, _ => by simp [textW, ByteArray.size]
  | p :: ps, st, h => by
    have hw := wordW_size b p (h p (by simp))
    have h' : ∀ q ∈ ps, GoodW b q := fun q hq => h q (List.mem_cons_of_mem _ hq)
    rw [textW]
    split
    · have := textW_size b ps (p.args.toNat :: st) h'
      have h1 : (⟨#[40]⟩ : ByteArray).size = 1 := rfl
      simp only [ByteArray.size_append, List.length_cons] at *
      omega
    · have := textW_size b ps (closeP st).2 h'
      have := close_size st
      simp only [ByteArray.size_append, List.length_cons] at *
      omega
theorem txtW_size (b : Bool) (ps : List Part) (h : ∀ p ∈ ps, GoodW b p) : (txtW b ps).size ≤ 24 * ps.length := by
  have := textW_size b ps [] h
  simpa [txtW] using this
end Rf
/- Plain functions: two terms made equal (promise P11), on terms as lists of their parts: what is put in a variable's place, how far the first term reaches, the pairs one after the other. -/
namespace Rf
def samePart (p q : Part) : Bool := p.kind == q.kind && decide (p.name = q.name) && p.value == q.value && p.args == q.args
theorem samePart_iff {p q : Part} : samePart p q = true ↔ p = q := by
  unfold samePart
  cases p; cases q
  simp [and_assoc]
def isV (v : Int) (p : Part) : Bool := p.kind == 1 && p.value == v
def countV (v : Int) : List Part → Nat
  | [] => 0
  | p :: t => countV v t + (if isV v p = true then 1 else 0)
def putV (v : Int) (x : List Part) : List Part → List Part
  | [] => []
  | p :: t => (if isV v p = true then x else [p]) ++ putV v x t
def leadN : Int → List Part → Nat
  | _, [] => 0
  | m, p :: t => if m + (p.args - 1) = 0 then 1 else leadN (m + (p.args - 1)) t + 1
def leadT (t : List Part) : Nat := leadN 1 t
def sizeT : List (List Part) → Nat
  | [] => 0
  | t :: ts => t.length + sizeT ts
structure Eqn where
  f : List Part
  s : List Part
  body : List (List Part)
  behind : List (List Part)
  terms : List (List Part)
def Eqn.size (e : Eqn) : Nat := e.f.length + e.s.length + sizeT e.body + sizeT e.behind + sizeT e.terms
def Eqn.put (e : Eqn) (v : Int) (x : List Part) : Eqn := ⟨putV v x e.f, putV v x e.s, e.body.map (putV v x), e.behind.map (putV v x), e.terms.map (putV v x)⟩
/-- What comes of putting x in v's place everywhere: 8 cyclic, 7 big, 0 done. -/
def putE (e : Eqn) (v : Int) (x : List Part) : Int × Eqn :=
  if 0 < countV v x then (8, e) else if 200 < (e.put v x).size then (7, e) else (0, e.put v x)
/-- One look at the first pair. -/
def stepE (e : Eqn) : Int × Eqn :=
  match e.f, e.s with
  | p :: f, q :: s =>
    if samePart p q = true then (0, { e with f := f, s := s })
    else if p.kind = 1 then putE { e with f := f, s := (q :: s).drop (leadT (q :: s)) } p.value ((q :: s).take (leadT (q :: s)))
    else if q.kind = 1 then putE { e with f := (p :: f).drop (leadT (p :: f)), s := s } q.value ((p :: f).take (leadT (p :: f)))
    else (-1, e)
  | _, _ => (0, e)
def doneE (e : Eqn) : Bool := e.f.isEmpty || e.s.isEmpty
def solveN : Nat → Eqn → Int × Eqn
  | 0, e => (0, e)
  | n + 1, e => if doneE e = true then (0, e) else if (stepE e).1 = 0 then solveN n (stepE e).2 else stepE e
def haltN : Nat → Eqn → Bool
  | 0, _ => false
  | n + 1, e => if doneE e = true then true else if (stepE e).1 = 0 then haltN n (stepE e).2 else true
theorem solveN_more : ∀ (n : Nat) (e : Eqn), haltN n e = true → ∀ m, n ≤ m → solveN m e = solveN n e ∧ haltN m e = true
  | 0, _, h, _, _ => by simp [haltN] at h
  | n + 1, e, h, m, hm => by
    obtain ⟨m, rfl⟩ : ∃ k, m = k + 1 := ⟨m - 1, by omega⟩
    rw [haltN] at h
    rw [solveN, solveN, haltN]
    split
    · exact ⟨rfl, rfl⟩
    · rename_i h1
      rw [if_neg h1] at h
      split
      · rename_i h2
        rw [if_pos h2] at h
        exact solveN_more n _ h m (by omega)
      · exact ⟨rfl, rfl⟩
theorem countV_zero {v : Int} : ∀ {t : List Part}, countV v t = 0 → ∀ p ∈ t, isV v p = false
  | [], _, _, h => by cases h
  | q :: t, h, p, hp => by
    rw [countV] at h
    rcases List.mem_cons.1 hp with rfl | hp
    · cases hq : isV v p with
      | false => rfl
      | true => rw [hq] at h; simp at h
    · exact countV_zero (by omega) p hp
theorem putV_mem {v : Int} {x : List Part} : ∀ {t : List Part} {p : Part}, p ∈ putV v x t → (p ∈ t ∧ isV v p = false) ∨ p ∈ x
  | [], _, h => by simp [putV] at h
  | q :: t, p, h => by
    rw [putV] at h
    rcases List.mem_append.1 h with h | h
    · split at h
      · exact .inr h
      · rename_i hq
        simp at h; subst h
        exact .inl ⟨by simp, by simpa using hq⟩
    · rcases putV_mem h with ⟨h1, h2⟩ | h1
      · exact .inl ⟨List.mem_cons_of_mem _ h1, h2⟩
      · exact .inr h1
/-- All variables of the two lists are among L. -/
def VarsIn (L : List Int) (e : Eqn) : Prop := ∀ p, p ∈ e.f ∨ p ∈ e.s → p.kind = 1 → p.value ∈ L
theorem putE_ok {e : Eqn} {v : Int} {x : List Part} (h : (putE e v x).1 = 0) : countV v x = 0 ∧ (putE e v x).2 = e.put v x ∧ (e.put v x).size ≤ 200 := by
  unfold putE at *
  split at h
  · simp at h
  · split at h
    · simp at h
    · rename_i h1 h2
      rw [if_neg h1, if_neg h2]
      exact ⟨by omega, rfl, by omega⟩
theorem mem_take {p : Part} {n : Nat} {t : List Part} (h : p ∈ t.take n) : p ∈ t := List.mem_of_mem_take h
theorem putE_vars {e : Eqn} {v : Int} {x : List Part} {L : List Int} (h : (putE e v x).1 = 0) (hL : VarsIn L e) (hx : ∀ p ∈ x, p.kind = 1 → p.value ∈ L) : VarsIn (L.filter (fun u => u != v)) (putE e v x).2 := by
  obtain ⟨h0, h1, _⟩ := putE_ok h
  rw [h1]
  have key : ∀ t p, p ∈ putV v x t → (∀ q ∈ t, q.kind = 1 → q.value ∈ L) → p.kind = 1 → p.value ∈ L.filter (fun u => u != v) := by
    intro t p hp ht hk
    rw [List.mem_filter]
    rcases putV_mem hp with ⟨h2, h3⟩ | h2
    · refine ⟨ht p h2 hk, ?_⟩
      unfold isV at h3
      rw [hk] at h3
      simpa using h3
    · refine ⟨hx p h2 hk, ?_⟩
      have h3 := countV_zero h0 p h2
      unfold isV at h3
      rw [hk] at h3
      simpa using h3
  intro p hp hk
  rcases hp with hp | hp
  · exact key e.f p hp (fun q hq => hL q (.inl hq)) hk
  · exact key e.s p hp (fun q hq => hL q (.inr hq)) hk
theorem filter_shorter {v : Int} : ∀ {L : List Int}, v ∈ L → (L.filter (fun u => u != v)).length < L.length
  | [], h => by cases h
  | u :: L, h => by
    by_cases hu : u = v
    · subst hu
      rw [List.filter_cons_of_neg (by simp)]
      have := List.length_filter_le (fun x => x != u) L
      simp only [List.length_cons]; omega
    · have h' : v ∈ L := by
        rcases List.mem_cons.1 h with rfl | h
        · exact absurd rfl hu
        · exact h
      have := filter_shorter h'
      rw [List.filter_cons_of_pos (by simpa using hu)]
      simp only [List.length_cons]; omega
/-- The pairs come to an end. -/
theorem haltN_ex : ∀ (n : Nat) (L : List Int) (e : Eqn), VarsIn L e → L.length * 201 + e.f.length < n → haltN n e = true
  | 0, _, _, _, h => by omega
  | n + 1, L, e, hL, h => by
    rw [haltN]
    split
    · rfl
    · rename_i hd
      split
      · rename_i h0
        obtain ⟨F, S, bo, be, te⟩ := e
        cases F with
        | nil => simp [doneE] at hd
        | cons p f =>
        cases S with
        | nil => simp [doneE] at hd
        | cons q s =>
        by_cases hpq : samePart p q = true
        · have hs : stepE ⟨p :: f, q :: s, bo, be, te⟩ = (0, ⟨f, s, bo, be, te⟩) := by simp only [stepE]; rw [if_pos hpq]
          rw [hs]
          refine haltN_ex n L _ (fun x hx hk => ?_) ?_
          · exact hL x (hx.imp (List.mem_cons_of_mem _) (List.mem_cons_of_mem _)) hk
          · simp only [List.length_cons] at h; simp only []; omega
        · have go : ∀ (e1 : Eqn) (v : Int) (x : List Part), (putE e1 v x).1 = 0 → VarsIn L e1 → (∀ p ∈ x, p.kind = 1 → p.value ∈ L) → v ∈ L → haltN n (putE e1 v x).2 = true := by
            intro e1 v x h1 h2 h3 h4
            have h5 := filter_shorter h4
            obtain ⟨_, h6, h7⟩ := putE_ok h1
            refine haltN_ex n _ _ (putE_vars h1 h2 h3) ?_
            have : (putE e1 v x).2.f.length ≤ 200 := by rw [h6]; unfold Eqn.size at h7; omega
            omega
          by_cases hp : p.kind = 1
          · have hs : stepE ⟨p :: f, q :: s, bo, be, te⟩ = putE ⟨f, (q :: s).drop (leadT (q :: s)), bo, be, te⟩ p.value ((q :: s).take (leadT (q :: s))) := by
              simp only [stepE]; rw [if_neg hpq, if_pos hp]
            rw [hs] at h0 ⊢
            refine go _ _ _ h0 (fun x hx hk => ?_) (fun x hx hk => hL x (.inr (mem_take hx)) hk) (hL p (.inl (by simp)) hp)
            exact hL x (hx.imp (List.mem_cons_of_mem _) List.mem_of_mem_drop) hk
          · by_cases hq : q.kind = 1
            · have hs : stepE ⟨p :: f, q :: s, bo, be, te⟩ = putE ⟨(p :: f).drop (leadT (p :: f)), s, bo, be, te⟩ q.value ((p :: f).take (leadT (p :: f))) := by
                simp only [stepE]; rw [if_neg hpq, if_neg hp, if_pos hq]
              rw [hs] at h0 ⊢
              refine go _ _ _ h0 (fun x hx hk => ?_) (fun x hx hk => hL x (.inl (mem_take hx)) hk) (hL q (.inr (by simp)) hq)
              exact hL x (hx.imp List.mem_of_mem_drop (List.mem_cons_of_mem _)) hk
            · have hs : stepE ⟨p :: f, q :: s, bo, be, te⟩ = (-1, ⟨p :: f, q :: s, bo, be, te⟩) := by
                simp only [stepE]; rw [if_neg hpq, if_neg hp, if_neg hq]
              rw [hs] at h0; simp at h0
      · rfl
def fuelE (e : Eqn) : Nat := (e.f.length + e.s.length) * 201 + e.f.length + 1
def solveE (e : Eqn) : Int × Eqn := solveN (fuelE e) e
theorem haltE (e : Eqn) : haltN (fuelE e) e = true := by
  refine haltN_ex _ ((e.f ++ e.s).map (fun p => p.value)) e (fun p hp _ => List.mem_map.2 ⟨p, List.mem_append.2 hp, rfl⟩) ?_
  simp only [List.length_map, List.length_append]
  unfold fuelE; omega
theorem solveE_of {n : Nat} {e : Eqn} (h : haltN n e = true) : solveN n e = solveE e := by
  unfold solveE
  rcases Nat.le_total n (fuelE e) with h1 | h1
  · exact (solveN_more n e h _ h1).1.symm
  · exact (solveN_more _ e (haltE e) _ h1).1
/-- How the solver goes on, without its measure. -/
theorem solveE_step (e : Eqn) : solveE e = if doneE e = true then (0, e) else if (stepE e).1 = 0 then solveE (stepE e).2 else stepE e := by
  rw [← solveE_of (n := fuelE e + 1) ((solveN_more _ e (haltE e) _ (Nat.le_succ _)).2), solveN]
  split
  · rfl
  · rename_i hd
    split
    · rename_i h0
      refine solveE_of ?_
      have := (solveN_more _ e (haltE e) _ (Nat.le_succ _)).2
      rw [Nat.succ_eq_add_one, haltN, if_neg hd, if_pos h0] at this
      exact this
    · rfl
end Rf
/- Plain functions: a clause's own variables, a state of a question, a clause used for its first goal (promise P10); variables numbered anew by where they first stand. -/
namespace Rf
def ownP (off h : Int) (p : Part) : Part := if p.kind = 1 then { p with value := p.value + off } else if p.kind = 4 then { p with value := h } else p
def ownT (off h : Int) (t : List Part) : List Part := t.map (ownP off h)
def maxI (a b : Int) : Int := if b < a then a else b
def pastN (a : Int) : List Part → Int
  | [] => a
  | p :: t => pastN (if p.kind = 1 then maxI a (p.value + 1) else a) t
def pastT (t : List Part) : Int := pastN 0 t
def pastTs (a : Int) : List (List Part) → Int
  | [] => a
  | t :: ts => pastTs (maxI a (pastT t)) ts
def pastC (c : Cl) : Int := pastTs (pastT c.head) c.body
structure St where
  goals : List (List Part)
  terms : List (List Part)
  fresh : Int
def withE (s : St) (c : Cl) (h : Int) : Eqn := ⟨s.goals.headD [], ownT s.fresh h c.head, c.body.map (ownT s.fresh h), s.goals.tail, s.terms⟩
def withS (s : St) (c : Cl) (h : Int) : Int × St :=
  if (solveE (withE s c h)).1 = 0 then (0, ⟨(solveE (withE s c h)).2.body ++ (solveE (withE s c h)).2.behind, (solveE (withE s c h)).2.terms, s.fresh + pastC c⟩) else ((solveE (withE s c h)).1, ⟨[], [], 0⟩)
/-- The number of a variable among those that have one; a new one stands behind. -/
def numV (ns : List Int) (v : Int) : List Int := if v ∈ ns then ns else ns ++ [v]
def renP (ns : List Int) (p : Part) : Part := if p.kind = 1 then { p with value := ((numV ns p.value).idxOf p.value : Nat) } else p
def stepV (ns : List Int) (p : Part) : List Int := if p.kind = 1 then numV ns p.value else ns
def renT (ns : List Int) : List Part → List Part × List Int
  | [] => ([], ns)
  | p :: t => (renP ns p :: (renT (stepV ns p) t).1, (renT (stepV ns p) t).2)
def renTs (ns : List Int) : List (List Part) → List (List Part) × List Int
  | [] => ([], ns)
  | t :: ts => ((renT ns t).1 :: (renTs (renT ns t).2 ts).1, (renTs (renT ns t).2 ts).2)
theorem putV_len_le {v : Int} {x : List Part} : ∀ (t : List Part), (putV v x t).length + countV v t = t.length + countV v t * x.length
  | [] => by simp [putV, countV]
  | p :: t => by
    have ih := putV_len_le (v := v) (x := x) t
    rw [putV, countV]
    split
    · rw [List.length_append, List.length_cons, Nat.add_mul, Nat.one_mul]; omega
    · simp only [List.length_append, List.length_cons, List.length_nil, Nat.add_zero]; omega
theorem countV_le {v : Int} : ∀ (t : List Part), countV v t ≤ t.length
  | [] => by simp [countV]
  | p :: t => by
    have := countV_le (v := v) t
    rw [countV, List.length_cons]
    split <;> omega
theorem putV_none {v : Int} {x : List Part} : ∀ {t : List Part}, countV v t = 0 → putV v x t = t
  | [], _ => rfl
  | p :: t, h => by
    rw [countV] at h
    have hp : ¬ isV v p = true := by intro e; rw [if_pos e] at h; omega
    rw [putV, if_neg hp, putV_none (t := t) (by omega)]
    rfl
theorem putV_app {v : Int} {x : List Part} : ∀ (s t : List Part), putV v x (s ++ t) = putV v x s ++ putV v x t
  | [], _ => rfl
  | p :: s, t => by rw [List.cons_append, putV, putV, putV_app s t, List.append_assoc]
theorem countV_app {v : Int} : ∀ (s t : List Part), countV v (s ++ t) = countV v s + countV v t
  | [], t => by simp [countV]
  | p :: s, t => by rw [List.cons_append, countV, countV, countV_app s t]; omega
/-- How great all would be, as the program counts it: it stops behind 200. -/
def sizeW (v : Int) (n : Nat) : Nat → List (List Part) → Nat
  | z, [] => z
  | z, t :: ts => if 200 < z then z else sizeW v n (z + t.length + countV v t * n) ts
theorem sizeT_put {v : Int} {x : List Part} {n : Nat} (hx : x.length = n + 1) (t : List Part) : (putV v x t).length = t.length + countV v t * n := by
  have := putV_len_le (v := v) (x := x) t
  rw [hx, Nat.mul_add, Nat.mul_one] at this
  omega
theorem sizeW_big {v : Int} {x : List Part} {n : Nat} (hx : x.length = n + 1) : ∀ (ts : List (List Part)) (z : Nat), 200 < sizeW v n z ts ↔ 200 < z + sizeT (ts.map (putV v x))
  | [], z => by simp [sizeW, sizeT]
  | t :: ts, z => by
    rw [sizeW, List.map_cons, sizeT, sizeT_put hx]
    split
    · constructor <;> intro _ <;> omega
    · rw [sizeW_big hx ts]
      constructor <;> intro _ <;> omega
theorem sizeW_le {v : Int} {n B : Nat} (hB : ∀ t : List Part, t.length ≤ B → t.length + countV v t * n ≤ B + B * n) : ∀ (ts : List (List Part)) (z : Nat), (∀ t ∈ ts, t.length ≤ B) → z ≤ 200 + (B + B * n) → sizeW v n z ts ≤ 200 + (B + B * n)
  | [], z, _, h => h
  | t :: ts, z, ht, h => by
    rw [sizeW]
    split
    · exact h
    · refine sizeW_le hB ts _ (fun q hq => ht q (List.mem_cons_of_mem _ hq)) ?_
      have := hB t (ht t (by simp))
      omega
end Rf
