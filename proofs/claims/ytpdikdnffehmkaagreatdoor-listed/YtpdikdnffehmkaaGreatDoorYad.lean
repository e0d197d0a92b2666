/- Plain facts: what stands at a place of a text is read there: names, variables, numbers, marks, blanks. -/
import Derived.Test.YtpdikdnffehmkaaGreatDoorYac
import Derived.Test.YtpdikdnffehmkaaGreatDoorYab
namespace Rf
/-- The bytes b stand at place n of the text, and r behind them. -/
def Has (s : ByteArray) (n : Nat) (b r : List UInt8) : Prop := s.data.toList.drop n = b ++ r
theorem Has.len {s : ByteArray} {n : Nat} {b r : List UInt8} (h : Has s n b r) (hn : n ≤ s.size) : n + b.length + r.length = s.size := by
  have := congrArg List.length h
  simp at this
  have h2 : s.data.size = s.size := rfl
  omega
theorem Has.app {s : ByteArray} {n : Nat} {a b r : List UInt8} (h : Has s n (a ++ b) r) : Has s n a (b ++ r) ∧ Has s (n + a.length) b r := by
  unfold Has at *
  refine ⟨by rw [h, List.append_assoc], ?_⟩
  rw [← List.drop_drop, h, List.append_assoc, List.drop_left]
theorem Has.join {s : ByteArray} {n : Nat} {a b r : List UInt8} (h : Has s n a (b ++ r)) : Has s (n + a.length) b r := by
  unfold Has at *
  rw [← List.drop_drop, h, List.drop_left]
theorem Has.lt {s : ByteArray} {n : Nat} {c : UInt8} {b r : List UInt8} (h : Has s n (c :: b) r) : n < s.size := by
  have := congrArg List.length h
  simp at this
  have h2 : s.data.size = s.size := rfl
  omega
theorem Has.byte {s : ByteArray} {n : Nat} {c : UInt8} {b r : List UInt8} (h : Has s n (c :: b) r) : byteAt s n = c.toNat := by
  unfold byteAt
  have h1 : (s.data.toList.drop n)[0]? = some c := by rw [h]; rfl
  rw [List.getElem?_drop, Nat.add_zero] at h1
  rw [h1]
  rfl
/-- The bytes r begin with none that is ok. -/
def Stop (ok : Int → Bool) (r : List UInt8) : Prop := ∀ c r', r = c :: r' → ok c.toNat = false
theorem takeWhile_stop {ok : Int → Bool} {W r : List UInt8} (hW : ∀ c ∈ W, ok c.toNat = true) (hr : Stop ok r) : (W ++ r).takeWhile (fun c => ok c.toNat) = W := by
  rw [List.takeWhile_append_of_pos (fun c hc => hW c hc)]
  cases r with
  | nil => simp
  | cons c r' => rw [List.takeWhile_cons, if_neg (by rw [hr c r' rfl]; simp), List.append_nil]
theorem run_has {s : ByteArray} {n : Nat} {dg : Bool} {W r : List UInt8} (h : Has s n W r) (hW : ∀ c ∈ W, okB dg c.toNat = true) (hr : Stop (okB dg) r) : runLen s dg n = W.length ∧ runS s dg n = ⟨W.toArray⟩ := by
  have h1 : runLen s dg n = W.length := by
    unfold runLen
    rw [h, takeWhile_stop hW hr]
  refine ⟨h1, ext_list ?_⟩
  unfold runS
  rw [extract_list, h1, h, show n + W.length - n = W.length by omega, List.take_left]
theorem next_at {s : ByteArray} {n : Nat} {c : UInt8} {b r : List UInt8} (h : Has s n (c :: b) r) (hb : blankB c.toNat = false) : nextTok s n = tokenAt s n := by
  have hlt := h.lt
  unfold nextTok
  rw [skipLen_no s n hlt (by rw [h.byte]; exact hb), Nat.add_zero, if_pos hlt]
theorem rest_at {s : ByteArray} {n : Nat} {t : Tok} {k : Nat} (hn : n ≤ s.size) (h : nextTok s n = t) (h0 : t.k ≠ 0) (h63 : t.k ≠ 63) (hat : t.at_ = n) (hk : t.s.size = k) : rest s n = t :: rest s (n + k) := by
  rw [rest_eq s (s.size - n) n (by omega) hn, h, if_neg (by intro e; rcases e with e | e <;> contradiction), hat, hk]
theorem rest_end {s : ByteArray} : rest s s.size = [endTok s] := by
  unfold rest
  rw [toks_end s _ _ (Nat.le_refl _)]
theorem rest_blank {s : ByteArray} {n : Nat} {c : UInt8} {b r : List UInt8} (h : Has s n (c :: b) r) (hb : blankB c.toNat = true) : rest s n = rest s (n + 1) := by
  have hlt := h.lt
  unfold rest
  rw [toks_blank s _ n hlt (by omega) (by rw [h.byte]; exact hb), show s.size - n - 1 = s.size - (n + 1) by omega]
/-- Marks. -/
theorem rest_mark {s : ByteArray} {n : Nat} {c : UInt8} {b r : List UInt8} (h : Has s n (c :: b) r) (hm : markB c.toNat = true) : ∃ x, rest s n = ⟨c.toNat, n, x, 0⟩ :: rest s (n + 1) := by
  have hlt := h.lt
  have hby := h.byte
  have hc : (c.toNat : Int) = 40 ∨ (c.toNat : Int) = 41 ∨ (c.toNat : Int) = 44 ∨ (c.toNat : Int) = 46 ∨ (c.toNat : Int) = 33 := by
    unfold markB at hm; simp at hm; omega
  have hb : blankB c.toNat = false := by unfold blankB; simp; omega
  have ht : tokenAt s n = ⟨c.toNat, n, s.extract n (n + 1), 0⟩ := by
    unfold tokenAt
    rw [hby, if_neg (by omega), if_neg (by unfold digitB; simp; omega), if_neg (by unfold letterB; simp; omega), if_pos hm]
  refine ⟨s.extract n (n + 1), rest_at (by omega) ((next_at h hb).trans ht) (by show (c.toNat : Int) ≠ 0; omega) (by show (c.toNat : Int) ≠ 63; omega) rfl ?_⟩
  show (s.extract n (n + 1)).size = 1
  rw [ByteArray.size_extract]; omega
theorem rest_impl {s : ByteArray} {n : Nat} {b r : List UInt8} (h : Has s n (58 :: 45 :: b) r) : ∃ x, rest s n = ⟨58, n, x, 0⟩ :: rest s (n + 2) := by
  have hlt := h.lt
  have hby := h.byte
  have h2 : Has s (n + 1) (45 :: b) r := by
    have h9 : Has s n ([58] ++ (45 :: b)) r := h
    exact h9.app.2
  have ht : tokenAt s n = ⟨58, n, ⟨#[58, 45]⟩, 0⟩ := by
    unfold tokenAt
    rw [hby, h2.byte]
    rw [if_neg (by decide), if_neg (by decide), if_neg (by decide), if_neg (by decide), if_pos ⟨by decide, by have := h2.lt; omega, by decide⟩]
  exact ⟨_, rest_at (by omega) ((next_at h (by decide)).trans ht) (by show (58 : Int) ≠ 0; decide) (by show (58 : Int) ≠ 63; decide) rfl rfl⟩
/-- Words: a name (97) or a variable (118). -/
theorem rest_word {s : ByteArray} {n : Nat} {c : UInt8} {W r : List UInt8} (h : Has s n (c :: W) r) (hW : ∀ x ∈ c :: W, letterB x.toNat = true) (hd : digitB c.toNat = false) (hl : (c :: W).length ≤ 12) (hr : Stop letterB r) :
    rest s n = ⟨if 97 ≤ (c.toNat : Int) ∧ (c.toNat : Int) ≤ 122 then 97 else 118, n, ⟨(c :: W).toArray⟩, 0⟩ :: rest s (n + (c :: W).length) := by
  have hlt := h.lt
  have hby := h.byte
  have hcl := hW c (by simp)
  have hrun := run_has (dg := false) h (fun x hx => by rw [okB_letter]; exact hW x hx) (fun x r' e => by rw [okB_letter]; exact hr x r' e)
  have hne : (c.toNat : Int) ≠ 45 := by unfold letterB at hcl; simp at hcl; omega
  have hb : blankB c.toNat = false := by unfold letterB at hcl; unfold blankB; simp at hcl; simp; omega
  have hsz : (⟨(c :: W).toArray⟩ : ByteArray).size = (c :: W).length := rfl
  have ht : tokenAt s n = ⟨if 97 ≤ (c.toNat : Int) ∧ (c.toNat : Int) ≤ 122 then 97 else 118, n, ⟨(c :: W).toArray⟩, 0⟩ := by
    unfold tokenAt
    rw [hby, if_neg hne, if_neg (by rw [hd]; simp), if_pos hcl, hrun.2]
    unfold wordTok
    rw [hsz, if_neg (by omega)]
    split <;> rfl
  refine rest_at (by omega) ((next_at h hb).trans ht) ?_ ?_ rfl hsz
  · show (if _ then (97 : Int) else 118) ≠ 0; split <;> decide
  · show (if _ then (97 : Int) else 118) ≠ 63; split <;> decide
/-- Numbers. -/
theorem rest_num {s : ByteArray} {n : Nat} {W r : List UInt8} (neg : Bool) (h : Has s n ((if neg then [45] else []) ++ W) r) (hW : ∀ x ∈ W, digitB x.toNat = true) (h1 : 1 ≤ W.length) (h9 : W.length ≤ 9) (hr : Stop digitB r) :
    rest s n = ⟨110, n, ⟨((if neg then [45] else []) ++ W).toArray⟩, 0⟩ :: rest s (n + ((if neg then [45] else []) ++ W).length) := by
  obtain ⟨c, W', rfl⟩ : ∃ c W', W = c :: W' := by
    cases W with
    | nil => simp at h1
    | cons c W' => exact ⟨c, W', rfl⟩
  have hcd := hW c (by simp)
  cases neg with
  | true =>
    have hh : Has s n (45 :: (c :: W')) r := h
    have h2 : Has s (n + 1) (c :: W') r := by
      have h9 : Has s n ([45] ++ (c :: W')) r := h
      exact h9.app.2
    have hrun := run_has (dg := true) h2 (fun x hx => by rw [okB_digit]; exact hW x hx) (fun x r' e => by rw [okB_digit]; exact hr x r' e)
    have hsz : (⟨(c :: W').toArray⟩ : ByteArray).size = (c :: W').length := rfl
    have hs2 : (⟨#[45]⟩ ++ ⟨(c :: W').toArray⟩ : ByteArray) = ⟨(45 :: c :: W').toArray⟩ := ext_list (by rw [ByteArray.data_append, Array.toList_append]; rfl)
    have ht : tokenAt s n = ⟨110, n, ⟨(45 :: c :: W').toArray⟩, 0⟩ := by
      unfold tokenAt
      rw [hh.byte, if_pos (by decide), hrun.2]
      unfold numTok
      rw [hsz, if_neg (by omega), if_neg (by omega), if_pos rfl, hs2]
    exact rest_at (by have := hh.lt; omega) ((next_at hh (by decide)).trans ht) (by show (110 : Int) ≠ 0; decide) (by show (110 : Int) ≠ 63; decide) rfl rfl
  | false =>
    have hh : Has s n (c :: W') r := h
    have hby := hh.byte
    have hrun := run_has (dg := true) hh (fun x hx => by rw [okB_digit]; exact hW x hx) (fun x r' e => by rw [okB_digit]; exact hr x r' e)
    have hsz : (⟨(c :: W').toArray⟩ : ByteArray).size = (c :: W').length := rfl
    have hne : (c.toNat : Int) ≠ 45 := by unfold digitB at hcd; simp at hcd; omega
    have hb : blankB c.toNat = false := by unfold digitB at hcd; unfold blankB; simp at hcd; simp; omega
    have ht : tokenAt s n = ⟨110, n, ⟨(c :: W').toArray⟩, 0⟩ := by
      unfold tokenAt
      rw [hby, if_neg hne, if_pos hcd, hrun.2]
      unfold numTok
      rw [hsz, if_neg (by omega), if_neg (by omega)]
      rfl
    exact rest_at (by have := hh.lt; omega) ((next_at hh hb).trans ht) (by show (110 : Int) ≠ 0; decide) (by show (110 : Int) ≠ 63; decide) rfl rfl
/-- Digits of a number. -/
theorem digit_ok (d : Nat) (h : d < 10) : digitB ((UInt8.ofNat (48 + d)).toNat : Nat) = true ∧ Go.Lib.digitVal (UInt8.ofNat (48 + d)) = some d := by
  have h1 : (UInt8.ofNat (48 + d)).toNat = 48 + d := by rw [UInt8.toNat_ofNat']; omega
  unfold digitB Go.Lib.digitVal
  rw [h1]
  refine ⟨by simp; omega, ?_⟩
  rw [if_pos (by omega)]
  congr 1
  omega
theorem decFrom_snoc : ∀ (l : List UInt8) (acc m d : Nat) (b : UInt8), Go.Lib.decFrom acc l = some m → Go.Lib.digitVal b = some d → Go.Lib.decFrom acc (l ++ [b]) = some (m * 10 + d)
  | [], acc, m, d, b, h, hb => by
    simp only [Go.Lib.decFrom, Option.some.injEq] at h
    subst h
    simp [Go.Lib.decFrom, hb]
  | c :: l, acc, m, d, b, h, hb => by
    rw [Go.Lib.decFrom] at h
    rw [List.cons_append, Go.Lib.decFrom]
    cases hc : Go.Lib.digitVal c with
    | none => rw [hc] at h; cases h
    | some x => rw [hc] at h; exact decFrom_snoc l _ m d b h hb
theorem decDigits_ok : ∀ (k u : Nat), u < k → (∀ x ∈ Go.Lib.decDigits u, digitB x.toNat = true) ∧ Go.Lib.decFrom 0 (Go.Lib.decDigits u) = some u
  | 0, _, h => by omega
  | k + 1, u, h => by
    rw [Go.Lib.decDigits]
    split
    · rename_i h10
      obtain ⟨h1, h2⟩ := digit_ok u h10
      refine ⟨fun x hx => by rw [List.mem_singleton] at hx; subst hx; exact h1, ?_⟩
      rw [Go.Lib.decFrom, h2]
      simp [Go.Lib.decFrom]
    · rename_i h10
      obtain ⟨i1, i2⟩ := decDigits_ok k (u / 10) (by omega)
      obtain ⟨h1, h2⟩ := digit_ok (u % 10) (by omega)
      refine ⟨fun x hx => ?_, ?_⟩
      · rcases List.mem_append.1 hx with hx | hx
        · exact i1 x hx
        · rw [List.mem_singleton] at hx; subst hx; exact h1
      · rw [decFrom_snoc _ _ _ _ _ i2 h2]
        congr 1
        omega
theorem decDigits_len (u : Nat) (h : u ≤ 999999999) : 1 ≤ (Go.Lib.decDigits u).length ∧ (Go.Lib.decDigits u).length ≤ 9 := by
  rw [Go.Lib.decDigits_length]
  refine ⟨Go.Lib.nDigits_pos u, ?_⟩
  rcases Nat.lt_or_ge 9 (Go.Lib.nDigits u) with h9 | h9
  · exfalso
    have key : ∀ (k u : Nat), k + 1 ≤ Go.Lib.nDigits u → 10 ^ k ≤ u ∨ k = 0 := by
      intro k
      induction k with
      | zero => intro u _; exact .inr rfl
      | succ k ih =>
        intro u hu
        by_cases h10 : u < 10
        · rw [Go.Lib.nDigits_small h10] at hu; omega
        · rw [Go.Lib.nDigits_big h10] at hu
          left
          rcases ih (u / 10) (by omega) with h1 | h1
          · rw [Nat.pow_succ]; omega
          · subst h1; simp; omega
    rcases key 9 u (by omega) with h1 | h1
    · have : (10 : Nat) ^ 9 = 1000000000 := by decide
      omega
    · omega
  · exact h9
theorem numVal_itoa (v : Int) (h0 : -999999999 ≤ v) (h1 : v ≤ 999999999) : numVal (itoaB v) = v := by
  unfold numVal itoaB
  show (Go.Lib.atoi (Go.Lib.itoa v).toArray.toList).getD 0 = v
  rw [List.toList_toArray]
  unfold Go.Lib.itoa
  have nn : ∀ u : Nat, u ≤ 999999999 → Go.Lib.decNat (Go.Lib.decDigits u) = some u := by
    intro u hu
    unfold Go.Lib.decNat
    rw [if_neg (by rw [List.isEmpty_iff]; intro e; have := (decDigits_len u hu).1; rw [e] at this; simp at this)]
    exact (decDigits_ok (u + 1) u (by omega)).2
  split
  · rename_i hn
    have := nn v.natAbs (by omega)
    simp [Go.Lib.atoi, this]
    omega
  · rename_i hn
    have h2 := nn v.toNat (by omega)
    have hd := (decDigits_ok (v.toNat + 1) v.toNat (by omega)).1
    cases hw : Go.Lib.decDigits v.toNat with
    | nil => have := (decDigits_len v.toNat (by omega)).1; rw [hw] at this; simp at this
    | cons c l =>
      rw [hw] at h2 hd
      have hc := hd c (by simp)
      unfold digitB at hc
      simp only [Bool.and_eq_true, decide_eq_true_eq] at hc
      have c1 : (c == 45) = false := by rw [beq_eq_false_iff_ne]; rintro rfl; revert hc; decide
      have c2 : (c == 43) = false := by rw [beq_eq_false_iff_ne]; rintro rfl; revert hc; decide
      simp [Go.Lib.atoi, c1, c2, h2]
      omega
/-- A number's numeral is read as one token. -/
theorem rest_itoa {s : ByteArray} {n : Nat} {r : List UInt8} (v : Int) (h0 : -999999999 ≤ v) (h1 : v ≤ 999999999) (h : Has s n (Go.Lib.itoa v) r) (hr : Stop digitB r) : rest s n = ⟨110, n, itoaB v, 0⟩ :: rest s (n + (Go.Lib.itoa v).length) := by
  unfold itoaB
  unfold Go.Lib.itoa at h ⊢
  by_cases hn : v < 0
  · rw [if_pos hn] at h ⊢
    obtain ⟨l1, l2⟩ := decDigits_len v.natAbs (by omega)
    exact rest_num true h (decDigits_ok (v.natAbs + 1) _ (by omega)).1 l1 l2 hr
  · rw [if_neg hn] at h ⊢
    obtain ⟨l1, l2⟩ := decDigits_len v.toNat (by omega)
    exact rest_num false h (decDigits_ok (v.toNat + 1) _ (by omega)).1 l1 l2 hr
end Rf
/- Plain facts: a term that is written with given names for its variables is read back. -/
namespace Rf
def bs (b : ByteArray) : List UInt8 := b.data.toList
theorem bs_app (a b : ByteArray) : bs (a ++ b) = bs a ++ bs b := by unfold bs; rw [ByteArray.data_append, Array.toList_append]
theorem bs_len (a : ByteArray) : (bs a).length = a.size := by unfold bs; simp
theorem bs_inj {a b : ByteArray} (h : bs a = bs b) : a = b := ext_list h
/-- A term's text, if each part is written by wd. -/
def textG (wd : Part → ByteArray) : List Part → List Nat → ByteArray
  | [], _ => ⟨#[]⟩
  | p :: ps, st => if 0 < p.args then wd p ++ (⟨#[40]⟩ ++ textG wd ps (p.args.toNat :: st)) else wd p ++ ((closeP st).1 ++ textG wd ps (closeP st).2)
def txtG (wd : Part → ByteArray) (ps : List Part) : ByteArray := textG wd ps []
theorem textG_P : ∀ (ps : List Part) (st : List Nat), textG wordP ps st = textP ps st
  | [], _ => rfl
  | p :: ps, st => by rw [textG, textP, textG_P ps, textG_P ps]
theorem textG_W (b : Bool) : ∀ (ps : List Part) (st : List Nat), textG (wordW b) ps st = textW b ps st
  | [], _ => rfl
  | p :: ps, st => by rw [textG, textW, textG_W b ps, textG_W b ps]
def joinG (wd : Part → ByteArray) : List (List Part) → ByteArray
  | [] => ⟨#[]⟩
  | [q] => txtG wd q ++ ⟨#[41]⟩
  | q :: q' :: qs => txtG wd q ++ (⟨#[44]⟩ ++ joinG wd (q' :: qs))
theorem textG_args (wd : Part → ByteArray) (d : Nat) (H : ∀ q, Wf d q → ∀ rest st, textG wd (q ++ rest) st = txtG wd q ++ ((closeP st).1 ++ textG wd rest (closeP st).2)) :
    ∀ (qs : List (List Part)), 1 ≤ qs.length → (∀ q ∈ qs, Wf d q) → ∀ rest st, textG wd (qs.flatten ++ rest) (qs.length :: st) = joinG wd qs ++ ((closeP st).1 ++ textG wd rest (closeP st).2)
  | [], h, _, _, _ => by simp at h
  | [q], _, hq, rest, st => by
    have h1 := H q (hq q (by simp)) rest (1 :: st)
    simp only [List.flatten_cons, List.flatten_nil, List.append_nil, List.length_cons, List.length_nil] at *
    rw [h1, joinG]
    simp only [closeP, Nat.lt_irrefl, if_false]
    simp only [ByteArray.append_assoc]
  | q :: q' :: qs, _, hq, rest, st => by
    have h1 := H q (hq q (by simp)) ((q' :: qs).flatten ++ rest) ((q :: q' :: qs).length :: st)
    have h2 := textG_args wd d H (q' :: qs) (by simp) (fun x hx => hq x (List.mem_cons_of_mem _ hx)) rest st
    rw [List.flatten_cons, List.append_assoc, h1, joinG]
    have hc : closeP ((q :: q' :: qs).length :: st) = (⟨#[44]⟩, (q' :: qs).length :: st) := by
      rw [closeP, if_pos (by simp)]; rfl
    rw [hc]
    simp only [ByteArray.append_assoc]
    rw [h2]
theorem textG_wf (wd : Part → ByteArray) : ∀ (d : Nat) (ps : List Part), Wf d ps → ∀ rest st, textG wd (ps ++ rest) st = txtG wd ps ++ ((closeP st).1 ++ textG wd rest (closeP st).2)
  | 0, _, h => h.elim
  | d + 1, ps, h => by
    intro rest st
    rcases h with ⟨p, rfl, h0⟩ | ⟨s, qs, h1, hq, rfl⟩
    · simp only [txtG, List.singleton_append, textG, h0, Int.lt_irrefl, if_false, closeP, app_emp]
    · have h2 := textG_args wd d (textG_wf wd d) qs h1 hq
      have h3 := h2 rest st
      have h4 := h2 [] []
      simp only [List.append_nil, closeP, textG, app_emp] at h4
      simp only [txtG, List.cons_append, textG]
      have hp : (0 : Int) < (qs.length : Int) := by omega
      simp only [hp, if_true, Int.toNat_natCast]
      rw [h3, h4]
      simp only [ByteArray.append_assoc]
theorem txtG_comp (wd : Part → ByteArray) (d : Nat) (s : ByteArray) (qs : List (List Part)) (h1 : 1 ≤ qs.length) (hq : ∀ q ∈ qs, Wf d q) : txtG wd (⟨3, s, 0, qs.length⟩ :: qs.flatten) = wd ⟨3, s, 0, qs.length⟩ ++ (⟨#[40]⟩ ++ joinG wd qs) := by
  have h4 := textG_args wd d (textG_wf wd d) qs h1 hq [] []
  simp only [List.append_nil, closeP, textG, app_emp] at h4
  simp only [txtG, textG]
  have hp : (0 : Int) < (qs.length : Int) := by omega
  simp only [hp, if_true, Int.toNat_natCast]
  rw [h4]
theorem txtG_one (wd : Part → ByteArray) (p : Part) (h : p.args = 0) : txtG wd [p] = wd p := by
  simp only [txtG, textG, h, Int.lt_irrefl, if_false, closeP, app_emp]
/-- Names of atoms and compounds, names of variables. -/
def NmOk (W : ByteArray) : Prop := ∃ c W', bs W = c :: W' ∧ (97 ≤ (c.toNat : Int) ∧ (c.toNat : Int) ≤ 122) ∧ (∀ x ∈ c :: W', letterB x.toNat = true) ∧ (c :: W').length ≤ 12
def VrOk (W : ByteArray) : Prop := (∃ c W', bs W = c :: W' ∧ ¬ (97 ≤ (c.toNat : Int) ∧ (c.toNat : Int) ≤ 122) ∧ digitB c.toNat = false ∧ (∀ x ∈ c :: W', letterB x.toNat = true) ∧ (c :: W').length ≤ 12) ∧ W ≠ under
theorem rest_name {s W : ByteArray} {n : Nat} {r : List UInt8} (hW : NmOk W) (h : Has s n (bs W) r) (hr : Stop letterB r) : rest s n = ⟨97, n, W, 0⟩ :: rest s (n + W.size) := by
  obtain ⟨c, W', e, h1, h2, h3⟩ := hW
  rw [e] at h
  have hd : digitB c.toNat = false := by unfold digitB; simp; omega
  have h9 := rest_word h h2 hd h3 hr
  rw [if_pos h1] at h9
  have hw : (⟨(c :: W').toArray⟩ : ByteArray) = W := bs_inj (by rw [e]; rfl)
  have hl : (c :: W').length = W.size := by rw [← e, bs_len]
  rw [hw, hl] at h9
  exact h9
theorem rest_var {s W : ByteArray} {n : Nat} {r : List UInt8} (hW : VrOk W) (h : Has s n (bs W) r) (hr : Stop letterB r) : rest s n = ⟨118, n, W, 0⟩ :: rest s (n + W.size) := by
  obtain ⟨⟨c, W', e, h1, hd, h2, h3⟩, _⟩ := hW
  rw [e] at h
  have h9 := rest_word h h2 hd h3 hr
  rw [if_neg h1] at h9
  have hw : (⟨(c :: W').toArray⟩ : ByteArray) = W := bs_inj (by rw [e]; rfl)
  have hl : (c :: W').length = W.size := by rw [← e, bs_len]
  rw [hw, hl] at h9
  exact h9
/-- A part by given names of variables. -/
def wordN (ν : List ByteArray) (p : Part) : ByteArray := if p.kind = 1 then ν.getD p.value.toNat under else if p.kind = 2 then itoaB p.value else if p.kind = 4 then ⟨#[33]⟩ else p.name
def PartOk (ν : List ByteArray) (p : Part) : Prop :=
  (p.kind = 1 ∧ p.name = ⟨#[]⟩ ∧ p.args = 0 ∧ 0 ≤ p.value ∧ p.value < ν.length) ∨ (p.kind = 2 ∧ p.name = ⟨#[]⟩ ∧ p.args = 0 ∧ -999999999 ≤ p.value ∧ p.value ≤ 999999999) ∨ (p.kind = 3 ∧ p.value = 0 ∧ NmOk p.name ∧ 0 ≤ p.args ∧ p.args ≤ 4)
/-- Variables are numbered by where they first stand: m had a number before, m' have one behind. -/
def stepN (m : Nat) (p : Part) (m' : Nat) : Prop := if p.kind = 1 then (p.value < m ∧ m' = m) ∨ (p.value = m ∧ m' = m + 1) else m' = m
def NumTo : Nat → List Part → Nat → Prop
  | m, [], m' => m' = m
  | m, p :: ps, m' => ∃ m1, stepN m p m1 ∧ NumTo m1 ps m'
theorem NumTo.app : ∀ {a b : List Part} {m m' : Nat}, NumTo m (a ++ b) m' ↔ ∃ m1, NumTo m a m1 ∧ NumTo m1 b m'
  | [], b, m, m' => by simp [NumTo]
  | p :: a, b, m, m' => by
    rw [List.cons_append]
    constructor
    · rintro ⟨m1, h1, h2⟩
      obtain ⟨m2, h3, h4⟩ := NumTo.app.1 h2
      exact ⟨m2, ⟨m1, h1, h3⟩, h4⟩
    · rintro ⟨m2, ⟨m1, h1, h3⟩, h4⟩
      exact ⟨m1, h1, NumTo.app.2 ⟨m2, h3, h4⟩⟩
theorem nodup_at {ν : List ByteArray} (h : ν.Nodup) {i j : Nat} (hi : i < ν.length) (hj : j < ν.length) (hij : i ≠ j) : ν[i] ≠ ν[j] := by
  have h1 := List.pairwise_iff_getElem.1 h
  rcases Nat.lt_or_gt_of_ne hij with h2 | h2
  · exact h1 i j hi hj h2
  · exact fun e => h1 j i hj hi h2 e.symm
theorem look_old {ν : List ByteArray} (h : ν.Nodup) {v m : Nat} (hv : v < ν.length) (hm : v < m) (hu : ν[v] ≠ under) : lookS ν[v] (ν.take m) = some v := by
  unfold lookS
  rw [if_neg hu, List.findIdx?_eq_some_iff_getElem]
  refine ⟨by rw [List.length_take]; omega, by simp, fun j hj => ?_⟩
  simp only [List.getElem_take]
  have := nodup_at h (show j < ν.length by omega) hv (by omega)
  simpa using this
theorem look_new {ν : List ByteArray} (h : ν.Nodup) {v : Nat} (hv : v < ν.length) : lookS ν[v] (ν.take v) = none := by
  unfold lookS
  split
  · rfl
  · rw [List.findIdx?_eq_none_iff]
    intro x hx
    obtain ⟨j, hj, rfl⟩ := List.getElem_of_mem hx
    rw [List.length_take] at hj
    simp only [List.getElem_take]
    have := nodup_at h (show j < ν.length by omega) hv (by omega)
    simpa using this
theorem rest_cons {s : ByteArray} {n : Nat} (hn : n ≤ s.size) : ∃ t l, rest s n = t :: l := by
  rw [rest_eq s (s.size - n) n (by omega) hn]
  split
  · exact ⟨_, _, rfl⟩
  · exact ⟨_, _, rfl⟩
end Rf
/- Plain facts: a term that is written with given names for its variables is read back (promises P4, P6). -/
namespace Rf
theorem stop_mark (c : UInt8) (r : List UInt8) (h : markB c.toNat = true) : Stop letterB (c :: r) := by
  intro x r' e
  injection e with e1 e2
  subst e1
  unfold markB at h
  simp at h
  unfold letterB
  simp
  omega
theorem stop_digit {r : List UInt8} (h : Stop letterB r) : Stop digitB r := by
  intro c r' e
  have := h c r' e
  cases hd : digitB c.toNat with
  | false => rfl
  | true => rw [digit_letter _ hd] at this; cases this
/-- What is asked of the names. -/
structure Names (ν : List ByteArray) : Prop where
  nodup : ν.Nodup
  len : ν.length ≤ 16
  ok : ∀ W ∈ ν, VrOk W
def TermAtR (ν : List ByteArray) (d : Nat) : Prop := ∀ ps, Wf d ps → (∀ p ∈ ps, PartOk ν p) → ∀ s n r m m' f, d ≤ f → n ≤ s.size → Has s n (bs (txtG (wordN ν) ps)) r → Stop letterB r → (∀ t l, rest s (n + (txtG (wordN ν) ps).size) = t :: l → t.k ≠ 40) → NumTo m ps m' → termS f (rest s n) (ν.take m) = .ok (ps, rest s (n + (txtG (wordN ν) ps).size), ν.take m')
theorem parse_args {ν : List ByteArray} {d : Nat} (H : TermAtR ν d) {f : Nat} (hf : d ≤ f) (s : ByteArray) : ∀ (qs acc : List (List Part)) (k n m m' : Nat) (r : List UInt8), 1 ≤ qs.length → acc.length + qs.length ≤ 4 → qs.length ≤ k → (∀ q ∈ qs, Wf d q) → (∀ q ∈ qs, ∀ p ∈ q, PartOk ν p) → n ≤ s.size → Has s n (bs (joinG (wordN ν) qs)) r → NumTo m qs.flatten m' →
    argsS (termS f) k acc (rest s n) (ν.take m) = .ok (acc ++ qs, rest s (n + (joinG (wordN ν) qs).size), ν.take m')
  | [], _, _, _, _, _, _, h, _, _, _, _, _, _, _ => by simp at h
  | [q], acc, k, n, m, m', r, _, h4, hk, hw, hp, hn, hh, hm => by
    obtain ⟨k, rfl⟩ : ∃ k', k = k' + 1 := ⟨k - 1, by simp at hk; omega⟩
    rw [joinG, bs_app] at hh
    obtain ⟨h1, h2⟩ := hh.app
    rw [bs_len] at h2
    have h3 : Has s (n + (txtG (wordN ν) q).size) [41] r := h2
    obtain ⟨x, hx⟩ := rest_mark h3 (by decide)
    rw [List.flatten_cons, List.flatten_nil, List.append_nil] at hm
    have ht := H q (hw q (by simp)) (hp q (by simp)) s n _ m m' f hf hn h1 (stop_mark 41 r (by decide)) (fun t l e => by rw [hx] at e; injection e with e _; rw [← e]; show ((41 : UInt8).toNat : Int) ≠ 40; decide) hm
    rw [argsS, ht, hx]
    simp only []
    rw [if_neg (by decide), if_pos (by decide), joinG, ByteArray.size_append]
    rfl
  | q :: q' :: qs, acc, k, n, m, m', r, _, h4, hk, hw, hp, hn, hh, hm => by
    obtain ⟨k, rfl⟩ : ∃ k', k = k' + 1 := ⟨k - 1, by simp at hk; omega⟩
    rw [joinG, bs_app, bs_app] at hh
    obtain ⟨h1, h2⟩ := hh.app
    rw [bs_len] at h2
    obtain ⟨h3, h4'⟩ := h2.app
    have h3' : Has s (n + (txtG (wordN ν) q).size) [44] (bs (joinG (wordN ν) (q' :: qs)) ++ r) := h3
    have h5 : Has s (n + (txtG (wordN ν) q).size + 1) (bs (joinG (wordN ν) (q' :: qs))) r := h4'
    obtain ⟨x, hx⟩ := rest_mark h3' (by decide)
    rw [List.flatten_cons] at hm
    obtain ⟨m1, hm1, hm2⟩ := NumTo.app.1 hm
    have hlt := h3'.lt
    have ht := H q (hw q (by simp)) (hp q (by simp)) s n _ m m1 f hf hn h1 (by
      intro c r' e
      have e2 : (44 :: (bs (joinG (wordN ν) (q' :: qs)) ++ r)) = c :: r' := e
      exact stop_mark 44 _ (by decide) c r' e2) (fun t l e => by rw [hx] at e; injection e with e _; rw [← e]; show ((44 : UInt8).toNat : Int) ≠ 40; decide) hm1
    have ih := parse_args H hf s (q' :: qs) (acc ++ [q]) k (n + (txtG (wordN ν) q).size + 1) m1 m' r (by simp) (by simp at h4 ⊢; omega) (by simp at hk ⊢; omega) (fun y hy => hw y (List.mem_cons_of_mem _ hy)) (fun y hy => hp y (List.mem_cons_of_mem _ hy)) (by omega) h5 hm2
    rw [argsS, ht, hx]
    simp only []
    rw [if_pos (by decide), if_neg (by simp at h4; omega), ih, joinG, ByteArray.size_append, ByteArray.size_append]
    have e1 : acc ++ [q] ++ q' :: qs = acc ++ q :: q' :: qs := by simp
    have e2 : n + (txtG (wordN ν) q).size + 1 + (joinG (wordN ν) (q' :: qs)).size = n + ((txtG (wordN ν) q).size + ((⟨#[44]⟩ : ByteArray).size + (joinG (wordN ν) (q' :: qs)).size)) := by
      have : (⟨#[44]⟩ : ByteArray).size = 1 := rfl
      omega
    rw [e1, e2]
theorem parse_term {ν : List ByteArray} (hν : Names ν) : ∀ d, TermAtR ν d
  | 0 => fun ps h => h.elim
  | d + 1 => fun ps hw hp s n r m m' f hf hn hh hr hk hm => by
    obtain ⟨f, rfl⟩ : ∃ f', f = f' + 1 := ⟨f - 1, by omega⟩
    rcases hw with ⟨p, rfl, h0⟩ | ⟨nm, qs, h1, hq, rfl⟩
    · rw [txtG_one _ p h0] at hh hk ⊢
      obtain ⟨m1, hs1, rfl⟩ : ∃ m1, stepN m p m1 ∧ m' = m1 := by
        obtain ⟨m1, h1, h2⟩ := hm
        exact ⟨m1, h1, h2⟩
      obtain ⟨pk, pn, pv, pa⟩ := p
      rcases hp _ (List.mem_singleton.2 rfl) with ⟨e1, e2, e3, e4, e5⟩ | ⟨e1, e2, e3, e4, e5⟩ | ⟨e1, e2, e3, e4, e5⟩
      · simp only at e1 e2 e3 e4 e5
        subst e1; subst e2; subst e3
        obtain ⟨v, rfl⟩ := Int.eq_ofNat_of_zero_le e4
        have hv : v < ν.length := by omega
        have hwd : wordN ν ⟨1, ⟨#[]⟩, (v : Int), 0⟩ = ν[v] := by
          unfold wordN
          simp [hv]
        rw [hwd] at hh hk ⊢
        have hvo := hν.ok ν[v] (List.getElem_mem hv)
        rw [rest_var hvo hh hr, termS, if_pos rfl]
        unfold varT varS
        unfold stepN at hs1
        simp only [if_pos] at hs1
        rcases hs1 with ⟨h1, rfl⟩ | ⟨h1, rfl⟩
        · rw [look_old hν.nodup hv (by omega) hvo.2]
        · have hvm : v = m := by omega
          subst hvm
          rw [look_new hν.nodup hv]
          simp only []
          have hl : (ν.take v).length = v := by rw [List.length_take]; omega
          have h16 := hν.len
          rw [if_neg (by rw [hl]; omega), hl, List.take_succ_eq_append_getElem hv]
      · simp only at e1 e2 e3 e4 e5
        subst e1; subst e2; subst e3
        have hwd : wordN ν ⟨2, ⟨#[]⟩, pv, 0⟩ = itoaB pv := by unfold wordN; rfl
        rw [hwd] at hh hk ⊢
        have hb : bs (itoaB pv) = Go.Lib.itoa pv := by unfold bs itoaB; simp
        have hl : (itoaB pv).size = (Go.Lib.itoa pv).length := by rw [← bs_len, hb]
        rw [hb] at hh
        unfold stepN at hs1
        rw [if_neg (by show ¬ (2 : Int) = 1; decide)] at hs1
        subst hs1
        rw [rest_itoa pv e4 e5 hh (stop_digit hr), hl, termS, if_neg (by show ¬ (110 : Int) = 118; decide), if_pos rfl, numVal_itoa pv e4 e5]
      · simp only at e1 e2 e3 e4 e5 h0
        subst e1; subst e2; subst h0
        have hwd : wordN ν ⟨3, pn, 0, 0⟩ = pn := by unfold wordN; rfl
        rw [hwd] at hh hk ⊢
        unfold stepN at hs1
        rw [if_neg (by show ¬ (3 : Int) = 1; decide)] at hs1
        subst hs1
        have hle : n + pn.size ≤ s.size := by have := hh.len hn; rw [bs_len] at this; omega
        obtain ⟨u, l, hu⟩ := rest_cons hle
        rw [rest_name e3 hh hr, termS, if_neg (by show ¬ (97 : Int) = 118; decide), if_neg (by show ¬ (97 : Int) = 110; decide), if_pos rfl, hu]
        simp only [nameS]
        rw [if_neg (hk u l hu)]
    · have hwd : wordN ν ⟨3, nm, 0, qs.length⟩ = nm := by unfold wordN; rfl
      rw [txtG_comp _ d nm qs h1 hq, hwd] at hh hk ⊢
      rcases hp _ List.mem_cons_self with ⟨e1, _⟩ | ⟨e1, _⟩ | ⟨e1, e2, e3, e4, e5⟩
      · cases e1
      · cases e1
      · simp only at e3 e4 e5
        rw [bs_app, bs_app] at hh
        obtain ⟨g1, g2⟩ := hh.app
        rw [bs_len] at g2
        obtain ⟨g3, g4⟩ := g2.app
        have g3' : Has s (n + nm.size) [40] (bs (joinG (wordN ν) qs) ++ r) := g3
        have g5 : Has s (n + nm.size + 1) (bs (joinG (wordN ν) qs)) r := g4
        obtain ⟨x, hx⟩ := rest_mark g3' (by decide)
        obtain ⟨m1, hs1, hm1⟩ := hm
        unfold stepN at hs1
        rw [if_neg (by show ¬ (3 : Int) = 1; decide)] at hs1
        subst hs1
        have hlt := g3'.lt
        have ha := parse_args (parse_term hν d) (show d ≤ f by omega) s qs [] 4 (n + nm.size + 1) _ m' r h1 (by simp; omega) (by omega) hq (fun q hq2 y hy => hp y (List.mem_cons_of_mem _ (List.mem_flatten.2 ⟨q, hq2, hy⟩))) (by omega) g5 hm1
        have hst : Stop letterB (bs (⟨#[40]⟩ : ByteArray) ++ bs (joinG (wordN ν) qs) ++ r) := stop_mark 40 _ (by decide)
        rw [rest_name e3 g1 (by rw [List.append_assoc] at hst ⊢; exact hst), termS, if_neg (by show ¬ (97 : Int) = 118; decide), if_neg (by show ¬ (97 : Int) = 110; decide), if_pos rfl, hx]
        simp only [nameS]
        rw [if_pos (by decide), ha, ByteArray.size_append, ByteArray.size_append]
        have e2 : n + nm.size + 1 + (joinG (wordN ν) qs).size = n + (nm.size + ((⟨#[40]⟩ : ByteArray).size + (joinG (wordN ν) qs).size)) := by
          have : (⟨#[40]⟩ : ByteArray).size = 1 := rfl
          omega
        rw [e2]
        rfl
end Rf
