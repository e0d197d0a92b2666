/- What the document's scanner (promptref: token, Tokens) does at every text: it gives the plain function's tokens and leaves all memory that was there. -/
import Derived.Test.YthdmbbfaphipkaaGreatDoorYao
import Derived.Test.YthdmbbfaphipkaaGreatDoorYaa
import Derived.Test.YthdmbbfaphipkaaGreatDoorYad
namespace Go.Proofs.YthdmbbfaphipkaaGreatDoor
open Go.RowKit
abbrev tokVal (t : Rf.Tok) : Value := .agg #[.int .u8 t.k, .int .i64 t.at_, .string t.s, .int .i64 t.e]
theorem isEmpty_size (W : ByteArray) : W.toList.isEmpty = decide (W.size = 0) := by
  rw [← decide_eq_emptyBytes W, decide_eq_decide]
  constructor
  · rintro rfl; rfl
  · intro h
    have : W.data.size = 0 := h
    cases W with
    | mk d => simp at this; subst this; rfl
set_option maxHeartbeats 1000000 in
theorem token_neg (s : ByteArray) (n : Nat) (w : World) (hs : s.size ≤ maxLen) (hn : n < s.size) (hc : (s[n].toNat : Int) = 45) :
    Calls Tryz.prog 95 #[.string s, .int .i64 n] w fun e w' => e = .returned (tokVal (Rf.tokenAt s n)) ∧ Below w.heap.size w w' := by
  have hs' := hs
  unfold maxLen at hs
  have hd : Rf.digitB 45 = false := by decide
  have hl : Rf.letterB 45 = false := by decide
  have hT : Hid (Rf.tokenAt s n = Rf.numTok n true (Rf.runS s true (n + 1))) := by
    unfold Hid Rf.tokenAt; rw [← Rf.byteAt_eq s n hn, hc]; simp
  have hi := Rf.runS_size s true (n + 1)
  have hle := Rf.runLen_le s true (n + 1)
  generalize hW : Rf.runS s true (n + 1) = W at *
  generalize Rf.runLen s true (n + 1) = L at *
  have HW : Hid _ := hW
  clear hW
  have hz : W.size ≤ s.size := by omega
  clear hi hle
  have hem := isEmpty_size W
  rcases (show W.size = 0 ∨ (0 < W.size ∧ W.size ≤ 9) ∨ (0 < W.size ∧ 9 < W.size) by omega) with hq | ⟨hq, hq'⟩ | ⟨hq, hq'⟩
  all_goals
    first | rw [decide_eq_true hq] at hem | rw [decide_eq_false (by omega)] at hem
    go_enter Tryz.func95, Tryz.ntmps95
    go_wp2_with (first | (go_at_call 134; refine (letter_any _ _).mono ?_; rintro e w' ⟨rfl, rfl⟩) | (go_at_call 133; refine (digit_any _ _).mono ?_; rintro e w' ⟨rfl, rfl⟩) | (go_at_call 135; refine (run_any s (n + 1) true _ hs' (by omega)).mono ?_; rintro e w' ⟨rfl, rfl⟩; rw [HW.out]))
    refine bodyPost_ret (v := tokVal (Rf.tokenAt s n)) ?_ rfl ⟨rfl, (Below.refl _ _).alloc (Nat.le_refl _) _⟩
    rw [hT.out]
    unfold Rf.numTok
    split
    all_goals (try split)
    all_goals (first | (exfalso; omega) | (simp [results, Tryz.results95, go_sem, tokVal, Rf.bad]; done))
set_option maxHeartbeats 1000000 in
theorem token_dig (s : ByteArray) (n : Nat) (w : World) (hs : s.size ≤ maxLen) (hn : n < s.size) (hd : Rf.digitB (s[n].toNat : Int) = true) :
    Calls Tryz.prog 95 #[.string s, .int .i64 n] w fun e w' => e = .returned (tokVal (Rf.tokenAt s n)) ∧ Below w.heap.size w w' := by
  have hs' := hs
  unfold maxLen at hs
  have hc : ((s[n].toNat : Int) == 45) = false := by
    unfold Rf.digitB at hd; simp at hd; rw [beq_eq_false_iff_ne]; omega
  have hT : Hid (Rf.tokenAt s n = Rf.numTok n false (Rf.runS s true n)) := by
    unfold Hid Rf.tokenAt; rw [← Rf.byteAt_eq s n hn, if_neg (beq_eq_false_iff_ne.1 hc), if_pos hd]
  have hi := Rf.runS_size s true n
  have hle := Rf.runLen_le s true n
  generalize hW : Rf.runS s true n = W at *
  generalize Rf.runLen s true n = L at *
  have HW : Hid _ := hW
  clear hW
  have hz : W.size ≤ s.size := by omega
  clear hi hle
  have hem := isEmpty_size W
  rcases (show W.size = 0 ∨ (0 < W.size ∧ W.size ≤ 9) ∨ (0 < W.size ∧ 9 < W.size) by omega) with hq | ⟨hq, hq'⟩ | ⟨hq, hq'⟩
  all_goals
    first | rw [decide_eq_true hq] at hem | rw [decide_eq_false (by omega)] at hem
    go_enter Tryz.func95, Tryz.ntmps95
    go_wp2_with (first | (go_at_call 134; refine (letter_any _ _).mono ?_; rintro e w' ⟨rfl, rfl⟩) | (go_at_call 133; refine (digit_any _ _).mono ?_; rintro e w' ⟨rfl, rfl⟩) | (go_at_call 135; refine (run_any s n true _ hs' (by omega)).mono ?_; rintro e w' ⟨rfl, rfl⟩; rw [HW.out]))
    refine bodyPost_ret (v := tokVal (Rf.tokenAt s n)) ?_ rfl ⟨rfl, (Below.refl _ _).alloc (Nat.le_refl _) _⟩
    rw [hT.out]
    unfold Rf.numTok
    split
    all_goals (try split)
    all_goals (first | (exfalso; omega) | (simp [results, Tryz.results95, go_sem, tokVal, Rf.bad]; done))
set_option maxHeartbeats 1000000 in
theorem token_let (s : ByteArray) (n : Nat) (w : World) (hs : s.size ≤ maxLen) (hn : n < s.size) (hc : ((s[n].toNat : Int) == 45) = false) (hd : Rf.digitB (s[n].toNat : Int) = false) (hl : Rf.letterB (s[n].toNat : Int) = true) :
    Calls Tryz.prog 95 #[.string s, .int .i64 n] w fun e w' => e = .returned (tokVal (Rf.tokenAt s n)) ∧ Below w.heap.size w w' := by
  have hs' := hs
  unfold maxLen at hs
  have hT : Hid (Rf.tokenAt s n = Rf.wordTok n (s[n].toNat : Int) (Rf.runS s false n)) := by
    unfold Hid Rf.tokenAt; rw [← Rf.byteAt_eq s n hn, if_neg (beq_eq_false_iff_ne.1 hc), if_neg (by simp [hd]), if_pos hl]
  have hi := Rf.runS_size s false n
  have hle := Rf.runLen_le s false n
  generalize hW : Rf.runS s false n = W at *
  generalize Rf.runLen s false n = L at *
  have HW : Hid _ := hW
  clear hW
  have hz : W.size ≤ s.size := by omega
  clear hi hle
  rcases (show W.size ≤ 12 ∨ 12 < W.size by omega) with hq | hq
  all_goals
    go_enter Tryz.func95, Tryz.ntmps95
    go_wp2_with (first | (go_at_call 134; refine (letter_any _ _).mono ?_; rintro e w' ⟨rfl, rfl⟩) | (go_at_call 133; refine (digit_any _ _).mono ?_; rintro e w' ⟨rfl, rfl⟩) | (go_at_call 135; refine (run_any s n false _ hs' (by omega)).mono ?_; rintro e w' ⟨rfl, rfl⟩; rw [HW.out]))
    all_goals
     refine bodyPost_ret (v := tokVal (Rf.tokenAt s n)) ?_ rfl ⟨rfl, (Below.refl _ _).alloc (Nat.le_refl _) _⟩
     rw [hT.out]
     unfold Rf.wordTok
     split
     all_goals (try split)
     all_goals (first | (exfalso; omega) | (simp [results, Tryz.results95, go_sem, tokVal, Rf.bad]; done))
set_option maxHeartbeats 1000000 in
theorem token_m40 (s : ByteArray) (n : Nat) (w : World) (hs : s.size ≤ maxLen) (hn : n < s.size) (hc : (s[n].toNat : Int) = 40) :
    Calls Tryz.prog 95 #[.string s, .int .i64 n] w fun e w' => e = .returned (tokVal (Rf.tokenAt s n)) ∧ Below w.heap.size w w' := by
  unfold maxLen at hs
  have hd : Rf.digitB 40 = false := by decide
  have hl : Rf.letterB 40 = false := by decide
  have hT : Hid (Rf.tokenAt s n = ⟨40, n, s.extract n (n + 1), 0⟩) := by
    unfold Hid Rf.tokenAt; rw [← Rf.byteAt_eq s n hn, hc]; simp [hd, hl, Rf.markB]
  go_enter Tryz.func95, Tryz.ntmps95
  go_wp2_with (first | (go_at_call 134; refine (letter_any _ _).mono ?_; rintro e w' ⟨rfl, rfl⟩) | (go_at_call 133; refine (digit_any _ _).mono ?_; rintro e w' ⟨rfl, rfl⟩))
  refine bodyPost_ret (v := tokVal (Rf.tokenAt s n)) ?_ rfl ⟨rfl, (Below.refl _ _).alloc (Nat.le_refl _) _⟩
  rw [hT.out]
  simp [results, Tryz.results95, go_sem, tokVal]
set_option maxHeartbeats 1000000 in
theorem token_m41 (s : ByteArray) (n : Nat) (w : World) (hs : s.size ≤ maxLen) (hn : n < s.size) (hc : (s[n].toNat : Int) = 41) :
    Calls Tryz.prog 95 #[.string s, .int .i64 n] w fun e w' => e = .returned (tokVal (Rf.tokenAt s n)) ∧ Below w.heap.size w w' := by
  unfold maxLen at hs
  have hd : Rf.digitB 41 = false := by decide
  have hl : Rf.letterB 41 = false := by decide
  have hT : Hid (Rf.tokenAt s n = ⟨41, n, s.extract n (n + 1), 0⟩) := by
    unfold Hid Rf.tokenAt; rw [← Rf.byteAt_eq s n hn, hc]; simp [hd, hl, Rf.markB]
  go_enter Tryz.func95, Tryz.ntmps95
  go_wp2_with (first | (go_at_call 134; refine (letter_any _ _).mono ?_; rintro e w' ⟨rfl, rfl⟩) | (go_at_call 133; refine (digit_any _ _).mono ?_; rintro e w' ⟨rfl, rfl⟩))
  refine bodyPost_ret (v := tokVal (Rf.tokenAt s n)) ?_ rfl ⟨rfl, (Below.refl _ _).alloc (Nat.le_refl _) _⟩
  rw [hT.out]
  simp [results, Tryz.results95, go_sem, tokVal]
set_option maxHeartbeats 1000000 in
theorem token_m44 (s : ByteArray) (n : Nat) (w : World) (hs : s.size ≤ maxLen) (hn : n < s.size) (hc : (s[n].toNat : Int) = 44) :
    Calls Tryz.prog 95 #[.string s, .int .i64 n] w fun e w' => e = .returned (tokVal (Rf.tokenAt s n)) ∧ Below w.heap.size w w' := by
  unfold maxLen at hs
  have hd : Rf.digitB 44 = false := by decide
  have hl : Rf.letterB 44 = false := by decide
  have hT : Hid (Rf.tokenAt s n = ⟨44, n, s.extract n (n + 1), 0⟩) := by
    unfold Hid Rf.tokenAt; rw [← Rf.byteAt_eq s n hn, hc]; simp [hd, hl, Rf.markB]
  go_enter Tryz.func95, Tryz.ntmps95
  go_wp2_with (first | (go_at_call 134; refine (letter_any _ _).mono ?_; rintro e w' ⟨rfl, rfl⟩) | (go_at_call 133; refine (digit_any _ _).mono ?_; rintro e w' ⟨rfl, rfl⟩))
  refine bodyPost_ret (v := tokVal (Rf.tokenAt s n)) ?_ rfl ⟨rfl, (Below.refl _ _).alloc (Nat.le_refl _) _⟩
  rw [hT.out]
  simp [results, Tryz.results95, go_sem, tokVal]
set_option maxHeartbeats 1000000 in
theorem token_m46 (s : ByteArray) (n : Nat) (w : World) (hs : s.size ≤ maxLen) (hn : n < s.size) (hc : (s[n].toNat : Int) = 46) :
    Calls Tryz.prog 95 #[.string s, .int .i64 n] w fun e w' => e = .returned (tokVal (Rf.tokenAt s n)) ∧ Below w.heap.size w w' := by
  unfold maxLen at hs
  have hd : Rf.digitB 46 = false := by decide
  have hl : Rf.letterB 46 = false := by decide
  have hT : Hid (Rf.tokenAt s n = ⟨46, n, s.extract n (n + 1), 0⟩) := by
    unfold Hid Rf.tokenAt; rw [← Rf.byteAt_eq s n hn, hc]; simp [hd, hl, Rf.markB]
  go_enter Tryz.func95, Tryz.ntmps95
  go_wp2_with (first | (go_at_call 134; refine (letter_any _ _).mono ?_; rintro e w' ⟨rfl, rfl⟩) | (go_at_call 133; refine (digit_any _ _).mono ?_; rintro e w' ⟨rfl, rfl⟩))
  refine bodyPost_ret (v := tokVal (Rf.tokenAt s n)) ?_ rfl ⟨rfl, (Below.refl _ _).alloc (Nat.le_refl _) _⟩
  rw [hT.out]
  simp [results, Tryz.results95, go_sem, tokVal]
set_option maxHeartbeats 1000000 in
theorem token_m33 (s : ByteArray) (n : Nat) (w : World) (hs : s.size ≤ maxLen) (hn : n < s.size) (hc : (s[n].toNat : Int) = 33) :
    Calls Tryz.prog 95 #[.string s, .int .i64 n] w fun e w' => e = .returned (tokVal (Rf.tokenAt s n)) ∧ Below w.heap.size w w' := by
  unfold maxLen at hs
  have hd : Rf.digitB 33 = false := by decide
  have hl : Rf.letterB 33 = false := by decide
  have hT : Hid (Rf.tokenAt s n = ⟨33, n, s.extract n (n + 1), 0⟩) := by
    unfold Hid Rf.tokenAt; rw [← Rf.byteAt_eq s n hn, hc]; simp [hd, hl, Rf.markB]
  go_enter Tryz.func95, Tryz.ntmps95
  go_wp2_with (first | (go_at_call 134; refine (letter_any _ _).mono ?_; rintro e w' ⟨rfl, rfl⟩) | (go_at_call 133; refine (digit_any _ _).mono ?_; rintro e w' ⟨rfl, rfl⟩))
  refine bodyPost_ret (v := tokVal (Rf.tokenAt s n)) ?_ rfl ⟨rfl, (Below.refl _ _).alloc (Nat.le_refl _) _⟩
  rw [hT.out]
  simp [results, Tryz.results95, go_sem, tokVal]
set_option maxHeartbeats 1000000 in
theorem token_colon (s : ByteArray) (n : Nat) (w : World) (hs : s.size ≤ maxLen) (hn : n < s.size) (hc : (s[n].toNat : Int) = 58) :
    Calls Tryz.prog 95 #[.string s, .int .i64 n] w fun e w' => e = .returned (tokVal (Rf.tokenAt s n)) ∧ Below w.heap.size w w' := by
  unfold maxLen at hs
  have hd : Rf.digitB 58 = false := by decide
  have hl : Rf.letterB 58 = false := by decide
  have hT : Hid (Rf.tokenAt s n = if n + 1 < s.size ∧ Rf.byteAt s (n + 1) = 45 then ⟨58, n, ⟨#[58, 45]⟩, 0⟩ else Rf.bad n 2) := by
    unfold Hid Rf.tokenAt; rw [← Rf.byteAt_eq s n hn, hc]; simp [hd, hl, Rf.markB]
  by_cases h1 : n + 1 < s.size
  · have hb := Rf.byteAt_eq s (n + 1) h1
    by_cases h2 : (s[n + 1].toNat : Int) = 45
    · have hT2 : Hid (Rf.tokenAt s n = ⟨58, n, ⟨#[58, 45]⟩, 0⟩) := by unfold Hid; rw [hT.out, if_pos ⟨h1, by rw [← hb]; exact h2⟩]
      clear hb hT
      go_enter Tryz.func95, Tryz.ntmps95
      go_wp2_with (first | (go_at_call 134; refine (letter_any _ _).mono ?_; rintro e w' ⟨rfl, rfl⟩) | (go_at_call 133; refine (digit_any _ _).mono ?_; rintro e w' ⟨rfl, rfl⟩))
      refine bodyPost_ret (v := tokVal (Rf.tokenAt s n)) ?_ rfl ⟨rfl, (Below.refl _ _).alloc (Nat.le_refl _) _⟩
      rw [hT2.out]
      simp [results, Tryz.results95, go_sem, tokVal]
    · have hT2 : Hid (Rf.tokenAt s n = Rf.bad n 2) := by unfold Hid; rw [hT.out, if_neg (by rw [← hb]; exact fun h => h2 h.2)]
      have h3 : ((s[n + 1].toNat : Int) == 45) = false := beq_eq_false_iff_ne.2 h2
      clear hb hT h2
      go_enter Tryz.func95, Tryz.ntmps95
      go_wp2_with (first | (go_at_call 134; refine (letter_any _ _).mono ?_; rintro e w' ⟨rfl, rfl⟩) | (go_at_call 133; refine (digit_any _ _).mono ?_; rintro e w' ⟨rfl, rfl⟩))
      refine bodyPost_ret (v := tokVal (Rf.tokenAt s n)) ?_ rfl ⟨rfl, (Below.refl _ _).alloc (Nat.le_refl _) _⟩
      rw [hT2.out]
      simp [results, Tryz.results95, go_sem, tokVal, Rf.bad]
  · have hT2 : Hid (Rf.tokenAt s n = Rf.bad n 2) := by unfold Hid; rw [hT.out, if_neg (fun h => h1 h.1)]
    clear hT
    go_enter Tryz.func95, Tryz.ntmps95
    go_wp2_with (first | (go_at_call 134; refine (letter_any _ _).mono ?_; rintro e w' ⟨rfl, rfl⟩) | (go_at_call 133; refine (digit_any _ _).mono ?_; rintro e w' ⟨rfl, rfl⟩))
    refine bodyPost_ret (v := tokVal (Rf.tokenAt s n)) ?_ rfl ⟨rfl, (Below.refl _ _).alloc (Nat.le_refl _) _⟩
    rw [hT2.out]
    simp [results, Tryz.results95, go_sem, tokVal, Rf.bad]
set_option maxHeartbeats 1000000 in
theorem token_other (s : ByteArray) (n : Nat) (w : World) (_hs : s.size ≤ maxLen) (hn : n < s.size) (hd : Rf.digitB (s[n].toNat : Int) = false) (hl : Rf.letterB (s[n].toNat : Int) = false)
    (c1 : ((s[n].toNat : Int) == 45) = false) (c2 : ((s[n].toNat : Int) == 40) = false) (c3 : ((s[n].toNat : Int) == 41) = false) (c4 : ((s[n].toNat : Int) == 44) = false) (c5 : ((s[n].toNat : Int) == 46) = false) (c6 : ((s[n].toNat : Int) == 33) = false) (c7 : ((s[n].toNat : Int) == 58) = false) :
    Calls Tryz.prog 95 #[.string s, .int .i64 n] w fun e w' => e = .returned (tokVal (Rf.tokenAt s n)) ∧ Below w.heap.size w w' := by
  have hT : Hid (Rf.tokenAt s n = Rf.bad n 2) := by
    unfold Hid Rf.tokenAt; rw [← Rf.byteAt_eq s n hn, if_neg (beq_eq_false_iff_ne.1 c1), if_neg (by simp [hd]), if_neg (by simp [hl]), if_neg (by simp [Rf.markB, c2, c3, c4, c5, c6]), if_neg (fun h => beq_eq_false_iff_ne.1 c7 h.1)]
  go_enter Tryz.func95, Tryz.ntmps95
  go_wp2_with (first | (go_at_call 134; refine (letter_any _ _).mono ?_; rintro e w' ⟨rfl, rfl⟩) | (go_at_call 133; refine (digit_any _ _).mono ?_; rintro e w' ⟨rfl, rfl⟩))
  refine bodyPost_ret (v := tokVal (Rf.tokenAt s n)) ?_ rfl ⟨rfl, (Below.refl _ _).alloc (Nat.le_refl _) _⟩
  rw [hT.out]
  simp [results, Tryz.results95, go_sem, tokVal, Rf.bad]
theorem token_any (s : ByteArray) (n : Nat) (w : World) (hs : s.size ≤ maxLen) (hn : n < s.size) :
    Calls Tryz.prog 95 #[.string s, .int .i64 n] w fun e w' => e = .returned (tokVal (Rf.tokenAt s n)) ∧ Below w.heap.size w w' := by
  by_cases h1 : (s[n].toNat : Int) = 45
  · exact token_neg s n w hs hn h1
  cases hd : Rf.digitB (s[n].toNat : Int) with
  | true => exact token_dig s n w hs hn hd
  | false =>
  cases hl : Rf.letterB (s[n].toNat : Int) with
  | true => exact token_let s n w hs hn (beq_eq_false_iff_ne.2 h1) hd hl
  | false =>
  by_cases h2 : (s[n].toNat : Int) = 40
  · exact token_m40 s n w hs hn h2
  by_cases h3 : (s[n].toNat : Int) = 41
  · exact token_m41 s n w hs hn h3
  by_cases h4 : (s[n].toNat : Int) = 44
  · exact token_m44 s n w hs hn h4
  by_cases h5 : (s[n].toNat : Int) = 46
  · exact token_m46 s n w hs hn h5
  by_cases h6 : (s[n].toNat : Int) = 33
  · exact token_m33 s n w hs hn h6
  by_cases h7 : (s[n].toNat : Int) = 58
  · exact token_colon s n w hs hn h7
  exact token_other s n w hs hn hd hl (beq_eq_false_iff_ne.2 h1) (beq_eq_false_iff_ne.2 h2) (beq_eq_false_iff_ne.2 h3) (beq_eq_false_iff_ne.2 h4) (beq_eq_false_iff_ne.2 h5) (beq_eq_false_iff_ne.2 h6) (beq_eq_false_iff_ne.2 h7)
end Go.Proofs.YthdmbbfaphipkaaGreatDoor
/- What the document's scanner (promptref: Tokens) does at every text of at most 400 bytes: it gives the plain function's tokens in new memory and leaves all memory that was there. -/
namespace Go.Proofs.YthdmbbfaphipkaaGreatDoor
open Go.RowKit
def tokCells (t : Rf.Tok) : List Value := [.int .u8 t.k, .int .i64 t.at_, .string t.s, .int .i64 t.e]
theorem tokCells_len (t : Rf.Tok) : (tokCells t).length = 4 := rfl
theorem tokCells_one (t : Rf.Tok) : ∀ u ∈ tokCells t, u.oneCell' = true := by
  intro u hu
  simp only [tokCells, List.mem_cons, List.not_mem_nil, or_false] at hu
  rcases hu with rfl | rfl | rfl | rfl <;> rfl
theorem Tryz.elemTok : ElemOk Tryz.prog 144 149 4 40 (.agg #[.int .u8 0, .int .i64 0, .string ⟨#[]⟩, .int .i64 0]) := ⟨Tryz.underlying144, by kernel_rfl, rfl, by decide, by decide⟩
theorem cell_four_at (w : World) (N : Nat) (hN : N = w.heap.size) (x y z u : Value) (t : TypeId) : ∀ j v, [x, y, z, u][j]? = some v → (w.alloc (.cells #[x, y, z, u] t)).cell? ((⟨N, 0, none⟩ : Addr).add j) = some v := by
  subst hN
  intro j v hj
  match j, hj with
  | 0, hj => simp at hj; subst hj; simp [Addr.add]
  | 1, hj => simp at hj; subst hj; simp [Addr.add]
  | 2, hj => simp at hj; subst hj; simp [Addr.add]
  | 3, hj => simp at hj; subst hj; simp [Addr.add]
  | (j + 4), hj => simp at hj
theorem tok_box (X : Rf.Tok) {w w2 : World} {N : Nat} {o : Obj} {row : Option Nat} (hg : World.grownBy ((w.alloc (.cells #[.int .u8 X.k, .int .i64 X.at_, .string X.s, .int .i64 X.e] N)).alloc o) w2 row) (hn : row ≠ some w.heap.size) :
    w2.cell? ⟨w.heap.size, 0, none⟩ = some (.int .u8 X.k) ∧ w2.cell? ⟨w.heap.size, 2, none⟩ = some (.string X.s) := by
  have hb := hg.block w.heap.size (by simp; omega) (fun e => hn e.symm)
  exact ⟨(World.cell?_of_block (a := ⟨w.heap.size, 0, none⟩) hb).trans (by simp), (World.cell?_of_block (a := ⟨w.heap.size, 2, none⟩) hb).trans (by simp)⟩
set_option maxHeartbeats 1000000 in
set_option maxRecDepth 100000 in
theorem tokens_any (s : ByteArray) (w : World) (hs : s.size ≤ 400) :
    Calls Tryz.prog 66 #[.string s] w fun e w' => ∃ v, e = .returned v ∧ RowIs w' w.heap.size 149 4 tokCells v (Rf.tokens s) ∧ Below w.heap.size w w' := by
  go_enter Tryz.func66, Tryz.ntmps66
  go_wp2
  go_loopw [3, 4, 5] (fun l i _ wr => ∃ (k f : Nat) (pre : List Rf.Tok), k ≤ s.size ∧ s.size ≤ k + f ∧ f ≤ s.size ∧ i = .int .i64 k ∧ pre.length + f ≤ s.size ∧ RowIs wr w.heap.size 149 4 tokCells l pre ∧ Below w.heap.size w wr ∧ Hid (pre ++ Rf.toks s f k = Rf.tokens s)) (fun _ i _ _ => s.size - (intOf i).toNat)
  case atStart => exact ⟨0, s.size, [], by omega, by omega, by omega, rfl, by simp, RowIs.nil _ _ _ _ _, Below.refl _ _, rfl⟩
  case round =>
    obtain ⟨k, f, pre, hk, hkf, hf, rfl, hpre, Hown, Hbel, hT⟩ := hrel
    have hsz := Hbel.size
    by_cases hlt : k < s.size
    · have hb := Rf.byteAt_eq s k hlt
      cases hbl : Rf.blankB (s[k].toNat : Int) with
      | true =>
        have hT2 : Hid (pre ++ Rf.toks s (f - 1) (k + 1) = Rf.tokens s) := by
          unfold Hid; rw [← Rf.toks_blank s f k hlt hkf (by rw [← hb]; exact hbl)]; exact hT.out
        have hbl' : (s[k].toNat : Int) = 32 ∨ ((s[k].toNat : Int) == 32) = false ∧ ((s[k].toNat : Int) == 10) = true := by
          unfold Rf.blankB at hbl; simp at hbl ⊢; omega
        clear hb hbl
        rcases hbl' with h32 | ⟨h32, h10⟩
        all_goals
          go_wp2_with fail
          go_roundw
          case rel => exact ⟨k + 1, f - 1, pre, by omega, by omega, by omega, by go_num, by omega, Hown, Hbel, hT2⟩
          case measure => simp [intOf]; omega
      | false =>
        have h32 : ((s[k].toNat : Int) == 32) = false := by unfold Rf.blankB at hbl; simp at hbl ⊢; omega
        have h10 : ((s[k].toNat : Int) == 10) = false := by unfold Rf.blankB at hbl; simp at hbl ⊢; omega
        have hfit := Rf.tokenAt_fit s k hlt
        by_cases h63 : (Rf.tokenAt s k).k = 63
        · have hT2 : Hid (Rf.tokens s = pre ++ [Rf.tokenAt s k]) := by
            unfold Hid; rw [← Rf.toks_bad s f k hlt hkf (by rw [← hb]; exact hbl) h63]; exact hT.out.symm
          clear hfit hb hbl
          generalize hX : Rf.tokenAt s k = X at *
          have HX : Hid _ := hX
          have hb63 : (X.k == 63) = true := beq_iff_eq.2 h63
          clear hX h63
          go_wp2_with (first
            | (go_at_call 95; refine (token_any s k _ (by unfold maxLen; omega) hlt).mono ?_; rintro e w1 ⟨rfl, hbw⟩; rw [HX.out])
            | (at_builtin; refine wpList_app Tryz.elemTok tokCells tokCells_len tokCells_one _ rfl (.tmp 25) (.tmp 27) rfl w.heap.size _ pre rfl (((Hown.below hbw).alloc _).alloc _) ⟨_, 0, none⟩ 1 X rfl (cell_four_at _ _ (by simp) _ _ _ _ _) (by omega) (by have := hbw.size; simp; omega) ?_; intro g cap w2 hrow hgr _; obtain ⟨c0, c2⟩ := tok_box X hgr (fun e => by have := (Hown.lt _ e).2; have := hbw.size; omega)))
          go_ret
          refine ⟨_, rfl, ?_, ?_⟩
          · rw [hT2.out]; exact hrow
          · exact (((Hbel.trans (hbw.mono hsz)).alloc (by have := hbw.size; omega) _).alloc (by have := hbw.size; simp; omega) _).grown hgr (by have := hbw.size; simp; omega) (fun j hj => (Hown.lt j hj).1)
        · obtain ⟨hf1, hf2⟩ := hfit h63
          have hT2 : Hid ((pre ++ [Rf.tokenAt s k]) ++ Rf.toks s (f - 1) (k + (Rf.tokenAt s k).s.size) = Rf.tokens s) := by
            unfold Hid; rw [List.append_assoc, List.singleton_append, ← Rf.toks_tok s f k hlt hkf (by rw [← hb]; exact hbl) h63]; exact hT.out
          clear hfit hb hbl
          generalize hX : Rf.tokenAt s k = X at *
          have HX : Hid _ := hX
          have hb63 : (X.k == 63) = false := beq_eq_false_iff_ne.2 h63
          clear hX h63
          go_wp2_with (first
            | (go_at_call 95; refine (token_any s k _ (by unfold maxLen; omega) hlt).mono ?_; rintro e w1 ⟨rfl, hbw⟩; rw [HX.out])
            | (at_builtin; refine wpList_app Tryz.elemTok tokCells tokCells_len tokCells_one _ rfl (.tmp 25) (.tmp 27) rfl w.heap.size _ pre rfl (((Hown.below hbw).alloc _).alloc _) ⟨_, 0, none⟩ 1 X rfl (cell_four_at _ _ (by simp) _ _ _ _ _) (by omega) (by have := hbw.size; simp; omega) ?_; intro g cap w2 hrow hgr _; obtain ⟨c0, c2⟩ := tok_box X hgr (fun e => by have := (Hown.lt _ e).2; have := hbw.size; omega)))
          go_roundw
          case rel =>
            refine ⟨k + X.s.size, f - 1, pre ++ [X], by omega, by omega, by omega, by go_num, by simp; omega, hrow, ?_, hT2⟩
            exact (((Hbel.trans (hbw.mono hsz)).alloc (by have := hbw.size; omega) _).alloc (by have := hbw.size; simp; omega) _).grown hgr (by have := hbw.size; simp; omega) (fun j hj => (Hown.lt j hj).1)
          case measure => simp [intOf]; omega
    · have hT2 : Hid (Rf.tokens s = pre ++ [Rf.endTok s]) := by
        unfold Hid; rw [← Rf.toks_end s f k (by omega)]; exact hT.out.symm
      go_wp2_with (at_builtin; refine wpList_app Tryz.elemTok tokCells tokCells_len tokCells_one _ rfl (.tmp 38) (.tmp 42) rfl w.heap.size _ pre rfl (Hown.alloc _) ⟨_, 0, none⟩ 1 (Rf.endTok s) rfl (cell_four_at _ _ (by simp) _ _ _ _ _) (by omega) (by simp; omega) ?_; intro g cap w2 hrow hgr _)
      go_ret
      refine ⟨_, rfl, ?_, ?_⟩
      · rw [hT2.out]; exact hrow
      · exact (Hbel.alloc (by omega) _).grown hgr (by simp; omega) (fun j hj => (Hown.lt j hj).1)
end Go.Proofs.YthdmbbfaphipkaaGreatDoor
/- How a reading (promptref.Reading), its tokens, names and terms lie in memory. -/
namespace Go.Proofs.YthdmbbfaphipkaaGreatDoor
open Go.RowKit
/-- Block b holds a reading's five cells. -/
def RdB (w : World) (b : Nat) (vL : Value) (I : Int) (vN : Value) (E P : Int) : Prop :=
  w.heap[b]? = some (.cells #[vL, .int .i64 I, vN, .int .i64 E, .int .i64 P] 147 (0, 0))
theorem RdB.facts {w : World} {b : Nat} {vL : Value} {I : Int} {vN : Value} {E P : Int} (h : RdB w b vL I vN E P) :
    w.cell? ⟨b, 0, none⟩ = some vL ∧ w.cell? ⟨b, 1, none⟩ = some (.int .i64 I) ∧ w.cell? ⟨b, 2, none⟩ = some vN ∧ w.cell? ⟨b, 3, none⟩ = some (.int .i64 E) ∧ w.cell? ⟨b, 4, none⟩ = some (.int .i64 P) ∧ (∀ i, w.frozen? ⟨b, i, none⟩ = false) ∧ b < w.heap.size :=
  ⟨blk_cell h 0, blk_cell h 1, blk_cell h 2, blk_cell h 3, blk_cell h 4, blk_frozen h, blk_lt h⟩
/-- A reading with no fault: block b, the tokens' row in block g, the names' block nb; l: the tokens that are left; ns: the names. -/
structure Rd (w : World) (b g : Nat) (nb : Option Nat) (l : List Rf.Tok) (ns : List ByteArray) : Prop where
  ex : ∃ (cap I : Nat) (vN : Value) (all : List Rf.Tok), RdB w b (.slice (some ⟨g, 0, none⟩) all.length cap) I vN 0 0 ∧ all.drop I = l ∧ Rf.Ended l ∧ all.length ≤ 401 ∧ RowIs w 0 149 4 tokCells (.slice (some ⟨g, 0, none⟩) all.length cap) all ∧
    RowIs w 0 9 1 strCells vN ns ∧ vN.ownBlock = nb ∧ b ≠ g ∧ nb ≠ some b ∧ nb ≠ some g ∧ ns.length ≤ 16
/-- A reading with a fault E at P. -/
structure RdE (w : World) (b : Nat) (E P : Int) : Prop where
  ex : ∃ (vL : Value) (I : Int) (a : Option Addr) (n c : Nat), RdB w b vL I (.slice a n c) E P ∧ E ≠ 0
set_option maxHeartbeats 400000 in
theorem now_lt (b g n cap I : Nat) (t : Rf.Tok) (w : World) (_hn : n ≤ 401) (hI : I < n) (hb : b < w.heap.size) (hg : g < w.heap.size)
   (h0 : w.cell? ⟨b, 0, none⟩ = some (.slice (some ⟨g, 0, none⟩) n cap)) (h1 : w.cell? ⟨b, 1, none⟩ = some (.int .i64 I))
   (k0 : w.cell? ⟨g, I * 4, none⟩ = some (.int .u8 t.k)) (k1 : w.cell? ⟨g, I * 4 + 1, none⟩ = some (.int .i64 t.at_)) (k2 : w.cell? ⟨g, I * 4 + 2, none⟩ = some (.string t.s)) (k3 : w.cell? ⟨g, I * 4 + 3, none⟩ = some (.int .i64 t.e)) :
    Calls Tryz.prog 67 #[.pointer (some ⟨b, 0, none⟩)] w fun e w' => e = .returned (tokVal t) ∧ Below w.heap.size w w' := by
  go_enter Tryz.func67, Tryz.ntmps67
  go_wp2
  go_quiet (fail)
  go_wp2
  go_region
  go_wp2
  exact bodyPost_ret (v := tokVal t) (by simp [results, Tryz.results67, go_sem, tokVal]) rfl ⟨rfl, (by repeat (first | exact Below.refl _ _ | refine Below.setCell ?_ (by simp <;> omega) _ | refine Below.drew ?_ | refine Below.drewN ?_ _ | refine Below.alloc ?_ (by simp <;> omega) _))⟩
theorem now_any (b g : Nat) (nb : Option Nat) (t : Rf.Tok) (l : List Rf.Tok) (ns : List ByteArray) (w : World) (h : Rd w b g nb (t :: l) ns) :
    Calls Tryz.prog 67 #[.pointer (some ⟨b, 0, none⟩)] w fun e w' => e = .returned (tokVal t) ∧ Below w.heap.size w w' := by
  obtain ⟨cap, I, vN, all, hB, hd, _, hlen, hrow, _⟩ := h.ex
  obtain ⟨h0, h1, _, _, _, _, hb⟩ := hB.facts
  have hI : all[I]? = some t := by
    have := congrArg (fun l => l[0]?) hd
    simpa using this
  have hIl := (List.getElem?_eq_some_iff.1 hI).1
  have hc := hrow.cells tokCells_len I t hI
  exact now_lt b g all.length cap I t w hlen hIl hb ((hrow.lt g rfl).2) h0 h1 (hc 0 _ rfl) (hc 1 _ rfl) (hc 2 _ rfl) (hc 3 _ rfl)
theorem Rd.below {w w' : World} {b g : Nat} {nb : Option Nat} {l : List Rf.Tok} {ns : List ByteArray} (h : Rd w b g nb l ns) (hb : Below w.heap.size w w') : Rd w' b g nb l ns := by
  obtain ⟨cap, I, vN, all, hB, h1, h2, h3, hrow, hnam, h4⟩ := h.ex
  exact ⟨cap, I, vN, all, (hb.block b (blk_lt hB)).trans hB, h1, h2, h3, hrow.below hb, hnam.below hb, h4⟩
theorem RdE.below {w w' : World} {b : Nat} {E P : Int} (h : RdE w b E P) (hb : Below w.heap.size w w') : RdE w' b E P := by
  obtain ⟨vL, I, a, n, c, hB, hE⟩ := h.ex
  exact ⟨vL, I, a, n, c, (hb.block b (blk_lt hB)).trans hB, hE⟩
end Go.Proofs.YthdmbbfaphipkaaGreatDoor
