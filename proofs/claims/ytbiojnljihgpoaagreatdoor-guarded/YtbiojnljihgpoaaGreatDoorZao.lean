
import Derived.Test.YtbiojnljihgpoaaGreatDoorZab
import Derived.Test.YtbiojnljihgpoaaGreatDoorZam
namespace Go.Proofs.YtbiojnljihgpoaaGreatDoor
open Go.RowKit
set_option maxHeartbeats 400000 in
theorem isSmall_any (c : Int) (w : World) :
  Calls Tryz.prog 80 #[.int .u8 c] w fun e w' => e = .returned (.bool (Rf.smallB c)) /\ w' = w := by
 go_enter Tryz.func80, Tryz.ntmps80
 go_wp2
 all_goals go_ret
 all_goals refine ⟨ret_bool ?_, rfl⟩
 all_goals (unfold Rf.smallB; rw [Bool.eq_iff_iff]; simp; try omega)
set_option maxHeartbeats 400000 in
theorem isGreat_any (c : Int) (w : World) :
  Calls Tryz.prog 82 #[.int .u8 c] w fun e w' => e = .returned (.bool (Rf.greatB c)) /\ w' = w := by
 go_enter Tryz.func82, Tryz.ntmps82
 go_wp2
 all_goals go_ret
 all_goals refine ⟨ret_bool ?_, rfl⟩
 all_goals (unfold Rf.greatB; rw [Bool.eq_iff_iff]; simp; try omega)
set_option maxHeartbeats 400000 in
theorem isDigit_any (c : Int) (w : World) :
  Calls Tryz.prog 83 #[.int .u8 c] w fun e w' => e = .returned (.bool (Rf.digitB c)) /\ w' = w := by
 go_enter Tryz.func83, Tryz.ntmps83
 go_wp2
 all_goals go_ret
 all_goals refine ⟨ret_bool ?_, rfl⟩
 all_goals (unfold Rf.digitB; rw [Bool.eq_iff_iff]; simp; try omega)
theorem word_of (c : Int) : Rf.letterB c = (Rf.smallB c || Rf.greatB c || Rf.digitB c || c == 95) := by
 unfold Rf.letterB Rf.smallB Rf.greatB Rf.digitB
 rw [Bool.eq_iff_iff]; simp; omega
set_option maxHeartbeats 400000 in
theorem isWord_any (c : Int) (w : World) :
  Calls Tryz.prog 106 #[.int .u8 c] w fun e w' => e = .returned (.bool (Rf.letterB c)) /\ w' = w := by
 have hw : Hid _ := word_of c
 cases h1 : Rf.smallB c <;> cases h2 : Rf.greatB c <;> cases h3 : Rf.digitB c
 all_goals
  go_enter Tryz.func106, Tryz.ntmps106
  go_wp2_with (first | (go_at_call 80; refine (isSmall_any _ _).mono ?_; rintro e w' ⟨rfl, rfl⟩) | (go_at_call 82; refine (isGreat_any _ _).mono ?_; rintro e w' ⟨rfl, rfl⟩) | (go_at_call 83; refine (isDigit_any _ _).mono ?_; rintro e w' ⟨rfl, rfl⟩))
  all_goals go_ret
  all_goals exact ⟨ret_bool (by rw [hw.out, h1, h2, h3]; simp), rfl⟩
set_option maxHeartbeats 400000 in
theorem pastBlanks_any (s : ByteArray) (n : Nat) (w : World) (hs : s.size <= 400) (hn : n <= s.size) :
    Calls Tryz.prog 79 #[.string s, .int .i64 n] w fun e w' => e = .returned (.int .i64 (n + Rf.skipLen s n : Nat)) /\ w' = w := by
  have hle := Rf.skipLen_le s n
  go_enter Tryz.func79, Tryz.ntmps79
  go_wp2
  go_loop [1] (fun i => ∃ k : Nat, n <= k /\ k <= s.size /\ i = .int .i64 k /\ Hid (k + Rf.skipLen s k = n + Rf.skipLen s n)) (fun i => s.size - (intOf i).toNat)
  case atStart => exact ⟨n, by omega, by omega, rfl, rfl⟩
  case round =>
    obtain ⟨k, hk1, hk2, rfl, hk⟩ := hrel
    by_cases hlt : k < s.size
    · have hb := Rf.byteAt_eq s k hlt
      have hy : Hid (Rf.blankB (s[k].toNat : Int) = true -> k + 1 + Rf.skipLen s (k + 1) = n + Rf.skipLen s n) := by
        intro h; rw [hb] at h; have := Rf.skipLen_yes s k hlt h; have := hk.out; omega
      have hno : Hid (Rf.blankB (s[k].toNat : Int) = false -> k = n + Rf.skipLen s n) := by
        intro h; rw [hb] at h; have := Rf.skipLen_no s k hlt h; have := hk.out; omega
      clear hb
      cases h32 : ((s[k].toNat : Int) == 32) <;> cases h10 : ((s[k].toNat : Int) == 10)
      all_goals
        go_wp2
        first
        | (go_round
           case rel => exact ⟨k + 1, by omega, by omega, by go_num, hy.out (by simp only [Rf.blankB, h32, h10]; rfl)⟩
           case measure => simp [intOf]; omega)
        | (go_ret
           exact ⟨ret_int (by have h9 := hno.out (by simp only [Rf.blankB, h32, h10]; rfl); omega), rfl⟩)
    · have hend : Hid (k = n + Rf.skipLen s n) := by have := Rf.skipLen_end s k (by omega); have := hk.out; unfold Hid; omega
      go_wp2
      go_ret
      exact ⟨ret_int (by have h9 := hend.out; omega), rfl⟩
set_option maxHeartbeats 1000000 in
theorem scanWord_any (s : ByteArray) (n : Nat) (K : Int) (w : World) (hs : s.size <= 400) (hn : n <= s.size) :
  Calls Tryz.prog 81 #[.string s, .int .i64 n, .int .i64 K] w fun e w' => e = .returned (.agg #[.int .i64 (Rf.wordK (Rf.runLen s false n) K), .int .i64 n, .int .i64 ((n : Int) + Rf.runLen s false n), .int .i64 (Rf.wordC (Rf.runLen s false n))]) /\ Below w.heap.size w w' := by
 have hle := Rf.runLen_le s false n
 go_enter Tryz.func81, Tryz.ntmps81
 go_wp2_with fail
 go_loop [7] (fun i => ∃ k : Nat, n <= k /\ k <= s.size /\ i = .int .i64 k /\ Hid (k + Rf.runLen s false k = n + Rf.runLen s false n)) (fun i => s.size - (intOf i).toNat)
 case atStart => exact ⟨n, by omega, by omega, rfl, rfl⟩
 case round =>
  obtain ⟨k, hk1, hk2, rfl, hk⟩ := hrel
  have hcase : (k < s.size /\ ∃ h : k < s.size, Rf.letterB (s[k].toNat : Int) = true) \/ (Hid (k = n + Rf.runLen s false n) /\ (s.size <= k \/ ∃ h : k < s.size, Rf.letterB (s[k].toNat : Int) = false)) := by
   by_cases hlt : k < s.size
   ·have hb := Rf.byteAt_eq s k hlt
    cases hl : Rf.letterB (s[k].toNat : Int)
    ·refine .inr ⟨?_, .inr ⟨hlt, hl⟩⟩
     rw [hb, <- Rf.okB_letter] at hl
     have := Rf.runLen_no s false k hlt hl; have := hk.out; unfold Hid; omega
    ·exact .inl ⟨hlt, hlt, hl⟩
   ·exact .inr ⟨by have := Rf.runLen_end s false k (by omega); have := hk.out; unfold Hid; omega, .inl (by omega)⟩
  rcases hcase with ⟨hlt, _, hl⟩ | ⟨he, hc⟩
  ·have hy : Hid (k + 1 + Rf.runLen s false (k + 1) = n + Rf.runLen s false n) := by
    have hb := Rf.byteAt_eq s k hlt
    have hl' := hl
    rw [hb, <- Rf.okB_letter] at hl'
    have := Rf.runLen_yes s false k hlt hl'; have := hk.out; unfold Hid; omega
   go_wp2_with (go_at_call 106; refine (isWord_any _ _).mono ?_; rintro e w' ⟨rfl, rfl⟩)
   go_round
   case rel => exact ⟨k + 1, by omega, by omega, by go_num, hy⟩
   case measure => simp [intOf]; omega
  ·generalize hL : Rf.runLen s false n = L at *
   have HL : Hid _ := hL
   have hLk : Hid (L = k - n) := by have := he.out; unfold Hid; omega
   clear hL hle
   rcases hc with hc | ⟨hlt, hl⟩
   all_goals
    by_cases h12 : 12 < k - n
    ·have h12' : (12 : Int) < (k : Int) - n := by omega
     go_wp2_with (go_at_call 106; refine (isWord_any _ _).mono ?_; rintro e w' ⟨rfl, rfl⟩)
     refine bodyPost_ret (v := .agg #[.int .i64 1, .int .i64 n, .int .i64 (k : Int), .int .i64 3]) (by simp [results, Tryz.results81, go_sem]) rfl ⟨?_, (Below.refl _ _).alloc (Nat.le_refl _) _⟩
     have h9 := hLk.out
     rw [HL.out]
     unfold Rf.wordK Rf.wordC
     rw [if_pos (by omega), if_pos (by omega), show ((n : Int) + (L : Int)) = (k : Int) by omega]
    ·have h12' : (k : Int) - n <= 12 := by omega
     go_wp2_with (go_at_call 106; refine (isWord_any _ _).mono ?_; rintro e w' ⟨rfl, rfl⟩)
     refine bodyPost_ret (v := .agg #[.int .i64 K, .int .i64 n, .int .i64 (k : Int), .int .i64 0]) (by simp [results, Tryz.results81, go_sem]) rfl ⟨?_, (Below.refl _ _).alloc (Nat.le_refl _) _⟩
     have h9 := hLk.out
     rw [HL.out]
     unfold Rf.wordK Rf.wordC
     rw [if_neg (by omega), if_neg (by omega), show ((n : Int) + (L : Int)) = (k : Int) by omega]
set_option maxHeartbeats 1000000 in
theorem scanFollows_any (s : ByteArray) (n : Nat) (w : World) (hs : s.size <= 400) (hn : n < s.size) :
  Calls Tryz.prog 85 #[.string s, .int .i64 n] w fun e w' => e = .returned (.agg #[.int .i64 (Rf.folK s n), .int .i64 n, .int .i64 (Rf.folT s n), .int .i64 (Rf.folC s n)]) /\ Below w.heap.size w w' := by
 by_cases h1 : n + 1 < s.size
 ·have hb := Rf.byteAt_eq s (n + 1) h1
  cases h2 : ((s[n + 1].toNat : Int) == 45)
  ·have hc : Hid (¬ (n + 1 < s.size /\ Rf.byteAt s (n + 1) = 45)) := by rw [<- hb]; exact fun h => beq_eq_false_iff_ne.1 h2 h.2
   clear hb
   go_enter Tryz.func85, Tryz.ntmps85
   go_wp2
   refine bodyPost_ret (v := .agg #[.int .i64 1, .int .i64 n, .int .i64 ((n : Int) + 1), .int .i64 2]) (by simp [results, Tryz.results85, go_sem]) rfl ⟨?_, (Below.refl _ _).alloc (Nat.le_refl _) _⟩
   unfold Rf.folK Rf.folT Rf.folC; rw [if_neg hc.out, if_neg hc.out, if_neg hc.out]
  ·have hc : Hid (n + 1 < s.size /\ Rf.byteAt s (n + 1) = 45) := by rw [<- hb]; exact ⟨h1, eq_of_beq h2⟩
   clear hb
   go_enter Tryz.func85, Tryz.ntmps85
   go_wp2
   refine bodyPost_ret (v := .agg #[.int .i64 10, .int .i64 n, .int .i64 ((n : Int) + 1 + 1), .int .i64 0]) (by simp [results, Tryz.results85, go_sem]) rfl ⟨?_, (Below.refl _ _).alloc (Nat.le_refl _) _⟩
   unfold Rf.folK Rf.folT Rf.folC; rw [if_pos hc.out, if_pos hc.out, if_pos hc.out, show ((n : Int) + 1 + 1) = (n : Int) + 2 by omega]
 ·have hc : Hid (¬ (n + 1 < s.size /\ Rf.byteAt s (n + 1) = 45)) := fun h => h1 h.1
  go_enter Tryz.func85, Tryz.ntmps85
  go_wp2
  refine bodyPost_ret (v := .agg #[.int .i64 1, .int .i64 n, .int .i64 ((n : Int) + 1), .int .i64 2]) (by simp [results, Tryz.results85, go_sem]) rfl ⟨?_, (Below.refl _ _).alloc (Nat.le_refl _) _⟩
  unfold Rf.folK Rf.folT Rf.folC; rw [if_neg hc.out, if_neg hc.out, if_neg hc.out]
theorem ret_ptok {a b c d a' c' d' : Int} (h1 : a = a') (h3 : c = c') (h4 : d = d') : Ending.returned (.agg #[.int .i64 a, .int .i64 b, .int .i64 c, .int .i64 d]) = .returned (.agg #[.int .i64 a', .int .i64 b, .int .i64 c', .int .i64 d']) := by rw [h1, h3, h4]
set_option maxHeartbeats 1000000 in
theorem scanNumber_neg (s : ByteArray) (n : Nat) (w : World) (hs : s.size <= 400) (hn : n < s.size) (h45 : ((s[n].toNat : Int) == 45) = true) :
  Calls Tryz.prog 84 #[.string s, .int .i64 n] w fun e w' => e = .returned (.agg #[.int .i64 (Rf.numK (Rf.runLen s true (n + 1))), .int .i64 n, .int .i64 ((((n + 1) : Nat) : Int) + Rf.runLen s true (n + 1)), .int .i64 (Rf.numC (Rf.runLen s true (n + 1)))]) /\ Below w.heap.size w w' := by
 have hle := Rf.runLen_le s true (n + 1)
 go_enter Tryz.func84, Tryz.ntmps84
 go_wp2_with fail
 go_loop [6] (fun i => ∃ k : Nat, (n + 1) <= k /\ k <= s.size /\ i = .int .i64 k /\ Hid (k + Rf.runLen s true k = (n + 1) + Rf.runLen s true (n + 1))) (fun i => s.size - (intOf i).toNat)
 case atStart => exact ⟨(n + 1), by omega, by omega, by go_num, rfl⟩
 case round =>
  obtain ⟨k, hk1, hk2, rfl, hk⟩ := hrel
  have hcase : (k < s.size /\ ∃ h : k < s.size, Rf.digitB (s[k].toNat : Int) = true) \/ (Hid (k = (n + 1) + Rf.runLen s true (n + 1)) /\ (s.size <= k \/ ∃ h : k < s.size, Rf.digitB (s[k].toNat : Int) = false)) := by
   by_cases hlt : k < s.size
   ·have hb := Rf.byteAt_eq s k hlt
    cases hl : Rf.digitB (s[k].toNat : Int)
    ·refine .inr ⟨?_, .inr ⟨hlt, hl⟩⟩
     rw [hb, <- Rf.okB_digit] at hl
     have := Rf.runLen_no s true k hlt hl; have := hk.out; unfold Hid; omega
    ·exact .inl ⟨hlt, hlt, hl⟩
   ·exact .inr ⟨by have := Rf.runLen_end s true k (by omega); have := hk.out; unfold Hid; omega, .inl (by omega)⟩
  rcases hcase with ⟨hlt, _, hl⟩ | ⟨he, hc⟩
  ·have hy : Hid (k + 1 + Rf.runLen s true (k + 1) = (n + 1) + Rf.runLen s true (n + 1)) := by
    have hb := Rf.byteAt_eq s k hlt
    have hl' := hl
    rw [hb, <- Rf.okB_digit] at hl'
    have := Rf.runLen_yes s true k hlt hl'; have := hk.out; unfold Hid; omega
   go_wp2_with (go_at_call 83; refine (isDigit_any _ _).mono ?_; rintro e w' ⟨rfl, rfl⟩)
   go_round
   case rel => exact ⟨k + 1, by omega, by omega, by go_num, hy⟩
   case measure => simp [intOf]; omega
  ·generalize hL : Rf.runLen s true (n + 1) = L at *
   have HL : Hid _ := hL
   have hLk : Hid (L = k - (n + 1)) := by have := he.out; unfold Hid; omega
   clear hL hle
   rcases hc with hc | ⟨hlt, hl⟩
   all_goals
    rcases (show k = (n + 1) \/ ((n + 1) < k /\ k - (n + 1) <= 9) \/ 9 < k - (n + 1) by omega) with h9 | ⟨h9, h9'⟩ | h9
    ·have e1 : ((k : Int) == (((n + 1) : Nat) : Int)) = true := by rw [beq_iff_eq]; omega
     simp only [Int.natCast_add, Int.natCast_one] at e1
     have H9 : Hid _ := h9
     clear h9
     go_wp2_with (go_at_call 83; refine (isDigit_any _ _).mono ?_; rintro e w' ⟨rfl, rfl⟩)
     all_goals have hz := hLk.out
     all_goals have hz9 := H9.out
     all_goals refine bodyPost_ret (v := .agg #[.int .i64 1, .int .i64 n, .int .i64 (k : Int), .int .i64 2]) (by simp [results, Tryz.results84, go_sem]) rfl ⟨?_, (Below.refl _ _).alloc (Nat.le_refl _) _⟩
     all_goals have hz2 := HL.out
     all_goals exact ret_ptok (by unfold Rf.numK; rw [if_pos (by omega)]) (by omega) (by unfold Rf.numC; rw [if_pos (by omega)])
    ·have e1 : ((k : Int) == (((n + 1) : Nat) : Int)) = false := by rw [beq_eq_false_iff_ne]; omega
     have e2 : (k : Int) - (((n + 1) : Nat) : Int) <= 9 := by omega
     simp only [Int.natCast_add, Int.natCast_one] at e1 e2
     go_wp2_with (go_at_call 83; refine (isDigit_any _ _).mono ?_; rintro e w' ⟨rfl, rfl⟩)
     have hz := hLk.out
     refine bodyPost_ret (v := .agg #[.int .i64 4, .int .i64 n, .int .i64 (k : Int), .int .i64 0]) (by simp [results, Tryz.results84, go_sem]) rfl ⟨?_, (Below.refl _ _).alloc (Nat.le_refl _) _⟩
     have hz2 := HL.out
     exact ret_ptok (by unfold Rf.numK; rw [if_neg (by omega), if_neg (by omega)]) (by omega) (by unfold Rf.numC; rw [if_neg (by omega), if_neg (by omega)])
    ·have e1 : ((k : Int) == (((n + 1) : Nat) : Int)) = false := by rw [beq_eq_false_iff_ne]; omega
     have e2 : 9 < (k : Int) - (((n + 1) : Nat) : Int) := by omega
     simp only [Int.natCast_add, Int.natCast_one] at e1 e2
     go_wp2_with (go_at_call 83; refine (isDigit_any _ _).mono ?_; rintro e w' ⟨rfl, rfl⟩)
     have hz := hLk.out
     refine bodyPost_ret (v := .agg #[.int .i64 1, .int .i64 n, .int .i64 (k : Int), .int .i64 3]) (by simp [results, Tryz.results84, go_sem]) rfl ⟨?_, (Below.refl _ _).alloc (Nat.le_refl _) _⟩
     have hz2 := HL.out
     exact ret_ptok (by unfold Rf.numK; rw [if_neg (by omega), if_pos (by omega)]) (by omega) (by unfold Rf.numC; rw [if_neg (by omega), if_pos (by omega)])
set_option maxHeartbeats 1000000 in
theorem scanNumber_pos (s : ByteArray) (n : Nat) (w : World) (hs : s.size <= 400) (hn : n < s.size) (h45 : ((s[n].toNat : Int) == 45) = false) :
  Calls Tryz.prog 84 #[.string s, .int .i64 n] w fun e w' => e = .returned (.agg #[.int .i64 (Rf.numK (Rf.runLen s true n)), .int .i64 n, .int .i64 (((n : Nat) : Int) + Rf.runLen s true n), .int .i64 (Rf.numC (Rf.runLen s true n))]) /\ Below w.heap.size w w' := by
 have hle := Rf.runLen_le s true n
 go_enter Tryz.func84, Tryz.ntmps84
 go_wp2_with fail
 go_loop [6] (fun i => ∃ k : Nat, n <= k /\ k <= s.size /\ i = .int .i64 k /\ Hid (k + Rf.runLen s true k = n + Rf.runLen s true n)) (fun i => s.size - (intOf i).toNat)
 case atStart => exact ⟨n, by omega, by omega, by go_num, rfl⟩
 case round =>
  obtain ⟨k, hk1, hk2, rfl, hk⟩ := hrel
  have hcase : (k < s.size /\ ∃ h : k < s.size, Rf.digitB (s[k].toNat : Int) = true) \/ (Hid (k = n + Rf.runLen s true n) /\ (s.size <= k \/ ∃ h : k < s.size, Rf.digitB (s[k].toNat : Int) = false)) := by
   by_cases hlt : k < s.size
   ·have hb := Rf.byteAt_eq s k hlt
    cases hl : Rf.digitB (s[k].toNat : Int)
    ·refine .inr ⟨?_, .inr ⟨hlt, hl⟩⟩
     rw [hb, <- Rf.okB_digit] at hl
     have := Rf.runLen_no s true k hlt hl; have := hk.out; unfold Hid; omega
    ·exact .inl ⟨hlt, hlt, hl⟩
   ·exact .inr ⟨by have := Rf.runLen_end s true k (by omega); have := hk.out; unfold Hid; omega, .inl (by omega)⟩
  rcases hcase with ⟨hlt, _, hl⟩ | ⟨he, hc⟩
  ·have hy : Hid (k + 1 + Rf.runLen s true (k + 1) = n + Rf.runLen s true n) := by
    have hb := Rf.byteAt_eq s k hlt
    have hl' := hl
    rw [hb, <- Rf.okB_digit] at hl'
    have := Rf.runLen_yes s true k hlt hl'; have := hk.out; unfold Hid; omega
   go_wp2_with (go_at_call 83; refine (isDigit_any _ _).mono ?_; rintro e w' ⟨rfl, rfl⟩)
   go_round
   case rel => exact ⟨k + 1, by omega, by omega, by go_num, hy⟩
   case measure => simp [intOf]; omega
  ·generalize hL : Rf.runLen s true n = L at *
   have HL : Hid _ := hL
   have hLk : Hid (L = k - n) := by have := he.out; unfold Hid; omega
   clear hL hle
   rcases hc with hc | ⟨hlt, hl⟩
   all_goals
    rcases (show k = n \/ (n < k /\ k - n <= 9) \/ 9 < k - n by omega) with h9 | ⟨h9, h9'⟩ | h9
    ·have e1 : ((k : Int) == ((n : Nat) : Int)) = true := by rw [beq_iff_eq]; omega
     have H9 : Hid _ := h9
     clear h9
     go_wp2_with (go_at_call 83; refine (isDigit_any _ _).mono ?_; rintro e w' ⟨rfl, rfl⟩)
     all_goals have hz := hLk.out
     all_goals have hz9 := H9.out
     all_goals refine bodyPost_ret (v := .agg #[.int .i64 1, .int .i64 n, .int .i64 (k : Int), .int .i64 2]) (by simp [results, Tryz.results84, go_sem]) rfl ⟨?_, (Below.refl _ _).alloc (Nat.le_refl _) _⟩
     all_goals have hz2 := HL.out
     all_goals exact ret_ptok (by unfold Rf.numK; rw [if_pos (by omega)]) (by omega) (by unfold Rf.numC; rw [if_pos (by omega)])
    ·have e1 : ((k : Int) == ((n : Nat) : Int)) = false := by rw [beq_eq_false_iff_ne]; omega
     have e2 : (k : Int) - ((n : Nat) : Int) <= 9 := by omega
     go_wp2_with (go_at_call 83; refine (isDigit_any _ _).mono ?_; rintro e w' ⟨rfl, rfl⟩)
     have hz := hLk.out
     refine bodyPost_ret (v := .agg #[.int .i64 4, .int .i64 n, .int .i64 (k : Int), .int .i64 0]) (by simp [results, Tryz.results84, go_sem]) rfl ⟨?_, (Below.refl _ _).alloc (Nat.le_refl _) _⟩
     have hz2 := HL.out
     exact ret_ptok (by unfold Rf.numK; rw [if_neg (by omega), if_neg (by omega)]) (by omega) (by unfold Rf.numC; rw [if_neg (by omega), if_neg (by omega)])
    ·have e1 : ((k : Int) == ((n : Nat) : Int)) = false := by rw [beq_eq_false_iff_ne]; omega
     have e2 : 9 < (k : Int) - ((n : Nat) : Int) := by omega
     go_wp2_with (go_at_call 83; refine (isDigit_any _ _).mono ?_; rintro e w' ⟨rfl, rfl⟩)
     have hz := hLk.out
     refine bodyPost_ret (v := .agg #[.int .i64 1, .int .i64 n, .int .i64 (k : Int), .int .i64 3]) (by simp [results, Tryz.results84, go_sem]) rfl ⟨?_, (Below.refl _ _).alloc (Nat.le_refl _) _⟩
     have hz2 := HL.out
     exact ret_ptok (by unfold Rf.numK; rw [if_neg (by omega), if_pos (by omega)]) (by omega) (by unfold Rf.numC; rw [if_neg (by omega), if_pos (by omega)])
set_option maxHeartbeats 1000000 in
theorem scanMark_any (c : Int) (n : Nat) (w : World) (hn : n <= 400) :
  Calls Tryz.prog 86 #[.int .u8 c, .int .i64 n] w fun e w' => e = .returned (.agg #[.int .i64 (Rf.markK c), .int .i64 n, .int .i64 ((n : Int) + 1), .int .i64 (Rf.markC c)]) /\ Below w.heap.size w w' := by
 by_cases h40 : c = 40
 ·have hK : Hid (Rf.markK c = 5 /\ Rf.markC c = 0) := by rw [h40]; exact ⟨rfl, rfl⟩
  rw [hK.out.1, hK.out.2]
  subst h40
  clear hK
  go_enter Tryz.func86, Tryz.ntmps86
  go_wp2
  exact bodyPost_ret (v := .agg #[.int .i64 5, .int .i64 n, .int .i64 ((n : Int) + 1), .int .i64 0]) (by simp [results, Tryz.results86, go_sem]) rfl ⟨rfl, ((Below.refl _ _).alloc (Nat.le_refl _) _).alloc (by simp) _⟩
 by_cases h41 : c = 41
 ·have hK : Hid (Rf.markK c = 6 /\ Rf.markC c = 0) := by rw [h41]; exact ⟨rfl, rfl⟩
  rw [hK.out.1, hK.out.2]
  subst h41
  clear hK
  go_enter Tryz.func86, Tryz.ntmps86
  go_wp2
  exact bodyPost_ret (v := .agg #[.int .i64 6, .int .i64 n, .int .i64 ((n : Int) + 1), .int .i64 0]) (by simp [results, Tryz.results86, go_sem]) rfl ⟨rfl, ((Below.refl _ _).alloc (Nat.le_refl _) _).alloc (by simp) _⟩
 by_cases h44 : c = 44
 ·have hK : Hid (Rf.markK c = 7 /\ Rf.markC c = 0) := by rw [h44]; exact ⟨rfl, rfl⟩
  rw [hK.out.1, hK.out.2]
  subst h44
  clear hK
  go_enter Tryz.func86, Tryz.ntmps86
  go_wp2
  exact bodyPost_ret (v := .agg #[.int .i64 7, .int .i64 n, .int .i64 ((n : Int) + 1), .int .i64 0]) (by simp [results, Tryz.results86, go_sem]) rfl ⟨rfl, ((Below.refl _ _).alloc (Nat.le_refl _) _).alloc (by simp) _⟩
 by_cases h46 : c = 46
 ·have hK : Hid (Rf.markK c = 8 /\ Rf.markC c = 0) := by rw [h46]; exact ⟨rfl, rfl⟩
  rw [hK.out.1, hK.out.2]
  subst h46
  clear hK
  go_enter Tryz.func86, Tryz.ntmps86
  go_wp2
  exact bodyPost_ret (v := .agg #[.int .i64 8, .int .i64 n, .int .i64 ((n : Int) + 1), .int .i64 0]) (by simp [results, Tryz.results86, go_sem]) rfl ⟨rfl, ((Below.refl _ _).alloc (Nat.le_refl _) _).alloc (by simp) _⟩
 by_cases h33 : c = 33
 ·have hK : Hid (Rf.markK c = 9 /\ Rf.markC c = 0) := by rw [h33]; exact ⟨rfl, rfl⟩
  rw [hK.out.1, hK.out.2]
  subst h33
  clear hK
  go_enter Tryz.func86, Tryz.ntmps86
  go_wp2
  exact bodyPost_ret (v := .agg #[.int .i64 9, .int .i64 n, .int .i64 ((n : Int) + 1), .int .i64 0]) (by simp [results, Tryz.results86, go_sem]) rfl ⟨rfl, ((Below.refl _ _).alloc (Nat.le_refl _) _).alloc (by simp) _⟩
 have hK : Hid (Rf.markK c = 1 /\ Rf.markC c = 2) := by
  unfold Rf.markK Rf.markC
  exact ⟨by rw [if_neg h40, if_neg h41, if_neg h44, if_neg h46, if_neg h33], by rw [if_neg (by unfold Rf.markB; simp [h40, h41, h44, h46, h33])]⟩
 rw [hK.out.1, hK.out.2]
 have b1 : (c == 40) = false := beq_eq_false_iff_ne.2 h40
 have b2 : (c == 41) = false := beq_eq_false_iff_ne.2 h41
 have b3 : (c == 44) = false := beq_eq_false_iff_ne.2 h44
 have b4 : (c == 46) = false := beq_eq_false_iff_ne.2 h46
 have b5 : (c == 33) = false := beq_eq_false_iff_ne.2 h33
 clear hK h40 h41 h44 h46 h33
 go_enter Tryz.func86, Tryz.ntmps86
 go_wp2
 exact bodyPost_ret (v := .agg #[.int .i64 1, .int .i64 n, .int .i64 ((n : Int) + 1), .int .i64 2]) (by simp [results, Tryz.results86, go_sem]) rfl ⟨rfl, ((Below.refl _ _).alloc (Nat.le_refl _) _).alloc (by simp) _⟩
end Go.Proofs.YtbiojnljihgpoaaGreatDoor
namespace Rf
def TokIs (t : Tok) (K f toE C : Int) : Prop := K = kindOf t.k /\ f = t.at_ /\ C = t.e /\ (t.k ≠ 63 -> toE = (t.at_ : Int) + t.s.size)
theorem tokIs_word (s : ByteArray) (m : Nat) (K k : Int) (hk : kindOf k = K) (_h63 : k ≠ 63) (ht : tokenAt s m = wordTok m (byteAt s m) (runS s false m)) (hw : ∀ W : ByteArray, ¬ 12 < W.size -> wordTok m (byteAt s m) W = ⟨k, m, W, 0⟩) :
  TokIs (tokenAt s m) (wordK (runLen s false m) K) m ((m : Int) + runLen s false m) (wordC (runLen s false m)) := by
 have hz := runS_size s false m
 unfold wordK wordC
 by_cases h : 12 < runLen s false m
 ·have e : tokenAt s m = bad m 3 := by rw [ht]; unfold wordTok; rw [if_pos (by omega)]
  rw [e, if_pos h, if_pos h]
  exact ⟨rfl, rfl, rfl, fun x => absurd rfl x⟩
 ·have e : tokenAt s m = ⟨k, m, runS s false m, 0⟩ := by rw [ht, hw _ (by omega)]
  rw [e, if_neg h, if_neg h]
  exact ⟨hk.symm, rfl, rfl, fun _ => by show (m : Int) + _ = (m : Int) + ((runS s false m).size : Int); rw [hz]⟩
theorem tokIs_num (s : ByteArray) (m : Nat) (neg : Bool) (d : Nat) (hd : d = m + (if neg then 1 else 0)) (ht : tokenAt s m = numTok m neg (runS s true d)) :
  TokIs (tokenAt s m) (numK (runLen s true d)) m ((d : Int) + runLen s true d) (numC (runLen s true d)) := by
 have hz := runS_size s true d
 unfold numK numC
 rcases (show runLen s true d = 0 \/ (runLen s true d ≠ 0 /\ 9 < runLen s true d) \/ (runLen s true d ≠ 0 /\ ¬ 9 < runLen s true d) by omega) with h | ⟨h, h9⟩ | ⟨h, h9⟩
 ·have e : tokenAt s m = bad m 2 := by rw [ht]; unfold numTok; rw [if_pos (by omega)]
  rw [e, if_pos h, if_pos h]
  exact ⟨rfl, rfl, rfl, fun x => absurd rfl x⟩
 ·have e : tokenAt s m = bad m 3 := by rw [ht]; unfold numTok; rw [if_neg (by omega), if_pos (by omega)]
  rw [e, if_neg h, if_neg h, if_pos h9, if_pos h9]
  exact ⟨rfl, rfl, rfl, fun x => absurd rfl x⟩
 ·have e : tokenAt s m = ⟨110, m, if neg then ⟨#[45]⟩ ++ runS s true d else runS s true d, 0⟩ := by rw [ht]; unfold numTok; rw [if_neg (by omega), if_neg (by omega)]
  rw [e, if_neg h, if_neg h, if_neg h9, if_neg h9]
  refine ⟨rfl, rfl, rfl, fun _ => ?_⟩
  cases neg with
  | false => show (d : Int) + _ = (m : Int) + ((runS s true d).size : Int); simp at hd; omega
  | true => show (d : Int) + _ = (m : Int) + ((⟨#[45]⟩ ++ runS s true d : ByteArray).size : Int); rw [neg_size]; simp at hd; omega
theorem kind_mark (c : Int) (h : markB c = true) : kindOf c = markK c := by
 unfold markB at h
 simp at h
 rcases h with (((h | h) | h) | h) | h <;> subst h <;> rfl
theorem tokIs_mark (s : ByteArray) (m : Nat) (hm : m < s.size) (h45 : byteAt s m ≠ 45) (hd : digitB (byteAt s m) = false) (hl : letterB (byteAt s m) = false) (h58 : byteAt s m ≠ 58) :
  TokIs (tokenAt s m) (markK (byteAt s m)) m ((m : Int) + 1) (markC (byteAt s m)) := by
 unfold markC
 by_cases h : markB (byteAt s m) = true
 ·have e : tokenAt s m = ⟨byteAt s m, m, s.extract m (m + 1), 0⟩ := by unfold tokenAt; rw [if_neg h45, if_neg (by simp [hd]), if_neg (by simp [hl]), if_pos h]
  rw [e, if_pos h]
  refine ⟨(kind_mark _ h).symm, rfl, rfl, fun _ => ?_⟩
  show (m : Int) + 1 = (m : Int) + ((s.extract m (m + 1)).size : Int)
  rw [ByteArray.size_extract]; omega
 ·have e : tokenAt s m = bad m 2 := by unfold tokenAt; rw [if_neg h45, if_neg (by simp [hd]), if_neg (by simp [hl]), if_neg h, if_neg (fun x => h58 x.1)]
  have hk : markK (byteAt s m) = 1 := by
   unfold markB at h
   simp at h
   unfold markK
   rw [if_neg (by omega), if_neg (by omega), if_neg (by omega), if_neg (by omega), if_neg (by omega)]
  rw [e, if_neg h, hk]
  exact ⟨rfl, rfl, rfl, fun x => absurd rfl x⟩
theorem tokIs_fol (s : ByteArray) (m : Nat) (h58 : byteAt s m = 58) : TokIs (tokenAt s m) (folK s m) m (folT s m) (folC s m) := by
 have hd : digitB (byteAt s m) = false := by rw [h58]; decide
 have hl : letterB (byteAt s m) = false := by rw [h58]; decide
 have hk : markB (byteAt s m) = false := by rw [h58]; decide
 unfold folK folT folC
 by_cases h : m + 1 < s.size /\ byteAt s (m + 1) = 45
 ·have e : tokenAt s m = ⟨58, m, ⟨#[58, 45]⟩, 0⟩ := by unfold tokenAt; rw [if_neg (by omega), if_neg (by simp [hd]), if_neg (by simp [hl]), if_neg (by simp [hk]), if_pos ⟨h58, h⟩]
  rw [e, if_pos h, if_pos h, if_pos h]
  exact ⟨rfl, rfl, rfl, fun _ => rfl⟩
 ·have e : tokenAt s m = bad m 2 := by unfold tokenAt; rw [if_neg (by omega), if_neg (by simp [hd]), if_neg (by simp [hl]), if_neg (by simp [hk]), if_neg (fun x => h x.2)]
  rw [e, if_neg h, if_neg h, if_neg h]
  exact ⟨rfl, rfl, rfl, fun x => absurd rfl x⟩
end Rf
namespace Go.Proofs.YtbiojnljihgpoaaGreatDoor
open Go.RowKit
def ScanPost (s : ByteArray) (n : Nat) (w : World) (r : Ending) (w' : World) : Prop :=
 ∃ K f toE C : Int, r = .returned (.agg #[.int .i64 K, .int .i64 f, .int .i64 toE, .int .i64 C]) /\ Rf.TokIs (Rf.nextTok s n) K f toE C /\ Below w.heap.size w w'
set_option maxHeartbeats 1000000 in
theorem scan_end (s : ByteArray) (n : Nat) (w : World) (hs : s.size <= 400) (hn : n <= s.size) (hm : s.size <= n + Rf.skipLen s n) :
  Calls Tryz.prog 62 #[.string s, .int .i64 n] w fun r w' => ScanPost s n w r w' := by
 have hle := Rf.skipLen_le s n
 have hT : Hid (Rf.nextTok s n = Rf.endTok s) := by unfold Hid Rf.nextTok; rw [if_neg (by omega)]
 generalize hM : n + Rf.skipLen s n = m at *
 have HM : Hid _ := hM
 clear hM
 go_enter Tryz.func62, Tryz.ntmps62
 go_wp2_with (go_at_call 79; refine (pastBlanks_any s n _ hs hn).mono ?_; rintro e w1 ⟨rfl, rfl⟩; rw [HM.out])
 refine bodyPost_ret (v := .agg #[.int .i64 0, .int .i64 s.size, .int .i64 s.size, .int .i64 0]) (by simp [results, Tryz.results62, go_sem]) rfl ⟨0, s.size, s.size, 0, rfl, ?_, (Below.refl _ _).alloc (Nat.le_refl _) _⟩
 rw [hT.out]
 exact ⟨rfl, rfl, rfl, fun _ => by show (s.size : Int) = (s.size : Int) + 0; omega⟩
end Go.Proofs.YtbiojnljihgpoaaGreatDoor
