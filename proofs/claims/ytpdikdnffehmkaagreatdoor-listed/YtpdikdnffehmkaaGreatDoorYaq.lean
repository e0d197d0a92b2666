/- What the program's scanner (read: scan) does at every place of a text. -/
import Derived.Test.YtpdikdnffehmkaaGreatDoorYap
import Derived.Test.YtpdikdnffehmkaaGreatDoorYao
import Derived.Test.YtpdikdnffehmkaaGreatDoorYac
import Derived.Deep.RegionWith
namespace Go.Proofs.YtpdikdnffehmkaaGreatDoor
open Go.RowKit
set_option maxHeartbeats 1000000 in
theorem scan_small (s : ByteArray) (n m : Nat) (w : World) (hs : s.size ≤ 400) (hn : n ≤ s.size) (hM : n + Rf.skipLen s n = m) (hm : m < s.size) (h1 : Rf.smallB (s[m].toNat : Int) = true) :
    Calls Tryz.prog 84 #[.string s, .int .i64 n] w fun r w' => ScanPost s n w r w' := by
  have hb := Rf.byteAt_eq s m hm
  have hT : Hid (Rf.nextTok s n = Rf.tokenAt s m) := by unfold Hid Rf.nextTok; rw [hM, if_pos hm]
  have hK : Hid (Rf.TokIs (Rf.tokenAt s m) (Rf.wordK (Rf.runLen s false m) 2) m ((m : Int) + Rf.runLen s false m) (Rf.wordC (Rf.runLen s false m))) := by
    have h1' := h1
    rw [hb] at h1'
    unfold Rf.smallB at h1'
    simp at h1'
    have hl : Rf.letterB (Rf.byteAt s m) = true := by unfold Rf.letterB; simp; omega
    have hd : Rf.digitB (Rf.byteAt s m) = false := by unfold Rf.digitB; simp; omega
    exact Rf.tokIs_word s m 2 97 rfl (by decide) (by unfold Rf.tokenAt; rw [if_neg (by omega), if_neg (by simp [hd]), if_pos hl]) (fun W h => by unfold Rf.wordTok; rw [if_neg h, if_pos h1'])
  have HM : Hid _ := hM
  clear hM hb
  go_enter Tryz.func84, Tryz.ntmps84
  go_wp2_with (first
    | (go_at_call 109; refine (pastBlanks_any s n _ hs hn).mono ?_; rintro e w1 ⟨rfl, rfl⟩; rw [HM.out])
    | (go_at_call 110; refine (isSmall_any _ _).mono ?_; rintro e w1 ⟨rfl, rfl⟩)
    | (go_at_call 112; refine (isGreat_any _ _).mono ?_; rintro e w1 ⟨rfl, rfl⟩)
    | (go_at_call 113; refine (isDigit_any _ _).mono ?_; rintro e w1 ⟨rfl, rfl⟩)
    | (go_at_call 111; refine (scanWord_any s m 2 _ hs (by omega)).mono ?_; rintro e w2 ⟨rfl, hb2⟩; have hG2 := (hb2.block w.heap.size (by simp)).trans (blk_new _ _); have g0 : w2.cell? ⟨w.heap.size, 0, none⟩ = some (.int .i64 0) := blk_cell hG2 0; have g1 : w2.cell? ⟨w.heap.size, 1, none⟩ = some (.int .i64 0) := blk_cell hG2 1; have g2 : w2.cell? ⟨w.heap.size, 2, none⟩ = some (.int .i64 0) := blk_cell hG2 2; have g3 : w2.cell? ⟨w.heap.size, 3, none⟩ = some (.int .i64 0) := blk_cell hG2 3; have gf := blk_frozen hG2))
  refine bodyPost_ret (v := .agg #[.int .i64 (Rf.wordK (Rf.runLen s false m) 2), .int .i64 m, .int .i64 ((m : Int) + Rf.runLen s false m), .int .i64 (Rf.wordC (Rf.runLen s false m))]) (by simp [results, Tryz.results84, go_sem, *]) rfl ⟨_, _, _, _, rfl, ?_, ?_⟩
  · rw [hT.out]; exact hK.out
  · exact (((((((Below.refl _ w).alloc (Nat.le_refl _) _).trans (hb2.mono (by simp))).setCell (p := ⟨w.heap.size, 0, none⟩) (Nat.le_refl _) _).setCell (p := ⟨w.heap.size, 1, none⟩) (Nat.le_refl _) _).setCell (p := ⟨w.heap.size, 2, none⟩) (Nat.le_refl _) _).setCell (p := ⟨w.heap.size, 3, none⟩) (Nat.le_refl _) _)
set_option maxHeartbeats 1000000 in
theorem scan_great (s : ByteArray) (n m : Nat) (w : World) (hs : s.size ≤ 400) (hn : n ≤ s.size) (hM : n + Rf.skipLen s n = m) (hm : m < s.size) (h1 : Rf.smallB (s[m].toNat : Int) = false) (h2 : Rf.greatB (s[m].toNat : Int) = true) :
    Calls Tryz.prog 84 #[.string s, .int .i64 n] w fun r w' => ScanPost s n w r w' := by
  have hb := Rf.byteAt_eq s m hm
  have hT : Hid (Rf.nextTok s n = Rf.tokenAt s m) := by unfold Hid Rf.nextTok; rw [hM, if_pos hm]
  have hK : Hid (Rf.TokIs (Rf.tokenAt s m) (Rf.wordK (Rf.runLen s false m) 3) m ((m : Int) + Rf.runLen s false m) (Rf.wordC (Rf.runLen s false m))) := by
    have h1' := h2
    rw [hb] at h1'
    unfold Rf.greatB at h1'
    simp at h1'
    have hl : Rf.letterB (Rf.byteAt s m) = true := by unfold Rf.letterB; simp; omega
    have hd : Rf.digitB (Rf.byteAt s m) = false := by unfold Rf.digitB; simp; omega
    exact Rf.tokIs_word s m 3 118 rfl (by decide) (by unfold Rf.tokenAt; rw [if_neg (by omega), if_neg (by simp [hd]), if_pos hl]) (fun W h => by unfold Rf.wordTok; rw [if_neg h, if_neg (by omega)])
  have HM : Hid _ := hM
  clear hM hb
  go_enter Tryz.func84, Tryz.ntmps84
  go_wp2_with (first
    | (go_at_call 109; refine (pastBlanks_any s n _ hs hn).mono ?_; rintro e w1 ⟨rfl, rfl⟩; rw [HM.out])
    | (go_at_call 110; refine (isSmall_any _ _).mono ?_; rintro e w1 ⟨rfl, rfl⟩)
    | (go_at_call 112; refine (isGreat_any _ _).mono ?_; rintro e w1 ⟨rfl, rfl⟩)
    | (go_at_call 113; refine (isDigit_any _ _).mono ?_; rintro e w1 ⟨rfl, rfl⟩)
    | (go_at_call 111; refine (scanWord_any s m 3 _ hs (by omega)).mono ?_; rintro e w2 ⟨rfl, hb2⟩; have hG2 := (hb2.block w.heap.size (by simp)).trans (blk_new _ _); have g0 : w2.cell? ⟨w.heap.size, 0, none⟩ = some (.int .i64 0) := blk_cell hG2 0; have g1 : w2.cell? ⟨w.heap.size, 1, none⟩ = some (.int .i64 0) := blk_cell hG2 1; have g2 : w2.cell? ⟨w.heap.size, 2, none⟩ = some (.int .i64 0) := blk_cell hG2 2; have g3 : w2.cell? ⟨w.heap.size, 3, none⟩ = some (.int .i64 0) := blk_cell hG2 3; have gf := blk_frozen hG2))
  refine bodyPost_ret (v := .agg #[.int .i64 (Rf.wordK (Rf.runLen s false m) 3), .int .i64 m, .int .i64 ((m : Int) + Rf.runLen s false m), .int .i64 (Rf.wordC (Rf.runLen s false m))]) (by simp [results, Tryz.results84, go_sem, *]) rfl ⟨_, _, _, _, rfl, ?_, ?_⟩
  · rw [hT.out]; exact hK.out
  · exact (((((((Below.refl _ w).alloc (Nat.le_refl _) _).trans (hb2.mono (by simp))).setCell (p := ⟨w.heap.size, 0, none⟩) (Nat.le_refl _) _).setCell (p := ⟨w.heap.size, 1, none⟩) (Nat.le_refl _) _).setCell (p := ⟨w.heap.size, 2, none⟩) (Nat.le_refl _) _).setCell (p := ⟨w.heap.size, 3, none⟩) (Nat.le_refl _) _)
set_option maxHeartbeats 1000000 in
theorem scan_under (s : ByteArray) (n m : Nat) (w : World) (hs : s.size ≤ 400) (hn : n ≤ s.size) (hM : n + Rf.skipLen s n = m) (hm : m < s.size) (h1 : Rf.smallB (s[m].toNat : Int) = false) (h2 : Rf.greatB (s[m].toNat : Int) = false) (h3 : ((s[m].toNat : Int) == 95) = true) :
    Calls Tryz.prog 84 #[.string s, .int .i64 n] w fun r w' => ScanPost s n w r w' := by
  have hb := Rf.byteAt_eq s m hm
  have hT : Hid (Rf.nextTok s n = Rf.tokenAt s m) := by unfold Hid Rf.nextTok; rw [hM, if_pos hm]
  have hK : Hid (Rf.TokIs (Rf.tokenAt s m) (Rf.wordK (Rf.runLen s false m) 3) m ((m : Int) + Rf.runLen s false m) (Rf.wordC (Rf.runLen s false m))) := by
    have h1' : Rf.byteAt s m = 95 := by rw [← hb]; exact eq_of_beq h3
    have hl : Rf.letterB (Rf.byteAt s m) = true := by rw [h1']; decide
    have hd : Rf.digitB (Rf.byteAt s m) = false := by rw [h1']; decide
    exact Rf.tokIs_word s m 3 118 rfl (by decide) (by unfold Rf.tokenAt; rw [if_neg (by omega), if_neg (by simp [hd]), if_pos hl]) (fun W h => by unfold Rf.wordTok; rw [if_neg h, if_neg (by omega)])
  have HM : Hid _ := hM
  clear hM hb
  go_enter Tryz.func84, Tryz.ntmps84
  go_wp2_with (first
    | (go_at_call 109; refine (pastBlanks_any s n _ hs hn).mono ?_; rintro e w1 ⟨rfl, rfl⟩; rw [HM.out])
    | (go_at_call 110; refine (isSmall_any _ _).mono ?_; rintro e w1 ⟨rfl, rfl⟩)
    | (go_at_call 112; refine (isGreat_any _ _).mono ?_; rintro e w1 ⟨rfl, rfl⟩)
    | (go_at_call 113; refine (isDigit_any _ _).mono ?_; rintro e w1 ⟨rfl, rfl⟩)
    | (go_at_call 111; refine (scanWord_any s m 3 _ hs (by omega)).mono ?_; rintro e w2 ⟨rfl, hb2⟩; have hG2 := (hb2.block w.heap.size (by simp)).trans (blk_new _ _); have g0 : w2.cell? ⟨w.heap.size, 0, none⟩ = some (.int .i64 0) := blk_cell hG2 0; have g1 : w2.cell? ⟨w.heap.size, 1, none⟩ = some (.int .i64 0) := blk_cell hG2 1; have g2 : w2.cell? ⟨w.heap.size, 2, none⟩ = some (.int .i64 0) := blk_cell hG2 2; have g3 : w2.cell? ⟨w.heap.size, 3, none⟩ = some (.int .i64 0) := blk_cell hG2 3; have gf := blk_frozen hG2))
  refine bodyPost_ret (v := .agg #[.int .i64 (Rf.wordK (Rf.runLen s false m) 3), .int .i64 m, .int .i64 ((m : Int) + Rf.runLen s false m), .int .i64 (Rf.wordC (Rf.runLen s false m))]) (by simp [results, Tryz.results84, go_sem, *]) rfl ⟨_, _, _, _, rfl, ?_, ?_⟩
  · rw [hT.out]; exact hK.out
  · exact (((((((Below.refl _ w).alloc (Nat.le_refl _) _).trans (hb2.mono (by simp))).setCell (p := ⟨w.heap.size, 0, none⟩) (Nat.le_refl _) _).setCell (p := ⟨w.heap.size, 1, none⟩) (Nat.le_refl _) _).setCell (p := ⟨w.heap.size, 2, none⟩) (Nat.le_refl _) _).setCell (p := ⟨w.heap.size, 3, none⟩) (Nat.le_refl _) _)
set_option maxHeartbeats 1000000 in
theorem scan_digit (s : ByteArray) (n m : Nat) (w : World) (hs : s.size ≤ 400) (hn : n ≤ s.size) (hM : n + Rf.skipLen s n = m) (hm : m < s.size) (h1 : Rf.smallB (s[m].toNat : Int) = false) (h2 : Rf.greatB (s[m].toNat : Int) = false) (h3 : ((s[m].toNat : Int) == 95) = false) (h4 : Rf.digitB (s[m].toNat : Int) = true) :
    Calls Tryz.prog 84 #[.string s, .int .i64 n] w fun r w' => ScanPost s n w r w' := by
  have hb := Rf.byteAt_eq s m hm
  have hT : Hid (Rf.nextTok s n = Rf.tokenAt s m) := by unfold Hid Rf.nextTok; rw [hM, if_pos hm]
  have h45 : ((s[m].toNat : Int) == 45) = false := by
    have h1' := h4
    unfold Rf.digitB at h1'
    simp at h1'
    rw [beq_eq_false_iff_ne]; omega
  have hK : Hid (Rf.TokIs (Rf.tokenAt s m) (Rf.numK (Rf.runLen s true m)) m ((m : Int) + Rf.runLen s true m) (Rf.numC (Rf.runLen s true m))) := by
    exact Rf.tokIs_num s m false m (by simp) (by unfold Rf.tokenAt; rw [← hb, if_neg (beq_eq_false_iff_ne.1 h45), if_pos h4])
  have HM : Hid _ := hM
  clear hM hb
  go_enter Tryz.func84, Tryz.ntmps84
  go_wp2_with (first
    | (go_at_call 109; refine (pastBlanks_any s n _ hs hn).mono ?_; rintro e w1 ⟨rfl, rfl⟩; rw [HM.out])
    | (go_at_call 110; refine (isSmall_any _ _).mono ?_; rintro e w1 ⟨rfl, rfl⟩)
    | (go_at_call 112; refine (isGreat_any _ _).mono ?_; rintro e w1 ⟨rfl, rfl⟩)
    | (go_at_call 113; refine (isDigit_any _ _).mono ?_; rintro e w1 ⟨rfl, rfl⟩)
    | (go_at_call 114; refine (scanNumber_pos s m _ hs hm h45).mono ?_; rintro e w2 ⟨rfl, hb2⟩; have hG2 := (hb2.block w.heap.size (by simp)).trans (blk_new _ _); have g0 : w2.cell? ⟨w.heap.size, 0, none⟩ = some (.int .i64 0) := blk_cell hG2 0; have g1 : w2.cell? ⟨w.heap.size, 1, none⟩ = some (.int .i64 0) := blk_cell hG2 1; have g2 : w2.cell? ⟨w.heap.size, 2, none⟩ = some (.int .i64 0) := blk_cell hG2 2; have g3 : w2.cell? ⟨w.heap.size, 3, none⟩ = some (.int .i64 0) := blk_cell hG2 3; have gf := blk_frozen hG2))
  refine bodyPost_ret (v := .agg #[.int .i64 (Rf.numK (Rf.runLen s true m)), .int .i64 m, .int .i64 ((m : Int) + Rf.runLen s true m), .int .i64 (Rf.numC (Rf.runLen s true m))]) (by simp [results, Tryz.results84, go_sem, *]) rfl ⟨_, _, _, _, rfl, ?_, ?_⟩
  · rw [hT.out]; exact hK.out
  · exact (((((((Below.refl _ w).alloc (Nat.le_refl _) _).trans (hb2.mono (by simp))).setCell (p := ⟨w.heap.size, 0, none⟩) (Nat.le_refl _) _).setCell (p := ⟨w.heap.size, 1, none⟩) (Nat.le_refl _) _).setCell (p := ⟨w.heap.size, 2, none⟩) (Nat.le_refl _) _).setCell (p := ⟨w.heap.size, 3, none⟩) (Nat.le_refl _) _)
set_option maxHeartbeats 1000000 in
theorem scan_neg (s : ByteArray) (n m : Nat) (w : World) (hs : s.size ≤ 400) (hn : n ≤ s.size) (hM : n + Rf.skipLen s n = m) (hm : m < s.size) (h1 : Rf.smallB (s[m].toNat : Int) = false) (h2 : Rf.greatB (s[m].toNat : Int) = false) (h3 : ((s[m].toNat : Int) == 95) = false) (h4 : Rf.digitB (s[m].toNat : Int) = false) (h45 : ((s[m].toNat : Int) == 45) = true) :
    Calls Tryz.prog 84 #[.string s, .int .i64 n] w fun r w' => ScanPost s n w r w' := by
  have hb := Rf.byteAt_eq s m hm
  have hT : Hid (Rf.nextTok s n = Rf.tokenAt s m) := by unfold Hid Rf.nextTok; rw [hM, if_pos hm]
  have hK : Hid (Rf.TokIs (Rf.tokenAt s m) (Rf.numK (Rf.runLen s true (m + 1))) m (((m + 1 : Nat) : Int) + Rf.runLen s true (m + 1)) (Rf.numC (Rf.runLen s true (m + 1)))) := by
    exact Rf.tokIs_num s m true (m + 1) (by simp) (by unfold Rf.tokenAt; rw [← hb, if_pos (eq_of_beq h45)])
  have HM : Hid _ := hM
  clear hM hb
  go_enter Tryz.func84, Tryz.ntmps84
  go_wp2_with (first
    | (go_at_call 109; refine (pastBlanks_any s n _ hs hn).mono ?_; rintro e w1 ⟨rfl, rfl⟩; rw [HM.out])
    | (go_at_call 110; refine (isSmall_any _ _).mono ?_; rintro e w1 ⟨rfl, rfl⟩)
    | (go_at_call 112; refine (isGreat_any _ _).mono ?_; rintro e w1 ⟨rfl, rfl⟩)
    | (go_at_call 113; refine (isDigit_any _ _).mono ?_; rintro e w1 ⟨rfl, rfl⟩)
    | (go_at_call 114; refine (scanNumber_neg s m _ hs hm h45).mono ?_; rintro e w2 ⟨rfl, hb2⟩; have hG2 := (hb2.block w.heap.size (by simp)).trans (blk_new _ _); have g0 : w2.cell? ⟨w.heap.size, 0, none⟩ = some (.int .i64 0) := blk_cell hG2 0; have g1 : w2.cell? ⟨w.heap.size, 1, none⟩ = some (.int .i64 0) := blk_cell hG2 1; have g2 : w2.cell? ⟨w.heap.size, 2, none⟩ = some (.int .i64 0) := blk_cell hG2 2; have g3 : w2.cell? ⟨w.heap.size, 3, none⟩ = some (.int .i64 0) := blk_cell hG2 3; have gf := blk_frozen hG2))
  refine bodyPost_ret (v := .agg #[.int .i64 (Rf.numK (Rf.runLen s true (m + 1))), .int .i64 m, .int .i64 (((m + 1 : Nat) : Int) + Rf.runLen s true (m + 1)), .int .i64 (Rf.numC (Rf.runLen s true (m + 1)))]) (by simp [results, Tryz.results84, go_sem, *]) rfl ⟨_, _, _, _, rfl, ?_, ?_⟩
  · rw [hT.out]; exact hK.out
  · exact (((((((Below.refl _ w).alloc (Nat.le_refl _) _).trans (hb2.mono (by simp))).setCell (p := ⟨w.heap.size, 0, none⟩) (Nat.le_refl _) _).setCell (p := ⟨w.heap.size, 1, none⟩) (Nat.le_refl _) _).setCell (p := ⟨w.heap.size, 2, none⟩) (Nat.le_refl _) _).setCell (p := ⟨w.heap.size, 3, none⟩) (Nat.le_refl _) _)
set_option maxHeartbeats 1000000 in
theorem scan_fol (s : ByteArray) (n m : Nat) (w : World) (hs : s.size ≤ 400) (hn : n ≤ s.size) (hM : n + Rf.skipLen s n = m) (hm : m < s.size) (h1 : Rf.smallB (s[m].toNat : Int) = false) (h2 : Rf.greatB (s[m].toNat : Int) = false) (h3 : ((s[m].toNat : Int) == 95) = false) (h4 : Rf.digitB (s[m].toNat : Int) = false) (h45 : ((s[m].toNat : Int) == 45) = false) (h58 : ((s[m].toNat : Int) == 58) = true) :
    Calls Tryz.prog 84 #[.string s, .int .i64 n] w fun r w' => ScanPost s n w r w' := by
  have hb := Rf.byteAt_eq s m hm
  have hT : Hid (Rf.nextTok s n = Rf.tokenAt s m) := by unfold Hid Rf.nextTok; rw [hM, if_pos hm]
  have hK : Hid (Rf.TokIs (Rf.tokenAt s m) (Rf.folK s m) m (Rf.folT s m) (Rf.folC s m)) := Rf.tokIs_fol s m (by rw [← hb]; exact eq_of_beq h58)
  have HM : Hid _ := hM
  clear hM hb
  go_enter Tryz.func84, Tryz.ntmps84
  go_wp2_with (first
    | (go_at_call 109; refine (pastBlanks_any s n _ hs hn).mono ?_; rintro e w1 ⟨rfl, rfl⟩; rw [HM.out])
    | (go_at_call 110; refine (isSmall_any _ _).mono ?_; rintro e w1 ⟨rfl, rfl⟩)
    | (go_at_call 112; refine (isGreat_any _ _).mono ?_; rintro e w1 ⟨rfl, rfl⟩)
    | (go_at_call 113; refine (isDigit_any _ _).mono ?_; rintro e w1 ⟨rfl, rfl⟩)
    | (go_at_call 115; refine (scanFollows_any s m _ hs hm).mono ?_; rintro e w2 ⟨rfl, hb2⟩; have hG2 := (hb2.block w.heap.size (by simp)).trans (blk_new _ _); have g0 : w2.cell? ⟨w.heap.size, 0, none⟩ = some (.int .i64 0) := blk_cell hG2 0; have g1 : w2.cell? ⟨w.heap.size, 1, none⟩ = some (.int .i64 0) := blk_cell hG2 1; have g2 : w2.cell? ⟨w.heap.size, 2, none⟩ = some (.int .i64 0) := blk_cell hG2 2; have g3 : w2.cell? ⟨w.heap.size, 3, none⟩ = some (.int .i64 0) := blk_cell hG2 3; have gf := blk_frozen hG2))
  refine bodyPost_ret (v := .agg #[.int .i64 (Rf.folK s m), .int .i64 m, .int .i64 (Rf.folT s m), .int .i64 (Rf.folC s m)]) (by simp [results, Tryz.results84, go_sem, *]) rfl ⟨_, _, _, _, rfl, ?_, ?_⟩
  · rw [hT.out]; exact hK.out
  · exact (((((((Below.refl _ w).alloc (Nat.le_refl _) _).trans (hb2.mono (by simp))).setCell (p := ⟨w.heap.size, 0, none⟩) (Nat.le_refl _) _).setCell (p := ⟨w.heap.size, 1, none⟩) (Nat.le_refl _) _).setCell (p := ⟨w.heap.size, 2, none⟩) (Nat.le_refl _) _).setCell (p := ⟨w.heap.size, 3, none⟩) (Nat.le_refl _) _)
set_option maxHeartbeats 1000000 in
theorem scan_mark (s : ByteArray) (n m : Nat) (w : World) (hs : s.size ≤ 400) (hn : n ≤ s.size) (hM : n + Rf.skipLen s n = m) (hm : m < s.size) (h1 : Rf.smallB (s[m].toNat : Int) = false) (h2 : Rf.greatB (s[m].toNat : Int) = false) (h3 : ((s[m].toNat : Int) == 95) = false) (h4 : Rf.digitB (s[m].toNat : Int) = false) (h45 : ((s[m].toNat : Int) == 45) = false) (h58 : ((s[m].toNat : Int) == 58) = false) :
    Calls Tryz.prog 84 #[.string s, .int .i64 n] w fun r w' => ScanPost s n w r w' := by
  have hb := Rf.byteAt_eq s m hm
  have hT : Hid (Rf.nextTok s n = Rf.tokenAt s m) := by unfold Hid Rf.nextTok; rw [hM, if_pos hm]
  have hK : Hid (Rf.TokIs (Rf.tokenAt s m) (Rf.markK (s[m].toNat : Int)) m ((m : Int) + 1) (Rf.markC (s[m].toNat : Int))) := by
    rw [hb] at h1 h2 h3 h4 h45 h58 ⊢
    exact Rf.tokIs_mark s m hm (beq_eq_false_iff_ne.1 h45) h4 (by rw [word_of, h1, h2, h3, h4]; rfl) (beq_eq_false_iff_ne.1 h58)
  have HM : Hid _ := hM
  clear hM hb
  go_enter Tryz.func84, Tryz.ntmps84
  go_wp2_with (first
    | (go_at_call 109; refine (pastBlanks_any s n _ hs hn).mono ?_; rintro e w1 ⟨rfl, rfl⟩; rw [HM.out])
    | (go_at_call 110; refine (isSmall_any _ _).mono ?_; rintro e w1 ⟨rfl, rfl⟩)
    | (go_at_call 112; refine (isGreat_any _ _).mono ?_; rintro e w1 ⟨rfl, rfl⟩)
    | (go_at_call 113; refine (isDigit_any _ _).mono ?_; rintro e w1 ⟨rfl, rfl⟩)
    | (go_at_call 116; refine (scanMark_any _ m _ (by omega)).mono ?_; rintro e w2 ⟨rfl, hb2⟩; have hG2 := (hb2.block w.heap.size (by simp)).trans (blk_new _ _); have g0 : w2.cell? ⟨w.heap.size, 0, none⟩ = some (.int .i64 0) := blk_cell hG2 0; have g1 : w2.cell? ⟨w.heap.size, 1, none⟩ = some (.int .i64 0) := blk_cell hG2 1; have g2 : w2.cell? ⟨w.heap.size, 2, none⟩ = some (.int .i64 0) := blk_cell hG2 2; have g3 : w2.cell? ⟨w.heap.size, 3, none⟩ = some (.int .i64 0) := blk_cell hG2 3; have gf := blk_frozen hG2))
  refine bodyPost_ret (v := .agg #[.int .i64 (Rf.markK (s[m].toNat : Int)), .int .i64 m, .int .i64 ((m : Int) + 1), .int .i64 (Rf.markC (s[m].toNat : Int))]) (by simp [results, Tryz.results84, go_sem, *]) rfl ⟨_, _, _, _, rfl, ?_, ?_⟩
  · rw [hT.out]; exact hK.out
  · exact (((((((Below.refl _ w).alloc (Nat.le_refl _) _).trans (hb2.mono (by simp))).setCell (p := ⟨w.heap.size, 0, none⟩) (Nat.le_refl _) _).setCell (p := ⟨w.heap.size, 1, none⟩) (Nat.le_refl _) _).setCell (p := ⟨w.heap.size, 2, none⟩) (Nat.le_refl _) _).setCell (p := ⟨w.heap.size, 3, none⟩) (Nat.le_refl _) _)
theorem scan_any (s : ByteArray) (n : Nat) (w : World) (hs : s.size ≤ 400) (hn : n ≤ s.size) :
    Calls Tryz.prog 84 #[.string s, .int .i64 n] w fun r w' => ScanPost s n w r w' := by
  by_cases hm : n + Rf.skipLen s n < s.size
  · obtain ⟨m, hM⟩ : ∃ m, n + Rf.skipLen s n = m := ⟨_, rfl⟩
    rw [hM] at hm
    cases h1 : Rf.smallB (s[m].toNat : Int)
    · cases h2 : Rf.greatB (s[m].toNat : Int)
      · cases h3 : ((s[m].toNat : Int) == 95)
        · cases h4 : Rf.digitB (s[m].toNat : Int)
          · cases h45 : ((s[m].toNat : Int) == 45)
            · cases h58 : ((s[m].toNat : Int) == 58)
              · exact scan_mark s n m w hs hn hM hm h1 h2 h3 h4 h45 h58
              · exact scan_fol s n m w hs hn hM hm h1 h2 h3 h4 h45 h58
            · exact scan_neg s n m w hs hn hM hm h1 h2 h3 h4 h45
          · exact scan_digit s n m w hs hn hM hm h1 h2 h3 h4
        · exact scan_under s n m w hs hn hM hm h1 h2 h3
      · exact scan_great s n m w hs hn hM hm h1 h2
    · exact scan_small s n m w hs hn hM hm h1
  · exact scan_end s n w hs hn (by omega)
end Go.Proofs.YtpdikdnffehmkaaGreatDoor
/- The program's reader in memory (read.reader), and what it does with the token at hand (read: refuse, step). -/
namespace Rf
/-- The token at hand and what is left behind it. -/
def At (text : ByteArray) (l : List Tok) (K f to C : Int) : Prop :=
  ∃ t l', l = t :: l' ∧ TokIs t K f to C ∧ (t.k ≠ 0 → t.k ≠ 63 → (l' = rest text (t.at_ + t.s.size) ∧ t.at_ + t.s.size ≤ text.size) ∧ t.at_ < text.size ∧ t = tokenAt text t.at_) ∧ (t.k = 0 → t.at_ + t.s.size ≤ text.size)
theorem next_end (text : ByteArray) (n : Nat) (h : (nextTok text n).k = 0) : (nextTok text n).at_ + (nextTok text n).s.size ≤ text.size := by
  unfold nextTok at h ⊢
  by_cases hm : n + skipLen text n < text.size
  · rw [if_pos hm] at h; exact absurd h (tokenAt_ne _ _)
  · rw [if_neg hm]; exact Nat.le_refl _
theorem at_rest (text : ByteArray) (n : Nat) (hn : n ≤ text.size) (K f to C : Int) (h : TokIs (nextTok text n) K f to C) : At text (rest text n) K f to C := by
  have hr := rest_eq text (text.size - n) n (by omega) hn
  have hle := skipLen_le text n
  by_cases hk : (nextTok text n).k = 0 ∨ (nextTok text n).k = 63
  · rw [if_pos hk] at hr
    exact ⟨nextTok text n, [], hr, h, (fun h1 h2 => by rcases hk with hk | hk <;> contradiction), next_end text n⟩
  · rw [if_neg hk] at hr
    refine ⟨nextTok text n, _, hr, h, fun h1 h2 => ⟨⟨rfl, ?_⟩, ?_⟩, next_end text n⟩
    all_goals
     unfold nextTok at h1 h2 ⊢
     by_cases hm : n + skipLen text n < text.size
     · rw [if_pos hm] at h2 ⊢
       have hfit := tokenAt_fit text _ hm h2
       have hat : (tokenAt text (n + skipLen text n)).at_ = n + skipLen text n := by
         unfold tokenAt numTok wordTok bad
         repeat' split
         all_goals rfl
       first | omega | exact ⟨by omega, by rw [hat]⟩
     · rw [if_neg hm] at h1
       exact absurd rfl h1
end Rf
namespace Go.Proofs.YtpdikdnffehmkaaGreatDoor
open Go.RowKit
/-- Block r holds a reader's eight cells. -/
def PrB (w : World) (r : Nat) (text : ByteArray) (K f to C : Int) (vN : Value) (code place : Int) : Prop :=
  w.heap[r]? = some (.cells #[.string text, .int .i64 K, .int .i64 f, .int .i64 to, .int .i64 C, vN, .int .i64 code, .int .i64 place] 107 (0, 0))
theorem PrB.facts {w : World} {r : Nat} {text : ByteArray} {K f to C : Int} {vN : Value} {code place : Int} (h : PrB w r text K f to C vN code place) :
    w.cell? ⟨r, 0, none⟩ = some (.string text) ∧ w.cell? ⟨r, 1, none⟩ = some (.int .i64 K) ∧ w.cell? ⟨r, 2, none⟩ = some (.int .i64 f) ∧ w.cell? ⟨r, 3, none⟩ = some (.int .i64 to) ∧ w.cell? ⟨r, 4, none⟩ = some (.int .i64 C) ∧ w.cell? ⟨r, 5, none⟩ = some vN ∧ w.cell? ⟨r, 6, none⟩ = some (.int .i64 code) ∧ w.cell? ⟨r, 7, none⟩ = some (.int .i64 place) ∧ (∀ i, w.frozen? ⟨r, i, none⟩ = false) ∧ r < w.heap.size :=
  ⟨blk_cell h 0, blk_cell h 1, blk_cell h 2, blk_cell h 3, blk_cell h 4, blk_cell h 5, blk_cell h 6, blk_cell h 7, blk_frozen h, blk_lt h⟩
/-- A reader with no fault: l: the tokens that are left; ns: the names. -/
structure Pr (w : World) (r : Nat) (text : ByteArray) (nb : Option Nat) (l : List Rf.Tok) (ns : List ByteArray) : Prop where
  ex : ∃ K f to C vN, PrB w r text K f to C vN 0 0 ∧ Rf.At text l K f to C ∧ Rf.Ended l ∧ text.size ≤ 400 ∧ RowIs w 0 9 1 strCells vN ns ∧ vN.ownBlock = nb ∧ nb ≠ some r ∧ ns.length ≤ 16
/-- A reader with a fault. -/
structure PrE (w : World) (r : Nat) (E P : Int) : Prop where
  ex : ∃ text K f to C a n c, PrB w r text K f to C (.slice a n c) E P ∧ E ≠ 0
set_option maxHeartbeats 400000 in
theorem refuse_raw (w : World) (r : Nat) (text : ByteArray) (K f to C e : Int) (vN : Value) (h : PrB w r text K f to C vN 0 0) (t : Rf.Tok) (ht : Rf.TokIs t K f to C) :
    Calls Tryz.prog 86 #[.pointer (some ⟨r, 0, none⟩), .int .i64 e] w fun x w' => x = .returned (.tuple #[]) ∧ PrB w' r text K f to C vN (Rf.errOf t e).1 (Rf.errOf t e).2 ∧ Kept (fun k => k = r) w w' := by
  obtain ⟨h0, h1, h2, h3, h4, h5, h6, h7, hf, hl⟩ := h.facts
  obtain ⟨t1, t2, t3, _⟩ := ht
  have H : Hid _ := h
  clear h
  by_cases hk : t.k = 63
  · have hK : (K == 1) = true := by rw [t1, hk]; rfl
    have HE : Hid (Rf.errOf t e = (C, t.at_) ∧ f = t.at_) := ⟨by unfold Rf.errOf; rw [if_pos hk, t3], t2⟩
    clear t1 t2 t3 hk
    go_enter Tryz.func86, Tryz.ntmps86
    go_wp2
    go_end0
    rw [HE.out.1]
    refine ⟨rfl, ?_, (by repeat' (first | exact Kept.refl _ _ | refine Kept.setCell ?_ ?_ _ | refine Kept.drew ?_ | refine Kept.drewN ?_ _ | refine Kept.alloc ?_ _ | exact Or.inr rfl | exact Or.inr (Or.inl rfl) | (refine Or.inl ?_; simp; done) | (refine Or.inl ?_; simp; omega)))⟩
    have h9 := blk_set (blk_set (blk_set H.out 6 (.int .i64 e)) 6 (.int .i64 C)) 7 (.int .i64 f)
    have h8 := HE.out.2
    unfold PrB
    show _ = some (Obj.cells #[_, _, _, _, _, _, _, .int .i64 (t.at_ : Int)] _ _)
    rw [← h8]
    exact h9
  · have hK : (K == 1) = false := by
      rw [t1, beq_eq_false_iff_ne]
      unfold Rf.kindOf
      repeat' split
      all_goals (first | contradiction | decide)
    have HE : Hid (Rf.errOf t e = (e, t.at_) ∧ f = t.at_) := ⟨by unfold Rf.errOf; rw [if_neg hk], t2⟩
    clear t1 t2 t3 hk
    go_enter Tryz.func86, Tryz.ntmps86
    go_wp2
    go_end0
    rw [HE.out.1]
    refine ⟨rfl, ?_, (by repeat' (first | exact Kept.refl _ _ | refine Kept.setCell ?_ ?_ _ | refine Kept.drew ?_ | refine Kept.drewN ?_ _ | refine Kept.alloc ?_ _ | exact Or.inr rfl | exact Or.inr (Or.inl rfl) | (refine Or.inl ?_; simp; done) | (refine Or.inl ?_; simp; omega)))⟩
    have h9 := blk_set (blk_set H.out 6 (.int .i64 e)) 7 (.int .i64 f)
    have h8 := HE.out.2
    unfold PrB
    show _ = some (Obj.cells #[_, _, _, _, _, _, _, .int .i64 (t.at_ : Int)] _ _)
    rw [← h8]
    exact h9
theorem Pr.shape {w : World} {r : Nat} {text : ByteArray} {nb : Option Nat} {l : List Rf.Tok} {ns : List ByteArray} (h : Pr w r text nb l ns) : ∃ t l' K f to C a c, l = t :: l' ∧ PrB w r text K f to C (.slice a ns.length c) 0 0 ∧ Rf.TokIs t K f to C := by
  obtain ⟨K, f, to, C, vN, hB, ⟨t, l', hl, ht, _⟩, _, _, hrow, _⟩ := h.ex
  rcases hrow.shape with ⟨rfl, rfl⟩ | ⟨g, c, rfl, _⟩
  · exact ⟨t, l', K, f, to, C, _, _, hl, hB, ht⟩
  · exact ⟨t, l', K, f, to, C, _, _, hl, hB, ht⟩
theorem Pr.ended {w : World} {r : Nat} {text : ByteArray} {nb : Option Nat} {l : List Rf.Tok} {ns : List ByteArray} (h : Pr w r text nb l ns) : Rf.Ended l := by
  obtain ⟨_, _, _, _, _, _, _, h, _⟩ := h.ex; exact h
theorem refuse_any (w : World) (r : Nat) (text : ByteArray) (nb : Option Nat) (t : Rf.Tok) (l : List Rf.Tok) (ns : List ByteArray) (e : Int) (h : Pr w r text nb (t :: l) ns) (he : e ≠ 0) :
    Calls Tryz.prog 86 #[.pointer (some ⟨r, 0, none⟩), .int .i64 e] w fun x w' => x = .returned (.tuple #[]) ∧ PrE w' r (Rf.errOf t e).1 (Rf.errOf t e).2 ∧ Kept (fun k => k = r) w w' := by
  obtain ⟨t', l', K, f, to, C, a, c, hl, hB, ht⟩ := h.shape
  obtain ⟨rfl, rfl⟩ : t = t' ∧ l = l' := by injection hl with h1 h2; exact ⟨h1, h2⟩
  refine (refuse_raw w r text K f to C e _ hB t ht).mono ?_
  rintro x w' ⟨rfl, h1, h2⟩
  exact ⟨rfl, ⟨_, _, _, _, _, _, _, _, h1, errOf_ne h.ended he⟩, h2⟩
end Go.Proofs.YtpdikdnffehmkaaGreatDoor
/- What the program's reader does to come to the next token (read: step). -/
namespace Go.Proofs.YtpdikdnffehmkaaGreatDoor
open Go.RowKit
theorem Kept.of_belowN {w w' : World} {n : Nat} (h : Below (w.drewN n).heap.size (w.drewN n) w') (M : Nat → Prop) : Kept M w w' := (Kept.drewN (Kept.refl M w) n).trans (Kept.of_below h M) (fun _ _ e => e)
theorem Kept.of_below1 {w w' : World} (h : Below w.drew.heap.size w.drew w') (M : Nat → Prop) : Kept M w w' := (Kept.drew (Kept.refl M w)).trans (Kept.of_below h M) (fun _ _ e => e)
set_option maxHeartbeats 1000000 in
theorem step_raw (w : World) (r : Nat) (text : ByteArray) (K f C : Int) (n : Nat) (vN : Value) (h : PrB w r text K f n C vN 0 0) (hs : text.size ≤ 400) (hn : n ≤ text.size) :
    Calls Tryz.prog 58 #[.pointer (some ⟨r, 0, none⟩)] w fun x w' => ∃ K' f' to' C', x = .returned (.tuple #[]) ∧ PrB w' r text K' f' to' C' vN 0 0 ∧ Rf.TokIs (Rf.nextTok text n) K' f' to' C' ∧ Kept (fun k => k = r) w w' := by
  obtain ⟨h0, h1, h2, h3, h4, h5, h6, h7, hf, hl⟩ := h.facts
  have H : Hid _ := h
  clear h
  go_enter Tryz.func58, Tryz.ntmps58
  go_region_with (go_at_call 84; refine (scan_any text n _ hs hn).mono ?_; rintro e w2 ⟨K', f', to', C', rfl, ht, hb2⟩; have hB2 : PrB w2 r text K f n C vN 0 0 := (hb2.block r hl).trans H.out; obtain ⟨q0, q1, q2, q3, q4, q5, q6, q7, qf, ql⟩ := hB2.facts)
  all_goals
    go_end0
    refine ⟨K', f', to', C', rfl, blk_set (blk_set (blk_set (blk_set hB2 1 (.int .i64 K')) 2 (.int .i64 f')) 3 (.int .i64 to')) 4 (.int .i64 C'), ht, ?_⟩
    have hk : Kept (fun k => k = r) w w2 := by first | exact Kept.of_below hb2 _ | exact Kept.of_belowN hb2 _ | exact Kept.of_below1 hb2 _
    repeat' (first | exact hk | exact Or.inr rfl | refine Kept.setCell ?_ ?_ _ | refine Kept.drew ?_ | refine Kept.drewN ?_ _)
theorem Pr.toks {w : World} {r : Nat} {text : ByteArray} {nb : Option Nat} {t : Rf.Tok} {l : List Rf.Tok} {ns : List ByteArray} (h : Pr w r text nb (t :: l) ns) : ∃ K f to C vN, PrB w r text K f to C vN 0 0 ∧ Rf.TokIs t K f to C ∧ (t.k ≠ 0 → t.k ≠ 63 → (l = Rf.rest text (t.at_ + t.s.size) ∧ t.at_ + t.s.size ≤ text.size) ∧ t.at_ < text.size ∧ t = Rf.tokenAt text t.at_) ∧ Rf.Ended (t :: l) ∧ text.size ≤ 400 ∧ RowIs w 0 9 1 strCells vN ns ∧ vN.ownBlock = nb ∧ nb ≠ some r ∧ ns.length ≤ 16 := by
  obtain ⟨K, f, to, C, vN, hB, ⟨t', l', hl, ht, hr, _⟩, he, hs, hrow, hnb, hr', h16⟩ := h.ex
  obtain ⟨rfl, rfl⟩ : t = t' ∧ l = l' := by injection hl with h1 h2; exact ⟨h1, h2⟩
  exact ⟨K, f, to, C, vN, hB, ht, hr, he, hs, hrow, hnb, hr', h16⟩
/-- A reader from its cells and its token. -/
theorem Pr.mk' {w : World} {r : Nat} {text : ByteArray} {nb : Option Nat} {n : Nat} {ns : List ByteArray} {K f to C : Int} {vN : Value} (hB : PrB w r text K f to C vN 0 0) (ht : Rf.TokIs (Rf.nextTok text n) K f to C) (hn : n ≤ text.size) (hs : text.size ≤ 400) (hrow : RowIs w 0 9 1 strCells vN ns) (hnb : vN.ownBlock = nb) (hr : nb ≠ some r) (h16 : ns.length ≤ 16) : Pr w r text nb (Rf.rest text n) ns :=
  ⟨K, f, to, C, vN, hB, Rf.at_rest text n hn K f to C ht, Rf.toks_ended text _ _, hs, hrow, hnb, hr, h16⟩
theorem step_any (w : World) (r : Nat) (text : ByteArray) (nb : Option Nat) (t : Rf.Tok) (l : List Rf.Tok) (ns : List ByteArray) (h : Pr w r text nb (t :: l) ns) (h0 : t.k ≠ 0) (h63 : t.k ≠ 63) :
    Calls Tryz.prog 58 #[.pointer (some ⟨r, 0, none⟩)] w fun x w' => x = .returned (.tuple #[]) ∧ Pr w' r text nb l ns ∧ Kept (fun k => k = r) w w' := by
  obtain ⟨K, f, to, C, vN, hB, ht, hr, he, hs, hrow, hnb, hr', h16⟩ := h.toks
  obtain ⟨⟨hl, hfit⟩, _⟩ := hr h0 h63
  have hto : to = ((t.at_ + t.s.size : Nat) : Int) := by rw [ht.2.2.2 h63]; omega
  subst hto
  refine (step_raw w r text K f C _ vN hB hs hfit).mono ?_
  rintro x w' ⟨K', f', to', C', rfl, hB', ht', hK⟩
  refine ⟨rfl, ?_, hK⟩
  rw [hl]
  exact Pr.mk' hB' ht' hfit hs (hrow.keptBy hK (fun k e x => hr' (by rw [← hnb, e, x]))) hnb hr' h16
/-- A step at the end's token: there is no more. -/
theorem step_end (w : World) (r : Nat) (text : ByteArray) (nb : Option Nat) (t : Rf.Tok) (l : List Rf.Tok) (ns : List ByteArray) (h : Pr w r text nb (t :: l) ns) (h0 : t.k = 0) :
    Calls Tryz.prog 58 #[.pointer (some ⟨r, 0, none⟩)] w fun x w' => x = .returned (.tuple #[]) ∧ (∃ l', Pr w' r text nb l' ns) ∧ Kept (fun k => k = r) w w' := by
  obtain ⟨K, f, to, C, vN, hB, ⟨t', l', hl, ht, _, hfin⟩, he, hs, hrow, hnb, hr', h16⟩ := h.ex
  obtain ⟨rfl, rfl⟩ : t = t' ∧ l = l' := by injection hl with h1 h2; exact ⟨h1, h2⟩
  have hfit := hfin h0
  have hto : to = ((t.at_ + t.s.size : Nat) : Int) := by rw [ht.2.2.2 (by omega)]; omega
  subst hto
  refine (step_raw w r text K f C _ vN hB hs hfit).mono ?_
  rintro x w' ⟨K', f', to', C', rfl, hB', ht', hK⟩
  exact ⟨rfl, ⟨_, Pr.mk' hB' ht' hfit hs (hrow.keptBy hK (fun k e x => hr' (by rw [← hnb, e, x]))) hnb hr' h16⟩, hK⟩
end Go.Proofs.YtpdikdnffehmkaaGreatDoor
