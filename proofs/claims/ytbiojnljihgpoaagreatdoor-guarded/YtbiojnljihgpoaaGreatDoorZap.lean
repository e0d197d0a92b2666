
import Derived.Test.YtbiojnljihgpoaaGreatDoorZao
import Derived.Test.YtbiojnljihgpoaaGreatDoorZam
import Derived.Test.YtbiojnljihgpoaaGreatDoorZab
import Derived.Deep.RegionWith
import Derived.Laws.IdiomStrings
import Derived.Test.YtbiojnljihgpoaaGreatDoorZan
namespace Go.Proofs.YtbiojnljihgpoaaGreatDoor
open Go.RowKit
set_option maxHeartbeats 1000000 in
theorem scan_small (s : ByteArray) (n m : Nat) (w : World) (hs : s.size <= 400) (hn : n <= s.size) (hM : n + Rf.skipLen s n = m) (hm : m < s.size) (h1 : Rf.smallB (s[m].toNat : Int) = true) :
  Calls Tryz.prog 62 #[.string s, .int .i64 n] w fun r w' => ScanPost s n w r w' := by
 have hb := Rf.byteAt_eq s m hm
 have hT : Hid (Rf.nextTok s n = Rf.tokenAt s m) := by unfold Hid Rf.nextTok; rw [hM, if_pos hm]
 have hK : Hid (Rf.TokIs (Rf.tokenAt s m) (Rf.wordK (Rf.runLen s false m) 2) m ((m : Int) + Rf.runLen s false m) (Rf.wordC (Rf.runLen s false m))) := by
  have h1' := h1
  rw [hb] at h1'
  unfold Rf.smallB at h1'
  simp at h1'
  have hl : Rf.letterB (Rf.byteAt s m) = true := by unfold Rf.letterB; simp; omega
  have hd : Rf.digitB (Rf.byteAt s m) = false := by unfold Rf.digitB; simp; omega
  exact Rf.tokIs_word s m 2 97 rfl (by decide) (by unfold Rf.tokenAt; rw [if_neg (by omega), if_neg (by simp [hd]), if_pos hl]) (fun W h => by unfold Rf.wordTok; rw [if_neg h, if_pos h1'])
 have HM : Hid _ := hM
 clear hM hb
 go_enter Tryz.func62, Tryz.ntmps62
 go_wp2_with (first
  | (go_at_call 79; refine (pastBlanks_any s n _ hs hn).mono ?_; rintro e w1 ⟨rfl, rfl⟩; rw [HM.out])
  | (go_at_call 80; refine (isSmall_any _ _).mono ?_; rintro e w1 ⟨rfl, rfl⟩)
  | (go_at_call 82; refine (isGreat_any _ _).mono ?_; rintro e w1 ⟨rfl, rfl⟩)
  | (go_at_call 83; refine (isDigit_any _ _).mono ?_; rintro e w1 ⟨rfl, rfl⟩)
  | (go_at_call 81; refine (scanWord_any s m 2 _ hs (by omega)).mono ?_; rintro e w2 ⟨rfl, hb2⟩; have hG2 := (hb2.block w.heap.size (by simp)).trans (blk_new _ _); have g0 : w2.cell? ⟨w.heap.size, 0, none⟩ = some (.int .i64 0) := blk_cell hG2 0; have g1 : w2.cell? ⟨w.heap.size, 1, none⟩ = some (.int .i64 0) := blk_cell hG2 1; have g2 : w2.cell? ⟨w.heap.size, 2, none⟩ = some (.int .i64 0) := blk_cell hG2 2; have g3 : w2.cell? ⟨w.heap.size, 3, none⟩ = some (.int .i64 0) := blk_cell hG2 3; have gf := blk_frozen hG2))
 refine bodyPost_ret (v := .agg #[.int .i64 (Rf.wordK (Rf.runLen s false m) 2), .int .i64 m, .int .i64 ((m : Int) + Rf.runLen s false m), .int .i64 (Rf.wordC (Rf.runLen s false m))]) (by simp [results, Tryz.results62, go_sem, *]) rfl ⟨_, _, _, _, rfl, ?_, ?_⟩
 ·rw [hT.out]; exact hK.out
 ·exact (((((((Below.refl _ w).alloc (Nat.le_refl _) _).trans (hb2.mono (by simp))).setCell (p := ⟨w.heap.size, 0, none⟩) (Nat.le_refl _) _).setCell (p := ⟨w.heap.size, 1, none⟩) (Nat.le_refl _) _).setCell (p := ⟨w.heap.size, 2, none⟩) (Nat.le_refl _) _).setCell (p := ⟨w.heap.size, 3, none⟩) (Nat.le_refl _) _)
set_option maxHeartbeats 1000000 in
theorem scan_great (s : ByteArray) (n m : Nat) (w : World) (hs : s.size <= 400) (hn : n <= s.size) (hM : n + Rf.skipLen s n = m) (hm : m < s.size) (h1 : Rf.smallB (s[m].toNat : Int) = false) (h2 : Rf.greatB (s[m].toNat : Int) = true) :
  Calls Tryz.prog 62 #[.string s, .int .i64 n] w fun r w' => ScanPost s n w r w' := by
 have hb := Rf.byteAt_eq s m hm
 have hT : Hid (Rf.nextTok s n = Rf.tokenAt s m) := by unfold Hid Rf.nextTok; rw [hM, if_pos hm]
 have hK : Hid (Rf.TokIs (Rf.tokenAt s m) (Rf.wordK (Rf.runLen s false m) 3) m ((m : Int) + Rf.runLen s false m) (Rf.wordC (Rf.runLen s false m))) := by
  have h1' := h2
  rw [hb] at h1'
  unfold Rf.greatB at h1'
  simp at h1'
  have hl : Rf.letterB (Rf.byteAt s m) = true := by unfold Rf.letterB; simp; omega
  have hd : Rf.digitB (Rf.byteAt s m) = false := by unfold Rf.digitB; simp; omega
  exact Rf.tokIs_word s m 3 118 rfl (by decide) (by unfold Rf.tokenAt; rw [if_neg (by omega), if_neg (by simp [hd]), if_pos hl]) (fun W h => by unfold Rf.wordTok; rw [if_neg h, if_neg (by omega)])
 have HM : Hid _ := hM
 clear hM hb
 go_enter Tryz.func62, Tryz.ntmps62
 go_wp2_with (first
  | (go_at_call 79; refine (pastBlanks_any s n _ hs hn).mono ?_; rintro e w1 ⟨rfl, rfl⟩; rw [HM.out])
  | (go_at_call 80; refine (isSmall_any _ _).mono ?_; rintro e w1 ⟨rfl, rfl⟩)
  | (go_at_call 82; refine (isGreat_any _ _).mono ?_; rintro e w1 ⟨rfl, rfl⟩)
  | (go_at_call 83; refine (isDigit_any _ _).mono ?_; rintro e w1 ⟨rfl, rfl⟩)
  | (go_at_call 81; refine (scanWord_any s m 3 _ hs (by omega)).mono ?_; rintro e w2 ⟨rfl, hb2⟩; have hG2 := (hb2.block w.heap.size (by simp)).trans (blk_new _ _); have g0 : w2.cell? ⟨w.heap.size, 0, none⟩ = some (.int .i64 0) := blk_cell hG2 0; have g1 : w2.cell? ⟨w.heap.size, 1, none⟩ = some (.int .i64 0) := blk_cell hG2 1; have g2 : w2.cell? ⟨w.heap.size, 2, none⟩ = some (.int .i64 0) := blk_cell hG2 2; have g3 : w2.cell? ⟨w.heap.size, 3, none⟩ = some (.int .i64 0) := blk_cell hG2 3; have gf := blk_frozen hG2))
 refine bodyPost_ret (v := .agg #[.int .i64 (Rf.wordK (Rf.runLen s false m) 3), .int .i64 m, .int .i64 ((m : Int) + Rf.runLen s false m), .int .i64 (Rf.wordC (Rf.runLen s false m))]) (by simp [results, Tryz.results62, go_sem, *]) rfl ⟨_, _, _, _, rfl, ?_, ?_⟩
 ·rw [hT.out]; exact hK.out
 ·exact (((((((Below.refl _ w).alloc (Nat.le_refl _) _).trans (hb2.mono (by simp))).setCell (p := ⟨w.heap.size, 0, none⟩) (Nat.le_refl _) _).setCell (p := ⟨w.heap.size, 1, none⟩) (Nat.le_refl _) _).setCell (p := ⟨w.heap.size, 2, none⟩) (Nat.le_refl _) _).setCell (p := ⟨w.heap.size, 3, none⟩) (Nat.le_refl _) _)
set_option maxHeartbeats 1000000 in
theorem scan_under (s : ByteArray) (n m : Nat) (w : World) (hs : s.size <= 400) (hn : n <= s.size) (hM : n + Rf.skipLen s n = m) (hm : m < s.size) (h1 : Rf.smallB (s[m].toNat : Int) = false) (h2 : Rf.greatB (s[m].toNat : Int) = false) (h3 : ((s[m].toNat : Int) == 95) = true) :
  Calls Tryz.prog 62 #[.string s, .int .i64 n] w fun r w' => ScanPost s n w r w' := by
 have hb := Rf.byteAt_eq s m hm
 have hT : Hid (Rf.nextTok s n = Rf.tokenAt s m) := by unfold Hid Rf.nextTok; rw [hM, if_pos hm]
 have hK : Hid (Rf.TokIs (Rf.tokenAt s m) (Rf.wordK (Rf.runLen s false m) 3) m ((m : Int) + Rf.runLen s false m) (Rf.wordC (Rf.runLen s false m))) := by
  have h1' : Rf.byteAt s m = 95 := by rw [<- hb]; exact eq_of_beq h3
  have hl : Rf.letterB (Rf.byteAt s m) = true := by rw [h1']; decide
  have hd : Rf.digitB (Rf.byteAt s m) = false := by rw [h1']; decide
  exact Rf.tokIs_word s m 3 118 rfl (by decide) (by unfold Rf.tokenAt; rw [if_neg (by omega), if_neg (by simp [hd]), if_pos hl]) (fun W h => by unfold Rf.wordTok; rw [if_neg h, if_neg (by omega)])
 have HM : Hid _ := hM
 clear hM hb
 go_enter Tryz.func62, Tryz.ntmps62
 go_wp2_with (first
  | (go_at_call 79; refine (pastBlanks_any s n _ hs hn).mono ?_; rintro e w1 ⟨rfl, rfl⟩; rw [HM.out])
  | (go_at_call 80; refine (isSmall_any _ _).mono ?_; rintro e w1 ⟨rfl, rfl⟩)
  | (go_at_call 82; refine (isGreat_any _ _).mono ?_; rintro e w1 ⟨rfl, rfl⟩)
  | (go_at_call 83; refine (isDigit_any _ _).mono ?_; rintro e w1 ⟨rfl, rfl⟩)
  | (go_at_call 81; refine (scanWord_any s m 3 _ hs (by omega)).mono ?_; rintro e w2 ⟨rfl, hb2⟩; have hG2 := (hb2.block w.heap.size (by simp)).trans (blk_new _ _); have g0 : w2.cell? ⟨w.heap.size, 0, none⟩ = some (.int .i64 0) := blk_cell hG2 0; have g1 : w2.cell? ⟨w.heap.size, 1, none⟩ = some (.int .i64 0) := blk_cell hG2 1; have g2 : w2.cell? ⟨w.heap.size, 2, none⟩ = some (.int .i64 0) := blk_cell hG2 2; have g3 : w2.cell? ⟨w.heap.size, 3, none⟩ = some (.int .i64 0) := blk_cell hG2 3; have gf := blk_frozen hG2))
 refine bodyPost_ret (v := .agg #[.int .i64 (Rf.wordK (Rf.runLen s false m) 3), .int .i64 m, .int .i64 ((m : Int) + Rf.runLen s false m), .int .i64 (Rf.wordC (Rf.runLen s false m))]) (by simp [results, Tryz.results62, go_sem, *]) rfl ⟨_, _, _, _, rfl, ?_, ?_⟩
 ·rw [hT.out]; exact hK.out
 ·exact (((((((Below.refl _ w).alloc (Nat.le_refl _) _).trans (hb2.mono (by simp))).setCell (p := ⟨w.heap.size, 0, none⟩) (Nat.le_refl _) _).setCell (p := ⟨w.heap.size, 1, none⟩) (Nat.le_refl _) _).setCell (p := ⟨w.heap.size, 2, none⟩) (Nat.le_refl _) _).setCell (p := ⟨w.heap.size, 3, none⟩) (Nat.le_refl _) _)
set_option maxHeartbeats 1000000 in
theorem scan_digit (s : ByteArray) (n m : Nat) (w : World) (hs : s.size <= 400) (hn : n <= s.size) (hM : n + Rf.skipLen s n = m) (hm : m < s.size) (h1 : Rf.smallB (s[m].toNat : Int) = false) (h2 : Rf.greatB (s[m].toNat : Int) = false) (h3 : ((s[m].toNat : Int) == 95) = false) (h4 : Rf.digitB (s[m].toNat : Int) = true) :
  Calls Tryz.prog 62 #[.string s, .int .i64 n] w fun r w' => ScanPost s n w r w' := by
 have hb := Rf.byteAt_eq s m hm
 have hT : Hid (Rf.nextTok s n = Rf.tokenAt s m) := by unfold Hid Rf.nextTok; rw [hM, if_pos hm]
 have h45 : ((s[m].toNat : Int) == 45) = false := by
  have h1' := h4
  unfold Rf.digitB at h1'
  simp at h1'
  rw [beq_eq_false_iff_ne]; omega
 have hK : Hid (Rf.TokIs (Rf.tokenAt s m) (Rf.numK (Rf.runLen s true m)) m ((m : Int) + Rf.runLen s true m) (Rf.numC (Rf.runLen s true m))) := by
  exact Rf.tokIs_num s m false m (by simp) (by unfold Rf.tokenAt; rw [<- hb, if_neg (beq_eq_false_iff_ne.1 h45), if_pos h4])
 have HM : Hid _ := hM
 clear hM hb
 go_enter Tryz.func62, Tryz.ntmps62
 go_wp2_with (first
  | (go_at_call 79; refine (pastBlanks_any s n _ hs hn).mono ?_; rintro e w1 ⟨rfl, rfl⟩; rw [HM.out])
  | (go_at_call 80; refine (isSmall_any _ _).mono ?_; rintro e w1 ⟨rfl, rfl⟩)
  | (go_at_call 82; refine (isGreat_any _ _).mono ?_; rintro e w1 ⟨rfl, rfl⟩)
  | (go_at_call 83; refine (isDigit_any _ _).mono ?_; rintro e w1 ⟨rfl, rfl⟩)
  | (go_at_call 84; refine (scanNumber_pos s m _ hs hm h45).mono ?_; rintro e w2 ⟨rfl, hb2⟩; have hG2 := (hb2.block w.heap.size (by simp)).trans (blk_new _ _); have g0 : w2.cell? ⟨w.heap.size, 0, none⟩ = some (.int .i64 0) := blk_cell hG2 0; have g1 : w2.cell? ⟨w.heap.size, 1, none⟩ = some (.int .i64 0) := blk_cell hG2 1; have g2 : w2.cell? ⟨w.heap.size, 2, none⟩ = some (.int .i64 0) := blk_cell hG2 2; have g3 : w2.cell? ⟨w.heap.size, 3, none⟩ = some (.int .i64 0) := blk_cell hG2 3; have gf := blk_frozen hG2))
 refine bodyPost_ret (v := .agg #[.int .i64 (Rf.numK (Rf.runLen s true m)), .int .i64 m, .int .i64 ((m : Int) + Rf.runLen s true m), .int .i64 (Rf.numC (Rf.runLen s true m))]) (by simp [results, Tryz.results62, go_sem, *]) rfl ⟨_, _, _, _, rfl, ?_, ?_⟩
 ·rw [hT.out]; exact hK.out
 ·exact (((((((Below.refl _ w).alloc (Nat.le_refl _) _).trans (hb2.mono (by simp))).setCell (p := ⟨w.heap.size, 0, none⟩) (Nat.le_refl _) _).setCell (p := ⟨w.heap.size, 1, none⟩) (Nat.le_refl _) _).setCell (p := ⟨w.heap.size, 2, none⟩) (Nat.le_refl _) _).setCell (p := ⟨w.heap.size, 3, none⟩) (Nat.le_refl _) _)
set_option maxHeartbeats 1000000 in
theorem scan_neg (s : ByteArray) (n m : Nat) (w : World) (hs : s.size <= 400) (hn : n <= s.size) (hM : n + Rf.skipLen s n = m) (hm : m < s.size) (h1 : Rf.smallB (s[m].toNat : Int) = false) (h2 : Rf.greatB (s[m].toNat : Int) = false) (h3 : ((s[m].toNat : Int) == 95) = false) (h4 : Rf.digitB (s[m].toNat : Int) = false) (h45 : ((s[m].toNat : Int) == 45) = true) :
  Calls Tryz.prog 62 #[.string s, .int .i64 n] w fun r w' => ScanPost s n w r w' := by
 have hb := Rf.byteAt_eq s m hm
 have hT : Hid (Rf.nextTok s n = Rf.tokenAt s m) := by unfold Hid Rf.nextTok; rw [hM, if_pos hm]
 have hK : Hid (Rf.TokIs (Rf.tokenAt s m) (Rf.numK (Rf.runLen s true (m + 1))) m (((m + 1 : Nat) : Int) + Rf.runLen s true (m + 1)) (Rf.numC (Rf.runLen s true (m + 1)))) := by
  exact Rf.tokIs_num s m true (m + 1) (by simp) (by unfold Rf.tokenAt; rw [<- hb, if_pos (eq_of_beq h45)])
 have HM : Hid _ := hM
 clear hM hb
 go_enter Tryz.func62, Tryz.ntmps62
 go_wp2_with (first
  | (go_at_call 79; refine (pastBlanks_any s n _ hs hn).mono ?_; rintro e w1 ⟨rfl, rfl⟩; rw [HM.out])
  | (go_at_call 80; refine (isSmall_any _ _).mono ?_; rintro e w1 ⟨rfl, rfl⟩)
  | (go_at_call 82; refine (isGreat_any _ _).mono ?_; rintro e w1 ⟨rfl, rfl⟩)
  | (go_at_call 83; refine (isDigit_any _ _).mono ?_; rintro e w1 ⟨rfl, rfl⟩)
  | (go_at_call 84; refine (scanNumber_neg s m _ hs hm h45).mono ?_; rintro e w2 ⟨rfl, hb2⟩; have hG2 := (hb2.block w.heap.size (by simp)).trans (blk_new _ _); have g0 : w2.cell? ⟨w.heap.size, 0, none⟩ = some (.int .i64 0) := blk_cell hG2 0; have g1 : w2.cell? ⟨w.heap.size, 1, none⟩ = some (.int .i64 0) := blk_cell hG2 1; have g2 : w2.cell? ⟨w.heap.size, 2, none⟩ = some (.int .i64 0) := blk_cell hG2 2; have g3 : w2.cell? ⟨w.heap.size, 3, none⟩ = some (.int .i64 0) := blk_cell hG2 3; have gf := blk_frozen hG2))
 refine bodyPost_ret (v := .agg #[.int .i64 (Rf.numK (Rf.runLen s true (m + 1))), .int .i64 m, .int .i64 (((m + 1 : Nat) : Int) + Rf.runLen s true (m + 1)), .int .i64 (Rf.numC (Rf.runLen s true (m + 1)))]) (by simp [results, Tryz.results62, go_sem, *]) rfl ⟨_, _, _, _, rfl, ?_, ?_⟩
 ·rw [hT.out]; exact hK.out
 ·exact (((((((Below.refl _ w).alloc (Nat.le_refl _) _).trans (hb2.mono (by simp))).setCell (p := ⟨w.heap.size, 0, none⟩) (Nat.le_refl _) _).setCell (p := ⟨w.heap.size, 1, none⟩) (Nat.le_refl _) _).setCell (p := ⟨w.heap.size, 2, none⟩) (Nat.le_refl _) _).setCell (p := ⟨w.heap.size, 3, none⟩) (Nat.le_refl _) _)
set_option maxHeartbeats 1000000 in
theorem scan_fol (s : ByteArray) (n m : Nat) (w : World) (hs : s.size <= 400) (hn : n <= s.size) (hM : n + Rf.skipLen s n = m) (hm : m < s.size) (h1 : Rf.smallB (s[m].toNat : Int) = false) (h2 : Rf.greatB (s[m].toNat : Int) = false) (h3 : ((s[m].toNat : Int) == 95) = false) (h4 : Rf.digitB (s[m].toNat : Int) = false) (h45 : ((s[m].toNat : Int) == 45) = false) (h58 : ((s[m].toNat : Int) == 58) = true) :
  Calls Tryz.prog 62 #[.string s, .int .i64 n] w fun r w' => ScanPost s n w r w' := by
 have hb := Rf.byteAt_eq s m hm
 have hT : Hid (Rf.nextTok s n = Rf.tokenAt s m) := by unfold Hid Rf.nextTok; rw [hM, if_pos hm]
 have hK : Hid (Rf.TokIs (Rf.tokenAt s m) (Rf.folK s m) m (Rf.folT s m) (Rf.folC s m)) := Rf.tokIs_fol s m (by rw [<- hb]; exact eq_of_beq h58)
 have HM : Hid _ := hM
 clear hM hb
 go_enter Tryz.func62, Tryz.ntmps62
 go_wp2_with (first
  | (go_at_call 79; refine (pastBlanks_any s n _ hs hn).mono ?_; rintro e w1 ⟨rfl, rfl⟩; rw [HM.out])
  | (go_at_call 80; refine (isSmall_any _ _).mono ?_; rintro e w1 ⟨rfl, rfl⟩)
  | (go_at_call 82; refine (isGreat_any _ _).mono ?_; rintro e w1 ⟨rfl, rfl⟩)
  | (go_at_call 83; refine (isDigit_any _ _).mono ?_; rintro e w1 ⟨rfl, rfl⟩)
  | (go_at_call 85; refine (scanFollows_any s m _ hs hm).mono ?_; rintro e w2 ⟨rfl, hb2⟩; have hG2 := (hb2.block w.heap.size (by simp)).trans (blk_new _ _); have g0 : w2.cell? ⟨w.heap.size, 0, none⟩ = some (.int .i64 0) := blk_cell hG2 0; have g1 : w2.cell? ⟨w.heap.size, 1, none⟩ = some (.int .i64 0) := blk_cell hG2 1; have g2 : w2.cell? ⟨w.heap.size, 2, none⟩ = some (.int .i64 0) := blk_cell hG2 2; have g3 : w2.cell? ⟨w.heap.size, 3, none⟩ = some (.int .i64 0) := blk_cell hG2 3; have gf := blk_frozen hG2))
 refine bodyPost_ret (v := .agg #[.int .i64 (Rf.folK s m), .int .i64 m, .int .i64 (Rf.folT s m), .int .i64 (Rf.folC s m)]) (by simp [results, Tryz.results62, go_sem, *]) rfl ⟨_, _, _, _, rfl, ?_, ?_⟩
 ·rw [hT.out]; exact hK.out
 ·exact (((((((Below.refl _ w).alloc (Nat.le_refl _) _).trans (hb2.mono (by simp))).setCell (p := ⟨w.heap.size, 0, none⟩) (Nat.le_refl _) _).setCell (p := ⟨w.heap.size, 1, none⟩) (Nat.le_refl _) _).setCell (p := ⟨w.heap.size, 2, none⟩) (Nat.le_refl _) _).setCell (p := ⟨w.heap.size, 3, none⟩) (Nat.le_refl _) _)
set_option maxHeartbeats 1000000 in
theorem scan_mark (s : ByteArray) (n m : Nat) (w : World) (hs : s.size <= 400) (hn : n <= s.size) (hM : n + Rf.skipLen s n = m) (hm : m < s.size) (h1 : Rf.smallB (s[m].toNat : Int) = false) (h2 : Rf.greatB (s[m].toNat : Int) = false) (h3 : ((s[m].toNat : Int) == 95) = false) (h4 : Rf.digitB (s[m].toNat : Int) = false) (h45 : ((s[m].toNat : Int) == 45) = false) (h58 : ((s[m].toNat : Int) == 58) = false) :
  Calls Tryz.prog 62 #[.string s, .int .i64 n] w fun r w' => ScanPost s n w r w' := by
 have hb := Rf.byteAt_eq s m hm
 have hT : Hid (Rf.nextTok s n = Rf.tokenAt s m) := by unfold Hid Rf.nextTok; rw [hM, if_pos hm]
 have hK : Hid (Rf.TokIs (Rf.tokenAt s m) (Rf.markK (s[m].toNat : Int)) m ((m : Int) + 1) (Rf.markC (s[m].toNat : Int))) := by
  rw [hb] at h1 h2 h3 h4 h45 h58 ⊢
  exact Rf.tokIs_mark s m hm (beq_eq_false_iff_ne.1 h45) h4 (by rw [word_of, h1, h2, h3, h4]; rfl) (beq_eq_false_iff_ne.1 h58)
 have HM : Hid _ := hM
 clear hM hb
 go_enter Tryz.func62, Tryz.ntmps62
 go_wp2_with (first
  | (go_at_call 79; refine (pastBlanks_any s n _ hs hn).mono ?_; rintro e w1 ⟨rfl, rfl⟩; rw [HM.out])
  | (go_at_call 80; refine (isSmall_any _ _).mono ?_; rintro e w1 ⟨rfl, rfl⟩)
  | (go_at_call 82; refine (isGreat_any _ _).mono ?_; rintro e w1 ⟨rfl, rfl⟩)
  | (go_at_call 83; refine (isDigit_any _ _).mono ?_; rintro e w1 ⟨rfl, rfl⟩)
  | (go_at_call 86; refine (scanMark_any _ m _ (by omega)).mono ?_; rintro e w2 ⟨rfl, hb2⟩; have hG2 := (hb2.block w.heap.size (by simp)).trans (blk_new _ _); have g0 : w2.cell? ⟨w.heap.size, 0, none⟩ = some (.int .i64 0) := blk_cell hG2 0; have g1 : w2.cell? ⟨w.heap.size, 1, none⟩ = some (.int .i64 0) := blk_cell hG2 1; have g2 : w2.cell? ⟨w.heap.size, 2, none⟩ = some (.int .i64 0) := blk_cell hG2 2; have g3 : w2.cell? ⟨w.heap.size, 3, none⟩ = some (.int .i64 0) := blk_cell hG2 3; have gf := blk_frozen hG2))
 refine bodyPost_ret (v := .agg #[.int .i64 (Rf.markK (s[m].toNat : Int)), .int .i64 m, .int .i64 ((m : Int) + 1), .int .i64 (Rf.markC (s[m].toNat : Int))]) (by simp [results, Tryz.results62, go_sem, *]) rfl ⟨_, _, _, _, rfl, ?_, ?_⟩
 ·rw [hT.out]; exact hK.out
 ·exact (((((((Below.refl _ w).alloc (Nat.le_refl _) _).trans (hb2.mono (by simp))).setCell (p := ⟨w.heap.size, 0, none⟩) (Nat.le_refl _) _).setCell (p := ⟨w.heap.size, 1, none⟩) (Nat.le_refl _) _).setCell (p := ⟨w.heap.size, 2, none⟩) (Nat.le_refl _) _).setCell (p := ⟨w.heap.size, 3, none⟩) (Nat.le_refl _) _)
theorem scan_any (s : ByteArray) (n : Nat) (w : World) (hs : s.size <= 400) (hn : n <= s.size) :
  Calls Tryz.prog 62 #[.string s, .int .i64 n] w fun r w' => ScanPost s n w r w' := by
 by_cases hm : n + Rf.skipLen s n < s.size
 ·obtain ⟨m, hM⟩ : ∃ m, n + Rf.skipLen s n = m := ⟨_, rfl⟩
  rw [hM] at hm
  cases h1 : Rf.smallB (s[m].toNat : Int)
  ·cases h2 : Rf.greatB (s[m].toNat : Int)
   ·cases h3 : ((s[m].toNat : Int) == 95)
    ·cases h4 : Rf.digitB (s[m].toNat : Int)
     ·cases h45 : ((s[m].toNat : Int) == 45)
      ·cases h58 : ((s[m].toNat : Int) == 58)
       ·exact scan_mark s n m w hs hn hM hm h1 h2 h3 h4 h45 h58
       ·exact scan_fol s n m w hs hn hM hm h1 h2 h3 h4 h45 h58
      ·exact scan_neg s n m w hs hn hM hm h1 h2 h3 h4 h45
     ·exact scan_digit s n m w hs hn hM hm h1 h2 h3 h4
    ·exact scan_under s n m w hs hn hM hm h1 h2 h3
   ·exact scan_great s n m w hs hn hM hm h1 h2
  ·exact scan_small s n m w hs hn hM hm h1
 ·exact scan_end s n w hs hn (by omega)
end Go.Proofs.YtbiojnljihgpoaaGreatDoor
namespace Rf
def At (text : ByteArray) (l : List Tok) (K f toE C : Int) : Prop :=
 ∃ t l', l = t :: l' /\ TokIs t K f toE C /\ (t.k ≠ 0 -> t.k ≠ 63 -> (l' = rest text (t.at_ + t.s.size) /\ t.at_ + t.s.size <= text.size) /\ t.at_ < text.size /\ t = tokenAt text t.at_) /\ (t.k = 0 -> t.at_ + t.s.size <= text.size)
theorem next_end (text : ByteArray) (n : Nat) (h : (nextTok text n).k = 0) : (nextTok text n).at_ + (nextTok text n).s.size <= text.size := by
 unfold nextTok at h ⊢
 by_cases hm : n + skipLen text n < text.size
 ·rw [if_pos hm] at h; exact absurd h (tokenAt_ne _ _)
 ·rw [if_neg hm]; exact Nat.le_refl _
theorem at_rest (text : ByteArray) (n : Nat) (hn : n <= text.size) (K f toE C : Int) (h : TokIs (nextTok text n) K f toE C) : At text (rest text n) K f toE C := by
  have hr := rest_eq text (text.size - n) n (by omega) hn
  have hle := skipLen_le text n
  by_cases hk : (nextTok text n).k = 0 \/ (nextTok text n).k = 63
  · rw [if_pos hk] at hr
    exact ⟨nextTok text n, [], hr, h, (fun h1 h2 => by rcases hk with hk | hk <;> contradiction), next_end text n⟩
  · rw [if_neg hk] at hr
    refine ⟨nextTok text n, _, hr, h, fun h1 h2 => ⟨⟨rfl, ?_⟩, ?_⟩, next_end text n⟩
    all_goals
     unfold nextTok at h1 h2 ⊢
     by_cases hm : n + skipLen text n < text.size
     · rw [if_pos hm] at h2 ⊢
       have hfit := tokenAt_fit text _ hm h2
       have hat : (tokenAt text (n + skipLen text n)).at_ = n + skipLen text n := by
         unfold tokenAt numTok wordTok bad
         repeat' split
         all_goals rfl
       first | omega | exact ⟨by omega, by rw [hat]⟩
     · rw [if_neg hm] at h1
       exact absurd rfl h1
end Rf
namespace Go.Proofs.YtbiojnljihgpoaaGreatDoor
open Go.RowKit
def PrB (w : World) (r : Nat) (text : ByteArray) (K f toE C : Int) (vN : Value) (code place : Int) : Prop :=
 w.heap[r]? = some (.cells #[.string text, .int .i64 K, .int .i64 f, .int .i64 toE, .int .i64 C, vN, .int .i64 code, .int .i64 place] 95 (0, 0))
theorem PrB.facts {w : World} {r : Nat} {text : ByteArray} {K f toE C : Int} {vN : Value} {code place : Int} (h : PrB w r text K f toE C vN code place) :
  w.cell? ⟨r, 0, none⟩ = some (.string text) /\ w.cell? ⟨r, 1, none⟩ = some (.int .i64 K) /\ w.cell? ⟨r, 2, none⟩ = some (.int .i64 f) /\ w.cell? ⟨r, 3, none⟩ = some (.int .i64 toE) /\ w.cell? ⟨r, 4, none⟩ = some (.int .i64 C) /\ w.cell? ⟨r, 5, none⟩ = some vN /\ w.cell? ⟨r, 6, none⟩ = some (.int .i64 code) /\ w.cell? ⟨r, 7, none⟩ = some (.int .i64 place) /\ (∀ i, w.frozen? ⟨r, i, none⟩ = false) /\ r < w.heap.size :=
 ⟨blk_cell h 0, blk_cell h 1, blk_cell h 2, blk_cell h 3, blk_cell h 4, blk_cell h 5, blk_cell h 6, blk_cell h 7, blk_frozen h, blk_lt h⟩
structure Pr (w : World) (r : Nat) (text : ByteArray) (nb : Option Nat) (l : List Rf.Tok) (ns : List ByteArray) : Prop where
 ex : ∃ K f toE C vN, PrB w r text K f toE C vN 0 0 /\ Rf.At text l K f toE C /\ Rf.Ended l /\ text.size <= 400 /\ RowIs w 0 9 1 strCells vN ns /\ vN.ownBlock = nb /\ nb ≠ some r /\ ns.length <= 16
structure PrE (w : World) (r : Nat) (E P : Int) : Prop where
 ex : ∃ text K f toE C a n c, PrB w r text K f toE C (.slice a n c) E P /\ E ≠ 0
set_option maxHeartbeats 400000 in
theorem refuse_raw (w : World) (r : Nat) (text : ByteArray) (K f toE C e : Int) (vN : Value) (h : PrB w r text K f toE C vN 0 0) (t : Rf.Tok) (ht : Rf.TokIs t K f toE C) :
  Calls Tryz.prog 64 #[.pointer (some ⟨r, 0, none⟩), .int .i64 e] w fun x w' => x = .returned (.tuple #[]) /\ PrB w' r text K f toE C vN (Rf.errOf t e).1 (Rf.errOf t e).2 /\ Kept (fun k => k = r) w w' := by
 obtain ⟨h0, h1, h2, h3, h4, h5, h6, h7, hf, hl⟩ := h.facts
 obtain ⟨t1, t2, t3, _⟩ := ht
 have H : Hid _ := h
 clear h
 by_cases hk : t.k = 63
 ·have hK : (K == 1) = true := by rw [t1, hk]; rfl
  have HE : Hid (Rf.errOf t e = (C, t.at_) /\ f = t.at_) := ⟨by unfold Rf.errOf; rw [if_pos hk, t3], t2⟩
  clear t1 t2 t3 hk
  go_enter Tryz.func64, Tryz.ntmps64
  go_wp2
  go_end0
  rw [HE.out.1]
  refine ⟨rfl, ?_, (by repeat'(first|exact kep0 _ _|refine kep1 ?_ ?_ _|refine kep2 ?_|refine kep3 ?_ _|refine kep4 ?_ _|exact Or.inr rfl|exact Or.inr (Or.inl rfl)|(refine Or.inl ?_;simp;done)|(refine Or.inl ?_;simp;omega)))⟩
  have h9 := blk_set (blk_set (blk_set H.out 6 (.int .i64 e)) 6 (.int .i64 C)) 7 (.int .i64 f)
  have h8 := HE.out.2
  unfold PrB
  show _ = some (Obj.cells #[_, _, _, _, _, _, _, .int .i64 (t.at_ : Int)] _ _)
  rw [<- h8]
  exact h9
 ·have hK : (K == 1) = false := by
   rw [t1, beq_eq_false_iff_ne]
   unfold Rf.kindOf
   repeat' split
   all_goals (first | contradiction | decide)
  have HE : Hid (Rf.errOf t e = (e, t.at_) /\ f = t.at_) := ⟨by unfold Rf.errOf; rw [if_neg hk], t2⟩
  clear t1 t2 t3 hk
  go_enter Tryz.func64, Tryz.ntmps64
  go_wp2
  go_end0
  rw [HE.out.1]
  refine ⟨rfl, ?_, (by repeat'(first|exact kep0 _ _|refine kep1 ?_ ?_ _|refine kep2 ?_|refine kep3 ?_ _|refine kep4 ?_ _|exact Or.inr rfl|exact Or.inr (Or.inl rfl)|(refine Or.inl ?_;simp;done)|(refine Or.inl ?_;simp;omega)))⟩
  have h9 := blk_set (blk_set H.out 6 (.int .i64 e)) 7 (.int .i64 f)
  have h8 := HE.out.2
  unfold PrB
  show _ = some (Obj.cells #[_, _, _, _, _, _, _, .int .i64 (t.at_ : Int)] _ _)
  rw [<- h8]
  exact h9
theorem Pr.shape {w : World} {r : Nat} {text : ByteArray} {nb : Option Nat} {l : List Rf.Tok} {ns : List ByteArray} (h : Pr w r text nb l ns) : ∃ t l' K f toE C a c, l = t :: l' /\ PrB w r text K f toE C (.slice a ns.length c) 0 0 /\ Rf.TokIs t K f toE C := by
 obtain ⟨K, f, toE, C, vN, hB, ⟨t, l', hl, ht, _⟩, _, _, hrow, _⟩ := h.ex
 rcases hrow.shape with ⟨rfl, rfl⟩ | ⟨g, c, rfl, _⟩
 ·exact ⟨t, l', K, f, toE, C, _, _, hl, hB, ht⟩
 ·exact ⟨t, l', K, f, toE, C, _, _, hl, hB, ht⟩
theorem Pr.ended {w : World} {r : Nat} {text : ByteArray} {nb : Option Nat} {l : List Rf.Tok} {ns : List ByteArray} (h : Pr w r text nb l ns) : Rf.Ended l := by
 obtain ⟨_, _, _, _, _, _, _, h, _⟩ := h.ex; exact h
theorem refuse_any (w : World) (r : Nat) (text : ByteArray) (nb : Option Nat) (t : Rf.Tok) (l : List Rf.Tok) (ns : List ByteArray) (e : Int) (h : Pr w r text nb (t :: l) ns) (he : e ≠ 0) :
  Calls Tryz.prog 64 #[.pointer (some ⟨r, 0, none⟩), .int .i64 e] w fun x w' => x = .returned (.tuple #[]) /\ PrE w' r (Rf.errOf t e).1 (Rf.errOf t e).2 /\ Kept (fun k => k = r) w w' := by
 obtain ⟨t', l', K, f, toE, C, a, c, hl, hB, ht⟩ := h.shape
 obtain ⟨rfl, rfl⟩ : t = t' /\ l = l' := by injection hl with h1 h2; exact ⟨h1, h2⟩
 refine (refuse_raw w r text K f toE C e _ hB t ht).mono ?_
 rintro x w' ⟨rfl, h1, h2⟩
 exact ⟨rfl, ⟨_, _, _, _, _, _, _, _, h1, errOf_ne h.ended he⟩, h2⟩
theorem Kept.of_belowN {w w' : World} {n : Nat} (h : Below (w.drewN n).heap.size (w.drewN n) w') (M : Nat -> Prop) : Kept M w w' := (Kept.drewN (Kept.refl M w) n).trans (Kept.of_below h M) (fun _ _ e => e)
set_option maxHeartbeats 1000000 in
theorem step_raw (w : World) (r : Nat) (text : ByteArray) (K f C : Int) (n : Nat) (vN : Value) (h : PrB w r text K f n C vN 0 0) (hs : text.size <= 400) (hn : n <= text.size) :
  Calls Tryz.prog 46 #[.pointer (some ⟨r, 0, none⟩)] w fun x w' => ∃ K' f' to' C', x = .returned (.tuple #[]) /\ PrB w' r text K' f' to' C' vN 0 0 /\ Rf.TokIs (Rf.nextTok text n) K' f' to' C' /\ Kept (fun k => k = r) w w' := by
 obtain ⟨h0, h1, h2, h3, h4, h5, h6, h7, hf, hl⟩ := h.facts
 have H : Hid _ := h
 clear h
 go_enter Tryz.func46, Tryz.ntmps46
 go_region_with (go_at_call 62; refine (scan_any text n _ hs hn).mono ?_; rintro e w2 ⟨K', f', to', C', rfl, ht, hb2⟩; have hB2 : PrB w2 r text K f n C vN 0 0 := (hb2.block r hl).trans H.out; obtain ⟨q0, q1, q2, q3, q4, q5, q6, q7, qf, ql⟩ := hB2.facts)
 all_goals
  go_end0
  refine ⟨K', f', to', C', rfl, blk_set (blk_set (blk_set (blk_set hB2 1 (.int .i64 K')) 2 (.int .i64 f')) 3 (.int .i64 to')) 4 (.int .i64 C'), ht, ?_⟩
  have hk : Kept (fun k => k = r) w w2 := by first | exact Kept.of_below hb2 _ | exact Kept.of_belowN hb2 _ | exact Kept.of_below1 hb2 _
  repeat' (first | exact hk | exact Or.inr rfl | refine Kept.setCell ?_ ?_ _ | refine Kept.drew ?_ | refine Kept.drewN ?_ _)
theorem Pr.toks {w : World} {r : Nat} {text : ByteArray} {nb : Option Nat} {t : Rf.Tok} {l : List Rf.Tok} {ns : List ByteArray} (h : Pr w r text nb (t :: l) ns) : ∃ K f toE C vN, PrB w r text K f toE C vN 0 0 /\ Rf.TokIs t K f toE C /\ (t.k ≠ 0 -> t.k ≠ 63 -> (l = Rf.rest text (t.at_ + t.s.size) /\ t.at_ + t.s.size <= text.size) /\ t.at_ < text.size /\ t = Rf.tokenAt text t.at_) /\ Rf.Ended (t :: l) /\ text.size <= 400 /\ RowIs w 0 9 1 strCells vN ns /\ vN.ownBlock = nb /\ nb ≠ some r /\ ns.length <= 16 := by
 obtain ⟨K, f, toE, C, vN, hB, ⟨t', l', hl, ht, hr, _⟩, he, hs, hrow, hnb, hr', h16⟩ := h.ex
 obtain ⟨rfl, rfl⟩ : t = t' /\ l = l' := by injection hl with h1 h2; exact ⟨h1, h2⟩
 exact ⟨K, f, toE, C, vN, hB, ht, hr, he, hs, hrow, hnb, hr', h16⟩
theorem Pr.mk' {w : World} {r : Nat} {text : ByteArray} {nb : Option Nat} {n : Nat} {ns : List ByteArray} {K f toE C : Int} {vN : Value} (hB : PrB w r text K f toE C vN 0 0) (ht : Rf.TokIs (Rf.nextTok text n) K f toE C) (hn : n <= text.size) (hs : text.size <= 400) (hrow : RowIs w 0 9 1 strCells vN ns) (hnb : vN.ownBlock = nb) (hr : nb ≠ some r) (h16 : ns.length <= 16) : Pr w r text nb (Rf.rest text n) ns :=
 ⟨K, f, toE, C, vN, hB, Rf.at_rest text n hn K f toE C ht, Rf.toks_ended text _ _, hs, hrow, hnb, hr, h16⟩
theorem step_any (w : World) (r : Nat) (text : ByteArray) (nb : Option Nat) (t : Rf.Tok) (l : List Rf.Tok) (ns : List ByteArray) (h : Pr w r text nb (t :: l) ns) (h0 : t.k ≠ 0) (h63 : t.k ≠ 63) :
  Calls Tryz.prog 46 #[.pointer (some ⟨r, 0, none⟩)] w fun x w' => x = .returned (.tuple #[]) /\ Pr w' r text nb l ns /\ Kept (fun k => k = r) w w' := by
 obtain ⟨K, f, toE, C, vN, hB, ht, hr, he, hs, hrow, hnb, hr', h16⟩ := h.toks
 obtain ⟨⟨hl, hfit⟩, _⟩ := hr h0 h63
 have hto : toE = ((t.at_ + t.s.size : Nat) : Int) := by rw [ht.2.2.2 h63]; omega
 subst hto
 refine (step_raw w r text K f C _ vN hB hs hfit).mono ?_
 rintro x w' ⟨K', f', to', C', rfl, hB', ht', hK⟩
 refine ⟨rfl, ?_, hK⟩
 rw [hl]
 exact Pr.mk' hB' ht' hfit hs (hrow.keptBy hK (fun k e x => hr' (by rw [<- hnb, e, x]))) hnb hr' h16
theorem step_end (w : World) (r : Nat) (text : ByteArray) (nb : Option Nat) (t : Rf.Tok) (l : List Rf.Tok) (ns : List ByteArray) (h : Pr w r text nb (t :: l) ns) (h0 : t.k = 0) :
  Calls Tryz.prog 46 #[.pointer (some ⟨r, 0, none⟩)] w fun x w' => x = .returned (.tuple #[]) /\ (∃ l', Pr w' r text nb l' ns) /\ Kept (fun k => k = r) w w' := by
 obtain ⟨K, f, toE, C, vN, hB, ⟨t', l', hl, ht, _, hfin⟩, he, hs, hrow, hnb, hr', h16⟩ := h.ex
 obtain ⟨rfl, rfl⟩ : t = t' /\ l = l' := by injection hl with h1 h2; exact ⟨h1, h2⟩
 have hfit := hfin h0
 have hto : toE = ((t.at_ + t.s.size : Nat) : Int) := by rw [ht.2.2.2 (by omega)]; omega
 subst hto
 refine (step_raw w r text K f C _ vN hB hs hfit).mono ?_
 rintro x w' ⟨K', f', to', C', rfl, hB', ht', hK⟩
 exact ⟨rfl, ⟨_, Pr.mk' hB' ht' hfit hs (hrow.keptBy hK (fun k e x => hr' (by rw [<- hnb, e, x]))) hnb hr' h16⟩, hK⟩
theorem Pr.text {w : World} {r : Nat} {text : ByteArray} {nb : Option Nat} {t : Rf.Tok} {l : List Rf.Tok} {ns : List ByteArray} (h : Pr w r text nb (t :: l) ns) (h0 : t.k ≠ 0) (h63 : t.k ≠ 63) :
  ∃ K C vN, PrB w r text K t.at_ (t.at_ + t.s.size : Nat) C vN 0 0 /\ text.size <= 400 /\ t.at_ + t.s.size <= text.size /\ t.at_ < text.size /\ text.extract t.at_ (t.at_ + t.s.size) = t.s /\ t = Rf.tokenAt text t.at_ := by
 obtain ⟨K, f, toE, C, vN, hB, ht, hr, he, hs, hrow, hnb, hr', h16⟩ := h.toks
 obtain ⟨⟨_, hfit⟩, hlt, htok⟩ := hr h0 h63
 have hto : toE = ((t.at_ + t.s.size : Nat) : Int) := by rw [ht.2.2.2 h63]; omega
 have hf : f = t.at_ := ht.2.1
 subst hto; subst hf
 refine ⟨K, C, vN, hB, hs, hfit, hlt, ?_, htok⟩
 have := Rf.tokenAt_text text t.at_ hlt (by rw [<- htok]; exact h63)
 rwa [<- htok] at this
def cvCap (w : World) (s : ByteArray) : Nat := grownCap w s.size 0 5
def cvObj (w : World) (s : ByteArray) : Obj := .cells (bytesRow s (cvCap w s)) 5 ((bytesRow s (cvCap w s)).size, (bytesRow s (cvCap w s)).size + 1)
theorem cv_there (w : World) (s : ByteArray) : (convert 9 47 (.string s)).run Tryz.prog w = .ok (.slice (some ⟨w.heap.size, 0, none⟩) s.size (cvCap w s)) (w.drew.alloc (cvObj w s)) :=
 run_bytes_of_string w _ _ _ s Tryz.underlying9 Tryz.underlying47 Tryz.underlying5
theorem cv_back (w w0 : World) (s : ByteArray) (N c : Nat) (hN : w.heap[N]? = some (cvObj w0 s)) : (convert 47 9 (.slice (some ⟨N, 0, none⟩) s.size c)).run Tryz.prog w = .ok (.string s) w := by
 have h := run_convert_bytes_back (P := Tryz.prog) w 47 9 5 ⟨N, 0, none⟩ c s.data.toList Tryz.underlying47 Tryz.underlying5 Tryz.underlying9 ?_
 ·simpa using h
 ·intro j hj
  have hj' : j < s.size := by simpa using hj
  rw [Addr.add_lit, Nat.zero_add]
  unfold cvObj at hN
  simp only [World.cell?, hN]
  show (bytesRow s (cvCap w0 s))[j]? = _
  unfold bytesRow
  rw [Array.getElem?_append_left (by simpa using hj')]
  rw [Array.getElem?_map, Array.getElem?_eq_getElem (by simpa using hj')]
  simp
set_option maxHeartbeats 1000000 in
set_option maxRecDepth 100000 in
theorem word_any (w : World) (r : Nat) (text : ByteArray) (nb : Option Nat) (t : Rf.Tok) (l : List Rf.Tok) (ns : List ByteArray) (h : Pr w r text nb (t :: l) ns) (h0 : t.k ≠ 0) (h63 : t.k ≠ 63) :
  Calls Tryz.prog 107 #[.pointer (some ⟨r, 0, none⟩)] w fun x w' => x = .returned (.string t.s) /\ Below w.heap.size w w' := by
 obtain ⟨K, C, vN, hB, hs, hfit, hlt, htx, _⟩ := h.text h0 h63
 obtain ⟨q0, q1, q2, q3, q4, q5, q6, q7, qf, ql⟩ := hB.facts
 clear hB h h0 h63
 generalize hb : t.at_ + t.s.size = b at *
 have hab : t.at_ <= b := by omega
 clear hb
 generalize t.at_ = a at *
 generalize hX : t.s = X at *
 have HX : Hid _ := htx
 clear htx hX
 have k1 := cv_there
 have hba : (text.extract a b).size = b - a := by rw [ByteArray.size_extract]; omega
 have k2 : ∀ (w w0 : World) (c : Nat), (convert 47 9 (.slice (some ⟨w.heap.size, 0, none⟩) (b - a) c)).run Tryz.prog (w.alloc (cvObj w0 (text.extract a b))).drew.drew = .ok (.string X) (w.alloc (cvObj w0 (text.extract a b))).drew.drew := by
  intro w w0 c
  have := cv_back (w.alloc (cvObj w0 (text.extract a b))).drew.drew w0 (text.extract a b) w.heap.size c (blk_new _ _)
  rw [hba] at this
  rw [this, HX.out]
 clear hba
 go_enter Tryz.func107, Tryz.ntmps107
 go_wp2
 go_region
 all_goals
  go_wp2
  go_ret
  exact ⟨rfl, (by repeat(first|exact bl0 _ _|refine bl1 ?_ (by simp<;>omega) _|refine bl2 ?_|refine bl3 ?_ _|refine bl4 ?_ (by simp<;>omega) _))⟩
set_option maxHeartbeats 1000000 in
theorem value_any (w : World) (r : Nat) (text : ByteArray) (nb : Option Nat) (t : Rf.Tok) (l : List Rf.Tok) (ns : List ByteArray) (h : Pr w r text nb (t :: l) ns) (hk : t.k = 110) :
  Calls Tryz.prog 108 #[.pointer (some ⟨r, 0, none⟩)] w fun x w' => x = .returned (.int .i64 (Rf.numVal t.s)) /\ Below w.heap.size w w' := by
 obtain ⟨K, C, vN, hB, hs, hfit, hlt, htx, htok⟩ := h.text (by omega) (by omega)
 obtain ⟨q0, q1, q2, q3, q4, q5, q6, q7, qf, ql⟩ := hB.facts
 have hV : Hid (Rf.numVal t.s = Rf.signV (text[t.at_].toNat : Int) (Rf.vOf t.s.data.toList)) := by
  have h9 := Rf.numVal_tok text t.at_ (by rw [<- htok]; exact hk)
  rw [<- htok] at h9
  unfold Hid
  rw [h9, <- Rf.byteAt_eq text t.at_ hlt]
 have hsz : t.s.size <= 10 := (h.ended.fine.1 hk).1
 have hby : ∀ j, (hj : j < t.s.data.toList.length) -> ∃ h' : t.at_ + j < text.size, t.s.data.toList[j] = text[t.at_ + j] := by
  intro j hj
  have hj' : j < t.s.size := by simpa using hj
  refine ⟨by omega, ?_⟩
  have := congrArg (fun b : ByteArray => b.data.toList[j]?) htx
  simp only [Rf.extract_list] at this
  rw [List.getElem?_eq_getElem hj, List.getElem?_take, if_pos (by omega), List.getElem?_drop, List.getElem?_eq_getElem (by simp; omega)] at this
  exact (Option.some.inj this).symm
 have hlen : t.s.data.toList.length = t.s.size := by simp
 generalize hL : t.s.data.toList = L at *
 have HB : Hid _ := hby
 clear htx hB h hby htok hL
 go_enter Tryz.func108, Tryz.ntmps108
 go_wp2_with fail
 go_loop [3, 4] (fun v i => ∃ j : Nat, j <= t.s.size /\ i = .int .i64 ((t.at_ : Int) + j) /\ v = .int .i64 (Rf.vOf (L.take j))) (fun _ i => t.at_ + t.s.size - (intOf i).toNat)
 case atStart => exact ⟨0, by omega, by go_num, rfl⟩
 case round =>
  obtain ⟨j, hj, rfl, rfl⟩ := hrel
  have hbd : Rf.vOf (L.take j) + 1 <= 10 ^ 10 := Rf.vOf_bd _ 10 (by simp; omega)
  by_cases hlt2 : j < t.s.size
  ·obtain ⟨hx, hc⟩ := HB.out j (by omega)
   have hS : Hid _ := Rf.vOf_succ L j (by omega)
   rw [hc] at hS
   clear hc
   have hdig : Rf.digitB (text[t.at_ + j].toNat : Int) = true -> 48 <= (text[t.at_ + j].toNat : Int) /\ (text[t.at_ + j].toNat : Int) <= 57 := by unfold Rf.digitB; simp
   have hidx : ((t.at_ : Int) + (j : Int)).toNat = t.at_ + j := by omega
   cases hd : Rf.digitB (text[t.at_ + j].toNat : Int)
   ·have hS2 : Hid (Rf.vOf (L.take (j + 1)) = Rf.vOf (L.take j)) := by have := hS.out; unfold Rf.digAdd at this; rw [if_neg (by rw [hd]; decide)] at this; exact this
    go_wp2_with (first | (go_at_call 83; refine (isDigit_any _ _).mono ?_; rintro e w1 ⟨rfl, rfl⟩))
    go_round
    case rel => exact ⟨j + 1, by omega, by go_num, by rw [hS2.out]⟩
    case measure => simp [intOf]; omega
   ·have hS2 : Hid (Rf.vOf (L.take (j + 1)) = Rf.vOf (L.take j) * 10 + (text[t.at_ + j].toNat - 48)) := by have := hS.out; unfold Rf.digAdd at this; rw [if_pos hd] at this; exact this
    obtain ⟨hd1, hd2⟩ := hdig hd
    go_wp2_with (first | (go_at_call 83; refine (isDigit_any _ _).mono ?_; rintro e w1 ⟨rfl, rfl⟩))
    go_round
    case rel => exact ⟨j + 1, by omega, by go_num, by rw [hS2.out]; congr 1; omega⟩
    case measure => simp [intOf]; omega
  ·have hje : j = t.s.size := by omega
   subst hje
   have hte : L.take t.s.size = L := List.take_of_length_le (by omega)
   cases hneg : ((text[t.at_].toNat : Int) == 45)
   ·have hV2 : Hid (Rf.numVal t.s = (Rf.vOf (L.take t.s.size) : Int)) := by rw [hte]; unfold Hid; rw [hV.out]; unfold Rf.signV; rw [if_neg (beq_eq_false_iff_ne.1 hneg)]
    clear hV hte
    go_wp2
    go_quiet (fail)
    go_wp2
    go_ret
    exact ⟨ret_int hV2.out.symm, (by repeat(first|exact bl0 _ _|refine bl1 ?_ (by simp<;>omega) _|refine bl2 ?_|refine bl3 ?_ _|refine bl4 ?_ (by simp<;>omega) _))⟩
   ·have hV2 : Hid (Rf.numVal t.s = -(Rf.vOf (L.take t.s.size) : Int)) := by rw [hte]; unfold Hid; rw [hV.out]; unfold Rf.signV; rw [if_pos (eq_of_beq hneg)]
    clear hV hte
    go_wp2
    go_quiet (fail)
    go_wp2
    go_ret
    exact ⟨ret_int hV2.out.symm, (by repeat(first|exact bl0 _ _|refine bl1 ?_ (by simp<;>omega) _|refine bl2 ?_|refine bl3 ?_ _|refine bl4 ?_ (by simp<;>omega) _))⟩
end Go.Proofs.YtbiojnljihgpoaaGreatDoor
namespace Rf
theorem wordL_long {most : Nat} {r : Rdr} (h : (numL most r).2.rest.length < (numL most r).1) : wordL most r = (⟨#[]⟩, refuse) := by unfold wordL; rw [if_pos h]
theorem wordL_fits {most : Nat} {r : Rdr} (h : ¬ (numL most r).2.rest.length < (numL most r).1) : wordL most r = (⟨((numL most r).2.rest.take (numL most r).1).toArray⟩, ⟨(numL most r).2.rest.drop (numL most r).1, (numL most r).2.wrong⟩) := by unfold wordL; rw [if_neg h]
end Rf
namespace Go.Proofs.YtbiojnljihgpoaaGreatDoor
open Go.RowKit
set_option maxHeartbeats 2000000 in
set_option maxRecDepth 100000 in
theorem pwordL_any (w : World) (b : Nat) (r : Rf.Rdr) (most : Nat) (h : RdB w b r) (hr : Rf.RdrOk r) (hm : most <= 4000000000) :
  Calls Tryz.prog 56 #[.pointer (some ⟨b, 0, none⟩), .int .i64 most] w fun x w' => x = .returned (.string (Rf.wordL most r).1) /\ RdB w' b (Rf.wordL most r).2 /\ Kept (fun k => k = b) w w' := by
 have HR : Hid _ := h
 have HO : Hid (Rf.RdrOk r) := hr
 clear h hr
 have hnm := Rf.numL_le most r
 obtain ⟨n, hn⟩ : ∃ n, Hid (n = (Rf.numL most r).1) := ⟨_, rfl⟩
 obtain ⟨R, hR⟩ : ∃ R, Hid (R = (Rf.numL most r).2) := ⟨_, rfl⟩
 rw [<- hn.out] at hnm
 obtain ⟨S, hS⟩ : ∃ S, Hid (S = strOf R.rest) := ⟨_, rfl⟩
 have hSl : S.size = R.rest.length := by rw [hS.out, strOf_size]
 by_cases c1 : R.rest.length < n
 ·have hW : Hid (Rf.wordL most r = (⟨#[]⟩, Rf.refuse)) := Rf.wordL_long (by rw [<- hR.out, <- hn.out]; exact c1)
  have c1i : (S.size : Int) < n := by omega
  clear hSl
  go_enter Tryz.func56, Tryz.ntmps56
  go_wp2_with (first
   | (go_at_call 57; refine (prefuse_any _ b _ hR1).mono ?_; rintro x w2 ⟨rfl, hR2, hk2⟩)
   | (go_at_call 40; refine (pnumL_any _ b r most HR.out HO.out (by omega)).mono ?_; rintro x w1 ⟨hx1, hR1, hk1⟩; rw [<- hn.out] at hx1; subst hx1; rw [<- hR.out] at hR1; obtain ⟨q0, q1, qf, ql⟩ := hR1.facts; rw [<- hS.out] at q0))
  go_ret
  rw [hW.out]
  exact ⟨rfl, hR2, hk1.trans hk2 (fun _ _ e => e)⟩
 ·have hW : Hid (Rf.wordL most r = (strOf (R.rest.take n), ⟨R.rest.drop n, R.wrong⟩)) := by
   have := Rf.wordL_fits (most := most) (r := r) (by rw [<- hR.out, <- hn.out]; exact c1)
   rw [<- hR.out, <- hn.out] at this
   exact this
  have c1i : ¬ ((S.size : Int) < n) := by omega
  have c1j : (n : Int) <= S.size := by omega
  obtain ⟨X, hX⟩ : ∃ X, Hid (X = strOf (R.rest.take n)) := ⟨_, rfl⟩
  have hcut : S.extract 0 n = X := by rw [hX.out, hS.out, cut_str, bs_strOf, List.drop_zero, Nat.sub_zero]
  have hcut2 : S.extract n S.size = strOf (R.rest.drop n) := by
   rw [cut_str, hS.out, bs_strOf, strOf_size, List.take_of_length_le]
   rw [List.length_drop]; exact Nat.le_refl _
  clear hSl
  have k1 := cv_there
  have k2 : ∀ (w w0 : World) (c : Nat), (convert 47 9 (.slice (some ⟨w.heap.size, 0, none⟩) X.size c)).run Tryz.prog (w.alloc (cvObj w0 X)).drew = .ok (.string X) (w.alloc (cvObj w0 X)).drew := fun w w0 c => cv_back _ w0 X w.heap.size c (blk_new w _)
  go_enter Tryz.func56, Tryz.ntmps56
  go_wp2_with (go_at_call 40; refine (pnumL_any _ b r most HR.out HO.out (by omega)).mono ?_; rintro x w1 ⟨hx1, hR1, hk1⟩; rw [<- hn.out] at hx1; subst hx1; rw [<- hR.out] at hR1; obtain ⟨q0, q1, qf, ql⟩ := hR1.facts; rw [<- hS.out] at q0; have HR1 : Hid _ := hR1)
  go_ret
  rw [hW.out]
  refine ⟨ret_str hX.out, ?_, ?_⟩
  ·exact RdB.below (RdB.rest (r := R) hR1 _) (by repeat(first|exact bl0 _ _|refine bl1 ?_ (by simp<;>omega) _|refine bl2 ?_|refine bl3 ?_ _|refine bl4 ?_ (by simp<;>omega) _))
  ·exact hk1.trans (M' := fun k => k = b) (by repeat'(first|exact kep0 _ _|refine kep1 ?_ ?_ _|refine kep2 ?_|refine kep3 ?_ _|refine kep4 ?_ _|exact Or.inr rfl|exact Or.inr (Or.inl rfl)|(refine Or.inl ?_;simp;done)|(refine Or.inl ?_;simp;omega))) (fun _ _ e => e)
end Go.Proofs.YtbiojnljihgpoaaGreatDoor
