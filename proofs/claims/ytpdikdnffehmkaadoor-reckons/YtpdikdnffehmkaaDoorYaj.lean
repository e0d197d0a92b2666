/- What the program's scanner (read: scan) does: it finds the plain function's next token. -/
import Derived.Test.YtpdikdnffehmkaaDoorYai
import Derived.Test.YtpdikdnffehmkaaDoorYab
import Derived.Deep.RegionWith
import Derived.Laws.IdiomStrings
namespace Rf
/-- What the program's four numbers tell of a token. -/
def TokIs (t : Tok) (K f to C : Int) : Prop := K = kindOf t.k ∧ f = t.at_ ∧ C = t.e ∧ (t.k ≠ 63 → to = (t.at_ : Int) + t.s.size)
theorem tokIs_word (s : ByteArray) (m : Nat) (K k : Int) (hk : kindOf k = K) (_h63 : k ≠ 63) (ht : tokenAt s m = wordTok m (byteAt s m) (runS s false m)) (hw : ∀ W : ByteArray, ¬ 12 < W.size → wordTok m (byteAt s m) W = ⟨k, m, W, 0⟩) :
    TokIs (tokenAt s m) (wordK (runLen s false m) K) m ((m : Int) + runLen s false m) (wordC (runLen s false m)) := by
  have hz := runS_size s false m
  unfold wordK wordC
  by_cases h : 12 < runLen s false m
  · have e : tokenAt s m = bad m 3 := by rw [ht]; unfold wordTok; rw [if_pos (by omega)]
    rw [e, if_pos h, if_pos h]
    exact ⟨rfl, rfl, rfl, fun x => absurd rfl x⟩
  · have e : tokenAt s m = ⟨k, m, runS s false m, 0⟩ := by rw [ht, hw _ (by omega)]
    rw [e, if_neg h, if_neg h]
    exact ⟨hk.symm, rfl, rfl, fun _ => by show (m : Int) + _ = (m : Int) + ((runS s false m).size : Int); rw [hz]⟩
theorem tokIs_num (s : ByteArray) (m : Nat) (neg : Bool) (d : Nat) (hd : d = m + (if neg then 1 else 0)) (ht : tokenAt s m = numTok m neg (runS s true d)) :
    TokIs (tokenAt s m) (numK (runLen s true d)) m ((d : Int) + runLen s true d) (numC (runLen s true d)) := by
  have hz := runS_size s true d
  unfold numK numC
  rcases (show runLen s true d = 0 ∨ (runLen s true d ≠ 0 ∧ 9 < runLen s true d) ∨ (runLen s true d ≠ 0 ∧ ¬ 9 < runLen s true d) by omega) with h | ⟨h, h9⟩ | ⟨h, h9⟩
  · have e : tokenAt s m = bad m 2 := by rw [ht]; unfold numTok; rw [if_pos (by omega)]
    rw [e, if_pos h, if_pos h]
    exact ⟨rfl, rfl, rfl, fun x => absurd rfl x⟩
  · have e : tokenAt s m = bad m 3 := by rw [ht]; unfold numTok; rw [if_neg (by omega), if_pos (by omega)]
    rw [e, if_neg h, if_neg h, if_pos h9, if_pos h9]
    exact ⟨rfl, rfl, rfl, fun x => absurd rfl x⟩
  · have e : tokenAt s m = ⟨110, m, if neg then ⟨#[45]⟩ ++ runS s true d else runS s true d, 0⟩ := by rw [ht]; unfold numTok; rw [if_neg (by omega), if_neg (by omega)]
    rw [e, if_neg h, if_neg h, if_neg h9, if_neg h9]
    refine ⟨rfl, rfl, rfl, fun _ => ?_⟩
    cases neg with
    | false => show (d : Int) + _ = (m : Int) + ((runS s true d).size : Int); simp at hd; omega
    | true => show (d : Int) + _ = (m : Int) + ((⟨#[45]⟩ ++ runS s true d : ByteArray).size : Int); rw [neg_size]; simp at hd; omega
theorem kind_mark (c : Int) (h : markB c = true) : kindOf c = markK c := by
  unfold markB at h
  simp at h
  rcases h with (((h | h) | h) | h) | h <;> subst h <;> rfl
theorem tokIs_mark (s : ByteArray) (m : Nat) (hm : m < s.size) (h45 : byteAt s m ≠ 45) (hd : digitB (byteAt s m) = false) (hl : letterB (byteAt s m) = false) (h58 : byteAt s m ≠ 58) :
    TokIs (tokenAt s m) (markK (byteAt s m)) m ((m : Int) + 1) (markC (byteAt s m)) := by
  unfold markC
  by_cases h : markB (byteAt s m) = true
  · have e : tokenAt s m = ⟨byteAt s m, m, s.extract m (m + 1), 0⟩ := by unfold tokenAt; rw [if_neg h45, if_neg (by simp [hd]), if_neg (by simp [hl]), if_pos h]
    rw [e, if_pos h]
    refine ⟨(kind_mark _ h).symm, rfl, rfl, fun _ => ?_⟩
    show (m : Int) + 1 = (m : Int) + ((s.extract m (m + 1)).size : Int)
    rw [ByteArray.size_extract]; omega
  · have e : tokenAt s m = bad m 2 := by unfold tokenAt; rw [if_neg h45, if_neg (by simp [hd]), if_neg (by simp [hl]), if_neg h, if_neg (fun x => h58 x.1)]
    have hk : markK (byteAt s m) = 1 := by
      unfold markB at h
      simp at h
      unfold markK
      rw [if_neg (by omega), if_neg (by omega), if_neg (by omega), if_neg (by omega), if_neg (by omega)]
    rw [e, if_neg h, hk]
    exact ⟨rfl, rfl, rfl, fun x => absurd rfl x⟩
theorem tokIs_fol (s : ByteArray) (m : Nat) (h58 : byteAt s m = 58) : TokIs (tokenAt s m) (folK s m) m (folT s m) (folC s m) := by
  have hd : digitB (byteAt s m) = false := by rw [h58]; decide
  have hl : letterB (byteAt s m) = false := by rw [h58]; decide
  have hk : markB (byteAt s m) = false := by rw [h58]; decide
  unfold folK folT folC
  by_cases h : m + 1 < s.size ∧ byteAt s (m + 1) = 45
  · have e : tokenAt s m = ⟨58, m, ⟨#[58, 45]⟩, 0⟩ := by unfold tokenAt; rw [if_neg (by omega), if_neg (by simp [hd]), if_neg (by simp [hl]), if_neg (by simp [hk]), if_pos ⟨h58, h⟩]
    rw [e, if_pos h, if_pos h, if_pos h]
    exact ⟨rfl, rfl, rfl, fun _ => rfl⟩
  · have e : tokenAt s m = bad m 2 := by unfold tokenAt; rw [if_neg (by omega), if_neg (by simp [hd]), if_neg (by simp [hl]), if_neg (by simp [hk]), if_neg (fun x => h x.2)]
    rw [e, if_neg h, if_neg h, if_neg h]
    exact ⟨rfl, rfl, rfl, fun x => absurd rfl x⟩
end Rf
namespace Go.Proofs.YtpdikdnffehmkaaDoor
open Go.RowKit
def ScanPost (s : ByteArray) (n : Nat) (w : World) (r : Ending) (w' : World) : Prop :=
  ∃ K f to C : Int, r = .returned (.agg #[.int .i64 K, .int .i64 f, .int .i64 to, .int .i64 C]) ∧ Rf.TokIs (Rf.nextTok s n) K f to C ∧ Below w.heap.size w w'
set_option maxHeartbeats 1000000 in
theorem scan_end (s : ByteArray) (n : Nat) (w : World) (hs : s.size ≤ 400) (hn : n ≤ s.size) (hm : s.size ≤ n + Rf.skipLen s n) :
    Calls Tryd.prog 32 #[.string s, .int .i64 n] w fun r w' => ScanPost s n w r w' := by
  have hle := Rf.skipLen_le s n
  have hT : Hid (Rf.nextTok s n = Rf.endTok s) := by unfold Hid Rf.nextTok; rw [if_neg (by omega)]
  generalize hM : n + Rf.skipLen s n = m at *
  have HM : Hid _ := hM
  clear hM
  go_enter Tryd.func32, Tryd.ntmps32
  go_wp2_with (go_at_call 46; refine (pastBlanks_any s n _ hs hn).mono ?_; rintro e w1 ⟨rfl, rfl⟩; rw [HM.out])
  refine bodyPost_ret (v := .agg #[.int .i64 0, .int .i64 s.size, .int .i64 s.size, .int .i64 0]) (by simp [results, Tryd.results32, go_sem]) rfl ⟨0, s.size, s.size, 0, rfl, ?_, (Below.refl _ _).alloc (Nat.le_refl _) _⟩
  rw [hT.out]
  exact ⟨rfl, rfl, rfl, fun _ => by show (s.size : Int) = (s.size : Int) + 0; omega⟩
end Go.Proofs.YtpdikdnffehmkaaDoor
/- What the program's scanner (read: scan) does at every place of a text. -/
namespace Go.Proofs.YtpdikdnffehmkaaDoor
open Go.RowKit
set_option maxHeartbeats 1000000 in
theorem scan_small (s : ByteArray) (n m : Nat) (w : World) (hs : s.size ≤ 400) (hn : n ≤ s.size) (hM : n + Rf.skipLen s n = m) (hm : m < s.size) (h1 : Rf.smallB (s[m].toNat : Int) = true) :
    Calls Tryd.prog 32 #[.string s, .int .i64 n] w fun r w' => ScanPost s n w r w' := by
  have hb := Rf.byteAt_eq s m hm
  have hT : Hid (Rf.nextTok s n = Rf.tokenAt s m) := by unfold Hid Rf.nextTok; rw [hM, if_pos hm]
  have hK : Hid (Rf.TokIs (Rf.tokenAt s m) (Rf.wordK (Rf.runLen s false m) 2) m ((m : Int) + Rf.runLen s false m) (Rf.wordC (Rf.runLen s false m))) := by
    have h1' := h1
    rw [hb] at h1'
    unfold Rf.smallB at h1'
    simp at h1'
    have hl : Rf.letterB (Rf.byteAt s m) = true := by unfold Rf.letterB; simp; omega
    have hd : Rf.digitB (Rf.byteAt s m) = false := by unfold Rf.digitB; simp; omega
    exact Rf.tokIs_word s m 2 97 rfl (by decide) (by unfold Rf.tokenAt; rw [if_neg (by omega), if_neg (by simp [hd]), if_pos hl]) (fun W h => by unfold Rf.wordTok; rw [if_neg h, if_pos h1'])
  have HM : Hid _ := hM
  clear hM hb
  go_enter Tryd.func32, Tryd.ntmps32
  go_wp2_with (first
    | (go_at_call 46; refine (pastBlanks_any s n _ hs hn).mono ?_; rintro e w1 ⟨rfl, rfl⟩; rw [HM.out])
    | (go_at_call 47; refine (isSmall_any _ _).mono ?_; rintro e w1 ⟨rfl, rfl⟩)
    | (go_at_call 49; refine (isGreat_any _ _).mono ?_; rintro e w1 ⟨rfl, rfl⟩)
    | (go_at_call 50; refine (isDigit_any _ _).mono ?_; rintro e w1 ⟨rfl, rfl⟩)
    | (go_at_call 48; refine (scanWord_any s m 2 _ hs (by omega)).mono ?_; rintro e w2 ⟨rfl, hb2⟩; have hG2 := (hb2.block w.heap.size (by simp)).trans (blk_new _ _); have g0 : w2.cell? ⟨w.heap.size, 0, none⟩ = some (.int .i64 0) := blk_cell hG2 0; have g1 : w2.cell? ⟨w.heap.size, 1, none⟩ = some (.int .i64 0) := blk_cell hG2 1; have g2 : w2.cell? ⟨w.heap.size, 2, none⟩ = some (.int .i64 0) := blk_cell hG2 2; have g3 : w2.cell? ⟨w.heap.size, 3, none⟩ = some (.int .i64 0) := blk_cell hG2 3; have gf := blk_frozen hG2))
  refine bodyPost_ret (v := .agg #[.int .i64 (Rf.wordK (Rf.runLen s false m) 2), .int .i64 m, .int .i64 ((m : Int) + Rf.runLen s false m), .int .i64 (Rf.wordC (Rf.runLen s false m))]) (by simp [results, Tryd.results32, go_sem, *]) rfl ⟨_, _, _, _, rfl, ?_, ?_⟩
  · rw [hT.out]; exact hK.out
  · exact (((((((Below.refl _ w).alloc (Nat.le_refl _) _).trans (hb2.mono (by simp))).setCell (p := ⟨w.heap.size, 0, none⟩) (Nat.le_refl _) _).setCell (p := ⟨w.heap.size, 1, none⟩) (Nat.le_refl _) _).setCell (p := ⟨w.heap.size, 2, none⟩) (Nat.le_refl _) _).setCell (p := ⟨w.heap.size, 3, none⟩) (Nat.le_refl _) _)
set_option maxHeartbeats 1000000 in
theorem scan_great (s : ByteArray) (n m : Nat) (w : World) (hs : s.size ≤ 400) (hn : n ≤ s.size) (hM : n + Rf.skipLen s n = m) (hm : m < s.size) (h1 : Rf.smallB (s[m].toNat : Int) = false) (h2 : Rf.greatB (s[m].toNat : Int) = true) :
    Calls Tryd.prog 32 #[.string s, .int .i64 n] w fun r w' => ScanPost s n w r w' := by
  have hb := Rf.byteAt_eq s m hm
  have hT : Hid (Rf.nextTok s n = Rf.tokenAt s m) := by unfold Hid Rf.nextTok; rw [hM, if_pos hm]
  have hK : Hid (Rf.TokIs (Rf.tokenAt s m) (Rf.wordK (Rf.runLen s false m) 3) m ((m : Int) + Rf.runLen s false m) (Rf.wordC (Rf.runLen s false m))) := by
    have h1' := h2
    rw [hb] at h1'
    unfold Rf.greatB at h1'
    simp at h1'
    have hl : Rf.letterB (Rf.byteAt s m) = true := by unfold Rf.letterB; simp; omega
    have hd : Rf.digitB (Rf.byteAt s m) = false := by unfold Rf.digitB; simp; omega
    exact Rf.tokIs_word s m 3 118 rfl (by decide) (by unfold Rf.tokenAt; rw [if_neg (by omega), if_neg (by simp [hd]), if_pos hl]) (fun W h => by unfold Rf.wordTok; rw [if_neg h, if_neg (by omega)])
  have HM : Hid _ := hM
  clear hM hb
  go_enter Tryd.func32, Tryd.ntmps32
  go_wp2_with (first
    | (go_at_call 46; refine (pastBlanks_any s n _ hs hn).mono ?_; rintro e w1 ⟨rfl, rfl⟩; rw [HM.out])
    | (go_at_call 47; refine (isSmall_any _ _).mono ?_; rintro e w1 ⟨rfl, rfl⟩)
    | (go_at_call 49; refine (isGreat_any _ _).mono ?_; rintro e w1 ⟨rfl, rfl⟩)
    | (go_at_call 50; refine (isDigit_any _ _).mono ?_; rintro e w1 ⟨rfl, rfl⟩)
    | (go_at_call 48; refine (scanWord_any s m 3 _ hs (by omega)).mono ?_; rintro e w2 ⟨rfl, hb2⟩; have hG2 := (hb2.block w.heap.size (by simp)).trans (blk_new _ _); have g0 : w2.cell? ⟨w.heap.size, 0, none⟩ = some (.int .i64 0) := blk_cell hG2 0; have g1 : w2.cell? ⟨w.heap.size, 1, none⟩ = some (.int .i64 0) := blk_cell hG2 1; have g2 : w2.cell? ⟨w.heap.size, 2, none⟩ = some (.int .i64 0) := blk_cell hG2 2; have g3 : w2.cell? ⟨w.heap.size, 3, none⟩ = some (.int .i64 0) := blk_cell hG2 3; have gf := blk_frozen hG2))
  refine bodyPost_ret (v := .agg #[.int .i64 (Rf.wordK (Rf.runLen s false m) 3), .int .i64 m, .int .i64 ((m : Int) + Rf.runLen s false m), .int .i64 (Rf.wordC (Rf.runLen s false m))]) (by simp [results, Tryd.results32, go_sem, *]) rfl ⟨_, _, _, _, rfl, ?_, ?_⟩
  · rw [hT.out]; exact hK.out
  · exact (((((((Below.refl _ w).alloc (Nat.le_refl _) _).trans (hb2.mono (by simp))).setCell (p := ⟨w.heap.size, 0, none⟩) (Nat.le_refl _) _).setCell (p := ⟨w.heap.size, 1, none⟩) (Nat.le_refl _) _).setCell (p := ⟨w.heap.size, 2, none⟩) (Nat.le_refl _) _).setCell (p := ⟨w.heap.size, 3, none⟩) (Nat.le_refl _) _)
set_option maxHeartbeats 1000000 in
theorem scan_under (s : ByteArray) (n m : Nat) (w : World) (hs : s.size ≤ 400) (hn : n ≤ s.size) (hM : n + Rf.skipLen s n = m) (hm : m < s.size) (h1 : Rf.smallB (s[m].toNat : Int) = false) (h2 : Rf.greatB (s[m].toNat : Int) = false) (h3 : ((s[m].toNat : Int) == 95) = true) :
    Calls Tryd.prog 32 #[.string s, .int .i64 n] w fun r w' => ScanPost s n w r w' := by
  have hb := Rf.byteAt_eq s m hm
  have hT : Hid (Rf.nextTok s n = Rf.tokenAt s m) := by unfold Hid Rf.nextTok; rw [hM, if_pos hm]
  have hK : Hid (Rf.TokIs (Rf.tokenAt s m) (Rf.wordK (Rf.runLen s false m) 3) m ((m : Int) + Rf.runLen s false m) (Rf.wordC (Rf.runLen s false m))) := by
    have h1' : Rf.byteAt s m = 95 := by rw [← hb]; exact eq_of_beq h3
    have hl : Rf.letterB (Rf.byteAt s m) = true := by rw [h1']; decide
    have hd : Rf.digitB (Rf.byteAt s m) = false := by rw [h1']; decide
    exact Rf.tokIs_word s m 3 118 rfl (by decide) (by unfold Rf.tokenAt; rw [if_neg (by omega), if_neg (by simp [hd]), if_pos hl]) (fun W h => by unfold Rf.wordTok; rw [if_neg h, if_neg (by omega)])
  have HM : Hid _ := hM
  clear hM hb
  go_enter Tryd.func32, Tryd.ntmps32
  go_wp2_with (first
    | (go_at_call 46; refine (pastBlanks_any s n _ hs hn).mono ?_; rintro e w1 ⟨rfl, rfl⟩; rw [HM.out])
    | (go_at_call 47; refine (isSmall_any _ _).mono ?_; rintro e w1 ⟨rfl, rfl⟩)
    | (go_at_call 49; refine (isGreat_any _ _).mono ?_; rintro e w1 ⟨rfl, rfl⟩)
    | (go_at_call 50; refine (isDigit_any _ _).mono ?_; rintro e w1 ⟨rfl, rfl⟩)
    | (go_at_call 48; refine (scanWord_any s m 3 _ hs (by omega)).mono ?_; rintro e w2 ⟨rfl, hb2⟩; have hG2 := (hb2.block w.heap.size (by simp)).trans (blk_new _ _); have g0 : w2.cell? ⟨w.heap.size, 0, none⟩ = some (.int .i64 0) := blk_cell hG2 0; have g1 : w2.cell? ⟨w.heap.size, 1, none⟩ = some (.int .i64 0) := blk_cell hG2 1; have g2 : w2.cell? ⟨w.heap.size, 2, none⟩ = some (.int .i64 0) := blk_cell hG2 2; have g3 : w2.cell? ⟨w.heap.size, 3, none⟩ = some (.int .i64 0) := blk_cell hG2 3; have gf := blk_frozen hG2))
  refine bodyPost_ret (v := .agg #[.int .i64 (Rf.wordK (Rf.runLen s false m) 3), .int .i64 m, .int .i64 ((m : Int) + Rf.runLen s false m), .int .i64 (Rf.wordC (Rf.runLen s false m))]) (by simp [results, Tryd.results32, go_sem, *]) rfl ⟨_, _, _, _, rfl, ?_, ?_⟩
  · rw [hT.out]; exact hK.out
  · exact (((((((Below.refl _ w).alloc (Nat.le_refl _) _).trans (hb2.mono (by simp))).setCell (p := ⟨w.heap.size, 0, none⟩) (Nat.le_refl _) _).setCell (p := ⟨w.heap.size, 1, none⟩) (Nat.le_refl _) _).setCell (p := ⟨w.heap.size, 2, none⟩) (Nat.le_refl _) _).setCell (p := ⟨w.heap.size, 3, none⟩) (Nat.le_refl _) _)
set_option maxHeartbeats 1000000 in
theorem scan_digit (s : ByteArray) (n m : Nat) (w : World) (hs : s.size ≤ 400) (hn : n ≤ s.size) (hM : n + Rf.skipLen s n = m) (hm : m < s.size) (h1 : Rf.smallB (s[m].toNat : Int) = false) (h2 : Rf.greatB (s[m].toNat : Int) = false) (h3 : ((s[m].toNat : Int) == 95) = false) (h4 : Rf.digitB (s[m].toNat : Int) = true) :
    Calls Tryd.prog 32 #[.string s, .int .i64 n] w fun r w' => ScanPost s n w r w' := by
  have hb := Rf.byteAt_eq s m hm
  have hT : Hid (Rf.nextTok s n = Rf.tokenAt s m) := by unfold Hid Rf.nextTok; rw [hM, if_pos hm]
  have h45 : ((s[m].toNat : Int) == 45) = false := by
    have h1' := h4
    unfold Rf.digitB at h1'
    simp at h1'
    rw [beq_eq_false_iff_ne]; omega
  have hK : Hid (Rf.TokIs (Rf.tokenAt s m) (Rf.numK (Rf.runLen s true m)) m ((m : Int) + Rf.runLen s true m) (Rf.numC (Rf.runLen s true m))) := by
    exact Rf.tokIs_num s m false m (by simp) (by unfold Rf.tokenAt; rw [← hb, if_neg (beq_eq_false_iff_ne.1 h45), if_pos h4])
  have HM : Hid _ := hM
  clear hM hb
  go_enter Tryd.func32, Tryd.ntmps32
  go_wp2_with (first
    | (go_at_call 46; refine (pastBlanks_any s n _ hs hn).mono ?_; rintro e w1 ⟨rfl, rfl⟩; rw [HM.out])
    | (go_at_call 47; refine (isSmall_any _ _).mono ?_; rintro e w1 ⟨rfl, rfl⟩)
    | (go_at_call 49; refine (isGreat_any _ _).mono ?_; rintro e w1 ⟨rfl, rfl⟩)
    | (go_at_call 50; refine (isDigit_any _ _).mono ?_; rintro e w1 ⟨rfl, rfl⟩)
    | (go_at_call 51; refine (scanNumber_pos s m _ hs hm h45).mono ?_; rintro e w2 ⟨rfl, hb2⟩; have hG2 := (hb2.block w.heap.size (by simp)).trans (blk_new _ _); have g0 : w2.cell? ⟨w.heap.size, 0, none⟩ = some (.int .i64 0) := blk_cell hG2 0; have g1 : w2.cell? ⟨w.heap.size, 1, none⟩ = some (.int .i64 0) := blk_cell hG2 1; have g2 : w2.cell? ⟨w.heap.size, 2, none⟩ = some (.int .i64 0) := blk_cell hG2 2; have g3 : w2.cell? ⟨w.heap.size, 3, none⟩ = some (.int .i64 0) := blk_cell hG2 3; have gf := blk_frozen hG2))
  refine bodyPost_ret (v := .agg #[.int .i64 (Rf.numK (Rf.runLen s true m)), .int .i64 m, .int .i64 ((m : Int) + Rf.runLen s true m), .int .i64 (Rf.numC (Rf.runLen s true m))]) (by simp [results, Tryd.results32, go_sem, *]) rfl ⟨_, _, _, _, rfl, ?_, ?_⟩
  · rw [hT.out]; exact hK.out
  · exact (((((((Below.refl _ w).alloc (Nat.le_refl _) _).trans (hb2.mono (by simp))).setCell (p := ⟨w.heap.size, 0, none⟩) (Nat.le_refl _) _).setCell (p := ⟨w.heap.size, 1, none⟩) (Nat.le_refl _) _).setCell (p := ⟨w.heap.size, 2, none⟩) (Nat.le_refl _) _).setCell (p := ⟨w.heap.size, 3, none⟩) (Nat.le_refl _) _)
set_option maxHeartbeats 1000000 in
theorem scan_neg (s : ByteArray) (n m : Nat) (w : World) (hs : s.size ≤ 400) (hn : n ≤ s.size) (hM : n + Rf.skipLen s n = m) (hm : m < s.size) (h1 : Rf.smallB (s[m].toNat : Int) = false) (h2 : Rf.greatB (s[m].toNat : Int) = false) (h3 : ((s[m].toNat : Int) == 95) = false) (h4 : Rf.digitB (s[m].toNat : Int) = false) (h45 : ((s[m].toNat : Int) == 45) = true) :
    Calls Tryd.prog 32 #[.string s, .int .i64 n] w fun r w' => ScanPost s n w r w' := by
  have hb := Rf.byteAt_eq s m hm
  have hT : Hid (Rf.nextTok s n = Rf.tokenAt s m) := by unfold Hid Rf.nextTok; rw [hM, if_pos hm]
  have hK : Hid (Rf.TokIs (Rf.tokenAt s m) (Rf.numK (Rf.runLen s true (m + 1))) m (((m + 1 : Nat) : Int) + Rf.runLen s true (m + 1)) (Rf.numC (Rf.runLen s true (m + 1)))) := by
    exact Rf.tokIs_num s m true (m + 1) (by simp) (by unfold Rf.tokenAt; rw [← hb, if_pos (eq_of_beq h45)])
  have HM : Hid _ := hM
  clear hM hb
  go_enter Tryd.func32, Tryd.ntmps32
  go_wp2_with (first
    | (go_at_call 46; refine (pastBlanks_any s n _ hs hn).mono ?_; rintro e w1 ⟨rfl, rfl⟩; rw [HM.out])
    | (go_at_call 47; refine (isSmall_any _ _).mono ?_; rintro e w1 ⟨rfl, rfl⟩)
    | (go_at_call 49; refine (isGreat_any _ _).mono ?_; rintro e w1 ⟨rfl, rfl⟩)
    | (go_at_call 50; refine (isDigit_any _ _).mono ?_; rintro e w1 ⟨rfl, rfl⟩)
    | (go_at_call 51; refine (scanNumber_neg s m _ hs hm h45).mono ?_; rintro e w2 ⟨rfl, hb2⟩; have hG2 := (hb2.block w.heap.size (by simp)).trans (blk_new _ _); have g0 : w2.cell? ⟨w.heap.size, 0, none⟩ = some (.int .i64 0) := blk_cell hG2 0; have g1 : w2.cell? ⟨w.heap.size, 1, none⟩ = some (.int .i64 0) := blk_cell hG2 1; have g2 : w2.cell? ⟨w.heap.size, 2, none⟩ = some (.int .i64 0) := blk_cell hG2 2; have g3 : w2.cell? ⟨w.heap.size, 3, none⟩ = some (.int .i64 0) := blk_cell hG2 3; have gf := blk_frozen hG2))
  refine bodyPost_ret (v := .agg #[.int .i64 (Rf.numK (Rf.runLen s true (m + 1))), .int .i64 m, .int .i64 (((m + 1 : Nat) : Int) + Rf.runLen s true (m + 1)), .int .i64 (Rf.numC (Rf.runLen s true (m + 1)))]) (by simp [results, Tryd.results32, go_sem, *]) rfl ⟨_, _, _, _, rfl, ?_, ?_⟩
  · rw [hT.out]; exact hK.out
  · exact (((((((Below.refl _ w).alloc (Nat.le_refl _) _).trans (hb2.mono (by simp))).setCell (p := ⟨w.heap.size, 0, none⟩) (Nat.le_refl _) _).setCell (p := ⟨w.heap.size, 1, none⟩) (Nat.le_refl _) _).setCell (p := ⟨w.heap.size, 2, none⟩) (Nat.le_refl _) _).setCell (p := ⟨w.heap.size, 3, none⟩) (Nat.le_refl _) _)
set_option maxHeartbeats 1000000 in
theorem scan_fol (s : ByteArray) (n m : Nat) (w : World) (hs : s.size ≤ 400) (hn : n ≤ s.size) (hM : n + Rf.skipLen s n = m) (hm : m < s.size) (h1 : Rf.smallB (s[m].toNat : Int) = false) (h2 : Rf.greatB (s[m].toNat : Int) = false) (h3 : ((s[m].toNat : Int) == 95) = false) (h4 : Rf.digitB (s[m].toNat : Int) = false) (h45 : ((s[m].toNat : Int) == 45) = false) (h58 : ((s[m].toNat : Int) == 58) = true) :
    Calls Tryd.prog 32 #[.string s, .int .i64 n] w fun r w' => ScanPost s n w r w' := by
  have hb := Rf.byteAt_eq s m hm
  have hT : Hid (Rf.nextTok s n = Rf.tokenAt s m) := by unfold Hid Rf.nextTok; rw [hM, if_pos hm]
  have hK : Hid (Rf.TokIs (Rf.tokenAt s m) (Rf.folK s m) m (Rf.folT s m) (Rf.folC s m)) := Rf.tokIs_fol s m (by rw [← hb]; exact eq_of_beq h58)
  have HM : Hid _ := hM
  clear hM hb
  go_enter Tryd.func32, Tryd.ntmps32
  go_wp2_with (first
    | (go_at_call 46; refine (pastBlanks_any s n _ hs hn).mono ?_; rintro e w1 ⟨rfl, rfl⟩; rw [HM.out])
    | (go_at_call 47; refine (isSmall_any _ _).mono ?_; rintro e w1 ⟨rfl, rfl⟩)
    | (go_at_call 49; refine (isGreat_any _ _).mono ?_; rintro e w1 ⟨rfl, rfl⟩)
    | (go_at_call 50; refine (isDigit_any _ _).mono ?_; rintro e w1 ⟨rfl, rfl⟩)
    | (go_at_call 52; refine (scanFollows_any s m _ hs hm).mono ?_; rintro e w2 ⟨rfl, hb2⟩; have hG2 := (hb2.block w.heap.size (by simp)).trans (blk_new _ _); have g0 : w2.cell? ⟨w.heap.size, 0, none⟩ = some (.int .i64 0) := blk_cell hG2 0; have g1 : w2.cell? ⟨w.heap.size, 1, none⟩ = some (.int .i64 0) := blk_cell hG2 1; have g2 : w2.cell? ⟨w.heap.size, 2, none⟩ = some (.int .i64 0) := blk_cell hG2 2; have g3 : w2.cell? ⟨w.heap.size, 3, none⟩ = some (.int .i64 0) := blk_cell hG2 3; have gf := blk_frozen hG2))
  refine bodyPost_ret (v := .agg #[.int .i64 (Rf.folK s m), .int .i64 m, .int .i64 (Rf.folT s m), .int .i64 (Rf.folC s m)]) (by simp [results, Tryd.results32, go_sem, *]) rfl ⟨_, _, _, _, rfl, ?_, ?_⟩
  · rw [hT.out]; exact hK.out
  · exact (((((((Below.refl _ w).alloc (Nat.le_refl _) _).trans (hb2.mono (by simp))).setCell (p := ⟨w.heap.size, 0, none⟩) (Nat.le_refl _) _).setCell (p := ⟨w.heap.size, 1, none⟩) (Nat.le_refl _) _).setCell (p := ⟨w.heap.size, 2, none⟩) (Nat.le_refl _) _).setCell (p := ⟨w.heap.size, 3, none⟩) (Nat.le_refl _) _)
set_option maxHeartbeats 1000000 in
theorem scan_mark (s : ByteArray) (n m : Nat) (w : World) (hs : s.size ≤ 400) (hn : n ≤ s.size) (hM : n + Rf.skipLen s n = m) (hm : m < s.size) (h1 : Rf.smallB (s[m].toNat : Int) = false) (h2 : Rf.greatB (s[m].toNat : Int) = false) (h3 : ((s[m].toNat : Int) == 95) = false) (h4 : Rf.digitB (s[m].toNat : Int) = false) (h45 : ((s[m].toNat : Int) == 45) = false) (h58 : ((s[m].toNat : Int) == 58) = false) :
    Calls Tryd.prog 32 #[.string s, .int .i64 n] w fun r w' => ScanPost s n w r w' := by
  have hb := Rf.byteAt_eq s m hm
  have hT : Hid (Rf.nextTok s n = Rf.tokenAt s m) := by unfold Hid Rf.nextTok; rw [hM, if_pos hm]
  have hK : Hid (Rf.TokIs (Rf.tokenAt s m) (Rf.markK (s[m].toNat : Int)) m ((m : Int) + 1) (Rf.markC (s[m].toNat : Int))) := by
    rw [hb] at h1 h2 h3 h4 h45 h58 ⊢
    exact Rf.tokIs_mark s m hm (beq_eq_false_iff_ne.1 h45) h4 (by rw [word_of, h1, h2, h3, h4]; rfl) (beq_eq_false_iff_ne.1 h58)
  have HM : Hid _ := hM
  clear hM hb
  go_enter Tryd.func32, Tryd.ntmps32
  go_wp2_with (first
    | (go_at_call 46; refine (pastBlanks_any s n _ hs hn).mono ?_; rintro e w1 ⟨rfl, rfl⟩; rw [HM.out])
    | (go_at_call 47; refine (isSmall_any _ _).mono ?_; rintro e w1 ⟨rfl, rfl⟩)
    | (go_at_call 49; refine (isGreat_any _ _).mono ?_; rintro e w1 ⟨rfl, rfl⟩)
    | (go_at_call 50; refine (isDigit_any _ _).mono ?_; rintro e w1 ⟨rfl, rfl⟩)
    | (go_at_call 53; refine (scanMark_any _ m _ (by omega)).mono ?_; rintro e w2 ⟨rfl, hb2⟩; have hG2 := (hb2.block w.heap.size (by simp)).trans (blk_new _ _); have g0 : w2.cell? ⟨w.heap.size, 0, none⟩ = some (.int .i64 0) := blk_cell hG2 0; have g1 : w2.cell? ⟨w.heap.size, 1, none⟩ = some (.int .i64 0) := blk_cell hG2 1; have g2 : w2.cell? ⟨w.heap.size, 2, none⟩ = some (.int .i64 0) := blk_cell hG2 2; have g3 : w2.cell? ⟨w.heap.size, 3, none⟩ = some (.int .i64 0) := blk_cell hG2 3; have gf := blk_frozen hG2))
  refine bodyPost_ret (v := .agg #[.int .i64 (Rf.markK (s[m].toNat : Int)), .int .i64 m, .int .i64 ((m : Int) + 1), .int .i64 (Rf.markC (s[m].toNat : Int))]) (by simp [results, Tryd.results32, go_sem, *]) rfl ⟨_, _, _, _, rfl, ?_, ?_⟩
  · rw [hT.out]; exact hK.out
  · exact (((((((Below.refl _ w).alloc (Nat.le_refl _) _).trans (hb2.mono (by simp))).setCell (p := ⟨w.heap.size, 0, none⟩) (Nat.le_refl _) _).setCell (p := ⟨w.heap.size, 1, none⟩) (Nat.le_refl _) _).setCell (p := ⟨w.heap.size, 2, none⟩) (Nat.le_refl _) _).setCell (p := ⟨w.heap.size, 3, none⟩) (Nat.le_refl _) _)
theorem scan_any (s : ByteArray) (n : Nat) (w : World) (hs : s.size ≤ 400) (hn : n ≤ s.size) :
    Calls Tryd.prog 32 #[.string s, .int .i64 n] w fun r w' => ScanPost s n w r w' := by
  by_cases hm : n + Rf.skipLen s n < s.size
  · obtain ⟨m, hM⟩ : ∃ m, n + Rf.skipLen s n = m := ⟨_, rfl⟩
    rw [hM] at hm
    cases h1 : Rf.smallB (s[m].toNat : Int)
    · cases h2 : Rf.greatB (s[m].toNat : Int)
      · cases h3 : ((s[m].toNat : Int) == 95)
        · cases h4 : Rf.digitB (s[m].toNat : Int)
          · cases h45 : ((s[m].toNat : Int) == 45)
            · cases h58 : ((s[m].toNat : Int) == 58)
              · exact scan_mark s n m w hs hn hM hm h1 h2 h3 h4 h45 h58
              · exact scan_fol s n m w hs hn hM hm h1 h2 h3 h4 h45 h58
            · exact scan_neg s n m w hs hn hM hm h1 h2 h3 h4 h45
          · exact scan_digit s n m w hs hn hM hm h1 h2 h3 h4
        · exact scan_under s n m w hs hn hM hm h1 h2 h3
      · exact scan_great s n m w hs hn hM hm h1 h2
    · exact scan_small s n m w hs hn hM hm h1
  · exact scan_end s n w hs hn (by omega)
end Go.Proofs.YtpdikdnffehmkaaDoor
/- The program's reader in memory (read.reader), and what it does with the token at hand (read: refuse, step). -/
namespace Rf
/-- The token at hand and what is left behind it. -/
def At (text : ByteArray) (l : List Tok) (K f to C : Int) : Prop :=
  ∃ t l', l = t :: l' ∧ TokIs t K f to C ∧ (t.k ≠ 0 → t.k ≠ 63 → (l' = rest text (t.at_ + t.s.size) ∧ t.at_ + t.s.size ≤ text.size) ∧ t.at_ < text.size ∧ t = tokenAt text t.at_) ∧ (t.k = 0 → t.at_ + t.s.size ≤ text.size)
theorem next_end (text : ByteArray) (n : Nat) (h : (nextTok text n).k = 0) : (nextTok text n).at_ + (nextTok text n).s.size ≤ text.size := by
  unfold nextTok at h ⊢
  by_cases hm : n + skipLen text n < text.size
  · rw [if_pos hm] at h; exact absurd h (tokenAt_ne _ _)
  · rw [if_neg hm]; exact Nat.le_refl _
theorem at_rest (text : ByteArray) (n : Nat) (hn : n ≤ text.size) (K f to C : Int) (h : TokIs (nextTok text n) K f to C) : At text (rest text n) K f to C := by
  have hr := rest_eq text (text.size - n) n (by omega) hn
  have hle := skipLen_le text n
  by_cases hk : (nextTok text n).k = 0 ∨ (nextTok text n).k = 63
  · rw [if_pos hk] at hr
    exact ⟨nextTok text n, [], hr, h, (fun h1 h2 => by rcases hk with hk | hk <;> contradiction), next_end text n⟩
  · rw [if_neg hk] at hr
    refine ⟨nextTok text n, _, hr, h, fun h1 h2 => ⟨⟨rfl, ?_⟩, ?_⟩, next_end text n⟩
    all_goals
     unfold nextTok at h1 h2 ⊢
     by_cases hm : n + skipLen text n < text.size
     · rw [if_pos hm] at h2 ⊢
       have hfit := tokenAt_fit text _ hm h2
       have hat : (tokenAt text (n + skipLen text n)).at_ = n + skipLen text n := by
         unfold tokenAt numTok wordTok bad
         repeat' split
         all_goals rfl
       first | omega | exact ⟨by omega, by rw [hat]⟩
     · rw [if_neg hm] at h1
       exact absurd rfl h1
end Rf
namespace Go.Proofs.YtpdikdnffehmkaaDoor
open Go.RowKit
/-- Block r holds a reader's eight cells. -/
def PrB (w : World) (r : Nat) (text : ByteArray) (K f to C : Int) (vN : Value) (code place : Int) : Prop :=
  w.heap[r]? = some (.cells #[.string text, .int .i64 K, .int .i64 f, .int .i64 to, .int .i64 C, vN, .int .i64 code, .int .i64 place] 54 (0, 0))
theorem PrB.facts {w : World} {r : Nat} {text : ByteArray} {K f to C : Int} {vN : Value} {code place : Int} (h : PrB w r text K f to C vN code place) :
    w.cell? ⟨r, 0, none⟩ = some (.string text) ∧ w.cell? ⟨r, 1, none⟩ = some (.int .i64 K) ∧ w.cell? ⟨r, 2, none⟩ = some (.int .i64 f) ∧ w.cell? ⟨r, 3, none⟩ = some (.int .i64 to) ∧ w.cell? ⟨r, 4, none⟩ = some (.int .i64 C) ∧ w.cell? ⟨r, 5, none⟩ = some vN ∧ w.cell? ⟨r, 6, none⟩ = some (.int .i64 code) ∧ w.cell? ⟨r, 7, none⟩ = some (.int .i64 place) ∧ (∀ i, w.frozen? ⟨r, i, none⟩ = false) ∧ r < w.heap.size :=
  ⟨blk_cell h 0, blk_cell h 1, blk_cell h 2, blk_cell h 3, blk_cell h 4, blk_cell h 5, blk_cell h 6, blk_cell h 7, blk_frozen h, blk_lt h⟩
/-- A reader with no fault: l: the tokens that are left; ns: the names. -/
structure Pr (w : World) (r : Nat) (text : ByteArray) (nb : Option Nat) (l : List Rf.Tok) (ns : List ByteArray) : Prop where
  ex : ∃ K f to C vN, PrB w r text K f to C vN 0 0 ∧ Rf.At text l K f to C ∧ Rf.Ended l ∧ text.size ≤ 400 ∧ RowIs w 0 9 1 strCells vN ns ∧ vN.ownBlock = nb ∧ nb ≠ some r ∧ ns.length ≤ 16
/-- A reader with a fault. -/
structure PrE (w : World) (r : Nat) (E P : Int) : Prop where
  ex : ∃ text K f to C a n c, PrB w r text K f to C (.slice a n c) E P ∧ E ≠ 0
set_option maxHeartbeats 400000 in
theorem refuse_raw (w : World) (r : Nat) (text : ByteArray) (K f to C e : Int) (vN : Value) (h : PrB w r text K f to C vN 0 0) (t : Rf.Tok) (ht : Rf.TokIs t K f to C) :
    Calls Tryd.prog 34 #[.pointer (some ⟨r, 0, none⟩), .int .i64 e] w fun x w' => x = .returned (.tuple #[]) ∧ PrB w' r text K f to C vN (Rf.errOf t e).1 (Rf.errOf t e).2 ∧ Kept (fun k => k = r) w w' := by
  obtain ⟨h0, h1, h2, h3, h4, h5, h6, h7, hf, hl⟩ := h.facts
  obtain ⟨t1, t2, t3, _⟩ := ht
  have H : Hid _ := h
  clear h
  by_cases hk : t.k = 63
  · have hK : (K == 1) = true := by rw [t1, hk]; rfl
    have HE : Hid (Rf.errOf t e = (C, t.at_) ∧ f = t.at_) := ⟨by unfold Rf.errOf; rw [if_pos hk, t3], t2⟩
    clear t1 t2 t3 hk
    go_enter Tryd.func34, Tryd.ntmps34
    go_wp2
    go_end0
    rw [HE.out.1]
    refine ⟨rfl, ?_, (by repeat' (first | exact Kept.refl _ _ | refine Kept.setCell ?_ ?_ _ | refine Kept.drew ?_ | refine Kept.drewN ?_ _ | refine Kept.alloc ?_ _ | exact Or.inr rfl | exact Or.inr (Or.inl rfl) | (refine Or.inl ?_; simp; done) | (refine Or.inl ?_; simp; omega)))⟩
    have h9 := blk_set (blk_set (blk_set H.out 6 (.int .i64 e)) 6 (.int .i64 C)) 7 (.int .i64 f)
    have h8 := HE.out.2
    unfold PrB
    show _ = some (Obj.cells #[_, _, _, _, _, _, _, .int .i64 (t.at_ : Int)] _ _)
    rw [← h8]
    exact h9
  · have hK : (K == 1) = false := by
      rw [t1, beq_eq_false_iff_ne]
      unfold Rf.kindOf
      repeat' split
      all_goals (first | contradiction | decide)
    have HE : Hid (Rf.errOf t e = (e, t.at_) ∧ f = t.at_) := ⟨by unfold Rf.errOf; rw [if_neg hk], t2⟩
    clear t1 t2 t3 hk
    go_enter Tryd.func34, Tryd.ntmps34
    go_wp2
    go_end0
    rw [HE.out.1]
    refine ⟨rfl, ?_, (by repeat' (first | exact Kept.refl _ _ | refine Kept.setCell ?_ ?_ _ | refine Kept.drew ?_ | refine Kept.drewN ?_ _ | refine Kept.alloc ?_ _ | exact Or.inr rfl | exact Or.inr (Or.inl rfl) | (refine Or.inl ?_; simp; done) | (refine Or.inl ?_; simp; omega)))⟩
    have h9 := blk_set (blk_set H.out 6 (.int .i64 e)) 7 (.int .i64 f)
    have h8 := HE.out.2
    unfold PrB
    show _ = some (Obj.cells #[_, _, _, _, _, _, _, .int .i64 (t.at_ : Int)] _ _)
    rw [← h8]
    exact h9
theorem Pr.shape {w : World} {r : Nat} {text : ByteArray} {nb : Option Nat} {l : List Rf.Tok} {ns : List ByteArray} (h : Pr w r text nb l ns) : ∃ t l' K f to C a c, l = t :: l' ∧ PrB w r text K f to C (.slice a ns.length c) 0 0 ∧ Rf.TokIs t K f to C := by
  obtain ⟨K, f, to, C, vN, hB, ⟨t, l', hl, ht, _⟩, _, _, hrow, _⟩ := h.ex
  rcases hrow.shape with ⟨rfl, rfl⟩ | ⟨g, c, rfl, _⟩
  · exact ⟨t, l', K, f, to, C, _, _, hl, hB, ht⟩
  · exact ⟨t, l', K, f, to, C, _, _, hl, hB, ht⟩
theorem Pr.ended {w : World} {r : Nat} {text : ByteArray} {nb : Option Nat} {l : List Rf.Tok} {ns : List ByteArray} (h : Pr w r text nb l ns) : Rf.Ended l := by
  obtain ⟨_, _, _, _, _, _, _, h, _⟩ := h.ex; exact h
theorem refuse_any (w : World) (r : Nat) (text : ByteArray) (nb : Option Nat) (t : Rf.Tok) (l : List Rf.Tok) (ns : List ByteArray) (e : Int) (h : Pr w r text nb (t :: l) ns) (he : e ≠ 0) :
    Calls Tryd.prog 34 #[.pointer (some ⟨r, 0, none⟩), .int .i64 e] w fun x w' => x = .returned (.tuple #[]) ∧ PrE w' r (Rf.errOf t e).1 (Rf.errOf t e).2 ∧ Kept (fun k => k = r) w w' := by
  obtain ⟨t', l', K, f, to, C, a, c, hl, hB, ht⟩ := h.shape
  obtain ⟨rfl, rfl⟩ : t = t' ∧ l = l' := by injection hl with h1 h2; exact ⟨h1, h2⟩
  refine (refuse_raw w r text K f to C e _ hB t ht).mono ?_
  rintro x w' ⟨rfl, h1, h2⟩
  exact ⟨rfl, ⟨_, _, _, _, _, _, _, _, h1, errOf_ne h.ended he⟩, h2⟩
end Go.Proofs.YtpdikdnffehmkaaDoor
/- What the program's reader does to come to the next token (read: step). -/
namespace Go.Proofs.YtpdikdnffehmkaaDoor
open Go.RowKit
theorem Kept.of_belowN {w w' : World} {n : Nat} (h : Below (w.drewN n).heap.size (w.drewN n) w') (M : Nat → Prop) : Kept M w w' := (Kept.drewN (Kept.refl M w) n).trans (Kept.of_below h M) (fun _ _ e => e)
theorem Kept.of_below1 {w w' : World} (h : Below w.drew.heap.size w.drew w') (M : Nat → Prop) : Kept M w w' := (Kept.drew (Kept.refl M w)).trans (Kept.of_below h M) (fun _ _ e => e)
set_option maxHeartbeats 1000000 in
theorem step_raw (w : World) (r : Nat) (text : ByteArray) (K f C : Int) (n : Nat) (vN : Value) (h : PrB w r text K f n C vN 0 0) (hs : text.size ≤ 400) (hn : n ≤ text.size) :
    Calls Tryd.prog 20 #[.pointer (some ⟨r, 0, none⟩)] w fun x w' => ∃ K' f' to' C', x = .returned (.tuple #[]) ∧ PrB w' r text K' f' to' C' vN 0 0 ∧ Rf.TokIs (Rf.nextTok text n) K' f' to' C' ∧ Kept (fun k => k = r) w w' := by
  obtain ⟨h0, h1, h2, h3, h4, h5, h6, h7, hf, hl⟩ := h.facts
  have H : Hid _ := h
  clear h
  go_enter Tryd.func20, Tryd.ntmps20
  go_region_with (go_at_call 32; refine (scan_any text n _ hs hn).mono ?_; rintro e w2 ⟨K', f', to', C', rfl, ht, hb2⟩; have hB2 : PrB w2 r text K f n C vN 0 0 := (hb2.block r hl).trans H.out; obtain ⟨q0, q1, q2, q3, q4, q5, q6, q7, qf, ql⟩ := hB2.facts)
  all_goals
    go_end0
    refine ⟨K', f', to', C', rfl, blk_set (blk_set (blk_set (blk_set hB2 1 (.int .i64 K')) 2 (.int .i64 f')) 3 (.int .i64 to')) 4 (.int .i64 C'), ht, ?_⟩
    have hk : Kept (fun k => k = r) w w2 := by first | exact Kept.of_below hb2 _ | exact Kept.of_belowN hb2 _ | exact Kept.of_below1 hb2 _
    repeat' (first | exact hk | exact Or.inr rfl | refine Kept.setCell ?_ ?_ _ | refine Kept.drew ?_ | refine Kept.drewN ?_ _)
theorem Pr.toks {w : World} {r : Nat} {text : ByteArray} {nb : Option Nat} {t : Rf.Tok} {l : List Rf.Tok} {ns : List ByteArray} (h : Pr w r text nb (t :: l) ns) : ∃ K f to C vN, PrB w r text K f to C vN 0 0 ∧ Rf.TokIs t K f to C ∧ (t.k ≠ 0 → t.k ≠ 63 → (l = Rf.rest text (t.at_ + t.s.size) ∧ t.at_ + t.s.size ≤ text.size) ∧ t.at_ < text.size ∧ t = Rf.tokenAt text t.at_) ∧ Rf.Ended (t :: l) ∧ text.size ≤ 400 ∧ RowIs w 0 9 1 strCells vN ns ∧ vN.ownBlock = nb ∧ nb ≠ some r ∧ ns.length ≤ 16 := by
  obtain ⟨K, f, to, C, vN, hB, ⟨t', l', hl, ht, hr, _⟩, he, hs, hrow, hnb, hr', h16⟩ := h.ex
  obtain ⟨rfl, rfl⟩ : t = t' ∧ l = l' := by injection hl with h1 h2; exact ⟨h1, h2⟩
  exact ⟨K, f, to, C, vN, hB, ht, hr, he, hs, hrow, hnb, hr', h16⟩
/-- A reader from its cells and its token. -/
theorem Pr.mk' {w : World} {r : Nat} {text : ByteArray} {nb : Option Nat} {n : Nat} {ns : List ByteArray} {K f to C : Int} {vN : Value} (hB : PrB w r text K f to C vN 0 0) (ht : Rf.TokIs (Rf.nextTok text n) K f to C) (hn : n ≤ text.size) (hs : text.size ≤ 400) (hrow : RowIs w 0 9 1 strCells vN ns) (hnb : vN.ownBlock = nb) (hr : nb ≠ some r) (h16 : ns.length ≤ 16) : Pr w r text nb (Rf.rest text n) ns :=
  ⟨K, f, to, C, vN, hB, Rf.at_rest text n hn K f to C ht, Rf.toks_ended text _ _, hs, hrow, hnb, hr, h16⟩
theorem step_any (w : World) (r : Nat) (text : ByteArray) (nb : Option Nat) (t : Rf.Tok) (l : List Rf.Tok) (ns : List ByteArray) (h : Pr w r text nb (t :: l) ns) (h0 : t.k ≠ 0) (h63 : t.k ≠ 63) :
    Calls Tryd.prog 20 #[.pointer (some ⟨r, 0, none⟩)] w fun x w' => x = .returned (.tuple #[]) ∧ Pr w' r text nb l ns ∧ Kept (fun k => k = r) w w' := by
  obtain ⟨K, f, to, C, vN, hB, ht, hr, he, hs, hrow, hnb, hr', h16⟩ := h.toks
  obtain ⟨⟨hl, hfit⟩, _⟩ := hr h0 h63
  have hto : to = ((t.at_ + t.s.size : Nat) : Int) := by rw [ht.2.2.2 h63]; omega
  subst hto
  refine (step_raw w r text K f C _ vN hB hs hfit).mono ?_
  rintro x w' ⟨K', f', to', C', rfl, hB', ht', hK⟩
  refine ⟨rfl, ?_, hK⟩
  rw [hl]
  exact Pr.mk' hB' ht' hfit hs (hrow.keptBy hK (fun k e x => hr' (by rw [← hnb, e, x]))) hnb hr' h16
/-- A step at the end's token: there is no more. -/
theorem step_end (w : World) (r : Nat) (text : ByteArray) (nb : Option Nat) (t : Rf.Tok) (l : List Rf.Tok) (ns : List ByteArray) (h : Pr w r text nb (t :: l) ns) (h0 : t.k = 0) :
    Calls Tryd.prog 20 #[.pointer (some ⟨r, 0, none⟩)] w fun x w' => x = .returned (.tuple #[]) ∧ (∃ l', Pr w' r text nb l' ns) ∧ Kept (fun k => k = r) w w' := by
  obtain ⟨K, f, to, C, vN, hB, ⟨t', l', hl, ht, _, hfin⟩, he, hs, hrow, hnb, hr', h16⟩ := h.ex
  obtain ⟨rfl, rfl⟩ : t = t' ∧ l = l' := by injection hl with h1 h2; exact ⟨h1, h2⟩
  have hfit := hfin h0
  have hto : to = ((t.at_ + t.s.size : Nat) : Int) := by rw [ht.2.2.2 (by omega)]; omega
  subst hto
  refine (step_raw w r text K f C _ vN hB hs hfit).mono ?_
  rintro x w' ⟨K', f', to', C', rfl, hB', ht', hK⟩
  exact ⟨rfl, ⟨_, Pr.mk' hB' ht' hfit hs (hrow.keptBy hK (fun k e x => hr' (by rw [← hnb, e, x]))) hnb hr' h16⟩, hK⟩
end Go.Proofs.YtpdikdnffehmkaaDoor
/- What the program's reader takes from the token at hand (read: word, value). -/
namespace Go.Proofs.YtpdikdnffehmkaaDoor
open Go.RowKit
theorem Pr.text {w : World} {r : Nat} {text : ByteArray} {nb : Option Nat} {t : Rf.Tok} {l : List Rf.Tok} {ns : List ByteArray} (h : Pr w r text nb (t :: l) ns) (h0 : t.k ≠ 0) (h63 : t.k ≠ 63) :
    ∃ K C vN, PrB w r text K t.at_ (t.at_ + t.s.size : Nat) C vN 0 0 ∧ text.size ≤ 400 ∧ t.at_ + t.s.size ≤ text.size ∧ t.at_ < text.size ∧ text.extract t.at_ (t.at_ + t.s.size) = t.s ∧ t = Rf.tokenAt text t.at_ := by
  obtain ⟨K, f, to, C, vN, hB, ht, hr, he, hs, hrow, hnb, hr', h16⟩ := h.toks
  obtain ⟨⟨_, hfit⟩, hlt, htok⟩ := hr h0 h63
  have hto : to = ((t.at_ + t.s.size : Nat) : Int) := by rw [ht.2.2.2 h63]; omega
  have hf : f = t.at_ := ht.2.1
  subst hto; subst hf
  refine ⟨K, C, vN, hB, hs, hfit, hlt, ?_, htok⟩
  have := Rf.tokenAt_text text t.at_ hlt (by rw [← htok]; exact h63)
  rwa [← htok] at this
def cvCap (w : World) (s : ByteArray) : Nat := grownCap w s.size 0 5
def cvObj (w : World) (s : ByteArray) : Obj := .cells (bytesRow s (cvCap w s)) 5 ((bytesRow s (cvCap w s)).size, (bytesRow s (cvCap w s)).size + 1)
theorem cv_there (w : World) (s : ByteArray) : (convert 9 79 (.string s)).run Tryd.prog w = .ok (.slice (some ⟨w.heap.size, 0, none⟩) s.size (cvCap w s)) (w.drew.alloc (cvObj w s)) :=
  run_bytes_of_string w _ _ _ s Tryd.underlying9 Tryd.underlying79 Tryd.underlying5
theorem cv_back (w w0 : World) (s : ByteArray) (N c : Nat) (hN : w.heap[N]? = some (cvObj w0 s)) : (convert 79 9 (.slice (some ⟨N, 0, none⟩) s.size c)).run Tryd.prog w = .ok (.string s) w := by
  have h := run_convert_bytes_back (P := Tryd.prog) w 79 9 5 ⟨N, 0, none⟩ c s.data.toList Tryd.underlying79 Tryd.underlying5 Tryd.underlying9 ?_
  · simpa using h
  · intro j hj
    have hj' : j < s.size := by simpa using hj
    rw [Addr.add_lit, Nat.zero_add]
    unfold cvObj at hN
    simp only [World.cell?, hN]
    show (bytesRow s (cvCap w0 s))[j]? = _
    unfold bytesRow
    rw [Array.getElem?_append_left (by simpa using hj')]
    rw [Array.getElem?_map, Array.getElem?_eq_getElem (by simpa using hj')]
    simp
set_option maxHeartbeats 1000000 in
set_option maxRecDepth 100000 in
theorem word_any (w : World) (r : Nat) (text : ByteArray) (nb : Option Nat) (t : Rf.Tok) (l : List Rf.Tok) (ns : List ByteArray) (h : Pr w r text nb (t :: l) ns) (h0 : t.k ≠ 0) (h63 : t.k ≠ 63) :
    Calls Tryd.prog 69 #[.pointer (some ⟨r, 0, none⟩)] w fun x w' => x = .returned (.string t.s) ∧ Below w.heap.size w w' := by
  obtain ⟨K, C, vN, hB, hs, hfit, hlt, htx, _⟩ := h.text h0 h63
  obtain ⟨q0, q1, q2, q3, q4, q5, q6, q7, qf, ql⟩ := hB.facts
  clear hB h h0 h63
  generalize hb : t.at_ + t.s.size = b at *
  have hab : t.at_ ≤ b := by omega
  clear hb
  generalize t.at_ = a at *
  generalize hX : t.s = X at *
  have HX : Hid _ := htx
  clear htx hX
  have k1 := cv_there
  have hba : (text.extract a b).size = b - a := by rw [ByteArray.size_extract]; omega
  have k2 : ∀ (w w0 : World) (c : Nat), (convert 79 9 (.slice (some ⟨w.heap.size, 0, none⟩) (b - a) c)).run Tryd.prog (w.alloc (cvObj w0 (text.extract a b))).drew.drew = .ok (.string X) (w.alloc (cvObj w0 (text.extract a b))).drew.drew := by
    intro w w0 c
    have := cv_back (w.alloc (cvObj w0 (text.extract a b))).drew.drew w0 (text.extract a b) w.heap.size c (blk_new _ _)
    rw [hba] at this
    rw [this, HX.out]
  clear hba
  go_enter Tryd.func69, Tryd.ntmps69
  go_wp2
  go_region
  all_goals
    go_wp2
    go_ret
    exact ⟨rfl, (by repeat (first | exact Below.refl _ _ | refine Below.setCell ?_ (by simp <;> omega) _ | refine Below.drew ?_ | refine Below.drewN ?_ _ | refine Below.alloc ?_ (by simp <;> omega) _))⟩
set_option maxHeartbeats 1000000 in
theorem value_any (w : World) (r : Nat) (text : ByteArray) (nb : Option Nat) (t : Rf.Tok) (l : List Rf.Tok) (ns : List ByteArray) (h : Pr w r text nb (t :: l) ns) (hk : t.k = 110) :
    Calls Tryd.prog 70 #[.pointer (some ⟨r, 0, none⟩)] w fun x w' => x = .returned (.int .i64 (Rf.numVal t.s)) ∧ Below w.heap.size w w' := by
  obtain ⟨K, C, vN, hB, hs, hfit, hlt, htx, htok⟩ := h.text (by omega) (by omega)
  obtain ⟨q0, q1, q2, q3, q4, q5, q6, q7, qf, ql⟩ := hB.facts
  have hV : Hid (Rf.numVal t.s = Rf.signV (text[t.at_].toNat : Int) (Rf.vOf t.s.data.toList)) := by
    have h9 := Rf.numVal_tok text t.at_ (by rw [← htok]; exact hk)
    rw [← htok] at h9
    unfold Hid
    rw [h9, ← Rf.byteAt_eq text t.at_ hlt]
  have hsz : t.s.size ≤ 10 := (h.ended.fine.1 hk).1
  have hby : ∀ j, (hj : j < t.s.data.toList.length) → ∃ h' : t.at_ + j < text.size, t.s.data.toList[j] = text[t.at_ + j] := by
    intro j hj
    have hj' : j < t.s.size := by simpa using hj
    refine ⟨by omega, ?_⟩
    have := congrArg (fun b : ByteArray => b.data.toList[j]?) htx
    simp only [Rf.extract_list] at this
    rw [List.getElem?_eq_getElem hj, List.getElem?_take, if_pos (by omega), List.getElem?_drop, List.getElem?_eq_getElem (by simp; omega)] at this
    exact (Option.some.inj this).symm
  have hlen : t.s.data.toList.length = t.s.size := by simp
  generalize hL : t.s.data.toList = L at *
  have HB : Hid _ := hby
  clear htx hB h hby htok hL
  go_enter Tryd.func70, Tryd.ntmps70
  go_wp2_with fail
  go_loop [3, 4] (fun v i => ∃ j : Nat, j ≤ t.s.size ∧ i = .int .i64 ((t.at_ : Int) + j) ∧ v = .int .i64 (Rf.vOf (L.take j))) (fun _ i => t.at_ + t.s.size - (intOf i).toNat)
  case atStart => exact ⟨0, by omega, by go_num, rfl⟩
  case round =>
    obtain ⟨j, hj, rfl, rfl⟩ := hrel
    have hbd : Rf.vOf (L.take j) + 1 ≤ 10 ^ 10 := Rf.vOf_bd _ 10 (by simp; omega)
    by_cases hlt2 : j < t.s.size
    · obtain ⟨hx, hc⟩ := HB.out j (by omega)
      have hS : Hid _ := Rf.vOf_succ L j (by omega)
      rw [hc] at hS
      clear hc
      have hdig : Rf.digitB (text[t.at_ + j].toNat : Int) = true → 48 ≤ (text[t.at_ + j].toNat : Int) ∧ (text[t.at_ + j].toNat : Int) ≤ 57 := by unfold Rf.digitB; simp
      have hidx : ((t.at_ : Int) + (j : Int)).toNat = t.at_ + j := by omega
      cases hd : Rf.digitB (text[t.at_ + j].toNat : Int)
      · have hS2 : Hid (Rf.vOf (L.take (j + 1)) = Rf.vOf (L.take j)) := by have := hS.out; unfold Rf.digAdd at this; rw [if_neg (by rw [hd]; decide)] at this; exact this
        go_wp2_with (first | (go_at_call 50; refine (isDigit_any _ _).mono ?_; rintro e w1 ⟨rfl, rfl⟩))
        go_round
        case rel => exact ⟨j + 1, by omega, by go_num, by rw [hS2.out]⟩
        case measure => simp [intOf]; omega
      · have hS2 : Hid (Rf.vOf (L.take (j + 1)) = Rf.vOf (L.take j) * 10 + (text[t.at_ + j].toNat - 48)) := by have := hS.out; unfold Rf.digAdd at this; rw [if_pos hd] at this; exact this
        obtain ⟨hd1, hd2⟩ := hdig hd
        go_wp2_with (first | (go_at_call 50; refine (isDigit_any _ _).mono ?_; rintro e w1 ⟨rfl, rfl⟩))
        go_round
        case rel => exact ⟨j + 1, by omega, by go_num, by rw [hS2.out]; congr 1; omega⟩
        case measure => simp [intOf]; omega
    · have hje : j = t.s.size := by omega
      subst hje
      have hte : L.take t.s.size = L := List.take_of_length_le (by omega)
      cases hneg : ((text[t.at_].toNat : Int) == 45)
      · have hV2 : Hid (Rf.numVal t.s = (Rf.vOf (L.take t.s.size) : Int)) := by rw [hte]; unfold Hid; rw [hV.out]; unfold Rf.signV; rw [if_neg (beq_eq_false_iff_ne.1 hneg)]
        clear hV hte
        go_wp2
        go_quiet (fail)
        go_wp2
        go_ret
        exact ⟨ret_int hV2.out.symm, (by repeat (first | exact Below.refl _ _ | refine Below.setCell ?_ (by simp <;> omega) _ | refine Below.drew ?_ | refine Below.drewN ?_ _ | refine Below.alloc ?_ (by simp <;> omega) _))⟩
      · have hV2 : Hid (Rf.numVal t.s = -(Rf.vOf (L.take t.s.size) : Int)) := by rw [hte]; unfold Hid; rw [hV.out]; unfold Rf.signV; rw [if_pos (eq_of_beq hneg)]
        clear hV hte
        go_wp2
        go_quiet (fail)
        go_wp2
        go_ret
        exact ⟨ret_int hV2.out.symm, (by repeat (first | exact Below.refl _ _ | refine Below.setCell ?_ (by simp <;> omega) _ | refine Below.drew ?_ | refine Below.drewN ?_ _ | refine Below.alloc ?_ (by simp <;> omega) _))⟩
end Go.Proofs.YtpdikdnffehmkaaDoor
/- What the program's reader does at a variable (read: which). -/
namespace Go.Proofs.YtpdikdnffehmkaaDoor
open Go.RowKit
theorem Pr.keptBy {M : Nat → Prop} {w w' : World} {r : Nat} {text : ByteArray} {nb : Option Nat} {l : List Rf.Tok} {ns : List ByteArray} (h : Pr w r text nb l ns) (hk : Kept M w w') (hr : ¬ M r) (hn : ∀ k, nb = some k → ¬ M k) : Pr w' r text nb l ns := by
  obtain ⟨K, f, to, C, vN, hB, hat, he, hs, hrow, hnb, hr', h16⟩ := h.ex
  exact ⟨K, f, to, C, vN, (hk.block r (blk_lt hB) hr).trans hB, hat, he, hs, hrow.keptBy hk (fun k e => hn k (by rw [← hnb, e])), hnb, hr', h16⟩
theorem Pr.below {w w' : World} {r : Nat} {text : ByteArray} {nb : Option Nat} {l : List Rf.Tok} {ns : List ByteArray} (h : Pr w r text nb l ns) (hb : Below w.heap.size w w') : Pr w' r text nb l ns := h.keptBy (Kept.of_below hb (fun _ => False)) (fun x => x) (fun _ _ x => x)
theorem Pr.alloc {w : World} {r : Nat} {text : ByteArray} {nb : Option Nat} {l : List Rf.Tok} {ns : List ByteArray} (h : Pr w r text nb l ns) (o : Obj) : Pr (w.alloc o) r text nb l ns := h.below ((Below.refl _ _).alloc (Nat.le_refl _) _)
theorem Pr.drewN {w : World} {r : Nat} {text : ByteArray} {nb : Option Nat} {l : List Rf.Tok} {ns : List ByteArray} (h : Pr w r text nb l ns) (n : Nat) : Pr (w.drewN n) r text nb l ns := h.below ((Below.refl _ _).drewN n)
theorem Pr.drew {w : World} {r : Nat} {text : ByteArray} {nb : Option Nat} {l : List Rf.Tok} {ns : List ByteArray} (h : Pr w r text nb l ns) : Pr w.drew r text nb l ns := h.below ((Below.refl _ _).drew)
theorem Pr.lt {w : World} {r : Nat} {text : ByteArray} {nb : Option Nat} {l : List Rf.Tok} {ns : List ByteArray} (h : Pr w r text nb l ns) : r < w.heap.size ∧ (∀ k, nb = some k → k < w.heap.size) ∧ nb ≠ some r := by
  obtain ⟨K, f, to, C, vN, hB, hat, he, hs, hrow, hnb, hr', h16⟩ := h.ex
  exact ⟨blk_lt hB, fun k e => (hrow.lt k (by rw [hnb, e])).2, hr'⟩
theorem PrE.keptBy {M : Nat → Prop} {w w' : World} {r : Nat} {E P : Int} (h : PrE w r E P) (hk : Kept M w w') (hr : ¬ M r) : PrE w' r E P := by
  obtain ⟨text, K, f, to, C, a, n, c, hB, hE⟩ := h.ex
  exact ⟨text, K, f, to, C, a, n, c, (hk.block r (blk_lt hB) hr).trans hB, hE⟩
theorem PrE.below {w w' : World} {r : Nat} {E P : Int} (h : PrE w r E P) (hb : Below w.heap.size w w') : PrE w' r E P := h.keptBy (Kept.of_below hb (fun _ => False)) (fun x => x)
theorem row_slice {α : Type} {w : World} {base : Nat} {e : TypeId} {size : Nat} {C : α → List Value} {v : Value} {xs : List α} (h : RowIs w base e size C v xs) : ∃ a c, v = .slice a xs.length c := by
  rcases h.shape with ⟨rfl, rfl⟩ | ⟨g, c, rfl, _⟩
  · exact ⟨_, _, rfl⟩
  · exact ⟨_, _, rfl⟩
theorem PrB.grown {w w' : World} {r : Nat} {text : ByteArray} {K f to C : Int} {vN : Value} {E P : Int} {row : Option Nat} (hg : w.grownBy w' row) (h : PrB w r text K f to C vN E P) (hn : row ≠ some r) : PrB w' r text K f to C vN E P :=
  (hg.block r (blk_lt h) (fun e => hn e.symm)).trans h
/-- What which leaves. -/
def WhichPost (w : World) (r : Nat) (text : ByteArray) (nb : Option Nat) (l : List Rf.Tok) (res : Except (Int × Nat) (Nat × List ByteArray)) (x : Ending) (w' : World) : Prop :=
  Kept (May r nb) w w' ∧
  (match res with
   | .ok (i, ns') => x = .returned (.tuple #[.int .i64 (i : Int), .bool true]) ∧ i < 16 ∧ ∃ nb', Pr w' r text nb' l ns' ∧ Nb w nb nb'
   | .error (e, q) => x = .returned (.tuple #[.int .i64 0, .bool false]) ∧ PrE w' r e q)
set_option maxHeartbeats 1000000 in
set_option maxRecDepth 100000 in
theorem which_any (w : World) (r : Nat) (text : ByteArray) (nb : Option Nat) (t : Rf.Tok) (l : List Rf.Tok) (ns : List ByteArray) (h : Pr w r text nb (t :: l) ns) (hk : t.k = 118) :
    Calls Tryd.prog 54 #[.pointer (some ⟨r, 0, none⟩)] w fun x w' => WhichPost w r text nb (t :: l) (Rf.varS t ns) x w' := by
  have H0 : Hid (t.k ≠ 0) := by unfold Hid; omega
  have H63 : Hid (t.k ≠ 63) := by unfold Hid; omega
  have HK : Hid _ := hk
  have H : Hid _ := h
  clear h hk
  go_enter Tryd.func54, Tryd.ntmps54
  go_wp2_with (go_at_call 69; refine (word_any _ r text nb t l ns H.out H0.out H63.out).mono ?_; rintro e w1 ⟨rfl, hb1⟩; obtain ⟨K, f, to, C, vN, hB, ht, hr, he, hs, hrow, hnb, hr', h16⟩ := (H.out.below hb1).toks; obtain ⟨a, c, rfl⟩ := row_slice hrow; obtain ⟨q0, q1, q2, q3, q4, q5, q6, q7, qf, ql⟩ := hB.facts)
  have hs1 := hb1.size
  have HT : Hid _ := ht
  have HB : Hid _ := hB
  have HE : Hid _ := he
  have HR : Hid _ := hr
  have Hnb : Hid _ := hnb
  clear ht hB he hr hnb
  go_loop [14] (fun i => ∃ k : Nat, i = .int .i64 k ∧ k ≤ ns.length ∧ Hid (∀ j, j < k → Miss t ns j)) (fun i => ns.length - (intOf i).toNat)
  case atStart => exact ⟨0, rfl, by omega, fun j hj => by omega⟩
  case round =>
    obtain ⟨k, rfl, hkl, hM⟩ := hrel
    by_cases hlt : k < ns.length
    · rcases hrow.shape with ⟨_, hnil⟩ | ⟨gn, capn, hsl, _, hgn, hcapn, hcapm⟩
      · rw [hnil] at hlt; simp at hlt
      · obtain ⟨rfl, rfl⟩ : a = some ⟨gn, 0, none⟩ ∧ c = capn := by injection hsl with e1 e2 e3; exact ⟨e1, e3⟩
        clear hsl
        obtain ⟨sk, hsk⟩ : ∃ sk, ns[k]? = some sk := ⟨ns[k], by simp [hlt]⟩
        have hcell := hrow.cells strCells_len k sk hsk 0 _ rfl
        simp only [Nat.mul_one, Nat.add_zero] at hcell
        have Hsk : Hid _ := hsk
        clear hsk
        have hlt' : (k : Int) < ns.length := by omega
        have e1 : (t.s.toList == [95]) = decide (t.s = Rf.under) := by
          rw [← beq_toList t.s Rf.under]; simp [Rf.under, ByteArray.toList_eq]
        have e2 : (sk.toList == t.s.toList) = decide (sk = t.s) := beq_toList sk t.s
        by_cases hs : sk = t.s
        · rw [decide_eq_true hs] at e2
          have Hs : Hid _ := hs
          clear hs
          by_cases hu : t.s = Rf.under
          · rw [decide_eq_true hu] at e1
            have Hu : Hid _ := hu
            clear hu
            go_wp2_with fail
            go_round
            case rel => exact ⟨k + 1, by go_num, by omega, Miss.step hM.out (.inl Hu.out)⟩
            case measure => simp [intOf]; omega
          · rw [decide_eq_false hu] at e1
            have Hu : Hid _ := hu
            clear hu
            go_wp2_with fail
            refine bodyPost_ret (v := .tuple #[.int .i64 k, .bool true]) (by simp [results, Tryd.results54, go_sem]) rfl ?_
            refine ⟨Kept.of_below hb1 _, ?_⟩
            unfold Rf.varS
            rw [look_some Hu.out (by rw [← Hs.out]; exact Hsk.out) hM.out]
            exact ⟨rfl, by omega, nb, H.out.below hb1, .inl rfl⟩
        · rw [decide_eq_false hs] at e2
          have Hs : Hid _ := hs
          clear hs
          go_wp2_with fail
          go_round
          case rel => exact ⟨k + 1, by go_num, by omega, Miss.step hM.out (.inr (by rw [Hsk.out]; exact fun e => Hs.out (Option.some.inj e)))⟩
          case measure => simp [intOf]; omega
    · obtain rfl : k = ns.length := by omega
      have HL : Hid _ := look_none hM.out
      by_cases h16' : ns.length = 16
      · have HV : Hid (Rf.varS t ns = .error (3, t.at_)) := by unfold Hid Rf.varS; rw [HL.out]; simp only []; rw [if_pos h16']
        go_wp2_with (go_at_call 34; refine (refuse_any _ r text nb t l ns 3 (H.out.below hb1) (by decide)).mono ?_; rintro e w2 ⟨rfl, hE2, hK2⟩; have hEx : Rf.errOf t 3 = (3, t.at_) := errOf_no t 3 (beq_eq_false_iff_ne.2 H63.out); rw [hEx] at hE2; clear hEx)
        refine bodyPost_ret (v := .tuple #[.int .i64 0, .bool false]) (by simp [results, Tryd.results54, go_sem]) rfl ?_
        rw [HV.out]
        exact ⟨(Kept.of_below hb1 _).trans hK2 (fun _ _ e => Or.inl e), rfl, hE2⟩
      · have HV : Hid (Rf.varS t ns = .ok (ns.length, ns ++ [t.s])) := by unfold Hid Rf.varS; rw [HL.out]; simp only []; rw [if_neg h16']
        have hne : (Value.slice a ns.length c).ownBlock ≠ some r := by rw [Hnb.out]; exact hr'
        go_wp2_with (at_builtin; refine wpList_app Tryd.elemStr strCells strCells_len strCells_one _ rfl (.tmp 40) (.tmp 42) rfl 0 _ ns rfl (hrow.alloc _) ⟨_, 0, none⟩ 1 t.s rfl (cell_one_at _ _ rfl _ _) (by omega) (Nat.zero_le _) ?_; intro gN capN w3 hrow3 hgr3 hnb3; have hB3 := PrB.grown hgr3 (blk_alloc HB.out _) hne; obtain ⟨z0, z1, z2, z3, z4, z5, z6, z7, zf, zl⟩ := hB3.facts)
        have hgb : gN ≠ r := fun e => hnb3.ne hne (by simp; omega) (by rw [e])
        refine bodyPost_ret (v := .tuple #[.int .i64 (ns.length : Int), .bool true]) (by simp [results, Tryd.results54, go_sem]) rfl ?_
        rw [HV.out]
        refine ⟨?_, rfl, by omega, some gN, ⟨_, _, _, _, _, blk_set hB3 5 _, ⟨t, l, rfl, HT.out, HR.out, fun e => absurd e H0.out⟩, HE.out, hs, hrow3.setCell _ _ (fun e => hgb (Option.some.inj e)), rfl, fun e => hgb (Option.some.inj e), by simp; omega⟩, ?_⟩
        · exact (((Kept.of_below hb1 (May r nb)).alloc _).grown hgr3 (fun k e => Or.inr (Or.inr (e.symm.trans Hnb.out)))).setCell (p := ⟨r, 5, none⟩) (Or.inr (Or.inl rfl)) _
        · have h9 : Nb (w1.alloc (Obj.cells #[Value.string t.s] 9)) (Value.slice a ns.length c).ownBlock (some gN) := hnb3
          rw [Hnb.out] at h9
          exact Nb.trans (.inl rfl) h9 (by simp; omega)
end Go.Proofs.YtpdikdnffehmkaaDoor
