
import Derived.Test.YtbiojnljihgpoaaGreatDoorZaq
import Derived.Test.YtbiojnljihgpoaaGreatDoorZax
namespace Go.Proofs.YtbiojnljihgpoaaGreatDoor
open Go.RowKit
def LdB (w : World) (lb b : Nat) (L : Rf.Ldr) : Prop := w.heap[lb]? = some (.cells #[.pointer (some ⟨b, 0, none⟩), .int .i64 L.fresh, .int .i64 L.height] 112 (0, 0))
structure LdAt (w : World) (lb b : Nat) (L : Rf.Ldr) : Prop where
 l : LdB w lb b L
 r : RdB w b L.r
 ok : Rf.RdrOk L.r
def LdM (lb b k : Nat) : Prop := k = b \/ k = lb
theorem LdB.facts {w : World} {lb b : Nat} {L : Rf.Ldr} (h : LdB w lb b L) : w.cell? ⟨lb, 0, none⟩ = some (.pointer (some ⟨b, 0, none⟩)) /\ w.cell? ⟨lb, 1, none⟩ = some (.int .i64 L.fresh) /\ w.cell? ⟨lb, 2, none⟩ = some (.int .i64 L.height) /\ (∀ i, w.frozen? ⟨lb, i, none⟩ = false) /\ lb < w.heap.size :=
 ⟨blk_cell h 0, blk_cell h 1, blk_cell h 2, blk_frozen h, blk_lt h⟩
theorem LdAt.ne {w : World} {lb b : Nat} {L : Rf.Ldr} (h : LdAt w lb b L) : lb ≠ b := by
 intro e
 have h1 := h.l
 have h2 := h.r
 unfold LdB at h1
 unfold RdB at h2
 rw [e, h2] at h1
 injection h1 with h3; injection h3 with _ h4
 exact absurd h4 (by decide)
theorem LdAt.below {w w' : World} {lb b : Nat} {L : Rf.Ldr} (h : LdAt w lb b L) (hb : Below w.heap.size w w') : LdAt w' lb b L := ⟨(hb.block lb (blk_lt h.l)).trans h.l, h.r.below hb, h.ok⟩
theorem LdAt.kept {M : Nat -> Prop} {w w' : World} {lb b : Nat} {L : Rf.Ldr} (h : LdAt w lb b L) (hk : Kept M w w') (h1 : ¬ M lb) (h2 : ¬ M b) : LdAt w' lb b L := ⟨(hk.block lb (blk_lt h.l) h1).trans h.l, h.r.kept hk h2, h.ok⟩
theorem keep4 (w : World) (G : Nat) (a b c d : Value) : Kept (fun k => k = G) w ((((w.setCell ⟨G, 0, none⟩ a).setCell ⟨G, 1, none⟩ b).setCell ⟨G, 2, none⟩ c).setCell ⟨G, 3, none⟩ d) :=
 ((((Kept.refl (fun k => k = G) w).setCell (p := ⟨G, 0, none⟩) (.inr rfl) a).setCell (p := ⟨G, 1, none⟩) (.inr rfl) b).setCell (p := ⟨G, 2, none⟩) (.inr rfl) c).setCell (p := ⟨G, 3, none⟩) (.inr rfl) d
theorem LdAt.go {w w' : World} {lb b : Nat} {L : Rf.Ldr} {r : Rf.Rdr} (h : LdAt w lb b L) (hk : Kept (fun k => k = b) w w') (hr : RdB w' b r) (ho : Rf.RdrOk r) : LdAt w' lb b ⟨r, L.fresh, L.height⟩ := ⟨(hk.block lb (blk_lt h.l) h.ne).trans h.l, hr, ho⟩
theorem LdM.of {lb b : Nat} {w w' : World} (h : Kept (fun k => k = b) w w') : Kept (LdM lb b) w w' := h.mono (fun _ _ e => .inl e)
theorem LdM.free {w : World} {lb b : Nat} {L : Rf.Ldr} (h : LdAt w lb b L) : Free w (LdM lb b) := by
 have key : ∀ t : TypeId, t ≠ 112 -> t ≠ 109 -> ∀ k cs', w.heap[k]? = some (.cells cs' t (0, 0)) -> ¬ LdM lb b k := by
  intro t ht ht2 k cs' hc e
  rcases e with e | e
  ·subst e
   have h2 := h.r
   unfold RdB at h2
   rw [h2] at hc
   injection hc with h3; injection h3 with _ h4
   exact ht2 h4.symm
  ·subst e
   have h2 := h.l
   unfold LdB at h2
   rw [h2] at hc
   injection hc with h3; injection h3 with _ h4
   exact ht h4.symm
 exact ⟨key _ (by decide) (by decide), key _ (by decide) (by decide), key _ (by decide) (by decide), key _ (by decide) (by decide), key _ (by decide) (by decide)⟩
set_option maxHeartbeats 2000000 in
set_option maxRecDepth 100000 in
theorem pvar_any (w : World) (lb b : Nat) (L : Rf.Ldr) (h : LdAt w lb b L) (hf : L.fresh <= 1000000000) :
  Calls Tryz.prog 131 #[.pointer (some ⟨lb, 0, none⟩)] w fun x w' => x = .returned (.int .i64 ((Rf.varL L).1 : Int)) /\ LdAt w' lb b (Rf.varL L).2 /\ Kept (LdM lb b) w w' := by
 obtain ⟨q0, q1, q2, qf, ql⟩ := h.l.facts
 have H : Hid _ := h
 have hn0 := Rf.numL_le L.fresh L.r
 have hno := Rf.numL_ok L.fresh L.r
 obtain ⟨n, hn⟩ : ∃ n, Hid (n = (Rf.numL L.fresh L.r).1) := ⟨_, rfl⟩
 obtain ⟨R, hR⟩ : ∃ R, Hid (R = (Rf.numL L.fresh L.r).2) := ⟨_, rfl⟩
 rw [<- hn.out] at hn0
 rw [<- hR.out] at hno
 have HO : Hid (Rf.RdrOk R) := hno
 have hV : Hid (Rf.varL L = (n, ⟨R, if n = L.fresh then L.fresh + 1 else L.fresh, L.height⟩)) := by unfold Hid Rf.varL; rw [hn.out, hR.out]
 clear h hno
 by_cases hc : n = L.fresh
 ·rw [if_pos hc] at hV
  have hci : ((n : Int) == (L.fresh : Int)) = true := by rw [hc]; simp
  go_enter Tryz.func131, Tryz.ntmps131
  go_wp2_with fail
  go_region_with (go_at_call 40; refine (pnumL_any _ b L.r L.fresh (H.out.r.below (by repeat(first|exact bl0 _ _|refine bl1 ?_ (by simp<;>omega) _|refine bl2 ?_|refine bl3 ?_ _|refine bl4 ?_ (by simp<;>omega) _))) H.out.ok (by omega)).mono ?_; rintro x w1 ⟨hx1, hR1, hk1⟩; rw [<- hn.out] at hx1; subst hx1; rw [<- hR.out] at hR1)
  all_goals
   have hL1 := LdAt.go (H.out.below (by repeat(first|exact bl0 _ _|refine bl1 ?_ (by simp<;>omega) _|refine bl2 ?_|refine bl3 ?_ _|refine bl4 ?_ (by simp<;>omega) _))) hk1 hR1 HO.out
   obtain ⟨p0, p1, p2, pf, pl⟩ := hL1.l.facts
   simp only at p0 p1 p2
   have HL1 : Hid _ := hL1
   have HK1 : Hid (Kept (fun k => k = b) w w1) := Kept.trans (M' := fun k => k = b) (by repeat'(first|exact kep0 _ _|refine kep1 ?_ ?_ _|refine kep2 ?_|refine kep3 ?_ _|refine kep4 ?_ _|exact Or.inr rfl|exact Or.inr (Or.inl rfl)|(refine Or.inl ?_;simp;done)|(refine Or.inl ?_;simp;omega))) hk1 (fun _ _ e => e)
   clear hL1 hk1
   go_wp2_with fail
   go_ret
   rw [hV.out]
   refine ⟨ret_int (by show (L.fresh : Int) = (n : Int); omega), ⟨?_, HL1.out.r.kept ((Kept.refl (fun k => k = lb) w1).setCell (p := ⟨lb, 1, none⟩) (.inr rfl) _) (fun e => HL1.out.ne e.symm), HO.out⟩, (LdM.of HK1.out).setCell (p := ⟨lb, 1, none⟩) (.inr (.inr rfl)) _⟩
   have := blk_set HL1.out.l 1 (.int .i64 ((L.fresh : Int) + 1))
   simpa [LdB] using this
 ·rw [if_neg hc] at hV
  have hci : ((n : Int) == (L.fresh : Int)) = false := beq_eq_false_iff_ne.2 (by omega)
  go_enter Tryz.func131, Tryz.ntmps131
  go_wp2_with fail
  go_region_with (go_at_call 40; refine (pnumL_any _ b L.r L.fresh (H.out.r.below (by repeat(first|exact bl0 _ _|refine bl1 ?_ (by simp<;>omega) _|refine bl2 ?_|refine bl3 ?_ _|refine bl4 ?_ (by simp<;>omega) _))) H.out.ok (by omega)).mono ?_; rintro x w1 ⟨hx1, hR1, hk1⟩; rw [<- hn.out] at hx1; subst hx1; rw [<- hR.out] at hR1)
  all_goals
   have hL1 := LdAt.go (H.out.below (by repeat(first|exact bl0 _ _|refine bl1 ?_ (by simp<;>omega) _|refine bl2 ?_|refine bl3 ?_ _|refine bl4 ?_ (by simp<;>omega) _))) hk1 hR1 HO.out
   obtain ⟨p0, p1, p2, pf, pl⟩ := hL1.l.facts
   simp only at p0 p1 p2
   have HL1 : Hid _ := hL1
   have HK1 : Hid (Kept (fun k => k = b) w w1) := Kept.trans (M' := fun k => k = b) (by repeat'(first|exact kep0 _ _|refine kep1 ?_ ?_ _|refine kep2 ?_|refine kep3 ?_ _|refine kep4 ?_ _|exact Or.inr rfl|exact Or.inr (Or.inl rfl)|(refine Or.inl ?_;simp;done)|(refine Or.inl ?_;simp;omega))) hk1 (fun _ _ e => e)
   clear hL1 hk1
   go_wp2_with fail
   go_ret
   rw [hV.out]
   exact ⟨rfl, HL1.out, LdM.of HK1.out⟩
set_option maxHeartbeats 2000000 in
set_option maxRecDepth 100000 in
theorem ppart_any (w : World) (lb b : Nat) (L : Rf.Ldr) (h : LdAt w lb b L) (hf : L.fresh <= 1000000000) :
  Calls Tryz.prog 119 #[.pointer (some ⟨lb, 0, none⟩)] w fun x w' => x = .returned (.agg #[.int .i64 (Rf.partL L).1.kind, .string (Rf.partL L).1.name, .int .i64 (Rf.partL L).1.value, .int .i64 (Rf.partL L).1.args]) /\ LdAt w' lb b (Rf.partL L).2 /\ Kept (LdM lb b) w w' := by
 have hll := blk_lt h.l
 have hbl := blk_lt h.r
 have H : Hid _ := h
 obtain ⟨q0, q1, q2, qf, _⟩ := h.l.facts
 have hn0 := Rf.numL_le 6 L.r
 obtain ⟨n, hn⟩ : ∃ n, Hid (n = (Rf.numL 6 L.r).1) := ⟨_, rfl⟩
 obtain ⟨R, hR⟩ : ∃ R, Hid (R = (Rf.numL 6 L.r).2) := ⟨_, rfl⟩
 have HO : Hid (Rf.RdrOk R) := by unfold Hid; rw [hR.out]; exact Rf.numL_ok _ _
 rw [<- hn.out] at hn0
 clear h
 by_cases c5 : n = 5
 ·have hP : Hid (Rf.partL L = Rf.varPL ⟨R, L.fresh, L.height⟩) := by unfold Hid Rf.partL; rw [<- hn.out, <- hR.out, if_pos c5]
  subst c5
  go_enter Tryz.func119, Tryz.ntmps119
  go_wp2_with (first
   | (go_at_call 131; refine (pvar_any _ lb b _ HL1.out hf).mono ?_; rintro x w2 ⟨rfl, hL2, hk2⟩; have HL2 : Hid _ := hL2; have HK2 : Hid (Kept (LdM lb b) w w2) := HK1.out.trans hk2 (fun _ _ e => e); have hG := (hk2.block w.heap.size gl (fun e => by rcases e with e | e <;> omega)).trans HG1.out; clear g0 g1 g2 g3 gf gl; have g0 := blk_cell hG 0; have g1 := blk_cell hG 1; have g2 := blk_cell hG 2; have g3 := blk_cell hG 3; have gf := blk_frozen hG; have gl := blk_lt hG; simp at g0 g1 g2 g3; clear hG hk2 hL2)
   | (go_at_call 40; refine (pnumL_any _ b L.r 6 (H.out.r.below (by repeat(first|exact bl0 _ _|refine bl1 ?_ (by simp<;>omega) _|refine bl2 ?_|refine bl3 ?_ _|refine bl4 ?_ (by simp<;>omega) _))) H.out.ok (by omega)).mono ?_; rintro x w1 ⟨hx1, hR1, hk1⟩; rw [<- hn.out] at hx1; subst hx1; rw [<- hR.out] at hR1; have hL1 := LdAt.go (H.out.below (by repeat(first|exact bl0 _ _|refine bl1 ?_ (by simp<;>omega) _|refine bl2 ?_|refine bl3 ?_ _|refine bl4 ?_ (by simp<;>omega) _))) hk1 hR1 HO.out; obtain ⟨p0, p1, p2, pf, pl⟩ := hL1.l.facts; simp only at p0 p1 p2; have HL1 : Hid _ := hL1; have HK1 : Hid (Kept (LdM lb b) w w1) := Kept.trans (M' := LdM lb b) (by repeat'(first|exact kep0 _ _|refine kep1 ?_ ?_ _|refine kep2 ?_|refine kep3 ?_ _|refine kep4 ?_ _|exact Or.inr rfl|exact Or.inr (Or.inl rfl)|(refine Or.inl ?_;simp;done)|(refine Or.inl ?_;simp;omega))) (LdM.of hk1) (fun _ _ e => e); have hG := (hk1.block w.heap.size (by simp) (by omega)).trans (blk_new _ _); have HG1 : Hid _ := hG; have g0 := blk_cell hG 0; have g1 := blk_cell hG 1; have g2 := blk_cell hG 2; have g3 := blk_cell hG 3; have gf := blk_frozen hG; have gl := blk_lt hG; simp at g0 g1 g2 g3; clear hL1 hk1 hG))
  refine bodyPost_ret (v := .agg #[.int .i64 1, .string ⟨#[]⟩, .int .i64 ((Rf.varL ⟨R, L.fresh, L.height⟩).1 : Int), .int .i64 0]) (by simp [results, Tryz.results119, go_sem, *]) rfl ?_
  rw [hP.out]
  exact ⟨rfl, HL2.out.kept (keep4 _ _ _ _ _ _) (by omega) (by omega), HK2.out.trans (keep4 _ _ _ _ _ _) (fun i hi e => by omega)⟩
 ·by_cases c6 : n = 6
  ·have hP : Hid (Rf.partL L = Rf.numPL ⟨R, L.fresh, L.height⟩) := by unfold Hid Rf.partL; rw [<- hn.out, <- hR.out, if_neg c5, if_pos c6]
   have hv0 := Rf.numL_le 1999999998 R
   obtain ⟨v, hv⟩ : ∃ v, Hid (v = (Rf.numL 1999999998 R).1) := ⟨_, rfl⟩
   obtain ⟨S, hS⟩ : ∃ S, Hid (S = (Rf.numL 1999999998 R).2) := ⟨_, rfl⟩
   have HOS : Hid (Rf.RdrOk S) := by unfold Hid; rw [hS.out]; exact Rf.numL_ok _ _
   rw [<- hv.out] at hv0
   have hP2 : Hid (Rf.numPL ⟨R, L.fresh, L.height⟩ = (⟨2, ⟨#[]⟩, (v : Int) - 999999999, 0⟩, ⟨S, L.fresh, L.height⟩)) := by unfold Hid Rf.numPL; rw [hv.out, hS.out]
   subst c6
   go_enter Tryz.func119, Tryz.ntmps119
   go_wp2_with (first
    | (have h9 := HL1; go_at_call 40; refine (pnumL_any _ b R 1999999998 HL1.out.r HO.out (by omega)).mono ?_; rintro x w2 ⟨hx2, hR2, hk2⟩; rw [<- hv.out] at hx2; subst hx2; rw [<- hS.out] at hR2; have HL2 : Hid _ := LdAt.go HL1.out hk2 hR2 HOS.out; have HK2 : Hid (Kept (LdM lb b) w w2) := HK1.out.trans (LdM.of hk2) (fun _ _ e => e); have hG := (hk2.block w.heap.size gl (by omega)).trans HG1.out; clear g0 g1 g2 g3 gf gl; have g0 := blk_cell hG 0; have g1 := blk_cell hG 1; have g2 := blk_cell hG 2; have g3 := blk_cell hG 3; have gf := blk_frozen hG; have gl := blk_lt hG; simp at g0 g1 g2 g3; clear hG hk2)
    | (go_at_call 40; refine (pnumL_any _ b L.r 6 (H.out.r.below (by repeat(first|exact bl0 _ _|refine bl1 ?_ (by simp<;>omega) _|refine bl2 ?_|refine bl3 ?_ _|refine bl4 ?_ (by simp<;>omega) _))) H.out.ok (by omega)).mono ?_; rintro x w1 ⟨hx1, hR1, hk1⟩; rw [<- hn.out] at hx1; subst hx1; rw [<- hR.out] at hR1; have hL1 := LdAt.go (H.out.below (by repeat(first|exact bl0 _ _|refine bl1 ?_ (by simp<;>omega) _|refine bl2 ?_|refine bl3 ?_ _|refine bl4 ?_ (by simp<;>omega) _))) hk1 hR1 HO.out; obtain ⟨p0, p1, p2, pf, pl⟩ := hL1.l.facts; simp only at p0 p1 p2; have HL1 : Hid _ := hL1; have HK1 : Hid (Kept (LdM lb b) w w1) := Kept.trans (M' := LdM lb b) (by repeat'(first|exact kep0 _ _|refine kep1 ?_ ?_ _|refine kep2 ?_|refine kep3 ?_ _|refine kep4 ?_ _|exact Or.inr rfl|exact Or.inr (Or.inl rfl)|(refine Or.inl ?_;simp;done)|(refine Or.inl ?_;simp;omega))) (LdM.of hk1) (fun _ _ e => e); have hG := (hk1.block w.heap.size (by simp) (by omega)).trans (blk_new _ _); have HG1 : Hid _ := hG; have g0 := blk_cell hG 0; have g1 := blk_cell hG 1; have g2 := blk_cell hG 2; have g3 := blk_cell hG 3; have gf := blk_frozen hG; have gl := blk_lt hG; simp at g0 g1 g2 g3; clear hL1 hk1 hG))
   refine bodyPost_ret (v := .agg #[.int .i64 2, .string ⟨#[]⟩, .int .i64 ((v : Int) - 999999999), .int .i64 0]) (by simp [results, Tryz.results119, go_sem, *]) rfl ?_
   rw [hP.out, hP2.out]
   exact ⟨rfl, HL2.out.kept (keep4 _ _ _ _ _ _) (by omega) (by omega), HK2.out.trans (keep4 _ _ _ _ _ _) (fun i hi e => by omega)⟩
  ·have hP : Hid (Rf.partL L = Rf.namePL n ⟨R, L.fresh, L.height⟩) := by unfold Hid Rf.partL; rw [<- hn.out, <- hR.out, if_neg c5, if_neg c6]
   have hx0 := Rf.wordL_size 12 R
   obtain ⟨X, hX⟩ : ∃ X, Hid (X = (Rf.wordL 12 R).1) := ⟨_, rfl⟩
   obtain ⟨S, hS⟩ : ∃ S, Hid (S = (Rf.wordL 12 R).2) := ⟨_, rfl⟩
   have HOS : Hid (Rf.RdrOk S) := by unfold Hid; rw [hS.out]; exact Rf.wordL_ok
   rw [<- hX.out] at hx0
   have hP2 : Hid (Rf.namePL n ⟨R, L.fresh, L.height⟩ = (⟨3, X, 0, n⟩, ⟨if Rf.isTokB X 97 = true then S else Rf.refuse, L.fresh, L.height⟩)) := by unfold Hid Rf.namePL; rw [hX.out, hS.out]
   have c5i : ((n : Int) == 5) = false := beq_eq_false_iff_ne.2 (by omega)
   have c6i : ((n : Int) == 6) = false := beq_eq_false_iff_ne.2 (by omega)
   cases hT : Rf.isTokB X 97
   ·have HT : Hid _ := hT
    rw [hT, if_neg (by decide)] at hP2
    clear hT
    go_enter Tryz.func119, Tryz.ntmps119
    go_wp2_with (first
     | (go_at_call 57; refine (prefuse_any _ b S HL3.out.r).mono ?_; rintro x w4 ⟨rfl, hR4, hk4⟩; have HL4 : Hid _ := LdAt.go HL3.out hk4 hR4 Rf.refuse_ok; have HK4 : Hid (Kept (LdM lb b) w w4) := HK3.out.trans (LdM.of hk4) (fun _ _ e => e); have hG := (hk4.block w.heap.size gl (by omega)).trans HG3.out; clear g0 g1 g2 g3 gf gl; have g0 := blk_cell hG 0; have g1 := blk_cell hG 1; have g2 := blk_cell hG 2; have g3 := blk_cell hG 3; have gf := blk_frozen hG; have gl := blk_lt hG; simp at g0 g1 g2 g3; clear hG hk4)
     | (go_at_call 132; refine (pisName_any X _ (by omega)).mono ?_; rintro x w3 ⟨hx3, hb3⟩; rw [HT.out] at hx3; subst hx3; have HL3 : Hid _ := HL2.out.below hb3; have HK3 : Hid (Kept (LdM lb b) w w3) := HK2.out.trans (Kept.of_below hb3 (LdM lb b)) (fun _ _ e => e); have hG := (hb3.block w.heap.size gl).trans HG2.out; have HG3 : Hid _ := hG; clear g0 g1 g2 g3 gf gl p0 p1 p2 pf pl; obtain ⟨p0, p1, p2, pf, pl⟩ := HL3.out.l.facts; simp only at p0 p1 p2; have g0 := blk_cell hG 0; have g1 := blk_cell hG 1; have g2 := blk_cell hG 2; have g3 := blk_cell hG 3; have gf := blk_frozen hG; have gl := blk_lt hG; simp at g0 g1 g2 g3; clear hG hb3)
     | (go_at_call 56; refine (pwordL_any _ b R 12 HL1.out.r HO.out (by omega)).mono ?_; rintro x w2 ⟨hx2, hR2, hk2⟩; rw [<- hX.out] at hx2; subst hx2; rw [<- hS.out] at hR2; have HL2 : Hid _ := LdAt.go HL1.out hk2 hR2 HOS.out; have HK2 : Hid (Kept (LdM lb b) w w2) := HK1.out.trans (LdM.of hk2) (fun _ _ e => e); have hG := (hk2.block w.heap.size gl (by omega)).trans HG1.out; have HG2 : Hid _ := hG; clear g0 g1 g2 g3 gf gl p0 p1 p2 pf pl; obtain ⟨p0, p1, p2, pf, pl⟩ := HL2.out.l.facts; simp only at p0 p1 p2; have g0 := blk_cell hG 0; have g1 := blk_cell hG 1; have g2 := blk_cell hG 2; have g3 := blk_cell hG 3; have gf := blk_frozen hG; have gl := blk_lt hG; simp at g0 g1 g2 g3; clear hG hk2)
     | (go_at_call 40; refine (pnumL_any _ b L.r 6 (H.out.r.below (by repeat(first|exact bl0 _ _|refine bl1 ?_ (by simp<;>omega) _|refine bl2 ?_|refine bl3 ?_ _|refine bl4 ?_ (by simp<;>omega) _))) H.out.ok (by omega)).mono ?_; rintro x w1 ⟨hx1, hR1, hk1⟩; rw [<- hn.out] at hx1; subst hx1; rw [<- hR.out] at hR1; have hL1 := LdAt.go (H.out.below (by repeat(first|exact bl0 _ _|refine bl1 ?_ (by simp<;>omega) _|refine bl2 ?_|refine bl3 ?_ _|refine bl4 ?_ (by simp<;>omega) _))) hk1 hR1 HO.out; obtain ⟨p0, p1, p2, pf, pl⟩ := hL1.l.facts; simp only at p0 p1 p2; have HL1 : Hid _ := hL1; have HK1 : Hid (Kept (LdM lb b) w w1) := Kept.trans (M' := LdM lb b) (by repeat'(first|exact kep0 _ _|refine kep1 ?_ ?_ _|refine kep2 ?_|refine kep3 ?_ _|refine kep4 ?_ _|exact Or.inr rfl|exact Or.inr (Or.inl rfl)|(refine Or.inl ?_;simp;done)|(refine Or.inl ?_;simp;omega))) (LdM.of hk1) (fun _ _ e => e); have hG := (hk1.block w.heap.size (by simp) (by omega)).trans (blk_new _ _); have HG1 : Hid _ := hG; have g0 := blk_cell hG 0; have g1 := blk_cell hG 1; have g2 := blk_cell hG 2; have g3 := blk_cell hG 3; have gf := blk_frozen hG; have gl := blk_lt hG; simp at g0 g1 g2 g3; clear hL1 hk1 hG))
    refine bodyPost_ret (v := .agg #[.int .i64 3, .string X, .int .i64 0, .int .i64 n]) (by simp [results, Tryz.results119, go_sem, *]) rfl ?_
    rw [hP.out, hP2.out]
    exact ⟨rfl, HL4.out.kept (keep4 _ _ _ _ _ _) (by omega) (by omega), HK4.out.trans (keep4 _ _ _ _ _ _) (fun i hi e => by omega)⟩
   ·have HT : Hid _ := hT
    rw [hT, if_pos rfl] at hP2
    clear hT
    go_enter Tryz.func119, Tryz.ntmps119
    go_wp2_with (first
     | (go_at_call 132; refine (pisName_any X _ (by omega)).mono ?_; rintro x w3 ⟨hx3, hb3⟩; rw [HT.out] at hx3; subst hx3; have HL3 : Hid _ := HL2.out.below hb3; have HK3 : Hid (Kept (LdM lb b) w w3) := HK2.out.trans (Kept.of_below hb3 (LdM lb b)) (fun _ _ e => e); have hG := (hb3.block w.heap.size gl).trans HG2.out; have HG3 : Hid _ := hG; clear g0 g1 g2 g3 gf gl p0 p1 p2 pf pl; obtain ⟨p0, p1, p2, pf, pl⟩ := HL3.out.l.facts; simp only at p0 p1 p2; have g0 := blk_cell hG 0; have g1 := blk_cell hG 1; have g2 := blk_cell hG 2; have g3 := blk_cell hG 3; have gf := blk_frozen hG; have gl := blk_lt hG; simp at g0 g1 g2 g3; clear hG hb3)
     | (go_at_call 56; refine (pwordL_any _ b R 12 HL1.out.r HO.out (by omega)).mono ?_; rintro x w2 ⟨hx2, hR2, hk2⟩; rw [<- hX.out] at hx2; subst hx2; rw [<- hS.out] at hR2; have HL2 : Hid _ := LdAt.go HL1.out hk2 hR2 HOS.out; have HK2 : Hid (Kept (LdM lb b) w w2) := HK1.out.trans (LdM.of hk2) (fun _ _ e => e); have hG := (hk2.block w.heap.size gl (by omega)).trans HG1.out; have HG2 : Hid _ := hG; clear g0 g1 g2 g3 gf gl p0 p1 p2 pf pl; obtain ⟨p0, p1, p2, pf, pl⟩ := HL2.out.l.facts; simp only at p0 p1 p2; have g0 := blk_cell hG 0; have g1 := blk_cell hG 1; have g2 := blk_cell hG 2; have g3 := blk_cell hG 3; have gf := blk_frozen hG; have gl := blk_lt hG; simp at g0 g1 g2 g3; clear hG hk2)
     | (go_at_call 40; refine (pnumL_any _ b L.r 6 (H.out.r.below (by repeat(first|exact bl0 _ _|refine bl1 ?_ (by simp<;>omega) _|refine bl2 ?_|refine bl3 ?_ _|refine bl4 ?_ (by simp<;>omega) _))) H.out.ok (by omega)).mono ?_; rintro x w1 ⟨hx1, hR1, hk1⟩; rw [<- hn.out] at hx1; subst hx1; rw [<- hR.out] at hR1; have hL1 := LdAt.go (H.out.below (by repeat(first|exact bl0 _ _|refine bl1 ?_ (by simp<;>omega) _|refine bl2 ?_|refine bl3 ?_ _|refine bl4 ?_ (by simp<;>omega) _))) hk1 hR1 HO.out; obtain ⟨p0, p1, p2, pf, pl⟩ := hL1.l.facts; simp only at p0 p1 p2; have HL1 : Hid _ := hL1; have HK1 : Hid (Kept (LdM lb b) w w1) := Kept.trans (M' := LdM lb b) (by repeat'(first|exact kep0 _ _|refine kep1 ?_ ?_ _|refine kep2 ?_|refine kep3 ?_ _|refine kep4 ?_ _|exact Or.inr rfl|exact Or.inr (Or.inl rfl)|(refine Or.inl ?_;simp;done)|(refine Or.inl ?_;simp;omega))) (LdM.of hk1) (fun _ _ e => e); have hG := (hk1.block w.heap.size (by simp) (by omega)).trans (blk_new _ _); have HG1 : Hid _ := hG; have g0 := blk_cell hG 0; have g1 := blk_cell hG 1; have g2 := blk_cell hG 2; have g3 := blk_cell hG 3; have gf := blk_frozen hG; have gl := blk_lt hG; simp at g0 g1 g2 g3; clear hL1 hk1 hG))
    refine bodyPost_ret (v := .agg #[.int .i64 3, .string X, .int .i64 0, .int .i64 n]) (by simp [results, Tryz.results119, go_sem, *]) rfl ?_
    rw [hP.out, hP2.out]
    exact ⟨rfl, HL3.out.kept (keep4 _ _ _ _ _ _) (by omega) (by omega), HK3.out.trans (keep4 _ _ _ _ _ _) (fun i hi e => by omega)⟩
end Go.Proofs.YtbiojnljihgpoaaGreatDoor
namespace Rf
theorem termL_stop {f : Nat} {m : Int} {t : List Part} {L : Ldr} (h : ¬ (0 < m /\ L.r.wrong = false)) : termL f m t L = (t, L) := by
 cases f with
 | zero => rfl
 | succ f => rw [termL, if_neg h]
theorem termL_go {f : Nat} {m : Int} {t : List Part} {L : Ldr} (h : 0 < m) (h2 : L.r.wrong = false) : termL (f + 1) m t L = termL f (m + (partL L).1.args - 1) (t ++ [(partL L).1]) (over (t ++ [(partL L).1]) (partL L).2) := by rw [termL, if_pos ⟨h, h2⟩]
end Rf
namespace Go.Proofs.YtbiojnljihgpoaaGreatDoor
open Go.RowKit
set_option maxHeartbeats 4000000 in
set_option maxRecDepth 100000 in
theorem ptermL_any (w : World) (lb b : Nat) (L : Rf.Ldr) (h : LdAt w lb b L) (hf : L.fresh <= 900000000) :
  Calls Tryz.prog 100 #[.pointer (some ⟨lb, 0, none⟩)] w fun x w' => ∃ a n c, x = .returned (.slice a n c) /\ Seen w' 101 partCells (.slice a n c) (Rf.termL 202 1 [] L).1 /\ LdAt w' lb b (Rf.termL 202 1 [] L).2 /\ Kept (LdM lb b) w w' := by
 have hll := blk_lt h.l
 have hbl := blk_lt h.r
 have H : Hid _ := h
 clear h
 go_enter Tryz.func100, Tryz.ntmps100
 go_wp2_with fail
 go_loopg [3, 4] 203 (fun M tv mv wr => ∃ (k : Nat) (m : Int) (t : List Rf.Part) (K : Rf.Ldr), k <= 201 /\ M = 203 - k /\ t.length = k /\ mv = .int .i64 m /\ -1000 <= m /\ m <= 1 + 4 * k /\ RowIs wr w.heap.size 101 4 partCells tv t /\ LdAt wr lb b K /\ K.fresh <= L.fresh + k /\ Hid (200 < k -> K.r.wrong = true) /\ Kept (LdM lb b) w wr /\ Hid (Rf.termL (202 - k) m t K = Rf.termL 202 1 [] L))
 case atStart => exact ⟨0, 1, [], L, by omega, rfl, rfl, rfl, by omega, by omega, RowIs.nil _ _ _ _ _, H.out, by omega, (fun e => by omega), Kept.refl _ _, rfl⟩
 case round =>
  obtain ⟨k, m, t, K, hk, rfl, hkl, rfl, hm0, hm1, hrow, hL, hfr, h200, hkp, hE⟩ := hrel
  subst hkl
  have hsz := hkp.size
  obtain ⟨a4, c4, hv4⟩ := row_slice hrow
  subst hv4
  obtain ⟨q0, q1, q2, qf, ql⟩ := hL.l.facts
  have HL : Hid _ := hL
  have HR : Hid _ := hrow
  by_cases hm : 0 < m
  ·cases hw : K.r.wrong
   ·have hk2 : t.length <= 200 := by
     have : ¬ 200 < t.length := fun e => by have := h200.out e; rw [hw] at this; cases this
     omega
    have hE2 : Hid (Rf.termL (202 - (t.length + 1)) (m + (Rf.partL K).1.args - 1) (t ++ [(Rf.partL K).1]) (Rf.over (t ++ [(Rf.partL K).1]) (Rf.partL K).2) = Rf.termL 202 1 [] L) := by
     unfold Hid
     rw [<- hE.out, show 202 - t.length = 202 - (t.length + 1) + 1 by omega, Rf.termL_go hm hw]
    obtain ⟨f1, f2, f3, f4, f5, f6⟩ := Rf.partL_facts K
    obtain ⟨p, hp⟩ : ∃ p, Hid (p = (Rf.partL K).1) := ⟨_, rfl⟩
    obtain ⟨P, hP⟩ : ∃ P, Hid (P = (Rf.partL K).2) := ⟨_, rfl⟩
    rw [<- hp.out, <- hP.out] at hE2
    have hargs : 0 <= p.args /\ p.args <= 4 := by rw [hp.out]; exact f1.1.1
    have hPf : P.fresh <= L.fresh + (t.length + 1) := by rw [hP.out]; omega
    have HPO : Hid (Rf.RdrOk P.r) := by unfold Hid; rw [hP.out]; exact f4
    obtain ⟨pk, pn, pv, pa⟩ := p
    simp only at hargs
    obtain ⟨ha0, ha1⟩ := hargs
    have hmi : (0 : Int) < m := hm
    have HWF : Hid (K.r.wrong = false) := hw
    clear f1 f2 f3 f4 f5 f6 hL hrow hw
    by_cases hov : 200 < t.length + 1
    ·have hov1 : (200 : Int) < (t.length : Int) + 1 := by omega
     have hO : Hid (Rf.over (t ++ [⟨pk, pn, pv, pa⟩]) P = ⟨Rf.refuse, P.fresh, P.height⟩) := by unfold Hid Rf.over; rw [if_pos (by simp; omega)]
     rw [hO.out] at hE2
     go_wp2_with (first
      | (go_at_call 57; refine (prefuse_any _ b P.r HL3.out.r).mono ?_; rintro x w4 ⟨rfl, hR4, hk4⟩; have HL4 : Hid _ := LdAt.go HL3.out hk4 hR4 Rf.refuse_ok; have HK4 : Hid (Kept (LdM lb b) w w4) := HK3.out.trans (LdM.of hk4) (fun _ _ e => e); have HR4 : Hid _ := HR3.out.keptBy hk4 (fun j e => by have h9 := (HR3.out.lt j e).1; intro e2; omega); clear hk4 hR4)
      | (go_at_call 42; refine (pwrong_any _ b K.r HL.out.r).mono ?_; rintro x w1 ⟨hx1, hw1⟩; rw [HWF.out] at hx1; subst hx1; subst w1)
      | (go_at_call 119; refine (ppart_any _ lb b K HL.out (by omega)).mono ?_; rintro x w2 ⟨hx2, hL2, hk2'⟩; rw [<- hp.out] at hx2; subst hx2; rw [<- hP.out] at hL2; have HL2 : Hid _ := hL2; have HR2 : Hid _ := HR.out.keptBy hk2' (fun j e => by have h9 := (HR.out.lt j e).1; intro e2; rcases e2 with e2 | e2 <;> omega); have HK2 : Hid (Kept (LdM lb b) w w2) := hkp.trans hk2' (fun _ _ e => e); have hz2 := HK2.out.size; clear hL2 hk2')
      | (at_builtin; refine wpList_app Tryz.elemPart partCells partCells_len partCells_one _ rfl (.tmp 23) (.tmp 25) rfl w.heap.size (.slice a4 t.length c4) t rfl ((HR2.out.alloc _).alloc _) ⟨_, 0, none⟩ 1 ⟨pk, pn, pv, pa⟩ rfl (cell_four_at _ _ (by simp) _ _ _ _ _) (by omega) (by simp; omega) ?_; intro gA capA w3 hrow3 hgr3 hnb3; have HL3 : Hid _ := ((HL2.out.below (by repeat(first|exact bl0 _ _|refine bl1 ?_ (by simp<;>omega) _|refine bl2 ?_|refine bl3 ?_ _|refine bl4 ?_ (by simp<;>omega) _)) : LdAt ((w2.alloc _).alloc _) lb b P)).kept (M := fun k => (Value.slice a4 t.length c4).ownBlock = some k) ⟨hgr3.os, hgr3.tape, hgr3.output, hgr3.size, fun j hj hr => hgr3.block j hj (fun e => hr e.symm)⟩ (fun e => by have := (HR.out.lt _ e).1; omega) (fun e => by have := (HR.out.lt _ e).1; omega); have HK3 : Hid (Kept (LdM lb b) w w3) := ((HK2.out.alloc _).alloc _).grown hgr3 (fun j e => .inl (HR.out.lt j e).1); have HR3 : Hid _ := hrow3; obtain ⟨r0, r1, r2, rf, rl⟩ := HL3.out.l.facts; clear hgr3 hnb3 hrow3))
     go_roundg (202 - t.length)
     case measure => omega
     case rel => exact ⟨t.length + 1, m + pa - 1, t ++ [⟨pk, pn, pv, pa⟩], ⟨Rf.refuse, P.fresh, P.height⟩, by omega, by omega, by simp, by go_num, by omega, by omega, HR4.out, HL4.out, hPf, (fun _ => rfl), HK4.out, hE2⟩
    ·have hov1 : ¬ ((200 : Int) < (t.length : Int) + 1) := by omega
     have hO : Hid (Rf.over (t ++ [⟨pk, pn, pv, pa⟩]) P = P) := by unfold Hid Rf.over; rw [if_neg (by simp; omega)]
     rw [hO.out] at hE2
     go_wp2_with (first
      | (go_at_call 42; refine (pwrong_any _ b K.r HL.out.r).mono ?_; rintro x w1 ⟨hx1, hw1⟩; rw [HWF.out] at hx1; subst hx1; subst w1)
      | (go_at_call 119; refine (ppart_any _ lb b K HL.out (by omega)).mono ?_; rintro x w2 ⟨hx2, hL2, hk2'⟩; rw [<- hp.out] at hx2; subst hx2; rw [<- hP.out] at hL2; have HL2 : Hid _ := hL2; have HR2 : Hid _ := HR.out.keptBy hk2' (fun j e => by have h9 := (HR.out.lt j e).1; intro e2; rcases e2 with e2 | e2 <;> omega); have HK2 : Hid (Kept (LdM lb b) w w2) := hkp.trans hk2' (fun _ _ e => e); have hz2 := HK2.out.size; clear hL2 hk2')
      | (at_builtin; refine wpList_app Tryz.elemPart partCells partCells_len partCells_one _ rfl (.tmp 23) (.tmp 25) rfl w.heap.size (.slice a4 t.length c4) t rfl ((HR2.out.alloc _).alloc _) ⟨_, 0, none⟩ 1 ⟨pk, pn, pv, pa⟩ rfl (cell_four_at _ _ (by simp) _ _ _ _ _) (by omega) (by simp; omega) ?_; intro gA capA w3 hrow3 hgr3 hnb3; have HL3 : Hid _ := ((HL2.out.below (by repeat(first|exact bl0 _ _|refine bl1 ?_ (by simp<;>omega) _|refine bl2 ?_|refine bl3 ?_ _|refine bl4 ?_ (by simp<;>omega) _)) : LdAt ((w2.alloc _).alloc _) lb b P)).kept (M := fun k => (Value.slice a4 t.length c4).ownBlock = some k) ⟨hgr3.os, hgr3.tape, hgr3.output, hgr3.size, fun j hj hr => hgr3.block j hj (fun e => hr e.symm)⟩ (fun e => by have := (HR.out.lt _ e).1; omega) (fun e => by have := (HR.out.lt _ e).1; omega); have HK3 : Hid (Kept (LdM lb b) w w3) := ((HK2.out.alloc _).alloc _).grown hgr3 (fun j e => .inl (HR.out.lt j e).1); have HR3 : Hid _ := hrow3; obtain ⟨r0, r1, r2, rf, rl⟩ := HL3.out.l.facts; clear hgr3 hnb3 hrow3))
     go_roundg (202 - t.length)
     case measure => omega
     case rel => exact ⟨t.length + 1, m + pa - 1, t ++ [⟨pk, pn, pv, pa⟩], P, by omega, by omega, by simp, by go_num, by omega, by omega, HR3.out, HL3.out, hPf, (fun e => by omega), HK3.out, hE2⟩
   ·have hS : Hid (Rf.termL 202 1 [] L = (t, K)) := by unfold Hid; rw [<- hE.out, Rf.termL_stop (by rw [hw]; simp)]
    have hmi : (0 : Int) < m := hm
    have HWF : Hid (K.r.wrong = true) := hw
    clear hL hrow hw
    go_wp2_with (go_at_call 42; refine (pwrong_any _ b K.r HL.out.r).mono ?_; rintro x w1 ⟨hx1, hw1⟩; rw [HWF.out] at hx1; subst hx1; subst w1)
    go_ret
    rw [hS.out]
    exact ⟨_, _, _, rfl, HR.out.seen, HL.out, hkp⟩
  ·have hS : Hid (Rf.termL 202 1 [] L = (t, K)) := by unfold Hid; rw [<- hE.out, Rf.termL_stop (fun e => hm e.1)]
   have hmi : ¬ ((0 : Int) < m) := hm
   clear hL hrow
   go_wp2_with fail
   go_ret
   rw [hS.out]
   exact ⟨_, _, _, rfl, HR.out.seen, HL.out, hkp⟩
end Go.Proofs.YtbiojnljihgpoaaGreatDoor
namespace Go.Proofs.YtbiojnljihgpoaaGreatDoor
open Go.RowKit
variable {nm : Value}
theorem kept_q {w : World} {q : Nat} {rb : Option Nat} (i : Nat) (u : Value) : Kept (May q rb) w (w.setCell ⟨q, i, none⟩ u) := (Kept.refl _ w).setCell (p := ⟨q, i, none⟩) (.inr (.inl rfl)) u
theorem QIs.rq {w : World} {q : Nat} {rb : Option Nat} {vN vg vt vC : Value} {fr : Int} {names : List ByteArray} {cf : Rf.Cf} (h : QIs w q rb vN vg vt fr vC names cf) : rb ≠ some q := by
 intro e
 obtain ⟨acc, hr, _, _⟩ := h.r.ex
 obtain ⟨cs', hc'⟩ := hr.typed q (h.o.trans e)
 have hb := h.b
 unfold QB at hb
 rw [hb] at hc'
 injection hc' with h3; injection h3 with _ h4
 exact absurd h4 (by decide)
theorem Free.q {w : World} {q : Nat} {cs : Array Value} (h : w.heap[q]? = some (.cells cs 76 (0, 0))) : Free w (fun k => k = q) := by
 have key : ∀ t : TypeId, t ≠ 76 -> ∀ k cs', w.heap[k]? = some (.cells cs' t (0, 0)) -> ¬ k = q := by
  intro t ht k cs' hc e
  subst e
  rw [h] at hc
  injection hc with h3; injection h3 with _ h4
  exact ht h4.symm
 exact ⟨key _ (by decide), key _ (by decide), key _ (by decide), key _ (by decide), key _ (by decide)⟩
theorem kept_one {w : World} {q : Nat} (i : Nat) (u : Value) : Kept (fun k => k = q) w (w.setCell ⟨q, i, none⟩ u) := (Kept.refl (fun k => k = q) w).setCell (p := ⟨q, i, none⟩) (.inr rfl) u
theorem QIs.now {w w' : World} {q : Nat} {rb : Option Nat} {vN vg vt vC vg' vt' : Value} {fr fr' : Int} {names : List ByteArray} {cf : Rf.Cf} {S : Rf.St} (h : QIs w q rb vN vg vt fr vC names cf) (hk : Kept (fun k => k = q) w w') (hb : QB w' q vN vg' vt' fr' vC) (hs : StIs w vg' vt' fr' S) : QIs w' q rb vN vg' vt' fr' vC names ⟨S, cf.chs⟩ := by
 have hf := Free.q h.b
 have hrq := h.rq
 exact ⟨hb, Seen.kept h.n hk hf.s, hs.kept hk hf, h.r.kept hk hf (fun k e e2 => hrq (by rw [<- h.o, e, e2])), h.o⟩
theorem SeenTs.pos {w : World} {a : Option Addr} {n c : Nat} {ts : List (List Rf.Part)} (h : SeenTs w (.slice a n c) ts) (hne : ts ≠ []) : ∃ g off, a = some ⟨g, off, none⟩ /\ g < w.heap.size /\ n = ts.length /\ 1 <= n /\ n <= c := by
 obtain ⟨acc, h1, h2, rfl⟩ := h.ex
 have hl : 1 <= (acc.map (·.1)).length := by
  cases acc with
  | nil => exact absurd rfl hne
  | cons => simp
 obtain ⟨g, off, rfl⟩ := h1.pos hl
 have hn := h1.len
 have hc := h1.cap
 rw [List.length_map] at hn hl hc
 exact ⟨g, off, rfl, h1.lt, by rw [List.length_map]; exact hn, by omega, by omega⟩
theorem SeenTs.tail1 {w : World} {g off n c : Nat} {ts : List (List Rf.Part)} (h : SeenTs w (.slice (some ⟨g, off, none⟩) n c) ts) (hc : c = 1) : SeenTs w (.slice (some ⟨g, off, none⟩) (ts.length - 1) 0) ts.tail := by
 obtain ⟨acc, h1, h2, rfl⟩ := h.ex
 refine ⟨acc.tail, ?_, fun q hq => h2 q (List.mem_of_mem_tail hq), by rw [List.map_tail]⟩
 have h3 := h1.dropEnd 1 hc
 rw [List.length_map] at h3
 rw [List.length_map, List.map_tail, <- List.drop_one]
 exact h3
theorem SeenTs.tail2 {w : World} {g off n c : Nat} {ts : List (List Rf.Part)} (h : SeenTs w (.slice (some ⟨g, off, none⟩) n c) ts) (hne : ts ≠ []) : SeenTs w (.slice (some ⟨g, off + 1, none⟩) (ts.length - 1) (c - 1)) ts.tail := by
 obtain ⟨acc, h1, h2, rfl⟩ := h.ex
 refine ⟨acc.tail, ?_, fun q hq => h2 q (List.mem_of_mem_tail hq), by rw [List.map_tail]⟩
 have h3 := h1.drop slCells_len 1 (by cases acc with | nil => exact absurd rfl hne | cons => simp)
 rw [List.length_map] at h3
 rw [List.length_map, List.map_tail, <- List.drop_one]
 exact h3
set_option maxHeartbeats 1000000 in
theorem pmeet_any (w : World) (q : Nat) (rb : Option Nat) (names : List ByteArray) (cf : Rf.Cf) (h : QAt nm w q rb names cf) (hne : cf.now.goals ≠ []) :
  Calls Tryz.prog 110 #[.pointer (some ⟨q, 0, none⟩)] w fun r w' => r = .returned (.int .i64 0) /\ QAt nm w' q rb names (Rf.meetP cf).2 /\ Kept (May q rb) w w' := by
 obtain ⟨vg, vt, fr, vC, hQ⟩ := h.ex
 obtain ⟨k0, k1, k2, k3, k4, kf, kl⟩ := hQ.b.facts
 obtain ⟨ag, cg, rfl⟩ := hQ.s.g.slice
 obtain ⟨g, off, rfl, hgl, _, hp1, hp2⟩ := hQ.s.g.pos hne
 have HQ : Hid _ := hQ
 have Hne : Hid _ := hne
 clear h hQ hne
 go_enter Tryz.func110, Tryz.ntmps110
 go_wp2_with fail
 all_goals
  go_ret
  refine ⟨rfl, ?_, kept_q _ _⟩
  refine (QIs.now (S := ⟨cf.now.goals.tail, cf.now.terms, cf.now.fresh⟩) HQ.out (kept_one _ _) (blk_set HQ.out.b 1 _) ⟨?_, HQ.out.s.t, HQ.out.s.f⟩).at
 ·exact HQ.out.s.g.tail1 ‹_›
 ·exact HQ.out.s.g.tail2 Hne.out
theorem row_setBeyond {α : Type} {w : World} {base : Nat} {e : TypeId} {size : Nat} {C : α -> List Value} {g n cap : Nat} {xs : List α} (hC : ∀ x, (C x).length = size) (h : RowIs w base e size C (.slice (some ⟨g, 0, none⟩) n cap) xs) (j : Nat) (hj : n * size <= j) (u : Value) : RowIs (w.setCell ⟨g, j, none⟩ u) base e size C (.slice (some ⟨g, 0, none⟩) n cap) xs := by
 have hn := row_len h
 rcases h.own.2 with ⟨h1, _⟩ | ⟨g', cap', cur, h1, h2, h3, h4, h5, h6, h7⟩
 ·cases h1
 ·obtain ⟨rfl, rfl⟩ : g = g' /\ cap = cap' := by injection h1 with a1 a2 a3; injection a1 with a1; injection a1 with a1; exact ⟨a1, a3⟩
  subst hn
  refine ⟨h.own.1, .inr ⟨g, cap, cur.setIfInBounds j u, rfl, h2, ?_, h4, h5, by simpa using h6, ?_⟩⟩
  ·simp [World.setCell, Array.getElem?_modify, h3]
  ·rw [Array.toList_setIfInBounds, List.take_set, h7]
   rw [List.set_eq_of_length_le]
   rw [flatMap_len C hC]; exact hj
theorem ChsAt.shape {w : World} {v : Value} {chs : List Rf.Ch} (h : ChsAt w v chs) : (v = .slice none 0 0 /\ chs = []) \/ ∃ g cap, v = .slice (some ⟨g, 0, none⟩) chs.length cap /\ g < w.heap.size /\ chs.length <= cap /\ cap <= maxLen := by
 obtain ⟨acc, h1, _, h3⟩ := h.ex
 have hl : acc.length = chs.length := by have := congrArg List.length h3; simpa using this
 rcases h1.shape with ⟨e1, e2⟩ | ⟨g, cap, e1, _, e2⟩
 ·refine .inl ⟨e1, ?_⟩
  have : acc = [] := by simpa using e2
  rw [this] at hl
  exact List.length_eq_zero_iff.1 hl.symm
 ·rw [List.length_map, hl] at e1 e2
  exact .inr ⟨g, cap, e1, e2⟩
theorem acc_last {acc : List (ChV × Rf.Ch)} {c : Rf.Ch} {low : List Rf.Ch} (h : acc.map (·.2) = (c :: low).reverse) : ∃ acc' x, acc = acc' ++ [(x, c)] /\ acc'.map (·.2) = low.reverse := by
 rw [List.reverse_cons] at h
 obtain ⟨a1, a2, e, h1, h2⟩ := List.map_eq_append_iff.1 h
 obtain ⟨y, rfl, hy⟩ := List.map_eq_singleton_iff.1 h2
 exact ⟨a1, y.1, by rw [e, <- hy], h1⟩
theorem ChsAt.last {w : World} {g n cap : Nat} {c : Rf.Ch} {low : List Rf.Ch} (h : ChsAt w (.slice (some ⟨g, 0, none⟩) n cap) (c :: low)) : ∃ x, ChIs w x c /\ (∀ j u, (chCells x)[j]? = some u -> w.cell? ⟨g, low.length * 4 + j, none⟩ = some u) /\ (∀ i, w.frozen? ⟨g, i, none⟩ = false) /\ ChsAt w (.slice (some ⟨g, 0, none⟩) low.length cap) low := by
 obtain ⟨acc, h1, h2, h3⟩ := h.ex
 obtain ⟨acc', x, rfl, h4⟩ := acc_last h3
 have hl : acc'.length = low.length := by have := congrArg List.length h4; simpa using this
 have hn := row_len h1
 rw [List.map_append, List.length_append, List.length_map] at hn
 simp only [List.map_cons, List.map_nil, List.length_cons, List.length_nil] at hn
 rw [hn] at h1
 rw [List.map_append] at h1
 refine ⟨x, h2 (x, c) (by simp), fun j u hu => ?_, fun i => row_frozen h1 i, acc', ?_, fun y hy => h2 y (by simp [hy]), h4⟩
 ·have h9 := h1.seen.cells chCells_len acc'.length x (by simp) j u hu
  rw [hl] at h9
  simpa using h9
 ·have h9 := row_pop (n := acc'.length) chCells_len h1
  rw [hl] at h9
  exact h9
theorem ChsAt.slice {w : World} {v : Value} {chs : List Rf.Ch} (h : ChsAt w v chs) : ∃ a c, v = .slice a chs.length c := by
 rcases h.shape with ⟨rfl, rfl⟩ | ⟨g, cap, rfl, _⟩
 ·exact ⟨_, _, rfl⟩
 ·exact ⟨_, _, rfl⟩
theorem QIs.turn {w w' : World} {q : Nat} {rb rb' : Option Nat} {vN vg vt vC vg' vt' vC' : Value} {fr fr' : Int} {names : List ByteArray} {cf cf' : Rf.Cf} (h : QIs w q rb vN vg vt fr vC names cf) (hk : Kept (May q rb) w w') (hb : QB w' q vN vg' vt' fr' vC') (hs : StIs w' vg' vt' fr' cf'.now) (hr : ChsAt w' vC' cf'.chs) (ho : vC'.ownBlock = rb') : QIs w' q rb' vN vg' vt' fr' vC' names cf' := ⟨hb, Seen.kept h.n hk h.free.s, hs, hr, ho⟩
theorem QIs.drop {w : World} {q : Nat} {rb : Option Nat} {vN vg vt : Value} {fr : Int} {g n m cap : Nat} {names : List ByteArray} {cf : Rf.Cf} {low : List Rf.Ch} (h : QIs w q rb vN vg vt fr (.slice (some ⟨g, 0, none⟩) n cap) names cf) (hlo : ChsAt w (.slice (some ⟨g, 0, none⟩) m cap) low) (u0 u1 u2 u3 : Value) : QAt vN (((((w.setCell ⟨g, m * 4, none⟩ u0).setCell ⟨g, m * 4 + 1, none⟩ u1).setCell ⟨g, m * 4 + 2, none⟩ u2).setCell ⟨g, m * 4 + 3, none⟩ u3).setCell ⟨q, 4, none⟩ (.slice (some ⟨g, 0, none⟩) m cap)) q rb names ⟨cf.now, low⟩ /\ Kept (May q rb) w (((((w.setCell ⟨g, m * 4, none⟩ u0).setCell ⟨g, m * 4 + 1, none⟩ u1).setCell ⟨g, m * 4 + 2, none⟩ u2).setCell ⟨g, m * 4 + 3, none⟩ u3).setCell ⟨q, 4, none⟩ (.slice (some ⟨g, 0, none⟩) m cap)) := by
 have hrb : rb = some g := h.o.symm
 have hqg : ¬ q = g := fun e => h.rq (by rw [hrb, e])
 have hM : May q rb g := .inr hrb.symm
 have hk4 : Kept (May q rb) w ((((w.setCell ⟨g, m * 4, none⟩ u0).setCell ⟨g, m * 4 + 1, none⟩ u1).setCell ⟨g, m * 4 + 2, none⟩ u2).setCell ⟨g, m * 4 + 3, none⟩ u3) := ((((Kept.refl _ w).setCell (p := ⟨g, _, none⟩) (.inr hM) u0).setCell (p := ⟨g, _, none⟩) (.inr hM) u1).setCell (p := ⟨g, _, none⟩) (.inr hM) u2).setCell (p := ⟨g, _, none⟩) (.inr hM) u3
 have hk5 := hk4.setCell (p := ⟨q, 4, none⟩) (.inr (.inl rfl)) (.slice (some ⟨g, 0, none⟩) m cap)
 have hkg : Kept (fun k => k = g) w ((((w.setCell ⟨g, m * 4, none⟩ u0).setCell ⟨g, m * 4 + 1, none⟩ u1).setCell ⟨g, m * 4 + 2, none⟩ u2).setCell ⟨g, m * 4 + 3, none⟩ u3) := ((((Kept.refl (fun k => k = g) w).setCell (p := ⟨g, _, none⟩) (.inr rfl) u0).setCell (p := ⟨g, _, none⟩) (.inr rfl) u1).setCell (p := ⟨g, _, none⟩) (.inr rfl) u2).setCell (p := ⟨g, _, none⟩) (.inr rfl) u3
 refine ⟨(QIs.turn (cf' := ⟨cf.now, low⟩) h hk5 (blk_set ((hkg.block q (blk_lt h.b) hqg).trans h.b) 4 _) (h.s.kept hk5 h.free) ?_ hrb.symm).at, hk5⟩
 obtain ⟨acc, h1, h2, h3⟩ := hlo.ex
 refine ⟨acc, ?_, fun x hx => (h2 x hx).kept hk5 h.free, h3⟩
 exact (row_setBeyond chCells_len (row_setBeyond chCells_len (row_setBeyond chCells_len (row_setBeyond chCells_len h1 _ (by omega) u0) _ (by omega) u1) _ (by omega) u2) _ (by omega) u3).setCell _ _ (fun e => hqg (by injection e with e; exact e.symm))
set_option maxHeartbeats 1000000 in
set_option maxRecDepth 100000 in
theorem pdropTo_any (w : World) (q : Nat) (rb : Option Nat) (names : List ByteArray) (cf : Rf.Cf) (ht : Int) (h : QAt nm w q rb names cf) (hl : cf.chs.length <= 20) :
  Calls Tryz.prog 89 #[.pointer (some ⟨q, 0, none⟩), .int .i64 ht] w fun r w' => r = .returned (.tuple #[]) /\ QAt nm w' q rb names ⟨cf.now, Rf.dropC cf.chs ht⟩ /\ Kept (May q rb) w w' := by
 obtain ⟨vg, vt, fr, vC, hQ⟩ := h.ex
 obtain ⟨k0, k1, k2, k3, k4, kf, kl⟩ := hQ.b.facts
 obtain ⟨ac, cc, rfl⟩ := hQ.r.slice
 have HQ : Hid _ := h
 clear h hQ
 obtain ⟨n0, hn0⟩ : ∃ n, Hid (cf.chs.length = n) := ⟨_, rfl⟩
 rw [hn0.out] at hl k4
 go_enter Tryz.func89, Tryz.ntmps89
 go_wp2_with fail
 clear k0 k1 k2 k3 k4 kf kl
 go_loopw [4] (fun iv wr => ∃ m : Nat, m <= n0 /\ iv = .int .i64 ((m : Int) - 1) /\ Hid (ht.toNat <= m \/ n0 = m) /\ QAt nm wr q rb names ⟨cf.now, cf.chs.drop (n0 - m)⟩ /\ Kept (May q rb) w wr) (fun iv _ => (intOf iv + 1).toNat)
 case atStart => exact ⟨n0, Nat.le_refl _, rfl, .inr rfl, by rw [Nat.sub_self, List.drop_zero]; exact HQ.out, Kept.refl _ _⟩
 case round =>
  obtain ⟨m, hm, rfl, hh, hQ, hk⟩ := hrel
  by_cases hgo : 1 <= m /\ ht <= (m : Int) - 1
  ·obtain ⟨m, rfl⟩ : ∃ m', m = m' + 1 := ⟨m - 1, by omega⟩
   obtain ⟨vg, vt, fr, vC, hQ⟩ := hQ.ex
   obtain ⟨c, low, hcl⟩ : ∃ c low, cf.chs.drop (n0 - (m + 1)) = c :: low := by
    cases hd : cf.chs.drop (n0 - (m + 1)) with
    | nil => have := congrArg List.length hd; rw [List.length_drop, hn0.out] at this; simp at this; omega
    | cons c low => exact ⟨c, low, rfl⟩
   have hlow : Hid (cf.chs.drop (n0 - m) = low) := by
    unfold Hid
    have h9 := congrArg List.tail hcl
    rw [List.tail_drop, List.tail_cons] at h9
    rw [<- h9]; congr 1; omega
   have hll : low.length = m := by have h9 := congrArg List.length hcl; rw [List.length_drop, hn0.out, List.length_cons] at h9; omega
   rw [hcl] at hQ
   obtain ⟨k0, k1, k2, k3, k4, kf, kl⟩ := hQ.b.facts
   rcases hQ.r.shape with ⟨_, e⟩ | ⟨g, cap, rfl, hgl, hcap, hmax⟩
   ·cases e
   rw [List.length_cons, hll] at hcap k4
   obtain ⟨x, hx, hxc, hxf, hlo⟩ := hQ.r.last
   rw [hll] at hxc hlo
   have x0 := hxc 0 _ rfl
   have x1 := hxc 1 _ rfl
   have x2 := hxc 2 _ rfl
   have x3 := hxc 3 _ rfl
   rw [Nat.add_zero] at x0
   have HQ1 : Hid _ := hQ
   have HLo : Hid _ := hlo
   have Hh := hh
   clear hQ hcl hx hxc hlo
   rw [show (((m + 1 : Nat) : Int) - 1) = (m : Int) by omega]
   have h2 : ht <= (m : Int) := by omega
   have hqg : ¬ g = q := fun e => HQ1.out.rq (by rw [<- HQ1.out.o, e]; rfl)
   have hqg' : ¬ q = g := fun e => hqg e.symm
   go_wp2_with fail
   go_roundw
   case rel =>
    obtain ⟨r1, r2⟩ := QIs.drop HQ1.out HLo.out (.slice none 0 0) (.slice none 0 0) (.int .i64 0) (.slice none 0 0)
    exact ⟨m, by omega, rfl, by unfold Hid; omega, by rw [hlow.out]; exact r1, hk.trans r2 (fun _ _ h => h)⟩
   case measure => simp [intOf]
  ·have hd : Hid (Rf.dropC cf.chs ht = cf.chs.drop (n0 - m)) := by
    unfold Hid Rf.dropC
    rw [hn0.out]
    have := hh.out
    congr 1
    omega
   by_cases h0 : (m : Int) - 1 < 0
   ·have h0' : ¬ (0 <= (m : Int) - 1) := by omega
    go_wp2_with fail
    go_end0
    exact ⟨rfl, by rw [hd.out]; exact hQ, hk⟩
   ·have h1 : ¬ ht <= (m : Int) - 1 := by omega
    have h0' : 0 <= (m : Int) - 1 := by omega
    go_wp2_with fail
    go_end0
    exact ⟨rfl, by rw [hd.out]; exact hQ, hk⟩
end Go.Proofs.YtbiojnljihgpoaaGreatDoor
