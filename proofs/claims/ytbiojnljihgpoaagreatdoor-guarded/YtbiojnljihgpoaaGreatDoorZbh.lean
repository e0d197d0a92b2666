
import Derived.Test.YtbiojnljihgpoaaGreatDoorZan
import Derived.Test.YtbiojnljihgpoaaGreatDoorZax
import Derived.Test.YtbiojnljihgpoaaGreatDoorZbg
import Derived.Test.YtbiojnljihgpoaaGreatDoorZal
namespace Rf
theorem partB_1 {p : Part} (h : (p.kind == 1) = true) : partB p = numB 5 ++ numB p.value.toNat := by unfold partB; rw [if_pos (eq_of_beq h)]
theorem partB_2 {p : Part} (h1 : (p.kind == 1) = false) (h : (p.kind == 2) = true) : partB p = numB 6 ++ numB (p.value + 999999999).toNat := by unfold partB; rw [if_neg (beq_eq_false_iff_ne.1 h1), if_pos (eq_of_beq h)]
theorem partB_3 {p : Part} (h1 : (p.kind == 1) = false) (h2 : (p.kind == 2) = false) : partB p = numB p.args.toNat ++ wordB p.name := by unfold partB; rw [if_neg (beq_eq_false_iff_ne.1 h1), if_neg (beq_eq_false_iff_ne.1 h2)]
end Rf
namespace Go.Proofs.YtbiojnljihgpoaaGreatDoor
open Go.RowKit
set_option maxHeartbeats 2000000 in
set_option maxRecDepth 100000 in
theorem psaveTerm_any (w0 w : World) (b : Nat) (l : List UInt8) (a : Option Addr) (n c : Nat) (t : List Rf.Part) (f : Int) (hW : WrAt w0.heap.size w b l) (hb : Below w0.heap.size w0 w) (hS : Seen w0 101 partCells (.slice a n c) t) (ht : Rf.TmG f t) (hf : f <= 1000000) (hl : l.length <= 10000000000) :
  Calls Tryz.prog 55 #[.pointer (some ⟨b, 0, none⟩), .slice a n c] w fun r w' => r = .returned (.tuple #[]) /\ WrAt w0.heap.size w' b (l ++ Rf.termB t) /\ Wk w0.heap.size w w' := by
 have hn : n = t.length := hS.len
 subst hn
 have HS : Hid _ := hS
 have HB : Hid _ := hb
 have HW : Hid _ := hW
 have HT : Hid _ := ht
 have ht4 := ht.1
 clear hS hb hW ht
 go_enter Tryz.func55, Tryz.ntmps55
 go_wp2_with fail
 go_loopw [8] (fun iv wr => ∃ k : Nat, k <= t.length /\ iv = .int .i64 k /\ WrAt w0.heap.size wr b (l ++ Rf.termB (t.take k)) /\ Wk w0.heap.size w wr) (fun iv _ => t.length - (intOf iv).toNat)
 case atStart => exact ⟨0, by omega, rfl, by show WrAt _ _ _ (l ++ []); rw [List.append_nil]; exact HW.out, Wk.refl _ _⟩
 case round =>
  obtain ⟨k, hk, rfl, hWr, hkr⟩ := hrel
  by_cases hlt : k < t.length
  ·obtain ⟨gp, off, rfl⟩ := HS.out.pos (by omega)
   have hgl := HS.out.lt
   have hbr : Below w0.heap.size w0 wr := HB.out.trans (hkr.below HB.out.size)
   have hsz := hbr.size
   obtain ⟨e0, e1, e2, e3⟩ := Seen.parts (HS.out.below hbr) k t[k] (by simp [hlt])
   have hpG := HT.out.2 t[k] (List.getElem_mem hlt)
   have htk : Hid (l ++ Rf.termB (t.take (k + 1)) = l ++ Rf.termB (t.take k) ++ Rf.partB t[k]) := by
    unfold Hid Rf.termB
    rw [Rf.flat_snoc _ _ _ hlt, List.append_assoc]
   have hl2 : (l ++ Rf.termB (t.take k)).length <= 10000020000 := by
    have h9 := Rf.flat_take_len Rf.partB 32 t (fun p hp => Rf.partB_len (HT.out.2 p hp).2.2.2) k
    unfold Rf.termB
    rw [List.length_append]
    omega
   obtain ⟨l2, hl2e⟩ : ∃ l2, Hid (l2 = l ++ Rf.termB (t.take k)) := ⟨_, rfl⟩
   rw [<- hl2e.out] at hWr htk hl2
   generalize t[k] = p at *
   have hgl' : gp < wr.heap.size := by omega
   have hlt' : (k : Int) < t.length := by omega
   obtain ⟨pk, pn, pv, pa⟩ := p
   simp only at e0 e1 e2 e3
   obtain ⟨⟨g1, g2⟩, g3, g4, g5⟩ := hpG
   simp only at g1 g2 g3 g4 g5
   have HWr : Hid _ := hWr
   have n5 := Rf.numB_len 5
   have n6 := Rf.numB_len 6
   have na := Rf.numB_len pa.toNat
   clear hWr hbr
   cases k1 : (pk == 1)
   ·cases k2 : (pk == 2)
    ·obtain ⟨pa, rfl⟩ := Int.eq_ofNat_of_zero_le g1
     have hpB : Hid (Rf.partB ⟨pk, pn, pv, (pa : Int)⟩ = Rf.numB pa ++ Rf.wordB pn) := Rf.partB_3 k1 k2
     rw [hpB.out] at htk
     simp only [Int.toNat_natCast] at na
     go_wp2_with (first
      | (go_at_call 22; refine (wword_any _ _ b _ pn hW1 (by omega) (by rw [List.length_append]; omega)).mono ?_; rintro r w2 ⟨rfl, hW2, hk2⟩)
      | (go_at_call 21; refine (wnumber_any _ _ b l2 pa (HWr.out.below (by repeat(first|exact bl0 _ _|refine bl1 ?_ (by simp<;>omega) _|refine bl2 ?_|refine bl3 ?_ _|refine bl4 ?_ (by simp<;>omega) _))) (by omega) (by omega)).mono ?_; rintro r w1 ⟨rfl, hW1, hk1⟩; have hP := hk1.blk (blk_new _ _) (by decide) (by decide); have p0 := blk_cell hP 0; have p1 := blk_cell hP 1; have p2 := blk_cell hP 2; have p3 := blk_cell hP 3; have pf := blk_frozen hP; have pl := blk_lt hP; simp at p0 p1 p2 p3; clear hP))
     go_roundw
     case rel =>
      refine ⟨k + 1, by omega, by go_num, ?_, ((hkr.trans (Wk.of (by repeat(first|exact bl0 _ _|refine bl1 ?_ (by simp<;>omega) _|refine bl2 ?_|refine bl3 ?_ _|refine bl4 ?_ (by simp<;>omega) _)))).trans hk1).trans hk2⟩
      rw [htk.out, <- List.append_assoc]; exact hW2
     case measure => simp [intOf]; omega
    ·obtain ⟨v0, v1⟩ := g4 (eq_of_beq k2)
     obtain ⟨m, hm⟩ : ∃ m : Nat, pv + 999999999 = (m : Int) := ⟨(pv + 999999999).toNat, by omega⟩
     have hpB : Hid (Rf.partB ⟨pk, pn, pv, pa⟩ = Rf.numB 6 ++ Rf.numB m) := by
      have := Rf.partB_2 (p := ⟨pk, pn, pv, pa⟩) k1 k2
      simp only [hm, Int.toNat_natCast] at this
      exact this
     rw [hpB.out] at htk
     have hm0 : (m : Int) < 2000000000 := by omega
     clear g3 g4
     go_wp2_with (first
      | (have h9 := hW1; go_at_call 21; refine (wnumber_any _ _ b _ m hW1 (by omega) (by rw [List.length_append]; omega)).mono ?_; rintro r w2 ⟨rfl, hW2, hk2⟩)
      | (go_at_call 21; refine (wnumber_any _ _ b l2 6 (HWr.out.below (by repeat(first|exact bl0 _ _|refine bl1 ?_ (by simp<;>omega) _|refine bl2 ?_|refine bl3 ?_ _|refine bl4 ?_ (by simp<;>omega) _))) (by omega) (by omega)).mono ?_; rintro r w1 ⟨rfl, hW1, hk1⟩; have hP := hk1.blk (blk_new _ _) (by decide) (by decide); have p0 := blk_cell hP 0; have p1 := blk_cell hP 1; have p2 := blk_cell hP 2; have p3 := blk_cell hP 3; have pf := blk_frozen hP; have pl := blk_lt hP; simp at p0 p1 p2 p3; clear hP))
     go_roundw
     case rel =>
      refine ⟨k + 1, by omega, by go_num, ?_, ((hkr.trans (Wk.of (by repeat(first|exact bl0 _ _|refine bl1 ?_ (by simp<;>omega) _|refine bl2 ?_|refine bl3 ?_ _|refine bl4 ?_ (by simp<;>omega) _)))).trans hk1).trans hk2⟩
      rw [htk.out, <- List.append_assoc]; exact hW2
     case measure => simp [intOf]; omega
   ·obtain ⟨v0, v1⟩ := g3 (eq_of_beq k1)
    obtain ⟨m, rfl⟩ := Int.eq_ofNat_of_zero_le v0
    have hpB : Hid (Rf.partB ⟨pk, pn, (m : Int), pa⟩ = Rf.numB 5 ++ Rf.numB m) := Rf.partB_1 (p := ⟨pk, pn, (m : Int), pa⟩) k1
    rw [hpB.out] at htk
    have hmf : m < 1000000 := by omega
    clear v0 v1 g3 g4
    go_wp2_with (first
     | (have h9 := hW1; go_at_call 21; refine (wnumber_any _ _ b _ m hW1 (by omega) (by rw [List.length_append]; omega)).mono ?_; rintro r w2 ⟨rfl, hW2, hk2⟩)
     | (go_at_call 21; refine (wnumber_any _ _ b l2 5 (HWr.out.below (by repeat(first|exact bl0 _ _|refine bl1 ?_ (by simp<;>omega) _|refine bl2 ?_|refine bl3 ?_ _|refine bl4 ?_ (by simp<;>omega) _))) (by omega) (by omega)).mono ?_; rintro r w1 ⟨rfl, hW1, hk1⟩; have hP := hk1.blk (blk_new _ _) (by decide) (by decide); have p0 := blk_cell hP 0; have p1 := blk_cell hP 1; have p2 := blk_cell hP 2; have p3 := blk_cell hP 3; have pf := blk_frozen hP; have pl := blk_lt hP; simp at p0 p1 p2 p3; clear hP))
    go_roundw
    case rel =>
     refine ⟨k + 1, by omega, by go_num, ?_, ((hkr.trans (Wk.of (by repeat(first|exact bl0 _ _|refine bl1 ?_ (by simp<;>omega) _|refine bl2 ?_|refine bl3 ?_ _|refine bl4 ?_ (by simp<;>omega) _)))).trans hk1).trans hk2⟩
     rw [htk.out, <- List.append_assoc]; exact hW2
    case measure => simp [intOf]; omega
  ·obtain rfl : k = t.length := by omega
   rw [List.take_length] at hWr
   go_wp2_with fail
   go_end0
   exact ⟨rfl, hWr, hkr⟩
end Go.Proofs.YtbiojnljihgpoaaGreatDoor
namespace Rf
theorem goalB_4 {g : List Part} (h : ((topP g).kind == 4) = true) : goalB g = numB ((topP g).value + 1).toNat := by unfold goalB; rw [if_pos (eq_of_beq h)]
theorem goalB_3 {g : List Part} (h : ((topP g).kind == 4) = false) : goalB g = numB 0 ++ termB g := by unfold goalB; rw [if_neg (beq_eq_false_iff_ne.1 h)]
end Rf
namespace Go.Proofs.YtbiojnljihgpoaaGreatDoor
open Go.RowKit
set_option maxHeartbeats 2000000 in
set_option maxRecDepth 100000 in
theorem psaveGoal_any (w0 w : World) (b : Nat) (l : List UInt8) (a : Option Addr) (n c : Nat) (g : List Rf.Part) (f : Int) (hW : WrAt w0.heap.size w b l) (hb : Below w0.heap.size w0 w) (hS : Seen w0 101 partCells (.slice a n c) g) (ht : Rf.TmG f g) (hcut : (Rf.topP g).kind = 4 -> 0 <= (Rf.topP g).value /\ (Rf.topP g).value <= 1000) (hf : f <= 1000000) (hl : l.length <= 9000000000) :
  Calls Tryz.prog 54 #[.pointer (some ⟨b, 0, none⟩), .slice a n c] w fun r w' => r = .returned (.tuple #[]) /\ WrAt w0.heap.size w' b (l ++ Rf.goalB g) /\ Wk w0.heap.size w w' := by
 have HS : Hid _ := hS
 have HB : Hid _ := hb
 have HW : Hid _ := hW
 have HT : Hid _ := ht
 have HC : Hid _ := hcut
 clear hS hb hW ht hcut
 have n0 := Rf.numB_len 0
 obtain ⟨p, hp⟩ : ∃ p, Hid (p = Rf.topP g) := ⟨_, rfl⟩
 rw [<- hp.out] at HC
 cases k4 : (p.kind == 4)
 ·have hg : Hid (l ++ Rf.goalB g = l ++ Rf.numB 0 ++ Rf.termB g) := by unfold Hid; rw [Rf.goalB_3 (by rw [<- hp.out]; exact k4), List.append_assoc]
  obtain ⟨pk, pn, pv, pa⟩ := p
  simp only at k4
  go_enter Tryz.func54, Tryz.ntmps54
  go_wp2_with (first
   | (go_at_call 55; refine (psaveTerm_any w0 _ b _ a n c g f hW2 ((HB.out.trans (((Wk.of (B := w0.heap.size) hb1).trans (Wk.of (by repeat(first|exact bl0 _ _|refine bl1 ?_ (by simp<;>omega) _|refine bl2 ?_|refine bl3 ?_ _|refine bl4 ?_ (by simp<;>omega) _)))).below HB.out.size)).trans (hk2.below (by have := HB.out.size; have := hb1.size; simp; omega))) HS.out HT.out hf (by rw [List.length_append]; omega)).mono ?_; rintro r w3 ⟨rfl, hW3, hk3⟩)
   | (go_at_call 21; refine (wnumber_any _ _ b l 0 ((HW.out.below hb1).below (by repeat(first|exact bl0 _ _|refine bl1 ?_ (by simp<;>omega) _|refine bl2 ?_|refine bl3 ?_ _|refine bl4 ?_ (by simp<;>omega) _))) (by omega) (by omega)).mono ?_; rintro r w2 ⟨rfl, hW2, hk2⟩)
   | (go_at_call 71; refine (ptopA_any a n c g _ (HS.out.below HB.out)).mono ?_; rintro r w1 ⟨hr1, hb1⟩; rw [<- hp.out] at hr1; subst hr1))
  go_end0
  rw [hg.out]
  exact ⟨rfl, hW3, ((Wk.of hb1).trans (Wk.of (by repeat(first|exact bl0 _ _|refine bl1 ?_ (by simp<;>omega) _|refine bl2 ?_|refine bl3 ?_ _|refine bl4 ?_ (by simp<;>omega) _)))).trans (hk2.trans hk3)⟩
 ·obtain ⟨c0, c1⟩ := HC.out (eq_of_beq k4)
  obtain ⟨m, hm⟩ : ∃ m : Nat, p.value + 1 = (m : Int) := ⟨(p.value + 1).toNat, by omega⟩
  have hg : Hid (l ++ Rf.goalB g = l ++ Rf.numB m) := by unfold Hid; rw [Rf.goalB_4 (by rw [<- hp.out]; exact k4), <- hp.out, hm, Int.toNat_natCast]
  obtain ⟨pk, pn, pv, pa⟩ := p
  simp only at k4 c0 c1 hm
  have hm0 : (m : Int) < 2000000000 := by omega
  go_enter Tryz.func54, Tryz.ntmps54
  go_wp2_with (first
   | (go_at_call 21; refine (wnumber_any _ _ b l m ((HW.out.below hb1).below (by repeat(first|exact bl0 _ _|refine bl1 ?_ (by simp<;>omega) _|refine bl2 ?_|refine bl3 ?_ _|refine bl4 ?_ (by simp<;>omega) _))) (by omega) (by omega)).mono ?_; rintro r w2 ⟨rfl, hW2, hk2⟩)
   | (go_at_call 71; refine (ptopA_any a n c g _ (HS.out.below HB.out)).mono ?_; rintro r w1 ⟨hr1, hb1⟩; rw [<- hp.out] at hr1; subst hr1))
  refine bodyPost_ret (v := .tuple #[]) (by simp [results, Tryz.results54, go_sem]) rfl ?_
  rw [hg.out]
  exact ⟨rfl, hW2, ((Wk.of hb1).trans (Wk.of (by repeat(first|exact bl0 _ _|refine bl1 ?_ (by simp<;>omega) _|refine bl2 ?_|refine bl3 ?_ _|refine bl4 ?_ (by simp<;>omega) _)))).trans hk2⟩
theorem flat_snd {β : Type} (f : List Rf.Part -> List UInt8) (acc : List (β × List Rf.Part)) : (acc.map (·.2)).flatMap f = acc.flatMap (fun q => f q.2) := by
 rw [List.flatMap_map]
set_option maxHeartbeats 4000000 in
set_option maxRecDepth 100000 in
theorem psaveCh_any (w0 w : World) (b : Nat) (l : List UInt8) (x : ChV) (c : Rf.Ch) (hW : WrAt w0.heap.size w b l) (hb : Below w0.heap.size w0 w) (hI : ChIs w0 x c) (hG : Rf.StG 1000 406400 c.st) (hcut : ∀ g ∈ c.st.goals, (Rf.topP g).kind = 4 -> 0 <= (Rf.topP g).value /\ (Rf.topP g).value <= 1000) (hcl : c.cls.length <= 1000000) (hl : l.length <= 5000000000) :
  Calls Tryz.prog 35 #[.agg #[.slice x.g.a x.g.n x.g.c, .slice x.t.a x.t.n x.t.c, .int .i64 x.f, .slice x.c.a x.c.n x.c.c], .pointer (some ⟨b, 0, none⟩)] w fun r w' => r = .returned (.tuple #[]) /\ WrAt w0.heap.size w' b (l ++ Rf.chB c) /\ Wk w0.heap.size w w' := by
 obtain ⟨accG, hg1, hg2, hg3⟩ := hI.st.g.ex
 obtain ⟨accT, ht1, ht2, ht3⟩ := hI.st.t.ex
 obtain ⟨⟨ga, gn, gc⟩, ⟨ta, tn, tc⟩, fr, ⟨ca, cn, cc⟩⟩ := x
 simp only [slv] at hg1 ht1
 have hgn : gn = accG.length := by have := hg1.len; rw [List.length_map] at this; exact this
 have htn : tn = accT.length := by have := ht1.len; rw [List.length_map] at this; exact this
 have hcn : cn = c.cls.length := hI.cl.len
 subst hgn; subst htn; subst hcn
 have hgl : accG.length <= 1000 := by have := hG.gl; rw [hg3, List.length_map] at this; exact this
 have htl : accT.length <= 16 := by have := hG.tl; rw [ht3, List.length_map] at this; exact this
 have hf1 := hG.f1
 have HG1 : Hid _ := hg1
 have HG2 : Hid (∀ q ∈ accG, Seen w0 101 partCells (slv q.1) q.2 /\ Rf.TmG c.st.fresh q.2 /\ ((Rf.topP q.2).kind = 4 -> 0 <= (Rf.topP q.2).value /\ (Rf.topP q.2).value <= 1000)) := fun q hq => ⟨hg2 q hq, hG.g q.2 (by rw [hg3]; exact List.mem_map_of_mem hq), hcut q.2 (by rw [hg3]; exact List.mem_map_of_mem hq)⟩
 have HT1 : Hid _ := ht1
 have HT2 : Hid (∀ q ∈ accT, Seen w0 101 partCells (slv q.1) q.2 /\ Rf.TmG c.st.fresh q.2) := fun q hq => ⟨ht2 q hq, hG.t q.2 (by rw [ht3]; exact List.mem_map_of_mem hq)⟩
 have hE : Hid (l ++ Rf.chB c = l ++ Rf.numB accG.length ++ accG.flatMap (fun q => Rf.goalB q.2) ++ accT.flatMap (fun q => Rf.termB q.2) ++ Rf.numB c.cls.length) := by
  unfold Hid Rf.chB Rf.goalsB Rf.termsB
  rw [hg3, ht3, flat_snd, flat_snd, List.length_map]
  simp only [List.append_assoc]
 have HB : Hid _ := hb
 have HW : Hid _ := hW
 have hnG := Rf.numB_len accG.length
 clear hg1 hg2 hg3 ht1 ht2 ht3 hI hG hcut hb hW
 go_enter Tryz.func35, Tryz.ntmps35
 go_wp2_with (go_at_call 21; refine (wnumber_any _ _ b l accG.length (HW.out.below (by repeat(first|exact bl0 _ _|refine bl1 ?_ (by simp<;>omega) _|refine bl2 ?_|refine bl3 ?_ _|refine bl4 ?_ (by simp<;>omega) _))) (by omega) (by omega)).mono ?_; rintro r w1 ⟨rfl, hW1, hk1⟩; have HK1 : Hid (Wk w0.heap.size w w1) := Wk.trans (Wk.of (by repeat(first|exact bl0 _ _|refine bl1 ?_ (by simp<;>omega) _|refine bl2 ?_|refine bl3 ?_ _|refine bl4 ?_ (by simp<;>omega) _))) hk1; have HC1 : Hid _ := hk1.blk (blk_new _ _) (by decide) (by decide); have p0 := blk_cell HC1.out 0; have p1 := blk_cell HC1.out 1; have p2 := blk_cell HC1.out 2; have p3 := blk_cell HC1.out 3; have pf := blk_frozen HC1.out; have pl := blk_lt HC1.out; simp at p0 p1 p2 p3)
 go_loopg [18] (accG.length + 1) (fun m iv wr => ∃ k : Nat, k <= accG.length /\ m = accG.length + 1 - k /\ iv = .int .i64 k /\ WrAt w0.heap.size wr b (l ++ Rf.numB accG.length ++ (accG.take k).flatMap (fun q => Rf.goalB q.2)) /\ Wk w0.heap.size w1 wr)
 case atStart => exact ⟨0, by omega, by omega, rfl, by show WrAt _ _ _ (l ++ Rf.numB accG.length ++ []); rw [List.append_nil]; assumption, Wk.refl _ _⟩
 case round =>
  obtain ⟨k, hk, rfl, rfl, hWr, hkr⟩ := hrel
  have HCr : Hid _ := hkr.blk HC1.out (by decide) (by decide)
  have r0 := blk_cell HCr.out 0; have r1 := blk_cell HCr.out 1; have r2 := blk_cell HCr.out 2; have r3 := blk_cell HCr.out 3; have rf := blk_frozen HCr.out; have rl := blk_lt HCr.out
  simp at r0 r1 r2 r3
  by_cases hlt : k < accG.length
  ·obtain ⟨gp, off, rfl⟩ := HG1.out.pos (by rw [List.length_map]; omega)
   have hgl0 := HG1.out.lt
   have hbr : Below w0.heap.size w0 wr := HB.out.trans ((HK1.out.trans hkr).below HB.out.size)
   have hsz := hbr.size
   have e0 := Seen.termAt (HG1.out.below hbr) k accG[k].1 (by simp [hlt])
   have hx := HG2.out accG[k] (List.getElem_mem hlt)
   have htk : Hid (l ++ Rf.numB accG.length ++ (accG.take (k + 1)).flatMap (fun q => Rf.goalB q.2) = l ++ Rf.numB accG.length ++ (accG.take k).flatMap (fun q => Rf.goalB q.2) ++ Rf.goalB accG[k].2) := by
    unfold Hid
    rw [Rf.flat_snoc _ _ _ hlt]; simp only [List.append_assoc]
   have hl2 : (l ++ Rf.numB accG.length ++ (accG.take k).flatMap (fun q => Rf.goalB q.2)).length <= 6000000000 := by
    have h9 := Rf.flat_take_len (fun q => Rf.goalB q.2) 12810 accG (fun q hq => Rf.goalB_len (HG2.out q hq).2.1) k
    rw [List.length_append]
    rw [List.length_append]
    omega
   have hlt' : (k : Int) < accG.length := by omega
   have hgl' : gp < wr.heap.size := by omega
   generalize accG[k] = y at *
   obtain ⟨⟨ya, yn, yc⟩, ps⟩ := y
   simp only [slv] at hx e0 htk
   have HX : Hid _ := hx
   have HWr : Hid _ := hWr
   clear hx hWr
   go_wp2_with (go_at_call 54; refine (psaveGoal_any w0 _ b _ ya yn yc ps c.st.fresh HWr.out hbr HX.out.1 HX.out.2.1 HX.out.2.2 (by omega) (by omega)).mono ?_; rintro r w9 ⟨rfl, hW9, hk9⟩)
   go_roundg (accG.length - k)
   case measure => omega
   case rel => exact ⟨k + 1, by omega, by omega, by go_num, by rw [htk.out]; exact hW9, hkr.trans hk9⟩
  ·obtain rfl : k = accG.length := by omega
   rw [List.take_length] at hWr
   have hlG : (l ++ Rf.numB accG.length ++ accG.flatMap (fun q => Rf.goalB q.2)).length <= 5100000000 := by
    have h9 := Rf.flat_take_len (fun q => Rf.goalB q.2) 12810 accG (fun q hq => Rf.goalB_len (HG2.out q hq).2.1) accG.length
    rw [List.take_length] at h9
    rw [List.length_append, List.length_append]
    omega
   have HCs := HCr
   have Hks : Hid (Wk w0.heap.size w wr) := HK1.out.trans hkr
   have hWs := hWr
   clear hWr hkr HCr p0 p1 p2 p3 pf pl
   go_wp2_with fail
   go_loopg [30] (accT.length + 1) (fun m iv wi => ∃ k : Nat, k <= accT.length /\ m = accT.length + 1 - k /\ iv = .int .i64 k /\ WrAt w0.heap.size wi b (l ++ Rf.numB accG.length ++ accG.flatMap (fun q => Rf.goalB q.2) ++ (accT.take k).flatMap (fun q => Rf.termB q.2)) /\ Wk w0.heap.size wr wi)
   case atStart => exact ⟨0, by omega, by omega, rfl, by show WrAt _ _ _ (l ++ Rf.numB accG.length ++ accG.flatMap (fun q => Rf.goalB q.2) ++ []); rw [List.append_nil]; assumption, Wk.refl _ _⟩
   case round =>
    obtain ⟨k, hk, rfl, rfl, hWr, hkr⟩ := hrel
    have HCr : Hid _ := hkr.blk HCs.out (by decide) (by decide)
    have r0 := blk_cell HCr.out 0; have r1 := blk_cell HCr.out 1; have r2 := blk_cell HCr.out 2; have r3 := blk_cell HCr.out 3; have rf := blk_frozen HCr.out; have rl := blk_lt HCr.out
    simp at r0 r1 r2 r3
    by_cases hlt : k < accT.length
    ·obtain ⟨gp, off, rfl⟩ := HT1.out.pos (by rw [List.length_map]; omega)
     have hgl0 := HT1.out.lt
     have hbr : Below w0.heap.size w0 wr := HB.out.trans ((Hks.out.trans hkr).below HB.out.size)
     have hsz := hbr.size
     have e0 := Seen.termAt (HT1.out.below hbr) k accT[k].1 (by simp [hlt])
     have hx := HT2.out accT[k] (List.getElem_mem hlt)
     have htk : Hid (l ++ Rf.numB accG.length ++ accG.flatMap (fun q => Rf.goalB q.2) ++ (accT.take (k + 1)).flatMap (fun q => Rf.termB q.2) = l ++ Rf.numB accG.length ++ accG.flatMap (fun q => Rf.goalB q.2) ++ (accT.take k).flatMap (fun q => Rf.termB q.2) ++ Rf.termB accT[k].2) := by
      unfold Hid
      rw [Rf.flat_snoc _ _ _ hlt]; simp only [List.append_assoc]
     have hl2 : (l ++ Rf.numB accG.length ++ accG.flatMap (fun q => Rf.goalB q.2) ++ (accT.take k).flatMap (fun q => Rf.termB q.2)).length <= 6000000000 := by
      have h9 := Rf.flat_take_len (fun q => Rf.termB q.2) 12810 accT (fun q hq => by have := (HT2.out q hq).2.told; omega) k
      rw [List.length_append]
      have := hlG
      omega
     have hlt' : (k : Int) < accT.length := by omega
     have hgl' : gp < wr.heap.size := by omega
     generalize accT[k] = y at *
     obtain ⟨⟨ya, yn, yc⟩, ps⟩ := y
     simp only [slv] at hx e0 htk
     have HX : Hid _ := hx
     have HWr : Hid _ := hWr
     clear hx hWr
     go_wp2_with (go_at_call 55; refine (psaveTerm_any w0 _ b _ ya yn yc ps c.st.fresh HWr.out hbr HX.out.1 HX.out.2 (by omega) (by omega)).mono ?_; rintro r w9 ⟨rfl, hW9, hk9⟩)
     go_roundg (accT.length - k)
     case measure => omega
     case rel => exact ⟨k + 1, by omega, by omega, by go_num, by rw [htk.out]; exact hW9, hkr.trans hk9⟩
    ·obtain rfl : k = accT.length := by omega
     rw [List.take_length] at hWr
     have hl9 : (l ++ Rf.numB accG.length ++ accG.flatMap (fun q => Rf.goalB q.2) ++ accT.flatMap (fun q => Rf.termB q.2)).length <= 6100000000 := by
      have h9 := Rf.flat_take_len (fun q => Rf.termB q.2) 12810 accT (fun q hq => by have := (HT2.out q hq).2.told; omega) accT.length
      rw [List.take_length] at h9
      rw [List.length_append]
      omega
     go_wp2_with (go_at_call 21; refine (wnumber_any _ _ b _ c.cls.length hWr (by omega) (by omega)).mono ?_; rintro r w9 ⟨rfl, hW9, hk9⟩)
     go_end0
     rw [hE.out]
     exact ⟨rfl, hW9, (Hks.out.trans hkr).trans hk9⟩
set_option maxHeartbeats 2000000 in
set_option maxRecDepth 100000 in
theorem psaveQ_any (w0 w : World) (b q : Nat) (l : List UInt8) (nm : Value) (rb : Option Nat) (Q : Rf.Qs) (n : Nat) (hW : WrAt w0.heap.size w b l) (hb : Below w0.heap.size w0 w) (hQ : QAt nm w0 q rb Q.names ⟨Rf.stNone, Q.chs⟩) (hq : Rf.QsOk n Q) (hcut : Rf.CutsOk Q) (hcl : ∀ c ∈ Q.chs, c.cls.length <= 1000000) (hl : l.length <= 4000000000) :
  Calls Tryz.prog 24 #[.pointer (some ⟨q, 0, none⟩), .pointer (some ⟨b, 0, none⟩)] w fun r w' => r = .returned (.tuple #[]) /\ WrAt w0.heap.size w' b (l ++ Rf.quB Q) /\ Wk w0.heap.size w w' := by
 obtain ⟨vg, vt, fr, vC, hI⟩ := hQ.ex
 obtain ⟨na, nc, rfl⟩ := hI.n.slice
 obtain ⟨acc, hr, hac, ham⟩ := hI.r.ex
 have hal : acc.length = Q.chs.length := by
  have := congrArg List.length ham
  rw [List.length_map, List.length_reverse] at this
  exact this
 obtain ⟨ca, cc, hvC⟩ := row_slice hr
 subst hvC
 rw [List.length_map] at hr
 have hqb : QB w q (.slice na Q.names.length nc) vg vt fr (.slice ca (acc.map (·.1)).length cc) := (hb.block q (blk_lt hI.b)).trans hI.b
 rw [List.length_map] at hqb
 obtain ⟨q0, q1, q2, q3, q4, qf, ql⟩ := hqb.facts
 have h16 := hq.nl
 have h20 := hq.cl
 have h20' : acc.length <= 20 := by omega
 have Hal : Hid _ := hal
 clear hal h20
 have HR : Hid _ := hr
 have HA : Hid _ := hac
 have HM : Hid _ := ham
 have HN : Hid _ := hI.n
 have HQB : Hid _ := hqb
 have HB : Hid _ := hb
 have HW : Hid _ := hW
 have HQ : Hid _ := hq
 have HC : Hid (Rf.CutsOk Q) := hcut
 have HL : Hid _ := hcl
 have hn1 := Rf.numB_len Q.names.length
 clear hr hac ham hI hQ hb hW hq hcut hqb hcl
 have HX2 : Hid (∀ x ∈ acc, ChIs w0 x.1 x.2 /\ Rf.StG 1000 406400 x.2.st /\ (∀ g ∈ x.2.st.goals, (Rf.topP g).kind = 4 -> 0 <= (Rf.topP g).value /\ (Rf.topP g).value <= 1000) /\ x.2.cls.length <= 1000000) := fun x hx => by
  have hm : x.2 ∈ Q.chs := by
   have h9 : x.2 ∈ acc.map (·.2) := List.mem_map_of_mem hx
   rw [HM.out] at h9
   exact List.mem_reverse.1 h9
  exact ⟨HA.out x hx, (HQ.out.c x.2 hm).1, HC.out x.2 hm, HL.out x.2 hm⟩
 have hE : Hid (l ++ Rf.quB Q = l ++ Rf.numB Q.names.length ++ Q.names.flatMap Rf.wordB ++ Rf.numB acc.length ++ acc.flatMap (fun x => Rf.chB x.2)) := by
  unfold Hid Rf.quB Rf.chsB
  rw [<- HM.out, Hal.out, List.flatMap_map]
  simp only [List.append_assoc]
 clear HA HC HM
 go_enter Tryz.func24, Tryz.ntmps24
 go_wp2_with (go_at_call 21; refine (wnumber_any _ _ b l Q.names.length HW.out (by omega) (by omega)).mono ?_; rintro r w1 ⟨rfl, hW1, hk1⟩; have HKw1 : Hid (Wk w0.heap.size w w1) := hk1; have HQw1 : Hid _ := hk1.blk HQB.out (by decide) (by decide); obtain ⟨m0, m1, m2, m3, m4, mf, ml⟩ := QB.facts HQw1.out)
 go_loopg [20] (Q.names.length + 1) (fun m iv wr => ∃ k : Nat, k <= Q.names.length /\ m = Q.names.length + 1 - k /\ iv = .int .i64 k /\ WrAt w0.heap.size wr b (l ++ Rf.numB Q.names.length ++ (Q.names.take k).flatMap Rf.wordB) /\ Wk w0.heap.size w1 wr)
 case atStart => exact ⟨0, by omega, by omega, rfl, by show WrAt _ _ _ (l ++ Rf.numB Q.names.length ++ []); rw [List.append_nil]; assumption, Wk.refl _ _⟩
 case round =>
  obtain ⟨k, hk, rfl, rfl, hWr, hkr⟩ := hrel
  have HQr : Hid _ := hkr.blk HQw1.out (by decide) (by decide)
  obtain ⟨r0, r1, r2, r3, r4, rf, rl⟩ := QB.facts HQr.out
  by_cases hlt : k < Q.names.length
  ·have hbr : Below w0.heap.size w0 wr := HB.out.trans ((HKw1.out.trans hkr).below HB.out.size)
   have hsz := hbr.size
   have htk : Hid (l ++ Rf.numB Q.names.length ++ (Q.names.take (k + 1)).flatMap Rf.wordB = l ++ Rf.numB Q.names.length ++ (Q.names.take k).flatMap Rf.wordB ++ Rf.wordB Q.names[k]) := by
    unfold Hid
    rw [Rf.flat_snoc _ _ _ hlt]; simp only [List.append_assoc]
   have hl2 : (l ++ Rf.numB Q.names.length ++ (Q.names.take k).flatMap Rf.wordB).length <= 5000000000 := by
    have h9 := Rf.flat_take_len Rf.wordB 22 Q.names (fun x hx => by have := Rf.wordB_len x; have := HQ.out.nz x hx; omega) k
    rw [List.length_append]
    rw [List.length_append]
    omega
   have hlt' : (k : Int) < Q.names.length := by omega
   obtain ⟨gp, off, rfl⟩ := HN.out.pos (by omega)
   have hgl0 := HN.out.lt
   have e0 := (HN.out.below hbr).cells strCells_len k Q.names[k] (by simp [hlt]) 0 _ rfl
   rw [Nat.mul_one, Nat.add_zero] at e0
   have hx12 := HQ.out.nz Q.names[k] (List.getElem_mem hlt)
   have hgl' : gp < wr.heap.size := by omega
   generalize Q.names[k] = y at *
   have HWr : Hid _ := hWr
   clear hWr
   go_wp2_with (go_at_call 22; refine (wword_any _ _ b _ y HWr.out (by omega) (by omega)).mono ?_; rintro r w9 ⟨rfl, hW9, hk9⟩)
   go_roundg (Q.names.length - k)
   case measure => omega
   case rel => exact ⟨k + 1, by omega, by omega, by go_num, by rw [htk.out]; exact hW9, hkr.trans hk9⟩
  ·obtain rfl : k = Q.names.length := by omega
   rw [List.take_length] at hWr
   have hlN : (l ++ Rf.numB Q.names.length ++ Q.names.flatMap Rf.wordB).length <= 4000001000 := by
    have h9 := Rf.wordsB_len Q.names HQ.out.nz
    rw [List.length_append, List.length_append]
    omega
   have HKr : Hid (Wk w0.heap.size w wr) := HKw1.out.trans hkr
   have hn2 := Rf.numB_len acc.length
   have HWr : Hid _ := hWr
   clear hWr hkr m0 m1 m2 m3 m4 mf ml
   go_wp2_with (go_at_call 21; refine (wnumber_any _ _ b _ acc.length HWr.out (by omega) (by omega)).mono ?_; rintro r w2 ⟨rfl, hW2, hk2⟩; have HKw2 : Hid (Wk w0.heap.size w w2) := HKr.out.trans hk2; have HQw2 : Hid _ := hk2.blk HQr.out (by decide) (by decide); obtain ⟨m0, m1, m2, m3, m4, mf, ml⟩ := QB.facts HQw2.out)
   go_loopg [40] (acc.length + 1) (fun m iv wr => ∃ k : Nat, k <= acc.length /\ m = acc.length + 1 - k /\ iv = .int .i64 k /\ WrAt w0.heap.size wr b (l ++ Rf.numB Q.names.length ++ Q.names.flatMap Rf.wordB ++ Rf.numB acc.length ++ (acc.take k).flatMap (fun x => Rf.chB x.2)) /\ Wk w0.heap.size w2 wr)
   case atStart => exact ⟨0, by omega, by omega, rfl, by show WrAt _ _ _ (l ++ Rf.numB Q.names.length ++ Q.names.flatMap Rf.wordB ++ Rf.numB acc.length ++ []); rw [List.append_nil]; assumption, Wk.refl _ _⟩
   case round =>
    obtain ⟨k, hk, rfl, rfl, hWr, hkr⟩ := hrel
    have HQr : Hid _ := hkr.blk HQw2.out (by decide) (by decide)
    obtain ⟨r0, r1, r2, r3, r4, rf, rl⟩ := QB.facts HQr.out
    by_cases hlt : k < acc.length
    ·have hbr : Below w0.heap.size w0 wr := HB.out.trans ((HKw2.out.trans hkr).below HB.out.size)
     have hsz := hbr.size
     have htk : Hid (l ++ Rf.numB Q.names.length ++ Q.names.flatMap Rf.wordB ++ Rf.numB acc.length ++ (acc.take (k + 1)).flatMap (fun x => Rf.chB x.2) = l ++ Rf.numB Q.names.length ++ Q.names.flatMap Rf.wordB ++ Rf.numB acc.length ++ (acc.take k).flatMap (fun x => Rf.chB x.2) ++ Rf.chB acc[k].2) := by
      unfold Hid
      rw [Rf.flat_snoc _ _ _ hlt]; simp only [List.append_assoc]
     have hl2 : (l ++ Rf.numB Q.names.length ++ Q.names.flatMap Rf.wordB ++ Rf.numB acc.length ++ (acc.take k).flatMap (fun x => Rf.chB x.2)).length <= 5000000000 := by
      have h9 := Rf.flat_take_len (fun x => Rf.chB x.2) 13100000 acc (fun x hx => Rf.chB_len (HX2.out x hx).2.1 (Nat.le_refl _)) k
      rw [List.length_append]
      rw [List.length_append]
      omega
     have hlt' : (k : Int) < acc.length := by omega
     obtain ⟨gp, rfl⟩ : ∃ gp, ca = some ⟨gp, 0, none⟩ := by
      rcases HR.out.shape with ⟨e, e2⟩ | ⟨gp, cap, e, _⟩
      ·injection e with _ e3 _; omega
      ·injection e with e1 _ _; exact ⟨gp, e1⟩
     have hgl0 := HR.out.lt gp rfl
     have hR9 := HR.out.below hbr
     have e0 := hR9.cells chCells_len k acc[k].1 (by simp [hlt]) 0 _ rfl
     have e1 := hR9.cells chCells_len k acc[k].1 (by simp [hlt]) 1 _ rfl
     have e2 := hR9.cells chCells_len k acc[k].1 (by simp [hlt]) 2 _ rfl
     have e3 := hR9.cells chCells_len k acc[k].1 (by simp [hlt]) 3 _ rfl
     rw [Nat.add_zero] at e0
     have hx := HX2.out acc[k] (List.getElem_mem hlt)
     have hgl' : gp < wr.heap.size := by omega
     generalize acc[k] = y at *
     obtain ⟨⟨⟨ga, gn, gc⟩, ⟨ta, tn, tc⟩, yf, ⟨xa, xn, xc⟩⟩, c⟩ := y
     simp only at hx e0 e1 e2 e3 htk
     have HX : Hid _ := hx
     clear hx hR9
     have HWr : Hid _ := hWr
     clear hWr
     go_wp2_with (go_at_call 35; refine (psaveCh_any w0 _ b _ ⟨⟨ga, gn, gc⟩, ⟨ta, tn, tc⟩, yf, ⟨xa, xn, xc⟩⟩ c (HWr.out.below (by repeat(first|exact bl0 _ _|refine bl1 ?_ (by simp<;>omega) _|refine bl2 ?_|refine bl3 ?_ _|refine bl4 ?_ (by simp<;>omega) _))) (hbr.trans (Below.mono (B := wr.heap.size) (by repeat(first|exact bl0 _ _|refine bl1 ?_ (by simp<;>omega) _|refine bl2 ?_|refine bl3 ?_ _|refine bl4 ?_ (by simp<;>omega) _)) (by omega))) HX.out.1 HX.out.2.1 HX.out.2.2.1 HX.out.2.2.2 (by omega)).mono ?_; rintro r w9 ⟨rfl, hW9, hk9⟩)
     go_roundg (acc.length - k)
     case measure => omega
     case rel => exact ⟨k + 1, by omega, by omega, by go_num, by rw [htk.out]; exact hW9, (hkr.trans (Wk.of (by repeat(first|exact bl0 _ _|refine bl1 ?_ (by simp<;>omega) _|refine bl2 ?_|refine bl3 ?_ _|refine bl4 ?_ (by simp<;>omega) _)))).trans hk9⟩
    ·obtain rfl : k = acc.length := by omega
     rw [List.take_length] at hWr
     go_wp2_with fail
     go_end0
     rw [hE.out]
     exact ⟨rfl, hWr, HKw2.out.trans hkr⟩
end Go.Proofs.YtbiojnljihgpoaaGreatDoor
namespace Go.Proofs.YtbiojnljihgpoaaGreatDoor
open Go.RowKit
variable {nm : Value}
theorem flat_cong {α : Type} {f g : α -> List UInt8} : ∀ (l : List α), (∀ y ∈ l, f y = g y) -> l.flatMap f = l.flatMap g
 | [], _ => rfl
 | x :: l, h => by
  rw [List.flatMap_cons, List.flatMap_cons, h x (by simp), flat_cong l (fun y hy => h y (by simp [hy]))]
theorem line_same {c : Rf.Cl} (h : Rf.ClR c) (hn : c.vars <= 16) : lineQ c = Rf.lineL c := by
 have e := (lineQ_P c).trans (Rf.lineL_P h hn)
 apply Rf.bs_inj
 have e2 := congrArg Rf.bs e
 rw [Rf.bs_app, Rf.bs_app] at e2
 exact List.append_cancel_right e2
def savedB (cls : List Rf.Cl) (q : Option Rf.Qs) : List UInt8 := Rf.imgB (Rf.sesB ⟨0, cls, q⟩)
set_option maxHeartbeats 1000000 in
set_option maxRecDepth 100000 in
theorem psave_any (F : Nat -> Prop) (w : World) (x : Nat) (lim : Int) (vC vQ : Value) (cls : List Rf.Cl) (oq : Option (Nat × Option Nat)) (q : Option Rf.Qs) (hB : PsB w x lim vC vQ) (hC : PCls30 F w vC cls) (hQ : QuAt nm w vQ oq q) (ht : Rf.TellOk cls q) (hlf : Rf.LeftOk cls q) (hT : Tab w) :
  Calls Tryz.prog 8 #[.pointer (some ⟨x, 0, none⟩)] w fun r w' => r = .returned (.string (strOf (savedB cls q))) /\ Below w.heap.size w w' := by
 obtain ⟨acc, hA, hcls, h30⟩ := hC.ex
 have hgood := hC.good
 obtain ⟨a, c, hv⟩ := row_slice hA.row
 rw [List.length_map] at hv
 subst hv
 have h8 : ∀ y ∈ acc, y.2.body.length <= 8 := fun y hy => by
  obtain ⟨_, ac, _, _, _, hb, h8⟩ := hA.cls y hy
  rw [hb, List.length_map]; exact h8
 have HX : Hid (∀ y ∈ acc, GoodC y.2 /\ Rf.ArgCl y.2 /\ lineQ y.2 = Rf.lineL y.2 /\ (lineQ y.2).size <= 21000000) := fun y hy => by
  have hm : y.2 ∈ cls := by rw [hcls]; exact List.mem_map_of_mem hy
  have h1 := hgood y.2 hm
  have h2 := ht.r y.2 hm
  refine ⟨h1.1, h1.2, line_same h2.1 h2.2.1, ?_⟩
  have := line_size y.2 h1.1 (h8 y hy)
  have := lineQ_size y.2
  omega
 have hE : Hid (Rf.sesB ⟨0, cls, q⟩ = Rf.numB acc.length ++ acc.flatMap (fun y => Rf.wordB (lineQ y.2)) ++ Rf.askedB q) := by
  unfold Hid Rf.sesB Rf.claB
  rw [hcls, List.length_map, List.flatMap_map, List.append_assoc]
  congr 2
  exact flat_cong _ (fun y hy => by rw [(HX.out y hy).2.2.1])
 have HA : Hid _ := hA
 have HT : Hid _ := hT
 have HB : Hid (w.heap[x]? = some (.cells #[.int .i64 lim, .slice a acc.length c, vQ] 54 (0, 0))) := hB
 have hxl := blk_lt hB
 have k1 : w.cell? ⟨x, 1, none⟩ = some (.slice a acc.length c) := blk_cell hB 1
 have hn1 := Rf.numB_len acc.length
 have HQ : Hid _ := hQ
 have HTE : Hid _ := ht
 have HLF : Hid _ := hlf
 have h30c : cls.length <= 30 := by rw [hcls, List.length_map]; exact h30
 have hvQ : (vQ = .pointer none /\ q = none) \/ ∃ b rb Q, vQ = .pointer (some ⟨b, 0, none⟩) /\ q = some Q /\ QAt nm w b rb Q.names ⟨Rf.stNone, Q.chs⟩ := by
  cases oq with
  | none =>
   cases q with
   | none => exact .inl ⟨hQ, rfl⟩
   | some _ => exact hQ.elim
  | some p =>
   obtain ⟨b, rb⟩ := p
   cases q with
   | none => exact hQ.elim
   | some Q => exact .inr ⟨b, rb, Q, hQ.1, rfl, hQ.2⟩
 have HV : Hid _ := hvQ
 clear hvQ hA hT hgood hB hC hcls h8 hQ ht hlf
 go_enter Tryz.func8, Tryz.ntmps8
 go_wp2_with (go_at_call 21; refine (wnumber_any w.heap.size _ w.heap.size [] acc.length ⟨⟨_, blk_new _ _, RowIs.nil _ _ _ _ _⟩, Nat.le_refl _⟩ (by omega) (by simp)).mono ?_; rintro r w1 ⟨rfl, hW1, hk1⟩; have HK1 : Hid (Wk w.heap.size w w1) := Wk.trans (Wk.of (by repeat(first|exact bl0 _ _|refine bl1 ?_ (by simp<;>omega) _|refine bl2 ?_|refine bl3 ?_ _|refine bl4 ?_ (by simp<;>omega) _))) hk1; have HB1 : Hid _ := HK1.out.blk HB.out (by decide) (by decide); have m0 := blk_cell HB1.out 0; have m1 := blk_cell HB1.out 1; have m2 := blk_cell HB1.out 2; have mf := blk_frozen HB1.out; have ml := blk_lt HB1.out; simp at m0 m1 m2; rw [List.nil_append] at hW1)
 go_loopg [22] (acc.length + 1) (fun m iv wr => ∃ k : Nat, k <= acc.length /\ m = acc.length + 1 - k /\ iv = .int .i64 k /\ WrAt w.heap.size wr w.heap.size (Rf.numB acc.length ++ (acc.take k).flatMap (fun y => Rf.wordB (lineQ y.2))) /\ Wk w.heap.size w wr)
 case atStart => exact ⟨0, by omega, by omega, rfl, by show WrAt _ _ _ (_ ++ []); rw [List.append_nil]; exact hW1, HK1.out⟩
 case round =>
  obtain ⟨k, hk, rfl, rfl, hWr, hkr⟩ := hrel
  have HBr : Hid _ := hkr.blk HB.out (by decide) (by decide)
  have r0 := blk_cell HBr.out 0; have r1 := blk_cell HBr.out 1; have r2 := blk_cell HBr.out 2; have rf := blk_frozen HBr.out; have rl := blk_lt HBr.out
  simp at r0 r1 r2
  have hbr : Below w.heap.size w wr := hkr.below (Nat.le_refl _)
  have hsz := hbr.size
  clear k1
  have hl2 : ((acc.take k).flatMap (fun y => Rf.wordB (lineQ y.2))).length <= 21000100 * k := Rf.flat_take_len _ 21000100 acc (fun y hy => by have := Rf.wordB_len (lineQ y.2); have := (HX.out y hy).2.2.2; omega) k
  by_cases hlt : k < acc.length
  ·obtain ⟨gv, rfl⟩ : ∃ gv, a = some ⟨gv, 0, none⟩ := by
    rcases HA.out.row.shape with ⟨_, hnil⟩ | ⟨gv, cv, e, _⟩
    ·have h7 := congrArg List.length hnil
     rw [List.length_map, List.length_nil] at h7
     omega
    ·injection e with e1 _ _; exact ⟨gv, e1⟩
   have hgl := (HA.out.row.lt gv rfl).2
   have hmem : acc[k] ∈ acc := List.getElem_mem hlt
   have hc := (HA.out.row.below hbr).cells pclCells_len k acc[k].1 (by simp [hlt])
   have c0 := hc 0 _ rfl
   have c1 := hc 1 _ rfl
   simp only [Nat.add_zero] at c0
   have Hgo : Hid (∀ X, Below wr.heap.size wr X -> PClAt F X acc[k].1.h acc[k].1.b acc[k].2) := fun X hX => (HA.out.cls _ hmem).keptBy (F' := F) (Kept.of_below (hbr.trans (hX.mono hsz)) (fun _ => False)) (fun _ _ hF => ⟨fun e => e, hF.1⟩)
   have hX := HX.out _ hmem
   have htk : Hid (Rf.numB acc.length ++ (acc.take (k + 1)).flatMap (fun y => Rf.wordB (lineQ y.2)) = Rf.numB acc.length ++ (acc.take k).flatMap (fun y => Rf.wordB (lineQ y.2)) ++ Rf.wordB (lineQ acc[k].2)) := by
    unfold Hid
    rw [Rf.flat_snoc _ _ _ hlt]; simp only [List.append_assoc]
   have HXk : Hid _ := hX
   have hlt' : (k : Int) < acc.length := by omega
   clear hmem hc hX
   generalize acc[k] = y at *
   obtain ⟨⟨⟨ah, nh, ch⟩, ⟨ab, nb, cb⟩⟩, qcl⟩ := y
   simp only at c0 c1 Hgo htk HXk
   have d0 : wr.cell? ⟨gv, k * 2, none⟩ = some (.slice ah nh ch) := c0
   have d1 : wr.cell? ⟨gv, k * 2 + 1, none⟩ = some (.slice ab nb cb) := c1
   have HWr : Hid _ := hWr
   clear c0 c1 hWr
   go_wp2_with (first
    | (go_at_call 22; refine (wword_any _ _ w.heap.size _ (lineQ qcl) (WrAt.below (WrAt.below HWr.out (by repeat(first|exact bl0 _ _|refine bl1 ?_ (by simp<;>omega) _|refine bl2 ?_|refine bl3 ?_ _|refine bl4 ?_ (by simp<;>omega) _))) hb2) (by have := HXk.out.2.2.2; omega) (by rw [List.length_append]; omega)).mono ?_; rintro r w3 ⟨rfl, hW3, hk3⟩)
    | (go_at_call 23; refine (ctext_any F _ ⟨ah, nh, ch⟩ ⟨ab, nb, cb⟩ qcl (Hgo.out _ (by repeat(first|exact bl0 _ _|refine bl1 ?_ (by simp<;>omega) _|refine bl2 ?_|refine bl3 ?_ _|refine bl4 ?_ (by simp<;>omega) _))) HXk.out.1 HXk.out.2.1 (Tab.below HT.out (hbr.trans (Below.mono (B := wr.heap.size) (by repeat(first|exact bl0 _ _|refine bl1 ?_ (by simp<;>omega) _|refine bl2 ?_|refine bl3 ?_ _|refine bl4 ?_ (by simp<;>omega) _)) hsz)))).mono ?_; rintro r w2 ⟨rfl, hb2⟩))
   go_roundg (acc.length - k)
   case measure => omega
   case rel => exact ⟨k + 1, by omega, by omega, by go_num, by rw [htk.out]; exact hW3, ((hkr.trans (Wk.of (by repeat(first|exact bl0 _ _|refine bl1 ?_ (by simp<;>omega) _|refine bl2 ?_|refine bl3 ?_ _|refine bl4 ?_ (by simp<;>omega) _)))).trans (Wk.of hb2)).trans hk3⟩
  ·obtain rfl : k = acc.length := by omega
   rw [List.take_length] at hWr hl2
   have hlA : (Rf.numB acc.length ++ acc.flatMap (fun y => Rf.wordB (lineQ y.2))).length <= 700000000 := by rw [List.length_append]; omega
   have HWr : Hid _ := hWr
   have hlt' : ¬ ((acc.length : Int) < acc.length) := by omega
   clear hWr
   rcases HV.out with ⟨hv1, hv2⟩ | ⟨b, rb, Q, hv1, hv2, hQA⟩
   ·subst hv1; subst hv2
    have n0 := Rf.numB_len 0
    go_wp2_with (first
     | (go_at_call 25; refine (wimage_any _ _ w.heap.size _ hW2 (by rw [List.length_append]; omega)).mono ?_; rintro r w3 ⟨rfl, hb3⟩)
     | (go_at_call 21; refine (wnumber_any _ _ w.heap.size _ 0 HWr.out (by omega) (by omega)).mono ?_; rintro r w2 ⟨rfl, hW2, hk2⟩))
    go_ret
    refine ⟨ret_str (congrArg (fun l => strOf (Rf.imgB l)) (a₂ := Rf.sesB ⟨0, cls, none⟩) ?_), (hkr.trans (hk2.trans (Wk.of hb3))).below (Nat.le_refl _)⟩
    rw [hE.out]
    unfold Rf.askedB
    simp only [List.append_assoc]
   ·subst hv1; subst hv2
    have n1 := Rf.numB_len 1
    have hqk := (HTE.out.q Q rfl)
    have hqB := Rf.quB_len hqk.1
    have HQK : Hid _ := hqk
    have HQA : Hid _ := hQA
    have hlc : Hid (∀ c ∈ Q.chs, c.cls.length <= 1000000) := fun c hc => by have := HLF.out Q rfl c hc; omega
    clear hqk hQA
    go_wp2_with (first
     | (go_at_call 25; refine (wimage_any _ _ w.heap.size _ hW3 (by rw [List.length_append, List.length_append]; omega)).mono ?_; rintro r w4 ⟨rfl, hb4⟩)
     | (go_at_call 24; refine (psaveQ_any w _ w.heap.size b _ nm rb Q cls.length hW2 ((hkr.trans hk2).below (Nat.le_refl _)) HQA.out HQK.out.1 HQK.out.2 hlc.out (by rw [List.length_append]; omega)).mono ?_; rintro r w3 ⟨rfl, hW3, hk3⟩)
     | (go_at_call 21; refine (wnumber_any _ _ w.heap.size _ 1 HWr.out (by omega) (by omega)).mono ?_; rintro r w2 ⟨rfl, hW2, hk2⟩; have HB2 : Hid _ := hk2.blk HBr.out (by decide) (by decide); have s0 := blk_cell HB2.out 0; have s1 := blk_cell HB2.out 1; have s2 := blk_cell HB2.out 2; have sf := blk_frozen HB2.out; have sl := blk_lt HB2.out; simp at s0 s1 s2))
    go_ret
    refine ⟨ret_str (congrArg (fun l => strOf (Rf.imgB l)) (a₂ := Rf.sesB ⟨0, cls, some Q⟩) ?_), ((hkr.trans hk2).trans (hk3.trans (Wk.of hb4))).below (Nat.le_refl _)⟩
    rw [hE.out]
    unfold Rf.askedB
    simp only [List.append_assoc]
end Go.Proofs.YtbiojnljihgpoaaGreatDoor
