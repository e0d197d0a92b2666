
import Derived.Test.YtbiojnljihgpoaaGreatDoorZbb
import Derived.Deep.LoopGhost
namespace Go.Proofs.YtbiojnljihgpoaaGreatDoor
open Go.RowKit
variable {nm : Value}
theorem Nb.up {w w1 : World} {nb nb' : Option Nat} (h : Nb w1 nb nb') (hs : w.heap.size <= w1.heap.size) : Nb w nb nb' := by
 rcases h with e | ⟨k, e, hk⟩
 ·exact .inl e
 ·exact .inr ⟨k, e, by omega⟩
theorem Seen.blk {α : Type} {w : World} {e : TypeId} {C : α -> List Value} {g off n c : Nat} {xs : List α} (h : Seen w e C (.slice (some ⟨g, off, none⟩) n c) xs) : ∃ cs, w.heap[g]? = some (.cells cs e (0, 0)) := by
 rcases h.ex with ⟨e1, _⟩ | ⟨g', off', cap, cur, e1, e2, _⟩
 ·cases e1
 ·injection e1 with a1; injection a1 with a1; injection a1 with a1
  subst a1
  exact ⟨cur, e2⟩
theorem SeenCls.blk {w : World} {g off n c : Nat} {cls : List Rf.Cl} (h : SeenCls w (.slice (some ⟨g, off, none⟩) n c) cls) : ∃ cs, w.heap[g]? = some (.cells cs 59 (0, 0)) := by
 obtain ⟨acc, h1, _⟩ := h.ex
 exact Seen.blk h1
set_option maxHeartbeats 2000000 in
set_option maxRecDepth 100000 in
theorem pchoose_any (w : World) (q : Nat) (rb : Option Nat) (names : List ByteArray) (cf : Rf.Cf) (vc : Value) (cls : List Rf.Cl) (a3 : Option Addr) (n3 c3 : Nat) (ms : List Nat) (N : Nat) (F : Int) (h : QAt nm w q rb names cf) (hC : SeenCls w vc cls) (hM : Seen w 3 natCells (.slice a3 n3 c3) ms) (hG : Rf.StG N F cf.now) (hN : N <= 9000) (hF : F <= 1000000) (hne : cf.now.goals ≠ []) (hcg : Rf.ClsG cls) (hms : ∀ k ∈ ms, k < cls.length) (hl20 : cf.chs.length <= 20) (hml : ms.length <= 30) :
  Calls Tryz.prog 93 #[.pointer (some ⟨q, 0, none⟩), vc, .slice a3 n3 c3] w fun r w' => r = .returned (.int .i64 (Rf.chooseP cls cf ms).1) /\ (∃ rb', QAt nm w' q rb' names (Rf.chooseP cls cf ms).2 /\ Nb w rb rb') /\ Kept (May q rb) w w' := by
 obtain ⟨vg, vt, fr, vC, hQ⟩ := h.ex
 obtain ⟨k0, k1, k2, k3, k4, kf, kl⟩ := hQ.b.facts
 obtain ⟨ag, cg, rfl⟩ := hQ.s.g.slice
 obtain ⟨ta, tc, rfl⟩ := hQ.s.t.slice
 obtain ⟨ca, cc, rfl⟩ := hQ.r.slice
 obtain ⟨cla, clc, rfl⟩ := hC.slice
 have HQ : Hid _ := hQ
 have HC : Hid _ := hC
 have HM : Hid _ := hM
 have HG : Hid _ := hG
 have Hne : Hid _ := hne
 have HCG : Hid (Rf.ClsG cls) := hcg
 have hn3 : n3 = ms.length := hM.len
 subst hn3
 clear h hQ hC hG hne hcg
 cases ms with
 | nil =>
  have HU : Hid (Rf.chooseP cls cf [] = (-1, cf)) := rfl
  simp only [List.length_nil] at *
  go_enter Tryz.func93, Tryz.ntmps93
  go_wp2_with fail
  go_ret
  rw [HU.out]
  exact ⟨rfl, ⟨rb, HQ.out.at, .inl rfl⟩, Kept.refl _ _⟩
 | cons k rest =>
  have hk := hms k (by simp)
  obtain ⟨gm, om, rfl⟩ := hM.pos (by simp)
  have hgm := hM.lt
  have hmc := hM.cap
  have hm0 := Seen.natAt hM 0 k rfl
  obtain ⟨gc, oc, xx, rfl, hgl, _, hCl, hc0, hc1⟩ := HC.out.at k hk
  have hcG := HCG.out.at hk
  have HU : Hid (Rf.chooseP cls cf (k :: rest) = if rest ≠ [] /\ 20 <= cf.chs.length then (6, cf) else Rf.useP ⟨cf.now, Rf.putCh cf.chs cf.now rest⟩ cf.now (cls.getD k Rf.noCl) cf.chs.length) := rfl
  obtain ⟨cl, hcl⟩ : ∃ cl, Hid (cls.getD k Rf.noCl = cl) := ⟨_, rfl⟩
  rw [hcl.out] at hCl hcG HU
  obtain ⟨⟨ha, hn, hc⟩, ⟨ba, bn, bc⟩⟩ := xx
  simp only [List.length_cons] at hc0 hc1 hmc hml
  rw [Nat.add_zero] at hm0
  have HCl : Hid _ := hCl
  have HcG : Hid _ := hcG
  have Hr1 : Hid (c3 = 1 -> Seen w 3 natCells (.slice (some ⟨gm, om, none⟩) rest.length 0) rest) := fun hcc => by have h9 := hM.dropEnd 1 hcc; simpa using h9
  have Hr2 : Hid (Seen w 3 natCells (.slice (some ⟨gm, om + 1, none⟩) rest.length (c3 - 1)) rest) := by unfold Hid; have h9 := hM.drop natCells_len 1 (by simp); simpa using h9
  clear hM hCl hcG
  simp only [List.length_cons]
  cases rest with
  | nil =>
   have HU0 : Hid (Rf.chooseP cls cf [k] = Rf.useP cf cf.now cl cf.chs.length) := by unfold Hid; rw [HU.out, if_neg (by simp)]; rfl
   clear HU
   simp only [List.length_nil] at *
   have HQU : Hid _ := HQ.out
   have HSU : Hid _ := HQ.out.s
   have HCU : Hid _ := HCl.out
   go_enter Tryz.func93, Tryz.ntmps93
   go_wp2_with fail
   all_goals
    go_region_with (go_at_call 90; refine (puse_any _ q rb names cf (.slice ag cf.now.goals.length cg) (.slice ta cf.now.terms.length tc) fr cf.now ⟨ha, hn, hc⟩ ⟨ba, bn, bc⟩ cl cf.chs.length N F (HQU.out.below (by repeat(first|exact bl0 _ _|refine bl1 ?_ (by simp<;>omega) _|refine bl2 ?_|refine bl3 ?_ _|refine bl4 ?_ (by simp<;>omega) _))).at (HSU.out.below (by repeat(first|exact bl0 _ _|refine bl1 ?_ (by simp<;>omega) _|refine bl2 ?_|refine bl3 ?_ _|refine bl4 ?_ (by simp<;>omega) _))) HG.out hN hF Hne.out (HCU.out.below (by repeat(first|exact bl0 _ _|refine bl1 ?_ (by simp<;>omega) _|refine bl2 ?_|refine bl3 ?_ _|refine bl4 ?_ (by simp<;>omega) _))) HcG.out).mono ?_; rintro r w5 ⟨rfl, hQ5, hk5⟩)
    all_goals
     go_wp2_with fail
     go_ret
     rw [HU0.out]
     exact ⟨rfl, ⟨rb, hQ5, .inl rfl⟩, (Kept.of_below ((by repeat(first|exact bl0 _ _|refine bl1 ?_ (by simp<;>omega) _|refine bl2 ?_|refine bl3 ?_ _|refine bl4 ?_ (by simp<;>omega) _)) : Below w.heap.size w _) (May q rb)).trans hk5 (fun _ _ h => h)⟩
  | cons j2 rest =>
   by_cases h20 : 20 <= cf.chs.length
   ·have HU0 : Hid (Rf.chooseP cls cf (k :: j2 :: rest) = (6, cf)) := by unfold Hid; rw [HU.out, if_pos ⟨by simp, h20⟩]
    have h20' : (20 : Int) <= cf.chs.length := by omega
    simp only [List.length_cons] at *
    go_enter Tryz.func93, Tryz.ntmps93
    go_wp2_with fail
    all_goals
     go_ret
     rw [HU0.out]
     exact ⟨rfl, ⟨rb, HQ.out.at, .inl rfl⟩, Kept.refl _ _⟩
   ·have HU0 : Hid (Rf.chooseP cls cf (k :: j2 :: rest) = Rf.useP ⟨cf.now, ⟨cf.now, j2 :: rest⟩ :: cf.chs⟩ cf.now cl cf.chs.length) := by unfold Hid; rw [HU.out, if_neg (fun e => h20 e.2)]; rfl
    have h20' : ¬ (20 : Int) <= cf.chs.length := by omega
    obtain ⟨acc, hr, hac, ham⟩ := HQ.out.r.ex
    have hal : acc.length = cf.chs.length := by have := congrArg List.length ham; simpa using this
    have HR : Hid _ := hr
    have HAC : Hid _ := hac
    have HAM : Hid _ := ham
    clear hr hac ham HU
    simp only [List.length_cons] at *
    go_enter Tryz.func93, Tryz.ntmps93
    go_wp2_with fail
    have HRb : Hid (∀ X, Below w.heap.size w X -> RowIs X 0 79 4 chCells (.slice ca cf.chs.length cc) (acc.map (·.1))) := fun X hX => HR.out.below hX
    have HAb : Hid (∀ y ∈ acc, ∀ X, Below w.heap.size w X -> ChIs X y.1 y.2) := fun y hy X hX => (HAC.out y hy).below hX
    have HQb : Hid (∀ X, Below w.heap.size w X -> QIs X q rb nm (.slice ag cf.now.goals.length cg) (.slice ta cf.now.terms.length tc) fr (.slice ca cf.chs.length cc) names cf) := fun X hX => HQ.out.below hX
    have HCh : Hid (∀ X, Below w.heap.size w X -> ChIs X ⟨⟨ag, cf.now.goals.length, cg⟩, ⟨ta, cf.now.terms.length, tc⟩, fr, ⟨some ⟨gm, om + 1, none⟩, rest.length + 1, c3 - 1⟩⟩ ⟨cf.now, j2 :: rest⟩) := fun X hX => ⟨HQ.out.s.below hX, Seen.below Hr2.out hX⟩
    have hnm : ¬ May q rb gm := by obtain ⟨cs, hcs⟩ := Seen.blk HM.out; exact HQ.out.free.i gm cs hcs
    have hnc : ¬ May q rb gc := by obtain ⟨cs, hcs⟩ := HC.out.blk; exact HQ.out.free.c gc cs hcs
    go_region_law (refine step_app Tryz.elemCh chCells chCells_len chCells_one rfl (.tmp 28) (.tmp 35) rfl 0 (.slice ca cf.chs.length cc) (acc.map (·.1)) rfl (HRb.out _ (by repeat(first|exact bl0 _ _|refine bl1 ?_ (by simp<;>omega) _|refine bl2 ?_|refine bl3 ?_ _|refine bl4 ?_ (by simp<;>omega) _))) ⟨_, 0, none⟩ 1 ⟨⟨ag, cf.now.goals.length, cg⟩, ⟨ta, cf.now.terms.length, tc⟩, fr, ⟨some ⟨gm, om + 1, none⟩, rest.length + 1, c3 - 1⟩⟩ rfl (cell_four_at _ _ (by simp) _ _ _ _ _) (by rw [List.length_map, hal]; omega) (Nat.zero_le _) ?_; intro gA capA w3 hrow3 hgr3 hnb3; rw [List.length_map, hal] at hrow3; obtain ⟨r1, r2, r3⟩ := QIs.push (HQb.out _ (by repeat(first|exact bl0 _ _|refine bl1 ?_ (by simp<;>omega) _|refine bl2 ?_|refine bl3 ?_ _|refine bl4 ?_ (by simp<;>omega) _))) (fun y hy => HAb.out y hy _ (by repeat(first|exact bl0 _ _|refine bl1 ?_ (by simp<;>omega) _|refine bl2 ?_|refine bl3 ?_ _|refine bl4 ?_ (by simp<;>omega) _))) HAM.out (c := ⟨cf.now, j2 :: rest⟩) (HCh.out _ (by repeat(first|exact bl0 _ _|refine bl1 ?_ (by simp<;>omega) _|refine bl2 ?_|refine bl3 ?_ _|refine bl4 ?_ (by simp<;>omega) _))) hrow3 hgr3; obtain ⟨m0, m1, m2, m3, m4, mf, ml⟩ := r3.facts; have HR1 : Hid _ := r1; have HR2 : Hid (Kept (May q rb) w (w3.setCell ⟨q, 4, none⟩ (.slice (some ⟨gA, 0, none⟩) (cf.chs.length + 1) capA))) := (Kept.of_below ((by repeat(first|exact bl0 _ _|refine bl1 ?_ (by simp<;>omega) _|refine bl2 ?_|refine bl3 ?_ _|refine bl4 ?_ (by simp<;>omega) _)) : Below w.heap.size w _) (May q rb)).trans r2 (fun _ _ h => h); have hNB : Hid (Nb w rb (some gA)) := by { unfold Hid; rw [<- HQ.out.o]; exact Nb.up hnb3 (by simp <;> omega) }; clear r1 r2 r3)
    all_goals
     generalize w3.setCell ⟨q, 4, none⟩ (.slice (some ⟨gA, 0, none⟩) (cf.chs.length + 1) capA) = w4 at *
     clear m0 m1 m2 m3 m4 mf ml k0 k1 k2 k3 k4 kf
     obtain ⟨m0, m1, m2, m3, m4, mf, ml⟩ := HR1.out.b.facts
     have hm4 := (HR2.out.cell (p := ⟨gm, om, none⟩) hgm hnm).trans hm0
     have hc4 := (HR2.out.cell (p := ⟨gc, oc + k * 2, none⟩) hgl hnc).trans hc0
     have hc5 := (HR2.out.cell (p := ⟨gc, oc + k * 2 + 1, none⟩) hgl hnc).trans hc1
     have hz4 := HR2.out.size
     have hgm4 : gm < w4.heap.size := by omega
     have hgl4 : gc < w4.heap.size := by omega
     have HQU : Hid _ := HR1.out
     have HSU : Hid _ := HR1.out.s
     have HCU : Hid _ := HCl.out.kept HR2.out HQ.out.free
     go_wp2_with fail
     go_region_with (go_at_call 90; refine (puse_any _ q (some gA) names ⟨cf.now, ⟨cf.now, j2 :: rest⟩ :: cf.chs⟩ (.slice ag cf.now.goals.length cg) (.slice ta cf.now.terms.length tc) fr cf.now ⟨ha, hn, hc⟩ ⟨ba, bn, bc⟩ cl cf.chs.length N F (HQU.out.below (by repeat(first|exact bl0 _ _|refine bl1 ?_ (by simp<;>omega) _|refine bl2 ?_|refine bl3 ?_ _|refine bl4 ?_ (by simp<;>omega) _))).at (HSU.out.below (by repeat(first|exact bl0 _ _|refine bl1 ?_ (by simp<;>omega) _|refine bl2 ?_|refine bl3 ?_ _|refine bl4 ?_ (by simp<;>omega) _))) HG.out hN hF Hne.out (HCU.out.below (by repeat(first|exact bl0 _ _|refine bl1 ?_ (by simp<;>omega) _|refine bl2 ?_|refine bl3 ?_ _|refine bl4 ?_ (by simp<;>omega) _))) HcG.out).mono ?_; rintro r w5 ⟨rfl, hQ5, hk5⟩)
     all_goals
      go_wp2_with fail
      go_ret
      rw [HU0.out]
      refine ⟨rfl, ⟨some gA, hQ5, hNB.out⟩, ?_⟩
      refine (HR2.out.trans (Kept.of_below ((by repeat(first|exact bl0 _ _|refine bl1 ?_ (by simp<;>omega) _|refine bl2 ?_|refine bl3 ?_ _|refine bl4 ?_ (by simp<;>omega) _)) : Below w4.heap.size w4 _) (May q rb)) (fun _ _ h => h)).trans hk5 (fun i hi hm => ?_)
      rcases hm with rfl | hm
      ·exact .inl rfl
      ·rcases hNB.out with e | ⟨j, e, hj⟩
       ·exact .inr (by rw [<- e]; exact hm)
       ·rw [e] at hm; injection hm with hm; omega
end Go.Proofs.YtbiojnljihgpoaaGreatDoor
namespace Go.Proofs.YtbiojnljihgpoaaGreatDoor
open Go.RowKit
variable {nm : Value}
set_option maxHeartbeats 2000000 in
set_option maxRecDepth 100000 in
theorem pagain_any (w : World) (q : Nat) (rb : Option Nat) (names : List ByteArray) (cf : Rf.Cf) (vc : Value) (cls : List Rf.Cl) (G : Nat) (F : Int) (t : Nat) (h : QAt nm w q rb names cf) (hC : SeenCls w vc cls) (hG : Rf.CfG cls G F t cf) (hN : G + 7 * (t + 1) <= 9000) (hF : F + 16 * (t + 1) <= 1000000) (hcg : Rf.ClsG cls) :
  Calls Tryz.prog 66 #[.pointer (some ⟨q, 0, none⟩), vc] w fun r w' => r = .returned (.int .i64 (Rf.againP cls cf).1) /\ (∃ rb', QAt nm w' q rb' names (Rf.againP cls cf).2 /\ Nb w rb rb') /\ Kept (May q rb) w w' := by
 obtain ⟨now, chs⟩ := cf
 obtain ⟨vg, vt, fr, vC, hQ⟩ := h.ex
 obtain ⟨k0, k1, k2, k3, k4, kf, kl⟩ := hQ.b.facts
 obtain ⟨cla, clc, rfl⟩ := hC.slice
 have HQ : Hid _ := hQ
 have HC : Hid _ := hC
 have HG : Hid _ := hG
 have HCG : Hid (Rf.ClsG cls) := hcg
 have HQA : Hid _ := h
 have hl20 := hG.len
 clear h hC hG hcg
 cases chs with
 | nil =>
  have HU : Hid (Rf.againP cls ⟨now, []⟩ = (2, ⟨now, []⟩)) := rfl
  obtain ⟨ca, cc, rfl⟩ := hQ.r.slice
  simp only [List.length_nil] at k4
  clear hQ
  go_enter Tryz.func66, Tryz.ntmps66
  go_wp2_with fail
  go_ret
  rw [HU.out]
  exact ⟨rfl, ⟨rb, HQ.out.at, .inl rfl⟩, Kept.refl _ _⟩
 | cons c low =>
  have HU : Hid (Rf.againP cls ⟨now, c :: low⟩ = Rf.takeUp cls now low c) := rfl
  rcases hQ.r.shape with ⟨_, e⟩ | ⟨g, cap, rfl, hgl, hcap, hmax⟩
  ·cases e
  simp only [List.length_cons] at hcap k4 hl20
  obtain ⟨⟨⟨xga, xgn, xgc⟩, ⟨xta, xtn, xtc⟩, xf, ⟨xca, xcn, xcc⟩⟩, hx, hxc, hxf, hlo⟩ := hQ.r.last
  have x0 := hxc 0 _ rfl
  have x1 := hxc 1 _ rfl
  have x2 := hxc 2 _ rfl
  have x3 := hxc 3 _ rfl
  rw [Nat.add_zero] at x0
  simp only at x0 x1 x2 x3
  obtain ⟨gg, gi, gn⟩ := HG.out.chs c (by simp)
  have HX : Hid _ := hx
  have Hgg : Hid _ := gg
  have Hgi : Hid _ := gi
  have Hgn : Hid _ := gn
  have hdrop : Hid (Rf.dropC (c :: low) (low.length : Int) = low) := by
   unfold Hid Rf.dropC
   rw [Int.toNat_natCast, List.length_cons, show low.length + 1 - low.length = 1 by omega]
   rfl
  have hxn : xcn = c.cls.length := HX.out.cl.len
  clear hQ hx hxc hlo gg gi gn
  have hnL : ¬ May q rb w.heap.size := by
   rintro (e | e)
   ·omega
   ·have h9 : some w.heap.size = some g := e.trans HQ.out.o.symm
    injection h9 with h9; omega
  obtain ⟨st, cs⟩ := c
  simp only at HU hxn
  cases cs with
  | nil =>
   have HU0 : Hid (Rf.againP cls ⟨now, ⟨st, []⟩ :: low⟩ = (0, ⟨st, low⟩)) := HU.out
   clear HU
   simp only [List.length_nil] at hxn
   subst hxn
   go_enter Tryz.func66, Tryz.ntmps66
   go_wp2_with (go_at_call 89; refine (pdropTo_any _ q rb names ⟨now, ⟨st, []⟩ :: low⟩ low.length (HQA.out.below ((Below.refl _ w).alloc (Nat.le_refl _) _)) (by simp only [List.length_cons]; omega)).mono ?_; rintro r w2 ⟨rfl, hQ2, hk2⟩; rw [hdrop.out] at hQ2; have HK2 : Hid (Kept (May q rb) w w2) := (Kept.of_below ((Below.refl _ w).alloc (Nat.le_refl _) _) (May q rb)).trans hk2 (fun _ _ h => h); have B2 := (hk2.block w.heap.size (by rw [World.size_alloc]; omega) hnL).trans (blk_new w _); have y0 := blk_cell B2 0; have y1 := blk_cell B2 1; have y2 := blk_cell B2 2; have y3 := blk_cell B2 3; simp at y0 y1 y2 y3; have yl := blk_lt B2; have HB2 : Hid _ := B2; obtain ⟨vg2, vt2, fr2, vC2, hq2⟩ := hQ2.ex; obtain ⟨m0, m1, m2, m3, m4, mf, ml⟩ := hq2.b.facts; have Hq2 : Hid _ := hq2; have hz2 := HK2.out.size ; clear B2 hq2 hQ2)
   go_ret
   rw [HU0.out]
   obtain ⟨r1, r2⟩ := QIs.now3 Hq2.out (HX.out.st.kept HK2.out HQ.out.free)
   exact ⟨rfl, ⟨rb, r1.at, .inl rfl⟩, HK2.out.trans r2 (fun _ _ h => h)⟩
  | cons k rest =>
   have hk := Hgi.out k (by simp)
   have hgne : st.goals ≠ [] := Hgn.out (by simp)
   have Hne : Hid _ := hgne
   obtain ⟨gm, om, rfl⟩ := HX.out.cl.pos (by simp)
   have hgm := HX.out.cl.lt
   have hmc := HX.out.cl.cap
   have hm0 := Seen.natAt HX.out.cl 0 k rfl
   obtain ⟨gc, oc, xx, rfl, hgcl, _, hCl, hc0, hc1⟩ := HC.out.at k hk
   have hcG := HCG.out.at hk
   have HU1 : Hid (Rf.againP cls ⟨now, ⟨st, k :: rest⟩ :: low⟩ = Rf.useP ⟨now, Rf.putCh low st rest⟩ st (cls.getD k Rf.noCl) low.length) := HU.out
   obtain ⟨cl, hcl⟩ : ∃ cl, Hid (cls.getD k Rf.noCl = cl) := ⟨_, rfl⟩
   rw [hcl.out] at hCl hcG HU1
   obtain ⟨⟨ha, hn, hc⟩, ⟨ba, bn, bc⟩⟩ := xx
   simp only [List.length_cons] at hc0 hc1 hmc hxn
   subst hxn
   rw [Nat.add_zero] at hm0
   have HCl : Hid _ := hCl
   have HcG : Hid _ := hcG
   have hnm : ¬ May q rb gm := by obtain ⟨cs, hcs⟩ := Seen.blk HX.out.cl; exact HQ.out.free.i gm cs hcs
   have hnc : ¬ May q rb gc := by obtain ⟨cs, hcs⟩ := HC.out.blk; exact HQ.out.free.c gc cs hcs
   have Hr2 : Hid (Seen w 3 natCells (.slice (some ⟨gm, om + 1, none⟩) rest.length (xcc - 1)) rest) := by unfold Hid; have h9 := HX.out.cl.drop natCells_len 1 (by simp); simpa using h9
   clear hCl hcG HU hgne
   cases rest with
   | nil =>
    have HU0 : Hid (Rf.againP cls ⟨now, ⟨st, [k]⟩ :: low⟩ = Rf.useP ⟨now, low⟩ st cl low.length) := HU1.out
    clear HU1
    simp only [List.length_nil] at *
    go_enter Tryz.func66, Tryz.ntmps66
    go_wp2_with fail
    go_at_call 89
    refine (pdropTo_any _ q rb names ⟨now, ⟨st, [k]⟩ :: low⟩ low.length (HQA.out.below ((Below.refl _ w).alloc (Nat.le_refl _) _)) (by simp only [List.length_cons]; omega)).mono ?_
    rintro r w2 ⟨rfl, hQ2, hk2⟩
    rw [hdrop.out] at hQ2
    have HK2 : Hid (Kept (May q rb) w w2) := (Kept.of_below ((Below.refl _ w).alloc (Nat.le_refl _) _) (May q rb)).trans hk2 (fun _ _ h => h)
    have B2 := (hk2.block w.heap.size (by rw [World.size_alloc]; omega) hnL).trans (blk_new w _)
    have y0 := blk_cell B2 0
    have y1 := blk_cell B2 1
    have y2 := blk_cell B2 2
    have y3 := blk_cell B2 3
    simp at y0 y1 y2 y3
    have yl := blk_lt B2
    have HB2 : Hid _ := B2
    obtain ⟨vg2, vt2, fr2, vC2, hq2⟩ := hQ2.ex
    obtain ⟨m0, m1, m2, m3, m4, mf, ml⟩ := hq2.b.facts
    have Hq2 : Hid _ := hq2
    have hz2 := HK2.out.size
    have hm2 := (HK2.out.cell (p := ⟨gm, om, none⟩) hgm hnm).trans hm0
    have hc2 := (HK2.out.cell (p := ⟨gc, oc + k * 2, none⟩) hgcl hnc).trans hc0
    have hc3 := (HK2.out.cell (p := ⟨gc, oc + k * 2 + 1, none⟩) hgcl hnc).trans hc1
    have hgm2 : gm < w2.heap.size := by omega
    have hgc2 : gc < w2.heap.size := by omega
    clear B2 hq2 hQ2
    go_wp2_with fail
    all_goals
     have HQU : Hid _ := Hq2.out
     have HSU : Hid _ := HX.out.st.kept HK2.out HQ.out.free
     have HCU : Hid _ := HCl.out.kept HK2.out HQ.out.free
     go_region_with (go_at_call 90; refine (puse_any _ q rb names ⟨now, low⟩ (.slice xga xgn xgc) (.slice xta xtn xtc) xf st ⟨ha, hn, hc⟩ ⟨ba, bn, bc⟩ cl low.length (G + 7 * t) (F + 16 * t) (HQU.out.below (by repeat(first|exact bl0 _ _|refine bl1 ?_ (by simp<;>omega) _|refine bl2 ?_|refine bl3 ?_ _|refine bl4 ?_ (by simp<;>omega) _))).at (HSU.out.below (by repeat(first|exact bl0 _ _|refine bl1 ?_ (by simp<;>omega) _|refine bl2 ?_|refine bl3 ?_ _|refine bl4 ?_ (by simp<;>omega) _))) Hgg.out (by omega) (by omega) Hne.out (HCU.out.below (by repeat(first|exact bl0 _ _|refine bl1 ?_ (by simp<;>omega) _|refine bl2 ?_|refine bl3 ?_ _|refine bl4 ?_ (by simp<;>omega) _))) HcG.out).mono ?_; rintro r w5 ⟨rfl, hQ5, hk5⟩)
     all_goals
      go_wp2_with fail
      go_ret
      rw [HU0.out]
      exact ⟨rfl, ⟨rb, hQ5, .inl rfl⟩, (HK2.out.trans (Kept.of_below ((by repeat(first|exact bl0 _ _|refine bl1 ?_ (by simp<;>omega) _|refine bl2 ?_|refine bl3 ?_ _|refine bl4 ?_ (by simp<;>omega) _)) : Below w2.heap.size w2 _) (May q rb)) (fun _ _ h => h)).trans hk5 (fun _ _ h => h)⟩
   | cons j2 rest =>
    have HU0 : Hid (Rf.againP cls ⟨now, ⟨st, k :: j2 :: rest⟩ :: low⟩ = Rf.useP ⟨now, ⟨st, j2 :: rest⟩ :: low⟩ st cl low.length) := HU1.out
    clear HU1
    simp only [List.length_cons] at *
    go_enter Tryz.func66, Tryz.ntmps66
    go_wp2_with fail
    go_at_call 89
    refine (pdropTo_any _ q rb names ⟨now, ⟨st, k :: j2 :: rest⟩ :: low⟩ low.length (HQA.out.below ((Below.refl _ w).alloc (Nat.le_refl _) _)) (by simp only [List.length_cons]; omega)).mono ?_
    rintro r w2 ⟨rfl, hQ2, hk2⟩
    rw [hdrop.out] at hQ2
    have HK2 : Hid (Kept (May q rb) w w2) := (Kept.of_below ((Below.refl _ w).alloc (Nat.le_refl _) _) (May q rb)).trans hk2 (fun _ _ h => h)
    have B2 := (hk2.block w.heap.size (by rw [World.size_alloc]; omega) hnL).trans (blk_new w _)
    have y0 := blk_cell B2 0
    have y1 := blk_cell B2 1
    have y2 := blk_cell B2 2
    have y3 := blk_cell B2 3
    simp at y0 y1 y2 y3
    have yl := blk_lt B2
    have HB2 : Hid _ := B2
    obtain ⟨vg2, vt2, fr2, vC2, hq2⟩ := hQ2.ex
    obtain ⟨m0, m1, m2, m3, m4, mf, ml⟩ := hq2.b.facts
    have Hq2 : Hid _ := hq2
    have hz2 := HK2.out.size
    have hm2 := (HK2.out.cell (p := ⟨gm, om, none⟩) hgm hnm).trans hm0
    have hc2 := (HK2.out.cell (p := ⟨gc, oc + k * 2, none⟩) hgcl hnc).trans hc0
    have hc3 := (HK2.out.cell (p := ⟨gc, oc + k * 2 + 1, none⟩) hgcl hnc).trans hc1
    have hgm2 : gm < w2.heap.size := by omega
    have hgc2 : gc < w2.heap.size := by omega
    clear B2 hq2 hQ2
    go_wp2_with fail
    obtain ⟨a2, cc2, rfl⟩ := Hq2.out.r.slice
    obtain ⟨acc, hr, hac, ham⟩ := Hq2.out.r.ex
    have hal : acc.length = low.length := by have := congrArg List.length ham; simpa using this
    have HR : Hid _ := hr
    have HAC : Hid _ := hac
    have HAM : Hid _ := ham
    clear hr hac ham
    have HRb : Hid (∀ X, Below w2.heap.size w2 X -> RowIs X 0 79 4 chCells (.slice a2 low.length cc2) (acc.map (·.1))) := fun X hX => HR.out.below hX
    have HAb : Hid (∀ y ∈ acc, ∀ X, Below w2.heap.size w2 X -> ChIs X y.1 y.2) := fun y hy X hX => (HAC.out y hy).below hX
    have HQb : Hid (∀ X, Below w2.heap.size w2 X -> QIs X q rb nm vg2 vt2 fr2 (.slice a2 low.length cc2) names ⟨now, low⟩) := fun X hX => Hq2.out.below hX
    have HCh : Hid (∀ X, Below w2.heap.size w2 X -> ChIs X ⟨⟨xga, xgn, xgc⟩, ⟨xta, xtn, xtc⟩, xf, ⟨some ⟨gm, om + 1, none⟩, rest.length + 1, xcc - 1⟩⟩ ⟨st, j2 :: rest⟩) := fun X hX => ⟨(HX.out.st.kept HK2.out HQ.out.free).below hX, Seen.below (Seen.kept Hr2.out HK2.out HQ.out.free.i) hX⟩
    go_region_law (refine step_app Tryz.elemCh chCells chCells_len chCells_one rfl (.tmp 50) (.tmp 55) rfl 0 (.slice a2 low.length cc2) (acc.map (·.1)) rfl (HRb.out _ (by repeat(first|exact bl0 _ _|refine bl1 ?_ (by simp<;>omega) _|refine bl2 ?_|refine bl3 ?_ _|refine bl4 ?_ (by simp<;>omega) _))) ⟨_, 0, none⟩ 1 ⟨⟨xga, xgn, xgc⟩, ⟨xta, xtn, xtc⟩, xf, ⟨some ⟨gm, om + 1, none⟩, rest.length + 1, xcc - 1⟩⟩ rfl (cell_four_at _ _ (by simp) _ _ _ _ _) (by rw [List.length_map, hal]; omega) (Nat.zero_le _) ?_; intro gA capA w3 hrow3 hgr3 hnb3; rw [List.length_map, hal] at hrow3; obtain ⟨r1, r2, r3⟩ := QIs.push (HQb.out _ (by repeat(first|exact bl0 _ _|refine bl1 ?_ (by simp<;>omega) _|refine bl2 ?_|refine bl3 ?_ _|refine bl4 ?_ (by simp<;>omega) _))) (fun y hy => HAb.out y hy _ (by repeat(first|exact bl0 _ _|refine bl1 ?_ (by simp<;>omega) _|refine bl2 ?_|refine bl3 ?_ _|refine bl4 ?_ (by simp<;>omega) _))) HAM.out (c := ⟨st, j2 :: rest⟩) (HCh.out _ (by repeat(first|exact bl0 _ _|refine bl1 ?_ (by simp<;>omega) _|refine bl2 ?_|refine bl3 ?_ _|refine bl4 ?_ (by simp<;>omega) _))) hrow3 hgr3; obtain ⟨m0', m1', m2', m3', m4', mf', ml'⟩ := r3.facts; have HR1 : Hid _ := r1; have HR2 : Hid (Kept (May q rb) w2 (w3.setCell ⟨q, 4, none⟩ (.slice (some ⟨gA, 0, none⟩) (low.length + 1) capA))) := (Kept.of_below ((by repeat(first|exact bl0 _ _|refine bl1 ?_ (by simp<;>omega) _|refine bl2 ?_|refine bl3 ?_ _|refine bl4 ?_ (by simp<;>omega) _)) : Below w2.heap.size w2 _) (May q rb)).trans r2 (fun _ _ h => h); have hNB : Hid (Nb w rb (some gA)) := by { unfold Hid; rw [<- Hq2.out.o]; exact Nb.up hnb3 (by simp <;> omega) }; clear r1 r2 r3)
    all_goals
     generalize w3.setCell ⟨q, 4, none⟩ (.slice (some ⟨gA, 0, none⟩) (low.length + 1) capA) = w4 at *
     clear m0' m1' m2' m3' m4' mf' ml' m0 m1 m2 m3 m4 mf
     obtain ⟨m0, m1, m2, m3, m4, mf, ml4⟩ := HR1.out.b.facts
     have hc4 := (HR2.out.cell (p := ⟨gc, oc + k * 2, none⟩) hgc2 hnc).trans hc2
     have hc5 := (HR2.out.cell (p := ⟨gc, oc + k * 2 + 1, none⟩) hgc2 hnc).trans hc3
     have hz4 := HR2.out.size
     have hgl4 : gc < w4.heap.size := by omega
     have B4 := (HR2.out.block w.heap.size yl hnL).trans HB2.out
     have z0 := blk_cell B4 0
     have z1 := blk_cell B4 1
     have z2 := blk_cell B4 2
     have z3 := blk_cell B4 3
     simp at z0 z1 z2 z3
     have zl := blk_lt B4
     have HKW : Hid (Kept (May q rb) w w4) := HK2.out.trans HR2.out (fun _ _ h => h)
     have HQU : Hid _ := HR1.out
     have HSU : Hid _ := HX.out.st.kept HKW.out HQ.out.free
     have HCU : Hid _ := HCl.out.kept HKW.out HQ.out.free
     clear y0 y1 y2 y3 B4
     go_wp2_with fail
     go_region_with (go_at_call 90; refine (puse_any _ q (some gA) names ⟨now, ⟨st, j2 :: rest⟩ :: low⟩ (.slice xga xgn xgc) (.slice xta xtn xtc) xf st ⟨ha, hn, hc⟩ ⟨ba, bn, bc⟩ cl low.length (G + 7 * t) (F + 16 * t) (HQU.out.below (by repeat(first|exact bl0 _ _|refine bl1 ?_ (by simp<;>omega) _|refine bl2 ?_|refine bl3 ?_ _|refine bl4 ?_ (by simp<;>omega) _))).at (HSU.out.below (by repeat(first|exact bl0 _ _|refine bl1 ?_ (by simp<;>omega) _|refine bl2 ?_|refine bl3 ?_ _|refine bl4 ?_ (by simp<;>omega) _))) Hgg.out (by omega) (by omega) Hne.out (HCU.out.below (by repeat(first|exact bl0 _ _|refine bl1 ?_ (by simp<;>omega) _|refine bl2 ?_|refine bl3 ?_ _|refine bl4 ?_ (by simp<;>omega) _))) HcG.out).mono ?_; rintro r w5 ⟨rfl, hQ5, hk5⟩)
     all_goals
      go_wp2_with fail
      go_ret
      rw [HU0.out]
      refine ⟨rfl, ⟨some gA, hQ5, hNB.out⟩, ?_⟩
      refine (HKW.out.trans (Kept.of_below ((by repeat(first|exact bl0 _ _|refine bl1 ?_ (by simp<;>omega) _|refine bl2 ?_|refine bl3 ?_ _|refine bl4 ?_ (by simp<;>omega) _)) : Below w4.heap.size w4 _) (May q rb)) (fun _ _ h => h)).trans hk5 (fun i hi hm => ?_)
      rcases hm with rfl | hm
      ·exact .inl rfl
      ·rcases hNB.out with e | ⟨j, e, hj⟩
       ·exact .inr (by rw [<- e]; exact hm)
       ·rw [e] at hm; injection hm with hm; omega
end Go.Proofs.YtbiojnljihgpoaaGreatDoor
namespace Go.Proofs.YtbiojnljihgpoaaGreatDoor
open Go.RowKit
variable {nm : Value}
theorem matchN_len (S : Rf.St) : ∀ (i : Nat) (cs : List Rf.Cl), (Rf.matchN S i cs).length <= cs.length
 | _, [] => by simp [Rf.matchN]
 | i, c :: cs => by
  have := matchN_len S (i + 1) cs
  rw [Rf.matchN, List.length_append, List.length_cons]
  split
  ·simp only [List.length_cons, List.length_nil]; omega
  ·simp only [List.length_nil]; omega
set_option maxHeartbeats 1000000 in
theorem pbuiltInA_any (a : Option Addr) (n c : Nat) (A : List Rf.Part) (w : World) (h : Seen w 101 partCells (.slice a n c) A) :
  Calls Tryz.prog 91 #[.slice a n c] w fun r w' => r = .returned (.bool ((Rf.topP A).kind == 3 && Rf.builtInB (Rf.topP A).name (Rf.topP A).args)) /\ Below w.heap.size w w' := by
 by_cases h3 : (Rf.topP A).kind = 3
 ·cases A with
  | nil => exact absurd h3 (by decide)
  | cons p rest =>
   obtain ⟨g, off, rfl⟩ := h.pos (by simp)
   have h3' : p.kind = 3 := h3
   have hb : ((Rf.topP (p :: rest)).kind == 3) = true := by rw [h3]; rfl
   rw [hb, Bool.true_and]
   exact pbuiltIn_any g off n c p rest w h h3'
 ·have hb : ((Rf.topP A).kind == 3) = false := beq_eq_false_iff_ne.2 h3
  have hb' : ((Rf.topP A).kind != 3) = true := bne_iff_ne.2 h3
  have HV : Hid (((Rf.topP A).kind == 3 && Rf.builtInB (Rf.topP A).name (Rf.topP A).args) = false) := by unfold Hid; rw [hb]; rfl
  have H : Hid _ := h
  obtain ⟨p, hp⟩ : ∃ p, Hid (Rf.topP A = p) := ⟨_, rfl⟩
  rw [hp.out] at hb hb'
  clear h h3
  go_enter Tryz.func91, Tryz.ntmps91
  go_wp2_with (go_at_call 71; refine (ptopA_any a n c A _ H.out).mono ?_; rintro r w1 ⟨rfl, hb1⟩; rw [hp.out]; have hs1 := hb1.size)
  go_ret
  exact ⟨ret_bool HV.out.symm, hb1.alloc hs1 _⟩
set_option maxHeartbeats 2000000 in
set_option maxRecDepth 100000 in
theorem ptake_any (w : World) (q : Nat) (rb : Option Nat) (names : List ByteArray) (cf : Rf.Cf) (vc : Value) (cls : List Rf.Cl) (N : Nat) (F : Int) (h : QAt nm w q rb names cf) (hC : SeenCls w vc cls) (hG : Rf.StG N F cf.now) (hN : N <= 9000) (hF : F <= 1000000) (hne : cf.now.goals ≠ []) (hcg : Rf.ClsG cls) (hl20 : cf.chs.length <= 20) (hl30 : cls.length <= 30) :
  Calls Tryz.prog 67 #[.pointer (some ⟨q, 0, none⟩), vc] w fun r w' => r = .returned (.int .i64 (Rf.takeP cls cf).1) /\ (∃ rb', QAt nm w' q rb' names (Rf.takeP cls cf).2 /\ Nb w rb rb') /\ Kept (May q rb) w w' := by
 obtain ⟨vg, vt, fr, vC, hQ⟩ := h.ex
 obtain ⟨k0, k1, k2, k3, k4, kf, kl⟩ := hQ.b.facts
 obtain ⟨ag, cg, rfl⟩ := hQ.s.g.slice
 obtain ⟨g, off, rfl, hgl, _, hp1, hp2⟩ := hQ.s.g.pos hne
 obtain ⟨ta, tc, rfl⟩ := hQ.s.t.slice
 obtain ⟨cla, clc, rfl⟩ := hC.slice
 obtain ⟨⟨xa, xn, xc⟩, hx, hX⟩ := hQ.s.g.first hne
 simp only at hx hX
 have hgt := Rf.goalP_tm hG hne
 have HX : Hid (Seen w 101 partCells (.slice xa xn xc) (Rf.goalP cf.now)) := hX
 have HQ : Hid _ := hQ
 have HQA : Hid _ := h
 have HC : Hid _ := hC
 have HG : Hid _ := hG
 have Hne : Hid _ := hne
 have HCG : Hid (Rf.ClsG cls) := hcg
 have HGT : Hid _ := hgt
 have HU : Hid (Rf.takeP cls cf = if Rf.isBuilt (Rf.goalP cf.now) = true then Rf.builtP cf (Rf.goalP cf.now) else if Rf.knownP cf.now cls = true then Rf.chooseP cls cf (Rf.matchN cf.now 0 cls) else (12, cf)) := rfl
 obtain ⟨A, hA⟩ : ∃ A, Hid (Rf.goalP cf.now = A) := ⟨_, rfl⟩
 rw [hA.out] at HX HGT HU
 obtain ⟨p, hp⟩ : ∃ p, Hid (Rf.topP A = p) := ⟨_, rfl⟩
 have HIB : Hid (Rf.isBuilt A = (p.kind == 4 || (p.kind == 3 && Rf.builtInB p.name p.args))) := by unfold Hid Rf.isBuilt; rw [hp.out]
 clear h hQ hC hG hne hcg hX hgt
 by_cases h4 : p.kind = 4
 ·have h4' : (p.kind == 4) = true := by rw [h4]; rfl
  have HU0 : Hid (Rf.takeP cls cf = Rf.builtP cf A) := by unfold Hid; rw [HU.out, HIB.out, h4']; rfl
  clear HU HIB
  go_enter Tryz.func67, Tryz.ntmps67
  go_wp2_with (first
   | (go_at_call 71; refine (ptopA_any xa xn xc A _ HX.out).mono ?_; rintro r w1 ⟨rfl, hb1⟩; rw [hp.out]; have hz1 := hb1.size)
   | (go_at_call 92; refine (pbuilt_any _ q rb names cf xa xn xc A N F (HQA.out.below (hb1.alloc hz1 _)) (HX.out.below (hb1.alloc hz1 _)) HG.out hN Hne.out HGT.out.1 HGT.out.2 hl20).mono ?_; rintro r w2 ⟨rfl, ⟨rb', hQ2, hnb⟩, hk2⟩))
  go_ret
  rw [HU0.out]
  exact ⟨rfl, ⟨rb', hQ2, Nb.up hnb (by rw [World.size_alloc]; omega)⟩, (Kept.of_below (hb1.alloc hz1 _) (May q rb)).trans hk2 (fun _ _ h => h)⟩
 ·have h4' : (p.kind == 4) = false := beq_eq_false_iff_ne.2 h4
  cases hbi : (p.kind == 3 && Rf.builtInB p.name p.args)
  ·have HU1 : Hid (Rf.takeP cls cf = if Rf.knownP cf.now cls = true then Rf.chooseP cls cf (Rf.matchN cf.now 0 cls) else (12, cf)) := by unfold Hid; rw [HU.out, HIB.out, hbi, h4']; simp
   clear HU HIB
   obtain ⟨kn, hkn⟩ : ∃ kn, Hid (Rf.knownP cf.now cls = kn) := ⟨_, rfl⟩
   have hml : (Rf.matchN cf.now 0 cls).length <= 30 := Nat.le_trans (matchN_len cf.now 0 cls) hl30
   cases kn
   ·have HU0 : Hid (Rf.takeP cls cf = (12, cf)) := by unfold Hid; rw [HU1.out, hkn.out]; rfl
    clear HU1
    go_enter Tryz.func67, Tryz.ntmps67
    go_wp2_with (first
     | (go_at_call 71; refine (ptopA_any xa xn xc A _ HX.out).mono ?_; rintro r w1 ⟨rfl, hb1⟩; rw [hp.out]; have hz1 := hb1.size)
     | (go_at_call 91; refine (pbuiltInA_any xa xn xc A _ (HX.out.below (hb1.alloc hz1 _))).mono ?_; rintro r w2 ⟨rfl, hb2⟩; rw [hp.out, hbi]; have hbw2 : Below w.heap.size w w2 := (hb1.alloc hz1 _).trans (hb2.mono (by rw [World.size_alloc]; omega)); have hz2 := hbw2.size; obtain ⟨l0, l1, l2, l3, l4, lf, ll⟩ := (HQ.out.below hbw2).b.facts)
     | (go_at_call 76; refine (pmatching_any _ (.slice (some ⟨g, off, none⟩) cf.now.goals.length cg) (.slice ta cf.now.terms.length tc) fr cf.now (.slice cla cls.length clc) cls N F (HQ.out.s.below hbw2) HG.out hN hF Hne.out (HC.out.below hbw2) HCG.out hl30).mono ?_; rintro r w3 ⟨a3, n3, c3, rfl, hM3, hb3⟩; rw [hkn.out]; have hbw3 : Below w.heap.size w w3 := hbw2.trans (hb3.mono hz2); have hz3 := hbw3.size))
    go_ret
    rw [HU0.out]
    exact ⟨rfl, ⟨rb, HQA.out.below hbw3, .inl rfl⟩, Kept.of_below hbw3 _⟩
   ·have HU0 : Hid (Rf.takeP cls cf = Rf.chooseP cls cf (Rf.matchN cf.now 0 cls)) := by unfold Hid; rw [HU1.out, hkn.out]; rfl
    clear HU1
    go_enter Tryz.func67, Tryz.ntmps67
    go_wp2_with (first
     | (go_at_call 71; refine (ptopA_any xa xn xc A _ HX.out).mono ?_; rintro r w1 ⟨rfl, hb1⟩; rw [hp.out]; have hz1 := hb1.size)
     | (go_at_call 91; refine (pbuiltInA_any xa xn xc A _ (HX.out.below (hb1.alloc hz1 _))).mono ?_; rintro r w2 ⟨rfl, hb2⟩; rw [hp.out, hbi]; have hbw2 : Below w.heap.size w w2 := (hb1.alloc hz1 _).trans (hb2.mono (by rw [World.size_alloc]; omega)); have hz2 := hbw2.size; obtain ⟨l0, l1, l2, l3, l4, lf, ll⟩ := (HQ.out.below hbw2).b.facts)
     | (go_at_call 76; refine (pmatching_any _ (.slice (some ⟨g, off, none⟩) cf.now.goals.length cg) (.slice ta cf.now.terms.length tc) fr cf.now (.slice cla cls.length clc) cls N F (HQ.out.s.below hbw2) HG.out hN hF Hne.out (HC.out.below hbw2) HCG.out hl30).mono ?_; rintro r w3 ⟨a3, n3, c3, rfl, hM3, hb3⟩; rw [hkn.out]; have hbw3 : Below w.heap.size w w3 := hbw2.trans (hb3.mono hz2); have hz3 := hbw3.size)
     | (go_at_call 93; refine (pchoose_any _ q rb names cf (.slice cla cls.length clc) cls a3 n3 c3 (Rf.matchN cf.now 0 cls) N F (HQA.out.below hbw3) (HC.out.below hbw3) hM3 HG.out hN hF Hne.out HCG.out (fun j hj => by have := Rf.matchN_lt cf.now 0 cls j hj; omega) hl20 hml).mono ?_; rintro r w4 ⟨rfl, ⟨rb', hQ4, hnb⟩, hk4⟩))
    go_ret
    rw [HU0.out]
    exact ⟨rfl, ⟨rb', hQ4, Nb.up hnb hz3⟩, (Kept.of_below hbw3 (May q rb)).trans hk4 (fun _ _ h => h)⟩
  ·have HU0 : Hid (Rf.takeP cls cf = Rf.builtP cf A) := by unfold Hid; rw [HU.out, HIB.out, hbi]; simp
   clear HU HIB
   go_enter Tryz.func67, Tryz.ntmps67
   go_wp2_with (first
    | (go_at_call 71; refine (ptopA_any xa xn xc A _ HX.out).mono ?_; rintro r w1 ⟨rfl, hb1⟩; rw [hp.out]; have hz1 := hb1.size)
    | (go_at_call 91; refine (pbuiltInA_any xa xn xc A _ (HX.out.below (hb1.alloc hz1 _))).mono ?_; rintro r w2 ⟨rfl, hb2⟩; rw [hp.out, hbi]; have hbw2 : Below w.heap.size w w2 := (hb1.alloc hz1 _).trans (hb2.mono (by rw [World.size_alloc]; omega)); have hz2 := hbw2.size; obtain ⟨l0, l1, l2, l3, l4, lf, ll⟩ := (HQ.out.below hbw2).b.facts)
    | (go_at_call 92; refine (pbuilt_any _ q rb names cf xa xn xc A N F (HQA.out.below hbw2) (HX.out.below hbw2) HG.out hN Hne.out HGT.out.1 HGT.out.2 hl20).mono ?_; rintro r w3 ⟨rfl, ⟨rb', hQ3, hnb⟩, hk3⟩))
   go_ret
   rw [HU0.out]
   exact ⟨rfl, ⟨rb', hQ3, Nb.up hnb hz2⟩, (Kept.of_below hbw2 (May q rb)).trans hk3 (fun _ _ h => h)⟩
end Go.Proofs.YtbiojnljihgpoaaGreatDoor
namespace Go.Proofs.YtbiojnljihgpoaaGreatDoor
open Go.RowKit
variable {nm : Value}
theorem kept_nb {w w1 w2 : World} {q : Nat} {rb rb' : Option Nat} (h : Kept (May q rb) w w1) (hn : Nb w rb rb') (k : Kept (May q rb') w1 w2) : Kept (May q rb) w w2 :=
 h.trans k (fun i hi hm => by
  rcases hm with rfl | hm
  ·exact .inl rfl
  ·rcases hn with e | ⟨j, e, hj⟩
   ·exact .inr (by rw [<- e]; exact hm)
   ·rw [e] at hm; injection hm with hm; omega)
theorem nb_trans {w w1 : World} {rb rb' rb'' : Option Nat} (h : Nb w rb rb') (k : Nb w1 rb' rb'') (hs : w.heap.size <= w1.heap.size) : Nb w rb rb'' := Nb.trans h k hs
structure PlAt (w : World) (cls : List Rf.Cl) (n q : Nat) (rb : Option Nat) (names : List ByteArray) (t : Nat) (r : Int × Rf.Cf) (wr : World) : Prop where
 ex : ∃ rb', QAt nm wr q rb' names r.2 /\ Nb w rb rb'
 kept : Kept (May q rb) w wr
 kep : Rf.Kep cls n t r
set_option maxHeartbeats 2000000 in
set_option maxRecDepth 100000 in
theorem pplay_any (w : World) (q : Nat) (rb : Option Nat) (names : List ByteArray) (cf : Rf.Cf) (vc : Value) (cls : List Rf.Cl) (lim n : Nat) (o : Int) (h : QAt nm w q rb names cf) (hC : SeenCls w vc cls) (hK : Rf.Kep cls n 0 (o, cf)) (hcg : Rf.ClsG cls) (hck : Rf.ClsK cls) (hl30 : cls.length <= 30) (hlim : lim <= 1000) :
  Calls Tryz.prog 51 #[.pointer (some ⟨q, 0, none⟩), vc, .int .i64 (lim : Nat), .int .i64 o] w fun r w' => r = .returned (.int .i64 (Rf.playN cls lim (o, cf)).1) /\ (∃ rb', QAt nm w' q rb' names (Rf.playN cls lim (o, cf)).2 /\ Nb w rb rb') /\ Kept (May q rb) w w' := by
 have HF : Hid (Free w (May q rb)) := by obtain ⟨_, _, _, _, hQ⟩ := h.ex; exact hQ.free
 have HC : Hid _ := hC
 have HQ : Hid _ := h
 have HK : Hid _ := hK
 have HCG : Hid (Rf.ClsG cls) := hcg
 have HCK : Hid (Rf.ClsK cls) := hck
 obtain ⟨cla, clc, rfl⟩ := hC.slice
 clear h hC hK hcg hck
 obtain ⟨R, hR⟩ : ∃ R, Hid (Rf.playN cls lim (o, cf) = R) := ⟨_, rfl⟩
 rw [hR.out]
 go_enter Tryz.func51, Tryz.ntmps51
 go_wp2_with fail
 go_loopg [3, 9] (lim + 1) (fun m ov tv wr => ∃ (t : Nat) (r : Int × Rf.Cf), t <= lim /\ m = lim + 1 - t /\ tv = .int .i64 (t : Nat) /\ ov = .int .i64 r.1 /\ PlAt w cls n q rb names t r wr /\ Hid (Rf.playN cls (lim - t) r = R))
 case atStart => exact ⟨0, (o, cf), Nat.zero_le _, rfl, rfl, rfl, ⟨⟨rb, HQ.out, .inl rfl⟩, Kept.refl _ _, HK.out⟩, by unfold Hid; exact hR.out⟩
 case round =>
  obtain ⟨t, r, ht, rfl, rfl, rfl, hP, hres⟩ := hrel
  obtain ⟨wo, rfl⟩ : ∃ wo : World, wo = wr := ⟨_, rfl⟩
  have hset := Rf.playN_eq cls (lim - t) r
  rw [hres.out] at hset
  have Hset : Hid _ := hset
  have HP : Hid _ := hP
  clear hset hP hres
  go_wp2_with fail
  go_loopg [3] (Rf.leftC r.2.chs + 1) (fun m ov wi => ∃ (r' : Int × Rf.Cf), ov = .int .i64 r'.1 /\ (r'.1 = -1 -> Rf.leftC r'.2.chs + 1 <= m) /\ PlAt w cls n q rb names t r' wi /\ Hid (Rf.settle cls r = Rf.settle cls r'))
  case atStart => exact ⟨r, rfl, fun _ => Nat.le_refl _, HP.out, rfl⟩
  case round =>
   obtain ⟨r', rfl, hm, hP, hs⟩ := hrel
   obtain ⟨o1, cf1⟩ := r'
   simp only at hm
   have hg1 := hP.kep.cf
   obtain ⟨⟨rb1, hQ1, hN1⟩, hk1, hkep⟩ := hP
   simp only at hQ1 hg1
   have hz1 := hk1.size
   have HQ1 : Hid _ := hQ1
   have HN1 : Hid _ := hN1
   have HKep : Hid _ := hkep
   have Hg1 : Hid _ := hg1
   have HC1 : Hid _ := HC.out.kept hk1 HF.out
   clear hQ1 hN1 hkep hg1
   by_cases h1 : o1 = -1
   ·subst h1
    have hm := hm rfl
    obtain ⟨m', rfl⟩ : ∃ m', gk = m' + 1 := ⟨gk - 1, by omega⟩
    have Hs2 : Hid (Rf.settle cls r = Rf.settle cls (Rf.againP cls cf1)) := by unfold Hid; rw [hs.out, Rf.settle_fail]
    have Hle : Hid ((Rf.againP cls cf1).1 = -1 -> Rf.leftC (Rf.againP cls cf1).2.chs + 1 <= m') := fun e => by
     by_cases hc : cf1.chs = []
     ·rw [Rf.again_none hc] at e; simp at e
     ·have := Rf.again_left (cs := cls) hc; omega
    clear hs
    go_wp2_with (go_at_call 66; refine (pagain_any _ q rb1 names cf1 (.slice cla cls.length clc) cls 1000 406400 t HQ1.out HC1.out Hg1.out (by omega) (by omega) HCG.out).mono ?_; rintro rr w2 ⟨rfl, ⟨rb2, hQ2, hN2⟩, hk2⟩)
    go_roundg m'
    case measure => omega
    case rel => exact ⟨Rf.againP cls cf1, rfl, Hle.out, ⟨⟨rb2, hQ2, nb_trans HN1.out hN2 hz1⟩, kept_nb hk1 HN1.out hk2, Rf.kep_again HCG.out HCK.out HKep.out⟩, Hs2⟩
   ·have h1' : (o1 == -1) = false := beq_eq_false_iff_ne.2 h1
    have hsr : Rf.settle cls r = (o1, cf1) := by rw [hs.out]; exact Rf.settle_ok h1
    have Hs3 := Hset
    rw [hsr] at Hs3
    clear hs hm hsr Hset
    by_cases h0 : o1 = 0
    ·subst h0
     have Hs4 : Hid (R = if cf1.now.goals = [] then (1, cf1) else match lim - t with
      | 0 => (5, cf1)
      | m + 1 => Rf.playN cls m (Rf.takeP cls cf1)) := by unfold Hid; rw [Hs3.out]; rfl
     clear Hs3
     obtain ⟨vg, vt, fr, vC, hqi⟩ := HQ1.out.ex
     obtain ⟨m0, m1, m2, m3, m4, mf, ml⟩ := hqi.b.facts
     obtain ⟨ga, gc, rfl⟩ := hqi.s.g.slice
     clear hqi
     by_cases hg : cf1.now.goals = []
     ·have HR0 : Hid (R = (1, cf1)) := by unfold Hid; rw [Hs4.out, if_pos hg]
      have hgl : cf1.now.goals.length = 0 := by rw [hg]; rfl
      rw [hgl] at m1
      clear Hs4 hg hgl
      go_wp2_with fail
      go_ret
      rw [HR0.out]
      exact ⟨rfl, ⟨rb1, HQ1.out, HN1.out⟩, hk1⟩
     ·have hgl : 1 <= cf1.now.goals.length := by
       cases hgc : cf1.now.goals with
       | nil => exact absurd hgc hg
       | cons => simp
      by_cases htl : t < lim
      ·obtain ⟨d, hd⟩ : ∃ d, lim - t = d + 1 := ⟨lim - t - 1, by omega⟩
       have HR0 : Hid (Rf.playN cls (lim - (t + 1)) (Rf.takeP cls cf1) = R) := by unfold Hid; rw [Hs4.out, if_neg hg, hd, show lim - (t + 1) = d by omega]
       have Hgne : Hid _ := hg
       have htl' : ¬ ((lim : Int) <= t) := by omega
       have hglz : ((cf1.now.goals.length : Int) == 0) = false := by rw [beq_eq_false_iff_ne]; omega
       clear Hs4 hg
       go_wp2_with (go_at_call 67; refine (ptake_any _ q rb1 names cf1 (.slice cla cls.length clc) cls (1000 + 7 * (t + 1)) (406400 + 16 * (t + 1)) HQ1.out HC1.out Hg1.out.now (by omega) (by omega) Hgne.out HCG.out Hg1.out.len hl30).mono ?_; rintro rr w2 ⟨rfl, ⟨rb2, hQ2, hN2⟩, hk2⟩)
       go_roundg (lim + 1 - (t + 1))
       case measure => omega
       case rel => exact ⟨t + 1, Rf.takeP cls cf1, by omega, rfl, by go_num, rfl, ⟨⟨rb2, hQ2, nb_trans HN1.out hN2 hz1⟩, kept_nb hk1 HN1.out hk2, Rf.kep_take HCG.out HCK.out HKep.out Hgne.out⟩, HR0⟩
      ·have hd : lim - t = 0 := by omega
       have HR0 : Hid (R = (5, cf1)) := by unfold Hid; rw [Hs4.out, if_neg hg, hd]
       have htl' : (lim : Int) <= t := by omega
       have hglz : ((cf1.now.goals.length : Int) == 0) = false := by rw [beq_eq_false_iff_ne]; omega
       clear Hs4 hg
       go_wp2_with fail
       go_ret
       rw [HR0.out]
       exact ⟨rfl, ⟨rb1, HQ1.out, HN1.out⟩, hk1⟩
    ·have h0' : (o1 != 0) = true := bne_iff_ne.2 h0
     have HR0 : Hid (R = (o1, cf1)) := by unfold Hid; rw [Hs3.out, if_pos h0]
     clear Hs3
     go_wp2_with fail
     go_ret
     rw [HR0.out]
     exact ⟨rfl, ⟨rb1, HQ1.out, HN1.out⟩, hk1⟩
end Go.Proofs.YtbiojnljihgpoaaGreatDoor
