/- The program's question (play: again, take): the plain functions' answers. -/
import Derived.Test.YtpdikdnffehmkaaDoorYar
import Derived.Deep.LoopGhost
import Derived.Test.YtpdikdnffehmkaaDoorYan
namespace Go.Proofs.YtpdikdnffehmkaaDoor
open Go.RowKit
set_option maxHeartbeats 2000000 in
set_option maxRecDepth 100000 in
theorem pagain_any (w : World) (q : Nat) (rb : Option Nat) (names : List ByteArray) (cf : Rf.Cf) (vc : Value) (cls : List Rf.Cl) (G : Nat) (F : Int) (t : Nat) (h : QAt w q rb names cf) (hC : SeenCls w vc cls) (hG : Rf.CfG cls G F t cf) (hN : G + 7 * (t + 1) ≤ 9000) (hF : F + 16 * (t + 1) ≤ 1000000) (hcg : Rf.ClsG cls) :
    Calls Tryd.prog 36 #[.pointer (some ⟨q, 0, none⟩), vc] w fun r w' => r = .returned (.int .i64 (Rf.againP cls cf).1) ∧ (∃ rb', QAt w' q rb' names (Rf.againP cls cf).2 ∧ Nb w rb rb') ∧ Kept (May q rb) w w' := by
  obtain ⟨now, chs⟩ := cf
  obtain ⟨vN, vg, vt, fr, vC, hQ⟩ := h.ex
  obtain ⟨k0, k1, k2, k3, k4, kf, kl⟩ := hQ.b.facts
  obtain ⟨cla, clc, rfl⟩ := hC.slice
  have HQ : Hid _ := hQ
  have HC : Hid _ := hC
  have HG : Hid _ := hG
  have HCG : Hid (Rf.ClsG cls) := hcg
  have HQA : Hid _ := h
  have hl20 := hG.len
  clear h hC hG hcg
  cases chs with
  | nil =>
    have HU : Hid (Rf.againP cls ⟨now, []⟩ = (2, ⟨now, []⟩)) := rfl
    obtain ⟨ca, cc, rfl⟩ := hQ.r.slice
    simp only [List.length_nil] at k4
    clear hQ
    go_enter Tryd.func36, Tryd.ntmps36
    go_wp2_with fail
    go_ret
    rw [HU.out]
    exact ⟨rfl, ⟨rb, HQ.out.at, .inl rfl⟩, Kept.refl _ _⟩
  | cons c low =>
    have HU : Hid (Rf.againP cls ⟨now, c :: low⟩ = Rf.takeUp cls now low c) := rfl
    rcases hQ.r.shape with ⟨_, e⟩ | ⟨g, cap, rfl, hgl, hcap, hmax⟩
    · cases e
    simp only [List.length_cons] at hcap k4 hl20
    obtain ⟨⟨⟨xga, xgn, xgc⟩, ⟨xta, xtn, xtc⟩, xf, ⟨xca, xcn, xcc⟩⟩, hx, hxc, hxf, hlo⟩ := hQ.r.last
    have x0 := hxc 0 _ rfl
    have x1 := hxc 1 _ rfl
    have x2 := hxc 2 _ rfl
    have x3 := hxc 3 _ rfl
    rw [Nat.add_zero] at x0
    simp only at x0 x1 x2 x3
    obtain ⟨gg, gi, gn⟩ := HG.out.chs c (by simp)
    have HX : Hid _ := hx
    have Hgg : Hid _ := gg
    have Hgi : Hid _ := gi
    have Hgn : Hid _ := gn
    have hdrop : Hid (Rf.dropC (c :: low) (low.length : Int) = low) := by
      unfold Hid Rf.dropC
      rw [Int.toNat_natCast, List.length_cons, show low.length + 1 - low.length = 1 by omega]
      rfl
    have hxn : xcn = c.cls.length := HX.out.cl.len
    clear hQ hx hxc hlo gg gi gn
    have hnL : ¬ May q rb w.heap.size := by
      rintro (e | e)
      · omega
      · have h9 : some w.heap.size = some g := e.trans HQ.out.o.symm
        injection h9 with h9; omega
    obtain ⟨st, cs⟩ := c
    simp only at HU hxn
    cases cs with
    | nil =>
      have HU0 : Hid (Rf.againP cls ⟨now, ⟨st, []⟩ :: low⟩ = (0, ⟨st, low⟩)) := HU.out
      clear HU
      simp only [List.length_nil] at hxn
      subst hxn
      go_enter Tryd.func36, Tryd.ntmps36
      go_wp2_with (go_at_call 56; refine (pdropTo_any _ q rb names ⟨now, ⟨st, []⟩ :: low⟩ low.length (HQA.out.below ((Below.refl _ w).alloc (Nat.le_refl _) _)) (by simp only [List.length_cons]; omega)).mono ?_; rintro r w2 ⟨rfl, hQ2, hk2⟩; rw [hdrop.out] at hQ2; have HK2 : Hid (Kept (May q rb) w w2) := (Kept.of_below ((Below.refl _ w).alloc (Nat.le_refl _) _) (May q rb)).trans hk2 (fun _ _ h => h); have B2 := (hk2.block w.heap.size (by rw [World.size_alloc]; omega) hnL).trans (blk_new w _); have y0 := blk_cell B2 0; have y1 := blk_cell B2 1; have y2 := blk_cell B2 2; have y3 := blk_cell B2 3; simp at y0 y1 y2 y3; have yl := blk_lt B2; have HB2 : Hid _ := B2; obtain ⟨vN2, vg2, vt2, fr2, vC2, hq2⟩ := hQ2.ex; obtain ⟨m0, m1, m2, m3, m4, mf, ml⟩ := hq2.b.facts; have Hq2 : Hid _ := hq2; have hz2 := HK2.out.size ; clear B2 hq2 hQ2)
      go_ret
      rw [HU0.out]
      obtain ⟨r1, r2⟩ := QIs.now3 Hq2.out (HX.out.st.kept HK2.out HQ.out.free)
      exact ⟨rfl, ⟨rb, r1.at, .inl rfl⟩, HK2.out.trans r2 (fun _ _ h => h)⟩
    | cons k rest =>
      have hk := Hgi.out k (by simp)
      have hgne : st.goals ≠ [] := Hgn.out (by simp)
      have Hne : Hid _ := hgne
      obtain ⟨gm, om, rfl⟩ := HX.out.cl.pos (by simp)
      have hgm := HX.out.cl.lt
      have hmc := HX.out.cl.cap
      have hm0 := Seen.natAt HX.out.cl 0 k rfl
      obtain ⟨gc, oc, xx, rfl, hgcl, _, hCl, hc0, hc1⟩ := HC.out.at k hk
      have hcG := HCG.out.at hk
      have HU1 : Hid (Rf.againP cls ⟨now, ⟨st, k :: rest⟩ :: low⟩ = Rf.useP ⟨now, Rf.putCh low st rest⟩ st (cls.getD k Rf.noCl) low.length) := HU.out
      obtain ⟨cl, hcl⟩ : ∃ cl, Hid (cls.getD k Rf.noCl = cl) := ⟨_, rfl⟩
      rw [hcl.out] at hCl hcG HU1
      obtain ⟨⟨ha, hn, hc⟩, ⟨ba, bn, bc⟩⟩ := xx
      simp only [List.length_cons] at hc0 hc1 hmc hxn
      subst hxn
      rw [Nat.add_zero] at hm0
      have HCl : Hid _ := hCl
      have HcG : Hid _ := hcG
      have hnm : ¬ May q rb gm := by obtain ⟨cs, hcs⟩ := Seen.blk HX.out.cl; exact HQ.out.free.i gm cs hcs
      have hnc : ¬ May q rb gc := by obtain ⟨cs, hcs⟩ := HC.out.blk; exact HQ.out.free.c gc cs hcs
      have Hr2 : Hid (Seen w 3 natCells (.slice (some ⟨gm, om + 1, none⟩) rest.length (xcc - 1)) rest) := by unfold Hid; have h9 := HX.out.cl.drop natCells_len 1 (by simp); simpa using h9
      clear hCl hcG HU hgne
      cases rest with
      | nil =>
        have HU0 : Hid (Rf.againP cls ⟨now, ⟨st, [k]⟩ :: low⟩ = Rf.useP ⟨now, low⟩ st cl low.length) := HU1.out
        clear HU1
        simp only [List.length_nil] at *
        go_enter Tryd.func36, Tryd.ntmps36
        go_wp2_with fail
        go_at_call 56
        refine (pdropTo_any _ q rb names ⟨now, ⟨st, [k]⟩ :: low⟩ low.length (HQA.out.below ((Below.refl _ w).alloc (Nat.le_refl _) _)) (by simp only [List.length_cons]; omega)).mono ?_
        rintro r w2 ⟨rfl, hQ2, hk2⟩
        rw [hdrop.out] at hQ2
        have HK2 : Hid (Kept (May q rb) w w2) := (Kept.of_below ((Below.refl _ w).alloc (Nat.le_refl _) _) (May q rb)).trans hk2 (fun _ _ h => h)
        have B2 := (hk2.block w.heap.size (by rw [World.size_alloc]; omega) hnL).trans (blk_new w _)
        have y0 := blk_cell B2 0
        have y1 := blk_cell B2 1
        have y2 := blk_cell B2 2
        have y3 := blk_cell B2 3
        simp at y0 y1 y2 y3
        have yl := blk_lt B2
        have HB2 : Hid _ := B2
        obtain ⟨vN2, vg2, vt2, fr2, vC2, hq2⟩ := hQ2.ex
        obtain ⟨m0, m1, m2, m3, m4, mf, ml⟩ := hq2.b.facts
        have Hq2 : Hid _ := hq2
        have hz2 := HK2.out.size
        have hm2 := (HK2.out.cell (p := ⟨gm, om, none⟩) hgm hnm).trans hm0
        have hc2 := (HK2.out.cell (p := ⟨gc, oc + k * 2, none⟩) hgcl hnc).trans hc0
        have hc3 := (HK2.out.cell (p := ⟨gc, oc + k * 2 + 1, none⟩) hgcl hnc).trans hc1
        have hgm2 : gm < w2.heap.size := by omega
        have hgc2 : gc < w2.heap.size := by omega
        clear B2 hq2 hQ2
        go_wp2_with fail
        all_goals
          have HQU : Hid _ := Hq2.out
          have HSU : Hid _ := HX.out.st.kept HK2.out HQ.out.free
          have HCU : Hid _ := HCl.out.kept HK2.out HQ.out.free
          go_region_with (go_at_call 57; refine (puse_any _ q rb names ⟨now, low⟩ (.slice xga xgn xgc) (.slice xta xtn xtc) xf st ⟨ha, hn, hc⟩ ⟨ba, bn, bc⟩ cl low.length (G + 7 * t) (F + 16 * t) (HQU.out.below (by repeat (first | exact Below.refl _ _ | refine Below.setCell ?_ (by simp <;> omega) _ | refine Below.drew ?_ | refine Below.drewN ?_ _ | refine Below.alloc ?_ (by simp <;> omega) _))).at (HSU.out.below (by repeat (first | exact Below.refl _ _ | refine Below.setCell ?_ (by simp <;> omega) _ | refine Below.drew ?_ | refine Below.drewN ?_ _ | refine Below.alloc ?_ (by simp <;> omega) _))) Hgg.out (by omega) (by omega) Hne.out (HCU.out.below (by repeat (first | exact Below.refl _ _ | refine Below.setCell ?_ (by simp <;> omega) _ | refine Below.drew ?_ | refine Below.drewN ?_ _ | refine Below.alloc ?_ (by simp <;> omega) _))) HcG.out).mono ?_; rintro r w5 ⟨rfl, hQ5, hk5⟩)
          all_goals
            go_wp2_with fail
            go_ret
            rw [HU0.out]
            exact ⟨rfl, ⟨rb, hQ5, .inl rfl⟩, (HK2.out.trans (Kept.of_below ((by repeat (first | exact Below.refl _ _ | refine Below.setCell ?_ (by simp <;> omega) _ | refine Below.drew ?_ | refine Below.drewN ?_ _ | refine Below.alloc ?_ (by simp <;> omega) _)) : Below w2.heap.size w2 _) (May q rb)) (fun _ _ h => h)).trans hk5 (fun _ _ h => h)⟩
      | cons j2 rest =>
        have HU0 : Hid (Rf.againP cls ⟨now, ⟨st, k :: j2 :: rest⟩ :: low⟩ = Rf.useP ⟨now, ⟨st, j2 :: rest⟩ :: low⟩ st cl low.length) := HU1.out
        clear HU1
        simp only [List.length_cons] at *
        go_enter Tryd.func36, Tryd.ntmps36
        go_wp2_with fail
        go_at_call 56
        refine (pdropTo_any _ q rb names ⟨now, ⟨st, k :: j2 :: rest⟩ :: low⟩ low.length (HQA.out.below ((Below.refl _ w).alloc (Nat.le_refl _) _)) (by simp only [List.length_cons]; omega)).mono ?_
        rintro r w2 ⟨rfl, hQ2, hk2⟩
        rw [hdrop.out] at hQ2
        have HK2 : Hid (Kept (May q rb) w w2) := (Kept.of_below ((Below.refl _ w).alloc (Nat.le_refl _) _) (May q rb)).trans hk2 (fun _ _ h => h)
        have B2 := (hk2.block w.heap.size (by rw [World.size_alloc]; omega) hnL).trans (blk_new w _)
        have y0 := blk_cell B2 0
        have y1 := blk_cell B2 1
        have y2 := blk_cell B2 2
        have y3 := blk_cell B2 3
        simp at y0 y1 y2 y3
        have yl := blk_lt B2
        have HB2 : Hid _ := B2
        obtain ⟨vN2, vg2, vt2, fr2, vC2, hq2⟩ := hQ2.ex
        obtain ⟨m0, m1, m2, m3, m4, mf, ml⟩ := hq2.b.facts
        have Hq2 : Hid _ := hq2
        have hz2 := HK2.out.size
        have hm2 := (HK2.out.cell (p := ⟨gm, om, none⟩) hgm hnm).trans hm0
        have hc2 := (HK2.out.cell (p := ⟨gc, oc + k * 2, none⟩) hgcl hnc).trans hc0
        have hc3 := (HK2.out.cell (p := ⟨gc, oc + k * 2 + 1, none⟩) hgcl hnc).trans hc1
        have hgm2 : gm < w2.heap.size := by omega
        have hgc2 : gc < w2.heap.size := by omega
        clear B2 hq2 hQ2
        go_wp2_with fail
        obtain ⟨a2, cc2, rfl⟩ := Hq2.out.r.slice
        obtain ⟨acc, hr, hac, ham⟩ := Hq2.out.r.ex
        have hal : acc.length = low.length := by have := congrArg List.length ham; simpa using this
        have HR : Hid _ := hr
        have HAC : Hid _ := hac
        have HAM : Hid _ := ham
        clear hr hac ham
        have HRb : Hid (∀ X, Below w2.heap.size w2 X → RowIs X 0 104 4 chCells (.slice a2 low.length cc2) (acc.map (·.1))) := fun X hX => HR.out.below hX
        have HAb : Hid (∀ y ∈ acc, ∀ X, Below w2.heap.size w2 X → ChIs X y.1 y.2) := fun y hy X hX => (HAC.out y hy).below hX
        have HQb : Hid (∀ X, Below w2.heap.size w2 X → QIs X q rb vN2 vg2 vt2 fr2 (.slice a2 low.length cc2) names ⟨now, low⟩) := fun X hX => Hq2.out.below hX
        have HCh : Hid (∀ X, Below w2.heap.size w2 X → ChIs X ⟨⟨xga, xgn, xgc⟩, ⟨xta, xtn, xtc⟩, xf, ⟨some ⟨gm, om + 1, none⟩, rest.length + 1, xcc - 1⟩⟩ ⟨st, j2 :: rest⟩) := fun X hX => ⟨(HX.out.st.kept HK2.out HQ.out.free).below hX, Seen.below (Seen.kept Hr2.out HK2.out HQ.out.free.i) hX⟩
        go_region_law (refine step_app Tryd.elemCh chCells chCells_len chCells_one rfl (.tmp 50) (.tmp 55) rfl 0 (.slice a2 low.length cc2) (acc.map (·.1)) rfl (HRb.out _ (by repeat (first | exact Below.refl _ _ | refine Below.setCell ?_ (by simp <;> omega) _ | refine Below.drew ?_ | refine Below.drewN ?_ _ | refine Below.alloc ?_ (by simp <;> omega) _))) ⟨_, 0, none⟩ 1 ⟨⟨xga, xgn, xgc⟩, ⟨xta, xtn, xtc⟩, xf, ⟨some ⟨gm, om + 1, none⟩, rest.length + 1, xcc - 1⟩⟩ rfl (cell_four_at _ _ (by simp) _ _ _ _ _) (by rw [List.length_map, hal]; omega) (Nat.zero_le _) ?_; intro gA capA w3 hrow3 hgr3 hnb3; rw [List.length_map, hal] at hrow3; obtain ⟨r1, r2, r3⟩ := QIs.push (HQb.out _ (by repeat (first | exact Below.refl _ _ | refine Below.setCell ?_ (by simp <;> omega) _ | refine Below.drew ?_ | refine Below.drewN ?_ _ | refine Below.alloc ?_ (by simp <;> omega) _))) (fun y hy => HAb.out y hy _ (by repeat (first | exact Below.refl _ _ | refine Below.setCell ?_ (by simp <;> omega) _ | refine Below.drew ?_ | refine Below.drewN ?_ _ | refine Below.alloc ?_ (by simp <;> omega) _))) HAM.out (c := ⟨st, j2 :: rest⟩) (HCh.out _ (by repeat (first | exact Below.refl _ _ | refine Below.setCell ?_ (by simp <;> omega) _ | refine Below.drew ?_ | refine Below.drewN ?_ _ | refine Below.alloc ?_ (by simp <;> omega) _))) hrow3 hgr3; obtain ⟨m0', m1', m2', m3', m4', mf', ml'⟩ := r3.facts; have HR1 : Hid _ := r1; have HR2 : Hid (Kept (May q rb) w2 (w3.setCell ⟨q, 4, none⟩ (.slice (some ⟨gA, 0, none⟩) (low.length + 1) capA))) := (Kept.of_below ((by repeat (first | exact Below.refl _ _ | refine Below.setCell ?_ (by simp <;> omega) _ | refine Below.drew ?_ | refine Below.drewN ?_ _ | refine Below.alloc ?_ (by simp <;> omega) _)) : Below w2.heap.size w2 _) (May q rb)).trans r2 (fun _ _ h => h); have hNB : Hid (Nb w rb (some gA)) := by { unfold Hid; rw [← Hq2.out.o]; exact Nb.up hnb3 (by simp <;> omega) }; clear r1 r2 r3)
        all_goals
          generalize w3.setCell ⟨q, 4, none⟩ (.slice (some ⟨gA, 0, none⟩) (low.length + 1) capA) = w4 at *
          clear m0' m1' m2' m3' m4' mf' ml' m0 m1 m2 m3 m4 mf
          obtain ⟨m0, m1, m2, m3, m4, mf, ml4⟩ := HR1.out.b.facts
          have hc4 := (HR2.out.cell (p := ⟨gc, oc + k * 2, none⟩) hgc2 hnc).trans hc2
          have hc5 := (HR2.out.cell (p := ⟨gc, oc + k * 2 + 1, none⟩) hgc2 hnc).trans hc3
          have hz4 := HR2.out.size
          have hgl4 : gc < w4.heap.size := by omega
          have B4 := (HR2.out.block w.heap.size yl hnL).trans HB2.out
          have z0 := blk_cell B4 0
          have z1 := blk_cell B4 1
          have z2 := blk_cell B4 2
          have z3 := blk_cell B4 3
          simp at z0 z1 z2 z3
          have zl := blk_lt B4
          have HKW : Hid (Kept (May q rb) w w4) := HK2.out.trans HR2.out (fun _ _ h => h)
          have HQU : Hid _ := HR1.out
          have HSU : Hid _ := HX.out.st.kept HKW.out HQ.out.free
          have HCU : Hid _ := HCl.out.kept HKW.out HQ.out.free
          clear y0 y1 y2 y3 B4
          go_wp2_with fail
          go_region_with (go_at_call 57; refine (puse_any _ q (some gA) names ⟨now, ⟨st, j2 :: rest⟩ :: low⟩ (.slice xga xgn xgc) (.slice xta xtn xtc) xf st ⟨ha, hn, hc⟩ ⟨ba, bn, bc⟩ cl low.length (G + 7 * t) (F + 16 * t) (HQU.out.below (by repeat (first | exact Below.refl _ _ | refine Below.setCell ?_ (by simp <;> omega) _ | refine Below.drew ?_ | refine Below.drewN ?_ _ | refine Below.alloc ?_ (by simp <;> omega) _))).at (HSU.out.below (by repeat (first | exact Below.refl _ _ | refine Below.setCell ?_ (by simp <;> omega) _ | refine Below.drew ?_ | refine Below.drewN ?_ _ | refine Below.alloc ?_ (by simp <;> omega) _))) Hgg.out (by omega) (by omega) Hne.out (HCU.out.below (by repeat (first | exact Below.refl _ _ | refine Below.setCell ?_ (by simp <;> omega) _ | refine Below.drew ?_ | refine Below.drewN ?_ _ | refine Below.alloc ?_ (by simp <;> omega) _))) HcG.out).mono ?_; rintro r w5 ⟨rfl, hQ5, hk5⟩)
          all_goals
            go_wp2_with fail
            go_ret
            rw [HU0.out]
            refine ⟨rfl, ⟨some gA, hQ5, hNB.out⟩, ?_⟩
            refine (HKW.out.trans (Kept.of_below ((by repeat (first | exact Below.refl _ _ | refine Below.setCell ?_ (by simp <;> omega) _ | refine Below.drew ?_ | refine Below.drewN ?_ _ | refine Below.alloc ?_ (by simp <;> omega) _)) : Below w4.heap.size w4 _) (May q rb)) (fun _ _ h => h)).trans hk5 (fun i hi hm => ?_)
            rcases hm with rfl | hm
            · exact .inl rfl
            · rcases hNB.out with e | ⟨j, e, hj⟩
              · exact .inr (by rw [← e]; exact hm)
              · rw [e] at hm; injection hm with hm; omega
end Go.Proofs.YtpdikdnffehmkaaDoor
/- The program's question (play: take): the plain function's answers. -/
namespace Go.Proofs.YtpdikdnffehmkaaDoor
open Go.RowKit
theorem matchN_len (S : Rf.St) : ∀ (i : Nat) (cs : List Rf.Cl), (Rf.matchN S i cs).length ≤ cs.length
  | _, [] => by simp [Rf.matchN]
  | i, c :: cs => by
    have := matchN_len S (i + 1) cs
    rw [Rf.matchN, List.length_append, List.length_cons]
    split
    · simp only [List.length_cons, List.length_nil]; omega
    · simp only [List.length_nil]; omega
set_option maxHeartbeats 1000000 in
theorem pbuiltInA_any (a : Option Addr) (n c : Nat) (A : List Rf.Part) (w : World) (h : Seen w 65 partCells (.slice a n c) A) :
    Calls Tryd.prog 59 #[.slice a n c] w fun r w' => r = .returned (.bool ((Rf.topP A).kind == 3 && Rf.builtInB (Rf.topP A).name (Rf.topP A).args)) ∧ Below w.heap.size w w' := by
  by_cases h3 : (Rf.topP A).kind = 3
  · cases A with
    | nil => exact absurd h3 (by decide)
    | cons p rest =>
      obtain ⟨g, off, rfl⟩ := h.pos (by simp)
      have h3' : p.kind = 3 := h3
      have hb : ((Rf.topP (p :: rest)).kind == 3) = true := by rw [h3]; rfl
      rw [hb, Bool.true_and]
      exact pbuiltIn_any g off n c p rest w h h3'
  · have hb : ((Rf.topP A).kind == 3) = false := beq_eq_false_iff_ne.2 h3
    have hb' : ((Rf.topP A).kind != 3) = true := bne_iff_ne.2 h3
    have HV : Hid (((Rf.topP A).kind == 3 && Rf.builtInB (Rf.topP A).name (Rf.topP A).args) = false) := by unfold Hid; rw [hb]; rfl
    have H : Hid _ := h
    obtain ⟨p, hp⟩ : ∃ p, Hid (Rf.topP A = p) := ⟨_, rfl⟩
    rw [hp.out] at hb hb'
    clear h h3
    go_enter Tryd.func59, Tryd.ntmps59
    go_wp2_with (go_at_call 58; refine (ptopA_any a n c A _ H.out).mono ?_; rintro r w1 ⟨rfl, hb1⟩; rw [hp.out]; have hs1 := hb1.size)
    go_ret
    exact ⟨ret_bool HV.out.symm, hb1.alloc hs1 _⟩
set_option maxHeartbeats 2000000 in
set_option maxRecDepth 100000 in
theorem ptake_any (w : World) (q : Nat) (rb : Option Nat) (names : List ByteArray) (cf : Rf.Cf) (vc : Value) (cls : List Rf.Cl) (N : Nat) (F : Int) (h : QAt w q rb names cf) (hC : SeenCls w vc cls) (hG : Rf.StG N F cf.now) (hN : N ≤ 9000) (hF : F ≤ 1000000) (hne : cf.now.goals ≠ []) (hcg : Rf.ClsG cls) (hl20 : cf.chs.length ≤ 20) (hl30 : cls.length ≤ 30) :
    Calls Tryd.prog 37 #[.pointer (some ⟨q, 0, none⟩), vc] w fun r w' => r = .returned (.int .i64 (Rf.takeP cls cf).1) ∧ (∃ rb', QAt w' q rb' names (Rf.takeP cls cf).2 ∧ Nb w rb rb') ∧ Kept (May q rb) w w' := by
  obtain ⟨vN, vg, vt, fr, vC, hQ⟩ := h.ex
  obtain ⟨k0, k1, k2, k3, k4, kf, kl⟩ := hQ.b.facts
  obtain ⟨ag, cg, rfl⟩ := hQ.s.g.slice
  obtain ⟨g, off, rfl, hgl, _, hp1, hp2⟩ := hQ.s.g.pos hne
  obtain ⟨ta, tc, rfl⟩ := hQ.s.t.slice
  obtain ⟨cla, clc, rfl⟩ := hC.slice
  obtain ⟨⟨xa, xn, xc⟩, hx, hX⟩ := hQ.s.g.first hne
  simp only at hx hX
  have hgt := Rf.goalP_tm hG hne
  have HX : Hid (Seen w 65 partCells (.slice xa xn xc) (Rf.goalP cf.now)) := hX
  have HQ : Hid _ := hQ
  have HQA : Hid _ := h
  have HC : Hid _ := hC
  have HG : Hid _ := hG
  have Hne : Hid _ := hne
  have HCG : Hid (Rf.ClsG cls) := hcg
  have HGT : Hid _ := hgt
  have HU : Hid (Rf.takeP cls cf = if Rf.isBuilt (Rf.goalP cf.now) = true then Rf.builtP cf (Rf.goalP cf.now) else if Rf.knownP cf.now cls = true then Rf.chooseP cls cf (Rf.matchN cf.now 0 cls) else (12, cf)) := rfl
  obtain ⟨A, hA⟩ : ∃ A, Hid (Rf.goalP cf.now = A) := ⟨_, rfl⟩
  rw [hA.out] at HX HGT HU
  obtain ⟨p, hp⟩ : ∃ p, Hid (Rf.topP A = p) := ⟨_, rfl⟩
  have HIB : Hid (Rf.isBuilt A = (p.kind == 4 || (p.kind == 3 && Rf.builtInB p.name p.args))) := by unfold Hid Rf.isBuilt; rw [hp.out]
  clear h hQ hC hG hne hcg hX hgt
  by_cases h4 : p.kind = 4
  · have h4' : (p.kind == 4) = true := by rw [h4]; rfl
    have HU0 : Hid (Rf.takeP cls cf = Rf.builtP cf A) := by unfold Hid; rw [HU.out, HIB.out, h4']; rfl
    clear HU HIB
    go_enter Tryd.func37, Tryd.ntmps37
    go_wp2_with (first
      | (go_at_call 58; refine (ptopA_any xa xn xc A _ HX.out).mono ?_; rintro r w1 ⟨rfl, hb1⟩; rw [hp.out]; have hz1 := hb1.size)
      | (go_at_call 60; refine (pbuilt_any _ q rb names cf xa xn xc A N F (HQA.out.below (hb1.alloc hz1 _)) (HX.out.below (hb1.alloc hz1 _)) HG.out hN Hne.out HGT.out.1 HGT.out.2 hl20).mono ?_; rintro r w2 ⟨rfl, ⟨rb', hQ2, hnb⟩, hk2⟩))
    go_ret
    rw [HU0.out]
    exact ⟨rfl, ⟨rb', hQ2, Nb.up hnb (by rw [World.size_alloc]; omega)⟩, (Kept.of_below (hb1.alloc hz1 _) (May q rb)).trans hk2 (fun _ _ h => h)⟩
  · have h4' : (p.kind == 4) = false := beq_eq_false_iff_ne.2 h4
    cases hbi : (p.kind == 3 && Rf.builtInB p.name p.args)
    · have HU1 : Hid (Rf.takeP cls cf = if Rf.knownP cf.now cls = true then Rf.chooseP cls cf (Rf.matchN cf.now 0 cls) else (12, cf)) := by unfold Hid; rw [HU.out, HIB.out, hbi, h4']; simp
      clear HU HIB
      obtain ⟨kn, hkn⟩ : ∃ kn, Hid (Rf.knownP cf.now cls = kn) := ⟨_, rfl⟩
      have hml : (Rf.matchN cf.now 0 cls).length ≤ 30 := Nat.le_trans (matchN_len cf.now 0 cls) hl30
      cases kn
      · have HU0 : Hid (Rf.takeP cls cf = (12, cf)) := by unfold Hid; rw [HU1.out, hkn.out]; rfl
        clear HU1
        go_enter Tryd.func37, Tryd.ntmps37
        go_wp2_with (first
          | (go_at_call 58; refine (ptopA_any xa xn xc A _ HX.out).mono ?_; rintro r w1 ⟨rfl, hb1⟩; rw [hp.out]; have hz1 := hb1.size)
          | (go_at_call 59; refine (pbuiltInA_any xa xn xc A _ (HX.out.below (hb1.alloc hz1 _))).mono ?_; rintro r w2 ⟨rfl, hb2⟩; rw [hp.out, hbi]; have hbw2 : Below w.heap.size w w2 := (hb1.alloc hz1 _).trans (hb2.mono (by rw [World.size_alloc]; omega)); have hz2 := hbw2.size; obtain ⟨l0, l1, l2, l3, l4, lf, ll⟩ := (HQ.out.below hbw2).b.facts)
          | (go_at_call 61; refine (pmatching_any _ (.slice (some ⟨g, off, none⟩) cf.now.goals.length cg) (.slice ta cf.now.terms.length tc) fr cf.now (.slice cla cls.length clc) cls N F (HQ.out.s.below hbw2) HG.out hN hF Hne.out (HC.out.below hbw2) HCG.out hl30).mono ?_; rintro r w3 ⟨a3, n3, c3, rfl, hM3, hb3⟩; rw [hkn.out]; have hbw3 : Below w.heap.size w w3 := hbw2.trans (hb3.mono hz2); have hz3 := hbw3.size))
        go_ret
        rw [HU0.out]
        exact ⟨rfl, ⟨rb, HQA.out.below hbw3, .inl rfl⟩, Kept.of_below hbw3 _⟩
      · have HU0 : Hid (Rf.takeP cls cf = Rf.chooseP cls cf (Rf.matchN cf.now 0 cls)) := by unfold Hid; rw [HU1.out, hkn.out]; rfl
        clear HU1
        go_enter Tryd.func37, Tryd.ntmps37
        go_wp2_with (first
          | (go_at_call 58; refine (ptopA_any xa xn xc A _ HX.out).mono ?_; rintro r w1 ⟨rfl, hb1⟩; rw [hp.out]; have hz1 := hb1.size)
          | (go_at_call 59; refine (pbuiltInA_any xa xn xc A _ (HX.out.below (hb1.alloc hz1 _))).mono ?_; rintro r w2 ⟨rfl, hb2⟩; rw [hp.out, hbi]; have hbw2 : Below w.heap.size w w2 := (hb1.alloc hz1 _).trans (hb2.mono (by rw [World.size_alloc]; omega)); have hz2 := hbw2.size; obtain ⟨l0, l1, l2, l3, l4, lf, ll⟩ := (HQ.out.below hbw2).b.facts)
          | (go_at_call 61; refine (pmatching_any _ (.slice (some ⟨g, off, none⟩) cf.now.goals.length cg) (.slice ta cf.now.terms.length tc) fr cf.now (.slice cla cls.length clc) cls N F (HQ.out.s.below hbw2) HG.out hN hF Hne.out (HC.out.below hbw2) HCG.out hl30).mono ?_; rintro r w3 ⟨a3, n3, c3, rfl, hM3, hb3⟩; rw [hkn.out]; have hbw3 : Below w.heap.size w w3 := hbw2.trans (hb3.mono hz2); have hz3 := hbw3.size)
          | (go_at_call 62; refine (pchoose_any _ q rb names cf (.slice cla cls.length clc) cls a3 n3 c3 (Rf.matchN cf.now 0 cls) N F (HQA.out.below hbw3) (HC.out.below hbw3) hM3 HG.out hN hF Hne.out HCG.out (fun j hj => by have := Rf.matchN_lt cf.now 0 cls j hj; omega) hl20 hml).mono ?_; rintro r w4 ⟨rfl, ⟨rb', hQ4, hnb⟩, hk4⟩))
        go_ret
        rw [HU0.out]
        exact ⟨rfl, ⟨rb', hQ4, Nb.up hnb hz3⟩, (Kept.of_below hbw3 (May q rb)).trans hk4 (fun _ _ h => h)⟩
    · have HU0 : Hid (Rf.takeP cls cf = Rf.builtP cf A) := by unfold Hid; rw [HU.out, HIB.out, hbi]; simp
      clear HU HIB
      go_enter Tryd.func37, Tryd.ntmps37
      go_wp2_with (first
        | (go_at_call 58; refine (ptopA_any xa xn xc A _ HX.out).mono ?_; rintro r w1 ⟨rfl, hb1⟩; rw [hp.out]; have hz1 := hb1.size)
        | (go_at_call 59; refine (pbuiltInA_any xa xn xc A _ (HX.out.below (hb1.alloc hz1 _))).mono ?_; rintro r w2 ⟨rfl, hb2⟩; rw [hp.out, hbi]; have hbw2 : Below w.heap.size w w2 := (hb1.alloc hz1 _).trans (hb2.mono (by rw [World.size_alloc]; omega)); have hz2 := hbw2.size; obtain ⟨l0, l1, l2, l3, l4, lf, ll⟩ := (HQ.out.below hbw2).b.facts)
        | (go_at_call 60; refine (pbuilt_any _ q rb names cf xa xn xc A N F (HQA.out.below hbw2) (HX.out.below hbw2) HG.out hN Hne.out HGT.out.1 HGT.out.2 hl20).mono ?_; rintro r w3 ⟨rfl, ⟨rb', hQ3, hnb⟩, hk3⟩))
      go_ret
      rw [HU0.out]
      exact ⟨rfl, ⟨rb', hQ3, Nb.up hnb hz2⟩, (Kept.of_below hbw2 (May q rb)).trans hk3 (fun _ _ h => h)⟩
end Go.Proofs.YtpdikdnffehmkaaDoor
/- The program's question (play: play): the plain function's answers. -/
namespace Go.Proofs.YtpdikdnffehmkaaDoor
open Go.RowKit
theorem kept_nb {w w1 w2 : World} {q : Nat} {rb rb' : Option Nat} (h : Kept (May q rb) w w1) (hn : Nb w rb rb') (k : Kept (May q rb') w1 w2) : Kept (May q rb) w w2 :=
  h.trans k (fun i hi hm => by
    rcases hm with rfl | hm
    · exact .inl rfl
    · rcases hn with e | ⟨j, e, hj⟩
      · exact .inr (by rw [← e]; exact hm)
      · rw [e] at hm; injection hm with hm; omega)
theorem nb_trans {w w1 : World} {rb rb' rb'' : Option Nat} (h : Nb w rb rb') (k : Nb w1 rb' rb'') (hs : w.heap.size ≤ w1.heap.size) : Nb w rb rb'' := Nb.trans h k hs
/-- A question that is played: between two steps. -/
structure PlAt (w : World) (cls : List Rf.Cl) (n q : Nat) (rb : Option Nat) (names : List ByteArray) (t : Nat) (r : Int × Rf.Cf) (wr : World) : Prop where
  ex : ∃ rb', QAt wr q rb' names r.2 ∧ Nb w rb rb'
  kept : Kept (May q rb) w wr
  kep : Rf.Kep cls n t r
set_option maxHeartbeats 2000000 in
set_option maxRecDepth 100000 in
theorem pplay_any (w : World) (q : Nat) (rb : Option Nat) (names : List ByteArray) (cf : Rf.Cf) (vc : Value) (cls : List Rf.Cl) (lim n : Nat) (o : Int) (h : QAt w q rb names cf) (hC : SeenCls w vc cls) (hK : Rf.Kep cls n 0 (o, cf)) (hcg : Rf.ClsG cls) (hck : Rf.ClsK cls) (hl30 : cls.length ≤ 30) (hlim : lim ≤ 1000) :
    Calls Tryd.prog 25 #[.pointer (some ⟨q, 0, none⟩), vc, .int .i64 (lim : Nat), .int .i64 o] w fun r w' => r = .returned (.int .i64 (Rf.playN cls lim (o, cf)).1) ∧ (∃ rb', QAt w' q rb' names (Rf.playN cls lim (o, cf)).2 ∧ Nb w rb rb') ∧ Kept (May q rb) w w' := by
  have HF : Hid (Free w (May q rb)) := by obtain ⟨_, _, _, _, _, hQ⟩ := h.ex; exact hQ.free
  have HC : Hid _ := hC
  have HQ : Hid _ := h
  have HK : Hid _ := hK
  have HCG : Hid (Rf.ClsG cls) := hcg
  have HCK : Hid (Rf.ClsK cls) := hck
  obtain ⟨cla, clc, rfl⟩ := hC.slice
  clear h hC hK hcg hck
  obtain ⟨R, hR⟩ : ∃ R, Hid (Rf.playN cls lim (o, cf) = R) := ⟨_, rfl⟩
  rw [hR.out]
  go_enter Tryd.func25, Tryd.ntmps25
  go_wp2_with fail
  go_loopg [3, 9] (lim + 1) (fun m ov tv wr => ∃ (t : Nat) (r : Int × Rf.Cf), t ≤ lim ∧ m = lim + 1 - t ∧ tv = .int .i64 (t : Nat) ∧ ov = .int .i64 r.1 ∧ PlAt w cls n q rb names t r wr ∧ Hid (Rf.playN cls (lim - t) r = R))
  case atStart => exact ⟨0, (o, cf), Nat.zero_le _, rfl, rfl, rfl, ⟨⟨rb, HQ.out, .inl rfl⟩, Kept.refl _ _, HK.out⟩, by unfold Hid; exact hR.out⟩
  case round =>
    obtain ⟨t, r, ht, rfl, rfl, rfl, hP, hres⟩ := hrel
    obtain ⟨wo, rfl⟩ : ∃ wo : World, wo = wr := ⟨_, rfl⟩
    have hset := Rf.playN_eq cls (lim - t) r
    rw [hres.out] at hset
    have Hset : Hid _ := hset
    have HP : Hid _ := hP
    clear hset hP hres
    go_wp2_with fail
    go_loopg [3] (Rf.leftC r.2.chs + 1) (fun m ov wi => ∃ (r' : Int × Rf.Cf), ov = .int .i64 r'.1 ∧ (r'.1 = -1 → Rf.leftC r'.2.chs + 1 ≤ m) ∧ PlAt w cls n q rb names t r' wi ∧ Hid (Rf.settle cls r = Rf.settle cls r'))
    case atStart => exact ⟨r, rfl, fun _ => Nat.le_refl _, HP.out, rfl⟩
    case round =>
      obtain ⟨r', rfl, hm, hP, hs⟩ := hrel
      obtain ⟨o1, cf1⟩ := r'
      simp only at hm
      have hg1 := hP.kep.cf
      obtain ⟨⟨rb1, hQ1, hN1⟩, hk1, hkep⟩ := hP
      simp only at hQ1 hg1
      have hz1 := hk1.size
      have HQ1 : Hid _ := hQ1
      have HN1 : Hid _ := hN1
      have HKep : Hid _ := hkep
      have Hg1 : Hid _ := hg1
      have HC1 : Hid _ := HC.out.kept hk1 HF.out
      clear hQ1 hN1 hkep hg1
      by_cases h1 : o1 = -1
      · subst h1
        have hm := hm rfl
        obtain ⟨m', rfl⟩ : ∃ m', gk = m' + 1 := ⟨gk - 1, by omega⟩
        have Hs2 : Hid (Rf.settle cls r = Rf.settle cls (Rf.againP cls cf1)) := by unfold Hid; rw [hs.out, Rf.settle_fail]
        have Hle : Hid ((Rf.againP cls cf1).1 = -1 → Rf.leftC (Rf.againP cls cf1).2.chs + 1 ≤ m') := fun e => by
          by_cases hc : cf1.chs = []
          · rw [Rf.again_none hc] at e; simp at e
          · have := Rf.again_left (cs := cls) hc; omega
        clear hs
        go_wp2_with (go_at_call 36; refine (pagain_any _ q rb1 names cf1 (.slice cla cls.length clc) cls 1000 406400 t HQ1.out HC1.out Hg1.out (by omega) (by omega) HCG.out).mono ?_; rintro rr w2 ⟨rfl, ⟨rb2, hQ2, hN2⟩, hk2⟩)
        go_roundg m'
        case measure => omega
        case rel => exact ⟨Rf.againP cls cf1, rfl, Hle.out, ⟨⟨rb2, hQ2, nb_trans HN1.out hN2 hz1⟩, kept_nb hk1 HN1.out hk2, Rf.kep_again HCG.out HCK.out HKep.out⟩, Hs2⟩
      · have h1' : (o1 == -1) = false := beq_eq_false_iff_ne.2 h1
        have hsr : Rf.settle cls r = (o1, cf1) := by rw [hs.out]; exact Rf.settle_ok h1
        have Hs3 := Hset
        rw [hsr] at Hs3
        clear hs hm hsr Hset
        by_cases h0 : o1 = 0
        · subst h0
          have Hs4 : Hid (R = if cf1.now.goals = [] then (1, cf1) else match lim - t with
            | 0 => (5, cf1)
            | m + 1 => Rf.playN cls m (Rf.takeP cls cf1)) := by unfold Hid; rw [Hs3.out]; rfl
          clear Hs3
          obtain ⟨vN, vg, vt, fr, vC, hqi⟩ := HQ1.out.ex
          obtain ⟨m0, m1, m2, m3, m4, mf, ml⟩ := hqi.b.facts
          obtain ⟨ga, gc, rfl⟩ := hqi.s.g.slice
          clear hqi
          by_cases hg : cf1.now.goals = []
          · have HR0 : Hid (R = (1, cf1)) := by unfold Hid; rw [Hs4.out, if_pos hg]
            have hgl : cf1.now.goals.length = 0 := by rw [hg]; rfl
            rw [hgl] at m1
            clear Hs4 hg hgl
            go_wp2_with fail
            go_ret
            rw [HR0.out]
            exact ⟨rfl, ⟨rb1, HQ1.out, HN1.out⟩, hk1⟩
          · have hgl : 1 ≤ cf1.now.goals.length := by
              cases hgc : cf1.now.goals with
              | nil => exact absurd hgc hg
              | cons => simp
            by_cases htl : t < lim
            · obtain ⟨d, hd⟩ : ∃ d, lim - t = d + 1 := ⟨lim - t - 1, by omega⟩
              have HR0 : Hid (Rf.playN cls (lim - (t + 1)) (Rf.takeP cls cf1) = R) := by unfold Hid; rw [Hs4.out, if_neg hg, hd, show lim - (t + 1) = d by omega]
              have Hgne : Hid _ := hg
              have htl' : ¬ ((lim : Int) ≤ t) := by omega
              have hglz : ((cf1.now.goals.length : Int) == 0) = false := by rw [beq_eq_false_iff_ne]; omega
              clear Hs4 hg
              go_wp2_with (go_at_call 37; refine (ptake_any _ q rb1 names cf1 (.slice cla cls.length clc) cls (1000 + 7 * (t + 1)) (406400 + 16 * (t + 1)) HQ1.out HC1.out Hg1.out.now (by omega) (by omega) Hgne.out HCG.out Hg1.out.len hl30).mono ?_; rintro rr w2 ⟨rfl, ⟨rb2, hQ2, hN2⟩, hk2⟩)
              go_roundg (lim + 1 - (t + 1))
              case measure => omega
              case rel => exact ⟨t + 1, Rf.takeP cls cf1, by omega, rfl, by go_num, rfl, ⟨⟨rb2, hQ2, nb_trans HN1.out hN2 hz1⟩, kept_nb hk1 HN1.out hk2, Rf.kep_take HCG.out HCK.out HKep.out Hgne.out⟩, HR0⟩
            · have hd : lim - t = 0 := by omega
              have HR0 : Hid (R = (5, cf1)) := by unfold Hid; rw [Hs4.out, if_neg hg, hd]
              have htl' : (lim : Int) ≤ t := by omega
              have hglz : ((cf1.now.goals.length : Int) == 0) = false := by rw [beq_eq_false_iff_ne]; omega
              clear Hs4 hg
              go_wp2_with fail
              go_ret
              rw [HR0.out]
              exact ⟨rfl, ⟨rb1, HQ1.out, HN1.out⟩, hk1⟩
        · have h0' : (o1 != 0) = true := bne_iff_ne.2 h0
          have HR0 : Hid (R = (o1, cf1)) := by unfold Hid; rw [Hs3.out, if_pos h0]
          clear Hs3
          go_wp2_with fail
          go_ret
          rw [HR0.out]
          exact ⟨rfl, ⟨rb1, HQ1.out, HN1.out⟩, hk1⟩
end Go.Proofs.YtpdikdnffehmkaaDoor
/- The program's writer over a term that is only read (term: written, Answer). -/
namespace Go.Proofs.YtpdikdnffehmkaaDoor
open Go.RowKit
set_option maxHeartbeats 2000000 in
set_option maxRecDepth 100000 in
theorem pwrittenS_any (b : Bool) (w : World) (a : Option Addr) (n c : Nat) (ps : List Rf.Part) (h : Seen w 65 partCells (.slice a n c) ps) (hg : ∀ x ∈ ps, Rf.GoodW b x) (h4 : ∀ x ∈ ps, 0 ≤ x.args ∧ x.args ≤ 4) (hl : ps.length ≤ 100000) (hT : Tab w) :
    Calls Tryd.prog 82 #[.slice a n c, .bool b] w fun r w' => r = .returned (.string (Rf.txtW b ps)) ∧ Below w.heap.size w w' := by
  have hn : n = ps.length := h.len
  subst hn
  have HH : Hid _ := h
  have Hg : Hid _ := hg
  have H4 : Hid _ := h4
  have HT : Hid _ := hT
  have hts := Rf.txtW_size b ps hg
  clear h hg h4 hT
  go_enter Tryd.func82, Tryd.ntmps82
  go_wp2_with fail
  go_loopg [5, 6, 12] (ps.length + 1) (fun m sv ov iv wr => ∃ k : Nat, k ≤ ps.length ∧ m = ps.length + 1 - k ∧ iv = .int .i64 k ∧ TxSt b w ps k sv ov wr)
  case atStart => exact ⟨0, by omega, rfl, rfl, ⟨#[]⟩, [], rfl, RowIs.nil _ _ _ _ _, Below.refl _ _, (fun x hx => by simp at hx), by simp, by unfold Hid Rf.txtW; rw [List.drop_zero, Rf.emp_app]⟩
  case round =>
    obtain ⟨k, hk, rfl, rfl, s, st, rfl, hrow, hbr, hst, hstl, hinv⟩ := hrel
    obtain ⟨a4, c4, hv4⟩ := row_slice hrow
    rw [List.length_reverse] at hv4
    subst hv4
    have hsz := hbr.size
    have hss : s.size ≤ 2400000 := by
      have h9 := congrArg ByteArray.size hinv.out
      rw [ByteArray.size_append] at h9
      omega
    by_cases hlt : k < ps.length
    · obtain ⟨gv, ov, rfl⟩ := HH.out.pos (by omega)
      have hgvl := HH.out.lt
      have hgvl' : gv < wr.heap.size := by omega
      have hmem : ps[k] ∈ ps := List.getElem_mem hlt
      obtain ⟨c0, c1, c2, c3⟩ := Seen.parts (HH.out.below hbr) k ps[k] (by simp [hlt])
      have hgd := Hg.out _ hmem
      have ha4 := H4.out _ hmem
      have hdrop : ps.drop k = ps[k] :: ps.drop (k + 1) := List.drop_eq_getElem_cons hlt
      rw [hdrop] at hinv
      clear hmem hdrop
      generalize ps[k] = p at *
      have hwz := Rf.wordW_size b p hgd
      have Hgd : Hid _ := hgd
      clear hgd
      have hlt' : (k : Int) < ps.length := by omega
      have Hnc : Hid (natCells p.args.toNat = [.int .i64 p.args]) := by unfold Hid natCells; rw [Int.toNat_of_nonneg ha4.1]
      by_cases hargs : 0 < p.args
      · have hinv2 : Hid (s ++ Rf.wordW b p ++ ⟨#[40]⟩ ++ Rf.textW b (ps.drop (k + 1)) (p.args.toNat :: st) = Rf.txtW b ps) := by
          have h9 := hinv.out
          rw [Rf.textW, if_pos hargs] at h9
          unfold Hid
          rw [← h9]
          simp only [ByteArray.append_assoc]
        go_wp2_with (first
          | (go_at_call 89; refine (word_part b p _ Hgd.out (Tab.below HT.out (hbr.alloc hsz _))).mono ?_; rintro r w1 ⟨rfl, hb1⟩; have hs1 := hb1.size; have hX1 := (hb1.block wr.heap.size (by simp)).trans (blk_new _ _); have x3 : w1.cell? ⟨wr.heap.size, 3, none⟩ = some (.int .i64 p.args) := blk_cell hX1 3; have hbw1 : Below w.heap.size w w1 := (hbr.alloc hsz _).trans (hb1.mono (by simp; omega)); have hsw1 := hbw1.size; have hrow1 := (hrow.alloc (.cells #[.int .i64 p.kind, .string p.name, .int .i64 p.value, .int .i64 p.args] 65)).below hb1)
          | (at_builtin; refine wpList_app Tryd.elemInt natCells natCells_len natCells_one _ rfl (.tmp 26) (.tmp 29) rfl w.heap.size _ st.reverse rfl (hrow1.alloc _) ⟨_, 0, none⟩ 1 p.args.toNat rfl (fun j v hj => cell_one_at _ _ rfl _ _ j v (by rw [← Hnc.out]; exact hj)) ?_ ?_ ?_; rw [List.length_reverse]; omega; (rw [World.size_alloc]; omega); intro gA capA w3 hrow3 hgr3 hnb3; rw [List.length_reverse] at hrow3))
        go_roundg (ps.length - k)
        case measure => omega
        case rel =>
          refine ⟨k + 1, by omega, by omega, by go_num, _, p.args.toNat :: st, rfl, ?_, ?_, ?_, by simp; omega, hinv2⟩
          · rw [List.reverse_cons]; exact hrow3
          · exact (hbw1.alloc hsw1 _).grown hgr3 (by rw [World.size_alloc]; omega) (fun j e => (hrow.lt j e).1)
          · intro x hx
            rcases List.mem_cons.1 hx with rfl | hx
            · omega
            · exact hst x hx
      · have hinv2 : Hid ((s ++ Rf.wordW b p) ++ ((Rf.closeP st).1 ++ Rf.textW b (ps.drop (k + 1)) (Rf.closeP st).2) = Rf.txtW b ps) := by
          have h9 := hinv.out
          rw [Rf.textW, if_neg hargs] at h9
          unfold Hid
          rw [← h9]
          simp only [ByteArray.append_assoc]
        have hnarg : p.args ≤ 0 := by omega
        have harg0 : decide (0 < p.args) = false := by simpa using hnarg
        obtain ⟨wo, rfl⟩ : ∃ wo : World, wo = wr := ⟨_, rfl⟩
        go_wp2_with (go_at_call 89; refine (word_part b p _ Hgd.out (Tab.below HT.out (hbr.alloc hsz _))).mono ?_; rintro r w1 ⟨rfl, hb1⟩; have hs1 := hb1.size; have hX1 := (hb1.block wo.heap.size (by simp)).trans (blk_new _ _); have x3 : w1.cell? ⟨wo.heap.size, 3, none⟩ = some (.int .i64 p.args) := blk_cell hX1 3; have hbw1 : Below w.heap.size w w1 := (hbr.alloc hsz _).trans (hb1.mono (by simp; omega)); have hsw1 := hbw1.size; have hrow1 := (hrow.alloc (.cells #[.int .i64 p.kind, .string p.name, .int .i64 p.value, .int .i64 p.args] 65)).below hb1)
        have hsw1' := hsw1
        clear hX1 x3 hinv
        go_loopg [5, 6] (st.length + 1) (fun m sv ov wi => ∃ (s2 : ByteArray) (st2 : List Nat), m = st2.length + 1 ∧ sv = .string s2 ∧ RowIs wi w.heap.size 3 1 natCells ov st2.reverse ∧ Below w.heap.size w wi ∧ (∀ x ∈ st2, 1 ≤ x ∧ x ≤ 4) ∧ st2.length ≤ k ∧ Hid (s2 ++ ((Rf.closeP st2).1 ++ Rf.textW b (ps.drop (k + 1)) (Rf.closeP st2).2) = Rf.txtW b ps))
        case atStart => exact ⟨_, st, rfl, rfl, hrow1, hbw1, hst, hstl, hinv2⟩
        case round =>
          obtain ⟨s2, st2, rfl, rfl, hrow2, hbw2, hst2, hstl2, hinv3⟩ := hrel
          have hss2 : s2.size ≤ 2400000 := by
            have h9 := congrArg ByteArray.size hinv3.out
            rw [ByteArray.size_append] at h9
            omega
          clear hrow1 hrow hinv2
          cases st2 with
          | nil =>
            obtain ⟨a5, c5, hv5⟩ := row_slice hrow2
            rw [List.reverse_nil, List.length_nil] at hv5
            subst hv5
            go_wp2_with fail
            go_roundg (ps.length - k)
            case measure => omega
            case rel => exact ⟨k + 1, by omega, by omega, by go_num, _, [], rfl, hrow2, hbw2, hst2, by simp, by have h9 := hinv3.out; rw [Rf.closeP, Rf.emp_app] at h9; exact h9⟩
          | cons x st3 =>
            rw [List.reverse_cons] at hrow2
            obtain ⟨gO, c5, hv5, _, hgO, hc5, hcm5⟩ := hrow2.shape.resolve_left (fun e => by have := congrArg List.length e.2; simp at this)
            rw [List.length_append, List.length_reverse, List.length_cons, List.length_nil] at hv5 hc5
            subst hv5
            have hcl := hrow2.cells natCells_len st3.length x (by simp) 0 _ rfl
            simp only [Nat.mul_one, Nat.add_zero] at hcl
            have hfz := row_frozen hrow2
            have hx14 := hst2 x (by simp)
            have hst3l : (st3.length : Int) ≤ 100000 := by simp only [List.length_cons] at hstl2; omega
            have hst3c : (st3.length : Int) + 1 ≤ (c5 : Int) := by omega
            have hst3 : ∀ y ∈ st3, 1 ≤ y ∧ y ≤ 4 := fun y hy => hst2 y (List.mem_cons_of_mem _ hy)
            have hset : ∀ y : Nat, (y : Int) = (x : Int) - 1 → RowIs (wr.setCell ⟨gO, st3.length, none⟩ (.int .i64 ((x : Int) - 1))) w.heap.size 3 1 natCells (.slice (some ⟨gO, 0, none⟩) (st3.length + 1) c5) (st3.reverse ++ [y]) := by
              intro y hy
              have h9 := row_setLast (x' := y) (u := .int .i64 ((x : Int) - 1)) natCells_len hrow2 (by unfold natCells; rw [hy])
              rw [List.length_reverse] at h9
              exact h9
            have Hset : Hid _ := hset
            have hgO2 := (hrow2.lt gO rfl).1
            have hbs : ∀ v, Below w.heap.size w (wr.setCell ⟨gO, st3.length, none⟩ v) := fun v => hbw2.setCell (p := ⟨gO, st3.length, none⟩) hgO2 v
            have Hbs : Hid _ := hbs
            clear hset hbs hst2
            by_cases hx1 : 1 < x
            · have hinv4 : Hid (s2 ++ ⟨#[44]⟩ ++ Rf.textW b (ps.drop (k + 1)) ((x - 1) :: st3) = Rf.txtW b ps) := by
                have h9 := hinv3.out
                rw [Rf.closeP, if_pos hx1] at h9
                unfold Hid
                rw [← h9, ByteArray.append_assoc]
              have hxi : (0 : Int) < (x : Int) - 1 := by omega
              go_wp2_with fail
              go_roundg (ps.length - k)
              case measure => omega
              case rel =>
                refine ⟨k + 1, by omega, by omega, by go_num, _, (x - 1) :: st3, rfl, ?_, Hbs.out _, ?_, ?_, hinv4⟩
                · rw [List.reverse_cons]; exact Hset.out (x - 1) (by omega)
                · intro y hy
                  rcases List.mem_cons.1 hy with rfl | hy
                  · omega
                  · exact hst3 y hy
                · simp only [List.length_cons] at hstl2 ⊢; omega
            · obtain rfl : x = 1 := by omega
              have hinv4 : Hid ((s2 ++ ⟨#[41]⟩) ++ ((Rf.closeP st3).1 ++ Rf.textW b (ps.drop (k + 1)) (Rf.closeP st3).2) = Rf.txtW b ps) := by
                have h9 := hinv3.out
                rw [Rf.closeP, if_neg hx1] at h9
                unfold Hid
                rw [← h9]
                simp only [ByteArray.append_assoc]
              go_wp2_with fail
              go_roundg (st3.length + 1)
              case measure => simp
              case rel =>
                refine ⟨_, st3, rfl, rfl, row_pop natCells_len (Hset.out 0 (by simp)), Hbs.out _, hst3, ?_, hinv4⟩
                simp only [List.length_cons] at hstl2; omega
    · obtain rfl : k = ps.length := by omega
      have hend : Hid (s = Rf.txtW b ps) := by
        have h9 := hinv.out
        rw [List.drop_length, Rf.textW, Rf.app_emp] at h9
        exact h9
      go_wp2_with fail
      go_ret
      exact ⟨ret_str hend.out, hbr⟩
set_option maxHeartbeats 400000 in
theorem answerS_any (w : World) (a : Option Addr) (n c : Nat) (ps : List Rf.Part) (h : Seen w 65 partCells (.slice a n c) ps) (hg : ∀ x ∈ ps, Rf.GoodA x) (h4 : ∀ x ∈ ps, 0 ≤ x.args ∧ x.args ≤ 4) (hl : ps.length ≤ 100000) (hT : Tab w) :
    Calls Tryd.prog 64 #[.slice a n c] w fun r w' => r = .returned (.string (Rf.txtA ps)) ∧ Below w.heap.size w w' := by
  have H : Hid _ := h
  have Hg : Hid _ := hg
  have H4 : Hid _ := h4
  have HT : Hid _ := hT
  clear h hg h4 hT
  go_enter Tryd.func64, Tryd.ntmps64
  go_wp2_with (go_at_call 82; refine (pwrittenS_any false _ a n c ps H.out Hg.out H4.out hl HT.out).mono ?_; rintro r w1 ⟨rfl, hb1⟩)
  go_ret
  exact ⟨rfl, hb1⟩
end Go.Proofs.YtpdikdnffehmkaaDoor
/- The program's states (play: renumbered, size): the plain functions' answers. -/
namespace Go.Proofs.YtpdikdnffehmkaaDoor
open Go.RowKit
theorem SeenTs.take {w : World} {g off n c : Nat} {ts : List (List Rf.Part)} (h : SeenTs w (.slice (some ⟨g, off, none⟩) n c) ts) (k : Nat) (hk : k ≤ ts.length) : SeenTs w (.slice (some ⟨g, off, none⟩) k c) (ts.take k) := by
  obtain ⟨acc, h1, h2, rfl⟩ := h.ex
  refine ⟨acc.take k, ?_, fun q hq => h2 q (List.mem_of_mem_take hq), by rw [List.map_take]⟩
  rw [List.map_take]
  exact h1.take k (by rw [List.length_map] at hk ⊢; exact hk)
theorem SeenTs.drop1 {w : World} {g off n c : Nat} {ts : List (List Rf.Part)} (h : SeenTs w (.slice (some ⟨g, off, none⟩) n c) ts) (k : Nat) (hc : c = k) : SeenTs w (.slice (some ⟨g, off, none⟩) (ts.length - k) 0) (ts.drop k) := by
  obtain ⟨acc, h1, h2, rfl⟩ := h.ex
  refine ⟨acc.drop k, ?_, fun q hq => h2 q (List.mem_of_mem_drop hq), by rw [List.map_drop]⟩
  have h3 := h1.dropEnd k hc
  rw [List.length_map] at h3
  rw [List.length_map, List.map_drop]; exact h3
theorem SeenTs.drop2 {w : World} {g off n c : Nat} {ts : List (List Rf.Part)} (h : SeenTs w (.slice (some ⟨g, off, none⟩) n c) ts) (k : Nat) (hk : k ≤ ts.length) : SeenTs w (.slice (some ⟨g, off + k, none⟩) (ts.length - k) (c - k)) (ts.drop k) := by
  obtain ⟨acc, h1, h2, rfl⟩ := h.ex
  refine ⟨acc.drop k, ?_, fun q hq => h2 q (List.mem_of_mem_drop hq), by rw [List.map_drop]⟩
  rw [List.length_map] at hk
  have h3 := h1.drop slCells_len k (by rw [List.length_map]; exact hk)
  rw [List.length_map, Nat.mul_one] at h3
  rw [List.length_map, List.map_drop]; exact h3
set_option maxHeartbeats 1000000 in
set_option maxRecDepth 100000 in
theorem prenumbered_any (w : World) (vg vt : Value) (fr : Int) (S : Rf.St) (N : Nat) (F : Int) (hS : StIs w vg vt fr S) (hG : Rf.StG N F S) (hN : N ≤ 9000) (hF : F ≤ 1000000) (hne : S.goals ≠ []) :
    Calls Tryd.prog 65 #[.agg #[vg, vt, .int .i64 fr]] w fun r w' => ∃ a3 n3 c3 a4 n4 c4, r = .returned (.agg #[.slice a3 n3 c3, .slice a4 n4 c4, .int .i64 (Rf.renS S).fresh]) ∧ StIs w' (.slice a3 n3 c3) (.slice a4 n4 c4) (Rf.renS S).fresh (Rf.renS S) ∧ Below w.heap.size w w' := by
  obtain ⟨sa, sc, rfl⟩ := hS.g.slice
  obtain ⟨ta, tc, rfl⟩ := hS.t.slice
  have hgl : S.goals.length ≤ 9000 := Nat.le_trans hG.gl hN
  have htl := hG.tl
  have HS : Hid _ := hS
  have hf1 := hG.f1
  have H4 : Hid (∀ t ∈ S.goals ++ S.terms, t.length ≤ 400) := fun t ht => by
    rcases List.mem_append.1 ht with ht | ht
    · exact (hG.g t ht).1
    · exact (hG.t t ht).1
  have HV : Hid (∀ t ∈ S.goals ++ S.terms, ∀ p ∈ t, p.kind = 1 → 0 ≤ p.value ∧ p.value < 1000000) := fun t ht p hp hk => by
    rcases List.mem_append.1 ht with ht | ht
    · have := ((hG.g t ht).2 p hp).2.1 hk; omega
    · have := ((hG.t t ht).2 p hp).2.1 hk; omega
  have hg1 : 1 ≤ S.goals.length := by
    cases hgc : S.goals with
    | nil => exact absurd hgc hne
    | cons => simp
  have HRl : Hid ((Rf.renTs [] (S.goals ++ S.terms)).1.length = S.goals.length + S.terms.length) := by unfold Hid; rw [(Rf.renTs_of (S.goals ++ S.terms) []).1, List.length_append]
  have HRS : Hid (Rf.renS S = ⟨(Rf.renTs [] (S.goals ++ S.terms)).1.take S.goals.length, (Rf.renTs [] (S.goals ++ S.terms)).1.drop S.goals.length, (Rf.renTs [] (S.goals ++ S.terms)).2.length⟩) := rfl
  clear hS hG hne
  obtain ⟨RR, hRR⟩ : ∃ RR, Hid (Rf.renTs [] (S.goals ++ S.terms) = RR) := ⟨_, rfl⟩
  rw [hRR.out] at HRl HRS
  obtain ⟨ra, rn⟩ := RR
  simp only at HRl HRS
  go_enter Tryd.func65, Tryd.ntmps65
  go_wp2_with (first
    | (go_at_call 35; refine (pjoined_any _ (.slice sa S.goals.length sc) (.slice ta S.terms.length tc) S.goals S.terms (HS.out.g.below (by repeat (first | exact Below.refl _ _ | refine Below.setCell ?_ (by simp <;> omega) _ | refine Below.drew ?_ | refine Below.drewN ?_ _ | refine Below.alloc ?_ (by simp <;> omega) _))) (HS.out.t.below (by repeat (first | exact Below.refl _ _ | refine Below.setCell ?_ (by simp <;> omega) _ | refine Below.drew ?_ | refine Below.drewN ?_ _ | refine Below.alloc ?_ (by simp <;> omega) _))) (by omega) (by omega)).mono ?_; rintro r w1 ⟨a1, n1, c1, rfl, hJ1, hb1⟩)
    | (go_at_call 63; refine (pRenumber_any _ (.slice a1 n1 c1) (S.goals ++ S.terms) hJ1 (by rw [List.length_append]; omega) H4.out HV.out).mono ?_; rintro r w2 ⟨a2, n2, c2, rfl, hR2, hb2⟩; rw [hRR.out] at hR2 ⊢; simp only at hR2; obtain ⟨g2, o2, rfl, hgl2, hn2, hn1, hnc⟩ := hR2.pos (by intro e; have h9 := HRl.out; rw [e] at h9; simp at h9; omega); subst hn2; have hbw1 : Below w.heap.size w w1 := Below.trans ((by repeat (first | exact Below.refl _ _ | refine Below.setCell ?_ (by simp <;> omega) _ | refine Below.drew ?_ | refine Below.drewN ?_ _ | refine Below.alloc ?_ (by simp <;> omega) _)) : Below w.heap.size w ((w.alloc _).alloc _)) (hb1.mono (by simp only [World.size_alloc]; omega)); have hbw2 : Below w.heap.size w w2 := hbw1.trans (hb2.mono hbw1.size); have hz1 := hb1.size; simp only [World.size_alloc] at hz1; have hz2 := hb2.size; have P0 := (hb2.block w.heap.size (by omega)).trans ((hb1.block w.heap.size (by simp only [World.size_alloc]; omega)).trans (blk_alloc (blk_new w _) _)); have P1 := (hb2.block (w.heap.size + 1) (by omega)).trans ((hb1.block (w.heap.size + 1) (by simp only [World.size_alloc]; omega)).trans (blk_at (w.alloc _) _ (w.heap.size + 1) (by simp))); have s0 := blk_cell P0 0; have s1 := blk_cell P0 1; have s2 := blk_cell P0 2; have u0 := blk_cell P1 0; have u1 := blk_cell P1 1; have u2 := blk_cell P1 2; have uf := blk_frozen P1; have ul := blk_lt P1; have sl := blk_lt P0; simp at s0 s1 s2 u0 u1 u2; have HR2 : Hid _ := hR2; have HP1 : Hid _ := P1; clear P0 P1 hR2))
  have hra := HRl.out
  have hle : S.goals.length ≤ ra.length := by omega
  have hnc1 : ra.length ≤ c2 := hnc
  have hsub : ra.length - S.goals.length = S.terms.length := by omega
  have HTk : Hid _ := HR2.out.take S.goals.length hle
  have HDr1 : Hid (c2 = S.goals.length → SeenTs w2 (.slice (some ⟨g2, o2, none⟩) (ra.length - S.goals.length) 0) (ra.drop S.goals.length)) := fun e => HR2.out.drop1 S.goals.length e
  have HDr2 : Hid _ := HR2.out.drop2 S.goals.length hle
  have hlec : S.goals.length ≤ c2 := by omega
  by_cases hcc : c2 = S.goals.length
  · go_region
    all_goals
      go_wp2_with fail
      refine bodyPost_ret (v := .agg #[.slice (some ⟨g2, o2, none⟩) S.goals.length c2, .slice (some ⟨g2, o2, none⟩) (ra.length - S.goals.length) 0, .int .i64 (rn.length : Nat)]) (by simp [results, Tryd.results65, go_sem, *]) rfl ?_
      rw [HRS.out]
      refine ⟨_, _, _, _, _, _, rfl, ⟨?_, ?_, rfl⟩, ?_⟩
      · exact (SeenTs.set3 HTk.out HP1.out (by decide) (by decide)).below (Below.refl _ _).drew
      · exact (SeenTs.set3 (HDr1.out hcc) HP1.out (by decide) (by decide)).below (Below.refl _ _).drew
      · exact (((hbw2.setCell (p := ⟨_, 0, none⟩) (by simp) _).setCell (p := ⟨_, 1, none⟩) (by simp) _).setCell (p := ⟨_, 2, none⟩) (by simp) _).drew
  · go_region
    all_goals
      go_wp2_with fail
      refine bodyPost_ret (v := .agg #[.slice (some ⟨g2, o2, none⟩) S.goals.length c2, .slice (some ⟨g2, o2 + S.goals.length, none⟩) (ra.length - S.goals.length) (c2 - S.goals.length), .int .i64 (rn.length : Nat)]) (by simp [results, Tryd.results65, go_sem, *]) rfl ?_
      rw [HRS.out]
      refine ⟨_, _, _, _, _, _, rfl, ⟨?_, ?_, rfl⟩, ?_⟩
      · exact (SeenTs.set3 HTk.out HP1.out (by decide) (by decide)).below (Below.refl _ _).drew
      · exact (SeenTs.set3 HDr2.out HP1.out (by decide) (by decide)).below (Below.refl _ _).drew
      · exact (((hbw2.setCell (p := ⟨_, 0, none⟩) (by simp) _).setCell (p := ⟨_, 1, none⟩) (by simp) _).setCell (p := ⟨_, 2, none⟩) (by simp) _).drew
theorem sizeT_take {ts : List (List Rf.Part)} {k : Nat} (h : k < ts.length) : Rf.sizeT (ts.take (k + 1)) = Rf.sizeT (ts.take k) + ts[k].length := by
  rw [List.take_succ_eq_append_getElem h, Rf.sizeT_app]
  simp [Rf.sizeT]
theorem sizeT_bd {ts : List (List Rf.Part)} (h : ∀ t ∈ ts, t.length ≤ 400) : Rf.sizeT ts ≤ ts.length * 400 := by
  induction ts with
  | nil => simp [Rf.sizeT]
  | cons t ts ih =>
    have h1 := ih (fun u hu => h u (List.mem_cons_of_mem _ hu))
    have h2 := h t (by simp)
    rw [Rf.sizeT, List.length_cons]; omega
set_option maxHeartbeats 1000000 in
set_option maxRecDepth 100000 in
theorem psizeS_any (w : World) (vg vt : Value) (fr : Int) (S : Rf.St) (N : Nat) (F : Int) (hS : StIs w vg vt fr S) (hG : Rf.StG N F S) (hN : N ≤ 9000) :
    Calls Tryd.prog 24 #[.agg #[vg, vt, .int .i64 fr]] w fun r w' => r = .returned (.int .i64 (Rf.sizeS S : Nat)) ∧ Below w.heap.size w w' := by
  obtain ⟨sa, sc, rfl⟩ := hS.g.slice
  obtain ⟨ta, tc, rfl⟩ := hS.t.slice
  have hgl : S.goals.length ≤ 9000 := Nat.le_trans hG.gl hN
  have htl := hG.tl
  have HS : Hid _ := hS
  have H4 : Hid (∀ t ∈ S.goals ++ S.terms, t.length ≤ 400) := fun t ht => by
    rcases List.mem_append.1 ht with ht | ht
    · exact (hG.g t ht).1
    · exact (hG.t t ht).1
  have HV : Hid (Rf.sizeS S = Rf.sizeT (S.goals ++ S.terms)) := rfl
  clear hS hG
  go_enter Tryd.func24, Tryd.ntmps24
  go_wp2_with (go_at_call 35; refine (pjoined_any _ (.slice sa S.goals.length sc) (.slice ta S.terms.length tc) S.goals S.terms (HS.out.g.below (by repeat (first | exact Below.refl _ _ | refine Below.setCell ?_ (by simp <;> omega) _ | refine Below.drew ?_ | refine Below.drewN ?_ _ | refine Below.alloc ?_ (by simp <;> omega) _))) (HS.out.t.below (by repeat (first | exact Below.refl _ _ | refine Below.setCell ?_ (by simp <;> omega) _ | refine Below.drew ?_ | refine Below.drewN ?_ _ | refine Below.alloc ?_ (by simp <;> omega) _))) (by omega) (by omega)).mono ?_; rintro r w1 ⟨a1, n1, c1, rfl, hJ1, hb1⟩; obtain ⟨acc, hT, hE, hts⟩ := hJ1.ex; have hn1 : n1 = acc.length := by { have h9 := hT.len; rw [List.length_map] at h9; exact h9 }; subst hn1; have hbw1 : Below w.heap.size w w1 := Below.trans ((Below.refl _ w).alloc (Nat.le_refl _) _) (hb1.mono (by rw [World.size_alloc]; omega)); have HTT : Hid _ := hT; have HEE : Hid _ := hE; have Hts : Hid _ := hts; clear hJ1 hT hE hts)
  have hal : acc.length = S.goals.length + S.terms.length := by have h9 := congrArg List.length Hts.out; rw [List.length_append, List.length_map] at h9; exact h9.symm
  have hbd : ∀ k, Rf.sizeT ((acc.map (·.2)).take k) ≤ 10000000 := fun k => by
    have h9 := sizeT_bd (ts := (acc.map (·.2)).take k) (fun t ht => H4.out t (by rw [Hts.out]; exact List.mem_of_mem_take ht))
    have h8 : ((acc.map (·.2)).take k).length * 400 ≤ 9016 * 400 := Nat.mul_le_mul_right _ (by rw [List.length_take, List.length_map]; omega)
    omega
  have Hbd : Hid _ := hbd
  clear hbd
  go_loopw [3, 12] (fun sv iv wr => ∃ k : Nat, k ≤ acc.length ∧ iv = .int .i64 (k : Nat) ∧ sv = .int .i64 (Rf.sizeT ((acc.map (·.2)).take k) : Nat) ∧ Below w1.heap.size w1 wr) (fun _ iv _ => acc.length - (intOf iv).toNat)
  case atStart => exact ⟨0, Nat.zero_le _, rfl, rfl, Below.refl _ _⟩
  case round =>
    obtain ⟨k, hk, rfl, rfl, hbr⟩ := hrel
    have hsz := hbr.size
    by_cases hlt : k < acc.length
    · obtain ⟨g, off, rfl⟩ := HTT.out.pos (by simp; omega)
      have hgl1 := HTT.out.lt
      have hcell := Seen.termAt (HTT.out.below hbr) k acc[k].1 (by simp [hlt])
      have hS := HEE.out acc[k] (List.getElem_mem hlt)
      have hql := hS.len
      have hq4 : acc[k].2.length ≤ 400 := H4.out _ (by rw [Hts.out]; exact List.mem_map_of_mem (List.getElem_mem hlt))
      have hst : Hid (Rf.sizeT ((acc.map (·.2)).take (k + 1)) = Rf.sizeT ((acc.map (·.2)).take k) + acc[k].2.length) := by
        unfold Hid
        rw [sizeT_take (by rw [List.length_map]; exact hlt), List.getElem_map]
      clear hS
      generalize acc[k] = y at *
      obtain ⟨⟨qa, qn, qc⟩, qp⟩ := y
      simp only at hcell hql hq4 hst
      subst hql
      have hb1' := Hbd.out k
      obtain ⟨z, hz⟩ : ∃ z, Hid (Rf.sizeT ((acc.map (·.2)).take k) = z) := ⟨_, rfl⟩
      rw [hz.out] at hst hb1' ⊢
      have hgl' : g < wr.heap.size := by omega
      have hlt' : (k : Int) < acc.length := by omega
      go_wp2_with fail
      go_roundw
      case rel => exact ⟨k + 1, by omega, by go_num, by rw [hst.out]; go_num, hbr⟩
      case measure => simp [intOf]; omega
    · obtain rfl : k = acc.length := by omega
      have HVV : Hid (Rf.sizeT ((acc.map (·.2)).take acc.length) = Rf.sizeS S) := by
        unfold Hid
        rw [HV.out, Hts.out, List.take_of_length_le (by rw [List.length_map]; exact Nat.le_refl _)]
      rw [HVV.out]
      go_wp2_with fail
      go_ret
      exact ⟨rfl, hbw1.trans (hbr.mono hbw1.size)⟩
end Go.Proofs.YtpdikdnffehmkaaDoor
