
import Derived.Test.YtbiojnljihgpoaaGreatDoorYbl
import Derived.Test.YtbiojnljihgpoaaGreatDoorYal
import Derived.Test.YtbiojnljihgpoaaGreatDoorCards
import Derived.Test.YtbiojnljihgpoaaGreatDoorTie
namespace Go.Proofs.YtbiojnljihgpoaaGreatDoor
open Go.RowKit
theorem grow_apart {G G2 : Nat → Prop} {w w' : World} (d : ∀ k, G2 k → ¬ G k) (hi : ∀ k, G2 k → k < w.heap.size) : ∀ k, G2 k → ¬ Grow G w w' k := fun k e e2 => by
 rcases e2 with e2 | e2
 ·exact d k e e2
 ·have := hi k e; omega
theorem apart_symm {G G2 : Nat → Prop} (d : ∀ k, G2 k → ¬ G k) : ∀ k, G k → ¬ G2 k := fun k e e2 => d k e2 e
set_option maxHeartbeats 1000000 in
set_option maxRecDepth 100000 in
theorem resumed_any (W : World) (p : Int) (a : Option Addr) (n c : Nat) (l : List Rf.MoveV) (aO : Option Addr) (nO cO : Nat) (lO : List Rf.MoveV) (aB : Option Addr) (nB cB : Nat) (lB : List Rf.MoveV) (aL : Option Addr) (nL cL : Nat) (lL : List Rf.MoveV) (hp : -9223372036854775808 ≤ p) (hp' : p ≤ 9223372036854775807)
  (hM : MovesAt W (.slice a n c) l) (hok : ∀ m ∈ l, m.s.size ≤ maxLen) (hl : l.length * 24 ≤ 140737488355328) (hMO : MovesAt W (.slice aO nO cO) lO) (hokO : ∀ m ∈ lO, m.s.size ≤ maxLen) (hlO : lO.length * 24 ≤ 140737488355328)
  (hMB : MovesAt W (.slice aB nB cB) lB) (hokB : ∀ m ∈ lB, m.s.size ≤ maxLen) (hlB : lB.length * 24 ≤ 140737488355328) (hML : MovesAt W (.slice aL nL cL) lL) (hokL : ∀ m ∈ lL, m.s.size ≤ maxLen) (hlL : lL.length * 24 ≤ 140737488355328) (hT : Tab W) :
  Calls Tryz.prog 3 #[.int .i64 p, .slice a n c, .slice aO nO cO, .slice aB nB cB, .slice aL nL cL] W fun r w' => r = .returned (.bool true) ∧ Below W.heap.size W w' := by
 obtain rfl : n = l.length := hM.len
 obtain rfl : nO = lO.length := hMO.len
 obtain rfl : nB = lB.length := hMB.len
 obtain rfl : nL = lL.length := hML.len
 have HO : Hid (∀ m ∈ l, m.s.size ≤ maxLen) := hok
 have HOO : Hid (∀ m ∈ lO, m.s.size ≤ maxLen) := hokO
 have HOB : Hid (∀ m ∈ lB, m.s.size ≤ maxLen) := hokB
 have HOL : Hid (∀ m ∈ lL, m.s.size ≤ maxLen) := hokL
 have HT : Hid (Tab W) := hT
 have hpk := Rf.pickK_lt (c := p) (n := 1000) (by omega)
 obtain ⟨S0, hS00⟩ : ∃ S0, Hid ((⟨(1 + (Rf.pickK p 1000 : Int)).toNat, [], none⟩ : Rf.Se) = S0) := ⟨_, rfl⟩
 have hW0 : Rf.SeW S0 := by rw [← hS00.out]; exact Rf.new_W (by omega) (by omega)
 obtain ⟨S, hS0⟩ : ∃ S, Hid ((Rf.movedS S0 l).2 = S) := ⟨_, rfl⟩
 obtain ⟨T, hT0⟩ : ∃ T, Hid ((Rf.movedS S0 lO).2 = T) := ⟨_, rfl⟩
 obtain ⟨S2, hS2⟩ : ∃ S2, Hid ((Rf.movedS S lB).2 = S2) := ⟨_, rfl⟩
 have HWS : Hid (Rf.SeW S) := by unfold Hid; rw [← hS0.out]; exact Rf.moved_W l hW0
 have HW2 : Hid (Rf.SeW S2) := by unfold Hid; rw [← hS2.out]; exact Rf.moved_W lB HWS.out
 have hlS : S.lim = S0.lim := by rw [← hS0.out]; exact Rf.moved_lim l hW0
 have hlT : T.lim = S0.lim := by rw [← hT0.out]; exact Rf.moved_lim lO hW0
 have hl2 : S2.lim = S0.lim := by rw [← hS2.out, Rf.moved_lim lB HWS.out]; exact hlS
 have HL1 : Hid (Rf.loadS T (Rf.bs (strOf (Rf.saveS S))) = (true, S)) := by unfold Hid; rw [bs_strOf]; exact HWS.out.load (hlT.trans hlS.symm)
 have HL2 : Hid (Rf.loadS S (Rf.bs (strOf (Rf.saveS S2))) = (true, S2)) := by unfold Hid; rw [bs_strOf]; exact HW2.out.load (hlS.trans hl2.symm)
 obtain ⟨I1, hI1⟩ : ∃ I1, Hid (I1 = strOf (Rf.saveS S)) := ⟨_, rfl⟩
 obtain ⟨I2, hI2⟩ : ∃ I2, Hid (I2 = strOf (Rf.saveS S2)) := ⟨_, rfl⟩
 have hi1 : I1.size ≤ maxLen := by rw [hI1.out, strOf_size]; have := HWS.out.len; unfold maxLen; omega
 have hi2 : I2.size ≤ maxLen := by rw [hI2.out, strOf_size]; have := HW2.out.len; unfold maxLen; omega
 rw [← hI1.out] at HL1
 rw [← hI2.out] at HL2
 have HMat : Hid (∀ w, Below W.heap.size W w → MovesAt w (.slice a l.length c) l) := fun w hb => hM.on hb (Nat.le_refl _)
 have HMatO : Hid (∀ w, Below W.heap.size W w → MovesAt w (.slice aO lO.length cO) lO) := fun w hb => hMO.on hb (Nat.le_refl _)
 have HMatB : Hid (∀ w, Below W.heap.size W w → MovesAt w (.slice aB lB.length cB) lB) := fun w hb => hMB.on hb (Nat.le_refl _)
 have HMatL : Hid (∀ w, Below W.heap.size W w → MovesAt w (.slice aL lL.length cL) lL) := fun w hb => hML.on hb (Nat.le_refl _)
 have HMB : Hid (∀ B, W.heap.size ≤ B → ∀ g off, 1 ≤ l.length → a = some ⟨g, off, none⟩ → g < B) := fun B hB g off h1 e => by subst e; have := (hM.at h1).1; omega
 have HMBO : Hid (∀ B, W.heap.size ≤ B → ∀ g off, 1 ≤ lO.length → aO = some ⟨g, off, none⟩ → g < B) := fun B hB g off h1 e => by subst e; have := (hMO.at h1).1; omega
 have HMBB : Hid (∀ B, W.heap.size ≤ B → ∀ g off, 1 ≤ lB.length → aB = some ⟨g, off, none⟩ → g < B) := fun B hB g off h1 e => by subst e; have := (hMB.at h1).1; omega
 have HMBL : Hid (∀ B, W.heap.size ≤ B → ∀ g off, 1 ≤ lL.length → aL = some ⟨g, off, none⟩ → g < B) := fun B hB g off h1 e => by subst e; have := (hML.at h1).1; omega
 clear hM hMO hMB hML hok hokO hokB hokL hT hW0 hlS hlT hl2 hpk
 go_enter Tryz.func3, Tryz.ntmps3
 go_wp2_with (first
  | (have h9 := hR13; go_at_call 11; refine (ksame_any _ _ _ _ _ _ (Rf.movedS S2 lL).1 _ (seen_done hR12 hD13) hR13).mono ?_; rintro r w14 ⟨rfl, hb14⟩)
  | (have h9 := hD12; go_at_call 10; refine (kmoved_any w1.heap.size _ w12 z S2 aL lL.length cL lL (HMatL.out _ (HB1.out.trans (HB12.out.mono hz1))) HOL.out hlL hz12 HB12.out.size (HMBL.out _ hz1) (TabB.on HT1.out HB12.out)).mono ?_; rintro r w13 ⟨a5, c5, rfl, hR13, hD13⟩)
  | (have h9 := hD11; go_at_call 10; refine (kmoved_any w1.heap.size _ w11 x S2 aL lL.length cL lL (HMatL.out _ (HB1.out.trans (HB11.out.mono hz1))) HOL.out hlL hx11 HB11.out.size (HMBL.out _ hz1) (TabB.on HT1.out HB11.out)).mono ?_; rintro r w12 ⟨a4, c4, rfl, hR12, hD12⟩; have hz12 := hD12.other hD11.1 (apart_symm d11); have HB12 : Hid (Below w1.heap.size w1 w12) := HB11.out.trans (hD12.below HB11.out.size))
  | (have h9 := hb10; go_at_call 9; refine (pload_in w1.heap.size _ w10 z S I2 hi2 hz10 HB10.out.size (TabB.on HT1.out HB10.out)).mono ?_; rintro r w11 ⟨hr11, hD11⟩; rw [HL2.out] at hr11 hD11; subst hr11; have hx11 := hD11.other hx10 d10; have d11 := grow_apart (w' := w11) d10 hx10.hi; have HB11 : Hid (Below w1.heap.size w1 w11) := HB10.out.trans (hD11.below HB10.out.size))
  | (have h9 := hbw9; go_at_call 8; refine (psave_in w1.heap.size _ w9 y S2 hy9 (TabB.on HT1.out HBw9.out) HW2.out.tell HW2.out.left).mono ?_; rintro r w10 ⟨hr10, hb10⟩; rw [← hI2.out] at hr10; subst hr10; have hx10 := hx9.below hb10; have hz10 := (hz.lower (by omega : w1.heap.size ≤ w8.heap.size)).below hb10; have d10 : ∀ k, _ → ¬ (w8.heap.size ≤ k ∧ k < w9.heap.size) := (fun k e e2 => by have := hx8.hi k e; omega); have HB10 : Hid (Below w1.heap.size w1 w10) := HBw9.out.trans (hb10.mono HBw9.out.size))
  | (have h9 := hb8; go_at_call 7; refine (ksession_any w8 p a l.length c l hp hp' (HMat.out _ (HB1.out.trans (HB8.out.mono hz1))) HO.out hl (HMB.out _ (by have := HB8.out.size; omega)) (tab_here (TabB.tab (TabB.on HT1.out HB8.out)))).mono ?_; rintro r w9 ⟨z, rfl, hz, hbw9⟩; rw [hS00.out, hS0.out] at hz; have hx9 := hx8.below hbw9; have hy9 := hy8.below hbw9; have hzw8 := HB8.out.size; have HBw9 : Hid (Below w1.heap.size w1 w9) := HB8.out.trans (hbw9.mono hzw8))
  | (have h9 := hR7; go_at_call 11; refine (ksame_any _ _ _ _ _ _ (Rf.movedS S lB).1 _ (seen_done hR6 hD7) hR7).mono ?_; rintro r w8 ⟨rfl, hb8⟩; have hx8 := hx7.below hb8; have hy8 := hD7.1.below hb8; have HB8 : Hid (Below w1.heap.size w1 w8) := HB7.out.trans (hb8.mono HB7.out.size))
  | (have h9 := hD6; go_at_call 10; refine (kmoved_any w1.heap.size _ w6 y S aB lB.length cB lB (HMatB.out _ (HB1.out.trans (HB6.out.mono hz1))) HOB.out hlB hy6 HB6.out.size (HMBB.out _ hz1) (TabB.on HT1.out HB6.out)).mono ?_; rintro r w7 ⟨a3, c3, rfl, hR7, hD7⟩; rw [hS2.out] at hD7; have hx7 := hD7.other hD6.1 (apart_symm d6); have HB7 : Hid (Below w1.heap.size w1 w7) := HB6.out.trans (hD7.below HB6.out.size))
  | (have h9 := hD5; go_at_call 10; refine (kmoved_any w1.heap.size _ w5 x S aB lB.length cB lB (HMatB.out _ (HB1.out.trans (HB5.out.mono hz1))) HOB.out hlB hx5 HB5.out.size (HMBB.out _ hz1) (TabB.on HT1.out HB5.out)).mono ?_; rintro r w6 ⟨a2, c2, rfl, hR6, hD6⟩; rw [hS2.out] at hD6; have hy6 := hD6.other hD5.1 (apart_symm d5); have d6 := grow_apart (w' := w6) (apart_symm d5) hD5.1.hi; have HB6 : Hid (Below w1.heap.size w1 w6) := HB5.out.trans (hD6.below HB5.out.size))
  | (have h9 := hb4; go_at_call 9; refine (pload_in w1.heap.size _ w4 y T I1 hi1 hy4 HB4.out.size (TabB.on HT1.out HB4.out)).mono ?_; rintro r w5 ⟨hr5, hD5⟩; rw [HL1.out] at hr5 hD5; subst hr5; have hx5 := hD5.other hx4 d4; have d5 := grow_apart (w' := w5) d4 hx4.hi; have HB5 : Hid (Below w1.heap.size w1 w5) := HB4.out.trans (hD5.below HB4.out.size))
  | (have h9 := hbw3; go_at_call 8; refine (psave_in w1.heap.size _ w3 x S (hx.below hbw3) (TabB.on HT1.out HBw3.out) HWS.out.tell HWS.out.left).mono ?_; rintro r w4 ⟨hr4, hb4⟩; rw [← hI1.out] at hr4; subst hr4; have hx4 := (hx.below hbw3).below hb4; have hy4 := (hy.lower hzw2).below hb4; have d4 : ∀ k, (w1.heap.size ≤ k ∧ k < w2.heap.size) → ¬ (w2.heap.size ≤ k ∧ k < w3.heap.size) := (fun k e e2 => by omega); have HB4 : Hid (Below w1.heap.size w1 w4) := HBw3.out.trans (hb4.mono HBw3.out.size))
  | (have h9 := hx; go_at_call 7; refine (ksession_any w2 p aO lO.length cO lO hp hp' (HMatO.out _ (HB1.out.trans (HBw2.out.mono hz1))) HOO.out hlO (HMBO.out _ (by omega)) (tab_here (TabB.tab (TabB.on HT1.out HBw2.out)))).mono ?_; rintro r w3 ⟨y, rfl, hy, hbw3⟩; rw [hS00.out, hT0.out] at hy; have hzw3 := hbw3.size; have HBw3 : Hid (Below w1.heap.size w1 w3) := HBw2.out.trans (hbw3.mono hzw2))
  | (go_at_call 7; refine (ksession_any w1 p a l.length c l hp hp' (HMat.out _ HB1.out) HO.out hl (HMB.out _ hz1) HT1.out).mono ?_; rintro r w2 ⟨x, rfl, hx, hbw2⟩; rw [hS00.out, hS0.out] at hx; have hzw2 := hbw2.size; have HBw2 : Hid (Below w1.heap.size w1 w2) := hbw2)
  | (go_at_call 6; refine (kworks_any W HT.out).mono ?_; rintro r w1 ⟨rfl, hb1⟩; have HT1 : Hid (TabB w1.heap.size w1) := tab_here (Tab.below HT.out hb1); have hz1 := hb1.size; have HB1 : Hid _ := hb1))
 go_ret
 exact ⟨rfl, HB1.out.trans (((HB12.out.trans (hD13.below HB12.out.size)).trans (hb14.mono (by have := HB12.out.size; have := hD13.size; omega))).mono hz1)⟩
end Go.Proofs.YtbiojnljihgpoaaGreatDoor
namespace Go.Proofs.YtbiojnljihgpoaaGreatDoor
open Go.ChangeShapes Go.WideShapes Go.ChangeAt Go.RowKit Go.Deep
def ResumedWalk : Prop := ∀ (W : World) (n0 : Int) (v1 : Value) (l1 : List Rf.MoveV) (v2 : Value) (l2 : List Rf.MoveV) (v3 : Value) (l3 : List Rf.MoveV) (v4 : Value) (l4 : List Rf.MoveV), -9223372036854775808 ≤ n0 → n0 ≤ 9223372036854775807 → MovesAt W v1 l1 → (∀ x ∈ l1, x.s.size ≤ maxLen) → l1.length * 24 ≤ 140737488355328 → MovesAt W v2 l2 → (∀ x ∈ l2, x.s.size ≤ maxLen) → l2.length * 24 ≤ 140737488355328 → MovesAt W v3 l3 → (∀ x ∈ l3, x.s.size ≤ maxLen) → l3.length * 24 ≤ 140737488355328 → MovesAt W v4 l4 → (∀ x ∈ l4, x.s.size ≤ maxLen) → l4.length * 24 ≤ 140737488355328 → Lib.TabIs Tryz.prog W "internal/strconv.uint64pow10" .u64 Lib.pow10Tab →
  Calls Tryz.prog 3 #[.int .i64 n0, v1, v2, v3, v4] W fun e W' => e = .returned (.bool true) ∧ Below W.heap.size W W'
namespace ResumedC
theorem table {W : World} (h : laidMetH Tryz.prog Rows.resumedRow.laid W) : Lib.TabIs Tryz.prog W "internal/strconv.uint64pow10" .u64 Lib.pow10Tab := by
 have h' : laidMet Tryz.prog Rows.resumedRow.laid W := by
  rw [MakeChecks.laidMetH_plain _ _ _ (by kernel_rfl)] at h
  exact h
 exact Lib.tabIs_of_head Tryz.gTab Tryz.gTabType Tryz.underlying162 Tryz.underlying148 Tryz.cellsU64 Tryz.cellsTab (laidMet.tail (laidMet.tail h'))
section
variable {H : Type} {enc : TypeId × Value → H}
set_option maxRecDepth 100000 in
theorem contract (hw : ResumedWalk) (W : World) (base : Nat) (args : Array Value) (ds gs : List (DataW H)) (before : List MemPlace)
  (hval : ∀ (j : Nat) t v, Tryz.f3.params[j]? = some t → args[j]? = some v → Value.okWide Tryz.prog W .any base t v)
  (hW : DataW.Whole enc Tryz.prog Tryz.f3.params.toList Rows.resumedSpec.vars false W args.toList ds gs before)
  (hsz : (DataW.weightsEach Tryz.prog (Tryz.f3.params.toList ++ (OpenSpec.ofChange Rows.resumedSpec).bare.plain.varTypes Tryz.prog) (ds ++ gs)).all (· ≤ reachBytes) = true)
  (hL : laidMetH Tryz.prog Rows.resumedRow.laid W) :
  Calls Tryz.prog 3 args W fun e W' => ∃ v, e = .returned v ∧ Rows.resumedSpec.post enc Tryz.prog Tryz.f3 false true false false W args v W' := by
 have hW' := hW
 obtain ⟨p, q, hA0, hV, rfl, hfz, hnd⟩ := hW
 have hA : DataW.TrodAll enc Tryz.prog W 0 (fun _ => true) true Tryz.f3.params.toList args.toList ds p := hA0
 rw [Tryz.params3] at hA hval hsz
 obtain ⟨v0, vs0, d0, ds0, p0, q0, hargs, rfl, rfl, h0, r0⟩ := trodAll_cons hA
 obtain ⟨v1, vs1, d1, ds1, p1, q1, rfl, rfl, rfl, h1, r1⟩ := trodAll_cons r0
 obtain ⟨v2, vs2, d2, ds2, p2, q2, rfl, rfl, rfl, h2, r2⟩ := trodAll_cons r1
 obtain ⟨v3, vs3, d3, ds3, p3, q3, rfl, rfl, rfl, h3, r3⟩ := trodAll_cons r2
 obtain ⟨v4, vs4, d4, ds4, p4, q4, rfl, rfl, rfl, h4, r4⟩ := trodAll_cons r3
 obtain ⟨rfl, rfl, rfl⟩ := trodAll_nil r4
 obtain rfl : args = #[v0, v1, v2, v3, v4] := by cases args; simp_all
 obtain ⟨rfl, rfl⟩ := trodVars_none hV
 clear hA0
 have hv0 := hval 0 3 v0 rfl rfl
 obtain ⟨n0, rfl, rfl, rfl, hwf0⟩ := open_int Tryz.underlying3 hv0 h0
 have hn0 := i64_wf hwf0
 obtain ⟨l1, hS1, hok1, hn1⟩ := open_moves h1 (okWide_slice Tryz.underlying22 (hval 1 22 v1 rfl rfl)) (fun elems spare e => by
  subst e
  have := sized_slice hsz (j := 1) (t := 22) (e := 65) rfl rfl Tryz.underlying22
  rw [Tryz.bytesMove] at this
  exact this)
 obtain ⟨l2, hS2, hok2, hn2⟩ := open_moves h2 (okWide_slice Tryz.underlying22 (hval 2 22 v2 rfl rfl)) (fun elems spare e => by
  subst e
  have := sized_slice hsz (j := 2) (t := 22) (e := 65) rfl rfl Tryz.underlying22
  rw [Tryz.bytesMove] at this
  exact this)
 obtain ⟨l3, hS3, hok3, hn3⟩ := open_moves h3 (okWide_slice Tryz.underlying22 (hval 3 22 v3 rfl rfl)) (fun elems spare e => by
  subst e
  have := sized_slice hsz (j := 3) (t := 22) (e := 65) rfl rfl Tryz.underlying22
  rw [Tryz.bytesMove] at this
  exact this)
 obtain ⟨l4, hS4, hok4, hn4⟩ := open_moves h4 (okWide_slice Tryz.underlying22 (hval 4 22 v4 rfl rfl)) (fun elems spare e => by
  subst e
  have := sized_slice hsz (j := 4) (t := 22) (e := 65) rfl rfl Tryz.underlying22
  rw [Tryz.bytesMove] at this
  exact this)
 refine (hw W n0 v1 l1 v2 l2 v3 l3 v4 l4 hn0.1 hn0.2 hS1 hok1 hn1 hS2 hok2 hn2 hS3 hok3 hn3 hS4 hok4 hn4 (table hL)).mono fun e W' ⟨he, hB⟩ => ?_
 subst he
 have hlt : ∀ x ∈ ([] : List MemPlace) ++ (p1 ++ (p2 ++ (p3 ++ (p4 ++ [])))) ++ [], x.block < W.heap.size := fun x hx => hW'.lt x hx
 refine ⟨_, rfl, [.lit (.int .i64 n0), d1, d2, d3, d4], [], _, [], ([] : List MemPlace) ++ (p1 ++ (p2 ++ (p3 ++ (p4 ++ [])))), [], hW', ?_, ?_, ?_, hB.frame _, fun h => by cases h⟩
 ·exact trodAll_cons_mk (shut_bool Tryz.underlying4 true) trodAll_mk0
 ·exact (trodAll_cons_mk (again (of_decide_eq_true (by kernel_rfl)) h0 hB (fun x hx => by simp at hx)) (trodAll_cons_mk (again (of_decide_eq_true (by kernel_rfl)) h1 hB (fun x hx => hlt x (by simp [hx]))) (trodAll_cons_mk (again (of_decide_eq_true (by kernel_rfl)) h2 hB (fun x hx => hlt x (by simp [hx]))) (trodAll_cons_mk (again (of_decide_eq_true (by kernel_rfl)) h3 hB (fun x hx => hlt x (by simp [hx]))) (trodAll_cons_mk (again (of_decide_eq_true (by kernel_rfl)) h4 hB (fun x hx => hlt x (by simp [hx]))) trodAll_mk0)))))
 ·rfl
end
theorem laid_met (os : Os) : laidMet Tryz.prog Rows.resumedRow.laid ((World.doorLaid Tryz.prog 400 os).forCall (fun _ _ => 0) ⟨#[], #[.int .i64 0, .slice none 0 0, .slice none 0 0, .slice none 0 0, .slice none 0 0], []⟩).memory :=
 laidMet_of_run' 8 (by kernel_rfl) (by kernel_rfl)
theorem reads (os : Os) {H : Type} (enc : TypeId × Value → H) : ∃ places, DataW.whole enc Tryz.prog ((World.doorLaid Tryz.prog 400 os).forCall (fun _ _ => 0) ⟨#[], #[.int .i64 0, .slice none 0 0, .slice none 0 0, .slice none 0 0, .slice none 0 0], []⟩).memory Tryz.f3.params.toList Rows.resumedSpec.vars false #[Value.int .i64 0, .slice none 0 0, .slice none 0 0, .slice none 0 0, .slice none 0 0].toList 8 = some ([.lit (.int .i64 0), .nil, .nil, .nil, .nil], [], places) :=
 ⟨[], by kernel_rfl⟩
set_option maxRecDepth 100000 in
theorem lifted (hw : ResumedWalk) (os : Os) (started : os.Started) (H : Type) (enc : TypeId × Value → H) (F : Stop.Interp) :
  ReturnsInHanded {} Tryz.checked os 3 .any ((OpenSpec.ofChange Rows.resumedSpec).preRow enc Tryz.prog Tryz.f3 Rows.resumedRow.domain false Rows.resumedRow.laid) (((OpenSpec.ofChange Rows.resumedSpec).at F).post enc Tryz.prog Tryz.f3 false true false false) := by
 obtain ⟨places, hx⟩ := reads os enc
 refine returnsInHanded_of_row (C := Tryz.checked) (s := OpenSpec.ofChange Rows.resumedSpec) Tryz.own started (by kernel_rfl) Tryz.func3
  (witness_row_atRef (enc := enc) (C := Tryz.checked) false (World.doorLaid Tryz.prog 400 os) #[.int .i64 0, .slice none 0 0, .slice none 0 0, .slice none 0 0, .slice none 0 0] rfl (by kernel_rfl) (by kernel_rfl) (by kernel_rfl)
   (OpenSpec.preRow_of_cond 8 hx (by kernel_rfl) (fun k hk => by cases hk) (by kernel_rfl) (laid_met os))) ?_
 intro W base args ds gs before hval hW _ _ hsz hL _ _
 exact contract hw W base args ds gs before hval hW hsz hL
theorem said (hw : ResumedWalk) : Rows.ResumedSaid :=
 OpenClaim.holds_of_cond 3 Tryz.f3 rfl rfl rfl rfl rfl rfl rfl ⟨rfl, rfl, rfl, rfl, rfl⟩ rfl rfl rfl rfl rfl (by kernel_rfl) Tryz.func3 (by kernel_rfl)
  (of_decide_eq_true (by kernel_rfl)) (by unfold Func.isWrapper; first | (rw [if_pos (by decide +kernel)]; kernel_rfl) | (rw [if_neg (by decide +kernel)]; exact ⟨rfl, rfl⟩))
  (fun os started H enc _ F => by rw [OpenClaim.pre_eq_preRow]; exact lifted hw os started H enc F)
theorem plain (f : FuncId) (fn : Func) (hf : Tryz.pinned.checked.prog.funcNamed "prompt/promptkeep.Resumed" = some f) (hfn : Tryz.pinned.checked.prog.funcs[f]? = some fn) :
  false = Tryz.pinned.checked.prog.looks [] ∧ ∀ (j : Nat) t, fn.params[j]? = some t → Tryz.pinned.checked.prog.wantsStandIn t = false := by
 obtain rfl : f = 3 := Option.some.inj ((show Tryz.prog.funcNamed "prompt/promptkeep.Resumed" = some 3 by kernel_rfl).symm.trans hf) |>.symm
 obtain rfl : fn = Tryz.f3 := (Option.some.inj (Tryz.func3.symm.trans hfn)).symm
 refine ⟨by kernel_rfl, fun j t ht => ?_⟩
 rw [Tryz.params3] at ht
 have hm := Array.mem_of_getElem? ht
 have hm2 : t ∈ ([3, 22, 22, 22, 22] : List TypeId) := by simpa using hm
 have key : ∀ t ∈ ([3, 22, 22, 22, 22] : List TypeId), Tryz.prog.wantsStandIn t = false := fun t h => by
  simp only [List.mem_cons, List.not_mem_nil, or_false] at h
  rcases h with rfl | rfl | rfl | rfl | rfl <;> kernel_rfl
 exact key t hm2
theorem card_of (hw : ResumedWalk) : Rows.ResumedCardSaid :=
 Claim7.holds_tied_plain_at .later [] _ _ _ _ (said hw) (fun _ h => by cases h) (by kernel_rfl) (fun _ h => by cases h) resumed_row_tie rfl ⟨rfl, rfl⟩ (by kernel_rfl) rfl plain (by kernel_rfl)
end ResumedC
end Go.Proofs.YtbiojnljihgpoaaGreatDoor
