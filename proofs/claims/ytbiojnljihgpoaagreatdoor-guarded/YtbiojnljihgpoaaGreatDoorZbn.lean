
import Derived.Test.YtbiojnljihgpoaaGreatDoorZbm
import Derived.Test.YtbiojnljihgpoaaGreatDoorZbk
import Derived.Test.YtbiojnljihgpoaaGreatDoorCards
import Derived.Test.YtbiojnljihgpoaaGreatDoorTie
namespace Go.Proofs.YtbiojnljihgpoaaGreatDoor
open Go.RowKit
set_option maxHeartbeats 1000000 in
set_option maxRecDepth 100000 in
theorem guarded_any (W : World) (p : Int) (a : Option Addr) (n c : Nat) (l : List Rf.MoveV) (n2 n3 n4 : Int) (t : ByteArray) (hp : -9223372036854775808 <= p) (hp' : p <= 9223372036854775807) (hM : MovesAt W (.slice a n c) l) (hok : ∀ m ∈ l, m.s.size <= maxLen) (hl : l.length * 24 <= 140737488355328)
  (hn2 : -9223372036854775808 <= n2) (hn2' : n2 <= 9223372036854775807) (hn4 : -9223372036854775808 <= n4) (hn4' : n4 <= 9223372036854775807) (ht : t.size <= 140737488355328) (hT : Tab W) :
  Calls Tryz.prog 5 #[.int .i64 p, .slice a n c, .int .i64 n2, .int .i64 n3, .int .i64 n4, .string t] W fun r w' => r = .returned (.bool true) /\ Below W.heap.size W w' := by
 obtain rfl : n = l.length := hM.len
 have HO : Hid (∀ m ∈ l, m.s.size <= maxLen) := hok
 have HT : Hid (Tab W) := hT
 have hpl := Rf.pickK_lt (c := p) (n := 1000) (by omega)
 obtain ⟨S0, hS00⟩ : ∃ S0, Hid ((⟨(1 + (Rf.pickK p 1000 : Int)).toNat, [], none⟩ : Rf.Se) = S0) := ⟨_, rfl⟩
 have hW0 : Rf.SeW S0 := by rw [<- hS00.out]; exact Rf.new_W (by omega) (by omega)
 obtain ⟨S, hS0⟩ : ∃ S, Hid ((Rf.movedS S0 l).2 = S) := ⟨_, rfl⟩
 have HWS : Hid (Rf.SeW S) := by unfold Hid; rw [<- hS0.out]; exact Rf.moved_W l hW0
 have hlS : S.lim = S0.lim := by rw [<- hS0.out]; exact Rf.moved_lim l hW0
 obtain ⟨I, hI⟩ : ∃ I, Hid (I = strOf (Rf.saveS S)) := ⟨_, rfl⟩
 have hbI : Rf.bs I = Rf.saveS S := by rw [hI.out, bs_strOf]
 have hIl : (Rf.saveS S).length = I.size := by rw [<- hbI, Rf.bs_len]
 have hI3 : I.size <= 300000000 := by rw [<- hIl]; exact HWS.out.len
 have hI8 : 8 <= I.size := by rw [<- hIl]; unfold Rf.saveS; rw [Rf.img_len]; omega
 have hIm : I.size <= maxLen := by unfold maxLen; omega
 have hemp : I.toList.isEmpty = false := str_some I (by rw [Rf.bs_len]; exact hI8)
 have HLI : Hid (Rf.loadS S0 (Rf.bs I) = (true, S)) := by unfold Hid; rw [hbI]; exact HWS.out.load hlS.symm
 obtain ⟨pk, hpk⟩ : ∃ pk, Hid (pk = Rf.pickK n2 (8 * (I.size : Int))) := ⟨_, rfl⟩
 have hpk1 : pk <= 10000000000 := by have := Rf.pickK_lt (c := n2) (n := 8 * (I.size : Int)) (by omega); rw [<- hpk.out] at this; omega
 obtain ⟨k, hpk2⟩ : ∃ k, Hid (k = Rf.pickK n4 (I.size : Int)) := ⟨_, rfl⟩
 have hk1 : k < I.size := by have := Rf.pickK_lt (c := n4) (n := (I.size : Int)) (by omega); rw [<- hpk2.out] at this; omega
 have hki : (k : Int) <= I.size := by omega
 have hcsz : (I.extract 0 k).size <= maxLen := by rw [ByteArray.size_extract]; unfold maxLen; omega
 have HLC : Hid (Rf.loadS S0 (Rf.bs (I.extract 0 k)) = (false, S0)) := by
  have e : Rf.bs (I.extract 0 k) = (Rf.saveS S).take k := by rw [cut_str, bs_strOf, List.drop_zero, Nat.sub_zero, hbI]
  unfold Hid
  rw [e]
  exact Rf.load_no (Rf.not_cut HWS.out (by omega))
 have HMat : Hid (∀ w, Below W.heap.size W w -> MovesAt w (.slice a l.length c) l) := fun w hb => hM.on hb (Nat.le_refl _)
 have HMB : Hid (∀ B, W.heap.size <= B -> ∀ g off, 1 <= l.length -> a = some ⟨g, off, none⟩ -> g < B) := fun B hB g off h1 e => by subst e; have := (hM.at h1).1; omega
 have HbI : Hid _ := hbI
 have htsz : (I ++ t).size <= maxLen := by rw [ByteArray.size_append]; unfold maxLen; omega
 have HLTn : Hid (t.toList.isEmpty = false -> Rf.loadS S0 (Rf.bs (I ++ t)) = (false, S0)) := fun e => by
  rw [Rf.bs_app, hbI]
  exact Rf.load_no (Rf.not_tail HWS.out (fun e2 => by rw [ByteArray.toList_eq, show t.data.toList = Rf.bs t from rfl, e2] at e; cases e))
 have HIM : Hid (I.size <= maxLen) := hIm
 clear hM hok hT hW0 hlS hpl hbI hIl
 go_enter Tryz.func5, Tryz.ntmps5
 go_wp2_with (first
  | (have h9 := hyA; go_at_call 13; refine (kpick_any n2 (8 * (I.size : Int)) _ hn2 hn2' (by omega) (by omega)).mono ?_; rintro r w9 ⟨hr9, hw9⟩; rw [<- hpk.out] at hr9; subst hr9; subst w9)
  | (have h9 := hbw3; go_at_call 8; refine (psave_in w1.heap.size _ w3 x S (hx.below hbw3) (TabB.on HT1.out HBw3.out) HWS.out.tell HWS.out.left).mono ?_; rintro r w4 ⟨hr4, hb4⟩; rw [<- hI.out] at hr4; subst hr4; have hyA := (hy.lower hzw2).below hb4; have HBA : Hid (Below w1.heap.size w1 w4) := HBw3.out.trans (hb4.mono HBw3.out.size))
  | (have h9 := hx; go_at_call 7; refine (ksession_any w2 p none 0 0 [] hp hp' (.inl ⟨rfl, none, 0, rfl⟩) (fun m hm => by cases hm) (by simp) (fun g off h1 e => by cases e) (tab_here (TabB.tab (TabB.on HT1.out HBw2.out)))).mono ?_; rintro r w3 ⟨y, rfl, hy, hbw3⟩; rw [hS00.out] at hy; have hzw3 := hbw3.size; have HBw3 : Hid (Below w1.heap.size w1 w3) := HBw2.out.trans (hbw3.mono hzw2))
  | (go_at_call 7; refine (ksession_any w1 p a l.length c l hp hp' (HMat.out _ HB1.out) HO.out hl (HMB.out _ hz1) HT1.out).mono ?_; rintro r w2 ⟨x, rfl, hx, hbw2⟩; rw [hS00.out, hS0.out] at hx; have hzw2 := hbw2.size; have HBw2 : Hid (Below w1.heap.size w1 w2) := hbw2)
  | (go_at_call 6; refine (kworks_any W HT.out).mono ?_; rintro r w1 ⟨rfl, hb1⟩; have HT1 : Hid (TabB w1.heap.size w1) := tab_here (Tab.below HT.out hb1); have hz1 := hb1.size; have HB1 : Hid _ := hb1))
 refine (kturned_any _ I pk n3 hpk1).mono ?_
 rintro r w5 ⟨b, rfl, hWin, hb5⟩
 have hyB := hyA.below hb5
 have HBB : Hid (Below w1.heap.size w1 w5) := HBA.out.trans (hb5.mono HBA.out.size)
 obtain ⟨X, hXe⟩ : ∃ X, X = strOf b := ⟨_, rfl⟩
 rw [<- hXe]
 have hcm := beq_toList X I
 rw [HbI.out] at hWin
 by_cases hc : X = I
 ·rw [decide_eq_true hc] at hcm
  have hyC := hyB
  have HBC := HBB
  clear hyB hc hXe hWin
  cases hte : t.toList.isEmpty
  ·have HLT : Hid _ := HLTn.out hte
   go_wp2_with (first
    | (have h9 := hyF; go_at_call 8; refine (psave_in w1.heap.size _ _ y S hyF (TabB.on HT1.out HBF.out) HWS.out.tell HWS.out.left).mono ?_; rintro r w11 ⟨hr11, hb11⟩; rw [<- hI.out] at hr11; subst hr11)
    | (have h9 := hyE; go_at_call 9; refine (pload_in w1.heap.size _ _ y S0 I hIm hyE HBE.out.size (TabB.on HT1.out HBE.out)).mono ?_; rintro r w10 ⟨hrw10, hDw10⟩; rw [HLI.out] at hrw10 hDw10; subst hrw10; have hyF := hDw10.1; have HBF : Hid (Below w1.heap.size w1 w10) := HBE.out.trans (hDw10.below HBE.out.size))
    | (have h9 := hyD; go_at_call 9; refine (pload_in w1.heap.size _ _ y S0 (I ++ t) htsz hyD HBD.out.size (TabB.on HT1.out HBD.out)).mono ?_; rintro r w8 ⟨hrw8, hDw8⟩; rw [HLT.out] at hrw8 hDw8; subst hrw8; have hyE := hDw8.1; have HBE : Hid (Below w1.heap.size w1 w8) := HBD.out.trans (hDw8.below HBD.out.size))
    | (have h9 := hyC; go_at_call 9; refine (pload_in w1.heap.size _ _ y S0 (I.extract 0 k) hcsz hyC HBC.out.size (TabB.on HT1.out HBC.out)).mono ?_; rintro r w7 ⟨hrw7, hDw7⟩; rw [HLC.out] at hrw7 hDw7; subst hrw7; have hyD := hDw7.1; have HBD : Hid (Below w1.heap.size w1 w7) := HBC.out.trans (hDw7.below HBC.out.size))
    | (have h9 := hyC; go_at_call 13; refine (kpick_any n4 (I.size : Int) _ hn4 hn4' (by omega) (by omega)).mono ?_; rintro r w9 ⟨hr9, hw9⟩; rw [<- hpk2.out] at hr9; subst hr9; subst w9))
   go_ret
   exact ⟨rfl, HB1.out.trans ((HBF.out.trans (hb11.mono HBF.out.size)).mono hz1)⟩
  ·clear HLTn
   go_wp2_with (first
    | (have h9 := hyF; go_at_call 8; refine (psave_in w1.heap.size _ _ y S hyF (TabB.on HT1.out HBF.out) HWS.out.tell HWS.out.left).mono ?_; rintro r w11 ⟨hr11, hb11⟩; rw [<- hI.out] at hr11; subst hr11)
    | (have h9 := hyE; go_at_call 9; refine (pload_in w1.heap.size _ _ y S0 I hIm hyE HBE.out.size (TabB.on HT1.out HBE.out)).mono ?_; rintro r w10 ⟨hrw10, hDw10⟩; rw [HLI.out] at hrw10 hDw10; subst hrw10; have hyF := hDw10.1; have HBF : Hid (Below w1.heap.size w1 w10) := HBE.out.trans (hDw10.below HBE.out.size))
    | (have h9 := hyC; go_at_call 9; refine (pload_in w1.heap.size _ _ y S0 (I.extract 0 k) hcsz hyC HBC.out.size (TabB.on HT1.out HBC.out)).mono ?_; rintro r w7 ⟨hrw7, hDw7⟩; rw [HLC.out] at hrw7 hDw7; subst hrw7; have hyE := hDw7.1; have HBE : Hid (Below w1.heap.size w1 w7) := HBC.out.trans (hDw7.below HBC.out.size))
    | (have h9 := hyC; go_at_call 13; refine (kpick_any n4 (I.size : Int) _ hn4 hn4' (by omega) (by omega)).mono ?_; rintro r w9 ⟨hr9, hw9⟩; rw [<- hpk2.out] at hr9; subst hr9; subst w9))
   go_ret
   exact ⟨rfl, HB1.out.trans ((HBF.out.trans (hb11.mono HBF.out.size)).mono hz1)⟩
 ·have hX : X.size <= maxLen /\ True := ⟨by rw [hXe, strOf_size, hWin.len]; have := HWS.out.len; unfold maxLen; omega, trivial⟩
  have HLX : Hid (Rf.loadS S0 (Rf.bs X) = (false, S0)) := by
   unfold Hid
   rw [hXe, bs_strOf]
   exact Rf.load_no (Rf.not_turn hWin (fun e => hc (by rw [hXe, e, hI.out])))
  rw [decide_eq_false hc] at hcm
  clear hc hXe hWin
  cases hte : t.toList.isEmpty
  ·have HLT : Hid _ := HLTn.out hte
   go_wp2_with (first
    | (have h9 := hyF; go_at_call 8; refine (psave_in w1.heap.size _ _ y S hyF (TabB.on HT1.out HBF.out) HWS.out.tell HWS.out.left).mono ?_; rintro r w11 ⟨hr11, hb11⟩; rw [<- hI.out] at hr11; subst hr11)
    | (have h9 := hyE; go_at_call 9; refine (pload_in w1.heap.size _ _ y S0 I hIm hyE HBE.out.size (TabB.on HT1.out HBE.out)).mono ?_; rintro r w10 ⟨hrw10, hDw10⟩; rw [HLI.out] at hrw10 hDw10; subst hrw10; have hyF := hDw10.1; have HBF : Hid (Below w1.heap.size w1 w10) := HBE.out.trans (hDw10.below HBE.out.size))
    | (have h9 := hyD; go_at_call 9; refine (pload_in w1.heap.size _ _ y S0 (I ++ t) htsz hyD HBD.out.size (TabB.on HT1.out HBD.out)).mono ?_; rintro r w8 ⟨hrw8, hDw8⟩; rw [HLT.out] at hrw8 hDw8; subst hrw8; have hyE := hDw8.1; have HBE : Hid (Below w1.heap.size w1 w8) := HBD.out.trans (hDw8.below HBD.out.size))
    | (have h9 := hyC; go_at_call 9; refine (pload_in w1.heap.size _ _ y S0 (I.extract 0 k) hcsz hyC HBC.out.size (TabB.on HT1.out HBC.out)).mono ?_; rintro r w7 ⟨hrw7, hDw7⟩; rw [HLC.out] at hrw7 hDw7; subst hrw7; have hyD := hDw7.1; have HBD : Hid (Below w1.heap.size w1 w7) := HBC.out.trans (hDw7.below HBC.out.size))
    | (have h9 := hyC; go_at_call 13; refine (kpick_any n4 (I.size : Int) _ hn4 hn4' (by omega) (by omega)).mono ?_; rintro r w9 ⟨hr9, hw9⟩; rw [<- hpk2.out] at hr9; subst hr9; subst w9)
    | (have h9 := hyB; go_at_call 9; refine (pload_in w1.heap.size _ _ y S0 X hX.1 hyB HBB.out.size (TabB.on HT1.out HBB.out)).mono ?_; rintro r w6 ⟨hrw6, hDw6⟩; rw [HLX.out] at hrw6 hDw6; subst hrw6; have hyC := hDw6.1; have HBC : Hid (Below w1.heap.size w1 w6) := HBB.out.trans (hDw6.below HBB.out.size)))
   go_ret
   exact ⟨rfl, HB1.out.trans ((HBF.out.trans (hb11.mono HBF.out.size)).mono hz1)⟩
  ·clear HLTn
   go_wp2_with (first
    | (have h9 := hyF; go_at_call 8; refine (psave_in w1.heap.size _ _ y S hyF (TabB.on HT1.out HBF.out) HWS.out.tell HWS.out.left).mono ?_; rintro r w11 ⟨hr11, hb11⟩; rw [<- hI.out] at hr11; subst hr11)
    | (have h9 := hyE; go_at_call 9; refine (pload_in w1.heap.size _ _ y S0 I hIm hyE HBE.out.size (TabB.on HT1.out HBE.out)).mono ?_; rintro r w10 ⟨hrw10, hDw10⟩; rw [HLI.out] at hrw10 hDw10; subst hrw10; have hyF := hDw10.1; have HBF : Hid (Below w1.heap.size w1 w10) := HBE.out.trans (hDw10.below HBE.out.size))
    | (have h9 := hyC; go_at_call 9; refine (pload_in w1.heap.size _ _ y S0 (I.extract 0 k) hcsz hyC HBC.out.size (TabB.on HT1.out HBC.out)).mono ?_; rintro r w7 ⟨hrw7, hDw7⟩; rw [HLC.out] at hrw7 hDw7; subst hrw7; have hyE := hDw7.1; have HBE : Hid (Below w1.heap.size w1 w7) := HBC.out.trans (hDw7.below HBC.out.size))
    | (have h9 := hyC; go_at_call 13; refine (kpick_any n4 (I.size : Int) _ hn4 hn4' (by omega) (by omega)).mono ?_; rintro r w9 ⟨hr9, hw9⟩; rw [<- hpk2.out] at hr9; subst hr9; subst w9)
    | (have h9 := hyB; go_at_call 9; refine (pload_in w1.heap.size _ _ y S0 X hX.1 hyB HBB.out.size (TabB.on HT1.out HBB.out)).mono ?_; rintro r w6 ⟨hrw6, hDw6⟩; rw [HLX.out] at hrw6 hDw6; subst hrw6; have hyC := hDw6.1; have HBC : Hid (Below w1.heap.size w1 w6) := HBB.out.trans (hDw6.below HBB.out.size)))
   go_ret
   exact ⟨rfl, HB1.out.trans ((HBF.out.trans (hb11.mono HBF.out.size)).mono hz1)⟩
end Go.Proofs.YtbiojnljihgpoaaGreatDoor
namespace Go.Proofs.YtbiojnljihgpoaaGreatDoor
open Go.ChangeShapes Go.WideShapes Go.ChangeAt Go.RowKit Go.Deep
def GuardedWalk : Prop := ∀ (W : World) (n0 : Int) (v1 : Value) (l1 : List Rf.MoveV) (n2 : Int) (n3 : Int) (n4 : Int) (s5 : ByteArray), -9223372036854775808 <= n0 -> n0 <= 9223372036854775807 -> MovesAt W v1 l1 -> (∀ x ∈ l1, x.s.size <= maxLen) -> l1.length * 24 <= 140737488355328 -> -9223372036854775808 <= n2 -> n2 <= 9223372036854775807 -> -9223372036854775808 <= n3 -> n3 <= 9223372036854775807 -> -9223372036854775808 <= n4 -> n4 <= 9223372036854775807 -> s5.size <= maxLen -> s5.size <= 140737488355328 -> Lib.TabIs Tryz.prog W "internal/strconv.uint64pow10" .u64 Lib.pow10Tab ->
  Calls Tryz.prog 5 #[.int .i64 n0, v1, .int .i64 n2, .int .i64 n3, .int .i64 n4, .string s5] W fun e W' => e = .returned (.bool true) /\ Below W.heap.size W W'
namespace GuardedC
theorem table {W : World} (h : laidMetH Tryz.prog Rows.guardedRow.laid W) : Lib.TabIs Tryz.prog W "internal/strconv.uint64pow10" .u64 Lib.pow10Tab := by
 have h' : laidMet Tryz.prog Rows.guardedRow.laid W := by
  rw [MakeChecks.laidMetH_plain _ _ _ (by kernel_rfl)] at h
  exact h
 exact Lib.tabIs_of_head Tryz.gTab Tryz.gTabType Tryz.underlying162 Tryz.underlying148 Tryz.cellsU64 Tryz.cellsTab (laidMet.tail (laidMet.tail h'))
section
variable {H : Type} {enc : TypeId × Value -> H}
set_option maxRecDepth 100000 in
theorem contract (hw : GuardedWalk) (W : World) (base : Nat) (args : Array Value) (ds gs : List (DataW H)) (before : List MemPlace)
  (hval : ∀ (j : Nat) t v, Tryz.f5.params[j]? = some t -> args[j]? = some v -> Value.okWide Tryz.prog W .any base t v)
  (hW : DataW.Whole enc Tryz.prog Tryz.f5.params.toList Rows.guardedSpec.vars false W args.toList ds gs before)
  (hsz : (DataW.weightsEach Tryz.prog (Tryz.f5.params.toList ++ (OpenSpec.ofChange Rows.guardedSpec).bare.plain.varTypes Tryz.prog) (ds ++ gs)).all (· <= reachBytes) = true)
  (hL : laidMetH Tryz.prog Rows.guardedRow.laid W) :
  Calls Tryz.prog 5 args W fun e W' => ∃ v, e = .returned v /\ Rows.guardedSpec.post enc Tryz.prog Tryz.f5 false true false false W args v W' := by
 have hW' := hW
 obtain ⟨p, q, hA0, hV, rfl, hfz, hnd⟩ := hW
 have hA : DataW.TrodAll enc Tryz.prog W 0 (fun _ => true) true Tryz.f5.params.toList args.toList ds p := hA0
 rw [Tryz.params5] at hA hval hsz
 obtain ⟨v0, vs0, d0, ds0, p0, q0, hargs, rfl, rfl, h0, r0⟩ := trodAll_cons hA
 obtain ⟨v1, vs1, d1, ds1, p1, q1, rfl, rfl, rfl, h1, r1⟩ := trodAll_cons r0
 obtain ⟨v2, vs2, d2, ds2, p2, q2, rfl, rfl, rfl, h2, r2⟩ := trodAll_cons r1
 obtain ⟨v3, vs3, d3, ds3, p3, q3, rfl, rfl, rfl, h3, r3⟩ := trodAll_cons r2
 obtain ⟨v4, vs4, d4, ds4, p4, q4, rfl, rfl, rfl, h4, r4⟩ := trodAll_cons r3
 obtain ⟨v5, vs5, d5, ds5, p5, q5, rfl, rfl, rfl, h5, r5⟩ := trodAll_cons r4
 obtain ⟨rfl, rfl, rfl⟩ := trodAll_nil r5
 obtain rfl : args = #[v0, v1, v2, v3, v4, v5] := by cases args; simp_all
 obtain ⟨rfl, rfl⟩ := trodVars_none hV
 clear hA0
 have hv0 := hval 0 3 v0 rfl rfl
 obtain ⟨n0, rfl, rfl, rfl, hwf0⟩ := open_int Tryz.underlying3 hv0 h0
 have hn0 := i64_wf hwf0
 obtain ⟨l1, hS1, hok1, hn1⟩ := open_moves h1 (okWide_slice Tryz.underlying22 (hval 1 22 v1 rfl rfl)) (fun elems spare e => by
  subst e
  have := sized_slice hsz (j := 1) (t := 22) (e := 65) rfl rfl Tryz.underlying22
  rw [Tryz.bytesMove] at this
  exact this)
 have hv2 := hval 2 3 v2 rfl rfl
 obtain ⟨n2, rfl, rfl, rfl, hwf2⟩ := open_int Tryz.underlying3 hv2 h2
 have hn2 := i64_wf hwf2
 have hv3 := hval 3 3 v3 rfl rfl
 obtain ⟨n3, rfl, rfl, rfl, hwf3⟩ := open_int Tryz.underlying3 hv3 h3
 have hn3 := i64_wf hwf3
 have hv4 := hval 4 3 v4 rfl rfl
 obtain ⟨n4, rfl, rfl, rfl, hwf4⟩ := open_int Tryz.underlying3 hv4 h4
 have hn4 := i64_wf hwf4
 have hv5 := hval 5 9 v5 rfl rfl
 obtain ⟨s5, rfl, rfl, rfl, hs5⟩ := open_str Tryz.underlying9 hv5 h5
 have hz5 : s5.size <= 140737488355328 := by
  have h9 := sized_string hsz (j := 5) (t := 9) rfl rfl
  have e9 : s5.data.toList.length = s5.size := by simp
  unfold reachBytes at h9
  omega
 refine (hw W n0 v1 l1 n2 n3 n4 s5 hn0.1 hn0.2 hS1 hok1 hn1 hn2.1 hn2.2 hn3.1 hn3.2 hn4.1 hn4.2 hs5 hz5 (table hL)).mono fun e W' ⟨he, hB⟩ => ?_
 subst he
 have hlt : ∀ x ∈ ([] : List MemPlace) ++ (p1 ++ (([] : List MemPlace) ++ (([] : List MemPlace) ++ (([] : List MemPlace) ++ (([] : List MemPlace) ++ []))))) ++ [], x.block < W.heap.size := fun x hx => hW'.lt x hx
 refine ⟨_, rfl, [.lit (.int .i64 n0), d1, .lit (.int .i64 n2), .lit (.int .i64 n3), .lit (.int .i64 n4), .lit (.string s5.data.toList)], [], _, [], ([] : List MemPlace) ++ (p1 ++ (([] : List MemPlace) ++ (([] : List MemPlace) ++ (([] : List MemPlace) ++ (([] : List MemPlace) ++ []))))), [], hW', ?_, ?_, ?_, hB.frame _, fun h => by cases h⟩
 ·exact trodAll_cons_mk (shut_bool Tryz.underlying4 true) trodAll_mk0
 ·exact (trodAll_cons_mk (again (of_decide_eq_true (by kernel_rfl)) h0 hB (fun x hx => by simp at hx)) (trodAll_cons_mk (again (of_decide_eq_true (by kernel_rfl)) h1 hB (fun x hx => hlt x (by simp [hx]))) (trodAll_cons_mk (again (of_decide_eq_true (by kernel_rfl)) h2 hB (fun x hx => by simp at hx)) (trodAll_cons_mk (again (of_decide_eq_true (by kernel_rfl)) h3 hB (fun x hx => by simp at hx)) (trodAll_cons_mk (again (of_decide_eq_true (by kernel_rfl)) h4 hB (fun x hx => by simp at hx)) (trodAll_cons_mk (again (of_decide_eq_true (by kernel_rfl)) h5 hB (fun x hx => by simp at hx)) trodAll_mk0))))))
 ·rfl
end
theorem laid_met (os : Os) : laidMet Tryz.prog Rows.guardedRow.laid ((World.doorLaid Tryz.prog 400 os).forCall (fun _ _ => 0) ⟨#[], #[.int .i64 0, .slice none 0 0, .int .i64 0, .int .i64 0, .int .i64 0, .string ⟨#[]⟩], []⟩).memory :=
 laidMet_of_run' 8 (by kernel_rfl) (by kernel_rfl)
theorem reads (os : Os) {H : Type} (enc : TypeId × Value -> H) : ∃ places, DataW.whole enc Tryz.prog ((World.doorLaid Tryz.prog 400 os).forCall (fun _ _ => 0) ⟨#[], #[.int .i64 0, .slice none 0 0, .int .i64 0, .int .i64 0, .int .i64 0, .string ⟨#[]⟩], []⟩).memory Tryz.f5.params.toList Rows.guardedSpec.vars false #[Value.int .i64 0, .slice none 0 0, .int .i64 0, .int .i64 0, .int .i64 0, .string ⟨#[]⟩].toList 8 = some ([.lit (.int .i64 0), .nil, .lit (.int .i64 0), .lit (.int .i64 0), .lit (.int .i64 0), .lit (.string [])], [], places) :=
 ⟨[], by kernel_rfl⟩
set_option maxRecDepth 100000 in
theorem lifted (hw : GuardedWalk) (os : Os) (started : os.Started) (H : Type) (enc : TypeId × Value -> H) (F : Stop.Interp) :
  ReturnsInHanded {} Tryz.checked os 5 .any ((OpenSpec.ofChange Rows.guardedSpec).preRow enc Tryz.prog Tryz.f5 Rows.guardedRow.domain false Rows.guardedRow.laid) (((OpenSpec.ofChange Rows.guardedSpec).at F).post enc Tryz.prog Tryz.f5 false true false false) := by
 obtain ⟨places, hx⟩ := reads os enc
 refine returnsInHanded_of_row (C := Tryz.checked) (s := OpenSpec.ofChange Rows.guardedSpec) Tryz.own started (by kernel_rfl) Tryz.func5
  (witness_row_atRef (enc := enc) (C := Tryz.checked) false (World.doorLaid Tryz.prog 400 os) #[.int .i64 0, .slice none 0 0, .int .i64 0, .int .i64 0, .int .i64 0, .string ⟨#[]⟩] rfl (by kernel_rfl) (by kernel_rfl) (by kernel_rfl)
   (OpenSpec.preRow_of_cond 8 hx (by kernel_rfl) (fun k hk => by cases hk) (by kernel_rfl) (laid_met os))) ?_
 intro W base args ds gs before hval hW _ _ hsz hL _ _
 exact contract hw W base args ds gs before hval hW hsz hL
theorem said (hw : GuardedWalk) : Rows.GuardedSaid :=
 OpenClaim.holds_of_cond 5 Tryz.f5 rfl rfl rfl rfl rfl rfl rfl ⟨rfl, rfl, rfl, rfl, rfl⟩ rfl rfl rfl rfl rfl (by kernel_rfl) Tryz.func5 (by kernel_rfl)
  (of_decide_eq_true (by kernel_rfl)) (by unfold Func.isWrapper; first | (rw [if_pos (by decide +kernel)]; kernel_rfl) | (rw [if_neg (by decide +kernel)]; exact ⟨rfl, rfl⟩))
  (fun os started H enc _ F => by rw [OpenClaim.pre_eq_preRow]; exact lifted hw os started H enc F)
theorem plain (f : FuncId) (fn : Func) (hf : Tryz.pinned.checked.prog.funcNamed "prompt/promptkeep.Guarded" = some f) (hfn : Tryz.pinned.checked.prog.funcs[f]? = some fn) :
  false = Tryz.pinned.checked.prog.looks [] /\ ∀ (j : Nat) t, fn.params[j]? = some t -> Tryz.pinned.checked.prog.wantsStandIn t = false := by
 obtain rfl : f = 5 := Option.some.inj ((show Tryz.prog.funcNamed "prompt/promptkeep.Guarded" = some 5 by kernel_rfl).symm.trans hf) |>.symm
 obtain rfl : fn = Tryz.f5 := (Option.some.inj (Tryz.func5.symm.trans hfn)).symm
 refine ⟨by kernel_rfl, fun j t ht => ?_⟩
 rw [Tryz.params5] at ht
 have hm := Array.mem_of_getElem? ht
 have hm2 : t ∈ ([3, 22, 3, 3, 3, 9] : List TypeId) := by simpa using hm
 have key : ∀ t ∈ ([3, 22, 3, 3, 3, 9] : List TypeId), Tryz.prog.wantsStandIn t = false := fun t h => by
  simp only [List.mem_cons, List.not_mem_nil, or_false] at h
  rcases h with rfl | rfl | rfl | rfl | rfl | rfl <;> kernel_rfl
 exact key t hm2
theorem card_of (hw : GuardedWalk) : Rows.GuardedCardSaid :=
 Claim7.holds_tied_plain_at .later [] _ _ _ _ (said hw) (fun _ h => by cases h) (by kernel_rfl) (fun _ h => by cases h) guarded_row_tie rfl ⟨rfl, rfl⟩ (by kernel_rfl) rfl plain (by kernel_rfl)
end GuardedC
end Go.Proofs.YtbiojnljihgpoaaGreatDoor
