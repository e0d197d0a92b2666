/- Facts: what is asked of facts comes in their order; then No, then Idle. -/
import Derived.Test.YtpdikdnffehmkaaGreatDoorYaw
import Derived.Deep.CutRange
import Derived.Deep.RegionHeld2
import Derived.Test.YtpdikdnffehmkaaGreatDoorCards
import Derived.Test.YtpdikdnffehmkaaGreatDoorTie
namespace Go.Proofs.YtpdikdnffehmkaaGreatDoor
open Go.RowKit
theorem tab_new {w : World} (h : Tab w) : TabB w.heap.size w := Lib.tabBelow_of_tabIs h
def pxB : ByteArray := ⟨#[112, 40, 88, 41, 46]⟩
def xeB : ByteArray := ⟨#[88, 32, 61, 32]⟩
theorem rep_some (cs : List ByteArray) (k : Nat) (c : ByteArray) (h : cs[k]? = some c) : Rf.FactsL.rep cs k = ⟨1, xeB ++ c, 0, 0⟩ := by
  unfold Rf.FactsL.rep
  rw [h]
  rfl
theorem rep_end (cs : List ByteArray) : Rf.FactsL.rep cs cs.length = ⟨2, ⟨#[]⟩, 0, 0⟩ := by
  unfold Rf.FactsL.rep
  rw [List.getElem?_eq_none (Nat.le_refl _)]
  rfl
set_option maxHeartbeats 1000000 in
set_option maxRecDepth 100000 in
theorem facts_none (W : World) (a : Option Addr) (c : Nat) (hT : Tab W) :
    Calls Tryz.prog 4 #[.slice a 0 c] W fun r w' => r = .returned (.bool true) ∧ Below W.heap.size W w' := by
  have HI : Hid (IntsAt W (.slice a 0 c) []) := .inl ⟨rfl, a, c, rfl⟩
  have HT : Hid (Tab W) := hT
  have hA : Hid _ := Rf.FactsL.ask_none none
  clear hT
  go_enter Tryz.func4, Tryz.ntmps4
  go_wp2_with (first
    | (go_at_call 15; refine (kfacts_any Rf.pB a 0 c [] 30 _ HI.out (by simp) (by simp) (by decide) (by omega) HT.out).mono ?_; rintro r w1 ⟨a1, c1, rfl, hn1, hb1⟩; have HT1 : Hid _ := tab_new (Tab.below HT.out hb1))
    | (go_at_call 16; refine (kbegun_any w1.heap.size 1 _ _ w1 (by omega) (by omega) (by decide) (Rf.read_facts [] (by simp)) (by decide) (Nat.le_refl _)).mono ?_; rintro r w2 ⟨x, rfl, hS2, hb2⟩)
    | (go_at_call 17; refine (pask_in w1.heap.size _ w2 x _ pxB (by decide) hS2 hb2.size (HT1.out.on hb2)).mono ?_; rintro r w3 ⟨hr3, hD3⟩; have hA' := hA.out; rw [show pxB = ⟨#[112, 40, 88, 41, 46]⟩ from rfl] at hr3 hD3; erw [hA'] at hr3 hD3; subst hr3; simp only [repV, Rf.repK])
    | (go_at_call 18; refine (konly_any 12 _).mono ?_; rintro r w4 ⟨rfl, hb4⟩))
  go_ret
  refine ⟨rfl, ?_⟩
  have hz1 := hb1.size
  have hz2 := hb2.size
  have hb3 := hD3.below hb2.size
  have hz3 := hb3.size
  exact (((hb1.trans (hb2.mono hz1)).trans (hb3.mono hz1)).alloc (by omega) _).trans (hb4.mono (by rw [World.size_alloc]; omega))
theorem callTold (vals : Array Value) (w : World) : (callFunc 19 vals).run Tryz.prog w = .ok (.enter 19 vals) w := by
  simp [callFunc, Tryz.func19, Tryz.f19]
set_option maxHeartbeats 2000000 in
set_option maxRecDepth 100000 in
theorem facts_some (W : World) (a : Option Addr) (n c : Nat) (l : List Int) (hI : IntsAt W (.slice a n c) l) (hx : ∀ x ∈ l, -9223372036854775808 ≤ x ∧ x ≤ 9223372036854775807) (hl : l.length ≤ 9223372036854775807) (hT : Tab W) (hne : 1 ≤ l.length) :
    Calls Tryz.prog 4 #[.slice a n c] W fun r w' => r = .returned (.bool true) ∧ Below W.heap.size W w' := by
  have HI : Hid (IntsAt W (.slice a n c) l) := hI
  have HX : Hid _ := hx
  have HL : Hid (l.length ≤ 9223372036854775807) := hl
  have HT : Hid (Tab W) := hT
  obtain ⟨N, hN⟩ : ∃ N, N = (l.take 30).length := ⟨_, rfl⟩
  have hN1 : 1 ≤ N := by rw [hN, List.length_take]; omega
  have hN30 : N ≤ 30 := by rw [hN, List.length_take]; omega
  obtain ⟨cs, hcs⟩ : ∃ cs, cs = (l.take 30).map Rf.constB := ⟨_, rfl⟩
  have hcl : Hid (cs.length = N) := by unfold Hid; rw [hcs, List.length_map, hN]
  have hc3 : Hid (∀ y ∈ cs, y.size ≤ 3) := fun y hy => by
    rw [hcs] at hy
    obtain ⟨z, _, rfl⟩ := List.mem_map.1 hy
    exact Rf.constB_size z
  have HR : Hid _ := Rf.read_facts (l.take 30) (by rw [← hN]; exact hN30)
  rw [← hcs] at HR
  have hmz : (Rf.factsB Rf.pB (l.take 30)).size ≤ 210 := by
    have := Rf.factsB_size Rf.pB (by decide) (l.take 30)
    rw [← hN] at this; omega
  have hA : Hid (∀ q, Rf.askS ⟨1, Rf.FactsL.cls cs, q⟩ pxB = (Rf.FactsL.rep cs 0, Rf.FactsL.st cs 0)) := fun q => Rf.FactsL.ask_at cs q (by intro e; have := hcl.out; rw [e] at this; simp at this; omega)
  have HN : Hid (N = (l.take 30).length) := hN
  have HC : Hid (cs = (l.take 30).map Rf.constB) := hcs
  clear hI hx hl hT hne hcs hN
  obtain ⟨tx, hTx⟩ : ∃ tx, Hid (Rf.factsB Rf.pB (l.take 30) = tx) := ⟨_, rfl⟩
  rw [hTx.out] at HR hmz
  have hmx : tx.size ≤ maxLen := by unfold maxLen; omega
  clear hmz
  obtain ⟨R0, hR0⟩ : ∃ R0, Hid (Rf.FactsL.rep cs 0 = R0) := ⟨_, rfl⟩
  obtain ⟨rk, rt, rc, rp⟩ := R0
  have hNb : ((N : Int) == 0) = false := beq_eq_false_iff_ne.2 (by omega)
  go_enter Tryz.func4, Tryz.ntmps4
  go_wp2_with (first
    | (go_at_call 15; refine (kfacts_any Rf.pB a n c l 30 _ HI.out HL.out HX.out (by decide) (by omega) HT.out).mono ?_; rintro r w1 ⟨a1, c1, hr1, hn1, hb1⟩; rw [hTx.out, ← HN.out] at hr1; rw [← HC.out, ← HN.out] at hn1; subst hr1; obtain ⟨g1, o1, rfl⟩ := Seen.pos hn1 (by rw [hcl.out]; exact hN1); have HT1 : Hid _ := tab_new (Tab.below HT.out hb1))
    | (go_at_call 16; refine (kbegun_any w1.heap.size 1 tx _ w1 (by omega) (by omega) hmx HR.out (by unfold Rf.FactsL.cls; rw [List.length_map, hcl.out]; exact hN30) (Nat.le_refl _)).mono ?_; rintro r w2 ⟨x, rfl, hS2, hb2⟩)
    | (go_at_call 17; refine (pask_in w1.heap.size _ w2 x _ pxB (by decide) hS2 hb2.size (HT1.out.on hb2)).mono ?_; rintro r w3 ⟨hr3, hD3⟩; rw [hA.out] at hr3 hD3; simp only [hR0.out] at hr3; subst hr3; simp only [repV]))
  have hb3 := hD3.below hb2.size
  have hz2 := hb2.size
  have hz3 := hb3.size
  have HS3 : Hid _ := hD3
  have HN1 : Hid (Seen w1 9 strCells (.slice (some ⟨g1, o1, none⟩) N c1) cs) := hn1
  have HB3 : Hid (Below w1.heap.size w1 w3) := hb2.trans hb3
  have HB1 : Hid _ := hb1
  clear hD3 hb3 hS2 hn1 hb2
  go_loopw [7] (fun iv wr => ∃ k : Nat, k ≤ N ∧ iv = .int .i64 k ∧ RB wr w3.heap.size (Rf.FactsL.rep cs k) ∧ (∃ G, SeIn w1.heap.size G wr x (Rf.FactsL.st cs k) ∧ ¬ G w3.heap.size) ∧ Below w1.heap.size w1 wr) (fun iv _ => N - (intOf iv).toNat)
  case atStart =>
    refine ⟨0, by omega, rfl, ?_, ⟨_, HS3.out.1.below ((Below.refl _ _).alloc (Nat.le_refl _) _), fun e => ?_⟩, HB3.out.alloc (by omega) _⟩
    · rw [hR0.out]; exact blk_new w3 _
    · have := HS3.out.1.hi _ e; omega
  case round =>
    obtain ⟨k, hk, rfl, hRB, ⟨G, hS, hG⟩, hbr⟩ := hrel
    have hsz := hbr.size
    by_cases hlt : k < N
    · obtain ⟨c9, hc9⟩ : ∃ c9, Hid (cs[k]? = some c9) := ⟨cs[k]'(by rw [hcl.out]; exact hlt), List.getElem?_eq_getElem _⟩
      rw [rep_some cs k c9 hc9.out] at hRB
      have hcell := Seen.strAt (HN1.out.below hbr) k c9 hc9.out
      have hgl := HN1.out.lt
      have hz9 := hc3.out c9 (List.mem_of_getElem? hc9.out)
      have hz10 : ¬ 9223372036854775807 < 4 + c9.size := by omega
      clear hz9
      have s0 := blk_cell hRB 0
      have s1 := blk_cell hRB 1
      have s2 := blk_cell hRB 2
      have s3 := blk_cell hRB 3
      have sf := blk_frozen hRB
      have sl := blk_lt hRB
      simp at s0 s1 s2 s3
      have HRB : Hid _ := hRB
      have HS : Hid _ := hS
      have HBR : Hid _ := hbr
      have HTr : Hid (TabB w1.heap.size wr) := TabB.on HT1.out hbr
      have hlt' : (k : Int) < N := by omega
      clear hRB hS hbr
      go_upto_region 11 with fail
      go_cut [8] from 27 to 43 (fun b wx => b = .bool true ∧ Below wr.heap.size wr wx)
      case first =>
        go_region_law (refine step_call2 rfl 19 (.tmp 33) (.tmp 38) _ rfl (.agg #[.int .i64 1, .string (xeB ++ c9), .int .i64 0, .int .i64 0]) (.string (xeB ++ c9)) rfl rfl (fun _ => callTold _ _) (ktold_any _ _) ?_; rintro r w5 ⟨rfl, hb5⟩; refine ⟨_, rfl, ?_⟩)
        all_goals
          go_wp2_with fail
          go_meet
          exact ⟨rfl, ((Below.refl _ _).drew).trans hb5⟩
      case rest =>
        obtain ⟨rfl, hbx⟩ := hcut
        have hzx := hbx.size
        have HM : Hid _ := Rf.FactsL.more_at cs k (by rw [hcl.out]; exact hlt)
        have HRx : Hid (RB wc w3.heap.size ⟨1, xeB ++ c9, 0, 0⟩) := (hbx.block _ sl).trans HRB.out
        have HBx : Hid (Below w1.heap.size w1 wc) := HBR.out.trans (hbx.mono hsz)
        have HSx : Hid _ := HS.out.below hbx
        have HTx : Hid (TabB w1.heap.size wc) := TabB.on HTr.out (hbx.mono hsz)
        have hzw : w1.heap.size ≤ wc.heap.size := by omega
        obtain ⟨⟨rk5, rt5, rc5, rp5⟩, hR5⟩ : ∃ R5, Hid (Rf.FactsL.rep cs (k + 1) = R5) := ⟨_, rfl⟩
        clear s0 s1 s2 s3 sf hcell hbx
        go_wp2_with (go_at_call 20; refine (pmore_in w1.heap.size G wc x _ HSx.out hzw HTx.out).mono ?_; rintro r w5 ⟨hr5, hD5⟩; rw [HM.out] at hr5 hD5; simp only [hR5.out] at hr5; subst hr5; simp only [repV]; have hRB5 := hD5.rb HRx.out; have s0 := blk_cell hRB5 0; have s1 := blk_cell hRB5 1; have s2 := blk_cell hRB5 2; have s3 := blk_cell hRB5 3; have sf := blk_frozen hRB5; have sl5 := blk_lt hRB5; simp at s0 s1 s2 s3)
        have hz5 := hD5.size
        have hB5 : Below w1.heap.size w1 w5 := HBx.out.trans (hD5.below hzw)
        go_roundw
        case rel =>
          refine ⟨k + 1, by omega, by go_num, ?_, ⟨_, hD5.1.set hRB5 (fun e => ?_) _ _ _ _, fun e => ?_⟩, ?_⟩
          · rw [hR5.out]; exact rb_set (R := ⟨1, xeB ++ c9, 0, 0⟩) hRB5 ⟨rk5, rt5, rc5, rp5⟩
          · rcases e with e | e
            · exact hG e
            · omega
          · rcases e with e | e
            · exact hG e
            · omega
          · exact hB5.trans ((kept4 _ _ _ _ _ _).below (by omega) (fun k hk e => by omega))
        case measure => simp [intOf]; omega
    · obtain rfl : k = N := by omega
      have hrep : Rf.FactsL.rep cs k = ⟨2, ⟨#[]⟩, 0, 0⟩ := by
        have h9 := rep_end cs
        rw [hcl.out] at h9
        exact h9
      rw [hrep] at hRB
      have s0 := blk_cell hRB 0
      have s1 := blk_cell hRB 1
      have s2 := blk_cell hRB 2
      have s3 := blk_cell hRB 3
      have sf := blk_frozen hRB
      have sl := blk_lt hRB
      simp at s0 s1 s2 s3
      have HRB : Hid _ := hRB
      have HS : Hid _ := hS
      have HBR : Hid _ := hbr
      have HTr : Hid (TabB w1.heap.size wr) := TabB.on HT1.out hbr
      have HM : Hid (Rf.moreS (Rf.FactsL.st cs k) = (Rf.repK 3, Rf.FactsL.st cs k)) := by
        have h9 := Rf.FactsL.more_end cs
        rw [hcl.out] at h9
        exact h9
      clear hrep hRB hS hbr
      go_wp2_with (first
        | (go_at_call 18; have h9 := hD5; refine (konly_any 3 _).mono ?_; rintro r w6 ⟨rfl, hb6⟩)
        | (go_at_call 18; refine (konly_any 2 _).mono ?_; rintro r w4 ⟨rfl, hb4⟩; have hz4 := hb4.size; have HR4 : Hid (RB w4 w3.heap.size ⟨2, ⟨#[]⟩, 0, 0⟩) := (hb4.block _ sl).trans HRB.out)
        | (go_at_call 20; refine (pmore_in w1.heap.size G w4 x _ (HS.out.below hb4) (by omega) (TabB.on HTr.out (hb4.mono hsz))).mono ?_; rintro r w5 ⟨hr5, hD5⟩; rw [HM.out] at hr5 hD5; subst hr5; simp only [repV, Rf.repK]; have hRB5 := hD5.rb HR4.out; have t0 := blk_cell hRB5 0; have t1 := blk_cell hRB5 1; have t2 := blk_cell hRB5 2; have t3 := blk_cell hRB5 3; have tf := blk_frozen hRB5; have tl5 := blk_lt hRB5; simp at t0 t1 t2 t3))
      go_ret
      refine ⟨rfl, ?_⟩
      have hz5 := hD5.size
      have hB5 : Below w1.heap.size w1 w5 := (HBR.out.trans (hb4.mono hsz)).trans (hD5.below (by omega))
      have hB5' := hB5.trans ((kept4 w5 w3.heap.size (.int .i64 3) (.string ⟨#[]⟩) (.int .i64 0) (.int .i64 0)).below (by omega) (fun k hk e => by omega))
      have hz6 := hB5'.size
      exact HB1.out.trans ((hB5'.trans (hb6.mono hz6)).mono HB1.out.size)
end Go.Proofs.YtpdikdnffehmkaaGreatDoor
/- The given card of Facts, out of its walk. -/
namespace Go.Proofs.YtpdikdnffehmkaaGreatDoor
open Go.ChangeShapes Go.WideShapes Go.ChangeAt Go.RowKit Go.Deep
/-- What the walk has to give. -/
def FactsWalk : Prop := ∀ (W : World) (v : Value) (l : List Int), IntsAt W v l → (∀ x ∈ l, -9223372036854775808 ≤ x ∧ x ≤ 9223372036854775807) → l.length * 8 ≤ 140737488355328 → Lib.TabIs Tryz.prog W "internal/strconv.uint64pow10" .u64 Lib.pow10Tab →
    Calls Tryz.prog 4 #[v] W fun e W' => e = .returned (.bool true) ∧ Below W.heap.size W W'
namespace FactsC
theorem table {W : World} (h : laidMetH Tryz.prog Rows.factsRow.laid W) : Lib.TabIs Tryz.prog W "internal/strconv.uint64pow10" .u64 Lib.pow10Tab := by
  have h' : laidMet Tryz.prog Rows.factsRow.laid W := by
    rw [MakeChecks.laidMetH_plain _ _ _ (by kernel_rfl)] at h
    exact h
  exact Lib.tabIs_of_head Tryz.gTab Tryz.gTabType Tryz.underlying239 Tryz.underlying198 Tryz.cellsU64 Tryz.cellsTab (laidMet.tail (laidMet.tail h'))
section
variable {H : Type} {enc : TypeId × Value → H}
set_option maxRecDepth 100000 in
/-- What the walk gives, for every argument and every world that holds the table. -/
theorem contract (hw : FactsWalk) (W : World) (base : Nat) (args : Array Value) (ds gs : List (DataW H)) (before : List MemPlace)
    (hval : ∀ (j : Nat) t v, Tryz.f4.params[j]? = some t → args[j]? = some v → Value.okWide Tryz.prog W .any base t v)
    (hW : DataW.Whole enc Tryz.prog Tryz.f4.params.toList Rows.factsSpec.vars false W args.toList ds gs before)
    (hsz : (DataW.weightsEach Tryz.prog (Tryz.f4.params.toList ++ (OpenSpec.ofChange Rows.factsSpec).bare.plain.varTypes Tryz.prog) (ds ++ gs)).all (· ≤ reachBytes) = true)
    (hL : laidMetH Tryz.prog Rows.factsRow.laid W) :
    Calls Tryz.prog 4 args W fun e W' => ∃ v, e = .returned v ∧ Rows.factsSpec.post enc Tryz.prog Tryz.f4 false true false false W args v W' := by
  have hW' := hW
  obtain ⟨p, q, hA0, hV, rfl, hfz, hnd⟩ := hW
  have hA : DataW.TrodAll enc Tryz.prog W 0 (fun _ => true) true Tryz.f4.params.toList args.toList ds p := hA0
  rw [Tryz.params4] at hA hval hsz
  obtain ⟨v0, vs0, d0, ds0, p0, q0, hargs, rfl, rfl, h0, r0⟩ := trodAll_cons hA
  obtain ⟨rfl, rfl, rfl⟩ := trodAll_nil r0
  obtain rfl : args = #[v0] := by cases args; simp_all
  obtain ⟨rfl, rfl⟩ := trodVars_none hV
  clear hA0
  obtain ⟨l, hS, hok, hn⟩ := open_ints h0 (okWide_slice Tryz.underlying24 (hval 0 24 v0 rfl rfl)) (fun elems spare e => by
    subst e
    have := sized_slice hsz (j := 0) (t := 24) (e := 3) rfl rfl Tryz.underlying24
    rw [Tryz.bytesInt] at this
    exact this)
  refine (hw W v0 l hS hok hn (table hL)).mono fun e W' ⟨he, hB⟩ => ?_
  subst he
  have hlt : ∀ x ∈ p0 ++ [] ++ [], x.block < W.heap.size := fun x hx => hW'.lt x hx
  refine ⟨_, rfl, [d0], [], _, [], p0, [], hW', ?_, ?_, ?_, hB.frame _, fun h => by cases h⟩
  · exact trodAll_cons_mk (shut_bool Tryz.underlying4 true) trodAll_mk0
  · have h11 := trodAll_cons_mk (again (of_decide_eq_true (by kernel_rfl)) h0 hB (fun x hx => hlt x (by simp [hx]))) trodAll_mk0
    rw [List.append_nil] at h11
    exact h11
  · rfl
end
theorem laid_met (os : Os) : laidMet Tryz.prog Rows.factsRow.laid ((World.doorLaid Tryz.prog 400 os).forCall (fun _ _ => 0) ⟨#[], #[.slice none 0 0], []⟩).memory :=
  laidMet_of_run' 8 (by kernel_rfl) (by kernel_rfl)
theorem reads (os : Os) {H : Type} (enc : TypeId × Value → H) : ∃ places, DataW.whole enc Tryz.prog ((World.doorLaid Tryz.prog 400 os).forCall (fun _ _ => 0) ⟨#[], #[.slice none 0 0], []⟩).memory Tryz.f4.params.toList Rows.factsSpec.vars false #[Value.slice none 0 0].toList 8 = some ([.nil], [], places) :=
  ⟨[], by kernel_rfl⟩
set_option maxRecDepth 100000 in
theorem lifted (hw : FactsWalk) (os : Os) (started : os.Started) (H : Type) (enc : TypeId × Value → H) (F : Stop.Interp) :
    ReturnsInHanded {} Tryz.checked os 4 .any ((OpenSpec.ofChange Rows.factsSpec).preRow enc Tryz.prog Tryz.f4 Rows.factsRow.domain false Rows.factsRow.laid) (((OpenSpec.ofChange Rows.factsSpec).at F).post enc Tryz.prog Tryz.f4 false true false false) := by
  obtain ⟨places, hx⟩ := reads os enc
  refine returnsInHanded_of_row (C := Tryz.checked) (s := OpenSpec.ofChange Rows.factsSpec) Tryz.own started (by kernel_rfl) Tryz.func4
    (witness_row_atRef (enc := enc) (C := Tryz.checked) false (World.doorLaid Tryz.prog 400 os) #[.slice none 0 0] rfl (by kernel_rfl) (by kernel_rfl) (by kernel_rfl)
      (OpenSpec.preRow_of_cond 8 hx (by kernel_rfl) (fun k hk => by cases hk) (by kernel_rfl) (laid_met os))) ?_
  intro W base args ds gs before hval hW _ _ hsz hL _ _
  exact contract hw W base args ds gs before hval hW hsz hL
theorem said (hw : FactsWalk) : Rows.FactsSaid :=
  OpenClaim.holds_of_cond 4 Tryz.f4 rfl rfl rfl rfl rfl rfl rfl ⟨rfl, rfl, rfl, rfl, rfl⟩ rfl rfl rfl rfl rfl (by kernel_rfl) Tryz.func4 (by kernel_rfl)
    (of_decide_eq_true (by kernel_rfl)) (by unfold Func.isWrapper; first | (rw [if_pos (by decide +kernel)]; kernel_rfl) | (rw [if_neg (by decide +kernel)]; exact ⟨rfl, rfl⟩))
    (fun os started H enc _ F => by rw [OpenClaim.pre_eq_preRow]; exact lifted hw os started H enc F)
theorem plain (f : FuncId) (fn : Func) (hf : Tryz.pinned.checked.prog.funcNamed "prompt/promptkeep.Facts" = some f) (hfn : Tryz.pinned.checked.prog.funcs[f]? = some fn) :
    true = Tryz.pinned.checked.prog.looks [] ∧ ∀ (j : Nat) t, fn.params[j]? = some t → Tryz.pinned.checked.prog.wantsStandIn t = false := by
  obtain rfl : f = 4 := Option.some.inj ((show Tryz.prog.funcNamed "prompt/promptkeep.Facts" = some 4 by kernel_rfl).symm.trans hf) |>.symm
  obtain rfl : fn = Tryz.f4 := (Option.some.inj (Tryz.func4.symm.trans hfn)).symm
  refine ⟨by kernel_rfl, fun j t ht => ?_⟩
  rw [Tryz.params4] at ht
  obtain rfl : t = 24 := by simpa using Array.mem_of_getElem? ht
  exact (show Tryz.prog.wantsStandIn 24 = false by kernel_rfl)
theorem card_of (hw : FactsWalk) : Rows.FactsCardSaid :=
  Claim7.holds_tied_plain_at .later [] _ _ _ _ (said hw) (fun _ h => by cases h) (by kernel_rfl) (fun _ h => by cases h) facts_row_tie rfl ⟨rfl, rfl⟩ (by kernel_rfl) rfl plain (by kernel_rfl)
end FactsC
end Go.Proofs.YtpdikdnffehmkaaGreatDoor
