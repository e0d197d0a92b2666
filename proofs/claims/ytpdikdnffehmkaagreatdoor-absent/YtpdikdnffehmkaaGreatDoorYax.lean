/- Absent: not is met just if what it asks has no answer, walked. -/
import Derived.Test.YtpdikdnffehmkaaGreatDoorYaw
import Derived.Deep.CutRange
import Derived.Deep.RegionHeld2
import Derived.Deep.RegionWith
import Derived.Test.YtpdikdnffehmkaaGreatDoorCards
import Derived.Test.YtpdikdnffehmkaaGreatDoorTie
namespace Go.Proofs.YtpdikdnffehmkaaGreatDoor
open Go.RowKit
namespace AbsentW
def freeR : ByteArray := ⟨#[88, 32, 61, 32, 95, 49]⟩
theorem tab_new {w : World} (h : Tab w) : TabB w.heap.size w := Lib.tabBelow_of_tabIs h
def inK (cs : List ByteArray) (c : ByteArray) : Nat → Bool
  | 0 => false
  | k + 1 => inK cs c k || ((cs.getD k ⟨#[]⟩).toList == c.toList)
theorem inK_iff (cs : List ByteArray) (c : ByteArray) : ∀ k, k ≤ cs.length → (inK cs c k = true ↔ c ∈ cs.take k)
  | 0, _ => by simp [inK]
  | k + 1, h => by
    have ih := inK_iff cs c k (by omega)
    have hk : k < cs.length := by omega
    have hget : cs.getD k ⟨#[]⟩ = cs[k] := by rw [List.getD_eq_getElem?_getD, List.getElem?_eq_getElem hk]; rfl
    rw [inK, hget, List.take_succ_eq_append_getElem hk, List.mem_append, Bool.or_eq_true, ih, beq_toList, decide_eq_true_eq, List.mem_singleton]
    exact ⟨fun e => e.imp id Eq.symm, fun e => e.imp id Eq.symm⟩
set_option maxHeartbeats 2000000 in
set_option maxRecDepth 100000 in
theorem absent_any (W : World) (a : Option Addr) (n c : Nat) (l : List Int) (z : Int) (hI : IntsAt W (.slice a n c) l) (hx : ∀ x ∈ l, -9223372036854775808 ≤ x ∧ x ≤ 9223372036854775807) (hl : l.length ≤ 9223372036854775807) (hz0 : -9223372036854775808 ≤ z) (hz1 : z ≤ 9223372036854775807) (hT : Tab W) :
    Calls Tryz.prog 12 #[.slice a n c, .int .i64 z] W fun r w' => r = .returned (.bool true) ∧ Below W.heap.size W w' := by
  have HI : Hid (IntsAt W (.slice a n c) l) := hI
  have HX : Hid _ := hx
  have HL : Hid (l.length ≤ 9223372036854775807) := hl
  have HT : Hid (Tab W) := hT
  obtain ⟨N, hN⟩ : ∃ N, N = (l.take 20).length := ⟨_, rfl⟩
  have hN20 : N ≤ 20 := by rw [hN, List.length_take]; omega
  obtain ⟨cs, hcs⟩ : ∃ cs, cs = (l.take 20).map Rf.constB := ⟨_, rfl⟩
  have hcl : Hid (cs.length = N) := by unfold Hid; rw [hcs, List.length_map, hN]
  have HR : Hid _ := Rf.read_absent (l.take 20) (by rw [← hN]; exact hN20)
  rw [← hcs] at HR
  have hmz : (Rf.factsB Rf.pB (l.take 20)).size ≤ 140 := by
    have := Rf.factsB_size Rf.pB (by decide) (l.take 20)
    rw [← hN] at this; omega
  have HNone : Hid (Rf.AbsentL.noneB ∉ cs) := by unfold Hid; rw [hcs]; exact Rf.const_none _
  have HN : Hid (N = (l.take 20).length) := hN
  have HC : Hid (cs = (l.take 20).map Rf.constB) := hcs
  obtain ⟨tx, hTx⟩ : ∃ tx, Hid (Rf.factsB Rf.pB (l.take 20) = tx) := ⟨_, rfl⟩
  rw [hTx.out] at HR hmz
  have hmx : (tx ++ Rf.absentB).size ≤ maxLen := by rw [ByteArray.size_append]; have : Rf.absentB.size = 8 := rfl; unfold maxLen; omega
  have HMX : Hid ((tx ++ Rf.absentB).size ≤ maxLen) := hmx
  obtain ⟨d, hd⟩ : ∃ d, Hid (Rf.constB z = d) := ⟨_, rfl⟩
  have hdo : Hid (Rf.NmOk d) := by unfold Hid; rw [← hd.out]; exact Rf.constB_ok z
  have hdl : Hid (d ≠ Rf.AbsentL.lastB) := by unfold Hid; rw [← hd.out]; exact Rf.const_last z
  have hdz : d.size ≤ 3 := by rw [← hd.out]; exact Rf.constB_size z
  clear hI hx hl hT hcs hN hmx
  go_enter Tryz.func12, Tryz.ntmps12
  go_wp2_with (first
    | (go_at_call 15; refine (kfacts_any Rf.pB a n c l 20 _ HI.out HL.out HX.out (by decide) (by omega) HT.out).mono ?_; rintro r w1 ⟨a1, c1, hr1, hn1, hb1⟩; rw [hTx.out, ← HN.out] at hr1; rw [← HC.out, ← HN.out] at hn1; subst hr1)
    | (go_at_call 16; refine (kbegun_any w1.heap.size 9 (tx ++ Rf.absentB) _ w1 (by omega) (by omega) HMX.out HR.out (by unfold Rf.AbsentL.cls; rw [List.length_map, List.length_append, hcl.out]; simp only [List.length_cons, List.length_nil]; omega) (Nat.le_refl _)).mono ?_; rintro r w2 ⟨x, rfl, hS2, hb2⟩))
  have hz1' := hb1.size
  have hz2 := hb2.size
  have HN1 : Hid (Seen w1 9 strCells (.slice a1 N c1) cs) := hn1
  have HB1 : Hid (Below W.heap.size W w1) := hb1
  have HT1 : Hid (TabB w1.heap.size w1) := tab_new (Tab.below HT.out hb1)
  have HS2 : Hid _ := hS2
  have HB2 : Hid (Below w1.heap.size w1 w2) := hb2
  clear hn1 hb1 hb2 hS2
  go_loopw [8, 9] (fun bv iv wr => ∃ k : Nat, k ≤ N ∧ iv = .int .i64 k ∧ bv = .bool (inK cs d k) ∧ Below w2.heap.size w2 wr) (fun _ iv _ => N - (intOf iv).toNat)
  case atStart => exact ⟨0, by omega, rfl, rfl, Below.refl _ _⟩
  case round =>
    obtain ⟨k, hk, rfl, rfl, hbr⟩ := hrel
    have hsz := hbr.size
    have hB1r : Below w1.heap.size w1 wr := HB2.out.trans (hbr.mono hz2)
    by_cases hlt : k < N
    · obtain ⟨g1, o1, rfl⟩ := Seen.pos HN1.out (by rw [hcl.out]; omega)
      have hgl := HN1.out.lt
      obtain ⟨c9, hc9⟩ : ∃ c9, Hid (cs[k]? = some c9) := ⟨cs[k]'(by rw [hcl.out]; exact hlt), List.getElem?_eq_getElem _⟩
      have hq1 := Seen.strAt (HN1.out.below hB1r) k c9 hc9.out
      have hgw : g1 < wr.heap.size := by omega
      have hlt' : (k : Int) < N := by omega
      have Hin : Hid (inK cs d (k + 1) = (inK cs d k || (c9.toList == d.toList))) := by
        unfold Hid
        rw [inK, List.getD_eq_getElem?_getD, hc9.out]; rfl
      have HTr : Hid (TabB w1.heap.size wr) := TabB.on HT1.out hB1r
      have HBR : Hid _ := hbr
      clear hbr hB1r
      cases hin : inK cs d k with
      | true =>
        rw [hin] at Hin
        go_wp2_with fail
        go_quiet (fail)
        go_wp2_with fail
        go_roundw
        case rel => exact ⟨k + 1, by omega, by go_num, by rw [Hin.out]; rfl, HBR.out.trans (((Below.refl _ _).drewN _).mono hsz)⟩
        case measure => simp [intOf]; omega
      | false =>
        rw [hin] at Hin
        go_wp2_with fail
        go_region_with (go_at_call 33; refine (kconst_any z _ hz0 hz1 (TabB.tab (TabB.on HTr.out (by repeat (first | exact Below.refl _ _ | refine Below.setCell ?_ (by simp <;> omega) _ | refine Below.drew ?_ | refine Below.drewN ?_ _ | refine Below.alloc ?_ (by simp <;> omega) _))))).mono ?_; rintro r w5 ⟨hr5, hb5⟩; rw [hd.out] at hr5; subst hr5; have hq5 : w5.cell? ⟨g1, o1 + k, none⟩ = some (.string c9) := (cell_below hb5 (by simp <;> omega)).trans (by simpa using hq1))
        all_goals
          go_wp2_with fail
          go_roundw
          case rel => exact ⟨k + 1, by omega, by go_num, by rw [Hin.out]; rfl, HBR.out.trans ((((Below.refl _ _).drew).trans hb5).mono hsz)⟩
          case measure => simp [intOf]; omega
    · obtain rfl : k = N := by omega
      have z1 : (⟨#[110, 111, 116, 40, 112, 40]⟩ ++ d : ByteArray).size ≤ 9 := by rw [ByteArray.size_append]; have : (⟨#[110, 111, 116, 40, 112, 40]⟩ : ByteArray).size = 6 := rfl; omega
      have HL1 : Hid ((⟨#[110, 111, 116, 40, 112, 40]⟩ ++ d ++ ⟨#[41, 41, 46]⟩ : ByteArray).size ≤ maxLen) := by
        unfold Hid
        rw [ByteArray.size_append]; have : (⟨#[41, 41, 46]⟩ : ByteArray).size = 3 := rfl; unfold maxLen; omega
      cases hin : inK cs d k with
      | true =>
        have HA1 : Hid (∀ q, Rf.askS ⟨9, Rf.AbsentL.cls cs, q⟩ (⟨#[110, 111, 116, 40, 112, 40]⟩ ++ d ++ ⟨#[41, 41, 46]⟩) = (⟨2, ⟨#[]⟩, 0, 0⟩, ⟨9, Rf.AbsentL.cls cs, none⟩)) := fun q => by
          have hm : d ∈ cs := by
            have h9 := (inK_iff cs d k (by rw [hcl.out]; exact Nat.le_refl _)).1 hin
            exact List.mem_of_mem_take h9
          exact Rf.AbsentL.ask_in hdo.out (List.mem_append_left _ hm) q
        have HA2 : Hid (∀ q, (Rf.askS ⟨9, Rf.AbsentL.cls cs, q⟩ Rf.AbsentL.freeT).1 = ⟨1, freeR, 0, 0⟩) := fun q => (Rf.AbsentL.ask_free HNone.out q).trans rfl
        clear hin
        go_wp2_with (first
          | (go_at_call 18; have h9 := hb6; refine (konly_any 2 _).mono ?_; rintro r w7 ⟨rfl, hb7⟩)
          | (go_at_call 19; refine (ktold_any freeR _).mono ?_; rintro r w6 ⟨rfl, hb6⟩; have hz6 := hb6.size; have hRB6 := (hb6.block w4.heap.size (by rw [World.size_alloc]; have := blk_lt hRB5; omega)).trans (blk_alloc hRB5 _); have t0 := blk_cell hRB6 0; have t1 := blk_cell hRB6 1; have t2 := blk_cell hRB6 2; have t3 := blk_cell hRB6 3; have tf := blk_frozen hRB6; have tl := blk_lt hRB6; simp at t0 t1 t2 t3)
          | (go_at_call 17; have h9 := hD4; refine (pask_in w1.heap.size _ _ x _ Rf.AbsentL.freeT (by decide) (hD4.1.below ((Below.refl _ _).alloc (Nat.le_refl _) _)) (by rw [World.size_alloc]; omega) (TabB.on HT1.out (hB4.alloc (by omega) _))).mono ?_; rintro r w5 ⟨hr5, hD5⟩; rw [HA2.out] at hr5; subst hr5; simp only [repV]; have hz5 := hD5.size; rw [World.size_alloc] at hz5; have hRB5 := hD5.rb (blk_new w4 _); have hB5 : Below w1.heap.size w1 w5 := (hB4.alloc (by omega) _).trans (hD5.below (by rw [World.size_alloc]; omega)))
          | (go_at_call 17; refine (pask_in w1.heap.size _ w3 x _ _ HL1.out (HS2.out.below (hbr.trans (hb3.mono hsz))) (by omega) (TabB.on HT1.out (hB1r.trans (hb3.mono (by omega))))).mono ?_; rintro r w4 ⟨hr4, hD4⟩; rw [HA1.out] at hr4 hD4; subst hr4; simp only [repV]; have hz4 := hD4.size; have hB4 : Below w1.heap.size w1 w4 := (hB1r.trans (hb3.mono (by omega))).trans (hD4.below (by omega)))
          | (go_at_call 33; refine (kconst_any z _ hz0 hz1 (TabB.tab (TabB.on HT1.out hB1r))).mono ?_; rintro r w3 ⟨hr3, hb3⟩; rw [hd.out] at hr3; subst hr3; have hz3 := hb3.size))
        go_ret
        refine ⟨rfl, ?_⟩
        have hB6 : Below w1.heap.size w1 w6 := (hB5.alloc (by omega) _).trans (hb6.mono (by rw [World.size_alloc]; omega))
        have hB7 := hB6.trans (hb7.mono hB6.size)
        exact HB1.out.trans (hB7.mono hz1')
      | false =>
        have HA1 : Hid (∀ q, Rf.askS ⟨9, Rf.AbsentL.cls cs, q⟩ (⟨#[110, 111, 116, 40, 112, 40]⟩ ++ d ++ ⟨#[41, 41, 46]⟩) = (⟨1, Rf.yesB, 0, 0⟩, ⟨9, Rf.AbsentL.cls cs, some ⟨[], []⟩⟩)) := fun q => by
          have hm : d ∉ cs := fun e => by
            have h9 := (inK_iff cs d k (by rw [hcl.out]; exact Nat.le_refl _)).2 (by rw [List.take_of_length_le (by rw [hcl.out]; exact Nat.le_refl _)]; exact e)
            rw [hin] at h9; cases h9
          exact Rf.AbsentL.ask_out hdo.out (fun e => by
            rcases List.mem_append.1 e with e | e
            · exact hm e
            · exact hdl.out (List.mem_singleton.1 e)) q
        have HA2 : Hid (∀ q, (Rf.askS ⟨9, Rf.AbsentL.cls cs, q⟩ Rf.AbsentL.freeT).1 = ⟨1, freeR, 0, 0⟩) := fun q => (Rf.AbsentL.ask_free HNone.out q).trans rfl
        clear hin
        go_wp2_with (first
          | (go_at_call 19; have h9 := hb6; refine (ktold_any Rf.yesB _).mono ?_; rintro r w7 ⟨rfl, hb7⟩)
          | (go_at_call 19; refine (ktold_any freeR _).mono ?_; rintro r w6 ⟨rfl, hb6⟩; have hz6 := hb6.size; have hRB6 := (hb6.block w4.heap.size (by rw [World.size_alloc]; have := blk_lt hRB5; omega)).trans (blk_alloc hRB5 _); have t0 := blk_cell hRB6 0; have t1 := blk_cell hRB6 1; have t2 := blk_cell hRB6 2; have t3 := blk_cell hRB6 3; have tf := blk_frozen hRB6; have tl := blk_lt hRB6; simp at t0 t1 t2 t3)
          | (go_at_call 17; have h9 := hD4; refine (pask_in w1.heap.size _ _ x _ Rf.AbsentL.freeT (by decide) (hD4.1.below ((Below.refl _ _).alloc (Nat.le_refl _) _)) (by rw [World.size_alloc]; omega) (TabB.on HT1.out (hB4.alloc (by omega) _))).mono ?_; rintro r w5 ⟨hr5, hD5⟩; rw [HA2.out] at hr5; subst hr5; simp only [repV]; have hz5 := hD5.size; rw [World.size_alloc] at hz5; have hRB5 := hD5.rb (blk_new w4 _); have hB5 : Below w1.heap.size w1 w5 := (hB4.alloc (by omega) _).trans (hD5.below (by rw [World.size_alloc]; omega)))
          | (go_at_call 17; refine (pask_in w1.heap.size _ w3 x _ _ HL1.out (HS2.out.below (hbr.trans (hb3.mono hsz))) (by omega) (TabB.on HT1.out (hB1r.trans (hb3.mono (by omega))))).mono ?_; rintro r w4 ⟨hr4, hD4⟩; rw [HA1.out] at hr4 hD4; subst hr4; simp only [repV]; have hz4 := hD4.size; have hB4 : Below w1.heap.size w1 w4 := (hB1r.trans (hb3.mono (by omega))).trans (hD4.below (by omega)))
          | (go_at_call 33; refine (kconst_any z _ hz0 hz1 (TabB.tab (TabB.on HT1.out hB1r))).mono ?_; rintro r w3 ⟨hr3, hb3⟩; rw [hd.out] at hr3; subst hr3; have hz3 := hb3.size))
        go_ret
        refine ⟨rfl, ?_⟩
        have hB6 : Below w1.heap.size w1 w6 := (hB5.alloc (by omega) _).trans (hb6.mono (by rw [World.size_alloc]; omega))
        have hB7 := hB6.trans (hb7.mono hB6.size)
        exact HB1.out.trans (hB7.mono hz1')
end AbsentW
end Go.Proofs.YtpdikdnffehmkaaGreatDoor
/- The given card of Absent, out of its walk. -/
namespace Go.Proofs.YtpdikdnffehmkaaGreatDoor
open Go.ChangeShapes Go.WideShapes Go.ChangeAt Go.RowKit Go.Deep
/-- What the walk has to give. -/
def AbsentWalk : Prop := ∀ (W : World) (v0 : Value) (l0 : List Int) (n1 : Int), IntsAt W v0 l0 → (∀ x ∈ l0, -9223372036854775808 ≤ x ∧ x ≤ 9223372036854775807) → l0.length * 8 ≤ 140737488355328 → -9223372036854775808 ≤ n1 → n1 ≤ 9223372036854775807 → Lib.TabIs Tryz.prog W "internal/strconv.uint64pow10" .u64 Lib.pow10Tab →
    Calls Tryz.prog 12 #[v0, .int .i64 n1] W fun e W' => e = .returned (.bool true) ∧ Below W.heap.size W W'
namespace AbsentC
theorem table {W : World} (h : laidMetH Tryz.prog Rows.absentRow.laid W) : Lib.TabIs Tryz.prog W "internal/strconv.uint64pow10" .u64 Lib.pow10Tab := by
  have h' : laidMet Tryz.prog Rows.absentRow.laid W := by
    rw [MakeChecks.laidMetH_plain _ _ _ (by kernel_rfl)] at h
    exact h
  exact Lib.tabIs_of_head Tryz.gTab Tryz.gTabType Tryz.underlying239 Tryz.underlying198 Tryz.cellsU64 Tryz.cellsTab (laidMet.tail (laidMet.tail h'))
section
variable {H : Type} {enc : TypeId × Value → H}
set_option maxRecDepth 100000 in
/-- What the walk gives, for every argument and every world that holds the table. -/
theorem contract (hw : AbsentWalk) (W : World) (base : Nat) (args : Array Value) (ds gs : List (DataW H)) (before : List MemPlace)
    (hval : ∀ (j : Nat) t v, Tryz.f12.params[j]? = some t → args[j]? = some v → Value.okWide Tryz.prog W .any base t v)
    (hW : DataW.Whole enc Tryz.prog Tryz.f12.params.toList Rows.absentSpec.vars false W args.toList ds gs before)
    (hsz : (DataW.weightsEach Tryz.prog (Tryz.f12.params.toList ++ (OpenSpec.ofChange Rows.absentSpec).bare.plain.varTypes Tryz.prog) (ds ++ gs)).all (· ≤ reachBytes) = true)
    (hL : laidMetH Tryz.prog Rows.absentRow.laid W) :
    Calls Tryz.prog 12 args W fun e W' => ∃ v, e = .returned v ∧ Rows.absentSpec.post enc Tryz.prog Tryz.f12 false true false false W args v W' := by
  have hW' := hW
  obtain ⟨p, q, hA0, hV, rfl, hfz, hnd⟩ := hW
  have hA : DataW.TrodAll enc Tryz.prog W 0 (fun _ => true) true Tryz.f12.params.toList args.toList ds p := hA0
  rw [Tryz.params12] at hA hval hsz
  obtain ⟨v0, vs0, d0, ds0, p0, q0, hargs, rfl, rfl, h0, r0⟩ := trodAll_cons hA
  obtain ⟨v1, vs1, d1, ds1, p1, q1, rfl, rfl, rfl, h1, r1⟩ := trodAll_cons r0
  obtain ⟨rfl, rfl, rfl⟩ := trodAll_nil r1
  obtain rfl : args = #[v0, v1] := by cases args; simp_all
  obtain ⟨rfl, rfl⟩ := trodVars_none hV
  clear hA0
  obtain ⟨l0, hS0, hok0, hn0⟩ := open_ints h0 (okWide_slice Tryz.underlying24 (hval 0 24 v0 rfl rfl)) (fun elems spare e => by
    subst e
    have := sized_slice hsz (j := 0) (t := 24) (e := 3) rfl rfl Tryz.underlying24
    rw [Tryz.bytesInt] at this
    exact this)
  have hv1 := hval 1 3 v1 rfl rfl
  obtain ⟨n1, rfl, rfl, rfl, hwf1⟩ := open_int Tryz.underlying3 hv1 h1
  have hn1 := i64_wf hwf1
  refine (hw W v0 l0 n1 hS0 hok0 hn0 hn1.1 hn1.2 (table hL)).mono fun e W' ⟨he, hB⟩ => ?_
  subst he
  have hlt : ∀ x ∈ p0 ++ ([] ++ []) ++ [], x.block < W.heap.size := fun x hx => hW'.lt x hx
  refine ⟨_, rfl, [d0, .lit (.int .i64 n1)], [], _, [], p0 ++ ([] ++ []), [], hW', ?_, ?_, ?_, hB.frame _, fun h => by cases h⟩
  · exact trodAll_cons_mk (shut_bool Tryz.underlying4 true) trodAll_mk0
  · exact (trodAll_cons_mk (again (of_decide_eq_true (by kernel_rfl)) h0 hB (fun x hx => hlt x (by simp [hx]))) (trodAll_cons_mk (again (of_decide_eq_true (by kernel_rfl)) h1 hB (fun x hx => by simp at hx)) trodAll_mk0))
  · rfl
end
theorem laid_met (os : Os) : laidMet Tryz.prog Rows.absentRow.laid ((World.doorLaid Tryz.prog 400 os).forCall (fun _ _ => 0) ⟨#[], #[.slice none 0 0, .int .i64 0], []⟩).memory :=
  laidMet_of_run' 8 (by kernel_rfl) (by kernel_rfl)
theorem reads (os : Os) {H : Type} (enc : TypeId × Value → H) : ∃ places, DataW.whole enc Tryz.prog ((World.doorLaid Tryz.prog 400 os).forCall (fun _ _ => 0) ⟨#[], #[.slice none 0 0, .int .i64 0], []⟩).memory Tryz.f12.params.toList Rows.absentSpec.vars false #[Value.slice none 0 0, .int .i64 0].toList 8 = some ([.nil, .lit (.int .i64 0)], [], places) :=
  ⟨[], by kernel_rfl⟩
set_option maxRecDepth 100000 in
theorem lifted (hw : AbsentWalk) (os : Os) (started : os.Started) (H : Type) (enc : TypeId × Value → H) (F : Stop.Interp) :
    ReturnsInHanded {} Tryz.checked os 12 .any ((OpenSpec.ofChange Rows.absentSpec).preRow enc Tryz.prog Tryz.f12 Rows.absentRow.domain false Rows.absentRow.laid) (((OpenSpec.ofChange Rows.absentSpec).at F).post enc Tryz.prog Tryz.f12 false true false false) := by
  obtain ⟨places, hx⟩ := reads os enc
  refine returnsInHanded_of_row (C := Tryz.checked) (s := OpenSpec.ofChange Rows.absentSpec) Tryz.own started (by kernel_rfl) Tryz.func12
    (witness_row_atRef (enc := enc) (C := Tryz.checked) false (World.doorLaid Tryz.prog 400 os) #[.slice none 0 0, .int .i64 0] rfl (by kernel_rfl) (by kernel_rfl) (by kernel_rfl)
      (OpenSpec.preRow_of_cond 8 hx (by kernel_rfl) (fun k hk => by cases hk) (by kernel_rfl) (laid_met os))) ?_
  intro W base args ds gs before hval hW _ _ hsz hL _ _
  exact contract hw W base args ds gs before hval hW hsz hL
theorem said (hw : AbsentWalk) : Rows.AbsentSaid :=
  OpenClaim.holds_of_cond 12 Tryz.f12 rfl rfl rfl rfl rfl rfl rfl ⟨rfl, rfl, rfl, rfl, rfl⟩ rfl rfl rfl rfl rfl (by kernel_rfl) Tryz.func12 (by kernel_rfl)
    (of_decide_eq_true (by kernel_rfl)) (by unfold Func.isWrapper; first | (rw [if_pos (by decide +kernel)]; kernel_rfl) | (rw [if_neg (by decide +kernel)]; exact ⟨rfl, rfl⟩))
    (fun os started H enc _ F => by rw [OpenClaim.pre_eq_preRow]; exact lifted hw os started H enc F)
theorem plain (f : FuncId) (fn : Func) (hf : Tryz.pinned.checked.prog.funcNamed "prompt/promptkeep.Absent" = some f) (hfn : Tryz.pinned.checked.prog.funcs[f]? = some fn) :
    true = Tryz.pinned.checked.prog.looks [] ∧ ∀ (j : Nat) t, fn.params[j]? = some t → Tryz.pinned.checked.prog.wantsStandIn t = false := by
  obtain rfl : f = 12 := Option.some.inj ((show Tryz.prog.funcNamed "prompt/promptkeep.Absent" = some 12 by kernel_rfl).symm.trans hf) |>.symm
  obtain rfl : fn = Tryz.f12 := (Option.some.inj (Tryz.func12.symm.trans hfn)).symm
  refine ⟨by kernel_rfl, fun j t ht => ?_⟩
  rw [Tryz.params12] at ht
  have hm := Array.mem_of_getElem? ht
  simp at hm
  have key : ∀ t ∈ [24, 3], Tryz.prog.wantsStandIn t = false := fun t h => by
    simp only [List.mem_cons, List.not_mem_nil, or_false] at h
    rcases h with rfl | rfl <;> kernel_rfl
  refine key t ?_
  simp only [List.mem_cons, List.not_mem_nil, or_false]
  omega
theorem card_of (hw : AbsentWalk) : Rows.AbsentCardSaid :=
  Claim7.holds_tied_plain_at .later [] _ _ _ _ (said hw) (fun _ h => by cases h) (by kernel_rfl) (fun _ h => by cases h) absent_row_tie rfl ⟨rfl, rfl⟩ (by kernel_rfl) rfl plain (by kernel_rfl)
end AbsentC
end Go.Proofs.YtpdikdnffehmkaaGreatDoor
