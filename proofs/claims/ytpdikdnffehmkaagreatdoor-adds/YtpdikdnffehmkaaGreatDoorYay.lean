/- Adds: sums of numbers written s(s(z)), walked. -/
import Derived.Test.YtpdikdnffehmkaaGreatDoorYaw
import Derived.Test.YtpdikdnffehmkaaGreatDoorYax
import Derived.Deep.CutRange
import Derived.Deep.RegionHeld2
import Derived.Test.YtpdikdnffehmkaaGreatDoorCards
import Derived.Test.YtpdikdnffehmkaaGreatDoorTie
namespace Go.Proofs.YtpdikdnffehmkaaGreatDoor
open Go.RowKit
namespace AddsW
def reB : ByteArray := ⟨#[82, 32, 61, 32]⟩
def xeB : ByteArray := ⟨#[88, 32, 61, 32]⟩
def yeB : ByteArray := ⟨#[44, 32, 89, 32, 61, 32]⟩
theorem tab_new {w : World} (h : Tab w) : TabB w.heap.size w := Lib.tabBelow_of_tabIs h
theorem callTold (vals : Array Value) (w : World) : (callFunc 19 vals).run Tryz.prog w = .ok (.enter 19 vals) w := by
  simp [callFunc, Tryz.func19, Tryz.f19]
theorem callHigh (vals : Array Value) (w : World) : (callFunc 22 vals).run Tryz.prog w = .ok (.enter 22 vals) w := by
  simp [callFunc, Tryz.func22, Tryz.f22]
theorem khigh_int (z : Int) (w : World) (h0 : 0 ≤ z) (h : z ≤ 1000) : Calls Tryz.prog 22 #[.int .i64 z] w fun r w' => r = .returned (.string (Rf.highB z.toNat)) ∧ w' = w := by
  obtain ⟨k, rfl⟩ := Int.eq_ofNat_of_zero_le h0
  exact khigh_any k w (by omega)
def twoRk (n k : Nat) : Rf.Rep := if k ≤ n then Rf.AddsL.twoR n k else Rf.repK 2
def twoSk (n k : Nat) : Rf.Se := if k ≤ n then Rf.AddsL.twoS n k else ⟨14, Rf.AddsL.cls, none⟩
theorem more_k {n k : Nat} (hn : n ≤ 12) (hk : k ≤ n) : Rf.moreS (twoSk n k) = (twoRk n (k + 1), twoSk n (k + 1)) := by
  unfold twoSk twoRk
  rw [if_pos hk]
  by_cases h : k = n
  · subst h
    rw [Rf.AddsL.more_end, if_neg (by omega), if_neg (by omega)]
  · rw [Rf.AddsL.more_two hn (by omega), if_pos (by omega), if_pos (by omega)]
theorem two_text {n k : Nat} (hk : k ≤ n) : twoRk n k = ⟨1, xeB ++ Rf.highB k ++ yeB ++ Rf.highB (n - k), 0, 0⟩ := by
  unfold twoRk; rw [if_pos hk]; rfl
theorem two_end (n : Nat) : twoRk n (n + 1) = ⟨2, ⟨#[]⟩, 0, 0⟩ := by unfold twoRk; rw [if_neg (by omega)]; rfl
set_option maxHeartbeats 2000000 in
set_option maxRecDepth 100000 in
theorem adds_any (W : World) (p q : Int) (hp : -9223372036854775808 ≤ p) (hp' : p ≤ 9223372036854775807) (hq : -9223372036854775808 ≤ q) (hq' : q ≤ 9223372036854775807) (hT : Tab W) :
    Calls Tryz.prog 6 #[.int .i64 p, .int .i64 q] W fun r w' => r = .returned (.bool true) ∧ Below W.heap.size W w' := by
  have HT : Hid (TabB W.heap.size W) := tab_new hT
  obtain ⟨n, hn⟩ : ∃ n, Hid (Rf.pickK p 13 = n) := ⟨_, rfl⟩
  obtain ⟨m, hm⟩ : ∃ m, Hid (Rf.pickK q 13 = m) := ⟨_, rfl⟩
  have hn12 : n ≤ 12 := by have := Rf.pickK_lt (c := p) (n := 13) (by omega); rw [hn.out] at this; omega
  have hm12 : m ≤ 12 := by have := Rf.pickK_lt (c := q) (n := 13) (by omega); rw [hm.out] at this; omega
  obtain ⟨hB, hBe⟩ : ∃ hB, Hid (Rf.highB n = hB) := ⟨_, rfl⟩
  obtain ⟨mB, mBe⟩ : ∃ mB, Hid (Rf.highB m = mB) := ⟨_, rfl⟩
  have zn : hB.size ≤ 37 := by rw [← hBe.out, Rf.highB_size]; omega
  have zm : mB.size ≤ 37 := by rw [← mBe.out, Rf.highB_size]; omega
  have z1 : (⟨#[97, 100, 100, 40]⟩ ++ hB : ByteArray).size ≤ 41 := by rw [ByteArray.size_append]; have : (⟨#[97, 100, 100, 40]⟩ : ByteArray).size = 4 := rfl; omega
  have z2 : (⟨#[97, 100, 100, 40]⟩ ++ hB ++ ⟨#[44]⟩ : ByteArray).size ≤ 42 := by rw [ByteArray.size_append]; have : (⟨#[44]⟩ : ByteArray).size = 1 := rfl; omega
  have z3 : (⟨#[97, 100, 100, 40]⟩ ++ hB ++ ⟨#[44]⟩ ++ mB : ByteArray).size ≤ 79 := by rw [ByteArray.size_append]; omega
  have y1 : (⟨#[97, 100, 100, 40, 88, 44, 89, 44]⟩ ++ hB : ByteArray).size ≤ 45 := by rw [ByteArray.size_append]; have : (⟨#[97, 100, 100, 40, 88, 44, 89, 44]⟩ : ByteArray).size = 8 := rfl; omega
  have HA1 : Hid (∀ k, Rf.askS ⟨14, Rf.AddsL.cls, k⟩ (⟨#[97, 100, 100, 40]⟩ ++ hB ++ ⟨#[44]⟩ ++ mB ++ ⟨#[44, 82, 41, 46]⟩) = (Rf.AddsL.oneR n m, ⟨14, Rf.AddsL.cls, some ⟨[Rf.AddsL.rB], []⟩⟩)) := fun k => by
    rw [← hBe.out, ← mBe.out]; exact Rf.AddsL.ask_one hn12 hm12 k
  have HA2 : Hid (∀ k, Rf.askS ⟨14, Rf.AddsL.cls, k⟩ (⟨#[97, 100, 100, 40, 88, 44, 89, 44]⟩ ++ hB ++ ⟨#[41, 46]⟩) = (Rf.AddsL.twoR n 0, Rf.AddsL.twoS n 0)) := fun k => by
    rw [← hBe.out]; exact Rf.AddsL.ask_two hn12 k
  have HM1 : Hid _ := Rf.AddsL.more_one [Rf.AddsL.rB]
  obtain ⟨sB, sBe⟩ : ∃ sB, Hid (Rf.highB (n + m) = sB) := ⟨_, rfl⟩
  have HR1 : Hid (Rf.AddsL.oneR n m = ⟨1, reB ++ sB, 0, 0⟩) := by unfold Hid; rw [← sBe.out]; rfl
  have zs : ¬ 9223372036854775807 < 4 + sB.size := by rw [← sBe.out, Rf.highB_size]; omega
  obtain ⟨⟨rk, rt, rc, rp⟩, hR0⟩ : ∃ R0, Hid (Rf.AddsL.twoR n 0 = R0) := ⟨_, rfl⟩
  have hl1 : (⟨#[97, 100, 100, 40]⟩ ++ hB ++ ⟨#[44]⟩ ++ mB ++ ⟨#[44, 82, 41, 46]⟩ : ByteArray).size ≤ maxLen := by
    rw [ByteArray.size_append]; have : (⟨#[44, 82, 41, 46]⟩ : ByteArray).size = 4 := rfl; unfold maxLen; omega
  have hl2 : (⟨#[97, 100, 100, 40, 88, 44, 89, 44]⟩ ++ hB ++ ⟨#[41, 46]⟩ : ByteArray).size ≤ maxLen := by
    rw [ByteArray.size_append]; have : (⟨#[41, 46]⟩ : ByteArray).size = 2 := rfl; unfold maxLen; omega
  have hsum : ((n : Int) + m).toNat = n + m := by omega
  have Hsum : Hid (((n : Int) + m).toNat = n + m) := hsum
  clear hT hsum
  go_enter Tryz.func6, Tryz.ntmps6
  go_wp2_with (first
    | (go_at_call 17; refine (pask_in W.heap.size _ w2 x _ _ hl1 hS2 hb2.size (TabB.on HT.out hb2)).mono ?_; rintro r w3 ⟨hr3, hD3⟩; rw [HA1.out] at hr3 hD3; simp only [HR1.out] at hr3; subst hr3; simp only [repV])
    | (go_at_call 22; have h9 := mk3; refine (khigh_any m _ (by omega)).mono ?_; rintro r w0 ⟨hr0, hw0⟩; rw [mBe.out] at hr0; subst hr0; subst w0)
    | (go_at_call 22; refine (khigh_any n _ (by omega)).mono ?_; rintro r w0 ⟨hr0, hw0⟩; rw [hBe.out] at hr0; subst hr0; subst w0; have mk3 : Hid True := trivial)
    | (go_at_call 16; refine (kbegun_any W.heap.size 14 Rf.addsB _ W (by omega) (by omega) (by decide) Rf.read_adds (by decide) (Nat.le_refl _)).mono ?_; rintro r w2 ⟨x, rfl, hS2, hb2⟩)
    | (go_at_call 21; have h9 := mk1; refine (kpick_any q 13 _ hq hq' (by omega) (by omega)).mono ?_; rintro r w0 ⟨hr0, hw0⟩; rw [hm.out] at hr0; subst hr0; subst w0)
    | (go_at_call 21; refine (kpick_any p 13 _ hp hp' (by omega) (by omega)).mono ?_; rintro r w0 ⟨hr0, hw0⟩; rw [hn.out] at hr0; subst hr0; subst w0; have mk1 : Hid True := trivial))
  have HD3 : Hid _ := hD3
  have hz3 := hD3.size
  have hz2 := hb2.size
  have hB3 : Below W.heap.size W w3 := hb2.trans (hD3.below hb2.size)
  have hRB4 : RB (w3.alloc (.cells #[.int .i64 1, .string (reB ++ sB), .int .i64 0, .int .i64 0] 33)) w3.heap.size ⟨1, reB ++ sB, 0, 0⟩ := blk_new w3 _
  have hS4 := HD3.out.1.below ((Below.refl w3.heap.size w3).alloc (Nat.le_refl _) (.cells #[.int .i64 1, .string (reB ++ sB), .int .i64 0, .int .i64 0] 33))
  have hB4 : Below W.heap.size W (w3.alloc (.cells #[.int .i64 1, .string (reB ++ sB), .int .i64 0, .int .i64 0] 33)) := hB3.alloc (by omega) _
  obtain ⟨G, hGe⟩ : ∃ G, G = Grow (fun k => W.heap.size ≤ k ∧ k < w2.heap.size) w2 w3 := ⟨_, rfl⟩
  have hG4 : ¬ G w3.heap.size := fun e => by
    rw [hGe] at e
    have := HD3.out.1.hi _ e
    omega
  rw [← hGe] at hS4
  have hL0 : W.heap.size ≤ w3.heap.size := by omega
  clear hGe HD3 hD3 hS2 hb2 hB3 hz2
  generalize hw4 : w3.alloc (.cells #[.int .i64 1, .string (reB ++ sB), .int .i64 0, .int .i64 0] 33) = w4 at hRB4 hS4 hB4 ⊢
  clear hw4
  generalize w3.heap.size = L at hRB4 hG4 hz3 hL0 ⊢
  clear hz3
  have HL0 : Hid (W.heap.size ≤ L) := hL0
  clear hL0
  have s0 := blk_cell hRB4 0
  have s1 := blk_cell hRB4 1
  have s2 := blk_cell hRB4 2
  have s3 := blk_cell hRB4 3
  have sf := blk_frozen hRB4
  have sl := blk_lt hRB4
  simp at s0 s1 s2 s3
  have hz4 := hB4.size
  have HRB4 : Hid _ := hRB4
  have HS4 : Hid _ := hS4
  have HB4 : Hid _ := hB4
  clear hRB4 hS4 hB4
  have hwr : IntKind.i64.wrap ((n : Int) + m) = (n : Int) + m := wrap_in (by omega) (by omega)
  go_cut [9] from 30 to 36 (fun b wx => b = .bool true ∧ Below w4.heap.size w4 wx)
  case first =>
    go_region_law (first
      | (refine step_call1 rfl 22 (.tmp 33) _ rfl (.int .i64 ((n : Int) + m)) rfl (fun _ => callHigh _ _) (khigh_int _ _ (by omega) (by omega)) ?_; rintro r w5 ⟨hr5, hw5⟩; rw [Hsum.out, sBe.out] at hr5; subst hr5; subst w5; refine ⟨_, rfl, ?_⟩)
      | (refine step_call2 rfl 19 (.tmp 30) (.tmp 35) _ rfl (.agg #[.int .i64 1, .string (reB ++ sB), .int .i64 0, .int .i64 0]) (.string (reB ++ sB)) rfl rfl (fun _ => callTold _ _) (ktold_any _ _) ?_; rintro r w5 ⟨rfl, hb5⟩; refine ⟨_, rfl, ?_⟩))
    all_goals
      go_wp2_with fail
      go_meet
      exact ⟨rfl, ((Below.refl _ _).drew).trans hb5⟩
  case rest =>
    obtain ⟨rfl, hbx⟩ := hcut
    clear hwr
    have hzx := hbx.size
    have HRx : Hid (RB wc L ⟨1, reB ++ sB, 0, 0⟩) := (hbx.block _ sl).trans HRB4.out
    have HBx : Hid (Below W.heap.size W wc) := HB4.out.trans (hbx.mono hz4)
    have HSx : Hid _ := HS4.out.below hbx
    have HTx : Hid (TabB W.heap.size wc) := TabB.on HT.out HBx.out
    have hzw : W.heap.size ≤ wc.heap.size := by omega
    have slx : L < wc.heap.size := by omega
    clear s0 s1 s2 s3 sf hbx
    go_wp2_with (first
      | (go_at_call 17; refine (pask_in W.heap.size _ w6 x _ _ hl2 hS6 (by omega) (TabB.on HT.out hB6)).mono ?_; rintro r w7 ⟨hr7, hD7⟩; rw [HA2.out] at hr7 hD7; simp only [hR0.out] at hr7; subst hr7; simp only [repV]; have hRB7 := hD7.rb HR6.out; have q0 := blk_cell hRB7 0; have q1 := blk_cell hRB7 1; have q2 := blk_cell hRB7 2; have q3 := blk_cell hRB7 3; have qf := blk_frozen hRB7; have ql := blk_lt hRB7; simp at q0 q1 q2 q3)
      | (go_at_call 22; refine (khigh_any n _ (by omega)).mono ?_; rintro r w0 ⟨hr0, hw0⟩; rw [hBe.out] at hr0; subst hr0; subst w0)
      | (go_at_call 18; refine (konly_any 2 _).mono ?_; rintro r w6 ⟨rfl, hb6⟩; have hz6 := hb6.size; have hz6' : w5.heap.size ≤ w6.heap.size := (by simpa using hz6); have hS6 := (hD5.1.set hRB5 hG5 (.int .i64 2) (.string ⟨#[]⟩) (.int .i64 0) (.int .i64 0)).below hb6; have HR6 : Hid (RB w6 L ⟨2, ⟨#[]⟩, 0, 0⟩) := (hb6.block L (by simpa using sl5)).trans (rb_set (R := ⟨1, reB ++ sB, 0, 0⟩) hRB5 ⟨2, ⟨#[]⟩, 0, 0⟩); have hB6 : Below W.heap.size W w6 := (hB5.trans ((kept4 w5 L (.int .i64 2) (.string ⟨#[]⟩) (.int .i64 0) (.int .i64 0)).below (by omega) (fun k hk e => by have := HL0.out; omega))).trans (hb6.mono (by simp; omega)))
      | (go_at_call 20; refine (pmore_in W.heap.size G wc x _ HSx.out hzw HTx.out).mono ?_; rintro r w5 ⟨hr5, hD5⟩; rw [HM1.out] at hr5 hD5; subst hr5; simp only [repV, Rf.repK]; have hz5 := hD5.size; have hRB5 := hD5.rb HRx.out; have s0 := blk_cell hRB5 0; have s1 := blk_cell hRB5 1; have s2 := blk_cell hRB5 2; have s3 := blk_cell hRB5 3; have sf := blk_frozen hRB5; have sl5 := blk_lt hRB5; simp at s0 s1 s2 s3; have hB5 : Below W.heap.size W w5 := HBx.out.trans (hD5.below hzw); have hG5 : ¬ Grow G wc w5 L := (fun e => e.elim hG4 (fun e => by omega))))
    have HD7 : Hid _ := hD7
    have HRB7 : Hid _ := hRB7
    have hz7 := hD7.size
    have HB7 : Hid (Below W.heap.size W w7) := hB6.trans (hD7.below (by omega))
    have hG7 : ¬ Grow (Grow G wc w5) w6 w7 L := fun e => e.elim hG5 (fun e => by omega)
    have HG7 : Hid _ := hG7
    clear hD7 hRB7 hG7 hG5 hD5 hRB5 hS6 hB6 hB5 s0 s1 s2 s3 sf hb6
    go_loopw [11] (fun iv wr => ∃ k : Nat, k ≤ n + 1 ∧ iv = .int .i64 k ∧ RB wr L (twoRk n k) ∧ (∃ G, SeIn W.heap.size G wr x (twoSk n k) ∧ ¬ G L) ∧ Below W.heap.size W wr) (fun iv _ => n + 1 - (intOf iv).toNat)
    case atStart =>
      refine ⟨0, by omega, rfl, ?_, ⟨_, HD7.out.1.set HRB7.out HG7.out _ _ _ _, HG7.out⟩, HB7.out.trans ((kept4 _ _ _ _ _ _).below (by omega) (fun k hk e => by have := HL0.out; omega))⟩
      have e0 : twoRk n 0 = ⟨rk, rt, rc, rp⟩ := by rw [← hR0.out]; unfold twoRk; rw [if_pos (by omega)]
      rw [e0]
      exact rb_set (R := ⟨2, ⟨#[]⟩, 0, 0⟩) HRB7.out ⟨rk, rt, rc, rp⟩
    case round =>
      obtain ⟨k, hk, rfl, hRB, ⟨G9, hS, hG⟩, hbr⟩ := hrel
      have hsz := hbr.size
      by_cases hle : k ≤ n
      · rw [two_text hle] at hRB
        obtain ⟨kB, kBe⟩ : ∃ kB, Hid (Rf.highB k = kB) := ⟨_, rfl⟩
        obtain ⟨dB, dBe⟩ : ∃ dB, Hid (Rf.highB (n - k) = dB) := ⟨_, rfl⟩
        rw [kBe.out, dBe.out] at hRB
        have zk : kB.size ≤ 37 := by rw [← kBe.out, Rf.highB_size]; omega
        have zd : dB.size ≤ 37 := by rw [← dBe.out, Rf.highB_size]; omega
        have g1 : ¬ 9223372036854775807 < 4 + kB.size := by omega
        have g2 : ¬ 9223372036854775807 < 4 + kB.size + 6 := by omega
        have g3 : ¬ 9223372036854775807 < 4 + kB.size + 6 + dB.size := by omega
        have hdk : Hid (((n : Int) - k).toNat = n - k) := by unfold Hid; omega
        have s0 := blk_cell hRB 0
        have s1 := blk_cell hRB 1
        have s2 := blk_cell hRB 2
        have s3 := blk_cell hRB 3
        have sf := blk_frozen hRB
        have sl := blk_lt hRB
        simp at s0 s1 s2 s3
        have HRB : Hid _ := hRB
        have HS : Hid _ := hS
        have HBR : Hid _ := hbr
        have HTr : Hid (TabB W.heap.size wr) := TabB.on HT.out hbr
        have hle' : (k : Int) ≤ n := by omega
        have hwr : IntKind.i64.wrap ((n : Int) - k) = (n : Int) - k := wrap_in (by omega) (by omega)
        clear hRB hS hbr q0 q1 q2 q3 qf z1 z2 z3 y1 hl1 hl2 zs
        go_upto_region 16 with fail
        go_cut [12] from 53 to 72 (fun b wx => b = .bool true ∧ Below wr.heap.size wr wx)
        case first =>
          go_region_law (first
            | (refine step_call1 rfl 22 (.tmp 59) _ rfl (.int .i64 (k : Int)) rfl (fun _ => callHigh _ _) (khigh_any k _ (by omega)) ?_; rintro r w5 ⟨hr5, hw5⟩; rw [kBe.out] at hr5; subst hr5; subst w5; refine ⟨_, rfl, ?_⟩)
            | (refine step_call1 rfl 22 (.tmp 65) _ rfl (.int .i64 ((n : Int) - k)) rfl (fun _ => callHigh _ _) (khigh_int _ _ (by omega) (by omega)) ?_; rintro r w5 ⟨hr5, hw5⟩; rw [hdk.out, dBe.out] at hr5; subst hr5; subst w5; refine ⟨_, rfl, ?_⟩)
            | (refine step_call2 rfl 19 (.tmp 58) (.tmp 67) _ rfl (.agg #[.int .i64 1, .string (xeB ++ kB ++ yeB ++ dB), .int .i64 0, .int .i64 0]) (.string (xeB ++ kB ++ yeB ++ dB)) rfl rfl (fun _ => callTold _ _) (ktold_any _ _) ?_; rintro r w5 ⟨rfl, hb5⟩; refine ⟨_, rfl, ?_⟩))
          all_goals
            go_wp2_with fail
            go_meet
            exact ⟨rfl, ((Below.refl _ _).drew).trans hb5⟩
        case rest =>
          obtain ⟨rfl, hbx⟩ := hcut
          clear hwr
          have hzx := hbx.size
          have HM : Hid _ := more_k hn12 hle
          have HRx : Hid (RB wc L ⟨1, xeB ++ kB ++ yeB ++ dB, 0, 0⟩) := (hbx.block _ sl).trans HRB.out
          have HBx : Hid (Below W.heap.size W wc) := HBR.out.trans (hbx.mono hsz)
          have HSx : Hid _ := HS.out.below hbx
          have HTx : Hid (TabB W.heap.size wc) := TabB.on HT.out HBx.out
          have hzw : W.heap.size ≤ wc.heap.size := by omega
          have slx : L < wc.heap.size := by omega
          obtain ⟨⟨rk5, rt5, rc5, rp5⟩, hR5⟩ : ∃ R5, Hid (twoRk n (k + 1) = R5) := ⟨_, rfl⟩
          clear s0 s1 s2 s3 sf hbx
          go_wp2_with (go_at_call 20; refine (pmore_in W.heap.size G9 wc x _ HSx.out hzw HTx.out).mono ?_; rintro r w5 ⟨hr5, hD5⟩; rw [HM.out] at hr5 hD5; simp only [hR5.out] at hr5; subst hr5; simp only [repV]; have hRB5 := hD5.rb HRx.out; have s0 := blk_cell hRB5 0; have s1 := blk_cell hRB5 1; have s2 := blk_cell hRB5 2; have s3 := blk_cell hRB5 3; have sf := blk_frozen hRB5; have sl5 := blk_lt hRB5; simp at s0 s1 s2 s3)
          have hz5 := hD5.size
          have hB5 : Below W.heap.size W w5 := HBx.out.trans (hD5.below hzw)
          have hG5 : ¬ Grow G9 wc w5 L := fun e => e.elim hG (fun e => by omega)
          go_roundw
          case rel =>
            refine ⟨k + 1, by omega, by go_num, ?_, ⟨_, hD5.1.set hRB5 hG5 _ _ _ _, hG5⟩, hB5.trans ((kept4 _ _ _ _ _ _).below (by omega) (fun k hk e => by have := HL0.out; omega))⟩
            rw [hR5.out]; exact rb_set (R := ⟨1, xeB ++ kB ++ yeB ++ dB, 0, 0⟩) hRB5 ⟨rk5, rt5, rc5, rp5⟩
          case measure => simp [intOf]; omega
      · obtain rfl : k = n + 1 := by omega
        rw [two_end] at hRB
        have s0 := blk_cell hRB 0
        have s1 := blk_cell hRB 1
        have s2 := blk_cell hRB 2
        have s3 := blk_cell hRB 3
        have sf := blk_frozen hRB
        have sl := blk_lt hRB
        simp at s0 s1 s2 s3
        have HBR : Hid _ := hbr
        have hle' : ¬ ((n + 1 : Nat) : Int) ≤ n := by omega
        clear hRB hS hbr q0 q1 q2 q3 qf z1 z2 z3 y1 hl1 hl2 zs
        go_wp2_with (go_at_call 18; refine (konly_any 2 _).mono ?_; rintro r w4 ⟨rfl, hb4⟩)
        go_ret
        exact ⟨rfl, HBR.out.trans (hb4.mono hsz)⟩
end AddsW
end Go.Proofs.YtpdikdnffehmkaaGreatDoor
/- The given card of Adds, out of its walk. -/
namespace Go.Proofs.YtpdikdnffehmkaaGreatDoor
open Go.ChangeShapes Go.WideShapes Go.ChangeAt Go.RowKit Go.Deep
/-- What the walk has to give. -/
def AddsWalk : Prop := ∀ (W : World) (n0 : Int) (n1 : Int), -9223372036854775808 ≤ n0 → n0 ≤ 9223372036854775807 → -9223372036854775808 ≤ n1 → n1 ≤ 9223372036854775807 → Lib.TabIs Tryz.prog W "internal/strconv.uint64pow10" .u64 Lib.pow10Tab →
    Calls Tryz.prog 6 #[.int .i64 n0, .int .i64 n1] W fun e W' => e = .returned (.bool true) ∧ Below W.heap.size W W'
namespace AddsC
theorem table {W : World} (h : laidMetH Tryz.prog Rows.addsRow.laid W) : Lib.TabIs Tryz.prog W "internal/strconv.uint64pow10" .u64 Lib.pow10Tab := by
  have h' : laidMet Tryz.prog Rows.addsRow.laid W := by
    rw [MakeChecks.laidMetH_plain _ _ _ (by kernel_rfl)] at h
    exact h
  exact Lib.tabIs_of_head Tryz.gTab Tryz.gTabType Tryz.underlying239 Tryz.underlying198 Tryz.cellsU64 Tryz.cellsTab (laidMet.tail (laidMet.tail h'))
section
variable {H : Type} {enc : TypeId × Value → H}
set_option maxRecDepth 100000 in
/-- What the walk gives, for every argument and every world that holds the table. -/
theorem contract (hw : AddsWalk) (W : World) (base : Nat) (args : Array Value) (ds gs : List (DataW H)) (before : List MemPlace)
    (hval : ∀ (j : Nat) t v, Tryz.f6.params[j]? = some t → args[j]? = some v → Value.okWide Tryz.prog W .any base t v)
    (hW : DataW.Whole enc Tryz.prog Tryz.f6.params.toList Rows.addsSpec.vars false W args.toList ds gs before)
    (hsz : (DataW.weightsEach Tryz.prog (Tryz.f6.params.toList ++ (OpenSpec.ofChange Rows.addsSpec).bare.plain.varTypes Tryz.prog) (ds ++ gs)).all (· ≤ reachBytes) = true)
    (hL : laidMetH Tryz.prog Rows.addsRow.laid W) :
    Calls Tryz.prog 6 args W fun e W' => ∃ v, e = .returned v ∧ Rows.addsSpec.post enc Tryz.prog Tryz.f6 false true false false W args v W' := by
  have hW' := hW
  obtain ⟨p, q, hA0, hV, rfl, hfz, hnd⟩ := hW
  have hA : DataW.TrodAll enc Tryz.prog W 0 (fun _ => true) true Tryz.f6.params.toList args.toList ds p := hA0
  rw [Tryz.params6] at hA hval hsz
  obtain ⟨v0, vs0, d0, ds0, p0, q0, hargs, rfl, rfl, h0, r0⟩ := trodAll_cons hA
  obtain ⟨v1, vs1, d1, ds1, p1, q1, rfl, rfl, rfl, h1, r1⟩ := trodAll_cons r0
  obtain ⟨rfl, rfl, rfl⟩ := trodAll_nil r1
  obtain rfl : args = #[v0, v1] := by cases args; simp_all
  obtain ⟨rfl, rfl⟩ := trodVars_none hV
  clear hA0
  have hv0 := hval 0 3 v0 rfl rfl
  obtain ⟨n0, rfl, rfl, rfl, hwf0⟩ := open_int Tryz.underlying3 hv0 h0
  have hn0 := i64_wf hwf0
  have hv1 := hval 1 3 v1 rfl rfl
  obtain ⟨n1, rfl, rfl, rfl, hwf1⟩ := open_int Tryz.underlying3 hv1 h1
  have hn1 := i64_wf hwf1
  refine (hw W n0 n1 hn0.1 hn0.2 hn1.1 hn1.2 (table hL)).mono fun e W' ⟨he, hB⟩ => ?_
  subst he
  have hlt : ∀ x ∈ ([] : List MemPlace) ++ (([] : List MemPlace) ++ []) ++ [], x.block < W.heap.size := fun x hx => hW'.lt x hx
  refine ⟨_, rfl, [.lit (.int .i64 n0), .lit (.int .i64 n1)], [], _, [], ([] : List MemPlace) ++ (([] : List MemPlace) ++ []), [], hW', ?_, ?_, ?_, hB.frame _, fun h => by cases h⟩
  · exact trodAll_cons_mk (shut_bool Tryz.underlying4 true) trodAll_mk0
  · exact (trodAll_cons_mk (again (of_decide_eq_true (by kernel_rfl)) h0 hB (fun x hx => by simp at hx)) (trodAll_cons_mk (again (of_decide_eq_true (by kernel_rfl)) h1 hB (fun x hx => by simp at hx)) trodAll_mk0))
  · rfl
end
theorem laid_met (os : Os) : laidMet Tryz.prog Rows.addsRow.laid ((World.doorLaid Tryz.prog 400 os).forCall (fun _ _ => 0) ⟨#[], #[.int .i64 0, .int .i64 0], []⟩).memory :=
  laidMet_of_run' 8 (by kernel_rfl) (by kernel_rfl)
theorem reads (os : Os) {H : Type} (enc : TypeId × Value → H) : ∃ places, DataW.whole enc Tryz.prog ((World.doorLaid Tryz.prog 400 os).forCall (fun _ _ => 0) ⟨#[], #[.int .i64 0, .int .i64 0], []⟩).memory Tryz.f6.params.toList Rows.addsSpec.vars false #[Value.int .i64 0, .int .i64 0].toList 8 = some ([.lit (.int .i64 0), .lit (.int .i64 0)], [], places) :=
  ⟨[], by kernel_rfl⟩
set_option maxRecDepth 100000 in
theorem lifted (hw : AddsWalk) (os : Os) (started : os.Started) (H : Type) (enc : TypeId × Value → H) (F : Stop.Interp) :
    ReturnsInHanded {} Tryz.checked os 6 .any ((OpenSpec.ofChange Rows.addsSpec).preRow enc Tryz.prog Tryz.f6 Rows.addsRow.domain false Rows.addsRow.laid) (((OpenSpec.ofChange Rows.addsSpec).at F).post enc Tryz.prog Tryz.f6 false true false false) := by
  obtain ⟨places, hx⟩ := reads os enc
  refine returnsInHanded_of_row (C := Tryz.checked) (s := OpenSpec.ofChange Rows.addsSpec) Tryz.own started (by kernel_rfl) Tryz.func6
    (witness_row_atRef (enc := enc) (C := Tryz.checked) false (World.doorLaid Tryz.prog 400 os) #[.int .i64 0, .int .i64 0] rfl (by kernel_rfl) (by kernel_rfl) (by kernel_rfl)
      (OpenSpec.preRow_of_cond 8 hx (by kernel_rfl) (fun k hk => by cases hk) (by kernel_rfl) (laid_met os))) ?_
  intro W base args ds gs before hval hW _ _ hsz hL _ _
  exact contract hw W base args ds gs before hval hW hsz hL
theorem said (hw : AddsWalk) : Rows.AddsSaid :=
  OpenClaim.holds_of_cond 6 Tryz.f6 rfl rfl rfl rfl rfl rfl rfl ⟨rfl, rfl, rfl, rfl, rfl⟩ rfl rfl rfl rfl rfl (by kernel_rfl) Tryz.func6 (by kernel_rfl)
    (of_decide_eq_true (by kernel_rfl)) (by unfold Func.isWrapper; first | (rw [if_pos (by decide +kernel)]; kernel_rfl) | (rw [if_neg (by decide +kernel)]; exact ⟨rfl, rfl⟩))
    (fun os started H enc _ F => by rw [OpenClaim.pre_eq_preRow]; exact lifted hw os started H enc F)
theorem plain (f : FuncId) (fn : Func) (hf : Tryz.pinned.checked.prog.funcNamed "prompt/promptkeep.Adds" = some f) (hfn : Tryz.pinned.checked.prog.funcs[f]? = some fn) :
    true = Tryz.pinned.checked.prog.looks [] ∧ ∀ (j : Nat) t, fn.params[j]? = some t → Tryz.pinned.checked.prog.wantsStandIn t = false := by
  obtain rfl : f = 6 := Option.some.inj ((show Tryz.prog.funcNamed "prompt/promptkeep.Adds" = some 6 by kernel_rfl).symm.trans hf) |>.symm
  obtain rfl : fn = Tryz.f6 := (Option.some.inj (Tryz.func6.symm.trans hfn)).symm
  refine ⟨by kernel_rfl, fun j t ht => ?_⟩
  rw [Tryz.params6] at ht
  have hm := Array.mem_of_getElem? ht
  simp at hm
  subst hm
  exact (show Tryz.prog.wantsStandIn 3 = false by kernel_rfl)
theorem card_of (hw : AddsWalk) : Rows.AddsCardSaid :=
  Claim7.holds_tied_plain_at .later [] _ _ _ _ (said hw) (fun _ h => by cases h) (by kernel_rfl) (fun _ h => by cases h) adds_row_tie rfl ⟨rfl, rfl⟩ (by kernel_rfl) rfl plain (by kernel_rfl)
end AddsC
end Go.Proofs.YtpdikdnffehmkaaGreatDoor
