/- Reckons: plus and less are those of numbers, walked. -/
import Derived.Test.YtpdikdnffehmkaaDoorYav
import Derived.Test.YtpdikdnffehmkaaDoorYan
import Derived.Deep.CutRange
import Derived.Deep.RegionHeld2
import Derived.Test.YtpdikdnffehmkaaDoorCards
import Derived.Test.YtpdikdnffehmkaaDoorTie
namespace Go.Proofs.YtpdikdnffehmkaaDoor
open Go.RowKit
namespace ReckonsW
def xeB : ByteArray := ⟨#[88, 32, 61, 32]⟩
theorem tab_new {w : World} (h : Tab w) : TabB w.heap.size w := Lib.tabBelow_of_tabIs h
theorem callTold (vals : Array Value) (w : World) : (callFunc 8 vals).run Tryd.prog w = .ok (.enter 8 vals) w := by
  simp [callFunc, Tryd.func8, Tryd.f8]
theorem callItoa (vals : Array Value) (w : World) : (callFunc 6 vals).run Tryd.prog w = .ok (.enter 6 vals) w := by
  simp [callFunc, Tryd.func6, Tryd.f6]
set_option maxHeartbeats 400000 in
theorem ktold_no (k : Int) (t s : ByteArray) (w : World) (hk : (k == 1) = false) :
    Calls Tryd.prog 8 #[.agg #[.int .i64 k, .string t, .int .i64 0, .int .i64 0], .string s] w fun r w' => r = .returned (.bool false) ∧ Below w.heap.size w w' := by
  go_enter Tryd.func8, Tryd.ntmps8
  go_wp2
  go_ret
  exact ⟨rfl, (by repeat (first | exact Below.refl _ _ | refine Below.setCell ?_ (by simp <;> omega) _ | refine Below.drew ?_ | refine Below.drewN ?_ _ | refine Below.alloc ?_ (by simp <;> omega) _))⟩
set_option maxHeartbeats 400000 in
theorem ksmall_any (c : Int) (w : World) (h1 : -9223372036854775808 ≤ c) (h2 : c ≤ 9223372036854775807) :
    Calls Tryd.prog 4 #[.int .i64 c] w fun r w' => r = .returned (.int .i64 ((Rf.pickK c 1999999999 : Int) - 999999999)) ∧ w' = w := by
  have hp := Rf.pickK_lt (c := c) (n := 1999999999) (by omega)
  go_enter Tryd.func4, Tryd.ntmps4
  go_wp2_with (go_at_call 10; refine (kpick_any c 1999999999 _ h1 h2 (by omega) (by omega)).mono ?_; rintro r w1 ⟨rfl, hw1⟩; subst w1)
  go_ret
  exact ⟨rfl, rfl⟩
theorem wrap_n {x : Int} (h0 : -1000000000000 ≤ x) (h1 : x ≤ 1000000000000) : IntKind.i64.wrap x = x := by rw [IntKind.wrap_i64]; omega
theorem kitoa (v : Int) (w : World) (h0 : -2000000000 ≤ v) (h1 : v ≤ 2000000000) (hT : Tab w) : Calls Tryd.prog 6 #[.int .i64 v] w fun r w' => r = .returned (.string (Rf.itoaB v)) ∧ Below w.heap.size w w' := by
  refine (Tryd.strconv_Itoa v (by omega) (by omega) w hT).mono ?_
  rintro r w1 ⟨rfl, k, os, rfl⟩
  exact ⟨rfl, grow_below _ _ _⟩
theorem itoa_sz (v : Int) (h0 : -2000000000 ≤ v) (h1 : v ≤ 2000000000) : (Rf.itoaB v).size ≤ 21 := by
  have := Go.Lib.itoa_length_le v (by omega) (by omega)
  unfold Rf.itoaB; simpa [ByteArray.size] using this
set_option maxHeartbeats 2000000 in
set_option maxRecDepth 100000 in
theorem reckons_in_lt (W : World) (p q n m : Int) (hp : -9223372036854775808 ≤ p) (hp' : p ≤ 9223372036854775807) (hq : -9223372036854775808 ≤ q) (hq' : q ≤ 9223372036854775807) (hT : Tab W) (hn : (Rf.pickK p 1999999999 : Int) - 999999999 = n) (hm : (Rf.pickK q 1999999999 : Int) - 999999999 = m) (hr : ¬ (n + m < -999999999 ∨ 999999999 < n + m)) (hl : n < m) :
    Calls Tryd.prog 3 #[.int .i64 p, .int .i64 q] W fun r w' => r = .returned (.bool true) ∧ Below W.heap.size W w' := by
  have hn0 : -999999999 ≤ n := by omega
  have hn1 : n ≤ 999999999 := by have := Rf.pickK_lt (c := p) (n := 1999999999) (by omega); omega
  have hm0 : -999999999 ≤ m := by omega
  have hm1 : m ≤ 999999999 := by have := Rf.pickK_lt (c := q) (n := 1999999999) (by omega); omega
  have HT : Hid (TabB W.heap.size W) := tab_new hT
  have Hn : Hid ((Rf.pickK p 1999999999 : Int) - 999999999 = n) := hn
  have Hm : Hid ((Rf.pickK q 1999999999 : Int) - 999999999 = m) := hm
  obtain ⟨nB, nBe⟩ : ∃ nB, Hid (Rf.itoaB n = nB) := ⟨_, rfl⟩
  obtain ⟨mB, mBe⟩ : ∃ mB, Hid (Rf.itoaB m = mB) := ⟨_, rfl⟩
  obtain ⟨ss, sse⟩ : ∃ ss, Hid (Rf.itoaB (n + m) = ss) := ⟨_, rfl⟩
  have zn : nB.size ≤ 21 := by rw [← nBe.out]; exact itoa_sz n (by omega) (by omega)
  have zm : mB.size ≤ 21 := by rw [← mBe.out]; exact itoa_sz m (by omega) (by omega)
  have zs : ¬ 9223372036854775807 < 4 + ss.size := by have := itoa_sz (n + m) (by omega) (by omega); rw [sse.out] at this; omega
  have z1 : (⟨#[112, 108, 117, 115, 40]⟩ ++ nB : ByteArray).size ≤ 26 := by rw [ByteArray.size_append]; have : (⟨#[112, 108, 117, 115, 40]⟩ : ByteArray).size = 5 := rfl; omega
  have z2 : (⟨#[112, 108, 117, 115, 40]⟩ ++ nB ++ ⟨#[44]⟩ : ByteArray).size ≤ 27 := by rw [ByteArray.size_append]; have : (⟨#[44]⟩ : ByteArray).size = 1 := rfl; omega
  have z3 : (⟨#[112, 108, 117, 115, 40]⟩ ++ nB ++ ⟨#[44]⟩ ++ mB : ByteArray).size ≤ 48 := by rw [ByteArray.size_append]; omega
  have y1 : (⟨#[108, 101, 115, 115, 40]⟩ ++ nB : ByteArray).size ≤ 26 := by rw [ByteArray.size_append]; have : (⟨#[108, 101, 115, 115, 40]⟩ : ByteArray).size = 5 := rfl; omega
  have y2 : (⟨#[108, 101, 115, 115, 40]⟩ ++ nB ++ ⟨#[44]⟩ : ByteArray).size ≤ 27 := by rw [ByteArray.size_append]; have : (⟨#[44]⟩ : ByteArray).size = 1 := rfl; omega
  have y3 : (⟨#[108, 101, 115, 115, 40]⟩ ++ nB ++ ⟨#[44]⟩ ++ mB : ByteArray).size ≤ 48 := by rw [ByteArray.size_append]; omega
  have HL1 : Hid ((⟨#[112, 108, 117, 115, 40]⟩ ++ nB ++ ⟨#[44]⟩ ++ mB ++ ⟨#[44, 88, 41, 46]⟩ : ByteArray).size ≤ maxLen) := by
    unfold Hid; rw [ByteArray.size_append]; have : (⟨#[44, 88, 41, 46]⟩ : ByteArray).size = 4 := rfl; unfold maxLen; omega
  have HL2 : Hid ((⟨#[108, 101, 115, 115, 40]⟩ ++ nB ++ ⟨#[44]⟩ ++ mB ++ ⟨#[41, 46]⟩ : ByteArray).size ≤ maxLen) := by
    unfold Hid; rw [ByteArray.size_append]; have : (⟨#[41, 46]⟩ : ByteArray).size = 2 := rfl; unfold maxLen; omega
  have HA1 : Hid (∀ k, (Rf.askS ⟨2, [], k⟩ (⟨#[112, 108, 117, 115, 40]⟩ ++ nB ++ ⟨#[44]⟩ ++ mB ++ ⟨#[44, 88, 41, 46]⟩)).1 = ⟨1, xeB ++ ss, 0, 0⟩ ∧ ∃ q', (Rf.askS ⟨2, [], k⟩ (⟨#[112, 108, 117, 115, 40]⟩ ++ nB ++ ⟨#[44]⟩ ++ mB ++ ⟨#[44, 88, 41, 46]⟩)).2 = ⟨2, [], q'⟩) := fun k => by
    rw [← nBe.out, ← mBe.out]
    have h9 := Rf.ReckonsL.ask_plus hn0 hn1 hm0 hm1 k
    refine ⟨h9.1.trans ?_, h9.2⟩
    unfold Rf.ReckonsL.plusR
    rw [if_neg hr]
    rw [← sse.out]; rfl
  have HA2 : Hid (∀ k, (Rf.askS ⟨2, [], k⟩ (⟨#[108, 101, 115, 115, 40]⟩ ++ nB ++ ⟨#[44]⟩ ++ mB ++ ⟨#[41, 46]⟩)).1 = ⟨1, Rf.yesB, 0, 0⟩) := fun k => by
    rw [← nBe.out, ← mBe.out]
    refine (Rf.ReckonsL.ask_less hn0 hn1 hm0 hm1 k).trans ?_
    unfold Rf.ReckonsL.lessR
    rw [if_pos hl]
  have hwr : IntKind.i64.wrap (n + m) = n + m := wrap_n (by omega) (by omega)
  clear hT hn hm
  go_enter Tryd.func3, Tryd.ntmps3
  go_wp2_with (first
    | (go_at_call 7; refine (pask_in W.heap.size _ w4 x _ _ HL1.out (hS2.below (hb3.trans (hb4.mono hz3))) (by omega) (TabB.on HT.out hB4)).mono ?_; rintro r w5 ⟨hr5, hD5⟩; obtain ⟨e1, q', e2⟩ := HA1.out none; rw [e1] at hr5; rw [e2] at hD5; subst hr5; simp only [repV])
    | (go_at_call 6; have h9 := hb3; refine (kitoa m _ (by omega) (by omega) (TabB.tab (TabB.on HT.out hB3))).mono ?_; rintro r w4 ⟨hr4, hb4⟩; rw [mBe.out] at hr4; subst hr4; have hz4 := hb4.size; have hB4 : Below W.heap.size W w4 := hB3.trans (hb4.mono (by omega)))
    | (go_at_call 6; refine (kitoa n _ (by omega) (by omega) (TabB.tab (TabB.on HT.out hb2))).mono ?_; rintro r w3 ⟨hr3, hb3⟩; rw [nBe.out] at hr3; subst hr3; have hz3 := hb3.size; have hB3 : Below W.heap.size W w3 := hb2.trans (hb3.mono hb2.size))
    | (go_at_call 5; refine (kbegun_any W.heap.size 2 ⟨#[]⟩ _ W (by omega) (by omega) (by decide) Rf.read_none (by decide) (Nat.le_refl _)).mono ?_; rintro r w2 ⟨x, rfl, hS2, hb2⟩; have hz2 := hb2.size)
    | (go_at_call 4; have h9 := mk1; refine (ksmall_any q _ hq hq').mono ?_; rintro r w0 ⟨hr0, hw0⟩; rw [Hm.out] at hr0; subst hr0; subst w0)
    | (go_at_call 4; refine (ksmall_any p _ hp hp').mono ?_; rintro r w0 ⟨hr0, hw0⟩; rw [Hn.out] at hr0; subst hr0; subst w0; have mk1 : Hid True := trivial))
  have hz5 := hD5.size
  have hB5 : Below W.heap.size W w5 := hB4.trans (hD5.below (by omega))
  have hRB5 : RB (w5.alloc (.cells #[.int .i64 1, .string (xeB ++ ss), .int .i64 0, .int .i64 0] 28)) w5.heap.size ⟨1, xeB ++ ss, 0, 0⟩ := blk_new w5 _
  have hS5 := hD5.1.below ((Below.refl w5.heap.size w5).alloc (Nat.le_refl _) (.cells #[.int .i64 1, .string (xeB ++ ss), .int .i64 0, .int .i64 0] 28))
  have hB5a : Below W.heap.size W (w5.alloc (.cells #[.int .i64 1, .string (xeB ++ ss), .int .i64 0, .int .i64 0] 28)) := hB5.alloc (by omega) _
  have hL0 : W.heap.size ≤ w5.heap.size := by omega
  have Hz5 : Hid (∀ k, Grow (fun k => W.heap.size ≤ k ∧ k < w2.heap.size) w4 w5 k → k < w5.heap.size) := fun k e => hD5.1.hi k e
  clear hD5 hB4 hB3 hb2 hb3 hb4 hS2 hB5 mk1
  generalize hw5 : w5.alloc (.cells #[.int .i64 1, .string (xeB ++ ss), .int .i64 0, .int .i64 0] 28) = wa at hRB5 hS5 hB5a ⊢
  clear hw5
  have s0 := blk_cell hRB5 0
  have s1 := blk_cell hRB5 1
  have s2 := blk_cell hRB5 2
  have s3 := blk_cell hRB5 3
  have sf := blk_frozen hRB5
  have sl := blk_lt hRB5
  simp at s0 s1 s2 s3
  have hza := hB5a.size
  have HRB : Hid _ := hRB5
  have HS : Hid _ := hS5
  have HBa : Hid _ := hB5a
  have HTa : Hid (TabB W.heap.size wa) := TabB.on HT.out hB5a
  clear hRB5 hS5 hB5a
  go_cut [11] from 32 to 38 (fun b wx => b = .bool true ∧ Below wa.heap.size wa wx)
  case first =>
    go_region_law (first
      | (refine step_call1 rfl 6 (.tmp 35) _ rfl (.int .i64 (n + m)) rfl (fun _ => callItoa _ _) (kitoa _ _ (by omega) (by omega) (TabB.tab (TabB.on HTa.out (by repeat (first | exact Below.refl _ _ | refine Below.setCell ?_ (by simp <;> omega) _ | refine Below.drew ?_ | refine Below.drewN ?_ _ | refine Below.alloc ?_ (by simp <;> omega) _))))) ?_; rintro r w6 ⟨hr6, hb6⟩; rw [sse.out] at hr6; subst hr6; refine ⟨_, rfl, ?_⟩; have hz6 := hb6.size; have hR6 := (hb6.block w5.heap.size (by simp <;> omega)).trans HRB.out; have u0 := blk_cell hR6 0; have u1 := blk_cell hR6 1; have u2 := blk_cell hR6 2; have u3 := blk_cell hR6 3; have uf := blk_frozen hR6; have ul := blk_lt hR6; simp at u0 u1 u2 u3; have hb6' : Below wa.heap.size wa w6 := ((Below.refl _ _).drew).trans hb6)
      | (refine step_call2 rfl 8 (.tmp 32) (.tmp 37) _ rfl (.agg #[.int .i64 1, .string (xeB ++ ss), .int .i64 0, .int .i64 0]) (.string (xeB ++ ss)) rfl rfl (fun _ => callTold _ _) (ktold_any _ _) ?_; rintro r w6 ⟨rfl, hb6⟩; refine ⟨_, rfl, ?_⟩))
    all_goals
      go_wp2_with fail
      go_meet
      exact ⟨rfl, hb6'.trans (hb6.mono hb6'.size)⟩
  case rest =>
    obtain ⟨rfl, hbx⟩ := hcut
    have hg1 : ¬ (999999999 : Int) < n + m := by omega
    have hg2 : ¬ n + m < -999999999 := by omega
    have hzx := hbx.size
    have HBx : Hid (Below W.heap.size W wc) := HBa.out.trans (hbx.mono hza)
    have HSx : Hid _ := HS.out.below hbx
    have hzw : W.heap.size ≤ wc.heap.size := by omega
    clear s0 s1 s2 s3 sf hbx
    go_wp2_with (first
        | (go_at_call 8; refine (ktold_any Rf.yesB _).mono ?_; rintro r w9 ⟨rfl, hb9⟩)
        | (go_at_call 7; refine (pask_in W.heap.size _ wc x _ _ HL2.out HSx.out hzw (TabB.on HT.out HBx.out)).mono ?_; rintro r w8 ⟨hr8, hD8⟩; rw [HA2.out] at hr8; subst hr8; simp only [repV]; have hz8 := hD8.size; have hB8 : Below W.heap.size W w8 := HBx.out.trans (hD8.below hzw)))
    go_ret
    exact ⟨rfl, (hB8.alloc (by omega) _).trans (hb9.mono (by rw [World.size_alloc]; omega))⟩
set_option maxHeartbeats 2000000 in
set_option maxRecDepth 100000 in
theorem reckons_in_ge (W : World) (p q n m : Int) (hp : -9223372036854775808 ≤ p) (hp' : p ≤ 9223372036854775807) (hq : -9223372036854775808 ≤ q) (hq' : q ≤ 9223372036854775807) (hT : Tab W) (hn : (Rf.pickK p 1999999999 : Int) - 999999999 = n) (hm : (Rf.pickK q 1999999999 : Int) - 999999999 = m) (hr : ¬ (n + m < -999999999 ∨ 999999999 < n + m)) (hl : ¬ n < m) :
    Calls Tryd.prog 3 #[.int .i64 p, .int .i64 q] W fun r w' => r = .returned (.bool true) ∧ Below W.heap.size W w' := by
  have hn0 : -999999999 ≤ n := by omega
  have hn1 : n ≤ 999999999 := by have := Rf.pickK_lt (c := p) (n := 1999999999) (by omega); omega
  have hm0 : -999999999 ≤ m := by omega
  have hm1 : m ≤ 999999999 := by have := Rf.pickK_lt (c := q) (n := 1999999999) (by omega); omega
  have HT : Hid (TabB W.heap.size W) := tab_new hT
  have Hn : Hid ((Rf.pickK p 1999999999 : Int) - 999999999 = n) := hn
  have Hm : Hid ((Rf.pickK q 1999999999 : Int) - 999999999 = m) := hm
  obtain ⟨nB, nBe⟩ : ∃ nB, Hid (Rf.itoaB n = nB) := ⟨_, rfl⟩
  obtain ⟨mB, mBe⟩ : ∃ mB, Hid (Rf.itoaB m = mB) := ⟨_, rfl⟩
  obtain ⟨ss, sse⟩ : ∃ ss, Hid (Rf.itoaB (n + m) = ss) := ⟨_, rfl⟩
  have zn : nB.size ≤ 21 := by rw [← nBe.out]; exact itoa_sz n (by omega) (by omega)
  have zm : mB.size ≤ 21 := by rw [← mBe.out]; exact itoa_sz m (by omega) (by omega)
  have zs : ¬ 9223372036854775807 < 4 + ss.size := by have := itoa_sz (n + m) (by omega) (by omega); rw [sse.out] at this; omega
  have z1 : (⟨#[112, 108, 117, 115, 40]⟩ ++ nB : ByteArray).size ≤ 26 := by rw [ByteArray.size_append]; have : (⟨#[112, 108, 117, 115, 40]⟩ : ByteArray).size = 5 := rfl; omega
  have z2 : (⟨#[112, 108, 117, 115, 40]⟩ ++ nB ++ ⟨#[44]⟩ : ByteArray).size ≤ 27 := by rw [ByteArray.size_append]; have : (⟨#[44]⟩ : ByteArray).size = 1 := rfl; omega
  have z3 : (⟨#[112, 108, 117, 115, 40]⟩ ++ nB ++ ⟨#[44]⟩ ++ mB : ByteArray).size ≤ 48 := by rw [ByteArray.size_append]; omega
  have y1 : (⟨#[108, 101, 115, 115, 40]⟩ ++ nB : ByteArray).size ≤ 26 := by rw [ByteArray.size_append]; have : (⟨#[108, 101, 115, 115, 40]⟩ : ByteArray).size = 5 := rfl; omega
  have y2 : (⟨#[108, 101, 115, 115, 40]⟩ ++ nB ++ ⟨#[44]⟩ : ByteArray).size ≤ 27 := by rw [ByteArray.size_append]; have : (⟨#[44]⟩ : ByteArray).size = 1 := rfl; omega
  have y3 : (⟨#[108, 101, 115, 115, 40]⟩ ++ nB ++ ⟨#[44]⟩ ++ mB : ByteArray).size ≤ 48 := by rw [ByteArray.size_append]; omega
  have HL1 : Hid ((⟨#[112, 108, 117, 115, 40]⟩ ++ nB ++ ⟨#[44]⟩ ++ mB ++ ⟨#[44, 88, 41, 46]⟩ : ByteArray).size ≤ maxLen) := by
    unfold Hid; rw [ByteArray.size_append]; have : (⟨#[44, 88, 41, 46]⟩ : ByteArray).size = 4 := rfl; unfold maxLen; omega
  have HL2 : Hid ((⟨#[108, 101, 115, 115, 40]⟩ ++ nB ++ ⟨#[44]⟩ ++ mB ++ ⟨#[41, 46]⟩ : ByteArray).size ≤ maxLen) := by
    unfold Hid; rw [ByteArray.size_append]; have : (⟨#[41, 46]⟩ : ByteArray).size = 2 := rfl; unfold maxLen; omega
  have HA1 : Hid (∀ k, (Rf.askS ⟨2, [], k⟩ (⟨#[112, 108, 117, 115, 40]⟩ ++ nB ++ ⟨#[44]⟩ ++ mB ++ ⟨#[44, 88, 41, 46]⟩)).1 = ⟨1, xeB ++ ss, 0, 0⟩ ∧ ∃ q', (Rf.askS ⟨2, [], k⟩ (⟨#[112, 108, 117, 115, 40]⟩ ++ nB ++ ⟨#[44]⟩ ++ mB ++ ⟨#[44, 88, 41, 46]⟩)).2 = ⟨2, [], q'⟩) := fun k => by
    rw [← nBe.out, ← mBe.out]
    have h9 := Rf.ReckonsL.ask_plus hn0 hn1 hm0 hm1 k
    refine ⟨h9.1.trans ?_, h9.2⟩
    unfold Rf.ReckonsL.plusR
    rw [if_neg hr]
    rw [← sse.out]; rfl
  have HA2 : Hid (∀ k, (Rf.askS ⟨2, [], k⟩ (⟨#[108, 101, 115, 115, 40]⟩ ++ nB ++ ⟨#[44]⟩ ++ mB ++ ⟨#[41, 46]⟩)).1 = ⟨2, ⟨#[]⟩, 0, 0⟩) := fun k => by
    rw [← nBe.out, ← mBe.out]
    refine (Rf.ReckonsL.ask_less hn0 hn1 hm0 hm1 k).trans ?_
    unfold Rf.ReckonsL.lessR
    rw [if_neg hl]
    rfl
  have hwr : IntKind.i64.wrap (n + m) = n + m := wrap_n (by omega) (by omega)
  clear hT hn hm
  go_enter Tryd.func3, Tryd.ntmps3
  go_wp2_with (first
    | (go_at_call 7; refine (pask_in W.heap.size _ w4 x _ _ HL1.out (hS2.below (hb3.trans (hb4.mono hz3))) (by omega) (TabB.on HT.out hB4)).mono ?_; rintro r w5 ⟨hr5, hD5⟩; obtain ⟨e1, q', e2⟩ := HA1.out none; rw [e1] at hr5; rw [e2] at hD5; subst hr5; simp only [repV])
    | (go_at_call 6; have h9 := hb3; refine (kitoa m _ (by omega) (by omega) (TabB.tab (TabB.on HT.out hB3))).mono ?_; rintro r w4 ⟨hr4, hb4⟩; rw [mBe.out] at hr4; subst hr4; have hz4 := hb4.size; have hB4 : Below W.heap.size W w4 := hB3.trans (hb4.mono (by omega)))
    | (go_at_call 6; refine (kitoa n _ (by omega) (by omega) (TabB.tab (TabB.on HT.out hb2))).mono ?_; rintro r w3 ⟨hr3, hb3⟩; rw [nBe.out] at hr3; subst hr3; have hz3 := hb3.size; have hB3 : Below W.heap.size W w3 := hb2.trans (hb3.mono hb2.size))
    | (go_at_call 5; refine (kbegun_any W.heap.size 2 ⟨#[]⟩ _ W (by omega) (by omega) (by decide) Rf.read_none (by decide) (Nat.le_refl _)).mono ?_; rintro r w2 ⟨x, rfl, hS2, hb2⟩; have hz2 := hb2.size)
    | (go_at_call 4; have h9 := mk1; refine (ksmall_any q _ hq hq').mono ?_; rintro r w0 ⟨hr0, hw0⟩; rw [Hm.out] at hr0; subst hr0; subst w0)
    | (go_at_call 4; refine (ksmall_any p _ hp hp').mono ?_; rintro r w0 ⟨hr0, hw0⟩; rw [Hn.out] at hr0; subst hr0; subst w0; have mk1 : Hid True := trivial))
  have hz5 := hD5.size
  have hB5 : Below W.heap.size W w5 := hB4.trans (hD5.below (by omega))
  have hRB5 : RB (w5.alloc (.cells #[.int .i64 1, .string (xeB ++ ss), .int .i64 0, .int .i64 0] 28)) w5.heap.size ⟨1, xeB ++ ss, 0, 0⟩ := blk_new w5 _
  have hS5 := hD5.1.below ((Below.refl w5.heap.size w5).alloc (Nat.le_refl _) (.cells #[.int .i64 1, .string (xeB ++ ss), .int .i64 0, .int .i64 0] 28))
  have hB5a : Below W.heap.size W (w5.alloc (.cells #[.int .i64 1, .string (xeB ++ ss), .int .i64 0, .int .i64 0] 28)) := hB5.alloc (by omega) _
  have hL0 : W.heap.size ≤ w5.heap.size := by omega
  have Hz5 : Hid (∀ k, Grow (fun k => W.heap.size ≤ k ∧ k < w2.heap.size) w4 w5 k → k < w5.heap.size) := fun k e => hD5.1.hi k e
  clear hD5 hB4 hB3 hb2 hb3 hb4 hS2 hB5 mk1
  generalize hw5 : w5.alloc (.cells #[.int .i64 1, .string (xeB ++ ss), .int .i64 0, .int .i64 0] 28) = wa at hRB5 hS5 hB5a ⊢
  clear hw5
  have s0 := blk_cell hRB5 0
  have s1 := blk_cell hRB5 1
  have s2 := blk_cell hRB5 2
  have s3 := blk_cell hRB5 3
  have sf := blk_frozen hRB5
  have sl := blk_lt hRB5
  simp at s0 s1 s2 s3
  have hza := hB5a.size
  have HRB : Hid _ := hRB5
  have HS : Hid _ := hS5
  have HBa : Hid _ := hB5a
  have HTa : Hid (TabB W.heap.size wa) := TabB.on HT.out hB5a
  clear hRB5 hS5 hB5a
  go_cut [11] from 32 to 38 (fun b wx => b = .bool true ∧ Below wa.heap.size wa wx)
  case first =>
    go_region_law (first
      | (refine step_call1 rfl 6 (.tmp 35) _ rfl (.int .i64 (n + m)) rfl (fun _ => callItoa _ _) (kitoa _ _ (by omega) (by omega) (TabB.tab (TabB.on HTa.out (by repeat (first | exact Below.refl _ _ | refine Below.setCell ?_ (by simp <;> omega) _ | refine Below.drew ?_ | refine Below.drewN ?_ _ | refine Below.alloc ?_ (by simp <;> omega) _))))) ?_; rintro r w6 ⟨hr6, hb6⟩; rw [sse.out] at hr6; subst hr6; refine ⟨_, rfl, ?_⟩; have hz6 := hb6.size; have hR6 := (hb6.block w5.heap.size (by simp <;> omega)).trans HRB.out; have u0 := blk_cell hR6 0; have u1 := blk_cell hR6 1; have u2 := blk_cell hR6 2; have u3 := blk_cell hR6 3; have uf := blk_frozen hR6; have ul := blk_lt hR6; simp at u0 u1 u2 u3; have hb6' : Below wa.heap.size wa w6 := ((Below.refl _ _).drew).trans hb6)
      | (refine step_call2 rfl 8 (.tmp 32) (.tmp 37) _ rfl (.agg #[.int .i64 1, .string (xeB ++ ss), .int .i64 0, .int .i64 0]) (.string (xeB ++ ss)) rfl rfl (fun _ => callTold _ _) (ktold_any _ _) ?_; rintro r w6 ⟨rfl, hb6⟩; refine ⟨_, rfl, ?_⟩))
    all_goals
      go_wp2_with fail
      go_meet
      exact ⟨rfl, hb6'.trans (hb6.mono hb6'.size)⟩
  case rest =>
    obtain ⟨rfl, hbx⟩ := hcut
    have hg1 : ¬ (999999999 : Int) < n + m := by omega
    have hg2 : ¬ n + m < -999999999 := by omega
    have hzx := hbx.size
    have HBx : Hid (Below W.heap.size W wc) := HBa.out.trans (hbx.mono hza)
    have HSx : Hid _ := HS.out.below hbx
    have hzw : W.heap.size ≤ wc.heap.size := by omega
    clear s0 s1 s2 s3 sf hbx
    go_wp2_with (first
        | (go_at_call 9; have h9 := hD8; refine (konly_any 2 _).mono ?_; rintro r w9 ⟨rfl, hb9⟩)
        | (go_at_call 7; refine (pask_in W.heap.size _ wc x _ _ HL2.out HSx.out hzw (TabB.on HT.out HBx.out)).mono ?_; rintro r w8 ⟨hr8, hD8⟩; rw [HA2.out] at hr8; subst hr8; simp only [repV]; have hz8 := hD8.size; have hB8 : Below W.heap.size W w8 := HBx.out.trans (hD8.below hzw)))
    go_ret
    exact ⟨rfl, (hB8.alloc (by omega) _).trans (hb9.mono (by rw [World.size_alloc]; omega))⟩
set_option maxHeartbeats 2000000 in
set_option maxRecDepth 100000 in
theorem reckons_out_lt (W : World) (p q n m : Int) (hp : -9223372036854775808 ≤ p) (hp' : p ≤ 9223372036854775807) (hq : -9223372036854775808 ≤ q) (hq' : q ≤ 9223372036854775807) (hT : Tab W) (hn : (Rf.pickK p 1999999999 : Int) - 999999999 = n) (hm : (Rf.pickK q 1999999999 : Int) - 999999999 = m) (hr : n + m < -999999999 ∨ 999999999 < n + m) (hl : n < m) :
    Calls Tryd.prog 3 #[.int .i64 p, .int .i64 q] W fun r w' => r = .returned (.bool true) ∧ Below W.heap.size W w' := by
  have hn0 : -999999999 ≤ n := by omega
  have hn1 : n ≤ 999999999 := by have := Rf.pickK_lt (c := p) (n := 1999999999) (by omega); omega
  have hm0 : -999999999 ≤ m := by omega
  have hm1 : m ≤ 999999999 := by have := Rf.pickK_lt (c := q) (n := 1999999999) (by omega); omega
  have HT : Hid (TabB W.heap.size W) := tab_new hT
  have Hn : Hid ((Rf.pickK p 1999999999 : Int) - 999999999 = n) := hn
  have Hm : Hid ((Rf.pickK q 1999999999 : Int) - 999999999 = m) := hm
  obtain ⟨nB, nBe⟩ : ∃ nB, Hid (Rf.itoaB n = nB) := ⟨_, rfl⟩
  obtain ⟨mB, mBe⟩ : ∃ mB, Hid (Rf.itoaB m = mB) := ⟨_, rfl⟩
  obtain ⟨ss, sse⟩ : ∃ ss, Hid (Rf.itoaB (n + m) = ss) := ⟨_, rfl⟩
  have zn : nB.size ≤ 21 := by rw [← nBe.out]; exact itoa_sz n (by omega) (by omega)
  have zm : mB.size ≤ 21 := by rw [← mBe.out]; exact itoa_sz m (by omega) (by omega)
  have zs : ¬ 9223372036854775807 < 4 + ss.size := by have := itoa_sz (n + m) (by omega) (by omega); rw [sse.out] at this; omega
  have z1 : (⟨#[112, 108, 117, 115, 40]⟩ ++ nB : ByteArray).size ≤ 26 := by rw [ByteArray.size_append]; have : (⟨#[112, 108, 117, 115, 40]⟩ : ByteArray).size = 5 := rfl; omega
  have z2 : (⟨#[112, 108, 117, 115, 40]⟩ ++ nB ++ ⟨#[44]⟩ : ByteArray).size ≤ 27 := by rw [ByteArray.size_append]; have : (⟨#[44]⟩ : ByteArray).size = 1 := rfl; omega
  have z3 : (⟨#[112, 108, 117, 115, 40]⟩ ++ nB ++ ⟨#[44]⟩ ++ mB : ByteArray).size ≤ 48 := by rw [ByteArray.size_append]; omega
  have y1 : (⟨#[108, 101, 115, 115, 40]⟩ ++ nB : ByteArray).size ≤ 26 := by rw [ByteArray.size_append]; have : (⟨#[108, 101, 115, 115, 40]⟩ : ByteArray).size = 5 := rfl; omega
  have y2 : (⟨#[108, 101, 115, 115, 40]⟩ ++ nB ++ ⟨#[44]⟩ : ByteArray).size ≤ 27 := by rw [ByteArray.size_append]; have : (⟨#[44]⟩ : ByteArray).size = 1 := rfl; omega
  have y3 : (⟨#[108, 101, 115, 115, 40]⟩ ++ nB ++ ⟨#[44]⟩ ++ mB : ByteArray).size ≤ 48 := by rw [ByteArray.size_append]; omega
  have HL1 : Hid ((⟨#[112, 108, 117, 115, 40]⟩ ++ nB ++ ⟨#[44]⟩ ++ mB ++ ⟨#[44, 88, 41, 46]⟩ : ByteArray).size ≤ maxLen) := by
    unfold Hid; rw [ByteArray.size_append]; have : (⟨#[44, 88, 41, 46]⟩ : ByteArray).size = 4 := rfl; unfold maxLen; omega
  have HL2 : Hid ((⟨#[108, 101, 115, 115, 40]⟩ ++ nB ++ ⟨#[44]⟩ ++ mB ++ ⟨#[41, 46]⟩ : ByteArray).size ≤ maxLen) := by
    unfold Hid; rw [ByteArray.size_append]; have : (⟨#[41, 46]⟩ : ByteArray).size = 2 := rfl; unfold maxLen; omega
  have HA1 : Hid (∀ k, (Rf.askS ⟨2, [], k⟩ (⟨#[112, 108, 117, 115, 40]⟩ ++ nB ++ ⟨#[44]⟩ ++ mB ++ ⟨#[44, 88, 41, 46]⟩)).1 = ⟨11, ⟨#[]⟩, 0, 0⟩ ∧ ∃ q', (Rf.askS ⟨2, [], k⟩ (⟨#[112, 108, 117, 115, 40]⟩ ++ nB ++ ⟨#[44]⟩ ++ mB ++ ⟨#[44, 88, 41, 46]⟩)).2 = ⟨2, [], q'⟩) := fun k => by
    rw [← nBe.out, ← mBe.out]
    have h9 := Rf.ReckonsL.ask_plus hn0 hn1 hm0 hm1 k
    refine ⟨h9.1.trans ?_, h9.2⟩
    unfold Rf.ReckonsL.plusR
    rw [if_pos hr]
    rfl
  have HA2 : Hid (∀ k, (Rf.askS ⟨2, [], k⟩ (⟨#[108, 101, 115, 115, 40]⟩ ++ nB ++ ⟨#[44]⟩ ++ mB ++ ⟨#[41, 46]⟩)).1 = ⟨1, Rf.yesB, 0, 0⟩) := fun k => by
    rw [← nBe.out, ← mBe.out]
    refine (Rf.ReckonsL.ask_less hn0 hn1 hm0 hm1 k).trans ?_
    unfold Rf.ReckonsL.lessR
    rw [if_pos hl]
  have hwr : IntKind.i64.wrap (n + m) = n + m := wrap_n (by omega) (by omega)
  clear hT hn hm
  go_enter Tryd.func3, Tryd.ntmps3
  go_wp2_with (first
    | (go_at_call 7; refine (pask_in W.heap.size _ w4 x _ _ HL1.out (hS2.below (hb3.trans (hb4.mono hz3))) (by omega) (TabB.on HT.out hB4)).mono ?_; rintro r w5 ⟨hr5, hD5⟩; obtain ⟨e1, q', e2⟩ := HA1.out none; rw [e1] at hr5; rw [e2] at hD5; subst hr5; simp only [repV])
    | (go_at_call 6; have h9 := hb3; refine (kitoa m _ (by omega) (by omega) (TabB.tab (TabB.on HT.out hB3))).mono ?_; rintro r w4 ⟨hr4, hb4⟩; rw [mBe.out] at hr4; subst hr4; have hz4 := hb4.size; have hB4 : Below W.heap.size W w4 := hB3.trans (hb4.mono (by omega)))
    | (go_at_call 6; refine (kitoa n _ (by omega) (by omega) (TabB.tab (TabB.on HT.out hb2))).mono ?_; rintro r w3 ⟨hr3, hb3⟩; rw [nBe.out] at hr3; subst hr3; have hz3 := hb3.size; have hB3 : Below W.heap.size W w3 := hb2.trans (hb3.mono hb2.size))
    | (go_at_call 5; refine (kbegun_any W.heap.size 2 ⟨#[]⟩ _ W (by omega) (by omega) (by decide) Rf.read_none (by decide) (Nat.le_refl _)).mono ?_; rintro r w2 ⟨x, rfl, hS2, hb2⟩; have hz2 := hb2.size)
    | (go_at_call 4; have h9 := mk1; refine (ksmall_any q _ hq hq').mono ?_; rintro r w0 ⟨hr0, hw0⟩; rw [Hm.out] at hr0; subst hr0; subst w0)
    | (go_at_call 4; refine (ksmall_any p _ hp hp').mono ?_; rintro r w0 ⟨hr0, hw0⟩; rw [Hn.out] at hr0; subst hr0; subst w0; have mk1 : Hid True := trivial))
  have hz5 := hD5.size
  have hB5 : Below W.heap.size W w5 := hB4.trans (hD5.below (by omega))
  have hRB5 : RB (w5.alloc (.cells #[.int .i64 11, .string (⟨#[]⟩), .int .i64 0, .int .i64 0] 28)) w5.heap.size ⟨11, ⟨#[]⟩, 0, 0⟩ := blk_new w5 _
  have hS5 := hD5.1.below ((Below.refl w5.heap.size w5).alloc (Nat.le_refl _) (.cells #[.int .i64 11, .string (⟨#[]⟩), .int .i64 0, .int .i64 0] 28))
  have hB5a : Below W.heap.size W (w5.alloc (.cells #[.int .i64 11, .string (⟨#[]⟩), .int .i64 0, .int .i64 0] 28)) := hB5.alloc (by omega) _
  have hL0 : W.heap.size ≤ w5.heap.size := by omega
  have Hz5 : Hid (∀ k, Grow (fun k => W.heap.size ≤ k ∧ k < w2.heap.size) w4 w5 k → k < w5.heap.size) := fun k e => hD5.1.hi k e
  clear hD5 hB4 hB3 hb2 hb3 hb4 hS2 hB5 mk1
  generalize hw5 : w5.alloc (.cells #[.int .i64 11, .string (⟨#[]⟩), .int .i64 0, .int .i64 0] 28) = wa at hRB5 hS5 hB5a ⊢
  clear hw5
  have s0 := blk_cell hRB5 0
  have s1 := blk_cell hRB5 1
  have s2 := blk_cell hRB5 2
  have s3 := blk_cell hRB5 3
  have sf := blk_frozen hRB5
  have sl := blk_lt hRB5
  simp at s0 s1 s2 s3
  have hza := hB5a.size
  have HRB : Hid _ := hRB5
  have HS : Hid _ := hS5
  have HBa : Hid _ := hB5a
  have HTa : Hid (TabB W.heap.size wa) := TabB.on HT.out hB5a
  clear hRB5 hS5 hB5a
  go_cut [11] from 32 to 38 (fun b wx => b = .bool false ∧ Below wa.heap.size wa wx)
  case first =>
    go_region_law (first
      | (refine step_call1 rfl 6 (.tmp 35) _ rfl (.int .i64 (n + m)) rfl (fun _ => callItoa _ _) (kitoa _ _ (by omega) (by omega) (TabB.tab (TabB.on HTa.out (by repeat (first | exact Below.refl _ _ | refine Below.setCell ?_ (by simp <;> omega) _ | refine Below.drew ?_ | refine Below.drewN ?_ _ | refine Below.alloc ?_ (by simp <;> omega) _))))) ?_; rintro r w6 ⟨hr6, hb6⟩; rw [sse.out] at hr6; subst hr6; refine ⟨_, rfl, ?_⟩; have hz6 := hb6.size; have hR6 := (hb6.block w5.heap.size (by simp <;> omega)).trans HRB.out; have u0 := blk_cell hR6 0; have u1 := blk_cell hR6 1; have u2 := blk_cell hR6 2; have u3 := blk_cell hR6 3; have uf := blk_frozen hR6; have ul := blk_lt hR6; simp at u0 u1 u2 u3; have hb6' : Below wa.heap.size wa w6 := ((Below.refl _ _).drew).trans hb6)
      | (refine step_call2 rfl 8 (.tmp 32) (.tmp 37) _ rfl (.agg #[.int .i64 11, .string ⟨#[]⟩, .int .i64 0, .int .i64 0]) (.string (xeB ++ ss)) rfl rfl (fun _ => callTold _ _) (ktold_no 11 _ _ _ rfl) ?_; rintro r w6 ⟨rfl, hb6⟩; refine ⟨_, rfl, ?_⟩))
    all_goals
      go_wp2_with fail
      go_meet
      exact ⟨rfl, hb6'.trans (hb6.mono hb6'.size)⟩
  case rest =>
    obtain ⟨rfl, hbx⟩ := hcut
    by_cases hg1 : (999999999 : Int) < n + m
    · skip
      have hzx := hbx.size
      have HBx : Hid (Below W.heap.size W wc) := HBa.out.trans (hbx.mono hza)
      have HSx : Hid _ := HS.out.below hbx
      have hzw : W.heap.size ≤ wc.heap.size := by omega
      have hRx := (hbx.block _ sl).trans HRB.out
      have q0 := blk_cell hRx 0
      have q1 := blk_cell hRx 1
      have q2 := blk_cell hRx 2
      have q3 := blk_cell hRx 3
      have qf := blk_frozen hRx
      have ql := blk_lt hRx
      simp at q0 q1 q2 q3
      have HRx : Hid _ := hRx
      clear s0 s1 s2 s3 sf hbx hRx
      go_wp2_with (first
          | (go_at_call 8; refine (ktold_any Rf.yesB _).mono ?_; rintro r w9 ⟨rfl, hb9⟩)
          | (go_at_call 9; refine (konly_any 11 _).mono ?_; rintro r w7 ⟨rfl, hb7⟩; have hz7 := hb7.size; have hS7 := SeIn.below HSx.out hb7; have hB7 : Below W.heap.size W w7 := HBx.out.trans (hb7.mono hzw))
          | (go_at_call 7; refine (pask_in W.heap.size _ w7 x _ _ HL2.out hS7 (by omega) (TabB.on HT.out hB7)).mono ?_; rintro r w8 ⟨hr8, hD8⟩; rw [HA2.out] at hr8; subst hr8; simp only [repV]; have hz8 := hD8.size; have hB8 : Below W.heap.size W w8 := hB7.trans (hD8.below (by omega))))
      go_ret
      exact ⟨rfl, (hB8.alloc (by omega) _).trans (hb9.mono (by rw [World.size_alloc]; omega))⟩
    · have hg2 : n + m < -999999999 := by omega
      have hzx := hbx.size
      have HBx : Hid (Below W.heap.size W wc) := HBa.out.trans (hbx.mono hza)
      have HSx : Hid _ := HS.out.below hbx
      have hzw : W.heap.size ≤ wc.heap.size := by omega
      have hRx := (hbx.block _ sl).trans HRB.out
      have q0 := blk_cell hRx 0
      have q1 := blk_cell hRx 1
      have q2 := blk_cell hRx 2
      have q3 := blk_cell hRx 3
      have qf := blk_frozen hRx
      have ql := blk_lt hRx
      simp at q0 q1 q2 q3
      have HRx : Hid _ := hRx
      clear s0 s1 s2 s3 sf hbx hRx
      go_wp2_with (first
          | (go_at_call 8; refine (ktold_any Rf.yesB _).mono ?_; rintro r w9 ⟨rfl, hb9⟩)
          | (go_at_call 9; refine (konly_any 11 _).mono ?_; rintro r w7 ⟨rfl, hb7⟩; have hz7 := hb7.size; have hS7 := SeIn.below HSx.out hb7; have hB7 : Below W.heap.size W w7 := HBx.out.trans (hb7.mono hzw))
          | (go_at_call 7; refine (pask_in W.heap.size _ w7 x _ _ HL2.out hS7 (by omega) (TabB.on HT.out hB7)).mono ?_; rintro r w8 ⟨hr8, hD8⟩; rw [HA2.out] at hr8; subst hr8; simp only [repV]; have hz8 := hD8.size; have hB8 : Below W.heap.size W w8 := hB7.trans (hD8.below (by omega))))
      go_ret
      exact ⟨rfl, (hB8.alloc (by omega) _).trans (hb9.mono (by rw [World.size_alloc]; omega))⟩
set_option maxHeartbeats 2000000 in
set_option maxRecDepth 100000 in
theorem reckons_out_ge (W : World) (p q n m : Int) (hp : -9223372036854775808 ≤ p) (hp' : p ≤ 9223372036854775807) (hq : -9223372036854775808 ≤ q) (hq' : q ≤ 9223372036854775807) (hT : Tab W) (hn : (Rf.pickK p 1999999999 : Int) - 999999999 = n) (hm : (Rf.pickK q 1999999999 : Int) - 999999999 = m) (hr : n + m < -999999999 ∨ 999999999 < n + m) (hl : ¬ n < m) :
    Calls Tryd.prog 3 #[.int .i64 p, .int .i64 q] W fun r w' => r = .returned (.bool true) ∧ Below W.heap.size W w' := by
  have hn0 : -999999999 ≤ n := by omega
  have hn1 : n ≤ 999999999 := by have := Rf.pickK_lt (c := p) (n := 1999999999) (by omega); omega
  have hm0 : -999999999 ≤ m := by omega
  have hm1 : m ≤ 999999999 := by have := Rf.pickK_lt (c := q) (n := 1999999999) (by omega); omega
  have HT : Hid (TabB W.heap.size W) := tab_new hT
  have Hn : Hid ((Rf.pickK p 1999999999 : Int) - 999999999 = n) := hn
  have Hm : Hid ((Rf.pickK q 1999999999 : Int) - 999999999 = m) := hm
  obtain ⟨nB, nBe⟩ : ∃ nB, Hid (Rf.itoaB n = nB) := ⟨_, rfl⟩
  obtain ⟨mB, mBe⟩ : ∃ mB, Hid (Rf.itoaB m = mB) := ⟨_, rfl⟩
  obtain ⟨ss, sse⟩ : ∃ ss, Hid (Rf.itoaB (n + m) = ss) := ⟨_, rfl⟩
  have zn : nB.size ≤ 21 := by rw [← nBe.out]; exact itoa_sz n (by omega) (by omega)
  have zm : mB.size ≤ 21 := by rw [← mBe.out]; exact itoa_sz m (by omega) (by omega)
  have zs : ¬ 9223372036854775807 < 4 + ss.size := by have := itoa_sz (n + m) (by omega) (by omega); rw [sse.out] at this; omega
  have z1 : (⟨#[112, 108, 117, 115, 40]⟩ ++ nB : ByteArray).size ≤ 26 := by rw [ByteArray.size_append]; have : (⟨#[112, 108, 117, 115, 40]⟩ : ByteArray).size = 5 := rfl; omega
  have z2 : (⟨#[112, 108, 117, 115, 40]⟩ ++ nB ++ ⟨#[44]⟩ : ByteArray).size ≤ 27 := by rw [ByteArray.size_append]; have : (⟨#[44]⟩ : ByteArray).size = 1 := rfl; omega
  have z3 : (⟨#[112, 108, 117, 115, 40]⟩ ++ nB ++ ⟨#[44]⟩ ++ mB : ByteArray).size ≤ 48 := by rw [ByteArray.size_append]; omega
  have y1 : (⟨#[108, 101, 115, 115, 40]⟩ ++ nB : ByteArray).size ≤ 26 := by rw [ByteArray.size_append]; have : (⟨#[108, 101, 115, 115, 40]⟩ : ByteArray).size = 5 := rfl; omega
  have y2 : (⟨#[108, 101, 115, 115, 40]⟩ ++ nB ++ ⟨#[44]⟩ : ByteArray).size ≤ 27 := by rw [ByteArray.size_append]; have : (⟨#[44]⟩ : ByteArray).size = 1 := rfl; omega
  have y3 : (⟨#[108, 101, 115, 115, 40]⟩ ++ nB ++ ⟨#[44]⟩ ++ mB : ByteArray).size ≤ 48 := by rw [ByteArray.size_append]; omega
  have HL1 : Hid ((⟨#[112, 108, 117, 115, 40]⟩ ++ nB ++ ⟨#[44]⟩ ++ mB ++ ⟨#[44, 88, 41, 46]⟩ : ByteArray).size ≤ maxLen) := by
    unfold Hid; rw [ByteArray.size_append]; have : (⟨#[44, 88, 41, 46]⟩ : ByteArray).size = 4 := rfl; unfold maxLen; omega
  have HL2 : Hid ((⟨#[108, 101, 115, 115, 40]⟩ ++ nB ++ ⟨#[44]⟩ ++ mB ++ ⟨#[41, 46]⟩ : ByteArray).size ≤ maxLen) := by
    unfold Hid; rw [ByteArray.size_append]; have : (⟨#[41, 46]⟩ : ByteArray).size = 2 := rfl; unfold maxLen; omega
  have HA1 : Hid (∀ k, (Rf.askS ⟨2, [], k⟩ (⟨#[112, 108, 117, 115, 40]⟩ ++ nB ++ ⟨#[44]⟩ ++ mB ++ ⟨#[44, 88, 41, 46]⟩)).1 = ⟨11, ⟨#[]⟩, 0, 0⟩ ∧ ∃ q', (Rf.askS ⟨2, [], k⟩ (⟨#[112, 108, 117, 115, 40]⟩ ++ nB ++ ⟨#[44]⟩ ++ mB ++ ⟨#[44, 88, 41, 46]⟩)).2 = ⟨2, [], q'⟩) := fun k => by
    rw [← nBe.out, ← mBe.out]
    have h9 := Rf.ReckonsL.ask_plus hn0 hn1 hm0 hm1 k
    refine ⟨h9.1.trans ?_, h9.2⟩
    unfold Rf.ReckonsL.plusR
    rw [if_pos hr]
    rfl
  have HA2 : Hid (∀ k, (Rf.askS ⟨2, [], k⟩ (⟨#[108, 101, 115, 115, 40]⟩ ++ nB ++ ⟨#[44]⟩ ++ mB ++ ⟨#[41, 46]⟩)).1 = ⟨2, ⟨#[]⟩, 0, 0⟩) := fun k => by
    rw [← nBe.out, ← mBe.out]
    refine (Rf.ReckonsL.ask_less hn0 hn1 hm0 hm1 k).trans ?_
    unfold Rf.ReckonsL.lessR
    rw [if_neg hl]
    rfl
  have hwr : IntKind.i64.wrap (n + m) = n + m := wrap_n (by omega) (by omega)
  clear hT hn hm
  go_enter Tryd.func3, Tryd.ntmps3
  go_wp2_with (first
    | (go_at_call 7; refine (pask_in W.heap.size _ w4 x _ _ HL1.out (hS2.below (hb3.trans (hb4.mono hz3))) (by omega) (TabB.on HT.out hB4)).mono ?_; rintro r w5 ⟨hr5, hD5⟩; obtain ⟨e1, q', e2⟩ := HA1.out none; rw [e1] at hr5; rw [e2] at hD5; subst hr5; simp only [repV])
    | (go_at_call 6; have h9 := hb3; refine (kitoa m _ (by omega) (by omega) (TabB.tab (TabB.on HT.out hB3))).mono ?_; rintro r w4 ⟨hr4, hb4⟩; rw [mBe.out] at hr4; subst hr4; have hz4 := hb4.size; have hB4 : Below W.heap.size W w4 := hB3.trans (hb4.mono (by omega)))
    | (go_at_call 6; refine (kitoa n _ (by omega) (by omega) (TabB.tab (TabB.on HT.out hb2))).mono ?_; rintro r w3 ⟨hr3, hb3⟩; rw [nBe.out] at hr3; subst hr3; have hz3 := hb3.size; have hB3 : Below W.heap.size W w3 := hb2.trans (hb3.mono hb2.size))
    | (go_at_call 5; refine (kbegun_any W.heap.size 2 ⟨#[]⟩ _ W (by omega) (by omega) (by decide) Rf.read_none (by decide) (Nat.le_refl _)).mono ?_; rintro r w2 ⟨x, rfl, hS2, hb2⟩; have hz2 := hb2.size)
    | (go_at_call 4; have h9 := mk1; refine (ksmall_any q _ hq hq').mono ?_; rintro r w0 ⟨hr0, hw0⟩; rw [Hm.out] at hr0; subst hr0; subst w0)
    | (go_at_call 4; refine (ksmall_any p _ hp hp').mono ?_; rintro r w0 ⟨hr0, hw0⟩; rw [Hn.out] at hr0; subst hr0; subst w0; have mk1 : Hid True := trivial))
  have hz5 := hD5.size
  have hB5 : Below W.heap.size W w5 := hB4.trans (hD5.below (by omega))
  have hRB5 : RB (w5.alloc (.cells #[.int .i64 11, .string (⟨#[]⟩), .int .i64 0, .int .i64 0] 28)) w5.heap.size ⟨11, ⟨#[]⟩, 0, 0⟩ := blk_new w5 _
  have hS5 := hD5.1.below ((Below.refl w5.heap.size w5).alloc (Nat.le_refl _) (.cells #[.int .i64 11, .string (⟨#[]⟩), .int .i64 0, .int .i64 0] 28))
  have hB5a : Below W.heap.size W (w5.alloc (.cells #[.int .i64 11, .string (⟨#[]⟩), .int .i64 0, .int .i64 0] 28)) := hB5.alloc (by omega) _
  have hL0 : W.heap.size ≤ w5.heap.size := by omega
  have Hz5 : Hid (∀ k, Grow (fun k => W.heap.size ≤ k ∧ k < w2.heap.size) w4 w5 k → k < w5.heap.size) := fun k e => hD5.1.hi k e
  clear hD5 hB4 hB3 hb2 hb3 hb4 hS2 hB5 mk1
  generalize hw5 : w5.alloc (.cells #[.int .i64 11, .string (⟨#[]⟩), .int .i64 0, .int .i64 0] 28) = wa at hRB5 hS5 hB5a ⊢
  clear hw5
  have s0 := blk_cell hRB5 0
  have s1 := blk_cell hRB5 1
  have s2 := blk_cell hRB5 2
  have s3 := blk_cell hRB5 3
  have sf := blk_frozen hRB5
  have sl := blk_lt hRB5
  simp at s0 s1 s2 s3
  have hza := hB5a.size
  have HRB : Hid _ := hRB5
  have HS : Hid _ := hS5
  have HBa : Hid _ := hB5a
  have HTa : Hid (TabB W.heap.size wa) := TabB.on HT.out hB5a
  clear hRB5 hS5 hB5a
  go_cut [11] from 32 to 38 (fun b wx => b = .bool false ∧ Below wa.heap.size wa wx)
  case first =>
    go_region_law (first
      | (refine step_call1 rfl 6 (.tmp 35) _ rfl (.int .i64 (n + m)) rfl (fun _ => callItoa _ _) (kitoa _ _ (by omega) (by omega) (TabB.tab (TabB.on HTa.out (by repeat (first | exact Below.refl _ _ | refine Below.setCell ?_ (by simp <;> omega) _ | refine Below.drew ?_ | refine Below.drewN ?_ _ | refine Below.alloc ?_ (by simp <;> omega) _))))) ?_; rintro r w6 ⟨hr6, hb6⟩; rw [sse.out] at hr6; subst hr6; refine ⟨_, rfl, ?_⟩; have hz6 := hb6.size; have hR6 := (hb6.block w5.heap.size (by simp <;> omega)).trans HRB.out; have u0 := blk_cell hR6 0; have u1 := blk_cell hR6 1; have u2 := blk_cell hR6 2; have u3 := blk_cell hR6 3; have uf := blk_frozen hR6; have ul := blk_lt hR6; simp at u0 u1 u2 u3; have hb6' : Below wa.heap.size wa w6 := ((Below.refl _ _).drew).trans hb6)
      | (refine step_call2 rfl 8 (.tmp 32) (.tmp 37) _ rfl (.agg #[.int .i64 11, .string ⟨#[]⟩, .int .i64 0, .int .i64 0]) (.string (xeB ++ ss)) rfl rfl (fun _ => callTold _ _) (ktold_no 11 _ _ _ rfl) ?_; rintro r w6 ⟨rfl, hb6⟩; refine ⟨_, rfl, ?_⟩))
    all_goals
      go_wp2_with fail
      go_meet
      exact ⟨rfl, hb6'.trans (hb6.mono hb6'.size)⟩
  case rest =>
    obtain ⟨rfl, hbx⟩ := hcut
    by_cases hg1 : (999999999 : Int) < n + m
    · skip
      have hzx := hbx.size
      have HBx : Hid (Below W.heap.size W wc) := HBa.out.trans (hbx.mono hza)
      have HSx : Hid _ := HS.out.below hbx
      have hzw : W.heap.size ≤ wc.heap.size := by omega
      have hRx := (hbx.block _ sl).trans HRB.out
      have q0 := blk_cell hRx 0
      have q1 := blk_cell hRx 1
      have q2 := blk_cell hRx 2
      have q3 := blk_cell hRx 3
      have qf := blk_frozen hRx
      have ql := blk_lt hRx
      simp at q0 q1 q2 q3
      have HRx : Hid _ := hRx
      clear s0 s1 s2 s3 sf hbx hRx
      go_wp2_with (first
          | (go_at_call 9; have h9 := hD8; refine (konly_any 2 _).mono ?_; rintro r w9 ⟨rfl, hb9⟩)
          | (go_at_call 9; refine (konly_any 11 _).mono ?_; rintro r w7 ⟨rfl, hb7⟩; have hz7 := hb7.size; have hS7 := SeIn.below HSx.out hb7; have hB7 : Below W.heap.size W w7 := HBx.out.trans (hb7.mono hzw))
          | (go_at_call 7; refine (pask_in W.heap.size _ w7 x _ _ HL2.out hS7 (by omega) (TabB.on HT.out hB7)).mono ?_; rintro r w8 ⟨hr8, hD8⟩; rw [HA2.out] at hr8; subst hr8; simp only [repV]; have hz8 := hD8.size; have hB8 : Below W.heap.size W w8 := hB7.trans (hD8.below (by omega))))
      go_ret
      exact ⟨rfl, (hB8.alloc (by omega) _).trans (hb9.mono (by rw [World.size_alloc]; omega))⟩
    · have hg2 : n + m < -999999999 := by omega
      have hzx := hbx.size
      have HBx : Hid (Below W.heap.size W wc) := HBa.out.trans (hbx.mono hza)
      have HSx : Hid _ := HS.out.below hbx
      have hzw : W.heap.size ≤ wc.heap.size := by omega
      have hRx := (hbx.block _ sl).trans HRB.out
      have q0 := blk_cell hRx 0
      have q1 := blk_cell hRx 1
      have q2 := blk_cell hRx 2
      have q3 := blk_cell hRx 3
      have qf := blk_frozen hRx
      have ql := blk_lt hRx
      simp at q0 q1 q2 q3
      have HRx : Hid _ := hRx
      clear s0 s1 s2 s3 sf hbx hRx
      go_wp2_with (first
          | (go_at_call 9; have h9 := hD8; refine (konly_any 2 _).mono ?_; rintro r w9 ⟨rfl, hb9⟩)
          | (go_at_call 9; refine (konly_any 11 _).mono ?_; rintro r w7 ⟨rfl, hb7⟩; have hz7 := hb7.size; have hS7 := SeIn.below HSx.out hb7; have hB7 : Below W.heap.size W w7 := HBx.out.trans (hb7.mono hzw))
          | (go_at_call 7; refine (pask_in W.heap.size _ w7 x _ _ HL2.out hS7 (by omega) (TabB.on HT.out hB7)).mono ?_; rintro r w8 ⟨hr8, hD8⟩; rw [HA2.out] at hr8; subst hr8; simp only [repV]; have hz8 := hD8.size; have hB8 : Below W.heap.size W w8 := hB7.trans (hD8.below (by omega))))
      go_ret
      exact ⟨rfl, (hB8.alloc (by omega) _).trans (hb9.mono (by rw [World.size_alloc]; omega))⟩
end ReckonsW
end Go.Proofs.YtpdikdnffehmkaaDoor
/- The given card of Reckons, out of its walk. -/
namespace Go.Proofs.YtpdikdnffehmkaaDoor
open Go.ChangeShapes Go.WideShapes Go.ChangeAt Go.RowKit Go.Deep
/-- What the walk has to give. -/
def ReckonsWalk : Prop := ∀ (W : World) (n0 : Int) (n1 : Int), -9223372036854775808 ≤ n0 → n0 ≤ 9223372036854775807 → -9223372036854775808 ≤ n1 → n1 ≤ 9223372036854775807 → Lib.TabIs Tryd.prog W "internal/strconv.uint64pow10" .u64 Lib.pow10Tab →
    Calls Tryd.prog 3 #[.int .i64 n0, .int .i64 n1] W fun e W' => e = .returned (.bool true) ∧ Below W.heap.size W W'
namespace ReckonsC
theorem table {W : World} (h : laidMetH Tryd.prog Rows.reckonsRow.laid W) : Lib.TabIs Tryd.prog W "internal/strconv.uint64pow10" .u64 Lib.pow10Tab := by
  have h' : laidMet Tryd.prog Rows.reckonsRow.laid W := by
    rw [MakeChecks.laidMetH_plain _ _ _ (by kernel_rfl)] at h
    exact h
  exact Lib.tabIs_of_head Tryd.gTab Tryd.gTabType Tryd.underlying91 Tryd.underlying76 Tryd.cellsU64 Tryd.cellsTab (laidMet.tail (laidMet.tail h'))
section
variable {H : Type} {enc : TypeId × Value → H}
set_option maxRecDepth 100000 in
/-- What the walk gives, for every argument and every world that holds the table. -/
theorem contract (hw : ReckonsWalk) (W : World) (base : Nat) (args : Array Value) (ds gs : List (DataW H)) (before : List MemPlace)
    (hval : ∀ (j : Nat) t v, Tryd.f3.params[j]? = some t → args[j]? = some v → Value.okWide Tryd.prog W .any base t v)
    (hW : DataW.Whole enc Tryd.prog Tryd.f3.params.toList Rows.reckonsSpec.vars false W args.toList ds gs before)
    (hsz : (DataW.weightsEach Tryd.prog (Tryd.f3.params.toList ++ (OpenSpec.ofChange Rows.reckonsSpec).bare.plain.varTypes Tryd.prog) (ds ++ gs)).all (· ≤ reachBytes) = true)
    (hL : laidMetH Tryd.prog Rows.reckonsRow.laid W) :
    Calls Tryd.prog 3 args W fun e W' => ∃ v, e = .returned v ∧ Rows.reckonsSpec.post enc Tryd.prog Tryd.f3 false true false false W args v W' := by
  have hW' := hW
  obtain ⟨p, q, hA0, hV, rfl, hfz, hnd⟩ := hW
  have hA : DataW.TrodAll enc Tryd.prog W 0 (fun _ => true) true Tryd.f3.params.toList args.toList ds p := hA0
  rw [Tryd.params3] at hA hval hsz
  obtain ⟨v0, vs0, d0, ds0, p0, q0, hargs, rfl, rfl, h0, r0⟩ := trodAll_cons hA
  obtain ⟨v1, vs1, d1, ds1, p1, q1, rfl, rfl, rfl, h1, r1⟩ := trodAll_cons r0
  obtain ⟨rfl, rfl, rfl⟩ := trodAll_nil r1
  obtain rfl : args = #[v0, v1] := by cases args; simp_all
  obtain ⟨rfl, rfl⟩ := trodVars_none hV
  clear hA0
  have hv0 := hval 0 3 v0 rfl rfl
  obtain ⟨n0, rfl, rfl, rfl, hwf0⟩ := open_int Tryd.underlying3 hv0 h0
  have hn0 := i64_wf hwf0
  have hv1 := hval 1 3 v1 rfl rfl
  obtain ⟨n1, rfl, rfl, rfl, hwf1⟩ := open_int Tryd.underlying3 hv1 h1
  have hn1 := i64_wf hwf1
  refine (hw W n0 n1 hn0.1 hn0.2 hn1.1 hn1.2 (table hL)).mono fun e W' ⟨he, hB⟩ => ?_
  subst he
  have hlt : ∀ x ∈ ([] : List MemPlace) ++ (([] : List MemPlace) ++ []) ++ [], x.block < W.heap.size := fun x hx => hW'.lt x hx
  refine ⟨_, rfl, [.lit (.int .i64 n0), .lit (.int .i64 n1)], [], _, [], ([] : List MemPlace) ++ (([] : List MemPlace) ++ []), [], hW', ?_, ?_, ?_, hB.frame _, fun h => by cases h⟩
  · exact trodAll_cons_mk (shut_bool Tryd.underlying4 true) trodAll_mk0
  · exact (trodAll_cons_mk (again (of_decide_eq_true (by kernel_rfl)) h0 hB (fun x hx => by simp at hx)) (trodAll_cons_mk (again (of_decide_eq_true (by kernel_rfl)) h1 hB (fun x hx => by simp at hx)) trodAll_mk0))
  · rfl
end
theorem laid_met (os : Os) : laidMet Tryd.prog Rows.reckonsRow.laid ((World.doorLaid Tryd.prog 400 os).forCall (fun _ _ => 0) ⟨#[], #[.int .i64 0, .int .i64 0], []⟩).memory :=
  laidMet_of_run' 8 (by kernel_rfl) (by kernel_rfl)
theorem reads (os : Os) {H : Type} (enc : TypeId × Value → H) : ∃ places, DataW.whole enc Tryd.prog ((World.doorLaid Tryd.prog 400 os).forCall (fun _ _ => 0) ⟨#[], #[.int .i64 0, .int .i64 0], []⟩).memory Tryd.f3.params.toList Rows.reckonsSpec.vars false #[Value.int .i64 0, .int .i64 0].toList 8 = some ([.lit (.int .i64 0), .lit (.int .i64 0)], [], places) :=
  ⟨[], by kernel_rfl⟩
set_option maxRecDepth 100000 in
theorem lifted (hw : ReckonsWalk) (os : Os) (started : os.Started) (H : Type) (enc : TypeId × Value → H) (F : Stop.Interp) :
    ReturnsInHanded {} Tryd.checked os 3 .any ((OpenSpec.ofChange Rows.reckonsSpec).preRow enc Tryd.prog Tryd.f3 Rows.reckonsRow.domain false Rows.reckonsRow.laid) (((OpenSpec.ofChange Rows.reckonsSpec).at F).post enc Tryd.prog Tryd.f3 false true false false) := by
  obtain ⟨places, hx⟩ := reads os enc
  refine returnsInHanded_of_row (C := Tryd.checked) (s := OpenSpec.ofChange Rows.reckonsSpec) Tryd.own started (by kernel_rfl) Tryd.func3
    (witness_row_atRef (enc := enc) (C := Tryd.checked) false (World.doorLaid Tryd.prog 400 os) #[.int .i64 0, .int .i64 0] rfl (by kernel_rfl) (by kernel_rfl) (by kernel_rfl)
      (OpenSpec.preRow_of_cond 8 hx (by kernel_rfl) (fun k hk => by cases hk) (by kernel_rfl) (laid_met os))) ?_
  intro W base args ds gs before hval hW _ _ hsz hL _ _
  exact contract hw W base args ds gs before hval hW hsz hL
theorem said (hw : ReckonsWalk) : Rows.ReckonsSaid :=
  OpenClaim.holds_of_cond 3 Tryd.f3 rfl rfl rfl rfl rfl rfl rfl ⟨rfl, rfl, rfl, rfl, rfl⟩ rfl rfl rfl rfl rfl (by kernel_rfl) Tryd.func3 (by kernel_rfl)
    (of_decide_eq_true (by kernel_rfl)) (by unfold Func.isWrapper; first | (rw [if_pos (by decide +kernel)]; kernel_rfl) | (rw [if_neg (by decide +kernel)]; exact ⟨rfl, rfl⟩))
    (fun os started H enc _ F => by rw [OpenClaim.pre_eq_preRow]; exact lifted hw os started H enc F)
theorem plain (f : FuncId) (fn : Func) (hf : Tryd.pinned.checked.prog.funcNamed "prompt/promptkeep.Reckons" = some f) (hfn : Tryd.pinned.checked.prog.funcs[f]? = some fn) :
    false = Tryd.pinned.checked.prog.looks [] ∧ ∀ (j : Nat) t, fn.params[j]? = some t → Tryd.pinned.checked.prog.wantsStandIn t = false := by
  obtain rfl : f = 3 := Option.some.inj ((show Tryd.prog.funcNamed "prompt/promptkeep.Reckons" = some 3 by kernel_rfl).symm.trans hf) |>.symm
  obtain rfl : fn = Tryd.f3 := (Option.some.inj (Tryd.func3.symm.trans hfn)).symm
  refine ⟨by kernel_rfl, fun j t ht => ?_⟩
  rw [Tryd.params3] at ht
  have hm := Array.mem_of_getElem? ht
  simp at hm
  subst hm
  exact (show Tryd.prog.wantsStandIn 3 = false by kernel_rfl)
theorem card_of (hw : ReckonsWalk) : Rows.ReckonsCardSaid :=
  Claim7.holds_tied_plain_at .later [] _ _ _ _ (said hw) (fun _ h => by cases h) (by kernel_rfl) (fun _ h => by cases h) reckons_row_tie rfl ⟨rfl, rfl⟩ (by kernel_rfl) rfl plain (by kernel_rfl)
end ReckonsC
end Go.Proofs.YtpdikdnffehmkaaDoor
