/- The statements' works: answers that the document fixes. -/
import Derived.Test.YtpdikdnffehmkaaGreatDoorYaw
import Derived.Test.YtpdikdnffehmkaaGreatDoorYax
import Derived.Deep.CutRange
import Derived.Deep.RegionHeld2
import Derived.Test.YtpdikdnffehmkaaGreatDoorCards
import Derived.Test.YtpdikdnffehmkaaGreatDoorTie
namespace Go.Proofs.YtpdikdnffehmkaaGreatDoor
open Go.RowKit
theorem tab_here {w : World} (h : Tab w) : TabB w.heap.size w := Lib.tabBelow_of_tabIs h
theorem list_ab : listingP Rf.WorksL.cls = ⟨#[112, 40, 97, 41, 46, 10, 112, 40, 98, 41, 46, 10]⟩ := rfl
def pxT : ByteArray := ⟨#[112, 40, 88, 41, 46]⟩
def xaT : ByteArray := ⟨#[88, 32, 61, 32, 97]⟩
def xbT : ByteArray := ⟨#[88, 32, 61, 32, 98]⟩
set_option maxHeartbeats 2000000 in
set_option maxRecDepth 100000 in
theorem kworks_any (W : World) (hT : Tab W) : Calls Tryz.prog 23 #[] W fun r w' => r = .returned (.bool true) ∧ Below W.heap.size W w' := by
  have HT : Hid (TabB W.heap.size W) := tab_here hT
  have HA : Hid (Rf.askS ⟨9, Rf.WorksL.cls, none⟩ pxT = (⟨1, xaT, 0, 0⟩, Rf.WorksL.st 0)) := Rf.WorksL.ask_ab
  have HM1 : Hid (Rf.moreS (Rf.WorksL.st 0) = (⟨1, xbT, 0, 0⟩, Rf.WorksL.st 1)) := Rf.WorksL.more_ab
  have HM2 : Hid (Rf.moreS (Rf.WorksL.st 1) = (⟨2, ⟨#[]⟩, 0, 0⟩, Rf.WorksL.st 2)) := Rf.WorksL.more_no
  clear hT
  go_enter Tryz.func23, Tryz.ntmps23
  go_wp2_with (first
    | (go_at_call 18; refine (konly_any 2 _).mono ?_; rintro r w9 ⟨rfl, hb9⟩)
    | (go_at_call 19; have h9 := hb7; refine (ktold_any xbT _).mono ?_; rintro r w8 ⟨rfl, hb8⟩; have hz8 := hb8.size; have e8 := (hb8.block w4.heap.size (by omega)).trans e7; have v0 := blk_cell e8 0; have v1 := blk_cell e8 1; have v2 := blk_cell e8 2; have v3 := blk_cell e8 3; have vf := blk_frozen e8; have vl := blk_lt e8; simp at v0 v1 v2 v3)
    | (go_at_call 19; refine (ktold_any xaT _).mono ?_; rintro r w7 ⟨rfl, hb7⟩; have hz7 := hb7.size; have d7 := (hb7.block w3.heap.size (by omega)).trans d6; have e7 := (hb7.block w4.heap.size (by omega)).trans e6; have u0 := blk_cell d7 0; have u1 := blk_cell d7 1; have u2 := blk_cell d7 2; have u3 := blk_cell d7 3; have uf := blk_frozen d7; have ul := blk_lt d7; simp at u0 u1 u2 u3)
    | (go_at_call 27; refine (plisting_in W.heap.size _ _ x _ (hD4.1.below ((Below.refl _ _).alloc (Nat.le_refl _) _)) (TabB.on HT.out (hB4.alloc (by omega) _))).mono ?_; rintro r w6 ⟨hr6, hb6⟩; rw [show listingP (Rf.WorksL.st 2).cls = listingP Rf.WorksL.cls from rfl, list_ab] at hr6; subst hr6; have hz6 := hb6.size; rw [World.size_alloc] at hz6; have c6 := (hb6.block w2.heap.size (by rw [World.size_alloc]; omega)).trans (blk_alloc c4 _); have d6 := (hb6.block w3.heap.size (by rw [World.size_alloc]; omega)).trans (blk_alloc d4 _); have e6 := (hb6.block w4.heap.size (by rw [World.size_alloc]; omega)).trans (blk_new w4 _); have t0 := blk_cell c6 0; have t1 := blk_cell c6 1; have t2 := blk_cell c6 2; have t3 := blk_cell c6 3; have tf := blk_frozen c6; have tl := blk_lt c6; simp at t0 t1 t2 t3)
    | (go_at_call 20; have h9 := hD3; refine (pmore_in W.heap.size _ _ x _ (hD3.1.below ((Below.refl _ _).alloc (Nat.le_refl _) _)) (by rw [World.size_alloc]; omega) (TabB.on HT.out (hB3.alloc (by omega) _))).mono ?_; rintro r w4 ⟨hr4, hD4⟩; rw [HM2.out] at hr4 hD4; subst hr4; simp only [repV]; have hz4 := hD4.size; rw [World.size_alloc] at hz4; have hB4 : Below W.heap.size W w4 := (hB3.alloc (by omega) _).trans (hD4.below (by rw [World.size_alloc]; omega)); have c4 := hD4.rb (blk_alloc c3 _); have d4 := hD4.rb (blk_new w3 _))
    | (go_at_call 20; refine (pmore_in W.heap.size _ _ x _ (hD2.1.below ((Below.refl _ _).alloc (Nat.le_refl _) _)) (by rw [World.size_alloc]; omega) (TabB.on HT.out (hB2.alloc (by omega) _))).mono ?_; rintro r w3 ⟨hr3, hD3⟩; rw [HM1.out] at hr3 hD3; subst hr3; simp only [repV]; have hz3 := hD3.size; rw [World.size_alloc] at hz3; have hB3 : Below W.heap.size W w3 := (hB2.alloc (by omega) _).trans (hD3.below (by rw [World.size_alloc]; omega)); have c3 := hD3.rb (blk_new w2 _))
    | (go_at_call 17; refine (pask_in W.heap.size _ w1 x _ pxT (by decide) hS1 hb1.size (TabB.on HT.out hb1)).mono ?_; rintro r w2 ⟨hr2, hD2⟩; rw [HA.out] at hr2 hD2; subst hr2; simp only [repV]; have hz2 := hD2.size; have hB2 : Below W.heap.size W w2 := hb1.trans (hD2.below hb1.size))
    | (go_at_call 16; refine (kbegun_any W.heap.size 9 Rf.WorksL.abT _ W (by omega) (by omega) (by decide) Rf.WorksL.read_ab (by decide) (Nat.le_refl _)).mono ?_; rintro r w1 ⟨x, rfl, hS1, hb1⟩; have hz1 := hb1.size))
  go_ret
  refine ⟨rfl, ?_⟩
  have hB6 : Below W.heap.size W w6 := (hB4.alloc (by omega) _).trans (hb6.mono (by rw [World.size_alloc]; omega))
  exact ((hB6.trans (hb7.mono hB6.size)).trans (hb8.mono (by omega))).trans (hb9.mono (by omega))
end Go.Proofs.YtpdikdnffehmkaaGreatDoor
/- Longer: a greater limit of steps has the same replies, up to the first that is Limit; walked. -/
namespace Go.Proofs.YtpdikdnffehmkaaGreatDoor
open Go.RowKit
theorem pnew_int (B : Nat) (w : World) (z : Int) (h : 1 ≤ z) (h' : z ≤ 1000) (hB : B ≤ w.heap.size) :
    Calls Tryz.prog 24 #[.int .i64 z] w fun r w' => r = .returned (.tuple #[.pointer (some ⟨w.heap.size, 0, none⟩), .int .i64 0]) ∧ SeIn B (fun k => w.heap.size ≤ k ∧ k < w'.heap.size) w' w.heap.size ⟨z.toNat, [], none⟩ ∧ Below w.heap.size w w' := by
  obtain ⟨k, rfl⟩ := Int.eq_ofNat_of_zero_le (a := z) (by omega)
  exact pnew_in B w k (by omega) (by omega) hB
theorem consult_lg {S T : Rf.Se} (h : Rf.Lg S T) (s : ByteArray) : Rf.Lg (Rf.consultS S s).2 (Rf.consultS T s).2 := by
  refine ⟨h.l, ?_, rfl⟩
  show (Rf.consultC S.cls s).2 = (Rf.consultC T.cls s).2
  rw [h.c]
theorem grow_dis {Gx Gy : Nat → Prop} {w w' : World} (h : ∀ k, Gx k → ¬ Gy k) (hy : ∀ k, Gy k → k < w.heap.size) : ∀ k, Grow Gx w w' k → ¬ Gy k := by
  rintro k (e | e) e2
  · exact h k e e2
  · have := hy k e2; omega
theorem dis_symm {Gx Gy : Nat → Prop} (h : ∀ k, Gx k → ¬ Gy k) : ∀ k, Gy k → ¬ Gx k := fun k e e2 => h k e2 e
/-- Two sessions that own nothing together, nor the blocks LA and LB. -/
structure Two (B : Nat) (w : World) (x y : Nat) (S T : Rf.Se) (LA LB : Nat) : Prop where
  ex : ∃ Gx Gy, SeIn B Gx w x S ∧ SeIn B Gy w y T ∧ (∀ k, Gx k → ¬ Gy k) ∧ ¬ Gx LA ∧ ¬ Gx LB ∧ ¬ Gy LA ∧ ¬ Gy LB
namespace LongerW
theorem step_ask {S T : Rf.Se} (h : Rf.Lg S T) (s : ByteArray) : (Rf.askS S s).1.kind = 5 ∨ ((Rf.askS S s).1 = (Rf.askS T s).1 ∧ Rf.Lg (Rf.askS S s).2 (Rf.askS T s).2) := by
  by_cases h5 : (Rf.askS S s).1.kind = 5
  · exact .inl h5
  · exact .inr (Rf.ask_lg h s h5)
theorem step_more {S T : Rf.Se} (h : Rf.Lg S T) : (Rf.moreS S).1.kind = 5 ∨ ((Rf.moreS S).1 = (Rf.moreS T).1 ∧ Rf.Lg (Rf.moreS S).2 (Rf.moreS T).2) := by
  by_cases h5 : (Rf.moreS S).1.kind = 5
  · exact .inl h5
  · exact .inr (Rf.more_lg h h5)
set_option maxHeartbeats 4000000 in
set_option maxRecDepth 100000 in
theorem longer_any (W : World) (p g : Int) (tx qx : ByteArray) (m : Int) (hp : -9223372036854775808 ≤ p) (hp' : p ≤ 9223372036854775807) (hg : -9223372036854775808 ≤ g) (hg' : g ≤ 9223372036854775807) (htx : tx.size ≤ maxLen) (hqx : qx.size ≤ maxLen) (hm : -9223372036854775808 ≤ m) (hm' : m ≤ 9223372036854775807) (hT : Tab W) :
    Calls Tryz.prog 7 #[.int .i64 p, .int .i64 g, .string tx, .string qx, .int .i64 m] W fun r w' => r = .returned (.bool true) ∧ Below W.heap.size W w' := by
  have HT : Hid (Tab W) := hT
  obtain ⟨a, ha⟩ : ∃ a, Hid (Rf.pickK p 1000 = a) := ⟨_, rfl⟩
  have ha2 : a < 1000 := by have := Rf.pickK_lt (c := p) (n := 1000) (by omega); rw [ha.out] at this; omega
  obtain ⟨b, hb⟩ : ∃ b, Hid (Rf.pickK g (1001 - (1 + (a : Int))) = b) := ⟨_, rfl⟩
  have hb2 : 1 + a + b ≤ 1000 := by have := Rf.pickK_lt (c := g) (n := 1001 - (1 + (a : Int))) (by omega); rw [hb.out] at this; omega
  obtain ⟨N, hN⟩ : ∃ N, Hid (Rf.pickK m 50 = N) := ⟨_, rfl⟩
  have hL0 : Rf.Lg ⟨(1 + (a : Int)).toNat, [], none⟩ ⟨(1 + (a : Int) + b).toNat, [], none⟩ := ⟨by show (1 + (a : Int)).toNat ≤ (1 + (a : Int) + b).toNat; omega, rfl, rfl⟩
  have hL1 := consult_lg hL0 tx
  have HQ := step_ask hL1 qx
  have HQh : Hid _ := HQ
  obtain ⟨S0, hS0⟩ : ∃ S, Hid ((⟨(1 + (a : Int)).toNat, [], none⟩ : Rf.Se) = S) := ⟨_, rfl⟩
  obtain ⟨T0, hT0⟩ : ∃ S, Hid ((⟨(1 + (a : Int) + b).toNat, [], none⟩ : Rf.Se) = S) := ⟨_, rfl⟩
  rw [hS0.out, hT0.out] at HQh
  obtain ⟨P, hP⟩ : ∃ P, Hid (Rf.askS (Rf.consultS S0 tx).2 qx = P) := ⟨_, rfl⟩
  obtain ⟨Q, hQ⟩ : ∃ Q, Hid (Rf.askS (Rf.consultS T0 tx).2 qx = Q) := ⟨_, rfl⟩
  rw [hP.out, hQ.out] at HQh
  obtain ⟨⟨rk, rt, rc, rp⟩, S2⟩ := P
  obtain ⟨⟨sk, st, sc, sp⟩, T2⟩ := Q
  clear hT HQ hL1 hL0
  go_enter Tryz.func7, Tryz.ntmps7
  go_wp2_with (first
    | (go_at_call 17; have h9 := hD6; refine (pask_in w1.heap.size _ _ w2.heap.size _ qx hqx (hy6.below ((Below.refl _ _).alloc (Nat.le_refl _) _)) (by rw [World.size_alloc]; omega) (TabB.on HT1.out (hB6.alloc (by omega) _))).mono ?_; rintro r w7 ⟨hr7, hD7⟩; rw [hQ.out] at hr7 hD7; subst hr7; simp only [repV])
    | (go_at_call 17; refine (pask_in w1.heap.size _ w5 w1.heap.size _ qx hqx hx5 (by omega) (TabB.on HT1.out hB5)).mono ?_; rintro r w6 ⟨hr6, hD6⟩; rw [hP.out] at hr6 hD6; subst hr6; simp only [repV]; have hz6 := hD6.size; have hy6 := hD6.other hD5.1 (dis_symm d5); have hB6 := hB5.trans (hD6.below (by omega)))
    | (go_at_call 25; have h9 := hD4; refine (pconsult_in w1.heap.size _ w4 w2.heap.size _ tx htx hy4 (by omega)).mono ?_; rintro r w5 ⟨hr5, hD5⟩; subst hr5; have hz5 := hD5.size; have hx5 := hD5.other hD4.1 d4; have hB5 := hB4.trans (hD5.below (by omega)); have d5 := dis_symm (grow_dis (w' := w5) (dis_symm d4) hD4.1.hi))
    | (go_at_call 25; refine (pconsult_in w1.heap.size _ w3 w1.heap.size _ tx htx hx3 (by omega)).mono ?_; rintro r w4 ⟨hr4, hD4⟩; subst hr4; have hz4 := hD4.size; have hy4 := hD4.other hy3 (dis_symm d3); have hB4 := hB3.trans (hD4.below (by omega)); have d4 := grow_dis (w' := w4) d3 hy3.hi)
    | (go_at_call 24; have h9 := hx2; refine (pnew_int w1.heap.size w2 _ (by omega) (by omega) hz2).mono ?_; rintro r w3 ⟨rfl, hy3, hb3⟩; rw [hT0.out] at hy3; have hz3 := hb3.size; have hx3 := hx2.below hb3; have hB3 := hb2'.trans (hb3.mono hz2); have d3 : ∀ k, (w1.heap.size ≤ k ∧ k < w2.heap.size) → ¬ (w2.heap.size ≤ k ∧ k < w3.heap.size) := (fun k e e2 => by omega))
    | (go_at_call 24; refine (pnew_int w1.heap.size w1 _ (by omega) (by omega) (Nat.le_refl _)).mono ?_; rintro r w2 ⟨rfl, hx2, hb2'⟩; rw [hS0.out] at hx2; have hz2 := hb2'.size)
    | (go_at_call 21; have h9 := mk1; refine (kpick_any g (1001 - (1 + (a : Int))) _ hg hg' (by omega) (by omega)).mono ?_; rintro r w0 ⟨hr0, hw0⟩; rw [hb.out] at hr0; subst hr0; subst w0)
    | (go_at_call 21; refine (kpick_any p 1000 _ hp hp' (by omega) (by omega)).mono ?_; rintro r w0 ⟨hr0, hw0⟩; rw [ha.out] at hr0; subst hr0; subst w0; have mk1 : Hid True := trivial)
    | (go_at_call 23; refine (kworks_any W HT.out).mono ?_; rintro r w1 ⟨rfl, hb1⟩; have HT1 : Hid (TabB w1.heap.size w1) := tab_here (Tab.below HT.out hb1)))
  have hz7 := hD7.size
  rw [World.size_alloc] at hz7
  have hB7 : Below w1.heap.size w1 w7 := (hB6.alloc (by omega) _).trans (hD7.below (by rw [World.size_alloc]; omega))
  have hRA7 : RB w7 w6.heap.size ⟨rk, rt, rc, rp⟩ := hD7.rb (blk_new w6 _)
  have hx6 := hD6.1.below ((Below.refl w6.heap.size w6).alloc (Nat.le_refl _) (.cells #[.int .i64 rk, .string rt, .int .i64 rc, .int .i64 rp] 33))
  have d6 := grow_dis (w' := w6) d5 hD5.1.hi
  have hx7 := hD7.other hx6 d6
  have d7 := dis_symm (grow_dis (w' := w7) (dis_symm d6) hx6.hi)
  have hTwo : Two w1.heap.size w7 w1.heap.size w2.heap.size S2 T2 w6.heap.size w7.heap.size := by
    refine ⟨_, _, hx7, hD7.1, d7, fun e => ?_, fun e => ?_, fun e => ?_, fun e => ?_⟩
    · have := hD6.1.hi _ e; omega
    · have := hx7.hi _ e; omega
    · rcases e with e | e
      · have := hD5.1.hi _ e; omega
      · rw [World.size_alloc] at e; omega
    · have := hD7.1.hi _ e; omega
  have HTwo : Hid _ := hTwo
  have HRA7 : Hid (RB w7 w6.heap.size ⟨rk, rt, rc, rp⟩) := hRA7
  have HB7 : Hid (Below w1.heap.size w1 w7) := hB7
  have HB1 : Hid (Below W.heap.size W w1) := hb1
  have hlA : w6.heap.size < w7.heap.size := by omega
  have hlB : w1.heap.size ≤ w6.heap.size := by omega
  have hN50 : N < 50 := by have := Rf.pickK_lt (c := m) (n := 50) (by omega); rw [hN.out] at this; omega
  clear hTwo hRA7 hB7 hb1 hx7 hx6 d7 d6 hD7 hD6 hD5 hD4 hB6 hB5 hB4 hB3 hx5 hy6 hy4 hx3 hy3 d5 d4 d3 hx2 hb2' hb3 mk1
  go_loopw [20] (fun iv wr => ∃ (k : Nat) (S T : Rf.Se) (R R' : Rf.Rep), k ≤ N ∧ iv = .int .i64 k ∧ RB wr w6.heap.size R ∧ RB wr w7.heap.size R' ∧ Two w1.heap.size wr w1.heap.size w2.heap.size S T w6.heap.size w7.heap.size ∧ (R.kind = 5 ∨ (R = R' ∧ Rf.Lg S T)) ∧ Below w1.heap.size w1 wr) (fun iv _ => N - (intOf iv).toNat)
  case atStart =>
    obtain ⟨Gx, Gy, t1, t2, t3⟩ := HTwo.out.ex
    exact ⟨0, S2, T2, ⟨rk, rt, rc, rp⟩, ⟨sk, st, sc, sp⟩, by omega, rfl, blk_alloc HRA7.out _, blk_new w7 _, ⟨Gx, Gy, t1.below ((Below.refl _ _).alloc (Nat.le_refl _) _), t2.below ((Below.refl _ _).alloc (Nat.le_refl _) _), t3⟩, HQh.out, HB7.out.alloc (by omega) _⟩
  case round =>
    obtain ⟨k, S, T, ⟨ak, at_, ac, ap⟩, ⟨bk, bt, bc, bp⟩, hk, rfl, hRA, hRB, hTw, hEq, hbr⟩ := hrel
    have hsz := hbr.size
    have s0 := blk_cell hRA 0
    have s1 := blk_cell hRA 1
    have s2 := blk_cell hRA 2
    have s3 := blk_cell hRA 3
    have sf := blk_frozen hRA
    have sl := blk_lt hRA
    have t0 := blk_cell hRB 0
    have t1 := blk_cell hRB 1
    have t2 := blk_cell hRB 2
    have t3 := blk_cell hRB 3
    have tf := blk_frozen hRB
    have tl := blk_lt hRB
    simp at s0 s1 s2 s3 t0 t1 t2 t3
    have HRA : Hid (RB wr w6.heap.size ⟨ak, at_, ac, ap⟩) := hRA
    have HRB : Hid (RB wr w7.heap.size ⟨bk, bt, bc, bp⟩) := hRB
    have HTw : Hid _ := hTw
    have HBR : Hid _ := hbr
    clear hRA hRB hTw hbr
    by_cases h5 : ak = 5
    · subst h5
      clear hEq
      by_cases hlt : k < N
      · have hlt' : (k : Int) < N := by omega
        go_wp2_with (go_at_call 21; refine (kpick_any m 50 _ hm hm' (by omega) (by omega)).mono ?_; rintro r w0 ⟨hr0, hw0⟩; rw [hN.out] at hr0; subst hr0; subst w0)
        go_ret
        exact ⟨rfl, HB1.out.trans (HBR.out.mono HB1.out.size)⟩
      · have hlt' : ¬ (k : Int) < N := by omega
        go_wp2_with (go_at_call 21; refine (kpick_any m 50 _ hm hm' (by omega) (by omega)).mono ?_; rintro r w0 ⟨hr0, hw0⟩; rw [hN.out] at hr0; subst hr0; subst w0)
        go_ret
        exact ⟨rfl, HB1.out.trans (HBR.out.mono HB1.out.size)⟩
    · have hE := hEq.resolve_left h5
      obtain ⟨hE1, hLg⟩ := hE
      injection hE1 with e1 e2 e3 e4
      subst e1 e2 e3 e4
      have HLg : Hid (Rf.Lg S T) := hLg
      have hk5 : (ak == 5) = false := beq_eq_false_iff_ne.2 h5
      clear hEq hLg
      by_cases hlt : k < N
      · have hlt' : (k : Int) < N := by omega
        obtain ⟨Gx, Gy, hx, hy, hd, gxA, gxB, gyA, gyB⟩ := HTw.out.ex
        have hTr : TabB w1.heap.size wr := TabB.on HT1.out HBR.out
        obtain ⟨P5, hP5⟩ : ∃ P, Hid (Rf.moreS S = P) := ⟨_, rfl⟩
        obtain ⟨Q5, hQ5⟩ : ∃ P, Hid (Rf.moreS T = P) := ⟨_, rfl⟩
        have hSt : Hid _ := step_more HLg.out
        rw [hP5.out, hQ5.out] at hSt
        obtain ⟨⟨ak5, at5, ac5, ap5⟩, S5⟩ := P5
        obtain ⟨⟨bk5, bt5, bc5, bp5⟩, T5⟩ := Q5
        have Hx : Hid _ := hx
        have Hy : Hid _ := hy
        have HTr : Hid (TabB w1.heap.size wr) := hTr
        clear hx hy hTr
        go_wp2_with (first
          | (go_at_call 20; have h9 := hD5; refine (pmore_in w1.heap.size Gy _ w2.heap.size _ hy5 (by simp; omega) (TabB.on HT1.out hB5s)).mono ?_; rintro r w8 ⟨hr8, hD8⟩; rw [hQ5.out] at hr8 hD8; subst hr8; simp only [repV]; have hz8 := hD8.size; have hRB8 := hD8.rb hRB5s; have q0 := blk_cell hRB8 0; have q1 := blk_cell hRB8 1; have q2 := blk_cell hRB8 2; have q3 := blk_cell hRB8 3; have qf := blk_frozen hRB8; have ql := blk_lt hRB8; simp at q0 q1 q2 q3)
          | (go_at_call 20; refine (pmore_in w1.heap.size Gx wr w1.heap.size _ Hx.out (by omega) HTr.out).mono ?_; rintro r w5 ⟨hr5, hD5⟩; rw [hP5.out] at hr5 hD5; subst hr5; simp only [repV]; have hz5 := hD5.size; have hRA5 := hD5.rb HRA.out; have hRB5 := hD5.rb HRB.out; have u0 := blk_cell hRA5 0; have u1 := blk_cell hRA5 1; have u2 := blk_cell hRA5 2; have u3 := blk_cell hRA5 3; have uf := blk_frozen hRA5; have ul := blk_lt hRA5; simp at u0 u1 u2 u3; have hB5 : Below w1.heap.size w1 w5 := HBR.out.trans (hD5.below (by omega)); have hB5s : Below w1.heap.size w1 ((((w5.setCell ⟨w6.heap.size, 0, none⟩ (.int .i64 ak5)).setCell ⟨w6.heap.size, 1, none⟩ (.string at5)).setCell ⟨w6.heap.size, 2, none⟩ (.int .i64 ac5)).setCell ⟨w6.heap.size, 3, none⟩ (.int .i64 ap5)) := hB5.trans ((kept4 _ _ _ _ _ _).below (by omega) (fun k hk e => by omega)); have hy5 := (hD5.other Hy.out (dis_symm hd)).set hRA5 gyA (.int .i64 ak5) (.string at5) (.int .i64 ac5) (.int .i64 ap5); have hRB5s : RB ((((w5.setCell ⟨w6.heap.size, 0, none⟩ (.int .i64 ak5)).setCell ⟨w6.heap.size, 1, none⟩ (.string at5)).setCell ⟨w6.heap.size, 2, none⟩ (.int .i64 ac5)).setCell ⟨w6.heap.size, 3, none⟩ (.int .i64 ap5)) w7.heap.size ⟨ak, at_, ac, ap⟩ := ((kept4 _ _ _ _ _ _).block _ (blk_lt hRB5) (by omega)).trans hRB5)
          | (go_at_call 21; refine (kpick_any m 50 _ hm hm' (by omega) (by omega)).mono ?_; rintro r w0 ⟨hr0, hw0⟩; rw [hN.out] at hr0; subst hr0; subst w0))
        have gxA5 : ¬ Grow Gx wr w5 w6.heap.size := fun e => e.elim gxA (fun e => by omega)
        have gxB5 : ¬ Grow Gx wr w5 w7.heap.size := fun e => e.elim gxB (fun e => by omega)
        have d5 := grow_dis (w' := w5) hd Hy.out.hi
        have hx5 := hD5.1.set hRA5 gxA5 (.int .i64 ak5) (.string at5) (.int .i64 ac5) (.int .i64 ap5)
        have hx8 := hD8.other hx5 d5
        have d8 := dis_symm (grow_dis (w' := w8) (dis_symm d5) hx5.hi)
        have hzs : ((((w5.setCell ⟨w6.heap.size, 0, none⟩ (.int .i64 ak5)).setCell ⟨w6.heap.size, 1, none⟩ (.string at5)).setCell ⟨w6.heap.size, 2, none⟩ (.int .i64 ac5)).setCell ⟨w6.heap.size, 3, none⟩ (.int .i64 ap5)).heap.size = w5.heap.size := by simp
        have gyA8 : ¬ Grow Gy ((((w5.setCell ⟨w6.heap.size, 0, none⟩ (.int .i64 ak5)).setCell ⟨w6.heap.size, 1, none⟩ (.string at5)).setCell ⟨w6.heap.size, 2, none⟩ (.int .i64 ac5)).setCell ⟨w6.heap.size, 3, none⟩ (.int .i64 ap5)) w8 w6.heap.size := fun e => e.elim gyA (fun e => by omega)
        have gyB8 : ¬ Grow Gy ((((w5.setCell ⟨w6.heap.size, 0, none⟩ (.int .i64 ak5)).setCell ⟨w6.heap.size, 1, none⟩ (.string at5)).setCell ⟨w6.heap.size, 2, none⟩ (.int .i64 ac5)).setCell ⟨w6.heap.size, 3, none⟩ (.int .i64 ap5)) w8 w7.heap.size := fun e => e.elim gyB (fun e => by omega)
        have hRA8 := hD8.rb (rb_set (R := ⟨ak, at_, ac, ap⟩) hRA5 ⟨ak5, at5, ac5, ap5⟩)
        have hB8 : Below w1.heap.size w1 w8 := hB5s.trans (hD8.below (by omega))
        go_roundw
        case rel =>
          refine ⟨k + 1, S5, T5, ⟨ak5, at5, ac5, ap5⟩, ⟨bk5, bt5, bc5, bp5⟩, by omega, by go_num, ?_, ?_, ⟨_, _, hx8.set hRB8 gxB5 _ _ _ _, hD8.1.set hRB8 gyB8 _ _ _ _, d8, gxA5, gxB5, gyA8, gyB8⟩, hSt.out, hB8.trans ((kept4 _ _ _ _ _ _).below (by omega) (fun k hk e => by omega))⟩
          · exact ((kept4 _ _ _ _ _ _).block _ (blk_lt hRA8) (by omega)).trans hRA8
          · exact rb_set (R := ⟨ak, at_, ac, ap⟩) hRB8 ⟨bk5, bt5, bc5, bp5⟩
        case measure => simp [intOf]; omega
      · have hlt' : ¬ (k : Int) < N := by omega
        go_wp2_with (go_at_call 21; refine (kpick_any m 50 _ hm hm' (by omega) (by omega)).mono ?_; rintro r w0 ⟨hr0, hw0⟩; rw [hN.out] at hr0; subst hr0; subst w0)
        go_ret
        exact ⟨rfl, HB1.out.trans (HBR.out.mono HB1.out.size)⟩
end LongerW
end Go.Proofs.YtpdikdnffehmkaaGreatDoor
/- A text out of a row's data. -/
namespace Go.Proofs.YtpdikdnffehmkaaGreatDoor
open Go.ChangeShapes Go.WideShapes Go.ChangeAt Go.RowKit Go.Deep
section
variable {H : Type} {enc : TypeId × Value → H} {P : Program} {W : World} {sp : Nat → Bool} {held : Bool} {base b0 : Nat} {t : TypeId}
theorem open_str {v : Value} {d : DataW H} {p : List MemPlace} (ht : P.underlying t = some .string) (hval : Value.okWide P W .any b0 t v) (hd : DataW.Trod enc P W base sp held t v d p) :
    ∃ s : ByteArray, v = .string s ∧ d = .lit (.string s.data.toList) ∧ p = [] ∧ s.size ≤ maxLen := by
  obtain ⟨s, rfl⟩ := okWide_string ht hval
  obtain ⟨fuel, hf⟩ := hd
  obtain ⟨s', h, hx, hs⟩ := DataW.trod_string ht hf
  simp [Value.cells] at h
  subst h
  simp only [Prod.mk.injEq] at hx
  exact ⟨s, rfl, hx.1, hx.2, hs⟩
end
end Go.Proofs.YtpdikdnffehmkaaGreatDoor
/- The given card of Longer, out of its walk. -/
namespace Go.Proofs.YtpdikdnffehmkaaGreatDoor
open Go.ChangeShapes Go.WideShapes Go.ChangeAt Go.RowKit Go.Deep
/-- What the walk has to give. -/
def LongerWalk : Prop := ∀ (W : World) (n0 : Int) (n1 : Int) (s2 : ByteArray) (s3 : ByteArray) (n4 : Int), -9223372036854775808 ≤ n0 → n0 ≤ 9223372036854775807 → -9223372036854775808 ≤ n1 → n1 ≤ 9223372036854775807 → s2.size ≤ maxLen → s3.size ≤ maxLen → -9223372036854775808 ≤ n4 → n4 ≤ 9223372036854775807 → Lib.TabIs Tryz.prog W "internal/strconv.uint64pow10" .u64 Lib.pow10Tab →
    Calls Tryz.prog 7 #[.int .i64 n0, .int .i64 n1, .string s2, .string s3, .int .i64 n4] W fun e W' => e = .returned (.bool true) ∧ Below W.heap.size W W'
namespace LongerC
theorem table {W : World} (h : laidMetH Tryz.prog Rows.longerRow.laid W) : Lib.TabIs Tryz.prog W "internal/strconv.uint64pow10" .u64 Lib.pow10Tab := by
  have h' : laidMet Tryz.prog Rows.longerRow.laid W := by
    rw [MakeChecks.laidMetH_plain _ _ _ (by kernel_rfl)] at h
    exact h
  exact Lib.tabIs_of_head Tryz.gTab Tryz.gTabType Tryz.underlying239 Tryz.underlying198 Tryz.cellsU64 Tryz.cellsTab (laidMet.tail (laidMet.tail h'))
section
variable {H : Type} {enc : TypeId × Value → H}
set_option maxRecDepth 100000 in
/-- What the walk gives, for every argument and every world that holds the table. -/
theorem contract (hw : LongerWalk) (W : World) (base : Nat) (args : Array Value) (ds gs : List (DataW H)) (before : List MemPlace)
    (hval : ∀ (j : Nat) t v, Tryz.f7.params[j]? = some t → args[j]? = some v → Value.okWide Tryz.prog W .any base t v)
    (hW : DataW.Whole enc Tryz.prog Tryz.f7.params.toList Rows.longerSpec.vars false W args.toList ds gs before)
    (hsz : (DataW.weightsEach Tryz.prog (Tryz.f7.params.toList ++ (OpenSpec.ofChange Rows.longerSpec).bare.plain.varTypes Tryz.prog) (ds ++ gs)).all (· ≤ reachBytes) = true)
    (hL : laidMetH Tryz.prog Rows.longerRow.laid W) :
    Calls Tryz.prog 7 args W fun e W' => ∃ v, e = .returned v ∧ Rows.longerSpec.post enc Tryz.prog Tryz.f7 false true false false W args v W' := by
  have hW' := hW
  obtain ⟨p, q, hA0, hV, rfl, hfz, hnd⟩ := hW
  have hA : DataW.TrodAll enc Tryz.prog W 0 (fun _ => true) true Tryz.f7.params.toList args.toList ds p := hA0
  rw [Tryz.params7] at hA hval hsz
  obtain ⟨v0, vs0, d0, ds0, p0, q0, hargs, rfl, rfl, h0, r0⟩ := trodAll_cons hA
  obtain ⟨v1, vs1, d1, ds1, p1, q1, rfl, rfl, rfl, h1, r1⟩ := trodAll_cons r0
  obtain ⟨v2, vs2, d2, ds2, p2, q2, rfl, rfl, rfl, h2, r2⟩ := trodAll_cons r1
  obtain ⟨v3, vs3, d3, ds3, p3, q3, rfl, rfl, rfl, h3, r3⟩ := trodAll_cons r2
  obtain ⟨v4, vs4, d4, ds4, p4, q4, rfl, rfl, rfl, h4, r4⟩ := trodAll_cons r3
  obtain ⟨rfl, rfl, rfl⟩ := trodAll_nil r4
  obtain rfl : args = #[v0, v1, v2, v3, v4] := by cases args; simp_all
  obtain ⟨rfl, rfl⟩ := trodVars_none hV
  clear hA0
  have hv0 := hval 0 3 v0 rfl rfl
  obtain ⟨n0, rfl, rfl, rfl, hwf0⟩ := open_int Tryz.underlying3 hv0 h0
  have hn0 := i64_wf hwf0
  have hv1 := hval 1 3 v1 rfl rfl
  obtain ⟨n1, rfl, rfl, rfl, hwf1⟩ := open_int Tryz.underlying3 hv1 h1
  have hn1 := i64_wf hwf1
  have hv2 := hval 2 9 v2 rfl rfl
  obtain ⟨s2, rfl, rfl, rfl, hs2⟩ := open_str Tryz.underlying9 hv2 h2
  have hv3 := hval 3 9 v3 rfl rfl
  obtain ⟨s3, rfl, rfl, rfl, hs3⟩ := open_str Tryz.underlying9 hv3 h3
  have hv4 := hval 4 3 v4 rfl rfl
  obtain ⟨n4, rfl, rfl, rfl, hwf4⟩ := open_int Tryz.underlying3 hv4 h4
  have hn4 := i64_wf hwf4
  refine (hw W n0 n1 s2 s3 n4 hn0.1 hn0.2 hn1.1 hn1.2 hs2 hs3 hn4.1 hn4.2 (table hL)).mono fun e W' ⟨he, hB⟩ => ?_
  subst he
  have hlt : ∀ x ∈ ([] : List MemPlace) ++ (([] : List MemPlace) ++ (([] : List MemPlace) ++ (([] : List MemPlace) ++ (([] : List MemPlace) ++ [])))) ++ [], x.block < W.heap.size := fun x hx => hW'.lt x hx
  refine ⟨_, rfl, [.lit (.int .i64 n0), .lit (.int .i64 n1), .lit (.string s2.data.toList), .lit (.string s3.data.toList), .lit (.int .i64 n4)], [], _, [], ([] : List MemPlace) ++ (([] : List MemPlace) ++ (([] : List MemPlace) ++ (([] : List MemPlace) ++ (([] : List MemPlace) ++ [])))), [], hW', ?_, ?_, ?_, hB.frame _, fun h => by cases h⟩
  · exact trodAll_cons_mk (shut_bool Tryz.underlying4 true) trodAll_mk0
  · exact (trodAll_cons_mk (again (of_decide_eq_true (by kernel_rfl)) h0 hB (fun x hx => by simp at hx)) (trodAll_cons_mk (again (of_decide_eq_true (by kernel_rfl)) h1 hB (fun x hx => by simp at hx)) (trodAll_cons_mk (again (of_decide_eq_true (by kernel_rfl)) h2 hB (fun x hx => by simp at hx)) (trodAll_cons_mk (again (of_decide_eq_true (by kernel_rfl)) h3 hB (fun x hx => by simp at hx)) (trodAll_cons_mk (again (of_decide_eq_true (by kernel_rfl)) h4 hB (fun x hx => by simp at hx)) trodAll_mk0)))))
  · rfl
end
theorem laid_met (os : Os) : laidMet Tryz.prog Rows.longerRow.laid ((World.doorLaid Tryz.prog 400 os).forCall (fun _ _ => 0) ⟨#[], #[.int .i64 0, .int .i64 0, .string ⟨#[]⟩, .string ⟨#[]⟩, .int .i64 0], []⟩).memory :=
  laidMet_of_run' 8 (by kernel_rfl) (by kernel_rfl)
theorem reads (os : Os) {H : Type} (enc : TypeId × Value → H) : ∃ places, DataW.whole enc Tryz.prog ((World.doorLaid Tryz.prog 400 os).forCall (fun _ _ => 0) ⟨#[], #[.int .i64 0, .int .i64 0, .string ⟨#[]⟩, .string ⟨#[]⟩, .int .i64 0], []⟩).memory Tryz.f7.params.toList Rows.longerSpec.vars false #[Value.int .i64 0, .int .i64 0, .string ⟨#[]⟩, .string ⟨#[]⟩, .int .i64 0].toList 8 = some ([.lit (.int .i64 0), .lit (.int .i64 0), .lit (.string []), .lit (.string []), .lit (.int .i64 0)], [], places) :=
  ⟨[], by kernel_rfl⟩
set_option maxRecDepth 100000 in
theorem lifted (hw : LongerWalk) (os : Os) (started : os.Started) (H : Type) (enc : TypeId × Value → H) (F : Stop.Interp) :
    ReturnsInHanded {} Tryz.checked os 7 .any ((OpenSpec.ofChange Rows.longerSpec).preRow enc Tryz.prog Tryz.f7 Rows.longerRow.domain false Rows.longerRow.laid) (((OpenSpec.ofChange Rows.longerSpec).at F).post enc Tryz.prog Tryz.f7 false true false false) := by
  obtain ⟨places, hx⟩ := reads os enc
  refine returnsInHanded_of_row (C := Tryz.checked) (s := OpenSpec.ofChange Rows.longerSpec) Tryz.own started (by kernel_rfl) Tryz.func7
    (witness_row_atRef (enc := enc) (C := Tryz.checked) false (World.doorLaid Tryz.prog 400 os) #[.int .i64 0, .int .i64 0, .string ⟨#[]⟩, .string ⟨#[]⟩, .int .i64 0] rfl (by kernel_rfl) (by kernel_rfl) (by kernel_rfl)
      (OpenSpec.preRow_of_cond 8 hx (by kernel_rfl) (fun k hk => by cases hk) (by kernel_rfl) (laid_met os))) ?_
  intro W base args ds gs before hval hW _ _ hsz hL _ _
  exact contract hw W base args ds gs before hval hW hsz hL
theorem said (hw : LongerWalk) : Rows.LongerSaid :=
  OpenClaim.holds_of_cond 7 Tryz.f7 rfl rfl rfl rfl rfl rfl rfl ⟨rfl, rfl, rfl, rfl, rfl⟩ rfl rfl rfl rfl rfl (by kernel_rfl) Tryz.func7 (by kernel_rfl)
    (of_decide_eq_true (by kernel_rfl)) (by unfold Func.isWrapper; first | (rw [if_pos (by decide +kernel)]; kernel_rfl) | (rw [if_neg (by decide +kernel)]; exact ⟨rfl, rfl⟩))
    (fun os started H enc _ F => by rw [OpenClaim.pre_eq_preRow]; exact lifted hw os started H enc F)
theorem plain (f : FuncId) (fn : Func) (hf : Tryz.pinned.checked.prog.funcNamed "prompt/promptkeep.Longer" = some f) (hfn : Tryz.pinned.checked.prog.funcs[f]? = some fn) :
    true = Tryz.pinned.checked.prog.looks [] ∧ ∀ (j : Nat) t, fn.params[j]? = some t → Tryz.pinned.checked.prog.wantsStandIn t = false := by
  obtain rfl : f = 7 := Option.some.inj ((show Tryz.prog.funcNamed "prompt/promptkeep.Longer" = some 7 by kernel_rfl).symm.trans hf) |>.symm
  obtain rfl : fn = Tryz.f7 := (Option.some.inj (Tryz.func7.symm.trans hfn)).symm
  refine ⟨by kernel_rfl, fun j t ht => ?_⟩
  rw [Tryz.params7] at ht
  have hm := Array.mem_of_getElem? ht
  have hm2 : t ∈ ([3, 3, 9, 9, 3] : List TypeId) := by simpa using hm
  have key : ∀ t ∈ ([3, 3, 9, 9, 3] : List TypeId), Tryz.prog.wantsStandIn t = false := fun t h => by
    simp only [List.mem_cons, List.not_mem_nil, or_false] at h
    rcases h with rfl | rfl | rfl | rfl | rfl <;> kernel_rfl
  exact key t hm2
theorem card_of (hw : LongerWalk) : Rows.LongerCardSaid :=
  Claim7.holds_tied_plain_at .later [] _ _ _ _ (said hw) (fun _ h => by cases h) (by kernel_rfl) (fun _ h => by cases h) longer_row_tie rfl ⟨rfl, rfl⟩ (by kernel_rfl) rfl plain (by kernel_rfl)
end LongerC
end Go.Proofs.YtpdikdnffehmkaaGreatDoor
