
import Derived.Test.YtbiojnljihgpoaaGreatDoorZbk
import Derived.Test.YtbiojnljihgpoaaGreatDoorZah
import Derived.Test.YtbiojnljihgpoaaGreatDoorZbj
import Derived.Test.YtbiojnljihgpoaaGreatDoorZam
import Derived.Deep.RegionHeld2
import Derived.Test.YtbiojnljihgpoaaGreatDoorZbl
namespace Go.Proofs.YtbiojnljihgpoaaGreatDoor
open Go.RowKit
theorem tab_here {w : World} (h : Tab w) : TabB w.heap.size w := Lib.tabBelow_of_tabIs h
theorem list_ab : listingP Rf.WorksL.cls = ⟨#[112, 40, 97, 41, 46, 10, 112, 40, 98, 41, 46, 10]⟩ := rfl
def pxT : ByteArray := ⟨#[112, 40, 88, 41, 46]⟩
def xaT : ByteArray := ⟨#[88, 32, 61, 32, 97]⟩
def xbT : ByteArray := ⟨#[88, 32, 61, 32, 98]⟩
set_option maxHeartbeats 2000000 in
set_option maxRecDepth 100000 in
theorem kworks_any (W : World) (hT : Tab W) : Calls Tryz.prog 6 #[] W fun r w' => r = .returned (.bool true) /\ Below W.heap.size W w' := by
 have HT : Hid (TabB W.heap.size W) := tab_here hT
 have HA : Hid (Rf.askS ⟨9, Rf.WorksL.cls, none⟩ pxT = (⟨1, xaT, 0, 0⟩, Rf.WorksL.st 0)) := Rf.WorksL.ask_ab
 have HM1 : Hid (Rf.moreS (Rf.WorksL.st 0) = (⟨1, xbT, 0, 0⟩, Rf.WorksL.st 1)) := Rf.WorksL.more_ab
 have HM2 : Hid (Rf.moreS (Rf.WorksL.st 1) = (⟨2, ⟨#[]⟩, 0, 0⟩, Rf.WorksL.st 2)) := Rf.WorksL.more_no
 clear hT
 go_enter Tryz.func6, Tryz.ntmps6
 go_wp2_with (first
  | (go_at_call 19; refine (konly_any 2 _).mono ?_; rintro r w9 ⟨rfl, hb9⟩)
  | (go_at_call 18; have h9 := hb7; refine (ktold_any xbT _).mono ?_; rintro r w8 ⟨rfl, hb8⟩; have hz8 := hb8.size; have e8 := (hb8.block w4.heap.size (by omega)).trans e7; have v0 := blk_cell e8 0; have v1 := blk_cell e8 1; have v2 := blk_cell e8 2; have v3 := blk_cell e8 3; have vf := blk_frozen e8; have vl := blk_lt e8; simp at v0 v1 v2 v3)
  | (go_at_call 18; refine (ktold_any xaT _).mono ?_; rintro r w7 ⟨rfl, hb7⟩; have hz7 := hb7.size; have d7 := (hb7.block w3.heap.size (by omega)).trans d6; have e7 := (hb7.block w4.heap.size (by omega)).trans e6; have u0 := blk_cell d7 0; have u1 := blk_cell d7 1; have u2 := blk_cell d7 2; have u3 := blk_cell d7 3; have uf := blk_frozen d7; have ul := blk_lt d7; simp at u0 u1 u2 u3)
  | (go_at_call 17; refine (plisting_in W.heap.size _ _ x _ (hD4.1.below ((Below.refl _ _).alloc (Nat.le_refl _) _)) (TabB.on HT.out (hB4.alloc (by omega) _))).mono ?_; rintro r w6 ⟨hr6, hb6⟩; rw [show listingP (Rf.WorksL.st 2).cls = listingP Rf.WorksL.cls from rfl, list_ab] at hr6; subst hr6; have hz6 := hb6.size; rw [World.size_alloc] at hz6; have c6 := (hb6.block w2.heap.size (by rw [World.size_alloc]; omega)).trans (blk_alloc c4 _); have d6 := (hb6.block w3.heap.size (by rw [World.size_alloc]; omega)).trans (blk_alloc d4 _); have e6 := (hb6.block w4.heap.size (by rw [World.size_alloc]; omega)).trans (blk_new w4 _); have t0 := blk_cell c6 0; have t1 := blk_cell c6 1; have t2 := blk_cell c6 2; have t3 := blk_cell c6 3; have tf := blk_frozen c6; have tl := blk_lt c6; simp at t0 t1 t2 t3)
  | (go_at_call 16; have h9 := hD3; refine (pmore_in W.heap.size _ _ x _ (hD3.1.below ((Below.refl _ _).alloc (Nat.le_refl _) _)) (by rw [World.size_alloc]; omega) (TabB.on HT.out (hB3.alloc (by omega) _))).mono ?_; rintro r w4 ⟨hr4, hD4⟩; rw [HM2.out] at hr4 hD4; subst hr4; simp only [repV]; have hz4 := hD4.size; rw [World.size_alloc] at hz4; have hB4 : Below W.heap.size W w4 := (hB3.alloc (by omega) _).trans (hD4.below (by rw [World.size_alloc]; omega)); have c4 := hD4.rb (blk_alloc c3 _); have d4 := hD4.rb (blk_new w3 _))
  | (go_at_call 16; refine (pmore_in W.heap.size _ _ x _ (hD2.1.below ((Below.refl _ _).alloc (Nat.le_refl _) _)) (by rw [World.size_alloc]; omega) (TabB.on HT.out (hB2.alloc (by omega) _))).mono ?_; rintro r w3 ⟨hr3, hD3⟩; rw [HM1.out] at hr3 hD3; subst hr3; simp only [repV]; have hz3 := hD3.size; rw [World.size_alloc] at hz3; have hB3 : Below W.heap.size W w3 := (hB2.alloc (by omega) _).trans (hD3.below (by rw [World.size_alloc]; omega)); have c3 := hD3.rb (blk_new w2 _))
  | (go_at_call 15; refine (pask_in W.heap.size _ w1 x _ pxT (by decide) hS1 hb1.size (TabB.on HT.out hb1)).mono ?_; rintro r w2 ⟨hr2, hD2⟩; rw [HA.out] at hr2 hD2; subst hr2; simp only [repV]; have hz2 := hD2.size; have hB2 : Below W.heap.size W w2 := hb1.trans (hD2.below hb1.size))
  | (go_at_call 14; refine (kbegun_any W.heap.size 9 Rf.WorksL.abT _ W (by omega) (by omega) (by decide) Rf.WorksL.read_ab (by decide) (Nat.le_refl _)).mono ?_; rintro r w1 ⟨x, rfl, hS1, hb1⟩; have hz1 := hb1.size))
 go_ret
 refine ⟨rfl, ?_⟩
 have hB6 : Below W.heap.size W w6 := (hB4.alloc (by omega) _).trans (hb6.mono (by rw [World.size_alloc]; omega))
 exact ((hB6.trans (hb7.mono hB6.size)).trans (hb8.mono (by omega))).trans (hb9.mono (by omega))
end Go.Proofs.YtbiojnljihgpoaaGreatDoor
namespace Rf
theorem textQ_size {names : List ByteArray} {st : St} {N : Nat} {F : Int} (hG : StG N F st) (hnl : st.terms.length = names.length) (hz : ∀ x ∈ names, x.size <= 12) : (textQ names st.terms).size <= 160000 := by
 have htl := hG.tl
 unfold textQ
 split
 ·show yesB.size <= 160000; decide
 ·have HRe := (renTs_of st.terms []).2
  have HRl := (renTs_of st.terms []).1
  have HRc := renTs_count st.terms [] (fun t ht => (hG.t t ht).1)
  have h9 := joinQ_size 9615 (names.zip (renTs [] st.terms).1) (fun x hx => by
   obtain ⟨h1, h2⟩ := List.of_mem_zip hx
   have h3 := hz _ h1
   obtain ⟨i, hi⟩ := List.getElem?_of_mem h2
   obtain ⟨t, e1, e2, e3, _⟩ := HRe i _ hi
   have htm := hG.t t (List.mem_of_getElem? e1)
   have hc2 : st.terms.length * 400 <= 16 * 400 := Nat.mul_le_mul_right _ htl
   simp only [List.length_nil] at HRc
   have h5 : ∀ p ∈ x.2, GoodA p := fun p hp => by
    obtain ⟨y, hy, hr⟩ := e3 p hp
    have hpg := hr.good (htm.2 y hy)
    exact ⟨fun k => by have := hpg.2.1 k; omega, hpg.2.2.1, hpg.2.2.2⟩
   have h6 := txtW_size false x.2 h5
   have h7 : (txtA x.2).size <= 24 * x.2.length := h6
   have h8 : x.2.length <= 400 := by rw [e2]; exact htm.1
   unfold lineQ
   rw [ByteArray.size_append, ByteArray.size_append]
   have : (⟨#[32, 61, 32]⟩ : ByteArray).size = 3 := rfl
   omega)
  have h8 : (names.zip (renTs [] st.terms).1).length * (9615 + 2) <= 16 * (9615 + 2) := Nat.mul_le_mul_right _ (by rw [List.length_zip]; omega)
  omega
theorem reply_text {S : Se} (hS : SeOk S) {names : List ByteArray} (hz : ∀ x ∈ names, x.size <= 12) {r : Int × Cf} (hK : Kep S.cls names.length 0 r) : (replyS S names (playN S.cls S.lim r)).1.text.size <= 160000 := by
 unfold replyS
 split
 ·rename_i h1
  have hA := Go.Proofs.YtbiojnljihgpoaaGreatDoor.ansOk (lim := S.lim) hS.g hS.k hz hS.l2 hK h1
  exact textQ_size hA.now hA.tl hz
 ·show (⟨#[]⟩ : ByteArray).size <= 160000; decide
theorem ask_text {S : Se} (hS : SeOk S) (s : ByteArray) : (askS S s).1.text.size <= 160000 := by
 unfold askS
 cases hr : questS s with
 | error e => show (⟨#[]⟩ : ByteArray).size <= 160000; decide
 | ok x =>
  obtain ⟨gs, ns⟩ := x
  have hk := (begin_kep (S := S) (questS_read hr) (questS_good hr)).2
  simp only []
  unfold firstS
  split
  ·unfold replyS; rw [if_neg (by simp)]; show (⟨#[]⟩ : ByteArray).size <= 160000; decide
  ·exact reply_text hS (questS_nz hr) hk
theorem more_text {S : Se} (hS : SeOk S) : (moreS S).1.text.size <= 160000 := by
 unfold moreS
 split
 ·show (⟨#[]⟩ : ByteArray).size <= 160000; decide
 ·rename_i q hq
  exact reply_text hS (hS.q q hq).nz (next_kep hS (hS.q q hq))
end Rf
namespace Go.Proofs.YtbiojnljihgpoaaGreatDoor
open Go.RowKit
theorem callItoa (vals : Array Value) (w : World) : (callFunc 43 vals).run Tryz.prog w = .ok (.enter 43 vals) w := by
 simp [callFunc, Tryz.func43, Tryz.f43]
theorem kitoa (v : Int) (w : World) (h0 : -2000000000 <= v) (h1 : v <= 2000000000) (hT : Tab w) : Calls Tryz.prog 43 #[.int .i64 v] w fun r w' => r = .returned (.string (Rf.itoaB v)) /\ Below w.heap.size w w' := by
 refine (Tryz.strconv_Itoa v (by omega) (by omega) w hT).mono ?_
 rintro r w1 ⟨rfl, k, os, rfl⟩
 exact ⟨rfl, grow_below _ _ _⟩
theorem itoa_sz (v : Int) (h0 : -2000000000 <= v) (h1 : v <= 2000000000) : (Rf.itoaB v).size <= 21 := by
 have := Go.Lib.itoa_length_le v (by omega) (by omega)
 unfold Rf.itoaB; simpa [ByteArray.size] using this
set_option maxHeartbeats 2000000 in
set_option maxRecDepth 100000 in
theorem kwritten_any (k : Int) (t : ByteArray) (c p : Int) (w : World) (hR : Rf.RepOk ⟨k, t, c, p⟩) (ht : t.size <= 160000) (hT : Tab w) :
  Calls Tryz.prog 44 #[.agg #[.int .i64 k, .string t, .int .i64 c, .int .i64 p]] w fun r w' => r = .returned (.string (Rf.writtenB ⟨k, t, c, p⟩)) /\ Below w.heap.size w w' := by
 obtain ⟨hk0, hk1, hc0, hc1, hp0, hp1⟩ := hR
 simp only at hk0 hk1 hc0 hc1 hp0 hp1
 have HT : Hid (TabB w.heap.size w) := tab_here hT
 obtain ⟨kB, kBe⟩ : ∃ kB, Hid (Rf.itoaB k = kB) := ⟨_, rfl⟩
 obtain ⟨cB, cBe⟩ : ∃ kB, Hid (Rf.itoaB c = kB) := ⟨_, rfl⟩
 obtain ⟨pB, pBe⟩ : ∃ kB, Hid (Rf.itoaB p = kB) := ⟨_, rfl⟩
 have zk : kB.size <= 21 := by rw [<- kBe.out]; exact itoa_sz k (by omega) (by omega)
 have zc : cB.size <= 21 := by rw [<- cBe.out]; exact itoa_sz c (by omega) (by omega)
 have zp : pB.size <= 21 := by rw [<- pBe.out]; exact itoa_sz p (by omega) (by omega)
 have g1 : ¬ 9223372036854775807 < kB.size + 1 := by omega
 have g2 : ¬ 9223372036854775807 < kB.size + 1 + t.size := by omega
 have g3 : ¬ 9223372036854775807 < kB.size + 1 + t.size + 1 := by omega
 have g4 : ¬ 9223372036854775807 < kB.size + 1 + t.size + 1 + cB.size := by omega
 have g5 : ¬ 9223372036854775807 < kB.size + 1 + t.size + 1 + cB.size + 1 := by omega
 have g6 : ¬ 9223372036854775807 < kB.size + 1 + t.size + 1 + cB.size + 1 + pB.size := by omega
 have HW : Hid (Rf.writtenB ⟨k, t, c, p⟩ = kB ++ ⟨#[32]⟩ ++ t ++ ⟨#[32]⟩ ++ cB ++ ⟨#[32]⟩ ++ pB) := by
  unfold Hid Rf.writtenB
  rw [kBe.out, cBe.out, pBe.out]; rfl
 clear hT
 go_enter Tryz.func44, Tryz.ntmps44
 go_wp2_with fail
 have hb0 : Below w.heap.size w (w.alloc (.cells #[.int .i64 k, .string t, .int .i64 c, .int .i64 p] 39)) := (Below.refl _ _).alloc (Nat.le_refl _) _
 have hN := blk_new w (.cells #[.int .i64 k, .string t, .int .i64 c, .int .i64 p] 39)
 generalize hw0 : w.alloc (.cells #[.int .i64 k, .string t, .int .i64 c, .int .i64 p] 39) = w0 at hb0 hN ⊢
 have hz0 := hb0.size
 have hl0 : w.heap.size < w0.heap.size := blk_lt hN
 clear hw0
 obtain ⟨b, hb⟩ : ∃ b, Hid (w.heap.size = b) := ⟨_, rfl⟩
 rw [hb.out] at hN hl0
 have e0 : w0.cell? ⟨b, 0, none⟩ = some (.int .i64 k) := blk_cell hN 0
 have e1 : w0.cell? ⟨b, 1, none⟩ = some (.string t) := blk_cell hN 1
 have e2 : w0.cell? ⟨b, 2, none⟩ = some (.int .i64 c) := blk_cell hN 2
 have e3 : w0.cell? ⟨b, 3, none⟩ = some (.int .i64 p) := blk_cell hN 3
 have hK : ∀ X, Below w0.heap.size w0 X -> (fun X : World => Below w0.heap.size w0 X /\ X.cell? ⟨b, 0, none⟩ = some (.int .i64 k) /\ X.cell? ⟨b, 1, none⟩ = some (.string t) /\ X.cell? ⟨b, 2, none⟩ = some (.int .i64 c) /\ X.cell? ⟨b, 3, none⟩ = some (.int .i64 p)) X := fun X h => ⟨h, (cell_below h hl0).trans e0, (cell_below h hl0).trans e1, (cell_below h hl0).trans e2, (cell_below h hl0).trans e3⟩
 have HS0 : (fun X : World => Below w0.heap.size w0 X /\ X.cell? ⟨b, 0, none⟩ = some (.int .i64 k) /\ X.cell? ⟨b, 1, none⟩ = some (.string t) /\ X.cell? ⟨b, 2, none⟩ = some (.int .i64 c) /\ X.cell? ⟨b, 3, none⟩ = some (.int .i64 p)) w0.drew := hK _ (Below.refl _ _).drew
 have HSb : Hid (∀ X Y, (fun X : World => Below w0.heap.size w0 X /\ X.cell? ⟨b, 0, none⟩ = some (.int .i64 k) /\ X.cell? ⟨b, 1, none⟩ = some (.string t) /\ X.cell? ⟨b, 2, none⟩ = some (.int .i64 c) /\ X.cell? ⟨b, 3, none⟩ = some (.int .i64 p)) X -> Below X.heap.size X Y -> (fun X : World => Below w0.heap.size w0 X /\ X.cell? ⟨b, 0, none⟩ = some (.int .i64 k) /\ X.cell? ⟨b, 1, none⟩ = some (.string t) /\ X.cell? ⟨b, 2, none⟩ = some (.int .i64 c) /\ X.cell? ⟨b, 3, none⟩ = some (.int .i64 p)) Y) := fun X Y hX hY => hK _ (hX.1.trans (hY.mono hX.1.size))
 have HTS : Hid (∀ X, (fun X : World => Below w0.heap.size w0 X /\ X.cell? ⟨b, 0, none⟩ = some (.int .i64 k) /\ X.cell? ⟨b, 1, none⟩ = some (.string t) /\ X.cell? ⟨b, 2, none⟩ = some (.int .i64 c) /\ X.cell? ⟨b, 3, none⟩ = some (.int .i64 p)) X -> Tab X) := fun X hX => TabB.tab (TabB.on HT.out (hb0.trans (hX.1.mono hz0)))
 have HEnd : Hid (∀ X, (fun X : World => Below w0.heap.size w0 X /\ X.cell? ⟨b, 0, none⟩ = some (.int .i64 k) /\ X.cell? ⟨b, 1, none⟩ = some (.string t) /\ X.cell? ⟨b, 2, none⟩ = some (.int .i64 c) /\ X.cell? ⟨b, 3, none⟩ = some (.int .i64 p)) X -> Below w.heap.size w X) := fun X hX => hb0.trans (hX.1.mono hz0)
 simp only [hb.out]
 clear hN e0 e1 e2 e3 hK hb0
 go_region_held2 (fun X : World => Below w0.heap.size w0 X /\ X.cell? ⟨b, 0, none⟩ = some (.int .i64 k) /\ X.cell? ⟨b, 1, none⟩ = some (.string t) /\ X.cell? ⟨b, 2, none⟩ = some (.int .i64 c) /\ X.cell? ⟨b, 3, none⟩ = some (.int .i64 p)) (first | assumption) (first
  | (refine step_call1 rfl 43 (.tmp 4) _ rfl (.int .i64 k) rfl (fun _ => callItoa _ _) (kitoa k _ (by omega) (by omega) (HTS.out _ (by assumption))) ?_; rintro r w3 ⟨hr3, hb3⟩; rw [kBe.out] at hr3; subst hr3; refine ⟨_, rfl, ?_⟩; have hS3 := HSb.out _ _ (by assumption) hb3)
  | (refine step_call1 rfl 43 (.tmp 12) _ rfl (.int .i64 c) rfl (fun _ => callItoa _ _) (kitoa c _ (by omega) (by omega) (HTS.out _ (by assumption))) ?_; rintro r w4 ⟨hr4, hb4⟩; rw [cBe.out] at hr4; subst hr4; refine ⟨_, rfl, ?_⟩; have hS4 := HSb.out _ _ (by assumption) hb4)
  | (refine step_call1 rfl 43 (.tmp 17) _ rfl (.int .i64 p) rfl (fun _ => callItoa _ _) (kitoa p _ (by omega) (by omega) (HTS.out _ (by assumption))) ?_; rintro r w5 ⟨hr5, hb5⟩; rw [pBe.out] at hr5; subst hr5; refine ⟨_, rfl, ?_⟩; have hS5 := HSb.out _ _ (by assumption) hb5))
 all_goals
  go_wp2_with fail
  go_ret
  exact ⟨ret_str HW.out.symm, HEnd.out _ hS5⟩
theorem Turn.old {w w0 : World} {k : Nat} (hb : Below w.heap.size w w0) (hk : k < w.heap.size) (h : Turn w0 k) : Turn w k := by
 obtain ⟨cs, t, hc, ht⟩ := h
 exact ⟨cs, t, (hb.block k hk).symm.trans hc, ht⟩
theorem SeDone.wrap {B : Nat} {G : Nat -> Prop} {w w0 w1 w2 : World} {x : Nat} {S0 S : Rf.Se} (h : SeIn B G w x S0) (hB : B <= w.heap.size) (hb0 : Below w.heap.size w w0) (hD : SeDone B G w0 x S w1) (hb1 : Below w1.heap.size w1 w2) : SeDone B G w x S w2 := by
 have hz0 := hb0.size
 have hz1 := hD.size
 have hz2 := hb1.size
 refine ⟨(hD.1.below hb1).mono (fun k e => ?_) (fun k e => ?_) (fun k e => ?_), ?_⟩
 ·rcases e with e | e
  ·exact .inl e
  ·exact .inr ⟨by omega, by omega⟩
 ·rcases e with e | e
  ·exact h.lo k e
  ·omega
 ·rcases e with e | e
  ·have := h.hi k e; omega
  ·exact e.2
 ·exact ((Kept.of_below hb0 (fun k => G k /\ Turn w k)).trans hD.2 (fun i hi e => ⟨e.1, Turn.old hb0 hi e.2⟩)).trans (Kept.of_below hb1 (fun _ => False)) (fun _ _ e => e.elim)
theorem SeDone.still {B : Nat} {G : Nat -> Prop} {w w2 : World} {x : Nat} {S : Rf.Se} (h : SeIn B G w x S) (hB : B <= w.heap.size) (hb : Below w.heap.size w w2) : SeDone B G w x S w2 := by
 have hz := hb.size
 refine ⟨(h.below hb).mono (fun k e => .inl e) (fun k e => ?_) (fun k e => ?_), Kept.of_below hb _⟩
 ·rcases e with e | e
  ·exact h.lo k e
  ·omega
 ·rcases e with e | e
  ·have := h.hi k e; omega
  ·exact e.2
theorem listS_eq (cls : List Rf.Cl) : listingP cls = Rf.listS cls := by
 have key : ∀ n, accS cls n = Rf.lineSum cls n := by
  intro n
  induction n with
  | zero => rfl
  | succ n ih => rw [accS, Rf.lineSum, ih]; rfl
 exact key _
set_option maxHeartbeats 2000000 in
set_option maxRecDepth 100000 in
theorem kmove_any (B : Nat) (G : Nat -> Prop) (w : World) (x : Nat) (S : Rf.Se) (kd : Int) (s : ByteArray) (hs : s.size <= maxLen) (h : SeIn B G w x S) (hB : B <= w.heap.size) (hT : TabB B w) :
  Calls Tryz.prog 27 #[.pointer (some ⟨x, 0, none⟩), .agg #[.int .i64 kd, .string s]] w fun r w' => r = .returned (.string (Rf.moveS S ⟨kd, s⟩).1) /\ SeDone B G w x (Rf.moveS S ⟨kd, s⟩).2 w' := by
 have HS : Hid _ := h
 have HT : Hid (TabB B w) := hT
 have hb0 : Hid (Below w.heap.size w (w.alloc (.cells #[.int .i64 kd, .string s] 65))) := (Below.refl _ _).alloc (Nat.le_refl _) _
 have hz0 : Hid (B <= (w.alloc (.cells #[.int .i64 kd, .string s] 65)).heap.size) := by unfold Hid; rw [World.size_alloc]; omega
 have HS0 : Hid (SeIn B G (w.alloc (.cells #[.int .i64 kd, .string s] 65)) x S) := h.below hb0.out
 have HT0 : Hid (TabB B (w.alloc (.cells #[.int .i64 kd, .string s] 65))) := TabB.on hT (hb0.out.mono hB)
 have HB : Hid (B <= w.heap.size) := hB
 have HOk := h.ok
 have HOK : Hid (Rf.SeOk S) := HOk
 clear h hT HOk
 by_cases h1 : kd = 1
 ·subst h1
  have HM : Hid (Rf.moveS S ⟨1, s⟩ = (Rf.consT (Rf.consultS S s).1, (Rf.consultS S s).2)) := by unfold Hid Rf.moveS; rw [if_pos rfl]
  have hE := Rf.consult_small S s
  obtain ⟨P, hP⟩ : ∃ P, Hid (Rf.consultS S s = P) := ⟨_, rfl⟩
  rw [hP.out] at HM hE
  obtain ⟨⟨e, q⟩, S2⟩ := P
  obtain ⟨hE1, hE2, hE3⟩ := hE
  simp only at hE1 hE2 hE3
  obtain ⟨eB, eBe⟩ : ∃ kB, Hid (Rf.itoaB e = kB) := ⟨_, rfl⟩
  obtain ⟨qB, qBe⟩ : ∃ kB, Hid (Rf.itoaB (q : Int) = kB) := ⟨_, rfl⟩
  have ze : eB.size <= 21 := by rw [<- eBe.out]; exact itoa_sz e (by omega) (by omega)
  have zq : qB.size <= 21 := by rw [<- qBe.out]; exact itoa_sz q (by omega) (by omega)
  have z1 : (eB ++ ⟨#[32]⟩ : ByteArray).size <= 22 := by rw [ByteArray.size_append]; have : (⟨#[32]⟩ : ByteArray).size = 1 := rfl; omega
  have HC : Hid (Rf.consT (e, q) = eB ++ ⟨#[32]⟩ ++ qB) := by unfold Hid Rf.consT; rw [eBe.out, qBe.out]; rfl
  rw [HM.out]
  go_enter Tryz.func27, Tryz.ntmps27
  go_wp2_with (first
   | (go_at_call 43; have h9 := hb2; refine (kitoa q _ (by omega) (by omega) (TabB.tab (TabB.on (hD1.tab hz0.out HT0.out) (hb2.mono (by have := hD1.size; have := hz0.out; omega))))).mono ?_; rintro r w3 ⟨hr3, hb3⟩; rw [qBe.out] at hr3; subst hr3)
   | (go_at_call 43; refine (kitoa e _ (by omega) (by omega) (TabB.tab (hD1.tab hz0.out HT0.out))).mono ?_; rintro r w2 ⟨hr2, hb2⟩; rw [eBe.out] at hr2; subst hr2)
   | (go_at_call 28; refine (pconsult_in B G _ x S s hs HS0.out hz0.out).mono ?_; rintro r w1 ⟨hr1, hD1⟩; rw [hP.out] at hr1 hD1; subst hr1))
  go_ret
  exact ⟨ret_str HC.out.symm, SeDone.wrap HS.out HB.out hb0.out hD1 (hb2.trans (hb3.mono hb2.size))⟩
 ·by_cases h2 : kd = 2
  ·subst h2
   have HM : Hid (Rf.moveS S ⟨2, s⟩ = (Rf.writtenB (Rf.askS S s).1, (Rf.askS S s).2)) := by unfold Hid Rf.moveS; rw [if_neg (by simp), if_pos rfl]
   have hE := Rf.ask_rep S s
   have hZ := Rf.ask_text HOK.out s
   obtain ⟨P, hP⟩ : ∃ P, Hid (Rf.askS S s = P) := ⟨_, rfl⟩
   rw [hP.out] at HM hE hZ
   obtain ⟨⟨rk, rt, rc, rp⟩, S2⟩ := P
   have HE : Hid (Rf.RepOk ⟨rk, rt, rc, rp⟩) := hE
   have HZ : Hid (rt.size <= 160000) := hZ
   clear hE hZ
   rw [HM.out]
   go_enter Tryz.func27, Tryz.ntmps27
   go_wp2_with (first
    | (go_at_call 44; refine (kwritten_any rk rt rc rp _ HE.out HZ.out (TabB.tab (TabB.on (hD1.tab hz0.out HT0.out) (((Below.refl _ _).alloc (Nat.le_refl _) _).mono (by have := hD1.size; have := hz0.out; omega))))).mono ?_; rintro r w2 ⟨hr2, hb2⟩; subst hr2)
    | (go_at_call 15; refine (pask_in B G _ x S s hs HS0.out hz0.out HT0.out).mono ?_; rintro r w1 ⟨hr1, hD1⟩; rw [hP.out] at hr1 hD1; subst hr1; simp only [repV]))
   go_ret
   exact ⟨rfl, SeDone.wrap HS.out HB.out hb0.out hD1 (((Below.refl _ _).alloc (Nat.le_refl _) _).trans (hb2.mono (by rw [World.size_alloc]; omega)))⟩
  ·by_cases h3 : kd = 3
   ·subst h3
    have HM : Hid (Rf.moveS S ⟨3, s⟩ = (Rf.writtenB (Rf.moreS S).1, (Rf.moreS S).2)) := by unfold Hid Rf.moveS; rw [if_neg (by simp), if_neg (by simp), if_pos rfl]
    have hE := Rf.more_rep S
    have hZ := Rf.more_text HOK.out
    obtain ⟨P, hP⟩ : ∃ P, Hid (Rf.moreS S = P) := ⟨_, rfl⟩
    rw [hP.out] at HM hE hZ
    obtain ⟨⟨rk, rt, rc, rp⟩, S2⟩ := P
    have HE : Hid (Rf.RepOk ⟨rk, rt, rc, rp⟩) := hE
    have HZ : Hid (rt.size <= 160000) := hZ
    clear hE hZ
    rw [HM.out]
    go_enter Tryz.func27, Tryz.ntmps27
    go_wp2_with (first
     | (go_at_call 44; refine (kwritten_any rk rt rc rp _ HE.out HZ.out (TabB.tab (TabB.on (hD1.tab hz0.out HT0.out) (((Below.refl _ _).alloc (Nat.le_refl _) _).mono (by have := hD1.size; have := hz0.out; omega))))).mono ?_; rintro r w2 ⟨hr2, hb2⟩; subst hr2)
     | (go_at_call 16; refine (pmore_in B G _ x S HS0.out hz0.out HT0.out).mono ?_; rintro r w1 ⟨hr1, hD1⟩; rw [hP.out] at hr1 hD1; subst hr1; simp only [repV]))
    go_ret
    exact ⟨rfl, SeDone.wrap HS.out HB.out hb0.out hD1 (((Below.refl _ _).alloc (Nat.le_refl _) _).trans (hb2.mono (by rw [World.size_alloc]; omega)))⟩
   ·by_cases h4 : kd = 4
    ·subst h4
     have HM : Hid (Rf.moveS S ⟨4, s⟩ = (⟨#[]⟩, Rf.stopS S)) := by unfold Hid Rf.moveS; rw [if_neg (by simp), if_neg (by simp), if_neg (by simp), if_pos rfl]
     rw [HM.out]
     go_enter Tryz.func27, Tryz.ntmps27
     go_wp2_with (go_at_call 29; refine (pstop_in B G _ x S HS0.out).mono ?_; rintro r w1 ⟨hr1, hD1⟩; subst hr1)
     go_ret
     exact ⟨rfl, SeDone.wrap HS.out HB.out hb0.out hD1 (Below.refl _ _)⟩
    ·by_cases h5 : kd = 5
     ·subst h5
      have HM : Hid (Rf.moveS S ⟨5, s⟩ = (Rf.listS S.cls, S)) := by unfold Hid Rf.moveS; rw [if_neg (by simp), if_neg (by simp), if_neg (by simp), if_neg (by simp), if_pos rfl]
      rw [HM.out]
      go_enter Tryz.func27, Tryz.ntmps27
      go_wp2_with (go_at_call 17; refine (plisting_in B G _ x S HS0.out HT0.out).mono ?_; rintro r w1 ⟨hr1, hb1⟩; rw [listS_eq] at hr1; subst hr1)
      go_ret
      exact ⟨rfl, SeDone.still HS.out HB.out (hb0.out.trans (hb1.mono (by rw [World.size_alloc]; omega)))⟩
     ·have HM : Hid (Rf.moveS S ⟨kd, s⟩ = (⟨#[]⟩, S)) := by unfold Hid Rf.moveS; rw [if_neg h1, if_neg h2, if_neg h3, if_neg h4, if_neg h5]
      have b1 : (kd == 1) = false := beq_eq_false_iff_ne.2 h1
      have b2 : (kd == 2) = false := beq_eq_false_iff_ne.2 h2
      have b3 : (kd == 3) = false := beq_eq_false_iff_ne.2 h3
      have b4 : (kd == 4) = false := beq_eq_false_iff_ne.2 h4
      have b5 : (kd == 5) = false := beq_eq_false_iff_ne.2 h5
      rw [HM.out]
      go_enter Tryz.func27, Tryz.ntmps27
      go_wp2_with fail
      go_ret
      exact ⟨rfl, SeDone.still HS.out HB.out hb0.out⟩
theorem take_snoc {l : List Rf.MoveV} {k : Nat} (h : k < l.length) : l.take (k + 1) = l.take k ++ [l[k]] := List.take_succ_eq_append_getElem h
theorem cell_on {B : Nat} {w w' : World} (hb : Below B w w') {g i : Nat} (hg : g < B) : w'.cell? ⟨g, i, none⟩ = w.cell? ⟨g, i, none⟩ := by
 simp only [World.cell?, hb.block g hg]
theorem Turn.back {M : Nat -> Prop} {w w' : World} {k : Nat} (hk : Kept (fun j => M j /\ Turn w j) w w') (hl : k < w.heap.size) (h : Turn w' k) : Turn w k := by
 by_cases e : M k /\ Turn w k
 ·exact e.2
 ·obtain ⟨cs, t, hc, ht⟩ := h
  exact ⟨cs, t, (hk.block k hl e).symm.trans hc, ht⟩
set_option maxHeartbeats 2000000 in
set_option maxRecDepth 100000 in
theorem kmoved_any (B : Nat) (G : Nat -> Prop) (w : World) (x : Nat) (S : Rf.Se) (a : Option Addr) (n c : Nat) (l : List Rf.MoveV) (hM : MovesAt w (.slice a n c) l) (hok : ∀ m ∈ l, m.s.size <= maxLen) (hl : l.length * 24 <= 140737488355328) (h : SeIn B G w x S) (hB : B <= w.heap.size) (hMB : ∀ g off, 1 <= l.length -> a = some ⟨g, off, none⟩ -> g < B) (hT : TabB B w) :
  Calls Tryz.prog 10 #[.pointer (some ⟨x, 0, none⟩), .slice a n c] w fun r w' => ∃ a2 c2, r = .returned (.slice a2 l.length c2) /\ Seen w' 9 strCells (.slice a2 l.length c2) (Rf.movedS S l).1 /\ SeDone B G w x (Rf.movedS S l).2 w' := by
 obtain rfl : n = l.length := hM.len
 have HM : Hid (MovesAt w (.slice a l.length c) l) := hM
 have HO : Hid _ := hok
 have HS : Hid _ := h
 have HT : Hid (TabB B w) := hT
 have hml : l.length <= 9223372036854775807 := by omega
 clear hM hok h hT
 go_enter Tryz.func10, Tryz.ntmps10
 go_wp2_with fail
 go_loopw [5, 6] (fun ov iv wr => ∃ k : Nat, k <= l.length /\ iv = .int .i64 k /\ RowIs wr w.heap.size 9 1 strCells ov (Rf.movedS S (l.take k)).1 /\ (∃ G', SeIn B G' wr x (Rf.movedS S (l.take k)).2 /\ (∀ j, G' j -> G j \/ w.heap.size <= j) /\ (∀ j, ov.ownBlock = some j -> ¬ G' j)) /\ Kept (fun j => G j /\ Turn w j) w wr) (fun _ iv _ => l.length - (intOf iv).toNat)
 case atStart => exact ⟨0, by omega, rfl, RowIs.nil _ _ _ _ _, ⟨G, HS.out, fun j e => .inl e, fun j e => by cases e⟩, Kept.refl _ _⟩
 case round =>
  obtain ⟨k, hk, rfl, hrow, ⟨G', hS, hGG, hGo⟩, hkr⟩ := hrel
  have hsz := hkr.size
  have hbB : Below B w wr := hkr.below hB (fun j hj e => by have := HS.out.lo j e.1; omega)
  obtain ⟨a4, c4, hv4⟩ := row_slice hrow
  have hlk : (Rf.movedS S (l.take k)).1.length = k := by rw [Rf.movedS_len, List.length_take]; omega
  rw [hlk] at hv4
  subst hv4
  have Hlk : Hid _ := hlk
  clear hlk
  by_cases hlt : k < l.length
  ·obtain ⟨g, off, rfl⟩ := MovesAt.pos HM.out (by omega)
   have hgB := hMB g off (by omega) rfl
   obtain ⟨c0, c1⟩ := (MovesAt.at HM.out (by omega)).2 k l[k] (by simp [hlt])
   have q0 := (cell_on hbB (i := off + k * 2) hgB).trans c0
   have q1 := (cell_on hbB (i := off + k * 2 + 1) hgB).trans c1
   have hms := HO.out _ (List.getElem_mem hlt)
   have htk := take_snoc hlt
   have hmv := Rf.movedS_snoc S (l.take k) l[k]
   rw [<- htk] at hmv
   have Hmv : Hid _ := hmv
   clear c0 c1 htk hmv
   obtain ⟨⟨kd, sx⟩, hm9⟩ : ∃ m9, l[k] = m9 := ⟨_, rfl⟩
   rw [hm9] at q0 q1 hms Hmv
   clear hm9
   simp only at q0 q1 hms
   have hlt' : (k : Int) < l.length := by omega
   have HR : Hid _ := hrow
   have HS' : Hid _ := hS
   have HKR : Hid _ := hkr
   have HTr : Hid (TabB B wr) := TabB.on HT.out hbB
   have hgw : g < wr.heap.size := by omega
   have hBr : B <= wr.heap.size := by omega
   clear hrow hS hkr hbB
   go_wp2_with (first
    | (go_at_call 27; refine (kmove_any B G' wr x _ kd sx hms HS'.out hBr HTr.out).mono ?_; rintro r w2 ⟨hr2, hD2⟩; subst hr2; have hz2 := hD2.size; have hrow2 := HR.out.keptBy hD2.2 (fun j e e2 => hGo j e e2.1))
    | (at_builtin; refine wpList_app Tryz.elemStr strCells strCells_len strCells_one _ rfl (.tmp 20) (.tmp 22) rfl w.heap.size (.slice a4 k c4) _ rfl (hrow2.alloc _) ⟨_, 0, none⟩ 1 (Rf.moveS (Rf.movedS S (l.take k)).2 ⟨kd, sx⟩).1 rfl (cell_one_at _ _ rfl _ _) (by rw [Hlk.out]; omega) (by rw [World.size_alloc]; omega) ?_; intro gA capA w3 hrow3 hgr3 hnb3; rw [Hlk.out] at hrow3))
   have hks : Kept (fun j => (Value.slice a4 k c4).ownBlock = some j) (w2.alloc (.cells #[.string (Rf.moveS (Rf.movedS S (l.take k)).2 ⟨kd, sx⟩).1] 9)) w3 := (Kept.refl _ _).grown hgr3 (fun j e => .inr e)
   have hS2 := hD2.1.below ((Below.refl w2.heap.size w2).alloc (Nat.le_refl _) (.cells #[.string (Rf.moveS (Rf.movedS S (l.take k)).2 ⟨kd, sx⟩).1] 9))
   have hGo2 : ∀ j, (Value.slice a4 k c4).ownBlock = some j -> ¬ Grow G' wr w2 j := fun j e e2 => by
    rcases e2 with e2 | e2
    ·exact hGo j e e2
    ·have := (HR.out.lt j e).2; omega
   have hS3 := hS2.kept hks (fun j e => by obtain ⟨cs, hc⟩ := (hrow2.alloc (.cells #[.string (Rf.moveS (Rf.movedS S (l.take k)).2 ⟨kd, sx⟩).1] 9)).typed j e; exact ⟨cs, _, hc, by decide⟩) (fun j e e2 => hGo2 j e2 e)
   go_roundw
   case rel =>
    refine ⟨k + 1, by omega, by go_num, ?_, ⟨Grow G' wr w2, ?_, fun j e => ?_, fun j e => ?_⟩, ?_⟩
    ·rw [Hmv.out, Hlk.out]; exact hrow3
    ·rw [Hmv.out]; exact hS3
    ·rcases e with e | e
     ·exact hGG j e
     ·exact .inr (by omega)
    ·rcases hnb3 with e3 | ⟨k3, e3, hk3⟩
     ·exact hGo2 j (by rw [<- e3]; exact e)
     ·intro e4
      have h5 : gA = j := Option.some.inj e
      have h6 := Option.some.inj e3
      have h7 := hD2.1.hi j e4
      rw [World.size_alloc] at hk3
      omega
    ·refine (HKR.out.trans hD2.2 (fun i hi e => ?_)).trans ((Kept.refl (fun _ => False) w2).alloc _) (fun _ _ e => e.elim) |>.trans hks (fun i hi e => ?_)
     ·rcases hGG i e.1 with h1 | h1
      ·exact ⟨h1, Turn.back HKR.out hi e.2⟩
      ·omega
     ·have := (HR.out.lt i e).1; omega
   case measure => simp [intOf]; omega
  ·obtain rfl : k = l.length := by omega
   have e1 : l.take l.length = l := List.take_length
   rw [e1] at hrow hS
   have HR : Hid _ := hrow
   have HS' : Hid _ := hS
   have HKR : Hid _ := hkr
   clear hrow hS hkr
   go_wp2_with fail
   go_ret
   refine ⟨a4, c4, rfl, HR.out.seen, HS'.out.mono (fun j e => ?_) (fun j e => ?_) (fun j e => ?_), HKR.out⟩
   ·rcases hGG j e with h1 | h1
    ·exact .inl h1
    ·exact .inr ⟨h1, HS'.out.hi j e⟩
   ·rcases e with e | e
    ·exact HS.out.lo j e
    ·omega
   ·rcases e with e | e
    ·have := HS.out.hi j e; omega
    ·exact e.2
theorem pnew_int (B : Nat) (w : World) (z : Int) (h : 1 <= z) (h' : z <= 1000) (hB : B <= w.heap.size) :
  Calls Tryz.prog 20 #[.int .i64 z] w fun r w' => r = .returned (.tuple #[.pointer (some ⟨w.heap.size, 0, none⟩), .int .i64 0]) /\ SeIn B (fun k => w.heap.size <= k /\ k < w'.heap.size) w' w.heap.size ⟨z.toNat, [], none⟩ /\ Below w.heap.size w w' := by
 obtain ⟨k, rfl⟩ := Int.eq_ofNat_of_zero_le (a := z) (by omega)
 exact pnew_in B w k (by omega) (by omega) hB
set_option maxHeartbeats 1000000 in
set_option maxRecDepth 100000 in
theorem ksession_any (w : World) (p : Int) (a : Option Addr) (n c : Nat) (l : List Rf.MoveV) (hp : -9223372036854775808 <= p) (hp' : p <= 9223372036854775807) (hM : MovesAt w (.slice a n c) l) (hok : ∀ m ∈ l, m.s.size <= maxLen) (hl : l.length * 24 <= 140737488355328) (hMB : ∀ g off, 1 <= l.length -> a = some ⟨g, off, none⟩ -> g < w.heap.size) (hT : TabB w.heap.size w) :
  Calls Tryz.prog 7 #[.int .i64 p, .slice a n c] w fun r w' => ∃ x, r = .returned (.pointer (some ⟨x, 0, none⟩)) /\ SeIn w.heap.size (fun k => w.heap.size <= k /\ k < w'.heap.size) w' x (Rf.movedS ⟨(1 + (Rf.pickK p 1000 : Int)).toNat, [], none⟩ l).2 /\ Below w.heap.size w w' := by
 have HM : Hid (MovesAt w (.slice a n c) l) := hM
 have HO : Hid _ := hok
 have HT : Hid (TabB w.heap.size w) := hT
 have HB : Hid (∀ g off, 1 <= l.length -> a = some ⟨g, off, none⟩ -> g < w.heap.size) := hMB
 obtain ⟨b, hb⟩ : ∃ b, Hid (Rf.pickK p 1000 = b) := ⟨_, rfl⟩
 have hb2 : b < 1000 := by have := Rf.pickK_lt (c := p) (n := 1000) (by omega); rw [hb.out] at this; omega
 rw [hb.out]
 clear hM hok hT hMB
 go_enter Tryz.func7, Tryz.ntmps7
 go_wp2_with (first
  | (go_at_call 10; refine (kmoved_any w.heap.size _ w1 w.heap.size _ a n c l (MovesAt.on HM.out hb1 (Nat.le_refl _)) HO.out hl hS1 hb1.size HB.out (TabB.on HT.out hb1)).mono ?_; rintro r w2 ⟨a2, c2, rfl, hR2, hD2⟩)
  | (go_at_call 20; refine (pnew_int w.heap.size w _ (by omega) (by omega) (Nat.le_refl _)).mono ?_; rintro r w1 ⟨rfl, hS1, hb1⟩)
  | (go_at_call 13; refine (kpick_any p 1000 _ hp hp' (by omega) (by omega)).mono ?_; rintro r w0 ⟨hr0, hw0⟩; rw [hb.out] at hr0; subst hr0; subst w0))
 go_ret
 have hz1 := hb1.size
 have hz2 := hD2.size
 refine ⟨w.heap.size, rfl, hD2.1.mono (fun k e => ?_) (fun k e => e.1) (fun k e => e.2), hb1.trans (hD2.below hz1)⟩
 rcases e with e | e
 ·omega
 ·omega
theorem str_some (s : ByteArray) (h : 8 <= (Rf.bs s).length) : s.toList.isEmpty = false := by
 rw [ByteArray.toList_eq]
 have e : s.data.toList = Rf.bs s := rfl
 rw [e]
 cases hc : Rf.bs s with
 | nil => rw [hc] at h; simp at h
 | cons => rfl
structure BtAt (w : World) (N : Nat) (l : List UInt8) : Prop where
 lt : N < w.heap.size
 c : ∀ (i : Nat) (h : i < l.length), w.cell? ⟨N, i, none⟩ = some (.int .u8 (l[i].toNat : Int))
 f : ∀ i, i < l.length -> w.frozen? ⟨N, i, none⟩ = false
theorem BtAt.put {w : World} {N : Nat} {l : List UInt8} (h : BtAt w N l) {i : Nat} {u : Value} (hc : w.cell? ⟨N, i, none⟩ = some u) (y : UInt8) : BtAt (w.setCell ⟨N, i, none⟩ (.int .u8 (y.toNat : Int))).drew N (l.set i y) := by
 refine ⟨?_, ?_, ?_⟩
 ·show N < (w.setCell ⟨N, i, none⟩ (.int .u8 (y.toNat : Int))).heap.size
  simp
  exact h.lt
 ·intro j hj
  rw [List.length_set] at hj
  show (w.setCell ⟨N, i, none⟩ (.int .u8 (y.toNat : Int))).cell? ⟨N, j, none⟩ = _
  rw [List.getElem_set]
  split
  ·rename_i e
   subst e
   exact World.cell?_setCell_same w _ _ hc
  ·rename_i e
   rw [World.cell?_setCell_other w _ _ _ (fun e2 => e (by injection e2))]
   exact h.c j hj
 ·intro j hj
  rw [List.length_set] at hj
  show (w.setCell ⟨N, i, none⟩ (.int .u8 (y.toNat : Int))).frozen? ⟨N, j, none⟩ = false
  rw [World.frozen?_setCell]
  exact h.f j hj
theorem bits_xor8 (x y : Nat) : bits .xor .u8 (x : Int) (y : Int) = ((UInt8.ofNat x ^^^ UInt8.ofNat y).toNat : Int) := by
 have e : (UInt8.ofNat x ^^^ UInt8.ofNat y).toNat = (BitVec.ofNat 8 x ^^^ BitVec.ofNat 8 y).toNat := rfl
 have hl := (BitVec.ofNat 8 x ^^^ BitVec.ofNat 8 y).isLt
 rw [e]
 show IntKind.u8.wrap ((BitVec.ofInt 8 (x : Int) ^^^ BitVec.ofInt 8 (y : Int)).toNat : Int) = _
 rw [BitVec.ofInt_natCast, BitVec.ofInt_natCast]
 show ((BitVec.ofNat 8 x ^^^ BitVec.ofNat 8 y).toNat : Int) % 256 = _
 omega
theorem pow_small (r : Nat) (h : r < 8) : 2 ^ r < 256 := Nat.lt_of_lt_of_le (Nat.pow_lt_pow_right (by omega) h) (by decide)
theorem turn_val (x : UInt8) (r : Nat) (h : r < 8) : bits BinOp.xor IntKind.u8 (x.toNat : Int) (2 ^ r % 256) = ((x ^^^ UInt8.ofNat (2 ^ r)).toNat : Int) := by
 have h1 := pow_small r h
 have e : (2 : Int) ^ r % 256 = ((2 ^ r : Nat) : Int) := by
  have : (2 : Int) ^ r = ((2 ^ r : Nat) : Int) := by simp
  rw [this]
  generalize (2 ^ r : Nat) = q at *
  omega
 rw [e, bits_xor8, UInt8.ofNat_toNat]
theorem turn_bit (x : UInt8) (r j : Nat) (h : r < 8) (hj : j ≠ r) : (x ^^^ UInt8.ofNat (2 ^ r)).toNat.testBit j = x.toNat.testBit j := by
 rw [UInt8.toNat_xor, Nat.testBit_xor, Rf.byte_low (pow_small r h), Nat.testBit_two_pow]
 rw [decide_eq_false (fun e => hj e.symm), Bool.xor_false]
theorem cv_row (w : World) (s : ByteArray) (i : Nat) (hi : i < s.size) : (bytesRow s (cvCap w s))[i]? = some (.int .u8 ((Rf.bs s)[i]'(by rw [Rf.bs_len]; exact hi)).toNat) := by
 unfold bytesRow
 rw [Array.getElem?_append_left (by simpa using hi), Array.getElem?_map, Array.getElem?_eq_getElem (by simpa using hi)]
 simp [Rf.bs]
theorem cv_at (w : World) (s : ByteArray) (i : Nat) (hi : i < s.size) : (w.alloc (cvObj w s)).drew.cell? ⟨w.heap.size, i, none⟩ = some (.int .u8 ((Rf.bs s)[i]'(by rw [Rf.bs_len]; exact hi)).toNat) := by
 have h : (w.alloc (cvObj w s)).drew.heap[w.heap.size]? = some (.cells (bytesRow s (cvCap w s)) 5 ((bytesRow s (cvCap w s)).size, (bytesRow s (cvCap w s)).size + 1)) := blk_new w _
 simp only [World.cell?, h]
 exact cv_row w s i hi
theorem cv_free (w : World) (s : ByteArray) (i : Nat) (hi : i < s.size) : (w.alloc (cvObj w s)).drew.frozen? ⟨w.heap.size, i, none⟩ = false := by
 have h : (w.alloc (cvObj w s)).drew.heap[w.heap.size]? = some (.cells (bytesRow s (cvCap w s)) 5 ((bytesRow s (cvCap w s)).size, (bytesRow s (cvCap w s)).size + 1)) := blk_new w _
 have hz : i < (bytesRow s (cvCap w s)).size := (Array.getElem?_eq_some_iff.1 (cv_row w s i hi)).1
 unfold World.frozen?
 simp only []
 rw [h]
 simp
 omega
set_option maxHeartbeats 1000000 in
set_option maxRecDepth 100000 in
theorem kturned_any (w : World) (s : ByteArray) (p : Nat) (mask : Int) (hp : p <= 10000000000) :
  Calls Tryz.prog 12 #[.string s, .int .i64 p, .int .i64 mask] w fun r w' => ∃ l, r = .returned (.string (strOf l)) /\ Rf.Win p (Rf.bs s) l /\ Below w.heap.size w w' := by
 have k1 := cv_there
 go_enter Tryz.func12, Tryz.ntmps12
 go_wp2_with fail
 go_loopg [8] 33 (fun m kv wr => ∃ (k : Nat) (l : List UInt8), k <= 32 /\ m = 33 - k /\ kv = .int .i64 k /\ BtAt wr w.heap.size l /\ Rf.Win p (Rf.bs s) l /\ Below w.heap.size w wr)
 case atStart =>
  refine ⟨0, Rf.bs s, by omega, rfl, rfl, ⟨?_, ?_, ?_⟩, Rf.Win.refl _ _, (by repeat(first|exact bl0 _ _|refine bl1 ?_ (by simp<;>omega) _|refine bl2 ?_|refine bl3 ?_ _|refine bl4 ?_ (by simp<;>omega) _))⟩
  ·show w.heap.size < (w.alloc (cvObj w s)).heap.size
   simp
  ·intro i hi
   have hi' : i < s.size := by rw [<- Rf.bs_len]; exact hi
   exact cv_at w s i hi'
  ·intro i hi
   have hi' : i < s.size := by rw [<- Rf.bs_len]; exact hi
   exact cv_free w s i hi'
 case round =>
  obtain ⟨k, l, hk, rfl, rfl, hB, hW, hb⟩ := hrel
  have hsz := hb.size
  have hll : l.length = s.size := by rw [hW.len, Rf.bs_len]
  by_cases h32 : k < 32
  ·have hki : (k : Int) < 32 := by omega
   cases hc : (bits BinOp.and IntKind.i64 (mask / 2 ^ k) 1 == 1)
   ·go_wp2_with fail
    go_roundg (32 - k)
    case measure => omega
    case rel => exact ⟨k + 1, l, by omega, by omega, by go_num, hB, hW, hb⟩
   ·obtain ⟨i, hi⟩ : ∃ i : Nat, ((p : Int) + k) / 8 = (i : Int) := ⟨(p + k) / 8, by omega⟩
    obtain ⟨r, hr⟩ : ∃ r : Nat, ((p : Int) + k) % 8 = (r : Int) := ⟨(p + k) % 8, by omega⟩
    have hr8 : r < 8 := by omega
    have Hi : Hid (i = (p + k) / 8) := by show i = _; omega
    have Hr : Hid (r = (p + k) % 8) := by show r = _; omega
    by_cases hin : i < s.size
    ·have hini : (i : Int) < s.size := by omega
     have hil : i < l.length := by omega
     have c0 := hB.c i hil
     have f0 := hB.f i hil
     have hlt := hB.lt
     have HB : Hid _ := hB
     have HW : Hid _ := hW
     generalize hx : l[i] = x at c0
     have HX : Hid _ := hx
     have Hll : Hid _ := hll
     clear hx hll hB hW
     go_wp2_with fail
     go_region
     all_goals
      go_wp2_with fail
     all_goals
      go_roundg (32 - k)
      case measure => omega
      case rel =>
       have hval := turn_val x r hr8
       refine ⟨k + 1, l.set i (x ^^^ UInt8.ofNat (2 ^ r)), by omega, by omega, by go_num, ?_, HW.out.step (k := k) h32 hil Hi.out (fun j hj => ?_), ?_⟩
       ·rw [hval]
        exact HB.out.put c0 _
       ·rw [HX.out]
        exact turn_bit x r j hr8 (by rw [Hr.out]; exact hj)
       ·exact (hb.setCell (p := ⟨w.heap.size, i, none⟩) (Nat.le_refl _) _).drew
    ·have hini : ¬ ((i : Int) < s.size) := by omega
     have hind : decide ((i : Int) < s.size) = false := decide_eq_false hini
     go_wp2_with fail
     go_roundg (32 - k)
     case measure => omega
     case rel => exact ⟨k + 1, l, by omega, by omega, by go_num, hB, hW, hb⟩
  ·have hki : ¬ ((k : Int) < 32) := by omega
   have hcv := run_convert_bytes_back (P := Tryz.prog) wr 47 9 5 ⟨w.heap.size, 0, none⟩ (cvCap w s) l Tryz.underlying47 Tryz.underlying5 Tryz.underlying9 (fun j hj => by rw [Addr.add_lit, Nat.zero_add]; exact hB.c j hj)
   rw [hll] at hcv
   have hcv2 : (convert 47 9 (.slice (some ⟨w.heap.size, 0, none⟩) s.size (cvCap w s))).run Tryz.prog wr = .ok (.string (strOf l)) wr := hcv
   have HW : Hid _ := hW
   clear hcv hB hW hll
   go_wp2_with fail
   go_ret
   exact ⟨l, rfl, HW.out, hb⟩
end Go.Proofs.YtbiojnljihgpoaaGreatDoor
