/- How the program writes one part of a term (term: letter, word). -/
import Derived.Test.YthdmbbfaphipkaaGreatDoorYal
import Derived.Test.YthdmbbfaphipkaaGreatDoorYam
import Derived.Test.YthdmbbfaphipkaaGreatDoorYac
import Derived.Deep.LoopGhost
import Derived.Test.YthdmbbfaphipkaaGreatDoorYab
namespace Rf
theorem letter_cut (j : Nat) (h : j < 16) : (⟨#[65, 66, 67, 68, 69, 70, 71, 72, 73, 74, 75, 76, 77, 78, 79, 80]⟩ : ByteArray).extract j (j + 1) = letterOf (j : Int) := by
  have hd : j = 0 ∨ j = 1 ∨ j = 2 ∨ j = 3 ∨ j = 4 ∨ j = 5 ∨ j = 6 ∨ j = 7 ∨ j = 8 ∨ j = 9 ∨ j = 10 ∨ j = 11 ∨ j = 12 ∨ j = 13 ∨ j = 14 ∨ j = 15 := by omega
  refine ext_list ?_
  rw [extract_list]
  rcases hd with rfl | rfl | rfl | rfl | rfl | rfl | rfl | rfl | rfl | rfl | rfl | rfl | rfl | rfl | rfl | rfl <;> rfl
end Rf
namespace Go.Proofs.YthdmbbfaphipkaaGreatDoor
open Go.RowKit
set_option maxHeartbeats 400000 in
theorem pletter_any (i : Int) (w : World) (h0 : 0 ≤ i) (h1 : i < 16) :
    Calls Tryz.prog 158 #[.int .i64 i] w fun r w' => r = .returned (.string (Rf.letterOf i)) ∧ w' = w := by
  obtain ⟨j, rfl⟩ := Int.eq_ofNat_of_zero_le h0
  have HL : Hid _ := Rf.letter_cut j (by omega)
  go_enter Tryz.func158, Tryz.ntmps158
  go_wp2
  go_ret
  exact ⟨ret_str HL.out, rfl⟩
def partVal (p : Rf.Part) : Value := .agg #[.int .i64 p.kind, .string p.name, .int .i64 p.value, .int .i64 p.args]
set_option maxHeartbeats 1000000 in
theorem word_part (b : Bool) (p : Rf.Part) (w : World) (hg : Rf.GoodW b p) (hT : Tab w) :
    Calls Tryz.prog 128 #[.agg #[.int .i64 p.kind, .string p.name, .int .i64 p.value, .int .i64 p.args], .bool b] w fun r w' => r = .returned (.string (Rf.wordW b p)) ∧ Below w.heap.size w w' := by
  have HT : Hid _ := hT
  have Hg : Hid (Rf.GoodW b p) := hg
  clear hT hg
  cases c1 : (p.kind == 1)
  · cases c2 : (p.kind == 2)
    · cases c4 : (p.kind == 4)
      · have HW : Hid (Rf.wordW b p = p.name) := Rf.wordW_name b p c1 c2 c4
        go_enter Tryz.func128, Tryz.ntmps128
        go_wp2
        go_ret
        exact ⟨ret_str HW.out.symm, (by repeat (first | exact Below.refl _ _ | refine Below.setCell ?_ (by simp <;> omega) _ | refine Below.drew ?_ | refine Below.drewN ?_ _ | refine Below.alloc ?_ (by simp <;> omega) _))⟩
      · have HW : Hid (Rf.wordW b p = ⟨#[33]⟩) := Rf.wordW_cut b p c1 c2 c4
        go_enter Tryz.func128, Tryz.ntmps128
        go_wp2
        go_ret
        exact ⟨ret_str HW.out.symm, (by repeat (first | exact Below.refl _ _ | refine Below.setCell ?_ (by simp <;> omega) _ | refine Below.drew ?_ | refine Below.drewN ?_ _ | refine Below.alloc ?_ (by simp <;> omega) _))⟩
    · have HW : Hid (Rf.wordW b p = Rf.itoaB p.value) := Rf.wordW_num b p c1 c2
      obtain ⟨a0, a1⟩ := (Rf.GoodW.a Hg.out).2.1 (eq_of_beq c2)
      go_enter Tryz.func128, Tryz.ntmps128
      go_wp2_with (go_at_call 107; refine (Tryz.strconv_Itoa p.value (by omega) (by omega) _ (Tab.below HT.out ((Below.refl _ w).alloc (Nat.le_refl _) _))).mono ?_; rintro r w1 ⟨rfl, k, os, hw1⟩)
      go_ret
      exact ⟨ret_str HW.out.symm, ((Below.refl _ w).alloc (Nat.le_refl _) _).trans ((grow_below _ _ _).mono (by simp))⟩
  · cases b with
    | true =>
      have HW : Hid (Rf.wordW true p = Rf.letterOf p.value) := Rf.wordW_let p c1
      obtain ⟨a0, a1⟩ := Rf.GoodW.l Hg.out (eq_of_beq c1)
      go_enter Tryz.func128, Tryz.ntmps128
      go_wp2_with (go_at_call 158; refine (pletter_any p.value _ a0 a1).mono ?_; rintro r w1 ⟨rfl, rfl⟩)
      go_ret
      exact ⟨ret_str HW.out.symm, (by repeat (first | exact Below.refl _ _ | refine Below.setCell ?_ (by simp <;> omega) _ | refine Below.drew ?_ | refine Below.drewN ?_ _ | refine Below.alloc ?_ (by simp <;> omega) _))⟩
    | false =>
      have HW : Hid (Rf.wordW false p = ⟨#[95]⟩ ++ Rf.itoaB (p.value + 1)) := Rf.wordW_var p c1
      obtain ⟨a0, a1⟩ := (Rf.GoodW.a Hg.out).1 (eq_of_beq c1)
      have hil : (⟨(Go.Lib.itoa (p.value + 1)).toArray⟩ : ByteArray).size ≤ 21 := by
        have := Go.Lib.itoa_length_le (p.value + 1) (by omega) (by omega)
        simpa [ByteArray.size] using this
      have hil2 := Go.Lib.itoa_length_le (p.value + 1) (by omega) (by omega)
      have hil3 : ((Go.Lib.itoa (p.value + 1)).length : Int) ≤ 21 := by omega
      go_enter Tryz.func128, Tryz.ntmps128
      go_wp2_with (go_at_call 107; refine (Tryz.strconv_Itoa (p.value + 1) (by omega) (by omega) _ (Tab.below HT.out ((Below.refl _ w).alloc (Nat.le_refl _) _))).mono ?_; rintro r w1 ⟨rfl, k, os, hw1⟩)
      go_ret
      exact ⟨ret_str HW.out.symm, ((Below.refl _ w).alloc (Nat.le_refl _) _).trans ((grow_below _ _ _).mono (by simp))⟩
end Go.Proofs.YthdmbbfaphipkaaGreatDoor
/- How the program writes a term (term: Term.Text): the plain function's text. -/
namespace Go
open Go.RowKit
/-- The last element of a row taken off. -/
theorem row_pop {α : Type} {w : World} {base : Nat} {e : TypeId} {size : Nat} {C : α → List Value} (hC : ∀ x, (C x).length = size) {g n cap : Nat} {xs : List α} {x : α} (h : RowIs w base e size C (.slice (some ⟨g, 0, none⟩) (n + 1) cap) (xs ++ [x])) : RowIs w base e size C (.slice (some ⟨g, 0, none⟩) n cap) xs := by
  obtain ⟨hl, h2⟩ := h.own
  rcases h2 with ⟨h2, _⟩ | ⟨g', cap', cur, e1, h3, h4, h5, h6, h7, h8⟩
  · cases h2
  · obtain ⟨rfl, hn, rfl⟩ : g = g' ∧ n + 1 = (xs ++ [x]).length ∧ cap = cap' := by injection e1 with a1 a2 a3; injection a1 with a1; injection a1 with a1; exact ⟨a1, a2, a3⟩
    have hn' : n = xs.length := by simp at hn; omega
    subst hn'
    have hlen := flatMap_len C hC xs
    refine ⟨hlen, .inr ⟨g, cap, cur, rfl, h3, h4, by simp at h5; omega, h6, h7, ?_⟩⟩
    have h9 := congrArg (List.take (xs.length * size)) h8
    rw [List.take_take, List.flatMap_append, List.take_append_of_le_length (by omega), List.take_of_length_le (l := List.flatMap C xs) (by omega)] at h9
    rw [← h9]
    congr 1
    rw [List.length_append, Nat.add_mul]
    omega
/-- A cell of a row's last element turned. -/
theorem row_setLast {α : Type} {w : World} {base : Nat} {e : TypeId} {C : α → List Value} (hC : ∀ x, (C x).length = 1) {g n cap : Nat} {xs : List α} {x x' : α} {u : Value} (h : RowIs w base e 1 C (.slice (some ⟨g, 0, none⟩) n cap) (xs ++ [x])) (hx : C x' = [u]) :
    RowIs (w.setCell ⟨g, xs.length, none⟩ u) base e 1 C (.slice (some ⟨g, 0, none⟩) n cap) (xs ++ [x']) := by
  obtain ⟨hl, h2⟩ := h.own
  rcases h2 with ⟨h2, _⟩ | ⟨g', cap', cur, e1, h3, h4, h5, h6, h7, h8⟩
  · cases h2
  · obtain ⟨rfl, hn, rfl⟩ : g = g' ∧ n = (xs ++ [x]).length ∧ cap = cap' := by injection e1 with a1 a2 a3; injection a1 with a1; injection a1 with a1; exact ⟨a1, a2, a3⟩
    subst hn
    have hlen := flatMap_len C hC xs
    have hlx := hC x
    refine ⟨?_, .inr ⟨g, cap, cur.setIfInBounds xs.length u, by simp, h3, ?_, by simpa using h5, h6, by simpa using h7, ?_⟩⟩
    · rw [flatMap_len C hC]
    · simp [World.setCell, Array.getElem?_modify, h4]
    · rw [Array.toList_setIfInBounds, List.take_set]
      have hlen2 : ((xs ++ [x']).length) = (xs ++ [x]).length := by simp
      rw [hlen2, h8, List.flatMap_append, List.flatMap_append, List.set_append_right _ _ (by omega), one_flat, one_flat, hx]
      have : xs.length - (List.flatMap C xs).length = 0 := by omega
      rw [this]
      match hcx : C x, hlx with
      | [y], _ => rfl
end Go
namespace Go.Proofs.YthdmbbfaphipkaaGreatDoor
open Go.RowKit
def natCells (n : Nat) : List Value := [.int .i64 (n : Int)]
theorem natCells_len (s : Nat) : (natCells s).length = 1 := rfl
theorem natCells_one (s : Nat) : ∀ u ∈ natCells s, u.oneCell' = true := by
  intro u hu
  simp only [natCells, List.mem_cons, List.not_mem_nil, or_false] at hu
  subst hu; rfl
theorem Tryz.elemInt : ElemOk Tryz.prog 24 3 1 8 (.int .i64 0) := ⟨Tryz.underlying24, by kernel_rfl, rfl, by decide, by decide⟩
/-- The writer's state before part k: the text so far, and the compounds that are open. -/
def TxSt (b : Bool) (w : World) (ps : List Rf.Part) (k : Nat) (sv ov : Value) (wr : World) : Prop :=
  ∃ (s : ByteArray) (st : List Nat), sv = .string s ∧ RowIs wr w.heap.size 3 1 natCells ov st.reverse ∧ Below w.heap.size w wr ∧ (∀ x ∈ st, 1 ≤ x ∧ x ≤ 4) ∧ st.length ≤ k ∧ Hid (s ++ Rf.textW b (ps.drop k) st = Rf.txtW b ps)
set_option maxHeartbeats 2000000 in
set_option maxRecDepth 100000 in
theorem pwritten_any (b : Bool) (F : Nat → Prop) (w : World) (a : Option Addr) (n c : Nat) (ps : List Rf.Part) (h : PT F w (.slice a n c) ps) (hg : ∀ x ∈ ps, Rf.GoodW b x) (h4 : ∀ x ∈ ps, 0 ≤ x.args ∧ x.args ≤ 4) (hl : ps.length ≤ 100000) (hT : Tab w) :
    Calls Tryz.prog 88 #[.slice a n c, .bool b] w fun r w' => r = .returned (.string (Rf.txtW b ps)) ∧ Below w.heap.size w w' := by
  have hn : n = ps.length := row_len h.1
  subst hn
  have HH : Hid _ := h.1
  have Hg : Hid _ := hg
  have H4 : Hid _ := h4
  have HT : Hid _ := hT
  have hts := Rf.txtW_size b ps hg
  clear h hg h4 hT
  go_enter Tryz.func88, Tryz.ntmps88
  go_wp2_with fail
  go_loopg [5, 6, 12] (ps.length + 1) (fun m sv ov iv wr => ∃ k : Nat, k ≤ ps.length ∧ m = ps.length + 1 - k ∧ iv = .int .i64 k ∧ TxSt b w ps k sv ov wr)
  case atStart => exact ⟨0, by omega, rfl, rfl, ⟨#[]⟩, [], rfl, RowIs.nil _ _ _ _ _, Below.refl _ _, (fun x hx => by simp at hx), by simp, by unfold Hid Rf.txtW; rw [List.drop_zero, Rf.emp_app]⟩
  case round =>
    obtain ⟨k, hk, rfl, rfl, s, st, rfl, hrow, hbr, hst, hstl, hinv⟩ := hrel
    obtain ⟨a4, c4, hv4⟩ := row_slice hrow
    rw [List.length_reverse] at hv4
    subst hv4
    have hsz := hbr.size
    have hss : s.size ≤ 2400000 := by
      have h9 := congrArg ByteArray.size hinv.out
      rw [ByteArray.size_append] at h9
      omega
    by_cases hlt : k < ps.length
    · obtain ⟨gv, rfl⟩ : ∃ gv, a = some ⟨gv, 0, none⟩ := by
        rcases HH.out.shape with ⟨_, hnil⟩ | ⟨gv, cv, e, _⟩
        · rw [hnil] at hlt; simp at hlt
        · injection e with e1 _ _; exact ⟨gv, e1⟩
      have hmem : ps[k] ∈ ps := List.getElem_mem hlt
      have hcs := (HH.out.below hbr).cells partCells_len k ps[k] (by simp [hlt])
      have hgd := Hg.out _ hmem
      have ha4 := H4.out _ hmem
      have hdrop : ps.drop k = ps[k] :: ps.drop (k + 1) := List.drop_eq_getElem_cons hlt
      rw [hdrop] at hinv
      clear hmem hdrop
      generalize ps[k] = p at *
      have hwz := Rf.wordW_size b p hgd
      have c0 := hcs 0 _ rfl
      have c1 := hcs 1 _ rfl
      have c2 := hcs 2 _ rfl
      have c3 := hcs 3 _ rfl
      simp only [Nat.add_zero] at c0
      have Hgd : Hid _ := hgd
      clear hcs hgd
      have hlt' : (k : Int) < ps.length := by omega
      have Hnc : Hid (natCells p.args.toNat = [.int .i64 p.args]) := by unfold Hid natCells; rw [Int.toNat_of_nonneg ha4.1]
      by_cases hargs : 0 < p.args
      · have hinv2 : Hid (s ++ Rf.wordW b p ++ ⟨#[40]⟩ ++ Rf.textW b (ps.drop (k + 1)) (p.args.toNat :: st) = Rf.txtW b ps) := by
          have h9 := hinv.out
          rw [Rf.textW, if_pos hargs] at h9
          unfold Hid
          rw [← h9]
          simp only [ByteArray.append_assoc]
        go_wp2_with (first
          | (go_at_call 128; refine (word_part b p _ Hgd.out (Tab.below HT.out (hbr.alloc hsz _))).mono ?_; rintro r w1 ⟨rfl, hb1⟩; have hs1 := hb1.size; have hX1 := (hb1.block wr.heap.size (by simp)).trans (blk_new _ _); have x3 : w1.cell? ⟨wr.heap.size, 3, none⟩ = some (.int .i64 p.args) := blk_cell hX1 3; have hbw1 : Below w.heap.size w w1 := (hbr.alloc hsz _).trans (hb1.mono (by simp; omega)); have hsw1 := hbw1.size; have hrow1 := (hrow.alloc (.cells #[.int .i64 p.kind, .string p.name, .int .i64 p.value, .int .i64 p.args] 129)).below hb1)
          | (at_builtin; refine wpList_app Tryz.elemInt natCells natCells_len natCells_one _ rfl (.tmp 26) (.tmp 29) rfl w.heap.size _ st.reverse rfl (hrow1.alloc _) ⟨_, 0, none⟩ 1 p.args.toNat rfl (fun j v hj => cell_one_at _ _ rfl _ _ j v (by rw [← Hnc.out]; exact hj)) ?_ ?_ ?_; rw [List.length_reverse]; omega; (rw [World.size_alloc]; omega); intro gA capA w3 hrow3 hgr3 hnb3; rw [List.length_reverse] at hrow3))
        go_roundg (ps.length - k)
        case measure => omega
        case rel =>
          refine ⟨k + 1, by omega, by omega, by go_num, _, p.args.toNat :: st, rfl, ?_, ?_, ?_, by simp; omega, hinv2⟩
          · rw [List.reverse_cons]; exact hrow3
          · exact (hbw1.alloc hsw1 _).grown hgr3 (by rw [World.size_alloc]; omega) (fun j e => (hrow.lt j e).1)
          · intro x hx
            rcases List.mem_cons.1 hx with rfl | hx
            · omega
            · exact hst x hx
      · have hinv2 : Hid ((s ++ Rf.wordW b p) ++ ((Rf.closeP st).1 ++ Rf.textW b (ps.drop (k + 1)) (Rf.closeP st).2) = Rf.txtW b ps) := by
          have h9 := hinv.out
          rw [Rf.textW, if_neg hargs] at h9
          unfold Hid
          rw [← h9]
          simp only [ByteArray.append_assoc]
        have hnarg : p.args ≤ 0 := by omega
        have harg0 : decide (0 < p.args) = false := by simpa using hnarg
        obtain ⟨wo, rfl⟩ : ∃ wo : World, wo = wr := ⟨_, rfl⟩
        go_wp2_with (go_at_call 128; refine (word_part b p _ Hgd.out (Tab.below HT.out (hbr.alloc hsz _))).mono ?_; rintro r w1 ⟨rfl, hb1⟩; have hs1 := hb1.size; have hX1 := (hb1.block wo.heap.size (by simp)).trans (blk_new _ _); have x3 : w1.cell? ⟨wo.heap.size, 3, none⟩ = some (.int .i64 p.args) := blk_cell hX1 3; have hbw1 : Below w.heap.size w w1 := (hbr.alloc hsz _).trans (hb1.mono (by simp; omega)); have hsw1 := hbw1.size; have hrow1 := (hrow.alloc (.cells #[.int .i64 p.kind, .string p.name, .int .i64 p.value, .int .i64 p.args] 129)).below hb1)
        have hsw1' := hsw1
        clear hX1 x3 hinv
        go_loopg [5, 6] (st.length + 1) (fun m sv ov wi => ∃ (s2 : ByteArray) (st2 : List Nat), m = st2.length + 1 ∧ sv = .string s2 ∧ RowIs wi w.heap.size 3 1 natCells ov st2.reverse ∧ Below w.heap.size w wi ∧ (∀ x ∈ st2, 1 ≤ x ∧ x ≤ 4) ∧ st2.length ≤ k ∧ Hid (s2 ++ ((Rf.closeP st2).1 ++ Rf.textW b (ps.drop (k + 1)) (Rf.closeP st2).2) = Rf.txtW b ps))
        case atStart => exact ⟨_, st, rfl, rfl, hrow1, hbw1, hst, hstl, hinv2⟩
        case round =>
          obtain ⟨s2, st2, rfl, rfl, hrow2, hbw2, hst2, hstl2, hinv3⟩ := hrel
          have hss2 : s2.size ≤ 2400000 := by
            have h9 := congrArg ByteArray.size hinv3.out
            rw [ByteArray.size_append] at h9
            omega
          clear hrow1 hrow hinv2
          cases st2 with
          | nil =>
            obtain ⟨a5, c5, hv5⟩ := row_slice hrow2
            rw [List.reverse_nil, List.length_nil] at hv5
            subst hv5
            go_wp2_with fail
            go_roundg (ps.length - k)
            case measure => omega
            case rel => exact ⟨k + 1, by omega, by omega, by go_num, _, [], rfl, hrow2, hbw2, hst2, by simp, by have h9 := hinv3.out; rw [Rf.closeP, Rf.emp_app] at h9; exact h9⟩
          | cons x st3 =>
            rw [List.reverse_cons] at hrow2
            obtain ⟨gO, c5, hv5, _, hgO, hc5, hcm5⟩ := hrow2.shape.resolve_left (fun e => by have := congrArg List.length e.2; simp at this)
            rw [List.length_append, List.length_reverse, List.length_cons, List.length_nil] at hv5 hc5
            subst hv5
            have hcl := hrow2.cells natCells_len st3.length x (by simp) 0 _ rfl
            simp only [Nat.mul_one, Nat.add_zero] at hcl
            have hfz := row_frozen hrow2
            have hx14 := hst2 x (by simp)
            have hst3l : (st3.length : Int) ≤ 100000 := by simp only [List.length_cons] at hstl2; omega
            have hst3c : (st3.length : Int) + 1 ≤ (c5 : Int) := by omega
            have hst3 : ∀ y ∈ st3, 1 ≤ y ∧ y ≤ 4 := fun y hy => hst2 y (List.mem_cons_of_mem _ hy)
            have hset : ∀ y : Nat, (y : Int) = (x : Int) - 1 → RowIs (wr.setCell ⟨gO, st3.length, none⟩ (.int .i64 ((x : Int) - 1))) w.heap.size 3 1 natCells (.slice (some ⟨gO, 0, none⟩) (st3.length + 1) c5) (st3.reverse ++ [y]) := by
              intro y hy
              have h9 := row_setLast (x' := y) (u := .int .i64 ((x : Int) - 1)) natCells_len hrow2 (by unfold natCells; rw [hy])
              rw [List.length_reverse] at h9
              exact h9
            have Hset : Hid _ := hset
            have hgO2 := (hrow2.lt gO rfl).1
            have hbs : ∀ v, Below w.heap.size w (wr.setCell ⟨gO, st3.length, none⟩ v) := fun v => hbw2.setCell (p := ⟨gO, st3.length, none⟩) hgO2 v
            have Hbs : Hid _ := hbs
            clear hset hbs hst2
            by_cases hx1 : 1 < x
            · have hinv4 : Hid (s2 ++ ⟨#[44]⟩ ++ Rf.textW b (ps.drop (k + 1)) ((x - 1) :: st3) = Rf.txtW b ps) := by
                have h9 := hinv3.out
                rw [Rf.closeP, if_pos hx1] at h9
                unfold Hid
                rw [← h9, ByteArray.append_assoc]
              have hxi : (0 : Int) < (x : Int) - 1 := by omega
              go_wp2_with fail
              go_roundg (ps.length - k)
              case measure => omega
              case rel =>
                refine ⟨k + 1, by omega, by omega, by go_num, _, (x - 1) :: st3, rfl, ?_, Hbs.out _, ?_, ?_, hinv4⟩
                · rw [List.reverse_cons]; exact Hset.out (x - 1) (by omega)
                · intro y hy
                  rcases List.mem_cons.1 hy with rfl | hy
                  · omega
                  · exact hst3 y hy
                · simp only [List.length_cons] at hstl2 ⊢; omega
            · obtain rfl : x = 1 := by omega
              have hinv4 : Hid ((s2 ++ ⟨#[41]⟩) ++ ((Rf.closeP st3).1 ++ Rf.textW b (ps.drop (k + 1)) (Rf.closeP st3).2) = Rf.txtW b ps) := by
                have h9 := hinv3.out
                rw [Rf.closeP, if_neg hx1] at h9
                unfold Hid
                rw [← h9]
                simp only [ByteArray.append_assoc]
              go_wp2_with fail
              go_roundg (st3.length + 1)
              case measure => simp
              case rel =>
                refine ⟨_, st3, rfl, rfl, row_pop natCells_len (Hset.out 0 (by simp)), Hbs.out _, hst3, ?_, hinv4⟩
                simp only [List.length_cons] at hstl2; omega
    · obtain rfl : k = ps.length := by omega
      have hend : Hid (s = Rf.txtW b ps) := by
        have h9 := hinv.out
        rw [List.drop_length, Rf.textW, Rf.app_emp] at h9
        exact h9
      go_wp2_with fail
      go_ret
      exact ⟨ret_str hend.out, hbr⟩
set_option maxHeartbeats 400000 in
theorem text_any (F : Nat → Prop) (w : World) (a : Option Addr) (n c : Nat) (ps : List Rf.Part) (h : PT F w (.slice a n c) ps) (hg : ∀ x ∈ ps, Rf.Good x) (h4 : ∀ x ∈ ps, 0 ≤ x.args ∧ x.args ≤ 4) (hl : ps.length ≤ 100000) (hT : Tab w) :
    Calls Tryz.prog 57 #[.slice a n c] w fun r w' => r = .returned (.string (Rf.txt ps)) ∧ Below w.heap.size w w' := by
  have H : Hid _ := h
  have Hg : Hid _ := hg
  have H4 : Hid _ := h4
  have HT : Hid _ := hT
  clear h hg h4 hT
  go_enter Tryz.func57, Tryz.ntmps57
  go_wp2_with (go_at_call 88; refine (pwritten_any true F _ a n c ps H.out Hg.out H4.out hl HT.out).mono ?_; rintro r w1 ⟨rfl, hb1⟩)
  go_ret
  exact ⟨ret_str (Rf.txtW_true ps), hb1⟩
set_option maxHeartbeats 400000 in
theorem answer_any (F : Nat → Prop) (w : World) (a : Option Addr) (n c : Nat) (ps : List Rf.Part) (h : PT F w (.slice a n c) ps) (hg : ∀ x ∈ ps, Rf.GoodA x) (h4 : ∀ x ∈ ps, 0 ≤ x.args ∧ x.args ≤ 4) (hl : ps.length ≤ 100000) (hT : Tab w) :
    Calls Tryz.prog 126 #[.slice a n c] w fun r w' => r = .returned (.string (Rf.txtA ps)) ∧ Below w.heap.size w w' := by
  have H : Hid _ := h
  have Hg : Hid _ := hg
  have H4 : Hid _ := h4
  have HT : Hid _ := hT
  clear h hg h4 hT
  go_enter Tryz.func126, Tryz.ntmps126
  go_wp2_with (go_at_call 88; refine (pwritten_any false F _ a n c ps H.out Hg.out H4.out hl HT.out).mono ?_; rintro r w1 ⟨rfl, hb1⟩)
  go_ret
  exact ⟨rfl, hb1⟩
end Go.Proofs.YthdmbbfaphipkaaGreatDoor
/- How the program writes a clause (term: Clause.Text). -/
namespace Go.Proofs.YthdmbbfaphipkaaGreatDoor
open Go.RowKit
def lineQ (c : Rf.Cl) : ByteArray := Rf.accL (Rf.txt c.head) c.body c.body.length ++ ⟨#[46]⟩
theorem lineQ_P (c : Rf.Cl) : lineQ c ++ ⟨#[10]⟩ = Rf.lineP c := by
  unfold lineQ Rf.lineP
  rw [ByteArray.append_assoc]
  rfl
set_option maxHeartbeats 2000000 in
set_option maxRecDepth 100000 in
theorem ctext_any (F : Nat → Prop) (w : World) (hx bx : SlV) (cl : Rf.Cl) (h : PClAt F w hx bx cl) (hg : GoodC cl) (ha : Rf.ArgCl cl) (hT : Tab w) :
    Calls Tryz.prog 35 #[.agg #[.slice hx.a hx.n hx.c, .slice bx.a bx.n bx.c]] w fun r w' => r = .returned (.string (lineQ cl)) ∧ Below w.heap.size w w' := by
  obtain ⟨hh, acc, hrow, _, hgl, hbody, h8⟩ := h
  obtain ⟨g1, g2, g3⟩ := hg
  obtain ⟨ha1, ha2⟩ := ha
  obtain ⟨ah, nh, ch⟩ := hx
  obtain ⟨ab, nb, cb⟩ := bx
  have hxx : Hid (lineQ cl = Rf.accL (Rf.txt cl.head) (acc.map (·.2)) acc.length ++ ⟨#[46]⟩) := by unfold Hid lineQ; rw [hbody, List.length_map]
  have hq : ∀ q ∈ acc, (∀ x ∈ q.2, Rf.Good x) ∧ q.2.length ≤ 100000 := fun q hq => g3 q.2 (by rw [hbody]; exact List.mem_map_of_mem hq)
  have hqa : ∀ q ∈ acc, ∀ x ∈ q.2, Rf.ArgOk x := fun q hq => ha2 q.2 (by rw [hbody]; exact List.mem_map_of_mem hq)
  have hhs : (Rf.txt cl.head).size ≤ 2300000 := by have := Rf.txt_size cl.head g1; omega
  have hsz : ∀ k, k ≤ acc.length → (Rf.accL (Rf.txt cl.head) (acc.map (·.2)) k).size ≤ 2300000 + 8 * 2300002 := fun k hk => by
    have h5 := Rf.accL_size (Rf.txt cl.head) (acc.map (·.2)) 2300000 (fun q hq' => by
      obtain ⟨x, hx', rfl⟩ := List.mem_map.1 hq'
      have := Rf.txt_size x.2 (hq x hx').1
      have := (hq x hx').2
      omega) k (by simpa using hk)
    have h6 : k * (2300000 + 2) ≤ 8 * (2300000 + 2) := Nat.mul_le_mul_right _ (by omega)
    omega
  have hn : nb = acc.length := by have := row_len hrow; rw [List.length_map] at this; exact this
  subst hn
  have Hsz : Hid _ := hsz
  have Hq : Hid _ := hq
  have Hqa : Hid _ := hqa
  have Hrow : Hid _ := hrow
  have Hh : Hid _ := hh
  have Hgl : Hid _ := hgl
  have HT : Hid _ := hT
  have G1 : Hid _ := g1
  have A1 : Hid _ := ha1
  clear hsz hq hqa hrow hh hgl hT hbody g1 g3 ha1 ha2
  generalize lineQ cl = LP at *
  generalize cl.head = hd at *
  go_enter Tryz.func35, Tryz.ntmps35
  go_wp2_with (go_at_call 57; refine (text_any F _ ah nh ch hd (PT.keptBy (F' := F) Hh.out ((Kept.refl (fun _ => False) w).alloc _) (fun _ _ hF => ⟨fun e => e, hF⟩)) G1.out A1.out g2 (Tab.below HT.out ((Below.refl _ w).alloc (Nat.le_refl _) _))).mono ?_; rintro r w1 ⟨rfl, hb1⟩; have hb1' : Below w.heap.size w w1 := ((Below.refl _ w).alloc (Nat.le_refl _) _).trans (hb1.mono (by simp)); have hX1 := (hb1.block w.heap.size (by simp)).trans (blk_new _ _); have x1 : w1.cell? ⟨w.heap.size, 1, none⟩ = some (.slice ab acc.length cb) := blk_cell hX1 1)
  clear hX1 x1
  go_loopw [3, 12] (fun sv iv wr => ∃ k : Nat, k ≤ acc.length ∧ iv = .int .i64 k ∧ sv = .string (Rf.accL (Rf.txt hd) (acc.map (·.2)) k) ∧ Below w.heap.size w wr) (fun _ iv _ => acc.length - (intOf iv).toNat)
  case atStart => exact ⟨0, by omega, rfl, rfl, hb1'⟩
  case round =>
    obtain ⟨k, hk, rfl, rfl, hbw⟩ := hrel
    have hcar : (acc.length : Int) ≤ 8 := by omega
    have ht3 := Hsz.out k hk
    by_cases hlt : k < acc.length
    · obtain ⟨gv, rfl⟩ : ∃ gv, ab = some ⟨gv, 0, none⟩ := by
        rcases Hrow.out.shape with ⟨_, hnil⟩ | ⟨gv, cv, e, _⟩
        · have h7 := congrArg List.length hnil
          rw [List.length_map, List.length_nil] at h7
          omega
        · injection e with e1 _ _; exact ⟨gv, e1⟩
      have hmem : acc[k] ∈ acc := List.getElem_mem hlt
      have hcell := (Hrow.out.below hbw).cells slCells_len k acc[k].1 (by simp [hlt]) 0 _ rfl
      simp only [Nat.add_zero, Nat.mul_one] at hcell
      have hgo := (Hgl.out _ hmem).keptBy (F' := F) (Kept.of_below hbw (fun _ => False)) (fun _ _ hF => ⟨fun e => e, hF⟩)
      have hgd := (Hq.out _ hmem).1
      have hld := (Hq.out _ hmem).2
      have hga := Hqa.out _ hmem
      have ht1 := Rf.txt_size _ hgd
      have ht2 : (Rf.txt acc[k].2).size ≤ 2300000 := by omega
      clear ht1
      have hg2 : (acc.map (·.2)).getD k [] = acc[k].2 := by simp [hlt]
      have hacc : Hid (Rf.accL (Rf.txt hd) (acc.map (·.2)) (k + 1) = if k = 0 then (Rf.txt hd ++ ⟨#[58, 45]⟩) ++ Rf.txt acc[k].2 else (Rf.accL (Rf.txt hd) (acc.map (·.2)) k ++ ⟨#[44]⟩) ++ Rf.txt acc[k].2) := by
        unfold Hid; rw [Rf.accL]
        split
        · rename_i h0; subst h0; rw [hg2]
        · rw [hg2]
      clear hg2 hmem
      have Hgd : Hid _ := hgd
      have Hga : Hid _ := hga
      clear hgd hga
      generalize acc[k] = q at *
      obtain ⟨⟨qa, qn, qc⟩, qp⟩ := q
      have hcell2 : wr.cell? ⟨gv, k, none⟩ = some (.slice qa qn qc) := hcell
      have hgo2 : Hid (PT F wr (.slice qa qn qc) qp) := hgo
      simp only at ht2 hacc Hgd Hga hld
      clear hcell hgo
      have hlt' : (k : Int) < acc.length := by omega
      have hz40 : (⟨#[58, 45]⟩ : ByteArray).size = 2 := rfl
      have hz44 : (⟨#[44]⟩ : ByteArray).size = 1 := rfl
      have ht4 : (Rf.accL (Rf.txt hd) (acc.map (·.2)) k ++ ⟨#[44]⟩).size ≤ 2300001 + 8 * 2300002 := by rw [ByteArray.size_append]; omega
      have ht5 : (Rf.accL (Rf.txt hd) (acc.map (·.2)) k ++ ⟨#[58, 45]⟩).size ≤ 2300002 + 8 * 2300002 := by rw [ByteArray.size_append]; omega
      by_cases hk0 : k = 0
      · subst hk0
        go_wp2_with (go_at_call 57; refine (text_any F _ qa qn qc qp hgo2.out Hgd.out Hga.out hld (Tab.below HT.out hbw)).mono ?_; rintro r w2 ⟨rfl, hb2⟩)
        go_roundw
        case rel => exact ⟨1, by omega, rfl, by rw [hacc.out, if_pos trivial]; rfl, hbw.trans (hb2.mono hbw.size)⟩
        case measure => simp [intOf]; omega
      · have hk0' : ((k : Int) == 0) = false := beq_eq_false_iff_ne.2 (by omega)
        go_wp2_with (go_at_call 57; refine (text_any F _ qa qn qc qp hgo2.out Hgd.out Hga.out hld (Tab.below HT.out hbw)).mono ?_; rintro r w2 ⟨rfl, hb2⟩)
        go_roundw
        case rel => exact ⟨k + 1, by omega, by go_num, by rw [hacc.out, if_neg hk0], hbw.trans (hb2.mono hbw.size)⟩
        case measure => simp [intOf]; omega
    · obtain rfl : k = acc.length := by omega
      go_wp2_with fail
      go_ret
      exact ⟨ret_str hxx.out.symm, hbw⟩
end Go.Proofs.YthdmbbfaphipkaaGreatDoor
/- The program's session (prompt: New, Stop, Listing, Consult): how it lies in memory, and the plain functions' answers. -/
namespace Go.Proofs.YthdmbbfaphipkaaGreatDoor
open Go.RowKit
/-- Block x holds a session of the program's: its limit, its clauses' row vC, its question vQ. -/
def PsB (w : World) (x : Nat) (lim : Int) (vC vQ : Value) : Prop :=
  w.heap[x]? = some (.cells #[.int .i64 lim, vC, vQ] 52 (0, 0))
/-- A row of at most 30 good clauses. -/
structure PCls30 (F : Nat → Prop) (w : World) (v : Value) (cls : List Rf.Cl) : Prop where
  ex : ∃ acc, PClsAt F w v acc ∧ cls = acc.map (·.2) ∧ acc.length ≤ 30
  good : ∀ c ∈ cls, GoodC c ∧ Rf.ArgCl c
/-- A session of the program's: block x, not among F, where its clauses lie. -/
structure PsAt (F : Nat → Prop) (w : World) (x : Nat) (cls : List Rf.Cl) : Prop where
  ex : ∃ lim vC vQ, PsB w x lim vC vQ ∧ PCls30 F w vC cls
  apart : ¬ F x
theorem lineQ_size (c : Rf.Cl) : (lineQ c).size + 1 = (Rf.lineP c).size := by
  rw [← lineQ_P, ByteArray.size_append]; rfl
set_option maxHeartbeats 400000 in
theorem pnew_bad (lim : Int) (w : World) (h : lim < 1 ∨ 1000 < lim) :
    Calls Tryz.prog 7 #[.int .i64 lim] w fun r w' => r = .returned (.tuple #[.pointer none, .int .i64 7]) ∧ w' = w := by
  rcases h with h | h
  · go_enter Tryz.func7, Tryz.ntmps7
    go_wp2
    go_ret2
    exact ⟨rfl, rfl⟩
  · have h1 : 1 ≤ lim := by omega
    go_enter Tryz.func7, Tryz.ntmps7
    go_wp2
    go_ret2
    exact ⟨rfl, rfl⟩
set_option maxHeartbeats 400000 in
theorem pnew_ok (lim : Int) (w : World) (h : 1 ≤ lim) (h' : lim ≤ 1000) :
    Calls Tryz.prog 7 #[.int .i64 lim] w fun r w' => r = .returned (.tuple #[.pointer (some ⟨w.heap.size, 0, none⟩), .int .i64 0]) ∧ Below w.heap.size w w' ∧ w'.heap.size = w.heap.size + 1 ∧
      PsB w' w.heap.size lim (.slice none 0 0) (.pointer none) := by
  go_enter Tryz.func7, Tryz.ntmps7
  go_wp2
  go_ret2
  exact ⟨rfl, (Below.refl _ _).alloc (Nat.le_refl _) _, by simp, blk_new _ _⟩
set_option maxHeartbeats 400000 in
theorem pstop_nil (w : World) : Calls Tryz.prog 18 #[.pointer none] w fun r w' => r = .returned (.tuple #[]) ∧ w' = w := by
  go_enter Tryz.func18, Tryz.ntmps18
  go_wp2
  go_end0
  exact ⟨rfl, rfl⟩
set_option maxHeartbeats 400000 in
theorem pstop_any (x : Nat) (w : World) (h : ∃ lim vC vQ, PsB w x lim vC vQ) : Calls Tryz.prog 18 #[.pointer (some ⟨x, 0, none⟩)] w fun r w' => r = .returned (.tuple #[]) ∧ w' = w.setCell ⟨x, 2, none⟩ (.pointer none) := by
  obtain ⟨lim, vC, vQ, hB⟩ := h
  have k2 : w.cell? ⟨x, 2, none⟩ = some vQ := blk_cell hB 2
  have kf := blk_frozen hB
  have hxl := blk_lt hB
  clear hB
  go_enter Tryz.func18, Tryz.ntmps18
  go_wp2
  go_end0
  exact ⟨rfl, rfl⟩
set_option maxHeartbeats 400000 in
theorem plisting_nil (w : World) : Calls Tryz.prog 19 #[.pointer none] w fun r w' => r = .returned (.string ⟨#[]⟩) ∧ w' = w := by
  go_enter Tryz.func19, Tryz.ntmps19
  go_wp2
  go_ret
  exact ⟨rfl, rfl⟩
set_option maxHeartbeats 400000 in
theorem pconsult_nil (s : ByteArray) (w : World) : Calls Tryz.prog 15 #[.pointer none, .string s] w fun r w' => r = .returned (.tuple #[.int .i64 7, .int .i64 0]) ∧ w' = w := by
  go_enter Tryz.func15, Tryz.ntmps15
  go_wp2
  go_ret2
  exact ⟨rfl, rfl⟩
set_option maxHeartbeats 1000000 in
set_option maxRecDepth 100000 in
theorem plisting_any (F : Nat → Prop) (w : World) (x : Nat) (lim : Int) (vC vQ : Value) (cls : List Rf.Cl) (hB : PsB w x lim vC vQ) (hC : PCls30 F w vC cls) (hT : Tab w) :
    Calls Tryz.prog 19 #[.pointer (some ⟨x, 0, none⟩)] w fun r w' => r = .returned (.string (listingP cls)) ∧ Below w.heap.size w w' := by
  obtain ⟨acc, hA, hcls, h30⟩ := hC.ex
  have hgood := hC.good
  have hlen : cls.length = acc.length := by rw [hcls, List.length_map]
  obtain ⟨a, c, hv⟩ := row_slice hA.row
  rw [List.length_map] at hv
  subst hv
  have h8 : ∀ q ∈ acc, q.2.body.length ≤ 8 := fun q hq => by
    obtain ⟨_, ac, _, _, _, hb, h8⟩ := hA.cls q hq
    rw [hb, List.length_map]; exact h8
  have hls : ∀ x ∈ cls, (Rf.lineP x).size ≤ 21000000 := fun x hx => line_size x (hgood x hx).1 (by
    rw [hcls] at hx
    obtain ⟨q, hq, rfl⟩ := List.mem_map.1 hx
    exact h8 q hq)
  have Hls : Hid _ := hls
  have HA : Hid _ := hA
  have HT : Hid _ := hT
  have Hg : Hid _ := hgood
  have HB : Hid _ := hB
  have Hcls : Hid _ := hcls
  have Hlen : Hid _ := hlen
  have k1 : w.cell? ⟨x, 1, none⟩ = some (.slice a acc.length c) := blk_cell hB 1
  clear hls hA hT hgood hB hC hcls h8 hlen
  go_enter Tryz.func19, Tryz.ntmps19
  go_wp2_with fail
  go_loopw [3, 5, 13] (fun sv _ iv wr => ∃ k : Nat, k ≤ acc.length ∧ iv = .int .i64 k ∧ sv = .string (accS cls k) ∧ Below w.heap.size w wr) (fun _ _ iv _ => acc.length - (intOf iv).toNat)
  case atStart => exact ⟨0, by omega, rfl, rfl, Below.refl _ _⟩
  case round =>
    obtain ⟨k, hk, rfl, rfl, hbr⟩ := hrel
    clear k1
    have hszr := hbr.size
    have hs1 := accS_size cls Hls.out k
    have hs2 : (accS cls k).size ≤ 30 * 21000000 := Nat.le_trans hs1 (Nat.mul_le_mul_right _ (by omega))
    clear hs1
    by_cases hlt : k < acc.length
    · obtain ⟨gv, rfl⟩ : ∃ gv, a = some ⟨gv, 0, none⟩ := by
        rcases HA.out.row.shape with ⟨_, hnil⟩ | ⟨gv, cv, e, _⟩
        · have h7 := congrArg List.length hnil
          rw [List.length_map, List.length_nil] at h7
          omega
        · injection e with e1 _ _; exact ⟨gv, e1⟩
      have hmem : acc[k] ∈ acc := List.getElem_mem hlt
      have hc := (HA.out.row.below hbr).cells pclCells_len k acc[k].1 (by simp [hlt])
      have c0 := hc 0 _ rfl
      have c1 := hc 1 _ rfl
      simp only [Nat.add_zero] at c0
      have hgo := (HA.out.cls _ hmem).keptBy (F' := F) (Kept.of_below hbr (fun _ => False)) (fun _ _ hF => ⟨fun e => e, hF.1⟩)
      have hcm : acc[k].2 ∈ cls := by rw [Hcls.out]; exact List.mem_map_of_mem hmem
      have hgd := Hg.out _ hcm
      have hsl := Hls.out _ hcm
      have hacc : Hid (accS cls (k + 1) = accS cls k ++ (lineQ acc[k].2 ++ ⟨#[10]⟩)) := by
        unfold Hid
        have : cls[k]? = some acc[k].2 := by rw [Hcls.out]; simp [hlt]
        rw [accS, this, lineQ_P]
      have hsq : (lineQ acc[k].2).size ≤ 21000000 := by have := lineQ_size acc[k].2; omega
      clear hmem hcm hc hsl
      have Hgo : Hid _ := hgo
      have Hgd : Hid _ := hgd
      clear hgo hgd
      generalize acc[k] = q at *
      obtain ⟨⟨⟨ah, nh, ch⟩, ⟨ab, nb, cb⟩⟩, qcl⟩ := q
      simp only at c0 c1 Hgo hsq hacc Hgd
      have d0 : wr.cell? ⟨gv, k * 2, none⟩ = some (.slice ah nh ch) := c0
      have d1 : wr.cell? ⟨gv, k * 2 + 1, none⟩ = some (.slice ab nb cb) := c1
      clear c0 c1
      have hz : (lineQ qcl ++ ⟨#[10]⟩).size ≤ 21000001 := by rw [ByteArray.size_append]; have : (⟨#[10]⟩ : ByteArray).size = 1 := rfl; omega
      go_wp2_with (go_at_call 35; refine (ctext_any F _ ⟨ah, nh, ch⟩ ⟨ab, nb, cb⟩ qcl (PClAt.keptBy (F' := F) Hgo.out (by repeat' (first | exact Kept.refl _ _ | refine Kept.setCell ?_ ?_ _ | refine Kept.drew ?_ | refine Kept.drewN ?_ _ | refine Kept.alloc ?_ _ | exact Or.inr rfl | exact Or.inr (Or.inl rfl) | (refine Or.inl ?_; simp; done) | (refine Or.inl ?_; simp; omega))) (fun _ _ hF => ⟨fun e => e, hF⟩)) Hgd.out.1 Hgd.out.2 (Tab.below HT.out (hbr.alloc hszr _))).mono ?_; rintro r w3 ⟨rfl, hb3⟩)
      go_roundw
      case rel => exact ⟨k + 1, by omega, by go_num, by rw [hacc.out], (hbr.alloc hszr _).trans (hb3.mono (by simp; omega))⟩
      case measure => simp [intOf]; omega
    · obtain rfl : k = acc.length := by omega
      go_wp2_with fail
      go_ret
      exact ⟨ret_str (by unfold listingP; rw [Hlen.out]), hbr⟩
end Go.Proofs.YthdmbbfaphipkaaGreatDoor
