
import Derived.Test.YtbiojnljihgpoaaGreatDoorZas
import Derived.Deep.LoopGhost
import Derived.Test.YtbiojnljihgpoaaGreatDoorZad
namespace Go
open Go.RowKit
theorem row_pop {α : Type} {w : World} {base : Nat} {e : TypeId} {size : Nat} {C : α -> List Value} (hC : ∀ x, (C x).length = size) {g n cap : Nat} {xs : List α} {x : α} (h : RowIs w base e size C (.slice (some ⟨g, 0, none⟩) (n + 1) cap) (xs ++ [x])) : RowIs w base e size C (.slice (some ⟨g, 0, none⟩) n cap) xs := by
 obtain ⟨hl, h2⟩ := h.own
 rcases h2 with ⟨h2, _⟩ | ⟨g', cap', cur, e1, h3, h4, h5, h6, h7, h8⟩
 ·cases h2
 ·obtain ⟨rfl, hn, rfl⟩ : g = g' /\ n + 1 = (xs ++ [x]).length /\ cap = cap' := by injection e1 with a1 a2 a3; injection a1 with a1; injection a1 with a1; exact ⟨a1, a2, a3⟩
  have hn' : n = xs.length := by simp at hn; omega
  subst hn'
  have hlen := flatMap_len C hC xs
  refine ⟨hlen, .inr ⟨g, cap, cur, rfl, h3, h4, by simp at h5; omega, h6, h7, ?_⟩⟩
  have h9 := congrArg (List.take (xs.length * size)) h8
  rw [List.take_take, List.flatMap_append, List.take_append_of_le_length (by omega), List.take_of_length_le (l := List.flatMap C xs) (by omega)] at h9
  rw [<- h9]
  congr 1
  rw [List.length_append, Nat.add_mul]
  omega
theorem row_setLast {α : Type} {w : World} {base : Nat} {e : TypeId} {C : α -> List Value} (hC : ∀ x, (C x).length = 1) {g n cap : Nat} {xs : List α} {x x' : α} {u : Value} (h : RowIs w base e 1 C (.slice (some ⟨g, 0, none⟩) n cap) (xs ++ [x])) (hx : C x' = [u]) :
  RowIs (w.setCell ⟨g, xs.length, none⟩ u) base e 1 C (.slice (some ⟨g, 0, none⟩) n cap) (xs ++ [x']) := by
 obtain ⟨hl, h2⟩ := h.own
 rcases h2 with ⟨h2, _⟩ | ⟨g', cap', cur, e1, h3, h4, h5, h6, h7, h8⟩
 ·cases h2
 ·obtain ⟨rfl, hn, rfl⟩ : g = g' /\ n = (xs ++ [x]).length /\ cap = cap' := by injection e1 with a1 a2 a3; injection a1 with a1; injection a1 with a1; exact ⟨a1, a2, a3⟩
  subst hn
  have hlen := flatMap_len C hC xs
  have hlx := hC x
  refine ⟨?_, .inr ⟨g, cap, cur.setIfInBounds xs.length u, by simp, h3, ?_, by simpa using h5, h6, by simpa using h7, ?_⟩⟩
  ·rw [flatMap_len C hC]
  ·simp [World.setCell, Array.getElem?_modify, h4]
  ·rw [Array.toList_setIfInBounds, List.take_set]
   have hlen2 : ((xs ++ [x']).length) = (xs ++ [x]).length := by simp
   rw [hlen2, h8, List.flatMap_append, List.flatMap_append, List.set_append_right _ _ (by omega), one_flat, one_flat, hx]
   have : xs.length - (List.flatMap C xs).length = 0 := by omega
   rw [this]
   match hcx : C x, hlx with
   | [y], _ => rfl
end Go
namespace Go.Proofs.YtbiojnljihgpoaaGreatDoor
open Go.RowKit
def natCells (n : Nat) : List Value := [.int .i64 (n : Int)]
theorem natCells_len (s : Nat) : (natCells s).length = 1 := rfl
theorem natCells_one (s : Nat) : ∀ u ∈ natCells s, u.oneCell' = true := by
 intro u hu
 simp only [natCells, List.mem_cons, List.not_mem_nil, or_false] at hu
 subst hu; rfl
theorem Tryz.elemInt : ElemOk Tryz.prog 77 3 1 8 (.int .i64 0) := ⟨Tryz.underlying77, by kernel_rfl, rfl, by decide, by decide⟩
def TxSt (b : Bool) (w : World) (ps : List Rf.Part) (k : Nat) (sv ov : Value) (wr : World) : Prop :=
 ∃ (s : ByteArray) (st : List Nat), sv = .string s /\ RowIs wr w.heap.size 3 1 natCells ov st.reverse /\ Below w.heap.size w wr /\ (∀ x ∈ st, 1 <= x /\ x <= 4) /\ st.length <= k /\ Hid (s ++ Rf.textW b (ps.drop k) st = Rf.txtW b ps)
set_option maxHeartbeats 2000000 in
set_option maxRecDepth 100000 in
theorem pwritten_any (b : Bool) (F : Nat -> Prop) (w : World) (a : Option Addr) (n c : Nat) (ps : List Rf.Part) (h : PT F w (.slice a n c) ps) (hg : ∀ x ∈ ps, Rf.GoodW b x) (h4 : ∀ x ∈ ps, 0 <= x.args /\ x.args <= 4) (hl : ps.length <= 100000) (hT : Tab w) :
  Calls Tryz.prog 53 #[.slice a n c, .bool b] w fun r w' => r = .returned (.string (Rf.txtW b ps)) /\ Below w.heap.size w w' := by
 have hn : n = ps.length := row_len h.1
 subst hn
 have HH : Hid _ := h.1
 have Hg : Hid _ := hg
 have H4 : Hid _ := h4
 have HT : Hid _ := hT
 have hts := Rf.txtW_size b ps hg
 clear h hg h4 hT
 go_enter Tryz.func53, Tryz.ntmps53
 go_wp2_with fail
 go_loopg [5, 6, 12] (ps.length + 1) (fun m sv ov iv wr => ∃ k : Nat, k <= ps.length /\ m = ps.length + 1 - k /\ iv = .int .i64 k /\ TxSt b w ps k sv ov wr)
 case atStart => exact ⟨0, by omega, rfl, rfl, ⟨#[]⟩, [], rfl, RowIs.nil _ _ _ _ _, Below.refl _ _, (fun x hx => by simp at hx), by simp, by unfold Hid Rf.txtW; rw [List.drop_zero, Rf.emp_app]⟩
 case round =>
  obtain ⟨k, hk, rfl, rfl, s, st, rfl, hrow, hbr, hst, hstl, hinv⟩ := hrel
  obtain ⟨a4, c4, hv4⟩ := row_slice hrow
  rw [List.length_reverse] at hv4
  subst hv4
  have hsz := hbr.size
  have hss : s.size <= 2400000 := by
   have h9 := congrArg ByteArray.size hinv.out
   rw [ByteArray.size_append] at h9
   omega
  by_cases hlt : k < ps.length
  ·obtain ⟨gv, rfl⟩ : ∃ gv, a = some ⟨gv, 0, none⟩ := by
    rcases HH.out.shape with ⟨_, hnil⟩ | ⟨gv, cv, e, _⟩
    ·rw [hnil] at hlt; simp at hlt
    ·injection e with e1 _ _; exact ⟨gv, e1⟩
   have hmem : ps[k] ∈ ps := List.getElem_mem hlt
   have hcs := (HH.out.below hbr).cells partCells_len k ps[k] (by simp [hlt])
   have hgd := Hg.out _ hmem
   have ha4 := H4.out _ hmem
   have hdrop : ps.drop k = ps[k] :: ps.drop (k + 1) := List.drop_eq_getElem_cons hlt
   rw [hdrop] at hinv
   clear hmem hdrop
   generalize ps[k] = p at *
   have hwz := Rf.wordW_size b p hgd
   have c0 := hcs 0 _ rfl
   have c1 := hcs 1 _ rfl
   have c2 := hcs 2 _ rfl
   have c3 := hcs 3 _ rfl
   simp only [Nat.add_zero] at c0
   have Hgd : Hid _ := hgd
   clear hcs hgd
   have hlt' : (k : Int) < ps.length := by omega
   have Hnc : Hid (natCells p.args.toNat = [.int .i64 p.args]) := by unfold Hid natCells; rw [Int.toNat_of_nonneg ha4.1]
   by_cases hargs : 0 < p.args
   ·have hinv2 : Hid (s ++ Rf.wordW b p ++ ⟨#[40]⟩ ++ Rf.textW b (ps.drop (k + 1)) (p.args.toNat :: st) = Rf.txtW b ps) := by
     have h9 := hinv.out
     rw [Rf.textW, if_pos hargs] at h9
     unfold Hid
     rw [<- h9]
     simp only [ByteArray.append_assoc]
    go_wp2_with (first
     | (go_at_call 70; refine (word_part b p _ Hgd.out (Tab.below HT.out (hbr.alloc hsz _))).mono ?_; rintro r w1 ⟨rfl, hb1⟩; have hs1 := hb1.size; have hX1 := (hb1.block wr.heap.size (by simp)).trans (blk_new _ _); have x3 : w1.cell? ⟨wr.heap.size, 3, none⟩ = some (.int .i64 p.args) := blk_cell hX1 3; have hbw1 : Below w.heap.size w w1 := (hbr.alloc hsz _).trans (hb1.mono (by simp; omega)); have hsw1 := hbw1.size; have hrow1 := (hrow.alloc (.cells #[.int .i64 p.kind, .string p.name, .int .i64 p.value, .int .i64 p.args] 101)).below hb1)
     | (at_builtin; refine wpList_app Tryz.elemInt natCells natCells_len natCells_one _ rfl (.tmp 26) (.tmp 29) rfl w.heap.size _ st.reverse rfl (hrow1.alloc _) ⟨_, 0, none⟩ 1 p.args.toNat rfl (fun j v hj => cell_one_at _ _ rfl _ _ j v (by rw [<- Hnc.out]; exact hj)) ?_ ?_ ?_; rw [List.length_reverse]; omega; (rw [World.size_alloc]; omega); intro gA capA w3 hrow3 hgr3 hnb3; rw [List.length_reverse] at hrow3))
    go_roundg (ps.length - k)
    case measure => omega
    case rel =>
     refine ⟨k + 1, by omega, by omega, by go_num, _, p.args.toNat :: st, rfl, ?_, ?_, ?_, by simp; omega, hinv2⟩
     ·rw [List.reverse_cons]; exact hrow3
     ·exact (hbw1.alloc hsw1 _).grown hgr3 (by rw [World.size_alloc]; omega) (fun j e => (hrow.lt j e).1)
     ·intro x hx
      rcases List.mem_cons.1 hx with rfl | hx
      ·omega
      ·exact hst x hx
   ·have hinv2 : Hid ((s ++ Rf.wordW b p) ++ ((Rf.closeP st).1 ++ Rf.textW b (ps.drop (k + 1)) (Rf.closeP st).2) = Rf.txtW b ps) := by
     have h9 := hinv.out
     rw [Rf.textW, if_neg hargs] at h9
     unfold Hid
     rw [<- h9]
     simp only [ByteArray.append_assoc]
    have hnarg : p.args <= 0 := by omega
    have harg0 : decide (0 < p.args) = false := by simpa using hnarg
    obtain ⟨wo, rfl⟩ : ∃ wo : World, wo = wr := ⟨_, rfl⟩
    go_wp2_with (go_at_call 70; refine (word_part b p _ Hgd.out (Tab.below HT.out (hbr.alloc hsz _))).mono ?_; rintro r w1 ⟨rfl, hb1⟩; have hs1 := hb1.size; have hX1 := (hb1.block wo.heap.size (by simp)).trans (blk_new _ _); have x3 : w1.cell? ⟨wo.heap.size, 3, none⟩ = some (.int .i64 p.args) := blk_cell hX1 3; have hbw1 : Below w.heap.size w w1 := (hbr.alloc hsz _).trans (hb1.mono (by simp; omega)); have hsw1 := hbw1.size; have hrow1 := (hrow.alloc (.cells #[.int .i64 p.kind, .string p.name, .int .i64 p.value, .int .i64 p.args] 101)).below hb1)
    have hsw1' := hsw1
    clear hX1 x3 hinv
    go_loopg [5, 6] (st.length + 1) (fun m sv ov wi => ∃ (s2 : ByteArray) (st2 : List Nat), m = st2.length + 1 /\ sv = .string s2 /\ RowIs wi w.heap.size 3 1 natCells ov st2.reverse /\ Below w.heap.size w wi /\ (∀ x ∈ st2, 1 <= x /\ x <= 4) /\ st2.length <= k /\ Hid (s2 ++ ((Rf.closeP st2).1 ++ Rf.textW b (ps.drop (k + 1)) (Rf.closeP st2).2) = Rf.txtW b ps))
    case atStart => exact ⟨_, st, rfl, rfl, hrow1, hbw1, hst, hstl, hinv2⟩
    case round =>
     obtain ⟨s2, st2, rfl, rfl, hrow2, hbw2, hst2, hstl2, hinv3⟩ := hrel
     have hss2 : s2.size <= 2400000 := by
      have h9 := congrArg ByteArray.size hinv3.out
      rw [ByteArray.size_append] at h9
      omega
     clear hrow1 hrow hinv2
     cases st2 with
     | nil =>
      obtain ⟨a5, c5, hv5⟩ := row_slice hrow2
      rw [List.reverse_nil, List.length_nil] at hv5
      subst hv5
      go_wp2_with fail
      go_roundg (ps.length - k)
      case measure => omega
      case rel => exact ⟨k + 1, by omega, by omega, by go_num, _, [], rfl, hrow2, hbw2, hst2, by simp, by have h9 := hinv3.out; rw [Rf.closeP, Rf.emp_app] at h9; exact h9⟩
     | cons x st3 =>
      rw [List.reverse_cons] at hrow2
      obtain ⟨gO, c5, hv5, _, hgO, hc5, hcm5⟩ := hrow2.shape.resolve_left (fun e => by have := congrArg List.length e.2; simp at this)
      rw [List.length_append, List.length_reverse, List.length_cons, List.length_nil] at hv5 hc5
      subst hv5
      have hcl := hrow2.cells natCells_len st3.length x (by simp) 0 _ rfl
      simp only [Nat.mul_one, Nat.add_zero] at hcl
      have hfz := row_frozen hrow2
      have hx14 := hst2 x (by simp)
      have hst3l : (st3.length : Int) <= 100000 := by simp only [List.length_cons] at hstl2; omega
      have hst3c : (st3.length : Int) + 1 <= (c5 : Int) := by omega
      have hst3 : ∀ y ∈ st3, 1 <= y /\ y <= 4 := fun y hy => hst2 y (List.mem_cons_of_mem _ hy)
      have hset : ∀ y : Nat, (y : Int) = (x : Int) - 1 -> RowIs (wr.setCell ⟨gO, st3.length, none⟩ (.int .i64 ((x : Int) - 1))) w.heap.size 3 1 natCells (.slice (some ⟨gO, 0, none⟩) (st3.length + 1) c5) (st3.reverse ++ [y]) := by
       intro y hy
       have h9 := row_setLast (x' := y) (u := .int .i64 ((x : Int) - 1)) natCells_len hrow2 (by unfold natCells; rw [hy])
       rw [List.length_reverse] at h9
       exact h9
      have Hset : Hid _ := hset
      have hgO2 := (hrow2.lt gO rfl).1
      have hbs : ∀ v, Below w.heap.size w (wr.setCell ⟨gO, st3.length, none⟩ v) := fun v => hbw2.setCell (p := ⟨gO, st3.length, none⟩) hgO2 v
      have Hbs : Hid _ := hbs
      clear hset hbs hst2
      by_cases hx1 : 1 < x
      ·have hinv4 : Hid (s2 ++ ⟨#[44]⟩ ++ Rf.textW b (ps.drop (k + 1)) ((x - 1) :: st3) = Rf.txtW b ps) := by
        have h9 := hinv3.out
        rw [Rf.closeP, if_pos hx1] at h9
        unfold Hid
        rw [<- h9, ByteArray.append_assoc]
       have hxi : (0 : Int) < (x : Int) - 1 := by omega
       go_wp2_with fail
       go_roundg (ps.length - k)
       case measure => omega
       case rel =>
        refine ⟨k + 1, by omega, by omega, by go_num, _, (x - 1) :: st3, rfl, ?_, Hbs.out _, ?_, ?_, hinv4⟩
        ·rw [List.reverse_cons]; exact Hset.out (x - 1) (by omega)
        ·intro y hy
         rcases List.mem_cons.1 hy with rfl | hy
         ·omega
         ·exact hst3 y hy
        ·simp only [List.length_cons] at hstl2 ⊢; omega
      ·obtain rfl : x = 1 := by omega
       have hinv4 : Hid ((s2 ++ ⟨#[41]⟩) ++ ((Rf.closeP st3).1 ++ Rf.textW b (ps.drop (k + 1)) (Rf.closeP st3).2) = Rf.txtW b ps) := by
        have h9 := hinv3.out
        rw [Rf.closeP, if_neg hx1] at h9
        unfold Hid
        rw [<- h9]
        simp only [ByteArray.append_assoc]
       go_wp2_with fail
       go_roundg (st3.length + 1)
       case measure => simp
       case rel =>
        refine ⟨_, st3, rfl, rfl, row_pop natCells_len (Hset.out 0 (by simp)), Hbs.out _, hst3, ?_, hinv4⟩
        simp only [List.length_cons] at hstl2; omega
  ·obtain rfl : k = ps.length := by omega
   have hend : Hid (s = Rf.txtW b ps) := by
    have h9 := hinv.out
    rw [List.drop_length, Rf.textW, Rf.app_emp] at h9
    exact h9
   go_wp2_with fail
   go_ret
   exact ⟨ret_str hend.out, hbr⟩
set_option maxHeartbeats 400000 in
theorem text_any (F : Nat -> Prop) (w : World) (a : Option Addr) (n c : Nat) (ps : List Rf.Part) (h : PT F w (.slice a n c) ps) (hg : ∀ x ∈ ps, Rf.Good x) (h4 : ∀ x ∈ ps, 0 <= x.args /\ x.args <= 4) (hl : ps.length <= 100000) (hT : Tab w) :
  Calls Tryz.prog 34 #[.slice a n c] w fun r w' => r = .returned (.string (Rf.txt ps)) /\ Below w.heap.size w w' := by
 have H : Hid _ := h
 have Hg : Hid _ := hg
 have H4 : Hid _ := h4
 have HT : Hid _ := hT
 clear h hg h4 hT
 go_enter Tryz.func34, Tryz.ntmps34
 go_wp2_with (go_at_call 53; refine (pwritten_any true F _ a n c ps H.out Hg.out H4.out hl HT.out).mono ?_; rintro r w1 ⟨rfl, hb1⟩)
 go_ret
 exact ⟨ret_str (Rf.txtW_true ps), hb1⟩
theorem isV_eq (v : Int) (p : Rf.Part) : Rf.isV v p = (p.kind == 1 && p.value == v) := rfl
set_option maxHeartbeats 400000 in
theorem pis_any (p : Rf.Part) (v : Int) (w : World) :
  Calls Tryz.prog 143 #[.agg #[.int .i64 p.kind, .string p.name, .int .i64 p.value, .int .i64 p.args], .int .i64 v] w fun r w' => r = .returned (.bool (Rf.isV v p)) /\ Below w.heap.size w w' := by
 have HV : Hid _ := isV_eq v p
 cases c1 : (p.kind == 1)
 ·go_enter Tryz.func143, Tryz.ntmps143
  go_wp2
  go_ret
  exact ⟨ret_bool (by rw [HV.out, c1]; rfl), (by repeat(first|exact bl0 _ _|refine bl1 ?_ (by simp<;>omega) _|refine bl2 ?_|refine bl3 ?_ _|refine bl4 ?_ (by simp<;>omega) _))⟩
 ·go_enter Tryz.func143, Tryz.ntmps143
  go_wp2
  go_ret
  exact ⟨ret_bool (by rw [HV.out, c1]; rfl), (by repeat(first|exact bl0 _ _|refine bl1 ?_ (by simp<;>omega) _|refine bl2 ?_|refine bl3 ?_ _|refine bl4 ?_ (by simp<;>omega) _))⟩
theorem Seen.parts {w : World} {g off n c : Nat} {ps : List Rf.Part} (h : Seen w 101 partCells (.slice (some ⟨g, off, none⟩) n c) ps) (k : Nat) (p : Rf.Part) (hp : ps[k]? = some p) :
  w.cell? ⟨g, off + k * 4, none⟩ = some (.int .i64 p.kind) /\ w.cell? ⟨g, off + k * 4 + 1, none⟩ = some (.string p.name) /\ w.cell? ⟨g, off + k * 4 + 2, none⟩ = some (.int .i64 p.value) /\ w.cell? ⟨g, off + k * 4 + 3, none⟩ = some (.int .i64 p.args) := by
 have x0 := h.cells partCells_len k p hp 0 _ rfl
 have x1 := h.cells partCells_len k p hp 1 _ rfl
 have x2 := h.cells partCells_len k p hp 2 _ rfl
 have x3 := h.cells partCells_len k p hp 3 _ rfl
 simp only [<- Nat.add_assoc, Nat.add_zero] at x0 x1 x2 x3
 exact ⟨x0, x1, x2, x3⟩
set_option maxHeartbeats 400000 in
theorem plead_any (w : World) (a : Option Addr) (n c : Nat) (ps : List Rf.Part) (h : Seen w 101 partCells (.slice a n c) ps) (h4 : ∀ x ∈ ps, 0 <= x.args /\ x.args <= 4) (hl : ps.length <= 100000) :
  Calls Tryz.prog 128 #[.slice a n c] w fun r w' => r = .returned (.int .i64 (Rf.leadT ps)) /\ Below w.heap.size w w' := by
 have hn : n = ps.length := h.len
 subst hn
 have HH : Hid _ := h
 have H4 : Hid _ := h4
 clear h h4
 go_enter Tryz.func128, Tryz.ntmps128
 go_wp2_with fail
 go_loopw [3, 8] (fun mv iv wr => ∃ (k : Nat) (m : Int), k <= ps.length /\ iv = .int .i64 k /\ mv = .int .i64 m /\ -(k : Int) <= m /\ m <= 1 + 3 * k /\ Below w.heap.size w wr /\ Hid (Rf.leadT ps = k + Rf.leadN m (ps.drop k))) (fun _ iv _ => ps.length - (intOf iv).toNat)
 case atStart => exact ⟨0, 1, by omega, rfl, rfl, by omega, by omega, Below.refl _ _, by unfold Hid Rf.leadT; rw [List.drop_zero, Nat.zero_add]⟩
 case round =>
  obtain ⟨k, m, hk, rfl, rfl, hm1, hm2, hbr, hinv⟩ := hrel
  have hsz := hbr.size
  by_cases hlt : k < ps.length
  ·obtain ⟨g, off, rfl⟩ := HH.out.pos (by omega)
   have hgl := HH.out.lt
   have hmem : ps[k] ∈ ps := List.getElem_mem hlt
   obtain ⟨c0, c1, c2, c3⟩ := Seen.parts (HH.out.below hbr) k ps[k] (by simp [hlt])
   have ha4 := H4.out _ hmem
   have hdrop : ps.drop k = ps[k] :: ps.drop (k + 1) := List.drop_eq_getElem_cons hlt
   rw [hdrop, Rf.leadN] at hinv
   clear hmem hdrop
   generalize ps[k] = p at *
   have hgl' : g < wr.heap.size := by omega
   have hlt' : (k : Int) < ps.length := by omega
   by_cases h0 : m + (p.args - 1) = 0
   ·rw [if_pos h0] at hinv
    have h0' : (m + (p.args - 1) == 0) = true := by rw [h0]; rfl
    go_wp2_with fail
    go_ret
    exact ⟨ret_int (by rw [hinv.out]; rfl), hbr.alloc hsz _⟩
   ·rw [if_neg h0] at hinv
    have h0' : (m + (p.args - 1) == 0) = false := beq_eq_false_iff_ne.2 h0
    go_wp2_with fail
    go_roundw
    case rel => exact ⟨k + 1, m + (p.args - 1), by omega, by go_num, rfl, by omega, by omega, hbr.alloc hsz _, by unfold Hid; rw [hinv.out]; omega⟩
    case measure => simp [intOf]; omega
  ·obtain rfl : k = ps.length := by omega
   go_wp2_with fail
   go_ret
   exact ⟨ret_int (by rw [hinv.out, List.drop_length, Rf.leadN]; rfl), hbr⟩
set_option maxHeartbeats 400000 in
theorem pcount_any (v : Int) (w : World) (a : Option Addr) (n c : Nat) (ps : List Rf.Part) (h : Seen w 101 partCells (.slice a n c) ps) (hl : ps.length <= 100000) :
  Calls Tryz.prog 139 #[.slice a n c, .int .i64 v] w fun r w' => r = .returned (.int .i64 (Rf.countV v ps)) /\ Below w.heap.size w w' := by
 have hn : n = ps.length := h.len
 subst hn
 have HH : Hid _ := h
 clear h
 go_enter Tryz.func139, Tryz.ntmps139
 go_wp2_with fail
 go_loopw [5, 10] (fun mv iv wr => ∃ (k m : Nat), k <= ps.length /\ iv = .int .i64 k /\ mv = .int .i64 m /\ m <= k /\ Below w.heap.size w wr /\ Hid (Rf.countV v ps = m + Rf.countV v (ps.drop k))) (fun _ iv _ => ps.length - (intOf iv).toNat)
 case atStart => exact ⟨0, 0, by omega, rfl, rfl, by omega, Below.refl _ _, by unfold Hid; rw [List.drop_zero, Nat.zero_add]⟩
 case round =>
  obtain ⟨k, m, hk, rfl, rfl, hm1, hbr, hinv⟩ := hrel
  have hsz := hbr.size
  by_cases hlt : k < ps.length
  ·obtain ⟨g, off, rfl⟩ := HH.out.pos (by omega)
   have hgl := HH.out.lt
   obtain ⟨c0, c1, c2, c3⟩ := Seen.parts (HH.out.below hbr) k ps[k] (by simp [hlt])
   have hdrop : ps.drop k = ps[k] :: ps.drop (k + 1) := List.drop_eq_getElem_cons hlt
   rw [hdrop, Rf.countV] at hinv
   clear hdrop
   generalize ps[k] = p at *
   have hgl' : g < wr.heap.size := by omega
   have hlt' : (k : Int) < ps.length := by omega
   cases hv : Rf.isV v p
   ·rw [hv, if_neg (by simp)] at hinv
    have Hv : Hid _ := hv
    clear hv
    go_wp2_with (go_at_call 143; refine (pis_any p v _).mono ?_; rintro r w1 ⟨rfl, hb1⟩; rw [Hv.out])
    go_roundw
    case rel => exact ⟨k + 1, m, by omega, by go_num, rfl, by omega, (hbr.alloc hsz _).trans (hb1.mono (by simp; omega)), by unfold Hid; rw [hinv.out]; omega⟩
    case measure => simp [intOf]; omega
   ·rw [hv, if_pos rfl] at hinv
    have Hv : Hid _ := hv
    clear hv
    go_wp2_with (go_at_call 143; refine (pis_any p v _).mono ?_; rintro r w1 ⟨rfl, hb1⟩; rw [Hv.out])
    go_roundw
    case rel => exact ⟨k + 1, m + 1, by omega, by go_num, by go_num, by omega, (hbr.alloc hsz _).trans (hb1.mono (by simp; omega)), by unfold Hid; rw [hinv.out]; omega⟩
    case measure => simp [intOf]; omega
  ·obtain rfl : k = ps.length := by omega
   go_wp2_with fail
   go_ret
   exact ⟨ret_int (by rw [hinv.out, List.drop_length, Rf.countV]; simp), hbr⟩
theorem cell_four_at (w : World) (N : Nat) (hN : N = w.heap.size) (x y z u : Value) (t : TypeId) : ∀ j v, [x, y, z, u][j]? = some v -> (w.alloc (.cells #[x, y, z, u] t)).cell? ((⟨N, 0, none⟩ : Addr).add j) = some v := by
 subst hN
 intro j v hj
 match j, hj with
 | 0, hj => simp at hj; subst hj; simp [Addr.add]
 | 1, hj => simp at hj; subst hj; simp [Addr.add]
 | 2, hj => simp at hj; subst hj; simp [Addr.add]
 | 3, hj => simp at hj; subst hj; simp [Addr.add]
 | (j + 4), hj => simp at hj
theorem putV_bound {v : Int} {x : List Rf.Part} (h1 : 1 <= x.length) : ∀ (t : List Rf.Part), (Rf.putV v x t).length <= t.length * x.length
 | [] => by simp [Rf.putV]
 | p :: t => by
  have ih := putV_bound (v := v) h1 t
  rw [Rf.putV, List.length_append, List.length_cons, Nat.add_mul, Nat.one_mul]
  split
  ·omega
  ·simp only [List.length_cons, List.length_nil]; omega
theorem putV_take {v : Int} {x t : List Rf.Part} {k : Nat} (h : k < t.length) : Rf.putV v x (t.take (k + 1)) = Rf.putV v x (t.take k) ++ (if Rf.isV v t[k] = true then x else [t[k]]) := by
 rw [List.take_succ_eq_append_getElem h, Rf.putV_app, Rf.putV, Rf.putV, List.append_nil]
theorem putV_take_le {v : Int} {x t : List Rf.Part} {k : Nat} (h1 : 1 <= x.length) (h2 : x.length <= 100000) (h : t.length <= 100000) : (Rf.putV v x (t.take k)).length <= 10000000000 := by
 refine Nat.le_trans (putV_bound h1 _) ?_
 have : (t.take k).length <= 100000 := by rw [List.length_take]; omega
 exact Nat.le_trans (Nat.mul_le_mul this h2) (by decide)
set_option maxHeartbeats 1000000 in
theorem pput_any (v : Int) (w : World) (a : Option Addr) (n c : Nat) (ps : List Rf.Part) (h : Seen w 101 partCells (.slice a n c) ps) (hl : ps.length <= 100000) (a2 : Option Addr) (n2 c2 : Nat) (xs : List Rf.Part) (h2 : Seen w 101 partCells (.slice a2 n2 c2) xs) (hl2 : xs.length <= 100000) (hp2 : 1 <= xs.length) :
  Calls Tryz.prog 141 #[.slice a n c, .int .i64 v, .slice a2 n2 c2] w fun r w' => ∃ (a3 : Option Addr) (n3 c3 : Nat), r = .returned (.slice a3 n3 c3) /\ Seen w' 101 partCells (.slice a3 n3 c3) (Rf.putV v xs ps) /\ Below w.heap.size w w' := by
 have hn : n = ps.length := h.len
 subst hn
 have hn2 : n2 = xs.length := h2.len
 subst hn2
 have HH : Hid _ := h
 have H2 : Hid _ := h2
 clear h h2
 by_cases hc : Rf.countV v ps = 0
 ·have Hp : Hid (Rf.putV v xs ps = ps) := Rf.putV_none hc
  have hc' : ((Rf.countV v ps : Int) == 0) = true := by rw [hc]; rfl
  clear hc
  go_enter Tryz.func141, Tryz.ntmps141
  go_wp2_with (go_at_call 139; refine (pcount_any v _ a _ c ps HH.out hl).mono ?_; rintro r w1 ⟨rfl, hb1⟩)
  go_ret
  exact ⟨a, _, c, rfl, by rw [Hp.out]; exact HH.out.below hb1, hb1⟩
 ·have hc' : ((Rf.countV v ps : Int) == 0) = false := beq_eq_false_iff_ne.2 (by omega)
  clear hc
  go_enter Tryz.func141, Tryz.ntmps141
  go_wp2_with (go_at_call 139; refine (pcount_any v _ a _ c ps HH.out hl).mono ?_; rintro r w1 ⟨rfl, hb1⟩)
  go_loopw [7, 17] (fun pv iv wr => ∃ (k : Nat), k <= ps.length /\ iv = .int .i64 k /\ RowIs wr w.heap.size 101 4 partCells pv (Rf.putV v xs (ps.take k)) /\ Below w.heap.size w wr) (fun _ iv _ => ps.length - (intOf iv).toNat)
  case atStart => exact ⟨0, by omega, rfl, by rw [List.take_zero, Rf.putV]; exact RowIs.nil _ _ _ _ _, hb1⟩
  case round =>
   obtain ⟨k, hk, rfl, hrow, hbr⟩ := hrel
   have hsz := hbr.size
   obtain ⟨a4, c4, hv4⟩ := row_slice hrow
   subst hv4
   have hlen := putV_take_le (v := v) (t := ps) (k := k) hp2 hl2 hl
   by_cases hlt : k < ps.length
   ·obtain ⟨g, off, rfl⟩ := HH.out.pos (by omega)
    have hgl := HH.out.lt
    obtain ⟨g2, off2, rfl⟩ := H2.out.pos hp2
    obtain ⟨e0, e1, e2, e3⟩ := Seen.parts (HH.out.below hbr) k ps[k] (by simp [hlt])
    have hpt : Hid _ := putV_take (v := v) (x := xs) hlt
    generalize ps[k] = p at *
    have hgl' : g < wr.heap.size := by omega
    have hlt' : (k : Int) < ps.length := by omega
    generalize Rf.putV v xs (ps.take k) = acc at *
    cases hv : Rf.isV v p
    ·rw [hv, if_neg (by simp)] at hpt
     have Hv : Hid _ := hv
     clear hv
     go_wp2_with (first
      | (go_at_call 143; refine (pis_any p v _).mono ?_; rintro r w2 ⟨rfl, hb2⟩; rw [Hv.out]; have hs2 := hb2.size; have hbw2 : Below w.heap.size w w2 := (hbr.alloc hsz _).trans (hb2.mono (by simp; omega)); have hsw2 := hbw2.size; have hrow2 := (hrow.alloc (.cells #[.int .i64 p.kind, .string p.name, .int .i64 p.value, .int .i64 p.args] 101)).below hb2; have hX2 := (hb2.block wr.heap.size (by simp)).trans (blk_new _ _); have x0 : w2.cell? ⟨wr.heap.size, 0, none⟩ = some (.int .i64 p.kind) := blk_cell hX2 0; have x1 : w2.cell? ⟨wr.heap.size, 1, none⟩ = some (.string p.name) := blk_cell hX2 1; have x2 : w2.cell? ⟨wr.heap.size, 2, none⟩ = some (.int .i64 p.value) := blk_cell hX2 2; have x3 : w2.cell? ⟨wr.heap.size, 3, none⟩ = some (.int .i64 p.args) := blk_cell hX2 3)
      | (at_builtin; refine wpList_app Tryz.elemPart partCells partCells_len partCells_one _ rfl (.tmp 27) (.tmp 29) rfl w.heap.size _ acc rfl (hrow2.alloc _) ⟨_, 0, none⟩ 1 p rfl (cell_four_at _ _ rfl _ _ _ _ _) (by omega) (by rw [World.size_alloc]; omega) ?_; intro gA capA w3 hrow3 hgr3 hnb3))
     go_roundw
     case rel => exact ⟨k + 1, by omega, by go_num, by rw [hpt.out]; exact hrow3, (hbw2.alloc hbw2.size _).grown hgr3 (by rw [World.size_alloc]; have := hbw2.size; omega) (fun j e => (hrow.lt j e).1)⟩
     case measure => simp [intOf]; omega
    ·rw [hv, if_pos rfl] at hpt
     have Hv : Hid _ := hv
     clear hv
     go_wp2_with (first
      | (go_at_call 143; refine (pis_any p v _).mono ?_; rintro r w2 ⟨rfl, hb2⟩; rw [Hv.out]; have hs2 := hb2.size; have hbw2 : Below w.heap.size w w2 := (hbr.alloc hsz _).trans (hb2.mono (by simp; omega)); have hsw2 := hbw2.size; have hrow2 := (hrow.alloc (.cells #[.int .i64 p.kind, .string p.name, .int .i64 p.value, .int .i64 p.args] 101)).below hb2)
      | (at_builtin; refine wpList_apps Tryz.elemPart partCells partCells_len partCells_one _ rfl (.tmp 24) (.tmp 25) rfl w.heap.size _ acc rfl hrow2 ⟨g2, off2, none⟩ c2 xs hp2 rfl (H2.out.below hbw2).cellsAt (by omega) hbw2.size ?_; intro gA capA w3 hrow3 hgr3 hnb3))
     go_roundw
     case rel => exact ⟨k + 1, by omega, by go_num, by rw [hpt.out]; exact hrow3, hbw2.grown hgr3 hbw2.size (fun j e => (hrow.lt j e).1)⟩
     case measure => simp [intOf]; omega
   ·obtain rfl : k = ps.length := by omega
    go_wp2_with fail
    go_ret
    exact ⟨_, _, _, rfl, by have h9 := hrow.seen; simp only [List.take_length] at h9 ⊢; exact h9, hbr⟩
end Go.Proofs.YtbiojnljihgpoaaGreatDoor
namespace Go
open Go.RowKit
theorem Seen.grownT {α β : Type} {w w' : World} {e e' : TypeId} {C : α -> List Value} {C' : β -> List Value} {v v' : Value} {xs : List α} {ys : List β} {base size : Nat} (h : Seen w e C v xs) (hr : RowIs w base e' size C' v' ys) (hne : e ≠ e') (hg : w.grownBy w' v'.ownBlock) : Seen w' e C v xs :=
 h.grown hg (fun k cs hc hk => by
  obtain ⟨cs', hc'⟩ := hr.typed k hk
  rw [hc] at hc'
  injection hc' with h1; injection h1 with _ h2
  exact hne h2)
end Go
namespace Go.Proofs.YtbiojnljihgpoaaGreatDoor
open Go.RowKit
structure SeenTs (w : World) (v : Value) (ts : List (List Rf.Part)) : Prop where
 ex : ∃ acc : List (SlV × List Rf.Part), Seen w 56 slCells v (acc.map (·.1)) /\ (∀ q ∈ acc, Seen w 101 partCells (slv q.1) q.2) /\ ts = acc.map (·.2)
theorem SeenTs.below {w w' : World} {v : Value} {ts : List (List Rf.Part)} (h : SeenTs w v ts) (hb : Below w.heap.size w w') : SeenTs w' v ts := by
 obtain ⟨acc, h1, h2, h3⟩ := h.ex
 exact ⟨acc, h1.below hb, fun q hq => (h2 q hq).below hb, h3⟩
theorem SeenTs.slice {w : World} {v : Value} {ts : List (List Rf.Part)} (h : SeenTs w v ts) : ∃ a c, v = .slice a ts.length c := by
 obtain ⟨acc, h1, h2, h3⟩ := h.ex
 obtain ⟨a, c, e⟩ := h1.slice
 exact ⟨a, c, by rw [e, h3, List.length_map, List.length_map]⟩
structure TermsAt (base : Nat) (w : World) (v : Value) (acc : List (SlV × List Rf.Part)) : Prop where
 row : RowIs w base 56 1 slCells v (acc.map (·.1))
 each : ∀ q ∈ acc, Seen w 101 partCells (slv q.1) q.2
theorem TermsAt.nil (base : Nat) (w : World) : TermsAt base w (.slice none 0 0) [] := ⟨RowIs.nil _ _ _ _ _, fun q hq => by cases hq⟩
theorem TermsAt.below {base : Nat} {w w' : World} {v : Value} {acc : List (SlV × List Rf.Part)} (h : TermsAt base w v acc) (hb : Below w.heap.size w w') : TermsAt base w' v acc := ⟨h.row.below hb, fun q hq => (h.each q hq).below hb⟩
theorem TermsAt.seen {base : Nat} {w : World} {v : Value} {acc : List (SlV × List Rf.Part)} (h : TermsAt base w v acc) : SeenTs w v (acc.map (·.2)) := ⟨acc, h.row.seen, h.each, rfl⟩
theorem TermsAt.app {base : Nat} {w w' : World} {v v' : Value} {acc : List (SlV × List Rf.Part)} {x : SlV} {ps : List Rf.Part} (h : TermsAt base w v acc) (hx : Seen w 101 partCells (slv x) ps) (hg : w.grownBy w' v.ownBlock) (hr : RowIs w' base 56 1 slCells v' (acc.map (·.1) ++ [x])) : TermsAt base w' v' (acc ++ [(x, ps)]) := by
 refine ⟨by rw [List.map_append]; exact hr, fun q hq => ?_⟩
 rcases List.mem_append.1 hq with hq | hq
 ·exact (h.each q hq).grownT h.row (by decide) hg
 ·simp at hq; subst hq
  exact hx.grownT h.row (by decide) hg
theorem Seen.termAt {w : World} {g off n c : Nat} {xs : List SlV} (h : Seen w 56 slCells (.slice (some ⟨g, off, none⟩) n c) xs) (k : Nat) (x : SlV) (hx : xs[k]? = some x) : w.cell? ⟨g, off + k, none⟩ = some (.slice x.a x.n x.c) := by
 have := h.cells slCells_len k x hx 0 _ rfl
 rw [Nat.mul_one, Nat.add_zero] at this
 exact this
set_option maxHeartbeats 1000000 in
theorem pputAll_any (v : Int) (w : World) (vt : Value) (ts : List (List Rf.Part)) (h : SeenTs w vt ts) (hl : ts.length <= 100000) (hl1 : ∀ t ∈ ts, t.length <= 100000) (a2 : Option Addr) (n2 c2 : Nat) (xs : List Rf.Part) (h2 : Seen w 101 partCells (.slice a2 n2 c2) xs) (hl2 : xs.length <= 100000) (hp2 : 1 <= xs.length) :
  Calls Tryz.prog 142 #[vt, .int .i64 v, .slice a2 n2 c2] w fun r w' => ∃ v3, r = .returned v3 /\ SeenTs w' v3 (ts.map (Rf.putV v xs)) /\ Below w.heap.size w w' := by
 obtain ⟨acc, hT, hE, rfl⟩ := h.ex
 obtain ⟨a, c, rfl⟩ := hT.slice
 rw [List.length_map] at hl
 have hE1 : ∀ q ∈ acc, Seen w 101 partCells (slv q.1) q.2 /\ q.2.length <= 100000 := fun q hq => ⟨hE q hq, hl1 q.2 (List.mem_map_of_mem hq)⟩
 have HT : Hid _ := hT
 have HE : Hid _ := hE1
 have H2 : Hid _ := h2
 clear h hT hE h2 hl1 hE1
 rw [List.length_map]
 go_enter Tryz.func142, Tryz.ntmps142
 go_wp2_with fail
 go_loopw [7, 12] (fun pv iv wr => ∃ (k : Nat) (acc2 : List (SlV × List Rf.Part)), k <= acc.length /\ iv = .int .i64 k /\ TermsAt w.heap.size wr pv acc2 /\ acc2.length = k /\ Hid (acc2.map (·.2) = ((acc.take k).map (·.2)).map (Rf.putV v xs)) /\ Below w.heap.size w wr) (fun _ iv _ => acc.length - (intOf iv).toNat)
 case atStart => exact ⟨0, [], by omega, rfl, TermsAt.nil _ _, rfl, rfl, Below.refl _ _⟩
 case round =>
  obtain ⟨k, acc2, hk, rfl, hA, hk2, hinv, hbr⟩ := hrel
  obtain rfl := hk2
  have hsz := hbr.size
  obtain ⟨a4, c4, hv4⟩ := row_slice hA.row
  rw [List.length_map] at hv4
  subst hv4
  by_cases hlt : acc2.length < acc.length
  ·obtain ⟨g, off, rfl⟩ := HT.out.pos (by simp; omega)
   have hgl := HT.out.lt
   have hmem : acc[acc2.length] ∈ acc := List.getElem_mem hlt
   have hcell := Seen.termAt (HT.out.below hbr) acc2.length acc[acc2.length].1 (by simp [hlt])
   obtain ⟨hS, hSl⟩ := HE.out _ hmem
   have hpt : Hid ((acc.take (acc2.length + 1)).map (·.2) = (acc.take acc2.length).map (·.2) ++ [acc[acc2.length].2]) := by unfold Hid; rw [List.take_succ_eq_append_getElem hlt, List.map_append]; rfl
   clear hmem
   generalize acc[acc2.length] = q at *
   obtain ⟨⟨qa, qn, qc⟩, qp⟩ := q
   simp only at hcell hSl hpt
   have HS : Hid (Seen w 101 partCells (.slice qa qn qc) qp) := hS
   clear hS
   have hgl' : g < wr.heap.size := by omega
   have hlt' : (acc2.length : Int) < acc.length := by omega
   go_wp2_with (first
    | (go_at_call 141; refine (pput_any v _ qa qn qc qp (HS.out.below hbr) hSl a2 n2 c2 xs (H2.out.below hbr) hl2 hp2).mono ?_; rintro r w2 ⟨a3, n3, c3, rfl, hS2, hb2⟩; have hs2 := hb2.size; have hbw2 : Below w.heap.size w w2 := hbr.trans (hb2.mono hsz); have hsw2 := hbw2.size; have hA2 := hA.below hb2)
    | (at_builtin; refine wpList_app Tryz.elemTerms slCells slCells_len slCells_one _ rfl (.tmp 16) (.tmp 21) rfl w.heap.size _ (acc2.map (·.1)) rfl (hA2.row.alloc _) ⟨_, 0, none⟩ 1 ⟨a3, n3, c3⟩ rfl (cell_one_at _ _ rfl _ _) (by rw [List.length_map]; omega) (by rw [World.size_alloc]; omega) ?_; intro gA capA w3 hrow3 hgr3 hnb3; rw [List.length_map] at hrow3))
   go_roundw
   case rel =>
    refine ⟨acc2.length + 1, acc2 ++ [(⟨a3, n3, c3⟩, Rf.putV v xs qp)], by omega, by go_num, ?_, by simp, ?_, (hbw2.alloc hsw2 _).grown hgr3 (by rw [World.size_alloc]; omega) (fun j e => (hA.row.lt j e).1)⟩
    ·exact TermsAt.app (hA2.below ((Below.refl _ w2).alloc (Nat.le_refl _) _)) (x := ⟨a3, n3, c3⟩) (Seen.alloc hS2 _) hgr3 hrow3
    ·unfold Hid; rw [hpt.out, List.map_append, List.map_append, hinv.out]; rfl
   case measure => simp [intOf]; omega
  ·have hend : acc2.length = acc.length := by omega
   have hinv2 : Hid (acc2.map (·.2) = (acc.map (·.2)).map (Rf.putV v xs)) := by have h9 := hinv.out; rw [hend, List.take_length] at h9; exact h9
   have hend' : ¬ ((acc2.length : Int) < acc.length) := by omega
   clear hend
   go_wp2_with fail
   go_ret
   refine ⟨_, rfl, ?_, hbr⟩
   have h9 := hA.seen
   rw [hinv2.out, List.map_map] at h9
   exact h9
theorem ownT_take {off h : Int} {t : List Rf.Part} {k : Nat} (hk : k < t.length) : Rf.ownT off h (t.take (k + 1)) = Rf.ownT off h (t.take k) ++ [Rf.ownP off h t[k]] := by
 unfold Rf.ownT
 rw [List.take_succ_eq_append_getElem hk, List.map_append]
 rfl
set_option maxHeartbeats 1000000 in
theorem pown_any (off h : Int) (w : World) (a : Option Addr) (n c : Nat) (ps : List Rf.Part) (hS : Seen w 101 partCells (.slice a n c) ps) (hl : ps.length <= 100000) (h0 : 0 <= off) (h1 : off <= 1000000000) (hv : ∀ p ∈ ps, p.kind = 1 -> 0 <= p.value /\ p.value < 1000000) :
  Calls Tryz.prog 133 #[.slice a n c, .int .i64 off, .int .i64 h] w fun r w' => ∃ (a3 : Option Addr) (n3 c3 : Nat), r = .returned (.slice a3 n3 c3) /\ Seen w' 101 partCells (.slice a3 n3 c3) (Rf.ownT off h ps) /\ Below w.heap.size w w' := by
 have hn : n = ps.length := hS.len
 subst hn
 have HH : Hid _ := hS
 have HV : Hid _ := hv
 clear hS hv
 go_enter Tryz.func133, Tryz.ntmps133
 go_wp2_with fail
 go_loopw [7, 12] (fun pv iv wr => ∃ (k : Nat), k <= ps.length /\ iv = .int .i64 k /\ RowIs wr w.heap.size 101 4 partCells pv (Rf.ownT off h (ps.take k)) /\ Below w.heap.size w wr) (fun _ iv _ => ps.length - (intOf iv).toNat)
 case atStart => exact ⟨0, by omega, rfl, by rw [List.take_zero]; exact RowIs.nil _ _ _ _ _, Below.refl _ _⟩
 case round =>
   obtain ⟨k, hk, rfl, hrow, hbr⟩ := hrel
   have hsz := hbr.size
   obtain ⟨a4, c4, hv4⟩ := row_slice hrow
   subst hv4
   have hlen : (Rf.ownT off h (ps.take k)).length <= 100000 := by unfold Rf.ownT; rw [List.length_map, List.length_take]; omega
   by_cases hlt : k < ps.length
   ·obtain ⟨g, o, rfl⟩ := HH.out.pos (by omega)
    have hgl := HH.out.lt
    have hmem : ps[k] ∈ ps := List.getElem_mem hlt
    obtain ⟨e0, e1, e2, e3⟩ := Seen.parts (HH.out.below hbr) k ps[k] (by simp [hlt])
    have hpv := HV.out _ hmem
    have hpt : Hid _ := ownT_take (off := off) (h := h) hlt
    clear hmem
    generalize ps[k] = p at *
    have hgl' : g < wr.heap.size := by omega
    have hlt' : (k : Int) < ps.length := by omega
    generalize Rf.ownT off h (ps.take k) = acc at *
    cases k1 : (p.kind == 1)
    ·cases k4 : (p.kind == 4)
     ·have hp : Rf.ownP off h p = p := by unfold Rf.ownP; rw [if_neg (beq_eq_false_iff_ne.1 k1), if_neg (beq_eq_false_iff_ne.1 k4)]
      rw [hp] at hpt
      clear hp hpv
      go_wp2_with (at_builtin; refine wpList_app Tryz.elemPart partCells partCells_len partCells_one _ rfl (.tmp 29) (.tmp 31) rfl w.heap.size _ acc rfl ((hrow.alloc _).alloc _) ⟨_, 0, none⟩ 1 p rfl (cell_four_at _ _ (by simp) _ _ _ _ _) (by omega) (by simp; omega) ?_; intro gA capA w3 hrow3 hgr3 hnb3)
      go_roundw
      case rel => exact ⟨k + 1, by omega, by go_num, by rw [hpt.out]; exact hrow3, Below.grown ((hbr.alloc hsz _).alloc (by simp; omega) _) hgr3 (by simp; omega) (fun j e => (hrow.lt j e).1)⟩
      case measure => simp [intOf]; omega
     ·have hp : Rf.ownP off h p = { p with value := h } := by unfold Rf.ownP; rw [if_neg (beq_eq_false_iff_ne.1 k1), if_pos (eq_of_beq k4)]
      rw [hp] at hpt
      clear hp hpv
      go_wp2_with (at_builtin; refine wpList_app Tryz.elemPart partCells partCells_len partCells_one _ rfl (.tmp 29) (.tmp 31) rfl w.heap.size _ acc rfl ((hrow.alloc _).alloc _) ⟨_, 0, none⟩ 1 { p with value := h } rfl (cell_four_at _ _ (by simp) _ _ _ _ _) (by omega) (by simp; omega) ?_; intro gA capA w3 hrow3 hgr3 hnb3)
      go_roundw
      case rel => exact ⟨k + 1, by omega, by go_num, by rw [hpt.out]; exact hrow3, Below.grown ((hbr.alloc hsz _).alloc (by simp; omega) _) hgr3 (by simp; omega) (fun j e => (hrow.lt j e).1)⟩
      case measure => simp [intOf]; omega
    ·have hp : Rf.ownP off h p = { p with value := p.value + off } := by unfold Rf.ownP; rw [if_pos (eq_of_beq k1)]
     rw [hp] at hpt
     obtain ⟨v0, v1⟩ := hpv (eq_of_beq k1)
     clear hp hpv
     go_wp2_with (at_builtin; refine wpList_app Tryz.elemPart partCells partCells_len partCells_one _ rfl (.tmp 29) (.tmp 31) rfl w.heap.size _ acc rfl ((hrow.alloc _).alloc _) ⟨_, 0, none⟩ 1 { p with value := p.value + off } rfl (cell_four_at _ _ (by simp) _ _ _ _ _) (by omega) (by simp; omega) ?_; intro gA capA w3 hrow3 hgr3 hnb3)
     go_roundw
     case rel => exact ⟨k + 1, by omega, by go_num, by rw [hpt.out]; exact hrow3, Below.grown ((hbr.alloc hsz _).alloc (by simp; omega) _) hgr3 (by simp; omega) (fun j e => (hrow.lt j e).1)⟩
     case measure => simp [intOf]; omega
   ·obtain rfl : k = ps.length := by omega
    go_wp2_with fail
    go_ret
    exact ⟨_, _, _, rfl, by have h9 := hrow.seen; simp only [List.take_length] at h9 ⊢; exact h9, hbr⟩
set_option maxHeartbeats 400000 in
theorem pgreater_any (x y : Int) (w : World) : Calls Tryz.prog 116 #[.int .i64 x, .int .i64 y] w fun r w' => r = .returned (.int .i64 (Rf.maxI x y)) /\ w' = w := by
 by_cases h : y < x
 ·have HM : Hid (Rf.maxI x y = x) := by unfold Hid Rf.maxI; rw [if_pos h]
  go_enter Tryz.func116, Tryz.ntmps116
  go_wp2
  go_ret
  exact ⟨ret_int HM.out.symm, rfl⟩
 ·have HM : Hid (Rf.maxI x y = y) := by unfold Hid Rf.maxI; rw [if_neg h]
  go_enter Tryz.func116, Tryz.ntmps116
  go_wp2
  go_ret
  exact ⟨ret_int HM.out.symm, rfl⟩
theorem pastN_bd {t : List Rf.Part} (hv : ∀ p ∈ t, p.kind = 1 -> 0 <= p.value /\ p.value < 1000000) : ∀ {a : Int}, 0 <= a -> a <= 1000000 -> 0 <= Rf.pastN a t /\ Rf.pastN a t <= 1000000 := by
 induction t with
 | nil => intro a h0 h1; exact ⟨h0, h1⟩
 | cons p t ih =>
  intro a h0 h1
  rw [Rf.pastN]
  have hp := hv p (by simp)
  refine ih (fun q hq => hv q (List.mem_cons_of_mem _ hq)) ?_ ?_
  ·split
   ·have := hp ‹_›; unfold Rf.maxI; split <;> omega
   ·exact h0
  ·split
   ·have := hp ‹_›; unfold Rf.maxI; split <;> omega
   ·exact h1
set_option maxHeartbeats 1000000 in
theorem ppastT_any (w : World) (a : Option Addr) (n c : Nat) (ps : List Rf.Part) (hS : Seen w 101 partCells (.slice a n c) ps) (hl : ps.length <= 100000) (hv : ∀ p ∈ ps, p.kind = 1 -> 0 <= p.value /\ p.value < 1000000) :
  Calls Tryz.prog 117 #[.slice a n c] w fun r w' => r = .returned (.int .i64 (Rf.pastT ps)) /\ Below w.heap.size w w' := by
 have hn : n = ps.length := hS.len
 subst hn
 have HH : Hid _ := hS
 have HV : Hid _ := hv
 clear hS hv
 go_enter Tryz.func117, Tryz.ntmps117
 go_wp2_with fail
 go_loopw [3, 8] (fun mv iv wr => ∃ (k : Nat) (m : Int), k <= ps.length /\ iv = .int .i64 k /\ mv = .int .i64 m /\ 0 <= m /\ m <= 1000000 /\ Below w.heap.size w wr /\ Hid (Rf.pastT ps = Rf.pastN m (ps.drop k))) (fun _ iv _ => ps.length - (intOf iv).toNat)
 case atStart => exact ⟨0, 0, by omega, rfl, rfl, by omega, by omega, Below.refl _ _, rfl⟩
 case round =>
  obtain ⟨k, m, hk, rfl, rfl, hm1, hm2, hbr, hinv⟩ := hrel
  have hsz := hbr.size
  by_cases hlt : k < ps.length
  ·obtain ⟨g, off, rfl⟩ := HH.out.pos (by omega)
   have hgl := HH.out.lt
   have hmem : ps[k] ∈ ps := List.getElem_mem hlt
   obtain ⟨c0, c1, c2, c3⟩ := Seen.parts (HH.out.below hbr) k ps[k] (by simp [hlt])
   have hpv := HV.out _ hmem
   have hdrop : ps.drop k = ps[k] :: ps.drop (k + 1) := List.drop_eq_getElem_cons hlt
   rw [hdrop, Rf.pastN] at hinv
   clear hmem hdrop
   generalize ps[k] = p at *
   have hgl' : g < wr.heap.size := by omega
   have hlt' : (k : Int) < ps.length := by omega
   cases k1 : (p.kind == 1)
   ·rw [if_neg (beq_eq_false_iff_ne.1 k1)] at hinv
    clear hpv
    go_wp2_with fail
    go_roundw
    case rel => exact ⟨k + 1, m, by omega, by go_num, rfl, hm1, hm2, hbr.alloc hsz _, hinv⟩
    case measure => simp [intOf]; omega
   ·rw [if_pos (eq_of_beq k1)] at hinv
    obtain ⟨v0, v1⟩ := hpv (eq_of_beq k1)
    clear hpv
    go_wp2_with (go_at_call 116; refine (pgreater_any m (p.value + 1) _).mono ?_; rintro r w2 ⟨rfl, hw2⟩; subst w2)
    go_roundw
    case rel => exact ⟨k + 1, Rf.maxI m (p.value + 1), by omega, by go_num, rfl, (by unfold Rf.maxI; split <;> omega), (by unfold Rf.maxI; split <;> omega), hbr.alloc hsz _, hinv⟩
    case measure => simp [intOf]; omega
  ·obtain rfl : k = ps.length := by omega
   go_wp2_with fail
   go_ret
   exact ⟨ret_int (by rw [hinv.out, List.drop_length, Rf.pastN]), hbr⟩
end Go.Proofs.YtbiojnljihgpoaaGreatDoor
