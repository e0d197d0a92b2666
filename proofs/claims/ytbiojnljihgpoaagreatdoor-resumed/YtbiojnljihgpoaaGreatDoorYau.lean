
import Derived.Test.YtbiojnljihgpoaaGreatDoorYat
import Derived.Test.YtbiojnljihgpoaaGreatDoorYam
namespace Go.Proofs.YtbiojnljihgpoaaGreatDoor
open Go.RowKit
structure SeenCl (w : World) (hx bx : SlV) (cl : Rf.Cl) : Prop where
 head : Seen w 101 partCells (slv hx) cl.head
 body : SeenTs w (slv bx) cl.body
theorem SeenCl.below {w w' : World} {hx bx : SlV} {cl : Rf.Cl} (h : SeenCl w hx bx cl) (hb : Below w.heap.size w w') : SeenCl w' hx bx cl := ⟨h.head.below hb, h.body.below hb⟩
structure ClOk (cl : Rf.Cl) : Prop where
 hl : cl.head.length ≤ 400
 hv : ∀ p ∈ cl.head, p.kind = 1 → 0 ≤ p.value ∧ p.value < 16
 bl : cl.body.length ≤ 8
 bt : ∀ t ∈ cl.body, t.length ≤ 400 ∧ ∀ p ∈ t, p.kind = 1 → 0 ≤ p.value ∧ p.value < 16
set_option maxHeartbeats 1000000 in
theorem ppast_any (w : World) (hx bx : SlV) (cl : Rf.Cl) (h : SeenCl w hx bx cl) (ho : ClOk cl) :
  Calls Tryz.prog 122 #[.agg #[.slice hx.a hx.n hx.c, .slice bx.a bx.n bx.c]] w fun r w' => r = .returned (.int .i64 (Rf.pastC cl)) ∧ Below w.heap.size w w' := by
 obtain ⟨hH, acc, hT, hE, hbd⟩ := h
 obtain ⟨ah, nh, ch⟩ := hx
 obtain ⟨ab, nb, cb⟩ := bx
 have hn : nb = acc.length := by have := Seen.len hT; rwa [List.length_map] at this
 subst hn
 have hP : Hid (Rf.pastC cl = Rf.pastTs (Rf.pastT cl.head) (acc.map (·.2))) := by unfold Hid Rf.pastC; rw [hbd]
 have hE1 : ∀ q ∈ acc, Seen w 101 partCells (slv q.1) q.2 ∧ q.2.length ≤ 100000 ∧ ∀ p ∈ q.2, p.kind = 1 → 0 ≤ p.value ∧ p.value < 1000000 := fun q hq => by
  have := ho.bt q.2 (by rw [hbd]; exact List.mem_map_of_mem hq)
  exact ⟨hE q hq, by omega, fun p hp hk => by have := this.2 p hp hk; omega⟩
 have HV : Hid (∀ p ∈ cl.head, p.kind = 1 → 0 ≤ p.value ∧ p.value < 1000000) := fun p hp hk => by have := ho.hv p hp hk; omega
 have hhl : cl.head.length ≤ 100000 := by have := ho.hl; omega
 have hbl : acc.length ≤ 8 := by have := ho.bl; rw [hbd, List.length_map] at this; exact this
 have hpb := pastN_bd HV.out (a := 0) (by omega) (by omega)
 have HH : Hid (Seen w 101 partCells (.slice ah nh ch) cl.head) := hH
 have HT : Hid (Seen w 56 slCells (.slice ab acc.length cb) (acc.map (·.1))) := hT
 have HE : Hid _ := hE1
 clear hH hT hE hE1 ho hbd
 generalize Rf.pastC cl = PC at *
 go_enter Tryz.func122, Tryz.ntmps122
 go_wp2_with (go_at_call 117; refine (ppastT_any _ ah nh ch cl.head (Seen.below HH.out (by repeat(first|exact bel0 _ _|refine bel1 ?_ (by simp<;>omega) _|refine bel2 ?_|refine bel3 ?_ _|refine bel4 ?_ (by simp<;>omega) _))) hhl HV.out).mono ?_; rintro r w1 ⟨rfl, hb1⟩; have hb1' : Below w.heap.size w w1 := ((Below.refl _ w).alloc (Nat.le_refl _) _).trans (hb1.mono (by simp)); have hX1 := (hb1.block w.heap.size (by simp)).trans (blk_new _ _); have x1 : w1.cell? ⟨w.heap.size, 1, none⟩ = some (.slice ab acc.length cb) := blk_cell hX1 1)
 clear hX1 x1
 go_loopw [3, 12] (fun mv iv wr => ∃ (k : Nat) (m : Int), k ≤ acc.length ∧ iv = .int .i64 k ∧ mv = .int .i64 m ∧ 0 ≤ m ∧ m ≤ 1000000 ∧ Below w.heap.size w wr ∧ Hid (PC = Rf.pastTs m ((acc.drop k).map (·.2)))) (fun _ iv _ => acc.length - (intOf iv).toNat)
 case atStart => exact ⟨0, _, by omega, rfl, rfl, hpb.1, hpb.2, hb1', hP⟩
 case round =>
  obtain ⟨k, m, hk, rfl, rfl, hm1, hm2, hbr, hinv⟩ := hrel
  have hsz := hbr.size
  by_cases hlt : k < acc.length
  ·obtain ⟨g, off, rfl⟩ := HT.out.pos (by simp; omega)
   have hgl := HT.out.lt
   have hmem : acc[k] ∈ acc := List.getElem_mem hlt
   have hcell := Seen.termAt (HT.out.below hbr) k acc[k].1 (by simp [hlt])
   obtain ⟨hS, hSl, hSv⟩ := HE.out _ hmem
   have hdrop : acc.drop k = acc[k] :: acc.drop (k + 1) := List.drop_eq_getElem_cons hlt
   rw [hdrop, List.map_cons, Rf.pastTs] at hinv
   clear hmem hdrop
   generalize acc[k] = q at *
   obtain ⟨⟨qa, qn, qc⟩, qp⟩ := q
   simp only at hcell hSl hSv hinv
   have HS : Hid (Seen w 101 partCells (.slice qa qn qc) qp) := hS
   have HSv : Hid _ := hSv
   have hqb := pastN_bd hSv (a := 0) (by omega) (by omega)
   have hqb1 : 0 ≤ Rf.pastT qp ∧ Rf.pastT qp ≤ 1000000 := hqb
   clear hS hSv hqb
   have hgl' : g < wr.heap.size := by omega
   have hlt' : (k : Int) < acc.length := by omega
   go_wp2_with (first
    | (go_at_call 117; refine (ppastT_any _ qa qn qc qp (HS.out.below hbr) hSl HSv.out).mono ?_; rintro r w2 ⟨rfl, hb2⟩)
    | (go_at_call 116; refine (pgreater_any m (Rf.pastT qp) _).mono ?_; rintro r w3 ⟨rfl, hw3⟩; subst w3))
   go_roundw
   case rel => exact ⟨k + 1, Rf.maxI m (Rf.pastT qp), by omega, by go_num, rfl, (by unfold Rf.maxI; split <;> omega), (by unfold Rf.maxI; split <;> omega), hbr.trans (hb2.mono hsz), hinv⟩
   case measure => simp [intOf]; omega
  ·obtain rfl : k = acc.length := by omega
   go_wp2_with fail
   go_ret
   exact ⟨ret_int (by rw [hinv.out, List.drop_length]; rfl), hbr⟩
structure OwnSt (w wr : World) (O R : Nat) (hd : SlV) (bv : Value) (ps : List Rf.Part) (acc : List (SlV × List Rf.Part)) : Prop where
 o : wr.heap[O]? = some (.cells #[.slice hd.a hd.n hd.c, bv] 59 (0, 0))
 r : wr.heap[R]? = some (.cells #[.slice none 0 0, .slice none 0 0] 59 (0, 0))
 rows : TermsAt (O + 1) wr bv acc
 hd : Seen wr 101 partCells (.slice hd.a hd.n hd.c) ps
 b : Below w.heap.size w wr
theorem OwnSt.below {w wr w2 : World} {O R : Nat} {hd : SlV} {bv : Value} {ps : List Rf.Part} {acc : List (SlV × List Rf.Part)} (h : OwnSt w wr O R hd bv ps acc) (hb : Below wr.heap.size wr w2) : OwnSt w w2 O R hd bv ps acc :=
 ⟨(hb.block O (blk_lt h.o)).trans h.o, (hb.block R (blk_lt h.r)).trans h.r, h.rows.below hb, h.hd.below hb, h.b.trans (hb.mono h.b.size)⟩
theorem OwnSt.app {w wr w3 : World} {O R : Nat} {hd x : SlV} {bv bv' : Value} {ps qs : List Rf.Part} {acc : List (SlV × List Rf.Part)} (h : OwnSt w wr O R hd bv ps acc) (hO : w.heap.size ≤ O) (hR : R < O) (hx : Seen wr 101 partCells (.slice x.a x.n x.c) qs) (hg : wr.grownBy w3 bv.ownBlock) (hr : RowIs w3 (O + 1) 56 1 slCells bv' (acc.map (·.1) ++ [x])) :
  OwnSt w (w3.setCell ⟨O, 1, none⟩ bv') O R hd bv' ps (acc ++ [(x, qs)]) := by
 have hbl : ∀ k, bv.ownBlock = some k → O + 1 ≤ k := fun k e => (h.rows.row.lt k e).1
 have ho : w3.heap[O]? = _ := (hg.block O (blk_lt h.o) (fun e => by have := hbl O e.symm; omega)).trans h.o
 have hr3 : w3.heap[R]? = _ := (hg.block R (blk_lt h.r) (fun e => by have := hbl R e.symm; omega)).trans h.r
 have hT := TermsAt.app h.rows hx hg hr
 have nt : ∀ cs (t : TypeId), t ≠ 59 → w3.heap[O]? ≠ some (.cells cs t (0, 0)) := fun cs t hne e => by
  rw [ho] at e; injection e with e; injection e with _ e; exact hne e.symm
 refine ⟨blk_set ho 1 _, ?_, ⟨hT.row.setCell ⟨O, 1, none⟩ _ (fun e => ?_), fun q hq => (hT.each q hq).setCell _ _ (fun cs => nt cs _ (by decide))⟩, (h.hd.grownT h.rows.row (by decide) hg).setCell _ _ (fun cs => nt cs _ (by decide)), (h.b.grown hg h.b.size (fun k e => by have := hbl k e; omega)).setCell (p := ⟨O, 1, none⟩) hO _⟩
 ·have : (w3.setCell ⟨O, 1, none⟩ bv').heap[R]? = w3.heap[R]? := Below.heap_setCell _ _ _ _ (by simp; omega)
  rw [this]; exact hr3
 ·have := (hT.row.lt _ e).1; simp at this; omega
theorem OwnSt.fin {w wr : World} {O R : Nat} {hd : SlV} {bv : Value} {ps : List Rf.Part} {acc : List (SlV × List Rf.Part)} (h : OwnSt w wr O R hd bv ps acc) (hR : w.heap.size ≤ R) (x y : Value) :
  Seen ((wr.setCell ⟨R, 0, none⟩ x).setCell ⟨R, 1, none⟩ y) 101 partCells (.slice hd.a hd.n hd.c) ps ∧ SeenTs ((wr.setCell ⟨R, 0, none⟩ x).setCell ⟨R, 1, none⟩ y) bv (acc.map (·.2)) ∧ Below w.heap.size w ((wr.setCell ⟨R, 0, none⟩ x).setCell ⟨R, 1, none⟩ y) := by
 have n1 : ∀ cs (t : TypeId), t ≠ 59 → wr.heap[R]? ≠ some (.cells cs t (0, 0)) := fun cs t hne e => by
  rw [h.r] at e; injection e with e; injection e with _ e; exact hne e.symm
 have n2 : ∀ cs (t : TypeId), t ≠ 59 → (wr.setCell ⟨R, 0, none⟩ x).heap[R]? ≠ some (.cells cs t (0, 0)) := fun cs t hne e => by
  rw [blk_set h.r 0 x] at e; injection e with e; injection e with _ e; exact hne e.symm
 have two : ∀ {α : Type} {e : TypeId} {C : α → List Value} {v : Value} {xs : List α}, e ≠ 59 → Seen wr e C v xs → Seen ((wr.setCell ⟨R, 0, none⟩ x).setCell ⟨R, 1, none⟩ y) e C v xs := fun hne hs => (hs.setCell _ _ (fun cs => n1 cs _ hne)).setCell _ _ (fun cs => n2 cs _ hne)
 exact ⟨two (by decide) h.hd, ⟨acc, two (by decide) h.rows.row.seen, fun q hq => two (by decide) (h.rows.each q hq), rfl⟩, (h.b.setCell (p := ⟨R, 0, none⟩) hR _).setCell (p := ⟨R, 1, none⟩) hR _⟩
def ownC (off h : Int) (cl : Rf.Cl) : Rf.Cl := ⟨Rf.ownT off h cl.head, cl.body.map (Rf.ownT off h), cl.vars⟩
theorem callOwn (vals : Array Value) (w : World) : (callFunc 133 vals).run Tryz.prog w = .ok (.enter 133 vals) w := by
 simp [callFunc, Tryz.func133, Tryz.f133]
set_option maxRecDepth 100000 in
set_option maxHeartbeats 1000000 in
theorem pOwn_any (off h : Int) (w : World) (hx bx : SlV) (cl : Rf.Cl) (hc : SeenCl w hx bx cl) (ho : ClOk cl) (h0 : 0 ≤ off) (h1 : off ≤ 1000000000) :
  Calls Tryz.prog 120 #[.agg #[.slice hx.a hx.n hx.c, .slice bx.a bx.n bx.c], .int .i64 off, .int .i64 h] w fun r w' => ∃ (hy bY : SlV), r = .returned (.agg #[.slice hy.a hy.n hy.c, .slice bY.a bY.n bY.c]) ∧ SeenCl w' hy bY (ownC off h cl) ∧ Below w.heap.size w w' := by
 obtain ⟨hH, acc, hT, hE, hbd⟩ := hc
 obtain ⟨ah, nh, ch⟩ := hx
 obtain ⟨ab, nb, cb⟩ := bx
 have hn : nb = acc.length := by have := Seen.len hT; rwa [List.length_map] at this
 subst hn
 have hE1 : ∀ q ∈ acc, Seen w 101 partCells (slv q.1) q.2 ∧ q.2.length ≤ 100000 ∧ ∀ p ∈ q.2, p.kind = 1 → 0 ≤ p.value ∧ p.value < 1000000 := fun q hq => by
  have := ho.bt q.2 (by rw [hbd]; exact List.mem_map_of_mem hq)
  exact ⟨hE q hq, by omega, fun p hp hk => by have := this.2 p hp hk; omega⟩
 have HV : Hid (∀ p ∈ cl.head, p.kind = 1 → 0 ≤ p.value ∧ p.value < 1000000) := fun p hp hk => by have := ho.hv p hp hk; omega
 have hhl : cl.head.length ≤ 100000 := by have := ho.hl; omega
 have hbl : acc.length ≤ 8 := by have := ho.bl; rw [hbd, List.length_map] at this; exact this
 have HH : Hid (Seen w 101 partCells (.slice ah nh ch) cl.head) := hH
 have HT : Hid (Seen w 56 slCells (.slice ab acc.length cb) (acc.map (·.1))) := hT
 have HE : Hid _ := hE1
 have Hbd : Hid _ := hbd
 clear hH hT hE hE1 ho hbd
 go_enter Tryz.func120, Tryz.ntmps120
 go_wp2_with (go_at_call 133; refine (pown_any off h _ ah nh ch cl.head (Seen.below HH.out (by repeat(first|exact bel0 _ _|refine bel1 ?_ (by simp<;>omega) _|refine bel2 ?_|refine bel3 ?_ _|refine bel4 ?_ (by simp<;>omega) _))) hhl h0 h1 HV.out).mono ?_; rintro r w1 ⟨a1, n1, c1, rfl, hS1, hb1⟩; have hb1' : Below w.heap.size w w1 := (((Below.refl _ w).alloc (Nat.le_refl _) _).alloc (by simp) _).trans (hb1.mono (by simp; omega)); have hs1 : w.heap.size + 2 ≤ w1.heap.size := (by have := hb1.size; simp at this; omega); have hX1 := (hb1.block w.heap.size (by simp; omega)).trans (blk_alloc (blk_new _ _) _); have x1 : w1.cell? ⟨w.heap.size, 1, none⟩ = some (.slice ab acc.length cb) := blk_cell hX1 1; have hY1 := (hb1.block (w.heap.size + 1) (by simp)).trans (blk_at _ _ _ (by simp)); have hsx : w.heap.size < w1.heap.size := (by omega))
 have hst : OwnSt w (w1.alloc (.cells #[.slice a1 n1 c1, .slice none 0 0] 59)) w1.heap.size (w.heap.size + 1) ⟨a1, n1, c1⟩ (.slice none 0 0) (Rf.ownT off h cl.head) [] := ⟨blk_new _ _, blk_alloc hY1 _, TermsAt.nil _ _, Seen.alloc hS1 _, hb1'.alloc hb1'.size _⟩
 clear hX1 x1 hY1
 go_loopw [19] (fun iv wr => ∃ (k : Nat) (bv : Value) (acc2 : List (SlV × List Rf.Part)), k ≤ acc.length ∧ iv = .int .i64 k ∧ OwnSt w wr w1.heap.size (w.heap.size + 1) ⟨a1, n1, c1⟩ bv (Rf.ownT off h cl.head) acc2 ∧ acc2.length = k ∧ Hid (acc2.map (·.2) = ((acc.take k).map (·.2)).map (Rf.ownT off h))) (fun iv _ => acc.length - (intOf iv).toNat)
 case atStart => exact ⟨0, _, [], by omega, rfl, hst, rfl, rfl⟩
 case round =>
  obtain ⟨k, bv, acc2, hk, rfl, hA, hk2, hinv⟩ := hrel
  obtain rfl := hk2
  have hsz := hA.b.size
  have hol := blk_lt hA.o
  obtain ⟨a4, c4, hv4⟩ := row_slice hA.rows.row
  rw [List.length_map] at hv4
  subst hv4
  have o0 := blk_cell hA.o 0
  have o1 := blk_cell hA.o 1
  have of := blk_frozen hA.o
  have hrl := blk_lt hA.r
  have r0 := blk_cell hA.r 0
  have r1 := blk_cell hA.r 1
  have rf := blk_frozen hA.r
  simp at o0 o1 r0 r1
  by_cases hlt : acc2.length < acc.length
  ·obtain ⟨g, o, rfl⟩ := HT.out.pos (by simp; omega)
   have hgl := HT.out.lt
   have hmem : acc[acc2.length] ∈ acc := List.getElem_mem hlt
   have hcell := Seen.termAt (HT.out.below hA.b) acc2.length acc[acc2.length].1 (by simp [hlt])
   obtain ⟨hS, hSl, hSv⟩ := HE.out _ hmem
   have hpt : Hid ((acc.take (acc2.length + 1)).map (·.2) = (acc.take acc2.length).map (·.2) ++ [acc[acc2.length].2]) := by unfold Hid; rw [List.take_succ_eq_append_getElem hlt, List.map_append]; rfl
   clear hmem
   generalize acc[acc2.length] = q at *
   obtain ⟨⟨qa, qn, qc⟩, qp⟩ := q
   simp only at hcell hSl hSv hpt
   have HS : Hid (Seen w 101 partCells (.slice qa qn qc) qp) := hS
   have HSv : Hid _ := hSv
   have HA : Hid _ := hA
   clear hS hSv hst
   have hgl' : g < wr.heap.size := by omega
   have hlt' : (acc2.length : Int) < acc.length := by omega
   go_wp2_with fail
   go_region_law (first
    | (refine step_call3 rfl 133 (.tmp 25) (.tmp 26) (.tmp 27) _ rfl (.slice qa qn qc) (.int .i64 off) (.int .i64 h) rfl rfl rfl (fun _ => callOwn _ _) (pown_any off h _ qa qn qc qp (HS.out.below (by first | exact HA.out.b.drew | exact HA.out.b)) hSl h0 h1 HSv.out) ?_; rintro r w2 ⟨a3, n3, c3, rfl, hS2, hb2⟩; refine ⟨_, rfl, ?_⟩; have hA2 := (HA.out.below (Below.refl _ wr).drew).below hb2; have hA3 := hA2.below ((Below.refl _ w2).alloc (Nat.le_refl _) (.cells #[.slice a3 n3 c3] 56)); have hs2 := hA2.b.size; have hol2 := blk_lt hA2.o; have p0 := blk_cell hA2.o 0; have p1 := blk_cell hA2.o 1; have pf := blk_frozen hA2.o; simp at p0 p1)
    | (refine step_app Tryz.elemTerms slCells slCells_len slCells_one rfl (.tmp 24) (.tmp 29) rfl (w1.heap.size + 1) (.slice a4 acc2.length c4) _ rfl hA3.rows.row ⟨_, 0, none⟩ 1 ⟨a3, n3, c3⟩ rfl (cell_one_at _ _ rfl _ _) (by rw [List.length_map]; omega) (by rw [World.size_alloc]; omega) ?_; intro gA capA w3 hrow3 hgr3 hnb3; rw [List.length_map] at hrow3; have hA4 := OwnSt.app hA3 (by omega) (by omega) (x := ⟨a3, n3, c3⟩) (Seen.alloc hS2 _) hgr3 hrow3; have hz3 := hgr3.size; have q1 : w3.cell? ⟨w1.heap.size, 1, none⟩ = some (.slice a4 acc2.length c4) := (blk_cell ((hgr3.block _ (blk_lt hA3.o) (fun e => by have := (hA3.rows.row.lt _ e.symm).1; omega)).trans hA3.o) 1); have qf := blk_frozen ((hgr3.block _ (blk_lt hA3.o) (fun e => by have := (hA3.rows.row.lt _ e.symm).1; omega)).trans hA3.o)))
   all_goals go_wp2_with fail
   all_goals
    go_roundw
    case rel =>
     refine ⟨acc2.length + 1, _, acc2 ++ [(⟨a3, n3, c3⟩, Rf.ownT off h qp)], by omega, by go_num, hA4, by simp, ?_⟩
     unfold Hid; rw [hpt.out, List.map_append, List.map_append, hinv.out]; rfl
    case measure => simp [intOf]; omega
  ·have hend : acc2.length = acc.length := by omega
   have hinv2 : Hid (acc2.map (·.2) = (acc.map (·.2)).map (Rf.ownT off h)) := by have h9 := hinv.out; rw [hend, List.take_length] at h9; exact h9
   have hend' : ¬ ((acc2.length : Int) < acc.length) := by omega
   clear hend hst
   have HA : Hid _ := hA
   clear hA
   go_wp2_with fail
   refine bodyPost_ret (v := .agg #[.slice a1 n1 c1, .slice a4 acc2.length c4]) (by simp [results, Tryz.results120, go_sem, *]) rfl ?_
   obtain ⟨f1, f2, f3⟩ := HA.out.fin (by omega) (.slice a1 n1 c1) (.slice a4 acc2.length c4)
   refine ⟨⟨a1, n1, c1⟩, ⟨a4, acc2.length, c4⟩, rfl, ⟨f1, ?_⟩, f3⟩
   rw [hinv2.out] at f2
   unfold ownC
   rw [Hbd.out]
   exact f2
end Go.Proofs.YtbiojnljihgpoaaGreatDoor
namespace Go.Proofs.YtbiojnljihgpoaaGreatDoor
open Go.RowKit
def EqB (w : World) (e : Nat) (vf vs vb vh vt : Value) : Prop := w.heap[e]? = some (.cells #[vf, vs, vb, vh, vt] 160 (0, 0))
structure EqIs (w : World) (vf vs vb vh vt : Value) (E : Rf.Eqn) : Prop where
 f : Seen w 101 partCells vf E.f
 s : Seen w 101 partCells vs E.s
 b : SeenTs w vb E.body
 h : SeenTs w vh E.behind
 t : SeenTs w vt E.terms
structure EqAt (w : World) (e : Nat) (E : Rf.Eqn) : Prop where
 ex : ∃ vf vs vb vh vt, EqB w e vf vs vb vh vt ∧ EqIs w vf vs vb vh vt E
structure EqOk (E : Rf.Eqn) : Prop where
 f : E.f.length ≤ 400
 s : E.s.length ≤ 400
 b : E.body.length ≤ 10000 ∧ ∀ t ∈ E.body, t.length ≤ 400
 h : E.behind.length ≤ 10000 ∧ ∀ t ∈ E.behind, t.length ≤ 400
 t : E.terms.length ≤ 10000 ∧ ∀ t ∈ E.terms, t.length ≤ 400
theorem EqIs.below {w w' : World} {vf vs vb vh vt : Value} {E : Rf.Eqn} (h : EqIs w vf vs vb vh vt E) (hb : Below w.heap.size w w') : EqIs w' vf vs vb vh vt E := ⟨h.f.below hb, h.s.below hb, h.b.below hb, h.h.below hb, h.t.below hb⟩
theorem SeenTs.setBlk {w : World} {v : Value} {ts : List (List Rf.Part)} (h : SeenTs w v ts) {e : Nat} {cs : Array Value} {t : TypeId} (hB : w.heap[e]? = some (.cells cs t (0, 0))) (h1 : t ≠ 101) (h2 : t ≠ 56) (i : Nat) (u : Value) : SeenTs (w.setCell ⟨e, i, none⟩ u) v ts := by
 obtain ⟨acc, a1, a2, a3⟩ := h.ex
 have nt : ∀ cs' (t' : TypeId), t' ≠ t → w.heap[e]? ≠ some (.cells cs' t' (0, 0)) := fun cs' t' hne e' => by
  rw [hB] at e'; injection e' with e'; injection e' with _ e'; exact hne e'.symm
 exact ⟨acc, a1.setCell _ _ (fun cs => nt cs _ (Ne.symm h2)), fun q hq => (a2 q hq).setCell _ _ (fun cs => nt cs _ (Ne.symm h1)), a3⟩
theorem _root_.Go.Seen.setBlk {w : World} {v : Value} {ps : List Rf.Part} (h : Seen w 101 partCells v ps) {e : Nat} {cs : Array Value} {t : TypeId} (hB : w.heap[e]? = some (.cells cs t (0, 0))) (h1 : t ≠ 101) (i : Nat) (u : Value) : Seen (w.setCell ⟨e, i, none⟩ u) 101 partCells v ps :=
 h.setCell _ _ (fun cs' e' => by rw [hB] at e'; injection e' with e'; injection e' with _ e'; exact h1 e')
theorem EqIs.set {w : World} {e : Nat} {uf us ub uh ut : Value} {vf vs vb vh vt : Value} {E : Rf.Eqn} (h : EqIs w vf vs vb vh vt E) (hB : EqB w e uf us ub uh ut) (i : Nat) (u : Value) : EqIs (w.setCell ⟨e, i, none⟩ u) vf vs vb vh vt E :=
 ⟨h.f.setBlk hB (by decide) i u, h.s.setBlk hB (by decide) i u, h.b.setBlk hB (by decide) (by decide) i u, h.h.setBlk hB (by decide) (by decide) i u, h.t.setBlk hB (by decide) (by decide) i u⟩
theorem EqB.facts {w : World} {e : Nat} {vf vs vb vh vt : Value} (h : EqB w e vf vs vb vh vt) : w.cell? ⟨e, 0, none⟩ = some vf ∧ w.cell? ⟨e, 1, none⟩ = some vs ∧ w.cell? ⟨e, 2, none⟩ = some vb ∧ w.cell? ⟨e, 3, none⟩ = some vh ∧ w.cell? ⟨e, 4, none⟩ = some vt ∧ (∀ i, w.frozen? ⟨e, i, none⟩ = false) ∧ e < w.heap.size :=
 ⟨blk_cell h 0, blk_cell h 1, blk_cell h 2, blk_cell h 3, blk_cell h 4, blk_frozen h, blk_lt h⟩
set_option maxHeartbeats 1000000 in
theorem pdrop_any (w : World) (e m n : Nat) (E : Rf.Eqn) (h : EqAt w e E) (hf : 1 ≤ E.f.length) (hs : 1 ≤ E.s.length) (hm : m ≤ E.f.length) (hn : n ≤ E.s.length) :
  Calls Tryz.prog 134 #[.pointer (some ⟨e, 0, none⟩), .int .i64 m, .int .i64 n] w fun r w' => r = .returned (.tuple #[]) ∧ EqAt w' e { E with f := E.f.drop m, s := E.s.drop n } ∧ Kept (fun k => k = e) w w' := by
 obtain ⟨vf, vs, vb, vh, vt, hB, hE⟩ := h.ex
 obtain ⟨a1, c1, rfl⟩ := hE.f.slice
 obtain ⟨g1, o1, rfl⟩ := hE.f.pos hf
 obtain ⟨a2, c2, rfl⟩ := hE.s.slice
 obtain ⟨g2, o2, rfl⟩ := hE.s.pos hs
 obtain ⟨k0, k1, k2, k3, k4, kf, kl⟩ := hB.facts
 have hc1 := hE.f.cap
 have hc2 := hE.s.cap
 have HB : Hid _ := hB
 have E1 : Hid (∀ u1 u2, EqIs ((w.setCell ⟨e, 0, none⟩ u1).setCell ⟨e, 1, none⟩ u2) _ _ vb vh vt E) := fun u1 u2 => (hE.set hB 0 u1).set (blk_set hB 0 u1) 1 u2
 clear h hB hE
 go_enter Tryz.func134, Tryz.ntmps134
 go_wp2_with fail
 all_goals
  go_end0
  refine ⟨rfl, ⟨_, _, vb, vh, vt, blk_set (blk_set HB.out 0 _) 1 _, ?_⟩, (by repeat' (first | exact Kept.refl _ _ | refine Kept.setCell ?_ ?_ _ | refine Kept.drew ?_ | refine Kept.drewN ?_ _ | refine Kept.alloc ?_ _ | exact Or.inr rfl | exact Or.inr (Or.inl rfl) | (refine Or.inl ?_; simp; done) | (refine Or.inl ?_; simp; omega)))⟩
  refine ⟨?_, ?_, (E1.out _ _).b, (E1.out _ _).h, (E1.out _ _).t⟩
  ·first | exact (E1.out _ _).f.drop partCells_len m hm | exact (E1.out _ _).f.dropEnd m (by assumption)
  ·first | exact (E1.out _ _).s.drop partCells_len n hn | exact (E1.out _ _).s.dropEnd n (by assumption)
set_option maxHeartbeats 1000000 in
theorem psizeWith_any (z n : Nat) (v : Int) (w : World) (vt : Value) (ts : List (List Rf.Part)) (h : SeenTs w vt ts) (hl : ts.length ≤ 100000) (hl1 : ∀ t ∈ ts, t.length ≤ 400) (hz : z ≤ 1000000) (hn : n ≤ 1000) :
  Calls Tryz.prog 144 #[.int .i64 z, vt, .int .i64 v, .int .i64 ((n : Int) + 1)] w fun r w' => r = .returned (.int .i64 (Rf.sizeW v n z ts)) ∧ Below w.heap.size w w' := by
 obtain ⟨acc, hT, hE, rfl⟩ := h.ex
 obtain ⟨a, c, rfl⟩ := hT.slice
 rw [List.length_map] at hl
 have hE1 : ∀ q ∈ acc, Seen w 101 partCells (slv q.1) q.2 ∧ q.2.length ≤ 400 := fun q hq => ⟨hE q hq, hl1 q.2 (List.mem_map_of_mem hq)⟩
 have HT : Hid _ := hT
 have HE : Hid _ := hE1
 clear h hT hE hl1 hE1
 rw [List.length_map]
 go_enter Tryz.func144, Tryz.ntmps144
 go_wp2_with fail
 go_loopw [0, 13] (fun sv iv wr => ∃ (k y : Nat), k ≤ acc.length ∧ iv = .int .i64 k ∧ sv = .int .i64 y ∧ y ≤ 1000000 ∧ Below w.heap.size w wr ∧ Hid (Rf.sizeW v n z (acc.map (·.2)) = Rf.sizeW v n y ((acc.drop k).map (·.2)))) (fun _ iv _ => acc.length - (intOf iv).toNat)
 case atStart => exact ⟨0, z, by omega, rfl, rfl, hz, Below.refl _ _, rfl⟩
 case round =>
  obtain ⟨k, y, hk, rfl, rfl, hy, hbr, hinv⟩ := hrel
  have hsz := hbr.size
  by_cases hlt : k < acc.length
  ·obtain ⟨g, off, rfl⟩ := HT.out.pos (by simp; omega)
   have hgl := HT.out.lt
   have hmem : acc[k] ∈ acc := List.getElem_mem hlt
   have hcell := Seen.termAt (HT.out.below hbr) k acc[k].1 (by simp [hlt])
   obtain ⟨hS, hSl⟩ := HE.out _ hmem
   have hdrop : acc.drop k = acc[k] :: acc.drop (k + 1) := List.drop_eq_getElem_cons hlt
   rw [hdrop, List.map_cons, Rf.sizeW] at hinv
   clear hmem hdrop
   generalize acc[k] = q at *
   obtain ⟨⟨qa, qn, qc⟩, qp⟩ := q
   simp only at hcell hSl hinv
   have HS : Hid (Seen w 101 partCells (.slice qa qn qc) qp) := hS
   have hqn : qn = qp.length := Seen.len HS.out
   subst hqn
   clear hS
   have hcv := Rf.countV_le (v := v) qp
   have hcm : Rf.countV v qp * n ≤ 400 * 1000 := Nat.mul_le_mul (by omega) hn
   have hcm' : (Rf.countV v qp : Int) * n ≤ 400000 := by
    have h9 : ((Rf.countV v qp * n : Nat) : Int) ≤ 400000 := by omega
    simpa using h9
   have hcm0 : (0 : Int) ≤ (Rf.countV v qp : Int) * n := Int.mul_nonneg (by omega) (by omega)
   have hgl' : g < wr.heap.size := by omega
   have hlt' : (k : Int) < acc.length := by omega
   by_cases h200 : 200 < y
   ·rw [if_pos h200] at hinv
    go_wp2_with fail
    go_ret
    exact ⟨ret_int (by rw [hinv.out]), hbr⟩
   ·rw [if_neg h200] at hinv
    go_wp2_with (go_at_call 139; refine (pcount_any v _ qa _ qc qp (HS.out.below hbr) (by omega)).mono ?_; rintro r w2 ⟨rfl, hb2⟩)
    go_roundw
    case rel => exact ⟨k + 1, y + qp.length + Rf.countV v qp * n, by omega, by go_num, by simp; omega, by omega, hbr.trans (hb2.mono hsz), hinv⟩
    case measure => simp [intOf]; omega
  ·obtain rfl : k = acc.length := by omega
   go_wp2_with fail
   go_ret
   exact ⟨ret_int (by rw [hinv.out, List.drop_length]; rfl), hbr⟩
end Go.Proofs.YtbiojnljihgpoaaGreatDoor
namespace Rf
theorem sizeW_app {v : Int} {n : Nat} : ∀ (ts us : List (List Part)) (z : Nat), sizeW v n (sizeW v n z ts) us = sizeW v n z (ts ++ us)
 | [], _, _ => rfl
 | t :: ts, us, z => by
  rw [sizeW, List.cons_append, sizeW]
  split
  ·cases us with
   | nil => rfl
   | cons u us => rw [sizeW]; rename_i h; rw [if_pos h]
  ·exact sizeW_app ts us _
def allT (E : Eqn) : List (List Part) := [E.f, E.s] ++ (E.body ++ (E.behind ++ E.terms))
theorem sizeT_app : ∀ (ts us : List (List Part)), sizeT (ts ++ us) = sizeT ts + sizeT us
 | [], us => by simp [sizeT]
 | t :: ts, us => by rw [List.cons_append, sizeT, sizeT, sizeT_app ts us]; omega
theorem size_put (E : Eqn) (v : Int) (x : List Part) : (E.put v x).size = sizeT ((allT E).map (putV v x)) := by
 unfold allT Eqn.put Eqn.size
 simp only [List.map_append, sizeT_app, List.map_cons, List.map_nil, sizeT]
 omega
theorem size_big (E : Eqn) (v : Int) (x : List Part) (n : Nat) (hx : x.length = n + 1) : 200 < sizeW v n 0 (allT E) ↔ 200 < (E.put v x).size := by
 rw [sizeW_big hx, size_put, Nat.zero_add]
end Rf
namespace Go.Proofs.YtbiojnljihgpoaaGreatDoor
open Go.RowKit
theorem Seen.two {w : World} {N : Nat} {x y : SlV} {t : TypeId} (h : w.heap[N]? = some (.cells #[.slice x.a x.n x.c, .slice y.a y.n y.c] t (0, 0))) : Seen w t slCells (.slice (some ⟨N, 0, none⟩) 2 2) [x, y] := by
 refine ⟨.inr ⟨N, 0, 2, _, rfl, h, by simp, by unfold maxLen; omega, fun j u hu => ?_⟩⟩
 rw [Nat.zero_add]
 match j, hu with
 | 0, hu => simpa [slCells, slv] using hu
 | 1, hu => simpa [slCells, slv] using hu
 | (j + 2), hu => simp [slCells] at hu
theorem sizeW_bd {v : Int} {n : Nat} (hn : n ≤ 1000) : ∀ (ts : List (List Rf.Part)) (z : Nat), (∀ t ∈ ts, t.length ≤ 400) → z ≤ 1000000 → Rf.sizeW v n z ts ≤ 1000000
 | [], z, _, h => h
 | t :: ts, z, ht, h => by
  rw [Rf.sizeW]
  split
  ·exact h
  ·refine sizeW_bd hn ts _ (fun q hq => ht q (List.mem_cons_of_mem _ hq)) ?_
   have h1 := ht t (by simp)
   have h2 := Rf.countV_le (v := v) t
   have h3 : Rf.countV v t * n ≤ 400 * 1000 := Nat.mul_le_mul (by omega) hn
   omega
set_option maxHeartbeats 1000000 in
set_option maxRecDepth 100000 in
theorem psizeE_any (n : Nat) (v : Int) (w : World) (e : Nat) (E : Rf.Eqn) (h : EqAt w e E) (ho : EqOk E) (hn : n ≤ 1000) :
  Calls Tryz.prog 140 #[.pointer (some ⟨e, 0, none⟩), .int .i64 v, .int .i64 ((n : Int) + 1)] w fun r w' => r = .returned (.int .i64 (Rf.sizeW v n 0 (Rf.allT E))) ∧ Below w.heap.size w w' := by
 obtain ⟨vf, vs, vb, vh, vt, hB, hE⟩ := h.ex
 obtain ⟨a1, c1, rfl⟩ := hE.f.slice
 obtain ⟨a2, c2, rfl⟩ := hE.s.slice
 obtain ⟨a3, c3, rfl⟩ := hE.b.slice
 obtain ⟨a4, c4, rfl⟩ := hE.h.slice
 obtain ⟨a5, c5, rfl⟩ := hE.t.slice
 obtain ⟨k0, k1, k2, k3, k4, kf, kl⟩ := hB.facts
 have HB : Hid _ := hB
 have HE : Hid _ := hE
 have HO : Hid _ := ho
 have HS2 : Hid (∀ o, ∀ q ∈ [((⟨a1, E.f.length, c1⟩ : SlV), E.f), (⟨a2, E.s.length, c2⟩, E.s)], Seen (w.drew.alloc o) 101 partCells (slv q.1) q.2) := fun o q hq => by
  simp only [List.mem_cons, List.not_mem_nil, or_false] at hq
  rcases hq with rfl | rfl
  ·exact hE.f.drew.alloc o
  ·exact hE.s.drew.alloc o
 have HL2 : Hid (∀ t ∈ [E.f, E.s], t.length ≤ 400) := fun t ht => by
  simp only [List.mem_cons, List.not_mem_nil, or_false] at ht
  rcases ht with rfl | rfl
  ·exact ho.f
  ·exact ho.s
 have Zb : ∀ (ts : List (List Rf.Part)) (z : Nat), (∀ t ∈ ts, t.length ≤ 400) → z ≤ 1000000 → Rf.sizeW v n z ts ≤ 1000000 := fun ts z ht hz => sizeW_bd hn ts z ht hz
 have Z1 : Hid (Rf.sizeW v n 0 [E.f, E.s] ≤ 1000000) := Zb _ _ HL2.out (by omega)
 have Z2 : Hid (Rf.sizeW v n (Rf.sizeW v n 0 [E.f, E.s]) E.body ≤ 1000000) := Zb _ _ ho.b.2 Z1.out
 have Z3 : Hid (Rf.sizeW v n (Rf.sizeW v n (Rf.sizeW v n 0 [E.f, E.s]) E.body) E.behind ≤ 1000000) := Zb _ _ ho.h.2 Z2.out
 clear h hB hE ho
 go_enter Tryz.func140, Tryz.ntmps140
 go_wp2_with fail
 go_region_with (go_at_call 144; refine (psizeWith_any 0 n v _ (.slice (some ⟨_, 0, none⟩) 2 2) [E.f, E.s] ⟨[(⟨a1, E.f.length, c1⟩, E.f), (⟨a2, E.s.length, c2⟩, E.s)], Seen.two (x := ⟨a1, E.f.length, c1⟩) (y := ⟨a2, E.s.length, c2⟩) (blk_new _ _), HS2.out _, rfl⟩ (by simp) HL2.out (by omega) hn).mono ?_; rintro r w1 ⟨rfl, hb1⟩)
 all_goals
  have hbw1 : Below w.heap.size w w1 := ((Below.refl _ w).drew.alloc (Nat.le_refl _) _).trans (hb1.mono (by simp))
  have hB1 : EqB w1 e _ _ _ _ _ := (hbw1.block e kl).trans HB.out
  obtain ⟨l0, l1, l2, l3, l4, lf, ll⟩ := hB1.facts
  clear hb1
  go_wp2_with (first
   | (go_at_call_of 144 (Value.slice a3 E.body.length c3); refine (psizeWith_any (Rf.sizeW v n 0 [E.f, E.s]) n v _ (.slice a3 E.body.length c3) E.body (HE.out.b.below hbw1) (by have := HO.out.b.1; omega) HO.out.b.2 Z1.out hn).mono ?_; rintro r w2 ⟨rfl, hb2⟩; have hbw2 := hbw1.trans (hb2.mono hbw1.size); have hB2 : EqB w2 e _ _ _ _ _ := (hbw2.block e kl).trans HB.out; obtain ⟨m0, m1, m2, m3, m4, mf, ml⟩ := hB2.facts)
   | (go_at_call_of 144 (Value.slice a4 E.behind.length c4); refine (psizeWith_any _ n v _ (.slice a4 E.behind.length c4) E.behind (HE.out.h.below hbw2) (by have := HO.out.h.1; omega) HO.out.h.2 Z2.out hn).mono ?_; rintro r w3 ⟨rfl, hb3⟩; have hbw3 := hbw2.trans (hb3.mono hbw2.size); have hB3 : EqB w3 e _ _ _ _ _ := (hbw3.block e kl).trans HB.out; obtain ⟨q0, q1, q2, q3, q4, qf, ql⟩ := hB3.facts)
   | (go_at_call_of 144 (Value.slice a5 E.terms.length c5); refine (psizeWith_any _ n v _ (.slice a5 E.terms.length c5) E.terms (HE.out.t.below hbw3) (by have := HO.out.t.1; omega) HO.out.t.2 Z3.out hn).mono ?_; rintro r w4 ⟨rfl, hb4⟩; have hbw4 := hbw3.trans (hb4.mono hbw3.size)))
  go_ret
  exact ⟨ret_int (by rw [Rf.sizeW_app, Rf.sizeW_app, Rf.sizeW_app]; rfl), hbw4⟩
theorem EqIs.f' {w : World} {e : Nat} {vf vs vb vh vt v' : Value} {E : Rf.Eqn} {ps : List Rf.Part} (h : EqIs w vf vs vb vh vt E) (hB : EqB w e vf vs vb vh vt) (h' : Seen w 101 partCells v' ps) : EqIs (w.setCell ⟨e, 0, none⟩ v') v' vs vb vh vt { E with f := ps } :=
 have k := h.set hB 0 v'
 ⟨h'.setBlk hB (by decide) 0 v', k.s, k.b, k.h, k.t⟩
theorem EqIs.s' {w : World} {e : Nat} {vf vs vb vh vt v' : Value} {E : Rf.Eqn} {ps : List Rf.Part} (h : EqIs w vf vs vb vh vt E) (hB : EqB w e vf vs vb vh vt) (h' : Seen w 101 partCells v' ps) : EqIs (w.setCell ⟨e, 1, none⟩ v') vf v' vb vh vt { E with s := ps } :=
 have k := h.set hB 1 v'
 ⟨k.f, h'.setBlk hB (by decide) 1 v', k.b, k.h, k.t⟩
theorem EqIs.b' {w : World} {e : Nat} {vf vs vb vh vt v' : Value} {E : Rf.Eqn} {ps : List (List Rf.Part)} (h : EqIs w vf vs vb vh vt E) (hB : EqB w e vf vs vb vh vt) (h' : SeenTs w v' ps) : EqIs (w.setCell ⟨e, 2, none⟩ v') vf vs v' vh vt { E with body := ps } :=
 have k := h.set hB 2 v'
 ⟨k.f, k.s, h'.setBlk hB (by decide) (by decide) 2 v', k.h, k.t⟩
theorem EqIs.h' {w : World} {e : Nat} {vf vs vb vh vt v' : Value} {E : Rf.Eqn} {ps : List (List Rf.Part)} (h : EqIs w vf vs vb vh vt E) (hB : EqB w e vf vs vb vh vt) (h' : SeenTs w v' ps) : EqIs (w.setCell ⟨e, 3, none⟩ v') vf vs vb v' vt { E with behind := ps } :=
 have k := h.set hB 3 v'
 ⟨k.f, k.s, k.b, h'.setBlk hB (by decide) (by decide) 3 v', k.t⟩
theorem EqIs.t' {w : World} {e : Nat} {vf vs vb vh vt v' : Value} {E : Rf.Eqn} {ps : List (List Rf.Part)} (h : EqIs w vf vs vb vh vt E) (hB : EqB w e vf vs vb vh vt) (h' : SeenTs w v' ps) : EqIs (w.setCell ⟨e, 4, none⟩ v') vf vs vb vh v' { E with terms := ps } :=
 have k := h.set hB 4 v'
 ⟨k.f, k.s, k.b, k.h, h'.setBlk hB (by decide) (by decide) 4 v'⟩
set_option maxHeartbeats 1000000 in
set_option maxRecDepth 100000 in
theorem pputE_any (v : Int) (w : World) (e : Nat) (E : Rf.Eqn) (h : EqAt w e E) (ho : EqOk E) (a : Option Addr) (nx c : Nat) (x : List Rf.Part) (hx : Seen w 101 partCells (.slice a nx c) x) (hx1 : 1 ≤ x.length) (hx4 : x.length ≤ 400) :
  Calls Tryz.prog 135 #[.pointer (some ⟨e, 0, none⟩), .int .i64 v, .slice a nx c] w fun r w' => r = .returned (.int .i64 (Rf.putE E v x).1) ∧ Kept (fun k => k = e) w w' ∧ ((Rf.putE E v x).1 = 0 → EqAt w' e (Rf.putE E v x).2) := by
 obtain rfl : nx = x.length := hx.len
 have HA : Hid _ := h
 obtain ⟨vf, vs, vb, vh, vt, hB, hE⟩ := h.ex
 obtain ⟨a1, c1, rfl⟩ := hE.f.slice
 obtain ⟨a2, c2, rfl⟩ := hE.s.slice
 obtain ⟨a3, c3, rfl⟩ := hE.b.slice
 obtain ⟨a4, c4, rfl⟩ := hE.h.slice
 obtain ⟨a5, c5, rfl⟩ := hE.t.slice
 obtain ⟨k0, k1, k2, k3, k4, kf, kl⟩ := hB.facts
 have HB : Hid _ := hB
 have HE : Hid _ := hE
 have HO : Hid _ := ho
 have HX : Hid _ := hx
 obtain ⟨n, hn⟩ : ∃ n, x.length = n + 1 := ⟨x.length - 1, by omega⟩
 have Hn : Hid _ := hn
 clear h hB hE ho hx hn
 by_cases hc : 0 < Rf.countV v x
 ·have HP : Hid ((Rf.putE E v x).1 = 8) := by unfold Hid Rf.putE; rw [if_pos hc]
  go_enter Tryz.func135, Tryz.ntmps135
  go_wp2_with (go_at_call 139; refine (pcount_any v _ a _ c x HX.out (by omega)).mono ?_; rintro r w1 ⟨rfl, hb1⟩)
  go_ret
  exact ⟨ret_int HP.out.symm, Kept.of_below hb1 _, fun e => by rw [HP.out] at e; cases e⟩
 ·have hc' : Rf.countV v x = 0 := by omega
  have HC : Hid _ := hc'
  clear hc hc'
  by_cases hbig : 200 < (E.put v x).size
  ·have HP : Hid ((Rf.putE E v x).1 = 7) := by unfold Hid Rf.putE; rw [if_neg (by have := HC.out; omega), if_pos hbig]
   have hbig' : (200 : Int) < (Rf.sizeW v n 0 (Rf.allT E) : Nat) := by have := (Rf.size_big E v x n Hn.out).2 hbig; omega
   clear hbig
   go_enter Tryz.func135, Tryz.ntmps135
   go_wp2_with (first
    | (go_at_call 139; refine (pcount_any v _ a _ c x HX.out (by omega)).mono ?_; rintro r w1 ⟨rfl, hb1⟩; rw [HC.out]; have hA1 : EqAt w1 e E := ⟨_, _, _, _, _, (hb1.block e kl).trans HB.out, HE.out.below hb1⟩)
    | (go_at_call 140; rw [show ((x.length : Nat) : Int) = (n : Int) + 1 from by rw [Hn.out]; rfl]; refine (psizeE_any n v _ e E hA1 HO.out (by have := Hn.out; omega)).mono ?_; rintro r w2 ⟨rfl, hb2⟩))
   go_ret
   exact ⟨ret_int HP.out.symm, Kept.of_below (hb1.trans (hb2.mono hb1.size)) _, fun e => by rw [HP.out] at e; cases e⟩
  ·have HP : Hid (Rf.putE E v x = (0, E.put v x)) := by unfold Hid Rf.putE; rw [if_neg (by have := HC.out; omega), if_neg hbig]
   have hbig' : ¬ (200 : Int) < (Rf.sizeW v n 0 (Rf.allT E) : Nat) := by intro e; exact hbig ((Rf.size_big E v x n Hn.out).1 (by omega))
   have hbig2 : decide ((200 : Int) < (Rf.sizeW v n 0 (Rf.allT E) : Nat)) = false := decide_eq_false hbig'
   clear hbig hbig'
   go_enter Tryz.func135, Tryz.ntmps135
   go_wp2_with (first
    | (go_at_call 139; refine (pcount_any v _ a _ c x HX.out (by omega)).mono ?_; rintro r w1 ⟨rfl, hb1⟩; rw [HC.out]; have hA1 : EqAt w1 e E := ⟨_, _, _, _, _, (hb1.block e kl).trans HB.out, HE.out.below hb1⟩)
    | (go_at_call 140; rw [show ((x.length : Nat) : Int) = (n : Int) + 1 from by rw [Hn.out]; rfl]; refine (psizeE_any n v _ e E hA1 HO.out (by have := Hn.out; omega)).mono ?_; rintro r w2 ⟨rfl, hb2⟩; have hbw2 := hb1.trans (hb2.mono hb1.size); have hB2 : EqB w2 e _ _ _ _ _ := (hbw2.block e kl).trans HB.out; have hE2 := HE.out.below hbw2; obtain ⟨l0, l1, l2, l3, l4, lf, ll⟩ := hB2.facts; have hX2 := HX.out.below hbw2)
    | (go_at_call_of 141 (Value.slice a1 E.f.length c1); refine (pput_any v _ a1 _ c1 E.f hE2.f (by have := HO.out.f; omega) a _ c x hX2 (by omega) hx1).mono ?_; rintro r w3 ⟨b3, n3, d3, rfl, hS3, hb3⟩; have hC3 : EqB w3 e _ _ _ _ _ := (hb3.block e (blk_lt hB2)).trans hB2; have hE3 := EqIs.f' (hE2.below hb3) hC3 hS3; have hB3 := blk_set hC3 0 (Value.slice b3 n3 d3); have hX3 := (hX2.below hb3).setBlk hC3 (by decide) 0 (Value.slice b3 n3 d3); obtain ⟨y0, y1, y2, y3, y4, yf, yl⟩ := EqB.facts hC3; obtain ⟨z0, z1, z2, z3, z4, zf, zl⟩ := EqB.facts hB3)
    | (go_at_call_of 141 (Value.slice a2 E.s.length c2); refine (pput_any v _ a2 _ c2 E.s hE3.s (by have := HO.out.s; omega) a _ c x hX3 (by omega) hx1).mono ?_; rintro r w4 ⟨b4, n4, d4, rfl, hS4, hb4⟩; have hC4 : EqB w4 e _ _ _ _ _ := (hb4.block e (blk_lt hB3)).trans hB3; have hE4 := EqIs.s' (hE3.below hb4) hC4 hS4; have hB4 := blk_set hC4 1 (Value.slice b4 n4 d4); have hX4 := (hX3.below hb4).setBlk hC4 (by decide) 1 (Value.slice b4 n4 d4); obtain ⟨y0, y1, y2, y3, y4, yf, yl⟩ := EqB.facts hC4; obtain ⟨z0, z1, z2, z3, z4, zf, zl⟩ := EqB.facts hB4)
    | (go_at_call_of 142 (Value.slice a3 E.body.length c3); refine (pputAll_any v _ (.slice a3 E.body.length c3) E.body hE4.b (by have := HO.out.b.1; omega) (fun t ht => by have := HO.out.b.2 t ht; omega) a _ c x hX4 (by omega) hx1).mono ?_; rintro r w5 ⟨u5, rfl, hS5, hb5⟩; obtain ⟨b5, d5, hu5⟩ := hS5.slice; rw [List.length_map] at hu5; subst hu5; have hC5 : EqB w5 e _ _ _ _ _ := (hb5.block e (blk_lt hB4)).trans hB4; have hE5 := EqIs.b' (hE4.below hb5) hC5 hS5; have hB5 := blk_set hC5 2 (Value.slice b5 E.body.length d5); have hX5 := (hX4.below hb5).setBlk hC5 (by decide) 2 (Value.slice b5 E.body.length d5); obtain ⟨y0, y1, y2, y3, y4, yf, yl⟩ := EqB.facts hC5; obtain ⟨z0, z1, z2, z3, z4, zf, zl⟩ := EqB.facts hB5)
    | (go_at_call_of 142 (Value.slice a4 E.behind.length c4); refine (pputAll_any v _ (.slice a4 E.behind.length c4) E.behind hE5.h (by have := HO.out.h.1; omega) (fun t ht => by have := HO.out.h.2 t ht; omega) a _ c x hX5 (by omega) hx1).mono ?_; rintro r w6 ⟨u6, rfl, hS6, hb6⟩; obtain ⟨b6, d6, hu6⟩ := hS6.slice; rw [List.length_map] at hu6; subst hu6; have hC6 : EqB w6 e _ _ _ _ _ := (hb6.block e (blk_lt hB5)).trans hB5; have hE6 := EqIs.h' (hE5.below hb6) hC6 hS6; have hB6 := blk_set hC6 3 (Value.slice b6 E.behind.length d6); have hX6 := (hX5.below hb6).setBlk hC6 (by decide) 3 (Value.slice b6 E.behind.length d6); obtain ⟨y0, y1, y2, y3, y4, yf, yl⟩ := EqB.facts hC6; obtain ⟨z0, z1, z2, z3, z4, zf, zl⟩ := EqB.facts hB6)
    | (go_at_call_of 142 (Value.slice a5 E.terms.length c5); refine (pputAll_any v _ (.slice a5 E.terms.length c5) E.terms hE6.t (by have := HO.out.t.1; omega) (fun t ht => by have := HO.out.t.2 t ht; omega) a _ c x hX6 (by omega) hx1).mono ?_; rintro r w7 ⟨u7, rfl, hS7, hb7⟩; obtain ⟨b7, d7, hu7⟩ := hS7.slice; rw [List.length_map] at hu7; subst hu7; have hC7 : EqB w7 e _ _ _ _ _ := (hb7.block e (blk_lt hB6)).trans hB6; have hE7 := EqIs.t' (hE6.below hb7) hC7 hS7; have hB7 := blk_set hC7 4 (Value.slice b7 E.terms.length d7); have hX7 := (hX6.below hb7).setBlk hC7 (by decide) 4 (Value.slice b7 E.terms.length d7); obtain ⟨y0, y1, y2, y3, y4, yf, yl⟩ := EqB.facts hC7; obtain ⟨z0, z1, z2, z3, z4, zf, zl⟩ := EqB.facts hB7))
   go_ret
   have kk : ∀ {p q : World}, Below p.heap.size p q → ∀ i u, Kept (fun k => k = e) p (q.setCell ⟨e, i, none⟩ u) := fun hb i u => Kept.setCell (p := ⟨e, i, none⟩) (Kept.of_below hb (fun k => k = e)) (Or.inr rfl) u
   refine ⟨ret_int (by rw [HP.out]), ?_, fun _ => ⟨_, _, _, _, _, hB7, by rw [HP.out]; exact hE7⟩⟩
   exact (((((Kept.of_below hbw2 (fun k => k = e)).trans (kk hb3 0 _) (fun _ _ h => h)).trans (kk hb4 1 _) (fun _ _ h => h)).trans (kk hb5 2 _) (fun _ _ h => h)).trans (kk hb6 3 _) (fun _ _ h => h)).trans (kk hb7 4 _) (fun _ _ h => h)
end Go.Proofs.YtbiojnljihgpoaaGreatDoor
