
import Derived.Test.YtbiojnljihgpoaaGreatDoorYax
import Derived.Test.YtbiojnljihgpoaaGreatDoorYad
import Derived.OwnWalk
import Derived.Test.YtbiojnljihgpoaaGreatDoorYaq
namespace Rf
theorem renTs_snoc : ∀ (ts : List (List Part)) (ns : List Int) (t : List Part), renTs ns (ts ++ [t]) = ((renTs ns ts).1 ++ [(renT (renTs ns ts).2 t).1], (renT (renTs ns ts).2 t).2)
 | [], ns, t => rfl
 | u :: ts, ns, t => by
  rw [List.cons_append, renTs, renTs_snoc ts (renT ns u).2 t, renTs]
  rfl
theorem renTs_len : ∀ (ts : List (List Part)) (ns : List Int), (∀ t ∈ ts, t.length ≤ 400) → (renTs ns ts).2.length ≤ ns.length + ts.length * 400
 | [], ns, _ => by simp [renTs]
 | t :: ts, ns, h => by
  have h1 := renTs_len ts (renT ns t).2 (fun u hu => h u (List.mem_cons_of_mem _ hu))
  have h2 := (renT_len t ns).2
  have h3 := h t (by simp)
  rw [renTs]
  simp only [List.length_cons]
  omega
end Rf
namespace Go.Proofs.YtbiojnljihgpoaaGreatDoor
open Go.RowKit
theorem NumAt.made {w : World} {g past : Nat} {o : Obj} (h : w.ownsRow 0 3 1 (.slice (some ⟨g, 0, none⟩) past past) past (madeCells (Value.int .i64 0).cells (past * 1)).toList) (hs : past ≤ 1000000) (ho : o = .cells #[.slice (some ⟨g, 0, none⟩) past past, .int .i64 0] 156) : NumAt (w.alloc o) w.heap.size g past [] := by
 subst ho
 rcases h.2 with ⟨h1, _⟩ | ⟨g', cap, cur, h1, _, h3, h4, h5, h6, h7⟩
 ·cases h1
 ·obtain ⟨rfl, rfl⟩ : g = g' ∧ past = cap := by injection h1 with a1 _ a3; injection a1 with a1; injection a1 with a1; exact ⟨a1, a3⟩
  refine ⟨blk_new _ _, ⟨cur, blk_alloc h3 _, by omega, fun v hv => ?_⟩, by have := blk_lt h3; omega, hs⟩
  have h8 : (cur.toList.take (past * 1))[v]? = some (.int .i64 0) := by
   rw [h7]
   simp [madeCells, Value.cells, Nat.mod_one, hv]
  rw [List.getElem?_take, if_pos (by omega)] at h8
  simpa [Rf.numW] using h8
theorem pastTs_bd0 {ts : List (List Rf.Part)} (hv : ∀ t ∈ ts, ∀ p ∈ t, p.kind = 1 → 0 ≤ p.value ∧ p.value < 1000000) : 0 ≤ Rf.pastTs 0 ts ∧ Rf.pastTs 0 ts ≤ 1000000 := by
 have key : ∀ (ts : List (List Rf.Part)) (a : Int), (∀ t ∈ ts, ∀ p ∈ t, p.kind = 1 → 0 ≤ p.value ∧ p.value < 1000000) → 0 ≤ a → a ≤ 1000000 → 0 ≤ Rf.pastTs a ts ∧ Rf.pastTs a ts ≤ 1000000 := by
  intro ts
  induction ts with
  | nil => intro a _ h0 h1; exact ⟨h0, h1⟩
  | cons t ts ih =>
   intro a hv h0 h1
   rw [Rf.pastTs]
   have hp' : 0 ≤ Rf.pastT t ∧ Rf.pastT t ≤ 1000000 := pastN_bd (hv t (by simp)) (a := 0) (by omega) (by omega)
   refine ih _ (fun q hq => hv q (List.mem_cons_of_mem _ hq)) ?_ ?_
   ·unfold Rf.maxI; split <;> omega
   ·unfold Rf.maxI; split <;> omega
 exact key ts 0 hv (by omega) (by omega)
theorem TermsAt.keptN {base : Nat} {w w' : World} {v : Value} {acc : List (SlV × List Rf.Part)} {nb g past : Nat} {ns : List Int} (h : TermsAt base w v acc) (hk : Kept (fun k => k = nb ∨ k = g) w w') (hN : NumAt w nb g past ns) (h1 : nb < base) (h2 : g < base) : TermsAt base w' v acc :=
 ⟨h.row.keptBy hk (fun k e he => by have := (h.row.lt k e).1; rcases he with rfl | rfl <;> omega), fun q hq => (h.each q hq).kept hk hN.types⟩
set_option maxHeartbeats 2000000 in
set_option maxRecDepth 100000 in
theorem pRenumber_any (w : World) (vt : Value) (ts : List (List Rf.Part)) (h : SeenTs w vt ts) (hl : ts.length ≤ 20000) (hl1 : ∀ t ∈ ts, t.length ≤ 400) (hv : ∀ t ∈ ts, ∀ p ∈ t, p.kind = 1 → 0 ≤ p.value ∧ p.value < 1000000) :
  Calls Tryz.prog 94 #[vt] w fun r w' => ∃ a3 n3 c3, r = .returned (.tuple #[.slice a3 n3 c3, .int .i64 ((Rf.renTs [] ts).2.length : Nat)]) ∧ SeenTs w' (.slice a3 n3 c3) (Rf.renTs [] ts).1 ∧ Below w.heap.size w w' := by
 obtain ⟨acc, hT, hE, rfl⟩ := h.ex
 obtain ⟨a, c, rfl⟩ := hT.slice
 rw [List.length_map] at hl
 have hE1 : ∀ q ∈ acc, Seen w 101 partCells (slv q.1) q.2 ∧ q.2.length ≤ 400 ∧ (∀ p ∈ q.2, p.kind = 1 → 0 ≤ p.value ∧ p.value < 1000000) ∧ (∀ p ∈ q.2, p.kind = 1 → p.value < Rf.pastTs 0 (acc.map (·.2))) := fun q hq => ⟨hE q hq, hl1 q.2 (List.mem_map_of_mem hq), hv q.2 (List.mem_map_of_mem hq), fun p hp hk => Rf.pastTs_mem (List.mem_map_of_mem hq) hp hk⟩
 have hpb := pastTs_bd0 hv
 have HT : Hid _ := hT
 have HE : Hid _ := hE1
 have HL : Hid _ := hl1
 clear h hT hE hl1 hE1 hv
 rw [List.length_map]
 obtain ⟨P, hP⟩ : ∃ P : Nat, Hid (Rf.pastTs 0 (acc.map (·.2)) = P) := ⟨(Rf.pastTs 0 (acc.map (·.2))).toNat, by unfold Hid; omega⟩
 have hP1 : P ≤ 1000000 := by have := hP.out; omega
 clear hpb
 go_enter Tryz.func94, Tryz.ntmps94
 go_wp2_with fail
 go_loopw [4, 14] (fun mv iv wr => ∃ (k : Nat) (m : Int), k ≤ acc.length ∧ iv = .int .i64 k ∧ mv = .int .i64 m ∧ 0 ≤ m ∧ m ≤ 1000000 ∧ Below w.heap.size w wr ∧ Hid (Rf.pastTs 0 (acc.map (·.2)) = Rf.pastTs m ((acc.drop k).map (·.2)))) (fun _ iv _ => acc.length - (intOf iv).toNat)
 case atStart => exact ⟨0, 0, by omega, rfl, rfl, by omega, by omega, Below.refl _ _, rfl⟩
 case round =>
  obtain ⟨k, m, hk, rfl, rfl, hm1, hm2, hbr, hinv⟩ := hrel
  have hsz := hbr.size
  by_cases hlt : k < acc.length
  ·obtain ⟨g, off, rfl⟩ := HT.out.pos (by simp; omega)
   have hgl := HT.out.lt
   have hmem : acc[k] ∈ acc := List.getElem_mem hlt
   have hcell := Seen.termAt (HT.out.below hbr) k acc[k].1 (by simp [hlt])
   obtain ⟨hS, hSl, hSv, _⟩ := HE.out _ hmem
   have hdrop : acc.drop k = acc[k] :: acc.drop (k + 1) := List.drop_eq_getElem_cons hlt
   rw [hdrop, List.map_cons, Rf.pastTs] at hinv
   clear hmem hdrop
   generalize acc[k] = q at *
   obtain ⟨⟨qa, qn, qc⟩, qp⟩ := q
   simp only at hcell hSl hSv hinv
   have HS : Hid (Seen w 101 partCells (.slice qa qn qc) qp) := hS
   have HSv : Hid _ := hSv
   have hqb1 : 0 ≤ Rf.pastT qp ∧ Rf.pastT qp ≤ 1000000 := pastN_bd hSv (a := 0) (by omega) (by omega)
   clear hS hSv
   have hgl' : g < wr.heap.size := by omega
   have hlt' : (k : Int) < acc.length := by omega
   go_wp2_with (first
    | (go_at_call 117; refine (ppastT_any _ qa qn qc qp (HS.out.below hbr) (by omega) HSv.out).mono ?_; rintro r w2 ⟨rfl, hb2⟩)
    | (go_at_call 116; refine (pgreater_any m (Rf.pastT qp) _).mono ?_; rintro r w3 ⟨rfl, hw3⟩; subst w3))
   go_roundw
   case rel => exact ⟨k + 1, Rf.maxI m (Rf.pastT qp), by omega, by go_num, rfl, (by unfold Rf.maxI; split <;> omega), (by unfold Rf.maxI; split <;> omega), hbr.trans (hb2.mono hsz), hinv⟩
   case measure => simp [intOf]; omega
  ·obtain rfl : k = acc.length := by omega
   have hmP : m = (P : Nat) := by have h9 := hinv.out; rw [List.drop_length, hP.out] at h9; exact h9.symm
   subst hmP
   clear hinv hm1 hm2
   have HI : Hid _ := info_parts Tryz.elemInt.2.1
   have hzr : w.heap.size ≤ wr.heap.size := hsz
   go_wp2_with (at_make; obtain ⟨iI, hi1, hi2, hi3, hi4⟩ := HI.out; refine wpList_make_full _ rfl (.tmp 23) (.tmp 23) 77 rfl 0 3 iI (.int .i64 0) 1 Tryz.elemInt.1 hi1 hi2 hi3 .i64 .i64 P P P rfl rfl rfl rfl (by rw [hi4]; omega) (by unfold maxLen; omega) (Nat.zero_le _) ?_; intro w2 hown2 hgr2; clear hi1 hi2 hi3 hi4)
   have hN2 := NumAt.made (o := .cells #[.slice (some ⟨wr.heap.size, 0, none⟩) P P, .int .i64 0] 156) hown2 hP1 rfl
   have hb2 : Below w.heap.size w w2 := hbr.grown hgr2 hsz (fun k e => by cases e)
   have hz2 : wr.heap.size + 1 ≤ w2.heap.size := by have := hN2.lt.2; simp at this; obtain ⟨cur, hc, _⟩ := hN2.r; have h9 := hN2.ne; omega
   have hW2 : Below w.heap.size w (w2.alloc (.cells #[.slice (some ⟨wr.heap.size, 0, none⟩) P P, .int .i64 0] 156)) := hb2.alloc hb2.size _
   obtain ⟨wo, rfl⟩ : ∃ wo : World, wo = wr := ⟨_, rfl⟩
   have HN2 : Hid _ := hN2
   have HW2 : Hid _ := hW2
   clear hown2 hgr2
   go_loopw [8, 28] (fun lv iv wx => ∃ (k : Nat) (acc2 : List (SlV × List Rf.Part)), k ≤ acc.length ∧ iv = .int .i64 k ∧ TermsAt (w2.heap.size + 1) wx lv acc2 ∧ acc2.length = k ∧ Hid (acc2.map (·.2) = (Rf.renTs [] ((acc.take k).map (·.2))).1) ∧ NumAt wx w2.heap.size wo.heap.size P (Rf.renTs [] ((acc.take k).map (·.2))).2 ∧ Kept (fun k => k = w2.heap.size ∨ k = wo.heap.size) (w2.alloc (.cells #[.slice (some ⟨wo.heap.size, 0, none⟩) P P, .int .i64 0] 156)) wx) (fun _ iv _ => acc.length - (intOf iv).toNat)
   case atStart => exact ⟨0, [], by omega, rfl, TermsAt.nil _ _, rfl, rfl, hN2, Kept.refl _ _⟩
   case round =>
    obtain ⟨k, acc2, hk2, rfl, hA, hka, hinv, hN1, hkp⟩ := hrel
    obtain rfl := hka
    clear hN2 hW2
    have hsz1 := hkp.size
    simp at hsz1
    obtain ⟨a4, c4, hv4⟩ := row_slice hA.row
    rw [List.length_map] at hv4
    subst hv4
    have hns := Rf.renTs_len ((acc.take acc2.length).map (·.2)) [] (fun t ht => by
     obtain ⟨q, hq, rfl⟩ := List.mem_map.1 ht
     exact HL.out _ (List.mem_map_of_mem (List.mem_of_mem_take hq)))
    have hns2 : (Rf.renTs [] ((acc.take acc2.length).map (·.2))).2.length ≤ 900000000 := by
     simp only [List.length_nil, List.length_map, List.length_take, Nat.zero_add] at hns
     have : min acc2.length acc.length * 400 ≤ 20000 * 400 := Nat.mul_le_mul_right _ (by omega)
     omega
    clear hns
    by_cases hlt2 : acc2.length < acc.length
    ·obtain ⟨g, off, rfl⟩ := HT.out.pos (by simp; omega)
     have hgl := HT.out.lt
     have hmem : acc[acc2.length] ∈ acc := List.getElem_mem hlt2
     have hcell := Seen.termAt ((HT.out.below HW2.out).kept hkp HN2.out.typesT) acc2.length acc[acc2.length].1 (by simp [hlt2])
     obtain ⟨hS, hSl, hSv, hSp⟩ := HE.out _ hmem
     have hsn : Hid (Rf.renTs [] ((acc.take (acc2.length + 1)).map (·.2)) = ((Rf.renTs [] ((acc.take acc2.length).map (·.2))).1 ++ [(Rf.renT (Rf.renTs [] ((acc.take acc2.length).map (·.2))).2 acc[acc2.length].2).1], (Rf.renT (Rf.renTs [] ((acc.take acc2.length).map (·.2))).2 acc[acc2.length].2).2)) := by unfold Hid; rw [List.take_succ_eq_append_getElem hlt2, List.map_append]; exact Rf.renTs_snoc _ _ _
     clear hmem
     generalize acc[acc2.length] = q at *
     obtain ⟨⟨qa, qn, qc⟩, qp⟩ := q
     simp only at hcell hSl hSv hSp hsn
     obtain ⟨nn, hnn⟩ : ∃ nn, Hid (nn = (Rf.renTs [] ((acc.take acc2.length).map (·.2))).2) := ⟨_, rfl⟩
     rw [← hnn.out] at hsn hN1 hns2
     have HS : Hid (Seen wr 101 partCells (.slice qa qn qc) qp) := Seen.kept (Seen.below hS HW2.out) hkp HN2.out.types
     have HSv : Hid (∀ p ∈ qp, p.kind = 1 → 0 ≤ p.value ∧ p.value < P) := fun p hp hk => ⟨(hSv p hp hk).1, by have := hSp p hp hk; rw [hP.out] at this; exact this⟩
     clear hS hSv hSp
     have hgl' : g < wr.heap.size := by omega
     have hlt' : (acc2.length : Int) < acc.length := by omega
     have hnb : ¬ (w2.heap.size + 1 ≤ w2.heap.size) := by omega
     go_wp2_with (first
      | (go_at_call 118; refine (prenumber_any _ w2.heap.size wo.heap.size P nn qa qn qc qp hN1 HS.out (by omega) HSv.out hns2).mono ?_; rintro r w3 ⟨a3, n3, c3, rfl, hS3, hN3, hk3⟩; have hz3 := hk3.size; have hA3 := TermsAt.keptN hA hk3 hN1 (by omega) (by omega))
      | (at_builtin; refine wpList_app Tryz.elemTerms slCells slCells_len slCells_one _ rfl (.tmp 34) (.tmp 36) rfl (w2.heap.size + 1) (.slice a4 acc2.length c4) _ rfl (hA3.row.alloc _) ⟨_, 0, none⟩ 1 ⟨a3, n3, c3⟩ rfl (cell_one_at _ _ rfl _ _) (by rw [List.length_map]; omega) (by rw [World.size_alloc]; omega) ?_; intro gA capA w4 hrow4 hgr4 hnb4; rw [List.length_map] at hrow4))
     go_roundw
     case rel =>
      refine ⟨acc2.length + 1, acc2 ++ [(⟨a3, n3, c3⟩, (Rf.renT nn qp).1)], by omega, by go_num, TermsAt.app (hA3.below ((Below.refl _ w3).alloc (Nat.le_refl _) _)) (x := ⟨a3, n3, c3⟩) (Seen.alloc hS3 _) hgr4 hrow4, by simp, ?_, ?_, ?_⟩
      ·unfold Hid; rw [hsn.out, List.map_append, hinv.out]; rfl
      ·rw [hsn.out]
       exact (hN3.below ((Below.refl _ w3).alloc (Nat.le_refl _) _)).kept (M := fun k => (Value.slice a4 acc2.length c4).ownBlock = some k) ⟨hgr4.os, hgr4.tape, hgr4.output, hgr4.size, fun j hj hr => hgr4.block j hj (fun e => hr e.symm)⟩ (fun e => by have := (hA.row.lt _ e).1; omega) (fun e => by have := (hA.row.lt _ e).1; omega)
      ·exact ((hkp.trans hk3 (fun _ _ h => h)).alloc _).grown hgr4 (fun j e => .inl (by have := (hA.row.lt j e).1; simpa using this))
     case measure => simp [intOf]; omega
    ·have hend : acc2.length = acc.length := by omega
     have hinv2 : Hid (acc2.map (·.2) = (Rf.renTs [] (acc.map (·.2))).1) := by have h9 := hinv.out; rw [hend, List.take_length] at h9; exact h9
     have hN9 : NumAt wr w2.heap.size wo.heap.size P (Rf.renTs [] (acc.map (·.2))).2 := by have h9 := hN1; rw [hend, List.take_length] at h9; exact h9
     have n1 := blk_cell hN9.n 1
     simp at n1
     have hend' : ¬ ((acc2.length : Int) < acc.length) := by omega
     have hnl := hN9.lt.1
     clear hend hN1 hns2
     go_wp2_with fail
     go_quiet (fail)
     go_wp2_with fail
     go_ret2
     refine ⟨a4, _, c4, rfl, ?_, ?_⟩
     ·have h9 := hA.seen
      rw [hinv2.out] at h9
      exact h9.below ((Below.refl _ wr).drewN _)
     ·exact (HW2.out.trans (hkp.below (by simp; omega) (fun k hk e => by omega))).drewN _
end Go.Proofs.YtbiojnljihgpoaaGreatDoor
namespace Go.Proofs.YtbiojnljihgpoaaGreatDoor
open Go.RowKit
variable {nm : Value}
structure ChV where
 g : SlV
 t : SlV
 f : Int
 c : SlV
def chCells (x : ChV) : List Value := [.slice x.g.a x.g.n x.g.c, .slice x.t.a x.t.n x.t.c, .int .i64 x.f, .slice x.c.a x.c.n x.c.c]
theorem chCells_len (s : ChV) : (chCells s).length = 4 := rfl
theorem chCells_one (s : ChV) : ∀ u ∈ chCells s, u.oneCell' = true := by
 intro u hu
 simp only [chCells, List.mem_cons, List.not_mem_nil, or_false] at hu
 rcases hu with rfl | rfl | rfl | rfl <;> rfl
theorem Tryz.elemCh : ElemOk Tryz.prog 74 79 4 80 (.agg #[.slice none 0 0, .slice none 0 0, .int .i64 0, .slice none 0 0]) := ⟨Tryz.underlying74, by kernel_rfl, rfl, by decide, by decide⟩
structure ChIs (w : World) (x : ChV) (c : Rf.Ch) : Prop where
 st : StIs w (slv x.g) (slv x.t) x.f c.st
 cl : Seen w 3 natCells (slv x.c) c.cls
theorem ChIs.below {w w' : World} {x : ChV} {c : Rf.Ch} (h : ChIs w x c) (hb : Below w.heap.size w w') : ChIs w' x c := ⟨h.st.below hb, h.cl.below hb⟩
def QB (w : World) (q : Nat) (vN vg vt : Value) (fr : Int) (vC : Value) : Prop := w.heap[q]? = some (.cells #[vN, vg, vt, .int .i64 fr, vC] 76 (0, 0))
structure ChsAt (w : World) (v : Value) (chs : List Rf.Ch) : Prop where
 ex : ∃ acc : List (ChV × Rf.Ch), RowIs w 0 79 4 chCells v (acc.map (·.1)) ∧ (∀ x ∈ acc, ChIs w x.1 x.2) ∧ acc.map (·.2) = chs.reverse
structure QIs (w : World) (q : Nat) (rb : Option Nat) (vN vg vt : Value) (fr : Int) (vC : Value) (names : List ByteArray) (cf : Rf.Cf) : Prop where
 b : QB w q vN vg vt fr vC
 n : Seen w 9 strCells vN names
 s : StIs w vg vt fr cf.now
 r : ChsAt w vC cf.chs
 o : vC.ownBlock = rb
structure QAt (nm : Value) (w : World) (q : Nat) (rb : Option Nat) (names : List ByteArray) (cf : Rf.Cf) : Prop where
 ex : ∃ vg vt fr vC, QIs w q rb nm vg vt fr vC names cf
theorem QIs.at {w : World} {q : Nat} {rb : Option Nat} {vN vg vt vC : Value} {fr : Int} {names : List ByteArray} {cf : Rf.Cf} (h : QIs w q rb vN vg vt fr vC names cf) : QAt vN w q rb names cf := ⟨_, _, _, _, h⟩
theorem QIs.types {w : World} {q : Nat} {rb : Option Nat} {vN vg vt vC : Value} {fr : Int} {names : List ByteArray} {cf : Rf.Cf} (h : QIs w q rb vN vg vt fr vC names cf) {t : TypeId} (h1 : t ≠ 76) (h2 : t ≠ 79) : ∀ k cs, w.heap[k]? = some (.cells cs t (0, 0)) → ¬ May q rb k := by
 intro k cs hc hm
 rcases hm with rfl | hm
 ·have hb := h.b
  unfold QB at hb
  rw [hb] at hc
  injection hc with h3; injection h3 with _ h4
  exact h1 h4.symm
 ·obtain ⟨acc, hr, _, _⟩ := h.r.ex
  obtain ⟨cs', hc'⟩ := hr.typed k (h.o.trans hm.symm)
  rw [hc'] at hc
  injection hc with h3; injection h3 with _ h4
  exact h2 h4.symm
theorem SeenTs.keptM {w w' : World} {M : Nat → Prop} {v : Value} {ts : List (List Rf.Part)} (h : SeenTs w v ts) (hk : Kept M w w') (h1 : ∀ k cs, w.heap[k]? = some (.cells cs 101 (0, 0)) → ¬ M k) (h2 : ∀ k cs, w.heap[k]? = some (.cells cs 56 (0, 0)) → ¬ M k) : SeenTs w' v ts := by
 obtain ⟨acc, a1, a2, a3⟩ := h.ex
 exact ⟨acc, a1.kept hk h2, fun q hq => (a2 q hq).kept hk h1, a3⟩
structure Free (w : World) (M : Nat → Prop) : Prop where
 p : ∀ k cs, w.heap[k]? = some (.cells cs 101 (0, 0)) → ¬ M k
 t : ∀ k cs, w.heap[k]? = some (.cells cs 56 (0, 0)) → ¬ M k
 i : ∀ k cs, w.heap[k]? = some (.cells cs 3 (0, 0)) → ¬ M k
 s : ∀ k cs, w.heap[k]? = some (.cells cs 9 (0, 0)) → ¬ M k
 c : ∀ k cs, w.heap[k]? = some (.cells cs 59 (0, 0)) → ¬ M k
theorem QIs.free {w : World} {q : Nat} {rb : Option Nat} {vN vg vt vC : Value} {fr : Int} {names : List ByteArray} {cf : Rf.Cf} (h : QIs w q rb vN vg vt fr vC names cf) : Free w (May q rb) :=
 ⟨h.types (by decide) (by decide), h.types (by decide) (by decide), h.types (by decide) (by decide), h.types (by decide) (by decide), h.types (by decide) (by decide)⟩
theorem Free.none (w : World) : Free w (fun _ => False) := ⟨fun _ _ _ h => h, fun _ _ _ h => h, fun _ _ _ h => h, fun _ _ _ h => h, fun _ _ _ h => h⟩
theorem StIs.kept {w w' : World} {M : Nat → Prop} {vg vt : Value} {fr : Int} {S : Rf.St} (h : StIs w vg vt fr S) (hk : Kept M w w') (hf : Free w M) : StIs w' vg vt fr S := ⟨h.g.keptM hk hf.p hf.t, h.t.keptM hk hf.p hf.t, h.f⟩
theorem ChIs.kept {w w' : World} {M : Nat → Prop} {x : ChV} {c : Rf.Ch} (h : ChIs w x c) (hk : Kept M w w') (hf : Free w M) : ChIs w' x c := ⟨h.st.kept hk hf, Seen.kept h.cl hk hf.i⟩
theorem ChsAt.kept {w w' : World} {M : Nat → Prop} {v : Value} {chs : List Rf.Ch} (h : ChsAt w v chs) (hk : Kept M w w') (hf : Free w M) (hv : ∀ k, v.ownBlock = some k → ¬ M k) : ChsAt w' v chs := by
 obtain ⟨acc, h1, h2, h3⟩ := h.ex
 exact ⟨acc, h1.keptBy hk hv, fun x hx => (h2 x hx).kept hk hf, h3⟩
theorem QIs.keptM {w w' : World} {M : Nat → Prop} {q : Nat} {rb : Option Nat} {vN vg vt vC : Value} {fr : Int} {names : List ByteArray} {cf : Rf.Cf} (h : QIs w q rb vN vg vt fr vC names cf) (hk : Kept M w w') (hf : Free w M) (hq : ¬ M q) (hr : ∀ k, rb = some k → ¬ M k) : QIs w' q rb vN vg vt fr vC names cf :=
 ⟨(hk.block q (blk_lt h.b) hq).trans h.b, Seen.kept h.n hk hf.s, h.s.kept hk hf, h.r.kept hk hf (fun k e => hr k (h.o.symm.trans e)), h.o⟩
theorem QIs.below {w w' : World} {q : Nat} {rb : Option Nat} {vN vg vt vC : Value} {fr : Int} {names : List ByteArray} {cf : Rf.Cf} (h : QIs w q rb vN vg vt fr vC names cf) (hb : Below w.heap.size w w') : QIs w' q rb vN vg vt fr vC names cf :=
 h.keptM (Kept.of_below hb (fun _ => False)) (Free.none w) (fun e => e) (fun _ _ e => e)
theorem QAt.below {w w' : World} {q : Nat} {rb : Option Nat} {names : List ByteArray} {cf : Rf.Cf} (h : QAt nm w q rb names cf) (hb : Below w.heap.size w w') : QAt nm w' q rb names cf := by
 obtain ⟨_, _, _, _, h⟩ := h.ex
 exact (h.below hb).at
theorem QB.facts {w : World} {q : Nat} {vN vg vt vC : Value} {fr : Int} (h : QB w q vN vg vt fr vC) : w.cell? ⟨q, 0, none⟩ = some vN ∧ w.cell? ⟨q, 1, none⟩ = some vg ∧ w.cell? ⟨q, 2, none⟩ = some vt ∧ w.cell? ⟨q, 3, none⟩ = some (.int .i64 fr) ∧ w.cell? ⟨q, 4, none⟩ = some vC ∧ (∀ i, w.frozen? ⟨q, i, none⟩ = false) ∧ q < w.heap.size :=
 ⟨blk_cell h 0, blk_cell h 1, blk_cell h 2, blk_cell h 3, blk_cell h 4, blk_frozen h, blk_lt h⟩
structure SeenCls (w : World) (v : Value) (cls : List Rf.Cl) : Prop where
 ex : ∃ acc : List (PClV × Rf.Cl), Seen w 59 pclCells v (acc.map (·.1)) ∧ (∀ x ∈ acc, SeenCl w x.1.h x.1.b x.2) ∧ cls = acc.map (·.2)
theorem SeenCl.kept {w w' : World} {M : Nat → Prop} {hx bx : SlV} {cl : Rf.Cl} (h : SeenCl w hx bx cl) (hk : Kept M w w') (hf : Free w M) : SeenCl w' hx bx cl := ⟨Seen.kept h.head hk hf.p, h.body.keptM hk hf.p hf.t⟩
theorem SeenCls.kept {w w' : World} {M : Nat → Prop} {v : Value} {cls : List Rf.Cl} (h : SeenCls w v cls) (hk : Kept M w w') (hf : Free w M) : SeenCls w' v cls := by
 obtain ⟨acc, h1, h2, h3⟩ := h.ex
 exact ⟨acc, h1.kept hk hf.c, fun x hx => (h2 x hx).kept hk hf, h3⟩
theorem SeenCls.below {w w' : World} {v : Value} {cls : List Rf.Cl} (h : SeenCls w v cls) (hb : Below w.heap.size w w') : SeenCls w' v cls := h.kept (Kept.of_below hb (fun _ => False)) (Free.none w)
theorem SeenCls.slice {w : World} {v : Value} {cls : List Rf.Cl} (h : SeenCls w v cls) : ∃ a c, v = .slice a cls.length c := by
 obtain ⟨acc, h1, _, rfl⟩ := h.ex
 obtain ⟨a, c, e⟩ := h1.slice
 exact ⟨a, c, by rw [e, List.length_map, List.length_map]⟩
theorem StG.ok {N : Nat} {S : Rf.St} {F : Int} (h : Rf.StG N F S) (hF : F ≤ 1000000) : StOk S N :=
 ⟨h.gl, fun t ht => ⟨(h.g t ht).1, fun p hp => ((h.g t ht).2 p hp).1⟩, h.tl, fun t ht => ⟨(h.t t ht).1, fun p hp => ((h.t t ht).2 p hp).1⟩, h.f0, by have := h.f1; omega⟩
theorem ClG.ok {c : Rf.Cl} (h : Rf.ClG c) : ClGood c :=
 ⟨⟨h.hd.1, fun p hp hk => (h.hd.2 p hp).2.1 hk, h.bl, fun t ht => ⟨(h.bd t ht).1, fun p hp hk => ((h.bd t ht).2 p hp).2.1 hk⟩⟩, fun p hp => (h.hd.2 p hp).1, fun t ht p hp => ((h.bd t ht).2 p hp).1⟩
end Go.Proofs.YtbiojnljihgpoaaGreatDoor
namespace Go.Proofs.YtbiojnljihgpoaaGreatDoor
open Go.RowKit
def LdB (w : World) (lb b : Nat) (L : Rf.Ldr) : Prop := w.heap[lb]? = some (.cells #[.pointer (some ⟨b, 0, none⟩), .int .i64 L.fresh, .int .i64 L.height] 112 (0, 0))
structure LdAt (w : World) (lb b : Nat) (L : Rf.Ldr) : Prop where
 l : LdB w lb b L
 r : RdB w b L.r
 ok : Rf.RdrOk L.r
def LdM (lb b k : Nat) : Prop := k = b ∨ k = lb
theorem LdB.facts {w : World} {lb b : Nat} {L : Rf.Ldr} (h : LdB w lb b L) : w.cell? ⟨lb, 0, none⟩ = some (.pointer (some ⟨b, 0, none⟩)) ∧ w.cell? ⟨lb, 1, none⟩ = some (.int .i64 L.fresh) ∧ w.cell? ⟨lb, 2, none⟩ = some (.int .i64 L.height) ∧ (∀ i, w.frozen? ⟨lb, i, none⟩ = false) ∧ lb < w.heap.size :=
 ⟨blk_cell h 0, blk_cell h 1, blk_cell h 2, blk_frozen h, blk_lt h⟩
theorem LdAt.ne {w : World} {lb b : Nat} {L : Rf.Ldr} (h : LdAt w lb b L) : lb ≠ b := by
 intro e
 have h1 := h.l
 have h2 := h.r
 unfold LdB at h1
 unfold RdB at h2
 rw [e, h2] at h1
 injection h1 with h3; injection h3 with _ h4
 exact absurd h4 (by decide)
theorem LdAt.below {w w' : World} {lb b : Nat} {L : Rf.Ldr} (h : LdAt w lb b L) (hb : Below w.heap.size w w') : LdAt w' lb b L := ⟨(hb.block lb (blk_lt h.l)).trans h.l, h.r.below hb, h.ok⟩
theorem LdAt.kept {M : Nat → Prop} {w w' : World} {lb b : Nat} {L : Rf.Ldr} (h : LdAt w lb b L) (hk : Kept M w w') (h1 : ¬ M lb) (h2 : ¬ M b) : LdAt w' lb b L := ⟨(hk.block lb (blk_lt h.l) h1).trans h.l, h.r.kept hk h2, h.ok⟩
theorem keep4 (w : World) (G : Nat) (a b c d : Value) : Kept (fun k => k = G) w ((((w.setCell ⟨G, 0, none⟩ a).setCell ⟨G, 1, none⟩ b).setCell ⟨G, 2, none⟩ c).setCell ⟨G, 3, none⟩ d) :=
 ((((Kept.refl (fun k => k = G) w).setCell (p := ⟨G, 0, none⟩) (.inr rfl) a).setCell (p := ⟨G, 1, none⟩) (.inr rfl) b).setCell (p := ⟨G, 2, none⟩) (.inr rfl) c).setCell (p := ⟨G, 3, none⟩) (.inr rfl) d
theorem LdAt.go {w w' : World} {lb b : Nat} {L : Rf.Ldr} {r : Rf.Rdr} (h : LdAt w lb b L) (hk : Kept (fun k => k = b) w w') (hr : RdB w' b r) (ho : Rf.RdrOk r) : LdAt w' lb b ⟨r, L.fresh, L.height⟩ := ⟨(hk.block lb (blk_lt h.l) h.ne).trans h.l, hr, ho⟩
theorem LdM.of {lb b : Nat} {w w' : World} (h : Kept (fun k => k = b) w w') : Kept (LdM lb b) w w' := h.mono (fun _ _ e => .inl e)
theorem LdM.free {w : World} {lb b : Nat} {L : Rf.Ldr} (h : LdAt w lb b L) : Free w (LdM lb b) := by
 have key : ∀ t : TypeId, t ≠ 112 → t ≠ 109 → ∀ k cs', w.heap[k]? = some (.cells cs' t (0, 0)) → ¬ LdM lb b k := by
  intro t ht ht2 k cs' hc e
  rcases e with e | e
  ·subst e
   have h2 := h.r
   unfold RdB at h2
   rw [h2] at hc
   injection hc with h3; injection h3 with _ h4
   exact ht2 h4.symm
  ·subst e
   have h2 := h.l
   unfold LdB at h2
   rw [h2] at hc
   injection hc with h3; injection h3 with _ h4
   exact ht h4.symm
 exact ⟨key _ (by decide) (by decide), key _ (by decide) (by decide), key _ (by decide) (by decide), key _ (by decide) (by decide), key _ (by decide) (by decide)⟩
set_option maxHeartbeats 2000000 in
set_option maxRecDepth 100000 in
theorem pvar_any (w : World) (lb b : Nat) (L : Rf.Ldr) (h : LdAt w lb b L) (hf : L.fresh ≤ 1000000000) :
  Calls Tryz.prog 131 #[.pointer (some ⟨lb, 0, none⟩)] w fun x w' => x = .returned (.int .i64 ((Rf.varL L).1 : Int)) ∧ LdAt w' lb b (Rf.varL L).2 ∧ Kept (LdM lb b) w w' := by
 obtain ⟨q0, q1, q2, qf, ql⟩ := h.l.facts
 have H : Hid _ := h
 have hn0 := Rf.numL_le L.fresh L.r
 have hno := Rf.numL_ok L.fresh L.r
 obtain ⟨n, hn⟩ : ∃ n, Hid (n = (Rf.numL L.fresh L.r).1) := ⟨_, rfl⟩
 obtain ⟨R, hR⟩ : ∃ R, Hid (R = (Rf.numL L.fresh L.r).2) := ⟨_, rfl⟩
 rw [← hn.out] at hn0
 rw [← hR.out] at hno
 have HO : Hid (Rf.RdrOk R) := hno
 have hV : Hid (Rf.varL L = (n, ⟨R, if n = L.fresh then L.fresh + 1 else L.fresh, L.height⟩)) := by unfold Hid Rf.varL; rw [hn.out, hR.out]
 clear h hno
 by_cases hc : n = L.fresh
 ·rw [if_pos hc] at hV
  have hci : ((n : Int) == (L.fresh : Int)) = true := by rw [hc]; simp
  go_enter Tryz.func131, Tryz.ntmps131
  go_wp2_with fail
  go_region_with (go_at_call 40; refine (pnumL_any _ b L.r L.fresh (H.out.r.below (by repeat(first|exact bel0 _ _|refine bel1 ?_ (by simp<;>omega) _|refine bel2 ?_|refine bel3 ?_ _|refine bel4 ?_ (by simp<;>omega) _))) H.out.ok (by omega)).mono ?_; rintro x w1 ⟨hx1, hR1, hk1⟩; rw [← hn.out] at hx1; subst hx1; rw [← hR.out] at hR1)
  all_goals
   have hL1 := LdAt.go (H.out.below (by repeat(first|exact bel0 _ _|refine bel1 ?_ (by simp<;>omega) _|refine bel2 ?_|refine bel3 ?_ _|refine bel4 ?_ (by simp<;>omega) _))) hk1 hR1 HO.out
   obtain ⟨p0, p1, p2, pf, pl⟩ := hL1.l.facts
   simp only at p0 p1 p2
   have HL1 : Hid _ := hL1
   have HK1 : Hid (Kept (fun k => k = b) w w1) := Kept.trans (M' := fun k => k = b) (by repeat' (first | exact Kept.refl _ _ | refine Kept.setCell ?_ ?_ _ | refine Kept.drew ?_ | refine Kept.drewN ?_ _ | refine Kept.alloc ?_ _ | exact Or.inr rfl | exact Or.inr (Or.inl rfl) | (refine Or.inl ?_; simp; done) | (refine Or.inl ?_; simp; omega))) hk1 (fun _ _ e => e)
   clear hL1 hk1
   go_wp2_with fail
   go_ret
   rw [hV.out]
   refine ⟨ret_int (by show (L.fresh : Int) = (n : Int); omega), ⟨?_, HL1.out.r.kept ((Kept.refl (fun k => k = lb) w1).setCell (p := ⟨lb, 1, none⟩) (.inr rfl) _) (fun e => HL1.out.ne e.symm), HO.out⟩, (LdM.of HK1.out).setCell (p := ⟨lb, 1, none⟩) (.inr (.inr rfl)) _⟩
   have := blk_set HL1.out.l 1 (.int .i64 ((L.fresh : Int) + 1))
   simpa [LdB] using this
 ·rw [if_neg hc] at hV
  have hci : ((n : Int) == (L.fresh : Int)) = false := beq_eq_false_iff_ne.2 (by omega)
  go_enter Tryz.func131, Tryz.ntmps131
  go_wp2_with fail
  go_region_with (go_at_call 40; refine (pnumL_any _ b L.r L.fresh (H.out.r.below (by repeat(first|exact bel0 _ _|refine bel1 ?_ (by simp<;>omega) _|refine bel2 ?_|refine bel3 ?_ _|refine bel4 ?_ (by simp<;>omega) _))) H.out.ok (by omega)).mono ?_; rintro x w1 ⟨hx1, hR1, hk1⟩; rw [← hn.out] at hx1; subst hx1; rw [← hR.out] at hR1)
  all_goals
   have hL1 := LdAt.go (H.out.below (by repeat(first|exact bel0 _ _|refine bel1 ?_ (by simp<;>omega) _|refine bel2 ?_|refine bel3 ?_ _|refine bel4 ?_ (by simp<;>omega) _))) hk1 hR1 HO.out
   obtain ⟨p0, p1, p2, pf, pl⟩ := hL1.l.facts
   simp only at p0 p1 p2
   have HL1 : Hid _ := hL1
   have HK1 : Hid (Kept (fun k => k = b) w w1) := Kept.trans (M' := fun k => k = b) (by repeat' (first | exact Kept.refl _ _ | refine Kept.setCell ?_ ?_ _ | refine Kept.drew ?_ | refine Kept.drewN ?_ _ | refine Kept.alloc ?_ _ | exact Or.inr rfl | exact Or.inr (Or.inl rfl) | (refine Or.inl ?_; simp; done) | (refine Or.inl ?_; simp; omega))) hk1 (fun _ _ e => e)
   clear hL1 hk1
   go_wp2_with fail
   go_ret
   rw [hV.out]
   exact ⟨rfl, HL1.out, LdM.of HK1.out⟩
set_option maxHeartbeats 2000000 in
set_option maxRecDepth 100000 in
theorem ppart_any (w : World) (lb b : Nat) (L : Rf.Ldr) (h : LdAt w lb b L) (hf : L.fresh ≤ 1000000000) :
  Calls Tryz.prog 119 #[.pointer (some ⟨lb, 0, none⟩)] w fun x w' => x = .returned (.agg #[.int .i64 (Rf.partL L).1.kind, .string (Rf.partL L).1.name, .int .i64 (Rf.partL L).1.value, .int .i64 (Rf.partL L).1.args]) ∧ LdAt w' lb b (Rf.partL L).2 ∧ Kept (LdM lb b) w w' := by
 have hll := blk_lt h.l
 have hbl := blk_lt h.r
 have H : Hid _ := h
 obtain ⟨q0, q1, q2, qf, _⟩ := h.l.facts
 have hn0 := Rf.numL_le 6 L.r
 obtain ⟨n, hn⟩ : ∃ n, Hid (n = (Rf.numL 6 L.r).1) := ⟨_, rfl⟩
 obtain ⟨R, hR⟩ : ∃ R, Hid (R = (Rf.numL 6 L.r).2) := ⟨_, rfl⟩
 have HO : Hid (Rf.RdrOk R) := by unfold Hid; rw [hR.out]; exact Rf.numL_ok _ _
 rw [← hn.out] at hn0
 clear h
 by_cases c5 : n = 5
 ·have hP : Hid (Rf.partL L = Rf.varPL ⟨R, L.fresh, L.height⟩) := by unfold Hid Rf.partL; rw [← hn.out, ← hR.out, if_pos c5]
  subst c5
  go_enter Tryz.func119, Tryz.ntmps119
  go_wp2_with (first
   | (go_at_call 131; refine (pvar_any _ lb b _ HL1.out hf).mono ?_; rintro x w2 ⟨rfl, hL2, hk2⟩; have HL2 : Hid _ := hL2; have HK2 : Hid (Kept (LdM lb b) w w2) := HK1.out.trans hk2 (fun _ _ e => e); have hG := (hk2.block w.heap.size gl (fun e => by rcases e with e | e <;> omega)).trans HG1.out; clear g0 g1 g2 g3 gf gl; have g0 := blk_cell hG 0; have g1 := blk_cell hG 1; have g2 := blk_cell hG 2; have g3 := blk_cell hG 3; have gf := blk_frozen hG; have gl := blk_lt hG; simp at g0 g1 g2 g3; clear hG hk2 hL2)
   | (go_at_call 40; refine (pnumL_any _ b L.r 6 (H.out.r.below (by repeat(first|exact bel0 _ _|refine bel1 ?_ (by simp<;>omega) _|refine bel2 ?_|refine bel3 ?_ _|refine bel4 ?_ (by simp<;>omega) _))) H.out.ok (by omega)).mono ?_; rintro x w1 ⟨hx1, hR1, hk1⟩; rw [← hn.out] at hx1; subst hx1; rw [← hR.out] at hR1; have hL1 := LdAt.go (H.out.below (by repeat(first|exact bel0 _ _|refine bel1 ?_ (by simp<;>omega) _|refine bel2 ?_|refine bel3 ?_ _|refine bel4 ?_ (by simp<;>omega) _))) hk1 hR1 HO.out; obtain ⟨p0, p1, p2, pf, pl⟩ := hL1.l.facts; simp only at p0 p1 p2; have HL1 : Hid _ := hL1; have HK1 : Hid (Kept (LdM lb b) w w1) := Kept.trans (M' := LdM lb b) (by repeat' (first | exact Kept.refl _ _ | refine Kept.setCell ?_ ?_ _ | refine Kept.drew ?_ | refine Kept.drewN ?_ _ | refine Kept.alloc ?_ _ | exact Or.inr rfl | exact Or.inr (Or.inl rfl) | (refine Or.inl ?_; simp; done) | (refine Or.inl ?_; simp; omega))) (LdM.of hk1) (fun _ _ e => e); have hG := (hk1.block w.heap.size (by simp) (by omega)).trans (blk_new _ _); have HG1 : Hid _ := hG; have g0 := blk_cell hG 0; have g1 := blk_cell hG 1; have g2 := blk_cell hG 2; have g3 := blk_cell hG 3; have gf := blk_frozen hG; have gl := blk_lt hG; simp at g0 g1 g2 g3; clear hL1 hk1 hG))
  refine bodyPost_ret (v := .agg #[.int .i64 1, .string ⟨#[]⟩, .int .i64 ((Rf.varL ⟨R, L.fresh, L.height⟩).1 : Int), .int .i64 0]) (by simp [results, Tryz.results119, go_sem, *]) rfl ?_
  rw [hP.out]
  exact ⟨rfl, HL2.out.kept (keep4 _ _ _ _ _ _) (by omega) (by omega), HK2.out.trans (keep4 _ _ _ _ _ _) (fun i hi e => by omega)⟩
 ·by_cases c6 : n = 6
  ·have hP : Hid (Rf.partL L = Rf.numPL ⟨R, L.fresh, L.height⟩) := by unfold Hid Rf.partL; rw [← hn.out, ← hR.out, if_neg c5, if_pos c6]
   have hv0 := Rf.numL_le 1999999998 R
   obtain ⟨v, hv⟩ : ∃ v, Hid (v = (Rf.numL 1999999998 R).1) := ⟨_, rfl⟩
   obtain ⟨S, hS⟩ : ∃ S, Hid (S = (Rf.numL 1999999998 R).2) := ⟨_, rfl⟩
   have HOS : Hid (Rf.RdrOk S) := by unfold Hid; rw [hS.out]; exact Rf.numL_ok _ _
   rw [← hv.out] at hv0
   have hP2 : Hid (Rf.numPL ⟨R, L.fresh, L.height⟩ = (⟨2, ⟨#[]⟩, (v : Int) - 999999999, 0⟩, ⟨S, L.fresh, L.height⟩)) := by unfold Hid Rf.numPL; rw [hv.out, hS.out]
   subst c6
   go_enter Tryz.func119, Tryz.ntmps119
   go_wp2_with (first
    | (have h9 := HL1; go_at_call 40; refine (pnumL_any _ b R 1999999998 HL1.out.r HO.out (by omega)).mono ?_; rintro x w2 ⟨hx2, hR2, hk2⟩; rw [← hv.out] at hx2; subst hx2; rw [← hS.out] at hR2; have HL2 : Hid _ := LdAt.go HL1.out hk2 hR2 HOS.out; have HK2 : Hid (Kept (LdM lb b) w w2) := HK1.out.trans (LdM.of hk2) (fun _ _ e => e); have hG := (hk2.block w.heap.size gl (by omega)).trans HG1.out; clear g0 g1 g2 g3 gf gl; have g0 := blk_cell hG 0; have g1 := blk_cell hG 1; have g2 := blk_cell hG 2; have g3 := blk_cell hG 3; have gf := blk_frozen hG; have gl := blk_lt hG; simp at g0 g1 g2 g3; clear hG hk2)
    | (go_at_call 40; refine (pnumL_any _ b L.r 6 (H.out.r.below (by repeat(first|exact bel0 _ _|refine bel1 ?_ (by simp<;>omega) _|refine bel2 ?_|refine bel3 ?_ _|refine bel4 ?_ (by simp<;>omega) _))) H.out.ok (by omega)).mono ?_; rintro x w1 ⟨hx1, hR1, hk1⟩; rw [← hn.out] at hx1; subst hx1; rw [← hR.out] at hR1; have hL1 := LdAt.go (H.out.below (by repeat(first|exact bel0 _ _|refine bel1 ?_ (by simp<;>omega) _|refine bel2 ?_|refine bel3 ?_ _|refine bel4 ?_ (by simp<;>omega) _))) hk1 hR1 HO.out; obtain ⟨p0, p1, p2, pf, pl⟩ := hL1.l.facts; simp only at p0 p1 p2; have HL1 : Hid _ := hL1; have HK1 : Hid (Kept (LdM lb b) w w1) := Kept.trans (M' := LdM lb b) (by repeat' (first | exact Kept.refl _ _ | refine Kept.setCell ?_ ?_ _ | refine Kept.drew ?_ | refine Kept.drewN ?_ _ | refine Kept.alloc ?_ _ | exact Or.inr rfl | exact Or.inr (Or.inl rfl) | (refine Or.inl ?_; simp; done) | (refine Or.inl ?_; simp; omega))) (LdM.of hk1) (fun _ _ e => e); have hG := (hk1.block w.heap.size (by simp) (by omega)).trans (blk_new _ _); have HG1 : Hid _ := hG; have g0 := blk_cell hG 0; have g1 := blk_cell hG 1; have g2 := blk_cell hG 2; have g3 := blk_cell hG 3; have gf := blk_frozen hG; have gl := blk_lt hG; simp at g0 g1 g2 g3; clear hL1 hk1 hG))
   refine bodyPost_ret (v := .agg #[.int .i64 2, .string ⟨#[]⟩, .int .i64 ((v : Int) - 999999999), .int .i64 0]) (by simp [results, Tryz.results119, go_sem, *]) rfl ?_
   rw [hP.out, hP2.out]
   exact ⟨rfl, HL2.out.kept (keep4 _ _ _ _ _ _) (by omega) (by omega), HK2.out.trans (keep4 _ _ _ _ _ _) (fun i hi e => by omega)⟩
  ·have hP : Hid (Rf.partL L = Rf.namePL n ⟨R, L.fresh, L.height⟩) := by unfold Hid Rf.partL; rw [← hn.out, ← hR.out, if_neg c5, if_neg c6]
   have hx0 := Rf.wordL_size 12 R
   obtain ⟨X, hX⟩ : ∃ X, Hid (X = (Rf.wordL 12 R).1) := ⟨_, rfl⟩
   obtain ⟨S, hS⟩ : ∃ S, Hid (S = (Rf.wordL 12 R).2) := ⟨_, rfl⟩
   have HOS : Hid (Rf.RdrOk S) := by unfold Hid; rw [hS.out]; exact Rf.wordL_ok
   rw [← hX.out] at hx0
   have hP2 : Hid (Rf.namePL n ⟨R, L.fresh, L.height⟩ = (⟨3, X, 0, n⟩, ⟨if Rf.isTokB X 97 = true then S else Rf.refuse, L.fresh, L.height⟩)) := by unfold Hid Rf.namePL; rw [hX.out, hS.out]
   have c5i : ((n : Int) == 5) = false := beq_eq_false_iff_ne.2 (by omega)
   have c6i : ((n : Int) == 6) = false := beq_eq_false_iff_ne.2 (by omega)
   cases hT : Rf.isTokB X 97
   ·have HT : Hid _ := hT
    rw [hT, if_neg (by decide)] at hP2
    clear hT
    go_enter Tryz.func119, Tryz.ntmps119
    go_wp2_with (first
     | (go_at_call 57; refine (prefuse_any _ b S HL3.out.r).mono ?_; rintro x w4 ⟨rfl, hR4, hk4⟩; have HL4 : Hid _ := LdAt.go HL3.out hk4 hR4 Rf.refuse_ok; have HK4 : Hid (Kept (LdM lb b) w w4) := HK3.out.trans (LdM.of hk4) (fun _ _ e => e); have hG := (hk4.block w.heap.size gl (by omega)).trans HG3.out; clear g0 g1 g2 g3 gf gl; have g0 := blk_cell hG 0; have g1 := blk_cell hG 1; have g2 := blk_cell hG 2; have g3 := blk_cell hG 3; have gf := blk_frozen hG; have gl := blk_lt hG; simp at g0 g1 g2 g3; clear hG hk4)
     | (go_at_call 132; refine (pisName_any X _ (by omega)).mono ?_; rintro x w3 ⟨hx3, hb3⟩; rw [HT.out] at hx3; subst hx3; have HL3 : Hid _ := HL2.out.below hb3; have HK3 : Hid (Kept (LdM lb b) w w3) := HK2.out.trans (Kept.of_below hb3 (LdM lb b)) (fun _ _ e => e); have hG := (hb3.block w.heap.size gl).trans HG2.out; have HG3 : Hid _ := hG; clear g0 g1 g2 g3 gf gl p0 p1 p2 pf pl; obtain ⟨p0, p1, p2, pf, pl⟩ := HL3.out.l.facts; simp only at p0 p1 p2; have g0 := blk_cell hG 0; have g1 := blk_cell hG 1; have g2 := blk_cell hG 2; have g3 := blk_cell hG 3; have gf := blk_frozen hG; have gl := blk_lt hG; simp at g0 g1 g2 g3; clear hG hb3)
     | (go_at_call 56; refine (pwordL_any _ b R 12 HL1.out.r HO.out (by omega)).mono ?_; rintro x w2 ⟨hx2, hR2, hk2⟩; rw [← hX.out] at hx2; subst hx2; rw [← hS.out] at hR2; have HL2 : Hid _ := LdAt.go HL1.out hk2 hR2 HOS.out; have HK2 : Hid (Kept (LdM lb b) w w2) := HK1.out.trans (LdM.of hk2) (fun _ _ e => e); have hG := (hk2.block w.heap.size gl (by omega)).trans HG1.out; have HG2 : Hid _ := hG; clear g0 g1 g2 g3 gf gl p0 p1 p2 pf pl; obtain ⟨p0, p1, p2, pf, pl⟩ := HL2.out.l.facts; simp only at p0 p1 p2; have g0 := blk_cell hG 0; have g1 := blk_cell hG 1; have g2 := blk_cell hG 2; have g3 := blk_cell hG 3; have gf := blk_frozen hG; have gl := blk_lt hG; simp at g0 g1 g2 g3; clear hG hk2)
     | (go_at_call 40; refine (pnumL_any _ b L.r 6 (H.out.r.below (by repeat(first|exact bel0 _ _|refine bel1 ?_ (by simp<;>omega) _|refine bel2 ?_|refine bel3 ?_ _|refine bel4 ?_ (by simp<;>omega) _))) H.out.ok (by omega)).mono ?_; rintro x w1 ⟨hx1, hR1, hk1⟩; rw [← hn.out] at hx1; subst hx1; rw [← hR.out] at hR1; have hL1 := LdAt.go (H.out.below (by repeat(first|exact bel0 _ _|refine bel1 ?_ (by simp<;>omega) _|refine bel2 ?_|refine bel3 ?_ _|refine bel4 ?_ (by simp<;>omega) _))) hk1 hR1 HO.out; obtain ⟨p0, p1, p2, pf, pl⟩ := hL1.l.facts; simp only at p0 p1 p2; have HL1 : Hid _ := hL1; have HK1 : Hid (Kept (LdM lb b) w w1) := Kept.trans (M' := LdM lb b) (by repeat' (first | exact Kept.refl _ _ | refine Kept.setCell ?_ ?_ _ | refine Kept.drew ?_ | refine Kept.drewN ?_ _ | refine Kept.alloc ?_ _ | exact Or.inr rfl | exact Or.inr (Or.inl rfl) | (refine Or.inl ?_; simp; done) | (refine Or.inl ?_; simp; omega))) (LdM.of hk1) (fun _ _ e => e); have hG := (hk1.block w.heap.size (by simp) (by omega)).trans (blk_new _ _); have HG1 : Hid _ := hG; have g0 := blk_cell hG 0; have g1 := blk_cell hG 1; have g2 := blk_cell hG 2; have g3 := blk_cell hG 3; have gf := blk_frozen hG; have gl := blk_lt hG; simp at g0 g1 g2 g3; clear hL1 hk1 hG))
    refine bodyPost_ret (v := .agg #[.int .i64 3, .string X, .int .i64 0, .int .i64 n]) (by simp [results, Tryz.results119, go_sem, *]) rfl ?_
    rw [hP.out, hP2.out]
    exact ⟨rfl, HL4.out.kept (keep4 _ _ _ _ _ _) (by omega) (by omega), HK4.out.trans (keep4 _ _ _ _ _ _) (fun i hi e => by omega)⟩
   ·have HT : Hid _ := hT
    rw [hT, if_pos rfl] at hP2
    clear hT
    go_enter Tryz.func119, Tryz.ntmps119
    go_wp2_with (first
     | (go_at_call 132; refine (pisName_any X _ (by omega)).mono ?_; rintro x w3 ⟨hx3, hb3⟩; rw [HT.out] at hx3; subst hx3; have HL3 : Hid _ := HL2.out.below hb3; have HK3 : Hid (Kept (LdM lb b) w w3) := HK2.out.trans (Kept.of_below hb3 (LdM lb b)) (fun _ _ e => e); have hG := (hb3.block w.heap.size gl).trans HG2.out; have HG3 : Hid _ := hG; clear g0 g1 g2 g3 gf gl p0 p1 p2 pf pl; obtain ⟨p0, p1, p2, pf, pl⟩ := HL3.out.l.facts; simp only at p0 p1 p2; have g0 := blk_cell hG 0; have g1 := blk_cell hG 1; have g2 := blk_cell hG 2; have g3 := blk_cell hG 3; have gf := blk_frozen hG; have gl := blk_lt hG; simp at g0 g1 g2 g3; clear hG hb3)
     | (go_at_call 56; refine (pwordL_any _ b R 12 HL1.out.r HO.out (by omega)).mono ?_; rintro x w2 ⟨hx2, hR2, hk2⟩; rw [← hX.out] at hx2; subst hx2; rw [← hS.out] at hR2; have HL2 : Hid _ := LdAt.go HL1.out hk2 hR2 HOS.out; have HK2 : Hid (Kept (LdM lb b) w w2) := HK1.out.trans (LdM.of hk2) (fun _ _ e => e); have hG := (hk2.block w.heap.size gl (by omega)).trans HG1.out; have HG2 : Hid _ := hG; clear g0 g1 g2 g3 gf gl p0 p1 p2 pf pl; obtain ⟨p0, p1, p2, pf, pl⟩ := HL2.out.l.facts; simp only at p0 p1 p2; have g0 := blk_cell hG 0; have g1 := blk_cell hG 1; have g2 := blk_cell hG 2; have g3 := blk_cell hG 3; have gf := blk_frozen hG; have gl := blk_lt hG; simp at g0 g1 g2 g3; clear hG hk2)
     | (go_at_call 40; refine (pnumL_any _ b L.r 6 (H.out.r.below (by repeat(first|exact bel0 _ _|refine bel1 ?_ (by simp<;>omega) _|refine bel2 ?_|refine bel3 ?_ _|refine bel4 ?_ (by simp<;>omega) _))) H.out.ok (by omega)).mono ?_; rintro x w1 ⟨hx1, hR1, hk1⟩; rw [← hn.out] at hx1; subst hx1; rw [← hR.out] at hR1; have hL1 := LdAt.go (H.out.below (by repeat(first|exact bel0 _ _|refine bel1 ?_ (by simp<;>omega) _|refine bel2 ?_|refine bel3 ?_ _|refine bel4 ?_ (by simp<;>omega) _))) hk1 hR1 HO.out; obtain ⟨p0, p1, p2, pf, pl⟩ := hL1.l.facts; simp only at p0 p1 p2; have HL1 : Hid _ := hL1; have HK1 : Hid (Kept (LdM lb b) w w1) := Kept.trans (M' := LdM lb b) (by repeat' (first | exact Kept.refl _ _ | refine Kept.setCell ?_ ?_ _ | refine Kept.drew ?_ | refine Kept.drewN ?_ _ | refine Kept.alloc ?_ _ | exact Or.inr rfl | exact Or.inr (Or.inl rfl) | (refine Or.inl ?_; simp; done) | (refine Or.inl ?_; simp; omega))) (LdM.of hk1) (fun _ _ e => e); have hG := (hk1.block w.heap.size (by simp) (by omega)).trans (blk_new _ _); have HG1 : Hid _ := hG; have g0 := blk_cell hG 0; have g1 := blk_cell hG 1; have g2 := blk_cell hG 2; have g3 := blk_cell hG 3; have gf := blk_frozen hG; have gl := blk_lt hG; simp at g0 g1 g2 g3; clear hL1 hk1 hG))
    refine bodyPost_ret (v := .agg #[.int .i64 3, .string X, .int .i64 0, .int .i64 n]) (by simp [results, Tryz.results119, go_sem, *]) rfl ?_
    rw [hP.out, hP2.out]
    exact ⟨rfl, HL3.out.kept (keep4 _ _ _ _ _ _) (by omega) (by omega), HK3.out.trans (keep4 _ _ _ _ _ _) (fun i hi e => by omega)⟩
end Go.Proofs.YtbiojnljihgpoaaGreatDoor
