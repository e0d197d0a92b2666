/- The program's numbering (term: Renumber): all terms of a list with their variables numbered anew. -/
import Derived.Test.YtpdikdnffehmkaaDoorYap
import Derived.Test.YtpdikdnffehmkaaDoorYad
import Derived.OwnWalk
namespace Rf
theorem renTs_snoc : ∀ (ts : List (List Part)) (ns : List Int) (t : List Part), renTs ns (ts ++ [t]) = ((renTs ns ts).1 ++ [(renT (renTs ns ts).2 t).1], (renT (renTs ns ts).2 t).2)
  | [], ns, t => rfl
  | u :: ts, ns, t => by
    rw [List.cons_append, renTs, renTs_snoc ts (renT ns u).2 t, renTs]
    rfl
theorem renTs_len : ∀ (ts : List (List Part)) (ns : List Int), (∀ t ∈ ts, t.length ≤ 400) → (renTs ns ts).2.length ≤ ns.length + ts.length * 400
  | [], ns, _ => by simp [renTs]
  | t :: ts, ns, h => by
    have h1 := renTs_len ts (renT ns t).2 (fun u hu => h u (List.mem_cons_of_mem _ hu))
    have h2 := (renT_len t ns).2
    have h3 := h t (by simp)
    rw [renTs]
    simp only [List.length_cons]
    omega
end Rf
namespace Go.Proofs.YtpdikdnffehmkaaDoor
open Go.RowKit
theorem NumAt.made {w : World} {g past : Nat} {o : Obj} (h : w.ownsRow 0 3 1 (.slice (some ⟨g, 0, none⟩) past past) past (madeCells (Value.int .i64 0).cells (past * 1)).toList) (hs : past ≤ 1000000) (ho : o = .cells #[.slice (some ⟨g, 0, none⟩) past past, .int .i64 0] 122) : NumAt (w.alloc o) w.heap.size g past [] := by
  subst ho
  rcases h.2 with ⟨h1, _⟩ | ⟨g', cap, cur, h1, _, h3, h4, h5, h6, h7⟩
  · cases h1
  · obtain ⟨rfl, rfl⟩ : g = g' ∧ past = cap := by injection h1 with a1 _ a3; injection a1 with a1; injection a1 with a1; exact ⟨a1, a3⟩
    refine ⟨blk_new _ _, ⟨cur, blk_alloc h3 _, by omega, fun v hv => ?_⟩, by have := blk_lt h3; omega, hs⟩
    have h8 : (cur.toList.take (past * 1))[v]? = some (.int .i64 0) := by
      rw [h7]
      simp [madeCells, Value.cells, Nat.mod_one, hv]
    rw [List.getElem?_take, if_pos (by omega)] at h8
    simpa [Rf.numW] using h8
theorem pastTs_bd0 {ts : List (List Rf.Part)} (hv : ∀ t ∈ ts, ∀ p ∈ t, p.kind = 1 → 0 ≤ p.value ∧ p.value < 1000000) : 0 ≤ Rf.pastTs 0 ts ∧ Rf.pastTs 0 ts ≤ 1000000 := by
  have key : ∀ (ts : List (List Rf.Part)) (a : Int), (∀ t ∈ ts, ∀ p ∈ t, p.kind = 1 → 0 ≤ p.value ∧ p.value < 1000000) → 0 ≤ a → a ≤ 1000000 → 0 ≤ Rf.pastTs a ts ∧ Rf.pastTs a ts ≤ 1000000 := by
    intro ts
    induction ts with
    | nil => intro a _ h0 h1; exact ⟨h0, h1⟩
    | cons t ts ih =>
      intro a hv h0 h1
      rw [Rf.pastTs]
      have hp' : 0 ≤ Rf.pastT t ∧ Rf.pastT t ≤ 1000000 := pastN_bd (hv t (by simp)) (a := 0) (by omega) (by omega)
      refine ih _ (fun q hq => hv q (List.mem_cons_of_mem _ hq)) ?_ ?_
      · unfold Rf.maxI; split <;> omega
      · unfold Rf.maxI; split <;> omega
  exact key ts 0 hv (by omega) (by omega)
theorem TermsAt.keptN {base : Nat} {w w' : World} {v : Value} {acc : List (SlV × List Rf.Part)} {nb g past : Nat} {ns : List Int} (h : TermsAt base w v acc) (hk : Kept (fun k => k = nb ∨ k = g) w w') (hN : NumAt w nb g past ns) (h1 : nb < base) (h2 : g < base) : TermsAt base w' v acc :=
  ⟨h.row.keptBy hk (fun k e he => by have := (h.row.lt k e).1; rcases he with rfl | rfl <;> omega), fun q hq => (h.each q hq).kept hk hN.types⟩
set_option maxHeartbeats 2000000 in
set_option maxRecDepth 100000 in
theorem pRenumber_any (w : World) (vt : Value) (ts : List (List Rf.Part)) (h : SeenTs w vt ts) (hl : ts.length ≤ 20000) (hl1 : ∀ t ∈ ts, t.length ≤ 400) (hv : ∀ t ∈ ts, ∀ p ∈ t, p.kind = 1 → 0 ≤ p.value ∧ p.value < 1000000) :
    Calls Tryd.prog 63 #[vt] w fun r w' => ∃ a3 n3 c3, r = .returned (.tuple #[.slice a3 n3 c3, .int .i64 ((Rf.renTs [] ts).2.length : Nat)]) ∧ SeenTs w' (.slice a3 n3 c3) (Rf.renTs [] ts).1 ∧ Below w.heap.size w w' := by
  obtain ⟨acc, hT, hE, rfl⟩ := h.ex
  obtain ⟨a, c, rfl⟩ := hT.slice
  rw [List.length_map] at hl
  have hE1 : ∀ q ∈ acc, Seen w 65 partCells (slv q.1) q.2 ∧ q.2.length ≤ 400 ∧ (∀ p ∈ q.2, p.kind = 1 → 0 ≤ p.value ∧ p.value < 1000000) ∧ (∀ p ∈ q.2, p.kind = 1 → p.value < Rf.pastTs 0 (acc.map (·.2))) := fun q hq => ⟨hE q hq, hl1 q.2 (List.mem_map_of_mem hq), hv q.2 (List.mem_map_of_mem hq), fun p hp hk => Rf.pastTs_mem (List.mem_map_of_mem hq) hp hk⟩
  have hpb := pastTs_bd0 hv
  have HT : Hid _ := hT
  have HE : Hid _ := hE1
  have HL : Hid _ := hl1
  clear h hT hE hl1 hE1 hv
  rw [List.length_map]
  obtain ⟨P, hP⟩ : ∃ P : Nat, Hid (Rf.pastTs 0 (acc.map (·.2)) = P) := ⟨(Rf.pastTs 0 (acc.map (·.2))).toNat, by unfold Hid; omega⟩
  have hP1 : P ≤ 1000000 := by have := hP.out; omega
  clear hpb
  go_enter Tryd.func63, Tryd.ntmps63
  go_wp2_with fail
  go_loopw [4, 14] (fun mv iv wr => ∃ (k : Nat) (m : Int), k ≤ acc.length ∧ iv = .int .i64 k ∧ mv = .int .i64 m ∧ 0 ≤ m ∧ m ≤ 1000000 ∧ Below w.heap.size w wr ∧ Hid (Rf.pastTs 0 (acc.map (·.2)) = Rf.pastTs m ((acc.drop k).map (·.2)))) (fun _ iv _ => acc.length - (intOf iv).toNat)
  case atStart => exact ⟨0, 0, by omega, rfl, rfl, by omega, by omega, Below.refl _ _, rfl⟩
  case round =>
    obtain ⟨k, m, hk, rfl, rfl, hm1, hm2, hbr, hinv⟩ := hrel
    have hsz := hbr.size
    by_cases hlt : k < acc.length
    · obtain ⟨g, off, rfl⟩ := HT.out.pos (by simp; omega)
      have hgl := HT.out.lt
      have hmem : acc[k] ∈ acc := List.getElem_mem hlt
      have hcell := Seen.termAt (HT.out.below hbr) k acc[k].1 (by simp [hlt])
      obtain ⟨hS, hSl, hSv, _⟩ := HE.out _ hmem
      have hdrop : acc.drop k = acc[k] :: acc.drop (k + 1) := List.drop_eq_getElem_cons hlt
      rw [hdrop, List.map_cons, Rf.pastTs] at hinv
      clear hmem hdrop
      generalize acc[k] = q at *
      obtain ⟨⟨qa, qn, qc⟩, qp⟩ := q
      simp only at hcell hSl hSv hinv
      have HS : Hid (Seen w 65 partCells (.slice qa qn qc) qp) := hS
      have HSv : Hid _ := hSv
      have hqb1 : 0 ≤ Rf.pastT qp ∧ Rf.pastT qp ≤ 1000000 := pastN_bd hSv (a := 0) (by omega) (by omega)
      clear hS hSv
      have hgl' : g < wr.heap.size := by omega
      have hlt' : (k : Int) < acc.length := by omega
      go_wp2_with (first
        | (go_at_call 80; refine (ppastT_any _ qa qn qc qp (HS.out.below hbr) (by omega) HSv.out).mono ?_; rintro r w2 ⟨rfl, hb2⟩)
        | (go_at_call 79; refine (pgreater_any m (Rf.pastT qp) _).mono ?_; rintro r w3 ⟨rfl, hw3⟩; subst w3))
      go_roundw
      case rel => exact ⟨k + 1, Rf.maxI m (Rf.pastT qp), by omega, by go_num, rfl, (by unfold Rf.maxI; split <;> omega), (by unfold Rf.maxI; split <;> omega), hbr.trans (hb2.mono hsz), hinv⟩
      case measure => simp [intOf]; omega
    · obtain rfl : k = acc.length := by omega
      have hmP : m = (P : Nat) := by have h9 := hinv.out; rw [List.drop_length, hP.out] at h9; exact h9.symm
      subst hmP
      clear hinv hm1 hm2
      have HI : Hid _ := info_parts Tryd.elemInt.2.1
      have hzr : w.heap.size ≤ wr.heap.size := hsz
      go_wp2_with (at_make; obtain ⟨iI, hi1, hi2, hi3, hi4⟩ := HI.out; refine wpList_make_full _ rfl (.tmp 23) (.tmp 23) 102 rfl 0 3 iI (.int .i64 0) 1 Tryd.elemInt.1 hi1 hi2 hi3 .i64 .i64 P P P rfl rfl rfl rfl (by rw [hi4]; omega) (by unfold maxLen; omega) (Nat.zero_le _) ?_; intro w2 hown2 hgr2; clear hi1 hi2 hi3 hi4)
      have hN2 := NumAt.made (o := .cells #[.slice (some ⟨wr.heap.size, 0, none⟩) P P, .int .i64 0] 122) hown2 hP1 rfl
      have hb2 : Below w.heap.size w w2 := hbr.grown hgr2 hsz (fun k e => by cases e)
      have hz2 : wr.heap.size + 1 ≤ w2.heap.size := by have := hN2.lt.2; simp at this; obtain ⟨cur, hc, _⟩ := hN2.r; have h9 := hN2.ne; omega
      have hW2 : Below w.heap.size w (w2.alloc (.cells #[.slice (some ⟨wr.heap.size, 0, none⟩) P P, .int .i64 0] 122)) := hb2.alloc hb2.size _
      obtain ⟨wo, rfl⟩ : ∃ wo : World, wo = wr := ⟨_, rfl⟩
      have HN2 : Hid _ := hN2
      have HW2 : Hid _ := hW2
      clear hown2 hgr2
      go_loopw [8, 28] (fun lv iv wx => ∃ (k : Nat) (acc2 : List (SlV × List Rf.Part)), k ≤ acc.length ∧ iv = .int .i64 k ∧ TermsAt (w2.heap.size + 1) wx lv acc2 ∧ acc2.length = k ∧ Hid (acc2.map (·.2) = (Rf.renTs [] ((acc.take k).map (·.2))).1) ∧ NumAt wx w2.heap.size wo.heap.size P (Rf.renTs [] ((acc.take k).map (·.2))).2 ∧ Kept (fun k => k = w2.heap.size ∨ k = wo.heap.size) (w2.alloc (.cells #[.slice (some ⟨wo.heap.size, 0, none⟩) P P, .int .i64 0] 122)) wx) (fun _ iv _ => acc.length - (intOf iv).toNat)
      case atStart => exact ⟨0, [], by omega, rfl, TermsAt.nil _ _, rfl, rfl, hN2, Kept.refl _ _⟩
      case round =>
        obtain ⟨k, acc2, hk2, rfl, hA, hka, hinv, hN1, hkp⟩ := hrel
        obtain rfl := hka
        clear hN2 hW2
        have hsz1 := hkp.size
        simp at hsz1
        obtain ⟨a4, c4, hv4⟩ := row_slice hA.row
        rw [List.length_map] at hv4
        subst hv4
        have hns := Rf.renTs_len ((acc.take acc2.length).map (·.2)) [] (fun t ht => by
          obtain ⟨q, hq, rfl⟩ := List.mem_map.1 ht
          exact HL.out _ (List.mem_map_of_mem (List.mem_of_mem_take hq)))
        have hns2 : (Rf.renTs [] ((acc.take acc2.length).map (·.2))).2.length ≤ 900000000 := by
          simp only [List.length_nil, List.length_map, List.length_take, Nat.zero_add] at hns
          have : min acc2.length acc.length * 400 ≤ 20000 * 400 := Nat.mul_le_mul_right _ (by omega)
          omega
        clear hns
        by_cases hlt2 : acc2.length < acc.length
        · obtain ⟨g, off, rfl⟩ := HT.out.pos (by simp; omega)
          have hgl := HT.out.lt
          have hmem : acc[acc2.length] ∈ acc := List.getElem_mem hlt2
          have hcell := Seen.termAt ((HT.out.below HW2.out).kept hkp HN2.out.typesT) acc2.length acc[acc2.length].1 (by simp [hlt2])
          obtain ⟨hS, hSl, hSv, hSp⟩ := HE.out _ hmem
          have hsn : Hid (Rf.renTs [] ((acc.take (acc2.length + 1)).map (·.2)) = ((Rf.renTs [] ((acc.take acc2.length).map (·.2))).1 ++ [(Rf.renT (Rf.renTs [] ((acc.take acc2.length).map (·.2))).2 acc[acc2.length].2).1], (Rf.renT (Rf.renTs [] ((acc.take acc2.length).map (·.2))).2 acc[acc2.length].2).2)) := by unfold Hid; rw [List.take_succ_eq_append_getElem hlt2, List.map_append]; exact Rf.renTs_snoc _ _ _
          clear hmem
          generalize acc[acc2.length] = q at *
          obtain ⟨⟨qa, qn, qc⟩, qp⟩ := q
          simp only at hcell hSl hSv hSp hsn
          obtain ⟨nn, hnn⟩ : ∃ nn, Hid (nn = (Rf.renTs [] ((acc.take acc2.length).map (·.2))).2) := ⟨_, rfl⟩
          rw [← hnn.out] at hsn hN1 hns2
          have HS : Hid (Seen wr 65 partCells (.slice qa qn qc) qp) := Seen.kept (Seen.below hS HW2.out) hkp HN2.out.types
          have HSv : Hid (∀ p ∈ qp, p.kind = 1 → 0 ≤ p.value ∧ p.value < P) := fun p hp hk => ⟨(hSv p hp hk).1, by have := hSp p hp hk; rw [hP.out] at this; exact this⟩
          clear hS hSv hSp
          have hgl' : g < wr.heap.size := by omega
          have hlt' : (acc2.length : Int) < acc.length := by omega
          have hnb : ¬ (w2.heap.size + 1 ≤ w2.heap.size) := by omega
          go_wp2_with (first
            | (go_at_call 81; refine (prenumber_any _ w2.heap.size wo.heap.size P nn qa qn qc qp hN1 HS.out (by omega) HSv.out hns2).mono ?_; rintro r w3 ⟨a3, n3, c3, rfl, hS3, hN3, hk3⟩; have hz3 := hk3.size; have hA3 := TermsAt.keptN hA hk3 hN1 (by omega) (by omega))
            | (at_builtin; refine wpList_app Tryd.elemTerms slCells slCells_len slCells_one _ rfl (.tmp 34) (.tmp 36) rfl (w2.heap.size + 1) (.slice a4 acc2.length c4) _ rfl (hA3.row.alloc _) ⟨_, 0, none⟩ 1 ⟨a3, n3, c3⟩ rfl (cell_one_at _ _ rfl _ _) (by rw [List.length_map]; omega) (by rw [World.size_alloc]; omega) ?_; intro gA capA w4 hrow4 hgr4 hnb4; rw [List.length_map] at hrow4))
          go_roundw
          case rel =>
            refine ⟨acc2.length + 1, acc2 ++ [(⟨a3, n3, c3⟩, (Rf.renT nn qp).1)], by omega, by go_num, TermsAt.app (hA3.below ((Below.refl _ w3).alloc (Nat.le_refl _) _)) (x := ⟨a3, n3, c3⟩) (Seen.alloc hS3 _) hgr4 hrow4, by simp, ?_, ?_, ?_⟩
            · unfold Hid; rw [hsn.out, List.map_append, hinv.out]; rfl
            · rw [hsn.out]
              exact (hN3.below ((Below.refl _ w3).alloc (Nat.le_refl _) _)).kept (M := fun k => (Value.slice a4 acc2.length c4).ownBlock = some k) ⟨hgr4.os, hgr4.tape, hgr4.output, hgr4.size, fun j hj hr => hgr4.block j hj (fun e => hr e.symm)⟩ (fun e => by have := (hA.row.lt _ e).1; omega) (fun e => by have := (hA.row.lt _ e).1; omega)
            · exact ((hkp.trans hk3 (fun _ _ h => h)).alloc _).grown hgr4 (fun j e => .inl (by have := (hA.row.lt j e).1; simpa using this))
          case measure => simp [intOf]; omega
        · have hend : acc2.length = acc.length := by omega
          have hinv2 : Hid (acc2.map (·.2) = (Rf.renTs [] (acc.map (·.2))).1) := by have h9 := hinv.out; rw [hend, List.take_length] at h9; exact h9
          have hN9 : NumAt wr w2.heap.size wo.heap.size P (Rf.renTs [] (acc.map (·.2))).2 := by have h9 := hN1; rw [hend, List.take_length] at h9; exact h9
          have n1 := blk_cell hN9.n 1
          simp at n1
          have hend' : ¬ ((acc2.length : Int) < acc.length) := by omega
          have hnl := hN9.lt.1
          clear hend hN1 hns2
          go_wp2_with fail
          go_quiet (fail)
          go_wp2_with fail
          go_ret2
          refine ⟨a4, _, c4, rfl, ?_, ?_⟩
          · have h9 := hA.seen
            rw [hinv2.out] at h9
            exact h9.below ((Below.refl _ wr).drewN _)
          · exact (HW2.out.trans (hkp.below (by simp; omega) (fun k hk e => by omega))).drewN _
end Go.Proofs.YtpdikdnffehmkaaDoor
/- The program's question in memory (play: Question): its names, its state, its row of choices; what turns and what is kept. -/
namespace Go.Proofs.YtpdikdnffehmkaaDoor
open Go.RowKit
structure ChV where
  g : SlV
  t : SlV
  f : Int
  c : SlV
def chCells (x : ChV) : List Value := [.slice x.g.a x.g.n x.g.c, .slice x.t.a x.t.n x.t.c, .int .i64 x.f, .slice x.c.a x.c.n x.c.c]
theorem chCells_len (s : ChV) : (chCells s).length = 4 := rfl
theorem chCells_one (s : ChV) : ∀ u ∈ chCells s, u.oneCell' = true := by
  intro u hu
  simp only [chCells, List.mem_cons, List.not_mem_nil, or_false] at hu
  rcases hu with rfl | rfl | rfl | rfl <;> rfl
theorem Tryd.elemCh : ElemOk Tryd.prog 60 104 4 80 (.agg #[.slice none 0 0, .slice none 0 0, .int .i64 0, .slice none 0 0]) := ⟨Tryd.underlying60, by kernel_rfl, rfl, by decide, by decide⟩
structure ChIs (w : World) (x : ChV) (c : Rf.Ch) : Prop where
  st : StIs w (slv x.g) (slv x.t) x.f c.st
  cl : Seen w 3 natCells (slv x.c) c.cls
theorem ChIs.below {w w' : World} {x : ChV} {c : Rf.Ch} (h : ChIs w x c) (hb : Below w.heap.size w w') : ChIs w' x c := ⟨h.st.below hb, h.cl.below hb⟩
/-- Block q holds a question of the program's. -/
def QB (w : World) (q : Nat) (vN vg vt : Value) (fr : Int) (vC : Value) : Prop := w.heap[q]? = some (.cells #[vN, vg, vt, .int .i64 fr, vC] 62 (0, 0))
/-- The row of choices, the latest last. -/
structure ChsAt (w : World) (v : Value) (chs : List Rf.Ch) : Prop where
  ex : ∃ acc : List (ChV × Rf.Ch), RowIs w 0 104 4 chCells v (acc.map (·.1)) ∧ (∀ x ∈ acc, ChIs w x.1 x.2) ∧ acc.map (·.2) = chs.reverse
structure QIs (w : World) (q : Nat) (rb : Option Nat) (vN vg vt : Value) (fr : Int) (vC : Value) (names : List ByteArray) (cf : Rf.Cf) : Prop where
  b : QB w q vN vg vt fr vC
  n : Seen w 9 strCells vN names
  s : StIs w vg vt fr cf.now
  r : ChsAt w vC cf.chs
  o : vC.ownBlock = rb
structure QAt (w : World) (q : Nat) (rb : Option Nat) (names : List ByteArray) (cf : Rf.Cf) : Prop where
  ex : ∃ vN vg vt fr vC, QIs w q rb vN vg vt fr vC names cf
theorem QIs.at {w : World} {q : Nat} {rb : Option Nat} {vN vg vt vC : Value} {fr : Int} {names : List ByteArray} {cf : Rf.Cf} (h : QIs w q rb vN vg vt fr vC names cf) : QAt w q rb names cf := ⟨_, _, _, _, _, h⟩
/-- Blocks of another type are no part of a question that turns. -/
theorem QIs.types {w : World} {q : Nat} {rb : Option Nat} {vN vg vt vC : Value} {fr : Int} {names : List ByteArray} {cf : Rf.Cf} (h : QIs w q rb vN vg vt fr vC names cf) {t : TypeId} (h1 : t ≠ 62) (h2 : t ≠ 104) : ∀ k cs, w.heap[k]? = some (.cells cs t (0, 0)) → ¬ May q rb k := by
  intro k cs hc hm
  rcases hm with rfl | hm
  · have hb := h.b
    unfold QB at hb
    rw [hb] at hc
    injection hc with h3; injection h3 with _ h4
    exact h1 h4.symm
  · obtain ⟨acc, hr, _, _⟩ := h.r.ex
    obtain ⟨cs', hc'⟩ := hr.typed k (h.o.trans hm.symm)
    rw [hc'] at hc
    injection hc with h3; injection h3 with _ h4
    exact h2 h4.symm
theorem SeenTs.keptM {w w' : World} {M : Nat → Prop} {v : Value} {ts : List (List Rf.Part)} (h : SeenTs w v ts) (hk : Kept M w w') (h1 : ∀ k cs, w.heap[k]? = some (.cells cs 65 (0, 0)) → ¬ M k) (h2 : ∀ k cs, w.heap[k]? = some (.cells cs 67 (0, 0)) → ¬ M k) : SeenTs w' v ts := by
  obtain ⟨acc, a1, a2, a3⟩ := h.ex
  exact ⟨acc, a1.kept hk h2, fun q hq => (a2 q hq).kept hk h1, a3⟩
/-- What all seen rows ask of what turns. -/
structure Free (w : World) (M : Nat → Prop) : Prop where
  p : ∀ k cs, w.heap[k]? = some (.cells cs 65 (0, 0)) → ¬ M k
  t : ∀ k cs, w.heap[k]? = some (.cells cs 67 (0, 0)) → ¬ M k
  i : ∀ k cs, w.heap[k]? = some (.cells cs 3 (0, 0)) → ¬ M k
  s : ∀ k cs, w.heap[k]? = some (.cells cs 9 (0, 0)) → ¬ M k
  c : ∀ k cs, w.heap[k]? = some (.cells cs 72 (0, 0)) → ¬ M k
theorem QIs.free {w : World} {q : Nat} {rb : Option Nat} {vN vg vt vC : Value} {fr : Int} {names : List ByteArray} {cf : Rf.Cf} (h : QIs w q rb vN vg vt fr vC names cf) : Free w (May q rb) :=
  ⟨h.types (by decide) (by decide), h.types (by decide) (by decide), h.types (by decide) (by decide), h.types (by decide) (by decide), h.types (by decide) (by decide)⟩
theorem Free.none (w : World) : Free w (fun _ => False) := ⟨fun _ _ _ h => h, fun _ _ _ h => h, fun _ _ _ h => h, fun _ _ _ h => h, fun _ _ _ h => h⟩
theorem StIs.kept {w w' : World} {M : Nat → Prop} {vg vt : Value} {fr : Int} {S : Rf.St} (h : StIs w vg vt fr S) (hk : Kept M w w') (hf : Free w M) : StIs w' vg vt fr S := ⟨h.g.keptM hk hf.p hf.t, h.t.keptM hk hf.p hf.t, h.f⟩
theorem ChIs.kept {w w' : World} {M : Nat → Prop} {x : ChV} {c : Rf.Ch} (h : ChIs w x c) (hk : Kept M w w') (hf : Free w M) : ChIs w' x c := ⟨h.st.kept hk hf, Seen.kept h.cl hk hf.i⟩
theorem ChsAt.kept {w w' : World} {M : Nat → Prop} {v : Value} {chs : List Rf.Ch} (h : ChsAt w v chs) (hk : Kept M w w') (hf : Free w M) (hv : ∀ k, v.ownBlock = some k → ¬ M k) : ChsAt w' v chs := by
  obtain ⟨acc, h1, h2, h3⟩ := h.ex
  exact ⟨acc, h1.keptBy hk hv, fun x hx => (h2 x hx).kept hk hf, h3⟩
theorem ChsAt.below {w w' : World} {v : Value} {chs : List Rf.Ch} (h : ChsAt w v chs) (hb : Below w.heap.size w w') : ChsAt w' v chs := h.kept (Kept.of_below hb (fun _ => False)) (Free.none w) (fun _ _ e => e)
/-- A question is kept by what turns elsewhere. -/
theorem QIs.keptM {w w' : World} {M : Nat → Prop} {q : Nat} {rb : Option Nat} {vN vg vt vC : Value} {fr : Int} {names : List ByteArray} {cf : Rf.Cf} (h : QIs w q rb vN vg vt fr vC names cf) (hk : Kept M w w') (hf : Free w M) (hq : ¬ M q) (hr : ∀ k, rb = some k → ¬ M k) : QIs w' q rb vN vg vt fr vC names cf :=
  ⟨(hk.block q (blk_lt h.b) hq).trans h.b, Seen.kept h.n hk hf.s, h.s.kept hk hf, h.r.kept hk hf (fun k e => hr k (h.o.symm.trans e)), h.o⟩
theorem QIs.below {w w' : World} {q : Nat} {rb : Option Nat} {vN vg vt vC : Value} {fr : Int} {names : List ByteArray} {cf : Rf.Cf} (h : QIs w q rb vN vg vt fr vC names cf) (hb : Below w.heap.size w w') : QIs w' q rb vN vg vt fr vC names cf :=
  h.keptM (Kept.of_below hb (fun _ => False)) (Free.none w) (fun e => e) (fun _ _ e => e)
theorem QAt.below {w w' : World} {q : Nat} {rb : Option Nat} {names : List ByteArray} {cf : Rf.Cf} (h : QAt w q rb names cf) (hb : Below w.heap.size w w') : QAt w' q rb names cf := by
  obtain ⟨_, _, _, _, _, h⟩ := h.ex
  exact (h.below hb).at
theorem QB.facts {w : World} {q : Nat} {vN vg vt vC : Value} {fr : Int} (h : QB w q vN vg vt fr vC) : w.cell? ⟨q, 0, none⟩ = some vN ∧ w.cell? ⟨q, 1, none⟩ = some vg ∧ w.cell? ⟨q, 2, none⟩ = some vt ∧ w.cell? ⟨q, 3, none⟩ = some (.int .i64 fr) ∧ w.cell? ⟨q, 4, none⟩ = some vC ∧ (∀ i, w.frozen? ⟨q, i, none⟩ = false) ∧ q < w.heap.size :=
  ⟨blk_cell h 0, blk_cell h 1, blk_cell h 2, blk_cell h 3, blk_cell h 4, blk_frozen h, blk_lt h⟩
/-- Clauses in memory, as they are read. -/
structure SeenCls (w : World) (v : Value) (cls : List Rf.Cl) : Prop where
  ex : ∃ acc : List (PClV × Rf.Cl), Seen w 72 pclCells v (acc.map (·.1)) ∧ (∀ x ∈ acc, SeenCl w x.1.h x.1.b x.2) ∧ cls = acc.map (·.2)
theorem SeenCl.kept {w w' : World} {M : Nat → Prop} {hx bx : SlV} {cl : Rf.Cl} (h : SeenCl w hx bx cl) (hk : Kept M w w') (hf : Free w M) : SeenCl w' hx bx cl := ⟨Seen.kept h.head hk hf.p, h.body.keptM hk hf.p hf.t⟩
theorem SeenCls.kept {w w' : World} {M : Nat → Prop} {v : Value} {cls : List Rf.Cl} (h : SeenCls w v cls) (hk : Kept M w w') (hf : Free w M) : SeenCls w' v cls := by
  obtain ⟨acc, h1, h2, h3⟩ := h.ex
  exact ⟨acc, h1.kept hk hf.c, fun x hx => (h2 x hx).kept hk hf, h3⟩
theorem SeenCls.below {w w' : World} {v : Value} {cls : List Rf.Cl} (h : SeenCls w v cls) (hb : Below w.heap.size w w') : SeenCls w' v cls := h.kept (Kept.of_below hb (fun _ => False)) (Free.none w)
theorem SeenCls.slice {w : World} {v : Value} {cls : List Rf.Cl} (h : SeenCls w v cls) : ∃ a c, v = .slice a cls.length c := by
  obtain ⟨acc, h1, _, rfl⟩ := h.ex
  obtain ⟨a, c, e⟩ := h1.slice
  exact ⟨a, c, by rw [e, List.length_map, List.length_map]⟩
/-- What is asked of a state by the calls, out of what is kept of it. -/
theorem StG.ok {N : Nat} {S : Rf.St} {F : Int} (h : Rf.StG N F S) (hF : F ≤ 1000000) : StOk S N :=
  ⟨h.gl, fun t ht => ⟨(h.g t ht).1, fun p hp => ((h.g t ht).2 p hp).1⟩, h.tl, fun t ht => ⟨(h.t t ht).1, fun p hp => ((h.t t ht).2 p hp).1⟩, h.f0, by have := h.f1; omega⟩
theorem ClG.ok {c : Rf.Cl} (h : Rf.ClG c) : ClGood c :=
  ⟨⟨h.hd.1, fun p hp hk => (h.hd.2 p hp).2.1 hk, h.bl, fun t ht => ⟨(h.bd t ht).1, fun p hp hk => ((h.bd t ht).2 p hp).2.1 hk⟩⟩, fun p hp => (h.hd.2 p hp).1, fun t ht p hp => ((h.bd t ht).2 p hp).1⟩
end Go.Proofs.YtpdikdnffehmkaaDoor
/- The program's question (play: meet, dropTo, use): the plain functions' answers. -/
namespace Go.Proofs.YtpdikdnffehmkaaDoor
open Go.RowKit
/-- A question whose block is written at one cell. -/
theorem QB.set {w : World} {q : Nat} {cs : Array Value} {t : TypeId} (h : w.heap[q]? = some (.cells cs t (0, 0))) (i : Nat) (u : Value) : (w.setCell ⟨q, i, none⟩ u).heap[q]? = some (.cells (cs.setIfInBounds i u) t (0, 0)) := blk_set h i u
theorem kept_q {w : World} {q : Nat} {rb : Option Nat} (i : Nat) (u : Value) : Kept (May q rb) w (w.setCell ⟨q, i, none⟩ u) := (Kept.refl _ w).setCell (p := ⟨q, i, none⟩) (.inr (.inl rfl)) u
theorem QIs.rq {w : World} {q : Nat} {rb : Option Nat} {vN vg vt vC : Value} {fr : Int} {names : List ByteArray} {cf : Rf.Cf} (h : QIs w q rb vN vg vt fr vC names cf) : rb ≠ some q := by
  intro e
  obtain ⟨acc, hr, _, _⟩ := h.r.ex
  obtain ⟨cs', hc'⟩ := hr.typed q (h.o.trans e)
  have hb := h.b
  unfold QB at hb
  rw [hb] at hc'
  injection hc' with h3; injection h3 with _ h4
  exact absurd h4 (by decide)
/-- What is seen is still seen behind a write into a question's block. -/
theorem Free.q {w : World} {q : Nat} {cs : Array Value} (h : w.heap[q]? = some (.cells cs 62 (0, 0))) : Free w (fun k => k = q) := by
  have key : ∀ t : TypeId, t ≠ 62 → ∀ k cs', w.heap[k]? = some (.cells cs' t (0, 0)) → ¬ k = q := by
    intro t ht k cs' hc e
    subst e
    rw [h] at hc
    injection hc with h3; injection h3 with _ h4
    exact ht h4.symm
  exact ⟨key _ (by decide), key _ (by decide), key _ (by decide), key _ (by decide), key _ (by decide)⟩
theorem kept_one {w : World} {q : Nat} (i : Nat) (u : Value) : Kept (fun k => k = q) w (w.setCell ⟨q, i, none⟩ u) := (Kept.refl (fun k => k = q) w).setCell (p := ⟨q, i, none⟩) (.inr rfl) u
/-- A new state for the question: its three cells are written. -/
theorem QIs.now {w w' : World} {q : Nat} {rb : Option Nat} {vN vg vt vC vg' vt' : Value} {fr fr' : Int} {names : List ByteArray} {cf : Rf.Cf} {S : Rf.St} (h : QIs w q rb vN vg vt fr vC names cf) (hk : Kept (fun k => k = q) w w') (hb : QB w' q vN vg' vt' fr' vC) (hs : StIs w vg' vt' fr' S) : QIs w' q rb vN vg' vt' fr' vC names ⟨S, cf.chs⟩ := by
  have hf := Free.q h.b
  have hrq := h.rq
  exact ⟨hb, Seen.kept h.n hk hf.s, hs.kept hk hf, h.r.kept hk hf (fun k e e2 => hrq (by rw [← h.o, e, e2])), h.o⟩
theorem SeenTs.pos {w : World} {a : Option Addr} {n c : Nat} {ts : List (List Rf.Part)} (h : SeenTs w (.slice a n c) ts) (hne : ts ≠ []) : ∃ g off, a = some ⟨g, off, none⟩ ∧ g < w.heap.size ∧ n = ts.length ∧ 1 ≤ n ∧ n ≤ c := by
  obtain ⟨acc, h1, h2, rfl⟩ := h.ex
  have hl : 1 ≤ (acc.map (·.1)).length := by
    cases acc with
    | nil => exact absurd rfl hne
    | cons => simp
  obtain ⟨g, off, rfl⟩ := h1.pos hl
  have hn := h1.len
  have hc := h1.cap
  rw [List.length_map] at hn hl hc
  exact ⟨g, off, rfl, h1.lt, by rw [List.length_map]; exact hn, by omega, by omega⟩
theorem SeenTs.tail1 {w : World} {g off n c : Nat} {ts : List (List Rf.Part)} (h : SeenTs w (.slice (some ⟨g, off, none⟩) n c) ts) (hc : c = 1) : SeenTs w (.slice (some ⟨g, off, none⟩) (ts.length - 1) 0) ts.tail := by
  obtain ⟨acc, h1, h2, rfl⟩ := h.ex
  refine ⟨acc.tail, ?_, fun q hq => h2 q (List.mem_of_mem_tail hq), by rw [List.map_tail]⟩
  have h3 := h1.dropEnd 1 hc
  rw [List.length_map] at h3
  rw [List.length_map, List.map_tail, ← List.drop_one]
  exact h3
theorem SeenTs.tail2 {w : World} {g off n c : Nat} {ts : List (List Rf.Part)} (h : SeenTs w (.slice (some ⟨g, off, none⟩) n c) ts) (hne : ts ≠ []) : SeenTs w (.slice (some ⟨g, off + 1, none⟩) (ts.length - 1) (c - 1)) ts.tail := by
  obtain ⟨acc, h1, h2, rfl⟩ := h.ex
  refine ⟨acc.tail, ?_, fun q hq => h2 q (List.mem_of_mem_tail hq), by rw [List.map_tail]⟩
  have h3 := h1.drop slCells_len 1 (by cases acc with | nil => exact absurd rfl hne | cons => simp)
  rw [List.length_map] at h3
  rw [List.length_map, List.map_tail, ← List.drop_one]
  exact h3
set_option maxHeartbeats 1000000 in
theorem pmeet_any (w : World) (q : Nat) (rb : Option Nat) (names : List ByteArray) (cf : Rf.Cf) (h : QAt w q rb names cf) (hne : cf.now.goals ≠ []) :
    Calls Tryd.prog 73 #[.pointer (some ⟨q, 0, none⟩)] w fun r w' => r = .returned (.int .i64 0) ∧ QAt w' q rb names (Rf.meetP cf).2 ∧ Kept (May q rb) w w' := by
  obtain ⟨vN, vg, vt, fr, vC, hQ⟩ := h.ex
  obtain ⟨k0, k1, k2, k3, k4, kf, kl⟩ := hQ.b.facts
  obtain ⟨ag, cg, rfl⟩ := hQ.s.g.slice
  obtain ⟨g, off, rfl, hgl, _, hp1, hp2⟩ := hQ.s.g.pos hne
  have HQ : Hid _ := hQ
  have Hne : Hid _ := hne
  clear h hQ hne
  go_enter Tryd.func73, Tryd.ntmps73
  go_wp2_with fail
  all_goals
    go_ret
    refine ⟨rfl, ?_, kept_q _ _⟩
    refine (QIs.now (S := ⟨cf.now.goals.tail, cf.now.terms, cf.now.fresh⟩) HQ.out (kept_one _ _) (blk_set HQ.out.b 1 _) ⟨?_, HQ.out.s.t, HQ.out.s.f⟩).at
  · exact HQ.out.s.g.tail1 ‹_›
  · exact HQ.out.s.g.tail2 Hne.out
/-- The last of a row of choices is written over and dropped. -/
theorem row_setBeyond {α : Type} {w : World} {base : Nat} {e : TypeId} {size : Nat} {C : α → List Value} {g n cap : Nat} {xs : List α} (hC : ∀ x, (C x).length = size) (h : RowIs w base e size C (.slice (some ⟨g, 0, none⟩) n cap) xs) (j : Nat) (hj : n * size ≤ j) (u : Value) : RowIs (w.setCell ⟨g, j, none⟩ u) base e size C (.slice (some ⟨g, 0, none⟩) n cap) xs := by
  have hn := row_len h
  rcases h.own.2 with ⟨h1, _⟩ | ⟨g', cap', cur, h1, h2, h3, h4, h5, h6, h7⟩
  · cases h1
  · obtain ⟨rfl, rfl⟩ : g = g' ∧ cap = cap' := by injection h1 with a1 a2 a3; injection a1 with a1; injection a1 with a1; exact ⟨a1, a3⟩
    subst hn
    refine ⟨h.own.1, .inr ⟨g, cap, cur.setIfInBounds j u, rfl, h2, ?_, h4, h5, by simpa using h6, ?_⟩⟩
    · simp [World.setCell, Array.getElem?_modify, h3]
    · rw [Array.toList_setIfInBounds, List.take_set, h7]
      rw [List.set_eq_of_length_le]
      rw [flatMap_len C hC]; exact hj
theorem ChsAt.shape {w : World} {v : Value} {chs : List Rf.Ch} (h : ChsAt w v chs) : (v = .slice none 0 0 ∧ chs = []) ∨ ∃ g cap, v = .slice (some ⟨g, 0, none⟩) chs.length cap ∧ g < w.heap.size ∧ chs.length ≤ cap ∧ cap ≤ maxLen := by
  obtain ⟨acc, h1, _, h3⟩ := h.ex
  have hl : acc.length = chs.length := by have := congrArg List.length h3; simpa using this
  rcases h1.shape with ⟨e1, e2⟩ | ⟨g, cap, e1, _, e2⟩
  · refine .inl ⟨e1, ?_⟩
    have : acc = [] := by simpa using e2
    rw [this] at hl
    exact List.length_eq_zero_iff.1 hl.symm
  · rw [List.length_map, hl] at e1 e2
    exact .inr ⟨g, cap, e1, e2⟩
theorem acc_last {acc : List (ChV × Rf.Ch)} {c : Rf.Ch} {low : List Rf.Ch} (h : acc.map (·.2) = (c :: low).reverse) : ∃ acc' x, acc = acc' ++ [(x, c)] ∧ acc'.map (·.2) = low.reverse := by
  rw [List.reverse_cons] at h
  obtain ⟨a1, a2, e, h1, h2⟩ := List.map_eq_append_iff.1 h
  obtain ⟨y, rfl, hy⟩ := List.map_eq_singleton_iff.1 h2
  exact ⟨a1, y.1, by rw [e, ← hy], h1⟩
/-- The latest choice: its cells; and the row without it. -/
theorem ChsAt.last {w : World} {g n cap : Nat} {c : Rf.Ch} {low : List Rf.Ch} (h : ChsAt w (.slice (some ⟨g, 0, none⟩) n cap) (c :: low)) : ∃ x, ChIs w x c ∧ (∀ j u, (chCells x)[j]? = some u → w.cell? ⟨g, low.length * 4 + j, none⟩ = some u) ∧ (∀ i, w.frozen? ⟨g, i, none⟩ = false) ∧ ChsAt w (.slice (some ⟨g, 0, none⟩) low.length cap) low := by
  obtain ⟨acc, h1, h2, h3⟩ := h.ex
  obtain ⟨acc', x, rfl, h4⟩ := acc_last h3
  have hl : acc'.length = low.length := by have := congrArg List.length h4; simpa using this
  have hn := row_len h1
  rw [List.map_append, List.length_append, List.length_map] at hn
  simp only [List.map_cons, List.map_nil, List.length_cons, List.length_nil] at hn
  rw [hn] at h1
  rw [List.map_append] at h1
  refine ⟨x, h2 (x, c) (by simp), fun j u hu => ?_, fun i => row_frozen h1 i, acc', ?_, fun y hy => h2 y (by simp [hy]), h4⟩
  · have h9 := h1.seen.cells chCells_len acc'.length x (by simp) j u hu
    rw [hl] at h9
    simpa using h9
  · have h9 := row_pop (n := acc'.length) chCells_len h1
    rw [hl] at h9
    exact h9
/-- Writing behind a row of choices. -/
theorem ChsAt.beyond {w : World} {g n cap : Nat} {chs : List Rf.Ch} (h : ChsAt w (.slice (some ⟨g, 0, none⟩) n cap) chs) (hf : Free w (fun k => k = g)) (j : Nat) (hj : n * 4 ≤ j) (u : Value) : ChsAt (w.setCell ⟨g, j, none⟩ u) (.slice (some ⟨g, 0, none⟩) n cap) chs := by
  obtain ⟨acc, h1, h2, h3⟩ := h.ex
  exact ⟨acc, row_setBeyond chCells_len h1 j hj u, fun x hx => (h2 x hx).kept (kept_one j u) hf, h3⟩
theorem ChsAt.slice {w : World} {v : Value} {chs : List Rf.Ch} (h : ChsAt w v chs) : ∃ a c, v = .slice a chs.length c := by
  rcases h.shape with ⟨rfl, rfl⟩ | ⟨g, cap, rfl, _⟩
  · exact ⟨_, _, rfl⟩
  · exact ⟨_, _, rfl⟩
theorem QIs.turn {w w' : World} {q : Nat} {rb rb' : Option Nat} {vN vg vt vC vg' vt' vC' : Value} {fr fr' : Int} {names : List ByteArray} {cf cf' : Rf.Cf} (h : QIs w q rb vN vg vt fr vC names cf) (hk : Kept (May q rb) w w') (hb : QB w' q vN vg' vt' fr' vC') (hs : StIs w' vg' vt' fr' cf'.now) (hr : ChsAt w' vC' cf'.chs) (ho : vC'.ownBlock = rb') : QIs w' q rb' vN vg' vt' fr' vC' names cf' := ⟨hb, Seen.kept h.n hk h.free.s, hs, hr, ho⟩
/-- The latest choice is dropped. -/
theorem QIs.drop {w : World} {q : Nat} {rb : Option Nat} {vN vg vt : Value} {fr : Int} {g n m cap : Nat} {names : List ByteArray} {cf : Rf.Cf} {low : List Rf.Ch} (h : QIs w q rb vN vg vt fr (.slice (some ⟨g, 0, none⟩) n cap) names cf) (hlo : ChsAt w (.slice (some ⟨g, 0, none⟩) m cap) low) (u0 u1 u2 u3 : Value) : QAt (((((w.setCell ⟨g, m * 4, none⟩ u0).setCell ⟨g, m * 4 + 1, none⟩ u1).setCell ⟨g, m * 4 + 2, none⟩ u2).setCell ⟨g, m * 4 + 3, none⟩ u3).setCell ⟨q, 4, none⟩ (.slice (some ⟨g, 0, none⟩) m cap)) q rb names ⟨cf.now, low⟩ ∧ Kept (May q rb) w (((((w.setCell ⟨g, m * 4, none⟩ u0).setCell ⟨g, m * 4 + 1, none⟩ u1).setCell ⟨g, m * 4 + 2, none⟩ u2).setCell ⟨g, m * 4 + 3, none⟩ u3).setCell ⟨q, 4, none⟩ (.slice (some ⟨g, 0, none⟩) m cap)) := by
  have hrb : rb = some g := h.o.symm
  have hqg : ¬ q = g := fun e => h.rq (by rw [hrb, e])
  have hM : May q rb g := .inr hrb.symm
  have hk4 : Kept (May q rb) w ((((w.setCell ⟨g, m * 4, none⟩ u0).setCell ⟨g, m * 4 + 1, none⟩ u1).setCell ⟨g, m * 4 + 2, none⟩ u2).setCell ⟨g, m * 4 + 3, none⟩ u3) := ((((Kept.refl _ w).setCell (p := ⟨g, _, none⟩) (.inr hM) u0).setCell (p := ⟨g, _, none⟩) (.inr hM) u1).setCell (p := ⟨g, _, none⟩) (.inr hM) u2).setCell (p := ⟨g, _, none⟩) (.inr hM) u3
  have hk5 := hk4.setCell (p := ⟨q, 4, none⟩) (.inr (.inl rfl)) (.slice (some ⟨g, 0, none⟩) m cap)
  have hkg : Kept (fun k => k = g) w ((((w.setCell ⟨g, m * 4, none⟩ u0).setCell ⟨g, m * 4 + 1, none⟩ u1).setCell ⟨g, m * 4 + 2, none⟩ u2).setCell ⟨g, m * 4 + 3, none⟩ u3) := ((((Kept.refl (fun k => k = g) w).setCell (p := ⟨g, _, none⟩) (.inr rfl) u0).setCell (p := ⟨g, _, none⟩) (.inr rfl) u1).setCell (p := ⟨g, _, none⟩) (.inr rfl) u2).setCell (p := ⟨g, _, none⟩) (.inr rfl) u3
  refine ⟨(QIs.turn (cf' := ⟨cf.now, low⟩) h hk5 (blk_set ((hkg.block q (blk_lt h.b) hqg).trans h.b) 4 _) (h.s.kept hk5 h.free) ?_ hrb.symm).at, hk5⟩
  obtain ⟨acc, h1, h2, h3⟩ := hlo.ex
  refine ⟨acc, ?_, fun x hx => (h2 x hx).kept hk5 h.free, h3⟩
  exact (row_setBeyond chCells_len (row_setBeyond chCells_len (row_setBeyond chCells_len (row_setBeyond chCells_len h1 _ (by omega) u0) _ (by omega) u1) _ (by omega) u2) _ (by omega) u3).setCell _ _ (fun e => hqg (by injection e with e; exact e.symm))
set_option maxHeartbeats 1000000 in
set_option maxRecDepth 100000 in
theorem pdropTo_any (w : World) (q : Nat) (rb : Option Nat) (names : List ByteArray) (cf : Rf.Cf) (ht : Int) (h : QAt w q rb names cf) (hl : cf.chs.length ≤ 20) :
    Calls Tryd.prog 56 #[.pointer (some ⟨q, 0, none⟩), .int .i64 ht] w fun r w' => r = .returned (.tuple #[]) ∧ QAt w' q rb names ⟨cf.now, Rf.dropC cf.chs ht⟩ ∧ Kept (May q rb) w w' := by
  obtain ⟨vN, vg, vt, fr, vC, hQ⟩ := h.ex
  obtain ⟨k0, k1, k2, k3, k4, kf, kl⟩ := hQ.b.facts
  obtain ⟨ac, cc, rfl⟩ := hQ.r.slice
  have HQ : Hid _ := h
  clear h hQ
  obtain ⟨n0, hn0⟩ : ∃ n, Hid (cf.chs.length = n) := ⟨_, rfl⟩
  rw [hn0.out] at hl k4
  go_enter Tryd.func56, Tryd.ntmps56
  go_wp2_with fail
  clear k0 k1 k2 k3 k4 kf kl
  go_loopw [4] (fun iv wr => ∃ m : Nat, m ≤ n0 ∧ iv = .int .i64 ((m : Int) - 1) ∧ Hid (ht.toNat ≤ m ∨ n0 = m) ∧ QAt wr q rb names ⟨cf.now, cf.chs.drop (n0 - m)⟩ ∧ Kept (May q rb) w wr) (fun iv _ => (intOf iv + 1).toNat)
  case atStart => exact ⟨n0, Nat.le_refl _, rfl, .inr rfl, by rw [Nat.sub_self, List.drop_zero]; exact HQ.out, Kept.refl _ _⟩
  case round =>
    obtain ⟨m, hm, rfl, hh, hQ, hk⟩ := hrel
    by_cases hgo : 1 ≤ m ∧ ht ≤ (m : Int) - 1
    · obtain ⟨m, rfl⟩ : ∃ m', m = m' + 1 := ⟨m - 1, by omega⟩
      obtain ⟨vN, vg, vt, fr, vC, hQ⟩ := hQ.ex
      obtain ⟨c, low, hcl⟩ : ∃ c low, cf.chs.drop (n0 - (m + 1)) = c :: low := by
        cases hd : cf.chs.drop (n0 - (m + 1)) with
        | nil => have := congrArg List.length hd; rw [List.length_drop, hn0.out] at this; simp at this; omega
        | cons c low => exact ⟨c, low, rfl⟩
      have hlow : Hid (cf.chs.drop (n0 - m) = low) := by
        unfold Hid
        have h9 := congrArg List.tail hcl
        rw [List.tail_drop, List.tail_cons] at h9
        rw [← h9]; congr 1; omega
      have hll : low.length = m := by have h9 := congrArg List.length hcl; rw [List.length_drop, hn0.out, List.length_cons] at h9; omega
      rw [hcl] at hQ
      obtain ⟨k0, k1, k2, k3, k4, kf, kl⟩ := hQ.b.facts
      rcases hQ.r.shape with ⟨_, e⟩ | ⟨g, cap, rfl, hgl, hcap, hmax⟩
      · cases e
      rw [List.length_cons, hll] at hcap k4
      obtain ⟨x, hx, hxc, hxf, hlo⟩ := hQ.r.last
      rw [hll] at hxc hlo
      have x0 := hxc 0 _ rfl
      have x1 := hxc 1 _ rfl
      have x2 := hxc 2 _ rfl
      have x3 := hxc 3 _ rfl
      rw [Nat.add_zero] at x0
      have HQ1 : Hid _ := hQ
      have HLo : Hid _ := hlo
      have Hh := hh
      clear hQ hcl hx hxc hlo
      rw [show (((m + 1 : Nat) : Int) - 1) = (m : Int) by omega]
      have h2 : ht ≤ (m : Int) := by omega
      have hqg : ¬ g = q := fun e => HQ1.out.rq (by rw [← HQ1.out.o, e]; rfl)
      have hqg' : ¬ q = g := fun e => hqg e.symm
      go_wp2_with fail
      go_roundw
      case rel =>
        obtain ⟨r1, r2⟩ := QIs.drop HQ1.out HLo.out (.slice none 0 0) (.slice none 0 0) (.int .i64 0) (.slice none 0 0)
        exact ⟨m, by omega, rfl, by unfold Hid; omega, by rw [hlow.out]; exact r1, hk.trans r2 (fun _ _ h => h)⟩
      case measure => simp [intOf]
    · have hd : Hid (Rf.dropC cf.chs ht = cf.chs.drop (n0 - m)) := by
        unfold Hid Rf.dropC
        rw [hn0.out]
        have := hh.out
        congr 1
        omega
      by_cases h0 : (m : Int) - 1 < 0
      · have h0' : ¬ (0 ≤ (m : Int) - 1) := by omega
        go_wp2_with fail
        go_end0
        exact ⟨rfl, by rw [hd.out]; exact hQ, hk⟩
      · have h1 : ¬ ht ≤ (m : Int) - 1 := by omega
        have h0' : 0 ≤ (m : Int) - 1 := by omega
        go_wp2_with fail
        go_end0
        exact ⟨rfl, by rw [hd.out]; exact hQ, hk⟩
end Go.Proofs.YtpdikdnffehmkaaDoor
/- The program's question (play: use): the plain functions' answers. -/
namespace Rf
theorem matchN_snoc (S : St) (c : Cl) : ∀ (i : Nat) (cs : List Cl), matchN S i (cs ++ [c]) = matchN S i cs ++ (if matchB S c = true then [i + cs.length] else [])
  | _, [] => by simp [matchN]
  | i, d :: cs => by
    rw [List.cons_append, matchN, matchN, matchN_snoc S c (i + 1) cs, List.length_cons, List.append_assoc, show i + 1 + cs.length = i + (cs.length + 1) by omega]
end Rf
namespace Go.Proofs.YtpdikdnffehmkaaDoor
open Go.RowKit
theorem QIs.now3 {w : World} {q : Nat} {rb : Option Nat} {vN vg vt vC vg' vt' : Value} {fr fr' : Int} {names : List ByteArray} {cf : Rf.Cf} {S : Rf.St} (h : QIs w q rb vN vg vt fr vC names cf) (hs : StIs w vg' vt' fr' S) : QIs (((w.setCell ⟨q, 1, none⟩ vg').setCell ⟨q, 2, none⟩ vt').setCell ⟨q, 3, none⟩ (.int .i64 fr')) q rb vN vg' vt' fr' vC names ⟨S, cf.chs⟩ ∧ Kept (May q rb) w (((w.setCell ⟨q, 1, none⟩ vg').setCell ⟨q, 2, none⟩ vt').setCell ⟨q, 3, none⟩ (.int .i64 fr')) := by
  refine ⟨QIs.now h ((((Kept.refl (fun k => k = q) w).setCell (p := ⟨q, 1, none⟩) (.inr rfl) _).setCell (p := ⟨q, 2, none⟩) (.inr rfl) _).setCell (p := ⟨q, 3, none⟩) (.inr rfl) _) (blk_set (blk_set (blk_set h.b 1 _) 2 _) 3 _) hs, (((Kept.refl _ w).setCell (p := ⟨q, 1, none⟩) (.inr (.inl rfl)) _).setCell (p := ⟨q, 2, none⟩) (.inr (.inl rfl)) _).setCell (p := ⟨q, 3, none⟩) (.inr (.inl rfl)) _⟩
set_option maxHeartbeats 1000000 in
set_option maxRecDepth 100000 in
theorem puse_any (w : World) (q : Nat) (rb : Option Nat) (names : List ByteArray) (cf : Rf.Cf) (vg vt : Value) (fr : Int) (S : Rf.St) (hx bx : SlV) (c : Rf.Cl) (ht : Int) (N : Nat) (F : Int) (h : QAt w q rb names cf) (hS : StIs w vg vt fr S) (hG : Rf.StG N F S) (hN : N ≤ 9000) (hF : F ≤ 1000000) (hne : S.goals ≠ []) (hC : SeenCl w hx bx c) (hc : Rf.ClG c) :
    Calls Tryd.prog 57 #[.pointer (some ⟨q, 0, none⟩), .agg #[vg, vt, .int .i64 fr], .agg #[.slice hx.a hx.n hx.c, .slice bx.a bx.n bx.c], .int .i64 ht] w fun r w' => r = .returned (.int .i64 (Rf.useP cf S c ht).1) ∧ QAt w' q rb names (Rf.useP cf S c ht).2 ∧ Kept (May q rb) w w' := by
  obtain ⟨vN, ug, ut, ur, vC, hQ⟩ := h.ex
  have HQ : Hid _ := hQ
  have HW : Hid _ := fun w' => @pwith_any w' vg vt fr ht S hx bx c N
  have HS : Hid _ := hS
  have HO : Hid _ := StG.ok hG hF
  have HC : Hid _ := hC
  have HCG : Hid _ := ClG.ok hc
  have Hne : Hid _ := hne
  obtain ⟨sa, sc, rfl⟩ := hS.g.slice
  obtain ⟨ta, tc, rfl⟩ := hS.t.slice
  clear h hQ hS hG hC hc hne
  obtain ⟨o, ho⟩ : ∃ o, Hid ((Rf.withS S c ht).1 = o) := ⟨_, rfl⟩
  have HU : Hid (Rf.useP cf S c ht = (o, if o = 0 then ⟨(Rf.withS S c ht).2, cf.chs⟩ else cf)) := by unfold Hid Rf.useP; rw [ho.out]
  by_cases h0 : o = 0
  · subst h0
    have HU0 : Hid (Rf.useP cf S c ht = (0, ⟨(Rf.withS S c ht).2, cf.chs⟩)) := HU.out
    clear HU
    go_enter Tryd.func57, Tryd.ntmps57
    go_wp2_with (go_at_call 72; refine (pwith_any _ (.slice sa S.goals.length sc) (.slice ta S.terms.length tc) fr ht S hx bx c N (HS.out.below (by repeat (first | exact Below.refl _ _ | refine Below.setCell ?_ (by simp <;> omega) _ | refine Below.drew ?_ | refine Below.drewN ?_ _ | refine Below.alloc ?_ (by simp <;> omega) _))) HO.out hN Hne.out (HC.out.below (by repeat (first | exact Below.refl _ _ | refine Below.setCell ?_ (by simp <;> omega) _ | refine Below.drew ?_ | refine Below.drewN ?_ _ | refine Below.alloc ?_ (by simp <;> omega) _))) HCG.out).mono ?_; rintro r w1 ⟨a3, n3, c3, a4, n4, c4, fr', rfl, hS1, hb1⟩; rw [ho.out]; have hbw : Below w.heap.size w w1 := Below.trans ((by repeat (first | exact Below.refl _ _ | refine Below.setCell ?_ (by simp <;> omega) _ | refine Below.drew ?_ | refine Below.drewN ?_ _ | refine Below.alloc ?_ (by simp <;> omega) _)) : Below w.heap.size w ((w.alloc _).alloc _)) (hb1.mono (by simp only [World.size_alloc]; omega)); have hz := hbw.size; have hQ1 := HQ.out.below hbw; obtain ⟨k0, k1, k2, k3, k4, kf, kl⟩ := hQ1.b.facts)
    go_ret
    rw [HU0.out]
    obtain ⟨r1, r2⟩ := QIs.now3 hQ1 hS1
    refine ⟨rfl, (r1.below ((Below.refl _ _).alloc (Nat.le_refl _) _)).at, ?_⟩
    exact ((Kept.of_below hbw _).trans r2 (fun _ _ h => h)).alloc _
  · have h0' : (o == 0) = false := beq_eq_false_iff_ne.2 h0
    go_enter Tryd.func57, Tryd.ntmps57
    go_wp2_with (go_at_call 72; refine (pwith_any _ (.slice sa S.goals.length sc) (.slice ta S.terms.length tc) fr ht S hx bx c N (HS.out.below (by repeat (first | exact Below.refl _ _ | refine Below.setCell ?_ (by simp <;> omega) _ | refine Below.drew ?_ | refine Below.drewN ?_ _ | refine Below.alloc ?_ (by simp <;> omega) _))) HO.out hN Hne.out (HC.out.below (by repeat (first | exact Below.refl _ _ | refine Below.setCell ?_ (by simp <;> omega) _ | refine Below.drew ?_ | refine Below.drewN ?_ _ | refine Below.alloc ?_ (by simp <;> omega) _))) HCG.out).mono ?_; rintro r w1 ⟨a3, n3, c3, a4, n4, c4, fr', rfl, hS1, hb1⟩; rw [ho.out]; have hbw : Below w.heap.size w w1 := Below.trans ((by repeat (first | exact Below.refl _ _ | refine Below.setCell ?_ (by simp <;> omega) _ | refine Below.drew ?_ | refine Below.drewN ?_ _ | refine Below.alloc ?_ (by simp <;> omega) _)) : Below w.heap.size w ((w.alloc _).alloc _)) (hb1.mono (by simp only [World.size_alloc]; omega)); have hz := hbw.size; have hQ1 := HQ.out.below hbw; obtain ⟨k0, k1, k2, k3, k4, kf, kl⟩ := hQ1.b.facts)
    go_ret
    rw [HU.out, if_neg h0]
    refine ⟨rfl, ?_, ?_⟩
    · exact (hQ1.below (by repeat (first | exact Below.refl _ _ | refine Below.setCell ?_ (by simp <;> omega) _ | refine Below.drew ?_ | refine Below.drewN ?_ _ | refine Below.alloc ?_ (by simp <;> omega) _))).at
    · exact Kept.of_below (hbw.trans ((Below.refl _ w1).alloc hz _)) _
theorem SeenTs.first {w : World} {g off n c : Nat} {ts : List (List Rf.Part)} (h : SeenTs w (.slice (some ⟨g, off, none⟩) n c) ts) (hne : ts ≠ []) : ∃ x : SlV, w.cell? ⟨g, off, none⟩ = some (.slice x.a x.n x.c) ∧ Seen w 65 partCells (.slice x.a x.n x.c) (ts.headD []) := by
  obtain ⟨acc, h1, h2, rfl⟩ := h.ex
  cases acc with
  | nil => exact absurd rfl hne
  | cons y acc => exact ⟨y.1, by simpa using Seen.termAt h1 0 y.1 (by simp), h2 y (by simp)⟩
theorem Seen.natAt {w : World} {g off n c : Nat} {xs : List Nat} (h : Seen w 3 natCells (.slice (some ⟨g, off, none⟩) n c) xs) (k : Nat) (x : Nat) (hx : xs[k]? = some x) : w.cell? ⟨g, off + k, none⟩ = some (.int .i64 (x : Nat)) := by
  have := h.cells natCells_len k x hx 0 _ rfl
  simpa using this
theorem SeenCls.at {w : World} {a : Option Addr} {n c : Nat} {cls : List Rf.Cl} (h : SeenCls w (.slice a n c) cls) (k : Nat) (hk : k < cls.length) : ∃ (g off : Nat) (x : PClV), a = some ⟨g, off, none⟩ ∧ g < w.heap.size ∧ n = cls.length ∧ SeenCl w x.h x.b (cls.getD k Rf.noCl) ∧ w.cell? ⟨g, off + k * 2, none⟩ = some (.slice x.h.a x.h.n x.h.c) ∧ w.cell? ⟨g, off + k * 2 + 1, none⟩ = some (.slice x.b.a x.b.n x.b.c) := by
  obtain ⟨acc, h1, h2, rfl⟩ := h.ex
  rw [List.length_map] at hk
  obtain ⟨g, off, rfl⟩ := h1.pos (by rw [List.length_map]; omega)
  have hx : (acc.map (·.1))[k]? = some acc[k].1 := by simp [hk]
  have c0 := h1.cells pclCells_len k _ hx 0 _ rfl
  have c1 := h1.cells pclCells_len k _ hx 1 _ rfl
  refine ⟨g, off, acc[k].1, rfl, h1.lt, ?_, ?_, ?_, ?_⟩
  · have := h1.len; rw [List.length_map] at this ⊢; exact this
  · have h3 := h2 acc[k] (List.getElem_mem hk)
    rw [List.getD_eq_getElem?_getD, List.getElem?_map, List.getElem?_eq_getElem hk]
    exact h3
  · simpa using c0
  · rw [Nat.add_assoc]; exact c1
end Go.Proofs.YtpdikdnffehmkaaDoor
/- The program's question (play: matching): the plain function's answers. -/
namespace Go.Proofs.YtpdikdnffehmkaaDoor
open Go.RowKit
set_option maxHeartbeats 1000000 in
set_option maxRecDepth 100000 in
theorem pmatching_any (w : World) (vg vt : Value) (fr : Int) (S : Rf.St) (vc : Value) (cls : List Rf.Cl) (N : Nat) (F : Int) (hS : StIs w vg vt fr S) (hG : Rf.StG N F S) (hN : N ≤ 9000) (hF : F ≤ 1000000) (hne : S.goals ≠ []) (hC : SeenCls w vc cls) (hc : Rf.ClsG cls) (hl : cls.length ≤ 30) :
    Calls Tryd.prog 61 #[.agg #[vg, vt, .int .i64 fr], vc] w fun r w' => ∃ a3 n3 c3, r = .returned (.tuple #[.slice a3 n3 c3, .bool (Rf.knownP S cls)]) ∧ Seen w' 3 natCells (.slice a3 n3 c3) (Rf.matchN S 0 cls) ∧ Below w.heap.size w w' := by
  obtain ⟨sa, sc, rfl⟩ := hS.g.slice
  obtain ⟨ta, tc, rfl⟩ := hS.t.slice
  obtain ⟨ca, cc, rfl⟩ := hC.slice
  obtain ⟨g0, o0, rfl, hgl0, _, hp1, hp2⟩ := hS.g.pos hne
  obtain ⟨⟨xa, xn, xc⟩, hx, hX⟩ := hS.g.first hne
  simp only at hx hX
  have HX : Hid (Seen w 65 partCells (.slice xa xn xc) (Rf.goalP S)) := hX
  obtain ⟨p0, hp0⟩ : ∃ p, Hid (Rf.topP (Rf.goalP S) = p) := ⟨_, rfl⟩
  have HS : Hid _ := hS
  have HO : Hid _ := StG.ok hG hF
  have HC : Hid _ := hC
  have HG : Hid (Rf.ClsG cls) := hc
  have Hne : Hid _ := hne
  clear hS hG hC hc hne hX
  go_enter Tryd.func61, Tryd.ntmps61
  go_wp2_with (go_at_call 58; refine (ptopA_any xa xn xc _ _ (HX.out.below (by repeat (first | exact Below.refl _ _ | refine Below.setCell ?_ (by simp <;> omega) _ | refine Below.drew ?_ | refine Below.drewN ?_ _ | refine Below.alloc ?_ (by simp <;> omega) _)))).mono ?_; rintro r w1 ⟨rfl, hb1⟩; rw [hp0.out])
  have hbw1 : Below w.heap.size w w1 := Below.trans ((Below.refl _ w).alloc (Nat.le_refl _) _) (hb1.mono (by rw [World.size_alloc]; omega))
  have hz1 : w.heap.size + 1 ≤ w1.heap.size := by have := hb1.size; rw [World.size_alloc] at this; exact this
  have HB0 : Hid (w1.heap[w.heap.size]? = _) := (hb1.block w.heap.size (by rw [World.size_alloc]; omega)).trans (blk_new w _)
  go_loopw [7, 8, 20] (fun kv mv iv wr => ∃ (k : Nat) (ms : List Nat), k ≤ cls.length ∧ iv = .int .i64 (k : Nat) ∧ kv = .bool (Rf.knownP S (cls.take k)) ∧ ms.length ≤ k ∧ RowIs wr (w1.heap.size + 1) 3 1 natCells mv ms ∧ Hid (Rf.matchN S 0 (cls.take k) = ms) ∧ Below (w1.heap.size + 1) (w1.alloc (.cells #[.int .i64 p0.kind, .string p0.name, .int .i64 p0.value, .int .i64 p0.args] 65)) wr) (fun _ _ iv _ => cls.length - (intOf iv).toNat)
  case atStart => exact ⟨0, [], Nat.zero_le _, rfl, rfl, Nat.le_refl _, RowIs.nil _ _ _ _ _, rfl, Below.refl _ _⟩
  case round =>
    obtain ⟨k, ms, hk, rfl, rfl, hms, hR, hinv, hbr⟩ := hrel
    have hsz := hbr.size
    rw [World.size_alloc] at hsz
    have hbwr : Below w.heap.size w wr := hbw1.trans (Below.trans ((Below.refl _ w1).alloc (by omega) _) (hbr.mono (by omega)))
    obtain ⟨am, cm, hv⟩ := row_slice hR
    subst hv
    by_cases hlt : k < cls.length
    · obtain ⟨gc, oc, xx, rfl, hgl, _, hCl, hc0, hc1⟩ := (HC.out.below hbwr).at k hlt
      have hgc := HG.out.at hlt
      have htk : cls.take (k + 1) = cls.take k ++ [cls.getD k Rf.noCl] := by
        rw [List.take_succ_eq_append_getElem hlt, List.getD_eq_getElem?_getD, List.getElem?_eq_getElem hlt]; rfl
      obtain ⟨cl, hcl⟩ : ∃ cl, Hid (cls.getD k Rf.noCl = cl) := ⟨_, rfl⟩
      rw [hcl.out] at hCl hgc htk
      have HCl : Hid _ := hCl
      have HGc : Hid _ := hgc
      have Htk : Hid _ := htk
      obtain ⟨⟨ha, hn, hc⟩, ⟨ba, bn, bc⟩⟩ := xx
      simp only at hc0 hc1
      have hlt' : (k : Int) < cls.length := by omega
      have P1 : wr.heap[w1.heap.size]? = _ := (hbr.block w1.heap.size (by omega)).trans (blk_new w1 _)
      obtain ⟨q0, q1, q2, q3, ql⟩ := cells4 P1
      have P2 : wr.heap[w.heap.size]? = _ := (hbr.block w.heap.size (by omega)).trans (blk_alloc HB0.out _)
      have s0 := blk_cell P2 0
      have s1 := blk_cell P2 1
      have s2 := blk_cell P2 2
      have sl := blk_lt P2
      simp at s0 s1 s2
      have HP1 : Hid _ := P1
      have HP2 : Hid _ := P2
      clear hCl hgc htk P1 P2
      have hmk : Hid (Rf.matchN S 0 (cls.take (k + 1)) = ms ++ (if Rf.matchB S cl = true then [k] else [])) := by
        unfold Hid
        rw [Htk.out, Rf.matchN_snoc, hinv.out, List.length_take, show 0 + min k cls.length = k by omega]
      have hkk : Hid (Rf.knownP S (cls.take (k + 1)) = (Rf.knownP S (cls.take k) || Rf.hasPred S cl)) := by
        unfold Hid Rf.knownP
        rw [Htk.out, List.any_append]; simp
      have HGc2 : Hid (ClGood cl) := ClG.ok HGc.out
      by_cases hp : Rf.topP cl.head = p0
      · have hpr : Rf.hasPred S cl = true := by unfold Rf.hasPred; rw [hp0.out, hp]; exact Rf.samePart_iff.2 rfl
        obtain ⟨o, ho⟩ : ∃ o, Hid ((Rf.withS S cl 0).1 = o) := ⟨_, rfl⟩
        have hmb : Hid (Rf.matchB S cl = decide (o ≠ -1)) := by unfold Hid Rf.matchB; rw [hpr, ho.out]; rfl
        have hkt : Hid (Rf.knownP S (cls.take (k + 1)) = true) := by unfold Hid; rw [hkk.out, hpr]; simp
        clear hpr
        by_cases ho1 : o = -1
        · subst ho1
          have hm2 : Hid (Rf.matchN S 0 (cls.take (k + 1)) = ms) := by unfold Hid; rw [hmk.out, hmb.out]; simp
          clear hmk hmb
          go_wp2_with fail
          go_region_with (go_at_call 58; refine (ptopA_any ha hn hc _ _ (HCl.out.head.below (by repeat (first | exact Below.refl _ _ | refine Below.setCell ?_ (by simp <;> omega) _ | refine Below.drew ?_ | refine Below.drewN ?_ _ | refine Below.alloc ?_ (by simp <;> omega) _)))).mono ?_; rintro r w2 ⟨rfl, hb2⟩; rw [hp]; have P1' : w2.heap[w1.heap.size]? = _ := (hb2.block w1.heap.size (by simp; omega)).trans (blk_alloc HP1.out _); obtain ⟨y0, y1, y2, y3, yl⟩ := cells4 P1'; have P2' : w2.heap[w.heap.size]? = _ := (hb2.block w.heap.size (by simp; omega)).trans (blk_alloc HP2.out _); have t0 := blk_cell P2' 0; have t1 := blk_cell P2' 1; have t2 := blk_cell P2' 2; simp at t0 t1 t2; have P3' : w2.heap[wr.heap.size]? = _ := (hb2.block wr.heap.size (by simp)).trans (blk_new wr _); have z0 := blk_cell P3' 0; have z1 := blk_cell P3' 1; simp at z0 z1; have zl := blk_lt P3'; have hbw2 : Below wr.heap.size wr w2 := Below.trans ((Below.refl _ wr).alloc (Nat.le_refl _) _).drew (hb2.mono (by simp)); clear P1' P2' P3')
          all_goals
            go_wp2_with (go_at_call 72; refine (pwith_any _ (.slice (some ⟨g0, o0, none⟩) S.goals.length sc) (.slice ta S.terms.length tc) fr 0 S ⟨ha, hn, hc⟩ ⟨ba, bn, bc⟩ cl N (HS.out.below (hbwr.trans (hbw2.mono hbwr.size))) HO.out hN Hne.out (HCl.out.below hbw2) HGc2.out).mono ?_; rintro r w3 ⟨a3, n3, c3, a4, n4, c4, fr', rfl, hS3, hb3⟩; rw [ho.out]; have hbw3 : Below wr.heap.size wr w3 := hbw2.trans (hb3.mono hbw2.size); have hz3 := hbw3.size; have hR3 := hR.below hbw3)
            go_roundw
            case rel => exact ⟨k + 1, ms, by omega, by go_num, by rw [hkt.out], by omega, hR3.below ((Below.refl _ w3).alloc (Nat.le_refl _) _), hm2, hbr.trans (Below.mono (hbw3.alloc hz3 _) (by omega))⟩
            case measure => simp [intOf]; omega
        · have ho1' : (o != -1) = true := bne_iff_ne.2 ho1
          have hm2 : Hid (Rf.matchN S 0 (cls.take (k + 1)) = ms ++ [k]) := by unfold Hid; rw [hmk.out, hmb.out]; simp [ho1]
          clear hmk hmb
          go_wp2_with fail
          go_region_with (go_at_call 58; refine (ptopA_any ha hn hc _ _ (HCl.out.head.below (by repeat (first | exact Below.refl _ _ | refine Below.setCell ?_ (by simp <;> omega) _ | refine Below.drew ?_ | refine Below.drewN ?_ _ | refine Below.alloc ?_ (by simp <;> omega) _)))).mono ?_; rintro r w2 ⟨rfl, hb2⟩; rw [hp]; have P1' : w2.heap[w1.heap.size]? = _ := (hb2.block w1.heap.size (by simp; omega)).trans (blk_alloc HP1.out _); obtain ⟨y0, y1, y2, y3, yl⟩ := cells4 P1'; have P2' : w2.heap[w.heap.size]? = _ := (hb2.block w.heap.size (by simp; omega)).trans (blk_alloc HP2.out _); have t0 := blk_cell P2' 0; have t1 := blk_cell P2' 1; have t2 := blk_cell P2' 2; simp at t0 t1 t2; have P3' : w2.heap[wr.heap.size]? = _ := (hb2.block wr.heap.size (by simp)).trans (blk_new wr _); have z0 := blk_cell P3' 0; have z1 := blk_cell P3' 1; simp at z0 z1; have zl := blk_lt P3'; have hbw2 : Below wr.heap.size wr w2 := Below.trans ((Below.refl _ wr).alloc (Nat.le_refl _) _).drew (hb2.mono (by simp)); clear P1' P2' P3')
          all_goals
            go_wp2_with (first
              | (go_at_call 72; refine (pwith_any _ (.slice (some ⟨g0, o0, none⟩) S.goals.length sc) (.slice ta S.terms.length tc) fr 0 S ⟨ha, hn, hc⟩ ⟨ba, bn, bc⟩ cl N (HS.out.below (hbwr.trans (hbw2.mono hbwr.size))) HO.out hN Hne.out (HCl.out.below hbw2) HGc2.out).mono ?_; rintro r w3 ⟨a3, n3, c3, a4, n4, c4, fr', rfl, hS3, hb3⟩; rw [ho.out]; have hbw3 : Below wr.heap.size wr w3 := hbw2.trans (hb3.mono hbw2.size); have hz3 := hbw3.size; have hR3 := hR.below hbw3)
              | (at_builtin; refine wpList_app Tryd.elemInt natCells natCells_len natCells_one _ rfl (.tmp 38) (.tmp 40) rfl (w1.heap.size + 1) (.slice am ms.length cm) ms rfl ((hR3.alloc _).alloc _) ⟨_, 0, none⟩ 1 k rfl (cell_one_at _ (w3.heap.size + 1) (by simp) _ _) (by omega) (by simp only [World.size_alloc]; omega) ?_; intro gA capA w4 hrow4 hgr4 hnb4))
            go_roundw
            case rel =>
              refine ⟨k + 1, ms ++ [k], by omega, by go_num, by rw [hkt.out], by simp; omega, hrow4, hm2, ?_⟩
              exact (hbr.trans (((hbw3.mono (by omega : w1.heap.size + 1 ≤ wr.heap.size)).alloc (by omega) _).alloc (by simp only [World.size_alloc]; omega) _)).grown hgr4 (by simp only [World.size_alloc]; omega) (fun j e => (hR.lt j e).1)
            case measure => simp [intOf]; omega
      · have hpr : Rf.hasPred S cl = false := by
          cases hh : Rf.hasPred S cl with
          | false => rfl
          | true => unfold Rf.hasPred at hh; rw [hp0.out] at hh; exact absurd (Rf.samePart_iff.1 hh) hp
        have hm2 : Hid (Rf.matchN S 0 (cls.take (k + 1)) = ms) := by unfold Hid; rw [hmk.out]; unfold Rf.matchB; rw [hpr]; simp
        have hkt : Hid (Rf.knownP S (cls.take (k + 1)) = Rf.knownP S (cls.take k)) := by unfold Hid; rw [hkk.out, hpr]; simp
        have Hp : Hid _ := hp
        clear hmk hp hpr
        obtain ⟨p1, hp1⟩ : ∃ p, Hid (Rf.topP cl.head = p) := ⟨_, rfl⟩
        have hdif : (¬ p1.kind = p0.kind) ∨ (p1.kind = p0.kind ∧ ¬ p1.name.toList = p0.name.toList) ∨ (p1.kind = p0.kind ∧ p1.name.toList = p0.name.toList ∧ ¬ p1.value = p0.value) ∨ (p1.kind = p0.kind ∧ p1.name.toList = p0.name.toList ∧ p1.value = p0.value ∧ ¬ p1.args = p0.args) := by
          by_cases e1 : p1.kind = p0.kind
          · by_cases e2 : p1.name.toList = p0.name.toList
            · by_cases e3 : p1.value = p0.value
              · by_cases e4 : p1.args = p0.args
                · exfalso; refine Hp.out ?_; rw [hp1.out]; exact Rf.part_ext e1 e2 e3 e4
                · exact .inr (.inr (.inr ⟨e1, e2, e3, e4⟩))
              · exact .inr (.inr (.inl ⟨e1, e2, e3⟩))
            · exact .inr (.inl ⟨e1, e2⟩)
          · exact .inl e1
        rcases hdif with e1 | ⟨e1, e2⟩ | ⟨e1, e2, e3⟩ | ⟨e1, e2, e3, e4⟩
        all_goals
          go_wp2_with fail
          go_region_with (go_at_call 58; refine (ptopA_any ha hn hc _ _ (HCl.out.head.below (by repeat (first | exact Below.refl _ _ | refine Below.setCell ?_ (by simp <;> omega) _ | refine Below.drew ?_ | refine Below.drewN ?_ _ | refine Below.alloc ?_ (by simp <;> omega) _)))).mono ?_; rintro r w2 ⟨rfl, hb2⟩; rw [hp1.out]; have P1' : w2.heap[w1.heap.size]? = _ := (hb2.block w1.heap.size (by simp; omega)).trans (blk_alloc HP1.out _); obtain ⟨y0, y1, y2, y3, yl⟩ := cells4 P1'; have P2' : w2.heap[w.heap.size]? = _ := (hb2.block w.heap.size (by simp; omega)).trans (blk_alloc HP2.out _); have t0 := blk_cell P2' 0; have t1 := blk_cell P2' 1; have t2 := blk_cell P2' 2; simp at t0 t1 t2; have P3' : w2.heap[wr.heap.size]? = _ := (hb2.block wr.heap.size (by simp)).trans (blk_new wr _); have z0 := blk_cell P3' 0; have z1 := blk_cell P3' 1; simp at z0 z1; have zl := blk_lt P3'; have hbw2 : Below wr.heap.size wr w2 := Below.trans ((Below.refl _ wr).alloc (Nat.le_refl _) _).drew (hb2.mono (by simp)); clear P1' P2' P3')
          all_goals
            go_wp2_with fail
            go_roundw
            case rel => exact ⟨k + 1, ms, by omega, by go_num, by rw [hkt.out], by omega, hR.below hbw2, hm2, hbr.trans (hbw2.mono (by omega))⟩
            case measure => simp [intOf]; omega
    · obtain rfl : k = cls.length := by omega
      rw [List.take_length] at hinv ⊢
      go_wp2_with fail
      go_ret2
      exact ⟨_, _, _, rfl, by rw [hinv.out]; exact hR.seen, hbwr⟩
end Go.Proofs.YtpdikdnffehmkaaDoor
