
import Derived.Test.YtbiojnljihgpoaaGreatDoorZaw
import Derived.Test.YtbiojnljihgpoaaGreatDoorZau
import Derived.Test.YtbiojnljihgpoaaGreatDoorZad
import Derived.OwnWalk
namespace Rf
theorem renT_snoc : ∀ (t : List Part) (ns : List Int) (p : Part), renT ns (t ++ [p]) = ((renT ns t).1 ++ [renP (renT ns t).2 p], stepV (renT ns t).2 p)
 | [], ns, p => rfl
 | q :: t, ns, p => by
  rw [List.cons_append, renT, renT_snoc t (stepV ns q) p, renT]
  rfl
theorem numV_len (ns : List Int) (v : Int) : (numV ns v).length <= ns.length + 1 := by
 unfold numV; split
 ·omega
 ·simp
theorem stepV_len (ns : List Int) (p : Part) : (stepV ns p).length <= ns.length + 1 := by
 unfold stepV; split
 ·exact numV_len _ _
 ·omega
theorem renT_len : ∀ (t : List Part) (ns : List Int), (renT ns t).1.length = t.length /\ (renT ns t).2.length <= ns.length + t.length
 | [], ns => by simp [renT]
 | q :: t, ns => by
  have h1 := renT_len t (stepV ns q)
  have h2 := stepV_len ns q
  rw [renT]
  simp only [List.length_cons]
  omega
end Rf
namespace Go.Proofs.YtbiojnljihgpoaaGreatDoor
open Go.RowKit
theorem NumAt.types {w : World} {nb g past : Nat} {ns : List Int} (h : NumAt w nb g past ns) : ∀ k cs, w.heap[k]? = some (.cells cs 101 (0, 0)) -> ¬ (k = nb \/ k = g) := by
 intro k cs hc he
 rcases he with rfl | rfl
 ·rw [h.n] at hc; injection hc with h1; injection h1 with _ h2; exact absurd h2 (by decide)
 ·obtain ⟨cur, hr, _⟩ := h.r
  rw [hr] at hc; injection hc with h1; injection h1 with _ h2; exact absurd h2 (by decide)
theorem NumAt.typesT {w : World} {nb g past : Nat} {ns : List Int} (h : NumAt w nb g past ns) : ∀ k cs, w.heap[k]? = some (.cells cs 56 (0, 0)) -> ¬ (k = nb \/ k = g) := by
 intro k cs hc he
 rcases he with rfl | rfl
 ·rw [h.n] at hc; injection hc with h1; injection h1 with _ h2; exact absurd h2 (by decide)
 ·obtain ⟨cur, hr, _⟩ := h.r
  rw [hr] at hc; injection hc with h1; injection h1 with _ h2; exact absurd h2 (by decide)
theorem NumAt.lt {w : World} {nb g past : Nat} {ns : List Int} (h : NumAt w nb g past ns) : nb < w.heap.size /\ g < w.heap.size := by
 obtain ⟨cur, hr, _⟩ := h.r
 exact ⟨blk_lt h.n, blk_lt hr⟩
theorem NumAt.kept {M : Nat -> Prop} {w w' : World} {nb g past : Nat} {ns : List Int} (h : NumAt w nb g past ns) (hk : Kept M w w') (h1 : ¬ M nb) (h2 : ¬ M g) : NumAt w' nb g past ns := by
 obtain ⟨cur, hr, h3⟩ := h.r
 exact ⟨(hk.block nb (blk_lt h.n) h1).trans h.n, ⟨cur, (hk.block g (blk_lt hr) h2).trans hr, h3⟩, h.ne, h.small⟩
theorem NumAt.below {w w' : World} {nb g past : Nat} {ns : List Int} (h : NumAt w nb g past ns) (hb : Below w.heap.size w w') : NumAt w' nb g past ns := h.kept (Kept.of_below hb (fun _ => False)) (fun e => e) (fun e => e)
set_option maxHeartbeats 2000000 in
set_option maxRecDepth 100000 in
theorem prenumber_any (w : World) (nb g past : Nat) (ns : List Int) (a : Option Addr) (n c : Nat) (ps : List Rf.Part) (hN : NumAt w nb g past ns) (hS : Seen w 101 partCells (.slice a n c) ps) (hl : ps.length <= 100000) (hv : ∀ p ∈ ps, p.kind = 1 -> 0 <= p.value /\ p.value < past) (hns : ns.length <= 900000000) :
  Calls Tryz.prog 118 #[.pointer (some ⟨nb, 0, none⟩), .slice a n c] w fun r w' => ∃ (a3 : Option Addr) (n3 c3 : Nat), r = .returned (.slice a3 n3 c3) /\ Seen w' 101 partCells (.slice a3 n3 c3) (Rf.renT ns ps).1 /\ NumAt w' nb g past (Rf.renT ns ps).2 /\ Kept (fun k => k = nb \/ k = g) w w' := by
 have hn : n = ps.length := hS.len
 subst hn
 have HH : Hid _ := hS
 have HV : Hid _ := hv
 have HN : Hid _ := hN
 obtain ⟨hnl, hgl0⟩ := hN.lt
 clear hS hv hN
 go_enter Tryz.func118, Tryz.ntmps118
 go_wp2_with fail
 go_loopw [5, 6, 12] (fun cv rv iv wr => ∃ (k : Nat) (b : Bool), k <= ps.length /\ iv = .int .i64 k /\ cv = .bool b /\ Hid (b = false -> (Rf.renT ns (ps.take k)).1 = ps.take k) /\ RowIs wr w.heap.size 101 4 partCells rv (Rf.renT ns (ps.take k)).1 /\ NumAt wr nb g past (Rf.renT ns (ps.take k)).2 /\ Kept (fun k => k = nb \/ k = g) w wr) (fun _ _ iv _ => ps.length - (intOf iv).toNat)
 case atStart => exact ⟨0, false, by omega, rfl, rfl, fun _ => rfl, RowIs.nil _ _ _ _ _, HN.out, Kept.refl _ _⟩
 case round =>
  obtain ⟨k, b, hk, rfl, rfl, hb, hrow, hN1, hkp⟩ := hrel
  have hsz := hkp.size
  obtain ⟨a4, c4, hv4⟩ := row_slice hrow
  subst hv4
  have hlen := Rf.renT_len (ps.take k) ns
  have htl : (ps.take k).length <= k := by rw [List.length_take]; omega
  by_cases hlt : k < ps.length
  ·obtain ⟨gp, off, rfl⟩ := HH.out.pos (by omega)
   have hgl := HH.out.lt
   have hmem : ps[k] ∈ ps := List.getElem_mem hlt
   obtain ⟨e0, e1, e2, e3⟩ := Seen.parts (HH.out.kept hkp HN.out.types) k ps[k] (by simp [hlt])
   have hpv := HV.out _ hmem
   have htk : ps.take (k + 1) = ps.take k ++ [ps[k]] := List.take_succ_eq_append_getElem hlt
   have hsn : Hid (Rf.renT ns (ps.take (k + 1)) = ((Rf.renT ns (ps.take k)).1 ++ [Rf.renP (Rf.renT ns (ps.take k)).2 ps[k]], Rf.stepV (Rf.renT ns (ps.take k)).2 ps[k])) := by unfold Hid; rw [htk, Rf.renT_snoc]
   have Htk : Hid _ := htk
   clear hmem htk
   generalize ps[k] = p at *
   have hgl' : gp < wr.heap.size := by omega
   have hlt' : (k : Int) < ps.length := by omega
   obtain ⟨acc, hacc⟩ : ∃ acc, Hid (acc = (Rf.renT ns (ps.take k)).1) := ⟨_, rfl⟩
   obtain ⟨nn, hnn⟩ : ∃ nn, Hid (nn = (Rf.renT ns (ps.take k)).2) := ⟨_, rfl⟩
   rw [<- hacc.out] at hrow hlen hsn hb
   rw [<- hnn.out] at hlen hN1 hsn
   rw [<- hacc.out]
   have hla : acc.length <= 100000 := by omega
   have hnl2 : nn.length <= 900100000 := by omega
   clear hlen
   obtain ⟨pk, pn, pv, pa⟩ := p
   simp only at e0 e1 e2 e3 hpv
   cases k1 : (pk == 1)
   ·have hst : Rf.renP nn ⟨pk, pn, pv, pa⟩ = ⟨pk, pn, pv, pa⟩ /\ Rf.stepV nn ⟨pk, pn, pv, pa⟩ = nn := by unfold Rf.renP Rf.stepV; rw [if_neg (beq_eq_false_iff_ne.1 k1), if_neg (beq_eq_false_iff_ne.1 k1)]; exact ⟨rfl, rfl⟩
    rw [hst.1, hst.2] at hsn
    clear hst hpv
    go_wp2_with (at_builtin; refine wpList_app Tryz.elemPart partCells partCells_len partCells_one _ rfl (.tmp 32) (.tmp 34) rfl w.heap.size (.slice a4 acc.length c4) acc rfl ((hrow.alloc _).alloc _) ⟨_, 0, none⟩ 1 ⟨pk, pn, pv, pa⟩ rfl (cell_four_at _ _ (by simp) _ _ _ _ _) (by omega) (by simp; omega) ?_; intro gA capA w3 hrow3 hgr3 hnb3)
    go_roundw
    case rel =>
     refine ⟨k + 1, b, by omega, by go_num, rfl, ?_, by rw [hsn.out]; exact hrow3, ?_, ?_⟩
     ·intro hf; rw [hsn.out, Htk.out]; show acc ++ _ = _; rw [hb.out hf]
     ·rw [hsn.out]
      exact ((hN1.below (by repeat(first|exact bl0 _ _|refine bl1 ?_ (by simp<;>omega) _|refine bl2 ?_|refine bl3 ?_ _|refine bl4 ?_ (by simp<;>omega) _)) : NumAt ((wr.alloc _).alloc _) nb g past nn)).kept (M := fun k => (Value.slice a4 acc.length c4).ownBlock = some k) ⟨hgr3.os, hgr3.tape, hgr3.output, hgr3.size, fun j hj hr => hgr3.block j hj (fun e => hr e.symm)⟩ (fun e => by have := (hrow.lt _ e).1; omega) (fun e => by have := (hrow.lt _ e).1; omega)
     ·exact ((hkp.alloc _).alloc _).grown hgr3 (fun j e => .inl (hrow.lt j e).1)
    case measure => simp [intOf]; omega
   ·obtain ⟨v0, v1⟩ := hpv (eq_of_beq k1)
    obtain ⟨v, rfl⟩ := Int.eq_ofNat_of_zero_le v0
    have hvp : v < past := by omega
    have hst : Rf.renP nn ⟨pk, pn, (v : Int), pa⟩ = ⟨pk, pn, ((Rf.numV nn v).idxOf (v : Int) : Nat), pa⟩ /\ Rf.stepV nn ⟨pk, pn, (v : Int), pa⟩ = Rf.numV nn v := by unfold Rf.renP Rf.stepV; rw [if_pos (eq_of_beq k1), if_pos (eq_of_beq k1)]; exact ⟨rfl, rfl⟩
    rw [hst.1, hst.2] at hsn
    have hil := Rf.idxOf_le (Rf.numV nn v) v
    have hil2 := Rf.numV_len nn v
    obtain ⟨ix, hix⟩ : ∃ ix, Hid (ix = (Rf.numV nn v).idxOf (v : Int)) := ⟨_, rfl⟩
    rw [<- hix.out] at hsn hil
    have hixb : (ix : Int) <= 900100001 := by omega
    have hpb : ¬ (wr.heap.size = nb \/ wr.heap.size = g) := by omega
    have hrne : (Value.slice a4 acc.length c4).ownBlock ≠ some wr.heap.size := fun e => by have := (hrow.lt _ e).2; omega
    have Hrne : Hid _ := hrne
    have Hrk : Hid (∀ j, (Value.slice a4 acc.length c4).ownBlock = some j -> ¬ (j = nb \/ j = g)) := fun j e he => by have := (hrow.lt j e).1; rcases he with rfl | rfl <;> omega
    clear hst hpv v0 v1 hil hil2 hrne
    cases b
    all_goals
     go_wp2_with (first
      | (go_at_call 130; refine (pnumber_any _ nb g past nn v (hN1.below (by repeat(first|exact bl0 _ _|refine bl1 ?_ (by simp<;>omega) _|refine bl2 ?_|refine bl3 ?_ _|refine bl4 ?_ (by simp<;>omega) _))) hvp (by omega)).mono ?_; rintro r w2 ⟨rfl, hN2, hk2⟩; rw [<- hix.out]; have hz2 := hk2.size; simp at hz2; have hP2 := (hk2.block wr.heap.size (by simp) hpb).trans (blk_new _ _); have p0 := blk_cell hP2 0; have p1 := blk_cell hP2 1; have p2 := blk_cell hP2 2; have p3 := blk_cell hP2 3; have pf := blk_frozen hP2; have pl := blk_lt hP2; simp at p0 p1 p2 p3; have hrow2 := ((hrow.alloc _).keptBy hk2 Hrk.out).setCell ⟨wr.heap.size, 2, none⟩ (.int .i64 ix) Hrne.out)
      | (at_builtin; refine wpList_app Tryz.elemPart partCells partCells_len partCells_one _ rfl (.tmp 32) (.tmp 34) rfl w.heap.size (.slice a4 acc.length c4) acc rfl (hrow2.alloc _) ⟨_, 0, none⟩ 1 ⟨pk, pn, (ix : Int), pa⟩ rfl (cell_four_at _ _ (by simp) _ _ _ _ _) (by omega) (by simp; omega) ?_; intro gA capA w3 hrow3 hgr3 hnb3))
    ·go_roundw
     case rel =>
      refine ⟨k + 1, ((ix : Int) != (v : Int)), by omega, by go_num, rfl, ?_, by rw [hsn.out]; exact hrow3, ?_, (((((hkp.alloc _).trans hk2 (fun _ _ h => h)).setCell (p := ⟨wr.heap.size, 2, none⟩) (Or.inl hsz) _).alloc _).grown hgr3 (fun j e => .inl (hrow.lt j e).1))⟩
      ·intro hf
       have h9 : (ix : Int) = v := by simpa using hf
       rw [hsn.out, Htk.out]
       show acc ++ _ = _
       rw [hb.out (by trivial), h9]
      ·rw [hsn.out]
       exact (hN2.kept (M := fun k => k = wr.heap.size \/ (Value.slice a4 acc.length c4).ownBlock = some k) ((((Kept.refl _ w2).setCell (p := ⟨wr.heap.size, 2, none⟩) (Or.inr (Or.inl rfl)) _).alloc _).grown hgr3 (fun j e => .inr (.inr e))) (fun e => by rcases e with e | e; omega; have := (hrow.lt _ e).1; omega) (fun e => by rcases e with e | e; omega; have := (hrow.lt _ e).1; omega))
     case measure => simp [intOf]; omega
    ·go_roundw
     case rel =>
      refine ⟨k + 1, true, by omega, by go_num, rfl, (fun hf => by cases hf), by rw [hsn.out]; exact hrow3, ?_, (((((hkp.alloc _).trans hk2 (fun _ _ h => h)).setCell (p := ⟨wr.heap.size, 2, none⟩) (Or.inl hsz) _).alloc _).grown hgr3 (fun j e => .inl (hrow.lt j e).1))⟩
      rw [hsn.out]
      exact (hN2.kept (M := fun k => k = wr.heap.size \/ (Value.slice a4 acc.length c4).ownBlock = some k) ((((Kept.refl _ w2).setCell (p := ⟨wr.heap.size, 2, none⟩) (Or.inr (Or.inl rfl)) _).alloc _).grown hgr3 (fun j e => .inr (.inr e))) (fun e => by rcases e with e | e; omega; have := (hrow.lt _ e).1; omega) (fun e => by rcases e with e | e; omega; have := (hrow.lt _ e).1; omega))
     case measure => simp [intOf]; omega
  ·obtain rfl : k = ps.length := by omega
   cases b
   ·have hend : (Rf.renT ns ps).1 = ps := by have h9 := hb.out rfl; rw [List.take_length] at h9; exact h9
    have Hend : Hid _ := hend
    rw [List.take_length] at hN1
    clear hend hlen htl
    go_wp2_with fail
    go_ret
    exact ⟨_, _, _, rfl, by rw [Hend.out]; exact HH.out.kept hkp HN.out.types, hN1, hkp⟩
   ·rw [List.take_length] at hN1
    clear hlen htl
    go_wp2_with fail
    go_ret
    exact ⟨_, _, _, rfl, by have h9 := hrow.seen; simp only [List.take_length] at h9 ⊢; exact h9, hN1, hkp⟩
end Go.Proofs.YtbiojnljihgpoaaGreatDoor
namespace Rf
theorem renTs_snoc : ∀ (ts : List (List Part)) (ns : List Int) (t : List Part), renTs ns (ts ++ [t]) = ((renTs ns ts).1 ++ [(renT (renTs ns ts).2 t).1], (renT (renTs ns ts).2 t).2)
 | [], ns, t => rfl
 | u :: ts, ns, t => by
  rw [List.cons_append, renTs, renTs_snoc ts (renT ns u).2 t, renTs]
  rfl
theorem renTs_len : ∀ (ts : List (List Part)) (ns : List Int), (∀ t ∈ ts, t.length <= 400) -> (renTs ns ts).2.length <= ns.length + ts.length * 400
 | [], ns, _ => by simp [renTs]
 | t :: ts, ns, h => by
  have h1 := renTs_len ts (renT ns t).2 (fun u hu => h u (List.mem_cons_of_mem _ hu))
  have h2 := (renT_len t ns).2
  have h3 := h t (by simp)
  rw [renTs]
  simp only [List.length_cons]
  omega
end Rf
namespace Go.Proofs.YtbiojnljihgpoaaGreatDoor
open Go.RowKit
theorem NumAt.made {w : World} {g past : Nat} {o : Obj} (h : w.ownsRow 0 3 1 (.slice (some ⟨g, 0, none⟩) past past) past (madeCells (Value.int .i64 0).cells (past * 1)).toList) (hs : past <= 1000000) (ho : o = .cells #[.slice (some ⟨g, 0, none⟩) past past, .int .i64 0] 156) : NumAt (w.alloc o) w.heap.size g past [] := by
 subst ho
 rcases h.2 with ⟨h1, _⟩ | ⟨g', cap, cur, h1, _, h3, h4, h5, h6, h7⟩
 ·cases h1
 ·obtain ⟨rfl, rfl⟩ : g = g' /\ past = cap := by injection h1 with a1 _ a3; injection a1 with a1; injection a1 with a1; exact ⟨a1, a3⟩
  refine ⟨blk_new _ _, ⟨cur, blk_alloc h3 _, by omega, fun v hv => ?_⟩, by have := blk_lt h3; omega, hs⟩
  have h8 : (cur.toList.take (past * 1))[v]? = some (.int .i64 0) := by
   rw [h7]
   simp [madeCells, Value.cells, Nat.mod_one, hv]
  rw [List.getElem?_take, if_pos (by omega)] at h8
  simpa [Rf.numW] using h8
theorem pastTs_bd0 {ts : List (List Rf.Part)} (hv : ∀ t ∈ ts, ∀ p ∈ t, p.kind = 1 -> 0 <= p.value /\ p.value < 1000000) : 0 <= Rf.pastTs 0 ts /\ Rf.pastTs 0 ts <= 1000000 := by
 have key : ∀ (ts : List (List Rf.Part)) (a : Int), (∀ t ∈ ts, ∀ p ∈ t, p.kind = 1 -> 0 <= p.value /\ p.value < 1000000) -> 0 <= a -> a <= 1000000 -> 0 <= Rf.pastTs a ts /\ Rf.pastTs a ts <= 1000000 := by
  intro ts
  induction ts with
  | nil => intro a _ h0 h1; exact ⟨h0, h1⟩
  | cons t ts ih =>
   intro a hv h0 h1
   rw [Rf.pastTs]
   have hp' : 0 <= Rf.pastT t /\ Rf.pastT t <= 1000000 := pastN_bd (hv t (by simp)) (a := 0) (by omega) (by omega)
   refine ih _ (fun q hq => hv q (List.mem_cons_of_mem _ hq)) ?_ ?_
   ·unfold Rf.maxI; split <;> omega
   ·unfold Rf.maxI; split <;> omega
 exact key ts 0 hv (by omega) (by omega)
theorem TermsAt.keptN {base : Nat} {w w' : World} {v : Value} {acc : List (SlV × List Rf.Part)} {nb g past : Nat} {ns : List Int} (h : TermsAt base w v acc) (hk : Kept (fun k => k = nb \/ k = g) w w') (hN : NumAt w nb g past ns) (h1 : nb < base) (h2 : g < base) : TermsAt base w' v acc :=
 ⟨h.row.keptBy hk (fun k e he => by have := (h.row.lt k e).1; rcases he with rfl | rfl <;> omega), fun q hq => (h.each q hq).kept hk hN.types⟩
set_option maxHeartbeats 2000000 in
set_option maxRecDepth 100000 in
theorem pRenumber_any (w : World) (vt : Value) (ts : List (List Rf.Part)) (h : SeenTs w vt ts) (hl : ts.length <= 20000) (hl1 : ∀ t ∈ ts, t.length <= 400) (hv : ∀ t ∈ ts, ∀ p ∈ t, p.kind = 1 -> 0 <= p.value /\ p.value < 1000000) :
  Calls Tryz.prog 94 #[vt] w fun r w' => ∃ a3 n3 c3, r = .returned (.tuple #[.slice a3 n3 c3, .int .i64 ((Rf.renTs [] ts).2.length : Nat)]) /\ SeenTs w' (.slice a3 n3 c3) (Rf.renTs [] ts).1 /\ Below w.heap.size w w' := by
 obtain ⟨acc, hT, hE, rfl⟩ := h.ex
 obtain ⟨a, c, rfl⟩ := hT.slice
 rw [List.length_map] at hl
 have hE1 : ∀ q ∈ acc, Seen w 101 partCells (slv q.1) q.2 /\ q.2.length <= 400 /\ (∀ p ∈ q.2, p.kind = 1 -> 0 <= p.value /\ p.value < 1000000) /\ (∀ p ∈ q.2, p.kind = 1 -> p.value < Rf.pastTs 0 (acc.map (·.2))) := fun q hq => ⟨hE q hq, hl1 q.2 (List.mem_map_of_mem hq), hv q.2 (List.mem_map_of_mem hq), fun p hp hk => Rf.pastTs_mem (List.mem_map_of_mem hq) hp hk⟩
 have hpb := pastTs_bd0 hv
 have HT : Hid _ := hT
 have HE : Hid _ := hE1
 have HL : Hid _ := hl1
 clear h hT hE hl1 hE1 hv
 rw [List.length_map]
 obtain ⟨P, hP⟩ : ∃ P : Nat, Hid (Rf.pastTs 0 (acc.map (·.2)) = P) := ⟨(Rf.pastTs 0 (acc.map (·.2))).toNat, by unfold Hid; omega⟩
 have hP1 : P <= 1000000 := by have := hP.out; omega
 clear hpb
 go_enter Tryz.func94, Tryz.ntmps94
 go_wp2_with fail
 go_loopw [4, 14] (fun mv iv wr => ∃ (k : Nat) (m : Int), k <= acc.length /\ iv = .int .i64 k /\ mv = .int .i64 m /\ 0 <= m /\ m <= 1000000 /\ Below w.heap.size w wr /\ Hid (Rf.pastTs 0 (acc.map (·.2)) = Rf.pastTs m ((acc.drop k).map (·.2)))) (fun _ iv _ => acc.length - (intOf iv).toNat)
 case atStart => exact ⟨0, 0, by omega, rfl, rfl, by omega, by omega, Below.refl _ _, rfl⟩
 case round =>
  obtain ⟨k, m, hk, rfl, rfl, hm1, hm2, hbr, hinv⟩ := hrel
  have hsz := hbr.size
  by_cases hlt : k < acc.length
  ·obtain ⟨g, off, rfl⟩ := HT.out.pos (by simp; omega)
   have hgl := HT.out.lt
   have hmem : acc[k] ∈ acc := List.getElem_mem hlt
   have hcell := Seen.termAt (HT.out.below hbr) k acc[k].1 (by simp [hlt])
   obtain ⟨hS, hSl, hSv, _⟩ := HE.out _ hmem
   have hdrop : acc.drop k = acc[k] :: acc.drop (k + 1) := List.drop_eq_getElem_cons hlt
   rw [hdrop, List.map_cons, Rf.pastTs] at hinv
   clear hmem hdrop
   generalize acc[k] = q at *
   obtain ⟨⟨qa, qn, qc⟩, qp⟩ := q
   simp only at hcell hSl hSv hinv
   have HS : Hid (Seen w 101 partCells (.slice qa qn qc) qp) := hS
   have HSv : Hid _ := hSv
   have hqb1 : 0 <= Rf.pastT qp /\ Rf.pastT qp <= 1000000 := pastN_bd hSv (a := 0) (by omega) (by omega)
   clear hS hSv
   have hgl' : g < wr.heap.size := by omega
   have hlt' : (k : Int) < acc.length := by omega
   go_wp2_with (first
    | (go_at_call 117; refine (ppastT_any _ qa qn qc qp (HS.out.below hbr) (by omega) HSv.out).mono ?_; rintro r w2 ⟨rfl, hb2⟩)
    | (go_at_call 116; refine (pgreater_any m (Rf.pastT qp) _).mono ?_; rintro r w3 ⟨rfl, hw3⟩; subst w3))
   go_roundw
   case rel => exact ⟨k + 1, Rf.maxI m (Rf.pastT qp), by omega, by go_num, rfl, (by unfold Rf.maxI; split <;> omega), (by unfold Rf.maxI; split <;> omega), hbr.trans (hb2.mono hsz), hinv⟩
   case measure => simp [intOf]; omega
  ·obtain rfl : k = acc.length := by omega
   have hmP : m = (P : Nat) := by have h9 := hinv.out; rw [List.drop_length, hP.out] at h9; exact h9.symm
   subst hmP
   clear hinv hm1 hm2
   have HI : Hid _ := info_parts Tryz.elemInt.2.1
   have hzr : w.heap.size <= wr.heap.size := hsz
   go_wp2_with (at_make; obtain ⟨iI, hi1, hi2, hi3, hi4⟩ := HI.out; refine wpList_make_full _ rfl (.tmp 23) (.tmp 23) 77 rfl 0 3 iI (.int .i64 0) 1 Tryz.elemInt.1 hi1 hi2 hi3 .i64 .i64 P P P rfl rfl rfl rfl (by rw [hi4]; omega) (by unfold maxLen; omega) (Nat.zero_le _) ?_; intro w2 hown2 hgr2; clear hi1 hi2 hi3 hi4)
   have hN2 := NumAt.made (o := .cells #[.slice (some ⟨wr.heap.size, 0, none⟩) P P, .int .i64 0] 156) hown2 hP1 rfl
   have hb2 : Below w.heap.size w w2 := hbr.grown hgr2 hsz (fun k e => by cases e)
   have hz2 : wr.heap.size + 1 <= w2.heap.size := by have := hN2.lt.2; simp at this; obtain ⟨cur, hc, _⟩ := hN2.r; have h9 := hN2.ne; omega
   have hW2 : Below w.heap.size w (w2.alloc (.cells #[.slice (some ⟨wr.heap.size, 0, none⟩) P P, .int .i64 0] 156)) := hb2.alloc hb2.size _
   obtain ⟨wo, rfl⟩ : ∃ wo : World, wo = wr := ⟨_, rfl⟩
   have HN2 : Hid _ := hN2
   have HW2 : Hid _ := hW2
   clear hown2 hgr2
   go_loopw [8, 28] (fun lv iv wx => ∃ (k : Nat) (acc2 : List (SlV × List Rf.Part)), k <= acc.length /\ iv = .int .i64 k /\ TermsAt (w2.heap.size + 1) wx lv acc2 /\ acc2.length = k /\ Hid (acc2.map (·.2) = (Rf.renTs [] ((acc.take k).map (·.2))).1) /\ NumAt wx w2.heap.size wo.heap.size P (Rf.renTs [] ((acc.take k).map (·.2))).2 /\ Kept (fun k => k = w2.heap.size \/ k = wo.heap.size) (w2.alloc (.cells #[.slice (some ⟨wo.heap.size, 0, none⟩) P P, .int .i64 0] 156)) wx) (fun _ iv _ => acc.length - (intOf iv).toNat)
   case atStart => exact ⟨0, [], by omega, rfl, TermsAt.nil _ _, rfl, rfl, hN2, Kept.refl _ _⟩
   case round =>
    obtain ⟨k, acc2, hk2, rfl, hA, hka, hinv, hN1, hkp⟩ := hrel
    obtain rfl := hka
    clear hN2 hW2
    have hsz1 := hkp.size
    simp at hsz1
    obtain ⟨a4, c4, hv4⟩ := row_slice hA.row
    rw [List.length_map] at hv4
    subst hv4
    have hns := Rf.renTs_len ((acc.take acc2.length).map (·.2)) [] (fun t ht => by
     obtain ⟨q, hq, rfl⟩ := List.mem_map.1 ht
     exact HL.out _ (List.mem_map_of_mem (List.mem_of_mem_take hq)))
    have hns2 : (Rf.renTs [] ((acc.take acc2.length).map (·.2))).2.length <= 900000000 := by
     simp only [List.length_nil, List.length_map, List.length_take, Nat.zero_add] at hns
     have : min acc2.length acc.length * 400 <= 20000 * 400 := Nat.mul_le_mul_right _ (by omega)
     omega
    clear hns
    by_cases hlt2 : acc2.length < acc.length
    ·obtain ⟨g, off, rfl⟩ := HT.out.pos (by simp; omega)
     have hgl := HT.out.lt
     have hmem : acc[acc2.length] ∈ acc := List.getElem_mem hlt2
     have hcell := Seen.termAt ((HT.out.below HW2.out).kept hkp HN2.out.typesT) acc2.length acc[acc2.length].1 (by simp [hlt2])
     obtain ⟨hS, hSl, hSv, hSp⟩ := HE.out _ hmem
     have hsn : Hid (Rf.renTs [] ((acc.take (acc2.length + 1)).map (·.2)) = ((Rf.renTs [] ((acc.take acc2.length).map (·.2))).1 ++ [(Rf.renT (Rf.renTs [] ((acc.take acc2.length).map (·.2))).2 acc[acc2.length].2).1], (Rf.renT (Rf.renTs [] ((acc.take acc2.length).map (·.2))).2 acc[acc2.length].2).2)) := by unfold Hid; rw [List.take_succ_eq_append_getElem hlt2, List.map_append]; exact Rf.renTs_snoc _ _ _
     clear hmem
     generalize acc[acc2.length] = q at *
     obtain ⟨⟨qa, qn, qc⟩, qp⟩ := q
     simp only at hcell hSl hSv hSp hsn
     obtain ⟨nn, hnn⟩ : ∃ nn, Hid (nn = (Rf.renTs [] ((acc.take acc2.length).map (·.2))).2) := ⟨_, rfl⟩
     rw [<- hnn.out] at hsn hN1 hns2
     have HS : Hid (Seen wr 101 partCells (.slice qa qn qc) qp) := Seen.kept (Seen.below hS HW2.out) hkp HN2.out.types
     have HSv : Hid (∀ p ∈ qp, p.kind = 1 -> 0 <= p.value /\ p.value < P) := fun p hp hk => ⟨(hSv p hp hk).1, by have := hSp p hp hk; rw [hP.out] at this; exact this⟩
     clear hS hSv hSp
     have hgl' : g < wr.heap.size := by omega
     have hlt' : (acc2.length : Int) < acc.length := by omega
     have hnb : ¬ (w2.heap.size + 1 <= w2.heap.size) := by omega
     go_wp2_with (first
      | (go_at_call 118; refine (prenumber_any _ w2.heap.size wo.heap.size P nn qa qn qc qp hN1 HS.out (by omega) HSv.out hns2).mono ?_; rintro r w3 ⟨a3, n3, c3, rfl, hS3, hN3, hk3⟩; have hz3 := hk3.size; have hA3 := TermsAt.keptN hA hk3 hN1 (by omega) (by omega))
      | (at_builtin; refine wpList_app Tryz.elemTerms slCells slCells_len slCells_one _ rfl (.tmp 34) (.tmp 36) rfl (w2.heap.size + 1) (.slice a4 acc2.length c4) _ rfl (hA3.row.alloc _) ⟨_, 0, none⟩ 1 ⟨a3, n3, c3⟩ rfl (cell_one_at _ _ rfl _ _) (by rw [List.length_map]; omega) (by rw [World.size_alloc]; omega) ?_; intro gA capA w4 hrow4 hgr4 hnb4; rw [List.length_map] at hrow4))
     go_roundw
     case rel =>
      refine ⟨acc2.length + 1, acc2 ++ [(⟨a3, n3, c3⟩, (Rf.renT nn qp).1)], by omega, by go_num, TermsAt.app (hA3.below ((Below.refl _ w3).alloc (Nat.le_refl _) _)) (x := ⟨a3, n3, c3⟩) (Seen.alloc hS3 _) hgr4 hrow4, by simp, ?_, ?_, ?_⟩
      ·unfold Hid; rw [hsn.out, List.map_append, hinv.out]; rfl
      ·rw [hsn.out]
       exact (hN3.below ((Below.refl _ w3).alloc (Nat.le_refl _) _)).kept (M := fun k => (Value.slice a4 acc2.length c4).ownBlock = some k) ⟨hgr4.os, hgr4.tape, hgr4.output, hgr4.size, fun j hj hr => hgr4.block j hj (fun e => hr e.symm)⟩ (fun e => by have := (hA.row.lt _ e).1; omega) (fun e => by have := (hA.row.lt _ e).1; omega)
      ·exact ((hkp.trans hk3 (fun _ _ h => h)).alloc _).grown hgr4 (fun j e => .inl (by have := (hA.row.lt j e).1; simpa using this))
     case measure => simp [intOf]; omega
    ·have hend : acc2.length = acc.length := by omega
     have hinv2 : Hid (acc2.map (·.2) = (Rf.renTs [] (acc.map (·.2))).1) := by have h9 := hinv.out; rw [hend, List.take_length] at h9; exact h9
     have hN9 : NumAt wr w2.heap.size wo.heap.size P (Rf.renTs [] (acc.map (·.2))).2 := by have h9 := hN1; rw [hend, List.take_length] at h9; exact h9
     have n1 := blk_cell hN9.n 1
     simp at n1
     have hend' : ¬ ((acc2.length : Int) < acc.length) := by omega
     have hnl := hN9.lt.1
     clear hend hN1 hns2
     go_wp2_with fail
     go_quiet (fail)
     go_wp2_with fail
     go_ret2
     refine ⟨a4, _, c4, rfl, ?_, ?_⟩
     ·have h9 := hA.seen
      rw [hinv2.out] at h9
      exact h9.below ((Below.refl _ wr).drewN _)
     ·exact (HW2.out.trans (hkp.below (by simp; omega) (fun k hk e => by omega))).drewN _
end Go.Proofs.YtbiojnljihgpoaaGreatDoor
namespace Go.Proofs.YtbiojnljihgpoaaGreatDoor
open Go.RowKit
variable {nm : Value}
structure ChV where
 g : SlV
 t : SlV
 f : Int
 c : SlV
def chCells (x : ChV) : List Value := [.slice x.g.a x.g.n x.g.c, .slice x.t.a x.t.n x.t.c, .int .i64 x.f, .slice x.c.a x.c.n x.c.c]
theorem chCells_len (s : ChV) : (chCells s).length = 4 := rfl
theorem chCells_one (s : ChV) : ∀ u ∈ chCells s, u.oneCell' = true := by
 intro u hu
 simp only [chCells, List.mem_cons, List.not_mem_nil, or_false] at hu
 rcases hu with rfl | rfl | rfl | rfl <;> rfl
theorem Tryz.elemCh : ElemOk Tryz.prog 74 79 4 80 (.agg #[.slice none 0 0, .slice none 0 0, .int .i64 0, .slice none 0 0]) := ⟨Tryz.underlying74, by kernel_rfl, rfl, by decide, by decide⟩
structure ChIs (w : World) (x : ChV) (c : Rf.Ch) : Prop where
 st : StIs w (slv x.g) (slv x.t) x.f c.st
 cl : Seen w 3 natCells (slv x.c) c.cls
theorem ChIs.below {w w' : World} {x : ChV} {c : Rf.Ch} (h : ChIs w x c) (hb : Below w.heap.size w w') : ChIs w' x c := ⟨h.st.below hb, h.cl.below hb⟩
def QB (w : World) (q : Nat) (vN vg vt : Value) (fr : Int) (vC : Value) : Prop := w.heap[q]? = some (.cells #[vN, vg, vt, .int .i64 fr, vC] 76 (0, 0))
structure ChsAt (w : World) (v : Value) (chs : List Rf.Ch) : Prop where
 ex : ∃ acc : List (ChV × Rf.Ch), RowIs w 0 79 4 chCells v (acc.map (·.1)) /\ (∀ x ∈ acc, ChIs w x.1 x.2) /\ acc.map (·.2) = chs.reverse
structure QIs (w : World) (q : Nat) (rb : Option Nat) (vN vg vt : Value) (fr : Int) (vC : Value) (names : List ByteArray) (cf : Rf.Cf) : Prop where
 b : QB w q vN vg vt fr vC
 n : Seen w 9 strCells vN names
 s : StIs w vg vt fr cf.now
 r : ChsAt w vC cf.chs
 o : vC.ownBlock = rb
structure QAt (nm : Value) (w : World) (q : Nat) (rb : Option Nat) (names : List ByteArray) (cf : Rf.Cf) : Prop where
 ex : ∃ vg vt fr vC, QIs w q rb nm vg vt fr vC names cf
theorem QIs.at {w : World} {q : Nat} {rb : Option Nat} {vN vg vt vC : Value} {fr : Int} {names : List ByteArray} {cf : Rf.Cf} (h : QIs w q rb vN vg vt fr vC names cf) : QAt vN w q rb names cf := ⟨_, _, _, _, h⟩
theorem QIs.types {w : World} {q : Nat} {rb : Option Nat} {vN vg vt vC : Value} {fr : Int} {names : List ByteArray} {cf : Rf.Cf} (h : QIs w q rb vN vg vt fr vC names cf) {t : TypeId} (h1 : t ≠ 76) (h2 : t ≠ 79) : ∀ k cs, w.heap[k]? = some (.cells cs t (0, 0)) -> ¬ May q rb k := by
 intro k cs hc hm
 rcases hm with rfl | hm
 ·have hb := h.b
  unfold QB at hb
  rw [hb] at hc
  injection hc with h3; injection h3 with _ h4
  exact h1 h4.symm
 ·obtain ⟨acc, hr, _, _⟩ := h.r.ex
  obtain ⟨cs', hc'⟩ := hr.typed k (h.o.trans hm.symm)
  rw [hc'] at hc
  injection hc with h3; injection h3 with _ h4
  exact h2 h4.symm
theorem SeenTs.keptM {w w' : World} {M : Nat -> Prop} {v : Value} {ts : List (List Rf.Part)} (h : SeenTs w v ts) (hk : Kept M w w') (h1 : ∀ k cs, w.heap[k]? = some (.cells cs 101 (0, 0)) -> ¬ M k) (h2 : ∀ k cs, w.heap[k]? = some (.cells cs 56 (0, 0)) -> ¬ M k) : SeenTs w' v ts := by
 obtain ⟨acc, a1, a2, a3⟩ := h.ex
 exact ⟨acc, a1.kept hk h2, fun q hq => (a2 q hq).kept hk h1, a3⟩
structure Free (w : World) (M : Nat -> Prop) : Prop where
 p : ∀ k cs, w.heap[k]? = some (.cells cs 101 (0, 0)) -> ¬ M k
 t : ∀ k cs, w.heap[k]? = some (.cells cs 56 (0, 0)) -> ¬ M k
 i : ∀ k cs, w.heap[k]? = some (.cells cs 3 (0, 0)) -> ¬ M k
 s : ∀ k cs, w.heap[k]? = some (.cells cs 9 (0, 0)) -> ¬ M k
 c : ∀ k cs, w.heap[k]? = some (.cells cs 59 (0, 0)) -> ¬ M k
theorem QIs.free {w : World} {q : Nat} {rb : Option Nat} {vN vg vt vC : Value} {fr : Int} {names : List ByteArray} {cf : Rf.Cf} (h : QIs w q rb vN vg vt fr vC names cf) : Free w (May q rb) :=
 ⟨h.types (by decide) (by decide), h.types (by decide) (by decide), h.types (by decide) (by decide), h.types (by decide) (by decide), h.types (by decide) (by decide)⟩
theorem Free.none (w : World) : Free w (fun _ => False) := ⟨fun _ _ _ h => h, fun _ _ _ h => h, fun _ _ _ h => h, fun _ _ _ h => h, fun _ _ _ h => h⟩
theorem StIs.kept {w w' : World} {M : Nat -> Prop} {vg vt : Value} {fr : Int} {S : Rf.St} (h : StIs w vg vt fr S) (hk : Kept M w w') (hf : Free w M) : StIs w' vg vt fr S := ⟨h.g.keptM hk hf.p hf.t, h.t.keptM hk hf.p hf.t, h.f⟩
theorem ChIs.kept {w w' : World} {M : Nat -> Prop} {x : ChV} {c : Rf.Ch} (h : ChIs w x c) (hk : Kept M w w') (hf : Free w M) : ChIs w' x c := ⟨h.st.kept hk hf, Seen.kept h.cl hk hf.i⟩
theorem ChsAt.kept {w w' : World} {M : Nat -> Prop} {v : Value} {chs : List Rf.Ch} (h : ChsAt w v chs) (hk : Kept M w w') (hf : Free w M) (hv : ∀ k, v.ownBlock = some k -> ¬ M k) : ChsAt w' v chs := by
 obtain ⟨acc, h1, h2, h3⟩ := h.ex
 exact ⟨acc, h1.keptBy hk hv, fun x hx => (h2 x hx).kept hk hf, h3⟩
theorem QIs.keptM {w w' : World} {M : Nat -> Prop} {q : Nat} {rb : Option Nat} {vN vg vt vC : Value} {fr : Int} {names : List ByteArray} {cf : Rf.Cf} (h : QIs w q rb vN vg vt fr vC names cf) (hk : Kept M w w') (hf : Free w M) (hq : ¬ M q) (hr : ∀ k, rb = some k -> ¬ M k) : QIs w' q rb vN vg vt fr vC names cf :=
 ⟨(hk.block q (blk_lt h.b) hq).trans h.b, Seen.kept h.n hk hf.s, h.s.kept hk hf, h.r.kept hk hf (fun k e => hr k (h.o.symm.trans e)), h.o⟩
theorem QIs.below {w w' : World} {q : Nat} {rb : Option Nat} {vN vg vt vC : Value} {fr : Int} {names : List ByteArray} {cf : Rf.Cf} (h : QIs w q rb vN vg vt fr vC names cf) (hb : Below w.heap.size w w') : QIs w' q rb vN vg vt fr vC names cf :=
 h.keptM (Kept.of_below hb (fun _ => False)) (Free.none w) (fun e => e) (fun _ _ e => e)
theorem QAt.below {w w' : World} {q : Nat} {rb : Option Nat} {names : List ByteArray} {cf : Rf.Cf} (h : QAt nm w q rb names cf) (hb : Below w.heap.size w w') : QAt nm w' q rb names cf := by
 obtain ⟨_, _, _, _, h⟩ := h.ex
 exact (h.below hb).at
theorem QB.facts {w : World} {q : Nat} {vN vg vt vC : Value} {fr : Int} (h : QB w q vN vg vt fr vC) : w.cell? ⟨q, 0, none⟩ = some vN /\ w.cell? ⟨q, 1, none⟩ = some vg /\ w.cell? ⟨q, 2, none⟩ = some vt /\ w.cell? ⟨q, 3, none⟩ = some (.int .i64 fr) /\ w.cell? ⟨q, 4, none⟩ = some vC /\ (∀ i, w.frozen? ⟨q, i, none⟩ = false) /\ q < w.heap.size :=
 ⟨blk_cell h 0, blk_cell h 1, blk_cell h 2, blk_cell h 3, blk_cell h 4, blk_frozen h, blk_lt h⟩
structure SeenCls (w : World) (v : Value) (cls : List Rf.Cl) : Prop where
 ex : ∃ acc : List (PClV × Rf.Cl), Seen w 59 pclCells v (acc.map (·.1)) /\ (∀ x ∈ acc, SeenCl w x.1.h x.1.b x.2) /\ cls = acc.map (·.2)
theorem SeenCl.kept {w w' : World} {M : Nat -> Prop} {hx bx : SlV} {cl : Rf.Cl} (h : SeenCl w hx bx cl) (hk : Kept M w w') (hf : Free w M) : SeenCl w' hx bx cl := ⟨Seen.kept h.head hk hf.p, h.body.keptM hk hf.p hf.t⟩
theorem SeenCls.kept {w w' : World} {M : Nat -> Prop} {v : Value} {cls : List Rf.Cl} (h : SeenCls w v cls) (hk : Kept M w w') (hf : Free w M) : SeenCls w' v cls := by
 obtain ⟨acc, h1, h2, h3⟩ := h.ex
 exact ⟨acc, h1.kept hk hf.c, fun x hx => (h2 x hx).kept hk hf, h3⟩
theorem SeenCls.below {w w' : World} {v : Value} {cls : List Rf.Cl} (h : SeenCls w v cls) (hb : Below w.heap.size w w') : SeenCls w' v cls := h.kept (Kept.of_below hb (fun _ => False)) (Free.none w)
theorem SeenCls.slice {w : World} {v : Value} {cls : List Rf.Cl} (h : SeenCls w v cls) : ∃ a c, v = .slice a cls.length c := by
 obtain ⟨acc, h1, _, rfl⟩ := h.ex
 obtain ⟨a, c, e⟩ := h1.slice
 exact ⟨a, c, by rw [e, List.length_map, List.length_map]⟩
theorem StG.ok {N : Nat} {S : Rf.St} {F : Int} (h : Rf.StG N F S) (hF : F <= 1000000) : StOk S N :=
 ⟨h.gl, fun t ht => ⟨(h.g t ht).1, fun p hp => ((h.g t ht).2 p hp).1⟩, h.tl, fun t ht => ⟨(h.t t ht).1, fun p hp => ((h.t t ht).2 p hp).1⟩, h.f0, by have := h.f1; omega⟩
theorem ClG.ok {c : Rf.Cl} (h : Rf.ClG c) : ClGood c :=
 ⟨⟨h.hd.1, fun p hp hk => (h.hd.2 p hp).2.1 hk, h.bl, fun t ht => ⟨(h.bd t ht).1, fun p hp hk => ((h.bd t ht).2 p hp).2.1 hk⟩⟩, fun p hp => (h.hd.2 p hp).1, fun t ht p hp => ((h.bd t ht).2 p hp).1⟩
end Go.Proofs.YtbiojnljihgpoaaGreatDoor
