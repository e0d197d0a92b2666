
import Derived.Test.YtbiojnljihgpoaaGreatDoorYav
import Derived.Deep.RegionHeld2
namespace Go.Proofs.YtbiojnljihgpoaaGreatDoor
open Go.RowKit
theorem SeenTs.app {w3 : World} {v2 : Value} {base : Nat} {acc acc2 : List (SlV × List Rf.Part)} (hr : RowIs w3 base 56 1 slCells v2 (acc.map (·.1) ++ acc2.map (·.1))) (h1 : ∀ q ∈ acc, Seen w3 101 partCells (slv q.1) q.2) (h2 : ∀ q ∈ acc2, Seen w3 101 partCells (slv q.1) q.2) : SeenTs w3 v2 (acc.map (·.2) ++ acc2.map (·.2)) := by
 refine ⟨acc ++ acc2, by rw [List.map_append]; exact hr.seen, fun q hq => ?_, by rw [List.map_append]⟩
 rcases List.mem_append.1 hq with hq | hq
 ·exact h1 q hq
 ·exact h2 q hq
set_option maxHeartbeats 1000000 in
theorem pjoined_any (w : World) (u1 u2 : Value) (ts us : List (List Rf.Part)) (h1 : SeenTs w u1 ts) (h2 : SeenTs w u2 us) (l1 : ts.length ≤ 100000) (l2 : us.length ≤ 100000) :
  Calls Tryz.prog 65 #[u1, u2] w fun r w' => ∃ a3 n3 c3, r = .returned (.slice a3 n3 c3) ∧ SeenTs w' (.slice a3 n3 c3) (ts ++ us) ∧ Below w.heap.size w w' := by
 obtain ⟨acc, s1, e1, rfl⟩ := h1.ex
 obtain ⟨acc2, s2, e2, rfl⟩ := h2.ex
 obtain ⟨a1, c1, rfl⟩ := s1.slice
 obtain ⟨a2, c2, rfl⟩ := s2.slice
 rw [List.length_map] at l1 l2
 have S1 : Hid _ := s1
 have S2 : Hid _ := s2
 have E1 : Hid _ := e1
 have E2 : Hid _ := e2
 clear h1 h2 s1 s2 e1 e2
 rw [List.length_map, List.length_map] at *
 go_enter Tryz.func65, Tryz.ntmps65
 go_wp2_with (first
  | (at_builtin; refine wpList_appS Tryz.elemTerms slCells slCells_len slCells_one _ rfl (.tmp 6) (.tmp 7) rfl w.heap.size (.slice none 0 0) [] rfl (RowIs.nil _ _ _ _ _) (.slice a1 acc.length c1) _ rfl S1.out (by simp; omega) (Nat.le_refl _) ?_; intro v1 w1 hr1 hg1; rw [List.nil_append] at hr1; have hb1 : Below w.heap.size w w1 := (Below.refl _ w).grown hg1 (Nat.le_refl _) (fun k e => by simp [Value.ownBlock] at e); obtain ⟨b1, d1, hv1⟩ := row_slice hr1; rw [List.length_map] at hv1; subst hv1)
  | (at_builtin; refine wpList_appS Tryz.elemTerms slCells slCells_len slCells_one _ rfl (.tmp 9) (.tmp 10) rfl w.heap.size (.slice b1 acc.length d1) _ rfl hr1 (.slice a2 acc2.length c2) _ rfl (S2.out.below hb1) (by simp; omega) hb1.size ?_; intro v2 w2 hr2 hg2; have hb2 : Below w.heap.size w w2 := hb1.grown hg2 hb1.size (fun k e => (hr1.lt k e).1); obtain ⟨b2, d2, hv2⟩ := row_slice hr2; rw [List.length_append, List.length_map, List.length_map] at hv2; subst hv2))
 go_ret
 refine ⟨_, _, _, rfl, ?_, hb2⟩
 exact SeenTs.app hr2 (fun q hq => (E1.out q hq).below hb2) (fun q hq => (E2.out q hq).below hb2)
theorem SeenTs.nil (w : World) : SeenTs w (.slice none 0 0) [] := ⟨[], Seen.nil, (fun q hq => by cases hq), rfl⟩
structure StIs (w : World) (vg vt : Value) (fr : Int) (S : Rf.St) : Prop where
 g : SeenTs w vg S.goals
 t : SeenTs w vt S.terms
 f : fr = S.fresh
theorem StIs.below {w w' : World} {vg vt : Value} {fr : Int} {S : Rf.St} (h : StIs w vg vt fr S) (hb : Below w.heap.size w w') : StIs w' vg vt fr S := ⟨h.g.below hb, h.t.below hb, h.f⟩
structure StOk (S : Rf.St) (N : Nat) : Prop where
 gl : S.goals.length ≤ N
 g : ∀ t ∈ S.goals, t.length ≤ 400 ∧ Rf.ArgsOk t
 tl : S.terms.length ≤ 16
 t : ∀ t ∈ S.terms, t.length ≤ 400 ∧ Rf.ArgsOk t
 f0 : 0 ≤ S.fresh
 f1 : S.fresh ≤ 1000000
theorem ownT_len (off h : Int) (t : List Rf.Part) : (Rf.ownT off h t).length = t.length := by unfold Rf.ownT; simp
theorem ownT_args {off h : Int} {t : List Rf.Part} (ht : Rf.ArgsOk t) : Rf.ArgsOk (Rf.ownT off h t) := by
 intro p hp
 unfold Rf.ownT at hp
 obtain ⟨q, hq, rfl⟩ := List.mem_map.1 hp
 have := ht q hq
 unfold Rf.ownP
 split
 ·exact this
 ·split
  ·exact this
  ·exact this
structure ClGood (cl : Rf.Cl) : Prop where
 ok : ClOk cl
 h : Rf.ArgsOk cl.head
 b : ∀ t ∈ cl.body, Rf.ArgsOk t
theorem withE_good {S : Rf.St} {cl : Rf.Cl} {h : Int} {N : Nat} (hS : StOk S N) (hN : N ≤ 9000) (hc : ClGood cl) (hne : S.goals ≠ []) : EqGood (Rf.withE S cl h) := by
 obtain ⟨g0, gs, hg⟩ : ∃ g0 gs, S.goals = g0 :: gs := by
  cases hS' : S.goals with
  | nil => exact absurd hS' hne
  | cons a b => exact ⟨a, b, rfl⟩
 have hgl := hS.gl
 have hgg := hS.g
 rw [hg] at hgl hgg
 simp only [List.length_cons] at hgl
 unfold Rf.withE
 rw [hg]
 refine ⟨⟨(hgg g0 (by simp)).1, by show (Rf.ownT _ _ _).length ≤ 400; rw [ownT_len]; exact hc.ok.hl, ⟨?_, ?_⟩, ⟨?_, ?_⟩, ⟨?_, ?_⟩⟩, (hgg g0 (by simp)).2, ownT_args hc.h⟩
 ·have := hc.ok.bl; simp; omega
 ·intro t ht
  obtain ⟨q, hq, rfl⟩ := List.mem_map.1 ht
  rw [ownT_len]; exact (hc.ok.bt q hq).1
 ·show gs.length ≤ 10000; omega
 ·intro t ht; exact (hgg t (List.mem_cons_of_mem _ ht)).1
 ·have := hS.tl; show S.terms.length ≤ 10000; omega
 ·intro t ht; exact (hS.t t ht).1
theorem pastTs_bd {ts : List (List Rf.Part)} (hv : ∀ t ∈ ts, ∀ p ∈ t, p.kind = 1 → 0 ≤ p.value ∧ p.value < 1000000) : ∀ {a : Int}, 0 ≤ a → a ≤ 1000000 → 0 ≤ Rf.pastTs a ts ∧ Rf.pastTs a ts ≤ 1000000 := by
 induction ts with
 | nil => intro a h0 h1; exact ⟨h0, h1⟩
 | cons t ts ih =>
  intro a h0 h1
  rw [Rf.pastTs]
  have hp := pastN_bd (hv t (by simp)) (a := 0) (by omega) (by omega)
  have hp' : 0 ≤ Rf.pastT t ∧ Rf.pastT t ≤ 1000000 := hp
  refine ih (fun q hq => hv q (List.mem_cons_of_mem _ hq)) ?_ ?_
  ·unfold Rf.maxI; split <;> omega
  ·unfold Rf.maxI; split <;> omega
theorem pastC_bd {cl : Rf.Cl} (h : ClOk cl) : 0 ≤ Rf.pastC cl ∧ Rf.pastC cl ≤ 1000000 := by
 unfold Rf.pastC
 have hp := pastN_bd (t := cl.head) (fun p hp hk => by have := h.hv p hp hk; omega) (a := 0) (by omega) (by omega)
 exact pastTs_bd (fun t ht p hp hk => by have := (h.bt t ht).2 p hp hk; omega) hp.1 hp.2
theorem step_len (E : Rf.Eqn) : (Rf.stepE E).2.body.length = E.body.length ∧ (Rf.stepE E).2.behind.length = E.behind.length ∧ (Rf.stepE E).2.terms.length = E.terms.length := by
 have hp : ∀ (E : Rf.Eqn) v x, (Rf.putE E v x).2.body.length = E.body.length ∧ (Rf.putE E v x).2.behind.length = E.behind.length ∧ (Rf.putE E v x).2.terms.length = E.terms.length := by
  intro E v x
  unfold Rf.putE
  split
  ·exact ⟨rfl, rfl, rfl⟩
  ·split
   ·exact ⟨rfl, rfl, rfl⟩
   ·simp [Rf.Eqn.put]
 unfold Rf.stepE
 split
 ·split
  ·exact ⟨rfl, rfl, rfl⟩
  ·split
   ·exact hp _ _ _
   ·split
    ·exact hp _ _ _
    ·exact ⟨rfl, rfl, rfl⟩
 ·exact ⟨rfl, rfl, rfl⟩
theorem solveN_len : ∀ (n : Nat) (E : Rf.Eqn), (Rf.solveN n E).2.body.length = E.body.length ∧ (Rf.solveN n E).2.behind.length = E.behind.length ∧ (Rf.solveN n E).2.terms.length = E.terms.length
 | 0, _ => ⟨rfl, rfl, rfl⟩
 | n + 1, E => by
  rw [Rf.solveN]
  have h1 := step_len E
  split
  ·exact ⟨rfl, rfl, rfl⟩
  ·split
   ·have h2 := solveN_len n (Rf.stepE E).2
    exact ⟨h2.1.trans h1.1, h2.2.1.trans h1.2.1, h2.2.2.trans h1.2.2⟩
   ·exact h1
theorem solve_len (E : Rf.Eqn) (h : EqGood E) : (Rf.solveE E).2.body.length ≤ 10000 ∧ (Rf.solveE E).2.behind.length ≤ 10000 ∧ (Rf.solveE E).2.terms.length ≤ 10000 := by
 have h1 := solveN_len (Rf.fuelE E) E
 exact ⟨by have := h1.1; have := h.ok.b.1; unfold Rf.solveE; omega, by have := h1.2.1; have := h.ok.h.1; unfold Rf.solveE; omega, by have := h1.2.2; have := h.ok.t.1; unfold Rf.solveE; omega⟩
end Go.Proofs.YtbiojnljihgpoaaGreatDoor
namespace Go.Proofs.YtbiojnljihgpoaaGreatDoor
open Go.RowKit
theorem wrap_in {x : Int} (h0 : -1000000000000 ≤ x) (h1 : x ≤ 1000000000000) : IntKind.i64.wrap x = x := by
 rw [IntKind.wrap_i64]
 omega
theorem SeenTs.set3 {w : World} {v : Value} {ts : List (List Rf.Part)} {R : Nat} {cs : Array Value} {t : TypeId} {u0 u1 u2 : Value} (h : SeenTs w v ts) (hB : w.heap[R]? = some (.cells cs t (0, 0))) (h1 : t ≠ 101) (h2 : t ≠ 56) : SeenTs (((w.setCell ⟨R, 0, none⟩ u0).setCell ⟨R, 1, none⟩ u1).setCell ⟨R, 2, none⟩ u2) v ts :=
 ((h.setBlk hB h1 h2 0 u0).setBlk (blk_set hB 0 u0) h1 h2 1 u1).setBlk (blk_set (blk_set hB 0 u0) 1 u1) h1 h2 2 u2
theorem callJoined (vals : Array Value) (w : World) : (callFunc 65 vals).run Tryz.prog w = .ok (.enter 65 vals) w := by
 simp [callFunc, Tryz.func65, Tryz.f65]
theorem callPast (vals : Array Value) (w : World) : (callFunc 122 vals).run Tryz.prog w = .ok (.enter 122 vals) w := by
 simp [callFunc, Tryz.func122, Tryz.f122]
set_option maxHeartbeats 2000000 in
set_option maxRecDepth 100000 in
theorem pwith_any (w : World) (vg vt : Value) (fr h : Int) (S : Rf.St) (hx bx : SlV) (cl : Rf.Cl) (N : Nat) (hS : StIs w vg vt fr S) (hO : StOk S N) (hN : N ≤ 9000) (hne : S.goals ≠ []) (hC : SeenCl w hx bx cl) (hG : ClGood cl) :
  Calls Tryz.prog 101 #[.agg #[vg, vt, .int .i64 fr], .agg #[.slice hx.a hx.n hx.c, .slice bx.a bx.n bx.c], .int .i64 h] w fun r w' => ∃ a3 n3 c3 a4 n4 c4 fr', r = .returned (.tuple #[.agg #[.slice a3 n3 c3, .slice a4 n4 c4, .int .i64 fr'], .int .i64 (Rf.withS S cl h).1]) ∧ StIs w' (.slice a3 n3 c3) (.slice a4 n4 c4) fr' (Rf.withS S cl h).2 ∧ Below w.heap.size w w' := by
 obtain ⟨hSg, hSt, rfl⟩ := hS
 obtain ⟨acc, s1, e1, hgs⟩ := hSg.ex
 obtain ⟨a1, c1, rfl⟩ := s1.slice
 obtain ⟨a2, c2, rfl⟩ := hSt.slice
 have hpos : 1 ≤ acc.length := by
  cases acc with
  | nil => simp at hgs; exact absurd hgs hne
  | cons => simp
 obtain ⟨g1, o1, rfl⟩ := s1.pos (by simpa using hpos)
 have hgl := s1.lt
 have hcap := s1.cap
 rw [List.length_map] at hcap
 obtain ⟨q0, acc', rfl⟩ : ∃ q0 acc', acc = q0 :: acc' := by
  cases acc with
  | nil => simp at hpos
  | cons a b => exact ⟨a, b, rfl⟩
 have hcell := Seen.termAt s1 0 q0.1 (by simp)
 obtain ⟨⟨qa, qn, qc⟩, qp⟩ := q0
 obtain ⟨ah, nh, ch⟩ := hx
 obtain ⟨ab, nb, cb⟩ := bx
 simp only [Nat.add_zero] at hcell
 have HG : Hid _ := withE_good (h := h) hO hN hG hne
 have HC : Hid (SeenCl w ⟨ah, nh, ch⟩ ⟨ab, nb, cb⟩ cl) := hC
 have HK : Hid _ := hG.ok
 have HS1 : Hid _ := s1
 have HE1 : Hid _ := e1
 have HSt : Hid _ := hSt
 have Hgs : Hid _ := hgs
 have hf0 := hO.f0
 have hf1 := hO.f1
 simp only [List.map_cons, List.length_cons, List.length_map] at *
 clear hSg hSt s1 e1 hgs hC hG hO hpos
 go_enter Tryz.func101, Tryz.ntmps101
 go_upto_region 2 with (go_at_call 120; refine (pOwn_any S.fresh h _ ⟨ah, nh, ch⟩ ⟨ab, nb, cb⟩ cl (HC.out.below (by repeat(first|exact bel0 _ _|refine bel1 ?_ (by simp<;>omega) _|refine bel2 ?_|refine bel3 ?_ _|refine bel4 ?_ (by simp<;>omega) _))) HK.out hf0 (by omega)).mono ?_; rintro r w1 ⟨⟨yh, mh, dh⟩, ⟨yb, mb, db⟩, rfl, hO1, hb1⟩)
 have hz1 : w.heap.size + 3 ≤ w1.heap.size := by have := hb1.size; simp at this; omega
 have hbw1 : Below w.heap.size w w1 := Below.trans ((by repeat(first|exact bel0 _ _|refine bel1 ?_ (by simp<;>omega) _|refine bel2 ?_|refine bel3 ?_ _|refine bel4 ?_ (by simp<;>omega) _)) : Below w.heap.size w (((w.alloc _).alloc _).alloc _)) (hb1.mono (by simp <;> omega))
 have hX1 := (hb1.block w.heap.size (by simp <;> omega)).trans (blk_alloc (blk_alloc (blk_new _ _) _) _)
 have hY1 := (hb1.block (w.heap.size + 1) (by simp <;> omega)).trans (blk_alloc (blk_at _ _ _ (by simp)) _)
 have hR1 := (hb1.block (w.heap.size + 1 + 1) (by simp <;> omega)).trans (blk_at _ _ _ (by simp))
 have x0 := blk_cell hX1 0
 have x1 := blk_cell hX1 1
 have x2 := blk_cell hX1 2
 simp at x0 x1 x2
 have hcell1 : w1.cell? ⟨g1, o1, none⟩ = some (.slice qa qn qc) := (World.cell?_of_block (hbw1.block g1 hgl)).trans hcell
 have hlt0 : w.heap.size < w1.heap.size := by omega
 have hgl1 : g1 < w1.heap.size := by omega
 have hS1' := HS1.out.below hbw1
 have hE1' : ∀ q ∈ acc', Seen w1 101 partCells (slv q.1) q.2 := fun q hq => (HE1.out q (List.mem_cons_of_mem _ hq)).below hbw1
 have Htail1 : Hid (c1 = 1 → SeenTs w1 (.slice (some ⟨g1, o1, none⟩) acc'.length 0) (acc'.map (·.2))) := fun hcc => ⟨acc', by have h9 := hS1'.dropEnd 1 hcc; simpa using h9, hE1', rfl⟩
 have Htail2 : Hid (SeenTs w1 (.slice (some ⟨g1, o1 + 1, none⟩) acc'.length (c1 - 1)) (acc'.map (·.2))) := ⟨acc', by have h9 := hS1'.drop slCells_len 1 (by simp); simpa using h9, hE1', rfl⟩
 clear hS1' hE1'
 go_cut [9] from 11 to 47 (fun pv wx => ∃ (e : Nat) (vr : Value), pv = .pointer (some ⟨e, 0, none⟩) ∧ w1.heap.size ≤ e ∧ EqB wx e (.slice qa qn qc) (.slice yh mh dh) (.slice yb mb db) vr (.slice a2 S.terms.length c2) ∧ SeenTs wx vr (acc'.map (·.2)) ∧ Below w1.heap.size w1 wx)
 case first =>
  by_cases hcc : c1 = 1
  ·go_region
   go_wp2_with fail
   go_meet
   exact ⟨_, _, rfl, by omega, blk_at _ _ _ (by simp), (Htail1.out hcc).below (by repeat(first|exact bel0 _ _|refine bel1 ?_ (by simp<;>omega) _|refine bel2 ?_|refine bel3 ?_ _|refine bel4 ?_ (by simp<;>omega) _)), (by repeat(first|exact bel0 _ _|refine bel1 ?_ (by simp<;>omega) _|refine bel2 ?_|refine bel3 ?_ _|refine bel4 ?_ (by simp<;>omega) _))⟩
  ·go_region
   go_wp2_with fail
   go_meet
   exact ⟨_, _, rfl, by omega, blk_at _ _ _ (by simp), Htail2.out.below (by repeat(first|exact bel0 _ _|refine bel1 ?_ (by simp<;>omega) _|refine bel2 ?_|refine bel3 ?_ _|refine bel4 ?_ (by simp<;>omega) _)), (by repeat(first|exact bel0 _ _|refine bel1 ?_ (by simp<;>omega) _|refine bel2 ?_|refine bel3 ?_ _|refine bel4 ?_ (by simp<;>omega) _))⟩
 case rest =>
  obtain ⟨e, vr, rfl, he, hB, hvr, hbc⟩ := hcut
  have hbwc : Below w.heap.size w wc := hbw1.trans (hbc.mono (by omega))
  have hE : EqIs wc (.slice qa qn qc) (.slice yh mh dh) (.slice yb mb db) vr (.slice a2 S.terms.length c2) (Rf.withE S cl h) := by
   unfold Rf.withE
   rw [Hgs.out]
   exact ⟨(HE1.out (⟨qa, qn, qc⟩, qp) (by simp)).below hbwc, hO1.head.below hbc, hO1.body.below hbc, hvr, HSt.out.below hbwc⟩
  have HA : Hid (EqAt wc e (Rf.withE S cl h)) := ⟨_, _, _, _, _, hB, hE⟩
  have hRc : wc.heap[w.heap.size + 1 + 1]? = _ := (hbc.block _ (by omega)).trans hR1
  have hXc : wc.heap[w.heap.size]? = _ := (hbc.block _ (by omega)).trans hX1
  have hYc : wc.heap[w.heap.size + 1]? = _ := (hbc.block _ (by omega)).trans hY1
  have hre : ¬ w.heap.size + 1 + 1 = e := by omega
  have hxe : ¬ w.heap.size = e := by omega
  have hye : ¬ w.heap.size + 1 = e := by omega
  have HRc : Hid _ := hRc
  have HXc : Hid _ := hXc
  have HYc : Hid _ := hYc
  clear hE hB hvr hRc hXc hYc hX1 hY1 hR1 x0 x1 x2 hcell1
  by_cases h0 : (Rf.solveE (Rf.withE S cl h)).1 = 0
  ·have HW : Hid (Rf.withS S cl h = (0, ⟨(Rf.solveE (Rf.withE S cl h)).2.body ++ (Rf.solveE (Rf.withE S cl h)).2.behind, (Rf.solveE (Rf.withE S cl h)).2.terms, S.fresh + Rf.pastC cl⟩)) := by unfold Hid Rf.withS; rw [if_pos h0]
   have H0 : Hid _ := h0
   have hpb := pastC_bd HK.out
   have hlb := solve_len (Rf.withE S cl h) HG.out
   have Hlb : Hid _ := hlb
   clear h0 hlb
   go_upto_region 6 with (go_at_call 121; refine (psolve_any _ e _ HA.out HG.out).mono ?_; rintro r w2 ⟨rfl, hk2, hA2⟩; rw [H0.out]; have hR2 := (hk2.block _ (blk_lt HRc.out) hre).trans HRc.out; have hX2 := (hk2.block _ (blk_lt HXc.out) hxe).trans HXc.out; have hY2 := (hk2.block _ (blk_lt HYc.out) hye).trans HYc.out)
   obtain ⟨vf, vs, vb, vh, vt, hB2, hE2⟩ := (hA2 H0.out).ex
   generalize (Rf.solveE (Rf.withE S cl h)).2 = E2 at *
   obtain ⟨a5, c5, rfl⟩ := hE2.b.slice
   obtain ⟨a6, c6, rfl⟩ := hE2.h.slice
   obtain ⟨a7, c7, rfl⟩ := hE2.t.slice
   obtain ⟨l0, l1, l2, l3, l4, lf, ll⟩ := hB2.facts
   have x2 := blk_cell hX2 2
   have y0 := blk_cell hY2 0
   have y1 := blk_cell hY2 1
   have r0 := blk_cell hR2 0
   have r1 := blk_cell hR2 1
   have r2 := blk_cell hR2 2
   have rf := blk_frozen hR2
   have rl := blk_lt hR2
   have yl := blk_lt hY2
   have xl := blk_lt hX2
   simp at x2 y0 y1 r0 r1 r2
   have hbw2 : Below w.heap.size w w2 := hbwc.trans (hk2.below hbwc.size (fun k hk e => by omega))
   have hz2 := hbw2.size
   have hK : ∀ X, Kept (fun k => k = w.heap.size + 1 + 1) w2 X → (fun X : World => Kept (fun k => k = w.heap.size + 1 + 1) w2 X ∧ X.cell? ⟨e, 2, none⟩ = some (.slice a5 E2.body.length c5) ∧ X.cell? ⟨e, 3, none⟩ = some (.slice a6 E2.behind.length c6) ∧ X.cell? ⟨e, 4, none⟩ = some (.slice a7 E2.terms.length c7) ∧ X.cell? ⟨w.heap.size, 2, none⟩ = some (.int .i64 S.fresh) ∧ X.cell? ⟨w.heap.size + 1, 0, none⟩ = some (.slice ah nh ch) ∧ X.cell? ⟨w.heap.size + 1, 1, none⟩ = some (.slice ab nb cb)) X := fun X hk => ⟨hk, (hk.cell ll (fun e1 => hre e1.symm)).trans l2, (hk.cell ll (fun e1 => hre e1.symm)).trans l3, (hk.cell ll (fun e1 => hre e1.symm)).trans l4, (hk.cell xl (fun e1 => by simp at e1; omega)).trans x2, (hk.cell yl (fun e1 => by simp at e1)).trans y0, (hk.cell yl (fun e1 => by simp at e1)).trans y1⟩
   have nT : ∀ k cs (t : TypeId), t ≠ 73 → w2.heap[k]? = some (.cells cs t (0, 0)) → ¬ k = w.heap.size + 1 + 1 := fun k cs t hne hc he => by
    subst he; rw [hR2] at hc; injection hc with h1; injection h1 with _ h2; exact hne h2.symm
   have HS0 : (fun X : World => Kept (fun k => k = w.heap.size + 1 + 1) w2 X ∧ X.cell? ⟨e, 2, none⟩ = some (.slice a5 E2.body.length c5) ∧ X.cell? ⟨e, 3, none⟩ = some (.slice a6 E2.behind.length c6) ∧ X.cell? ⟨e, 4, none⟩ = some (.slice a7 E2.terms.length c7) ∧ X.cell? ⟨w.heap.size, 2, none⟩ = some (.int .i64 S.fresh) ∧ X.cell? ⟨w.heap.size + 1, 0, none⟩ = some (.slice ah nh ch) ∧ X.cell? ⟨w.heap.size + 1, 1, none⟩ = some (.slice ab nb cb)) w2.drew := hK _ (Kept.refl _ w2).drew
   have HSb : Hid (∀ X Y, (fun X : World => Kept (fun k => k = w.heap.size + 1 + 1) w2 X ∧ X.cell? ⟨e, 2, none⟩ = some (.slice a5 E2.body.length c5) ∧ X.cell? ⟨e, 3, none⟩ = some (.slice a6 E2.behind.length c6) ∧ X.cell? ⟨e, 4, none⟩ = some (.slice a7 E2.terms.length c7) ∧ X.cell? ⟨w.heap.size, 2, none⟩ = some (.int .i64 S.fresh) ∧ X.cell? ⟨w.heap.size + 1, 0, none⟩ = some (.slice ah nh ch) ∧ X.cell? ⟨w.heap.size + 1, 1, none⟩ = some (.slice ab nb cb)) X → Below X.heap.size X Y → (fun X : World => Kept (fun k => k = w.heap.size + 1 + 1) w2 X ∧ X.cell? ⟨e, 2, none⟩ = some (.slice a5 E2.body.length c5) ∧ X.cell? ⟨e, 3, none⟩ = some (.slice a6 E2.behind.length c6) ∧ X.cell? ⟨e, 4, none⟩ = some (.slice a7 E2.terms.length c7) ∧ X.cell? ⟨w.heap.size, 2, none⟩ = some (.int .i64 S.fresh) ∧ X.cell? ⟨w.heap.size + 1, 0, none⟩ = some (.slice ah nh ch) ∧ X.cell? ⟨w.heap.size + 1, 1, none⟩ = some (.slice ab nb cb)) Y) := fun X Y hX hb => hK _ (hX.1.trans (Kept.of_below hb (fun k => k = w.heap.size + 1 + 1)) (fun _ _ h => h))
   have HSs : Hid (∀ X u0 u1 u2, (fun X : World => Kept (fun k => k = w.heap.size + 1 + 1) w2 X ∧ X.cell? ⟨e, 2, none⟩ = some (.slice a5 E2.body.length c5) ∧ X.cell? ⟨e, 3, none⟩ = some (.slice a6 E2.behind.length c6) ∧ X.cell? ⟨e, 4, none⟩ = some (.slice a7 E2.terms.length c7) ∧ X.cell? ⟨w.heap.size, 2, none⟩ = some (.int .i64 S.fresh) ∧ X.cell? ⟨w.heap.size + 1, 0, none⟩ = some (.slice ah nh ch) ∧ X.cell? ⟨w.heap.size + 1, 1, none⟩ = some (.slice ab nb cb)) X → (fun X : World => Kept (fun k => k = w.heap.size + 1 + 1) w2 X ∧ X.cell? ⟨e, 2, none⟩ = some (.slice a5 E2.body.length c5) ∧ X.cell? ⟨e, 3, none⟩ = some (.slice a6 E2.behind.length c6) ∧ X.cell? ⟨e, 4, none⟩ = some (.slice a7 E2.terms.length c7) ∧ X.cell? ⟨w.heap.size, 2, none⟩ = some (.int .i64 S.fresh) ∧ X.cell? ⟨w.heap.size + 1, 0, none⟩ = some (.slice ah nh ch) ∧ X.cell? ⟨w.heap.size + 1, 1, none⟩ = some (.slice ab nb cb)) (((X.setCell ⟨w.heap.size + 1 + 1, 0, none⟩ u0).setCell ⟨w.heap.size + 1 + 1, 1, none⟩ u1).setCell ⟨w.heap.size + 1 + 1, 2, none⟩ u2)) := fun X u0 u1 u2 hX => hK _ (((hX.1.setCell (p := ⟨w.heap.size + 1 + 1, 0, none⟩) (Or.inr rfl) u0).setCell (p := ⟨w.heap.size + 1 + 1, 1, none⟩) (Or.inr rfl) u1).setCell (p := ⟨w.heap.size + 1 + 1, 2, none⟩) (Or.inr rfl) u2)
   have keepTs : ∀ {X v ts}, SeenTs w2 v ts → Kept (fun k => k = w.heap.size + 1 + 1) w2 X → SeenTs X v ts := fun {X v ts} ht hk => by
    obtain ⟨acc, b1, b2, b3⟩ := ht.ex
    exact ⟨acc, b1.kept hk (fun k cs hc => nT k cs _ (by decide) hc), fun q hq => (b2 q hq).kept hk (fun k cs hc => nT k cs _ (by decide) hc), b3⟩
   have HEb : Hid (∀ X, (fun X : World => Kept (fun k => k = w.heap.size + 1 + 1) w2 X ∧ X.cell? ⟨e, 2, none⟩ = some (.slice a5 E2.body.length c5) ∧ X.cell? ⟨e, 3, none⟩ = some (.slice a6 E2.behind.length c6) ∧ X.cell? ⟨e, 4, none⟩ = some (.slice a7 E2.terms.length c7) ∧ X.cell? ⟨w.heap.size, 2, none⟩ = some (.int .i64 S.fresh) ∧ X.cell? ⟨w.heap.size + 1, 0, none⟩ = some (.slice ah nh ch) ∧ X.cell? ⟨w.heap.size + 1, 1, none⟩ = some (.slice ab nb cb)) X → SeenTs X (.slice a5 E2.body.length c5) E2.body) := fun X hX => keepTs hE2.b hX.1
   have HEh : Hid (∀ X, (fun X : World => Kept (fun k => k = w.heap.size + 1 + 1) w2 X ∧ X.cell? ⟨e, 2, none⟩ = some (.slice a5 E2.body.length c5) ∧ X.cell? ⟨e, 3, none⟩ = some (.slice a6 E2.behind.length c6) ∧ X.cell? ⟨e, 4, none⟩ = some (.slice a7 E2.terms.length c7) ∧ X.cell? ⟨w.heap.size, 2, none⟩ = some (.int .i64 S.fresh) ∧ X.cell? ⟨w.heap.size + 1, 0, none⟩ = some (.slice ah nh ch) ∧ X.cell? ⟨w.heap.size + 1, 1, none⟩ = some (.slice ab nb cb)) X → SeenTs X (.slice a6 E2.behind.length c6) E2.behind) := fun X hX => keepTs hE2.h hX.1
   have HEt : Hid (∀ X, (fun X : World => Kept (fun k => k = w.heap.size + 1 + 1) w2 X ∧ X.cell? ⟨e, 2, none⟩ = some (.slice a5 E2.body.length c5) ∧ X.cell? ⟨e, 3, none⟩ = some (.slice a6 E2.behind.length c6) ∧ X.cell? ⟨e, 4, none⟩ = some (.slice a7 E2.terms.length c7) ∧ X.cell? ⟨w.heap.size, 2, none⟩ = some (.int .i64 S.fresh) ∧ X.cell? ⟨w.heap.size + 1, 0, none⟩ = some (.slice ah nh ch) ∧ X.cell? ⟨w.heap.size + 1, 1, none⟩ = some (.slice ab nb cb)) X → SeenTs X (.slice a7 E2.terms.length c7) E2.terms) := fun X hX => keepTs hE2.t hX.1
   have HCl : Hid (∀ X, (fun X : World => Kept (fun k => k = w.heap.size + 1 + 1) w2 X ∧ X.cell? ⟨e, 2, none⟩ = some (.slice a5 E2.body.length c5) ∧ X.cell? ⟨e, 3, none⟩ = some (.slice a6 E2.behind.length c6) ∧ X.cell? ⟨e, 4, none⟩ = some (.slice a7 E2.terms.length c7) ∧ X.cell? ⟨w.heap.size, 2, none⟩ = some (.int .i64 S.fresh) ∧ X.cell? ⟨w.heap.size + 1, 0, none⟩ = some (.slice ah nh ch) ∧ X.cell? ⟨w.heap.size + 1, 1, none⟩ = some (.slice ab nb cb)) X → SeenCl X ⟨ah, nh, ch⟩ ⟨ab, nb, cb⟩ cl) := fun X hX => ⟨(HC.out.head.below hbw2).kept hX.1 (fun k cs hc => nT k cs _ (by decide) hc), keepTs (HC.out.body.below hbw2) hX.1⟩
   have HRr : Hid (∀ X, (fun X : World => Kept (fun k => k = w.heap.size + 1 + 1) w2 X ∧ X.cell? ⟨e, 2, none⟩ = some (.slice a5 E2.body.length c5) ∧ X.cell? ⟨e, 3, none⟩ = some (.slice a6 E2.behind.length c6) ∧ X.cell? ⟨e, 4, none⟩ = some (.slice a7 E2.terms.length c7) ∧ X.cell? ⟨w.heap.size, 2, none⟩ = some (.int .i64 S.fresh) ∧ X.cell? ⟨w.heap.size + 1, 0, none⟩ = some (.slice ah nh ch) ∧ X.cell? ⟨w.heap.size + 1, 1, none⟩ = some (.slice ab nb cb)) X → Below w.heap.size w X) := fun X hX => hbw2.trans (hX.1.below hz2 (fun k hk e => by omega))
   have HR2 : Hid _ := hR2
   clear hE2 hX2 hY2 hR2 hB2 hK nT keepTs l0 l1 l2 l3 l4 lf x2 y0 y1 hbw2
   go_region_held2 (fun X : World => Kept (fun k => k = w.heap.size + 1 + 1) w2 X ∧ X.cell? ⟨e, 2, none⟩ = some (.slice a5 E2.body.length c5) ∧ X.cell? ⟨e, 3, none⟩ = some (.slice a6 E2.behind.length c6) ∧ X.cell? ⟨e, 4, none⟩ = some (.slice a7 E2.terms.length c7) ∧ X.cell? ⟨w.heap.size, 2, none⟩ = some (.int .i64 S.fresh) ∧ X.cell? ⟨w.heap.size + 1, 0, none⟩ = some (.slice ah nh ch) ∧ X.cell? ⟨w.heap.size + 1, 1, none⟩ = some (.slice ab nb cb)) (first | assumption | exact HSs.out _ _ _ _ (by assumption)) (first
    | (refine step_call2 rfl 65 (.tmp 36) (.tmp 38) _ rfl (.slice a5 E2.body.length c5) (.slice a6 E2.behind.length c6) rfl rfl (fun _ => callJoined _ _) (pjoined_any _ _ _ E2.body E2.behind (HEb.out _ (by assumption)) (HEh.out _ (by assumption)) (by have := Hlb.out.1; omega) (by have := Hlb.out.2.1; omega)) ?_; rintro r w3 ⟨a8, n8, c8, rfl, hJ, hb3⟩; refine ⟨_, rfl, ?_⟩; have hS3 := HSb.out _ _ (by assumption) hb3; have hR3 : w3.heap[w.heap.size + 1 + 1]? = some (.cells #[.slice none 0 0, .slice none 0 0, .int .i64 0] 73 (0, 0)) := (by first | exact (hb3.block _ (blk_lt hR4)).trans hR4 | exact (hb3.block _ (blk_lt HR2.out)).trans HR2.out); have r03 := blk_cell hR3 0; have r13 := blk_cell hR3 1; have r23 := blk_cell hR3 2; have rf3 := blk_frozen hR3; have rl3 := blk_lt hR3; simp at r03 r13 r23)
    | (refine step_call1 rfl 122 (.tmp 44) _ rfl (.agg #[.slice ah nh ch, .slice ab nb cb]) rfl (fun _ => callPast _ _) (ppast_any _ ⟨ah, nh, ch⟩ ⟨ab, nb, cb⟩ cl (HCl.out _ (by assumption)) HK.out) ?_; rintro r w4 ⟨rfl, hb4⟩; refine ⟨_, rfl, ?_⟩; have hS4 := HSb.out _ _ (by assumption) hb4; have hR4 : w4.heap[w.heap.size + 1 + 1]? = some (.cells #[.slice none 0 0, .slice none 0 0, .int .i64 0] 73 (0, 0)) := (by first | exact (hb4.block _ (blk_lt hR3)).trans hR3 | exact (hb4.block _ (blk_lt HR2.out)).trans HR2.out); have r04 := blk_cell hR4 0; have r14 := blk_cell hR4 1; have r24 := blk_cell hR4 2; have rf4 := blk_frozen hR4; have rl4 := blk_lt hR4; simp at r04 r14 r24; try (have hJ4 := hJ.below hb4)))
   go_wp2_with fail
   have hwr : IntKind.i64.wrap (S.fresh + Rf.pastC cl) = S.fresh + Rf.pastC cl := wrap_in (by omega) (by omega)
   rw [hwr]
   refine bodyPost_ret (v := .tuple #[.agg #[.slice a8 n8 c8, .slice a7 E2.terms.length c7, .int .i64 (S.fresh + Rf.pastC cl)], .int .i64 0]) (by simp [results, Tryz.results101, go_sem, *]) rfl ?_
   refine ⟨a8, n8, c8, a7, _, c7, _, by rw [HW.out], ?_, ?_⟩
   ·rw [HW.out]
    exact ⟨SeenTs.set3 hJ4 hR4 (by decide) (by decide), SeenTs.set3 (HEt.out _ hS4) hR4 (by decide) (by decide), rfl⟩
   ·exact (((HRr.out _ hS4).setCell (p := ⟨_, 0, none⟩) (by simp; omega) _).setCell (p := ⟨_, 1, none⟩) (by simp; omega) _).setCell (p := ⟨_, 2, none⟩) (by simp; omega) _
  ·have h0' : ((Rf.solveE (Rf.withE S cl h)).1 != 0) = true := bne_iff_ne.2 h0
   have HW : Hid (Rf.withS S cl h = ((Rf.solveE (Rf.withE S cl h)).1, ⟨[], [], 0⟩)) := by unfold Hid Rf.withS; rw [if_neg h0]
   clear h0
   go_wp2_with (go_at_call 121; refine (psolve_any _ e _ HA.out HG.out).mono ?_; rintro r w2 ⟨rfl, hk2, hA2⟩; have hR2 := (hk2.block _ (blk_lt HRc.out) hre).trans HRc.out; have r0 := blk_cell hR2 0; have r1 := blk_cell hR2 1; have r2 := blk_cell hR2 2; have rf := blk_frozen hR2; have rl := blk_lt hR2; simp at r0 r1 r2)
   refine bodyPost_ret (v := .tuple #[.agg #[.slice none 0 0, .slice none 0 0, .int .i64 0], .int .i64 (Rf.solveE (Rf.withE S cl h)).1]) (by simp [results, Tryz.results101, go_sem, *]) rfl ?_
   refine ⟨none, 0, 0, none, 0, 0, 0, by rw [HW.out], by rw [HW.out]; exact ⟨SeenTs.nil _, SeenTs.nil _, rfl⟩, ?_⟩
   exact (((hbwc.trans (hk2.below hbwc.size (fun k hk e => by omega))).setCell (p := ⟨_, 0, none⟩) (by simp; omega) _).setCell (p := ⟨_, 1, none⟩) (by simp; omega) _).setCell (p := ⟨_, 2, none⟩) (by simp; omega) _
end Go.Proofs.YtbiojnljihgpoaaGreatDoor
