
import Derived.Test.YtbiojnljihgpoaaGreatDoorZav
import Derived.Deep.RegionHeld2
import Derived.Test.YtbiojnljihgpoaaGreatDoorZaf
import Derived.Test.YtbiojnljihgpoaaGreatDoorZat
namespace Go.Proofs.YtbiojnljihgpoaaGreatDoor
open Go.RowKit
theorem wrap_in {x : Int} (h0 : -1000000000000 <= x) (h1 : x <= 1000000000000) : IntKind.i64.wrap x = x := by
 rw [IntKind.wrap_i64]
 omega
theorem SeenTs.set3 {w : World} {v : Value} {ts : List (List Rf.Part)} {R : Nat} {cs : Array Value} {t : TypeId} {u0 u1 u2 : Value} (h : SeenTs w v ts) (hB : w.heap[R]? = some (.cells cs t (0, 0))) (h1 : t ≠ 101) (h2 : t ≠ 56) : SeenTs (((w.setCell ⟨R, 0, none⟩ u0).setCell ⟨R, 1, none⟩ u1).setCell ⟨R, 2, none⟩ u2) v ts :=
 ((h.setBlk hB h1 h2 0 u0).setBlk (blk_set hB 0 u0) h1 h2 1 u1).setBlk (blk_set (blk_set hB 0 u0) 1 u1) h1 h2 2 u2
theorem callJoined (vals : Array Value) (w : World) : (callFunc 65 vals).run Tryz.prog w = .ok (.enter 65 vals) w := by
 simp [callFunc, Tryz.func65, Tryz.f65]
theorem callPast (vals : Array Value) (w : World) : (callFunc 122 vals).run Tryz.prog w = .ok (.enter 122 vals) w := by
 simp [callFunc, Tryz.func122, Tryz.f122]
set_option maxHeartbeats 2000000 in
set_option maxRecDepth 100000 in
theorem pwith_any (w : World) (vg vt : Value) (fr h : Int) (S : Rf.St) (hx bx : SlV) (cl : Rf.Cl) (N : Nat) (hS : StIs w vg vt fr S) (hO : StOk S N) (hN : N <= 9000) (hne : S.goals ≠ []) (hC : SeenCl w hx bx cl) (hG : ClGood cl) :
  Calls Tryz.prog 101 #[.agg #[vg, vt, .int .i64 fr], .agg #[.slice hx.a hx.n hx.c, .slice bx.a bx.n bx.c], .int .i64 h] w fun r w' => ∃ a3 n3 c3 a4 n4 c4 fr', r = .returned (.tuple #[.agg #[.slice a3 n3 c3, .slice a4 n4 c4, .int .i64 fr'], .int .i64 (Rf.withS S cl h).1]) /\ StIs w' (.slice a3 n3 c3) (.slice a4 n4 c4) fr' (Rf.withS S cl h).2 /\ Below w.heap.size w w' := by
 obtain ⟨hSg, hSt, rfl⟩ := hS
 obtain ⟨acc, s1, e1, hgs⟩ := hSg.ex
 obtain ⟨a1, c1, rfl⟩ := s1.slice
 obtain ⟨a2, c2, rfl⟩ := hSt.slice
 have hpos : 1 <= acc.length := by
  cases acc with
  | nil => simp at hgs; exact absurd hgs hne
  | cons => simp
 obtain ⟨g1, o1, rfl⟩ := s1.pos (by simpa using hpos)
 have hgl := s1.lt
 have hcap := s1.cap
 rw [List.length_map] at hcap
 obtain ⟨q0, acc', rfl⟩ : ∃ q0 acc', acc = q0 :: acc' := by
  cases acc with
  | nil => simp at hpos
  | cons a b => exact ⟨a, b, rfl⟩
 have hcell := Seen.termAt s1 0 q0.1 (by simp)
 obtain ⟨⟨qa, qn, qc⟩, qp⟩ := q0
 obtain ⟨ah, nh, ch⟩ := hx
 obtain ⟨ab, nb, cb⟩ := bx
 simp only [Nat.add_zero] at hcell
 have HG : Hid _ := withE_good (h := h) hO hN hG hne
 have HC : Hid (SeenCl w ⟨ah, nh, ch⟩ ⟨ab, nb, cb⟩ cl) := hC
 have HK : Hid _ := hG.ok
 have HS1 : Hid _ := s1
 have HE1 : Hid _ := e1
 have HSt : Hid _ := hSt
 have Hgs : Hid _ := hgs
 have hf0 := hO.f0
 have hf1 := hO.f1
 simp only [List.map_cons, List.length_cons, List.length_map] at *
 clear hSg hSt s1 e1 hgs hC hG hO hpos
 go_enter Tryz.func101, Tryz.ntmps101
 go_upto_region 2 with (go_at_call 120; refine (pOwn_any S.fresh h _ ⟨ah, nh, ch⟩ ⟨ab, nb, cb⟩ cl (HC.out.below (by repeat(first|exact bl0 _ _|refine bl1 ?_ (by simp<;>omega) _|refine bl2 ?_|refine bl3 ?_ _|refine bl4 ?_ (by simp<;>omega) _))) HK.out hf0 (by omega)).mono ?_; rintro r w1 ⟨⟨yh, mh, dh⟩, ⟨yb, mb, db⟩, rfl, hO1, hb1⟩)
 have hz1 : w.heap.size + 3 <= w1.heap.size := by have := hb1.size; simp at this; omega
 have hbw1 : Below w.heap.size w w1 := Below.trans ((by repeat(first|exact bl0 _ _|refine bl1 ?_ (by simp<;>omega) _|refine bl2 ?_|refine bl3 ?_ _|refine bl4 ?_ (by simp<;>omega) _)) : Below w.heap.size w (((w.alloc _).alloc _).alloc _)) (hb1.mono (by simp <;> omega))
 have hX1 := (hb1.block w.heap.size (by simp <;> omega)).trans (blk_alloc (blk_alloc (blk_new _ _) _) _)
 have hY1 := (hb1.block (w.heap.size + 1) (by simp <;> omega)).trans (blk_alloc (blk_at _ _ _ (by simp)) _)
 have hR1 := (hb1.block (w.heap.size + 1 + 1) (by simp <;> omega)).trans (blk_at _ _ _ (by simp))
 have x0 := blk_cell hX1 0
 have x1 := blk_cell hX1 1
 have x2 := blk_cell hX1 2
 simp at x0 x1 x2
 have hcell1 : w1.cell? ⟨g1, o1, none⟩ = some (.slice qa qn qc) := (World.cell?_of_block (hbw1.block g1 hgl)).trans hcell
 have hlt0 : w.heap.size < w1.heap.size := by omega
 have hgl1 : g1 < w1.heap.size := by omega
 have hS1' := HS1.out.below hbw1
 have hE1' : ∀ q ∈ acc', Seen w1 101 partCells (slv q.1) q.2 := fun q hq => (HE1.out q (List.mem_cons_of_mem _ hq)).below hbw1
 have Htail1 : Hid (c1 = 1 -> SeenTs w1 (.slice (some ⟨g1, o1, none⟩) acc'.length 0) (acc'.map (·.2))) := fun hcc => ⟨acc', by have h9 := hS1'.dropEnd 1 hcc; simpa using h9, hE1', rfl⟩
 have Htail2 : Hid (SeenTs w1 (.slice (some ⟨g1, o1 + 1, none⟩) acc'.length (c1 - 1)) (acc'.map (·.2))) := ⟨acc', by have h9 := hS1'.drop slCells_len 1 (by simp); simpa using h9, hE1', rfl⟩
 clear hS1' hE1'
 go_cut [9] from 11 to 47 (fun pv wx => ∃ (e : Nat) (vr : Value), pv = .pointer (some ⟨e, 0, none⟩) /\ w1.heap.size <= e /\ EqB wx e (.slice qa qn qc) (.slice yh mh dh) (.slice yb mb db) vr (.slice a2 S.terms.length c2) /\ SeenTs wx vr (acc'.map (·.2)) /\ Below w1.heap.size w1 wx)
 case first =>
  by_cases hcc : c1 = 1
  ·go_region
   go_wp2_with fail
   go_meet
   exact ⟨_, _, rfl, by omega, blk_at _ _ _ (by simp), (Htail1.out hcc).below (by repeat(first|exact bl0 _ _|refine bl1 ?_ (by simp<;>omega) _|refine bl2 ?_|refine bl3 ?_ _|refine bl4 ?_ (by simp<;>omega) _)), (by repeat(first|exact bl0 _ _|refine bl1 ?_ (by simp<;>omega) _|refine bl2 ?_|refine bl3 ?_ _|refine bl4 ?_ (by simp<;>omega) _))⟩
  ·go_region
   go_wp2_with fail
   go_meet
   exact ⟨_, _, rfl, by omega, blk_at _ _ _ (by simp), Htail2.out.below (by repeat(first|exact bl0 _ _|refine bl1 ?_ (by simp<;>omega) _|refine bl2 ?_|refine bl3 ?_ _|refine bl4 ?_ (by simp<;>omega) _)), (by repeat(first|exact bl0 _ _|refine bl1 ?_ (by simp<;>omega) _|refine bl2 ?_|refine bl3 ?_ _|refine bl4 ?_ (by simp<;>omega) _))⟩
 case rest =>
  obtain ⟨e, vr, rfl, he, hB, hvr, hbc⟩ := hcut
  have hbwc : Below w.heap.size w wc := hbw1.trans (hbc.mono (by omega))
  have hE : EqIs wc (.slice qa qn qc) (.slice yh mh dh) (.slice yb mb db) vr (.slice a2 S.terms.length c2) (Rf.withE S cl h) := by
   unfold Rf.withE
   rw [Hgs.out]
   exact ⟨(HE1.out (⟨qa, qn, qc⟩, qp) (by simp)).below hbwc, hO1.head.below hbc, hO1.body.below hbc, hvr, HSt.out.below hbwc⟩
  have HA : Hid (EqAt wc e (Rf.withE S cl h)) := ⟨_, _, _, _, _, hB, hE⟩
  have hRc : wc.heap[w.heap.size + 1 + 1]? = _ := (hbc.block _ (by omega)).trans hR1
  have hXc : wc.heap[w.heap.size]? = _ := (hbc.block _ (by omega)).trans hX1
  have hYc : wc.heap[w.heap.size + 1]? = _ := (hbc.block _ (by omega)).trans hY1
  have hre : ¬ w.heap.size + 1 + 1 = e := by omega
  have hxe : ¬ w.heap.size = e := by omega
  have hye : ¬ w.heap.size + 1 = e := by omega
  have HRc : Hid _ := hRc
  have HXc : Hid _ := hXc
  have HYc : Hid _ := hYc
  clear hE hB hvr hRc hXc hYc hX1 hY1 hR1 x0 x1 x2 hcell1
  by_cases h0 : (Rf.solveE (Rf.withE S cl h)).1 = 0
  ·have HW : Hid (Rf.withS S cl h = (0, ⟨(Rf.solveE (Rf.withE S cl h)).2.body ++ (Rf.solveE (Rf.withE S cl h)).2.behind, (Rf.solveE (Rf.withE S cl h)).2.terms, S.fresh + Rf.pastC cl⟩)) := by unfold Hid Rf.withS; rw [if_pos h0]
   have H0 : Hid _ := h0
   have hpb := pastC_bd HK.out
   have hlb := solve_len (Rf.withE S cl h) HG.out
   have Hlb : Hid _ := hlb
   clear h0 hlb
   go_upto_region 6 with (go_at_call 121; refine (psolve_any _ e _ HA.out HG.out).mono ?_; rintro r w2 ⟨rfl, hk2, hA2⟩; rw [H0.out]; have hR2 := (hk2.block _ (blk_lt HRc.out) hre).trans HRc.out; have hX2 := (hk2.block _ (blk_lt HXc.out) hxe).trans HXc.out; have hY2 := (hk2.block _ (blk_lt HYc.out) hye).trans HYc.out)
   obtain ⟨vf, vs, vb, vh, vt, hB2, hE2⟩ := (hA2 H0.out).ex
   generalize (Rf.solveE (Rf.withE S cl h)).2 = E2 at *
   obtain ⟨a5, c5, rfl⟩ := hE2.b.slice
   obtain ⟨a6, c6, rfl⟩ := hE2.h.slice
   obtain ⟨a7, c7, rfl⟩ := hE2.t.slice
   obtain ⟨l0, l1, l2, l3, l4, lf, ll⟩ := hB2.facts
   have x2 := blk_cell hX2 2
   have y0 := blk_cell hY2 0
   have y1 := blk_cell hY2 1
   have r0 := blk_cell hR2 0
   have r1 := blk_cell hR2 1
   have r2 := blk_cell hR2 2
   have rf := blk_frozen hR2
   have rl := blk_lt hR2
   have yl := blk_lt hY2
   have xl := blk_lt hX2
   simp at x2 y0 y1 r0 r1 r2
   have hbw2 : Below w.heap.size w w2 := hbwc.trans (hk2.below hbwc.size (fun k hk e => by omega))
   have hz2 := hbw2.size
   have hK : ∀ X, Kept (fun k => k = w.heap.size + 1 + 1) w2 X -> (fun X : World => Kept (fun k => k = w.heap.size + 1 + 1) w2 X /\ X.cell? ⟨e, 2, none⟩ = some (.slice a5 E2.body.length c5) /\ X.cell? ⟨e, 3, none⟩ = some (.slice a6 E2.behind.length c6) /\ X.cell? ⟨e, 4, none⟩ = some (.slice a7 E2.terms.length c7) /\ X.cell? ⟨w.heap.size, 2, none⟩ = some (.int .i64 S.fresh) /\ X.cell? ⟨w.heap.size + 1, 0, none⟩ = some (.slice ah nh ch) /\ X.cell? ⟨w.heap.size + 1, 1, none⟩ = some (.slice ab nb cb)) X := fun X hk => ⟨hk, (hk.cell ll (fun e1 => hre e1.symm)).trans l2, (hk.cell ll (fun e1 => hre e1.symm)).trans l3, (hk.cell ll (fun e1 => hre e1.symm)).trans l4, (hk.cell xl (fun e1 => by simp at e1; omega)).trans x2, (hk.cell yl (fun e1 => by simp at e1)).trans y0, (hk.cell yl (fun e1 => by simp at e1)).trans y1⟩
   have nT : ∀ k cs (t : TypeId), t ≠ 73 -> w2.heap[k]? = some (.cells cs t (0, 0)) -> ¬ k = w.heap.size + 1 + 1 := fun k cs t hne hc he => by
    subst he; rw [hR2] at hc; injection hc with h1; injection h1 with _ h2; exact hne h2.symm
   have HS0 : (fun X : World => Kept (fun k => k = w.heap.size + 1 + 1) w2 X /\ X.cell? ⟨e, 2, none⟩ = some (.slice a5 E2.body.length c5) /\ X.cell? ⟨e, 3, none⟩ = some (.slice a6 E2.behind.length c6) /\ X.cell? ⟨e, 4, none⟩ = some (.slice a7 E2.terms.length c7) /\ X.cell? ⟨w.heap.size, 2, none⟩ = some (.int .i64 S.fresh) /\ X.cell? ⟨w.heap.size + 1, 0, none⟩ = some (.slice ah nh ch) /\ X.cell? ⟨w.heap.size + 1, 1, none⟩ = some (.slice ab nb cb)) w2.drew := hK _ (Kept.refl _ w2).drew
   have HSb : Hid (∀ X Y, (fun X : World => Kept (fun k => k = w.heap.size + 1 + 1) w2 X /\ X.cell? ⟨e, 2, none⟩ = some (.slice a5 E2.body.length c5) /\ X.cell? ⟨e, 3, none⟩ = some (.slice a6 E2.behind.length c6) /\ X.cell? ⟨e, 4, none⟩ = some (.slice a7 E2.terms.length c7) /\ X.cell? ⟨w.heap.size, 2, none⟩ = some (.int .i64 S.fresh) /\ X.cell? ⟨w.heap.size + 1, 0, none⟩ = some (.slice ah nh ch) /\ X.cell? ⟨w.heap.size + 1, 1, none⟩ = some (.slice ab nb cb)) X -> Below X.heap.size X Y -> (fun X : World => Kept (fun k => k = w.heap.size + 1 + 1) w2 X /\ X.cell? ⟨e, 2, none⟩ = some (.slice a5 E2.body.length c5) /\ X.cell? ⟨e, 3, none⟩ = some (.slice a6 E2.behind.length c6) /\ X.cell? ⟨e, 4, none⟩ = some (.slice a7 E2.terms.length c7) /\ X.cell? ⟨w.heap.size, 2, none⟩ = some (.int .i64 S.fresh) /\ X.cell? ⟨w.heap.size + 1, 0, none⟩ = some (.slice ah nh ch) /\ X.cell? ⟨w.heap.size + 1, 1, none⟩ = some (.slice ab nb cb)) Y) := fun X Y hX hb => hK _ (hX.1.trans (Kept.of_below hb (fun k => k = w.heap.size + 1 + 1)) (fun _ _ h => h))
   have HSs : Hid (∀ X u0 u1 u2, (fun X : World => Kept (fun k => k = w.heap.size + 1 + 1) w2 X /\ X.cell? ⟨e, 2, none⟩ = some (.slice a5 E2.body.length c5) /\ X.cell? ⟨e, 3, none⟩ = some (.slice a6 E2.behind.length c6) /\ X.cell? ⟨e, 4, none⟩ = some (.slice a7 E2.terms.length c7) /\ X.cell? ⟨w.heap.size, 2, none⟩ = some (.int .i64 S.fresh) /\ X.cell? ⟨w.heap.size + 1, 0, none⟩ = some (.slice ah nh ch) /\ X.cell? ⟨w.heap.size + 1, 1, none⟩ = some (.slice ab nb cb)) X -> (fun X : World => Kept (fun k => k = w.heap.size + 1 + 1) w2 X /\ X.cell? ⟨e, 2, none⟩ = some (.slice a5 E2.body.length c5) /\ X.cell? ⟨e, 3, none⟩ = some (.slice a6 E2.behind.length c6) /\ X.cell? ⟨e, 4, none⟩ = some (.slice a7 E2.terms.length c7) /\ X.cell? ⟨w.heap.size, 2, none⟩ = some (.int .i64 S.fresh) /\ X.cell? ⟨w.heap.size + 1, 0, none⟩ = some (.slice ah nh ch) /\ X.cell? ⟨w.heap.size + 1, 1, none⟩ = some (.slice ab nb cb)) (((X.setCell ⟨w.heap.size + 1 + 1, 0, none⟩ u0).setCell ⟨w.heap.size + 1 + 1, 1, none⟩ u1).setCell ⟨w.heap.size + 1 + 1, 2, none⟩ u2)) := fun X u0 u1 u2 hX => hK _ (((hX.1.setCell (p := ⟨w.heap.size + 1 + 1, 0, none⟩) (Or.inr rfl) u0).setCell (p := ⟨w.heap.size + 1 + 1, 1, none⟩) (Or.inr rfl) u1).setCell (p := ⟨w.heap.size + 1 + 1, 2, none⟩) (Or.inr rfl) u2)
   have keepTs : ∀ {X v ts}, SeenTs w2 v ts -> Kept (fun k => k = w.heap.size + 1 + 1) w2 X -> SeenTs X v ts := fun {X v ts} ht hk => by
    obtain ⟨acc, b1, b2, b3⟩ := ht.ex
    exact ⟨acc, b1.kept hk (fun k cs hc => nT k cs _ (by decide) hc), fun q hq => (b2 q hq).kept hk (fun k cs hc => nT k cs _ (by decide) hc), b3⟩
   have HEb : Hid (∀ X, (fun X : World => Kept (fun k => k = w.heap.size + 1 + 1) w2 X /\ X.cell? ⟨e, 2, none⟩ = some (.slice a5 E2.body.length c5) /\ X.cell? ⟨e, 3, none⟩ = some (.slice a6 E2.behind.length c6) /\ X.cell? ⟨e, 4, none⟩ = some (.slice a7 E2.terms.length c7) /\ X.cell? ⟨w.heap.size, 2, none⟩ = some (.int .i64 S.fresh) /\ X.cell? ⟨w.heap.size + 1, 0, none⟩ = some (.slice ah nh ch) /\ X.cell? ⟨w.heap.size + 1, 1, none⟩ = some (.slice ab nb cb)) X -> SeenTs X (.slice a5 E2.body.length c5) E2.body) := fun X hX => keepTs hE2.b hX.1
   have HEh : Hid (∀ X, (fun X : World => Kept (fun k => k = w.heap.size + 1 + 1) w2 X /\ X.cell? ⟨e, 2, none⟩ = some (.slice a5 E2.body.length c5) /\ X.cell? ⟨e, 3, none⟩ = some (.slice a6 E2.behind.length c6) /\ X.cell? ⟨e, 4, none⟩ = some (.slice a7 E2.terms.length c7) /\ X.cell? ⟨w.heap.size, 2, none⟩ = some (.int .i64 S.fresh) /\ X.cell? ⟨w.heap.size + 1, 0, none⟩ = some (.slice ah nh ch) /\ X.cell? ⟨w.heap.size + 1, 1, none⟩ = some (.slice ab nb cb)) X -> SeenTs X (.slice a6 E2.behind.length c6) E2.behind) := fun X hX => keepTs hE2.h hX.1
   have HEt : Hid (∀ X, (fun X : World => Kept (fun k => k = w.heap.size + 1 + 1) w2 X /\ X.cell? ⟨e, 2, none⟩ = some (.slice a5 E2.body.length c5) /\ X.cell? ⟨e, 3, none⟩ = some (.slice a6 E2.behind.length c6) /\ X.cell? ⟨e, 4, none⟩ = some (.slice a7 E2.terms.length c7) /\ X.cell? ⟨w.heap.size, 2, none⟩ = some (.int .i64 S.fresh) /\ X.cell? ⟨w.heap.size + 1, 0, none⟩ = some (.slice ah nh ch) /\ X.cell? ⟨w.heap.size + 1, 1, none⟩ = some (.slice ab nb cb)) X -> SeenTs X (.slice a7 E2.terms.length c7) E2.terms) := fun X hX => keepTs hE2.t hX.1
   have HCl : Hid (∀ X, (fun X : World => Kept (fun k => k = w.heap.size + 1 + 1) w2 X /\ X.cell? ⟨e, 2, none⟩ = some (.slice a5 E2.body.length c5) /\ X.cell? ⟨e, 3, none⟩ = some (.slice a6 E2.behind.length c6) /\ X.cell? ⟨e, 4, none⟩ = some (.slice a7 E2.terms.length c7) /\ X.cell? ⟨w.heap.size, 2, none⟩ = some (.int .i64 S.fresh) /\ X.cell? ⟨w.heap.size + 1, 0, none⟩ = some (.slice ah nh ch) /\ X.cell? ⟨w.heap.size + 1, 1, none⟩ = some (.slice ab nb cb)) X -> SeenCl X ⟨ah, nh, ch⟩ ⟨ab, nb, cb⟩ cl) := fun X hX => ⟨(HC.out.head.below hbw2).kept hX.1 (fun k cs hc => nT k cs _ (by decide) hc), keepTs (HC.out.body.below hbw2) hX.1⟩
   have HRr : Hid (∀ X, (fun X : World => Kept (fun k => k = w.heap.size + 1 + 1) w2 X /\ X.cell? ⟨e, 2, none⟩ = some (.slice a5 E2.body.length c5) /\ X.cell? ⟨e, 3, none⟩ = some (.slice a6 E2.behind.length c6) /\ X.cell? ⟨e, 4, none⟩ = some (.slice a7 E2.terms.length c7) /\ X.cell? ⟨w.heap.size, 2, none⟩ = some (.int .i64 S.fresh) /\ X.cell? ⟨w.heap.size + 1, 0, none⟩ = some (.slice ah nh ch) /\ X.cell? ⟨w.heap.size + 1, 1, none⟩ = some (.slice ab nb cb)) X -> Below w.heap.size w X) := fun X hX => hbw2.trans (hX.1.below hz2 (fun k hk e => by omega))
   have HR2 : Hid _ := hR2
   clear hE2 hX2 hY2 hR2 hB2 hK nT keepTs l0 l1 l2 l3 l4 lf x2 y0 y1 hbw2
   go_region_held2 (fun X : World => Kept (fun k => k = w.heap.size + 1 + 1) w2 X /\ X.cell? ⟨e, 2, none⟩ = some (.slice a5 E2.body.length c5) /\ X.cell? ⟨e, 3, none⟩ = some (.slice a6 E2.behind.length c6) /\ X.cell? ⟨e, 4, none⟩ = some (.slice a7 E2.terms.length c7) /\ X.cell? ⟨w.heap.size, 2, none⟩ = some (.int .i64 S.fresh) /\ X.cell? ⟨w.heap.size + 1, 0, none⟩ = some (.slice ah nh ch) /\ X.cell? ⟨w.heap.size + 1, 1, none⟩ = some (.slice ab nb cb)) (first | assumption | exact HSs.out _ _ _ _ (by assumption)) (first
    | (refine step_call2 rfl 65 (.tmp 36) (.tmp 38) _ rfl (.slice a5 E2.body.length c5) (.slice a6 E2.behind.length c6) rfl rfl (fun _ => callJoined _ _) (pjoined_any _ _ _ E2.body E2.behind (HEb.out _ (by assumption)) (HEh.out _ (by assumption)) (by have := Hlb.out.1; omega) (by have := Hlb.out.2.1; omega)) ?_; rintro r w3 ⟨a8, n8, c8, rfl, hJ, hb3⟩; refine ⟨_, rfl, ?_⟩; have hS3 := HSb.out _ _ (by assumption) hb3; have hR3 : w3.heap[w.heap.size + 1 + 1]? = some (.cells #[.slice none 0 0, .slice none 0 0, .int .i64 0] 73 (0, 0)) := (by first | exact (hb3.block _ (blk_lt hR4)).trans hR4 | exact (hb3.block _ (blk_lt HR2.out)).trans HR2.out); have r03 := blk_cell hR3 0; have r13 := blk_cell hR3 1; have r23 := blk_cell hR3 2; have rf3 := blk_frozen hR3; have rl3 := blk_lt hR3; simp at r03 r13 r23)
    | (refine step_call1 rfl 122 (.tmp 44) _ rfl (.agg #[.slice ah nh ch, .slice ab nb cb]) rfl (fun _ => callPast _ _) (ppast_any _ ⟨ah, nh, ch⟩ ⟨ab, nb, cb⟩ cl (HCl.out _ (by assumption)) HK.out) ?_; rintro r w4 ⟨rfl, hb4⟩; refine ⟨_, rfl, ?_⟩; have hS4 := HSb.out _ _ (by assumption) hb4; have hR4 : w4.heap[w.heap.size + 1 + 1]? = some (.cells #[.slice none 0 0, .slice none 0 0, .int .i64 0] 73 (0, 0)) := (by first | exact (hb4.block _ (blk_lt hR3)).trans hR3 | exact (hb4.block _ (blk_lt HR2.out)).trans HR2.out); have r04 := blk_cell hR4 0; have r14 := blk_cell hR4 1; have r24 := blk_cell hR4 2; have rf4 := blk_frozen hR4; have rl4 := blk_lt hR4; simp at r04 r14 r24; try (have hJ4 := hJ.below hb4)))
   go_wp2_with fail
   have hwr : IntKind.i64.wrap (S.fresh + Rf.pastC cl) = S.fresh + Rf.pastC cl := wrap_in (by omega) (by omega)
   rw [hwr]
   refine bodyPost_ret (v := .tuple #[.agg #[.slice a8 n8 c8, .slice a7 E2.terms.length c7, .int .i64 (S.fresh + Rf.pastC cl)], .int .i64 0]) (by simp [results, Tryz.results101, go_sem, *]) rfl ?_
   refine ⟨a8, n8, c8, a7, _, c7, _, by rw [HW.out], ?_, ?_⟩
   ·rw [HW.out]
    exact ⟨SeenTs.set3 hJ4 hR4 (by decide) (by decide), SeenTs.set3 (HEt.out _ hS4) hR4 (by decide) (by decide), rfl⟩
   ·exact (((HRr.out _ hS4).setCell (p := ⟨_, 0, none⟩) (by simp; omega) _).setCell (p := ⟨_, 1, none⟩) (by simp; omega) _).setCell (p := ⟨_, 2, none⟩) (by simp; omega) _
  ·have h0' : ((Rf.solveE (Rf.withE S cl h)).1 != 0) = true := bne_iff_ne.2 h0
   have HW : Hid (Rf.withS S cl h = ((Rf.solveE (Rf.withE S cl h)).1, ⟨[], [], 0⟩)) := by unfold Hid Rf.withS; rw [if_neg h0]
   clear h0
   go_wp2_with (go_at_call 121; refine (psolve_any _ e _ HA.out HG.out).mono ?_; rintro r w2 ⟨rfl, hk2, hA2⟩; have hR2 := (hk2.block _ (blk_lt HRc.out) hre).trans HRc.out; have r0 := blk_cell hR2 0; have r1 := blk_cell hR2 1; have r2 := blk_cell hR2 2; have rf := blk_frozen hR2; have rl := blk_lt hR2; simp at r0 r1 r2)
   refine bodyPost_ret (v := .tuple #[.agg #[.slice none 0 0, .slice none 0 0, .int .i64 0], .int .i64 (Rf.solveE (Rf.withE S cl h)).1]) (by simp [results, Tryz.results101, go_sem, *]) rfl ?_
   refine ⟨none, 0, 0, none, 0, 0, 0, by rw [HW.out], by rw [HW.out]; exact ⟨SeenTs.nil _, SeenTs.nil _, rfl⟩, ?_⟩
   exact (((hbwc.trans (hk2.below hbwc.size (fun k hk e => by omega))).setCell (p := ⟨_, 0, none⟩) (by simp; omega) _).setCell (p := ⟨_, 1, none⟩) (by simp; omega) _).setCell (p := ⟨_, 2, none⟩) (by simp; omega) _
theorem cells4 {w : World} {b : Nat} {p : Rf.Part} (h : w.heap[b]? = some (.cells #[.int .i64 p.kind, .string p.name, .int .i64 p.value, .int .i64 p.args] 101 (0, 0))) : w.cell? ⟨b, 0, none⟩ = some (.int .i64 p.kind) /\ w.cell? ⟨b, 1, none⟩ = some (.string p.name) /\ w.cell? ⟨b, 2, none⟩ = some (.int .i64 p.value) /\ w.cell? ⟨b, 3, none⟩ = some (.int .i64 p.args) /\ b < w.heap.size := ⟨blk_cell h 0, blk_cell h 1, blk_cell h 2, blk_cell h 3, blk_lt h⟩
theorem Seen.dropIf {α : Type} {w : World} {e : TypeId} {C : α -> List Value} {size : Nat} {g off n cap : Nat} {xs : List α} (h : Seen w e C (.slice (some ⟨g, off, none⟩) n cap) xs) (hC : ∀ x, (C x).length = size) (k : Nat) (hk : k <= xs.length) : Seen w e C (.slice (if cap = k then some ⟨g, off, none⟩ else some ⟨g, off + k * size, none⟩) (xs.length - k) (cap - k)) (xs.drop k) := by
 split
 ·rename_i hc
  have := h.dropEnd k hc
  rw [show cap - k = 0 by omega]; exact this
 ·exact h.drop hC k hk
set_option maxHeartbeats 400000 in
theorem ptopA_any (a : Option Addr) (n c : Nat) (ps : List Rf.Part) (w : World) (h : Seen w 101 partCells (.slice a n c) ps) :
  Calls Tryz.prog 71 #[.slice a n c] w fun r w' => r = .returned (.agg #[.int .i64 (Rf.topP ps).kind, .string (Rf.topP ps).name, .int .i64 (Rf.topP ps).value, .int .i64 (Rf.topP ps).args]) /\ Below w.heap.size w w' := by
 cases ps with
 | nil =>
  have hn : n = 0 := h.len
  subst hn
  clear h
  go_enter Tryz.func71, Tryz.ntmps71
  go_wp2
  refine bodyPost_ret (v := .agg #[.int .i64 0, .string ⟨#[]⟩, .int .i64 0, .int .i64 0]) (by simp [results, Tryz.results71, go_sem, *]) rfl ?_
  exact ⟨rfl, (by repeat(first|exact bl0 _ _|refine bl1 ?_ (by simp<;>omega) _|refine bl2 ?_|refine bl3 ?_ _|refine bl4 ?_ (by simp<;>omega) _))⟩
 | cons p rest =>
  obtain ⟨g, off, rfl⟩ := h.pos (by simp)
  exact ptop_any g off n c p rest w h
set_option maxHeartbeats 400000 in
theorem pnumber_kind (p : Rf.Part) (w : World) :
  Calls Tryz.prog 138 #[.agg #[.int .i64 p.kind, .string p.name, .int .i64 p.value, .int .i64 p.args]] w fun r w' => r = .returned (.int .i64 (Rf.numberK p)) /\ Below w.heap.size w w' := by
 have HK : Hid (Rf.numberK p = if p.kind = 1 then 9 else if p.kind = 2 then 0 else 10) := rfl
 by_cases h1 : p.kind = 1
 ·have hv : Hid (Rf.numberK p = 9) := by unfold Hid; rw [HK.out, if_pos h1]
  go_enter Tryz.func138, Tryz.ntmps138
  go_wp2
  go_ret
  exact ⟨ret_int hv.out.symm, (by repeat(first|exact bl0 _ _|refine bl1 ?_ (by simp<;>omega) _|refine bl2 ?_|refine bl3 ?_ _|refine bl4 ?_ (by simp<;>omega) _))⟩
 ·have h1' : (p.kind == 1) = false := beq_eq_false_iff_ne.2 h1
  by_cases h2 : p.kind = 2
  ·have hv : Hid (Rf.numberK p = 0) := by unfold Hid; rw [HK.out, if_neg h1, if_pos h2]
   go_enter Tryz.func138, Tryz.ntmps138
   go_wp2
   go_ret
   exact ⟨ret_int hv.out.symm, (by repeat(first|exact bl0 _ _|refine bl1 ?_ (by simp<;>omega) _|refine bl2 ?_|refine bl3 ?_ _|refine bl4 ?_ (by simp<;>omega) _))⟩
  ·have h2' : (p.kind == 2) = false := beq_eq_false_iff_ne.2 h2
   have hv : Hid (Rf.numberK p = 10) := by unfold Hid; rw [HK.out, if_neg h1, if_neg h2]
   clear h1 h2
   go_enter Tryz.func138, Tryz.ntmps138
   go_wp2
   go_ret
   exact ⟨ret_int hv.out.symm, (by repeat(first|exact bl0 _ _|refine bl1 ?_ (by simp<;>omega) _|refine bl2 ?_|refine bl3 ?_ _|refine bl4 ?_ (by simp<;>omega) _))⟩
set_option maxHeartbeats 400000 in
theorem pisNamed_any (s : ByteArray) (w : World) :
  Calls Tryz.prog 49 #[.string s] w fun r w' => r = .returned (.bool (Rf.isNamedB s)) /\ w' = w := by
 by_cases h0 : 0 < s.size
 ·have hv : Hid (Rf.isNamedB s = ((s[0].toNat : Int) != 95)) := by
   unfold Hid Rf.isNamedB
   rw [Rf.byteAt_eq s 0 h0]
   generalize Rf.byteAt s 0 = x
   simp only [h0, decide_true, Bool.true_and]
   by_cases hx : x = 95
   ·subst hx; rfl
   ·rw [decide_eq_true hx]; exact (bne_iff_ne.2 hx).symm
  go_enter Tryz.func49, Tryz.ntmps49
  go_wp2
  go_ret
  exact ⟨ret_bool hv.out.symm, rfl⟩
 ·have hv : Hid (Rf.isNamedB s = false) := by unfold Hid Rf.isNamedB; simp [h0]
  go_enter Tryz.func49, Tryz.ntmps49
  go_wp2
  go_ret
  exact ⟨ret_bool hv.out.symm, rfl⟩
set_option maxHeartbeats 1000000 in
theorem parg_any (a : Option Addr) (n c i : Nat) (ps : List Rf.Part) (w : World) (h : Seen w 101 partCells (.slice a n c) ps) (h4 : Rf.ArgsOk ps) (hl : ps.length <= 400) (hi : i <= 10) :
  Calls Tryz.prog 112 #[.slice a n c, .int .i64 (i : Nat)] w fun r w' => ∃ a3 n3 c3, r = .returned (.slice a3 n3 c3) /\ Seen w' 101 partCells (.slice a3 n3 c3) (Rf.argT ps i) /\ Below w.heap.size w w' := by
 cases ps with
 | nil =>
  have hn : n = 0 := h.len
  subst hn
  have hv : Hid (Rf.argT [] i = []) := rfl
  clear h
  go_enter Tryz.func112, Tryz.ntmps112
  go_wp2
  go_ret
  exact ⟨_, _, _, rfl, by rw [hv.out]; exact Seen.nil, Below.refl _ _⟩
 | cons p t =>
  obtain ⟨g, off, rfl⟩ := h.pos (by simp)
  have hn : n = t.length + 1 := h.len
  subst hn
  have hcap := h.cap
  have hv : Hid (Rf.argT (p :: t) i = Rf.argN i t) := rfl
  have H : Hid _ := h
  have H4 : Hid (Rf.ArgsOk t) := fun x hx => h4 x (List.mem_cons_of_mem _ hx)
  simp only [List.length_cons] at hl hcap
  clear h h4
  go_enter Tryz.func112, Tryz.ntmps112
  have hstart : ∀ (a3 : Option Addr) (n3 c3 : Nat), Seen w 101 partCells (.slice a3 n3 c3) t -> ∃ (k : Nat) (rs : List Rf.Part) (ar : Option Addr) (nr cr : Nat), k <= i /\ (.int .i64 (0 : Int) : Value) = .int .i64 (k : Nat) /\ (.slice a3 n3 c3 : Value) = .slice ar nr cr /\ Seen w 101 partCells (.slice ar nr cr) rs /\ Rf.ArgsOk rs /\ rs.length <= 400 /\ Hid (Rf.argN i t = Rf.argN (i - k) rs) /\ Below w.heap.size w w := fun a3 n3 c3 h3 => ⟨0, t, a3, n3, c3, Nat.zero_le _, rfl, rfl, h3, H4.out, by omega, rfl, Below.refl _ _⟩
  have HD1 : Hid (c = 1 -> Seen w 101 partCells (.slice (some ⟨g, off, none⟩) t.length 0) t) := fun hc => by have h9 := H.out.dropEnd 1 hc; simpa using h9
  have HD2 : Hid (Seen w 101 partCells (.slice (some ⟨g, off + 4, none⟩) t.length (c - 1)) t) := by unfold Hid; have h9 := H.out.drop partCells_len 1 (by simp); simpa using h9
  have HSt : Hid _ := hstart
  clear hstart
  go_wp2_with fail
  all_goals
   go_loopw [5, 6] (fun rv iv wr => ∃ (k : Nat) (rs : List Rf.Part) (ar : Option Addr) (nr cr : Nat), k <= i /\ iv = .int .i64 (k : Nat) /\ rv = .slice ar nr cr /\ Seen wr 101 partCells (.slice ar nr cr) rs /\ Rf.ArgsOk rs /\ rs.length <= 400 /\ Hid (Rf.argN i t = Rf.argN (i - k) rs) /\ Below w.heap.size w wr) (fun _ iv _ => i - (intOf iv).toNat)
   case atStart => first | exact HSt.out _ _ _ (HD1.out ‹_›) | exact HSt.out _ _ _ HD2.out
   case round =>
    obtain ⟨k, rs, ar, nr, cr, hk, rfl, rfl, hS, hA, hrl, hinv, hbr⟩ := hrel
    have hnr : nr = rs.length := hS.len
    subst hnr
    have hsz := hbr.size
    have hld := Rf.lead_le rs
    have hcr := hS.cap
    have HS : Hid _ := hS
    have HA : Hid _ := hA
    by_cases hlt : k < i
    ·have hlt' : (k : Int) < (i : Nat) := by omega
     rw [show i - k = (i - (k + 1)) + 1 by omega, Rf.argN] at hinv
     rcases hS.shape with ⟨hv1, rfl⟩ | ⟨g1, o1, c1, hv1, hg1, _, _⟩
     ·injection hv1 with e1 e2 e3
      subst e1; subst e3
      clear hS hA
      go_wp2_with (go_at_call 128; refine (plead_any _ none 0 0 [] HS.out HA.out (by simp)).mono ?_; rintro r w2 ⟨rfl, hb2⟩)
      go_roundw
      case rel => exact ⟨k + 1, [], none, 0, 0, by omega, by go_num, rfl, Seen.nil, HA.out, by simp, hinv, hbr.trans (hb2.mono hsz)⟩
      case measure => simp [intOf]; omega
     ·injection hv1 with e1 e2 e3
      subst e1; subst e3
      obtain ⟨L, hL⟩ : ∃ L, Hid (Rf.leadT rs = L) := ⟨_, rfl⟩
      rw [hL.out] at hld hinv
      clear hS hA
      have HDb : Hid (∀ w2, Below wr.heap.size wr w2 -> Seen w2 101 partCells (.slice (if cr = L then some ⟨g1, o1, none⟩ else some ⟨g1, o1 + L * 4, none⟩) (rs.length - L) (cr - L)) (rs.drop L)) := fun w2 hb => Seen.dropIf (HS.out.below hb) partCells_len L hld
      have HAd : Hid (Rf.ArgsOk (rs.drop L)) := fun x hx => HA.out x (List.mem_of_mem_drop hx)
      have hdl : (rs.drop L).length <= 400 := by rw [List.length_drop]; omega
      have hdl2 : Hid ((rs.drop L).length = rs.length - L) := List.length_drop
      go_wp2_with (go_at_call 128; refine (plead_any _ (some ⟨g1, o1, none⟩) _ cr rs HS.out HA.out (by omega)).mono ?_; rintro r w2 ⟨rfl, hb2⟩; rw [hL.out])
      all_goals
       go_roundw
       case rel => exact ⟨k + 1, rs.drop L, _, _, _, by omega, by go_num, rfl, HDb.out _ hb2, HAd.out, hdl, hinv, hbr.trans (hb2.mono hsz)⟩
       case measure => simp [intOf]; omega
    ·obtain rfl : k = i := by omega
     rw [Nat.sub_self, Rf.argN] at hinv
     rcases hS.shape with ⟨hv1, rfl⟩ | ⟨g1, o1, c1, hv1, hg1, _, _⟩
     ·injection hv1 with e1 e2 e3
      subst e1; subst e3
      clear hS hA
      go_wp2_with (go_at_call 128; refine (plead_any _ none 0 0 [] HS.out HA.out (by simp)).mono ?_; rintro r w2 ⟨rfl, hb2⟩)
      go_ret
      refine ⟨_, _, _, rfl, ?_, hbr.trans (hb2.mono hsz)⟩
      rw [hv.out, hinv.out]; exact Seen.nil
     ·injection hv1 with e1 e2 e3
      subst e1; subst e3
      obtain ⟨L, hL⟩ : ∃ L, Hid (Rf.leadT rs = L) := ⟨_, rfl⟩
      rw [hL.out] at hld hinv
      clear hS hA
      go_wp2_with (go_at_call 128; refine (plead_any _ (some ⟨g1, o1, none⟩) _ cr rs HS.out HA.out (by omega)).mono ?_; rintro r w2 ⟨rfl, hb2⟩; rw [hL.out])
      go_ret
      refine ⟨_, _, _, rfl, ?_, hbr.trans (hb2.mono hsz)⟩
      rw [hv.out, hinv.out]
      exact (HS.out.below hb2).take L hld
theorem parg0_any (a : Option Addr) (n c : Nat) (ps : List Rf.Part) (w : World) (h : Seen w 101 partCells (.slice a n c) ps) (h4 : Rf.ArgsOk ps) (hl : ps.length <= 400) : Calls Tryz.prog 112 #[.slice a n c, .int .i64 0] w fun r w' => ∃ a3 n3 c3, r = .returned (.slice a3 n3 c3) /\ Seen w' 101 partCells (.slice a3 n3 c3) (Rf.argT ps 0) /\ Below w.heap.size w w' := parg_any a n c 0 ps w h h4 hl (by omega)
theorem parg1_any (a : Option Addr) (n c : Nat) (ps : List Rf.Part) (w : World) (h : Seen w 101 partCells (.slice a n c) ps) (h4 : Rf.ArgsOk ps) (hl : ps.length <= 400) : Calls Tryz.prog 112 #[.slice a n c, .int .i64 1] w fun r w' => ∃ a3 n3 c3, r = .returned (.slice a3 n3 c3) /\ Seen w' 101 partCells (.slice a3 n3 c3) (Rf.argT ps 1) /\ Below w.heap.size w w' := parg_any a n c 1 ps w h h4 hl (by omega)
theorem parg2_any (a : Option Addr) (n c : Nat) (ps : List Rf.Part) (w : World) (h : Seen w 101 partCells (.slice a n c) ps) (h4 : Rf.ArgsOk ps) (hl : ps.length <= 400) : Calls Tryz.prog 112 #[.slice a n c, .int .i64 2] w fun r w' => ∃ a3 n3 c3, r = .returned (.slice a3 n3 c3) /\ Seen w' 101 partCells (.slice a3 n3 c3) (Rf.argT ps 2) /\ Below w.heap.size w w' := parg_any a n c 2 ps w h h4 hl (by omega)
set_option maxHeartbeats 600000 in
set_option maxRecDepth 100000 in
theorem pnumbers_any (a : Option Addr) (n c : Nat) (ps : List Rf.Part) (w : World) (h : Seen w 101 partCells (.slice a n c) ps) (h4 : Rf.ArgsOk ps) (hl : ps.length <= 400) :
  Calls Tryz.prog 129 #[.slice a n c] w fun r w' => ∃ x y, r = .returned (.tuple #[.int .i64 x, .int .i64 y, .int .i64 (Rf.numbersK ps)]) /\ (Rf.numbersK ps = 0 -> x = Rf.num0 ps /\ y = Rf.num1 ps) /\ Below w.heap.size w w' := by
 have H : Hid _ := h
 have H4 : Hid (Rf.ArgsOk ps) := h4
 obtain ⟨K0, e0⟩ : ∃ K, Hid (Rf.numberK (Rf.topP (Rf.argT ps 0)) = K) := ⟨_, rfl⟩
 obtain ⟨K1, e1⟩ : ∃ K, Hid (Rf.numberK (Rf.topP (Rf.argT ps 1)) = K) := ⟨_, rfl⟩
 have HK : Hid (Rf.numbersK ps = if K0 = 0 then K1 else K0) := by unfold Hid Rf.numbersK; rw [e0.out, e1.out]
 clear h h4
 by_cases h0 : K0 = 0
 ·subst h0
  by_cases h1 : K1 = 0
  ·subst h1
   go_enter Tryz.func129, Tryz.ntmps129
   go_wp2_with (first
    | (go_at_call 112; first
     | (have hm := hb2; refine (parg1_any a n c ps _ (hSw.out.below (by repeat(first|exact bl0 _ _|refine bl1 ?_ (by simp<;>omega) _|refine bl2 ?_|refine bl3 ?_ _|refine bl4 ?_ (by simp<;>omega) _))) H4.out hl).mono ?_; rintro r w3 ⟨a3, n3, c3, rfl, hS3, hb3⟩; have hbw3 : Below w.heap.size w w3 := hbw2.trans (Below.trans ((Below.refl _ w2).alloc hz2 _) (hb3.mono (by rw [World.size_alloc]; omega))))
     | (refine (parg0_any a n c ps _ H.out H4.out hl).mono ?_; rintro r w1 ⟨a1, n1, c1, rfl, hS1, hb1⟩))
    | (go_at_call 71; first
     | (refine (ptopA_any a3 n3 c3 _ _ hS3).mono ?_; rintro r w4 ⟨rfl, hb4⟩; have hbw4 : Below w.heap.size w w4 := hbw3.trans (hb4.mono hbw3.size); have hz4 := hbw4.size; have B0 := (hb4.block w2.heap.size (by have := hb3.size; rw [World.size_alloc] at this; omega)).trans ((hb3.block w2.heap.size (by rw [World.size_alloc]; omega)).trans (blk_new w2 _)); obtain ⟨c0, c1', c2, c3', l0⟩ := cells4 B0; obtain ⟨p1, hp1⟩ : ∃ p, Hid (Rf.topP (Rf.argT ps 1) = p) := ⟨_, rfl⟩; rw [hp1.out])
     | (refine (ptopA_any a1 n1 c1 _ _ hS1).mono ?_; rintro r w2 ⟨rfl, hb2⟩; have hbw2 : Below w.heap.size w w2 := hb1.trans (hb2.mono hb1.size); have hz2 := hbw2.size; have hSw : Hid _ := H.out.below hbw2; obtain ⟨p0, hp0⟩ : ∃ p, Hid (Rf.topP (Rf.argT ps 0) = p) := ⟨_, rfl⟩; rw [hp0.out]))
    | (go_at_call 138; first
     | (have hm := hb5; refine (pnumber_kind p1 _).mono ?_; rintro r w6 ⟨rfl, hb6⟩; have hbw6 : Below w.heap.size w w6 := hbw5.trans (hb6.mono hbw5.size); have D0 := (hb6.block w2.heap.size l5).trans C0; have D1 := (hb6.block w4.heap.size l6).trans C1; obtain ⟨q0, q1, q2, q3, l7⟩ := cells4 D0; obtain ⟨r0, r1, r2, r3, l8⟩ := cells4 D1; rw [<- hp1.out, e1.out])
     | (refine (pnumber_kind p0 _).mono ?_; rintro r w5 ⟨rfl, hb5⟩; have hbw5 : Below w.heap.size w w5 := hbw4.trans (Below.trans ((Below.refl _ w4).alloc hz4 _) (hb5.mono (by rw [World.size_alloc]; omega))); have C0 := (hb5.block w2.heap.size (by rw [World.size_alloc]; omega)).trans (blk_alloc B0 _); have C1 := (hb5.block w4.heap.size (by rw [World.size_alloc]; omega)).trans (blk_new w4 _); obtain ⟨d0, d1, d2, d3, l5⟩ := cells4 C0; obtain ⟨f0, f1, f2, f3, l6⟩ := cells4 C1; rw [<- hp0.out, e0.out])))
   go_quiet (fail)
   go_wp2_with fail
   go_ret3
   have hN : Rf.numbersK ps = 0 := by have h9 := HK.out; simpa using h9
   refine ⟨p0.value, p1.value, by rw [hN]; rfl, fun _ => ⟨by rw [<- hp0.out]; rfl, by rw [<- hp1.out]; rfl⟩, ?_⟩
   first | exact hbw6 | exact hbw6.drew | exact hbw6.drewN _
  ·have h1' : (K1 == 0) = false := beq_eq_false_iff_ne.2 h1
   go_enter Tryz.func129, Tryz.ntmps129
   go_wp2_with (first
    | (go_at_call 112; first
     | (have hm := hb2; refine (parg1_any a n c ps _ (hSw.out.below (by repeat(first|exact bl0 _ _|refine bl1 ?_ (by simp<;>omega) _|refine bl2 ?_|refine bl3 ?_ _|refine bl4 ?_ (by simp<;>omega) _))) H4.out hl).mono ?_; rintro r w3 ⟨a3, n3, c3, rfl, hS3, hb3⟩; have hbw3 : Below w.heap.size w w3 := hbw2.trans (Below.trans ((Below.refl _ w2).alloc hz2 _) (hb3.mono (by rw [World.size_alloc]; omega))))
     | (refine (parg0_any a n c ps _ H.out H4.out hl).mono ?_; rintro r w1 ⟨a1, n1, c1, rfl, hS1, hb1⟩))
    | (go_at_call 71; first
     | (refine (ptopA_any a3 n3 c3 _ _ hS3).mono ?_; rintro r w4 ⟨rfl, hb4⟩; have hbw4 : Below w.heap.size w w4 := hbw3.trans (hb4.mono hbw3.size); have hz4 := hbw4.size; have B0 := (hb4.block w2.heap.size (by have := hb3.size; rw [World.size_alloc] at this; omega)).trans ((hb3.block w2.heap.size (by rw [World.size_alloc]; omega)).trans (blk_new w2 _)); obtain ⟨c0, c1', c2, c3', l0⟩ := cells4 B0; obtain ⟨p1, hp1⟩ : ∃ p, Hid (Rf.topP (Rf.argT ps 1) = p) := ⟨_, rfl⟩; rw [hp1.out])
     | (refine (ptopA_any a1 n1 c1 _ _ hS1).mono ?_; rintro r w2 ⟨rfl, hb2⟩; have hbw2 : Below w.heap.size w w2 := hb1.trans (hb2.mono hb1.size); have hz2 := hbw2.size; have hSw : Hid _ := H.out.below hbw2; obtain ⟨p0, hp0⟩ : ∃ p, Hid (Rf.topP (Rf.argT ps 0) = p) := ⟨_, rfl⟩; rw [hp0.out]))
    | (go_at_call 138; first
     | (have hm := hb5; refine (pnumber_kind p1 _).mono ?_; rintro r w6 ⟨rfl, hb6⟩; have hbw6 : Below w.heap.size w w6 := hbw5.trans (hb6.mono hbw5.size); have D0 := (hb6.block w2.heap.size l5).trans C0; have D1 := (hb6.block w4.heap.size l6).trans C1; obtain ⟨q0, q1, q2, q3, l7⟩ := cells4 D0; obtain ⟨r0, r1, r2, r3, l8⟩ := cells4 D1; rw [<- hp1.out, e1.out])
     | (refine (pnumber_kind p0 _).mono ?_; rintro r w5 ⟨rfl, hb5⟩; have hbw5 : Below w.heap.size w w5 := hbw4.trans (Below.trans ((Below.refl _ w4).alloc hz4 _) (hb5.mono (by rw [World.size_alloc]; omega))); have C0 := (hb5.block w2.heap.size (by rw [World.size_alloc]; omega)).trans (blk_alloc B0 _); have C1 := (hb5.block w4.heap.size (by rw [World.size_alloc]; omega)).trans (blk_new w4 _); obtain ⟨d0, d1, d2, d3, l5⟩ := cells4 C0; obtain ⟨f0, f1, f2, f3, l6⟩ := cells4 C1; rw [<- hp0.out, e0.out])))
   go_ret3
   have hN : Rf.numbersK ps = K1 := by have h9 := HK.out; simpa using h9
   refine ⟨0, 0, by rw [hN]; rfl, fun e => absurd (hN.symm.trans e) h1, ?_⟩
   first | exact hbw6 | exact hbw6.drew | exact hbw6.drewN _
 ·have h0' : (K0 == 0) = false := beq_eq_false_iff_ne.2 h0
  go_enter Tryz.func129, Tryz.ntmps129
  go_wp2_with (first
   | (go_at_call 112; first
    | (have hm := hb2; refine (parg1_any a n c ps _ (hSw.out.below (by repeat(first|exact bl0 _ _|refine bl1 ?_ (by simp<;>omega) _|refine bl2 ?_|refine bl3 ?_ _|refine bl4 ?_ (by simp<;>omega) _))) H4.out hl).mono ?_; rintro r w3 ⟨a3, n3, c3, rfl, hS3, hb3⟩; have hbw3 : Below w.heap.size w w3 := hbw2.trans (Below.trans ((Below.refl _ w2).alloc hz2 _) (hb3.mono (by rw [World.size_alloc]; omega))))
    | (refine (parg0_any a n c ps _ H.out H4.out hl).mono ?_; rintro r w1 ⟨a1, n1, c1, rfl, hS1, hb1⟩))
   | (go_at_call 71; first
    | (refine (ptopA_any a3 n3 c3 _ _ hS3).mono ?_; rintro r w4 ⟨rfl, hb4⟩; have hbw4 : Below w.heap.size w w4 := hbw3.trans (hb4.mono hbw3.size); have hz4 := hbw4.size; have B0 := (hb4.block w2.heap.size (by have := hb3.size; rw [World.size_alloc] at this; omega)).trans ((hb3.block w2.heap.size (by rw [World.size_alloc]; omega)).trans (blk_new w2 _)); obtain ⟨c0, c1', c2, c3', l0⟩ := cells4 B0; obtain ⟨p1, hp1⟩ : ∃ p, Hid (Rf.topP (Rf.argT ps 1) = p) := ⟨_, rfl⟩; rw [hp1.out])
    | (refine (ptopA_any a1 n1 c1 _ _ hS1).mono ?_; rintro r w2 ⟨rfl, hb2⟩; have hbw2 : Below w.heap.size w w2 := hb1.trans (hb2.mono hb1.size); have hz2 := hbw2.size; have hSw : Hid _ := H.out.below hbw2; obtain ⟨p0, hp0⟩ : ∃ p, Hid (Rf.topP (Rf.argT ps 0) = p) := ⟨_, rfl⟩; rw [hp0.out]))
   | (go_at_call 138; first
    | (have hm := hb5; refine (pnumber_kind p1 _).mono ?_; rintro r w6 ⟨rfl, hb6⟩; have hbw6 : Below w.heap.size w w6 := hbw5.trans (hb6.mono hbw5.size); have D0 := (hb6.block w2.heap.size l5).trans C0; have D1 := (hb6.block w4.heap.size l6).trans C1; obtain ⟨q0, q1, q2, q3, l7⟩ := cells4 D0; obtain ⟨r0, r1, r2, r3, l8⟩ := cells4 D1; rw [<- hp1.out, e1.out])
    | (refine (pnumber_kind p0 _).mono ?_; rintro r w5 ⟨rfl, hb5⟩; have hbw5 : Below w.heap.size w w5 := hbw4.trans (Below.trans ((Below.refl _ w4).alloc hz4 _) (hb5.mono (by rw [World.size_alloc]; omega))); have C0 := (hb5.block w2.heap.size (by rw [World.size_alloc]; omega)).trans (blk_alloc B0 _); have C1 := (hb5.block w4.heap.size (by rw [World.size_alloc]; omega)).trans (blk_new w4 _); obtain ⟨d0, d1, d2, d3, l5⟩ := cells4 C0; obtain ⟨f0, f1, f2, f3, l6⟩ := cells4 C1; rw [<- hp0.out, e0.out])))
  go_ret3
  have hN : Rf.numbersK ps = K0 := by have h9 := HK.out; rw [if_neg h0] at h9; exact h9
  refine ⟨0, 0, by rw [hN]; rfl, fun e => absurd (hN.symm.trans e) h0, ?_⟩
  first | exact hbw5 | exact hbw5.drew | exact hbw5.drewN _
end Go.Proofs.YtbiojnljihgpoaaGreatDoor
namespace Rf
def numW (ns : List Int) (v : Int) : Int := if v ∈ ns then (ns.idxOf v : Nat) + 1 else 0
theorem idx_ne {l : List Int} {x v : Int} (h : x ≠ v) : (x :: l).idxOf v = l.idxOf v + 1 := by
 rw [List.idxOf_cons, beq_eq_false_iff_ne.2 h]; rfl
theorem idxOf_new : ∀ {ns : List Int} {v : Int}, v ∉ ns -> (ns ++ [v]).idxOf v = ns.length
 | [], v, _ => by simp
 | u :: ns, v, h => by
  have hne : u ≠ v := fun e => h (by simp [e])
  have := idxOf_new (ns := ns) (v := v) (fun e => h (List.mem_cons_of_mem _ e))
  rw [List.cons_append, idx_ne hne, this]
  rfl
theorem idxOf_old : ∀ {ns : List Int} {u v : Int}, u ∈ ns -> (ns ++ [v]).idxOf u = ns.idxOf u
 | [], _, _, h => by cases h
 | x :: ns, u, v, h => by
  by_cases hx : x = u
  ·subst hx; simp
  ·have hm : u ∈ ns := by
    rcases List.mem_cons.1 h with rfl | h
    ·exact absurd rfl hx
    ·exact h
   rw [List.cons_append, idx_ne hx, idx_ne hx, idxOf_old hm]
theorem idxOf_le : ∀ (ns : List Int) (v : Int), ns.idxOf v <= ns.length
 | [], _ => by simp
 | x :: ns, v => by
  by_cases hx : x = v
  ·subst hx; simp
  ·rw [idx_ne hx]; have := idxOf_le ns v; simp; omega
theorem numW_new {ns : List Int} {v : Int} (h : v ∉ ns) : numW (ns ++ [v]) v = (ns.length : Int) + 1 := by
 unfold numW
 rw [if_pos (by simp), idxOf_new h]
theorem numW_old {ns : List Int} {u v : Int} (h : u ≠ v) : numW (ns ++ [v]) u = numW ns u := by
 unfold numW
 by_cases hu : u ∈ ns
 ·rw [if_pos (by simp [hu]), if_pos hu, idxOf_old hu]
 ·rw [if_neg (by simp [hu, h]), if_neg hu]
end Rf
namespace Go.Proofs.YtbiojnljihgpoaaGreatDoor
open Go.RowKit
structure NumAt (w : World) (nb g past : Nat) (ns : List Int) : Prop where
 n : w.heap[nb]? = some (.cells #[.slice (some ⟨g, 0, none⟩) past past, .int .i64 (ns.length : Nat)] 156 (0, 0))
 r : ∃ cur : Array Value, w.heap[g]? = some (.cells cur 3 (0, 0)) /\ cur.size = past /\ ∀ v, v < past -> cur[v]? = some (.int .i64 (Rf.numW ns v))
 ne : g ≠ nb
 small : past <= 1000000
set_option maxHeartbeats 1000000 in
theorem pnumber_any (w : World) (nb g past : Nat) (ns : List Int) (v : Nat) (h : NumAt w nb g past ns) (hv : v < past) (hl : ns.length <= 1000000000) :
  Calls Tryz.prog 130 #[.pointer (some ⟨nb, 0, none⟩), .int .i64 (v : Int)] w fun r w' => r = .returned (.int .i64 ((Rf.numV ns v).idxOf (v : Int) : Nat)) /\ NumAt w' nb g past (Rf.numV ns v) /\ Kept (fun k => k = nb \/ k = g) w w' := by
 obtain ⟨hn, ⟨cur, hr, hcs, hcv⟩, hne, hs⟩ := h
 have k0 := blk_cell hn 0
 have k1 := blk_cell hn 1
 have kf := blk_frozen hn
 have kl := blk_lt hn
 have gf := blk_frozen hr
 have gl := blk_lt hr
 simp at k0 k1
 have gv : w.cell? ⟨g, v, none⟩ = some (.int .i64 (Rf.numW ns v)) := by rw [blk_cell hr]; exact hcv v hv
 have hne' : nb ≠ g := Ne.symm hne
 have hneF : ¬ nb = g := hne'
 have hneG : ¬ g = nb := hne
 have Hn : Hid _ := hn
 have Hr : Hid _ := hr
 have Hcv : Hid _ := hcv
 have hvp : (v : Int) < past := by omega
 clear hn hr hcv
 by_cases hm : (v : Int) ∈ ns
 ·have HV : Hid (Rf.numV ns v = ns) := by unfold Hid Rf.numV; rw [if_pos hm]
  have hW : Rf.numW ns v = (ns.idxOf (v : Int) : Nat) + 1 := by unfold Rf.numW; rw [if_pos hm]
  have hil := Rf.idxOf_le ns v
  rw [hW] at gv
  clear hm hW
  obtain ⟨ix, hix⟩ : ∃ ix, Hid (ix = ns.idxOf (v : Int)) := ⟨_, rfl⟩
  rw [<- hix.out] at gv hil
  have hz : (((ix : Nat) : Int) + 1 == 0) = false := beq_eq_false_iff_ne.2 (by omega)
  go_enter Tryz.func130, Tryz.ntmps130
  go_wp2_with fail
  go_ret
  refine ⟨ret_int (by rw [HV.out]; rw [hix.out]), by rw [HV.out]; exact ⟨Hn.out, ⟨cur, Hr.out, hcs, Hcv.out⟩, hne, hs⟩, Kept.refl _ _⟩
 ·have HV : Hid (Rf.numV ns v = ns ++ [(v : Int)]) := by unfold Hid Rf.numV; rw [if_neg hm]
  have hW : Rf.numW ns v = 0 := by unfold Rf.numW; rw [if_neg hm]
  have Hm : Hid _ := hm
  rw [hW] at gv
  clear hW hm
  go_enter Tryz.func130, Tryz.ntmps130
  go_wp2_with fail
  go_region
  all_goals go_wp2_with fail
  all_goals
   go_ret
   refine ⟨ret_int (by rw [HV.out, Rf.idxOf_new Hm.out] <;> omega), ?_, ?_⟩
   ·rw [HV.out]
    refine ⟨?_, ⟨cur.setIfInBounds v (.int .i64 ((ns.length : Int) + 1)), ?_, by simpa using hcs, fun u hu => ?_⟩, hne, hs⟩
    ·have h1 := blk_set Hn.out 1 (.int .i64 ((ns.length : Int) + 1))
     have h2 : ∀ (X : World) u, (X.setCell ⟨g, v, none⟩ u).heap[nb]? = X.heap[nb]? := fun X u => Below.heap_setCell _ _ _ _ hneF
     have h3 : (((ns ++ [(v : Int)]).length : Nat) : Int) = (ns.length : Int) + 1 := by simp
     rw [h3]
     exact (h2 _ _).trans h1
    ·have h2 : ∀ u, (w.setCell ⟨nb, 1, none⟩ u).heap[g]? = w.heap[g]? := fun u => Below.heap_setCell _ _ _ _ hneG
     exact blk_set ((h2 _).trans Hr.out) v _
    ·by_cases huv : u = v
     ·subst huv
      rw [Rf.numW_new Hm.out, Array.getElem?_setIfInBounds_self_of_lt (by omega)]
     ·rw [Rf.numW_old (by omega), Array.getElem?_setIfInBounds_ne (Ne.symm huv)]
      exact Hcv.out u hu
   ·exact (((Kept.refl _ w).setCell (p := ⟨nb, 1, none⟩) (Or.inr (Or.inl rfl)) _).setCell (p := ⟨g, v, none⟩) (Or.inr (Or.inr rfl)) _).drew
end Go.Proofs.YtbiojnljihgpoaaGreatDoor
