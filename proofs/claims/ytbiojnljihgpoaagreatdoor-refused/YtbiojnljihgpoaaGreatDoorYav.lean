
import Derived.Test.YtbiojnljihgpoaaGreatDoorYau
import Derived.Deep.LoopGhost
import Derived.Deep.CutRange
namespace Rf
theorem sizeW_app {v : Int} {n : Nat} : ∀ (ts us : List (List Part)) (z : Nat), sizeW v n (sizeW v n z ts) us = sizeW v n z (ts ++ us)
 | [], _, _ => rfl
 | t :: ts, us, z => by
  rw [sizeW, List.cons_append, sizeW]
  split
  ·cases us with
   | nil => rfl
   | cons u us => rw [sizeW]; rename_i h; rw [if_pos h]
  ·exact sizeW_app ts us _
def allT (E : Eqn) : List (List Part) := [E.f, E.s] ++ (E.body ++ (E.behind ++ E.terms))
theorem sizeT_app : ∀ (ts us : List (List Part)), sizeT (ts ++ us) = sizeT ts + sizeT us
 | [], us => by simp [sizeT]
 | t :: ts, us => by rw [List.cons_append, sizeT, sizeT, sizeT_app ts us]; omega
theorem size_put (E : Eqn) (v : Int) (x : List Part) : (E.put v x).size = sizeT ((allT E).map (putV v x)) := by
 unfold allT Eqn.put Eqn.size
 simp only [List.map_append, sizeT_app, List.map_cons, List.map_nil, sizeT]
 omega
theorem size_big (E : Eqn) (v : Int) (x : List Part) (n : Nat) (hx : x.length = n + 1) : 200 < sizeW v n 0 (allT E) ↔ 200 < (E.put v x).size := by
 rw [sizeW_big hx, size_put, Nat.zero_add]
end Rf
namespace Go.Proofs.YtbiojnljihgpoaaGreatDoor
open Go.RowKit
theorem Seen.two {w : World} {N : Nat} {x y : SlV} {t : TypeId} (h : w.heap[N]? = some (.cells #[.slice x.a x.n x.c, .slice y.a y.n y.c] t (0, 0))) : Seen w t slCells (.slice (some ⟨N, 0, none⟩) 2 2) [x, y] := by
 refine ⟨.inr ⟨N, 0, 2, _, rfl, h, by simp, by unfold maxLen; omega, fun j u hu => ?_⟩⟩
 rw [Nat.zero_add]
 match j, hu with
 | 0, hu => simpa [slCells, slv] using hu
 | 1, hu => simpa [slCells, slv] using hu
 | (j + 2), hu => simp [slCells] at hu
theorem sizeW_bd {v : Int} {n : Nat} (hn : n ≤ 1000) : ∀ (ts : List (List Rf.Part)) (z : Nat), (∀ t ∈ ts, t.length ≤ 400) → z ≤ 1000000 → Rf.sizeW v n z ts ≤ 1000000
 | [], z, _, h => h
 | t :: ts, z, ht, h => by
  rw [Rf.sizeW]
  split
  ·exact h
  ·refine sizeW_bd hn ts _ (fun q hq => ht q (List.mem_cons_of_mem _ hq)) ?_
   have h1 := ht t (by simp)
   have h2 := Rf.countV_le (v := v) t
   have h3 : Rf.countV v t * n ≤ 400 * 1000 := Nat.mul_le_mul (by omega) hn
   omega
set_option maxHeartbeats 1000000 in
set_option maxRecDepth 100000 in
theorem psizeE_any (n : Nat) (v : Int) (w : World) (e : Nat) (E : Rf.Eqn) (h : EqAt w e E) (ho : EqOk E) (hn : n ≤ 1000) :
  Calls Tryz.prog 140 #[.pointer (some ⟨e, 0, none⟩), .int .i64 v, .int .i64 ((n : Int) + 1)] w fun r w' => r = .returned (.int .i64 (Rf.sizeW v n 0 (Rf.allT E))) ∧ Below w.heap.size w w' := by
 obtain ⟨vf, vs, vb, vh, vt, hB, hE⟩ := h.ex
 obtain ⟨a1, c1, rfl⟩ := hE.f.slice
 obtain ⟨a2, c2, rfl⟩ := hE.s.slice
 obtain ⟨a3, c3, rfl⟩ := hE.b.slice
 obtain ⟨a4, c4, rfl⟩ := hE.h.slice
 obtain ⟨a5, c5, rfl⟩ := hE.t.slice
 obtain ⟨k0, k1, k2, k3, k4, kf, kl⟩ := hB.facts
 have HB : Hid _ := hB
 have HE : Hid _ := hE
 have HO : Hid _ := ho
 have HS2 : Hid (∀ o, ∀ q ∈ [((⟨a1, E.f.length, c1⟩ : SlV), E.f), (⟨a2, E.s.length, c2⟩, E.s)], Seen (w.drew.alloc o) 101 partCells (slv q.1) q.2) := fun o q hq => by
  simp only [List.mem_cons, List.not_mem_nil, or_false] at hq
  rcases hq with rfl | rfl
  ·exact hE.f.drew.alloc o
  ·exact hE.s.drew.alloc o
 have HL2 : Hid (∀ t ∈ [E.f, E.s], t.length ≤ 400) := fun t ht => by
  simp only [List.mem_cons, List.not_mem_nil, or_false] at ht
  rcases ht with rfl | rfl
  ·exact ho.f
  ·exact ho.s
 have Zb : ∀ (ts : List (List Rf.Part)) (z : Nat), (∀ t ∈ ts, t.length ≤ 400) → z ≤ 1000000 → Rf.sizeW v n z ts ≤ 1000000 := fun ts z ht hz => sizeW_bd hn ts z ht hz
 have Z1 : Hid (Rf.sizeW v n 0 [E.f, E.s] ≤ 1000000) := Zb _ _ HL2.out (by omega)
 have Z2 : Hid (Rf.sizeW v n (Rf.sizeW v n 0 [E.f, E.s]) E.body ≤ 1000000) := Zb _ _ ho.b.2 Z1.out
 have Z3 : Hid (Rf.sizeW v n (Rf.sizeW v n (Rf.sizeW v n 0 [E.f, E.s]) E.body) E.behind ≤ 1000000) := Zb _ _ ho.h.2 Z2.out
 clear h hB hE ho
 go_enter Tryz.func140, Tryz.ntmps140
 go_wp2_with fail
 go_region_with (go_at_call 144; refine (psizeWith_any 0 n v _ (.slice (some ⟨_, 0, none⟩) 2 2) [E.f, E.s] ⟨[(⟨a1, E.f.length, c1⟩, E.f), (⟨a2, E.s.length, c2⟩, E.s)], Seen.two (x := ⟨a1, E.f.length, c1⟩) (y := ⟨a2, E.s.length, c2⟩) (blk_new _ _), HS2.out _, rfl⟩ (by simp) HL2.out (by omega) hn).mono ?_; rintro r w1 ⟨rfl, hb1⟩)
 all_goals
  have hbw1 : Below w.heap.size w w1 := ((Below.refl _ w).drew.alloc (Nat.le_refl _) _).trans (hb1.mono (by simp))
  have hB1 : EqB w1 e _ _ _ _ _ := (hbw1.block e kl).trans HB.out
  obtain ⟨l0, l1, l2, l3, l4, lf, ll⟩ := hB1.facts
  clear hb1
  go_wp2_with (first
   | (go_at_call_of 144 (Value.slice a3 E.body.length c3); refine (psizeWith_any (Rf.sizeW v n 0 [E.f, E.s]) n v _ (.slice a3 E.body.length c3) E.body (HE.out.b.below hbw1) (by have := HO.out.b.1; omega) HO.out.b.2 Z1.out hn).mono ?_; rintro r w2 ⟨rfl, hb2⟩; have hbw2 := hbw1.trans (hb2.mono hbw1.size); have hB2 : EqB w2 e _ _ _ _ _ := (hbw2.block e kl).trans HB.out; obtain ⟨m0, m1, m2, m3, m4, mf, ml⟩ := hB2.facts)
   | (go_at_call_of 144 (Value.slice a4 E.behind.length c4); refine (psizeWith_any _ n v _ (.slice a4 E.behind.length c4) E.behind (HE.out.h.below hbw2) (by have := HO.out.h.1; omega) HO.out.h.2 Z2.out hn).mono ?_; rintro r w3 ⟨rfl, hb3⟩; have hbw3 := hbw2.trans (hb3.mono hbw2.size); have hB3 : EqB w3 e _ _ _ _ _ := (hbw3.block e kl).trans HB.out; obtain ⟨q0, q1, q2, q3, q4, qf, ql⟩ := hB3.facts)
   | (go_at_call_of 144 (Value.slice a5 E.terms.length c5); refine (psizeWith_any _ n v _ (.slice a5 E.terms.length c5) E.terms (HE.out.t.below hbw3) (by have := HO.out.t.1; omega) HO.out.t.2 Z3.out hn).mono ?_; rintro r w4 ⟨rfl, hb4⟩; have hbw4 := hbw3.trans (hb4.mono hbw3.size)))
  go_ret
  exact ⟨ret_int (by rw [Rf.sizeW_app, Rf.sizeW_app, Rf.sizeW_app]; rfl), hbw4⟩
theorem EqIs.f' {w : World} {e : Nat} {vf vs vb vh vt v' : Value} {E : Rf.Eqn} {ps : List Rf.Part} (h : EqIs w vf vs vb vh vt E) (hB : EqB w e vf vs vb vh vt) (h' : Seen w 101 partCells v' ps) : EqIs (w.setCell ⟨e, 0, none⟩ v') v' vs vb vh vt { E with f := ps } :=
 have k := h.set hB 0 v'
 ⟨h'.setBlk hB (by decide) 0 v', k.s, k.b, k.h, k.t⟩
theorem EqIs.s' {w : World} {e : Nat} {vf vs vb vh vt v' : Value} {E : Rf.Eqn} {ps : List Rf.Part} (h : EqIs w vf vs vb vh vt E) (hB : EqB w e vf vs vb vh vt) (h' : Seen w 101 partCells v' ps) : EqIs (w.setCell ⟨e, 1, none⟩ v') vf v' vb vh vt { E with s := ps } :=
 have k := h.set hB 1 v'
 ⟨k.f, h'.setBlk hB (by decide) 1 v', k.b, k.h, k.t⟩
theorem EqIs.b' {w : World} {e : Nat} {vf vs vb vh vt v' : Value} {E : Rf.Eqn} {ps : List (List Rf.Part)} (h : EqIs w vf vs vb vh vt E) (hB : EqB w e vf vs vb vh vt) (h' : SeenTs w v' ps) : EqIs (w.setCell ⟨e, 2, none⟩ v') vf vs v' vh vt { E with body := ps } :=
 have k := h.set hB 2 v'
 ⟨k.f, k.s, h'.setBlk hB (by decide) (by decide) 2 v', k.h, k.t⟩
theorem EqIs.h' {w : World} {e : Nat} {vf vs vb vh vt v' : Value} {E : Rf.Eqn} {ps : List (List Rf.Part)} (h : EqIs w vf vs vb vh vt E) (hB : EqB w e vf vs vb vh vt) (h' : SeenTs w v' ps) : EqIs (w.setCell ⟨e, 3, none⟩ v') vf vs vb v' vt { E with behind := ps } :=
 have k := h.set hB 3 v'
 ⟨k.f, k.s, k.b, h'.setBlk hB (by decide) (by decide) 3 v', k.t⟩
theorem EqIs.t' {w : World} {e : Nat} {vf vs vb vh vt v' : Value} {E : Rf.Eqn} {ps : List (List Rf.Part)} (h : EqIs w vf vs vb vh vt E) (hB : EqB w e vf vs vb vh vt) (h' : SeenTs w v' ps) : EqIs (w.setCell ⟨e, 4, none⟩ v') vf vs vb vh v' { E with terms := ps } :=
 have k := h.set hB 4 v'
 ⟨k.f, k.s, k.b, k.h, h'.setBlk hB (by decide) (by decide) 4 v'⟩
set_option maxHeartbeats 1000000 in
set_option maxRecDepth 100000 in
theorem pputE_any (v : Int) (w : World) (e : Nat) (E : Rf.Eqn) (h : EqAt w e E) (ho : EqOk E) (a : Option Addr) (nx c : Nat) (x : List Rf.Part) (hx : Seen w 101 partCells (.slice a nx c) x) (hx1 : 1 ≤ x.length) (hx4 : x.length ≤ 400) :
  Calls Tryz.prog 135 #[.pointer (some ⟨e, 0, none⟩), .int .i64 v, .slice a nx c] w fun r w' => r = .returned (.int .i64 (Rf.putE E v x).1) ∧ Kept (fun k => k = e) w w' ∧ ((Rf.putE E v x).1 = 0 → EqAt w' e (Rf.putE E v x).2) := by
 obtain rfl : nx = x.length := hx.len
 have HA : Hid _ := h
 obtain ⟨vf, vs, vb, vh, vt, hB, hE⟩ := h.ex
 obtain ⟨a1, c1, rfl⟩ := hE.f.slice
 obtain ⟨a2, c2, rfl⟩ := hE.s.slice
 obtain ⟨a3, c3, rfl⟩ := hE.b.slice
 obtain ⟨a4, c4, rfl⟩ := hE.h.slice
 obtain ⟨a5, c5, rfl⟩ := hE.t.slice
 obtain ⟨k0, k1, k2, k3, k4, kf, kl⟩ := hB.facts
 have HB : Hid _ := hB
 have HE : Hid _ := hE
 have HO : Hid _ := ho
 have HX : Hid _ := hx
 obtain ⟨n, hn⟩ : ∃ n, x.length = n + 1 := ⟨x.length - 1, by omega⟩
 have Hn : Hid _ := hn
 clear h hB hE ho hx hn
 by_cases hc : 0 < Rf.countV v x
 ·have HP : Hid ((Rf.putE E v x).1 = 8) := by unfold Hid Rf.putE; rw [if_pos hc]
  go_enter Tryz.func135, Tryz.ntmps135
  go_wp2_with (go_at_call 139; refine (pcount_any v _ a _ c x HX.out (by omega)).mono ?_; rintro r w1 ⟨rfl, hb1⟩)
  go_ret
  exact ⟨ret_int HP.out.symm, Kept.of_below hb1 _, fun e => by rw [HP.out] at e; cases e⟩
 ·have hc' : Rf.countV v x = 0 := by omega
  have HC : Hid _ := hc'
  clear hc hc'
  by_cases hbig : 200 < (E.put v x).size
  ·have HP : Hid ((Rf.putE E v x).1 = 7) := by unfold Hid Rf.putE; rw [if_neg (by have := HC.out; omega), if_pos hbig]
   have hbig' : (200 : Int) < (Rf.sizeW v n 0 (Rf.allT E) : Nat) := by have := (Rf.size_big E v x n Hn.out).2 hbig; omega
   clear hbig
   go_enter Tryz.func135, Tryz.ntmps135
   go_wp2_with (first
    | (go_at_call 139; refine (pcount_any v _ a _ c x HX.out (by omega)).mono ?_; rintro r w1 ⟨rfl, hb1⟩; rw [HC.out]; have hA1 : EqAt w1 e E := ⟨_, _, _, _, _, (hb1.block e kl).trans HB.out, HE.out.below hb1⟩)
    | (go_at_call 140; rw [show ((x.length : Nat) : Int) = (n : Int) + 1 from by rw [Hn.out]; rfl]; refine (psizeE_any n v _ e E hA1 HO.out (by have := Hn.out; omega)).mono ?_; rintro r w2 ⟨rfl, hb2⟩))
   go_ret
   exact ⟨ret_int HP.out.symm, Kept.of_below (hb1.trans (hb2.mono hb1.size)) _, fun e => by rw [HP.out] at e; cases e⟩
  ·have HP : Hid (Rf.putE E v x = (0, E.put v x)) := by unfold Hid Rf.putE; rw [if_neg (by have := HC.out; omega), if_neg hbig]
   have hbig' : ¬ (200 : Int) < (Rf.sizeW v n 0 (Rf.allT E) : Nat) := by intro e; exact hbig ((Rf.size_big E v x n Hn.out).1 (by omega))
   have hbig2 : decide ((200 : Int) < (Rf.sizeW v n 0 (Rf.allT E) : Nat)) = false := decide_eq_false hbig'
   clear hbig hbig'
   go_enter Tryz.func135, Tryz.ntmps135
   go_wp2_with (first
    | (go_at_call 139; refine (pcount_any v _ a _ c x HX.out (by omega)).mono ?_; rintro r w1 ⟨rfl, hb1⟩; rw [HC.out]; have hA1 : EqAt w1 e E := ⟨_, _, _, _, _, (hb1.block e kl).trans HB.out, HE.out.below hb1⟩)
    | (go_at_call 140; rw [show ((x.length : Nat) : Int) = (n : Int) + 1 from by rw [Hn.out]; rfl]; refine (psizeE_any n v _ e E hA1 HO.out (by have := Hn.out; omega)).mono ?_; rintro r w2 ⟨rfl, hb2⟩; have hbw2 := hb1.trans (hb2.mono hb1.size); have hB2 : EqB w2 e _ _ _ _ _ := (hbw2.block e kl).trans HB.out; have hE2 := HE.out.below hbw2; obtain ⟨l0, l1, l2, l3, l4, lf, ll⟩ := hB2.facts; have hX2 := HX.out.below hbw2)
    | (go_at_call_of 141 (Value.slice a1 E.f.length c1); refine (pput_any v _ a1 _ c1 E.f hE2.f (by have := HO.out.f; omega) a _ c x hX2 (by omega) hx1).mono ?_; rintro r w3 ⟨b3, n3, d3, rfl, hS3, hb3⟩; have hC3 : EqB w3 e _ _ _ _ _ := (hb3.block e (blk_lt hB2)).trans hB2; have hE3 := EqIs.f' (hE2.below hb3) hC3 hS3; have hB3 := blk_set hC3 0 (Value.slice b3 n3 d3); have hX3 := (hX2.below hb3).setBlk hC3 (by decide) 0 (Value.slice b3 n3 d3); obtain ⟨y0, y1, y2, y3, y4, yf, yl⟩ := EqB.facts hC3; obtain ⟨z0, z1, z2, z3, z4, zf, zl⟩ := EqB.facts hB3)
    | (go_at_call_of 141 (Value.slice a2 E.s.length c2); refine (pput_any v _ a2 _ c2 E.s hE3.s (by have := HO.out.s; omega) a _ c x hX3 (by omega) hx1).mono ?_; rintro r w4 ⟨b4, n4, d4, rfl, hS4, hb4⟩; have hC4 : EqB w4 e _ _ _ _ _ := (hb4.block e (blk_lt hB3)).trans hB3; have hE4 := EqIs.s' (hE3.below hb4) hC4 hS4; have hB4 := blk_set hC4 1 (Value.slice b4 n4 d4); have hX4 := (hX3.below hb4).setBlk hC4 (by decide) 1 (Value.slice b4 n4 d4); obtain ⟨y0, y1, y2, y3, y4, yf, yl⟩ := EqB.facts hC4; obtain ⟨z0, z1, z2, z3, z4, zf, zl⟩ := EqB.facts hB4)
    | (go_at_call_of 142 (Value.slice a3 E.body.length c3); refine (pputAll_any v _ (.slice a3 E.body.length c3) E.body hE4.b (by have := HO.out.b.1; omega) (fun t ht => by have := HO.out.b.2 t ht; omega) a _ c x hX4 (by omega) hx1).mono ?_; rintro r w5 ⟨u5, rfl, hS5, hb5⟩; obtain ⟨b5, d5, hu5⟩ := hS5.slice; rw [List.length_map] at hu5; subst hu5; have hC5 : EqB w5 e _ _ _ _ _ := (hb5.block e (blk_lt hB4)).trans hB4; have hE5 := EqIs.b' (hE4.below hb5) hC5 hS5; have hB5 := blk_set hC5 2 (Value.slice b5 E.body.length d5); have hX5 := (hX4.below hb5).setBlk hC5 (by decide) 2 (Value.slice b5 E.body.length d5); obtain ⟨y0, y1, y2, y3, y4, yf, yl⟩ := EqB.facts hC5; obtain ⟨z0, z1, z2, z3, z4, zf, zl⟩ := EqB.facts hB5)
    | (go_at_call_of 142 (Value.slice a4 E.behind.length c4); refine (pputAll_any v _ (.slice a4 E.behind.length c4) E.behind hE5.h (by have := HO.out.h.1; omega) (fun t ht => by have := HO.out.h.2 t ht; omega) a _ c x hX5 (by omega) hx1).mono ?_; rintro r w6 ⟨u6, rfl, hS6, hb6⟩; obtain ⟨b6, d6, hu6⟩ := hS6.slice; rw [List.length_map] at hu6; subst hu6; have hC6 : EqB w6 e _ _ _ _ _ := (hb6.block e (blk_lt hB5)).trans hB5; have hE6 := EqIs.h' (hE5.below hb6) hC6 hS6; have hB6 := blk_set hC6 3 (Value.slice b6 E.behind.length d6); have hX6 := (hX5.below hb6).setBlk hC6 (by decide) 3 (Value.slice b6 E.behind.length d6); obtain ⟨y0, y1, y2, y3, y4, yf, yl⟩ := EqB.facts hC6; obtain ⟨z0, z1, z2, z3, z4, zf, zl⟩ := EqB.facts hB6)
    | (go_at_call_of 142 (Value.slice a5 E.terms.length c5); refine (pputAll_any v _ (.slice a5 E.terms.length c5) E.terms hE6.t (by have := HO.out.t.1; omega) (fun t ht => by have := HO.out.t.2 t ht; omega) a _ c x hX6 (by omega) hx1).mono ?_; rintro r w7 ⟨u7, rfl, hS7, hb7⟩; obtain ⟨b7, d7, hu7⟩ := hS7.slice; rw [List.length_map] at hu7; subst hu7; have hC7 : EqB w7 e _ _ _ _ _ := (hb7.block e (blk_lt hB6)).trans hB6; have hE7 := EqIs.t' (hE6.below hb7) hC7 hS7; have hB7 := blk_set hC7 4 (Value.slice b7 E.terms.length d7); have hX7 := (hX6.below hb7).setBlk hC7 (by decide) 4 (Value.slice b7 E.terms.length d7); obtain ⟨y0, y1, y2, y3, y4, yf, yl⟩ := EqB.facts hC7; obtain ⟨z0, z1, z2, z3, z4, zf, zl⟩ := EqB.facts hB7))
   go_ret
   have kk : ∀ {p q : World}, Below p.heap.size p q → ∀ i u, Kept (fun k => k = e) p (q.setCell ⟨e, i, none⟩ u) := fun hb i u => Kept.setCell (p := ⟨e, i, none⟩) (Kept.of_below hb (fun k => k = e)) (Or.inr rfl) u
   refine ⟨ret_int (by rw [HP.out]), ?_, fun _ => ⟨_, _, _, _, _, hB7, by rw [HP.out]; exact hE7⟩⟩
   exact (((((Kept.of_below hbw2 (fun k => k = e)).trans (kk hb3 0 _) (fun _ _ h => h)).trans (kk hb4 1 _) (fun _ _ h => h)).trans (kk hb5 2 _) (fun _ _ h => h)).trans (kk hb6 3 _) (fun _ _ h => h)).trans (kk hb7 4 _) (fun _ _ h => h)
end Go.Proofs.YtbiojnljihgpoaaGreatDoor
namespace Rf
def ArgsOk (t : List Part) : Prop := ∀ p ∈ t, 0 ≤ p.args ∧ p.args ≤ 4
theorem leadN_le : ∀ (t : List Part) (m : Int), leadN m t ≤ t.length
 | [], _ => Nat.le_refl _
 | p :: t, m => by
  rw [leadN]
  have := leadN_le t (m + (p.args - 1))
  split
  ·simp
  ·simp; omega
theorem lead_le (t : List Part) : leadT t ≤ t.length := leadN_le t 1
theorem lead_pos (p : Part) (t : List Part) : 1 ≤ leadT (p :: t) := by
 unfold leadT; rw [leadN]; split <;> omega
theorem sizeT_mem : ∀ {ts : List (List Part)} {t : List Part}, t ∈ ts → t.length ≤ sizeT ts
 | [], _, h => by cases h
 | u :: ts, t, h => by
  rw [sizeT]
  rcases List.mem_cons.1 h with rfl | h
  ·omega
  ·have := sizeT_mem h; omega
theorem halt_go {n : Nat} {p q : Part} {f s : List Part} {bo be te : List (List Part)} (h : haltN (n + 1) ⟨p :: f, q :: s, bo, be, te⟩ = true) (h0 : (stepE ⟨p :: f, q :: s, bo, be, te⟩).1 = 0) : haltN n (stepE ⟨p :: f, q :: s, bo, be, te⟩).2 = true := by
 rw [haltN, if_neg (by simp [doneE]), if_pos h0] at h
 exact h
theorem solve_go {n : Nat} {p q : Part} {f s : List Part} {bo be te : List (List Part)} (h0 : (stepE ⟨p :: f, q :: s, bo, be, te⟩).1 = 0) : solveN (n + 1) ⟨p :: f, q :: s, bo, be, te⟩ = solveN n (stepE ⟨p :: f, q :: s, bo, be, te⟩).2 := by
 rw [solveN, if_neg (by simp [doneE]), if_pos h0]
theorem solve_stop {n : Nat} {p q : Part} {f s : List Part} {bo be te : List (List Part)} (h0 : (stepE ⟨p :: f, q :: s, bo, be, te⟩).1 ≠ 0) : solveN (n + 1) ⟨p :: f, q :: s, bo, be, te⟩ = stepE ⟨p :: f, q :: s, bo, be, te⟩ := by
 rw [solveN, if_neg (by simp [doneE]), if_neg h0]
theorem step_same (p : Part) (f s : List Part) (bo be te : List (List Part)) : stepE ⟨p :: f, p :: s, bo, be, te⟩ = (0, ⟨f, s, bo, be, te⟩) := by
 simp only [stepE]; rw [if_pos (samePart_iff.2 rfl)]
theorem step_first {p q : Part} (f s : List Part) (bo be te : List (List Part)) (hne : p ≠ q) (h1 : p.kind = 1) : stepE ⟨p :: f, q :: s, bo, be, te⟩ = putE ⟨f, (q :: s).drop (leadT (q :: s)), bo, be, te⟩ p.value ((q :: s).take (leadT (q :: s))) := by
 simp only [stepE]; rw [if_neg (fun e => hne (samePart_iff.1 e)), if_pos h1]
theorem step_second {p q : Part} (f s : List Part) (bo be te : List (List Part)) (hne : p ≠ q) (h1 : p.kind ≠ 1) (h2 : q.kind = 1) : stepE ⟨p :: f, q :: s, bo, be, te⟩ = putE ⟨(p :: f).drop (leadT (p :: f)), s, bo, be, te⟩ q.value ((p :: f).take (leadT (p :: f))) := by
 simp only [stepE]; rw [if_neg (fun e => hne (samePart_iff.1 e)), if_neg h1, if_pos h2]
theorem step_none {p q : Part} (f s : List Part) (bo be te : List (List Part)) (hne : p ≠ q) (h1 : p.kind ≠ 1) (h2 : q.kind ≠ 1) : stepE ⟨p :: f, q :: s, bo, be, te⟩ = (-1, ⟨p :: f, q :: s, bo, be, te⟩) := by
 simp only [stepE]; rw [if_neg (fun e => hne (samePart_iff.1 e)), if_neg h1, if_neg h2]
theorem part_ext {p q : Part} (h1 : p.kind = q.kind) (h2 : p.name.toList = q.name.toList) (h3 : p.value = q.value) (h4 : p.args = q.args) : p = q := by
 have h5 : p.name = q.name := by
  have h6 := Go.beq_toList p.name q.name
  rw [h2] at h6
  simpa using h6
 cases p; cases q
 simp at h1 h3 h4 h5
 simp [h1, h3, h4, h5]
end Rf
namespace Go.Proofs.YtbiojnljihgpoaaGreatDoor
open Go.RowKit
structure EqGood (E : Rf.Eqn) : Prop where
 ok : EqOk E
 f : Rf.ArgsOk E.f
 s : Rf.ArgsOk E.s
theorem putE_good {E : Rf.Eqn} {v : Int} {x : List Rf.Part} (h : EqGood E) (hx : Rf.ArgsOk x) (h0 : (Rf.putE E v x).1 = 0) : EqGood (Rf.putE E v x).2 := by
 obtain ⟨_, e1, e2⟩ := Rf.putE_ok h0
 rw [e1]
 have hz := e2
 unfold Rf.Eqn.size at hz
 refine ⟨⟨by omega, by omega, ⟨?_, ?_⟩, ⟨?_, ?_⟩, ⟨?_, ?_⟩⟩, ?_, ?_⟩
 ·have := h.ok.b.1; simpa [Rf.Eqn.put] using this
 ·intro t ht; have := Rf.sizeT_mem ht; omega
 ·have := h.ok.h.1; simpa [Rf.Eqn.put] using this
 ·intro t ht; have := Rf.sizeT_mem ht; omega
 ·have := h.ok.t.1; simpa [Rf.Eqn.put] using this
 ·intro t ht; have := Rf.sizeT_mem ht; omega
 ·intro p hp
  rcases Rf.putV_mem hp with ⟨h1, _⟩ | h1
  ·exact h.f p h1
  ·exact hx p h1
 ·intro p hp
  rcases Rf.putV_mem hp with ⟨h1, _⟩ | h1
  ·exact h.s p h1
  ·exact hx p h1
theorem EqGood.drops {E : Rf.Eqn} (h : EqGood E) (m n : Nat) : EqGood { E with f := E.f.drop m, s := E.s.drop n } :=
 ⟨⟨by have := h.ok.f; simp; omega, by have := h.ok.s; simp; omega, h.ok.b, h.ok.h, h.ok.t⟩, fun p hp => h.f p (List.mem_of_mem_drop hp), fun p hp => h.s p (List.mem_of_mem_drop hp)⟩
theorem Seen.keptEq {w w' : World} {v : Value} {ps : List Rf.Part} {e : Nat} {vf vs vb vh vt : Value} (h : Seen w 101 partCells v ps) (hB : EqB w e vf vs vb vh vt) (hk : Kept (fun k => k = e) w w') : Seen w' 101 partCells v ps :=
 h.kept hk (fun k cs hc he => by subst he; rw [show w.heap[k]? = _ from hB] at hc; injection hc with h1; injection h1 with _ h2; exact absurd h2 (by decide))
set_option maxHeartbeats 4000000 in
set_option maxRecDepth 100000 in
theorem psolve_any (w : World) (e : Nat) (E : Rf.Eqn) (h : EqAt w e E) (hg : EqGood E) :
  Calls Tryz.prog 121 #[.pointer (some ⟨e, 0, none⟩)] w fun r w' => r = .returned (.int .i64 (Rf.solveE E).1) ∧ Kept (fun k => k = e) w w' ∧ ((Rf.solveE E).1 = 0 → EqAt w' e (Rf.solveE E).2) := by
 have H : Hid _ := h
 have HG : Hid _ := hg
 clear h hg
 go_enter Tryz.func121, Tryz.ntmps121
 go_wp2_with fail
 go_loopg [] (Rf.fuelE E) (fun m wr => ∃ E1, Hid (Rf.haltN m E1 = true) ∧ Hid (Rf.solveN m E1 = Rf.solveE E) ∧ EqAt wr e E1 ∧ EqGood E1 ∧ Kept (fun k => k = e) w wr)
 case atStart => exact ⟨E, Rf.haltE E, rfl, H.out, HG.out, Kept.refl _ _⟩
 case round =>
  obtain ⟨E1, hh, hso, hA, hG, hk⟩ := hrel
  obtain ⟨vf, vs, vb, vh, vt, hB, hE⟩ := hA.ex
  obtain ⟨a1, c1, rfl⟩ := hE.f.slice
  obtain ⟨a2, c2, rfl⟩ := hE.s.slice
  obtain ⟨k0, k1, k2, k3, k4, kf, kl⟩ := hB.facts
  obtain ⟨n, rfl⟩ : ∃ n, gk = n + 1 := by
   cases gk with
   | zero => have := hh.out; simp [Rf.haltN] at this
   | succ n => exact ⟨n, rfl⟩
  obtain ⟨F, S, bo, be, te⟩ := E1
  have HA : Hid _ := hA
  have HB : Hid _ := hB
  have HE : Hid _ := hE
  have HG1 : Hid _ := hG
  clear hA hB hE hG
  cases F with
  | nil =>
   have hS : Hid (Rf.solveE E = (0, ⟨[], S, bo, be, te⟩)) := by unfold Hid; rw [← hso.out, Rf.solveN, if_pos (by simp [Rf.doneE])]
   simp only [List.length_nil] at k0
   go_wp2_with fail
   go_ret
   exact ⟨ret_int (by rw [hS.out]), hk, fun _ => by rw [hS.out]; exact HA.out⟩
  | cons p f =>
  cases S with
  | nil =>
   have hS : Hid (Rf.solveE E = (0, ⟨p :: f, [], bo, be, te⟩)) := by unfold Hid; rw [← hso.out, Rf.solveN, if_pos (by simp [Rf.doneE])]
   simp only [List.length_nil, List.length_cons] at k0 k1
   go_wp2_with fail
   go_ret
   exact ⟨ret_int (by rw [hS.out]), hk, fun _ => by rw [hS.out]; exact HA.out⟩
  | cons q s =>
   obtain ⟨g1, o1, rfl⟩ := HE.out.f.pos (by simp)
   obtain ⟨g2, o2, rfl⟩ := HE.out.s.pos (by simp)
   have hg1 := HE.out.f.lt
   have hg2 := HE.out.s.lt
   obtain ⟨x0, x1, x2, x3⟩ := Seen.parts HE.out.f 0 p rfl
   obtain ⟨y0, y1, y2, y3⟩ := Seen.parts HE.out.s 0 q rfl
   simp only [Nat.zero_mul, Nat.add_zero] at x0 x1 x2 x3 y0 y1 y2 y3
   simp only [List.length_cons] at k0 k1
   have hc1 := HE.out.f.cap
   have hc2 := HE.out.s.cap
   simp only [List.length_cons] at hc1 hc2
   have hel : ¬ wr.heap.size = e := by omega
   have hel1 : ¬ wr.heap.size + 1 = e := by omega
   by_cases hpq : p = q
   ·subst hpq
    have hst := Rf.step_same p f s bo be te
    have hH2 : Hid (Rf.haltN n ⟨f, s, bo, be, te⟩ = true) := by have := Rf.halt_go hh.out (by rw [hst]); rw [hst] at this; exact this
    have hS2 : Hid (Rf.solveN n ⟨f, s, bo, be, te⟩ = Rf.solveE E) := by have h9 := hso.out; rw [Rf.solve_go (by rw [hst]), hst] at h9; exact h9
    clear hst
    go_wp2_with (go_at_call 134; refine (pdrop_any _ e 1 1 ⟨p :: f, p :: s, bo, be, te⟩ ⟨_, _, _, _, _, (Below.block ((by repeat(first|exact bel0 _ _|refine bel1 ?_ (by simp<;>omega) _|refine bel2 ?_|refine bel3 ?_ _|refine bel4 ?_ (by simp<;>omega) _)) : Below wr.heap.size wr _) e kl).trans HB.out, HE.out.below (by repeat(first|exact bel0 _ _|refine bel1 ?_ (by simp<;>omega) _|refine bel2 ?_|refine bel3 ?_ _|refine bel4 ?_ (by simp<;>omega) _))⟩ (by simp) (by simp) (by simp) (by simp)).mono ?_; rintro r w2 ⟨rfl, hA2, hk2⟩)
    go_roundg n
    case measure => omega
    case rel => exact ⟨⟨f, s, bo, be, te⟩, hH2, hS2, hA2, HG1.out.drops 1 1, (hk.trans (Kept.of_below ((by repeat(first|exact bel0 _ _|refine bel1 ?_ (by simp<;>omega) _|refine bel2 ?_|refine bel3 ?_ _|refine bel4 ?_ (by simp<;>omega) _)) : Below wr.heap.size wr _) (fun k => k = e)) (fun _ _ h => h)).trans hk2 (fun _ _ h => h)⟩
   ·have Hpq : Hid _ := hpq
    clear hpq
    cases c1k : (p.kind == 1)
    ·cases c2k : (q.kind == 1)
     ·have hst := Rf.step_none f s bo be te Hpq.out (beq_eq_false_iff_ne.1 c1k) (beq_eq_false_iff_ne.1 c2k)
      have hS2 : Hid (Rf.solveE E = (-1, ⟨p :: f, q :: s, bo, be, te⟩)) := by unfold Hid; rw [← hso.out, Rf.solve_stop (by rw [hst]; intro h; cases h), hst]
      clear hst
      go_upto_region 6 with fail
      go_cut [34] from 8 to 88 (fun b wx => b = .bool false ∧ wx = ((wr.alloc (Obj.cells #[.int .i64 p.kind, .string p.name, .int .i64 p.value, .int .i64 p.args] 101)).alloc (Obj.cells #[.int .i64 q.kind, .string q.name, .int .i64 q.value, .int .i64 q.args] 101)))
      case first =>
       go_wp2_with fail
       all_goals first | (exfalso; exact Hpq.out (Rf.part_ext (by assumption) (by assumption) (by assumption) (by assumption))) | (go_meet; exact ⟨rfl, by simp [*]⟩)
      case rest =>
       obtain ⟨rfl, rfl⟩ := hcut
       go_wp2_with fail
       go_ret
       exact ⟨ret_int (by rw [hS2.out]), hk.trans (Kept.of_below ((by repeat(first|exact bel0 _ _|refine bel1 ?_ (by simp<;>omega) _|refine bel2 ?_|refine bel3 ?_ _|refine bel4 ?_ (by simp<;>omega) _)) : Below wr.heap.size wr _) (fun k => k = e)) (fun _ _ h => h), fun h9 => by rw [hS2.out] at h9; cases h9⟩
     ·obtain ⟨L, hL⟩ : ∃ L, L = Rf.leadT (p :: f) := ⟨_, rfl⟩
      have hL1 : 1 ≤ L := by rw [hL]; exact Rf.lead_pos _ _
      have hL2 : L ≤ f.length + 1 := by rw [hL]; exact Rf.lead_le _
      have hst := Rf.step_second f s bo be te Hpq.out (beq_eq_false_iff_ne.1 c1k) (eq_of_beq c2k)
      rw [← hL] at hst
      have HL : Hid _ := hL
      have hXa : Rf.ArgsOk ((p :: f).take L) := fun y hy => HG1.out.f y (List.mem_of_mem_take hy)
      have HG2 : Hid (EqGood ⟨(p :: f).drop L, s, bo, be, te⟩) := HG1.out.drops L 1
      have Hxl : Hid (((p :: f).take L).length = L) := by unfold Hid; rw [List.length_take]; simp; omega
      have hl4 : f.length + 1 ≤ 400 := HG1.out.ok.f
      have hLc : (L : Int) ≤ (c1 : Nat) := by omega
      clear hL
      by_cases h0 : (Rf.putE ⟨(p :: f).drop L, s, bo, be, te⟩ q.value ((p :: f).take L)).1 = 0
      ·have hH2 : Hid (Rf.haltN n (Rf.putE ⟨(p :: f).drop L, s, bo, be, te⟩ q.value ((p :: f).take L)).2 = true) := by have h9 := Rf.halt_go hh.out (by rw [hst]; exact h0); rw [hst] at h9; exact h9
       have hS2 : Hid (Rf.solveN n (Rf.putE ⟨(p :: f).drop L, s, bo, be, te⟩ q.value ((p :: f).take L)).2 = Rf.solveE E) := by have h9 := hso.out; rw [Rf.solve_go (by rw [hst]; exact h0), hst] at h9; exact h9
       have hG3 : Hid (EqGood (Rf.putE ⟨(p :: f).drop L, s, bo, be, te⟩ q.value ((p :: f).take L)).2) := putE_good HG2.out hXa h0
       have H0 : Hid ((Rf.putE ⟨(p :: f).drop L, s, bo, be, te⟩ q.value ((p :: f).take L)).1 = 0) := h0
       clear hst h0 hXa
       go_upto_region 6 with fail
       go_cut [34] from 8 to 88 (fun b wx => b = .bool false ∧ wx = ((wr.alloc (Obj.cells #[.int .i64 p.kind, .string p.name, .int .i64 p.value, .int .i64 p.args] 101)).alloc (Obj.cells #[.int .i64 q.kind, .string q.name, .int .i64 q.value, .int .i64 q.args] 101)))
       case first =>
        go_wp2_with fail
        all_goals first | (exfalso; exact Hpq.out (Rf.part_ext (by assumption) (by assumption) (by assumption) (by assumption))) | (go_meet; exact ⟨rfl, by simp [*]⟩)
       case rest =>
        obtain ⟨rfl, rfl⟩ := hcut
        go_upto_region 13 with fail
        go_cut [7] from 8 to 88 (fun ov wx => ov = .slice (some ⟨g1, o1, none⟩) L c1 ∧ Below wr.heap.size wr wx ∧ wx.heap[(wr.heap.size + 1)]? = some (Obj.cells #[.int .i64 q.kind, .string q.name, .int .i64 q.value, .int .i64 q.args] 101))
        case first =>
         go_region_with (go_at_call 128; refine (plead_any _ (some ⟨g1, o1, none⟩) _ c1 (p :: f) (HE.out.f.below (by repeat(first|exact bel0 _ _|refine bel1 ?_ (by simp<;>omega) _|refine bel2 ?_|refine bel3 ?_ _|refine bel4 ?_ (by simp<;>omega) _))) HG1.out.f (by simp; omega)).mono ?_; rintro r w1 ⟨rfl, hb1⟩; rw [← HL.out]; have hbw1 : Below wr.heap.size wr w1 := Below.trans ((by repeat(first|exact bel0 _ _|refine bel1 ?_ (by simp<;>omega) _|refine bel2 ?_|refine bel3 ?_ _|refine bel4 ?_ (by simp<;>omega) _)) : Below wr.heap.size wr (World.drew ((wr.alloc (Obj.cells #[.int .i64 p.kind, .string p.name, .int .i64 p.value, .int .i64 p.args] 101)).alloc (Obj.cells #[.int .i64 q.kind, .string q.name, .int .i64 q.value, .int .i64 q.args] 101)))) (hb1.mono (by simp; omega)); have hB1 : EqB w1 e _ _ _ _ _ := (hbw1.block e kl).trans HB.out; obtain ⟨l0, l1, l2, l3, l4, lf, ll⟩ := EqB.facts hB1; have hP1 : w1.heap[(wr.heap.size + 1)]? = some (Obj.cells #[.int .i64 q.kind, .string q.name, .int .i64 q.value, .int .i64 q.args] 101) := (hb1.block (wr.heap.size + 1) (by simp <;> omega)).trans (blk_at _ _ _ (by simp)))
         all_goals
          go_wp2_with fail
          go_meet
          exact ⟨rfl, hbw1, hP1⟩
        case rest =>
         obtain ⟨rfl, hbw1, hP1⟩ := hcut
         have hz1 := hbw1.size
         have hB1 : EqB wc e _ _ _ _ _ := (hbw1.block e kl).trans HB.out
         obtain ⟨l0, l1, l2, l3, l4, lf, ll⟩ := EqB.facts hB1
         have hA1 : Hid (EqAt wc e ⟨p :: f, q :: s, bo, be, te⟩) := ⟨_, _, _, _, _, hB1, HE.out.below hbw1⟩
         have hX1 : Hid (Seen wc 101 partCells (.slice (some ⟨g1, o1, none⟩) L c1) ((p :: f).take L)) := (HE.out.f.below hbw1).take L (by simp; omega)
         have hlc : (wr.heap.size + 1) < wc.heap.size := blk_lt hP1
         have HP1 : Hid _ := hP1
         have HB1 : Hid _ := hB1
         clear hP1 hB1
         go_wp2_with (first
          | (go_at_call 134; refine (pdrop_any _ e L 1 ⟨p :: f, q :: s, bo, be, te⟩ hA1.out (by simp) (by simp) (by simp <;> omega) (by simp <;> omega)).mono ?_; rintro r w2 ⟨rfl, hA2, hk2⟩; have hP2 := (hk2.block (wr.heap.size + 1) hlc hel1).trans HP1.out; have t2 : w2.cell? ⟨(wr.heap.size + 1), 2, none⟩ = some (.int .i64 q.value) := blk_cell hP2 2; have hX2 := Seen.keptEq hX1.out HB1.out hk2)
          | (go_at_call 135; refine (pputE_any q.value _ e ⟨(p :: f).drop L, s, bo, be, te⟩ hA2 HG2.out.ok _ L c1 ((p :: f).take L) hX2 (by rw [Hxl.out]; exact hL1) (by rw [Hxl.out]; omega)).mono ?_; rintro r w3 ⟨rfl, hk3, hA3⟩; rw [H0.out]))
         go_roundg n
         case measure => omega
         case rel => exact ⟨(Rf.putE ⟨(p :: f).drop L, s, bo, be, te⟩ q.value ((p :: f).take L)).2, hH2, hS2, hA3 H0.out, hG3.out, ((hk.trans (Kept.of_below hbw1 (fun k => k = e)) (fun _ _ h => h)).trans hk2 (fun _ _ h => h)).trans hk3 (fun _ _ h => h)⟩
      ·have hS2 : Hid (Rf.solveE E = (Rf.putE ⟨(p :: f).drop L, s, bo, be, te⟩ q.value ((p :: f).take L))) := by unfold Hid; rw [← hso.out, Rf.solve_stop (by rw [hst]; exact h0), hst]
       have h0' : ((Rf.putE ⟨(p :: f).drop L, s, bo, be, te⟩ q.value ((p :: f).take L)).1 == 0) = false := beq_eq_false_iff_ne.2 h0
       have h0'' : ((Rf.putE ⟨(p :: f).drop L, s, bo, be, te⟩ q.value ((p :: f).take L)).1 != 0) = true := bne_iff_ne.2 h0
       have H0 : Hid _ := h0
       clear hst h0 hXa
       go_upto_region 6 with fail
       go_cut [34] from 8 to 88 (fun b wx => b = .bool false ∧ wx = ((wr.alloc (Obj.cells #[.int .i64 p.kind, .string p.name, .int .i64 p.value, .int .i64 p.args] 101)).alloc (Obj.cells #[.int .i64 q.kind, .string q.name, .int .i64 q.value, .int .i64 q.args] 101)))
       case first =>
        go_wp2_with fail
        all_goals first | (exfalso; exact Hpq.out (Rf.part_ext (by assumption) (by assumption) (by assumption) (by assumption))) | (go_meet; exact ⟨rfl, by simp [*]⟩)
       case rest =>
        obtain ⟨rfl, rfl⟩ := hcut
        go_upto_region 13 with fail
        go_cut [7] from 8 to 88 (fun ov wx => ov = .slice (some ⟨g1, o1, none⟩) L c1 ∧ Below wr.heap.size wr wx ∧ wx.heap[(wr.heap.size + 1)]? = some (Obj.cells #[.int .i64 q.kind, .string q.name, .int .i64 q.value, .int .i64 q.args] 101))
        case first =>
         go_region_with (go_at_call 128; refine (plead_any _ (some ⟨g1, o1, none⟩) _ c1 (p :: f) (HE.out.f.below (by repeat(first|exact bel0 _ _|refine bel1 ?_ (by simp<;>omega) _|refine bel2 ?_|refine bel3 ?_ _|refine bel4 ?_ (by simp<;>omega) _))) HG1.out.f (by simp; omega)).mono ?_; rintro r w1 ⟨rfl, hb1⟩; rw [← HL.out]; have hbw1 : Below wr.heap.size wr w1 := Below.trans ((by repeat(first|exact bel0 _ _|refine bel1 ?_ (by simp<;>omega) _|refine bel2 ?_|refine bel3 ?_ _|refine bel4 ?_ (by simp<;>omega) _)) : Below wr.heap.size wr (World.drew ((wr.alloc (Obj.cells #[.int .i64 p.kind, .string p.name, .int .i64 p.value, .int .i64 p.args] 101)).alloc (Obj.cells #[.int .i64 q.kind, .string q.name, .int .i64 q.value, .int .i64 q.args] 101)))) (hb1.mono (by simp; omega)); have hB1 : EqB w1 e _ _ _ _ _ := (hbw1.block e kl).trans HB.out; obtain ⟨l0, l1, l2, l3, l4, lf, ll⟩ := EqB.facts hB1; have hP1 : w1.heap[(wr.heap.size + 1)]? = some (Obj.cells #[.int .i64 q.kind, .string q.name, .int .i64 q.value, .int .i64 q.args] 101) := (hb1.block (wr.heap.size + 1) (by simp <;> omega)).trans (blk_at _ _ _ (by simp)))
         all_goals
          go_wp2_with fail
          go_meet
          exact ⟨rfl, hbw1, hP1⟩
        case rest =>
         obtain ⟨rfl, hbw1, hP1⟩ := hcut
         have hz1 := hbw1.size
         have hB1 : EqB wc e _ _ _ _ _ := (hbw1.block e kl).trans HB.out
         obtain ⟨l0, l1, l2, l3, l4, lf, ll⟩ := EqB.facts hB1
         have hA1 : Hid (EqAt wc e ⟨p :: f, q :: s, bo, be, te⟩) := ⟨_, _, _, _, _, hB1, HE.out.below hbw1⟩
         have hX1 : Hid (Seen wc 101 partCells (.slice (some ⟨g1, o1, none⟩) L c1) ((p :: f).take L)) := (HE.out.f.below hbw1).take L (by simp; omega)
         have hlc : (wr.heap.size + 1) < wc.heap.size := blk_lt hP1
         have HP1 : Hid _ := hP1
         have HB1 : Hid _ := hB1
         clear hP1 hB1
         go_wp2_with (first
          | (go_at_call 134; refine (pdrop_any _ e L 1 ⟨p :: f, q :: s, bo, be, te⟩ hA1.out (by simp) (by simp) (by simp <;> omega) (by simp <;> omega)).mono ?_; rintro r w2 ⟨rfl, hA2, hk2⟩; have hP2 := (hk2.block (wr.heap.size + 1) hlc hel1).trans HP1.out; have t2 : w2.cell? ⟨(wr.heap.size + 1), 2, none⟩ = some (.int .i64 q.value) := blk_cell hP2 2; have hX2 := Seen.keptEq hX1.out HB1.out hk2)
          | (go_at_call 135; refine (pputE_any q.value _ e ⟨(p :: f).drop L, s, bo, be, te⟩ hA2 HG2.out.ok _ L c1 ((p :: f).take L) hX2 (by rw [Hxl.out]; exact hL1) (by rw [Hxl.out]; omega)).mono ?_; rintro r w3 ⟨rfl, hk3, hA3⟩; skip))
         go_ret
         exact ⟨ret_int (by rw [hS2.out]), ((hk.trans (Kept.of_below hbw1 (fun k => k = e)) (fun _ _ h => h)).trans hk2 (fun _ _ h => h)).trans hk3 (fun _ _ h => h), fun h9 => by rw [hS2.out] at h9; exact absurd h9 H0.out⟩
    ·obtain ⟨L, hL⟩ : ∃ L, L = Rf.leadT (q :: s) := ⟨_, rfl⟩
     have hL1 : 1 ≤ L := by rw [hL]; exact Rf.lead_pos _ _
     have hL2 : L ≤ s.length + 1 := by rw [hL]; exact Rf.lead_le _
     have hst := Rf.step_first f s bo be te Hpq.out (eq_of_beq c1k)
     rw [← hL] at hst
     have HL : Hid _ := hL
     have hXa : Rf.ArgsOk ((q :: s).take L) := fun y hy => HG1.out.s y (List.mem_of_mem_take hy)
     have HG2 : Hid (EqGood ⟨f, (q :: s).drop L, bo, be, te⟩) := HG1.out.drops 1 L
     have Hxl : Hid (((q :: s).take L).length = L) := by unfold Hid; rw [List.length_take]; simp; omega
     have hl4 : s.length + 1 ≤ 400 := HG1.out.ok.s
     have hLc : (L : Int) ≤ (c2 : Nat) := by omega
     clear hL
     by_cases h0 : (Rf.putE ⟨f, (q :: s).drop L, bo, be, te⟩ p.value ((q :: s).take L)).1 = 0
     ·have hH2 : Hid (Rf.haltN n (Rf.putE ⟨f, (q :: s).drop L, bo, be, te⟩ p.value ((q :: s).take L)).2 = true) := by have h9 := Rf.halt_go hh.out (by rw [hst]; exact h0); rw [hst] at h9; exact h9
      have hS2 : Hid (Rf.solveN n (Rf.putE ⟨f, (q :: s).drop L, bo, be, te⟩ p.value ((q :: s).take L)).2 = Rf.solveE E) := by have h9 := hso.out; rw [Rf.solve_go (by rw [hst]; exact h0), hst] at h9; exact h9
      have hG3 : Hid (EqGood (Rf.putE ⟨f, (q :: s).drop L, bo, be, te⟩ p.value ((q :: s).take L)).2) := putE_good HG2.out hXa h0
      have H0 : Hid ((Rf.putE ⟨f, (q :: s).drop L, bo, be, te⟩ p.value ((q :: s).take L)).1 = 0) := h0
      clear hst h0 hXa
      go_upto_region 6 with fail
      go_cut [34] from 8 to 88 (fun b wx => b = .bool false ∧ wx = ((wr.alloc (Obj.cells #[.int .i64 p.kind, .string p.name, .int .i64 p.value, .int .i64 p.args] 101)).alloc (Obj.cells #[.int .i64 q.kind, .string q.name, .int .i64 q.value, .int .i64 q.args] 101)))
      case first =>
       go_wp2_with fail
       all_goals first | (exfalso; exact Hpq.out (Rf.part_ext (by assumption) (by assumption) (by assumption) (by assumption))) | (go_meet; exact ⟨rfl, by simp [*]⟩)
      case rest =>
       obtain ⟨rfl, rfl⟩ := hcut
       go_upto_region 9 with fail
       go_cut [6] from 8 to 88 (fun ov wx => ov = .slice (some ⟨g2, o2, none⟩) L c2 ∧ Below wr.heap.size wr wx ∧ wx.heap[wr.heap.size]? = some (Obj.cells #[.int .i64 p.kind, .string p.name, .int .i64 p.value, .int .i64 p.args] 101))
       case first =>
        go_region_with (go_at_call 128; refine (plead_any _ (some ⟨g2, o2, none⟩) _ c2 (q :: s) (HE.out.s.below (by repeat(first|exact bel0 _ _|refine bel1 ?_ (by simp<;>omega) _|refine bel2 ?_|refine bel3 ?_ _|refine bel4 ?_ (by simp<;>omega) _))) HG1.out.s (by simp; omega)).mono ?_; rintro r w1 ⟨rfl, hb1⟩; rw [← HL.out]; have hbw1 : Below wr.heap.size wr w1 := Below.trans ((by repeat(first|exact bel0 _ _|refine bel1 ?_ (by simp<;>omega) _|refine bel2 ?_|refine bel3 ?_ _|refine bel4 ?_ (by simp<;>omega) _)) : Below wr.heap.size wr (World.drew ((wr.alloc (Obj.cells #[.int .i64 p.kind, .string p.name, .int .i64 p.value, .int .i64 p.args] 101)).alloc (Obj.cells #[.int .i64 q.kind, .string q.name, .int .i64 q.value, .int .i64 q.args] 101)))) (hb1.mono (by simp; omega)); have hB1 : EqB w1 e _ _ _ _ _ := (hbw1.block e kl).trans HB.out; obtain ⟨l0, l1, l2, l3, l4, lf, ll⟩ := EqB.facts hB1; have hP1 : w1.heap[wr.heap.size]? = some (Obj.cells #[.int .i64 p.kind, .string p.name, .int .i64 p.value, .int .i64 p.args] 101) := (hb1.block wr.heap.size (by simp <;> omega)).trans (blk_alloc (blk_new _ _) _))
        all_goals
         go_wp2_with fail
         go_meet
         exact ⟨rfl, hbw1, hP1⟩
       case rest =>
        obtain ⟨rfl, hbw1, hP1⟩ := hcut
        have hz1 := hbw1.size
        have hB1 : EqB wc e _ _ _ _ _ := (hbw1.block e kl).trans HB.out
        obtain ⟨l0, l1, l2, l3, l4, lf, ll⟩ := EqB.facts hB1
        have hA1 : Hid (EqAt wc e ⟨p :: f, q :: s, bo, be, te⟩) := ⟨_, _, _, _, _, hB1, HE.out.below hbw1⟩
        have hX1 : Hid (Seen wc 101 partCells (.slice (some ⟨g2, o2, none⟩) L c2) ((q :: s).take L)) := (HE.out.s.below hbw1).take L (by simp; omega)
        have hlc : wr.heap.size < wc.heap.size := blk_lt hP1
        have HP1 : Hid _ := hP1
        have HB1 : Hid _ := hB1
        clear hP1 hB1
        go_wp2_with (first
         | (go_at_call 134; refine (pdrop_any _ e 1 L ⟨p :: f, q :: s, bo, be, te⟩ hA1.out (by simp) (by simp) (by simp <;> omega) (by simp <;> omega)).mono ?_; rintro r w2 ⟨rfl, hA2, hk2⟩; have hP2 := (hk2.block wr.heap.size hlc hel).trans HP1.out; have t2 : w2.cell? ⟨wr.heap.size, 2, none⟩ = some (.int .i64 p.value) := blk_cell hP2 2; have hX2 := Seen.keptEq hX1.out HB1.out hk2)
         | (go_at_call 135; refine (pputE_any p.value _ e ⟨f, (q :: s).drop L, bo, be, te⟩ hA2 HG2.out.ok _ L c2 ((q :: s).take L) hX2 (by rw [Hxl.out]; exact hL1) (by rw [Hxl.out]; omega)).mono ?_; rintro r w3 ⟨rfl, hk3, hA3⟩; rw [H0.out]))
        go_roundg n
        case measure => omega
        case rel => exact ⟨(Rf.putE ⟨f, (q :: s).drop L, bo, be, te⟩ p.value ((q :: s).take L)).2, hH2, hS2, hA3 H0.out, hG3.out, ((hk.trans (Kept.of_below hbw1 (fun k => k = e)) (fun _ _ h => h)).trans hk2 (fun _ _ h => h)).trans hk3 (fun _ _ h => h)⟩
     ·have hS2 : Hid (Rf.solveE E = (Rf.putE ⟨f, (q :: s).drop L, bo, be, te⟩ p.value ((q :: s).take L))) := by unfold Hid; rw [← hso.out, Rf.solve_stop (by rw [hst]; exact h0), hst]
      have h0' : ((Rf.putE ⟨f, (q :: s).drop L, bo, be, te⟩ p.value ((q :: s).take L)).1 == 0) = false := beq_eq_false_iff_ne.2 h0
      have h0'' : ((Rf.putE ⟨f, (q :: s).drop L, bo, be, te⟩ p.value ((q :: s).take L)).1 != 0) = true := bne_iff_ne.2 h0
      have H0 : Hid _ := h0
      clear hst h0 hXa
      go_upto_region 6 with fail
      go_cut [34] from 8 to 88 (fun b wx => b = .bool false ∧ wx = ((wr.alloc (Obj.cells #[.int .i64 p.kind, .string p.name, .int .i64 p.value, .int .i64 p.args] 101)).alloc (Obj.cells #[.int .i64 q.kind, .string q.name, .int .i64 q.value, .int .i64 q.args] 101)))
      case first =>
       go_wp2_with fail
       all_goals first | (exfalso; exact Hpq.out (Rf.part_ext (by assumption) (by assumption) (by assumption) (by assumption))) | (go_meet; exact ⟨rfl, by simp [*]⟩)
      case rest =>
       obtain ⟨rfl, rfl⟩ := hcut
       go_upto_region 9 with fail
       go_cut [6] from 8 to 88 (fun ov wx => ov = .slice (some ⟨g2, o2, none⟩) L c2 ∧ Below wr.heap.size wr wx ∧ wx.heap[wr.heap.size]? = some (Obj.cells #[.int .i64 p.kind, .string p.name, .int .i64 p.value, .int .i64 p.args] 101))
       case first =>
        go_region_with (go_at_call 128; refine (plead_any _ (some ⟨g2, o2, none⟩) _ c2 (q :: s) (HE.out.s.below (by repeat(first|exact bel0 _ _|refine bel1 ?_ (by simp<;>omega) _|refine bel2 ?_|refine bel3 ?_ _|refine bel4 ?_ (by simp<;>omega) _))) HG1.out.s (by simp; omega)).mono ?_; rintro r w1 ⟨rfl, hb1⟩; rw [← HL.out]; have hbw1 : Below wr.heap.size wr w1 := Below.trans ((by repeat(first|exact bel0 _ _|refine bel1 ?_ (by simp<;>omega) _|refine bel2 ?_|refine bel3 ?_ _|refine bel4 ?_ (by simp<;>omega) _)) : Below wr.heap.size wr (World.drew ((wr.alloc (Obj.cells #[.int .i64 p.kind, .string p.name, .int .i64 p.value, .int .i64 p.args] 101)).alloc (Obj.cells #[.int .i64 q.kind, .string q.name, .int .i64 q.value, .int .i64 q.args] 101)))) (hb1.mono (by simp; omega)); have hB1 : EqB w1 e _ _ _ _ _ := (hbw1.block e kl).trans HB.out; obtain ⟨l0, l1, l2, l3, l4, lf, ll⟩ := EqB.facts hB1; have hP1 : w1.heap[wr.heap.size]? = some (Obj.cells #[.int .i64 p.kind, .string p.name, .int .i64 p.value, .int .i64 p.args] 101) := (hb1.block wr.heap.size (by simp <;> omega)).trans (blk_alloc (blk_new _ _) _))
        all_goals
         go_wp2_with fail
         go_meet
         exact ⟨rfl, hbw1, hP1⟩
       case rest =>
        obtain ⟨rfl, hbw1, hP1⟩ := hcut
        have hz1 := hbw1.size
        have hB1 : EqB wc e _ _ _ _ _ := (hbw1.block e kl).trans HB.out
        obtain ⟨l0, l1, l2, l3, l4, lf, ll⟩ := EqB.facts hB1
        have hA1 : Hid (EqAt wc e ⟨p :: f, q :: s, bo, be, te⟩) := ⟨_, _, _, _, _, hB1, HE.out.below hbw1⟩
        have hX1 : Hid (Seen wc 101 partCells (.slice (some ⟨g2, o2, none⟩) L c2) ((q :: s).take L)) := (HE.out.s.below hbw1).take L (by simp; omega)
        have hlc : wr.heap.size < wc.heap.size := blk_lt hP1
        have HP1 : Hid _ := hP1
        have HB1 : Hid _ := hB1
        clear hP1 hB1
        go_wp2_with (first
         | (go_at_call 134; refine (pdrop_any _ e 1 L ⟨p :: f, q :: s, bo, be, te⟩ hA1.out (by simp) (by simp) (by simp <;> omega) (by simp <;> omega)).mono ?_; rintro r w2 ⟨rfl, hA2, hk2⟩; have hP2 := (hk2.block wr.heap.size hlc hel).trans HP1.out; have t2 : w2.cell? ⟨wr.heap.size, 2, none⟩ = some (.int .i64 p.value) := blk_cell hP2 2; have hX2 := Seen.keptEq hX1.out HB1.out hk2)
         | (go_at_call 135; refine (pputE_any p.value _ e ⟨f, (q :: s).drop L, bo, be, te⟩ hA2 HG2.out.ok _ L c2 ((q :: s).take L) hX2 (by rw [Hxl.out]; exact hL1) (by rw [Hxl.out]; omega)).mono ?_; rintro r w3 ⟨rfl, hk3, hA3⟩; skip))
        go_ret
        exact ⟨ret_int (by rw [hS2.out]), ((hk.trans (Kept.of_below hbw1 (fun k => k = e)) (fun _ _ h => h)).trans hk2 (fun _ _ h => h)).trans hk3 (fun _ _ h => h), fun h9 => by rw [hS2.out] at h9; exact absurd h9 H0.out⟩
end Go.Proofs.YtbiojnljihgpoaaGreatDoor
