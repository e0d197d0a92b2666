/- The program's equation (play: put): what comes of putting a term in a variable's place everywhere. -/
import Derived.Test.YtpdikdnffehmkaaGreatDoorYba
namespace Rf
theorem sizeW_app {v : Int} {n : Nat} : ∀ (ts us : List (List Part)) (z : Nat), sizeW v n (sizeW v n z ts) us = sizeW v n z (ts ++ us)
  | [], _, _ => rfl
  | t :: ts, us, z => by
    rw [sizeW, List.cons_append, sizeW]
    split
    · cases us with
      | nil => rfl
      | cons u us => rw [sizeW]; rename_i h; rw [if_pos h]
    · exact sizeW_app ts us _
def allT (E : Eqn) : List (List Part) := [E.f, E.s] ++ (E.body ++ (E.behind ++ E.terms))
theorem sizeT_app : ∀ (ts us : List (List Part)), sizeT (ts ++ us) = sizeT ts + sizeT us
  | [], us => by simp [sizeT]
  | t :: ts, us => by rw [List.cons_append, sizeT, sizeT, sizeT_app ts us]; omega
theorem size_put (E : Eqn) (v : Int) (x : List Part) : (E.put v x).size = sizeT ((allT E).map (putV v x)) := by
  unfold allT Eqn.put Eqn.size
  simp only [List.map_append, sizeT_app, List.map_cons, List.map_nil, sizeT]
  omega
theorem size_big (E : Eqn) (v : Int) (x : List Part) (n : Nat) (hx : x.length = n + 1) : 200 < sizeW v n 0 (allT E) ↔ 200 < (E.put v x).size := by
  rw [sizeW_big hx, size_put, Nat.zero_add]
end Rf
namespace Go.Proofs.YtpdikdnffehmkaaGreatDoor
open Go.RowKit
theorem Seen.two {w : World} {N : Nat} {x y : SlV} {t : TypeId} (h : w.heap[N]? = some (.cells #[.slice x.a x.n x.c, .slice y.a y.n y.c] t (0, 0))) : Seen w t slCells (.slice (some ⟨N, 0, none⟩) 2 2) [x, y] := by
  refine ⟨.inr ⟨N, 0, 2, _, rfl, h, by simp, by unfold maxLen; omega, fun j u hu => ?_⟩⟩
  rw [Nat.zero_add]
  match j, hu with
  | 0, hu => simpa [slCells, slv] using hu
  | 1, hu => simpa [slCells, slv] using hu
  | (j + 2), hu => simp [slCells] at hu
theorem sizeW_bd {v : Int} {n : Nat} (hn : n ≤ 1000) : ∀ (ts : List (List Rf.Part)) (z : Nat), (∀ t ∈ ts, t.length ≤ 400) → z ≤ 1000000 → Rf.sizeW v n z ts ≤ 1000000
  | [], z, _, h => h
  | t :: ts, z, ht, h => by
    rw [Rf.sizeW]
    split
    · exact h
    · refine sizeW_bd hn ts _ (fun q hq => ht q (List.mem_cons_of_mem _ hq)) ?_
      have h1 := ht t (by simp)
      have h2 := Rf.countV_le (v := v) t
      have h3 : Rf.countV v t * n ≤ 400 * 1000 := Nat.mul_le_mul (by omega) hn
      omega
set_option maxHeartbeats 1000000 in
set_option maxRecDepth 100000 in
theorem psizeE_any (n : Nat) (v : Int) (w : World) (e : Nat) (E : Rf.Eqn) (h : EqAt w e E) (ho : EqOk E) (hn : n ≤ 1000) :
    Calls Tryz.prog 218 #[.pointer (some ⟨e, 0, none⟩), .int .i64 v, .int .i64 ((n : Int) + 1)] w fun r w' => r = .returned (.int .i64 (Rf.sizeW v n 0 (Rf.allT E))) ∧ Below w.heap.size w w' := by
  obtain ⟨vf, vs, vb, vh, vt, hB, hE⟩ := h.ex
  obtain ⟨a1, c1, rfl⟩ := hE.f.slice
  obtain ⟨a2, c2, rfl⟩ := hE.s.slice
  obtain ⟨a3, c3, rfl⟩ := hE.b.slice
  obtain ⟨a4, c4, rfl⟩ := hE.h.slice
  obtain ⟨a5, c5, rfl⟩ := hE.t.slice
  obtain ⟨k0, k1, k2, k3, k4, kf, kl⟩ := hB.facts
  have HB : Hid _ := hB
  have HE : Hid _ := hE
  have HO : Hid _ := ho
  have HS2 : Hid (∀ o, ∀ q ∈ [((⟨a1, E.f.length, c1⟩ : SlV), E.f), (⟨a2, E.s.length, c2⟩, E.s)], Seen (w.drew.alloc o) 117 partCells (slv q.1) q.2) := fun o q hq => by
    simp only [List.mem_cons, List.not_mem_nil, or_false] at hq
    rcases hq with rfl | rfl
    · exact hE.f.drew.alloc o
    · exact hE.s.drew.alloc o
  have HL2 : Hid (∀ t ∈ [E.f, E.s], t.length ≤ 400) := fun t ht => by
    simp only [List.mem_cons, List.not_mem_nil, or_false] at ht
    rcases ht with rfl | rfl
    · exact ho.f
    · exact ho.s
  have Zb : ∀ (ts : List (List Rf.Part)) (z : Nat), (∀ t ∈ ts, t.length ≤ 400) → z ≤ 1000000 → Rf.sizeW v n z ts ≤ 1000000 := fun ts z ht hz => sizeW_bd hn ts z ht hz
  have Z1 : Hid (Rf.sizeW v n 0 [E.f, E.s] ≤ 1000000) := Zb _ _ HL2.out (by omega)
  have Z2 : Hid (Rf.sizeW v n (Rf.sizeW v n 0 [E.f, E.s]) E.body ≤ 1000000) := Zb _ _ ho.b.2 Z1.out
  have Z3 : Hid (Rf.sizeW v n (Rf.sizeW v n (Rf.sizeW v n 0 [E.f, E.s]) E.body) E.behind ≤ 1000000) := Zb _ _ ho.h.2 Z2.out
  clear h hB hE ho
  go_enter Tryz.func218, Tryz.ntmps218
  go_wp2_with fail
  go_region_with (go_at_call 225; refine (psizeWith_any 0 n v _ (.slice (some ⟨_, 0, none⟩) 2 2) [E.f, E.s] ⟨[(⟨a1, E.f.length, c1⟩, E.f), (⟨a2, E.s.length, c2⟩, E.s)], Seen.two (x := ⟨a1, E.f.length, c1⟩) (y := ⟨a2, E.s.length, c2⟩) (blk_new _ _), HS2.out _, rfl⟩ (by simp) HL2.out (by omega) hn).mono ?_; rintro r w1 ⟨rfl, hb1⟩)
  all_goals
    have hbw1 : Below w.heap.size w w1 := ((Below.refl _ w).drew.alloc (Nat.le_refl _) _).trans (hb1.mono (by simp))
    have hB1 : EqB w1 e _ _ _ _ _ := (hbw1.block e kl).trans HB.out
    obtain ⟨l0, l1, l2, l3, l4, lf, ll⟩ := hB1.facts
    clear hb1
    go_wp2_with (first
      | (go_at_call_of 225 (Value.slice a3 E.body.length c3); refine (psizeWith_any (Rf.sizeW v n 0 [E.f, E.s]) n v _ (.slice a3 E.body.length c3) E.body (HE.out.b.below hbw1) (by have := HO.out.b.1; omega) HO.out.b.2 Z1.out hn).mono ?_; rintro r w2 ⟨rfl, hb2⟩; have hbw2 := hbw1.trans (hb2.mono hbw1.size); have hB2 : EqB w2 e _ _ _ _ _ := (hbw2.block e kl).trans HB.out; obtain ⟨m0, m1, m2, m3, m4, mf, ml⟩ := hB2.facts)
      | (go_at_call_of 225 (Value.slice a4 E.behind.length c4); refine (psizeWith_any _ n v _ (.slice a4 E.behind.length c4) E.behind (HE.out.h.below hbw2) (by have := HO.out.h.1; omega) HO.out.h.2 Z2.out hn).mono ?_; rintro r w3 ⟨rfl, hb3⟩; have hbw3 := hbw2.trans (hb3.mono hbw2.size); have hB3 : EqB w3 e _ _ _ _ _ := (hbw3.block e kl).trans HB.out; obtain ⟨q0, q1, q2, q3, q4, qf, ql⟩ := hB3.facts)
      | (go_at_call_of 225 (Value.slice a5 E.terms.length c5); refine (psizeWith_any _ n v _ (.slice a5 E.terms.length c5) E.terms (HE.out.t.below hbw3) (by have := HO.out.t.1; omega) HO.out.t.2 Z3.out hn).mono ?_; rintro r w4 ⟨rfl, hb4⟩; have hbw4 := hbw3.trans (hb4.mono hbw3.size)))
    go_ret
    exact ⟨ret_int (by rw [Rf.sizeW_app, Rf.sizeW_app, Rf.sizeW_app]; rfl), hbw4⟩
theorem EqIs.f' {w : World} {e : Nat} {vf vs vb vh vt v' : Value} {E : Rf.Eqn} {ps : List Rf.Part} (h : EqIs w vf vs vb vh vt E) (hB : EqB w e vf vs vb vh vt) (h' : Seen w 117 partCells v' ps) : EqIs (w.setCell ⟨e, 0, none⟩ v') v' vs vb vh vt { E with f := ps } :=
  have k := h.set hB 0 v'
  ⟨h'.setBlk hB (by decide) 0 v', k.s, k.b, k.h, k.t⟩
theorem EqIs.s' {w : World} {e : Nat} {vf vs vb vh vt v' : Value} {E : Rf.Eqn} {ps : List Rf.Part} (h : EqIs w vf vs vb vh vt E) (hB : EqB w e vf vs vb vh vt) (h' : Seen w 117 partCells v' ps) : EqIs (w.setCell ⟨e, 1, none⟩ v') vf v' vb vh vt { E with s := ps } :=
  have k := h.set hB 1 v'
  ⟨k.f, h'.setBlk hB (by decide) 1 v', k.b, k.h, k.t⟩
theorem EqIs.b' {w : World} {e : Nat} {vf vs vb vh vt v' : Value} {E : Rf.Eqn} {ps : List (List Rf.Part)} (h : EqIs w vf vs vb vh vt E) (hB : EqB w e vf vs vb vh vt) (h' : SeenTs w v' ps) : EqIs (w.setCell ⟨e, 2, none⟩ v') vf vs v' vh vt { E with body := ps } :=
  have k := h.set hB 2 v'
  ⟨k.f, k.s, h'.setBlk hB (by decide) (by decide) 2 v', k.h, k.t⟩
theorem EqIs.h' {w : World} {e : Nat} {vf vs vb vh vt v' : Value} {E : Rf.Eqn} {ps : List (List Rf.Part)} (h : EqIs w vf vs vb vh vt E) (hB : EqB w e vf vs vb vh vt) (h' : SeenTs w v' ps) : EqIs (w.setCell ⟨e, 3, none⟩ v') vf vs vb v' vt { E with behind := ps } :=
  have k := h.set hB 3 v'
  ⟨k.f, k.s, k.b, h'.setBlk hB (by decide) (by decide) 3 v', k.t⟩
theorem EqIs.t' {w : World} {e : Nat} {vf vs vb vh vt v' : Value} {E : Rf.Eqn} {ps : List (List Rf.Part)} (h : EqIs w vf vs vb vh vt E) (hB : EqB w e vf vs vb vh vt) (h' : SeenTs w v' ps) : EqIs (w.setCell ⟨e, 4, none⟩ v') vf vs vb vh v' { E with terms := ps } :=
  have k := h.set hB 4 v'
  ⟨k.f, k.s, k.b, k.h, h'.setBlk hB (by decide) (by decide) 4 v'⟩
set_option maxHeartbeats 1000000 in
set_option maxRecDepth 100000 in
theorem pputE_any (v : Int) (w : World) (e : Nat) (E : Rf.Eqn) (h : EqAt w e E) (ho : EqOk E) (a : Option Addr) (nx c : Nat) (x : List Rf.Part) (hx : Seen w 117 partCells (.slice a nx c) x) (hx1 : 1 ≤ x.length) (hx4 : x.length ≤ 400) :
    Calls Tryz.prog 207 #[.pointer (some ⟨e, 0, none⟩), .int .i64 v, .slice a nx c] w fun r w' => r = .returned (.int .i64 (Rf.putE E v x).1) ∧ Kept (fun k => k = e) w w' ∧ ((Rf.putE E v x).1 = 0 → EqAt w' e (Rf.putE E v x).2) := by
  obtain rfl : nx = x.length := hx.len
  have HA : Hid _ := h
  obtain ⟨vf, vs, vb, vh, vt, hB, hE⟩ := h.ex
  obtain ⟨a1, c1, rfl⟩ := hE.f.slice
  obtain ⟨a2, c2, rfl⟩ := hE.s.slice
  obtain ⟨a3, c3, rfl⟩ := hE.b.slice
  obtain ⟨a4, c4, rfl⟩ := hE.h.slice
  obtain ⟨a5, c5, rfl⟩ := hE.t.slice
  obtain ⟨k0, k1, k2, k3, k4, kf, kl⟩ := hB.facts
  have HB : Hid _ := hB
  have HE : Hid _ := hE
  have HO : Hid _ := ho
  have HX : Hid _ := hx
  obtain ⟨n, hn⟩ : ∃ n, x.length = n + 1 := ⟨x.length - 1, by omega⟩
  have Hn : Hid _ := hn
  clear h hB hE ho hx hn
  by_cases hc : 0 < Rf.countV v x
  · have HP : Hid ((Rf.putE E v x).1 = 8) := by unfold Hid Rf.putE; rw [if_pos hc]
    go_enter Tryz.func207, Tryz.ntmps207
    go_wp2_with (go_at_call 217; refine (pcount_any v _ a _ c x HX.out (by omega)).mono ?_; rintro r w1 ⟨rfl, hb1⟩)
    go_ret
    exact ⟨ret_int HP.out.symm, Kept.of_below hb1 _, fun e => by rw [HP.out] at e; cases e⟩
  · have hc' : Rf.countV v x = 0 := by omega
    have HC : Hid _ := hc'
    clear hc hc'
    by_cases hbig : 200 < (E.put v x).size
    · have HP : Hid ((Rf.putE E v x).1 = 7) := by unfold Hid Rf.putE; rw [if_neg (by have := HC.out; omega), if_pos hbig]
      have hbig' : (200 : Int) < (Rf.sizeW v n 0 (Rf.allT E) : Nat) := by have := (Rf.size_big E v x n Hn.out).2 hbig; omega
      clear hbig
      go_enter Tryz.func207, Tryz.ntmps207
      go_wp2_with (first
        | (go_at_call 217; refine (pcount_any v _ a _ c x HX.out (by omega)).mono ?_; rintro r w1 ⟨rfl, hb1⟩; rw [HC.out]; have hA1 : EqAt w1 e E := ⟨_, _, _, _, _, (hb1.block e kl).trans HB.out, HE.out.below hb1⟩)
        | (go_at_call 218; rw [show ((x.length : Nat) : Int) = (n : Int) + 1 from by rw [Hn.out]; rfl]; refine (psizeE_any n v _ e E hA1 HO.out (by have := Hn.out; omega)).mono ?_; rintro r w2 ⟨rfl, hb2⟩))
      go_ret
      exact ⟨ret_int HP.out.symm, Kept.of_below (hb1.trans (hb2.mono hb1.size)) _, fun e => by rw [HP.out] at e; cases e⟩
    · have HP : Hid (Rf.putE E v x = (0, E.put v x)) := by unfold Hid Rf.putE; rw [if_neg (by have := HC.out; omega), if_neg hbig]
      have hbig' : ¬ (200 : Int) < (Rf.sizeW v n 0 (Rf.allT E) : Nat) := by intro e; exact hbig ((Rf.size_big E v x n Hn.out).1 (by omega))
      have hbig2 : decide ((200 : Int) < (Rf.sizeW v n 0 (Rf.allT E) : Nat)) = false := decide_eq_false hbig'
      clear hbig hbig'
      go_enter Tryz.func207, Tryz.ntmps207
      go_wp2_with (first
        | (go_at_call 217; refine (pcount_any v _ a _ c x HX.out (by omega)).mono ?_; rintro r w1 ⟨rfl, hb1⟩; rw [HC.out]; have hA1 : EqAt w1 e E := ⟨_, _, _, _, _, (hb1.block e kl).trans HB.out, HE.out.below hb1⟩)
        | (go_at_call 218; rw [show ((x.length : Nat) : Int) = (n : Int) + 1 from by rw [Hn.out]; rfl]; refine (psizeE_any n v _ e E hA1 HO.out (by have := Hn.out; omega)).mono ?_; rintro r w2 ⟨rfl, hb2⟩; have hbw2 := hb1.trans (hb2.mono hb1.size); have hB2 : EqB w2 e _ _ _ _ _ := (hbw2.block e kl).trans HB.out; have hE2 := HE.out.below hbw2; obtain ⟨l0, l1, l2, l3, l4, lf, ll⟩ := hB2.facts; have hX2 := HX.out.below hbw2)
        | (go_at_call_of 219 (Value.slice a1 E.f.length c1); refine (pput_any v _ a1 _ c1 E.f hE2.f (by have := HO.out.f; omega) a _ c x hX2 (by omega) hx1).mono ?_; rintro r w3 ⟨b3, n3, d3, rfl, hS3, hb3⟩; have hC3 : EqB w3 e _ _ _ _ _ := (hb3.block e (blk_lt hB2)).trans hB2; have hE3 := EqIs.f' (hE2.below hb3) hC3 hS3; have hB3 := blk_set hC3 0 (Value.slice b3 n3 d3); have hX3 := (hX2.below hb3).setBlk hC3 (by decide) 0 (Value.slice b3 n3 d3); obtain ⟨y0, y1, y2, y3, y4, yf, yl⟩ := EqB.facts hC3; obtain ⟨z0, z1, z2, z3, z4, zf, zl⟩ := EqB.facts hB3)
        | (go_at_call_of 219 (Value.slice a2 E.s.length c2); refine (pput_any v _ a2 _ c2 E.s hE3.s (by have := HO.out.s; omega) a _ c x hX3 (by omega) hx1).mono ?_; rintro r w4 ⟨b4, n4, d4, rfl, hS4, hb4⟩; have hC4 : EqB w4 e _ _ _ _ _ := (hb4.block e (blk_lt hB3)).trans hB3; have hE4 := EqIs.s' (hE3.below hb4) hC4 hS4; have hB4 := blk_set hC4 1 (Value.slice b4 n4 d4); have hX4 := (hX3.below hb4).setBlk hC4 (by decide) 1 (Value.slice b4 n4 d4); obtain ⟨y0, y1, y2, y3, y4, yf, yl⟩ := EqB.facts hC4; obtain ⟨z0, z1, z2, z3, z4, zf, zl⟩ := EqB.facts hB4)
        | (go_at_call_of 220 (Value.slice a3 E.body.length c3); refine (pputAll_any v _ (.slice a3 E.body.length c3) E.body hE4.b (by have := HO.out.b.1; omega) (fun t ht => by have := HO.out.b.2 t ht; omega) a _ c x hX4 (by omega) hx1).mono ?_; rintro r w5 ⟨u5, rfl, hS5, hb5⟩; obtain ⟨b5, d5, hu5⟩ := hS5.slice; rw [List.length_map] at hu5; subst hu5; have hC5 : EqB w5 e _ _ _ _ _ := (hb5.block e (blk_lt hB4)).trans hB4; have hE5 := EqIs.b' (hE4.below hb5) hC5 hS5; have hB5 := blk_set hC5 2 (Value.slice b5 E.body.length d5); have hX5 := (hX4.below hb5).setBlk hC5 (by decide) 2 (Value.slice b5 E.body.length d5); obtain ⟨y0, y1, y2, y3, y4, yf, yl⟩ := EqB.facts hC5; obtain ⟨z0, z1, z2, z3, z4, zf, zl⟩ := EqB.facts hB5)
        | (go_at_call_of 220 (Value.slice a4 E.behind.length c4); refine (pputAll_any v _ (.slice a4 E.behind.length c4) E.behind hE5.h (by have := HO.out.h.1; omega) (fun t ht => by have := HO.out.h.2 t ht; omega) a _ c x hX5 (by omega) hx1).mono ?_; rintro r w6 ⟨u6, rfl, hS6, hb6⟩; obtain ⟨b6, d6, hu6⟩ := hS6.slice; rw [List.length_map] at hu6; subst hu6; have hC6 : EqB w6 e _ _ _ _ _ := (hb6.block e (blk_lt hB5)).trans hB5; have hE6 := EqIs.h' (hE5.below hb6) hC6 hS6; have hB6 := blk_set hC6 3 (Value.slice b6 E.behind.length d6); have hX6 := (hX5.below hb6).setBlk hC6 (by decide) 3 (Value.slice b6 E.behind.length d6); obtain ⟨y0, y1, y2, y3, y4, yf, yl⟩ := EqB.facts hC6; obtain ⟨z0, z1, z2, z3, z4, zf, zl⟩ := EqB.facts hB6)
        | (go_at_call_of 220 (Value.slice a5 E.terms.length c5); refine (pputAll_any v _ (.slice a5 E.terms.length c5) E.terms hE6.t (by have := HO.out.t.1; omega) (fun t ht => by have := HO.out.t.2 t ht; omega) a _ c x hX6 (by omega) hx1).mono ?_; rintro r w7 ⟨u7, rfl, hS7, hb7⟩; obtain ⟨b7, d7, hu7⟩ := hS7.slice; rw [List.length_map] at hu7; subst hu7; have hC7 : EqB w7 e _ _ _ _ _ := (hb7.block e (blk_lt hB6)).trans hB6; have hE7 := EqIs.t' (hE6.below hb7) hC7 hS7; have hB7 := blk_set hC7 4 (Value.slice b7 E.terms.length d7); have hX7 := (hX6.below hb7).setBlk hC7 (by decide) 4 (Value.slice b7 E.terms.length d7); obtain ⟨y0, y1, y2, y3, y4, yf, yl⟩ := EqB.facts hC7; obtain ⟨z0, z1, z2, z3, z4, zf, zl⟩ := EqB.facts hB7))
      go_ret
      have kk : ∀ {p q : World}, Below p.heap.size p q → ∀ i u, Kept (fun k => k = e) p (q.setCell ⟨e, i, none⟩ u) := fun hb i u => Kept.setCell (p := ⟨e, i, none⟩) (Kept.of_below hb (fun k => k = e)) (Or.inr rfl) u
      refine ⟨ret_int (by rw [HP.out]), ?_, fun _ => ⟨_, _, _, _, _, hB7, by rw [HP.out]; exact hE7⟩⟩
      exact (((((Kept.of_below hbw2 (fun k => k = e)).trans (kk hb3 0 _) (fun _ _ h => h)).trans (kk hb4 1 _) (fun _ _ h => h)).trans (kk hb5 2 _) (fun _ _ h => h)).trans (kk hb6 3 _) (fun _ _ h => h)).trans (kk hb7 4 _) (fun _ _ h => h)
end Go.Proofs.YtpdikdnffehmkaaGreatDoor
