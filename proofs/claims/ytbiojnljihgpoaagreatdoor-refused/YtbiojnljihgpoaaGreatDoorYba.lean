
import Derived.Test.YtbiojnljihgpoaaGreatDoorYaz
namespace Go.Proofs.YtbiojnljihgpoaaGreatDoor
open Go.RowKit
variable {nm : Value}
theorem equalE_good {N : Nat} {F : Int} {cf : Rf.Cf} {a b : List Rf.Part} (h : Rf.StG N F cf.now) (hN : N ≤ 9000) (ha : a.length ≤ 400) (hb : b.length ≤ 400) (ha4 : Rf.ArgsOk a) (hb4 : Rf.ArgsOk b) : EqGood (Rf.equalE cf a b) := by
 refine ⟨⟨ha, hb, ⟨by simp [Rf.equalE], by intro t ht; cases ht⟩, ⟨?_, ?_⟩, ⟨?_, ?_⟩⟩, ha4, hb4⟩
 ·have := h.gl; simp only [Rf.equalE, List.length_tail]; omega
 ·intro t ht; exact (h.g t (List.mem_of_mem_tail ht)).1
 ·have := h.tl; simp only [Rf.equalE]; omega
 ·intro t ht; exact (h.t t ht).1
set_option maxHeartbeats 1000000 in
set_option maxRecDepth 100000 in
theorem pequal_any (w : World) (q : Nat) (rb : Option Nat) (names : List ByteArray) (cf : Rf.Cf) (a1 : Option Addr) (n1 c1 : Nat) (A : List Rf.Part) (a2 : Option Addr) (n2 c2 : Nat) (B : List Rf.Part) (N : Nat) (F : Int) (h : QAt nm w q rb names cf) (hA : Seen w 101 partCells (.slice a1 n1 c1) A) (hB : Seen w 101 partCells (.slice a2 n2 c2) B) (hG : Rf.StG N F cf.now) (hN : N ≤ 9000) (hne : cf.now.goals ≠ []) (hAl : A.length ≤ 400) (hBl : B.length ≤ 400) (hA4 : Rf.ArgsOk A) (hB4 : Rf.ArgsOk B) :
  Calls Tryz.prog 111 #[.pointer (some ⟨q, 0, none⟩), .slice a1 n1 c1, .slice a2 n2 c2] w fun r w' => r = .returned (.int .i64 (Rf.equalP cf A B).1) ∧ QAt nm w' q rb names (Rf.equalP cf A B).2 ∧ Kept (May q rb) w w' := by
 obtain ⟨vg, vt, fr, vC, hQ⟩ := h.ex
 obtain ⟨k0, k1, k2, k3, k4, kf, kl⟩ := hQ.b.facts
 obtain ⟨ag, cg, rfl⟩ := hQ.s.g.slice
 obtain ⟨g, off, rfl, hgl, _, hp1, hp2⟩ := hQ.s.g.pos hne
 obtain ⟨ta, tc, rfl⟩ := hQ.s.t.slice
 have HQ : Hid _ := hQ
 have HA : Hid _ := hA
 have HB : Hid _ := hB
 have HG : Hid _ := equalE_good hG hN hAl hBl hA4 hB4
 have Hne : Hid _ := hne
 clear h hQ hA hB hG hne hA4 hB4
 go_enter Tryz.func111, Tryz.ntmps111
 go_wp2_with fail
 have Ht1 : Hid (cg = 1 → SeenTs w (.slice (some ⟨g, off, none⟩) (cf.now.goals.length - 1) 0) cf.now.goals.tail) := fun hc => HQ.out.s.g.tail1 hc
 have Ht2 : Hid (SeenTs w (.slice (some ⟨g, off + 1, none⟩) (cf.now.goals.length - 1) (cg - 1)) cf.now.goals.tail) := HQ.out.s.g.tail2 Hne.out
 go_cut [7] from 9 to 38 (fun pv wx => ∃ (e : Nat) (vr : Value), pv = .pointer (some ⟨e, 0, none⟩) ∧ w.heap.size ≤ e ∧ EqB wx e (.slice a1 n1 c1) (.slice a2 n2 c2) (.slice none 0 0) vr (.slice ta cf.now.terms.length tc) ∧ SeenTs wx vr cf.now.goals.tail ∧ Below w.heap.size w wx)
 case first =>
  by_cases hcc : cg = 1
  ·go_region
   go_wp2_with fail
   go_meet
   exact ⟨_, _, rfl, by omega, blk_at _ _ _ (by simp), (Ht1.out hcc).below (by repeat(first|exact bel0 _ _|refine bel1 ?_ (by simp<;>omega) _|refine bel2 ?_|refine bel3 ?_ _|refine bel4 ?_ (by simp<;>omega) _)), (by repeat(first|exact bel0 _ _|refine bel1 ?_ (by simp<;>omega) _|refine bel2 ?_|refine bel3 ?_ _|refine bel4 ?_ (by simp<;>omega) _))⟩
  ·go_region
   go_wp2_with fail
   go_meet
   exact ⟨_, _, rfl, by omega, blk_at _ _ _ (by simp), Ht2.out.below (by repeat(first|exact bel0 _ _|refine bel1 ?_ (by simp<;>omega) _|refine bel2 ?_|refine bel3 ?_ _|refine bel4 ?_ (by simp<;>omega) _)), (by repeat(first|exact bel0 _ _|refine bel1 ?_ (by simp<;>omega) _|refine bel2 ?_|refine bel3 ?_ _|refine bel4 ?_ (by simp<;>omega) _))⟩
 case rest =>
  obtain ⟨e, vr, rfl, he, hEB, hvr, hbc⟩ := hcut
  have hE : EqIs wc (.slice a1 n1 c1) (.slice a2 n2 c2) (.slice none 0 0) vr (.slice ta cf.now.terms.length tc) (Rf.equalE cf A B) := ⟨HA.out.below hbc, HB.out.below hbc, SeenTs.nil _, hvr, HQ.out.s.t.below hbc⟩
  have HE : Hid (EqAt wc e (Rf.equalE cf A B)) := ⟨_, _, _, _, _, hEB, hE⟩
  have hQc := HQ.out.below hbc
  have HQc : Hid _ := hQc
  have hqe : ¬ q = e := by omega
  have hUE : Hid (Rf.equalP cf A B = ((Rf.solveE (Rf.equalE cf A B)).1, if (Rf.solveE (Rf.equalE cf A B)).1 = 0 then ⟨⟨(Rf.solveE (Rf.equalE cf A B)).2.behind, (Rf.solveE (Rf.equalE cf A B)).2.terms, cf.now.fresh⟩, cf.chs⟩ else cf)) := rfl
  obtain ⟨o, ho⟩ : ∃ o, Hid ((Rf.solveE (Rf.equalE cf A B)).1 = o) := ⟨_, rfl⟩
  rw [ho.out] at hUE
  clear hE hEB hvr hQc Ht1 Ht2 k0 k1 k2 k3 k4 kf
  by_cases h0 : o = 0
  ·subst h0
   have hU0 : Hid (Rf.equalP cf A B = (0, ⟨⟨(Rf.solveE (Rf.equalE cf A B)).2.behind, (Rf.solveE (Rf.equalE cf A B)).2.terms, cf.now.fresh⟩, cf.chs⟩)) := hUE.out
   clear hUE
   go_wp2_with (go_at_call 121; refine (psolve_any _ e _ HE.out HG.out).mono ?_; rintro r w2 ⟨rfl, hk2, hA2⟩; obtain ⟨vf, vs, vb, vh, vt, hB2, hE2⟩ := (hA2 ho.out).ex; obtain ⟨a6, c6, rfl⟩ := hE2.h.slice; obtain ⟨a7, c7, rfl⟩ := hE2.t.slice; obtain ⟨l0, l1, l2, l3, l4, lf, ll⟩ := hB2.facts; have hbe : Below w.heap.size w w2 := hbc.trans (hk2.below hbc.size (fun k hk e => by omega)); have hQ2 := HQ.out.below hbe; obtain ⟨m0, m1, m2, m3, m4, mf, ml⟩ := hQ2.b.facts; rw [ho.out])
   go_ret
   rw [hU0.out]
   have hs2 : StIs w2 (.slice a6 _ c6) (.slice a7 _ c7) fr ⟨(Rf.solveE (Rf.equalE cf A B)).2.behind, (Rf.solveE (Rf.equalE cf A B)).2.terms, cf.now.fresh⟩ := ⟨hE2.h, hE2.t, HQ.out.s.f⟩
   refine ⟨rfl, (QIs.now hQ2 (((Kept.refl (fun k => k = q) w2).setCell (p := ⟨q, 1, none⟩) (.inr rfl) _).setCell (p := ⟨q, 2, none⟩) (.inr rfl) _) (blk_set (blk_set hQ2.b 1 _) 2 _) hs2).at, ?_⟩
   exact ((Kept.of_below hbe (May q rb)).trans (((Kept.refl (May q rb) w2).setCell (p := ⟨q, 1, none⟩) (.inr (.inl rfl)) _).setCell (p := ⟨q, 2, none⟩) (.inr (.inl rfl)) _) (fun _ _ h => h))
  ·have h0' : (o == 0) = false := beq_eq_false_iff_ne.2 h0
   go_wp2_with (go_at_call 121; refine (psolve_any _ e _ HE.out HG.out).mono ?_; rintro r w2 ⟨rfl, hk2, hA2⟩; rw [ho.out])
   go_ret
   rw [hUE.out, if_neg h0]
   have hbe : Below w.heap.size w w2 := hbc.trans (hk2.below hbc.size (fun k hk e => by omega))
   exact ⟨rfl, (HQ.out.below hbe).at, Kept.of_below hbe _⟩
set_option maxHeartbeats 1000000 in
set_option maxRecDepth 100000 in
theorem pless_any (w : World) (q : Nat) (rb : Option Nat) (names : List ByteArray) (cf : Rf.Cf) (a1 : Option Addr) (n1 c1 : Nat) (A : List Rf.Part) (h : QAt nm w q rb names cf) (hA : Seen w 101 partCells (.slice a1 n1 c1) A) (hne : cf.now.goals ≠ []) (hAl : A.length ≤ 400) (hA4 : Rf.ArgsOk A) :
  Calls Tryz.prog 113 #[.pointer (some ⟨q, 0, none⟩), .slice a1 n1 c1] w fun r w' => r = .returned (.int .i64 (Rf.lessP cf A).1) ∧ QAt nm w' q rb names (Rf.lessP cf A).2 ∧ Kept (May q rb) w w' := by
 have HQ : Hid _ := h
 have HA : Hid _ := hA
 have HA4 : Hid (Rf.ArgsOk A) := hA4
 have Hne : Hid _ := hne
 obtain ⟨o, ho⟩ : ∃ o, Hid (Rf.numbersK A = o) := ⟨_, rfl⟩
 have HL : Hid (Rf.lessP cf A = if o = 0 then (if Rf.num0 A < Rf.num1 A then Rf.meetP cf else (-1, cf)) else (o, cf)) := by unfold Hid Rf.lessP; rw [ho.out]
 clear h hA hne hA4
 by_cases h0 : o = 0
 ·subst h0
  by_cases hlt : Rf.num0 A < Rf.num1 A
  ·have HL0 : Hid (Rf.lessP cf A = Rf.meetP cf) := by unfold Hid; rw [HL.out, if_pos rfl, if_pos hlt]
   have hge : ¬ Rf.num1 A ≤ Rf.num0 A := by omega
   clear HL
   go_enter Tryz.func113, Tryz.ntmps113
   go_wp2_with (first
    | (go_at_call 129; refine (pnumbers_any a1 n1 c1 A _ HA.out HA4.out hAl).mono ?_; rintro r w1 ⟨x, y, rfl, hxy, hb1⟩; obtain ⟨rfl, rfl⟩ := hxy ho.out; rw [ho.out])
    | (go_at_call 110; refine (pmeet_any _ q rb names cf (HQ.out.below hb1) Hne.out).mono ?_; rintro r w2 ⟨rfl, hQ2, hk2⟩))
   go_ret
   rw [HL0.out]
   exact ⟨rfl, hQ2, (Kept.of_below hb1 _).trans hk2 (fun _ _ h => h)⟩
  ·have HL0 : Hid (Rf.lessP cf A = (-1, cf)) := by unfold Hid; rw [HL.out, if_pos rfl, if_neg hlt]
   have hge : Rf.num1 A ≤ Rf.num0 A := by omega
   clear HL
   go_enter Tryz.func113, Tryz.ntmps113
   go_wp2_with (go_at_call 129; refine (pnumbers_any a1 n1 c1 A _ HA.out HA4.out hAl).mono ?_; rintro r w1 ⟨x, y, rfl, hxy, hb1⟩; obtain ⟨rfl, rfl⟩ := hxy ho.out; rw [ho.out])
   go_ret
   rw [HL0.out]
   exact ⟨rfl, HQ.out.below hb1, Kept.of_below hb1 _⟩
 ·have h0' : (o != 0) = true := bne_iff_ne.2 h0
  go_enter Tryz.func113, Tryz.ntmps113
  go_wp2_with (go_at_call 129; refine (pnumbers_any a1 n1 c1 A _ HA.out HA4.out hAl).mono ?_; rintro r w1 ⟨x, y, rfl, hxy, hb1⟩; rw [ho.out])
  go_ret
  rw [HL.out, if_neg h0]
  exact ⟨rfl, HQ.out.below hb1, Kept.of_below hb1 _⟩
end Go.Proofs.YtbiojnljihgpoaaGreatDoor
namespace Rf
theorem num_bd {f : Int} {A : List Part} (h : ∀ p ∈ A, PartG f p) (i : Nat) (hk : numberK (topP (argT A i)) = 0) : -999999999 ≤ (topP (argT A i)).value ∧ (topP (argT A i)).value ≤ 999999999 := by
 have h2 : (topP (argT A i)).kind = 2 := by
  unfold numberK at hk
  split at hk
  ·cases hk
  ·split at hk
   ·assumption
   ·cases hk
 cases ha : argT A i with
 | nil => rw [ha] at h2; exact absurd h2 (by decide)
 | cons p t =>
  rw [ha] at h2
  have hm := (argT_sub A i).2 p (by rw [ha]; simp)
  exact (h p hm).2.2.1 h2
theorem nums_bd {f : Int} {A : List Part} (h : ∀ p ∈ A, PartG f p) (hk : numbersK A = 0) : (-999999999 ≤ num0 A ∧ num0 A ≤ 999999999) ∧ (-999999999 ≤ num1 A ∧ num1 A ≤ 999999999) := by
 have h0 : numberK (topP (argT A 0)) = 0 := by
  unfold numbersK at hk
  split at hk
  ·assumption
  ·exact hk
 have h1 : numberK (topP (argT A 1)) = 0 := by
  unfold numbersK at hk
  rw [if_pos h0] at hk; exact hk
 exact ⟨num_bd h 0 h0, num_bd h 1 h1⟩
end Rf
namespace Go.Proofs.YtbiojnljihgpoaaGreatDoor
open Go.RowKit
variable {nm : Value}
theorem argsOk_arg {A : List Rf.Part} (h : Rf.ArgsOk A) (i : Nat) : Rf.ArgsOk (Rf.argT A i) := fun p hp => h p ((Rf.argT_sub A i).2 p hp)
theorem Seen.one {w : World} {N : Nat} {p : Rf.Part} (h : w.heap[N]? = some (.cells #[.int .i64 p.kind, .string p.name, .int .i64 p.value, .int .i64 p.args] 101 (0, 0))) : Seen w 101 partCells (.slice (some ⟨N, 0, none⟩) 1 1) [p] := (row_new (C := partCells) (x := p) (base := 0) (size := 4) h rfl rfl (Nat.zero_le _)).seen
set_option maxHeartbeats 1000000 in
set_option maxRecDepth 100000 in
theorem pplus_any (w : World) (q : Nat) (rb : Option Nat) (names : List ByteArray) (cf : Rf.Cf) (a1 : Option Addr) (n1 c1 : Nat) (A : List Rf.Part) (N : Nat) (F : Int) (h : QAt nm w q rb names cf) (hA : Seen w 101 partCells (.slice a1 n1 c1) A) (hG : Rf.StG N F cf.now) (hN : N ≤ 9000) (hne : cf.now.goals ≠ []) (hAl : A.length ≤ 400) (hAG : ∀ p ∈ A, Rf.PartG cf.now.fresh p) :
  Calls Tryz.prog 114 #[.pointer (some ⟨q, 0, none⟩), .slice a1 n1 c1] w fun r w' => r = .returned (.int .i64 (Rf.plusP cf A).1) ∧ QAt nm w' q rb names (Rf.plusP cf A).2 ∧ Kept (May q rb) w w' := by
 have HQ : Hid _ := h
 have HA : Hid _ := hA
 have HA4 : Hid (Rf.ArgsOk A) := fun p hp => (hAG p hp).1
 have HG : Hid _ := hG
 have Hne : Hid _ := hne
 obtain ⟨o, ho⟩ : ∃ o, Hid (Rf.numbersK A = o) := ⟨_, rfl⟩
 have HL : Hid (Rf.plusP cf A = if o = 0 then (if Rf.num0 A + Rf.num1 A < -999999999 ∨ 999999999 < Rf.num0 A + Rf.num1 A then (11, cf) else Rf.equalP cf (Rf.numT (Rf.num0 A + Rf.num1 A)) (Rf.argT A 2)) else (o, cf)) := by unfold Hid Rf.plusP; rw [ho.out]
 have HB : Hid (o = 0 → (-999999999 ≤ Rf.num0 A ∧ Rf.num0 A ≤ 999999999) ∧ (-999999999 ≤ Rf.num1 A ∧ Rf.num1 A ≤ 999999999)) := fun e => Rf.nums_bd hAG (ho.out.trans e)
 clear h hA hne hAG hG
 by_cases h0 : o = 0
 ·subst h0
  obtain ⟨⟨b1, b2⟩, ⟨b3, b4⟩⟩ := HB.out rfl
  obtain ⟨n0, hn0⟩ : ∃ n, Hid (Rf.num0 A = n) := ⟨_, rfl⟩
  obtain ⟨m0, hm0⟩ : ∃ n, Hid (Rf.num1 A = n) := ⟨_, rfl⟩
  have HL1 : Hid (Rf.plusP cf A = if n0 + m0 < -999999999 ∨ 999999999 < n0 + m0 then (11, cf) else Rf.equalP cf (Rf.numT (n0 + m0)) (Rf.argT A 2)) := by unfold Hid; rw [HL.out, if_pos rfl, hn0.out, hm0.out]
  rw [hn0.out] at b1 b2
  rw [hm0.out] at b3 b4
  clear HL HB
  by_cases hr : n0 + m0 < -999999999 ∨ 999999999 < n0 + m0
  ·have HL0 : Hid (Rf.plusP cf A = (11, cf)) := by unfold Hid; rw [HL1.out, if_pos hr]
   clear HL1
   rcases hr with hr | hr
   ·go_enter Tryz.func114, Tryz.ntmps114
    go_wp2_with (go_at_call 129; refine (pnumbers_any a1 n1 c1 A _ HA.out HA4.out hAl).mono ?_; rintro r w1 ⟨x, y, rfl, hxy, hb1⟩; obtain ⟨rfl, rfl⟩ := hxy ho.out; rw [ho.out, hn0.out, hm0.out])
    go_ret
    rw [HL0.out]
    exact ⟨rfl, HQ.out.below hb1, Kept.of_below hb1 _⟩
   ·have hr2 : ¬ n0 + m0 < -999999999 := by omega
    go_enter Tryz.func114, Tryz.ntmps114
    go_wp2_with (go_at_call 129; refine (pnumbers_any a1 n1 c1 A _ HA.out HA4.out hAl).mono ?_; rintro r w1 ⟨x, y, rfl, hxy, hb1⟩; obtain ⟨rfl, rfl⟩ := hxy ho.out; rw [ho.out, hn0.out, hm0.out])
    go_ret
    rw [HL0.out]
    exact ⟨rfl, HQ.out.below hb1, Kept.of_below hb1 _⟩
  ·have HL0 : Hid (Rf.plusP cf A = Rf.equalP cf (Rf.numT (n0 + m0)) (Rf.argT A 2)) := by unfold Hid; rw [HL1.out, if_neg hr]
   have hr1 : ¬ n0 + m0 < -999999999 := by omega
   have hr2 : ¬ 999999999 < n0 + m0 := by omega
   clear HL1 hr
   go_enter Tryz.func114, Tryz.ntmps114
   go_wp2_with (first
    | (go_at_call 129; refine (pnumbers_any a1 n1 c1 A _ HA.out HA4.out hAl).mono ?_; rintro r w1 ⟨x, y, rfl, hxy, hb1⟩; obtain ⟨rfl, rfl⟩ := hxy ho.out; rw [ho.out, hn0.out, hm0.out]; have hz1 := hb1.size)
    | (go_at_call 112; refine (parg2_any a1 n1 c1 A _ (HA.out.below (hb1.alloc hz1 _)) HA4.out hAl).mono ?_; rintro r w2 ⟨a3, n3, c3, rfl, hS2, hb2⟩; have hbw2 : Below w.heap.size w w2 := (hb1.alloc hz1 _).trans (hb2.mono (by rw [World.size_alloc]; omega)); have hn : Seen w2 101 partCells (.slice (some ⟨w1.heap.size, 0, none⟩) 1 1) (Rf.numT (n0 + m0)) := Seen.one (p := ⟨2, ⟨#[]⟩, n0 + m0, 0⟩) ((hb2.block w1.heap.size (by rw [World.size_alloc]; omega)).trans (blk_new w1 _)))
    | (go_at_call 111; refine (pequal_any _ q rb names cf _ _ _ (Rf.numT (n0 + m0)) a3 n3 c3 (Rf.argT A 2) N F (HQ.out.below hbw2) hn hS2 HG.out hN Hne.out (by simp [Rf.numT]) (Nat.le_trans (Rf.argT_sub A 2).1 hAl) (fun p hp => by simp [Rf.numT] at hp; subst hp; simp) (argsOk_arg HA4.out 2)).mono ?_; rintro r w3 ⟨rfl, hQ3, hk3⟩))
   go_ret
   rw [HL0.out]
   exact ⟨rfl, hQ3, (Kept.of_below hbw2 _).trans hk3 (fun _ _ h => h)⟩
 ·have h0' : (o != 0) = true := bne_iff_ne.2 h0
  go_enter Tryz.func114, Tryz.ntmps114
  go_wp2_with (go_at_call 129; refine (pnumbers_any a1 n1 c1 A _ HA.out HA4.out hAl).mono ?_; rintro r w1 ⟨x, y, rfl, hxy, hb1⟩; rw [ho.out])
  go_ret
  rw [HL.out, if_neg h0]
  exact ⟨rfl, HQ.out.below hb1, Kept.of_below hb1 _⟩
theorem QIs.push {W w3 : World} {q : Nat} {rb : Option Nat} {vN vg vt vC : Value} {fr : Int} {names : List ByteArray} {cf : Rf.Cf} (hQ : QIs W q rb vN vg vt fr vC names cf) {acc : List (ChV × Rf.Ch)} (hacc : ∀ y ∈ acc, ChIs W y.1 y.2) (hm : acc.map (·.2) = cf.chs.reverse) {x : ChV} {c : Rf.Ch} (hx : ChIs W x c) {g n cap : Nat} (hrow : RowIs w3 0 79 4 chCells (.slice (some ⟨g, 0, none⟩) n cap) (acc.map (·.1) ++ [x])) (hgr : W.grownBy w3 vC.ownBlock) :
  QIs (w3.setCell ⟨q, 4, none⟩ (.slice (some ⟨g, 0, none⟩) n cap)) q (some g) vN vg vt fr (.slice (some ⟨g, 0, none⟩) n cap) names ⟨cf.now, c :: cf.chs⟩ ∧ Kept (May q rb) W (w3.setCell ⟨q, 4, none⟩ (.slice (some ⟨g, 0, none⟩) n cap)) ∧ QB w3 q vN vg vt fr vC := by
 have hk3 : Kept (May q rb) W w3 := (Kept.refl _ W).grown hgr (fun k e => .inr (.inr (by rw [← hQ.o, e])))
 have hk := hk3.setCell (p := ⟨q, 4, none⟩) (.inr (.inl rfl)) (.slice (some ⟨g, 0, none⟩) n cap)
 have hqb : QB w3 q vN vg vt fr vC := (hgr.block q (blk_lt hQ.b) (fun e => hQ.rq (by rw [← hQ.o, e]))).trans hQ.b
 have hgq : ¬ g = q := by
  intro e
  obtain ⟨cs', hc'⟩ := hrow.typed g rfl
  rw [e] at hc'
  unfold QB at hqb
  rw [hqb] at hc'
  injection hc' with h3; injection h3 with _ h4
  exact absurd h4 (by decide)
 refine ⟨⟨blk_set hqb 4 _, Seen.kept hQ.n hk hQ.free.s, hQ.s.kept hk hQ.free, ?_, rfl⟩, hk, hqb⟩
 refine ⟨acc ++ [(x, c)], ?_, fun y hy => ?_, by rw [List.map_append, hm, List.reverse_cons]; rfl⟩
 ·rw [List.map_append]
  exact hrow.setCell _ _ (fun e => hgq (by injection e))
 ·rcases List.mem_append.1 hy with hy | hy
  ·exact (hacc y hy).kept hk hQ.free
  ·simp at hy; subst hy; exact hx.kept hk hQ.free
theorem Seen.three {w : World} {N : Nat} {x y z : SlV} (h : w.heap[N]? = some (.cells #[.slice x.a x.n x.c, .slice y.a y.n y.c, .slice z.a z.n z.c] 56 (0, 0))) : Seen w 56 slCells (.slice (some ⟨N, 0, none⟩) 3 3) [x, y, z] := by
 refine ⟨.inr ⟨N, 0, 3, _, rfl, h, by simp, by unfold maxLen; omega, fun j u hu => ?_⟩⟩
 rw [Nat.zero_add]
 match j, hu with
 | 0, hu => simpa [slCells, slv] using hu
 | 1, hu => simpa [slCells, slv] using hu
 | 2, hu => simpa [slCells, slv] using hu
 | (j + 3), hu => simp [slCells] at hu
theorem part_kind (k : Int) (s : ByteArray) (v a : Int) (w : World) : (Instr.field 101 (.agg #[.int .i64 k, .string s, .int .i64 v, .int .i64 a]) 0).run Tryz.prog w = .ok (.int .i64 k) w := by kernel_rfl
end Go.Proofs.YtbiojnljihgpoaaGreatDoor
namespace Go.Proofs.YtbiojnljihgpoaaGreatDoor
open Go.RowKit
variable {nm : Value}
set_option maxHeartbeats 1000000 in
set_option maxRecDepth 100000 in
theorem pnot_any (w : World) (q : Nat) (rb : Option Nat) (names : List ByteArray) (cf : Rf.Cf) (a1 : Option Addr) (n1 c1 : Nat) (A : List Rf.Part) (h : QAt nm w q rb names cf) (hA : Seen w 101 partCells (.slice a1 n1 c1) A) (hne : cf.now.goals ≠ []) (hl20 : cf.chs.length ≤ 20) :
  Calls Tryz.prog 115 #[.pointer (some ⟨q, 0, none⟩), .slice a1 n1 c1] w fun r w' => r = .returned (.int .i64 (Rf.notP cf A).1) ∧ (∃ rb', QAt nm w' q rb' names (Rf.notP cf A).2 ∧ Nb w rb rb') ∧ Kept (May q rb) w w' := by
 obtain ⟨vg, vt, fr, vC, hQ⟩ := h.ex
 obtain ⟨k0, k1, k2, k3, k4, kf, kl⟩ := hQ.b.facts
 obtain ⟨ag, cg, rfl⟩ := hQ.s.g.slice
 obtain ⟨g, off, rfl, hgl, _, hp1, hp2⟩ := hQ.s.g.pos hne
 obtain ⟨ta, tc, rfl⟩ := hQ.s.t.slice
 obtain ⟨ca, cc, rfl⟩ := hQ.r.slice
 have HQ : Hid _ := hQ
 have HA : Hid _ := hA
 have Hne : Hid _ := hne
 obtain ⟨K, hK⟩ : ∃ K, Hid ((Rf.topP A).kind = K) := ⟨_, rfl⟩
 have HN : Hid (Rf.notP cf A = if (if K = 1 then 9 else if K = 2 then 10 else 0 : Int) = 0 then (if 20 ≤ cf.chs.length then (6, cf) else (0, ⟨⟨[A, Rf.cutT cf.chs.length, Rf.failT], cf.now.terms, cf.now.fresh⟩, ⟨⟨cf.now.goals.tail, cf.now.terms, cf.now.fresh⟩, []⟩ :: cf.chs⟩)) else ((if K = 1 then 9 else if K = 2 then 10 else 0 : Int), cf)) := by unfold Hid Rf.notP Rf.notK; rw [hK.out]
 clear h hQ hA hne
 have hfd : ∀ w : World, _ := fun w => part_kind K (Rf.topP A).name (Rf.topP A).value (Rf.topP A).args w
 by_cases h1 : K = 1
 ·subst h1
  have HN0 : Hid (Rf.notP cf A = (9, cf)) := HN.out
  clear HN
  go_enter Tryz.func115, Tryz.ntmps115
  go_wp2_with (go_at_call 71; refine (ptopA_any a1 n1 c1 A _ HA.out).mono ?_; rintro r w1 ⟨rfl, hb1⟩; rw [hK.out])
  go_ret
  rw [HN0.out]
  exact ⟨rfl, ⟨rb, (HQ.out.below hb1).at, .inl rfl⟩, Kept.of_below hb1 _⟩
 by_cases h2 : K = 2
 ·subst h2
  have HN0 : Hid (Rf.notP cf A = (10, cf)) := HN.out
  clear HN
  go_enter Tryz.func115, Tryz.ntmps115
  go_wp2_with (go_at_call 71; refine (ptopA_any a1 n1 c1 A _ HA.out).mono ?_; rintro r w1 ⟨rfl, hb1⟩; rw [hK.out])
  go_ret
  rw [HN0.out]
  exact ⟨rfl, ⟨rb, (HQ.out.below hb1).at, .inl rfl⟩, Kept.of_below hb1 _⟩
 have h1' : (K == 1) = false := beq_eq_false_iff_ne.2 h1
 have h2' : (K == 2) = false := beq_eq_false_iff_ne.2 h2
 have HN1 : Hid (Rf.notP cf A = if 20 ≤ cf.chs.length then (6, cf) else (0, ⟨⟨[A, Rf.cutT cf.chs.length, Rf.failT], cf.now.terms, cf.now.fresh⟩, ⟨⟨cf.now.goals.tail, cf.now.terms, cf.now.fresh⟩, []⟩ :: cf.chs⟩)) := by unfold Hid; rw [HN.out, if_neg h1, if_neg h2, if_pos rfl]
 clear HN
 by_cases h20 : 20 ≤ cf.chs.length
 ·have HN0 : Hid (Rf.notP cf A = (6, cf)) := by unfold Hid; rw [HN1.out, if_pos h20]
  have h20' : (20 : Int) ≤ cf.chs.length := by omega
  clear HN1
  go_enter Tryz.func115, Tryz.ntmps115
  go_wp2_with (go_at_call 71; refine (ptopA_any a1 n1 c1 A _ HA.out).mono ?_; rintro r w1 ⟨rfl, hb1⟩; rw [hK.out]; obtain ⟨l0, l1, l2, l3, l4, lf, ll⟩ := (HQ.out.below hb1).b.facts)
  go_ret
  rw [HN0.out]
  exact ⟨rfl, ⟨rb, (HQ.out.below hb1).at, .inl rfl⟩, Kept.of_below hb1 _⟩
 ·have HN0 : Hid (Rf.notP cf A = (0, ⟨⟨[A, Rf.cutT cf.chs.length, Rf.failT], cf.now.terms, cf.now.fresh⟩, ⟨⟨cf.now.goals.tail, cf.now.terms, cf.now.fresh⟩, []⟩ :: cf.chs⟩)) := by unfold Hid; rw [HN1.out, if_neg h20]
  have h20' : ¬ (20 : Int) ≤ cf.chs.length := by omega
  clear HN1
  go_enter Tryz.func115, Tryz.ntmps115
  obtain ⟨acc, hr, hac, ham⟩ := HQ.out.r.ex
  have hal : acc.length = cf.chs.length := by have := congrArg List.length ham; simpa using this
  have HR : Hid _ := hr
  have HAC : Hid _ := hac
  have HAM : Hid _ := ham
  clear hr hac ham
  go_wp2_with (go_at_call 71; refine (ptopA_any a1 n1 c1 A _ HA.out).mono ?_; rintro r w1 ⟨rfl, hb1⟩; rw [hK.out]; obtain ⟨l0, l1, l2, l3, l4, lf, ll⟩ := (HQ.out.below hb1).b.facts; have HQ1 : Hid _ := HQ.out.below hb1)
  all_goals
   have HRb : Hid (∀ X, Below w1.heap.size w1 X → RowIs X 0 79 4 chCells (.slice ca cf.chs.length cc) (acc.map (·.1))) := fun X hX => (HR.out.below hb1).below hX
   have HAb : Hid (∀ y ∈ acc, ∀ X, Below w1.heap.size w1 X → ChIs X y.1 y.2) := fun y hy X hX => ((HAC.out y hy).below hb1).below hX
   have HAk : Hid (∀ X, Below w1.heap.size w1 X → Seen X 101 partCells (.slice a1 n1 c1) A) := fun X hX => (HA.out.below hb1).below hX
   have HTt : Hid (∀ X, Below w1.heap.size w1 X → SeenTs X (.slice ta cf.now.terms.length tc) cf.now.terms) := fun X hX => HQ1.out.s.t.below hX
   have HQb : Hid (∀ X, Below w1.heap.size w1 X → QIs X q rb nm (.slice (some ⟨g, off, none⟩) cf.now.goals.length cg) (.slice ta cf.now.terms.length tc) fr (.slice ca cf.chs.length cc) names cf) := fun X hX => HQ1.out.below hX
  ·have HT1 : Hid (∀ X, Below w1.heap.size w1 X → SeenTs X (.slice (some ⟨g, off, none⟩) (cf.now.goals.length - 1) 0) cf.now.goals.tail) := fun X hX => ((HQ1.out.s.g.tail1 ‹_›) : SeenTs w1 (.slice (some ⟨g, off, none⟩) (cf.now.goals.length - 1) 0) cf.now.goals.tail).below hX
   go_region_law (refine step_app Tryz.elemCh chCells chCells_len chCells_one rfl (.tmp 35) (.tmp 38) rfl 0 (.slice ca cf.chs.length cc) (acc.map (·.1)) rfl (HRb.out _ (by repeat(first|exact bel0 _ _|refine bel1 ?_ (by simp<;>omega) _|refine bel2 ?_|refine bel3 ?_ _|refine bel4 ?_ (by simp<;>omega) _))) ⟨_, 0, none⟩ 1 ⟨⟨some ⟨g, off, none⟩, cf.now.goals.length - 1, 0⟩, ⟨ta, cf.now.terms.length, tc⟩, fr, ⟨none, 0, 0⟩⟩ rfl (cell_four_at _ _ (by simp) _ _ _ _ _) (by rw [List.length_map, hal]; omega) (Nat.zero_le _) ?_; intro gA capA w3 hrow3 hgr3 hnb3; rw [List.length_map, hal] at hrow3; obtain ⟨r1, r2, r3⟩ := QIs.push (HQb.out _ (by repeat(first|exact bel0 _ _|refine bel1 ?_ (by simp<;>omega) _|refine bel2 ?_|refine bel3 ?_ _|refine bel4 ?_ (by simp<;>omega) _))) (fun y hy => HAb.out y hy _ (by repeat(first|exact bel0 _ _|refine bel1 ?_ (by simp<;>omega) _|refine bel2 ?_|refine bel3 ?_ _|refine bel4 ?_ (by simp<;>omega) _))) HAM.out (c := ⟨⟨cf.now.goals.tail, cf.now.terms, cf.now.fresh⟩, []⟩) ⟨⟨HT1.out _ (by repeat(first|exact bel0 _ _|refine bel1 ?_ (by simp<;>omega) _|refine bel2 ?_|refine bel3 ?_ _|refine bel4 ?_ (by simp<;>omega) _)), HTt.out _ (by repeat(first|exact bel0 _ _|refine bel1 ?_ (by simp<;>omega) _|refine bel2 ?_|refine bel3 ?_ _|refine bel4 ?_ (by simp<;>omega) _)), HQ.out.s.f⟩, Seen.nil⟩ hrow3 hgr3; obtain ⟨m0, m1, m2, m3, m4, mf, ml⟩ := r3.facts; have HR1 : Hid _ := r1; have HR2 : Hid _ := r2; clear r1 r2 r3)
   all_goals
    generalize w3.setCell ⟨q, 4, none⟩ (.slice (some ⟨gA, 0, none⟩) (cf.chs.length + 1) capA) = w4 at *
    clear m0 m1 m2 m3 m4 mf ml l0 l1 l2 l3 l4 lf
    obtain ⟨m0, m1, m2, m3, m4, mf, ml⟩ := HR1.out.b.facts
    have hbX : Below w4.heap.size w4 (((w4.alloc (.cells #[.int .i64 4, .string ⟨#[]⟩, .int .i64 cf.chs.length, .int .i64 0] 101)).alloc (.cells #[.int .i64 3, .string ⟨#[102, 97, 105, 108]⟩, .int .i64 0, .int .i64 0] 101)).alloc (.cells #[.slice a1 n1 c1, .slice (some ⟨w4.heap.size, 0, none⟩) 1 1, .slice (some ⟨w4.heap.size + 1, 0, none⟩) 1 1] 56)) := (by repeat(first|exact bel0 _ _|refine bel1 ?_ (by simp<;>omega) _|refine bel2 ?_|refine bel3 ?_ _|refine bel4 ?_ (by simp<;>omega) _))
    have hQX := HR1.out.below hbX
    have hX3 : Seen (((w4.alloc (.cells #[.int .i64 4, .string ⟨#[]⟩, .int .i64 cf.chs.length, .int .i64 0] 101)).alloc (.cells #[.int .i64 3, .string ⟨#[102, 97, 105, 108]⟩, .int .i64 0, .int .i64 0] 101)).alloc (.cells #[.slice a1 n1 c1, .slice (some ⟨w4.heap.size, 0, none⟩) 1 1, .slice (some ⟨w4.heap.size + 1, 0, none⟩) 1 1] 56)) 56 slCells (.slice (some ⟨w4.heap.size + 1 + 1, 0, none⟩) 3 3) [⟨a1, n1, c1⟩, ⟨some ⟨w4.heap.size, 0, none⟩, 1, 1⟩, ⟨some ⟨w4.heap.size + 1, 0, none⟩, 1, 1⟩] := Seen.three (x := ⟨a1, n1, c1⟩) (y := ⟨some ⟨w4.heap.size, 0, none⟩, 1, 1⟩) (z := ⟨some ⟨w4.heap.size + 1, 0, none⟩, 1, 1⟩) (blk_at _ _ _ (by simp))
    have hY1 : Seen (((w4.alloc (.cells #[.int .i64 4, .string ⟨#[]⟩, .int .i64 cf.chs.length, .int .i64 0] 101)).alloc (.cells #[.int .i64 3, .string ⟨#[102, 97, 105, 108]⟩, .int .i64 0, .int .i64 0] 101)).alloc (.cells #[.slice a1 n1 c1, .slice (some ⟨w4.heap.size, 0, none⟩) 1 1, .slice (some ⟨w4.heap.size + 1, 0, none⟩) 1 1] 56)) 101 partCells (.slice (some ⟨w4.heap.size, 0, none⟩) 1 1) (Rf.cutT cf.chs.length) := Seen.one (p := ⟨4, ⟨#[]⟩, cf.chs.length, 0⟩) (blk_alloc (blk_alloc (blk_new w4 _) _) _)
    have hY2 : Seen (((w4.alloc (.cells #[.int .i64 4, .string ⟨#[]⟩, .int .i64 cf.chs.length, .int .i64 0] 101)).alloc (.cells #[.int .i64 3, .string ⟨#[102, 97, 105, 108]⟩, .int .i64 0, .int .i64 0] 101)).alloc (.cells #[.slice a1 n1 c1, .slice (some ⟨w4.heap.size, 0, none⟩) 1 1, .slice (some ⟨w4.heap.size + 1, 0, none⟩) 1 1] 56)) 101 partCells (.slice (some ⟨w4.heap.size + 1, 0, none⟩) 1 1) Rf.failT := Seen.one (p := ⟨3, Rf.failB, 0, 0⟩) (blk_alloc (blk_at _ _ _ (by simp)) _)
    have hA1 : Seen (((w4.alloc (.cells #[.int .i64 4, .string ⟨#[]⟩, .int .i64 cf.chs.length, .int .i64 0] 101)).alloc (.cells #[.int .i64 3, .string ⟨#[102, 97, 105, 108]⟩, .int .i64 0, .int .i64 0] 101)).alloc (.cells #[.slice a1 n1 c1, .slice (some ⟨w4.heap.size, 0, none⟩) 1 1, .slice (some ⟨w4.heap.size + 1, 0, none⟩) 1 1] 56)) 101 partCells (.slice a1 n1 c1) A := Seen.below (Seen.kept (HAk.out _ (by repeat(first|exact bel0 _ _|refine bel1 ?_ (by simp<;>omega) _|refine bel2 ?_|refine bel3 ?_ _|refine bel4 ?_ (by simp<;>omega) _))) HR2.out (HQb.out _ (by repeat(first|exact bel0 _ _|refine bel1 ?_ (by simp<;>omega) _|refine bel2 ?_|refine bel3 ?_ _|refine bel4 ?_ (by simp<;>omega) _))).free.p) hbX
    have hXf := fun i => (World.frozen?_of_block (a := ⟨q, i, none⟩) (hbX.block q ml)).trans (mf i)
    have hXc := hQX.b.facts.2.1
    have HX3 : Hid _ := hX3
    have HY1 : Hid _ := hY1
    have HY2 : Hid _ := hY2
    have HA1 : Hid _ := hA1
    have HQX : Hid _ := hQX
    have HbX : Hid _ := hbX
    clear hX3 hY1 hY2 hA1 hQX hbX
    go_wp2_with fail
    go_ret
    rw [HN0.out]
    have hs := StIs.mk (S := ⟨[A, Rf.cutT cf.chs.length, Rf.failT], cf.now.terms, cf.now.fresh⟩) (SeenTs.mk ⟨[(⟨a1, n1, c1⟩, A), (⟨some ⟨w4.heap.size, 0, none⟩, 1, 1⟩, Rf.cutT cf.chs.length), (⟨some ⟨w4.heap.size + 1, 0, none⟩, 1, 1⟩, Rf.failT)], HX3.out, (fun y hy => by
     simp only [List.mem_cons, List.not_mem_nil, or_false] at hy
     rcases hy with rfl | rfl | rfl
     ·exact HA1.out
     ·exact HY1.out
     ·exact HY2.out), rfl⟩) HQX.out.s.t HQX.out.s.f
    refine ⟨rfl, ⟨some gA, (QIs.now HQX.out (kept_one _ _) (blk_set HQX.out.b 1 _) hs).at, ?_⟩, ?_⟩
    ·have hz1 := hb1.size
     rcases hnb3 with e | ⟨k, e, hk⟩
     ·exact .inl (e.trans HQ.out.o)
     ·exact .inr ⟨k, e, by simp at hk; omega⟩
    ·exact (((Kept.of_below (hb1.trans (Below.mono ((by repeat(first|exact bel0 _ _|refine bel1 ?_ (by simp<;>omega) _|refine bel2 ?_|refine bel3 ?_ _|refine bel4 ?_ (by simp<;>omega) _)) : Below w1.heap.size w1 _) hb1.size)) (May q rb)).trans HR2.out (fun _ _ h => h)).trans (Kept.of_below HbX.out (May q rb)) (fun _ _ h => h)).setCell (p := ⟨q, 1, none⟩) (.inr (.inl rfl)) _
  ·have HT1 : Hid (∀ X, Below w1.heap.size w1 X → SeenTs X (.slice (some ⟨g, off + 1, none⟩) (cf.now.goals.length - 1) (cg - 1)) cf.now.goals.tail) := fun X hX => ((HQ1.out.s.g.tail2 Hne.out) : SeenTs w1 (.slice (some ⟨g, off + 1, none⟩) (cf.now.goals.length - 1) (cg - 1)) cf.now.goals.tail).below hX
   go_region_law (refine step_app Tryz.elemCh chCells chCells_len chCells_one rfl (.tmp 35) (.tmp 38) rfl 0 (.slice ca cf.chs.length cc) (acc.map (·.1)) rfl (HRb.out _ (by repeat(first|exact bel0 _ _|refine bel1 ?_ (by simp<;>omega) _|refine bel2 ?_|refine bel3 ?_ _|refine bel4 ?_ (by simp<;>omega) _))) ⟨_, 0, none⟩ 1 ⟨⟨some ⟨g, off + 1, none⟩, cf.now.goals.length - 1, cg - 1⟩, ⟨ta, cf.now.terms.length, tc⟩, fr, ⟨none, 0, 0⟩⟩ rfl (cell_four_at _ _ (by simp) _ _ _ _ _) (by rw [List.length_map, hal]; omega) (Nat.zero_le _) ?_; intro gA capA w3 hrow3 hgr3 hnb3; rw [List.length_map, hal] at hrow3; obtain ⟨r1, r2, r3⟩ := QIs.push (HQb.out _ (by repeat(first|exact bel0 _ _|refine bel1 ?_ (by simp<;>omega) _|refine bel2 ?_|refine bel3 ?_ _|refine bel4 ?_ (by simp<;>omega) _))) (fun y hy => HAb.out y hy _ (by repeat(first|exact bel0 _ _|refine bel1 ?_ (by simp<;>omega) _|refine bel2 ?_|refine bel3 ?_ _|refine bel4 ?_ (by simp<;>omega) _))) HAM.out (c := ⟨⟨cf.now.goals.tail, cf.now.terms, cf.now.fresh⟩, []⟩) ⟨⟨HT1.out _ (by repeat(first|exact bel0 _ _|refine bel1 ?_ (by simp<;>omega) _|refine bel2 ?_|refine bel3 ?_ _|refine bel4 ?_ (by simp<;>omega) _)), HTt.out _ (by repeat(first|exact bel0 _ _|refine bel1 ?_ (by simp<;>omega) _|refine bel2 ?_|refine bel3 ?_ _|refine bel4 ?_ (by simp<;>omega) _)), HQ.out.s.f⟩, Seen.nil⟩ hrow3 hgr3; obtain ⟨m0, m1, m2, m3, m4, mf, ml⟩ := r3.facts; have HR1 : Hid _ := r1; have HR2 : Hid _ := r2; clear r1 r2 r3)
   all_goals
    generalize w3.setCell ⟨q, 4, none⟩ (.slice (some ⟨gA, 0, none⟩) (cf.chs.length + 1) capA) = w4 at *
    clear m0 m1 m2 m3 m4 mf ml l0 l1 l2 l3 l4 lf
    obtain ⟨m0, m1, m2, m3, m4, mf, ml⟩ := HR1.out.b.facts
    have hbX : Below w4.heap.size w4 (((w4.alloc (.cells #[.int .i64 4, .string ⟨#[]⟩, .int .i64 cf.chs.length, .int .i64 0] 101)).alloc (.cells #[.int .i64 3, .string ⟨#[102, 97, 105, 108]⟩, .int .i64 0, .int .i64 0] 101)).alloc (.cells #[.slice a1 n1 c1, .slice (some ⟨w4.heap.size, 0, none⟩) 1 1, .slice (some ⟨w4.heap.size + 1, 0, none⟩) 1 1] 56)) := (by repeat(first|exact bel0 _ _|refine bel1 ?_ (by simp<;>omega) _|refine bel2 ?_|refine bel3 ?_ _|refine bel4 ?_ (by simp<;>omega) _))
    have hQX := HR1.out.below hbX
    have hX3 : Seen (((w4.alloc (.cells #[.int .i64 4, .string ⟨#[]⟩, .int .i64 cf.chs.length, .int .i64 0] 101)).alloc (.cells #[.int .i64 3, .string ⟨#[102, 97, 105, 108]⟩, .int .i64 0, .int .i64 0] 101)).alloc (.cells #[.slice a1 n1 c1, .slice (some ⟨w4.heap.size, 0, none⟩) 1 1, .slice (some ⟨w4.heap.size + 1, 0, none⟩) 1 1] 56)) 56 slCells (.slice (some ⟨w4.heap.size + 1 + 1, 0, none⟩) 3 3) [⟨a1, n1, c1⟩, ⟨some ⟨w4.heap.size, 0, none⟩, 1, 1⟩, ⟨some ⟨w4.heap.size + 1, 0, none⟩, 1, 1⟩] := Seen.three (x := ⟨a1, n1, c1⟩) (y := ⟨some ⟨w4.heap.size, 0, none⟩, 1, 1⟩) (z := ⟨some ⟨w4.heap.size + 1, 0, none⟩, 1, 1⟩) (blk_at _ _ _ (by simp))
    have hY1 : Seen (((w4.alloc (.cells #[.int .i64 4, .string ⟨#[]⟩, .int .i64 cf.chs.length, .int .i64 0] 101)).alloc (.cells #[.int .i64 3, .string ⟨#[102, 97, 105, 108]⟩, .int .i64 0, .int .i64 0] 101)).alloc (.cells #[.slice a1 n1 c1, .slice (some ⟨w4.heap.size, 0, none⟩) 1 1, .slice (some ⟨w4.heap.size + 1, 0, none⟩) 1 1] 56)) 101 partCells (.slice (some ⟨w4.heap.size, 0, none⟩) 1 1) (Rf.cutT cf.chs.length) := Seen.one (p := ⟨4, ⟨#[]⟩, cf.chs.length, 0⟩) (blk_alloc (blk_alloc (blk_new w4 _) _) _)
    have hY2 : Seen (((w4.alloc (.cells #[.int .i64 4, .string ⟨#[]⟩, .int .i64 cf.chs.length, .int .i64 0] 101)).alloc (.cells #[.int .i64 3, .string ⟨#[102, 97, 105, 108]⟩, .int .i64 0, .int .i64 0] 101)).alloc (.cells #[.slice a1 n1 c1, .slice (some ⟨w4.heap.size, 0, none⟩) 1 1, .slice (some ⟨w4.heap.size + 1, 0, none⟩) 1 1] 56)) 101 partCells (.slice (some ⟨w4.heap.size + 1, 0, none⟩) 1 1) Rf.failT := Seen.one (p := ⟨3, Rf.failB, 0, 0⟩) (blk_alloc (blk_at _ _ _ (by simp)) _)
    have hA1 : Seen (((w4.alloc (.cells #[.int .i64 4, .string ⟨#[]⟩, .int .i64 cf.chs.length, .int .i64 0] 101)).alloc (.cells #[.int .i64 3, .string ⟨#[102, 97, 105, 108]⟩, .int .i64 0, .int .i64 0] 101)).alloc (.cells #[.slice a1 n1 c1, .slice (some ⟨w4.heap.size, 0, none⟩) 1 1, .slice (some ⟨w4.heap.size + 1, 0, none⟩) 1 1] 56)) 101 partCells (.slice a1 n1 c1) A := Seen.below (Seen.kept (HAk.out _ (by repeat(first|exact bel0 _ _|refine bel1 ?_ (by simp<;>omega) _|refine bel2 ?_|refine bel3 ?_ _|refine bel4 ?_ (by simp<;>omega) _))) HR2.out (HQb.out _ (by repeat(first|exact bel0 _ _|refine bel1 ?_ (by simp<;>omega) _|refine bel2 ?_|refine bel3 ?_ _|refine bel4 ?_ (by simp<;>omega) _))).free.p) hbX
    have hXf := fun i => (World.frozen?_of_block (a := ⟨q, i, none⟩) (hbX.block q ml)).trans (mf i)
    have hXc := hQX.b.facts.2.1
    have HX3 : Hid _ := hX3
    have HY1 : Hid _ := hY1
    have HY2 : Hid _ := hY2
    have HA1 : Hid _ := hA1
    have HQX : Hid _ := hQX
    have HbX : Hid _ := hbX
    clear hX3 hY1 hY2 hA1 hQX hbX
    go_wp2_with fail
    go_ret
    rw [HN0.out]
    have hs := StIs.mk (S := ⟨[A, Rf.cutT cf.chs.length, Rf.failT], cf.now.terms, cf.now.fresh⟩) (SeenTs.mk ⟨[(⟨a1, n1, c1⟩, A), (⟨some ⟨w4.heap.size, 0, none⟩, 1, 1⟩, Rf.cutT cf.chs.length), (⟨some ⟨w4.heap.size + 1, 0, none⟩, 1, 1⟩, Rf.failT)], HX3.out, (fun y hy => by
     simp only [List.mem_cons, List.not_mem_nil, or_false] at hy
     rcases hy with rfl | rfl | rfl
     ·exact HA1.out
     ·exact HY1.out
     ·exact HY2.out), rfl⟩) HQX.out.s.t HQX.out.s.f
    refine ⟨rfl, ⟨some gA, (QIs.now HQX.out (kept_one _ _) (blk_set HQX.out.b 1 _) hs).at, ?_⟩, ?_⟩
    ·have hz1 := hb1.size
     rcases hnb3 with e | ⟨k, e, hk⟩
     ·exact .inl (e.trans HQ.out.o)
     ·exact .inr ⟨k, e, by simp at hk; omega⟩
    ·exact (((Kept.of_below (hb1.trans (Below.mono ((by repeat(first|exact bel0 _ _|refine bel1 ?_ (by simp<;>omega) _|refine bel2 ?_|refine bel3 ?_ _|refine bel4 ?_ (by simp<;>omega) _)) : Below w1.heap.size w1 _) hb1.size)) (May q rb)).trans HR2.out (fun _ _ h => h)).trans (Kept.of_below HbX.out (May q rb)) (fun _ _ h => h)).setCell (p := ⟨q, 1, none⟩) (.inr (.inl rfl)) _
end Go.Proofs.YtbiojnljihgpoaaGreatDoor
namespace Rf
theorem nameGoal_3 {x : List Part × Ldr} (h : ((topP x.1).kind != 3) = false) : nameGoal x = x := by
 unfold nameGoal
 rw [if_pos (by simpa using h)]
theorem nameGoal_no {x : List Part × Ldr} (h : ((topP x.1).kind != 3) = true) : nameGoal x = (x.1, ⟨refuse, x.2.fresh, x.2.height⟩) := by
 unfold nameGoal
 rw [if_neg (by simpa using h)]
end Rf
namespace Go.Proofs.YtbiojnljihgpoaaGreatDoor
open Go.RowKit
theorem LdAt.height {w : World} {lb b : Nat} {L : Rf.Ldr} (h : LdAt w lb b L) (m : Nat) : LdAt (w.setCell ⟨lb, 2, none⟩ (.int .i64 m)) lb b ⟨L.r, L.fresh, m⟩ := by
 have := blk_set h.l 2 (.int .i64 (m : Int))
 exact ⟨by simpa [LdB] using this, h.r.kept ((Kept.refl (fun k => k = lb) w).setCell (p := ⟨lb, 2, none⟩) (.inr rfl) _) (fun e => h.ne e.symm), h.ok⟩
set_option maxHeartbeats 1000000 in
set_option maxRecDepth 100000 in
theorem pgoalL_any (w : World) (lb b : Nat) (L : Rf.Ldr) (h : LdAt w lb b L) (hf : L.fresh ≤ 900000000) (hh : L.height ≤ 900000000) :
  Calls Tryz.prog 99 #[.pointer (some ⟨lb, 0, none⟩)] w fun x w' => ∃ a n c, x = .returned (.slice a n c) ∧ Seen w' 101 partCells (.slice a n c) (Rf.goalL L).1 ∧ LdAt w' lb b (Rf.goalL L).2 ∧ Kept (LdM lb b) w w' := by
 obtain ⟨q0, q1, q2, qf, ql⟩ := h.l.facts
 have H : Hid _ := h
 have hn0 := Rf.numL_le (L.height + 1) L.r
 obtain ⟨n, hn⟩ : ∃ n, Hid (n = (Rf.numL (L.height + 1) L.r).1) := ⟨_, rfl⟩
 obtain ⟨R, hR⟩ : ∃ R, Hid (R = (Rf.numL (L.height + 1) L.r).2) := ⟨_, rfl⟩
 have HO : Hid (Rf.RdrOk R) := by unfold Hid; rw [hR.out]; exact Rf.numL_ok _ _
 rw [← hn.out] at hn0
 obtain ⟨M, hM⟩ : ∃ M, Hid (M = L.height + 1) := ⟨_, rfl⟩
 have hMb : M ≤ 900000001 := by have := hM.out; omega
 have hwr : IntKind.i64.wrap (M : Int) = (M : Int) := wrap_in (by omega) (by omega)
 have hcs : (L.height : Int) + 1 = (M : Int) := by rw [hM.out]; omega
 have hN : Hid (Rf.goalL L = if 0 < n then (Rf.cutT ((n - 1 : Nat) : Int), ⟨R, L.fresh, n - 1⟩) else Rf.nameGoal (Rf.termL 202 1 [] ⟨R, L.fresh, L.height⟩)) := by unfold Hid Rf.goalL; rw [← hn.out, ← hR.out]
 clear h
 by_cases c0 : 0 < n
 ·rw [if_pos c0] at hN
  obtain ⟨m, hm⟩ : ∃ m : Nat, Hid (n - 1 = m) := ⟨_, rfl⟩
  rw [hm.out] at hN
  have hm1 : (n : Int) - 1 = (m : Int) := by have := hm.out; omega
  have c0i : (0 : Int) < n := by omega
  go_enter Tryz.func99, Tryz.ntmps99
  go_wp2_with fail
  go_region_with (go_at_call 40; refine (pnumL_any _ b L.r M (H.out.r.below (by repeat(first|exact bel0 _ _|refine bel1 ?_ (by simp<;>omega) _|refine bel2 ?_|refine bel3 ?_ _|refine bel4 ?_ (by simp<;>omega) _))) H.out.ok (by omega)).mono ?_; rintro x w1 ⟨hx1, hR1, hk1⟩; rw [hM.out] at hx1 hR1; rw [← hn.out] at hx1; subst hx1; rw [← hR.out] at hR1)
  all_goals
   have HL1 : Hid _ := LdAt.go (H.out.below (by repeat(first|exact bel0 _ _|refine bel1 ?_ (by simp<;>omega) _|refine bel2 ?_|refine bel3 ?_ _|refine bel4 ?_ (by simp<;>omega) _))) hk1 hR1 HO.out
   obtain ⟨p0, p1, p2, pf, pl⟩ := HL1.out.l.facts
   simp only at p0 p1 p2
   have HK1 : Hid (Kept (LdM lb b) w w1) := Kept.trans (M' := LdM lb b) (by repeat' (first | exact Kept.refl _ _ | refine Kept.setCell ?_ ?_ _ | refine Kept.drew ?_ | refine Kept.drewN ?_ _ | refine Kept.alloc ?_ _ | exact Or.inr rfl | exact Or.inr (Or.inl rfl) | (refine Or.inl ?_; simp; done) | (refine Or.inl ?_; simp; omega))) (LdM.of hk1) (fun _ _ e => e)
   clear hk1 hwr hcs
   go_wp2_with fail
   go_ret
   rw [hN.out]
   have e1 := LdAt.height HL1.out m
   have e2 : LdAt ((w1.setCell ⟨lb, 2, none⟩ (.int .i64 m)).alloc (.cells #[.int .i64 4, .string ⟨#[]⟩, .int .i64 m, .int .i64 0] 101)) lb b ⟨R, L.fresh, m⟩ := e1.below (by repeat(first|exact bel0 _ _|refine bel1 ?_ (by simp<;>omega) _|refine bel2 ?_|refine bel3 ?_ _|refine bel4 ?_ (by simp<;>omega) _))
   exact ⟨_, _, _, rfl, Seen.one (p := ⟨4, ⟨#[]⟩, m, 0⟩) (blk_at _ _ _ (by simp)), e2, (HK1.out.setCell (p := ⟨lb, 2, none⟩) (.inr (.inr rfl)) _).alloc _⟩
 ·rw [if_neg c0] at hN
  obtain ⟨T, hT⟩ : ∃ T, Hid (T = Rf.termL 202 1 [] ⟨R, L.fresh, L.height⟩) := ⟨_, rfl⟩
  rw [← hT.out] at hN
  have hn00 : n = 0 := by omega
  subst hn00
  have hfd : ∀ w : World, _ := fun w => part_kind (Rf.topP T.1).kind (Rf.topP T.1).name (Rf.topP T.1).value (Rf.topP T.1).args w
  cases hk3 : ((Rf.topP T.1).kind != 3)
  ·rw [Rf.nameGoal_3 hk3] at hN
   go_enter Tryz.func99, Tryz.ntmps99
   go_wp2_with fail
   go_region_with (go_at_call 40; refine (pnumL_any _ b L.r M (H.out.r.below (by repeat(first|exact bel0 _ _|refine bel1 ?_ (by simp<;>omega) _|refine bel2 ?_|refine bel3 ?_ _|refine bel4 ?_ (by simp<;>omega) _))) H.out.ok (by omega)).mono ?_; rintro x w1 ⟨hx1, hR1, hk1⟩; rw [hM.out] at hx1 hR1; rw [← hn.out] at hx1; subst hx1; rw [← hR.out] at hR1)
   all_goals
    have HL1 : Hid _ := LdAt.go (H.out.below (by repeat(first|exact bel0 _ _|refine bel1 ?_ (by simp<;>omega) _|refine bel2 ?_|refine bel3 ?_ _|refine bel4 ?_ (by simp<;>omega) _))) hk1 hR1 HO.out
    have HK1 : Hid (Kept (LdM lb b) w w1) := Kept.trans (M' := LdM lb b) (by repeat' (first | exact Kept.refl _ _ | refine Kept.setCell ?_ ?_ _ | refine Kept.drew ?_ | refine Kept.drewN ?_ _ | refine Kept.alloc ?_ _ | exact Or.inr rfl | exact Or.inr (Or.inl rfl) | (refine Or.inl ?_; simp; done) | (refine Or.inl ?_; simp; omega))) (LdM.of hk1) (fun _ _ e => e)
    clear hk1 hwr hcs
    go_wp2_with (first
     | (go_at_call 71; refine (ptopA_any ta tn tc T.1 _ HS2.out).mono ?_; rintro x w3 ⟨rfl, hb3⟩; have HL3 : Hid _ := HL2.out.below hb3; have HS3 : Hid _ := HS2.out.below hb3; have HK3 : Hid (Kept (LdM lb b) w w3) := HK2.out.trans (Kept.of_below hb3 (LdM lb b)) (fun _ _ e => e); obtain ⟨r0, r1, r2, rf, rl⟩ := HL3.out.l.facts; clear hb3)
     | (go_at_call 100; refine (ptermL_any _ lb b _ HL1.out hf).mono ?_; rintro x w2 ⟨ta, tn, tc, rfl, hS2, hL2, hk2⟩; rw [← hT.out] at hS2 hL2; have HL2 : Hid _ := hL2; have HS2 : Hid _ := hS2; have HK2 : Hid (Kept (LdM lb b) w w2) := HK1.out.trans hk2 (fun _ _ e => e); clear hL2 hS2 hk2))
    go_ret
    rw [hN.out]
    exact ⟨_, _, _, rfl, HS3.out, HL3.out, HK3.out⟩
  ·rw [Rf.nameGoal_no hk3] at hN
   go_enter Tryz.func99, Tryz.ntmps99
   go_wp2_with fail
   go_region_with (go_at_call 40; refine (pnumL_any _ b L.r M (H.out.r.below (by repeat(first|exact bel0 _ _|refine bel1 ?_ (by simp<;>omega) _|refine bel2 ?_|refine bel3 ?_ _|refine bel4 ?_ (by simp<;>omega) _))) H.out.ok (by omega)).mono ?_; rintro x w1 ⟨hx1, hR1, hk1⟩; rw [hM.out] at hx1 hR1; rw [← hn.out] at hx1; subst hx1; rw [← hR.out] at hR1)
   all_goals
    have HL1 : Hid _ := LdAt.go (H.out.below (by repeat(first|exact bel0 _ _|refine bel1 ?_ (by simp<;>omega) _|refine bel2 ?_|refine bel3 ?_ _|refine bel4 ?_ (by simp<;>omega) _))) hk1 hR1 HO.out
    have HK1 : Hid (Kept (LdM lb b) w w1) := Kept.trans (M' := LdM lb b) (by repeat' (first | exact Kept.refl _ _ | refine Kept.setCell ?_ ?_ _ | refine Kept.drew ?_ | refine Kept.drewN ?_ _ | refine Kept.alloc ?_ _ | exact Or.inr rfl | exact Or.inr (Or.inl rfl) | (refine Or.inl ?_; simp; done) | (refine Or.inl ?_; simp; omega))) (LdM.of hk1) (fun _ _ e => e)
    clear hk1 hwr hcs
    go_wp2_with (first
     | (go_at_call 57; refine (prefuse_any _ b T.2.r HL3.out.r).mono ?_; rintro x w4 ⟨rfl, hR4, hk4⟩; have HL4 : Hid _ := LdAt.go HL3.out hk4 hR4 Rf.refuse_ok; have HK4 : Hid (Kept (LdM lb b) w w4) := HK3.out.trans (LdM.of hk4) (fun _ _ e => e); have HS4 : Hid _ := HS3.out.kept (LdM.of (lb := lb) hk4) (LdM.free HL3.out).p; clear hk4 hR4)
     | (go_at_call 71; refine (ptopA_any ta tn tc T.1 _ HS2.out).mono ?_; rintro x w3 ⟨rfl, hb3⟩; have HL3 : Hid _ := HL2.out.below hb3; have HS3 : Hid _ := HS2.out.below hb3; have HK3 : Hid (Kept (LdM lb b) w w3) := HK2.out.trans (Kept.of_below hb3 (LdM lb b)) (fun _ _ e => e); obtain ⟨r0, r1, r2, rf, rl⟩ := HL3.out.l.facts; clear hb3)
     | (go_at_call 100; refine (ptermL_any _ lb b _ HL1.out hf).mono ?_; rintro x w2 ⟨ta, tn, tc, rfl, hS2, hL2, hk2⟩; rw [← hT.out] at hS2 hL2; have HL2 : Hid _ := hL2; have HS2 : Hid _ := hS2; have HK2 : Hid (Kept (LdM lb b) w w2) := HK1.out.trans hk2 (fun _ _ e => e); clear hL2 hS2 hk2))
    go_ret
    rw [hN.out]
    exact ⟨_, _, _, rfl, HS4.out, HL4.out, HK4.out⟩
end Go.Proofs.YtbiojnljihgpoaaGreatDoor
