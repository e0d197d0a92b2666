/- The program's question (play: equal, less, plus, not): the plain functions' answers. -/
import Derived.Test.YtpdikdnffehmkaaDoorYaq
namespace Go.Proofs.YtpdikdnffehmkaaDoor
open Go.RowKit
theorem equalE_good {N : Nat} {F : Int} {cf : Rf.Cf} {a b : List Rf.Part} (h : Rf.StG N F cf.now) (hN : N ≤ 9000) (ha : a.length ≤ 400) (hb : b.length ≤ 400) (ha4 : Rf.ArgsOk a) (hb4 : Rf.ArgsOk b) : EqGood (Rf.equalE cf a b) := by
  refine ⟨⟨ha, hb, ⟨by simp [Rf.equalE], by intro t ht; cases ht⟩, ⟨?_, ?_⟩, ⟨?_, ?_⟩⟩, ha4, hb4⟩
  · have := h.gl; simp only [Rf.equalE, List.length_tail]; omega
  · intro t ht; exact (h.g t (List.mem_of_mem_tail ht)).1
  · have := h.tl; simp only [Rf.equalE]; omega
  · intro t ht; exact (h.t t ht).1
set_option maxHeartbeats 1000000 in
set_option maxRecDepth 100000 in
theorem pequal_any (w : World) (q : Nat) (rb : Option Nat) (names : List ByteArray) (cf : Rf.Cf) (a1 : Option Addr) (n1 c1 : Nat) (A : List Rf.Part) (a2 : Option Addr) (n2 c2 : Nat) (B : List Rf.Part) (N : Nat) (F : Int) (h : QAt w q rb names cf) (hA : Seen w 65 partCells (.slice a1 n1 c1) A) (hB : Seen w 65 partCells (.slice a2 n2 c2) B) (hG : Rf.StG N F cf.now) (hN : N ≤ 9000) (hne : cf.now.goals ≠ []) (hAl : A.length ≤ 400) (hBl : B.length ≤ 400) (hA4 : Rf.ArgsOk A) (hB4 : Rf.ArgsOk B) :
    Calls Tryd.prog 74 #[.pointer (some ⟨q, 0, none⟩), .slice a1 n1 c1, .slice a2 n2 c2] w fun r w' => r = .returned (.int .i64 (Rf.equalP cf A B).1) ∧ QAt w' q rb names (Rf.equalP cf A B).2 ∧ Kept (May q rb) w w' := by
  obtain ⟨vN, vg, vt, fr, vC, hQ⟩ := h.ex
  obtain ⟨k0, k1, k2, k3, k4, kf, kl⟩ := hQ.b.facts
  obtain ⟨ag, cg, rfl⟩ := hQ.s.g.slice
  obtain ⟨g, off, rfl, hgl, _, hp1, hp2⟩ := hQ.s.g.pos hne
  obtain ⟨ta, tc, rfl⟩ := hQ.s.t.slice
  have HQ : Hid _ := hQ
  have HA : Hid _ := hA
  have HB : Hid _ := hB
  have HG : Hid _ := equalE_good hG hN hAl hBl hA4 hB4
  have Hne : Hid _ := hne
  clear h hQ hA hB hG hne hA4 hB4
  go_enter Tryd.func74, Tryd.ntmps74
  go_wp2_with fail
  have Ht1 : Hid (cg = 1 → SeenTs w (.slice (some ⟨g, off, none⟩) (cf.now.goals.length - 1) 0) cf.now.goals.tail) := fun hc => HQ.out.s.g.tail1 hc
  have Ht2 : Hid (SeenTs w (.slice (some ⟨g, off + 1, none⟩) (cf.now.goals.length - 1) (cg - 1)) cf.now.goals.tail) := HQ.out.s.g.tail2 Hne.out
  go_cut [7] from 9 to 38 (fun pv wx => ∃ (e : Nat) (vr : Value), pv = .pointer (some ⟨e, 0, none⟩) ∧ w.heap.size ≤ e ∧ EqB wx e (.slice a1 n1 c1) (.slice a2 n2 c2) (.slice none 0 0) vr (.slice ta cf.now.terms.length tc) ∧ SeenTs wx vr cf.now.goals.tail ∧ Below w.heap.size w wx)
  case first =>
    by_cases hcc : cg = 1
    · go_region
      go_wp2_with fail
      go_meet
      exact ⟨_, _, rfl, by omega, blk_at _ _ _ (by simp), (Ht1.out hcc).below (by repeat (first | exact Below.refl _ _ | refine Below.setCell ?_ (by simp <;> omega) _ | refine Below.drew ?_ | refine Below.drewN ?_ _ | refine Below.alloc ?_ (by simp <;> omega) _)), (by repeat (first | exact Below.refl _ _ | refine Below.setCell ?_ (by simp <;> omega) _ | refine Below.drew ?_ | refine Below.drewN ?_ _ | refine Below.alloc ?_ (by simp <;> omega) _))⟩
    · go_region
      go_wp2_with fail
      go_meet
      exact ⟨_, _, rfl, by omega, blk_at _ _ _ (by simp), Ht2.out.below (by repeat (first | exact Below.refl _ _ | refine Below.setCell ?_ (by simp <;> omega) _ | refine Below.drew ?_ | refine Below.drewN ?_ _ | refine Below.alloc ?_ (by simp <;> omega) _)), (by repeat (first | exact Below.refl _ _ | refine Below.setCell ?_ (by simp <;> omega) _ | refine Below.drew ?_ | refine Below.drewN ?_ _ | refine Below.alloc ?_ (by simp <;> omega) _))⟩
  case rest =>
    obtain ⟨e, vr, rfl, he, hEB, hvr, hbc⟩ := hcut
    have hE : EqIs wc (.slice a1 n1 c1) (.slice a2 n2 c2) (.slice none 0 0) vr (.slice ta cf.now.terms.length tc) (Rf.equalE cf A B) := ⟨HA.out.below hbc, HB.out.below hbc, SeenTs.nil _, hvr, HQ.out.s.t.below hbc⟩
    have HE : Hid (EqAt wc e (Rf.equalE cf A B)) := ⟨_, _, _, _, _, hEB, hE⟩
    have hQc := HQ.out.below hbc
    have HQc : Hid _ := hQc
    have hqe : ¬ q = e := by omega
    have hUE : Hid (Rf.equalP cf A B = ((Rf.solveE (Rf.equalE cf A B)).1, if (Rf.solveE (Rf.equalE cf A B)).1 = 0 then ⟨⟨(Rf.solveE (Rf.equalE cf A B)).2.behind, (Rf.solveE (Rf.equalE cf A B)).2.terms, cf.now.fresh⟩, cf.chs⟩ else cf)) := rfl
    obtain ⟨o, ho⟩ : ∃ o, Hid ((Rf.solveE (Rf.equalE cf A B)).1 = o) := ⟨_, rfl⟩
    rw [ho.out] at hUE
    clear hE hEB hvr hQc Ht1 Ht2 k0 k1 k2 k3 k4 kf
    by_cases h0 : o = 0
    · subst h0
      have hU0 : Hid (Rf.equalP cf A B = (0, ⟨⟨(Rf.solveE (Rf.equalE cf A B)).2.behind, (Rf.solveE (Rf.equalE cf A B)).2.terms, cf.now.fresh⟩, cf.chs⟩)) := hUE.out
      clear hUE
      go_wp2_with (go_at_call 84; refine (psolve_any _ e _ HE.out HG.out).mono ?_; rintro r w2 ⟨rfl, hk2, hA2⟩; obtain ⟨vf, vs, vb, vh, vt, hB2, hE2⟩ := (hA2 ho.out).ex; obtain ⟨a6, c6, rfl⟩ := hE2.h.slice; obtain ⟨a7, c7, rfl⟩ := hE2.t.slice; obtain ⟨l0, l1, l2, l3, l4, lf, ll⟩ := hB2.facts; have hbe : Below w.heap.size w w2 := hbc.trans (hk2.below hbc.size (fun k hk e => by omega)); have hQ2 := HQ.out.below hbe; obtain ⟨m0, m1, m2, m3, m4, mf, ml⟩ := hQ2.b.facts; rw [ho.out])
      go_ret
      rw [hU0.out]
      have hs2 : StIs w2 (.slice a6 _ c6) (.slice a7 _ c7) fr ⟨(Rf.solveE (Rf.equalE cf A B)).2.behind, (Rf.solveE (Rf.equalE cf A B)).2.terms, cf.now.fresh⟩ := ⟨hE2.h, hE2.t, HQ.out.s.f⟩
      refine ⟨rfl, (QIs.now hQ2 (((Kept.refl (fun k => k = q) w2).setCell (p := ⟨q, 1, none⟩) (.inr rfl) _).setCell (p := ⟨q, 2, none⟩) (.inr rfl) _) (blk_set (blk_set hQ2.b 1 _) 2 _) hs2).at, ?_⟩
      exact ((Kept.of_below hbe (May q rb)).trans (((Kept.refl (May q rb) w2).setCell (p := ⟨q, 1, none⟩) (.inr (.inl rfl)) _).setCell (p := ⟨q, 2, none⟩) (.inr (.inl rfl)) _) (fun _ _ h => h))
    · have h0' : (o == 0) = false := beq_eq_false_iff_ne.2 h0
      go_wp2_with (go_at_call 84; refine (psolve_any _ e _ HE.out HG.out).mono ?_; rintro r w2 ⟨rfl, hk2, hA2⟩; rw [ho.out])
      go_ret
      rw [hUE.out, if_neg h0]
      have hbe : Below w.heap.size w w2 := hbc.trans (hk2.below hbc.size (fun k hk e => by omega))
      exact ⟨rfl, (HQ.out.below hbe).at, Kept.of_below hbe _⟩
set_option maxHeartbeats 1000000 in
set_option maxRecDepth 100000 in
theorem pless_any (w : World) (q : Nat) (rb : Option Nat) (names : List ByteArray) (cf : Rf.Cf) (a1 : Option Addr) (n1 c1 : Nat) (A : List Rf.Part) (h : QAt w q rb names cf) (hA : Seen w 65 partCells (.slice a1 n1 c1) A) (hne : cf.now.goals ≠ []) (hAl : A.length ≤ 400) (hA4 : Rf.ArgsOk A) :
    Calls Tryd.prog 76 #[.pointer (some ⟨q, 0, none⟩), .slice a1 n1 c1] w fun r w' => r = .returned (.int .i64 (Rf.lessP cf A).1) ∧ QAt w' q rb names (Rf.lessP cf A).2 ∧ Kept (May q rb) w w' := by
  have HQ : Hid _ := h
  have HA : Hid _ := hA
  have HA4 : Hid (Rf.ArgsOk A) := hA4
  have Hne : Hid _ := hne
  obtain ⟨o, ho⟩ : ∃ o, Hid (Rf.numbersK A = o) := ⟨_, rfl⟩
  have HL : Hid (Rf.lessP cf A = if o = 0 then (if Rf.num0 A < Rf.num1 A then Rf.meetP cf else (-1, cf)) else (o, cf)) := by unfold Hid Rf.lessP; rw [ho.out]
  clear h hA hne hA4
  by_cases h0 : o = 0
  · subst h0
    by_cases hlt : Rf.num0 A < Rf.num1 A
    · have HL0 : Hid (Rf.lessP cf A = Rf.meetP cf) := by unfold Hid; rw [HL.out, if_pos rfl, if_pos hlt]
      have hge : ¬ Rf.num1 A ≤ Rf.num0 A := by omega
      clear HL
      go_enter Tryd.func76, Tryd.ntmps76
      go_wp2_with (first
        | (go_at_call 87; refine (pnumbers_any a1 n1 c1 A _ HA.out HA4.out hAl).mono ?_; rintro r w1 ⟨x, y, rfl, hxy, hb1⟩; obtain ⟨rfl, rfl⟩ := hxy ho.out; rw [ho.out])
        | (go_at_call 73; refine (pmeet_any _ q rb names cf (HQ.out.below hb1) Hne.out).mono ?_; rintro r w2 ⟨rfl, hQ2, hk2⟩))
      go_ret
      rw [HL0.out]
      exact ⟨rfl, hQ2, (Kept.of_below hb1 _).trans hk2 (fun _ _ h => h)⟩
    · have HL0 : Hid (Rf.lessP cf A = (-1, cf)) := by unfold Hid; rw [HL.out, if_pos rfl, if_neg hlt]
      have hge : Rf.num1 A ≤ Rf.num0 A := by omega
      clear HL
      go_enter Tryd.func76, Tryd.ntmps76
      go_wp2_with (go_at_call 87; refine (pnumbers_any a1 n1 c1 A _ HA.out HA4.out hAl).mono ?_; rintro r w1 ⟨x, y, rfl, hxy, hb1⟩; obtain ⟨rfl, rfl⟩ := hxy ho.out; rw [ho.out])
      go_ret
      rw [HL0.out]
      exact ⟨rfl, HQ.out.below hb1, Kept.of_below hb1 _⟩
  · have h0' : (o != 0) = true := bne_iff_ne.2 h0
    go_enter Tryd.func76, Tryd.ntmps76
    go_wp2_with (go_at_call 87; refine (pnumbers_any a1 n1 c1 A _ HA.out HA4.out hAl).mono ?_; rintro r w1 ⟨x, y, rfl, hxy, hb1⟩; rw [ho.out])
    go_ret
    rw [HL.out, if_neg h0]
    exact ⟨rfl, HQ.out.below hb1, Kept.of_below hb1 _⟩
end Go.Proofs.YtpdikdnffehmkaaDoor
/- The program's question (play: plus, not): the plain functions' answers. -/
namespace Rf
theorem num_bd {f : Int} {A : List Part} (h : ∀ p ∈ A, PartG f p) (i : Nat) (hk : numberK (topP (argT A i)) = 0) : -999999999 ≤ (topP (argT A i)).value ∧ (topP (argT A i)).value ≤ 999999999 := by
  have h2 : (topP (argT A i)).kind = 2 := by
    unfold numberK at hk
    split at hk
    · cases hk
    · split at hk
      · assumption
      · cases hk
  cases ha : argT A i with
  | nil => rw [ha] at h2; exact absurd h2 (by decide)
  | cons p t =>
    rw [ha] at h2
    have hm := (argT_sub A i).2 p (by rw [ha]; simp)
    exact (h p hm).2.2.1 h2
theorem nums_bd {f : Int} {A : List Part} (h : ∀ p ∈ A, PartG f p) (hk : numbersK A = 0) : (-999999999 ≤ num0 A ∧ num0 A ≤ 999999999) ∧ (-999999999 ≤ num1 A ∧ num1 A ≤ 999999999) := by
  have h0 : numberK (topP (argT A 0)) = 0 := by
    unfold numbersK at hk
    split at hk
    · assumption
    · exact hk
  have h1 : numberK (topP (argT A 1)) = 0 := by
    unfold numbersK at hk
    rw [if_pos h0] at hk; exact hk
  exact ⟨num_bd h 0 h0, num_bd h 1 h1⟩
end Rf
namespace Go.Proofs.YtpdikdnffehmkaaDoor
open Go.RowKit
theorem argsOk_arg {A : List Rf.Part} (h : Rf.ArgsOk A) (i : Nat) : Rf.ArgsOk (Rf.argT A i) := fun p hp => h p ((Rf.argT_sub A i).2 p hp)
theorem Seen.one {w : World} {N : Nat} {p : Rf.Part} (h : w.heap[N]? = some (.cells #[.int .i64 p.kind, .string p.name, .int .i64 p.value, .int .i64 p.args] 65 (0, 0))) : Seen w 65 partCells (.slice (some ⟨N, 0, none⟩) 1 1) [p] := (row_new (C := partCells) (x := p) (base := 0) (size := 4) h rfl rfl (Nat.zero_le _)).seen
set_option maxHeartbeats 1000000 in
set_option maxRecDepth 100000 in
theorem pplus_any (w : World) (q : Nat) (rb : Option Nat) (names : List ByteArray) (cf : Rf.Cf) (a1 : Option Addr) (n1 c1 : Nat) (A : List Rf.Part) (N : Nat) (F : Int) (h : QAt w q rb names cf) (hA : Seen w 65 partCells (.slice a1 n1 c1) A) (hG : Rf.StG N F cf.now) (hN : N ≤ 9000) (hne : cf.now.goals ≠ []) (hAl : A.length ≤ 400) (hAG : ∀ p ∈ A, Rf.PartG cf.now.fresh p) :
    Calls Tryd.prog 77 #[.pointer (some ⟨q, 0, none⟩), .slice a1 n1 c1] w fun r w' => r = .returned (.int .i64 (Rf.plusP cf A).1) ∧ QAt w' q rb names (Rf.plusP cf A).2 ∧ Kept (May q rb) w w' := by
  have HQ : Hid _ := h
  have HA : Hid _ := hA
  have HA4 : Hid (Rf.ArgsOk A) := fun p hp => (hAG p hp).1
  have HG : Hid _ := hG
  have Hne : Hid _ := hne
  obtain ⟨o, ho⟩ : ∃ o, Hid (Rf.numbersK A = o) := ⟨_, rfl⟩
  have HL : Hid (Rf.plusP cf A = if o = 0 then (if Rf.num0 A + Rf.num1 A < -999999999 ∨ 999999999 < Rf.num0 A + Rf.num1 A then (11, cf) else Rf.equalP cf (Rf.numT (Rf.num0 A + Rf.num1 A)) (Rf.argT A 2)) else (o, cf)) := by unfold Hid Rf.plusP; rw [ho.out]
  have HB : Hid (o = 0 → (-999999999 ≤ Rf.num0 A ∧ Rf.num0 A ≤ 999999999) ∧ (-999999999 ≤ Rf.num1 A ∧ Rf.num1 A ≤ 999999999)) := fun e => Rf.nums_bd hAG (ho.out.trans e)
  clear h hA hne hAG hG
  by_cases h0 : o = 0
  · subst h0
    obtain ⟨⟨b1, b2⟩, ⟨b3, b4⟩⟩ := HB.out rfl
    obtain ⟨n0, hn0⟩ : ∃ n, Hid (Rf.num0 A = n) := ⟨_, rfl⟩
    obtain ⟨m0, hm0⟩ : ∃ n, Hid (Rf.num1 A = n) := ⟨_, rfl⟩
    have HL1 : Hid (Rf.plusP cf A = if n0 + m0 < -999999999 ∨ 999999999 < n0 + m0 then (11, cf) else Rf.equalP cf (Rf.numT (n0 + m0)) (Rf.argT A 2)) := by unfold Hid; rw [HL.out, if_pos rfl, hn0.out, hm0.out]
    rw [hn0.out] at b1 b2
    rw [hm0.out] at b3 b4
    clear HL HB
    by_cases hr : n0 + m0 < -999999999 ∨ 999999999 < n0 + m0
    · have HL0 : Hid (Rf.plusP cf A = (11, cf)) := by unfold Hid; rw [HL1.out, if_pos hr]
      clear HL1
      rcases hr with hr | hr
      · go_enter Tryd.func77, Tryd.ntmps77
        go_wp2_with (go_at_call 87; refine (pnumbers_any a1 n1 c1 A _ HA.out HA4.out hAl).mono ?_; rintro r w1 ⟨x, y, rfl, hxy, hb1⟩; obtain ⟨rfl, rfl⟩ := hxy ho.out; rw [ho.out, hn0.out, hm0.out])
        go_ret
        rw [HL0.out]
        exact ⟨rfl, HQ.out.below hb1, Kept.of_below hb1 _⟩
      · have hr2 : ¬ n0 + m0 < -999999999 := by omega
        go_enter Tryd.func77, Tryd.ntmps77
        go_wp2_with (go_at_call 87; refine (pnumbers_any a1 n1 c1 A _ HA.out HA4.out hAl).mono ?_; rintro r w1 ⟨x, y, rfl, hxy, hb1⟩; obtain ⟨rfl, rfl⟩ := hxy ho.out; rw [ho.out, hn0.out, hm0.out])
        go_ret
        rw [HL0.out]
        exact ⟨rfl, HQ.out.below hb1, Kept.of_below hb1 _⟩
    · have HL0 : Hid (Rf.plusP cf A = Rf.equalP cf (Rf.numT (n0 + m0)) (Rf.argT A 2)) := by unfold Hid; rw [HL1.out, if_neg hr]
      have hr1 : ¬ n0 + m0 < -999999999 := by omega
      have hr2 : ¬ 999999999 < n0 + m0 := by omega
      clear HL1 hr
      go_enter Tryd.func77, Tryd.ntmps77
      go_wp2_with (first
        | (go_at_call 87; refine (pnumbers_any a1 n1 c1 A _ HA.out HA4.out hAl).mono ?_; rintro r w1 ⟨x, y, rfl, hxy, hb1⟩; obtain ⟨rfl, rfl⟩ := hxy ho.out; rw [ho.out, hn0.out, hm0.out]; have hz1 := hb1.size)
        | (go_at_call 75; refine (parg2_any a1 n1 c1 A _ (HA.out.below (hb1.alloc hz1 _)) HA4.out hAl).mono ?_; rintro r w2 ⟨a3, n3, c3, rfl, hS2, hb2⟩; have hbw2 : Below w.heap.size w w2 := (hb1.alloc hz1 _).trans (hb2.mono (by rw [World.size_alloc]; omega)); have hn : Seen w2 65 partCells (.slice (some ⟨w1.heap.size, 0, none⟩) 1 1) (Rf.numT (n0 + m0)) := Seen.one (p := ⟨2, ⟨#[]⟩, n0 + m0, 0⟩) ((hb2.block w1.heap.size (by rw [World.size_alloc]; omega)).trans (blk_new w1 _)))
        | (go_at_call 74; refine (pequal_any _ q rb names cf _ _ _ (Rf.numT (n0 + m0)) a3 n3 c3 (Rf.argT A 2) N F (HQ.out.below hbw2) hn hS2 HG.out hN Hne.out (by simp [Rf.numT]) (Nat.le_trans (Rf.argT_sub A 2).1 hAl) (fun p hp => by simp [Rf.numT] at hp; subst hp; simp) (argsOk_arg HA4.out 2)).mono ?_; rintro r w3 ⟨rfl, hQ3, hk3⟩))
      go_ret
      rw [HL0.out]
      exact ⟨rfl, hQ3, (Kept.of_below hbw2 _).trans hk3 (fun _ _ h => h)⟩
  · have h0' : (o != 0) = true := bne_iff_ne.2 h0
    go_enter Tryd.func77, Tryd.ntmps77
    go_wp2_with (go_at_call 87; refine (pnumbers_any a1 n1 c1 A _ HA.out HA4.out hAl).mono ?_; rintro r w1 ⟨x, y, rfl, hxy, hb1⟩; rw [ho.out])
    go_ret
    rw [HL.out, if_neg h0]
    exact ⟨rfl, HQ.out.below hb1, Kept.of_below hb1 _⟩
/-- A choice is put on the row. -/
theorem QIs.push {W w3 : World} {q : Nat} {rb : Option Nat} {vN vg vt vC : Value} {fr : Int} {names : List ByteArray} {cf : Rf.Cf} (hQ : QIs W q rb vN vg vt fr vC names cf) {acc : List (ChV × Rf.Ch)} (hacc : ∀ y ∈ acc, ChIs W y.1 y.2) (hm : acc.map (·.2) = cf.chs.reverse) {x : ChV} {c : Rf.Ch} (hx : ChIs W x c) {g n cap : Nat} (hrow : RowIs w3 0 104 4 chCells (.slice (some ⟨g, 0, none⟩) n cap) (acc.map (·.1) ++ [x])) (hgr : W.grownBy w3 vC.ownBlock) :
    QIs (w3.setCell ⟨q, 4, none⟩ (.slice (some ⟨g, 0, none⟩) n cap)) q (some g) vN vg vt fr (.slice (some ⟨g, 0, none⟩) n cap) names ⟨cf.now, c :: cf.chs⟩ ∧ Kept (May q rb) W (w3.setCell ⟨q, 4, none⟩ (.slice (some ⟨g, 0, none⟩) n cap)) ∧ QB w3 q vN vg vt fr vC := by
  have hk3 : Kept (May q rb) W w3 := (Kept.refl _ W).grown hgr (fun k e => .inr (.inr (by rw [← hQ.o, e])))
  have hk := hk3.setCell (p := ⟨q, 4, none⟩) (.inr (.inl rfl)) (.slice (some ⟨g, 0, none⟩) n cap)
  have hqb : QB w3 q vN vg vt fr vC := (hgr.block q (blk_lt hQ.b) (fun e => hQ.rq (by rw [← hQ.o, e]))).trans hQ.b
  have hgq : ¬ g = q := by
    intro e
    obtain ⟨cs', hc'⟩ := hrow.typed g rfl
    rw [e] at hc'
    unfold QB at hqb
    rw [hqb] at hc'
    injection hc' with h3; injection h3 with _ h4
    exact absurd h4 (by decide)
  refine ⟨⟨blk_set hqb 4 _, Seen.kept hQ.n hk hQ.free.s, hQ.s.kept hk hQ.free, ?_, rfl⟩, hk, hqb⟩
  refine ⟨acc ++ [(x, c)], ?_, fun y hy => ?_, by rw [List.map_append, hm, List.reverse_cons]; rfl⟩
  · rw [List.map_append]
    exact hrow.setCell _ _ (fun e => hgq (by injection e))
  · rcases List.mem_append.1 hy with hy | hy
    · exact (hacc y hy).kept hk hQ.free
    · simp at hy; subst hy; exact hx.kept hk hQ.free
theorem Seen.three {w : World} {N : Nat} {x y z : SlV} (h : w.heap[N]? = some (.cells #[.slice x.a x.n x.c, .slice y.a y.n y.c, .slice z.a z.n z.c] 67 (0, 0))) : Seen w 67 slCells (.slice (some ⟨N, 0, none⟩) 3 3) [x, y, z] := by
  refine ⟨.inr ⟨N, 0, 3, _, rfl, h, by simp, by unfold maxLen; omega, fun j u hu => ?_⟩⟩
  rw [Nat.zero_add]
  match j, hu with
  | 0, hu => simpa [slCells, slv] using hu
  | 1, hu => simpa [slCells, slv] using hu
  | 2, hu => simpa [slCells, slv] using hu
  | (j + 3), hu => simp [slCells] at hu
theorem part_kind (k : Int) (s : ByteArray) (v a : Int) (w : World) : (Instr.field 65 (.agg #[.int .i64 k, .string s, .int .i64 v, .int .i64 a]) 0).run Tryd.prog w = .ok (.int .i64 k) w := by kernel_rfl
end Go.Proofs.YtpdikdnffehmkaaDoor
/- The program's question (play: not): the plain function's answers. -/
namespace Go.Proofs.YtpdikdnffehmkaaDoor
open Go.RowKit
set_option maxHeartbeats 1000000 in
set_option maxRecDepth 100000 in
theorem pnot_any (w : World) (q : Nat) (rb : Option Nat) (names : List ByteArray) (cf : Rf.Cf) (a1 : Option Addr) (n1 c1 : Nat) (A : List Rf.Part) (h : QAt w q rb names cf) (hA : Seen w 65 partCells (.slice a1 n1 c1) A) (hne : cf.now.goals ≠ []) (hl20 : cf.chs.length ≤ 20) :
    Calls Tryd.prog 78 #[.pointer (some ⟨q, 0, none⟩), .slice a1 n1 c1] w fun r w' => r = .returned (.int .i64 (Rf.notP cf A).1) ∧ (∃ rb', QAt w' q rb' names (Rf.notP cf A).2 ∧ Nb w rb rb') ∧ Kept (May q rb) w w' := by
  obtain ⟨vN, vg, vt, fr, vC, hQ⟩ := h.ex
  obtain ⟨k0, k1, k2, k3, k4, kf, kl⟩ := hQ.b.facts
  obtain ⟨ag, cg, rfl⟩ := hQ.s.g.slice
  obtain ⟨g, off, rfl, hgl, _, hp1, hp2⟩ := hQ.s.g.pos hne
  obtain ⟨ta, tc, rfl⟩ := hQ.s.t.slice
  obtain ⟨ca, cc, rfl⟩ := hQ.r.slice
  have HQ : Hid _ := hQ
  have HA : Hid _ := hA
  have Hne : Hid _ := hne
  obtain ⟨K, hK⟩ : ∃ K, Hid ((Rf.topP A).kind = K) := ⟨_, rfl⟩
  have HN : Hid (Rf.notP cf A = if (if K = 1 then 9 else if K = 2 then 10 else 0 : Int) = 0 then (if 20 ≤ cf.chs.length then (6, cf) else (0, ⟨⟨[A, Rf.cutT cf.chs.length, Rf.failT], cf.now.terms, cf.now.fresh⟩, ⟨⟨cf.now.goals.tail, cf.now.terms, cf.now.fresh⟩, []⟩ :: cf.chs⟩)) else ((if K = 1 then 9 else if K = 2 then 10 else 0 : Int), cf)) := by unfold Hid Rf.notP Rf.notK; rw [hK.out]
  clear h hQ hA hne
  have hfd : ∀ w : World, _ := fun w => part_kind K (Rf.topP A).name (Rf.topP A).value (Rf.topP A).args w
  by_cases h1 : K = 1
  · subst h1
    have HN0 : Hid (Rf.notP cf A = (9, cf)) := HN.out
    clear HN
    go_enter Tryd.func78, Tryd.ntmps78
    go_wp2_with (go_at_call 58; refine (ptopA_any a1 n1 c1 A _ HA.out).mono ?_; rintro r w1 ⟨rfl, hb1⟩; rw [hK.out])
    go_ret
    rw [HN0.out]
    exact ⟨rfl, ⟨rb, (HQ.out.below hb1).at, .inl rfl⟩, Kept.of_below hb1 _⟩
  by_cases h2 : K = 2
  · subst h2
    have HN0 : Hid (Rf.notP cf A = (10, cf)) := HN.out
    clear HN
    go_enter Tryd.func78, Tryd.ntmps78
    go_wp2_with (go_at_call 58; refine (ptopA_any a1 n1 c1 A _ HA.out).mono ?_; rintro r w1 ⟨rfl, hb1⟩; rw [hK.out])
    go_ret
    rw [HN0.out]
    exact ⟨rfl, ⟨rb, (HQ.out.below hb1).at, .inl rfl⟩, Kept.of_below hb1 _⟩
  have h1' : (K == 1) = false := beq_eq_false_iff_ne.2 h1
  have h2' : (K == 2) = false := beq_eq_false_iff_ne.2 h2
  have HN1 : Hid (Rf.notP cf A = if 20 ≤ cf.chs.length then (6, cf) else (0, ⟨⟨[A, Rf.cutT cf.chs.length, Rf.failT], cf.now.terms, cf.now.fresh⟩, ⟨⟨cf.now.goals.tail, cf.now.terms, cf.now.fresh⟩, []⟩ :: cf.chs⟩)) := by unfold Hid; rw [HN.out, if_neg h1, if_neg h2, if_pos rfl]
  clear HN
  by_cases h20 : 20 ≤ cf.chs.length
  · have HN0 : Hid (Rf.notP cf A = (6, cf)) := by unfold Hid; rw [HN1.out, if_pos h20]
    have h20' : (20 : Int) ≤ cf.chs.length := by omega
    clear HN1
    go_enter Tryd.func78, Tryd.ntmps78
    go_wp2_with (go_at_call 58; refine (ptopA_any a1 n1 c1 A _ HA.out).mono ?_; rintro r w1 ⟨rfl, hb1⟩; rw [hK.out]; obtain ⟨l0, l1, l2, l3, l4, lf, ll⟩ := (HQ.out.below hb1).b.facts)
    go_ret
    rw [HN0.out]
    exact ⟨rfl, ⟨rb, (HQ.out.below hb1).at, .inl rfl⟩, Kept.of_below hb1 _⟩
  · have HN0 : Hid (Rf.notP cf A = (0, ⟨⟨[A, Rf.cutT cf.chs.length, Rf.failT], cf.now.terms, cf.now.fresh⟩, ⟨⟨cf.now.goals.tail, cf.now.terms, cf.now.fresh⟩, []⟩ :: cf.chs⟩)) := by unfold Hid; rw [HN1.out, if_neg h20]
    have h20' : ¬ (20 : Int) ≤ cf.chs.length := by omega
    clear HN1
    go_enter Tryd.func78, Tryd.ntmps78
    obtain ⟨acc, hr, hac, ham⟩ := HQ.out.r.ex
    have hal : acc.length = cf.chs.length := by have := congrArg List.length ham; simpa using this
    have HR : Hid _ := hr
    have HAC : Hid _ := hac
    have HAM : Hid _ := ham
    clear hr hac ham
    go_wp2_with (go_at_call 58; refine (ptopA_any a1 n1 c1 A _ HA.out).mono ?_; rintro r w1 ⟨rfl, hb1⟩; rw [hK.out]; obtain ⟨l0, l1, l2, l3, l4, lf, ll⟩ := (HQ.out.below hb1).b.facts; have HQ1 : Hid _ := HQ.out.below hb1)
    all_goals
      have HRb : Hid (∀ X, Below w1.heap.size w1 X → RowIs X 0 104 4 chCells (.slice ca cf.chs.length cc) (acc.map (·.1))) := fun X hX => (HR.out.below hb1).below hX
      have HAb : Hid (∀ y ∈ acc, ∀ X, Below w1.heap.size w1 X → ChIs X y.1 y.2) := fun y hy X hX => ((HAC.out y hy).below hb1).below hX
      have HAk : Hid (∀ X, Below w1.heap.size w1 X → Seen X 65 partCells (.slice a1 n1 c1) A) := fun X hX => (HA.out.below hb1).below hX
      have HTt : Hid (∀ X, Below w1.heap.size w1 X → SeenTs X (.slice ta cf.now.terms.length tc) cf.now.terms) := fun X hX => HQ1.out.s.t.below hX
      have HQb : Hid (∀ X, Below w1.heap.size w1 X → QIs X q rb vN (.slice (some ⟨g, off, none⟩) cf.now.goals.length cg) (.slice ta cf.now.terms.length tc) fr (.slice ca cf.chs.length cc) names cf) := fun X hX => HQ1.out.below hX
    · have HT1 : Hid (∀ X, Below w1.heap.size w1 X → SeenTs X (.slice (some ⟨g, off, none⟩) (cf.now.goals.length - 1) 0) cf.now.goals.tail) := fun X hX => ((HQ1.out.s.g.tail1 ‹_›) : SeenTs w1 (.slice (some ⟨g, off, none⟩) (cf.now.goals.length - 1) 0) cf.now.goals.tail).below hX
      go_region_law (refine step_app Tryd.elemCh chCells chCells_len chCells_one rfl (.tmp 35) (.tmp 38) rfl 0 (.slice ca cf.chs.length cc) (acc.map (·.1)) rfl (HRb.out _ (by repeat (first | exact Below.refl _ _ | refine Below.setCell ?_ (by simp <;> omega) _ | refine Below.drew ?_ | refine Below.drewN ?_ _ | refine Below.alloc ?_ (by simp <;> omega) _))) ⟨_, 0, none⟩ 1 ⟨⟨some ⟨g, off, none⟩, cf.now.goals.length - 1, 0⟩, ⟨ta, cf.now.terms.length, tc⟩, fr, ⟨none, 0, 0⟩⟩ rfl (cell_four_at _ _ (by simp) _ _ _ _ _) (by rw [List.length_map, hal]; omega) (Nat.zero_le _) ?_; intro gA capA w3 hrow3 hgr3 hnb3; rw [List.length_map, hal] at hrow3; obtain ⟨r1, r2, r3⟩ := QIs.push (HQb.out _ (by repeat (first | exact Below.refl _ _ | refine Below.setCell ?_ (by simp <;> omega) _ | refine Below.drew ?_ | refine Below.drewN ?_ _ | refine Below.alloc ?_ (by simp <;> omega) _))) (fun y hy => HAb.out y hy _ (by repeat (first | exact Below.refl _ _ | refine Below.setCell ?_ (by simp <;> omega) _ | refine Below.drew ?_ | refine Below.drewN ?_ _ | refine Below.alloc ?_ (by simp <;> omega) _))) HAM.out (c := ⟨⟨cf.now.goals.tail, cf.now.terms, cf.now.fresh⟩, []⟩) ⟨⟨HT1.out _ (by repeat (first | exact Below.refl _ _ | refine Below.setCell ?_ (by simp <;> omega) _ | refine Below.drew ?_ | refine Below.drewN ?_ _ | refine Below.alloc ?_ (by simp <;> omega) _)), HTt.out _ (by repeat (first | exact Below.refl _ _ | refine Below.setCell ?_ (by simp <;> omega) _ | refine Below.drew ?_ | refine Below.drewN ?_ _ | refine Below.alloc ?_ (by simp <;> omega) _)), HQ.out.s.f⟩, Seen.nil⟩ hrow3 hgr3; obtain ⟨m0, m1, m2, m3, m4, mf, ml⟩ := r3.facts; have HR1 : Hid _ := r1; have HR2 : Hid _ := r2; clear r1 r2 r3)
      all_goals
        generalize w3.setCell ⟨q, 4, none⟩ (.slice (some ⟨gA, 0, none⟩) (cf.chs.length + 1) capA) = w4 at *
        clear m0 m1 m2 m3 m4 mf ml l0 l1 l2 l3 l4 lf
        obtain ⟨m0, m1, m2, m3, m4, mf, ml⟩ := HR1.out.b.facts
        have hbX : Below w4.heap.size w4 (((w4.alloc (.cells #[.int .i64 4, .string ⟨#[]⟩, .int .i64 cf.chs.length, .int .i64 0] 65)).alloc (.cells #[.int .i64 3, .string ⟨#[102, 97, 105, 108]⟩, .int .i64 0, .int .i64 0] 65)).alloc (.cells #[.slice a1 n1 c1, .slice (some ⟨w4.heap.size, 0, none⟩) 1 1, .slice (some ⟨w4.heap.size + 1, 0, none⟩) 1 1] 67)) := (by repeat (first | exact Below.refl _ _ | refine Below.setCell ?_ (by simp <;> omega) _ | refine Below.drew ?_ | refine Below.drewN ?_ _ | refine Below.alloc ?_ (by simp <;> omega) _))
        have hQX := HR1.out.below hbX
        have hX3 : Seen (((w4.alloc (.cells #[.int .i64 4, .string ⟨#[]⟩, .int .i64 cf.chs.length, .int .i64 0] 65)).alloc (.cells #[.int .i64 3, .string ⟨#[102, 97, 105, 108]⟩, .int .i64 0, .int .i64 0] 65)).alloc (.cells #[.slice a1 n1 c1, .slice (some ⟨w4.heap.size, 0, none⟩) 1 1, .slice (some ⟨w4.heap.size + 1, 0, none⟩) 1 1] 67)) 67 slCells (.slice (some ⟨w4.heap.size + 1 + 1, 0, none⟩) 3 3) [⟨a1, n1, c1⟩, ⟨some ⟨w4.heap.size, 0, none⟩, 1, 1⟩, ⟨some ⟨w4.heap.size + 1, 0, none⟩, 1, 1⟩] := Seen.three (x := ⟨a1, n1, c1⟩) (y := ⟨some ⟨w4.heap.size, 0, none⟩, 1, 1⟩) (z := ⟨some ⟨w4.heap.size + 1, 0, none⟩, 1, 1⟩) (blk_at _ _ _ (by simp))
        have hY1 : Seen (((w4.alloc (.cells #[.int .i64 4, .string ⟨#[]⟩, .int .i64 cf.chs.length, .int .i64 0] 65)).alloc (.cells #[.int .i64 3, .string ⟨#[102, 97, 105, 108]⟩, .int .i64 0, .int .i64 0] 65)).alloc (.cells #[.slice a1 n1 c1, .slice (some ⟨w4.heap.size, 0, none⟩) 1 1, .slice (some ⟨w4.heap.size + 1, 0, none⟩) 1 1] 67)) 65 partCells (.slice (some ⟨w4.heap.size, 0, none⟩) 1 1) (Rf.cutT cf.chs.length) := Seen.one (p := ⟨4, ⟨#[]⟩, cf.chs.length, 0⟩) (blk_alloc (blk_alloc (blk_new w4 _) _) _)
        have hY2 : Seen (((w4.alloc (.cells #[.int .i64 4, .string ⟨#[]⟩, .int .i64 cf.chs.length, .int .i64 0] 65)).alloc (.cells #[.int .i64 3, .string ⟨#[102, 97, 105, 108]⟩, .int .i64 0, .int .i64 0] 65)).alloc (.cells #[.slice a1 n1 c1, .slice (some ⟨w4.heap.size, 0, none⟩) 1 1, .slice (some ⟨w4.heap.size + 1, 0, none⟩) 1 1] 67)) 65 partCells (.slice (some ⟨w4.heap.size + 1, 0, none⟩) 1 1) Rf.failT := Seen.one (p := ⟨3, Rf.failB, 0, 0⟩) (blk_alloc (blk_at _ _ _ (by simp)) _)
        have hA1 : Seen (((w4.alloc (.cells #[.int .i64 4, .string ⟨#[]⟩, .int .i64 cf.chs.length, .int .i64 0] 65)).alloc (.cells #[.int .i64 3, .string ⟨#[102, 97, 105, 108]⟩, .int .i64 0, .int .i64 0] 65)).alloc (.cells #[.slice a1 n1 c1, .slice (some ⟨w4.heap.size, 0, none⟩) 1 1, .slice (some ⟨w4.heap.size + 1, 0, none⟩) 1 1] 67)) 65 partCells (.slice a1 n1 c1) A := Seen.below (Seen.kept (HAk.out _ (by repeat (first | exact Below.refl _ _ | refine Below.setCell ?_ (by simp <;> omega) _ | refine Below.drew ?_ | refine Below.drewN ?_ _ | refine Below.alloc ?_ (by simp <;> omega) _))) HR2.out (HQb.out _ (by repeat (first | exact Below.refl _ _ | refine Below.setCell ?_ (by simp <;> omega) _ | refine Below.drew ?_ | refine Below.drewN ?_ _ | refine Below.alloc ?_ (by simp <;> omega) _))).free.p) hbX
        have hXf := fun i => (World.frozen?_of_block (a := ⟨q, i, none⟩) (hbX.block q ml)).trans (mf i)
        have hXc := hQX.b.facts.2.1
        have HX3 : Hid _ := hX3
        have HY1 : Hid _ := hY1
        have HY2 : Hid _ := hY2
        have HA1 : Hid _ := hA1
        have HQX : Hid _ := hQX
        have HbX : Hid _ := hbX
        clear hX3 hY1 hY2 hA1 hQX hbX
        go_wp2_with fail
        go_ret
        rw [HN0.out]
        have hs := StIs.mk (S := ⟨[A, Rf.cutT cf.chs.length, Rf.failT], cf.now.terms, cf.now.fresh⟩) (SeenTs.mk ⟨[(⟨a1, n1, c1⟩, A), (⟨some ⟨w4.heap.size, 0, none⟩, 1, 1⟩, Rf.cutT cf.chs.length), (⟨some ⟨w4.heap.size + 1, 0, none⟩, 1, 1⟩, Rf.failT)], HX3.out, (fun y hy => by
          simp only [List.mem_cons, List.not_mem_nil, or_false] at hy
          rcases hy with rfl | rfl | rfl
          · exact HA1.out
          · exact HY1.out
          · exact HY2.out), rfl⟩) HQX.out.s.t HQX.out.s.f
        refine ⟨rfl, ⟨some gA, (QIs.now HQX.out (kept_one _ _) (blk_set HQX.out.b 1 _) hs).at, ?_⟩, ?_⟩
        · have hz1 := hb1.size
          rcases hnb3 with e | ⟨k, e, hk⟩
          · exact .inl (e.trans HQ.out.o)
          · exact .inr ⟨k, e, by simp at hk; omega⟩
        · exact (((Kept.of_below (hb1.trans (Below.mono ((by repeat (first | exact Below.refl _ _ | refine Below.setCell ?_ (by simp <;> omega) _ | refine Below.drew ?_ | refine Below.drewN ?_ _ | refine Below.alloc ?_ (by simp <;> omega) _)) : Below w1.heap.size w1 _) hb1.size)) (May q rb)).trans HR2.out (fun _ _ h => h)).trans (Kept.of_below HbX.out (May q rb)) (fun _ _ h => h)).setCell (p := ⟨q, 1, none⟩) (.inr (.inl rfl)) _
    · have HT1 : Hid (∀ X, Below w1.heap.size w1 X → SeenTs X (.slice (some ⟨g, off + 1, none⟩) (cf.now.goals.length - 1) (cg - 1)) cf.now.goals.tail) := fun X hX => ((HQ1.out.s.g.tail2 Hne.out) : SeenTs w1 (.slice (some ⟨g, off + 1, none⟩) (cf.now.goals.length - 1) (cg - 1)) cf.now.goals.tail).below hX
      go_region_law (refine step_app Tryd.elemCh chCells chCells_len chCells_one rfl (.tmp 35) (.tmp 38) rfl 0 (.slice ca cf.chs.length cc) (acc.map (·.1)) rfl (HRb.out _ (by repeat (first | exact Below.refl _ _ | refine Below.setCell ?_ (by simp <;> omega) _ | refine Below.drew ?_ | refine Below.drewN ?_ _ | refine Below.alloc ?_ (by simp <;> omega) _))) ⟨_, 0, none⟩ 1 ⟨⟨some ⟨g, off + 1, none⟩, cf.now.goals.length - 1, cg - 1⟩, ⟨ta, cf.now.terms.length, tc⟩, fr, ⟨none, 0, 0⟩⟩ rfl (cell_four_at _ _ (by simp) _ _ _ _ _) (by rw [List.length_map, hal]; omega) (Nat.zero_le _) ?_; intro gA capA w3 hrow3 hgr3 hnb3; rw [List.length_map, hal] at hrow3; obtain ⟨r1, r2, r3⟩ := QIs.push (HQb.out _ (by repeat (first | exact Below.refl _ _ | refine Below.setCell ?_ (by simp <;> omega) _ | refine Below.drew ?_ | refine Below.drewN ?_ _ | refine Below.alloc ?_ (by simp <;> omega) _))) (fun y hy => HAb.out y hy _ (by repeat (first | exact Below.refl _ _ | refine Below.setCell ?_ (by simp <;> omega) _ | refine Below.drew ?_ | refine Below.drewN ?_ _ | refine Below.alloc ?_ (by simp <;> omega) _))) HAM.out (c := ⟨⟨cf.now.goals.tail, cf.now.terms, cf.now.fresh⟩, []⟩) ⟨⟨HT1.out _ (by repeat (first | exact Below.refl _ _ | refine Below.setCell ?_ (by simp <;> omega) _ | refine Below.drew ?_ | refine Below.drewN ?_ _ | refine Below.alloc ?_ (by simp <;> omega) _)), HTt.out _ (by repeat (first | exact Below.refl _ _ | refine Below.setCell ?_ (by simp <;> omega) _ | refine Below.drew ?_ | refine Below.drewN ?_ _ | refine Below.alloc ?_ (by simp <;> omega) _)), HQ.out.s.f⟩, Seen.nil⟩ hrow3 hgr3; obtain ⟨m0, m1, m2, m3, m4, mf, ml⟩ := r3.facts; have HR1 : Hid _ := r1; have HR2 : Hid _ := r2; clear r1 r2 r3)
      all_goals
        generalize w3.setCell ⟨q, 4, none⟩ (.slice (some ⟨gA, 0, none⟩) (cf.chs.length + 1) capA) = w4 at *
        clear m0 m1 m2 m3 m4 mf ml l0 l1 l2 l3 l4 lf
        obtain ⟨m0, m1, m2, m3, m4, mf, ml⟩ := HR1.out.b.facts
        have hbX : Below w4.heap.size w4 (((w4.alloc (.cells #[.int .i64 4, .string ⟨#[]⟩, .int .i64 cf.chs.length, .int .i64 0] 65)).alloc (.cells #[.int .i64 3, .string ⟨#[102, 97, 105, 108]⟩, .int .i64 0, .int .i64 0] 65)).alloc (.cells #[.slice a1 n1 c1, .slice (some ⟨w4.heap.size, 0, none⟩) 1 1, .slice (some ⟨w4.heap.size + 1, 0, none⟩) 1 1] 67)) := (by repeat (first | exact Below.refl _ _ | refine Below.setCell ?_ (by simp <;> omega) _ | refine Below.drew ?_ | refine Below.drewN ?_ _ | refine Below.alloc ?_ (by simp <;> omega) _))
        have hQX := HR1.out.below hbX
        have hX3 : Seen (((w4.alloc (.cells #[.int .i64 4, .string ⟨#[]⟩, .int .i64 cf.chs.length, .int .i64 0] 65)).alloc (.cells #[.int .i64 3, .string ⟨#[102, 97, 105, 108]⟩, .int .i64 0, .int .i64 0] 65)).alloc (.cells #[.slice a1 n1 c1, .slice (some ⟨w4.heap.size, 0, none⟩) 1 1, .slice (some ⟨w4.heap.size + 1, 0, none⟩) 1 1] 67)) 67 slCells (.slice (some ⟨w4.heap.size + 1 + 1, 0, none⟩) 3 3) [⟨a1, n1, c1⟩, ⟨some ⟨w4.heap.size, 0, none⟩, 1, 1⟩, ⟨some ⟨w4.heap.size + 1, 0, none⟩, 1, 1⟩] := Seen.three (x := ⟨a1, n1, c1⟩) (y := ⟨some ⟨w4.heap.size, 0, none⟩, 1, 1⟩) (z := ⟨some ⟨w4.heap.size + 1, 0, none⟩, 1, 1⟩) (blk_at _ _ _ (by simp))
        have hY1 : Seen (((w4.alloc (.cells #[.int .i64 4, .string ⟨#[]⟩, .int .i64 cf.chs.length, .int .i64 0] 65)).alloc (.cells #[.int .i64 3, .string ⟨#[102, 97, 105, 108]⟩, .int .i64 0, .int .i64 0] 65)).alloc (.cells #[.slice a1 n1 c1, .slice (some ⟨w4.heap.size, 0, none⟩) 1 1, .slice (some ⟨w4.heap.size + 1, 0, none⟩) 1 1] 67)) 65 partCells (.slice (some ⟨w4.heap.size, 0, none⟩) 1 1) (Rf.cutT cf.chs.length) := Seen.one (p := ⟨4, ⟨#[]⟩, cf.chs.length, 0⟩) (blk_alloc (blk_alloc (blk_new w4 _) _) _)
        have hY2 : Seen (((w4.alloc (.cells #[.int .i64 4, .string ⟨#[]⟩, .int .i64 cf.chs.length, .int .i64 0] 65)).alloc (.cells #[.int .i64 3, .string ⟨#[102, 97, 105, 108]⟩, .int .i64 0, .int .i64 0] 65)).alloc (.cells #[.slice a1 n1 c1, .slice (some ⟨w4.heap.size, 0, none⟩) 1 1, .slice (some ⟨w4.heap.size + 1, 0, none⟩) 1 1] 67)) 65 partCells (.slice (some ⟨w4.heap.size + 1, 0, none⟩) 1 1) Rf.failT := Seen.one (p := ⟨3, Rf.failB, 0, 0⟩) (blk_alloc (blk_at _ _ _ (by simp)) _)
        have hA1 : Seen (((w4.alloc (.cells #[.int .i64 4, .string ⟨#[]⟩, .int .i64 cf.chs.length, .int .i64 0] 65)).alloc (.cells #[.int .i64 3, .string ⟨#[102, 97, 105, 108]⟩, .int .i64 0, .int .i64 0] 65)).alloc (.cells #[.slice a1 n1 c1, .slice (some ⟨w4.heap.size, 0, none⟩) 1 1, .slice (some ⟨w4.heap.size + 1, 0, none⟩) 1 1] 67)) 65 partCells (.slice a1 n1 c1) A := Seen.below (Seen.kept (HAk.out _ (by repeat (first | exact Below.refl _ _ | refine Below.setCell ?_ (by simp <;> omega) _ | refine Below.drew ?_ | refine Below.drewN ?_ _ | refine Below.alloc ?_ (by simp <;> omega) _))) HR2.out (HQb.out _ (by repeat (first | exact Below.refl _ _ | refine Below.setCell ?_ (by simp <;> omega) _ | refine Below.drew ?_ | refine Below.drewN ?_ _ | refine Below.alloc ?_ (by simp <;> omega) _))).free.p) hbX
        have hXf := fun i => (World.frozen?_of_block (a := ⟨q, i, none⟩) (hbX.block q ml)).trans (mf i)
        have hXc := hQX.b.facts.2.1
        have HX3 : Hid _ := hX3
        have HY1 : Hid _ := hY1
        have HY2 : Hid _ := hY2
        have HA1 : Hid _ := hA1
        have HQX : Hid _ := hQX
        have HbX : Hid _ := hbX
        clear hX3 hY1 hY2 hA1 hQX hbX
        go_wp2_with fail
        go_ret
        rw [HN0.out]
        have hs := StIs.mk (S := ⟨[A, Rf.cutT cf.chs.length, Rf.failT], cf.now.terms, cf.now.fresh⟩) (SeenTs.mk ⟨[(⟨a1, n1, c1⟩, A), (⟨some ⟨w4.heap.size, 0, none⟩, 1, 1⟩, Rf.cutT cf.chs.length), (⟨some ⟨w4.heap.size + 1, 0, none⟩, 1, 1⟩, Rf.failT)], HX3.out, (fun y hy => by
          simp only [List.mem_cons, List.not_mem_nil, or_false] at hy
          rcases hy with rfl | rfl | rfl
          · exact HA1.out
          · exact HY1.out
          · exact HY2.out), rfl⟩) HQX.out.s.t HQX.out.s.f
        refine ⟨rfl, ⟨some gA, (QIs.now HQX.out (kept_one _ _) (blk_set HQX.out.b 1 _) hs).at, ?_⟩, ?_⟩
        · have hz1 := hb1.size
          rcases hnb3 with e | ⟨k, e, hk⟩
          · exact .inl (e.trans HQ.out.o)
          · exact .inr ⟨k, e, by simp at hk; omega⟩
        · exact (((Kept.of_below (hb1.trans (Below.mono ((by repeat (first | exact Below.refl _ _ | refine Below.setCell ?_ (by simp <;> omega) _ | refine Below.drew ?_ | refine Below.drewN ?_ _ | refine Below.alloc ?_ (by simp <;> omega) _)) : Below w1.heap.size w1 _) hb1.size)) (May q rb)).trans HR2.out (fun _ _ h => h)).trans (Kept.of_below HbX.out (May q rb)) (fun _ _ h => h)).setCell (p := ⟨q, 1, none⟩) (.inr (.inl rfl)) _
end Go.Proofs.YtpdikdnffehmkaaDoor
/- The program's question (play: builtIn): the plain function's answers. -/
namespace Go.Proofs.YtpdikdnffehmkaaDoor
open Go.RowKit
theorem isName (s : ByteArray) (l : List UInt8) : (s.toList == l) = true ↔ s = ⟨l.toArray⟩ := by
  rw [← dec_str]; simp
set_option maxHeartbeats 1000000 in
set_option maxRecDepth 100000 in
theorem pbuilt_any (w : World) (q : Nat) (rb : Option Nat) (names : List ByteArray) (cf : Rf.Cf) (a1 : Option Addr) (n1 c1 : Nat) (A : List Rf.Part) (N : Nat) (F : Int) (h : QAt w q rb names cf) (hA : Seen w 65 partCells (.slice a1 n1 c1) A) (hG : Rf.StG N F cf.now) (hN : N ≤ 9000) (hne : cf.now.goals ≠ []) (hAl : A.length ≤ 400) (hAG : ∀ p ∈ A, Rf.PartG cf.now.fresh p) (hl20 : cf.chs.length ≤ 20) :
    Calls Tryd.prog 60 #[.pointer (some ⟨q, 0, none⟩), .slice a1 n1 c1] w fun r w' => r = .returned (.int .i64 (Rf.builtP cf A).1) ∧ (∃ rb', QAt w' q rb' names (Rf.builtP cf A).2 ∧ Nb w rb rb') ∧ Kept (May q rb) w w' := by
  have HQ : Hid _ := h
  have HA : Hid _ := hA
  have HAG : Hid (∀ p ∈ A, Rf.PartG cf.now.fresh p) := hAG
  have HA4 : Hid (Rf.ArgsOk A) := fun p hp => (hAG p hp).1
  have HG : Hid _ := hG
  have Hne : Hid _ := hne
  obtain ⟨p, hp⟩ : ∃ p, Hid (Rf.topP A = p) := ⟨_, rfl⟩
  clear h hA hne hAG hG
  by_cases h4 : p.kind = 4
  · have HB0 : Hid (Rf.builtP cf A = Rf.meetP ⟨cf.now, Rf.dropC cf.chs p.value⟩) := by unfold Hid Rf.builtP; rw [hp.out, if_pos h4]
    go_enter Tryd.func60, Tryd.ntmps60
    go_wp2_with (first
      | (go_at_call 58; refine (ptopA_any a1 n1 c1 A _ HA.out).mono ?_; rintro r w1 ⟨rfl, hb1⟩; rw [hp.out]; have hz1 := hb1.size)
      | (go_at_call 56; refine (pdropTo_any _ q rb names cf p.value (HQ.out.below (hb1.alloc hz1 _)) hl20).mono ?_; rintro r w2 ⟨rfl, hQ2, hk2⟩)
      | (go_at_call 73; refine (pmeet_any _ q rb names _ hQ2 Hne.out).mono ?_; rintro r w3 ⟨rfl, hQ3, hk3⟩))
    go_ret
    rw [HB0.out]
    exact ⟨rfl, ⟨rb, hQ3, .inl rfl⟩, ((Kept.of_below (hb1.alloc hz1 _) (May q rb)).trans hk2 (fun _ _ h => h)).trans hk3 (fun _ _ h => h)⟩
  · have h4' : (p.kind == 4) = false := beq_eq_false_iff_ne.2 h4
    have b1 : (p.name.toList == [116, 114, 117, 101]) = true ↔ p.name = Rf.trueB := isName p.name [116, 114, 117, 101]
    have b2 : (p.name.toList == [101, 113]) = true ↔ p.name = Rf.eqB := isName p.name [101, 113]
    have b3 : (p.name.toList == [108, 101, 115, 115]) = true ↔ p.name = Rf.lessB := isName p.name [108, 101, 115, 115]
    have b4 : (p.name.toList == [112, 108, 117, 115]) = true ↔ p.name = Rf.plusB := isName p.name [112, 108, 117, 115]
    have b5 : (p.name.toList == [110, 111, 116]) = true ↔ p.name = Rf.notB := isName p.name [110, 111, 116]
    have HBP : Hid (Rf.builtP cf A = if p.name = Rf.trueB then Rf.meetP cf else if p.name = Rf.eqB then Rf.equalP cf (Rf.argT A 0) (Rf.argT A 1) else if p.name = Rf.lessB then Rf.lessP cf A else if p.name = Rf.plusB then Rf.plusP cf A else if p.name = Rf.notB then Rf.notP cf (Rf.argT A 0) else (-1, cf)) := by unfold Hid Rf.builtP; rw [hp.out, if_neg h4]
    cases e1 : (p.name.toList == [116, 114, 117, 101])
    · rw [e1] at b1
      cases e2 : (p.name.toList == [101, 113])
      · rw [e2] at b2
        cases e3 : (p.name.toList == [108, 101, 115, 115])
        · rw [e3] at b3
          cases e4 : (p.name.toList == [112, 108, 117, 115])
          · rw [e4] at b4
            cases e5 : (p.name.toList == [110, 111, 116])
            · rw [e5] at b5
              have HB0 : Hid (Rf.builtP cf A = (-1, cf)) := by unfold Hid; rw [HBP.out, if_neg (fun e => by have := b1.2 e; cases this), if_neg (fun e => by have := b2.2 e; cases this), if_neg (fun e => by have := b3.2 e; cases this), if_neg (fun e => by have := b4.2 e; cases this), if_neg (fun e => by have := b5.2 e; cases this)]
              clear HBP b1 b2 b3 b4 b5
              go_enter Tryd.func60, Tryd.ntmps60
              go_wp2_with (go_at_call 58; refine (ptopA_any a1 n1 c1 A _ HA.out).mono ?_; rintro r w1 ⟨rfl, hb1⟩; rw [hp.out]; have hz1 := hb1.size)
              go_ret
              rw [HB0.out]
              exact ⟨rfl, ⟨rb, HQ.out.below (hb1.alloc hz1 _), .inl rfl⟩, Kept.of_below (hb1.alloc hz1 _) _⟩
            · rw [e5] at b5
              have HB0 : Hid (Rf.builtP cf A = Rf.notP cf (Rf.argT A 0)) := by unfold Hid; rw [HBP.out, if_neg (fun e => by have := b1.2 e; cases this), if_neg (fun e => by have := b2.2 e; cases this), if_neg (fun e => by have := b3.2 e; cases this), if_neg (fun e => by have := b4.2 e; cases this), if_pos (b5.1 rfl)]
              clear HBP b1 b2 b3 b4 b5
              go_enter Tryd.func60, Tryd.ntmps60
              go_wp2_with (first
                | (go_at_call 58; refine (ptopA_any a1 n1 c1 A _ HA.out).mono ?_; rintro r w1 ⟨rfl, hb1⟩; rw [hp.out]; have hz1 := hb1.size)
                | (go_at_call 75; refine (parg0_any a1 n1 c1 A _ (HA.out.below (hb1.alloc hz1 _)) HA4.out hAl).mono ?_; rintro r w2 ⟨a3, n3, c3, rfl, hS2, hb2⟩; have hbw2 : Below w.heap.size w w2 := (hb1.alloc hz1 _).trans (hb2.mono (by rw [World.size_alloc]; omega)))
                | (go_at_call 78; refine (pnot_any _ q rb names cf a3 n3 c3 (Rf.argT A 0) (HQ.out.below hbw2) hS2 Hne.out hl20).mono ?_; rintro r w3 ⟨rfl, ⟨rb', hQ3, hnb⟩, hk3⟩))
              go_ret
              rw [HB0.out]
              exact ⟨rfl, ⟨rb', hQ3, by
                rcases hnb with e | ⟨k, e, hk⟩
                · exact .inl e
                · exact .inr ⟨k, e, by have := hbw2.size; omega⟩⟩, (Kept.of_below hbw2 _).trans hk3 (fun _ _ h => h)⟩
          · rw [e4] at b4
            have HB0 : Hid (Rf.builtP cf A = Rf.plusP cf A) := by unfold Hid; rw [HBP.out, if_neg (fun e => by have := b1.2 e; cases this), if_neg (fun e => by have := b2.2 e; cases this), if_neg (fun e => by have := b3.2 e; cases this), if_pos (b4.1 rfl)]
            clear HBP b1 b2 b3 b4 b5
            go_enter Tryd.func60, Tryd.ntmps60
            go_wp2_with (first
              | (go_at_call 58; refine (ptopA_any a1 n1 c1 A _ HA.out).mono ?_; rintro r w1 ⟨rfl, hb1⟩; rw [hp.out]; have hz1 := hb1.size)
              | (go_at_call 77; refine (pplus_any _ q rb names cf a1 n1 c1 A N F (HQ.out.below (hb1.alloc hz1 _)) (HA.out.below (hb1.alloc hz1 _)) HG.out hN Hne.out hAl HAG.out).mono ?_; rintro r w3 ⟨rfl, hQ3, hk3⟩))
            go_ret
            rw [HB0.out]
            exact ⟨rfl, ⟨rb, hQ3, .inl rfl⟩, (Kept.of_below (hb1.alloc hz1 _) _).trans hk3 (fun _ _ h => h)⟩
        · rw [e3] at b3
          have HB0 : Hid (Rf.builtP cf A = Rf.lessP cf A) := by unfold Hid; rw [HBP.out, if_neg (fun e => by have := b1.2 e; cases this), if_neg (fun e => by have := b2.2 e; cases this), if_pos (b3.1 rfl)]
          clear HBP b1 b2 b3 b4 b5
          go_enter Tryd.func60, Tryd.ntmps60
          go_wp2_with (first
            | (go_at_call 58; refine (ptopA_any a1 n1 c1 A _ HA.out).mono ?_; rintro r w1 ⟨rfl, hb1⟩; rw [hp.out]; have hz1 := hb1.size)
            | (go_at_call 76; refine (pless_any _ q rb names cf a1 n1 c1 A (HQ.out.below (hb1.alloc hz1 _)) (HA.out.below (hb1.alloc hz1 _)) Hne.out hAl HA4.out).mono ?_; rintro r w3 ⟨rfl, hQ3, hk3⟩))
          go_ret
          rw [HB0.out]
          exact ⟨rfl, ⟨rb, hQ3, .inl rfl⟩, (Kept.of_below (hb1.alloc hz1 _) _).trans hk3 (fun _ _ h => h)⟩
      · rw [e2] at b2
        have HB0 : Hid (Rf.builtP cf A = Rf.equalP cf (Rf.argT A 0) (Rf.argT A 1)) := by unfold Hid; rw [HBP.out, if_neg (fun e => by have := b1.2 e; cases this), if_pos (b2.1 rfl)]
        clear HBP b1 b2 b3 b4 b5
        go_enter Tryd.func60, Tryd.ntmps60
        go_wp2_with (first
          | (go_at_call 58; refine (ptopA_any a1 n1 c1 A _ HA.out).mono ?_; rintro r w1 ⟨rfl, hb1⟩; rw [hp.out]; have hz1 := hb1.size)
          | (go_at_call 75; first
            | (refine (parg1_any a1 n1 c1 A _ (HA.out.below hbw2) HA4.out hAl).mono ?_; rintro r w4 ⟨a4, n4, c4, rfl, hS4, hb4⟩; have hbw4 : Below w.heap.size w w4 := hbw2.trans (hb4.mono hbw2.size); have hS3 := Seen.below hS2 hb4)
            | (refine (parg0_any a1 n1 c1 A _ (HA.out.below (hb1.alloc hz1 _)) HA4.out hAl).mono ?_; rintro r w2 ⟨a3, n3, c3, rfl, hS2, hb2⟩; have hbw2 : Below w.heap.size w w2 := (hb1.alloc hz1 _).trans (hb2.mono (by rw [World.size_alloc]; omega))))
          | (go_at_call 74; refine (pequal_any _ q rb names cf a3 n3 c3 (Rf.argT A 0) a4 n4 c4 (Rf.argT A 1) N F (HQ.out.below hbw4) hS3 hS4 HG.out hN Hne.out (Nat.le_trans (Rf.argT_sub A 0).1 hAl) (Nat.le_trans (Rf.argT_sub A 1).1 hAl) (argsOk_arg HA4.out 0) (argsOk_arg HA4.out 1)).mono ?_; rintro r w5 ⟨rfl, hQ5, hk5⟩))
        go_ret
        rw [HB0.out]
        exact ⟨rfl, ⟨rb, hQ5, .inl rfl⟩, (Kept.of_below hbw4 _).trans hk5 (fun _ _ h => h)⟩
    · rw [e1] at b1
      have HB0 : Hid (Rf.builtP cf A = Rf.meetP cf) := by unfold Hid; rw [HBP.out, if_pos (b1.1 rfl)]
      clear HBP b1 b2 b3 b4 b5
      go_enter Tryd.func60, Tryd.ntmps60
      go_wp2_with (first
        | (go_at_call 58; refine (ptopA_any a1 n1 c1 A _ HA.out).mono ?_; rintro r w1 ⟨rfl, hb1⟩; rw [hp.out]; have hz1 := hb1.size)
        | (go_at_call 73; refine (pmeet_any _ q rb names cf (HQ.out.below (hb1.alloc hz1 _)) Hne.out).mono ?_; rintro r w3 ⟨rfl, hQ3, hk3⟩))
      go_ret
      rw [HB0.out]
      exact ⟨rfl, ⟨rb, hQ3, .inl rfl⟩, (Kept.of_below (hb1.alloc hz1 _) _).trans hk3 (fun _ _ h => h)⟩
end Go.Proofs.YtpdikdnffehmkaaDoor
/- The program's question (play: choose): the plain function's answers. -/
namespace Go.Proofs.YtpdikdnffehmkaaDoor
open Go.RowKit
theorem Nb.up {w w1 : World} {nb nb' : Option Nat} (h : Nb w1 nb nb') (hs : w.heap.size ≤ w1.heap.size) : Nb w nb nb' := by
  rcases h with e | ⟨k, e, hk⟩
  · exact .inl e
  · exact .inr ⟨k, e, by omega⟩
theorem Seen.blk {α : Type} {w : World} {e : TypeId} {C : α → List Value} {g off n c : Nat} {xs : List α} (h : Seen w e C (.slice (some ⟨g, off, none⟩) n c) xs) : ∃ cs, w.heap[g]? = some (.cells cs e (0, 0)) := by
  rcases h.ex with ⟨e1, _⟩ | ⟨g', off', cap, cur, e1, e2, _⟩
  · cases e1
  · injection e1 with a1; injection a1 with a1; injection a1 with a1
    subst a1
    exact ⟨cur, e2⟩
theorem SeenCls.blk {w : World} {g off n c : Nat} {cls : List Rf.Cl} (h : SeenCls w (.slice (some ⟨g, off, none⟩) n c) cls) : ∃ cs, w.heap[g]? = some (.cells cs 72 (0, 0)) := by
  obtain ⟨acc, h1, _⟩ := h.ex
  exact Seen.blk h1
set_option maxHeartbeats 2000000 in
set_option maxRecDepth 100000 in
theorem pchoose_any (w : World) (q : Nat) (rb : Option Nat) (names : List ByteArray) (cf : Rf.Cf) (vc : Value) (cls : List Rf.Cl) (a3 : Option Addr) (n3 c3 : Nat) (ms : List Nat) (N : Nat) (F : Int) (h : QAt w q rb names cf) (hC : SeenCls w vc cls) (hM : Seen w 3 natCells (.slice a3 n3 c3) ms) (hG : Rf.StG N F cf.now) (hN : N ≤ 9000) (hF : F ≤ 1000000) (hne : cf.now.goals ≠ []) (hcg : Rf.ClsG cls) (hms : ∀ k ∈ ms, k < cls.length) (hl20 : cf.chs.length ≤ 20) (hml : ms.length ≤ 30) :
    Calls Tryd.prog 62 #[.pointer (some ⟨q, 0, none⟩), vc, .slice a3 n3 c3] w fun r w' => r = .returned (.int .i64 (Rf.chooseP cls cf ms).1) ∧ (∃ rb', QAt w' q rb' names (Rf.chooseP cls cf ms).2 ∧ Nb w rb rb') ∧ Kept (May q rb) w w' := by
  obtain ⟨vN, vg, vt, fr, vC, hQ⟩ := h.ex
  obtain ⟨k0, k1, k2, k3, k4, kf, kl⟩ := hQ.b.facts
  obtain ⟨ag, cg, rfl⟩ := hQ.s.g.slice
  obtain ⟨ta, tc, rfl⟩ := hQ.s.t.slice
  obtain ⟨ca, cc, rfl⟩ := hQ.r.slice
  obtain ⟨cla, clc, rfl⟩ := hC.slice
  have HQ : Hid _ := hQ
  have HC : Hid _ := hC
  have HM : Hid _ := hM
  have HG : Hid _ := hG
  have Hne : Hid _ := hne
  have HCG : Hid (Rf.ClsG cls) := hcg
  have hn3 : n3 = ms.length := hM.len
  subst hn3
  clear h hQ hC hG hne hcg
  cases ms with
  | nil =>
    have HU : Hid (Rf.chooseP cls cf [] = (-1, cf)) := rfl
    simp only [List.length_nil] at *
    go_enter Tryd.func62, Tryd.ntmps62
    go_wp2_with fail
    go_ret
    rw [HU.out]
    exact ⟨rfl, ⟨rb, HQ.out.at, .inl rfl⟩, Kept.refl _ _⟩
  | cons k rest =>
    have hk := hms k (by simp)
    obtain ⟨gm, om, rfl⟩ := hM.pos (by simp)
    have hgm := hM.lt
    have hmc := hM.cap
    have hm0 := Seen.natAt hM 0 k rfl
    obtain ⟨gc, oc, xx, rfl, hgl, _, hCl, hc0, hc1⟩ := HC.out.at k hk
    have hcG := HCG.out.at hk
    have HU : Hid (Rf.chooseP cls cf (k :: rest) = if rest ≠ [] ∧ 20 ≤ cf.chs.length then (6, cf) else Rf.useP ⟨cf.now, Rf.putCh cf.chs cf.now rest⟩ cf.now (cls.getD k Rf.noCl) cf.chs.length) := rfl
    obtain ⟨cl, hcl⟩ : ∃ cl, Hid (cls.getD k Rf.noCl = cl) := ⟨_, rfl⟩
    rw [hcl.out] at hCl hcG HU
    obtain ⟨⟨ha, hn, hc⟩, ⟨ba, bn, bc⟩⟩ := xx
    simp only [List.length_cons] at hc0 hc1 hmc hml
    rw [Nat.add_zero] at hm0
    have HCl : Hid _ := hCl
    have HcG : Hid _ := hcG
    have Hr1 : Hid (c3 = 1 → Seen w 3 natCells (.slice (some ⟨gm, om, none⟩) rest.length 0) rest) := fun hcc => by have h9 := hM.dropEnd 1 hcc; simpa using h9
    have Hr2 : Hid (Seen w 3 natCells (.slice (some ⟨gm, om + 1, none⟩) rest.length (c3 - 1)) rest) := by unfold Hid; have h9 := hM.drop natCells_len 1 (by simp); simpa using h9
    clear hM hCl hcG
    simp only [List.length_cons]
    cases rest with
    | nil =>
      have HU0 : Hid (Rf.chooseP cls cf [k] = Rf.useP cf cf.now cl cf.chs.length) := by unfold Hid; rw [HU.out, if_neg (by simp)]; rfl
      clear HU
      simp only [List.length_nil] at *
      have HQU : Hid _ := HQ.out
      have HSU : Hid _ := HQ.out.s
      have HCU : Hid _ := HCl.out
      go_enter Tryd.func62, Tryd.ntmps62
      go_wp2_with fail
      all_goals
        go_region_with (go_at_call 57; refine (puse_any _ q rb names cf (.slice ag cf.now.goals.length cg) (.slice ta cf.now.terms.length tc) fr cf.now ⟨ha, hn, hc⟩ ⟨ba, bn, bc⟩ cl cf.chs.length N F (HQU.out.below (by repeat (first | exact Below.refl _ _ | refine Below.setCell ?_ (by simp <;> omega) _ | refine Below.drew ?_ | refine Below.drewN ?_ _ | refine Below.alloc ?_ (by simp <;> omega) _))).at (HSU.out.below (by repeat (first | exact Below.refl _ _ | refine Below.setCell ?_ (by simp <;> omega) _ | refine Below.drew ?_ | refine Below.drewN ?_ _ | refine Below.alloc ?_ (by simp <;> omega) _))) HG.out hN hF Hne.out (HCU.out.below (by repeat (first | exact Below.refl _ _ | refine Below.setCell ?_ (by simp <;> omega) _ | refine Below.drew ?_ | refine Below.drewN ?_ _ | refine Below.alloc ?_ (by simp <;> omega) _))) HcG.out).mono ?_; rintro r w5 ⟨rfl, hQ5, hk5⟩)
        all_goals
          go_wp2_with fail
          go_ret
          rw [HU0.out]
          exact ⟨rfl, ⟨rb, hQ5, .inl rfl⟩, (Kept.of_below ((by repeat (first | exact Below.refl _ _ | refine Below.setCell ?_ (by simp <;> omega) _ | refine Below.drew ?_ | refine Below.drewN ?_ _ | refine Below.alloc ?_ (by simp <;> omega) _)) : Below w.heap.size w _) (May q rb)).trans hk5 (fun _ _ h => h)⟩
    | cons j2 rest =>
      by_cases h20 : 20 ≤ cf.chs.length
      · have HU0 : Hid (Rf.chooseP cls cf (k :: j2 :: rest) = (6, cf)) := by unfold Hid; rw [HU.out, if_pos ⟨by simp, h20⟩]
        have h20' : (20 : Int) ≤ cf.chs.length := by omega
        simp only [List.length_cons] at *
        go_enter Tryd.func62, Tryd.ntmps62
        go_wp2_with fail
        all_goals
          go_ret
          rw [HU0.out]
          exact ⟨rfl, ⟨rb, HQ.out.at, .inl rfl⟩, Kept.refl _ _⟩
      · have HU0 : Hid (Rf.chooseP cls cf (k :: j2 :: rest) = Rf.useP ⟨cf.now, ⟨cf.now, j2 :: rest⟩ :: cf.chs⟩ cf.now cl cf.chs.length) := by unfold Hid; rw [HU.out, if_neg (fun e => h20 e.2)]; rfl
        have h20' : ¬ (20 : Int) ≤ cf.chs.length := by omega
        obtain ⟨acc, hr, hac, ham⟩ := HQ.out.r.ex
        have hal : acc.length = cf.chs.length := by have := congrArg List.length ham; simpa using this
        have HR : Hid _ := hr
        have HAC : Hid _ := hac
        have HAM : Hid _ := ham
        clear hr hac ham HU
        simp only [List.length_cons] at *
        go_enter Tryd.func62, Tryd.ntmps62
        go_wp2_with fail
        have HRb : Hid (∀ X, Below w.heap.size w X → RowIs X 0 104 4 chCells (.slice ca cf.chs.length cc) (acc.map (·.1))) := fun X hX => HR.out.below hX
        have HAb : Hid (∀ y ∈ acc, ∀ X, Below w.heap.size w X → ChIs X y.1 y.2) := fun y hy X hX => (HAC.out y hy).below hX
        have HQb : Hid (∀ X, Below w.heap.size w X → QIs X q rb vN (.slice ag cf.now.goals.length cg) (.slice ta cf.now.terms.length tc) fr (.slice ca cf.chs.length cc) names cf) := fun X hX => HQ.out.below hX
        have HCh : Hid (∀ X, Below w.heap.size w X → ChIs X ⟨⟨ag, cf.now.goals.length, cg⟩, ⟨ta, cf.now.terms.length, tc⟩, fr, ⟨some ⟨gm, om + 1, none⟩, rest.length + 1, c3 - 1⟩⟩ ⟨cf.now, j2 :: rest⟩) := fun X hX => ⟨HQ.out.s.below hX, Seen.below Hr2.out hX⟩
        have hnm : ¬ May q rb gm := by obtain ⟨cs, hcs⟩ := Seen.blk HM.out; exact HQ.out.free.i gm cs hcs
        have hnc : ¬ May q rb gc := by obtain ⟨cs, hcs⟩ := HC.out.blk; exact HQ.out.free.c gc cs hcs
        go_region_law (refine step_app Tryd.elemCh chCells chCells_len chCells_one rfl (.tmp 28) (.tmp 35) rfl 0 (.slice ca cf.chs.length cc) (acc.map (·.1)) rfl (HRb.out _ (by repeat (first | exact Below.refl _ _ | refine Below.setCell ?_ (by simp <;> omega) _ | refine Below.drew ?_ | refine Below.drewN ?_ _ | refine Below.alloc ?_ (by simp <;> omega) _))) ⟨_, 0, none⟩ 1 ⟨⟨ag, cf.now.goals.length, cg⟩, ⟨ta, cf.now.terms.length, tc⟩, fr, ⟨some ⟨gm, om + 1, none⟩, rest.length + 1, c3 - 1⟩⟩ rfl (cell_four_at _ _ (by simp) _ _ _ _ _) (by rw [List.length_map, hal]; omega) (Nat.zero_le _) ?_; intro gA capA w3 hrow3 hgr3 hnb3; rw [List.length_map, hal] at hrow3; obtain ⟨r1, r2, r3⟩ := QIs.push (HQb.out _ (by repeat (first | exact Below.refl _ _ | refine Below.setCell ?_ (by simp <;> omega) _ | refine Below.drew ?_ | refine Below.drewN ?_ _ | refine Below.alloc ?_ (by simp <;> omega) _))) (fun y hy => HAb.out y hy _ (by repeat (first | exact Below.refl _ _ | refine Below.setCell ?_ (by simp <;> omega) _ | refine Below.drew ?_ | refine Below.drewN ?_ _ | refine Below.alloc ?_ (by simp <;> omega) _))) HAM.out (c := ⟨cf.now, j2 :: rest⟩) (HCh.out _ (by repeat (first | exact Below.refl _ _ | refine Below.setCell ?_ (by simp <;> omega) _ | refine Below.drew ?_ | refine Below.drewN ?_ _ | refine Below.alloc ?_ (by simp <;> omega) _))) hrow3 hgr3; obtain ⟨m0, m1, m2, m3, m4, mf, ml⟩ := r3.facts; have HR1 : Hid _ := r1; have HR2 : Hid (Kept (May q rb) w (w3.setCell ⟨q, 4, none⟩ (.slice (some ⟨gA, 0, none⟩) (cf.chs.length + 1) capA))) := (Kept.of_below ((by repeat (first | exact Below.refl _ _ | refine Below.setCell ?_ (by simp <;> omega) _ | refine Below.drew ?_ | refine Below.drewN ?_ _ | refine Below.alloc ?_ (by simp <;> omega) _)) : Below w.heap.size w _) (May q rb)).trans r2 (fun _ _ h => h); have hNB : Hid (Nb w rb (some gA)) := by { unfold Hid; rw [← HQ.out.o]; exact Nb.up hnb3 (by simp <;> omega) }; clear r1 r2 r3)
        all_goals
          generalize w3.setCell ⟨q, 4, none⟩ (.slice (some ⟨gA, 0, none⟩) (cf.chs.length + 1) capA) = w4 at *
          clear m0 m1 m2 m3 m4 mf ml k0 k1 k2 k3 k4 kf
          obtain ⟨m0, m1, m2, m3, m4, mf, ml⟩ := HR1.out.b.facts
          have hm4 := (HR2.out.cell (p := ⟨gm, om, none⟩) hgm hnm).trans hm0
          have hc4 := (HR2.out.cell (p := ⟨gc, oc + k * 2, none⟩) hgl hnc).trans hc0
          have hc5 := (HR2.out.cell (p := ⟨gc, oc + k * 2 + 1, none⟩) hgl hnc).trans hc1
          have hz4 := HR2.out.size
          have hgm4 : gm < w4.heap.size := by omega
          have hgl4 : gc < w4.heap.size := by omega
          have HQU : Hid _ := HR1.out
          have HSU : Hid _ := HR1.out.s
          have HCU : Hid _ := HCl.out.kept HR2.out HQ.out.free
          go_wp2_with fail
          go_region_with (go_at_call 57; refine (puse_any _ q (some gA) names ⟨cf.now, ⟨cf.now, j2 :: rest⟩ :: cf.chs⟩ (.slice ag cf.now.goals.length cg) (.slice ta cf.now.terms.length tc) fr cf.now ⟨ha, hn, hc⟩ ⟨ba, bn, bc⟩ cl cf.chs.length N F (HQU.out.below (by repeat (first | exact Below.refl _ _ | refine Below.setCell ?_ (by simp <;> omega) _ | refine Below.drew ?_ | refine Below.drewN ?_ _ | refine Below.alloc ?_ (by simp <;> omega) _))).at (HSU.out.below (by repeat (first | exact Below.refl _ _ | refine Below.setCell ?_ (by simp <;> omega) _ | refine Below.drew ?_ | refine Below.drewN ?_ _ | refine Below.alloc ?_ (by simp <;> omega) _))) HG.out hN hF Hne.out (HCU.out.below (by repeat (first | exact Below.refl _ _ | refine Below.setCell ?_ (by simp <;> omega) _ | refine Below.drew ?_ | refine Below.drewN ?_ _ | refine Below.alloc ?_ (by simp <;> omega) _))) HcG.out).mono ?_; rintro r w5 ⟨rfl, hQ5, hk5⟩)
          all_goals
            go_wp2_with fail
            go_ret
            rw [HU0.out]
            refine ⟨rfl, ⟨some gA, hQ5, hNB.out⟩, ?_⟩
            refine (HR2.out.trans (Kept.of_below ((by repeat (first | exact Below.refl _ _ | refine Below.setCell ?_ (by simp <;> omega) _ | refine Below.drew ?_ | refine Below.drewN ?_ _ | refine Below.alloc ?_ (by simp <;> omega) _)) : Below w4.heap.size w4 _) (May q rb)) (fun _ _ h => h)).trans hk5 (fun i hi hm => ?_)
            rcases hm with rfl | hm
            · exact .inl rfl
            · rcases hNB.out with e | ⟨j, e, hj⟩
              · exact .inr (by rw [← e]; exact hm)
              · rw [e] at hm; injection hm with hm; omega
end Go.Proofs.YtpdikdnffehmkaaDoor
