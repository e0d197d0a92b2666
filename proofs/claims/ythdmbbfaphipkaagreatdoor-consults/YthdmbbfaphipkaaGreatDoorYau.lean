/- What the document's reading does at a clause with a body (promptref: Clause), and so at every clause. -/
import Derived.Test.YthdmbbfaphipkaaGreatDoorYat
import Derived.Test.YthdmbbfaphipkaaGreatDoorYaa
namespace Go.Proofs.YthdmbbfaphipkaaGreatDoor
open Go.RowKit
set_option maxHeartbeats 1000000 in
set_option maxRecDepth 100000 in
theorem clause_body_err (f b g : Nat) (nb : Option Nat) (t : Rf.Tok) (l : List Rf.Tok) (ns : List ByteArray) (w : World) (h : Rd w b g nb (t :: l) ns) (hl : (t :: l).length ≤ f) (ps : List Rf.Part) (u : Rf.Tok) (l2 : List Rf.Tok) (ns1 : List ByteArray) (hr : Rf.termS f (t :: l) [] = .ok (ps, u :: l2, ns1)) (hh : Rf.headB ps = true) (h58 : (u.k == 58) = true) (eE : Int) (qE : Nat) (hg : Rf.goalsS f 8 [] l2 ns1 = .error (eE, qE)) :
    Calls Tryz.prog 68 #[.pointer (some ⟨b, 0, none⟩)] w fun r w' => ClausePost w b g nb (Rf.clauseS f (t :: l)) r w' := by
  have e58 : u.k = 58 := eq_of_beq h58
  have h63 : (u.k == 63) = false := beq_eq_false_iff_ne.2 (by omega)
  have Hu0 : Hid (u.k ≠ 0) := by unfold Hid; omega
  have hl2 : l2.length ≤ f := by have := Rf.termS_len f _ _ _ _ _ hr; simp only [List.length_cons] at this hl; omega
  have HR : Hid _ := hr
  have HH : Hid _ := hh
  have hS : Hid (Rf.clauseS f (t :: l) = .error (eE, qE)) := by
    unfold Hid; simp only [Rf.clauseS]; rw [hr]; simp only []; rw [if_pos hh, if_pos e58, hg]
  have HG : Hid _ := hg
  clear hg e58
  clear hr hh
  have H : Hid _ := h.unnamed
  obtain ⟨hbl, hgl, _⟩ := h.lt
  obtain ⟨vL, I, a, n, c, hB⟩ := h.err
  obtain ⟨q0, q1, q2, q3, q4, qf, qb⟩ := hB.facts
  clear h hB
  go_enter Tryz.func68, Tryz.ntmps68
  go_wp2_with (first
    | (go_at_call 67; refine (now_any b g none t l [] _ (H.out.alloc _)).mono ?_; rintro e w1 ⟨rfl, hb1⟩; have hG1 := (hb1.block w.heap.size (by simp)).trans (blk_at _ _ _ (by simp)); have hs1 : w.heap.size + 1 ≤ w1.heap.size := (by have := hb1.size; simpa using this); have hRa := (H.out.alloc _).below hb1)
    | (go_at_call 96; refine (term_any f b g none (t :: l) [] _ (hRa.alloc _) hl).mono ?_; rintro r w2 ⟨p, rfl, hp, hAny, hK2, hm⟩; rw [HR.out] at hm; have hnm : ∀ k, w.heap.size ≤ k → ¬ May b none k := (fun k hk e => by rcases e with e | e; omega; cases e); have hG2 := (hK2.block w.heap.size (by simp; omega) (hnm _ (Nat.le_refl _))).trans (blk_alloc hG1 _); have hX2 : Box w2 w1.heap.size t := (hK2.block w1.heap.size (by simp) (hnm _ (by omega))).trans (blk_new _ _); have hs2 : w1.heap.size + 1 ≤ w2.heap.size := (by have := hK2.size; simpa using this); obtain ⟨nb2, hR2, hn2, hT2⟩ := hm; obtain ⟨kk, nn, ss, aa, ll, cc, hT, hkk⟩ := hT2.head; obtain ⟨_, k118, k110, kb⟩ := hkk.resolve_right (fun x => absurd (x.1.symm.trans HH.out) (by decide)); obtain ⟨yL, yI, ya, yc, hBy⟩ := hR2.names; obtain ⟨y0, y1, y2, y3, y4, yf, yb⟩ := hBy.facts; have hnbC : nb2 ≠ some w2.heap.size := (fun e => by have := (hR2.lt.2.2.1 _ e).1; omega); have hnbN : nb2 ≠ some w.heap.size := hn2.ne (by simp) (by simp; omega); have hnbl : ∀ x, nb2 = some x → w1.heap.size < x := (fun x e => by rcases hn2 with e2 | ⟨k, e2, hk⟩; rw [e] at e2; cases e2; rw [e] at e2; have := Option.some.inj e2; simp at hk; omega); have k0 : w2.cell? ⟨p, 0, none⟩ = some (.int .u8 kk) := blk_cell hT 0; have pl := blk_lt hT; have x0 : w2.cell? ⟨w1.heap.size, 0, none⟩ = some (.int .u8 t.k) := blk_cell hX2 0; have x1 : w2.cell? ⟨w1.heap.size, 1, none⟩ = some (.int .i64 t.at_) := blk_cell hX2 1; have x2 : w2.cell? ⟨w1.heap.size, 2, none⟩ = some (.string t.s) := blk_cell hX2 2; have x3 : w2.cell? ⟨w1.heap.size, 3, none⟩ = some (.int .i64 t.e) := blk_cell hX2 3; have xl : w1.heap.size < w2.heap.size := (by omega); have wl : w.heap.size < w2.heap.size := (by omega); have bl : b < w2.heap.size := (by omega); have u0 : w2.cell? ⟨w.heap.size, 0, none⟩ = some (.pointer none) := blk_cell hG2 0; have u1 : w2.cell? ⟨w.heap.size, 1, none⟩ = some (.slice none 0 0) := blk_cell hG2 1; have u2 : w2.cell? ⟨w.heap.size, 2, none⟩ = some (.int .i64 0) := blk_cell hG2 2; have uf := blk_frozen hG2)
    | (go_at_call 97; refine (builtIn_any p kk nn ss aa ll cc _ (blk_alloc hT _)).mono ?_; rintro r wx ⟨rfl, rfl⟩)
    | (go_at_call 99; refine (is_no b g nb2 u l2 ns1 58 _ (hR2.alloc _) h63).mono ?_; rintro r w3 ⟨rfl, hb3⟩; have hR3 := (hR2.alloc _).below hb3; have hC3 := (hb3.block w2.heap.size (by simp)).trans (blk_new _ _); have hG3 := (hb3.block w.heap.size (by simp; omega)).trans (blk_alloc hG2 _); have hs3 : w2.heap.size + 1 ≤ w3.heap.size := (by have := hb3.size; simpa using this); obtain ⟨iL, iN, iI, hBi, hIi, hN3⟩ := hR3.next Hu0.out (beq_eq_false_iff_ne.1 h63); obtain ⟨i0, i1, i2, i3, i4, jf, jb⟩ := hBi.facts; have hgC : g ≠ w2.heap.size := (by omega); have hCN : ¬ w2.heap.size = w.heap.size := (by omega); have hNC : ¬ w.heap.size = w2.heap.size := (by omega); have hbC : ¬ b = w2.heap.size := (by omega); have hCb : ¬ w2.heap.size = b := (by omega); have hbN : ¬ b = w.heap.size := (by omega); have hNb : ¬ w.heap.size = b := (by omega))
    | (go_at_call 69; refine (goals_any f b g nb2 l2 ns1 _ hN3 hl2).mono ?_; rintro r w4 ⟨ga, gn, gc, rfl, hK4, hm4⟩; rw [HG.out] at hm4; have hC4 := (hK4.block w2.heap.size (by simp; omega) (fun e => by rcases e with e | e; exact hCb e; exact hnbC e.symm)).trans ((Below.heap_setCell _ _ _ _ hCb).trans hC3); have hG4 := (hK4.block w.heap.size (by simp; omega) (fun e => by rcases e with e | e; exact hNb e; exact hnbN e.symm)).trans ((Below.heap_setCell _ _ _ _ hNb).trans hG3); have hs4 : w3.heap.size ≤ w4.heap.size := (by have := hK4.size; simpa using this); obtain ⟨eL, eI, ea, en, ec, hBe, hne⟩ := RdE.ex hm4; obtain ⟨m0, m1, m2, m3, m4, mf, mb⟩ := hBe.facts; have he0 : (eE == 0) = false := beq_eq_false_iff_ne.2 hne; have d0 : w4.cell? ⟨w2.heap.size, 0, none⟩ = some (.pointer (some ⟨p, 0, none⟩)) := blk_cell hC4 0; have d1 : w4.cell? ⟨w2.heap.size, 1, none⟩ = some (.slice none 0 0) := blk_cell hC4 1; have d2 : w4.cell? ⟨w2.heap.size, 2, none⟩ = some (.int .i64 0) := blk_cell hC4 2; have df := blk_frozen hC4; have e0 : w4.cell? ⟨w.heap.size, 0, none⟩ = some (.pointer none) := blk_cell hG4 0; have e1 : w4.cell? ⟨w.heap.size, 1, none⟩ = some (.slice none 0 0) := blk_cell hG4 1; have e2 : w4.cell? ⟨w.heap.size, 2, none⟩ = some (.int .i64 0) := blk_cell hG4 2; have ef := blk_frozen hG4))
  refine bodyPost_ret (v := .agg #[.pointer (some ⟨p, 0, none⟩), .slice ga gn gc, .int .i64 en]) (by simp [results, Tryz.results68, go_sem, *]) rfl ?_
  rw [hS.out]
  exact ⟨_, _, _, _, _, rfl, ((((((((((((((Kept.refl (May b nb) w).setCell (p := ⟨b, 2, none⟩) (.inr (.inl rfl)) _).alloc _).trans (Kept.of_below hb1 (May b nb)) (fun _ _ e => e)).alloc _).trans hK2 (fun k _ e => May.none k e)).alloc _).trans (Kept.of_below hb3 (May b nb)) (fun _ _ e => e)).setCell (p := ⟨b, 1, none⟩) (.inr (.inl rfl)) _).trans hK4 (fun k hk e => by rcases e with e | e; exact Or.inl e; exact absurd (hnbl k e.symm) (by omega))).setCell (p := ⟨w2.heap.size, 1, none⟩) (.inl (show w.heap.size ≤ w2.heap.size by omega)) _).setCell (p := ⟨w2.heap.size, 2, none⟩) (.inl (show w.heap.size ≤ w2.heap.size by omega)) _).setCell (p := ⟨w.heap.size, 0, none⟩) (.inl (Nat.le_refl _)) _).setCell (p := ⟨w.heap.size, 1, none⟩) (.inl (Nat.le_refl _)) _).setCell (p := ⟨w.heap.size, 2, none⟩) (.inl (Nat.le_refl _)) _, ((((RdE.setOther hm4 _ _ _ hbC).setOther _ _ _ hbC).setOther _ _ _ hbN).setOther _ _ _ hbN).setOther _ _ _ hbN⟩
set_option maxHeartbeats 1000000 in
set_option maxRecDepth 100000 in
theorem clause_body_bad (f b g : Nat) (nb : Option Nat) (t : Rf.Tok) (l : List Rf.Tok) (ns : List ByteArray) (w : World) (h : Rd w b g nb (t :: l) ns) (hl : (t :: l).length ≤ f) (ps : List Rf.Part) (u : Rf.Tok) (l2 : List Rf.Tok) (ns1 : List ByteArray) (hr : Rf.termS f (t :: l) [] = .ok (ps, u :: l2, ns1)) (hh : Rf.headB ps = true) (h58 : (u.k == 58) = true) (gs : List (List Rf.Part)) (y : Rf.Tok) (l3 : List Rf.Tok) (ns2 : List ByteArray) (hg : Rf.goalsS f 8 [] l2 ns1 = .ok (gs, y :: l3, ns2)) (h46 : (y.k != 46) = true) :
    Calls Tryz.prog 68 #[.pointer (some ⟨b, 0, none⟩)] w fun r w' => ClausePost w b g nb (Rf.clauseS f (t :: l)) r w' := by
  have e58 : u.k = 58 := eq_of_beq h58
  have h63 : (u.k == 63) = false := beq_eq_false_iff_ne.2 (by omega)
  have Hu0 : Hid (u.k ≠ 0) := by unfold Hid; omega
  have hl2 : l2.length ≤ f := by have := Rf.termS_len f _ _ _ _ _ hr; simp only [List.length_cons] at this hl; omega
  have HR : Hid _ := hr
  have HH : Hid _ := hh
  have hS : Hid (Rf.clauseS f (t :: l) = .error (Rf.errOf y 2)) := by
    unfold Hid; simp only [Rf.clauseS]; rw [hr]; simp only []; rw [if_pos hh, if_pos e58, hg]; simp only []; rw [dotS_bad _ _ _ _ h46]
  have HG : Hid _ := hg
  clear hg e58
  clear hr hh
  have H : Hid _ := h.unnamed
  obtain ⟨hbl, hgl, _⟩ := h.lt
  obtain ⟨vL, I, a, n, c, hB⟩ := h.err
  obtain ⟨q0, q1, q2, q3, q4, qf, qb⟩ := hB.facts
  clear h hB
  go_enter Tryz.func68, Tryz.ntmps68
  go_wp2_with (first
    | (go_at_call 67; refine (now_any b g none t l [] _ (H.out.alloc _)).mono ?_; rintro e w1 ⟨rfl, hb1⟩; have hG1 := (hb1.block w.heap.size (by simp)).trans (blk_at _ _ _ (by simp)); have hs1 : w.heap.size + 1 ≤ w1.heap.size := (by have := hb1.size; simpa using this); have hRa := (H.out.alloc _).below hb1)
    | (go_at_call 96; refine (term_any f b g none (t :: l) [] _ (hRa.alloc _) hl).mono ?_; rintro r w2 ⟨p, rfl, hp, hAny, hK2, hm⟩; rw [HR.out] at hm; have hnm : ∀ k, w.heap.size ≤ k → ¬ May b none k := (fun k hk e => by rcases e with e | e; omega; cases e); have hG2 := (hK2.block w.heap.size (by simp; omega) (hnm _ (Nat.le_refl _))).trans (blk_alloc hG1 _); have hX2 : Box w2 w1.heap.size t := (hK2.block w1.heap.size (by simp) (hnm _ (by omega))).trans (blk_new _ _); have hs2 : w1.heap.size + 1 ≤ w2.heap.size := (by have := hK2.size; simpa using this); obtain ⟨nb2, hR2, hn2, hT2⟩ := hm; obtain ⟨kk, nn, ss, aa, ll, cc, hT, hkk⟩ := hT2.head; obtain ⟨_, k118, k110, kb⟩ := hkk.resolve_right (fun x => absurd (x.1.symm.trans HH.out) (by decide)); obtain ⟨yL, yI, ya, yc, hBy⟩ := hR2.names; obtain ⟨y0, y1, y2, y3, y4, yf, yb⟩ := hBy.facts; have hnbC : nb2 ≠ some w2.heap.size := (fun e => by have := (hR2.lt.2.2.1 _ e).1; omega); have hnbN : nb2 ≠ some w.heap.size := hn2.ne (by simp) (by simp; omega); have hnbl : ∀ x, nb2 = some x → w1.heap.size < x := (fun x e => by rcases hn2 with e2 | ⟨k, e2, hk⟩; rw [e] at e2; cases e2; rw [e] at e2; have := Option.some.inj e2; simp at hk; omega); have k0 : w2.cell? ⟨p, 0, none⟩ = some (.int .u8 kk) := blk_cell hT 0; have pl := blk_lt hT; have x0 : w2.cell? ⟨w1.heap.size, 0, none⟩ = some (.int .u8 t.k) := blk_cell hX2 0; have x1 : w2.cell? ⟨w1.heap.size, 1, none⟩ = some (.int .i64 t.at_) := blk_cell hX2 1; have x2 : w2.cell? ⟨w1.heap.size, 2, none⟩ = some (.string t.s) := blk_cell hX2 2; have x3 : w2.cell? ⟨w1.heap.size, 3, none⟩ = some (.int .i64 t.e) := blk_cell hX2 3; have xl : w1.heap.size < w2.heap.size := (by omega); have wl : w.heap.size < w2.heap.size := (by omega); have bl : b < w2.heap.size := (by omega); have u0 : w2.cell? ⟨w.heap.size, 0, none⟩ = some (.pointer none) := blk_cell hG2 0; have u1 : w2.cell? ⟨w.heap.size, 1, none⟩ = some (.slice none 0 0) := blk_cell hG2 1; have u2 : w2.cell? ⟨w.heap.size, 2, none⟩ = some (.int .i64 0) := blk_cell hG2 2; have uf := blk_frozen hG2)
    | (go_at_call 97; refine (builtIn_any p kk nn ss aa ll cc _ (blk_alloc hT _)).mono ?_; rintro r wx ⟨rfl, rfl⟩)
    | (go_at_call 99; refine (is_no b g nb2 u l2 ns1 58 _ (hR2.alloc _) h63).mono ?_; rintro r w3 ⟨rfl, hb3⟩; have hR3 := (hR2.alloc _).below hb3; have hC3 := (hb3.block w2.heap.size (by simp)).trans (blk_new _ _); have hG3 := (hb3.block w.heap.size (by simp; omega)).trans (blk_alloc hG2 _); have hs3 : w2.heap.size + 1 ≤ w3.heap.size := (by have := hb3.size; simpa using this); obtain ⟨iL, iN, iI, hBi, hIi, hN3⟩ := hR3.next Hu0.out (beq_eq_false_iff_ne.1 h63); obtain ⟨i0, i1, i2, i3, i4, jf, jb⟩ := hBi.facts; have hgC : g ≠ w2.heap.size := (by omega); have hCN : ¬ w2.heap.size = w.heap.size := (by omega); have hNC : ¬ w.heap.size = w2.heap.size := (by omega); have hbC : ¬ b = w2.heap.size := (by omega); have hCb : ¬ w2.heap.size = b := (by omega); have hbN : ¬ b = w.heap.size := (by omega); have hNb : ¬ w.heap.size = b := (by omega))
    | (go_at_call 69; refine (goals_any f b g nb2 l2 ns1 _ hN3 hl2).mono ?_; rintro r w4 ⟨ga, gn, gc, rfl, hK4, hm4⟩; rw [HG.out] at hm4; have hC4 := (hK4.block w2.heap.size (by simp; omega) (fun e => by rcases e with e | e; exact hCb e; exact hnbC e.symm)).trans ((Below.heap_setCell _ _ _ _ hCb).trans hC3); have hG4 := (hK4.block w.heap.size (by simp; omega) (fun e => by rcases e with e | e; exact hNb e; exact hnbN e.symm)).trans ((Below.heap_setCell _ _ _ _ hNb).trans hG3); have hs4 : w3.heap.size ≤ w4.heap.size := (by have := hK4.size; simpa using this); obtain ⟨nb4, acc, hR4, hn4, hGs, hgs, hacc⟩ := hm4; obtain ⟨eL, eI, ea, ec, hBe⟩ := hR4.names; obtain ⟨m0, m1, m2, m3, m4, mf, mb⟩ := hBe.facts; have hnb4C : nb4 ≠ some w2.heap.size := hn4.ne hnbC (by simp; omega); have hnb4N : nb4 ≠ some w.heap.size := hn4.ne hnbN (by simp; omega); have d0 : w4.cell? ⟨w2.heap.size, 0, none⟩ = some (.pointer (some ⟨p, 0, none⟩)) := blk_cell hC4 0; have d1 : w4.cell? ⟨w2.heap.size, 1, none⟩ = some (.slice none 0 0) := blk_cell hC4 1; have d2 : w4.cell? ⟨w2.heap.size, 2, none⟩ = some (.int .i64 0) := blk_cell hC4 2; have df := blk_frozen hC4; have e0 : w4.cell? ⟨w.heap.size, 0, none⟩ = some (.pointer none) := blk_cell hG4 0; have e1 : w4.cell? ⟨w.heap.size, 1, none⟩ = some (.slice none 0 0) := blk_cell hG4 1; have e2 : w4.cell? ⟨w.heap.size, 2, none⟩ = some (.int .i64 0) := blk_cell hG4 2; have ef := blk_frozen hG4)
    | (go_at_call 70; refine (must_bad b g nb4 y l3 ns2 46 _ (hR4.setOther _ _ _ hbC hgC hnb4C) h46).mono ?_; rintro r w5 ⟨rfl, hE9, hK9⟩; obtain ⟨wL, wI, wa, wn, wc, hB9, hne9⟩ := hE9.ex; obtain ⟨o0, o1, o2, o3, o4, of, ob⟩ := hB9.facts; have hC9 := (hK9.block w2.heap.size (by first | omega | (simp; omega)) (by omega)).trans (blk_set hC4 1 _); have hG9 := (hK9.block w.heap.size (by first | omega | (simp; omega)) (by omega)).trans ((Below.heap_setCell _ _ _ _ hNC).trans hG4); have c0 : w5.cell? ⟨w2.heap.size, 0, none⟩ = some (.pointer (some ⟨p, 0, none⟩)) := blk_cell hC9 0; have c1 : w5.cell? ⟨w2.heap.size, 1, none⟩ = some (.slice ga gn gc) := blk_cell hC9 1; have c2 : w5.cell? ⟨w2.heap.size, 2, none⟩ = some (.int .i64 0) := blk_cell hC9 2; have cf := blk_frozen hC9; have g0 : w5.cell? ⟨w.heap.size, 0, none⟩ = some (.pointer none) := blk_cell hG9 0; have g1 : w5.cell? ⟨w.heap.size, 1, none⟩ = some (.slice none 0 0) := blk_cell hG9 1; have g2 : w5.cell? ⟨w.heap.size, 2, none⟩ = some (.int .i64 0) := blk_cell hG9 2; have gf := blk_frozen hG9))
  refine bodyPost_ret (v := .agg #[.pointer (some ⟨p, 0, none⟩), .slice ga gn gc, .int .i64 wn]) (by simp [results, Tryz.results68, go_sem, *]) rfl ?_
  rw [hS.out]
  exact ⟨_, _, _, _, _, rfl, (((((((((((((((Kept.refl (May b nb) w).setCell (p := ⟨b, 2, none⟩) (.inr (.inl rfl)) _).alloc _).trans (Kept.of_below hb1 (May b nb)) (fun _ _ e => e)).alloc _).trans hK2 (fun k _ e => May.none k e)).alloc _).trans (Kept.of_below hb3 (May b nb)) (fun _ _ e => e)).setCell (p := ⟨b, 1, none⟩) (.inr (.inl rfl)) _).trans hK4 (fun k hk e => by rcases e with e | e; exact Or.inl e; exact absurd (hnbl k e.symm) (by omega))).setCell (p := ⟨w2.heap.size, 1, none⟩) (.inl (show w.heap.size ≤ w2.heap.size by omega)) _).trans hK9 (fun _ _ e => Or.inl e)).setCell (p := ⟨w2.heap.size, 2, none⟩) (.inl (show w.heap.size ≤ w2.heap.size by omega)) _).setCell (p := ⟨w.heap.size, 0, none⟩) (.inl (Nat.le_refl _)) _).setCell (p := ⟨w.heap.size, 1, none⟩) (.inl (Nat.le_refl _)) _).setCell (p := ⟨w.heap.size, 2, none⟩) (.inl (Nat.le_refl _)) _, (((hE9.setOther _ _ _ hbC).setOther _ _ _ hbN).setOther _ _ _ hbN).setOther _ _ _ hbN⟩
set_option maxHeartbeats 1000000 in
set_option maxRecDepth 100000 in
theorem clause_body_ok (f b g : Nat) (nb : Option Nat) (t : Rf.Tok) (l : List Rf.Tok) (ns : List ByteArray) (w : World) (h : Rd w b g nb (t :: l) ns) (hl : (t :: l).length ≤ f) (ps : List Rf.Part) (u : Rf.Tok) (l2 : List Rf.Tok) (ns1 : List ByteArray) (hr : Rf.termS f (t :: l) [] = .ok (ps, u :: l2, ns1)) (hh : Rf.headB ps = true) (h58 : (u.k == 58) = true) (gs : List (List Rf.Part)) (y : Rf.Tok) (l3 : List Rf.Tok) (ns2 : List ByteArray) (hg : Rf.goalsS f 8 [] l2 ns1 = .ok (gs, y :: l3, ns2)) (h46 : (y.k != 46) = false) :
    Calls Tryz.prog 68 #[.pointer (some ⟨b, 0, none⟩)] w fun r w' => ClausePost w b g nb (Rf.clauseS f (t :: l)) r w' := by
  have e58 : u.k = 58 := eq_of_beq h58
  have h63 : (u.k == 63) = false := beq_eq_false_iff_ne.2 (by omega)
  have Hu0 : Hid (u.k ≠ 0) := by unfold Hid; omega
  have hl2 : l2.length ≤ f := by have := Rf.termS_len f _ _ _ _ _ hr; simp only [List.length_cons] at this hl; omega
  have HR : Hid _ := hr
  have HH : Hid _ := hh
  have hS : Hid (Rf.clauseS f (t :: l) = .ok (⟨ps, gs, ns2.length⟩, l3)) := by
    unfold Hid; simp only [Rf.clauseS]; rw [hr]; simp only []; rw [if_pos hh, if_pos e58, hg]; simp only []; rw [dotS_ok _ _ _ _ h46]
  have H0' : Hid (y.k ≠ 0) := by have : y.k = 46 := (by simpa using h46); unfold Hid; omega
  have hy63 : (y.k == 63) = false := by have : y.k = 46 := (by simpa using h46); rw [this]; decide
  have HG : Hid _ := hg
  clear hg e58
  clear hr hh
  have H : Hid _ := h.unnamed
  obtain ⟨hbl, hgl, _⟩ := h.lt
  obtain ⟨vL, I, a, n, c, hB⟩ := h.err
  obtain ⟨q0, q1, q2, q3, q4, qf, qb⟩ := hB.facts
  clear h hB
  go_enter Tryz.func68, Tryz.ntmps68
  go_wp2_with (first
    | (go_at_call 67; refine (now_any b g none t l [] _ (H.out.alloc _)).mono ?_; rintro e w1 ⟨rfl, hb1⟩; have hG1 := (hb1.block w.heap.size (by simp)).trans (blk_at _ _ _ (by simp)); have hs1 : w.heap.size + 1 ≤ w1.heap.size := (by have := hb1.size; simpa using this); have hRa := (H.out.alloc _).below hb1)
    | (go_at_call 96; refine (term_any f b g none (t :: l) [] _ (hRa.alloc _) hl).mono ?_; rintro r w2 ⟨p, rfl, hp, hAny, hK2, hm⟩; rw [HR.out] at hm; have hnm : ∀ k, w.heap.size ≤ k → ¬ May b none k := (fun k hk e => by rcases e with e | e; omega; cases e); have hG2 := (hK2.block w.heap.size (by simp; omega) (hnm _ (Nat.le_refl _))).trans (blk_alloc hG1 _); have hX2 : Box w2 w1.heap.size t := (hK2.block w1.heap.size (by simp) (hnm _ (by omega))).trans (blk_new _ _); have hs2 : w1.heap.size + 1 ≤ w2.heap.size := (by have := hK2.size; simpa using this); obtain ⟨nb2, hR2, hn2, hT2⟩ := hm; obtain ⟨kk, nn, ss, aa, ll, cc, hT, hkk⟩ := hT2.head; obtain ⟨_, k118, k110, kb⟩ := hkk.resolve_right (fun x => absurd (x.1.symm.trans HH.out) (by decide)); obtain ⟨yL, yI, ya, yc, hBy⟩ := hR2.names; obtain ⟨y0, y1, y2, y3, y4, yf, yb⟩ := hBy.facts; have hnbC : nb2 ≠ some w2.heap.size := (fun e => by have := (hR2.lt.2.2.1 _ e).1; omega); have hnbN : nb2 ≠ some w.heap.size := hn2.ne (by simp) (by simp; omega); have hnbl : ∀ x, nb2 = some x → w1.heap.size < x := (fun x e => by rcases hn2 with e2 | ⟨k, e2, hk⟩; rw [e] at e2; cases e2; rw [e] at e2; have := Option.some.inj e2; simp at hk; omega); have k0 : w2.cell? ⟨p, 0, none⟩ = some (.int .u8 kk) := blk_cell hT 0; have pl := blk_lt hT; have x0 : w2.cell? ⟨w1.heap.size, 0, none⟩ = some (.int .u8 t.k) := blk_cell hX2 0; have x1 : w2.cell? ⟨w1.heap.size, 1, none⟩ = some (.int .i64 t.at_) := blk_cell hX2 1; have x2 : w2.cell? ⟨w1.heap.size, 2, none⟩ = some (.string t.s) := blk_cell hX2 2; have x3 : w2.cell? ⟨w1.heap.size, 3, none⟩ = some (.int .i64 t.e) := blk_cell hX2 3; have xl : w1.heap.size < w2.heap.size := (by omega); have wl : w.heap.size < w2.heap.size := (by omega); have bl : b < w2.heap.size := (by omega); have u0 : w2.cell? ⟨w.heap.size, 0, none⟩ = some (.pointer none) := blk_cell hG2 0; have u1 : w2.cell? ⟨w.heap.size, 1, none⟩ = some (.slice none 0 0) := blk_cell hG2 1; have u2 : w2.cell? ⟨w.heap.size, 2, none⟩ = some (.int .i64 0) := blk_cell hG2 2; have uf := blk_frozen hG2)
    | (go_at_call 97; refine (builtIn_any p kk nn ss aa ll cc _ (blk_alloc hT _)).mono ?_; rintro r wx ⟨rfl, rfl⟩)
    | (go_at_call 99; refine (is_no b g nb2 u l2 ns1 58 _ (hR2.alloc _) h63).mono ?_; rintro r w3 ⟨rfl, hb3⟩; have hR3 := (hR2.alloc _).below hb3; have hC3 := (hb3.block w2.heap.size (by simp)).trans (blk_new _ _); have hG3 := (hb3.block w.heap.size (by simp; omega)).trans (blk_alloc hG2 _); have hs3 : w2.heap.size + 1 ≤ w3.heap.size := (by have := hb3.size; simpa using this); obtain ⟨iL, iN, iI, hBi, hIi, hN3⟩ := hR3.next Hu0.out (beq_eq_false_iff_ne.1 h63); obtain ⟨i0, i1, i2, i3, i4, jf, jb⟩ := hBi.facts; have hgC : g ≠ w2.heap.size := (by omega); have hCN : ¬ w2.heap.size = w.heap.size := (by omega); have hNC : ¬ w.heap.size = w2.heap.size := (by omega); have hbC : ¬ b = w2.heap.size := (by omega); have hCb : ¬ w2.heap.size = b := (by omega); have hbN : ¬ b = w.heap.size := (by omega); have hNb : ¬ w.heap.size = b := (by omega))
    | (go_at_call 69; refine (goals_any f b g nb2 l2 ns1 _ hN3 hl2).mono ?_; rintro r w4 ⟨ga, gn, gc, rfl, hK4, hm4⟩; rw [HG.out] at hm4; have hC4 := (hK4.block w2.heap.size (by simp; omega) (fun e => by rcases e with e | e; exact hCb e; exact hnbC e.symm)).trans ((Below.heap_setCell _ _ _ _ hCb).trans hC3); have hG4 := (hK4.block w.heap.size (by simp; omega) (fun e => by rcases e with e | e; exact hNb e; exact hnbN e.symm)).trans ((Below.heap_setCell _ _ _ _ hNb).trans hG3); have hs4 : w3.heap.size ≤ w4.heap.size := (by have := hK4.size; simpa using this); obtain ⟨nb4, acc, hR4, hn4, hGs, hgs, hacc⟩ := hm4; obtain ⟨eL, eI, ea, ec, hBe⟩ := hR4.names; obtain ⟨m0, m1, m2, m3, m4, mf, mb⟩ := hBe.facts; have hnb4C : nb4 ≠ some w2.heap.size := hn4.ne hnbC (by simp; omega); have hnb4N : nb4 ≠ some w.heap.size := hn4.ne hnbN (by simp; omega); have d0 : w4.cell? ⟨w2.heap.size, 0, none⟩ = some (.pointer (some ⟨p, 0, none⟩)) := blk_cell hC4 0; have d1 : w4.cell? ⟨w2.heap.size, 1, none⟩ = some (.slice none 0 0) := blk_cell hC4 1; have d2 : w4.cell? ⟨w2.heap.size, 2, none⟩ = some (.int .i64 0) := blk_cell hC4 2; have df := blk_frozen hC4; have e0 : w4.cell? ⟨w.heap.size, 0, none⟩ = some (.pointer none) := blk_cell hG4 0; have e1 : w4.cell? ⟨w.heap.size, 1, none⟩ = some (.slice none 0 0) := blk_cell hG4 1; have e2 : w4.cell? ⟨w.heap.size, 2, none⟩ = some (.int .i64 0) := blk_cell hG4 2; have ef := blk_frozen hG4)
    | (go_at_call 70; refine (must_ok b g nb4 y l3 ns2 46 _ (hR4.setOther _ _ _ hbC hgC hnb4C) h46 H0'.out (beq_eq_false_iff_ne.1 hy63)).mono ?_; rintro r w5 ⟨rfl, hR9, hK9⟩; obtain ⟨wL, wI, wa, wc, hB9⟩ := hR9.names; obtain ⟨o0, o1, o2, o3, o4, of, ob⟩ := hB9.facts; have hC9 := (hK9.block w2.heap.size (by first | omega | (simp; omega)) (by omega)).trans (blk_set hC4 1 _); have hG9 := (hK9.block w.heap.size (by first | omega | (simp; omega)) (by omega)).trans ((Below.heap_setCell _ _ _ _ hNC).trans hG4); have c0 : w5.cell? ⟨w2.heap.size, 0, none⟩ = some (.pointer (some ⟨p, 0, none⟩)) := blk_cell hC9 0; have c1 : w5.cell? ⟨w2.heap.size, 1, none⟩ = some (.slice ga gn gc) := blk_cell hC9 1; have c2 : w5.cell? ⟨w2.heap.size, 2, none⟩ = some (.int .i64 0) := blk_cell hC9 2; have cf := blk_frozen hC9; have g0 : w5.cell? ⟨w.heap.size, 0, none⟩ = some (.pointer none) := blk_cell hG9 0; have g1 : w5.cell? ⟨w.heap.size, 1, none⟩ = some (.slice none 0 0) := blk_cell hG9 1; have g2 : w5.cell? ⟨w.heap.size, 2, none⟩ = some (.int .i64 0) := blk_cell hG9 2; have gf := blk_frozen hG9))
  refine bodyPost_ret (v := .agg #[.pointer (some ⟨p, 0, none⟩), .slice ga gn gc, .int .i64 ns2.length]) (by simp [results, Tryz.results68, go_sem, *]) rfl ?_
  rw [hS.out]
  have hgN : g ≠ w.heap.size := by omega
  have hs9 : w4.heap.size ≤ w5.heap.size := by have := hK9.size; simpa using this
  refine ⟨_, _, _, _, _, rfl, (((((((((((((((Kept.refl (May b nb) w).setCell (p := ⟨b, 2, none⟩) (.inr (.inl rfl)) _).alloc _).trans (Kept.of_below hb1 (May b nb)) (fun _ _ e => e)).alloc _).trans hK2 (fun k _ e => May.none k e)).alloc _).trans (Kept.of_below hb3 (May b nb)) (fun _ _ e => e)).setCell (p := ⟨b, 1, none⟩) (.inr (.inl rfl)) _).trans hK4 (fun k hk e => by rcases e with e | e; exact Or.inl e; exact absurd (hnbl k e.symm) (by omega))).setCell (p := ⟨w2.heap.size, 1, none⟩) (.inl (show w.heap.size ≤ w2.heap.size by omega)) _).trans hK9 (fun _ _ e => Or.inl e)).setCell (p := ⟨w2.heap.size, 2, none⟩) (.inl (show w.heap.size ≤ w2.heap.size by omega)) _).setCell (p := ⟨w.heap.size, 0, none⟩) (.inl (Nat.le_refl _)) _).setCell (p := ⟨w.heap.size, 1, none⟩) (.inl (Nat.le_refl _)) _).setCell (p := ⟨w.heap.size, 2, none⟩) (.inl (Nat.le_refl _)) _, nb4, ns2, (((hR9.setOther _ _ _ hbC hgC hnb4C).setOther _ _ _ hbN hgN hnb4N).setOther _ _ _ hbN hgN hnb4N).setOther _ _ _ hbN hgN hnb4N, fun x e => ?_, ⟨hT2.keptBy (((((((((((Kept.refl (fun k => May b nb2 k ∨ k = w.heap.size) w2).alloc _).trans (Kept.of_below hb3 (fun k => May b nb2 k ∨ k = w.heap.size)) (fun _ _ e => e)).setCell (p := ⟨b, 1, none⟩) (.inr (.inl (.inl rfl))) _).trans hK4 (fun _ _ e => Or.inl e)).setCell (p := ⟨w2.heap.size, 1, none⟩) (.inl (Nat.le_refl _)) _).trans hK9 (fun _ _ e => Or.inl (Or.inl e))).setCell (p := ⟨w2.heap.size, 2, none⟩) (.inl (Nat.le_refl _)) _).setCell (p := ⟨w.heap.size, 0, none⟩) (.inr (.inr rfl)) _).setCell (p := ⟨w.heap.size, 1, none⟩) (.inr (.inr rfl)) _).setCell (p := ⟨w.heap.size, 2, none⟩) (.inr (.inr rfl)) _) (fun k _ hF => ?_), acc, hGs.row.keptBy (((((((Kept.refl (fun k => k = b ∨ k = w2.heap.size ∨ k = w.heap.size) w4).setCell (p := ⟨w2.heap.size, 1, none⟩) (.inr (.inr (.inl rfl))) _).trans hK9 (fun _ _ e => Or.inl e)).setCell (p := ⟨w2.heap.size, 2, none⟩) (.inr (.inr (.inl rfl))) _).setCell (p := ⟨w.heap.size, 0, none⟩) (.inr (.inr (.inr rfl))) _).setCell (p := ⟨w.heap.size, 1, none⟩) (.inr (.inr (.inr rfl))) _).setCell (p := ⟨w.heap.size, 2, none⟩) (.inr (.inr (.inr rfl))) _) (fun k e e2 => ?_), fun k e => ?_, fun q hq => (hGs.goals q hq).keptBy (((((((Kept.refl (fun k => k = b ∨ k = w2.heap.size ∨ k = w.heap.size) w4).setCell (p := ⟨w2.heap.size, 1, none⟩) (.inr (.inr (.inl rfl))) _).trans hK9 (fun _ _ e => Or.inl e)).setCell (p := ⟨w2.heap.size, 2, none⟩) (.inr (.inr (.inl rfl))) _).setCell (p := ⟨w.heap.size, 0, none⟩) (.inr (.inr (.inr rfl))) _).setCell (p := ⟨w.heap.size, 1, none⟩) (.inr (.inr (.inr rfl))) _).setCell (p := ⟨w.heap.size, 2, none⟩) (.inr (.inr (.inr rfl))) _) (fun k _ hF => ?_), hgs, hacc⟩, rfl⟩
  · rcases hn4 with e2 | ⟨k, e2, hk⟩
    · have := hnbl x (e2.symm.trans e); omega
    · have := Option.some.inj (e2.symm.trans e); simp at hk; omega
  · have f1 := hF.1
    have f2 := hF.2.1
    simp at f1
    refine ⟨fun e => ?_, by omega, by simp; omega, hn4.ne hF.2.2 (by simp; omega)⟩
    rcases e with (e | e) | e
    · omega
    · exact hF.2.2 e.symm
    · omega
  · have f1 := (hGs.rowNew k e).1
    simp at f1
    rcases e2 with e2 | e2 | e2 <;> omega
  · have f1 := (hGs.rowNew k e).1
    have f2 := (hGs.rowNew k e).2.1
    simp at f1
    exact ⟨by omega, by simp; omega, (hGs.rowNew k e).2.2⟩
  · have f1 := hF.1.1
    have f2 := hF.1.2.1
    simp at f1
    exact ⟨fun e2 => by rcases e2 with e2 | e2 | e2 <;> omega, by omega, by simp; omega, hF.1.2.2⟩
end Go.Proofs.YthdmbbfaphipkaaGreatDoor
/- What the document's reading does at every clause (promptref: Clause). -/
namespace Go.Proofs.YthdmbbfaphipkaaGreatDoor
open Go.RowKit
theorem clause_any (f b g : Nat) (nb : Option Nat) (l : List Rf.Tok) (ns : List ByteArray) (w : World) (h : Rd w b g nb l ns) (hl : l.length ≤ f) :
    Calls Tryz.prog 68 #[.pointer (some ⟨b, 0, none⟩)] w fun r w' => ClausePost w b g nb (Rf.clauseS f l) r w' := by
  cases l with
  | nil => exact absurd rfl h.ended.ne
  | cons t l =>
    cases hr : Rf.termS f (t :: l) [] with
    | error x => exact clause_err f b g nb t l ns w h hl x.1 x.2 hr
    | ok x =>
      obtain ⟨ps, l1, ns1⟩ := x
      cases hh : Rf.headB ps
      · exact clause_bad f b g nb t l ns w h hl ps l1 ns1 hr hh
      · have hen := Rf.termS_ended f _ _ _ _ _ h.ended hr
        cases l1 with
        | nil => exact absurd rfl hen.ne
        | cons u l2 =>
          cases h63 : (u.k == 63)
          · cases h58 : (u.k == 58)
            · cases h46 : (u.k != 46)
              · exact clause_nobody_ok f b g nb t l ns w h hl ps u l2 ns1 hr hh h63 h58 h46
              · exact clause_nobody_bad f b g nb t l ns w h hl ps u l2 ns1 hr hh h63 h58 h46
            · cases hg : Rf.goalsS f 8 [] l2 ns1 with
              | error x => exact clause_body_err f b g nb t l ns w h hl ps u l2 ns1 hr hh h58 x.1 x.2 hg
              | ok x =>
                obtain ⟨gs, l3, ns2⟩ := x
                obtain ⟨_, y, l4, rfl⟩ := Rf.goalsS_len f _ _ _ _ _ _ _ hg
                cases h46 : (y.k != 46)
                · exact clause_body_ok f b g nb t l ns w h hl ps u l2 ns1 hr hh h58 gs y l4 ns2 hg h46
                · exact clause_body_bad f b g nb t l ns w h hl ps u l2 ns1 hr hh h58 gs y l4 ns2 hg h46
          · exact clause_63 f b g nb t l ns w h hl ps u l2 ns1 hr hh h63
/-- A clause's three cells. -/
structure ClV where
  p : Nat
  a : Option Addr
  n : Nat
  c : Nat
  k : Int
def clCells (x : ClV) : List Value := [.pointer (some ⟨x.p, 0, none⟩), .slice x.a x.n x.c, .int .i64 x.k]
theorem clCells_len (s : ClV) : (clCells s).length = 3 := rfl
theorem clCells_one (s : ClV) : ∀ u ∈ clCells s, u.oneCell' = true := by
  intro u hu
  simp only [clCells, List.mem_cons, List.not_mem_nil, or_false] at hu
  rcases hu with rfl | rfl | rfl <;> rfl
theorem Tryz.elemClause : ElemOk Tryz.prog 53 114 3 40 (.agg #[.pointer none, .slice none 0 0, .int .i64 0]) := ⟨Tryz.underlying53, by kernel_rfl, rfl, by decide, by decide⟩
theorem cell_three_at (w : World) (N : Nat) (hN : N = w.heap.size) (x y z : Value) (t : TypeId) : ∀ j v, [x, y, z][j]? = some v → (w.alloc (.cells #[x, y, z] t)).cell? ((⟨N, 0, none⟩ : Addr).add j) = some v := by
  subst hN
  intro j v hj
  match j, hj with
  | 0, hj => simp at hj; subst hj; simp [Addr.add]
  | 1, hj => simp at hj; subst hj; simp [Addr.add]
  | 2, hj => simp at hj; subst hj; simp [Addr.add]
  | (j + 3), hj => simp at hj
theorem ClAt.keptBy {F F' M : Nat → Prop} {w w' : World} {p : Nat} {v : Value} {cl : Rf.Cl} (h : ClAt F w p v cl) (hk : Kept M w w') (hF : ∀ k, k < w.heap.size → F k → ¬ M k ∧ F' k) : ClAt F' w' p v cl := by
  obtain ⟨h1, acc, h2, h3, h4, h5⟩ := h
  exact ⟨h1.keptBy hk hF, acc, h2.keptBy hk (fun k e => (hF k (h2.lt k e).2 (h3 k e)).1), fun k e => (hF k (h2.lt k e).2 (h3 k e)).2, fun q hq => (h4 q hq).keptBy hk hF, h5⟩
/-- A row of clauses in memory. -/
structure ClsAt (F : Nat → Prop) (w : World) (v : Value) (acc : List (ClV × Rf.Cl)) : Prop where
  row : RowIs w 0 114 3 clCells v (acc.map (·.1))
  rowF : ∀ k, v.ownBlock = some k → F k
  cls : ∀ q ∈ acc, ClAt (fun k => F k ∧ v.ownBlock ≠ some k) w q.1.p (.slice q.1.a q.1.n q.1.c) q.2 ∧ q.1.k = q.2.vars
  none : acc = [] → v = .slice none 0 0
end Go.Proofs.YthdmbbfaphipkaaGreatDoor
