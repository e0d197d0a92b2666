/- What the document's reading does at a clause (promptref: Clause). -/
import Derived.Test.YthdmbbfaphipkaaGreatDoorYas
namespace Go.Proofs.YthdmbbfaphipkaaGreatDoor
open Go.RowKit
/-- A clause's value in memory: the head's block p, the body's row v. -/
def ClAt (F : Nat → Prop) (w : World) (p : Nat) (v : Value) (cl : Rf.Cl) : Prop :=
  IsTerm F w p cl.head ∧ ∃ acc : List (Option Addr × List Rf.Part), RowIs w 0 158 2 goalCells v (acc.map (·.1)) ∧ (∀ k, v.ownBlock = some k → F k) ∧ (∀ q ∈ acc, IsGoal F w (.pointer q.1) q.2) ∧ cl.body = acc.map (·.2) ∧ acc.length ≤ 8
def clVal (p : Nat) (a : Option Addr) (n c : Nat) (k : Int) : Value := .agg #[.pointer (some ⟨p, 0, none⟩), .slice a n c, .int .i64 k]
def ClausePost (w : World) (b g : Nat) (nb : Option Nat) (res : Except (Int × Nat) (Rf.Cl × List Rf.Tok)) (r : Ending) (w' : World) : Prop :=
  ∃ (p : Nat) (a : Option Addr) (n c : Nat) (k : Int), r = .returned (.agg #[.pointer (some ⟨p, 0, none⟩), .slice a n c, .int .i64 k]) ∧ Kept (May b nb) w w' ∧
  (match res with
   | .ok (cl, l') => ∃ nb' ns', Rd w' b g nb' l' ns' ∧ (∀ x, nb' = some x → w.heap.size ≤ x) ∧ ClAt (New w w' nb') w' p (.slice a n c) cl ∧ k = cl.vars
   | .error (e, q) => RdE w' b e q)
theorem Rd.unnamed {w : World} {b g : Nat} {nb : Option Nat} {l : List Rf.Tok} {ns : List ByteArray} (h : Rd w b g nb l ns) : Rd (w.setCell ⟨b, 2, none⟩ (.slice none 0 0)) b g none l [] := by
  obtain ⟨cap, I, vN, all, hB, e1, e2, e3, hrow, hnam, e4, e5, e6, e7, _⟩ := h.ex
  exact ⟨cap, I, _, all, blk_set hB 2 _, e1, e2, e3, hrow.setCell _ _ (fun e => e5 (Option.some.inj e).symm), RowIs.nil _ _ _ _ _, rfl, e5, by simp, by simp, by simp⟩
theorem IsTerm.head {F : Nat → Prop} {w : World} {p : Nat} {ps : List Rf.Part} (h : IsTerm F w p ps) :
    ∃ k n s a l c, TmB w p k n s (.slice a l c) ∧ ((Rf.headB ps = true ∧ (k == 118) = false ∧ (k == 110) = false ∧ Rf.builtInB s l = false) ∨ (Rf.headB ps = false ∧ ((k == 118) = true ∨ ((k == 118) = false ∧ (k == 110) = true) ∨ ((k == 118) = false ∧ (k == 110) = false ∧ Rf.builtInB s l = true)))) := by
  obtain ⟨k, n, s, a, l, c, hT, hk⟩ := h.kind
  refine ⟨k, n, s, a, l, c, hT, ?_⟩
  rcases hk with ⟨h1, h2, y, rfl⟩ | ⟨h1, h2, h3, rest, rfl⟩
  · refine .inr ⟨?_, ?_⟩
    · simp at h2
      simp [Rf.headB, h2]
    · rcases h1 with h1 | h1
      · exact .inl h1
      · exact .inr (.inl h1)
  · cases hb : Rf.builtInB s l
    · exact .inl ⟨by simp [Rf.headB, hb], h1, h2, rfl⟩
    · exact .inr ⟨by simp [Rf.headB, hb], .inr (.inr ⟨h1, h2, rfl⟩)⟩
set_option maxHeartbeats 1000000 in
set_option maxRecDepth 100000 in
theorem clause_err (f b g : Nat) (nb : Option Nat) (t : Rf.Tok) (l : List Rf.Tok) (ns : List ByteArray) (w : World) (h : Rd w b g nb (t :: l) ns) (hl : (t :: l).length ≤ f) (eE : Int) (qE : Nat) (hr : Rf.termS f (t :: l) [] = .error (eE, qE)) :
    Calls Tryz.prog 68 #[.pointer (some ⟨b, 0, none⟩)] w fun r w' => ClausePost w b g nb (Rf.clauseS f (t :: l)) r w' := by
  have hS : Hid (Rf.clauseS f (t :: l) = .error (eE, qE)) := by unfold Hid; simp only [Rf.clauseS]; rw [hr]
  have HR : Hid _ := hr
  clear hr
  have H : Hid _ := h.unnamed
  obtain ⟨hbl, hgl, _⟩ := h.lt
  obtain ⟨vL, I, a, n, c, hB⟩ := h.err
  obtain ⟨q0, q1, q2, q3, q4, qf, qb⟩ := hB.facts
  clear h hB
  go_enter Tryz.func68, Tryz.ntmps68
  go_wp2_with (first
    | (go_at_call 67; refine (now_any b g none t l [] _ (H.out.alloc _)).mono ?_; rintro e w1 ⟨rfl, hb1⟩; have hG1 := (hb1.block w.heap.size (by simp)).trans (blk_at _ _ _ (by simp)); have hs1 : w.heap.size + 1 ≤ w1.heap.size := (by have := hb1.size; simpa using this); have hRa := (H.out.alloc _).below hb1)
    | (go_at_call 96; refine (term_any f b g none (t :: l) [] _ (hRa.alloc _) hl).mono ?_; rintro r w2 ⟨p, rfl, hp, hAny, hK2, hm⟩; rw [HR.out] at hm; have hnm : ∀ k, w.heap.size ≤ k → ¬ May b none k := (fun k hk e => by rcases e with e | e; omega; cases e); have hG2 := (hK2.block w.heap.size (by simp; omega) (hnm _ (Nat.le_refl _))).trans (blk_alloc hG1 _); have hX2 : Box w2 w1.heap.size t := (hK2.block w1.heap.size (by simp) (hnm _ (by omega))).trans (blk_new _ _); have hs2 : w1.heap.size + 1 ≤ w2.heap.size := (by have := hK2.size; simpa using this); obtain ⟨kk, nn, ss, aa, ll, cc, hT⟩ := hAny; obtain ⟨vL2, I2, a2, n2, c2, hB2, hE2⟩ := RdE.ex hm; obtain ⟨z0, z1, z2, z3, z4, zf, zb⟩ := hB2.facts; have he0 : (eE != 0) = true := (by rw [bne_iff_ne]; exact hE2); have k0 : w2.cell? ⟨p, 0, none⟩ = some (.int .u8 kk) := blk_cell hT 0; have pl := blk_lt hT; have x0 : w2.cell? ⟨w1.heap.size, 0, none⟩ = some (.int .u8 t.k) := blk_cell hX2 0; have x1 : w2.cell? ⟨w1.heap.size, 1, none⟩ = some (.int .i64 t.at_) := blk_cell hX2 1; have x2 : w2.cell? ⟨w1.heap.size, 2, none⟩ = some (.string t.s) := blk_cell hX2 2; have x3 : w2.cell? ⟨w1.heap.size, 3, none⟩ = some (.int .i64 t.e) := blk_cell hX2 3; have xl : w1.heap.size < w2.heap.size := (by omega); have wl : w.heap.size < w2.heap.size := (by omega); have bl : b < w2.heap.size := (by omega); have u0 : w2.cell? ⟨w.heap.size, 0, none⟩ = some (.pointer none) := blk_cell hG2 0; have u1 : w2.cell? ⟨w.heap.size, 1, none⟩ = some (.slice none 0 0) := blk_cell hG2 1; have u2 : w2.cell? ⟨w.heap.size, 2, none⟩ = some (.int .i64 0) := blk_cell hG2 2; have uf := blk_frozen hG2)
    | (go_at_call 97; refine (builtIn_any p kk nn ss aa ll cc _ (blk_alloc hT _)).mono ?_; rintro r wx ⟨rfl, rfl⟩)
    | (go_at_call 98; refine (bad_rdE b t 4 eE qE _ (RdE.below hm ((Below.refl _ _).alloc (Nat.le_refl _) _))).mono ?_; rintro r w3 ⟨rfl, hE3, hb3⟩; obtain ⟨vL3, I3, a3, n3, c3, hB3, _⟩ := hE3.ex; obtain ⟨v0, v1, v2, v3, v4, vf, vb⟩ := hB3.facts; have hC3 := (hb3.block w2.heap.size (by simp)).trans (blk_new _ _); have hG3 := (hb3.block w.heap.size (by simp; omega)).trans (blk_alloc hG2 _); have c0 : w3.cell? ⟨w2.heap.size, 0, none⟩ = some (.pointer (some ⟨p, 0, none⟩)) := blk_cell hC3 0; have c1 : w3.cell? ⟨w2.heap.size, 1, none⟩ = some (.slice none 0 0) := blk_cell hC3 1; have c2 : w3.cell? ⟨w2.heap.size, 2, none⟩ = some (.int .i64 0) := blk_cell hC3 2; have cf := blk_frozen hC3; have g0 : w3.cell? ⟨w.heap.size, 0, none⟩ = some (.pointer none) := blk_cell hG3 0; have g1 : w3.cell? ⟨w.heap.size, 1, none⟩ = some (.slice none 0 0) := blk_cell hG3 1; have g2 : w3.cell? ⟨w.heap.size, 2, none⟩ = some (.int .i64 0) := blk_cell hG3 2; have gf := blk_frozen hG3))
  all_goals
    refine bodyPost_ret (v := .agg #[.pointer (some ⟨p, 0, none⟩), .slice none 0 0, .int .i64 0]) (by simp [results, Tryz.results68, go_sem, *]) rfl ?_
    rw [hS.out]
    have hbn : b ≠ w.heap.size := by omega
    first
    | exact ⟨_, _, _, _, _, rfl, ((((((((((Kept.refl (May b nb) w).setCell (p := ⟨b, 2, none⟩) (.inr (.inl rfl)) _).alloc _).trans (Kept.of_below hb1 (May b nb)) (fun _ _ e => e)).alloc _).trans hK2 (fun k _ e => May.none k e)).alloc _).trans (Kept.of_below hb3 (May b nb)) (fun _ _ e => e)).setCell (p := ⟨w.heap.size, 0, none⟩) (.inl (Nat.le_refl _)) _).setCell (p := ⟨w.heap.size, 1, none⟩) (.inl (Nat.le_refl _)) _).setCell (p := ⟨w.heap.size, 2, none⟩) (.inl (Nat.le_refl _)) _, ((hE3.setOther _ _ _ hbn).setOther _ _ _ hbn).setOther _ _ _ hbn⟩
    | exact ⟨_, _, _, _, _, rfl, ((((((((((Kept.refl (May b nb) w).setCell (p := ⟨b, 2, none⟩) (.inr (.inl rfl)) _).alloc _).trans (Kept.of_below hb1 (May b nb)) (fun _ _ e => e)).alloc _).trans hK2 (fun k _ e => May.none k e))).setCell (p := ⟨w.heap.size, 0, none⟩) (.inl (Nat.le_refl _)) _).setCell (p := ⟨w.heap.size, 1, none⟩) (.inl (Nat.le_refl _)) _).setCell (p := ⟨w.heap.size, 2, none⟩) (.inl (Nat.le_refl _)) _).alloc _, (((RdE.setOther hm _ _ _ hbn).setOther _ _ _ hbn).setOther _ _ _ hbn).below ((Below.refl _ _).alloc (Nat.le_refl _) _)⟩
set_option maxHeartbeats 1000000 in
set_option maxRecDepth 100000 in
theorem clause_bad (f b g : Nat) (nb : Option Nat) (t : Rf.Tok) (l : List Rf.Tok) (ns : List ByteArray) (w : World) (h : Rd w b g nb (t :: l) ns) (hl : (t :: l).length ≤ f) (ps : List Rf.Part) (l1 : List Rf.Tok) (ns1 : List ByteArray) (hr : Rf.termS f (t :: l) [] = .ok (ps, l1, ns1)) (hh : Rf.headB ps = false) :
    Calls Tryz.prog 68 #[.pointer (some ⟨b, 0, none⟩)] w fun r w' => ClausePost w b g nb (Rf.clauseS f (t :: l)) r w' := by
  have hS : Hid (Rf.clauseS f (t :: l) = .error (4, t.at_)) := by unfold Hid; simp only [Rf.clauseS]; rw [hr]; simp only []; rw [if_neg (by simp [hh])]
  have HE : Hid _ := errOf_no t 4 (termS_tok hr)
  have HR : Hid _ := hr
  have HH : Hid _ := hh
  clear hr hh
  have H : Hid _ := h.unnamed
  obtain ⟨hbl, hgl, _⟩ := h.lt
  obtain ⟨vL, I, a, n, c, hB⟩ := h.err
  obtain ⟨q0, q1, q2, q3, q4, qf, qb⟩ := hB.facts
  clear h hB
  go_enter Tryz.func68, Tryz.ntmps68
  go_wp2_with (first
    | (go_at_call 67; refine (now_any b g none t l [] _ (H.out.alloc _)).mono ?_; rintro e w1 ⟨rfl, hb1⟩; have hG1 := (hb1.block w.heap.size (by simp)).trans (blk_at _ _ _ (by simp)); have hs1 : w.heap.size + 1 ≤ w1.heap.size := (by have := hb1.size; simpa using this); have hRa := (H.out.alloc _).below hb1)
    | (go_at_call 96; refine (term_any f b g none (t :: l) [] _ (hRa.alloc _) hl).mono ?_; rintro r w2 ⟨p, rfl, hp, hAny, hK2, hm⟩; rw [HR.out] at hm; have hnm : ∀ k, w.heap.size ≤ k → ¬ May b none k := (fun k hk e => by rcases e with e | e; omega; cases e); have hG2 := (hK2.block w.heap.size (by simp; omega) (hnm _ (Nat.le_refl _))).trans (blk_alloc hG1 _); have hX2 : Box w2 w1.heap.size t := (hK2.block w1.heap.size (by simp) (hnm _ (by omega))).trans (blk_new _ _); have hs2 : w1.heap.size + 1 ≤ w2.heap.size := (by have := hK2.size; simpa using this); obtain ⟨nb2, hR2, hn2, hT2⟩ := hm; obtain ⟨kk, nn, ss, aa, ll, cc, hT, hkk⟩ := hT2.head; obtain ⟨_, hkk⟩ := hkk.resolve_left (fun x => absurd (x.1.symm.trans HH.out) (by decide)); have k0 : w2.cell? ⟨p, 0, none⟩ = some (.int .u8 kk) := blk_cell hT 0; have pl := blk_lt hT; have x0 : w2.cell? ⟨w1.heap.size, 0, none⟩ = some (.int .u8 t.k) := blk_cell hX2 0; have x1 : w2.cell? ⟨w1.heap.size, 1, none⟩ = some (.int .i64 t.at_) := blk_cell hX2 1; have x2 : w2.cell? ⟨w1.heap.size, 2, none⟩ = some (.string t.s) := blk_cell hX2 2; have x3 : w2.cell? ⟨w1.heap.size, 3, none⟩ = some (.int .i64 t.e) := blk_cell hX2 3; have xl : w1.heap.size < w2.heap.size := (by omega); have wl : w.heap.size < w2.heap.size := (by omega); have bl : b < w2.heap.size := (by omega); have u0 : w2.cell? ⟨w.heap.size, 0, none⟩ = some (.pointer none) := blk_cell hG2 0; have u1 : w2.cell? ⟨w.heap.size, 1, none⟩ = some (.slice none 0 0) := blk_cell hG2 1; have u2 : w2.cell? ⟨w.heap.size, 2, none⟩ = some (.int .i64 0) := blk_cell hG2 2; have uf := blk_frozen hG2; rcases hkk with k118 | ⟨k118, k110⟩ | ⟨k118, k110, kb⟩)
    | (go_at_call 97; refine (builtIn_any p kk nn ss aa ll cc _ (blk_alloc hT _)).mono ?_; rintro r wx ⟨rfl, rfl⟩)
    | (go_at_call 98; refine (bad_rd b g nb2 l1 ns1 t 4 _ (hR2.alloc _) (by rw [HE.out]; show (4 : Int) ≠ 0; decide)).mono ?_; rintro r w3 ⟨rfl, hE3, hK3⟩; rw [HE.out] at hE3; obtain ⟨vL3, I3, a3, n3, c3, hB3, _⟩ := hE3.ex; obtain ⟨v0, v1, v2, v3, v4, vf, vb⟩ := hB3.facts; have hC3 := (hK3.block w2.heap.size (by simp) (by omega)).trans (blk_new _ _); have hG3 := (hK3.block w.heap.size (by simp; omega) (by omega)).trans (blk_alloc hG2 _); have c0 : w3.cell? ⟨w2.heap.size, 0, none⟩ = some (.pointer (some ⟨p, 0, none⟩)) := blk_cell hC3 0; have c1 : w3.cell? ⟨w2.heap.size, 1, none⟩ = some (.slice none 0 0) := blk_cell hC3 1; have c2 : w3.cell? ⟨w2.heap.size, 2, none⟩ = some (.int .i64 0) := blk_cell hC3 2; have cf := blk_frozen hC3; have g0 : w3.cell? ⟨w.heap.size, 0, none⟩ = some (.pointer none) := blk_cell hG3 0; have g1 : w3.cell? ⟨w.heap.size, 1, none⟩ = some (.slice none 0 0) := blk_cell hG3 1; have g2 : w3.cell? ⟨w.heap.size, 2, none⟩ = some (.int .i64 0) := blk_cell hG3 2; have gf := blk_frozen hG3))
  all_goals
    refine bodyPost_ret (v := .agg #[.pointer (some ⟨p, 0, none⟩), .slice none 0 0, .int .i64 0]) (by simp [results, Tryz.results68, go_sem, *]) rfl ?_
    rw [hS.out]
    have hbn : b ≠ w.heap.size := by omega
    exact ⟨_, _, _, _, _, rfl, ((((((((((Kept.refl (May b nb) w).setCell (p := ⟨b, 2, none⟩) (.inr (.inl rfl)) _).alloc _).trans (Kept.of_below hb1 (May b nb)) (fun _ _ e => e)).alloc _).trans hK2 (fun k _ e => May.none k e)).alloc _).trans hK3 (fun _ _ e => Or.inl e)).setCell (p := ⟨w.heap.size, 0, none⟩) (.inl (Nat.le_refl _)) _).setCell (p := ⟨w.heap.size, 1, none⟩) (.inl (Nat.le_refl _)) _).setCell (p := ⟨w.heap.size, 2, none⟩) (.inl (Nat.le_refl _)) _, ((hE3.setOther _ _ _ hbn).setOther _ _ _ hbn).setOther _ _ _ hbn⟩
end Go.Proofs.YthdmbbfaphipkaaGreatDoor
/- What the document's reading does at a clause with a good head (promptref: Clause). -/
namespace Go.Proofs.YthdmbbfaphipkaaGreatDoor
open Go.RowKit
theorem Rd.names {w : World} {b g : Nat} {nb : Option Nat} {l : List Rf.Tok} {ns : List ByteArray} (h : Rd w b g nb l ns) : ∃ (vL : Value) (I : Int) (a : Option Addr) (c : Nat), RdB w b vL I (.slice a ns.length c) 0 0 := by
  obtain ⟨cap, I, vN, all, hB, _, _, _, _, hnam, _⟩ := h.ex
  rcases hnam.shape with ⟨rfl, rfl⟩ | ⟨g', c', rfl, _⟩
  · exact ⟨_, _, _, _, hB⟩
  · exact ⟨_, _, _, _, hB⟩
set_option maxHeartbeats 1000000 in
set_option maxRecDepth 100000 in
theorem clause_63 (f b g : Nat) (nb : Option Nat) (t : Rf.Tok) (l : List Rf.Tok) (ns : List ByteArray) (w : World) (h : Rd w b g nb (t :: l) ns) (hl : (t :: l).length ≤ f) (ps : List Rf.Part) (u : Rf.Tok) (l2 : List Rf.Tok) (ns1 : List ByteArray) (hr : Rf.termS f (t :: l) [] = .ok (ps, u :: l2, ns1)) (hh : Rf.headB ps = true) (h63 : (u.k == 63) = true) :
    Calls Tryz.prog 68 #[.pointer (some ⟨b, 0, none⟩)] w fun r w' => ClausePost w b g nb (Rf.clauseS f (t :: l)) r w' := by
  have HR : Hid _ := hr
  have HH : Hid _ := hh
  have hS : Hid (Rf.clauseS f (t :: l) = .error (u.e, u.at_)) := by
    have e63 : u.k = 63 := eq_of_beq h63
    unfold Hid; simp only [Rf.clauseS]; rw [hr]; simp only []; rw [if_pos hh, if_neg (by omega), dotS_bad _ _ _ _ (by rw [bne_iff_ne]; omega), errOf_yes _ _ h63]
  clear hr hh
  have H : Hid _ := h.unnamed
  obtain ⟨hbl, hgl, _⟩ := h.lt
  obtain ⟨vL, I, a, n, c, hB⟩ := h.err
  obtain ⟨q0, q1, q2, q3, q4, qf, qb⟩ := hB.facts
  clear h hB
  go_enter Tryz.func68, Tryz.ntmps68
  go_wp2_with (first
    | (go_at_call 67; refine (now_any b g none t l [] _ (H.out.alloc _)).mono ?_; rintro e w1 ⟨rfl, hb1⟩; have hG1 := (hb1.block w.heap.size (by simp)).trans (blk_at _ _ _ (by simp)); have hs1 : w.heap.size + 1 ≤ w1.heap.size := (by have := hb1.size; simpa using this); have hRa := (H.out.alloc _).below hb1)
    | (go_at_call 96; refine (term_any f b g none (t :: l) [] _ (hRa.alloc _) hl).mono ?_; rintro r w2 ⟨p, rfl, hp, hAny, hK2, hm⟩; rw [HR.out] at hm; have hnm : ∀ k, w.heap.size ≤ k → ¬ May b none k := (fun k hk e => by rcases e with e | e; omega; cases e); have hG2 := (hK2.block w.heap.size (by simp; omega) (hnm _ (Nat.le_refl _))).trans (blk_alloc hG1 _); have hX2 : Box w2 w1.heap.size t := (hK2.block w1.heap.size (by simp) (hnm _ (by omega))).trans (blk_new _ _); have hs2 : w1.heap.size + 1 ≤ w2.heap.size := (by have := hK2.size; simpa using this); obtain ⟨nb2, hR2, hn2, hT2⟩ := hm; obtain ⟨kk, nn, ss, aa, ll, cc, hT, hkk⟩ := hT2.head; obtain ⟨_, k118, k110, kb⟩ := hkk.resolve_right (fun x => absurd (x.1.symm.trans HH.out) (by decide)); obtain ⟨yL, yI, ya, yc, hBy⟩ := hR2.names; obtain ⟨y0, y1, y2, y3, y4, yf, yb⟩ := hBy.facts; have hnbC : nb2 ≠ some w2.heap.size := (fun e => by have := (hR2.lt.2.2.1 _ e).1; omega); have hnbN : nb2 ≠ some w.heap.size := hn2.ne (by simp) (by simp; omega); have hnbl : ∀ x, nb2 = some x → w1.heap.size < x := (fun x e => by rcases hn2 with e2 | ⟨k, e2, hk⟩; rw [e] at e2; cases e2; rw [e] at e2; have := Option.some.inj e2; simp at hk; omega); have k0 : w2.cell? ⟨p, 0, none⟩ = some (.int .u8 kk) := blk_cell hT 0; have pl := blk_lt hT; have x0 : w2.cell? ⟨w1.heap.size, 0, none⟩ = some (.int .u8 t.k) := blk_cell hX2 0; have x1 : w2.cell? ⟨w1.heap.size, 1, none⟩ = some (.int .i64 t.at_) := blk_cell hX2 1; have x2 : w2.cell? ⟨w1.heap.size, 2, none⟩ = some (.string t.s) := blk_cell hX2 2; have x3 : w2.cell? ⟨w1.heap.size, 3, none⟩ = some (.int .i64 t.e) := blk_cell hX2 3; have xl : w1.heap.size < w2.heap.size := (by omega); have wl : w.heap.size < w2.heap.size := (by omega); have bl : b < w2.heap.size := (by omega); have u0 : w2.cell? ⟨w.heap.size, 0, none⟩ = some (.pointer none) := blk_cell hG2 0; have u1 : w2.cell? ⟨w.heap.size, 1, none⟩ = some (.slice none 0 0) := blk_cell hG2 1; have u2 : w2.cell? ⟨w.heap.size, 2, none⟩ = some (.int .i64 0) := blk_cell hG2 2; have uf := blk_frozen hG2)
    | (go_at_call 97; refine (builtIn_any p kk nn ss aa ll cc _ (blk_alloc hT _)).mono ?_; rintro r wx ⟨rfl, rfl⟩)
    | (go_at_call 99; refine (is_bad b g nb2 u l2 ns1 58 _ (hR2.alloc _) h63).mono ?_; rintro r w3 ⟨rfl, hE3, hK3⟩; obtain ⟨vL3, I3, a3, n3, c3, hB3, hne3⟩ := hE3.ex; obtain ⟨v0, v1, v2, v3, v4, vf, vb⟩ := hB3.facts; have he0 : (u.e == 0) = false := beq_eq_false_iff_ne.2 hne3; have hC3 := (hK3.block w2.heap.size (by simp) (by omega)).trans (blk_new _ _); have hG3 := (hK3.block w.heap.size (by simp; omega) (by omega)).trans (blk_alloc hG2 _); have c0 : w3.cell? ⟨w2.heap.size, 0, none⟩ = some (.pointer (some ⟨p, 0, none⟩)) := blk_cell hC3 0; have c1 : w3.cell? ⟨w2.heap.size, 1, none⟩ = some (.slice none 0 0) := blk_cell hC3 1; have c2 : w3.cell? ⟨w2.heap.size, 2, none⟩ = some (.int .i64 0) := blk_cell hC3 2; have cf := blk_frozen hC3; have g0 : w3.cell? ⟨w.heap.size, 0, none⟩ = some (.pointer none) := blk_cell hG3 0; have g1 : w3.cell? ⟨w.heap.size, 1, none⟩ = some (.slice none 0 0) := blk_cell hG3 1; have g2 : w3.cell? ⟨w.heap.size, 2, none⟩ = some (.int .i64 0) := blk_cell hG3 2; have gf := blk_frozen hG3; have hCN : ¬ w2.heap.size = w.heap.size := (by omega); have hNC : ¬ w.heap.size = w2.heap.size := (by omega); have hbC : ¬ b = w2.heap.size := (by omega); have hCb : ¬ w2.heap.size = b := (by omega)))
  refine bodyPost_ret (v := .agg #[.pointer (some ⟨p, 0, none⟩), .slice none 0 0, .int .i64 n3]) (by simp [results, Tryz.results68, go_sem, *]) rfl ?_
  rw [hS.out]
  have hbn : b ≠ w.heap.size := by omega
  exact ⟨_, _, _, _, _, rfl, (((((((((((Kept.refl (May b nb) w).setCell (p := ⟨b, 2, none⟩) (.inr (.inl rfl)) _).alloc _).trans (Kept.of_below hb1 (May b nb)) (fun _ _ e => e)).alloc _).trans hK2 (fun k _ e => May.none k e)).alloc _).trans hK3 (fun _ _ e => Or.inl e)).setCell (p := ⟨w2.heap.size, 2, none⟩) (.inl (show w.heap.size ≤ w2.heap.size by omega)) _).setCell (p := ⟨w.heap.size, 0, none⟩) (.inl (Nat.le_refl _)) _).setCell (p := ⟨w.heap.size, 1, none⟩) (.inl (Nat.le_refl _)) _).setCell (p := ⟨w.heap.size, 2, none⟩) (.inl (Nat.le_refl _)) _, (((hE3.setOther _ _ _ hbC).setOther _ _ _ hbn).setOther _ _ _ hbn).setOther _ _ _ hbn⟩
set_option maxHeartbeats 1000000 in
set_option maxRecDepth 100000 in
theorem clause_nobody_bad (f b g : Nat) (nb : Option Nat) (t : Rf.Tok) (l : List Rf.Tok) (ns : List ByteArray) (w : World) (h : Rd w b g nb (t :: l) ns) (hl : (t :: l).length ≤ f) (ps : List Rf.Part) (u : Rf.Tok) (l2 : List Rf.Tok) (ns1 : List ByteArray) (hr : Rf.termS f (t :: l) [] = .ok (ps, u :: l2, ns1)) (hh : Rf.headB ps = true) (h63 : (u.k == 63) = false) (h58 : (u.k == 58) = false) (h46 : (u.k != 46) = true) :
    Calls Tryz.prog 68 #[.pointer (some ⟨b, 0, none⟩)] w fun r w' => ClausePost w b g nb (Rf.clauseS f (t :: l)) r w' := by
  have HR : Hid _ := hr
  have HH : Hid _ := hh
  have hS : Hid (Rf.clauseS f (t :: l) = .error (Rf.errOf u 2)) := by
    unfold Hid; simp only [Rf.clauseS]; rw [hr]; simp only []; rw [if_pos hh, if_neg (beq_eq_false_iff_ne.1 h58), dotS_bad _ _ _ _ h46]
  clear hr hh
  have H : Hid _ := h.unnamed
  obtain ⟨hbl, hgl, _⟩ := h.lt
  obtain ⟨vL, I, a, n, c, hB⟩ := h.err
  obtain ⟨q0, q1, q2, q3, q4, qf, qb⟩ := hB.facts
  clear h hB
  go_enter Tryz.func68, Tryz.ntmps68
  go_wp2_with (first
    | (go_at_call 67; refine (now_any b g none t l [] _ (H.out.alloc _)).mono ?_; rintro e w1 ⟨rfl, hb1⟩; have hG1 := (hb1.block w.heap.size (by simp)).trans (blk_at _ _ _ (by simp)); have hs1 : w.heap.size + 1 ≤ w1.heap.size := (by have := hb1.size; simpa using this); have hRa := (H.out.alloc _).below hb1)
    | (go_at_call 96; refine (term_any f b g none (t :: l) [] _ (hRa.alloc _) hl).mono ?_; rintro r w2 ⟨p, rfl, hp, hAny, hK2, hm⟩; rw [HR.out] at hm; have hnm : ∀ k, w.heap.size ≤ k → ¬ May b none k := (fun k hk e => by rcases e with e | e; omega; cases e); have hG2 := (hK2.block w.heap.size (by simp; omega) (hnm _ (Nat.le_refl _))).trans (blk_alloc hG1 _); have hX2 : Box w2 w1.heap.size t := (hK2.block w1.heap.size (by simp) (hnm _ (by omega))).trans (blk_new _ _); have hs2 : w1.heap.size + 1 ≤ w2.heap.size := (by have := hK2.size; simpa using this); obtain ⟨nb2, hR2, hn2, hT2⟩ := hm; obtain ⟨kk, nn, ss, aa, ll, cc, hT, hkk⟩ := hT2.head; obtain ⟨_, k118, k110, kb⟩ := hkk.resolve_right (fun x => absurd (x.1.symm.trans HH.out) (by decide)); obtain ⟨yL, yI, ya, yc, hBy⟩ := hR2.names; obtain ⟨y0, y1, y2, y3, y4, yf, yb⟩ := hBy.facts; have hnbC : nb2 ≠ some w2.heap.size := (fun e => by have := (hR2.lt.2.2.1 _ e).1; omega); have hnbN : nb2 ≠ some w.heap.size := hn2.ne (by simp) (by simp; omega); have hnbl : ∀ x, nb2 = some x → w1.heap.size < x := (fun x e => by rcases hn2 with e2 | ⟨k, e2, hk⟩; rw [e] at e2; cases e2; rw [e] at e2; have := Option.some.inj e2; simp at hk; omega); have k0 : w2.cell? ⟨p, 0, none⟩ = some (.int .u8 kk) := blk_cell hT 0; have pl := blk_lt hT; have x0 : w2.cell? ⟨w1.heap.size, 0, none⟩ = some (.int .u8 t.k) := blk_cell hX2 0; have x1 : w2.cell? ⟨w1.heap.size, 1, none⟩ = some (.int .i64 t.at_) := blk_cell hX2 1; have x2 : w2.cell? ⟨w1.heap.size, 2, none⟩ = some (.string t.s) := blk_cell hX2 2; have x3 : w2.cell? ⟨w1.heap.size, 3, none⟩ = some (.int .i64 t.e) := blk_cell hX2 3; have xl : w1.heap.size < w2.heap.size := (by omega); have wl : w.heap.size < w2.heap.size := (by omega); have bl : b < w2.heap.size := (by omega); have u0 : w2.cell? ⟨w.heap.size, 0, none⟩ = some (.pointer none) := blk_cell hG2 0; have u1 : w2.cell? ⟨w.heap.size, 1, none⟩ = some (.slice none 0 0) := blk_cell hG2 1; have u2 : w2.cell? ⟨w.heap.size, 2, none⟩ = some (.int .i64 0) := blk_cell hG2 2; have uf := blk_frozen hG2)
    | (go_at_call 97; refine (builtIn_any p kk nn ss aa ll cc _ (blk_alloc hT _)).mono ?_; rintro r wx ⟨rfl, rfl⟩)
    | (go_at_call 99; refine (is_no b g nb2 u l2 ns1 58 _ (hR2.alloc _) h63).mono ?_; rintro r w3 ⟨rfl, hb3⟩; have hR3 := (hR2.alloc _).below hb3; have hC3 := (hb3.block w2.heap.size (by simp)).trans (blk_new _ _); have hG3 := (hb3.block w.heap.size (by simp; omega)).trans (blk_alloc hG2 _); have hs3 : w2.heap.size + 1 ≤ w3.heap.size := (by have := hb3.size; simpa using this); obtain ⟨iL, iI, ia, ic, hBi⟩ := hR3.names; obtain ⟨i0, i1, i2, i3, i4, jf, jb⟩ := hBi.facts)
    | (go_at_call 70; refine (must_bad b g nb2 u l2 ns1 46 _ hR3 h46).mono ?_; rintro r w4 ⟨rfl, hE9, hK9⟩; obtain ⟨wL, wI, wa, wn, wc, hB9, hne9⟩ := hE9.ex; obtain ⟨o0, o1, o2, o3, o4, of, ob⟩ := hB9.facts; have hC9 := (hK9.block w2.heap.size (by first | omega | (simp; omega)) (by omega)).trans hC3; have hG9 := (hK9.block w.heap.size (by first | omega | (simp; omega)) (by omega)).trans hG3; have c0 : w4.cell? ⟨w2.heap.size, 0, none⟩ = some (.pointer (some ⟨p, 0, none⟩)) := blk_cell hC9 0; have c1 : w4.cell? ⟨w2.heap.size, 1, none⟩ = some (.slice none 0 0) := blk_cell hC9 1; have c2 : w4.cell? ⟨w2.heap.size, 2, none⟩ = some (.int .i64 0) := blk_cell hC9 2; have cf := blk_frozen hC9; have g0 : w4.cell? ⟨w.heap.size, 0, none⟩ = some (.pointer none) := blk_cell hG9 0; have g1 : w4.cell? ⟨w.heap.size, 1, none⟩ = some (.slice none 0 0) := blk_cell hG9 1; have g2 : w4.cell? ⟨w.heap.size, 2, none⟩ = some (.int .i64 0) := blk_cell hG9 2; have gf := blk_frozen hG9; have hCN : ¬ w2.heap.size = w.heap.size := (by omega); have hNC : ¬ w.heap.size = w2.heap.size := (by omega); have hbC : ¬ b = w2.heap.size := (by omega); have hCb : ¬ w2.heap.size = b := (by omega); have hbN : ¬ b = w.heap.size := (by omega); have hNb : ¬ w.heap.size = b := (by omega)))
  refine bodyPost_ret (v := .agg #[.pointer (some ⟨p, 0, none⟩), .slice none 0 0, .int .i64 wn]) (by simp [results, Tryz.results68, go_sem, *]) rfl ?_
  rw [hS.out]
  exact ⟨_, _, _, _, _, rfl, ((((((((((((Kept.refl (May b nb) w).setCell (p := ⟨b, 2, none⟩) (.inr (.inl rfl)) _).alloc _).trans (Kept.of_below hb1 (May b nb)) (fun _ _ e => e)).alloc _).trans hK2 (fun k _ e => May.none k e)).alloc _).trans (Kept.of_below hb3 (May b nb)) (fun _ _ e => e)).trans hK9 (fun _ _ e => Or.inl e)).setCell (p := ⟨w2.heap.size, 2, none⟩) (.inl (show w.heap.size ≤ w2.heap.size by omega)) _).setCell (p := ⟨w.heap.size, 0, none⟩) (.inl (Nat.le_refl _)) _).setCell (p := ⟨w.heap.size, 1, none⟩) (.inl (Nat.le_refl _)) _).setCell (p := ⟨w.heap.size, 2, none⟩) (.inl (Nat.le_refl _)) _, (((hE9.setOther _ _ _ hbC).setOther _ _ _ hbN).setOther _ _ _ hbN).setOther _ _ _ hbN⟩
set_option maxHeartbeats 1000000 in
set_option maxRecDepth 100000 in
theorem clause_nobody_ok (f b g : Nat) (nb : Option Nat) (t : Rf.Tok) (l : List Rf.Tok) (ns : List ByteArray) (w : World) (h : Rd w b g nb (t :: l) ns) (hl : (t :: l).length ≤ f) (ps : List Rf.Part) (u : Rf.Tok) (l2 : List Rf.Tok) (ns1 : List ByteArray) (hr : Rf.termS f (t :: l) [] = .ok (ps, u :: l2, ns1)) (hh : Rf.headB ps = true) (h63 : (u.k == 63) = false) (h58 : (u.k == 58) = false) (h46 : (u.k != 46) = false) :
    Calls Tryz.prog 68 #[.pointer (some ⟨b, 0, none⟩)] w fun r w' => ClausePost w b g nb (Rf.clauseS f (t :: l)) r w' := by
  have HR : Hid _ := hr
  have HH : Hid _ := hh
  have hS : Hid (Rf.clauseS f (t :: l) = .ok (⟨ps, [], ns1.length⟩, l2)) := by
    unfold Hid; simp only [Rf.clauseS]; rw [hr]; simp only []; rw [if_pos hh, if_neg (beq_eq_false_iff_ne.1 h58), dotS_ok _ _ _ _ h46]
  have H0' : Hid (u.k ≠ 0) := by have : u.k = 46 := (by simpa using h46); unfold Hid; omega
  clear hr hh
  have H : Hid _ := h.unnamed
  obtain ⟨hbl, hgl, _⟩ := h.lt
  obtain ⟨vL, I, a, n, c, hB⟩ := h.err
  obtain ⟨q0, q1, q2, q3, q4, qf, qb⟩ := hB.facts
  clear h hB
  go_enter Tryz.func68, Tryz.ntmps68
  go_wp2_with (first
    | (go_at_call 67; refine (now_any b g none t l [] _ (H.out.alloc _)).mono ?_; rintro e w1 ⟨rfl, hb1⟩; have hG1 := (hb1.block w.heap.size (by simp)).trans (blk_at _ _ _ (by simp)); have hs1 : w.heap.size + 1 ≤ w1.heap.size := (by have := hb1.size; simpa using this); have hRa := (H.out.alloc _).below hb1)
    | (go_at_call 96; refine (term_any f b g none (t :: l) [] _ (hRa.alloc _) hl).mono ?_; rintro r w2 ⟨p, rfl, hp, hAny, hK2, hm⟩; rw [HR.out] at hm; have hnm : ∀ k, w.heap.size ≤ k → ¬ May b none k := (fun k hk e => by rcases e with e | e; omega; cases e); have hG2 := (hK2.block w.heap.size (by simp; omega) (hnm _ (Nat.le_refl _))).trans (blk_alloc hG1 _); have hX2 : Box w2 w1.heap.size t := (hK2.block w1.heap.size (by simp) (hnm _ (by omega))).trans (blk_new _ _); have hs2 : w1.heap.size + 1 ≤ w2.heap.size := (by have := hK2.size; simpa using this); obtain ⟨nb2, hR2, hn2, hT2⟩ := hm; obtain ⟨kk, nn, ss, aa, ll, cc, hT, hkk⟩ := hT2.head; obtain ⟨_, k118, k110, kb⟩ := hkk.resolve_right (fun x => absurd (x.1.symm.trans HH.out) (by decide)); obtain ⟨yL, yI, ya, yc, hBy⟩ := hR2.names; obtain ⟨y0, y1, y2, y3, y4, yf, yb⟩ := hBy.facts; have hnbC : nb2 ≠ some w2.heap.size := (fun e => by have := (hR2.lt.2.2.1 _ e).1; omega); have hnbN : nb2 ≠ some w.heap.size := hn2.ne (by simp) (by simp; omega); have hnbl : ∀ x, nb2 = some x → w1.heap.size < x := (fun x e => by rcases hn2 with e2 | ⟨k, e2, hk⟩; rw [e] at e2; cases e2; rw [e] at e2; have := Option.some.inj e2; simp at hk; omega); have k0 : w2.cell? ⟨p, 0, none⟩ = some (.int .u8 kk) := blk_cell hT 0; have pl := blk_lt hT; have x0 : w2.cell? ⟨w1.heap.size, 0, none⟩ = some (.int .u8 t.k) := blk_cell hX2 0; have x1 : w2.cell? ⟨w1.heap.size, 1, none⟩ = some (.int .i64 t.at_) := blk_cell hX2 1; have x2 : w2.cell? ⟨w1.heap.size, 2, none⟩ = some (.string t.s) := blk_cell hX2 2; have x3 : w2.cell? ⟨w1.heap.size, 3, none⟩ = some (.int .i64 t.e) := blk_cell hX2 3; have xl : w1.heap.size < w2.heap.size := (by omega); have wl : w.heap.size < w2.heap.size := (by omega); have bl : b < w2.heap.size := (by omega); have u0 : w2.cell? ⟨w.heap.size, 0, none⟩ = some (.pointer none) := blk_cell hG2 0; have u1 : w2.cell? ⟨w.heap.size, 1, none⟩ = some (.slice none 0 0) := blk_cell hG2 1; have u2 : w2.cell? ⟨w.heap.size, 2, none⟩ = some (.int .i64 0) := blk_cell hG2 2; have uf := blk_frozen hG2)
    | (go_at_call 97; refine (builtIn_any p kk nn ss aa ll cc _ (blk_alloc hT _)).mono ?_; rintro r wx ⟨rfl, rfl⟩)
    | (go_at_call 99; refine (is_no b g nb2 u l2 ns1 58 _ (hR2.alloc _) h63).mono ?_; rintro r w3 ⟨rfl, hb3⟩; have hR3 := (hR2.alloc _).below hb3; have hC3 := (hb3.block w2.heap.size (by simp)).trans (blk_new _ _); have hG3 := (hb3.block w.heap.size (by simp; omega)).trans (blk_alloc hG2 _); have hs3 : w2.heap.size + 1 ≤ w3.heap.size := (by have := hb3.size; simpa using this); obtain ⟨iL, iI, ia, ic, hBi⟩ := hR3.names; obtain ⟨i0, i1, i2, i3, i4, jf, jb⟩ := hBi.facts)
    | (go_at_call 70; refine (must_ok b g nb2 u l2 ns1 46 _ hR3 h46 H0'.out (beq_eq_false_iff_ne.1 h63)).mono ?_; rintro r w4 ⟨rfl, hR9, hK9⟩; obtain ⟨wL, wI, wa, wc, hB9⟩ := hR9.names; obtain ⟨o0, o1, o2, o3, o4, of, ob⟩ := hB9.facts; have hC9 := (hK9.block w2.heap.size (by first | omega | (simp; omega)) (by omega)).trans hC3; have hG9 := (hK9.block w.heap.size (by first | omega | (simp; omega)) (by omega)).trans hG3; have c0 : w4.cell? ⟨w2.heap.size, 0, none⟩ = some (.pointer (some ⟨p, 0, none⟩)) := blk_cell hC9 0; have c1 : w4.cell? ⟨w2.heap.size, 1, none⟩ = some (.slice none 0 0) := blk_cell hC9 1; have c2 : w4.cell? ⟨w2.heap.size, 2, none⟩ = some (.int .i64 0) := blk_cell hC9 2; have cf := blk_frozen hC9; have g0 : w4.cell? ⟨w.heap.size, 0, none⟩ = some (.pointer none) := blk_cell hG9 0; have g1 : w4.cell? ⟨w.heap.size, 1, none⟩ = some (.slice none 0 0) := blk_cell hG9 1; have g2 : w4.cell? ⟨w.heap.size, 2, none⟩ = some (.int .i64 0) := blk_cell hG9 2; have gf := blk_frozen hG9; have hCN : ¬ w2.heap.size = w.heap.size := (by omega); have hNC : ¬ w.heap.size = w2.heap.size := (by omega); have hbC : ¬ b = w2.heap.size := (by omega); have hCb : ¬ w2.heap.size = b := (by omega); have hbN : ¬ b = w.heap.size := (by omega); have hNb : ¬ w.heap.size = b := (by omega)))
  refine bodyPost_ret (v := .agg #[.pointer (some ⟨p, 0, none⟩), .slice none 0 0, .int .i64 ns1.length]) (by simp [results, Tryz.results68, go_sem, *]) rfl ?_
  rw [hS.out]
  have hgN : g ≠ w.heap.size := by omega
  have hgC : g ≠ w2.heap.size := by omega
  have hs9 := hK9.size
  refine ⟨_, _, _, _, _, rfl, ((((((((((((Kept.refl (May b nb) w).setCell (p := ⟨b, 2, none⟩) (.inr (.inl rfl)) _).alloc _).trans (Kept.of_below hb1 (May b nb)) (fun _ _ e => e)).alloc _).trans hK2 (fun k _ e => May.none k e)).alloc _).trans (Kept.of_below hb3 (May b nb)) (fun _ _ e => e)).trans hK9 (fun _ _ e => Or.inl e)).setCell (p := ⟨w2.heap.size, 2, none⟩) (.inl (show w.heap.size ≤ w2.heap.size by omega)) _).setCell (p := ⟨w.heap.size, 0, none⟩) (.inl (Nat.le_refl _)) _).setCell (p := ⟨w.heap.size, 1, none⟩) (.inl (Nat.le_refl _)) _).setCell (p := ⟨w.heap.size, 2, none⟩) (.inl (Nat.le_refl _)) _, nb2, ns1, (((hR9.setOther _ _ _ hbC hgC hnbC).setOther _ _ _ hbN hgN hnbN).setOther _ _ _ hbN hgN hnbN).setOther _ _ _ hbN hgN hnbN, fun x e => by have := hnbl x e; omega, ⟨hT2.keptBy ((((((((Kept.refl (fun k => May b nb2 k ∨ k = w.heap.size) w2).alloc _).trans (Kept.of_below hb3 (fun k => May b nb2 k ∨ k = w.heap.size)) (fun _ _ e => e)).trans hK9 (fun _ _ e => Or.inl (Or.inl e))).setCell (p := ⟨w2.heap.size, 2, none⟩) (.inl (Nat.le_refl _)) _).setCell (p := ⟨w.heap.size, 0, none⟩) (.inr (.inr rfl)) _).setCell (p := ⟨w.heap.size, 1, none⟩) (.inr (.inr rfl)) _).setCell (p := ⟨w.heap.size, 2, none⟩) (.inr (.inr rfl)) _) (fun k _ hF => ?_), [], RowIs.nil _ _ _ _ _, fun k e => by simp [Value.ownBlock] at e, fun q hq => by simp at hq, rfl, by simp⟩, rfl⟩
  have f1 := hF.1
  have f2 := hF.2.1
  simp at f1
  refine ⟨fun e => ?_, by omega, by simp; omega, hF.2.2⟩
  rcases e with (e | e) | e
  · omega
  · exact hF.2.2 e.symm
  · omega
end Go.Proofs.YthdmbbfaphipkaaGreatDoor
