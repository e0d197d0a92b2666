/- What the document's reading does at a goal (promptref: Goal). -/
import Derived.Test.YthdmbbfaphipkaaGreatDoorYar
namespace Go.Proofs.YthdmbbfaphipkaaGreatDoor
open Go.RowKit
theorem notMay {w : World} {b g : Nat} {nb : Option Nat} {l : List Rf.Tok} {ns : List ByteArray} (h : Rd w b g nb l ns) : ∀ k, w.heap.size ≤ k → ¬ May b nb k := by
  intro k hk e
  rcases e with e | e
  · have := h.lt.1; omega
  · have := (h.lt.2.2.1 k e.symm).1; omega
theorem Rd.setOther {w : World} {b g : Nat} {nb : Option Nat} {l : List Rf.Tok} {ns : List ByteArray} (h : Rd w b g nb l ns) (N i : Nat) (v : Value) (hb : b ≠ N) (hg : g ≠ N) (hn : nb ≠ some N) : Rd (w.setCell ⟨N, i, none⟩ v) b g nb l ns :=
  h.keptBy ((Kept.refl (fun k => k = N) w).setCell (p := ⟨N, i, none⟩) (.inr rfl) v) hb hg (fun k e x => hn (by rw [e, x]))
theorem RdE.setOther {w : World} {b : Nat} {E P : Int} (h : RdE w b E P) (N i : Nat) (v : Value) (hb : b ≠ N) : RdE (w.setCell ⟨N, i, none⟩ v) b E P :=
  h.keptBy ((Kept.refl (fun k => k = N) w).setCell (p := ⟨N, i, none⟩) (.inr rfl) v) hb
set_option maxHeartbeats 1000000 in
theorem goal_cut (f b g : Nat) (nb : Option Nat) (t : Rf.Tok) (l : List Rf.Tok) (ns : List ByteArray) (w : World) (h : Rd w b g nb (t :: l) ns) (hk : (t.k == 33) = true) :
    Calls Tryz.prog 100 #[.pointer (some ⟨b, 0, none⟩)] w fun r w' => GoalPost w b g nb (Rf.goalS f (t :: l) ns) r w' := by
  have e33 : t.k = 33 := eq_of_beq hk
  have hS : Hid (Rf.goalS f (t :: l) ns = .ok ([⟨4, ⟨#[]⟩, 0, 0⟩], l, ns)) := by unfold Hid; simp only [Rf.goalS]; rw [if_pos e33]
  have H0 : Hid (t.k ≠ 0) := by unfold Hid; omega
  have H63 : Hid (t.k ≠ 63) := by unfold Hid; omega
  have H : Hid _ := h
  obtain ⟨hbl, hgl, hnl, _⟩ := h.lt
  clear h e33
  go_enter Tryz.func100, Tryz.ntmps100
  go_wp2_with (go_at_call 67; refine (now_any b g nb t l ns _ (H.out.alloc _)).mono ?_; rintro e w1 ⟨rfl, hb1⟩; have hG1 := (hb1.block w.heap.size (by simp)).trans (blk_new _ _); have hs1 : w.heap.size + 1 ≤ w1.heap.size := (by have := hb1.size; simpa using this); have hRa := (H.out.alloc _).below hb1; have g0 : w1.cell? ⟨w.heap.size, 0, none⟩ = some (.pointer none) := blk_cell hG1 0; have g1 : w1.cell? ⟨w.heap.size, 1, none⟩ = some (.int .i64 0) := blk_cell hG1 1; have gf := blk_frozen hG1; have hbn : ¬ b = w.heap.size := (by omega); have hbn' : ¬ w.heap.size = b := (by omega); have hs1' : w.heap.size < w1.heap.size := (by omega); obtain ⟨vL, vN, I, hB, hI, hN⟩ := hRa.next H0.out H63.out; obtain ⟨q0, q1, q2, q3, q4, qf, qb⟩ := hB.facts)
  refine bodyPost_ret (v := .agg #[.pointer none, .int .i64 0]) (by simp [results, Tryz.results100, go_sem, *]) rfl ?_
  rw [hS.out]
  have hgn : g ≠ w.heap.size := by omega
  have hnn : nb ≠ some w.heap.size := fun e => by have := (hnl _ e).1; omega
  refine ⟨none, rfl, ?_, nb, ((hN.setOther _ _ _ hbn hgn hnn).setOther _ _ _ hbn hgn hnn).alloc _, .inl rfl, .inl ⟨rfl, rfl⟩⟩
  exact (((((((Kept.refl (May b nb) w).alloc _).trans (Kept.of_below hb1 (May b nb)) (fun _ _ e => e)).setCell (p := ⟨b, 1, none⟩) (.inr (.inl rfl)) _).setCell (p := ⟨w.heap.size, 0, none⟩) (.inl (Nat.le_refl _)) _).setCell (p := ⟨w.heap.size, 1, none⟩) (.inl (Nat.le_refl _)) _).alloc _)
set_option maxHeartbeats 1000000 in
theorem goal_err (f b g : Nat) (nb : Option Nat) (t : Rf.Tok) (l : List Rf.Tok) (ns : List ByteArray) (w : World) (h : Rd w b g nb (t :: l) ns) (hl : (t :: l).length ≤ f) (hk : (t.k == 33) = false) (eE : Int) (qE : Nat) (hr : Rf.termS f (t :: l) ns = .error (eE, qE)) :
    Calls Tryz.prog 100 #[.pointer (some ⟨b, 0, none⟩)] w fun r w' => GoalPost w b g nb (Rf.goalS f (t :: l) ns) r w' := by
  have hS : Hid (Rf.goalS f (t :: l) ns = .error (eE, qE)) := by unfold Hid; simp only [Rf.goalS]; rw [if_neg (beq_eq_false_iff_ne.1 hk), hr]
  have HR : Hid _ := hr
  clear hr
  have H : Hid _ := h
  obtain ⟨hbl, hgl, hnl, _⟩ := h.lt
  clear h
  go_enter Tryz.func100, Tryz.ntmps100
  go_wp2_with (first
    | (go_at_call 67; refine (now_any b g nb t l ns _ (H.out.alloc _)).mono ?_; rintro e w1 ⟨rfl, hb1⟩; have hG1 := (hb1.block w.heap.size (by simp)).trans (blk_new _ _); have hs1 : w.heap.size + 1 ≤ w1.heap.size := (by have := hb1.size; simpa using this); have hRa := (H.out.alloc _).below hb1; have g0 : w1.cell? ⟨w.heap.size, 0, none⟩ = some (.pointer none) := blk_cell hG1 0; have g1 : w1.cell? ⟨w.heap.size, 1, none⟩ = some (.int .i64 0) := blk_cell hG1 1; have gf := blk_frozen hG1; have hbn : ¬ b = w.heap.size := (by omega); have hbn' : ¬ w.heap.size = b := (by omega); have hs1' : w.heap.size < w1.heap.size := (by omega))
    | (go_at_call 96; refine (term_any f b g nb (t :: l) ns _ (hRa.alloc _) hl).mono ?_; rintro r w2 ⟨p, rfl, hp, hAny, hK2, hm⟩; rw [HR.out] at hm; have hnm := notMay H.out; have hG2 := (hK2.block w.heap.size (by simp; omega) (hnm _ (Nat.le_refl _))).trans (blk_alloc hG1 _); have hX2 : Box w2 w1.heap.size t := (hK2.block w1.heap.size (by simp) (hnm _ (by omega))).trans (blk_new _ _); have hs2 : w1.heap.size + 1 ≤ w2.heap.size := (by have := hK2.size; simpa using this); obtain ⟨kk, nn, ss, aa, ll, cc, hT⟩ := hAny; have k0 : w2.cell? ⟨p, 0, none⟩ = some (.int .u8 kk) := blk_cell hT 0; have x0 : w2.cell? ⟨w1.heap.size, 0, none⟩ = some (.int .u8 t.k) := blk_cell hX2 0; have x1 : w2.cell? ⟨w1.heap.size, 1, none⟩ = some (.int .i64 t.at_) := blk_cell hX2 1; have x2 : w2.cell? ⟨w1.heap.size, 2, none⟩ = some (.string t.s) := blk_cell hX2 2; have x3 : w2.cell? ⟨w1.heap.size, 3, none⟩ = some (.int .i64 t.e) := blk_cell hX2 3; have u0 : w2.cell? ⟨w.heap.size, 0, none⟩ = some (.pointer none) := blk_cell hG2 0; have u1 : w2.cell? ⟨w.heap.size, 1, none⟩ = some (.int .i64 0) := blk_cell hG2 1; have uf := blk_frozen hG2)
    | (go_at_call 98; refine (bad_rdE b t 5 eE qE _ hm).mono ?_; rintro r w3 ⟨rfl, hE3, hb3⟩; have hG3 := (hb3.block w.heap.size (by omega)).trans hG2; have v0 : w3.cell? ⟨w.heap.size, 0, none⟩ = some (.pointer none) := blk_cell hG3 0; have v1 : w3.cell? ⟨w.heap.size, 1, none⟩ = some (.int .i64 0) := blk_cell hG3 1; have vf := blk_frozen hG3))
  all_goals
    refine bodyPost_ret (v := .agg #[.pointer (some ⟨p, 0, none⟩), .int .i64 0]) (by simp [results, Tryz.results100, go_sem, *]) rfl ?_
    rw [hS.out]
    first
    | exact ⟨_, rfl, (((((((Kept.refl (May b nb) w).alloc _).trans (Kept.of_below hb1 (May b nb)) (fun _ _ e => e)).alloc _).trans hK2 (fun _ _ e => e)).trans (Kept.of_below hb3 (May b nb)) (fun _ _ e => e)).setCell (p := ⟨w.heap.size, 0, none⟩) (.inl (Nat.le_refl _)) _).setCell (p := ⟨w.heap.size, 1, none⟩) (.inl (Nat.le_refl _)) _, (hE3.setOther _ _ _ hbn).setOther _ _ _ hbn⟩
    | exact ⟨_, rfl, ((((((Kept.refl (May b nb) w).alloc _).trans (Kept.of_below hb1 (May b nb)) (fun _ _ e => e)).alloc _).trans hK2 (fun _ _ e => e)).setCell (p := ⟨w.heap.size, 0, none⟩) (.inl (Nat.le_refl _)) _).setCell (p := ⟨w.heap.size, 1, none⟩) (.inl (Nat.le_refl _)) _, (RdE.setOther hm _ _ _ hbn).setOther _ _ _ hbn⟩
set_option maxHeartbeats 1000000 in
theorem goal_ok (f b g : Nat) (nb : Option Nat) (t : Rf.Tok) (l : List Rf.Tok) (ns : List ByteArray) (w : World) (h : Rd w b g nb (t :: l) ns) (hl : (t :: l).length ≤ f) (hk : (t.k == 33) = false) (ps : List Rf.Part) (l1 : List Rf.Tok) (ns1 : List ByteArray) (hr : Rf.termS f (t :: l) ns = .ok (ps, l1, ns1)) (h3 : (ps.head?.map (·.kind)) = some 3) :
    Calls Tryz.prog 100 #[.pointer (some ⟨b, 0, none⟩)] w fun r w' => GoalPost w b g nb (Rf.goalS f (t :: l) ns) r w' := by
  have hS : Hid (Rf.goalS f (t :: l) ns = .ok (ps, l1, ns1)) := by unfold Hid; simp only [Rf.goalS]; rw [if_neg (beq_eq_false_iff_ne.1 hk), hr]; simp only []; rw [if_pos h3]
  have HR : Hid _ := hr
  have hk63 := termS_tok hr
  clear hr
  have H3 : Hid _ := h3
  clear h3
  have H : Hid _ := h
  obtain ⟨hbl, hgl, hnl, _⟩ := h.lt
  clear h
  go_enter Tryz.func100, Tryz.ntmps100
  go_wp2_with (first
    | (go_at_call 67; refine (now_any b g nb t l ns _ (H.out.alloc _)).mono ?_; rintro e w1 ⟨rfl, hb1⟩; have hG1 := (hb1.block w.heap.size (by simp)).trans (blk_new _ _); have hs1 : w.heap.size + 1 ≤ w1.heap.size := (by have := hb1.size; simpa using this); have hRa := (H.out.alloc _).below hb1; have g0 : w1.cell? ⟨w.heap.size, 0, none⟩ = some (.pointer none) := blk_cell hG1 0; have g1 : w1.cell? ⟨w.heap.size, 1, none⟩ = some (.int .i64 0) := blk_cell hG1 1; have gf := blk_frozen hG1; have hbn : ¬ b = w.heap.size := (by omega); have hbn' : ¬ w.heap.size = b := (by omega); have hs1' : w.heap.size < w1.heap.size := (by omega))
    | (go_at_call 96; refine (term_any f b g nb (t :: l) ns _ (hRa.alloc _) hl).mono ?_; rintro r w2 ⟨p, rfl, hp, hAny, hK2, hm⟩; rw [HR.out] at hm; have hnm := notMay H.out; have hG2 := (hK2.block w.heap.size (by simp; omega) (hnm _ (Nat.le_refl _))).trans (blk_alloc hG1 _); have hX2 : Box w2 w1.heap.size t := (hK2.block w1.heap.size (by simp) (hnm _ (by omega))).trans (blk_new _ _); have hs2 : w1.heap.size + 1 ≤ w2.heap.size := (by have := hK2.size; simpa using this); obtain ⟨nb2, hR2, hn2, hT2⟩ := hm; obtain ⟨kk, nn, ss, aa, ll, cc, hT, hkk⟩ := hT2.kind; obtain ⟨k118, k110, _, _⟩ := hkk.resolve_left (fun x => x.2.1 H3.out); have k0 : w2.cell? ⟨p, 0, none⟩ = some (.int .u8 kk) := blk_cell hT 0; have x0 : w2.cell? ⟨w1.heap.size, 0, none⟩ = some (.int .u8 t.k) := blk_cell hX2 0; have x1 : w2.cell? ⟨w1.heap.size, 1, none⟩ = some (.int .i64 t.at_) := blk_cell hX2 1; have x2 : w2.cell? ⟨w1.heap.size, 2, none⟩ = some (.string t.s) := blk_cell hX2 2; have x3 : w2.cell? ⟨w1.heap.size, 3, none⟩ = some (.int .i64 t.e) := blk_cell hX2 3; have u0 : w2.cell? ⟨w.heap.size, 0, none⟩ = some (.pointer none) := blk_cell hG2 0; have u1 : w2.cell? ⟨w.heap.size, 1, none⟩ = some (.int .i64 0) := blk_cell hG2 1; have uf := blk_frozen hG2))
  refine bodyPost_ret (v := .agg #[.pointer (some ⟨p, 0, none⟩), .int .i64 0]) (by simp [results, Tryz.results100, go_sem, *]) rfl ?_
  rw [hS.out]
  have hgn : g ≠ w.heap.size := by omega
  have hnn2 : nb2 ≠ some w.heap.size := hn2.ne (fun e => by have := (hnl _ e).1; omega) (by simp; omega)
  refine ⟨_, rfl, ((((((Kept.refl (May b nb) w).alloc _).trans (Kept.of_below hb1 (May b nb)) (fun _ _ e => e)).alloc _).trans hK2 (fun _ _ e => e)).setCell (p := ⟨w.heap.size, 0, none⟩) (.inl (Nat.le_refl _)) _).setCell (p := ⟨w.heap.size, 1, none⟩) (.inl (Nat.le_refl _)) _, nb2, (hR2.setOther _ _ _ hbn hgn hnn2).setOther _ _ _ hbn hgn hnn2, Nb.trans (.inl rfl) hn2 (by simp; omega), .inr ⟨p, rfl, ?_, H3.out⟩⟩
  refine hT2.keptBy (((Kept.refl (fun k => k = w.heap.size) w2).setCell (p := ⟨w.heap.size, 0, none⟩) (.inr rfl) _).setCell (p := ⟨w.heap.size, 1, none⟩) (.inr rfl) _) (fun k _ hF => ⟨fun e => ?_, ?_, ?_, hF.2.2⟩)
  · have := hF.1; simp at this; omega
  · have := hF.1; simp at this; omega
  · have := hF.2.1; simpa using this
set_option maxHeartbeats 1000000 in
theorem goal_var (f b g : Nat) (nb : Option Nat) (t : Rf.Tok) (l : List Rf.Tok) (ns : List ByteArray) (w : World) (h : Rd w b g nb (t :: l) ns) (hl : (t :: l).length ≤ f) (hk : (t.k == 33) = false) (ps : List Rf.Part) (l1 : List Rf.Tok) (ns1 : List ByteArray) (hr : Rf.termS f (t :: l) ns = .ok (ps, l1, ns1)) (h3 : (ps.head?.map (·.kind)) ≠ some 3) :
    Calls Tryz.prog 100 #[.pointer (some ⟨b, 0, none⟩)] w fun r w' => GoalPost w b g nb (Rf.goalS f (t :: l) ns) r w' := by
  have hS : Hid (Rf.goalS f (t :: l) ns = .error (5, t.at_)) := by unfold Hid; simp only [Rf.goalS]; rw [if_neg (beq_eq_false_iff_ne.1 hk), hr]; simp only []; rw [if_neg h3]
  have HR : Hid _ := hr
  have hk63 := termS_tok hr
  clear hr
  have HE : Hid _ := errOf_no t 5 hk63
  have H3 : Hid _ := h3
  clear h3
  have H : Hid _ := h
  obtain ⟨hbl, hgl, hnl, _⟩ := h.lt
  clear h
  go_enter Tryz.func100, Tryz.ntmps100
  go_wp2_with (first
    | (go_at_call 67; refine (now_any b g nb t l ns _ (H.out.alloc _)).mono ?_; rintro e w1 ⟨rfl, hb1⟩; have hG1 := (hb1.block w.heap.size (by simp)).trans (blk_new _ _); have hs1 : w.heap.size + 1 ≤ w1.heap.size := (by have := hb1.size; simpa using this); have hRa := (H.out.alloc _).below hb1; have g0 : w1.cell? ⟨w.heap.size, 0, none⟩ = some (.pointer none) := blk_cell hG1 0; have g1 : w1.cell? ⟨w.heap.size, 1, none⟩ = some (.int .i64 0) := blk_cell hG1 1; have gf := blk_frozen hG1; have hbn : ¬ b = w.heap.size := (by omega); have hbn' : ¬ w.heap.size = b := (by omega); have hs1' : w.heap.size < w1.heap.size := (by omega))
    | (go_at_call 96; refine (term_any f b g nb (t :: l) ns _ (hRa.alloc _) hl).mono ?_; rintro r w2 ⟨p, rfl, hp, hAny, hK2, hm⟩; rw [HR.out] at hm; have hnm := notMay H.out; have hG2 := (hK2.block w.heap.size (by simp; omega) (hnm _ (Nat.le_refl _))).trans (blk_alloc hG1 _); have hX2 : Box w2 w1.heap.size t := (hK2.block w1.heap.size (by simp) (hnm _ (by omega))).trans (blk_new _ _); have hs2 : w1.heap.size + 1 ≤ w2.heap.size := (by have := hK2.size; simpa using this); obtain ⟨nb2, hR2, hn2, hT2⟩ := hm; obtain ⟨kk, nn, ss, aa, ll, cc, hT, hkk⟩ := hT2.kind; obtain ⟨hkk, _, _⟩ := hkk.resolve_right (fun x => H3.out x.2.2.1); have k0 : w2.cell? ⟨p, 0, none⟩ = some (.int .u8 kk) := blk_cell hT 0; have x0 : w2.cell? ⟨w1.heap.size, 0, none⟩ = some (.int .u8 t.k) := blk_cell hX2 0; have x1 : w2.cell? ⟨w1.heap.size, 1, none⟩ = some (.int .i64 t.at_) := blk_cell hX2 1; have x2 : w2.cell? ⟨w1.heap.size, 2, none⟩ = some (.string t.s) := blk_cell hX2 2; have x3 : w2.cell? ⟨w1.heap.size, 3, none⟩ = some (.int .i64 t.e) := blk_cell hX2 3; have u0 : w2.cell? ⟨w.heap.size, 0, none⟩ = some (.pointer none) := blk_cell hG2 0; have u1 : w2.cell? ⟨w.heap.size, 1, none⟩ = some (.int .i64 0) := blk_cell hG2 1; have uf := blk_frozen hG2; rcases hkk with k118 | ⟨k118, k110⟩)
    | (go_at_call 98; refine (bad_rd b g nb2 l1 ns1 t 5 _ hR2 (by rw [HE.out]; show (5 : Int) ≠ 0; decide)).mono ?_; rintro r w3 ⟨rfl, hE3, hK3⟩; rw [HE.out] at hE3; have hG3 := (hK3.block w.heap.size (by omega) hbn').trans hG2; have v0 : w3.cell? ⟨w.heap.size, 0, none⟩ = some (.pointer none) := blk_cell hG3 0; have v1 : w3.cell? ⟨w.heap.size, 1, none⟩ = some (.int .i64 0) := blk_cell hG3 1; have vf := blk_frozen hG3))
  all_goals
    refine bodyPost_ret (v := .agg #[.pointer (some ⟨p, 0, none⟩), .int .i64 0]) (by simp [results, Tryz.results100, go_sem, *]) rfl ?_
    rw [hS.out]
    exact ⟨_, rfl, (((((((Kept.refl (May b nb) w).alloc _).trans (Kept.of_below hb1 (May b nb)) (fun _ _ e => e)).alloc _).trans hK2 (fun _ _ e => e)).trans hK3 (fun _ _ e => Or.inl e)).setCell (p := ⟨w.heap.size, 0, none⟩) (.inl (Nat.le_refl _)) _).setCell (p := ⟨w.heap.size, 1, none⟩) (.inl (Nat.le_refl _)) _, (hE3.setOther _ _ _ hbn).setOther _ _ _ hbn⟩
theorem goal_any (f b g : Nat) (nb : Option Nat) (l : List Rf.Tok) (ns : List ByteArray) (w : World) (h : Rd w b g nb l ns) (hl : l.length ≤ f) :
    Calls Tryz.prog 100 #[.pointer (some ⟨b, 0, none⟩)] w fun r w' => GoalPost w b g nb (Rf.goalS f l ns) r w' := by
  cases l with
  | nil => exact absurd rfl h.ended.ne
  | cons t l =>
    cases hk : (t.k == 33)
    · cases hr : Rf.termS f (t :: l) ns with
      | error x => exact goal_err f b g nb t l ns w h hl hk x.1 x.2 hr
      | ok x =>
        by_cases h3 : (x.1.head?.map (·.kind)) = some 3
        · exact goal_ok f b g nb t l ns w h hl hk x.1 x.2.1 x.2.2 hr h3
        · exact goal_var f b g nb t l ns w h hl hk x.1 x.2.1 x.2.2 hr h3
    · exact goal_cut f b g nb t l ns w h hk
end Go.Proofs.YthdmbbfaphipkaaGreatDoor
/- What the document's reading does at goals with commas between (promptref: Goals). -/
namespace Go.Proofs.YthdmbbfaphipkaaGreatDoor
open Go.RowKit
def goalCells (x : Option Addr) : List Value := [.pointer x, .int .i64 0]
theorem goalCells_len (s : Option Addr) : (goalCells s).length = 2 := rfl
theorem goalCells_one (s : Option Addr) : ∀ u ∈ goalCells s, u.oneCell' = true := by
  intro u hu
  simp only [goalCells, List.mem_cons, List.not_mem_nil, or_false] at hu
  rcases hu with rfl | rfl <;> rfl
theorem Tryz.elemGoal : ElemOk Tryz.prog 55 158 2 16 (.agg #[.pointer none, .int .i64 0]) := ⟨Tryz.underlying55, by kernel_rfl, rfl, by decide, by decide⟩
theorem IsGoal.keptBy {F F' M : Nat → Prop} {w w' : World} {gv : Value} {ps : List Rf.Part} (h : IsGoal F w gv ps) (hk : Kept M w w') (hF : ∀ k, k < w.heap.size → F k → ¬ M k ∧ F' k) : IsGoal F' w' gv ps := by
  rcases h with h | ⟨p, e, h, h3⟩
  · exact .inl h
  · exact .inr ⟨p, e, h.keptBy hk hF, h3⟩
/-- The row v of the goals acc that a body has so far. -/
structure Gs (w wr : World) (nb : Option Nat) (v : Value) (acc : List (Option Addr × List Rf.Part)) : Prop where
  row : RowIs wr 0 158 2 goalCells v (acc.map (·.1))
  rowNew : ∀ k, v.ownBlock = some k → New w wr nb k
  goals : ∀ q ∈ acc, IsGoal (fun k => New w wr nb k ∧ v.ownBlock ≠ some k) wr (.pointer q.1) q.2
theorem Gs.over {w wr w1 : World} {b : Nat} {nb nb1 : Option Nat} {v : Value} {acc : List (Option Addr × List Rf.Part)} (h : Gs w wr nb v acc) (hb : b < w.heap.size) (hk : Kept (May b nb) wr w1) (hn : Nb wr nb nb1) : Gs w w1 nb1 v acc := by
  have hsz := hk.size
  have mv : ∀ k, k < wr.heap.size → w.heap.size ≤ k → nb ≠ some k → ¬ May b nb k ∧ nb1 ≠ some k := fun k h1 h2 h3 => ⟨fun e => by rcases e with e | e; exact absurd e (by omega); exact h3 e.symm, hn.ne h3 h1⟩
  refine ⟨h.row.keptBy hk (fun k e => (mv k (h.rowNew k e).2.1 (h.rowNew k e).1 (h.rowNew k e).2.2).1), fun k e => ⟨(h.rowNew k e).1, by have := (h.rowNew k e).2.1; omega, (mv k (h.rowNew k e).2.1 (h.rowNew k e).1 (h.rowNew k e).2.2).2⟩, fun q hq => (h.goals q hq).keptBy hk (fun k hk1 hF => ?_)⟩
  obtain ⟨⟨f1, f2, f3⟩, f4⟩ := hF
  exact ⟨(mv k f2 f1 f3).1, ⟨f1, by omega, (mv k f2 f1 f3).2⟩, f4⟩
theorem gs_ok {w wr w2 w3 : World} {b g : Nat} {o1 o2 : Obj} {nb1 nb2 : Option Nat} {v : Value} {acc : List (Option Addr × List Rf.Part)} {x : Option Addr} {ps : List Rf.Part} {l : List Rf.Tok} {ns : List ByteArray} {gA n capA : Nat}
    (hs : w.heap.size ≤ wr.heap.size) (hs' : wr.heap.size ≤ w2.heap.size) (hA : Gs w wr nb1 v acc) (hA2 : Gs w w2 nb2 v acc) (hT2 : IsGoal (New wr w2 nb2) w2 (.pointer x) ps) (hR2 : Rd w2 b g nb2 l ns) (hb : b < w.heap.size) (hg : g < w.heap.size)
    (hgr : ((w2.alloc o1).alloc o2).grownBy w3 v.ownBlock) (hn : Nb ((w2.alloc o1).alloc o2) v.ownBlock (some gA)) (hr : RowIs w3 0 158 2 goalCells (.slice (some ⟨gA, 0, none⟩) n capA) ((acc.map (·.1)) ++ [x])) :
    Gs w w3 nb2 (.slice (some ⟨gA, 0, none⟩) n capA) (acc ++ [(x, ps)]) ∧ Rd w3 b g nb2 l ns ∧ Kept (fun k => v.ownBlock = some k) w2 w3 := by
  have hk : Kept (fun k => v.ownBlock = some k) w2 w3 := ((((Kept.refl (fun k => v.ownBlock = some k) w2).alloc o1).alloc o2).grown hgr (fun k e => .inr e))
  have hs2 : w2.heap.size + 2 ≤ w3.heap.size := by have := hgr.size; simpa using this
  have hgl : gA < w3.heap.size := (hr.lt gA rfl).2
  have hnl : ∀ k, nb2 = some k → k < w2.heap.size := fun k e => (hR2.lt.2.2.1 k e).1
  have hgn : w.heap.size ≤ gA ∧ nb2 ≠ some gA := by
    rcases hn with e | ⟨k, e, hk⟩
    · exact ⟨(hA2.rowNew gA e.symm).1, (hA2.rowNew gA e.symm).2.2⟩
    · have := Option.some.inj e
      simp at hk
      exact ⟨by omega, fun e => by have := hnl gA e; omega⟩
  have tm : ∀ gv qs, IsGoal (fun k => New w w2 nb2 k ∧ v.ownBlock ≠ some k) w2 gv qs → IsGoal (fun k => New w w3 nb2 k ∧ (Value.slice (some ⟨gA, 0, none⟩) n capA).ownBlock ≠ some k) w3 gv qs := by
    intro gv qs hq
    refine hq.keptBy hk (fun k hk1 hF => ?_)
    obtain ⟨⟨f1, f2, f3⟩, f4⟩ := hF
    exact ⟨f4, ⟨f1, by omega, f3⟩, fun e => hn.ne f4 (by simp; omega) e⟩
  refine ⟨⟨?_, fun k e => ?_, fun q hq => ?_⟩, hR2.keptBy hk (fun e => by have := (hA2.rowNew b e).1; omega) (fun e => by have := (hA2.rowNew g e).1; omega) (fun k e e2 => (hA2.rowNew k e2).2.2 e), hk⟩
  · rw [List.map_append]; exact hr
  · obtain rfl := Option.some.inj e
    exact ⟨hgn.1, hgl, hgn.2⟩
  · rcases List.mem_append.1 hq with hq | hq
    · exact tm _ _ (hA2.goals q hq)
    · simp at hq; subst hq
      refine tm _ _ (hT2.keptBy (Kept.refl (fun _ => False) _) (fun k _ hF => ⟨fun e => e, ⟨by have := hF.1; omega, hF.2.1, hF.2.2⟩, fun e => ?_⟩))
      have := (hA.rowNew k e).2.1; have := hF.1; omega
/-- What a call that reads goals leaves. -/
def GoalsPost (w : World) (b g : Nat) (nb : Option Nat) (res : Except (Int × Nat) (List (List Rf.Part) × List Rf.Tok × List ByteArray)) (r : Ending) (w' : World) : Prop :=
  ∃ (a : Option Addr) (n c : Nat), r = .returned (.slice a n c) ∧ Kept (May b nb) w w' ∧
  (match res with
   | .ok (gs, l', ns') => ∃ nb' acc, Rd w' b g nb' l' ns' ∧ Nb w nb nb' ∧ Gs w w' nb' (.slice a n c) acc ∧ gs = acc.map (·.2) ∧ acc.length ≤ 8
   | .error (e, q) => RdE w' b e q)
def GoalsSt (w : World) (b g : Nat) (nb : Option Nat) (f : Nat) (want : Except (Int × Nat) (List (List Rf.Part) × List Rf.Tok × List ByteArray)) (m : Nat) (v : Value) (wr : World) : Prop :=
  Kept (May b nb) w wr ∧
  ((∃ k acc l1 ns1 nb1, m = k + 1 ∧ k < 8 ∧ k + 1 + acc.length = 8 ∧ Rd wr b g nb1 l1 ns1 ∧ Nb w nb nb1 ∧ l1.length ≤ f ∧ Gs w wr nb1 v acc ∧ Hid (want = Rf.goalsS f (k + 1) (acc.map (·.2)) l1 ns1)) ∨
   (∃ (e : Int) (q : Nat) (a : Option Addr) (n c : Nat), m = 0 ∧ v = .slice a n c ∧ RdE wr b e q ∧ Hid (want = .error (e, q))))
set_option maxHeartbeats 1000000 in
set_option maxRecDepth 100000 in
theorem goals_any (f b g : Nat) (nb : Option Nat) (l : List Rf.Tok) (ns : List ByteArray) (w : World) (h : Rd w b g nb l ns) (hl : l.length ≤ f) :
    Calls Tryz.prog 69 #[.pointer (some ⟨b, 0, none⟩)] w fun r w' => GoalsPost w b g nb (Rf.goalsS f 8 [] l ns) r w' := by
  obtain ⟨hbl, hgl, _⟩ := h.lt
  go_enter Tryz.func69, Tryz.ntmps69
  go_wp2_with fail
  go_loopg [3, 4, 5] 8 (fun m v _ _ wr => GoalsSt w b g nb f (Rf.goalsS f 8 [] l ns) m v wr)
  case atStart => exact ⟨Kept.refl _ _, .inl ⟨7, [], l, ns, nb, rfl, by omega, rfl, h, .inl rfl, hl, ⟨RowIs.nil _ _ _ _ _, fun k e => by simp [Value.ownBlock] at e, fun q hq => by simp at hq⟩, rfl⟩⟩
  case round =>
    clear h
    obtain ⟨hKr, hst⟩ := hrel
    rcases hst with ⟨k, acc, l1, ns1, nb1, rfl, hk8, hka, hR, hNb, hl1, hA, hwant⟩ | ⟨e, q, a, n, c, rfl, rfl, hE, hwant⟩
    · obtain ⟨vL', I', a', n', c', hBr⟩ := hR.err
      obtain ⟨y0, y1, y2, y3, y4, yf, yb⟩ := hBr.facts
      clear hBr
      cases hres : Rf.goalS f l1 ns1 with
      | error y =>
        obtain ⟨e, q⟩ := y
        have HR : Hid _ := hres
        have hwe : Hid (Rf.goalsS f 8 [] l ns = .error (e, q)) := by unfold Hid; rw [hwant.out, Rf.goalsS, hres]
        clear hres
        go_wp2_with (first
          | (go_at_call 100; refine (goal_any f b g nb1 l1 ns1 _ hR hl1).mono ?_; rintro r w2 ⟨x, rfl, hK2, hm⟩; have hA2 := hA.over hbl hK2 (.inl rfl); rw [HR.out] at hm; obtain ⟨vL2, I2, a2, n2, c2, hB2, hE2⟩ := RdE.ex hm)
          | (at_builtin; refine wpList_app Tryz.elemGoal goalCells goalCells_len goalCells_one _ rfl (.tmp 13) (.tmp 15) rfl 0 _ (acc.map (·.1)) rfl ((hA2.row.alloc _).alloc _) ⟨_, 0, none⟩ 1 x rfl (cell_two_at _ _ (by simp) _ _ _) (by simp; omega) (Nat.zero_le _) ?_; intro gA capA w3 hrow3 hgr3 hnb3; rw [List.length_map] at hrow3; have hbA : u3.ownBlock ≠ some b := (fun e => by have := (hA2.rowNew b e).1; omega); have hB3 := RdB.grown hgr3 (blk_alloc (blk_alloc hB2 _) _) hbA; obtain ⟨z0, z1, z2, z3, z4, zf, zb⟩ := hB3.facts; have he0 : (e == 0) = false := beq_eq_false_iff_ne.2 hE2))
        go_ret
        rw [hwe.out]
        exact ⟨_, _, _, rfl, ((((hKr.trans hK2 (May.of hNb)).alloc _).alloc _).grown hgr3 (fun k e => Or.inl (hA2.rowNew k e).1)), ⟨_, _, _, _, _, hB3, hE2⟩⟩
      | ok y =>
        obtain ⟨ps, l2, ns2⟩ := y
        have HR : Hid _ := hres
        have hlen2 := goalS_len hres
        clear hres
        cases l2 with
        | nil =>
          go_wp2_with (go_at_call 100; refine (goal_any f b g nb1 l1 ns1 _ hR hl1).mono ?_; rintro r w2 ⟨x, rfl, hK2, hm⟩; rw [HR.out] at hm; obtain ⟨nb2, hR2, hn2, hT2⟩ := hm; exact absurd rfl hR2.ended.ne)
        | cons tk l3 =>
          cases h63 : (tk.k == 63)
          · have e63 : tk.k ≠ 63 := beq_eq_false_iff_ne.1 h63
            cases h44 : (tk.k == 44)
            · have e44 : tk.k ≠ 44 := beq_eq_false_iff_ne.1 h44
              have hwe : Hid (Rf.goalsS f 8 [] l ns = .ok (acc.map (·.2) ++ [ps], tk :: l3, ns2)) := by
                unfold Hid; rw [hwant.out, Rf.goalsS, HR.out]; simp only []; rw [if_neg e44, if_neg e63]
              clear e44 e63
              go_wp2_with (first
                | (go_at_call 100; refine (goal_any f b g nb1 l1 ns1 _ hR hl1).mono ?_; rintro r w2 ⟨x, rfl, hK2, hm⟩; rw [HR.out] at hm; obtain ⟨nb2, hR2, hn2, hT2⟩ := hm; have hA2 := hA.over hbl hK2 hn2; obtain ⟨vL2, I2, a2, n2, c2, hB2⟩ := hR2.err)
                | (at_builtin; refine wpList_app Tryz.elemGoal goalCells goalCells_len goalCells_one _ rfl (.tmp 13) (.tmp 15) rfl 0 _ (acc.map (·.1)) rfl ((hA2.row.alloc _).alloc _) ⟨_, 0, none⟩ 1 x rfl (cell_two_at _ _ (by simp) _ _ _) (by simp; omega) (Nat.zero_le _) ?_; intro gA capA w3 hrow3 hgr3 hnb3; rw [List.length_map] at hrow3; have hbA : u3.ownBlock ≠ some b := (fun e => by have := (hA2.rowNew b e).1; omega); have hB3 := RdB.grown hgr3 (blk_alloc (blk_alloc hB2 _) _) hbA; obtain ⟨z0, z1, z2, z3, z4, zf, zb⟩ := hB3.facts; obtain ⟨hA3, hR3, hK3⟩ := gs_ok hKr.size hK2.size hA hA2 hT2 hR2 hbl hgl hgr3 hnb3 hrow3)
                | (go_at_call 99; refine (is_no b g nb2 tk l3 ns2 44 _ hR3 h63).mono ?_; rintro r w5 ⟨rfl, hb5⟩; have hR5 := hR3.below hb5; obtain ⟨vL5, I5, a5, n5, c5, hB5⟩ := hR5.err; obtain ⟨v0, v1, v2, v3, v4, vf, vb⟩ := hB5.facts))
              go_ret
              rw [hwe.out]
              refine ⟨_, _, _, rfl, (((hKr.trans hK2 (May.of hNb)).trans hK3 (fun k hk e => absurd (hA2.rowNew k e).1 (by omega))).trans (Kept.of_below hb5 (May b nb)) (fun _ _ e => e)), nb2, acc ++ [(x, ps)], hR5, hNb.trans hn2 hKr.size, hA3.over hbl (Kept.of_below hb5 (May b nb2)) (.inl rfl), by simp, by simp; omega⟩
            · have e44 : tk.k = 44 := eq_of_beq h44
              have H0' : Hid (tk.k ≠ 0) := by unfold Hid; omega
              clear e63
              by_cases hk0 : k = 0
              · have hwe : Hid (Rf.goalsS f 8 [] l ns = .error (3, tk.at_)) := by
                  unfold Hid; rw [hwant.out, Rf.goalsS, HR.out]; simp only []; rw [if_pos e44, if_pos (by simp; omega)]
                have HE : Hid _ := errOf_no tk 3 h63
                have h8 : ((acc.length : Int) + 1 == 8) = true := by rw [beq_iff_eq]; omega
                clear e44
                go_wp2_with (first
                  | (go_at_call 100; refine (goal_any f b g nb1 l1 ns1 _ hR hl1).mono ?_; rintro r w2 ⟨x, rfl, hK2, hm⟩; rw [HR.out] at hm; obtain ⟨nb2, hR2, hn2, hT2⟩ := hm; have hA2 := hA.over hbl hK2 hn2; obtain ⟨vL2, I2, a2, n2, c2, hB2⟩ := hR2.err)
                  | (at_builtin; refine wpList_app Tryz.elemGoal goalCells goalCells_len goalCells_one _ rfl (.tmp 13) (.tmp 15) rfl 0 _ (acc.map (·.1)) rfl ((hA2.row.alloc _).alloc _) ⟨_, 0, none⟩ 1 x rfl (cell_two_at _ _ (by simp) _ _ _) (by simp; omega) (Nat.zero_le _) ?_; intro gA capA w3 hrow3 hgr3 hnb3; rw [List.length_map] at hrow3; have hbA : u3.ownBlock ≠ some b := (fun e => by have := (hA2.rowNew b e).1; omega); have hB3 := RdB.grown hgr3 (blk_alloc (blk_alloc hB2 _) _) hbA; obtain ⟨z0, z1, z2, z3, z4, zf, zb⟩ := hB3.facts; obtain ⟨hA3, hR3, hK3⟩ := gs_ok hKr.size hK2.size hA hA2 hT2 hR2 hbl hgl hgr3 hnb3 hrow3)
                  | (go_at_call 99; refine (is_no b g nb2 tk l3 ns2 44 _ hR3 h63).mono ?_; rintro r w5 ⟨rfl, hb5⟩; have hR5 := hR3.below hb5; obtain ⟨vL5, I5, a5, n5, c5, hB5⟩ := hR5.err; obtain ⟨v0, v1, v2, v3, v4, vf, vb⟩ := hB5.facts)
                  | (go_at_call 67; refine (now_any b g nb2 tk l3 ns2 _ hR5).mono ?_; rintro r w6 ⟨rfl, hb6⟩)
                  | (go_at_call 98; refine (bad_rd b g nb2 (tk :: l3) ns2 tk 3 _ (hR5.below hb6) (by rw [HE.out]; show (3 : Int) ≠ 0; decide)).mono ?_; rintro r w7 ⟨rfl, hE7, hK7⟩; rw [HE.out] at hE7; obtain ⟨vL7, I7, a7, n7, c7, hB7, hne7⟩ := hE7.ex; obtain ⟨r0, r1, r2, r3, r4, rf, rb⟩ := hB7.facts))
                go_roundg 0
                case measure => omega
                case rel =>
                  exact ⟨(((((hKr.trans hK2 (May.of hNb)).trans hK3 (fun k hk e => absurd (hA2.rowNew k e).1 (by omega))).trans (Kept.of_below hb5 (May b nb)) (fun _ _ e => e)).trans (Kept.of_below hb6 (May b nb)) (fun _ _ e => e)).trans hK7 (fun _ _ e => Or.inl e)).setCell (p := ⟨b, 1, none⟩) (.inr (.inl rfl)) _, .inr ⟨3, tk.at_, _, _, _, rfl, rfl, ⟨_, _, _, _, _, blk_set hB7 1 _, by decide⟩, hwe⟩⟩
              · have hwe : Hid (Rf.goalsS f 8 [] l ns = Rf.goalsS f (k - 1 + 1) (acc.map (·.2) ++ [ps]) l3 ns2) := by
                  unfold Hid; rw [hwant.out, Rf.goalsS, HR.out]; simp only []; rw [if_pos e44, if_neg (by simp; omega), show k - 1 + 1 = k by omega]
                have h8 : ((acc.length : Int) + 1 == 8) = false := by rw [beq_eq_false_iff_ne]; omega
                clear e44
                go_wp2_with (first
                  | (go_at_call 100; refine (goal_any f b g nb1 l1 ns1 _ hR hl1).mono ?_; rintro r w2 ⟨x, rfl, hK2, hm⟩; rw [HR.out] at hm; obtain ⟨nb2, hR2, hn2, hT2⟩ := hm; have hA2 := hA.over hbl hK2 hn2; obtain ⟨vL2, I2, a2, n2, c2, hB2⟩ := hR2.err)
                  | (at_builtin; refine wpList_app Tryz.elemGoal goalCells goalCells_len goalCells_one _ rfl (.tmp 13) (.tmp 15) rfl 0 _ (acc.map (·.1)) rfl ((hA2.row.alloc _).alloc _) ⟨_, 0, none⟩ 1 x rfl (cell_two_at _ _ (by simp) _ _ _) (by simp; omega) (Nat.zero_le _) ?_; intro gA capA w3 hrow3 hgr3 hnb3; rw [List.length_map] at hrow3; have hbA : u3.ownBlock ≠ some b := (fun e => by have := (hA2.rowNew b e).1; omega); have hB3 := RdB.grown hgr3 (blk_alloc (blk_alloc hB2 _) _) hbA; obtain ⟨z0, z1, z2, z3, z4, zf, zb⟩ := hB3.facts; obtain ⟨hA3, hR3, hK3⟩ := gs_ok hKr.size hK2.size hA hA2 hT2 hR2 hbl hgl hgr3 hnb3 hrow3)
                  | (go_at_call 99; refine (is_no b g nb2 tk l3 ns2 44 _ hR3 h63).mono ?_; rintro r w5 ⟨rfl, hb5⟩; have hR5 := hR3.below hb5; obtain ⟨vL5, vN5, I5, hB5, hI5, hN5⟩ := hR5.next H0'.out (beq_eq_false_iff_ne.1 h63); obtain ⟨v0, v1, v2, v3, v4, vf, vb⟩ := hB5.facts))
                go_roundg k
                case measure => omega
                case rel =>
                  refine ⟨(((hKr.trans hK2 (May.of hNb)).trans hK3 (fun k hk e => absurd (hA2.rowNew k e).1 (by omega))).trans (Kept.of_below hb5 (May b nb)) (fun _ _ e => e)).setCell (p := ⟨b, 1, none⟩) (.inr (.inl rfl)) _, .inl ⟨k - 1, acc ++ [(x, ps)], l3, ns2, nb2, by omega, by omega, by simp; omega, hN5, hNb.trans hn2 hKr.size, by simp at hlen2; omega, hA3.over hbl ((Kept.of_below hb5 (May b nb2)).setCell (p := ⟨b, 1, none⟩) (.inr (.inl rfl)) _) (.inl rfl), ?_⟩⟩
                  have h9 := hwe.out
                  simp only [List.map_append, List.map_cons, List.map_nil]
                  exact h9
          · have e63 : tk.k = 63 := eq_of_beq h63
            have hwe : Hid (Rf.goalsS f 8 [] l ns = .error (tk.e, tk.at_)) := by
              unfold Hid; rw [hwant.out, Rf.goalsS, HR.out]; simp only []; rw [if_neg (by omega), if_pos e63, errOf_yes _ _ h63]
            clear e63
            go_wp2_with (first
              | (go_at_call 100; refine (goal_any f b g nb1 l1 ns1 _ hR hl1).mono ?_; rintro r w2 ⟨x, rfl, hK2, hm⟩; rw [HR.out] at hm; obtain ⟨nb2, hR2, hn2, hT2⟩ := hm; have hA2 := hA.over hbl hK2 hn2; obtain ⟨vL2, I2, a2, n2, c2, hB2⟩ := hR2.err)
              | (at_builtin; refine wpList_app Tryz.elemGoal goalCells goalCells_len goalCells_one _ rfl (.tmp 13) (.tmp 15) rfl 0 _ (acc.map (·.1)) rfl ((hA2.row.alloc _).alloc _) ⟨_, 0, none⟩ 1 x rfl (cell_two_at _ _ (by simp) _ _ _) (by simp; omega) (Nat.zero_le _) ?_; intro gA capA w3 hrow3 hgr3 hnb3; rw [List.length_map] at hrow3; have hbA : u3.ownBlock ≠ some b := (fun e => by have := (hA2.rowNew b e).1; omega); have hB3 := RdB.grown hgr3 (blk_alloc (blk_alloc hB2 _) _) hbA; obtain ⟨z0, z1, z2, z3, z4, zf, zb⟩ := hB3.facts; obtain ⟨hA3, hR3, hK3⟩ := gs_ok hKr.size hK2.size hA hA2 hT2 hR2 hbl hgl hgr3 hnb3 hrow3)
              | (go_at_call 99; refine (is_bad b g nb2 tk l3 ns2 44 _ hR3 h63).mono ?_; rintro r w5 ⟨rfl, hE5, hK5⟩))
            go_ret
            rw [hwe.out]
            exact ⟨_, _, _, rfl, ((hKr.trans hK2 (May.of hNb)).trans hK3 (fun k hk e => absurd (hA2.rowNew k e).1 (by omega))).trans hK5 (fun _ _ e => Or.inl e), hE5⟩
    · obtain ⟨vL', I', a', n', c', hBr, hne⟩ := hE.ex
      obtain ⟨y0, y1, y2, y3, y4, yf, yb⟩ := hBr.facts
      have he0 : (e == 0) = false := beq_eq_false_iff_ne.2 hne
      clear hBr
      go_wp2_with fail
      go_ret
      rw [hwant.out]
      exact ⟨a, n, c, rfl, hKr, hE⟩
end Go.Proofs.YthdmbbfaphipkaaGreatDoor
