/- The program's terms by their blocks; what it asks of a head (term: BuiltIn), and what its reader does at a goal (read: goal). -/
import Derived.Test.YtegjiaceopnfjaaGreatDoorBc
import Derived.Test.YtegjiaceopnfjaaGreatDoorAh
namespace Rf
theorem kindOf_9 {k : Int} (h : (k == 33) = false) : (kindOf k == 9) = false := by
  rw [beq_eq_false_iff_ne] at *
  unfold kindOf; repeat' split
  all_goals omega
theorem termS_name {f : Nat} {t : Tok} {l : List Tok} {ns : List ByteArray} {p : List Part} {l1 : List Tok} {ns1 : List ByteArray} (h118 : t.k ≠ 118) (h110 : t.k ≠ 110) (h : termS f (t :: l) ns = .ok (p, l1, ns1)) : ∃ x q, p = x :: q ∧ x.kind = 3 := by
  cases f with
  | zero => simp [termS] at h
  | succ f =>
    rw [termS, if_neg h118, if_neg h110] at h
    split at h
    · cases l with
      | nil => cases h
      | cons u l' =>
        simp only [nameS] at h
        split at h
        · cases ha : argsS (termS f) 4 [] l' ns with
          | error x => rw [ha] at h; cases h
          | ok x =>
            rw [ha] at h
            simp only [Except.ok.injEq, Prod.mk.injEq] at h
            obtain ⟨rfl, _⟩ := h
            exact ⟨_, _, rfl, rfl⟩
        · simp only [Except.ok.injEq, Prod.mk.injEq] at h; obtain ⟨rfl, _⟩ := h; exact ⟨_, _, rfl, rfl⟩
    · cases h
/-- A goal that begins with no variable and no number is read as a term. -/
theorem goalS_term {f : Nat} {t : Tok} {l : List Tok} {ns : List ByteArray} (h33 : t.k ≠ 33) (h118 : t.k ≠ 118) (h110 : t.k ≠ 110) : goalS f (t :: l) ns = termS f (t :: l) ns := by
  simp only [goalS]
  rw [if_neg h33]
  cases hr : termS f (t :: l) ns with
  | error e => rfl
  | ok x =>
    obtain ⟨p, l1, ns1⟩ := x
    obtain ⟨y, q, rfl, hy⟩ := termS_name h118 h110 hr
    simp only []
    rw [if_pos (by simp [hy])]
end Rf
namespace Go.Proofs.YtegjiaceopnfjaaGreatDoor
open Go.RowKit
/-- v is a term's row of parts; its block is one of F's. -/
def PT (F : Nat → Prop) (w : World) (v : Value) (ps : List Rf.Part) : Prop := RowIs w 0 141 4 partCells v ps ∧ ∀ k, v.ownBlock = some k → F k
theorem PT.keptBy {F F' M : Nat → Prop} {w w' : World} {v : Value} {ps : List Rf.Part} (h : PT F w v ps) (hk : Kept M w w') (hF : ∀ k, k < w.heap.size → F k → ¬ M k ∧ F' k) : PT F' w' v ps :=
  ⟨h.1.keptBy hk (fun k e => (hF k (h.1.lt k e).2 (h.2 k e)).1), fun k e => (hF k (h.1.lt k e).2 (h.2 k e)).2⟩
theorem PTerm.pt {w w' : World} {g n c : Nat} {nb : Option Nat} {ps : List Rf.Part} (h : PTerm w' w.heap.size (.slice (some ⟨g, 0, none⟩) n c) ps) (hn : nb ≠ some g) : PT (New w w' nb) w' (.slice (some ⟨g, 0, none⟩) n c) ps := by
  have := h.lt
  exact ⟨⟨ownsRow_base h.own (fun _ _ => Nat.zero_le _)⟩, fun k e => by cases e; exact ⟨this.1, this.2, hn⟩⟩
set_option maxHeartbeats 1000000 in
theorem pbuiltIn_any (g n c : Nat) (p : Rf.Part) (rest : List Rf.Part) (w : World) (h : RowIs w 0 141 4 partCells (.slice (some ⟨g, 0, none⟩) n c) (p :: rest)) (h3 : p.kind = 3) :
    Calls Tryz.prog 83 #[.slice (some ⟨g, 0, none⟩) n c] w fun r w' => r = .returned (.bool (Rf.builtInB p.name p.args)) ∧ w' = w := by
  have x0 := h.cells partCells_len 0 p rfl 0 _ rfl
  have x1 := h.cells partCells_len 0 p rfl 1 _ rfl
  have x3 := h.cells partCells_len 0 p rfl 3 _ rfl
  rw [h3] at x0
  simp only [Nat.zero_mul, Nat.zero_add] at x0 x1 x3
  have hn : 1 ≤ n := by rw [row_len h]; simp
  have hB : Hid _ := builtInB_eq p.name p.args
  clear h h3
  generalize p.args = a at *
  rcases (show a = 0 ∨ a = 1 ∨ a = 2 ∨ a = 3 ∨ ((a == 0) = false ∧ (a == 1) = false ∧ (a == 2) = false ∧ (a == 3) = false) by
    by_cases h0 : a = 0
    · exact .inl h0
    · by_cases h1 : a = 1
      · exact .inr (.inl h1)
      · by_cases h2 : a = 2
        · exact .inr (.inr (.inl h2))
        · by_cases h3 : a = 3
          · exact .inr (.inr (.inr (.inl h3)))
          · exact .inr (.inr (.inr (.inr ⟨beq_eq_false_iff_ne.2 h0, beq_eq_false_iff_ne.2 h1, beq_eq_false_iff_ne.2 h2, beq_eq_false_iff_ne.2 h3⟩)))) with rfl | rfl | rfl | rfl | ⟨a0, a1, a2, a3⟩
  all_goals
    go_enter Tryz.func83, Tryz.ntmps83
    go_wp2
  all_goals
    go_ret
    refine ⟨ret_bool ?_, rfl⟩
    rw [hB.out]
    clear hB
  all_goals
    unfold builtInC
    first | (simp [*]; done) | (simp; done) | (simp [*]; omega)
end Go.Proofs.YtegjiaceopnfjaaGreatDoor
/- What the program's reader does at a goal and at a head (read: goal, head). -/
namespace Go.Proofs.YtegjiaceopnfjaaGreatDoor
open Go.RowKit
set_option maxHeartbeats 1000000 in
set_option maxRecDepth 100000 in
theorem pgoal_any (f : Nat) (r : Nat) (text : ByteArray) (nb : Option Nat) (l0 : List Rf.Tok) (ns : List ByteArray) (w : World) (h : Pr w r text nb l0 ns) (hl0 : l0.length ≤ f) :
    Calls Tryz.prog 84 #[.pointer (some ⟨r, 0, none⟩)] w fun x w' => PTermPost w r text nb (Rf.goalS f l0 ns) x w' := by
  obtain ⟨t, l, rfl⟩ : ∃ t l, l0 = t :: l := by
    cases l0 with
    | nil => exact absurd rfl h.ended.ne
    | cons t l => exact ⟨t, l, rfl⟩
  obtain ⟨f', rfl⟩ : ∃ f', f = f' + 1 := ⟨f - 1, by simp at hl0; omega⟩
  have H : Hid _ := h
  obtain ⟨hrl, hnl, hnr⟩ := h.lt
  obtain ⟨q1, ⟨_, q0⟩, ql⟩ := h.kind
  clear h
  cases c33 : (t.k == 33)
  · cases c118 : (t.k == 118)
    · cases c110 : (t.k == 110)
      · have hS : Hid (Rf.goalS (f' + 1) (t :: l) ns = Rf.termS (f' + 1) (t :: l) ns) := Rf.goalS_term (beq_eq_false_iff_ne.1 c33) (beq_eq_false_iff_ne.1 c118) (beq_eq_false_iff_ne.1 c110)
        have k9 := Rf.kindOf_9 c33
        have k3 := Rf.kindOf_is3 c118
        have k4 := Rf.kindOf_is4 c110
        go_enter Tryz.func84, Tryz.ntmps84
        go_wp2_with (go_at_call 82; refine (pterm_any (f' + 1) r text nb (t :: l) ns _ H.out hl0).mono ?_; intro x w2 hP; obtain ⟨a, n, c, b, rfl⟩ := hP.tuple)
        refine bodyPost_ret (v := .tuple #[.slice a n c, .bool b]) (by simp [results, Tryz.results84, go_sem]) rfl ?_
        rw [hS.out]
        exact hP
      · have e110 : t.k = 110 := eq_of_beq c110
        have hS : Hid (Rf.goalS (f' + 1) (t :: l) ns = .error (5, t.at_)) := by
          unfold Hid; simp only [Rf.goalS]; rw [if_neg (by omega), Rf.termS, if_neg (by omega), if_pos e110]; rfl
        have HX : Hid (Rf.errOf t 5 = (5, t.at_)) := errOf_no t 5 (by rw [e110]; decide)
        have hq : Rf.kindOf t.k = 4 := by rw [e110]; rfl
        rw [hq] at q1
        clear e110 hq c110 c118 c33
        go_enter Tryz.func84, Tryz.ntmps84
        go_wp2_with (go_at_call 59; refine (refuse_any _ r text nb t l ns 5 H.out (by decide)).mono ?_; rintro e w7 ⟨rfl, hE7, hK7⟩; rw [HX.out] at hE7)
        refine bodyPost_ret (v := .tuple #[.slice none 0 0, .bool false]) (by simp [results, Tryz.results84, go_sem]) rfl ?_
        rw [hS.out]
        exact ⟨hK7.mono (fun _ _ e => Or.inl e), rfl, hE7⟩
    · have e118 : t.k = 118 := eq_of_beq c118
      have hS : Hid (Rf.goalS (f' + 1) (t :: l) ns = match Rf.varS t ns with | .error e => .error e | .ok _ => .error (5, t.at_)) := by
        unfold Hid; simp only [Rf.goalS]; rw [if_neg (by omega), Rf.termS, if_pos e118]; unfold Rf.varT
        cases Rf.varS t ns <;> rfl
      have HX : Hid (Rf.errOf t 5 = (5, t.at_)) := errOf_no t 5 (by rw [e118]; decide)
      have hq : Rf.kindOf t.k = 3 := by rw [e118]; rfl
      rw [hq] at q1
      have H118 : Hid _ := e118
      clear e118 hq c118 c33
      cases hv : Rf.varS t ns with
      | error x =>
        obtain ⟨e, q⟩ := x
        have HV : Hid _ := hv
        clear hv
        go_enter Tryz.func84, Tryz.ntmps84
        go_wp2_with (go_at_call 98; refine (which_any _ r text nb t l ns H.out H118.out).mono ?_; rintro x w1 ⟨hK1, hm⟩; rw [HV.out] at hm; obtain ⟨rfl, hE1⟩ := hm)
        refine bodyPost_ret (v := .tuple #[.slice none 0 0, .bool false]) (by simp [results, Tryz.results84, go_sem]) rfl ?_
        rw [hS.out, HV.out]
        exact ⟨hK1, rfl, hE1⟩
      | ok x =>
        obtain ⟨i, ns'⟩ := x
        have HV : Hid _ := hv
        clear hv
        go_enter Tryz.func84, Tryz.ntmps84
        go_wp2_with (first
          | (go_at_call 98; refine (which_any _ r text nb t l ns H.out H118.out).mono ?_; rintro x w1 ⟨hK1, hm⟩; rw [HV.out] at hm; obtain ⟨rfl, hi16, nb1, hP1, hNb1⟩ := hm)
          | (go_at_call 59; refine (refuse_any _ r text nb1 t l ns' 5 hP1 (by decide)).mono ?_; rintro e w7 ⟨rfl, hE7, hK7⟩; rw [HX.out] at hE7))
        refine bodyPost_ret (v := .tuple #[.slice none 0 0, .bool false]) (by simp [results, Tryz.results84, go_sem]) rfl ?_
        rw [hS.out, HV.out]
        exact ⟨hK1.trans hK7 (fun _ _ e => Or.inl e), rfl, hE7⟩
  · have e33 : t.k = 33 := eq_of_beq c33
    have H0 : Hid (t.k ≠ 0) := by unfold Hid; omega
    have H63 : Hid (t.k ≠ 63) := by unfold Hid; omega
    have hS : Hid (Rf.goalS (f' + 1) (t :: l) ns = .ok ([⟨4, ⟨#[]⟩, 0, 0⟩], l, ns)) := by unfold Hid; simp only [Rf.goalS]; rw [if_pos e33]
    have hq : Rf.kindOf t.k = 9 := by rw [e33]; rfl
    rw [hq] at q1
    clear e33 hq c33
    go_enter Tryz.func84, Tryz.ntmps84
    go_wp2_with (go_at_call 40; refine (step_any _ r text nb t l ns H.out H0.out H63.out).mono ?_; rintro e w2 ⟨rfl, hP2, hK2⟩)
    refine bodyPost_ret (v := .tuple #[.slice (some ⟨w2.heap.size, 0, none⟩) 1 1, .bool true]) (by simp [results, Tryz.results84, go_sem]) rfl ?_
    rw [hS.out]
    have hs2 := hK2.size
    exact ⟨(hK2.mono (fun _ _ e => Or.inl e)).alloc _, _, _, _, nb, rfl, hP2.alloc _, .inl rfl, row_new (blk_new _ _) rfl rfl (by omega), fun e => by have := hnl _ e; omega⟩
end Go.Proofs.YtegjiaceopnfjaaGreatDoor
/- What the program's reader does at a clause's head (read: head). -/
namespace Rf
def headS (f : Nat) (l : List Tok) : Except (Int × Nat) (List Part × List Tok × List ByteArray) :=
  match l with
  | [] => .error (2, 0)
  | t :: _ => match termS f l [] with
    | .error e => .error e
    | .ok (p, l1, ns1) => if headB p = true then .ok (p, l1, ns1) else .error (4, t.at_)
theorem headS_var {f : Nat} {t : Tok} {l : List Tok} (h : t.k = 118) : headS (f + 1) (t :: l) = .error (4, t.at_) := by
  simp only [headS]
  rw [termS, if_pos h]
  unfold varT varS lookS
  have : (if t.s = under then none else List.findIdx? (fun n => decide (n = t.s)) ([] : List ByteArray)) = none := by split <;> rfl
  rw [this]
  rfl
theorem headS_num {f : Nat} {t : Tok} {l : List Tok} (h : t.k = 110) : headS (f + 1) (t :: l) = .error (4, t.at_) := by
  simp only [headS]
  rw [termS, if_neg (by omega), if_pos h]
  rfl
end Rf
namespace Go.Proofs.YtegjiaceopnfjaaGreatDoor
open Go.RowKit
set_option maxHeartbeats 1000000 in
set_option maxRecDepth 100000 in
theorem phead_any (f : Nat) (r : Nat) (text : ByteArray) (nb : Option Nat) (l0 : List Rf.Tok) (w : World) (h : Pr w r text nb l0 []) (hl0 : l0.length ≤ f) :
    Calls Tryz.prog 57 #[.pointer (some ⟨r, 0, none⟩)] w fun x w' => PTermPost w r text nb (Rf.headS f l0) x w' := by
  obtain ⟨t, l, rfl⟩ : ∃ t l, l0 = t :: l := by
    cases l0 with
    | nil => exact absurd rfl h.ended.ne
    | cons t l => exact ⟨t, l, rfl⟩
  obtain ⟨f', rfl⟩ : ∃ f', f = f' + 1 := ⟨f - 1, by simp at hl0; omega⟩
  have H : Hid _ := h
  obtain ⟨hrl, hnl, hnr⟩ := h.lt
  obtain ⟨K, fr, to, C, vN, hB, ht, _⟩ := h.toks
  obtain ⟨q0, q1, q2, q3, q4, q5, q6, q7, qf, ql⟩ := hB.facts
  rw [ht.1] at q1
  rw [ht.2.1] at q2
  clear h hB ht
  cases c118 : (t.k == 118)
  · cases c110 : (t.k == 110)
    · have k3 := Rf.kindOf_is3 c118
      have k4 := Rf.kindOf_is4 c110
      cases hr : Rf.termS (f' + 1) (t :: l) [] with
      | error x =>
        obtain ⟨e, q⟩ := x
        have hS : Hid (Rf.headS (f' + 1) (t :: l) = .error (e, q)) := by unfold Hid; simp only [Rf.headS]; rw [hr]
        have HR : Hid _ := hr
        clear hr
        go_enter Tryz.func57, Tryz.ntmps57
        go_wp2_with (go_at_call 82; refine (pterm_any (f' + 1) r text nb (t :: l) [] _ (H.out.alloc _) hl0).mono ?_; rintro x w2 ⟨hK2, hm⟩; rw [HR.out] at hm; obtain ⟨rfl, hE2⟩ := hm)
        refine bodyPost_ret (v := .tuple #[.slice none 0 0, .bool false]) (by simp [results, Tryz.results57, go_sem]) rfl ?_
        rw [hS.out]
        exact ⟨((Kept.refl (May r nb) w).alloc _).trans hK2 (fun _ _ e => e), rfl, hE2⟩
      | ok x =>
        obtain ⟨p, l1, ns1⟩ := x
        obtain ⟨y, q, rfl, hy⟩ := Rf.termS_name (beq_eq_false_iff_ne.1 c118) (beq_eq_false_iff_ne.1 c110) hr
        have Hy : Hid _ := hy
        cases hb : Rf.builtInB y.name y.args
        · have hS : Hid (Rf.headS (f' + 1) (t :: l) = .ok (y :: q, l1, ns1)) := by unfold Hid; simp only [Rf.headS]; rw [hr]; simp only []; rw [if_pos (by simp [Rf.headB, hb, hy])]
          have HR : Hid _ := hr
          clear hr hy
          go_enter Tryz.func57, Tryz.ntmps57
          go_wp2_with (first
            | (go_at_call 82; refine (pterm_any (f' + 1) r text nb (t :: l) [] _ (H.out.alloc _) hl0).mono ?_; rintro x w2 ⟨hK2, hm⟩; rw [HR.out] at hm; obtain ⟨g, n, c, nb2, rfl, hP2, hNb2, hT2, hng2⟩ := hm; have hrow0 : RowIs w2 0 141 4 partCells (.slice (some ⟨g, 0, none⟩) n c) (y :: q) := ⟨ownsRow_base hT2.own (fun _ _ => Nat.zero_le _)⟩)
            | (go_at_call 83; refine (pbuiltIn_any g n c y q _ hrow0 Hy.out).mono ?_; rintro x w3 ⟨rfl, rfl⟩))
          refine bodyPost_ret (v := .tuple #[.slice (some ⟨g, 0, none⟩) n c, .bool true]) (by simp [results, Tryz.results57, go_sem]) rfl ?_
          rw [hS.out]
          have hs2 := hK2.size
          simp at hs2
          exact ⟨((Kept.refl (May r nb) w).alloc _).trans hK2 (fun _ _ e => e), _, _, _, nb2, rfl, hP2, Nb.trans (.inl rfl) hNb2 (by simp), ⟨ownsRow_base hT2.own (fun k e => by have := (RowIs.lt hT2 k e).1; simp at this; omega)⟩, hng2⟩
        · have hS : Hid (Rf.headS (f' + 1) (t :: l) = .error (4, t.at_)) := by unfold Hid; simp only [Rf.headS]; rw [hr]; simp only []; rw [if_neg (by simp [Rf.headB, hb])]
          have HR : Hid _ := hr
          clear hr hy
          go_enter Tryz.func57, Tryz.ntmps57
          go_wp2_with (first
            | (go_at_call 82; refine (pterm_any (f' + 1) r text nb (t :: l) [] _ (H.out.alloc _) hl0).mono ?_; rintro x w2 ⟨hK2, hm⟩; rw [HR.out] at hm; obtain ⟨g, n, c, nb2, rfl, hP2, hNb2, hT2, hng2⟩ := hm; have hrow0 : RowIs w2 0 141 4 partCells (.slice (some ⟨g, 0, none⟩) n c) (y :: q) := ⟨ownsRow_base hT2.own (fun _ _ => Nat.zero_le _)⟩; obtain ⟨t9, l9, K9, f9, to9, C9, a9, c9, _, hB9, _⟩ := hP2.shape; obtain ⟨z0, z1, z2, z3, z4, z5, z6, z7, zf, zl⟩ := hB9.facts; have hN9 := (hK2.block w.heap.size (by simp) (fun e => by rcases e with e | e; omega; have := hnl _ e.symm; omega)).trans (blk_new _ _); have n1 : w2.cell? ⟨w.heap.size, 1, none⟩ = some (.int .i64 t.at_) := blk_cell hN9 1; have hrN : ¬ r = w.heap.size := (by omega); have hNr : ¬ w.heap.size = r := (by omega))
            | (go_at_call 83; refine (pbuiltIn_any g n c y q _ hrow0 Hy.out).mono ?_; rintro x w3 ⟨rfl, rfl⟩))
          refine bodyPost_ret (v := .tuple #[.slice none 0 0, .bool false]) (by simp [results, Tryz.results57, go_sem]) rfl ?_
          rw [hS.out]
          exact ⟨((((Kept.refl (May r nb) w).alloc _).trans hK2 (fun _ _ e => e)).setCell (p := ⟨r, 6, none⟩) (.inr (.inl rfl)) _).setCell (p := ⟨r, 7, none⟩) (.inr (.inl rfl)) _, rfl, ⟨_, _, _, _, _, _, _, _, blk_set (blk_set hB9 6 _) 7 _, by decide⟩⟩
    · have e110 : t.k = 110 := eq_of_beq c110
      have hS : Hid _ := Rf.headS_num (f := f') (l := l) e110
      have HX : Hid (Rf.errOf t 4 = (4, t.at_)) := errOf_no t 4 (by rw [e110]; decide)
      have hq : Rf.kindOf t.k = 4 := by rw [e110]; rfl
      rw [hq] at q1
      clear e110 hq
      go_enter Tryz.func57, Tryz.ntmps57
      go_wp2_with (go_at_call 59; refine (refuse_any _ r text nb t l [] 4 (H.out.alloc _) (by decide)).mono ?_; rintro e w7 ⟨rfl, hE7, hK7⟩; rw [HX.out] at hE7)
      refine bodyPost_ret (v := .tuple #[.slice none 0 0, .bool false]) (by simp [results, Tryz.results57, go_sem]) rfl ?_
      rw [hS.out]
      exact ⟨((Kept.refl (May r nb) w).alloc _).trans hK7 (fun _ _ e => Or.inl e), rfl, hE7⟩
  · have e118 : t.k = 118 := eq_of_beq c118
    have hS : Hid _ := Rf.headS_var (f := f') (l := l) e118
    have HX : Hid (Rf.errOf t 4 = (4, t.at_)) := errOf_no t 4 (by rw [e118]; decide)
    have hq : Rf.kindOf t.k = 3 := by rw [e118]; rfl
    rw [hq] at q1
    clear e118 hq
    go_enter Tryz.func57, Tryz.ntmps57
    go_wp2_with (go_at_call 59; refine (refuse_any _ r text nb t l [] 4 (H.out.alloc _) (by decide)).mono ?_; rintro e w7 ⟨rfl, hE7, hK7⟩; rw [HX.out] at hE7)
    refine bodyPost_ret (v := .tuple #[.slice none 0 0, .bool false]) (by simp [results, Tryz.results57, go_sem]) rfl ?_
    rw [hS.out]
    exact ⟨((Kept.refl (May r nb) w).alloc _).trans hK7 (fun _ _ e => Or.inl e), rfl, hE7⟩
end Go.Proofs.YtegjiaceopnfjaaGreatDoor
/- What the program's reader does at goals with commas between (read: goals). -/
namespace Rf
/-- Goals as the program reads them: a wrong token behind the last is left to what follows. -/
def goalsP (f : Nat) : Nat → List (List Part) → List Tok → List ByteArray → Except (Int × Nat) (List (List Part) × List Tok × List ByteArray)
  | 0, _, _, _ => .error (2, 0)
  | k + 1, acc, l, ns => match goalS f l ns with
    | .error e => .error e
    | .ok (p, l1, ns1) => match l1 with
      | [] => .error (2, 0)
      | u :: l2 => if u.k = 44 then (if acc.length + 1 = 8 then .error (3, u.at_) else goalsP f k (acc ++ [p]) l2 ns1) else .ok (acc ++ [p], u :: l2, ns1)
def noBad (res : Except (Int × Nat) (List (List Part) × List Tok × List ByteArray)) : Except (Int × Nat) (List (List Part) × List Tok × List ByteArray) :=
  match res with
  | .ok (gs, u :: l2, ns) => if u.k = 63 then .error (errOf u 2) else .ok (gs, u :: l2, ns)
  | x => x
theorem goalsS_P (f : Nat) : ∀ (k : Nat) (acc : List (List Part)) (l : List Tok) (ns : List ByteArray), goalsS f k acc l ns = noBad (goalsP f k acc l ns)
  | 0, _, _, _ => rfl
  | k + 1, acc, l, ns => by
    rw [goalsS, goalsP]
    cases goalS f l ns with
    | error e => rfl
    | ok x =>
      obtain ⟨p, l1, ns1⟩ := x
      cases l1 with
      | nil => rfl
      | cons u l2 =>
        simp only []
        by_cases h : u.k = 44
        · rw [if_pos h, if_pos h]
          split
          · rfl
          · exact goalsS_P f k _ l2 ns1
        · rw [if_neg h, if_neg h]
          rfl
theorem goalsP_len (f : Nat) : ∀ (k : Nat) (acc : List (List Part)) (l : List Tok) (ns : List ByteArray) (a1 : List (List Part)) (l2 : List Tok) (ns2 : List ByteArray),
    goalsP f k acc l ns = .ok (a1, l2, ns2) → ∃ y l3, l2 = y :: l3
  | 0, _, _, _, _, _, _, e => by simp [goalsP] at e
  | k + 1, acc, l, ns, a1, l2, ns2, e => by
    rw [goalsP] at e
    cases hr : goalS f l ns with
    | error x => rw [hr] at e; cases e
    | ok x =>
      obtain ⟨p, l1, ns1⟩ := x
      rw [hr] at e
      cases l1 with
      | nil => cases e
      | cons u l3 =>
        simp only at e
        split at e
        · split at e
          · cases e
          · exact goalsP_len f k _ l3 ns1 a1 l2 ns2 e
        · simp only [Except.ok.injEq, Prod.mk.injEq] at e; obtain ⟨_, rfl, _⟩ := e; exact ⟨_, _, rfl⟩
/-- A clause as the program reads it. -/
def clauseP (f : Nat) (l : List Tok) : Except (Int × Nat) (Cl × List Tok) :=
  match headS f l with
  | .error e => .error e
  | .ok (p, l1, ns1) => match l1 with
    | [] => .error (2, 0)
    | u :: l2 => if u.k = 58 then (match goalsP f 8 [] l2 ns1 with
        | .error e => .error e
        | .ok (gs, l3, ns2) => dotS (p, gs) l3 ns2)
      else dotS (p, []) (u :: l2) ns1
theorem clauseS_P (f : Nat) (l : List Tok) : clauseS f l = clauseP f l := by
  unfold clauseS clauseP headS
  cases l with
  | nil => rfl
  | cons t l =>
    simp only []
    cases termS f (t :: l) [] with
    | error e => rfl
    | ok x =>
      obtain ⟨p, l1, ns1⟩ := x
      simp only []
      cases headB p with
      | false => rfl
      | true =>
        rw [if_pos rfl, if_pos rfl]
        cases l1 with
        | nil => rfl
        | cons u l2 =>
          simp only []
          split
          · rw [goalsS_P]
            cases hg : goalsP f 8 [] l2 ns1 with
            | error e => rfl
            | ok x =>
              obtain ⟨gs, l3, ns2⟩ := x
              obtain ⟨y, l4, rfl⟩ := goalsP_len f _ _ _ _ _ _ _ hg
              unfold noBad
              simp only []
              by_cases h : y.k = 63
              · rw [if_pos h]
                simp only [dotS]
                rw [if_neg (by omega)]
              · rw [if_neg h]
          · rfl
end Rf
namespace Go.Proofs.YtegjiaceopnfjaaGreatDoor
open Go.RowKit
/-- A slice's value. -/
structure SlV where
  a : Option Addr
  n : Nat
  c : Nat
def slv (x : SlV) : Value := .slice x.a x.n x.c
def slCells (x : SlV) : List Value := [slv x]
theorem slCells_len (s : SlV) : (slCells s).length = 1 := rfl
theorem slCells_one (s : SlV) : ∀ u ∈ slCells s, u.oneCell' = true := by
  intro u hu
  simp only [slCells, List.mem_cons, List.not_mem_nil, or_false] at hu
  subst hu; rfl
theorem Tryz.elemTerms : ElemOk Tryz.prog 79 78 1 24 (.slice none 0 0) := ⟨Tryz.underlying79, by kernel_rfl, rfl, by decide, by decide⟩
/-- The row v of the goals acc that a body has so far. -/
structure PGs (w wr : World) (nb : Option Nat) (v : Value) (acc : List (SlV × List Rf.Part)) : Prop where
  row : RowIs wr 0 78 1 slCells v (acc.map (·.1))
  rowNew : ∀ k, v.ownBlock = some k → New w wr nb k
  goals : ∀ q ∈ acc, PT (fun k => New w wr nb k ∧ v.ownBlock ≠ some k) wr (slv q.1) q.2
theorem PGs.over {w wr w1 : World} {b : Nat} {nb nb1 : Option Nat} {v : Value} {acc : List (SlV × List Rf.Part)} (h : PGs w wr nb v acc) (hb : b < w.heap.size) (hk : Kept (May b nb) wr w1) (hn : Nb wr nb nb1) : PGs w w1 nb1 v acc := by
  have hsz := hk.size
  have mv : ∀ k, k < wr.heap.size → w.heap.size ≤ k → nb ≠ some k → ¬ May b nb k ∧ nb1 ≠ some k := fun k h1 h2 h3 => ⟨fun e => by rcases e with e | e; exact absurd e (by omega); exact h3 e.symm, hn.ne h3 h1⟩
  refine ⟨h.row.keptBy hk (fun k e => (mv k (h.rowNew k e).2.1 (h.rowNew k e).1 (h.rowNew k e).2.2).1), fun k e => ⟨(h.rowNew k e).1, by have := (h.rowNew k e).2.1; omega, (mv k (h.rowNew k e).2.1 (h.rowNew k e).1 (h.rowNew k e).2.2).2⟩, fun q hq => (h.goals q hq).keptBy hk (fun k hk1 hF => ?_)⟩
  obtain ⟨⟨f1, f2, f3⟩, f4⟩ := hF
  exact ⟨(mv k f2 f1 f3).1, ⟨f1, by omega, (mv k f2 f1 f3).2⟩, f4⟩
theorem pgs_ok {w wr w2 w3 : World} {r : Nat} {text : ByteArray} {o : Obj} {nb1 nb2 : Option Nat} {v : Value} {acc : List (SlV × List Rf.Part)} {x : SlV} {ps : List Rf.Part} {l : List Rf.Tok} {ns : List ByteArray} {gA n capA : Nat}
    (hs : w.heap.size ≤ wr.heap.size) (hs' : wr.heap.size ≤ w2.heap.size) (hA : PGs w wr nb1 v acc) (hA2 : PGs w w2 nb2 v acc) (hT2 : PT (New wr w2 nb2) w2 (slv x) ps) (hP2 : Pr w2 r text nb2 l ns) (hb : r < w.heap.size)
    (hgr : (w2.alloc o).grownBy w3 v.ownBlock) (hn : Nb (w2.alloc o) v.ownBlock (some gA)) (hr : RowIs w3 0 78 1 slCells (.slice (some ⟨gA, 0, none⟩) n capA) ((acc.map (·.1)) ++ [x])) :
    PGs w w3 nb2 (.slice (some ⟨gA, 0, none⟩) n capA) (acc ++ [(x, ps)]) ∧ Pr w3 r text nb2 l ns ∧ Kept (fun k => v.ownBlock = some k) w2 w3 ∧ (∀ k, v.ownBlock = some k → w.heap.size ≤ k) := by
  have hk : Kept (fun k => v.ownBlock = some k) w2 w3 := (((Kept.refl (fun k => v.ownBlock = some k) w2).alloc o).grown hgr (fun k e => .inr e))
  have hs2 : w2.heap.size + 1 ≤ w3.heap.size := by have := hgr.size; simpa using this
  have hgl : gA < w3.heap.size := (hr.lt gA rfl).2
  have hnl : ∀ k, nb2 = some k → k < w2.heap.size := fun k e => hP2.lt.2.1 k e
  have hgn : w.heap.size ≤ gA ∧ nb2 ≠ some gA := by
    rcases hn with e | ⟨k, e, hk⟩
    · exact ⟨(hA2.rowNew gA e.symm).1, (hA2.rowNew gA e.symm).2.2⟩
    · have := Option.some.inj e
      simp at hk
      exact ⟨by omega, fun e => by have := hnl gA e; omega⟩
  have tm : ∀ gv qs, PT (fun k => New w w2 nb2 k ∧ v.ownBlock ≠ some k) w2 gv qs → PT (fun k => New w w3 nb2 k ∧ (Value.slice (some ⟨gA, 0, none⟩) n capA).ownBlock ≠ some k) w3 gv qs := by
    intro gv qs hq
    refine hq.keptBy hk (fun k hk1 hF => ?_)
    obtain ⟨⟨f1, f2, f3⟩, f4⟩ := hF
    exact ⟨f4, ⟨f1, by omega, f3⟩, fun e => hn.ne f4 (by simp; omega) e⟩
  refine ⟨⟨?_, fun k e => ?_, fun q hq => ?_⟩, hP2.keptBy hk (fun e => by have := (hA2.rowNew r e).1; omega) (fun k e e2 => (hA2.rowNew k e2).2.2 e), hk, fun k e => (hA2.rowNew k e).1⟩
  · rw [List.map_append]; exact hr
  · obtain rfl := Option.some.inj e
    exact ⟨hgn.1, hgl, hgn.2⟩
  · rcases List.mem_append.1 hq with hq | hq
    · exact tm _ _ (hA2.goals q hq)
    · simp at hq; subst hq
      refine tm _ _ (hT2.keptBy (Kept.refl (fun _ => False) _) (fun k _ hF => ⟨fun e => e, ⟨by have := hF.1; omega, hF.2.1, hF.2.2⟩, fun e => ?_⟩))
      have := (hA.rowNew k e).2.1; have := hF.1; omega
/-- What a call that reads goals leaves. -/
def PGoalsPost (w : World) (r : Nat) (text : ByteArray) (nb : Option Nat) (res : Except (Int × Nat) (List (List Rf.Part) × List Rf.Tok × List ByteArray)) (x : Ending) (w' : World) : Prop :=
  Kept (May r nb) w w' ∧
  (match res with
   | .ok (gs, l', ns') => ∃ (a : Option Addr) (n c : Nat) (nb' : Option Nat) (acc : List (SlV × List Rf.Part)), x = .returned (.tuple #[.slice a n c, .bool true]) ∧ Pr w' r text nb' l' ns' ∧ Nb w nb nb' ∧ PGs w w' nb' (.slice a n c) acc ∧ gs = acc.map (·.2) ∧ acc.length ≤ 8
   | .error (e, q) => x = .returned (.tuple #[.slice none 0 0, .bool false]) ∧ PrE w' r e q)
def PGoalsSt (w : World) (r : Nat) (text : ByteArray) (nb : Option Nat) (f : Nat) (want : Except (Int × Nat) (List (List Rf.Part) × List Rf.Tok × List ByteArray)) (m : Nat) (v : Value) (wr : World) : Prop :=
  Kept (May r nb) w wr ∧ ∃ (k : Nat) (acc : List (SlV × List Rf.Part)) (l1 : List Rf.Tok) (ns1 : List ByteArray) (nb1 : Option Nat), m = k + 1 ∧ k + 1 + acc.length = 8 ∧ Pr wr r text nb1 l1 ns1 ∧ Nb w nb nb1 ∧ l1.length ≤ f ∧ PGs w wr nb1 v acc ∧ Hid (want = Rf.goalsP f (k + 1) (acc.map (·.2)) l1 ns1)
set_option maxHeartbeats 2000000 in
set_option maxRecDepth 100000 in
theorem pgoals_any (f : Nat) (r : Nat) (text : ByteArray) (nb : Option Nat) (l : List Rf.Tok) (ns : List ByteArray) (w : World) (h : Pr w r text nb l ns) (hl : l.length ≤ f) :
    Calls Tryz.prog 58 #[.pointer (some ⟨r, 0, none⟩)] w fun x w' => PGoalsPost w r text nb (Rf.goalsP f 8 [] l ns) x w' := by
  obtain ⟨hrl, hnl, hnr⟩ := h.lt
  have H : Hid _ := h
  clear h
  go_enter Tryz.func58, Tryz.ntmps58
  go_wp2_with fail
  go_loopg [4] 8 (fun m v wr => PGoalsSt w r text nb f (Rf.goalsP f 8 [] l ns) m v wr)
  case atStart => exact ⟨Kept.refl _ _, 7, [], l, ns, nb, rfl, rfl, H.out, .inl rfl, hl, ⟨RowIs.nil _ _ _ _ _, fun k e => by simp [Value.ownBlock] at e, fun q hq => by simp at hq⟩, rfl⟩
  case round =>
    obtain ⟨hKr, k, acc, l1, ns1, nb1, rfl, hk8, hP, hNb, hl1, hA, hwant⟩ := hrel
    obtain ⟨a, c, hv⟩ := row_slice hA.row
    rw [List.length_map] at hv
    subst hv
    have hrw := hKr.size
    have HP : Hid _ := hP
    have HA : Hid _ := hA
    clear hP hA
    cases hres : Rf.goalS f l1 ns1 with
    | error x =>
      obtain ⟨e, q⟩ := x
      have HR : Hid _ := hres
      clear hres
      have HW : Hid (Rf.goalsP f 8 [] l ns = .error (e, q)) := by unfold Hid; rw [hwant.out, Rf.goalsP, HR.out]
      go_wp2_with (go_at_call 84; refine (pgoal_any f r text nb1 l1 ns1 _ HP.out hl1).mono ?_; rintro x w2 ⟨hK2, hm⟩; rw [HR.out] at hm; obtain ⟨rfl, hE2⟩ := hm)
      refine bodyPost_ret (v := .tuple #[.slice none 0 0, .bool false]) (by simp [results, Tryz.results58, go_sem]) rfl ?_
      rw [HW.out]
      exact ⟨hKr.trans hK2 (May.of hNb), rfl, hE2⟩
    | ok x =>
      obtain ⟨ps, l2, ns2⟩ := x
      have HR : Hid _ := hres
      clear hres
      have hgood := Rf.goalS_good f l1 ns1 ps l2 ns2 HP.out.ended HP.out.n16 HR.out
      have hlen2 := goalS_len HR.out
      obtain ⟨_, _, _, hen2⟩ := hgood
      cases l2 with
      | nil => exact absurd rfl hen2.ne
      | cons u2 l3 =>
        have hl3 : l3.length ≤ f := by simp at hlen2; omega
        clear hen2 hlen2
        have hcar : (acc.length : Int) ≤ 7 := by omega
        have hmap : ∀ x : SlV, (acc ++ [(x, ps)]).map (·.2) = acc.map (·.2) ++ [ps] := fun x => by simp
        cases c7 : (Rf.kindOf u2.k != 7)
        · have H44 : Hid (u2.k = 44) := Rf.kindOf_7 c7
          have H20 : Hid (u2.k ≠ 0) := by unfold Hid; rw [H44.out]; decide
          have H263 : Hid (u2.k ≠ 63) := by unfold Hid; rw [H44.out]; decide
          by_cases hk0 : k = 0
          · subst hk0
            have hcar4 : (acc.length : Int) + 1 = 8 := by omega
            have HW : Hid (Rf.goalsP f 8 [] l ns = .error (3, u2.at_)) := by
              unfold Hid; rw [hwant.out, Rf.goalsP, HR.out]; simp only []; rw [if_pos H44.out, if_pos (by simp; omega)]
            have HX : Hid (Rf.errOf u2 3 = (3, u2.at_)) := errOf_no u2 3 (by rw [H44.out]; decide)
            go_wp2_with (first
            | (go_at_call 84; refine (pgoal_any f r text nb1 l1 ns1 _ HP.out hl1).mono ?_; rintro x w2 ⟨hK2, hm⟩; rw [HR.out] at hm; obtain ⟨g2, n2, c2, nb2, rfl, hP2, hNb2, hT2, hng2⟩ := hm; have hs2 := hK2.size; have hA2 := PGs.over HA.out hrl hK2 hNb2)
            | (at_builtin; refine wpList_app Tryz.elemTerms slCells slCells_len slCells_one _ rfl (.tmp 14) (.tmp 16) rfl 0 _ (acc.map (·.1)) rfl (hA2.row.alloc _) ⟨_, 0, none⟩ 1 (SlV.mk (some ⟨g2, 0, none⟩) n2 c2) rfl (cell_one_at _ _ rfl _ _) (by simp; omega) (Nat.zero_le _) ?_; intro gA capA w3 hrow3 hgr3 hnb3; rw [List.length_map] at hrow3; obtain ⟨hA3, hP3, hK3, hv3⟩ := pgs_ok (x := SlV.mk (some ⟨g2, 0, none⟩) n2 c2) hrw hs2 HA.out hA2 (hT2.pt hng2) hP2 hrl hgr3 hnb3 hrow3; obtain ⟨k1, ⟨_, k0⟩, kl⟩ := hP3.kind)
            | (go_at_call 59; refine (refuse_any _ r text nb2 u2 l3 ns2 3 hP3 (by decide)).mono ?_; rintro e w7 ⟨rfl, hE7, hK7⟩; rw [HX.out] at hE7))
            refine bodyPost_ret (v := .tuple #[.slice none 0 0, .bool false]) (by simp [results, Tryz.results58, go_sem]) rfl ?_
            rw [HW.out]
            exact ⟨((hKr.trans hK2 (May.of hNb)).trans hK3 (fun k hk e => absurd (hv3 k e) (by omega))).trans hK7 (fun _ _ e => Or.inl e), rfl, hE7⟩
          · have hcar4 : (acc.length : Int) + 1 < 8 := by omega
            have HW : Hid (Rf.goalsP f 8 [] l ns = Rf.goalsP f k (acc.map (·.2) ++ [ps]) l3 ns2) := by
              unfold Hid; rw [hwant.out, Rf.goalsP, HR.out]; simp only []; rw [if_pos H44.out, if_neg (by simp; omega)]
            go_wp2_with (first
            | (go_at_call 84; refine (pgoal_any f r text nb1 l1 ns1 _ HP.out hl1).mono ?_; rintro x w2 ⟨hK2, hm⟩; rw [HR.out] at hm; obtain ⟨g2, n2, c2, nb2, rfl, hP2, hNb2, hT2, hng2⟩ := hm; have hs2 := hK2.size; have hA2 := PGs.over HA.out hrl hK2 hNb2)
            | (at_builtin; refine wpList_app Tryz.elemTerms slCells slCells_len slCells_one _ rfl (.tmp 14) (.tmp 16) rfl 0 _ (acc.map (·.1)) rfl (hA2.row.alloc _) ⟨_, 0, none⟩ 1 (SlV.mk (some ⟨g2, 0, none⟩) n2 c2) rfl (cell_one_at _ _ rfl _ _) (by simp; omega) (Nat.zero_le _) ?_; intro gA capA w3 hrow3 hgr3 hnb3; rw [List.length_map] at hrow3; obtain ⟨hA3, hP3, hK3, hv3⟩ := pgs_ok (x := SlV.mk (some ⟨g2, 0, none⟩) n2 c2) hrw hs2 HA.out hA2 (hT2.pt hng2) hP2 hrl hgr3 hnb3 hrow3; obtain ⟨k1, ⟨_, k0⟩, kl⟩ := hP3.kind)
            | (go_at_call 40; refine (step_any _ r text nb2 u2 l3 ns2 hP3 H20.out H263.out).mono ?_; rintro e w7 ⟨rfl, hP7, hK7⟩))
            go_roundg k
            case measure => omega
            case rel =>
              refine ⟨((hKr.trans hK2 (May.of hNb)).trans hK3 (fun k hk e => absurd (hv3 k e) (by omega))).trans hK7 (fun _ _ e => Or.inl e), k - 1, _, l3, ns2, nb2, by omega, ?_, hP7, (Nb.trans hNb hNb2 (by omega)), hl3, hA3.over hrl (hK7.mono (fun _ _ e => Or.inl e)) (.inl rfl), ?_⟩
              · simp; omega
              · show Rf.goalsP f 8 [] l ns = Rf.goalsP f (k - 1 + 1) ((acc ++ [(SlV.mk (some ⟨g2, 0, none⟩) n2 c2, ps)]).map (·.2)) l3 ns2
                rw [show k - 1 + 1 = k by omega, hmap]; exact HW.out
        · have H44 : Hid (u2.k ≠ 44) := Rf.kindOf_n7 c7
          have HW : Hid (Rf.goalsP f 8 [] l ns = .ok (acc.map (·.2) ++ [ps], u2 :: l3, ns2)) := by
            unfold Hid; rw [hwant.out, Rf.goalsP, HR.out]; simp only []; rw [if_neg H44.out]
          go_wp2_with (first
            | (go_at_call 84; refine (pgoal_any f r text nb1 l1 ns1 _ HP.out hl1).mono ?_; rintro x w2 ⟨hK2, hm⟩; rw [HR.out] at hm; obtain ⟨g2, n2, c2, nb2, rfl, hP2, hNb2, hT2, hng2⟩ := hm; have hs2 := hK2.size; have hA2 := PGs.over HA.out hrl hK2 hNb2)
            | (at_builtin; refine wpList_app Tryz.elemTerms slCells slCells_len slCells_one _ rfl (.tmp 14) (.tmp 16) rfl 0 _ (acc.map (·.1)) rfl (hA2.row.alloc _) ⟨_, 0, none⟩ 1 (SlV.mk (some ⟨g2, 0, none⟩) n2 c2) rfl (cell_one_at _ _ rfl _ _) (by simp; omega) (Nat.zero_le _) ?_; intro gA capA w3 hrow3 hgr3 hnb3; rw [List.length_map] at hrow3; obtain ⟨hA3, hP3, hK3, hv3⟩ := pgs_ok (x := SlV.mk (some ⟨g2, 0, none⟩) n2 c2) hrw hs2 HA.out hA2 (hT2.pt hng2) hP2 hrl hgr3 hnb3 hrow3; obtain ⟨k1, ⟨_, k0⟩, kl⟩ := hP3.kind))
          refine bodyPost_ret (v := .tuple #[.slice (some ⟨gA, 0, none⟩) (acc.length + 1) capA, .bool true]) (by simp [results, Tryz.results58, go_sem]) rfl ?_
          rw [HW.out]
          exact ⟨((hKr.trans hK2 (May.of hNb)).trans hK3 (fun k hk e => absurd (hv3 k e) (by omega))), _, _, _, nb2, _, rfl, hP3, (Nb.trans hNb hNb2 (by omega)), hA3, (hmap _).symm, by simp; omega⟩
end Go.Proofs.YtegjiaceopnfjaaGreatDoor
