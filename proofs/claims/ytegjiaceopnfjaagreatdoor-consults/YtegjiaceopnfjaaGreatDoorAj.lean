/- The document's session (promptref: Consult), at a text whose clauses are added. -/
import Derived.Test.YtegjiaceopnfjaaGreatDoorAi
namespace Go.Proofs.YtegjiaceopnfjaaGreatDoor
open Go.RowKit
set_option maxHeartbeats 1000000 in
theorem consult_00 (F : Nat → Prop) (w : World) (y : Nat) (cls : List Rf.Cl) (s : ByteArray) (h : RsAt F w y cls) (hm : s.size ≤ maxLen) (new : List Rf.Cl) (hr : Rf.readS s = .ok new) (hf : ¬ 30 < cls.length + new.length) (hgood : ∀ x ∈ new, GoodC x) (ha0 : cls.length = 0) (hn0 : new.length = 0) :
    Calls Tryz.prog 26 #[.pointer (some ⟨y, 0, none⟩), .string s] w fun r w' => ConsultPost F w y cls s r w' := by
  obtain ⟨⟨vC, lim, live, vN, vG, vT, vH, fr, hB, hC⟩, hy⟩ := h
  obtain ⟨acc, hA, hcls, h30⟩ := hC.ex
  have hlen : cls.length = acc.length := by rw [hcls, List.length_map]
  obtain ⟨a, c, rfl⟩ : ∃ a c, vC = .slice a acc.length c := by
    rcases hA.row.shape with ⟨e, hnil⟩ | ⟨gv, cv, e, _⟩
    · have h7 := congrArg List.length hnil
      rw [List.length_map, List.length_nil] at h7
      exact ⟨none, 0, by rw [e, h7]⟩
    · rw [List.length_map] at e
      exact ⟨_, _, e⟩
  have Hlen : Hid _ := hlen
  have Hcls : Hid _ := hcls
  have HA : Hid _ := hA
  have HR : Hid _ := hr
  have HC : Hid _ := hC
  have HB : Hid _ := hB
  have k0 : w.cell? ⟨y, 0, none⟩ = some (.slice a acc.length c) := blk_cell hB 0
  have k2 : w.cell? ⟨y, 2, none⟩ = some (.bool live) := blk_cell hB 2
  have kf := blk_frozen hB
  have hyl := blk_lt hB
  have hS : Hid (consultP cls s = ((0, 0), cls ++ new)) := by unfold Hid consultP; rw [hr]; simp only []; rw [if_neg hf]
  have hsum : cls.length + new.length ≤ 30 := by omega
  have hz : acc = [] := List.eq_nil_of_length_eq_zero (by omega)
  subst hz
  have hzv := hA.none rfl
  injection hzv with hza _ hzc
  subst hza
  subst hzc
  have Hn0 : Hid _ := hn0
  clear hn0 ha0
  clear hr hC hB hA hcls hlen
  go_enter Tryz.func26, Tryz.ntmps26
  go_wp2_with (first
    | (go_at_call 33; refine (clauses_any s _ hm).mono ?_; rintro r w1 ⟨hb1, hP⟩; rw [HR.out] at hP; obtain ⟨v1, acc1, rfl, hA1, hnew⟩ := hP; obtain ⟨a1, c1, rfl⟩ : ∃ a1 c1, v1 = .slice a1 acc1.length c1 := (by rcases hA1.row.shape with ⟨e, hnil⟩ | ⟨gv, cv, e, _⟩; have h7 := congrArg List.length hnil; rw [List.length_map, List.length_nil] at h7; exact ⟨none, 0, by rw [e, h7]⟩; rw [List.length_map] at e; exact ⟨_, _, e⟩); have Hnew : Hid _ := hnew; clear hnew; have hB1 : RsB w1 y _ _ _ _ _ _ _ _ := (hb1.block y (by simpa [World.setCell] using hyl)).trans (blk_set HB.out 2 _); have q0 : w1.cell? ⟨y, 0, none⟩ = some (.slice none 0 0) := blk_cell hB1 0; have qf := blk_frozen hB1; have hl1 : Hid (new.length = acc1.length) := (by unfold Hid; rw [Hnew.out, List.length_map]); have hs1 : w.heap.size ≤ w1.heap.size := (by have := hb1.size; simpa [World.setCell] using this); have hsm : 0 + acc1.length ≤ 30 := (by have := hl1.out; omega); have hz1 : acc1 = [] := (List.eq_nil_of_length_eq_zero (by have := hl1.out; have := Hn0.out; omega)); subst hz1; have hz2 := hA1.none rfl; injection hz2 with hz3 _ hz4; subst hz3; subst hz4)
    | (at_builtin; refine wpList_app_none Tryz.elemClause clCells _ rfl (.tmp 32) (.tmp 36) rfl 0 _ ([] : List ClV) rfl (RowIs.nil _ _ _ _ _) rfl ?_)
    | (at_builtin; refine wpList_app_none Tryz.elemClause clCells _ rfl (.tmp 38) (.tmp 39) rfl 0 _ ([] : List ClV) rfl (RowIs.nil _ _ _ _ _) rfl ?_))
  go_ret2
  have hk1 : Kept (fun k => k = y) w1 (w1.setCell ⟨y, 0, none⟩ (.slice none 0 0)) := (Kept.refl (fun k => k = y) w1).setCell (p := ⟨y, 0, none⟩) (.inr rfl) _
  have hk : Kept (fun k => k = y) w (w1.setCell ⟨y, 0, none⟩ (.slice none 0 0)) := (((Kept.refl (fun k => k = y) w).setCell (p := ⟨y, 2, none⟩) (.inr rfl) _).trans (Kept.of_below hb1 (fun k => k = y)) (fun _ _ e => e)).trans hk1 (fun _ _ e => e)
  have hA1' : ClsAt (fun k => w.heap.size ≤ k ∧ k < w1.heap.size) w1 _ ([] : List (ClV × Rf.Cl)) := hA1.mono (fun k x => ⟨by have := x.1; simpa [World.setCell] using this, x.2⟩)
  unfold ConsultPost
  rw [hS.out]
  refine ⟨rfl, hk, ⟨_, _, _, _, _, _, _, _, blk_set hB1 0 _, ⟨([] : List (ClV × Rf.Cl)) ++ ([] : List (ClV × Rf.Cl)), cls_join HA.out hA1' hk hk1 hs1 hy hyl (by simpa using RowIs.nil _ _ _ _ _) (fun k e => by simp [Value.ownBlock] at e) (fun _ => rfl), by show cls ++ new = _; rw [List.map_append, Hcls.out, Hnew.out], by simp⟩, fun x hx => ?_⟩, notF hy hyl⟩
  rcases List.mem_append.1 hx with hx | hx
  · exact HC.out.good x hx
  · exact hgood x hx
set_option maxHeartbeats 1000000 in
theorem consult_01 (F : Nat → Prop) (w : World) (y : Nat) (cls : List Rf.Cl) (s : ByteArray) (h : RsAt F w y cls) (hm : s.size ≤ maxLen) (new : List Rf.Cl) (hr : Rf.readS s = .ok new) (hf : ¬ 30 < cls.length + new.length) (hgood : ∀ x ∈ new, GoodC x) (ha0 : cls.length = 0) (hn0 : 1 ≤ new.length) :
    Calls Tryz.prog 26 #[.pointer (some ⟨y, 0, none⟩), .string s] w fun r w' => ConsultPost F w y cls s r w' := by
  obtain ⟨⟨vC, lim, live, vN, vG, vT, vH, fr, hB, hC⟩, hy⟩ := h
  obtain ⟨acc, hA, hcls, h30⟩ := hC.ex
  have hlen : cls.length = acc.length := by rw [hcls, List.length_map]
  obtain ⟨a, c, rfl⟩ : ∃ a c, vC = .slice a acc.length c := by
    rcases hA.row.shape with ⟨e, hnil⟩ | ⟨gv, cv, e, _⟩
    · have h7 := congrArg List.length hnil
      rw [List.length_map, List.length_nil] at h7
      exact ⟨none, 0, by rw [e, h7]⟩
    · rw [List.length_map] at e
      exact ⟨_, _, e⟩
  have Hlen : Hid _ := hlen
  have Hcls : Hid _ := hcls
  have HA : Hid _ := hA
  have HR : Hid _ := hr
  have HC : Hid _ := hC
  have HB : Hid _ := hB
  have k0 : w.cell? ⟨y, 0, none⟩ = some (.slice a acc.length c) := blk_cell hB 0
  have k2 : w.cell? ⟨y, 2, none⟩ = some (.bool live) := blk_cell hB 2
  have kf := blk_frozen hB
  have hyl := blk_lt hB
  have hS : Hid (consultP cls s = ((0, 0), cls ++ new)) := by unfold Hid consultP; rw [hr]; simp only []; rw [if_neg hf]
  have hsum : cls.length + new.length ≤ 30 := by omega
  have hz : acc = [] := List.eq_nil_of_length_eq_zero (by omega)
  subst hz
  have hzv := hA.none rfl
  injection hzv with hza _ hzc
  subst hza
  subst hzc
  have Hn0 : Hid _ := hn0
  clear hn0 ha0
  clear hr hC hB hA hcls hlen
  go_enter Tryz.func26, Tryz.ntmps26
  go_wp2_with (first
    | (go_at_call 33; refine (clauses_any s _ hm).mono ?_; rintro r w1 ⟨hb1, hP⟩; rw [HR.out] at hP; obtain ⟨v1, acc1, rfl, hA1, hnew⟩ := hP; obtain ⟨a1, c1, rfl⟩ : ∃ a1 c1, v1 = .slice a1 acc1.length c1 := (by rcases hA1.row.shape with ⟨e, hnil⟩ | ⟨gv, cv, e, _⟩; have h7 := congrArg List.length hnil; rw [List.length_map, List.length_nil] at h7; exact ⟨none, 0, by rw [e, h7]⟩; rw [List.length_map] at e; exact ⟨_, _, e⟩); have Hnew : Hid _ := hnew; clear hnew; have hB1 : RsB w1 y _ _ _ _ _ _ _ _ := (hb1.block y (by simpa [World.setCell] using hyl)).trans (blk_set HB.out 2 _); have q0 : w1.cell? ⟨y, 0, none⟩ = some (.slice none 0 0) := blk_cell hB1 0; have qf := blk_frozen hB1; have hl1 : Hid (new.length = acc1.length) := (by unfold Hid; rw [Hnew.out, List.length_map]); have hs1 : w.heap.size ≤ w1.heap.size := (by have := hb1.size; simpa [World.setCell] using this); have hsm : 0 + acc1.length ≤ 30 := (by have := hl1.out; omega); have hp1 : 1 ≤ acc1.length := (by have := hl1.out; have := Hn0.out; omega); obtain ⟨g1, rfl⟩ : ∃ g1, a1 = some ⟨g1, 0, none⟩ := (by rcases hA1.row.shape with ⟨_, hnil⟩ | ⟨gv, cv, e, _⟩; have h7 := congrArg List.length hnil; rw [List.length_map, List.length_nil] at h7; omega; injection e with e1 _ _; exact ⟨gv, e1⟩))
    | (at_builtin; refine wpList_app_none Tryz.elemClause clCells _ rfl (.tmp 32) (.tmp 36) rfl 0 _ ([] : List ClV) rfl (RowIs.nil _ _ _ _ _) rfl ?_)
    | (at_builtin; refine wpList_apps Tryz.elemClause clCells clCells_len clCells_one _ rfl (.tmp 38) (.tmp 39) rfl 0 (.slice none 0 0) ([] : List ClV) rfl (RowIs.nil _ _ _ _ _) ⟨g1, 0, none⟩ _ (acc1.map (·.1)) (by simpa using hp1) (by rw [List.length_map]; rfl) (hA1.row.own.cells rfl) (by simp; omega) (Nat.zero_le _) ?_; intro g3 cap3 w3 hrow3 hgr3 hnb3; have hyB3 : RsB w3 y _ _ _ _ _ _ _ _ := (hgr3.block y (blk_lt hB1) (by simp [Value.ownBlock])).trans hB1; have r30 : w3.cell? ⟨y, 0, none⟩ = some (.slice none 0 0) := blk_cell hyB3 0; have r3f := blk_frozen hyB3))
  go_ret2
  have hn3 : w1.heap.size ≤ g3 := by
    rcases hnb3 with e | ⟨k, e, hk⟩
    · simp [Value.ownBlock] at e
    · have := Option.some.inj e; omega
  have hk1 : Kept (fun k => k = y) w1 (w3.setCell ⟨y, 0, none⟩ (.slice (some ⟨g3, 0, none⟩) acc1.length cap3)) := ((Kept.refl (fun k => k = y) w1).grown hgr3 (fun k e => by simp [Value.ownBlock] at e)).setCell (p := ⟨y, 0, none⟩) (.inr rfl) _
  have hk : Kept (fun k => k = y) w (w3.setCell ⟨y, 0, none⟩ (.slice (some ⟨g3, 0, none⟩) acc1.length cap3)) := (((Kept.refl (fun k => k = y) w).setCell (p := ⟨y, 2, none⟩) (.inr rfl) _).trans (Kept.of_below hb1 (fun k => k = y)) (fun _ _ e => e)).trans hk1 (fun _ _ e => e)
  have hA1' : ClsAt (fun k => w.heap.size ≤ k ∧ k < w1.heap.size) w1 _ acc1 := hA1.mono (fun k x => ⟨by have := x.1; simpa [World.setCell] using this, x.2⟩)
  unfold ConsultPost
  rw [hS.out]
  refine ⟨rfl, hk, ⟨_, _, _, _, _, _, _, _, blk_set hyB3 0 _, ⟨([] : List (ClV × Rf.Cl)) ++ acc1, cls_join HA.out hA1' hk hk1 hs1 hy hyl (by simpa using hrow3.setCell ⟨y, 0, none⟩ (.slice (some ⟨g3, 0, none⟩) acc1.length cap3) (fun e => by have h5 : g3 = y := Option.some.inj e; have := blk_lt hB1; omega)) (fun k e => by have h5 : g3 = k := Option.some.inj e; omega) (fun e => by simp at e; rw [e] at hp1; simp at hp1), by show cls ++ new = _; rw [List.map_append, Hcls.out, Hnew.out], by simp; omega⟩, fun x hx => ?_⟩, notF hy hyl⟩
  rcases List.mem_append.1 hx with hx | hx
  · exact HC.out.good x hx
  · exact hgood x hx
set_option maxHeartbeats 1000000 in
theorem consult_10 (F : Nat → Prop) (w : World) (y : Nat) (cls : List Rf.Cl) (s : ByteArray) (h : RsAt F w y cls) (hm : s.size ≤ maxLen) (new : List Rf.Cl) (hr : Rf.readS s = .ok new) (hf : ¬ 30 < cls.length + new.length) (hgood : ∀ x ∈ new, GoodC x) (ha0 : 1 ≤ cls.length) (hn0 : new.length = 0) :
    Calls Tryz.prog 26 #[.pointer (some ⟨y, 0, none⟩), .string s] w fun r w' => ConsultPost F w y cls s r w' := by
  obtain ⟨⟨vC, lim, live, vN, vG, vT, vH, fr, hB, hC⟩, hy⟩ := h
  obtain ⟨acc, hA, hcls, h30⟩ := hC.ex
  have hlen : cls.length = acc.length := by rw [hcls, List.length_map]
  obtain ⟨a, c, rfl⟩ : ∃ a c, vC = .slice a acc.length c := by
    rcases hA.row.shape with ⟨e, hnil⟩ | ⟨gv, cv, e, _⟩
    · have h7 := congrArg List.length hnil
      rw [List.length_map, List.length_nil] at h7
      exact ⟨none, 0, by rw [e, h7]⟩
    · rw [List.length_map] at e
      exact ⟨_, _, e⟩
  have Hlen : Hid _ := hlen
  have Hcls : Hid _ := hcls
  have HA : Hid _ := hA
  have HR : Hid _ := hr
  have HC : Hid _ := hC
  have HB : Hid _ := hB
  have k0 : w.cell? ⟨y, 0, none⟩ = some (.slice a acc.length c) := blk_cell hB 0
  have k2 : w.cell? ⟨y, 2, none⟩ = some (.bool live) := blk_cell hB 2
  have kf := blk_frozen hB
  have hyl := blk_lt hB
  have hS : Hid (consultP cls s = ((0, 0), cls ++ new)) := by unfold Hid consultP; rw [hr]; simp only []; rw [if_neg hf]
  have hsum : cls.length + new.length ≤ 30 := by omega
  have hpa : 1 ≤ acc.length := by omega
  obtain ⟨g0, rfl⟩ : ∃ g0, a = some ⟨g0, 0, none⟩ := by
    rcases hA.row.shape with ⟨_, hnil⟩ | ⟨gv, cv, e, _⟩
    · have h7 := congrArg List.length hnil
      rw [List.length_map, List.length_nil] at h7
      omega
    · injection e with e1 _ _; exact ⟨gv, e1⟩
  have hg0 : Hid (g0 ≠ y) := fun e => hy (e ▸ hA.rowF g0 rfl)
  have Hn0 : Hid _ := hn0
  clear hn0 ha0
  clear hr hC hB hA hcls hlen
  go_enter Tryz.func26, Tryz.ntmps26
  go_wp2_with (first
    | (go_at_call 33; refine (clauses_any s _ hm).mono ?_; rintro r w1 ⟨hb1, hP⟩; rw [HR.out] at hP; obtain ⟨v1, acc1, rfl, hA1, hnew⟩ := hP; obtain ⟨a1, c1, rfl⟩ : ∃ a1 c1, v1 = .slice a1 acc1.length c1 := (by rcases hA1.row.shape with ⟨e, hnil⟩ | ⟨gv, cv, e, _⟩; have h7 := congrArg List.length hnil; rw [List.length_map, List.length_nil] at h7; exact ⟨none, 0, by rw [e, h7]⟩; rw [List.length_map] at e; exact ⟨_, _, e⟩); have Hnew : Hid _ := hnew; clear hnew; have hB1 : RsB w1 y _ _ _ _ _ _ _ _ := (hb1.block y (by simpa [World.setCell] using hyl)).trans (blk_set HB.out 2 _); have q0 : w1.cell? ⟨y, 0, none⟩ = some (.slice (some ⟨g0, 0, none⟩) acc.length c) := blk_cell hB1 0; have qf := blk_frozen hB1; have hl1 : Hid (new.length = acc1.length) := (by unfold Hid; rw [Hnew.out, List.length_map]); have hs1 : w.heap.size ≤ w1.heap.size := (by have := hb1.size; simpa [World.setCell] using this); have hsm : acc.length + acc1.length ≤ 30 := (by have := hl1.out; have := Hlen.out; omega); have hz1 : acc1 = [] := (List.eq_nil_of_length_eq_zero (by have := hl1.out; have := Hn0.out; omega)); subst hz1; have hz2 := hA1.none rfl; injection hz2 with hz3 _ hz4; subst hz3; subst hz4; have hA01 := (HA.out.row.setCell ⟨y, 2, none⟩ (.bool false) (fun e => hg0.out (Option.some.inj e))).below hb1)
    | (at_builtin; refine wpList_apps Tryz.elemClause clCells clCells_len clCells_one _ rfl (.tmp 32) (.tmp 36) rfl 0 (.slice none 0 0) ([] : List ClV) rfl (RowIs.nil _ _ _ _ _) ⟨g0, 0, none⟩ _ (acc.map (·.1)) (by simpa using hpa) (by rw [List.length_map]; rfl) (hA01.own.cells rfl) (by simp; omega) (Nat.zero_le _) ?_; intro g2 cap2 w2 hrow2 hgr2 hnb2; have hyB2 : RsB w2 y _ _ _ _ _ _ _ _ := (hgr2.block y (blk_lt hB1) (by simp [Value.ownBlock])).trans hB1; have r20 : w2.cell? ⟨y, 0, none⟩ = some (.slice (some ⟨g0, 0, none⟩) acc.length c) := blk_cell hyB2 0; have r2f := blk_frozen hyB2; have hn2 : w1.heap.size ≤ g2 := (by rcases hnb2 with e | ⟨k, e, hk⟩; simp [Value.ownBlock] at e; have := Option.some.inj e; omega); have hrow2' : RowIs w2 0 102 3 clCells (.slice (some ⟨g2, 0, none⟩) acc.length cap2) (acc.map (·.1)) := (by simpa using hrow2))
    | (at_builtin; refine wpList_app_none Tryz.elemClause clCells _ rfl (.tmp 38) (.tmp 39) rfl 0 (.slice (some ⟨g2, 0, none⟩) acc.length cap2) (acc.map (·.1)) rfl hrow2' rfl ?_))
  go_ret2
  have hk1 : Kept (fun k => k = y) w1 (w2.setCell ⟨y, 0, none⟩ (.slice (some ⟨g2, 0, none⟩) acc.length cap2)) := ((Kept.refl (fun k => k = y) w1).grown hgr2 (fun k e => by simp [Value.ownBlock] at e)).setCell (p := ⟨y, 0, none⟩) (.inr rfl) _
  have hk : Kept (fun k => k = y) w (w2.setCell ⟨y, 0, none⟩ (.slice (some ⟨g2, 0, none⟩) acc.length cap2)) := (((Kept.refl (fun k => k = y) w).setCell (p := ⟨y, 2, none⟩) (.inr rfl) _).trans (Kept.of_below hb1 (fun k => k = y)) (fun _ _ e => e)).trans hk1 (fun _ _ e => e)
  have hA1' : ClsAt (fun k => w.heap.size ≤ k ∧ k < w1.heap.size) w1 _ ([] : List (ClV × Rf.Cl)) := hA1.mono (fun k x => ⟨by have := x.1; simpa [World.setCell] using this, x.2⟩)
  unfold ConsultPost
  rw [hS.out]
  refine ⟨rfl, hk, ⟨_, _, _, _, _, _, _, _, blk_set hyB2 0 _, ⟨acc ++ ([] : List (ClV × Rf.Cl)), cls_join HA.out hA1' hk hk1 hs1 hy hyl (by simpa using hrow2'.setCell ⟨y, 0, none⟩ (.slice (some ⟨g2, 0, none⟩) acc.length cap2) (fun e => by have h5 : g2 = y := Option.some.inj e; have := blk_lt hB1; omega)) (fun k e => by have h5 : g2 = k := Option.some.inj e; omega) (fun e => by simp at e; rw [e] at hpa; simp at hpa), by show cls ++ new = _; rw [List.map_append, Hcls.out, Hnew.out], by simp; omega⟩, fun x hx => ?_⟩, notF hy hyl⟩
  rcases List.mem_append.1 hx with hx | hx
  · exact HC.out.good x hx
  · exact hgood x hx
set_option maxHeartbeats 1000000 in
theorem consult_11 (F : Nat → Prop) (w : World) (y : Nat) (cls : List Rf.Cl) (s : ByteArray) (h : RsAt F w y cls) (hm : s.size ≤ maxLen) (new : List Rf.Cl) (hr : Rf.readS s = .ok new) (hf : ¬ 30 < cls.length + new.length) (hgood : ∀ x ∈ new, GoodC x) (ha0 : 1 ≤ cls.length) (hn0 : 1 ≤ new.length) :
    Calls Tryz.prog 26 #[.pointer (some ⟨y, 0, none⟩), .string s] w fun r w' => ConsultPost F w y cls s r w' := by
  obtain ⟨⟨vC, lim, live, vN, vG, vT, vH, fr, hB, hC⟩, hy⟩ := h
  obtain ⟨acc, hA, hcls, h30⟩ := hC.ex
  have hlen : cls.length = acc.length := by rw [hcls, List.length_map]
  obtain ⟨a, c, rfl⟩ : ∃ a c, vC = .slice a acc.length c := by
    rcases hA.row.shape with ⟨e, hnil⟩ | ⟨gv, cv, e, _⟩
    · have h7 := congrArg List.length hnil
      rw [List.length_map, List.length_nil] at h7
      exact ⟨none, 0, by rw [e, h7]⟩
    · rw [List.length_map] at e
      exact ⟨_, _, e⟩
  have Hlen : Hid _ := hlen
  have Hcls : Hid _ := hcls
  have HA : Hid _ := hA
  have HR : Hid _ := hr
  have HC : Hid _ := hC
  have HB : Hid _ := hB
  have k0 : w.cell? ⟨y, 0, none⟩ = some (.slice a acc.length c) := blk_cell hB 0
  have k2 : w.cell? ⟨y, 2, none⟩ = some (.bool live) := blk_cell hB 2
  have kf := blk_frozen hB
  have hyl := blk_lt hB
  have hS : Hid (consultP cls s = ((0, 0), cls ++ new)) := by unfold Hid consultP; rw [hr]; simp only []; rw [if_neg hf]
  have hsum : cls.length + new.length ≤ 30 := by omega
  have hpa : 1 ≤ acc.length := by omega
  obtain ⟨g0, rfl⟩ : ∃ g0, a = some ⟨g0, 0, none⟩ := by
    rcases hA.row.shape with ⟨_, hnil⟩ | ⟨gv, cv, e, _⟩
    · have h7 := congrArg List.length hnil
      rw [List.length_map, List.length_nil] at h7
      omega
    · injection e with e1 _ _; exact ⟨gv, e1⟩
  have hg0 : Hid (g0 ≠ y) := fun e => hy (e ▸ hA.rowF g0 rfl)
  have Hn0 : Hid _ := hn0
  clear hn0 ha0
  clear hr hC hB hA hcls hlen
  go_enter Tryz.func26, Tryz.ntmps26
  go_wp2_with (first
    | (go_at_call 33; refine (clauses_any s _ hm).mono ?_; rintro r w1 ⟨hb1, hP⟩; rw [HR.out] at hP; obtain ⟨v1, acc1, rfl, hA1, hnew⟩ := hP; obtain ⟨a1, c1, rfl⟩ : ∃ a1 c1, v1 = .slice a1 acc1.length c1 := (by rcases hA1.row.shape with ⟨e, hnil⟩ | ⟨gv, cv, e, _⟩; have h7 := congrArg List.length hnil; rw [List.length_map, List.length_nil] at h7; exact ⟨none, 0, by rw [e, h7]⟩; rw [List.length_map] at e; exact ⟨_, _, e⟩); have Hnew : Hid _ := hnew; clear hnew; have hB1 : RsB w1 y _ _ _ _ _ _ _ _ := (hb1.block y (by simpa [World.setCell] using hyl)).trans (blk_set HB.out 2 _); have q0 : w1.cell? ⟨y, 0, none⟩ = some (.slice (some ⟨g0, 0, none⟩) acc.length c) := blk_cell hB1 0; have qf := blk_frozen hB1; have hl1 : Hid (new.length = acc1.length) := (by unfold Hid; rw [Hnew.out, List.length_map]); have hs1 : w.heap.size ≤ w1.heap.size := (by have := hb1.size; simpa [World.setCell] using this); have hsm : acc.length + acc1.length ≤ 30 := (by have := hl1.out; have := Hlen.out; omega); have hp1 : 1 ≤ acc1.length := (by have := hl1.out; have := Hn0.out; omega); obtain ⟨g1, rfl⟩ : ∃ g1, a1 = some ⟨g1, 0, none⟩ := (by rcases hA1.row.shape with ⟨_, hnil⟩ | ⟨gv, cv, e, _⟩; have h7 := congrArg List.length hnil; rw [List.length_map, List.length_nil] at h7; omega; injection e with e1 _ _; exact ⟨gv, e1⟩); have hA01 := (HA.out.row.setCell ⟨y, 2, none⟩ (.bool false) (fun e => hg0.out (Option.some.inj e))).below hb1)
    | (at_builtin; refine wpList_apps Tryz.elemClause clCells clCells_len clCells_one _ rfl (.tmp 32) (.tmp 36) rfl 0 (.slice none 0 0) ([] : List ClV) rfl (RowIs.nil _ _ _ _ _) ⟨g0, 0, none⟩ _ (acc.map (·.1)) (by simpa using hpa) (by rw [List.length_map]; rfl) (hA01.own.cells rfl) (by simp; omega) (Nat.zero_le _) ?_; intro g2 cap2 w2 hrow2 hgr2 hnb2; have hyB2 : RsB w2 y _ _ _ _ _ _ _ _ := (hgr2.block y (blk_lt hB1) (by simp [Value.ownBlock])).trans hB1; have r20 : w2.cell? ⟨y, 0, none⟩ = some (.slice (some ⟨g0, 0, none⟩) acc.length c) := blk_cell hyB2 0; have r2f := blk_frozen hyB2; have hn2 : w1.heap.size ≤ g2 := (by rcases hnb2 with e | ⟨k, e, hk⟩; simp [Value.ownBlock] at e; have := Option.some.inj e; omega); have hrow2' : RowIs w2 0 102 3 clCells (.slice (some ⟨g2, 0, none⟩) acc.length cap2) (acc.map (·.1)) := (by simpa using hrow2); have hA12 := hA1.row.keptBy (M := fun k => False) ((Kept.refl (fun k => False) w1).grown hgr2 (fun k e => by simp [Value.ownBlock] at e)) (fun _ _ e => e))
    | (at_builtin; refine wpList_apps Tryz.elemClause clCells clCells_len clCells_one _ rfl (.tmp 38) (.tmp 39) rfl 0 (.slice (some ⟨g2, 0, none⟩) acc.length cap2) (acc.map (·.1)) rfl hrow2' ⟨g1, 0, none⟩ _ (acc1.map (·.1)) (by simpa using hp1) (by rw [List.length_map]; rfl) (hA12.own.cells rfl) (by simp; omega) (Nat.zero_le _) ?_; intro g3 cap3 w3 hrow3 hgr3 hnb3; have hyB3 : RsB w3 y _ _ _ _ _ _ _ _ := (hgr3.block y (blk_lt hyB2) (fun e => by have h5 : y = g2 := Option.some.inj e; have := blk_lt hB1; omega)).trans hyB2; have r30 : w3.cell? ⟨y, 0, none⟩ = some (.slice (some ⟨g0, 0, none⟩) acc.length c) := blk_cell hyB3 0; have r3f := blk_frozen hyB3))
  go_ret2
  have hn3 : w1.heap.size ≤ g3 := by
    rcases hnb3 with e | ⟨k, e, hk⟩
    · have h5 : g3 = g2 := Option.some.inj e; omega
    · have := Option.some.inj e; have := hgr2.size; omega
  have hk1 : Kept (fun k => k = y) w1 (w3.setCell ⟨y, 0, none⟩ (.slice (some ⟨g3, 0, none⟩) (acc.length + acc1.length) cap3)) := (((Kept.refl (fun k => k = y) w1).grown hgr2 (fun k e => by simp [Value.ownBlock] at e)).grown hgr3 (fun k e => by have h5 : g2 = k := Option.some.inj e; exact Or.inl (by omega))).setCell (p := ⟨y, 0, none⟩) (.inr rfl) _
  have hk : Kept (fun k => k = y) w (w3.setCell ⟨y, 0, none⟩ (.slice (some ⟨g3, 0, none⟩) (acc.length + acc1.length) cap3)) := (((Kept.refl (fun k => k = y) w).setCell (p := ⟨y, 2, none⟩) (.inr rfl) _).trans (Kept.of_below hb1 (fun k => k = y)) (fun _ _ e => e)).trans hk1 (fun _ _ e => e)
  have hA1' : ClsAt (fun k => w.heap.size ≤ k ∧ k < w1.heap.size) w1 _ acc1 := hA1.mono (fun k x => ⟨by have := x.1; simpa [World.setCell] using this, x.2⟩)
  unfold ConsultPost
  rw [hS.out]
  refine ⟨rfl, hk, ⟨_, _, _, _, _, _, _, _, blk_set hyB3 0 _, ⟨acc ++ acc1, cls_join HA.out hA1' hk hk1 hs1 hy hyl (by simpa using hrow3.setCell ⟨y, 0, none⟩ (.slice (some ⟨g3, 0, none⟩) (acc.length + acc1.length) cap3) (fun e => by have h5 : g3 = y := Option.some.inj e; have := blk_lt hB1; omega)) (fun k e => by have h5 : g3 = k := Option.some.inj e; omega) (fun e => by simp at e; rw [e.1] at hpa; simp at hpa), by show cls ++ new = _; rw [List.map_append, Hcls.out, Hnew.out], by simp; omega⟩, fun x hx => ?_⟩, notF hy hyl⟩
  rcases List.mem_append.1 hx with hx | hx
  · exact HC.out.good x hx
  · exact hgood x hx
theorem consult_any (F : Nat → Prop) (w : World) (y : Nat) (cls : List Rf.Cl) (s : ByteArray) (h : RsAt F w y cls) (hm : s.size ≤ maxLen) (hgood : ∀ new, Rf.readS s = .ok new → new.length ≤ 402 ∧ ∀ x ∈ new, GoodC x) :
    Calls Tryz.prog 26 #[.pointer (some ⟨y, 0, none⟩), .string s] w fun r w' => ConsultPost F w y cls s r w' := by
  cases hr : Rf.readS s with
  | error x => exact consult_err F w y cls s h hm x.1 x.2 hr
  | ok new =>
    obtain ⟨h402, hg⟩ := hgood new hr
    by_cases hf : 30 < cls.length + new.length
    · exact consult_full F w y cls s h hm new hr hf h402
    · by_cases ha : cls.length = 0
      · by_cases hn : new.length = 0
        · exact consult_00 F w y cls s h hm new hr hf hg ha hn
        · exact consult_01 F w y cls s h hm new hr hf hg ha (by omega)
      · by_cases hn : new.length = 0
        · exact consult_10 F w y cls s h hm new hr hf hg (by omega) hn
        · exact consult_11 F w y cls s h hm new hr hf hg (by omega) (by omega)
end Go.Proofs.YtegjiaceopnfjaaGreatDoor
