/- The document's session (promptref: Consult), at a text whose clauses are added. -/
import Derived.Test.YthdmbbfaphipkaaGreatDoorYaw
import Derived.Test.YthdmbbfaphipkaaGreatDoorYao
namespace Go.Proofs.YthdmbbfaphipkaaGreatDoor
open Go.RowKit
set_option maxHeartbeats 1000000 in
theorem consult_00 (F : Nat → Prop) (w : World) (y : Nat) (cls : List Rf.Cl) (s : ByteArray) (h : RsAt F w y cls) (hm : s.size ≤ maxLen) (new : List Rf.Cl) (hr : Rf.readS s = .ok new) (hf : ¬ 30 < cls.length + new.length) (hgood : ∀ x ∈ new, GoodC x) (ha0 : cls.length = 0) (hn0 : new.length = 0) :
    Calls Tryz.prog 26 #[.pointer (some ⟨y, 0, none⟩), .string s] w fun r w' => ConsultPost F w y cls s r w' := by
  obtain ⟨⟨vC, lim, live, vN, vG, vT, vH, fr, hB, hC⟩, hy⟩ := h
  obtain ⟨acc, hA, hcls, h30⟩ := hC.ex
  have hlen : cls.length = acc.length := by rw [hcls, List.length_map]
  obtain ⟨a, c, rfl⟩ : ∃ a c, vC = .slice a acc.length c := by
    rcases hA.row.shape with ⟨e, hnil⟩ | ⟨gv, cv, e, _⟩
    · have h7 := congrArg List.length hnil
      rw [List.length_map, List.length_nil] at h7
      exact ⟨none, 0, by rw [e, h7]⟩
    · rw [List.length_map] at e
      exact ⟨_, _, e⟩
  have Hlen : Hid _ := hlen
  have Hcls : Hid _ := hcls
  have HA : Hid _ := hA
  have HR : Hid _ := hr
  have HC : Hid _ := hC
  have HB : Hid _ := hB
  have k0 : w.cell? ⟨y, 0, none⟩ = some (.slice a acc.length c) := blk_cell hB 0
  have k2 : w.cell? ⟨y, 2, none⟩ = some (.bool live) := blk_cell hB 2
  have kf := blk_frozen hB
  have hyl := blk_lt hB
  have hS : Hid (consultP cls s = ((0, 0), cls ++ new)) := by unfold Hid consultP; rw [hr]; simp only []; rw [if_neg hf]
  have hsum : cls.length + new.length ≤ 30 := by omega
  have hz : acc = [] := List.eq_nil_of_length_eq_zero (by omega)
  subst hz
  have hzv := hA.none rfl
  injection hzv with hza _ hzc
  subst hza
  subst hzc
  have Hn0 : Hid _ := hn0
  clear hn0 ha0
  clear hr hC hB hA hcls hlen
  go_enter Tryz.func26, Tryz.ntmps26
  go_wp2_with (first
    | (go_at_call 42; refine (clauses_any s _ hm).mono ?_; rintro r w1 ⟨hb1, hP⟩; rw [HR.out] at hP; obtain ⟨v1, acc1, rfl, hA1, hnew⟩ := hP; obtain ⟨a1, c1, rfl⟩ : ∃ a1 c1, v1 = .slice a1 acc1.length c1 := (by rcases hA1.row.shape with ⟨e, hnil⟩ | ⟨gv, cv, e, _⟩; have h7 := congrArg List.length hnil; rw [List.length_map, List.length_nil] at h7; exact ⟨none, 0, by rw [e, h7]⟩; rw [List.length_map] at e; exact ⟨_, _, e⟩); have Hnew : Hid _ := hnew; clear hnew; have hB1 : RsB w1 y _ _ _ _ _ _ _ _ := (hb1.block y (by simpa [World.setCell] using hyl)).trans (blk_set HB.out 2 _); have q0 : w1.cell? ⟨y, 0, none⟩ = some (.slice none 0 0) := blk_cell hB1 0; have qf := blk_frozen hB1; have hl1 : Hid (new.length = acc1.length) := (by unfold Hid; rw [Hnew.out, List.length_map]); have hs1 : w.heap.size ≤ w1.heap.size := (by have := hb1.size; simpa [World.setCell] using this); have hsm : 0 + acc1.length ≤ 30 := (by have := hl1.out; omega); have hz1 : acc1 = [] := (List.eq_nil_of_length_eq_zero (by have := hl1.out; have := Hn0.out; omega)); subst hz1; have hz2 := hA1.none rfl; injection hz2 with hz3 _ hz4; subst hz3; subst hz4)
    | (at_builtin; refine wpList_app_none Tryz.elemClause clCells _ rfl (.tmp 32) (.tmp 36) rfl 0 _ ([] : List ClV) rfl (RowIs.nil _ _ _ _ _) rfl ?_)
    | (at_builtin; refine wpList_app_none Tryz.elemClause clCells _ rfl (.tmp 38) (.tmp 39) rfl 0 _ ([] : List ClV) rfl (RowIs.nil _ _ _ _ _) rfl ?_))
  go_ret2
  have hk1 : Kept (fun k => k = y) w1 (w1.setCell ⟨y, 0, none⟩ (.slice none 0 0)) := (Kept.refl (fun k => k = y) w1).setCell (p := ⟨y, 0, none⟩) (.inr rfl) _
  have hk : Kept (fun k => k = y) w (w1.setCell ⟨y, 0, none⟩ (.slice none 0 0)) := (((Kept.refl (fun k => k = y) w).setCell (p := ⟨y, 2, none⟩) (.inr rfl) _).trans (Kept.of_below hb1 (fun k => k = y)) (fun _ _ e => e)).trans hk1 (fun _ _ e => e)
  have hA1' : ClsAt (fun k => w.heap.size ≤ k ∧ k < w1.heap.size) w1 _ ([] : List (ClV × Rf.Cl)) := hA1.mono (fun k x => ⟨by have := x.1; simpa [World.setCell] using this, x.2⟩)
  unfold ConsultPost
  rw [hS.out]
  refine ⟨rfl, hk, ⟨_, _, _, _, _, _, _, _, blk_set hB1 0 _, ⟨([] : List (ClV × Rf.Cl)) ++ ([] : List (ClV × Rf.Cl)), cls_join HA.out hA1' hk hk1 hs1 hy hyl (by simpa using RowIs.nil _ _ _ _ _) (fun k e => by simp [Value.ownBlock] at e) (fun _ => rfl), by show cls ++ new = _; rw [List.map_append, Hcls.out, Hnew.out], by simp⟩, fun x hx => ?_⟩, notF hy hyl⟩
  rcases List.mem_append.1 hx with hx | hx
  · exact HC.out.good x hx
  · exact hgood x hx
set_option maxHeartbeats 1000000 in
theorem consult_01 (F : Nat → Prop) (w : World) (y : Nat) (cls : List Rf.Cl) (s : ByteArray) (h : RsAt F w y cls) (hm : s.size ≤ maxLen) (new : List Rf.Cl) (hr : Rf.readS s = .ok new) (hf : ¬ 30 < cls.length + new.length) (hgood : ∀ x ∈ new, GoodC x) (ha0 : cls.length = 0) (hn0 : 1 ≤ new.length) :
    Calls Tryz.prog 26 #[.pointer (some ⟨y, 0, none⟩), .string s] w fun r w' => ConsultPost F w y cls s r w' := by
  obtain ⟨⟨vC, lim, live, vN, vG, vT, vH, fr, hB, hC⟩, hy⟩ := h
  obtain ⟨acc, hA, hcls, h30⟩ := hC.ex
  have hlen : cls.length = acc.length := by rw [hcls, List.length_map]
  obtain ⟨a, c, rfl⟩ : ∃ a c, vC = .slice a acc.length c := by
    rcases hA.row.shape with ⟨e, hnil⟩ | ⟨gv, cv, e, _⟩
    · have h7 := congrArg List.length hnil
      rw [List.length_map, List.length_nil] at h7
      exact ⟨none, 0, by rw [e, h7]⟩
    · rw [List.length_map] at e
      exact ⟨_, _, e⟩
  have Hlen : Hid _ := hlen
  have Hcls : Hid _ := hcls
  have HA : Hid _ := hA
  have HR : Hid _ := hr
  have HC : Hid _ := hC
  have HB : Hid _ := hB
  have k0 : w.cell? ⟨y, 0, none⟩ = some (.slice a acc.length c) := blk_cell hB 0
  have k2 : w.cell? ⟨y, 2, none⟩ = some (.bool live) := blk_cell hB 2
  have kf := blk_frozen hB
  have hyl := blk_lt hB
  have hS : Hid (consultP cls s = ((0, 0), cls ++ new)) := by unfold Hid consultP; rw [hr]; simp only []; rw [if_neg hf]
  have hsum : cls.length + new.length ≤ 30 := by omega
  have hz : acc = [] := List.eq_nil_of_length_eq_zero (by omega)
  subst hz
  have hzv := hA.none rfl
  injection hzv with hza _ hzc
  subst hza
  subst hzc
  have Hn0 : Hid _ := hn0
  clear hn0 ha0
  clear hr hC hB hA hcls hlen
  go_enter Tryz.func26, Tryz.ntmps26
  go_wp2_with (first
    | (go_at_call 42; refine (clauses_any s _ hm).mono ?_; rintro r w1 ⟨hb1, hP⟩; rw [HR.out] at hP; obtain ⟨v1, acc1, rfl, hA1, hnew⟩ := hP; obtain ⟨a1, c1, rfl⟩ : ∃ a1 c1, v1 = .slice a1 acc1.length c1 := (by rcases hA1.row.shape with ⟨e, hnil⟩ | ⟨gv, cv, e, _⟩; have h7 := congrArg List.length hnil; rw [List.length_map, List.length_nil] at h7; exact ⟨none, 0, by rw [e, h7]⟩; rw [List.length_map] at e; exact ⟨_, _, e⟩); have Hnew : Hid _ := hnew; clear hnew; have hB1 : RsB w1 y _ _ _ _ _ _ _ _ := (hb1.block y (by simpa [World.setCell] using hyl)).trans (blk_set HB.out 2 _); have q0 : w1.cell? ⟨y, 0, none⟩ = some (.slice none 0 0) := blk_cell hB1 0; have qf := blk_frozen hB1; have hl1 : Hid (new.length = acc1.length) := (by unfold Hid; rw [Hnew.out, List.length_map]); have hs1 : w.heap.size ≤ w1.heap.size := (by have := hb1.size; simpa [World.setCell] using this); have hsm : 0 + acc1.length ≤ 30 := (by have := hl1.out; omega); have hp1 : 1 ≤ acc1.length := (by have := hl1.out; have := Hn0.out; omega); obtain ⟨g1, rfl⟩ : ∃ g1, a1 = some ⟨g1, 0, none⟩ := (by rcases hA1.row.shape with ⟨_, hnil⟩ | ⟨gv, cv, e, _⟩; have h7 := congrArg List.length hnil; rw [List.length_map, List.length_nil] at h7; omega; injection e with e1 _ _; exact ⟨gv, e1⟩))
    | (at_builtin; refine wpList_app_none Tryz.elemClause clCells _ rfl (.tmp 32) (.tmp 36) rfl 0 _ ([] : List ClV) rfl (RowIs.nil _ _ _ _ _) rfl ?_)
    | (at_builtin; refine wpList_apps Tryz.elemClause clCells clCells_len clCells_one _ rfl (.tmp 38) (.tmp 39) rfl 0 (.slice none 0 0) ([] : List ClV) rfl (RowIs.nil _ _ _ _ _) ⟨g1, 0, none⟩ _ (acc1.map (·.1)) (by simpa using hp1) (by rw [List.length_map]; rfl) (hA1.row.own.cells rfl) (by simp; omega) (Nat.zero_le _) ?_; intro g3 cap3 w3 hrow3 hgr3 hnb3; have hyB3 : RsB w3 y _ _ _ _ _ _ _ _ := (hgr3.block y (blk_lt hB1) (by simp [Value.ownBlock])).trans hB1; have r30 : w3.cell? ⟨y, 0, none⟩ = some (.slice none 0 0) := blk_cell hyB3 0; have r3f := blk_frozen hyB3))
  go_ret2
  have hn3 : w1.heap.size ≤ g3 := by
    rcases hnb3 with e | ⟨k, e, hk⟩
    · simp [Value.ownBlock] at e
    · have := Option.some.inj e; omega
  have hk1 : Kept (fun k => k = y) w1 (w3.setCell ⟨y, 0, none⟩ (.slice (some ⟨g3, 0, none⟩) acc1.length cap3)) := ((Kept.refl (fun k => k = y) w1).grown hgr3 (fun k e => by simp [Value.ownBlock] at e)).setCell (p := ⟨y, 0, none⟩) (.inr rfl) _
  have hk : Kept (fun k => k = y) w (w3.setCell ⟨y, 0, none⟩ (.slice (some ⟨g3, 0, none⟩) acc1.length cap3)) := (((Kept.refl (fun k => k = y) w).setCell (p := ⟨y, 2, none⟩) (.inr rfl) _).trans (Kept.of_below hb1 (fun k => k = y)) (fun _ _ e => e)).trans hk1 (fun _ _ e => e)
  have hA1' : ClsAt (fun k => w.heap.size ≤ k ∧ k < w1.heap.size) w1 _ acc1 := hA1.mono (fun k x => ⟨by have := x.1; simpa [World.setCell] using this, x.2⟩)
  unfold ConsultPost
  rw [hS.out]
  refine ⟨rfl, hk, ⟨_, _, _, _, _, _, _, _, blk_set hyB3 0 _, ⟨([] : List (ClV × Rf.Cl)) ++ acc1, cls_join HA.out hA1' hk hk1 hs1 hy hyl (by simpa using hrow3.setCell ⟨y, 0, none⟩ (.slice (some ⟨g3, 0, none⟩) acc1.length cap3) (fun e => by have h5 : g3 = y := Option.some.inj e; have := blk_lt hB1; omega)) (fun k e => by have h5 : g3 = k := Option.some.inj e; omega) (fun e => by simp at e; rw [e] at hp1; simp at hp1), by show cls ++ new = _; rw [List.map_append, Hcls.out, Hnew.out], by simp; omega⟩, fun x hx => ?_⟩, notF hy hyl⟩
  rcases List.mem_append.1 hx with hx | hx
  · exact HC.out.good x hx
  · exact hgood x hx
set_option maxHeartbeats 1000000 in
theorem consult_10 (F : Nat → Prop) (w : World) (y : Nat) (cls : List Rf.Cl) (s : ByteArray) (h : RsAt F w y cls) (hm : s.size ≤ maxLen) (new : List Rf.Cl) (hr : Rf.readS s = .ok new) (hf : ¬ 30 < cls.length + new.length) (hgood : ∀ x ∈ new, GoodC x) (ha0 : 1 ≤ cls.length) (hn0 : new.length = 0) :
    Calls Tryz.prog 26 #[.pointer (some ⟨y, 0, none⟩), .string s] w fun r w' => ConsultPost F w y cls s r w' := by
  obtain ⟨⟨vC, lim, live, vN, vG, vT, vH, fr, hB, hC⟩, hy⟩ := h
  obtain ⟨acc, hA, hcls, h30⟩ := hC.ex
  have hlen : cls.length = acc.length := by rw [hcls, List.length_map]
  obtain ⟨a, c, rfl⟩ : ∃ a c, vC = .slice a acc.length c := by
    rcases hA.row.shape with ⟨e, hnil⟩ | ⟨gv, cv, e, _⟩
    · have h7 := congrArg List.length hnil
      rw [List.length_map, List.length_nil] at h7
      exact ⟨none, 0, by rw [e, h7]⟩
    · rw [List.length_map] at e
      exact ⟨_, _, e⟩
  have Hlen : Hid _ := hlen
  have Hcls : Hid _ := hcls
  have HA : Hid _ := hA
  have HR : Hid _ := hr
  have HC : Hid _ := hC
  have HB : Hid _ := hB
  have k0 : w.cell? ⟨y, 0, none⟩ = some (.slice a acc.length c) := blk_cell hB 0
  have k2 : w.cell? ⟨y, 2, none⟩ = some (.bool live) := blk_cell hB 2
  have kf := blk_frozen hB
  have hyl := blk_lt hB
  have hS : Hid (consultP cls s = ((0, 0), cls ++ new)) := by unfold Hid consultP; rw [hr]; simp only []; rw [if_neg hf]
  have hsum : cls.length + new.length ≤ 30 := by omega
  have hpa : 1 ≤ acc.length := by omega
  obtain ⟨g0, rfl⟩ : ∃ g0, a = some ⟨g0, 0, none⟩ := by
    rcases hA.row.shape with ⟨_, hnil⟩ | ⟨gv, cv, e, _⟩
    · have h7 := congrArg List.length hnil
      rw [List.length_map, List.length_nil] at h7
      omega
    · injection e with e1 _ _; exact ⟨gv, e1⟩
  have hg0 : Hid (g0 ≠ y) := fun e => hy (e ▸ hA.rowF g0 rfl)
  have Hn0 : Hid _ := hn0
  clear hn0 ha0
  clear hr hC hB hA hcls hlen
  go_enter Tryz.func26, Tryz.ntmps26
  go_wp2_with (first
    | (go_at_call 42; refine (clauses_any s _ hm).mono ?_; rintro r w1 ⟨hb1, hP⟩; rw [HR.out] at hP; obtain ⟨v1, acc1, rfl, hA1, hnew⟩ := hP; obtain ⟨a1, c1, rfl⟩ : ∃ a1 c1, v1 = .slice a1 acc1.length c1 := (by rcases hA1.row.shape with ⟨e, hnil⟩ | ⟨gv, cv, e, _⟩; have h7 := congrArg List.length hnil; rw [List.length_map, List.length_nil] at h7; exact ⟨none, 0, by rw [e, h7]⟩; rw [List.length_map] at e; exact ⟨_, _, e⟩); have Hnew : Hid _ := hnew; clear hnew; have hB1 : RsB w1 y _ _ _ _ _ _ _ _ := (hb1.block y (by simpa [World.setCell] using hyl)).trans (blk_set HB.out 2 _); have q0 : w1.cell? ⟨y, 0, none⟩ = some (.slice (some ⟨g0, 0, none⟩) acc.length c) := blk_cell hB1 0; have qf := blk_frozen hB1; have hl1 : Hid (new.length = acc1.length) := (by unfold Hid; rw [Hnew.out, List.length_map]); have hs1 : w.heap.size ≤ w1.heap.size := (by have := hb1.size; simpa [World.setCell] using this); have hsm : acc.length + acc1.length ≤ 30 := (by have := hl1.out; have := Hlen.out; omega); have hz1 : acc1 = [] := (List.eq_nil_of_length_eq_zero (by have := hl1.out; have := Hn0.out; omega)); subst hz1; have hz2 := hA1.none rfl; injection hz2 with hz3 _ hz4; subst hz3; subst hz4; have hA01 := (HA.out.row.setCell ⟨y, 2, none⟩ (.bool false) (fun e => hg0.out (Option.some.inj e))).below hb1)
    | (at_builtin; refine wpList_apps Tryz.elemClause clCells clCells_len clCells_one _ rfl (.tmp 32) (.tmp 36) rfl 0 (.slice none 0 0) ([] : List ClV) rfl (RowIs.nil _ _ _ _ _) ⟨g0, 0, none⟩ _ (acc.map (·.1)) (by simpa using hpa) (by rw [List.length_map]; rfl) (hA01.own.cells rfl) (by simp; omega) (Nat.zero_le _) ?_; intro g2 cap2 w2 hrow2 hgr2 hnb2; have hyB2 : RsB w2 y _ _ _ _ _ _ _ _ := (hgr2.block y (blk_lt hB1) (by simp [Value.ownBlock])).trans hB1; have r20 : w2.cell? ⟨y, 0, none⟩ = some (.slice (some ⟨g0, 0, none⟩) acc.length c) := blk_cell hyB2 0; have r2f := blk_frozen hyB2; have hn2 : w1.heap.size ≤ g2 := (by rcases hnb2 with e | ⟨k, e, hk⟩; simp [Value.ownBlock] at e; have := Option.some.inj e; omega); have hrow2' : RowIs w2 0 114 3 clCells (.slice (some ⟨g2, 0, none⟩) acc.length cap2) (acc.map (·.1)) := (by simpa using hrow2))
    | (at_builtin; refine wpList_app_none Tryz.elemClause clCells _ rfl (.tmp 38) (.tmp 39) rfl 0 (.slice (some ⟨g2, 0, none⟩) acc.length cap2) (acc.map (·.1)) rfl hrow2' rfl ?_))
  go_ret2
  have hk1 : Kept (fun k => k = y) w1 (w2.setCell ⟨y, 0, none⟩ (.slice (some ⟨g2, 0, none⟩) acc.length cap2)) := ((Kept.refl (fun k => k = y) w1).grown hgr2 (fun k e => by simp [Value.ownBlock] at e)).setCell (p := ⟨y, 0, none⟩) (.inr rfl) _
  have hk : Kept (fun k => k = y) w (w2.setCell ⟨y, 0, none⟩ (.slice (some ⟨g2, 0, none⟩) acc.length cap2)) := (((Kept.refl (fun k => k = y) w).setCell (p := ⟨y, 2, none⟩) (.inr rfl) _).trans (Kept.of_below hb1 (fun k => k = y)) (fun _ _ e => e)).trans hk1 (fun _ _ e => e)
  have hA1' : ClsAt (fun k => w.heap.size ≤ k ∧ k < w1.heap.size) w1 _ ([] : List (ClV × Rf.Cl)) := hA1.mono (fun k x => ⟨by have := x.1; simpa [World.setCell] using this, x.2⟩)
  unfold ConsultPost
  rw [hS.out]
  refine ⟨rfl, hk, ⟨_, _, _, _, _, _, _, _, blk_set hyB2 0 _, ⟨acc ++ ([] : List (ClV × Rf.Cl)), cls_join HA.out hA1' hk hk1 hs1 hy hyl (by simpa using hrow2'.setCell ⟨y, 0, none⟩ (.slice (some ⟨g2, 0, none⟩) acc.length cap2) (fun e => by have h5 : g2 = y := Option.some.inj e; have := blk_lt hB1; omega)) (fun k e => by have h5 : g2 = k := Option.some.inj e; omega) (fun e => by simp at e; rw [e] at hpa; simp at hpa), by show cls ++ new = _; rw [List.map_append, Hcls.out, Hnew.out], by simp; omega⟩, fun x hx => ?_⟩, notF hy hyl⟩
  rcases List.mem_append.1 hx with hx | hx
  · exact HC.out.good x hx
  · exact hgood x hx
set_option maxHeartbeats 1000000 in
theorem consult_11 (F : Nat → Prop) (w : World) (y : Nat) (cls : List Rf.Cl) (s : ByteArray) (h : RsAt F w y cls) (hm : s.size ≤ maxLen) (new : List Rf.Cl) (hr : Rf.readS s = .ok new) (hf : ¬ 30 < cls.length + new.length) (hgood : ∀ x ∈ new, GoodC x) (ha0 : 1 ≤ cls.length) (hn0 : 1 ≤ new.length) :
    Calls Tryz.prog 26 #[.pointer (some ⟨y, 0, none⟩), .string s] w fun r w' => ConsultPost F w y cls s r w' := by
  obtain ⟨⟨vC, lim, live, vN, vG, vT, vH, fr, hB, hC⟩, hy⟩ := h
  obtain ⟨acc, hA, hcls, h30⟩ := hC.ex
  have hlen : cls.length = acc.length := by rw [hcls, List.length_map]
  obtain ⟨a, c, rfl⟩ : ∃ a c, vC = .slice a acc.length c := by
    rcases hA.row.shape with ⟨e, hnil⟩ | ⟨gv, cv, e, _⟩
    · have h7 := congrArg List.length hnil
      rw [List.length_map, List.length_nil] at h7
      exact ⟨none, 0, by rw [e, h7]⟩
    · rw [List.length_map] at e
      exact ⟨_, _, e⟩
  have Hlen : Hid _ := hlen
  have Hcls : Hid _ := hcls
  have HA : Hid _ := hA
  have HR : Hid _ := hr
  have HC : Hid _ := hC
  have HB : Hid _ := hB
  have k0 : w.cell? ⟨y, 0, none⟩ = some (.slice a acc.length c) := blk_cell hB 0
  have k2 : w.cell? ⟨y, 2, none⟩ = some (.bool live) := blk_cell hB 2
  have kf := blk_frozen hB
  have hyl := blk_lt hB
  have hS : Hid (consultP cls s = ((0, 0), cls ++ new)) := by unfold Hid consultP; rw [hr]; simp only []; rw [if_neg hf]
  have hsum : cls.length + new.length ≤ 30 := by omega
  have hpa : 1 ≤ acc.length := by omega
  obtain ⟨g0, rfl⟩ : ∃ g0, a = some ⟨g0, 0, none⟩ := by
    rcases hA.row.shape with ⟨_, hnil⟩ | ⟨gv, cv, e, _⟩
    · have h7 := congrArg List.length hnil
      rw [List.length_map, List.length_nil] at h7
      omega
    · injection e with e1 _ _; exact ⟨gv, e1⟩
  have hg0 : Hid (g0 ≠ y) := fun e => hy (e ▸ hA.rowF g0 rfl)
  have Hn0 : Hid _ := hn0
  clear hn0 ha0
  clear hr hC hB hA hcls hlen
  go_enter Tryz.func26, Tryz.ntmps26
  go_wp2_with (first
    | (go_at_call 42; refine (clauses_any s _ hm).mono ?_; rintro r w1 ⟨hb1, hP⟩; rw [HR.out] at hP; obtain ⟨v1, acc1, rfl, hA1, hnew⟩ := hP; obtain ⟨a1, c1, rfl⟩ : ∃ a1 c1, v1 = .slice a1 acc1.length c1 := (by rcases hA1.row.shape with ⟨e, hnil⟩ | ⟨gv, cv, e, _⟩; have h7 := congrArg List.length hnil; rw [List.length_map, List.length_nil] at h7; exact ⟨none, 0, by rw [e, h7]⟩; rw [List.length_map] at e; exact ⟨_, _, e⟩); have Hnew : Hid _ := hnew; clear hnew; have hB1 : RsB w1 y _ _ _ _ _ _ _ _ := (hb1.block y (by simpa [World.setCell] using hyl)).trans (blk_set HB.out 2 _); have q0 : w1.cell? ⟨y, 0, none⟩ = some (.slice (some ⟨g0, 0, none⟩) acc.length c) := blk_cell hB1 0; have qf := blk_frozen hB1; have hl1 : Hid (new.length = acc1.length) := (by unfold Hid; rw [Hnew.out, List.length_map]); have hs1 : w.heap.size ≤ w1.heap.size := (by have := hb1.size; simpa [World.setCell] using this); have hsm : acc.length + acc1.length ≤ 30 := (by have := hl1.out; have := Hlen.out; omega); have hp1 : 1 ≤ acc1.length := (by have := hl1.out; have := Hn0.out; omega); obtain ⟨g1, rfl⟩ : ∃ g1, a1 = some ⟨g1, 0, none⟩ := (by rcases hA1.row.shape with ⟨_, hnil⟩ | ⟨gv, cv, e, _⟩; have h7 := congrArg List.length hnil; rw [List.length_map, List.length_nil] at h7; omega; injection e with e1 _ _; exact ⟨gv, e1⟩); have hA01 := (HA.out.row.setCell ⟨y, 2, none⟩ (.bool false) (fun e => hg0.out (Option.some.inj e))).below hb1)
    | (at_builtin; refine wpList_apps Tryz.elemClause clCells clCells_len clCells_one _ rfl (.tmp 32) (.tmp 36) rfl 0 (.slice none 0 0) ([] : List ClV) rfl (RowIs.nil _ _ _ _ _) ⟨g0, 0, none⟩ _ (acc.map (·.1)) (by simpa using hpa) (by rw [List.length_map]; rfl) (hA01.own.cells rfl) (by simp; omega) (Nat.zero_le _) ?_; intro g2 cap2 w2 hrow2 hgr2 hnb2; have hyB2 : RsB w2 y _ _ _ _ _ _ _ _ := (hgr2.block y (blk_lt hB1) (by simp [Value.ownBlock])).trans hB1; have r20 : w2.cell? ⟨y, 0, none⟩ = some (.slice (some ⟨g0, 0, none⟩) acc.length c) := blk_cell hyB2 0; have r2f := blk_frozen hyB2; have hn2 : w1.heap.size ≤ g2 := (by rcases hnb2 with e | ⟨k, e, hk⟩; simp [Value.ownBlock] at e; have := Option.some.inj e; omega); have hrow2' : RowIs w2 0 114 3 clCells (.slice (some ⟨g2, 0, none⟩) acc.length cap2) (acc.map (·.1)) := (by simpa using hrow2); have hA12 := hA1.row.keptBy (M := fun k => False) ((Kept.refl (fun k => False) w1).grown hgr2 (fun k e => by simp [Value.ownBlock] at e)) (fun _ _ e => e))
    | (at_builtin; refine wpList_apps Tryz.elemClause clCells clCells_len clCells_one _ rfl (.tmp 38) (.tmp 39) rfl 0 (.slice (some ⟨g2, 0, none⟩) acc.length cap2) (acc.map (·.1)) rfl hrow2' ⟨g1, 0, none⟩ _ (acc1.map (·.1)) (by simpa using hp1) (by rw [List.length_map]; rfl) (hA12.own.cells rfl) (by simp; omega) (Nat.zero_le _) ?_; intro g3 cap3 w3 hrow3 hgr3 hnb3; have hyB3 : RsB w3 y _ _ _ _ _ _ _ _ := (hgr3.block y (blk_lt hyB2) (fun e => by have h5 : y = g2 := Option.some.inj e; have := blk_lt hB1; omega)).trans hyB2; have r30 : w3.cell? ⟨y, 0, none⟩ = some (.slice (some ⟨g0, 0, none⟩) acc.length c) := blk_cell hyB3 0; have r3f := blk_frozen hyB3))
  go_ret2
  have hn3 : w1.heap.size ≤ g3 := by
    rcases hnb3 with e | ⟨k, e, hk⟩
    · have h5 : g3 = g2 := Option.some.inj e; omega
    · have := Option.some.inj e; have := hgr2.size; omega
  have hk1 : Kept (fun k => k = y) w1 (w3.setCell ⟨y, 0, none⟩ (.slice (some ⟨g3, 0, none⟩) (acc.length + acc1.length) cap3)) := (((Kept.refl (fun k => k = y) w1).grown hgr2 (fun k e => by simp [Value.ownBlock] at e)).grown hgr3 (fun k e => by have h5 : g2 = k := Option.some.inj e; exact Or.inl (by omega))).setCell (p := ⟨y, 0, none⟩) (.inr rfl) _
  have hk : Kept (fun k => k = y) w (w3.setCell ⟨y, 0, none⟩ (.slice (some ⟨g3, 0, none⟩) (acc.length + acc1.length) cap3)) := (((Kept.refl (fun k => k = y) w).setCell (p := ⟨y, 2, none⟩) (.inr rfl) _).trans (Kept.of_below hb1 (fun k => k = y)) (fun _ _ e => e)).trans hk1 (fun _ _ e => e)
  have hA1' : ClsAt (fun k => w.heap.size ≤ k ∧ k < w1.heap.size) w1 _ acc1 := hA1.mono (fun k x => ⟨by have := x.1; simpa [World.setCell] using this, x.2⟩)
  unfold ConsultPost
  rw [hS.out]
  refine ⟨rfl, hk, ⟨_, _, _, _, _, _, _, _, blk_set hyB3 0 _, ⟨acc ++ acc1, cls_join HA.out hA1' hk hk1 hs1 hy hyl (by simpa using hrow3.setCell ⟨y, 0, none⟩ (.slice (some ⟨g3, 0, none⟩) (acc.length + acc1.length) cap3) (fun e => by have h5 : g3 = y := Option.some.inj e; have := blk_lt hB1; omega)) (fun k e => by have h5 : g3 = k := Option.some.inj e; omega) (fun e => by simp at e; rw [e.1] at hpa; simp at hpa), by show cls ++ new = _; rw [List.map_append, Hcls.out, Hnew.out], by simp; omega⟩, fun x hx => ?_⟩, notF hy hyl⟩
  rcases List.mem_append.1 hx with hx | hx
  · exact HC.out.good x hx
  · exact hgood x hx
theorem consult_any (F : Nat → Prop) (w : World) (y : Nat) (cls : List Rf.Cl) (s : ByteArray) (h : RsAt F w y cls) (hm : s.size ≤ maxLen) (hgood : ∀ new, Rf.readS s = .ok new → new.length ≤ 402 ∧ ∀ x ∈ new, GoodC x) :
    Calls Tryz.prog 26 #[.pointer (some ⟨y, 0, none⟩), .string s] w fun r w' => ConsultPost F w y cls s r w' := by
  cases hr : Rf.readS s with
  | error x => exact consult_err F w y cls s h hm x.1 x.2 hr
  | ok new =>
    obtain ⟨h402, hg⟩ := hgood new hr
    by_cases hf : 30 < cls.length + new.length
    · exact consult_full F w y cls s h hm new hr hf h402
    · by_cases ha : cls.length = 0
      · by_cases hn : new.length = 0
        · exact consult_00 F w y cls s h hm new hr hf hg ha hn
        · exact consult_01 F w y cls s h hm new hr hf hg ha (by omega)
      · by_cases hn : new.length = 0
        · exact consult_10 F w y cls s h hm new hr hf hg (by omega) hn
        · exact consult_11 F w y cls s h hm new hr hf hg (by omega) (by omega)
end Go.Proofs.YthdmbbfaphipkaaGreatDoor
/- The law's sessions (promptlaw): how the world of a script lies in memory: a row of sessions, each one of the program's beside one of the document's, with the same clauses, all apart. -/
namespace Go.Proofs.YthdmbbfaphipkaaGreatDoor
open Go.RowKit
theorem ClsAt.weakM {F F' M : Nat → Prop} {w w' : World} {v : Value} {acc : List (ClV × Rf.Cl)} (h : ClsAt F w v acc) (hk : Kept M w w') (hM : ∀ k, k < w.heap.size → F k → ¬ M k) (hF : ∀ k, F k → F' k) : ClsAt F' w' v acc :=
  ⟨h.row.keptBy hk (fun k e => hM k (h.row.lt k e).2 (h.rowF k e)), fun k e => hF k (h.rowF k e), fun q hq => ⟨(h.cls q hq).1.keptBy hk (fun k hl hk1 => ⟨hM k hl hk1.1, hF k hk1.1, hk1.2⟩), (h.cls q hq).2⟩, h.none⟩
theorem rs_kept {F M : Nat → Prop} {w w' : World} {y : Nat} {cls : List Rf.Cl} (h : RsAt F w y cls) (hk : Kept M w w') (hM : ∀ k, k < w.heap.size → (k = y ∨ F k) → ¬ M k) : RsAt F w' y cls := by
  obtain ⟨⟨vC, lim, live, vN, vG, vT, vH, fr, hB, hC⟩, hy⟩ := h
  obtain ⟨acc, h1, h2, h3⟩ := hC.ex
  exact ⟨⟨vC, lim, live, vN, vG, vT, vH, fr, (hk.block y (blk_lt hB) (hM y (blk_lt hB) (.inl rfl))).trans hB, ⟨acc, h1.weakM hk (fun k hl hF => hM k hl (.inr hF)) (fun _ x => x), h2, h3⟩, hC.good⟩, hy⟩
theorem ps_kept {F M : Nat → Prop} {w w' : World} {x : Nat} {cls : List Rf.Cl} (h : PsAt F w x cls) (hk : Kept M w w') (hM : ∀ k, k < w.heap.size → (k = x ∨ F k) → ¬ M k) : PsAt F w' x cls := by
  obtain ⟨⟨lim, vC, vQ, hB, hC⟩, hx⟩ := h
  exact PsAt.keptC hC hk (fun k hl hF => hM k hl (.inr hF)) ((hk.block x (blk_lt hB) (hM x (blk_lt hB) (.inl rfl))).trans hB) (fun _ x => x) hx
/-- Block z holds one of the law's sessions: the program's x, the document's y. -/
def SsB (w : World) (z x y : Nat) (lim : Int) (fr : ByteArray) : Prop :=
  w.heap[z]? = some (.cells #[.pointer (some ⟨x, 0, none⟩), .pointer (some ⟨y, 0, none⟩), .int .i64 lim, .string fr] 44 (0, 0))
/-- All that a session has lies in G, each part apart from the others. -/
structure SsIn (G Fp Fd : Nat → Prop) (z x y : Nat) : Prop where
  gz : G z
  gx : G x
  gy : G y
  gp : ∀ k, Fp k → G k
  gd : ∀ k, Fd k → G k
  xz : x ≠ z
  yz : y ≠ z
  xy : x ≠ y
  pz : ¬ Fp z
  py : ¬ Fp y
  dz : ¬ Fd z
  dx : ¬ Fd x
  pd : ∀ k, Fp k → ¬ Fd k
structure SsAt (G : Nat → Prop) (w : World) (z : Nat) (cls : List Rf.Cl) : Prop where
  ex : ∃ x y lim fr Fp Fd, SsB w z x y lim fr ∧ PsAt Fp w x cls ∧ RsAt Fd w y cls ∧ SsIn G Fp Fd z x y
theorem ss_kept {G M : Nat → Prop} {w w' : World} {z : Nat} {cls : List Rf.Cl} (h : SsAt G w z cls) (hk : Kept M w w') (hM : ∀ k, k < w.heap.size → G k → ¬ M k) : SsAt G w' z cls := by
  obtain ⟨x, y, lim, fr, Fp, Fd, hB, hP, hR, hI⟩ := h.ex
  refine ⟨x, y, lim, fr, Fp, Fd, (hk.block z (blk_lt hB) (hM z (blk_lt hB) hI.gz)).trans hB, ps_kept hP hk (fun k hl e => hM k hl ?_), rs_kept hR hk (fun k hl e => hM k hl ?_), hI⟩
  · rcases e with rfl | e
    · exact hI.gx
    · exact hI.gp k e
  · rcases e with rfl | e
    · exact hI.gy
    · exact hI.gd k e
structure Ss where
  z : Nat
  G : Nat → Prop
  cls : List Rf.Cl
def ptrC (z : Nat) : List Value := [.pointer (some ⟨z, 0, none⟩)]
theorem ptrC_len (z : Nat) : (ptrC z).length = 1 := rfl
theorem ptrC_one (z : Nat) : ∀ u ∈ ptrC z, u.oneCell' = true := by
  intro u hu
  simp only [ptrC, List.mem_cons, List.not_mem_nil, or_false] at hu
  rcases hu with rfl; rfl
theorem Tryz.elemSs : ElemOk Tryz.prog 27 42 1 8 (.pointer none) := ⟨Tryz.underlying27, by kernel_rfl, rfl, by decide, by decide⟩
def WlB (w : World) (b : Nat) (v : Value) : Prop := w.heap[b]? = some (.cells #[v, .slice none 0 0] 30 (0, 0))
/-- The law's world: block b, its row of sessions, all from base on. -/
structure WlAt (base : Nat) (w : World) (b : Nat) (L : List Ss) : Prop where
  ex : ∃ v, WlB w b v ∧ RowIs w 0 42 1 ptrC v (L.map (·.z)) ∧ (∀ k, v.ownBlock = some k → base ≤ k ∧ k ≠ b ∧ ∀ s ∈ L, ¬ s.G k)
  bb : base ≤ b
  ss : ∀ s ∈ L, SsAt s.G w s.z s.cls ∧ (∀ k, s.G k → base ≤ k ∧ k < w.heap.size ∧ k ≠ b)
  apart : ∀ (i j : Nat) (s t : Ss), L[i]? = some s → L[j]? = some t → i ≠ j → ∀ k, s.G k → ¬ t.G k
/-- One session turned, in its own memory and in new one: the world stands. -/
theorem wl_turn {base : Nat} {w w' : World} {b i : Nat} {L : List Ss} {s : Ss} {cls' : List Rf.Cl} (h : WlAt base w b L) (hi : L[i]? = some s) (hk : Kept s.G w w') (hs : SsAt (fun k => s.G k ∨ (w.heap.size ≤ k ∧ k < w'.heap.size)) w' s.z cls') :
    ∃ L', WlAt base w' b L' ∧ L'.length = L.length ∧ Below base w w' := by
  have hmem : s ∈ L := List.mem_of_getElem? hi
  obtain ⟨v, hB, hrow, hv⟩ := h.ex
  obtain ⟨_, hG⟩ := h.ss s hmem
  have hil : i < L.length := (List.getElem?_eq_some_iff.1 hi).1
  have hsz := hk.size
  have hbl := blk_lt hB
  have hbase : base ≤ w.heap.size := by have := h.bb; omega
  have hvl : ∀ k, v.ownBlock = some k → k < w.heap.size := fun k e => (hrow.lt k e).2
  have hset : ∀ t ∈ L.set i ⟨s.z, fun k => s.G k ∨ (w.heap.size ≤ k ∧ k < w'.heap.size), cls'⟩, t = ⟨s.z, fun k => s.G k ∨ (w.heap.size ≤ k ∧ k < w'.heap.size), cls'⟩ ∨ ∃ j, j ≠ i ∧ L[j]? = some t := by
    intro t ht
    obtain ⟨j, hj⟩ := List.getElem?_of_mem ht
    by_cases e : i = j
    · subst e
      rw [List.getElem?_set_self hil] at hj
      exact .inl (Option.some.inj hj).symm
    · rw [List.getElem?_set_ne e] at hj
      exact .inr ⟨j, fun e2 => e e2.symm, hj⟩
  have hz : (L.set i ⟨s.z, fun k => s.G k ∨ (w.heap.size ≤ k ∧ k < w'.heap.size), cls'⟩).map (·.z) = L.map (·.z) := by
    apply List.ext_getElem?
    intro j
    rw [List.getElem?_map, List.getElem?_map]
    by_cases e : i = j
    · subst e
      rw [List.getElem?_set_self hil, hi]; rfl
    · rw [List.getElem?_set_ne e]
  refine ⟨L.set i ⟨s.z, fun k => s.G k ∨ (w.heap.size ≤ k ∧ k < w'.heap.size), cls'⟩, ⟨⟨v, (hk.block b hbl (fun e => (hG b e).2.2 rfl)).trans hB, ?_, fun k e => ⟨(hv k e).1, (hv k e).2.1, fun t ht => ?_⟩⟩, h.bb, fun t ht => ?_, ?_⟩, List.length_set, hk.below hbase (fun k hkb e => by have := (hG k e).1; omega)⟩
  · rw [hz]
    exact hrow.keptBy hk (fun k e => (hv k e).2.2 s hmem)
  · rcases hset t ht with rfl | ⟨j, _, hj⟩
    · intro e2
      rcases e2 with e2 | e2
      · exact (hv k e).2.2 s hmem e2
      · have := hvl k e; omega
    · exact (hv k e).2.2 t (List.mem_of_getElem? hj)
  · rcases hset t ht with rfl | ⟨j, hne, hj⟩
    · refine ⟨hs, fun k e => ?_⟩
      rcases e with e | e
      · have := hG k e
        exact ⟨this.1, by omega, this.2.2⟩
      · exact ⟨by omega, e.2, by omega⟩
    · obtain ⟨h1, h2⟩ := h.ss t (List.mem_of_getElem? hj)
      exact ⟨ss_kept h1 hk (fun k _ e => h.apart j i t s hj hi hne k e), fun k e => ⟨(h2 k e).1, by have := (h2 k e).2.1; omega, (h2 k e).2.2⟩⟩
  · intro j1 j2 s1 s2 h1 h2 hne k
    have hlt : ∀ (j : Nat) (t : Ss), L[j]? = some t → ∀ k, t.G k → k < w.heap.size := fun j t ht k e => ((h.ss t (List.mem_of_getElem? ht)).2 k e).2.1
    by_cases e1 : i = j1
    · subst e1
      rw [List.getElem?_set_self hil] at h1
      obtain rfl := Option.some.inj h1
      rw [List.getElem?_set_ne hne] at h2
      intro e e2
      rcases e with e | e
      · exact h.apart i j2 s s2 hi h2 hne k e e2
      · have := hlt j2 s2 h2 k e2; omega
    · rw [List.getElem?_set_ne e1] at h1
      by_cases e3 : i = j2
      · subst e3
        rw [List.getElem?_set_self hil] at h2
        obtain rfl := Option.some.inj h2
        intro e e2
        rcases e2 with e2 | e2
        · exact h.apart j1 i s1 s h1 hi hne k e e2
        · have := hlt j1 s1 h1 k e; omega
      · rw [List.getElem?_set_ne e3] at h2
        exact h.apart j1 j2 s1 s2 h1 h2 hne k
end Go.Proofs.YthdmbbfaphipkaaGreatDoor
