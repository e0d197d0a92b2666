/- The program's session (prompt: Consult): it adds the clauses that the plain function reads. -/
import Derived.Test.YthdmbbfaphipkaaGreatDoorYan
import Derived.Test.YthdmbbfaphipkaaGreatDoorProg
import Derived.Test.YthdmbbfaphipkaaGreatDoorYaa
import Derived.Test.YthdmbbfaphipkaaGreatDoorYad
import Derived.WalkKit
import Derived.WalkSpells
import Derived.WalkLawsBesides
import Derived.Deep.QuietTactic
import Derived.BigQuiet
import Derived.BigRegion
namespace Go.Proofs.YthdmbbfaphipkaaGreatDoor
open Go.RowKit
theorem pcls_join {F : Nat → Prop} {w w1 w5 : World} {x : Nat} {v v1 v2 : Value} {acc acc1 : List (PClV × Rf.Cl)} (hA : PClsAt F w v acc) (hA1 : PClsAt (fun k => w.heap.size ≤ k ∧ k < w1.heap.size) w1 v1 acc1)
    (hk : Kept (fun k => k = x ∨ v.ownBlock = some k) w w5) (hk1 : Kept (fun k => k = x ∨ v.ownBlock = some k) w1 w5) (hs : w.heap.size ≤ w1.heap.size) (hx : ¬ F x) (hxl : x < w.heap.size) (hr : RowIs w5 0 86 2 pclCells v2 (acc.map (·.1) ++ acc1.map (·.1)))
    (hv2 : ∀ k, v2.ownBlock = some k → v.ownBlock = some k ∨ w1.heap.size ≤ k) (hnil : acc ++ acc1 = [] → v2 = .slice none 0 0) : PClsAt (fun k => F k ∨ (w.heap.size ≤ k ∧ k < w5.heap.size)) w5 v2 (acc ++ acc1) := by
  have hs5 := hk1.size
  have hvl : ∀ k, v.ownBlock = some k → k < w.heap.size := fun k e => (hA.row.lt k e).2
  refine ⟨by rw [List.map_append]; exact hr, fun k e => ?_, fun q hq => ?_, hnil⟩
  · rcases hv2 k e with e2 | e2
    · exact .inl (hA.rowF k e2)
    · exact .inr ⟨by omega, (hr.lt k e).2⟩
  · rcases List.mem_append.1 hq with hq | hq
    · refine (hA.cls q hq).keptBy hk (fun k hk1 hF => ⟨fun e => ?_, .inl hF.1, fun e => ?_⟩)
      · rcases e with e | e
        · exact hx (e ▸ hF.1)
        · exact hF.2 e
      · rcases hv2 k e with e2 | e2
        · exact hF.2 e2
        · omega
    · refine (hA1.cls q hq).keptBy hk1 (fun k hk1 hF => ⟨fun e => ?_, .inr ⟨hF.1.1, by omega⟩, fun e => ?_⟩)
      · rcases e with e | e
        · have := hF.1.1; omega
        · have := hvl k e; have := hF.1.1; omega
      · rcases hv2 k e with e2 | e2
        · have := hvl k e2; have := hF.1.1; omega
        · have := hF.1.2; omega
theorem PClsAt.weak {F F' M : Nat → Prop} {w w' : World} {v : Value} {acc : List (PClV × Rf.Cl)} (h : PClsAt F w v acc) (hk : Kept M w w') (hM : ∀ k, k < w.heap.size → F k → ¬ M k) (hF : ∀ k, F k → F' k) : PClsAt F' w' v acc :=
  ⟨h.row.keptBy hk (fun k e => hM k (h.row.lt k e).2 (h.rowF k e)), fun k e => hF k (h.rowF k e), fun q hq => (h.cls q hq).keptBy hk (fun k hl hk1 => ⟨hM k hl hk1.1, hF k hk1.1, hk1.2⟩), h.none⟩
theorem PsAt.keptC {F F' M : Nat → Prop} {w w' : World} {x : Nat} {vC vQ : Value} {lim : Int} {cls : List Rf.Cl} (hC : PCls30 F w vC cls) (hk : Kept M w w') (hM : ∀ k, k < w.heap.size → F k → ¬ M k) (hB : PsB w' x lim vC vQ) (hF : ∀ k, F k → F' k) (hx' : ¬ F' x) : PsAt F' w' x cls := by
  obtain ⟨acc, h1, h2, h3⟩ := hC.ex
  exact ⟨⟨lim, vC, vQ, hB, ⟨acc, h1.weak hk hM hF, h2, h3⟩, hC.good⟩, hx'⟩
def PConsultPost (F : Nat → Prop) (w : World) (x : Nat) (cls : List Rf.Cl) (s : ByteArray) (r : Ending) (w' : World) : Prop :=
  r = .returned (.tuple #[.int .i64 (consultP cls s).1.1, .int .i64 (consultP cls s).1.2]) ∧ Kept (fun k => k = x ∨ F k) w w' ∧ PsAt (fun k => F k ∨ (w.heap.size ≤ k ∧ k < w'.heap.size)) w' x (consultP cls s).2
/-- The same with its limit and its question told. -/
structure PsL (F : Nat → Prop) (w : World) (x : Nat) (lim : Int) (vQ : Value) (cls : List Rf.Cl) : Prop where
  ex : ∃ vC, PsB w x lim vC vQ ∧ PCls30 F w vC cls
  apart : ¬ F x
theorem PsL.at {F : Nat → Prop} {w : World} {x : Nat} {lim : Int} {vQ : Value} {cls : List Rf.Cl} (h : PsL F w x lim vQ cls) : PsAt F w x cls := by
  obtain ⟨vC, h1, h2⟩ := h.ex
  exact ⟨⟨lim, vC, vQ, h1, h2⟩, h.apart⟩
theorem PsL.keptC {F F' M : Nat → Prop} {w w' : World} {x : Nat} {vC vQ : Value} {lim : Int} {cls : List Rf.Cl} (hC : PCls30 F w vC cls) (hk : Kept M w w') (hM : ∀ k, k < w.heap.size → F k → ¬ M k) (hB : PsB w' x lim vC vQ) (hF : ∀ k, F k → F' k) (hx' : ¬ F' x) : PsL F' w' x lim vQ cls := by
  obtain ⟨acc, h1, h2, h3⟩ := hC.ex
  exact ⟨⟨vC, hB, ⟨acc, h1.weak hk hM hF, h2, h3⟩, hC.good⟩, hx'⟩
/-- A row of clauses. -/
def ClB (w : World) (k : Nat) : Prop := ∃ cs, w.heap[k]? = some (.cells cs 86 (0, 0))
def PConsultL (F : Nat → Prop) (w : World) (x : Nat) (lim : Int) (vQ : Value) (cls : List Rf.Cl) (s : ByteArray) (r : Ending) (w' : World) : Prop :=
  r = .returned (.tuple #[.int .i64 (consultP cls s).1.1, .int .i64 (consultP cls s).1.2]) ∧ Kept (fun k => k = x ∨ (F k ∧ ClB w k)) w w' ∧ PsL (fun k => F k ∨ (w.heap.size ≤ k ∧ k < w'.heap.size)) w' x lim vQ (consultP cls s).2
set_option maxHeartbeats 1000000 in
theorem pconsult_err (F : Nat → Prop) (wa w : World) (x : Nat) (lim : Int) (vQ : Value) (cls : List Rf.Cl) (s : ByteArray) (hwa : Hid (∃ lim vC vQ, PsB wa x lim vC vQ)) (hw : Hid (w = wa.setCell ⟨x, 2, none⟩ (.pointer none))) (h : PsL F w x lim vQ cls) (hm : s.size ≤ maxLen) (e : Int) (q : Nat) (hr : Rf.readS s = .error (e, q)) :
    Calls Tryz.prog 15 #[.pointer (some ⟨x, 0, none⟩), .string s] wa fun r w' => PConsultL F w x lim vQ cls s r w' := by
  obtain ⟨⟨vC, hB, hC⟩, hx⟩ := h
  have hS : Hid (consultP cls s = ((e, q), cls)) := by unfold Hid consultP; rw [hr]
  have HR : Hid _ := hr
  have HC : Hid _ := hC
  have HB : Hid _ := hB
  have hxl := blk_lt hB
  clear hr hC hB
  go_enter Tryz.func15, Tryz.ntmps15
  go_wp2_with (first
    | (go_at_call 18; refine (pstop_any x _ hwa.out).mono ?_; rintro r w0 ⟨rfl, hw0⟩; rw [← hw.out] at hw0; subst w0)
    | (go_at_call 30; refine (pclauses_any s _ hm).mono ?_; rintro r w1 ⟨hb1, hP⟩; rw [HR.out] at hP; obtain ⟨rfl, hne⟩ := hP; have he : (e != 0) = true := (by rw [bne_iff_ne]; exact hne)))
  go_ret2
  unfold PConsultL
  rw [hS.out]
  exact ⟨rfl, Kept.of_below hb1 _, PsL.keptC HC.out (Kept.of_below hb1 (fun _ => False)) (fun _ _ _ e => e) ((hb1.block x hxl).trans HB.out) (fun k x => .inl x) (notF hx hxl)⟩
set_option maxHeartbeats 1000000 in
theorem pconsult_full (F : Nat → Prop) (wa w : World) (x : Nat) (lim : Int) (vQ : Value) (cls : List Rf.Cl) (s : ByteArray) (hwa : Hid (∃ lim vC vQ, PsB wa x lim vC vQ)) (hw : Hid (w = wa.setCell ⟨x, 2, none⟩ (.pointer none))) (h : PsL F w x lim vQ cls) (hm : s.size ≤ maxLen) (new : List Rf.Cl) (hr : Rf.readS s = .ok new) (hf : 30 < cls.length + new.length) (hnl : new.length ≤ 402) :
    Calls Tryz.prog 15 #[.pointer (some ⟨x, 0, none⟩), .string s] wa fun r w' => PConsultL F w x lim vQ cls s r w' := by
  obtain ⟨⟨vC, hB, hC⟩, hx⟩ := h
  obtain ⟨acc, hA, hcls, h30⟩ := hC.ex
  have hlen : cls.length = acc.length := by rw [hcls, List.length_map]
  obtain ⟨a, c, hv⟩ := row_slice hA.row
  rw [List.length_map] at hv
  subst hv
  have Hlen : Hid _ := hlen
  have HR : Hid _ := hr
  have HC : Hid _ := hC
  have HB : Hid _ := hB
  have hxl := blk_lt hB
  have hS : Hid (consultP cls s = ((6, 0), cls)) := by unfold Hid consultP; rw [hr]; simp only []; rw [if_pos hf]
  clear hr hC hB hA hcls hlen
  go_enter Tryz.func15, Tryz.ntmps15
  go_wp2_with (first
    | (go_at_call 18; refine (pstop_any x _ hwa.out).mono ?_; rintro r w0 ⟨rfl, hw0⟩; rw [← hw.out] at hw0; subst w0)
    | (go_at_call 30; refine (pclauses_any s _ hm).mono ?_; rintro r w1 ⟨hb1, hP⟩; rw [HR.out] at hP; obtain ⟨v1, acc1, rfl, hA1, hnew⟩ := hP; obtain ⟨a1, c1, hv1⟩ := row_slice hA1.row; rw [List.length_map] at hv1; subst hv1; have hB1 : PsB w1 x _ _ _ := (hb1.block x hxl).trans HB.out; have q1 : w1.cell? ⟨x, 1, none⟩ = some (.slice a acc.length c) := blk_cell hB1 1; have hl1 : new.length = acc1.length := (by rw [hnew, List.length_map]); have hbig : (30 : Int) < (acc.length : Int) + acc1.length := (by have := Hlen.out; omega); have hsm : acc1.length ≤ 402 := (by omega); clear hnew hl1 hA1))
  go_ret2
  unfold PConsultL
  rw [hS.out]
  exact ⟨rfl, Kept.of_below hb1 _, PsL.keptC HC.out (Kept.of_below hb1 (fun _ => False)) (fun _ _ _ e => e) hB1 (fun k x => .inl x) (notF hx hxl)⟩
set_option maxHeartbeats 1000000 in
theorem pconsult_0 (F : Nat → Prop) (wa w : World) (x : Nat) (lim : Int) (vQ : Value) (cls : List Rf.Cl) (s : ByteArray) (hwa : Hid (∃ lim vC vQ, PsB wa x lim vC vQ)) (hw : Hid (w = wa.setCell ⟨x, 2, none⟩ (.pointer none))) (h : PsL F w x lim vQ cls) (hm : s.size ≤ maxLen) (new : List Rf.Cl) (hr : Rf.readS s = .ok new) (hf : ¬ 30 < cls.length + new.length) (hn0 : new.length = 0) :
    Calls Tryz.prog 15 #[.pointer (some ⟨x, 0, none⟩), .string s] wa fun r w' => PConsultL F w x lim vQ cls s r w' := by
  obtain ⟨⟨vC, hB, hC⟩, hx⟩ := h
  obtain ⟨acc, hA, hcls, h30⟩ := hC.ex
  have hlen : cls.length = acc.length := by rw [hcls, List.length_map]
  obtain ⟨a, c, hv⟩ := row_slice hA.row
  rw [List.length_map] at hv
  subst hv
  have hnn : new = [] := List.eq_nil_of_length_eq_zero hn0
  subst hnn
  have Hlen : Hid _ := hlen
  have HR : Hid _ := hr
  have HC : Hid _ := hC
  have HA : Hid _ := hA
  have HB : Hid _ := hB
  have hxl := blk_lt hB
  have hS : Hid (consultP cls s = ((0, 0), cls)) := by unfold Hid consultP; rw [hr]; simp only []; rw [if_neg hf, List.append_nil]
  have hsa : (acc.length : Int) ≤ 30 := by omega
  clear hr hC hB hA hcls hlen hn0 hf
  go_enter Tryz.func15, Tryz.ntmps15
  go_wp2_with (first
    | (go_at_call 18; refine (pstop_any x _ hwa.out).mono ?_; rintro r w0 ⟨rfl, hw0⟩; rw [← hw.out] at hw0; subst w0)
    | (go_at_call 30; refine (pclauses_any s _ hm).mono ?_; rintro r w1 ⟨hb1, hP⟩; rw [HR.out] at hP; obtain ⟨v1, acc1, rfl, hA1, hnew⟩ := hP; have hz1 : acc1 = [] := (by cases acc1 with | nil => rfl | cons y ys => simp at hnew); subst hz1; have hz2 := hA1.none rfl; subst hz2; have hB1 : PsB w1 x _ _ _ := (hb1.block x hxl).trans HB.out; have q1 : w1.cell? ⟨x, 1, none⟩ = some (.slice a acc.length c) := blk_cell hB1 1; have qf := blk_frozen hB1; have hA01 := HA.out.row.below hb1; clear hnew hA1)
    | (at_builtin; refine wpList_app_none Tryz.elemPCl pclCells _ rfl (.tmp 36) (.tmp 37) rfl 0 (.slice a acc.length c) (acc.map (·.1)) rfl hA01 rfl ?_))
  go_ret2
  have hk1 : Kept (fun k => k = x) w1 (w1.setCell ⟨x, 1, none⟩ (.slice a acc.length c)) := (Kept.refl (fun k => k = x) w1).setCell (p := ⟨x, 1, none⟩) (.inr rfl) _
  have hk : Kept (fun k => k = x) w (w1.setCell ⟨x, 1, none⟩ (.slice a acc.length c)) := (Kept.of_below hb1 (fun k => k = x)).trans hk1 (fun _ _ e => e)
  unfold PConsultL
  rw [hS.out]
  exact ⟨rfl, hk.mono (fun _ _ e => .inl e), PsL.keptC HC.out hk (fun k _ hF e => hx (e ▸ hF)) (blk_set hB1 1 _) (fun k x => .inl x) (notF hx hxl)⟩
set_option maxHeartbeats 1000000 in
theorem pconsult_1 (F : Nat → Prop) (wa w : World) (x : Nat) (lim : Int) (vQ : Value) (cls : List Rf.Cl) (s : ByteArray) (hwa : Hid (∃ lim vC vQ, PsB wa x lim vC vQ)) (hw : Hid (w = wa.setCell ⟨x, 2, none⟩ (.pointer none))) (h : PsL F w x lim vQ cls) (hm : s.size ≤ maxLen) (new : List Rf.Cl) (hr : Rf.readS s = .ok new) (hf : ¬ 30 < cls.length + new.length) (hgood : ∀ x ∈ new, GoodC x ∧ Rf.ArgCl x) (hn0 : 1 ≤ new.length) :
    Calls Tryz.prog 15 #[.pointer (some ⟨x, 0, none⟩), .string s] wa fun r w' => PConsultL F w x lim vQ cls s r w' := by
  obtain ⟨⟨vC, hB, hC⟩, hx⟩ := h
  obtain ⟨acc, hA, hcls, h30⟩ := hC.ex
  have hlen : cls.length = acc.length := by rw [hcls, List.length_map]
  obtain ⟨a, c, hv⟩ := row_slice hA.row
  rw [List.length_map] at hv
  subst hv
  have Hlen : Hid _ := hlen
  have Hcls : Hid _ := hcls
  have HR : Hid _ := hr
  have HC : Hid _ := hC
  have HA : Hid _ := hA
  have HB : Hid _ := hB
  have Hgood : Hid _ := hgood
  have Hn0 : Hid _ := hn0
  have hxl := blk_lt hB
  have hS : Hid (consultP cls s = ((0, 0), cls ++ new)) := by unfold Hid consultP; rw [hr]; simp only []; rw [if_neg hf]
  have hxo : Hid (∀ k, (Value.slice a acc.length c).ownBlock = some k → k ≠ x ∧ k < w.heap.size) := fun k e => ⟨fun e2 => hx (e2 ▸ hA.rowF k e), (hA.row.lt k e).2⟩
  have hsum : cls.length + new.length ≤ 30 := by omega
  clear hr hC hB hA hcls hlen hn0 hf hgood
  go_enter Tryz.func15, Tryz.ntmps15
  go_wp2_with (first
    | (go_at_call 18; refine (pstop_any x _ hwa.out).mono ?_; rintro r w0 ⟨rfl, hw0⟩; rw [← hw.out] at hw0; subst w0)
    | (go_at_call 30; refine (pclauses_any s _ hm).mono ?_; rintro r w1 ⟨hb1, hP⟩; rw [HR.out] at hP; obtain ⟨v1, acc1, rfl, hA1, hnew⟩ := hP; obtain ⟨a1, c1, hv1⟩ := row_slice hA1.row; rw [List.length_map] at hv1; subst hv1; have hB1 : PsB w1 x _ _ _ := (hb1.block x hxl).trans HB.out; have q1 : w1.cell? ⟨x, 1, none⟩ = some (.slice a acc.length c) := blk_cell hB1 1; have Hnew : Hid _ := hnew; have hl1 : new.length = acc1.length := (by rw [hnew, List.length_map]); have hsm : acc.length + acc1.length ≤ 30 := (by have := Hlen.out; omega); have hsm' : (acc.length : Int) + acc1.length ≤ 30 := (by omega); have hp1 : 1 ≤ acc1.length := (by have := Hn0.out; omega); obtain ⟨g1, rfl⟩ : ∃ g1, a1 = some ⟨g1, 0, none⟩ := (by rcases hA1.row.shape with ⟨_, hnil⟩ | ⟨gv, cv, e, _⟩; have h7 := congrArg List.length hnil; rw [List.length_map, List.length_nil] at h7; omega; injection e with e1 _ _; exact ⟨gv, e1⟩); have hA01 := HA.out.row.below hb1; have hA11 := hA1.row; clear hnew hl1)
    | (at_builtin; refine wpList_apps Tryz.elemPCl pclCells pclCells_len pclCells_one _ rfl (.tmp 36) (.tmp 37) rfl 0 (.slice a acc.length c) (acc.map (·.1)) rfl hA01 ⟨g1, 0, none⟩ _ (acc1.map (·.1)) (by simpa using hp1) (by rw [List.length_map]; rfl) (hA11.own.cells rfl) (by simp; omega) (Nat.zero_le _) ?_; intro g2 cap2 w2 hrow2 hgr2 hnb2; have hyB2 : PsB w2 x _ _ _ := (hgr2.block x (blk_lt hB1) (fun e => (hxo.out x e.symm).1 rfl)).trans hB1; have r21 : w2.cell? ⟨x, 1, none⟩ = some (.slice a acc.length c) := blk_cell hyB2 1; have r2f := blk_frozen hyB2))
  go_ret2
  have hk1 : Kept (fun k => k = x ∨ (Value.slice a acc.length c).ownBlock = some k) w1 (w2.setCell ⟨x, 1, none⟩ (.slice (some ⟨g2, 0, none⟩) (acc.length + acc1.length) cap2)) := ((Kept.refl _ w1).grown hgr2 (fun k e => .inr (.inr e))).setCell (p := ⟨x, 1, none⟩) (.inr (.inl rfl)) _
  have hk : Kept (fun k => k = x ∨ (Value.slice a acc.length c).ownBlock = some k) w (w2.setCell ⟨x, 1, none⟩ (.slice (some ⟨g2, 0, none⟩) (acc.length + acc1.length) cap2)) := (Kept.of_below hb1 _).trans hk1 (fun _ _ e => e)
  have hg2x : g2 ≠ x := by
    rcases hnb2 with e | ⟨k, e, hk9⟩
    · exact (hxo.out g2 e.symm).1
    · have := Option.some.inj e; have := blk_lt hB1; omega
  unfold PConsultL
  rw [hS.out]
  refine ⟨rfl, hk.mono (fun k _ e => e.imp id (fun e => ⟨HA.out.rowF k e, HA.out.row.typed k e⟩)), ⟨_, blk_set hyB2 1 _, ⟨acc ++ acc1, pcls_join HA.out hA1 hk hk1 hb1.size hx hxl ?_ (fun k e => ?_) (fun e => ?_), ?_, ?_⟩, fun y hy => ?_⟩, notF hx hxl⟩
  · have h9 := hrow2.setCell ⟨x, 1, none⟩ (.slice (some ⟨g2, 0, none⟩) (acc.length + acc1.length) cap2) (fun e => hg2x (Option.some.inj e))
    simpa using h9
  · rcases hnb2 with e3 | ⟨k3, e3, hk3⟩
    · exact .inl (by rw [← e3]; exact e)
    · right
      have h5 : g2 = k := Option.some.inj e
      have := Option.some.inj e3; omega
  · simp at e; rw [e.2] at hp1; simp at hp1
  · show cls ++ new = _; rw [List.map_append, Hcls.out, Hnew.out]
  · simp; omega
  · rcases List.mem_append.1 hy with hy | hy
    · exact HC.out.good y hy
    · exact Hgood.out y hy
theorem pconsult_L (F : Nat → Prop) (w : World) (x : Nat) (lim : Int) (vQ : Value) (cls : List Rf.Cl) (s : ByteArray) (h : PsL F w x lim vQ cls) (hm : s.size ≤ maxLen) (hgood : ∀ new, Rf.readS s = .ok new → new.length ≤ 402 ∧ ∀ x ∈ new, GoodC x ∧ Rf.ArgCl x) :
    Calls Tryz.prog 15 #[.pointer (some ⟨x, 0, none⟩), .string s] w fun r w' => PConsultL F w x lim (.pointer none) cls s r w' := by
  obtain ⟨⟨vC, hB, hC⟩, hx⟩ := h
  have hk0 : Kept (fun k => k = x) w (w.setCell ⟨x, 2, none⟩ (.pointer none)) := Kept.setCell (p := ⟨x, 2, none⟩) (Kept.refl (fun k => k = x) w) (Or.inr rfl) _
  have h0 : PsL F (w.setCell ⟨x, 2, none⟩ (.pointer none)) x lim (.pointer none) cls := PsL.keptC hC hk0 (fun k _ hF e => hx (e ▸ hF)) (blk_set hB 2 _) (fun _ e => e) hx
  have hs0 : (w.setCell ⟨x, 2, none⟩ (.pointer none)).heap.size = w.heap.size := by simp [World.setCell]
  have hwa : Hid (∃ lim vC vQ, PsB w x lim vC vQ) := ⟨lim, vC, vQ, hB⟩
  have key : ∀ (r : Ending) (w' : World), PConsultL F (w.setCell ⟨x, 2, none⟩ (.pointer none)) x lim (.pointer none) cls s r w' → PConsultL F w x lim (.pointer none) cls s r w' := by
    intro r w' ⟨e1, e2, e3⟩
    rw [hs0] at e3
    refine ⟨e1, (hk0.mono (fun _ _ e => .inl e)).trans (e2.mono (fun k hk e => ?_)) (fun _ _ e => e), e3⟩
    rcases e with e | ⟨hF, cs, hc⟩
    · exact .inl e
    · have hkx : k ≠ x := fun e => hx (e ▸ hF)
      rw [hs0] at hk
      exact .inr ⟨hF, cs, (hk0.block k hk hkx).symm.trans hc⟩
  cases hr : Rf.readS s with
  | error y => exact (pconsult_err F w _ x lim _ cls s hwa rfl h0 hm y.1 y.2 hr).mono key
  | ok new =>
    obtain ⟨h402, hg⟩ := hgood new hr
    by_cases hf : 30 < cls.length + new.length
    · exact (pconsult_full F w _ x lim _ cls s hwa rfl h0 hm new hr hf h402).mono key
    · by_cases hn : new.length = 0
      · exact (pconsult_0 F w _ x lim _ cls s hwa rfl h0 hm new hr hf hn).mono key
      · exact (pconsult_1 F w _ x lim _ cls s hwa rfl h0 hm new hr hf hg (by omega)).mono key
theorem pconsult_any (F : Nat → Prop) (w : World) (x : Nat) (cls : List Rf.Cl) (s : ByteArray) (h : PsAt F w x cls) (hm : s.size ≤ maxLen) (hgood : ∀ new, Rf.readS s = .ok new → new.length ≤ 402 ∧ ∀ x ∈ new, GoodC x ∧ Rf.ArgCl x) :
    Calls Tryz.prog 15 #[.pointer (some ⟨x, 0, none⟩), .string s] w fun r w' => PConsultPost F w x cls s r w' := by
  obtain ⟨⟨lim, vC, vQ, hB, hC⟩, hx⟩ := h
  refine (pconsult_L F w x lim vQ cls s ⟨⟨vC, hB, hC⟩, hx⟩ hm hgood).mono ?_
  rintro r w' ⟨e1, e2, e3⟩
  exact ⟨e1, e2.mono (fun _ _ e => e.imp id And.left), e3.at⟩
theorem good_read (s : ByteArray) : ∀ new, Rf.readS s = .ok new → new.length ≤ 402 ∧ ∀ x ∈ new, GoodC x ∧ Rf.ArgCl x := by
  intro new h
  obtain ⟨h1, h2⟩ := Rf.readS_good h
  refine ⟨h1, fun x hx => ⟨?_, Rf.readS_arg h x hx⟩⟩
  have h3 := h2 x hx
  exact ⟨h3.1, by have := h3.2.1; omega, fun q hq => ⟨(h3.2.2 q hq).1, by have := (h3.2.2 q hq).2; omega⟩⟩
end Go.Proofs.YthdmbbfaphipkaaGreatDoor
/- What the document's scanner (promptref: digit, letter, run, token) does at every text: it gives the plain function's token and leaves all memory that was there. -/
namespace Go.Proofs.YthdmbbfaphipkaaGreatDoor
open Go.RowKit
set_option maxHeartbeats 400000 in
theorem digit_any (c : Int) (w : World) :
    Calls Tryz.prog 133 #[.int .u8 c] w fun e w' => e = .returned (.bool (Rf.digitB c)) ∧ w' = w := by
  go_enter Tryz.func133, Tryz.ntmps133
  go_wp2
  all_goals go_ret
  all_goals refine ⟨ret_bool ?_, rfl⟩
  all_goals (unfold Rf.digitB; rw [Bool.eq_iff_iff]; simp; try omega)
set_option maxHeartbeats 400000 in
theorem letter_any (c : Int) (w : World) :
    Calls Tryz.prog 134 #[.int .u8 c] w fun e w' => e = .returned (.bool (Rf.letterB c)) ∧ w' = w := by
  go_enter Tryz.func134, Tryz.ntmps134
  go_wp2
  all_goals go_ret
  all_goals refine ⟨ret_bool ?_, rfl⟩
  all_goals (unfold Rf.letterB; rw [Bool.eq_iff_iff]; simp; try omega)
set_option maxHeartbeats 400000 in
theorem run_any (s : ByteArray) (n : Nat) (dg : Bool) (w : World) (hs : s.size ≤ maxLen) (hn : n ≤ s.size) :
    Calls Tryz.prog 135 #[.string s, .int .i64 n, .bool dg] w fun e w' => e = .returned (.string (Rf.runS s dg n)) ∧ w' = w := by
  unfold maxLen at hs
  have hle := Rf.runLen_le s dg n
  go_enter Tryz.func135, Tryz.ntmps135
  go_wp2
  go_loop [7, 8, 9] (fun i _ _ => ∃ k : Nat, n ≤ k ∧ k ≤ s.size ∧ i = .int .i64 k ∧ k + Rf.runLen s dg k = n + Rf.runLen s dg n) (fun i _ _ => s.size - (intOf i).toNat)
  case atStart => exact ⟨n, by omega, by omega, rfl, rfl⟩
  case round =>
    obtain ⟨k, hk1, hk2, rfl, hk⟩ := hrel
    have Hk : Hid (k + Rf.runLen s dg k = n + Rf.runLen s dg n) := hk
    clear hk
    by_cases hlt : k < s.size
    · have hb := Rf.byteAt_eq s k hlt
      have hy : Rf.okB dg (s[k].toNat : Int) = true → k + 1 + Rf.runLen s dg (k + 1) = n + Rf.runLen s dg n := by
        intro h; rw [hb] at h; have := Rf.runLen_yes s dg k hlt h; have := Hk.out; omega
      have hno : Rf.okB dg (s[k].toNat : Int) = false → k = n + Rf.runLen s dg n := by
        intro h; rw [hb] at h; have := Rf.runLen_no s dg k hlt h; have := Hk.out; omega
      clear hb
      have Hy : Hid _ := hy
      have Hno : Hid _ := hno
      clear hy hno
      cases hl : Rf.letterB (s[k].toNat : Int) <;> cases hd : Rf.digitB (s[k].toNat : Int) <;> cases dg
      all_goals
        go_wp2_with (first | (go_at_call 134; refine (letter_any _ _).mono ?_; rintro e w' ⟨rfl, rfl⟩) | (go_at_call 133; refine (digit_any _ _).mono ?_; rintro e w' ⟨rfl, rfl⟩))
        first
        | (go_round
           case rel => exact ⟨k + 1, by omega, by omega, by go_num, Hy.out (by simp [Rf.okB, hl, hd])⟩
           case measure => simp [intOf]; omega)
        | (go_ret
           exact ⟨ret_str (by unfold Rf.runS; rw [← Hno.out (by simp [Rf.okB, hl, hd])]), rfl⟩)
    · have hend : k = n + Rf.runLen s dg n := by have := Rf.runLen_end s dg k (by omega); have := Hk.out; omega
      have He : Hid _ := hend
      clear hend
      go_wp2
      go_ret
      exact ⟨ret_str (by unfold Rf.runS; rw [← He.out]), rfl⟩
end Go.Proofs.YthdmbbfaphipkaaGreatDoor
