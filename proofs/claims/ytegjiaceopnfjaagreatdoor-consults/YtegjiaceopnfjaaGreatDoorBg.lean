/- The program's session (prompt: New, Stop, Listing, Consult): how it lies in memory, and the plain functions' answers. -/
import Derived.Test.YtegjiaceopnfjaaGreatDoorBf
import Derived.Test.YtegjiaceopnfjaaGreatDoorAj
namespace Go.Proofs.YtegjiaceopnfjaaGreatDoor
open Go.RowKit
/-- Block x holds a session of the program's: its limit and its clauses' row vC. -/
def PsB (w : World) (x : Nat) (lim : Int) (vC : Value) : Prop :=
  w.heap[x]? = some (.cells #[.int .i64 lim, vC] 51 (0, 0))
/-- A row of at most 30 good clauses. -/
structure PCls30 (F : Nat → Prop) (w : World) (v : Value) (cls : List Rf.Cl) : Prop where
  ex : ∃ acc, PClsAt F w v acc ∧ cls = acc.map (·.2) ∧ acc.length ≤ 30
  good : ∀ c ∈ cls, GoodC c ∧ Rf.ArgCl c
/-- A session of the program's: block x, not among F, where its clauses lie. -/
structure PsAt (F : Nat → Prop) (w : World) (x : Nat) (cls : List Rf.Cl) : Prop where
  ex : ∃ lim vC, PsB w x lim vC ∧ PCls30 F w vC cls
  apart : ¬ F x
theorem lineQ_size (c : Rf.Cl) : (lineQ c).size + 1 = (Rf.lineP c).size := by
  rw [← lineQ_P, ByteArray.size_append]; rfl
set_option maxHeartbeats 400000 in
theorem pnew_bad (lim : Int) (w : World) (h : lim < 1 ∨ 1000 < lim) :
    Calls Tryz.prog 7 #[.int .i64 lim] w fun r w' => r = .returned (.tuple #[.pointer none, .int .i64 7]) ∧ w' = w := by
  rcases h with h | h
  · go_enter Tryz.func7, Tryz.ntmps7
    go_wp2
    go_ret2
    exact ⟨rfl, rfl⟩
  · have h1 : 1 ≤ lim := by omega
    go_enter Tryz.func7, Tryz.ntmps7
    go_wp2
    go_ret2
    exact ⟨rfl, rfl⟩
set_option maxHeartbeats 400000 in
theorem pnew_ok (lim : Int) (w : World) (h : 1 ≤ lim) (h' : lim ≤ 1000) :
    Calls Tryz.prog 7 #[.int .i64 lim] w fun r w' => r = .returned (.tuple #[.pointer (some ⟨w.heap.size, 0, none⟩), .int .i64 0]) ∧ Below w.heap.size w w' ∧ w'.heap.size = w.heap.size + 1 ∧
      PsB w' w.heap.size lim (.slice none 0 0) := by
  go_enter Tryz.func7, Tryz.ntmps7
  go_wp2
  go_ret2
  exact ⟨rfl, (Below.refl _ _).alloc (Nat.le_refl _) _, by simp, blk_new _ _⟩
set_option maxHeartbeats 400000 in
theorem pstop_any (v : Value) (w : World) : Calls Tryz.prog 18 #[v] w fun r w' => r = .returned (.tuple #[]) ∧ w' = w := by
  go_enter Tryz.func18, Tryz.ntmps18
  go_wp2
  go_end0
  exact ⟨rfl, rfl⟩
set_option maxHeartbeats 400000 in
theorem plisting_nil (w : World) : Calls Tryz.prog 19 #[.pointer none] w fun r w' => r = .returned (.string ⟨#[]⟩) ∧ w' = w := by
  go_enter Tryz.func19, Tryz.ntmps19
  go_wp2
  go_ret
  exact ⟨rfl, rfl⟩
set_option maxHeartbeats 400000 in
theorem pconsult_nil (s : ByteArray) (w : World) : Calls Tryz.prog 15 #[.pointer none, .string s] w fun r w' => r = .returned (.tuple #[.int .i64 7, .int .i64 0]) ∧ w' = w := by
  go_enter Tryz.func15, Tryz.ntmps15
  go_wp2
  go_ret2
  exact ⟨rfl, rfl⟩
set_option maxHeartbeats 1000000 in
set_option maxRecDepth 100000 in
theorem plisting_any (F : Nat → Prop) (w : World) (x : Nat) (lim : Int) (vC : Value) (cls : List Rf.Cl) (hB : PsB w x lim vC) (hC : PCls30 F w vC cls) (hT : Tab w) :
    Calls Tryz.prog 19 #[.pointer (some ⟨x, 0, none⟩)] w fun r w' => r = .returned (.string (listingP cls)) ∧ Below w.heap.size w w' := by
  obtain ⟨acc, hA, hcls, h30⟩ := hC.ex
  have hgood := hC.good
  have hlen : cls.length = acc.length := by rw [hcls, List.length_map]
  obtain ⟨a, c, hv⟩ := row_slice hA.row
  rw [List.length_map] at hv
  subst hv
  have h8 : ∀ q ∈ acc, q.2.body.length ≤ 8 := fun q hq => by
    obtain ⟨_, ac, _, _, _, hb, h8⟩ := hA.cls q hq
    rw [hb, List.length_map]; exact h8
  have hls : ∀ x ∈ cls, (Rf.lineP x).size ≤ 21000000 := fun x hx => line_size x (hgood x hx).1 (by
    rw [hcls] at hx
    obtain ⟨q, hq, rfl⟩ := List.mem_map.1 hx
    exact h8 q hq)
  have Hls : Hid _ := hls
  have HA : Hid _ := hA
  have HT : Hid _ := hT
  have Hg : Hid _ := hgood
  have HB : Hid _ := hB
  have Hcls : Hid _ := hcls
  have Hlen : Hid _ := hlen
  have k1 : w.cell? ⟨x, 1, none⟩ = some (.slice a acc.length c) := blk_cell hB 1
  clear hls hA hT hgood hB hC hcls h8 hlen
  go_enter Tryz.func19, Tryz.ntmps19
  go_wp2_with fail
  go_loopw [3, 5, 13] (fun sv _ iv wr => ∃ k : Nat, k ≤ acc.length ∧ iv = .int .i64 k ∧ sv = .string (accS cls k) ∧ Below w.heap.size w wr) (fun _ _ iv _ => acc.length - (intOf iv).toNat)
  case atStart => exact ⟨0, by omega, rfl, rfl, Below.refl _ _⟩
  case round =>
    obtain ⟨k, hk, rfl, rfl, hbr⟩ := hrel
    clear k1
    have hszr := hbr.size
    have hs1 := accS_size cls Hls.out k
    have hs2 : (accS cls k).size ≤ 30 * 21000000 := Nat.le_trans hs1 (Nat.mul_le_mul_right _ (by omega))
    clear hs1
    by_cases hlt : k < acc.length
    · obtain ⟨gv, rfl⟩ : ∃ gv, a = some ⟨gv, 0, none⟩ := by
        rcases HA.out.row.shape with ⟨_, hnil⟩ | ⟨gv, cv, e, _⟩
        · have h7 := congrArg List.length hnil
          rw [List.length_map, List.length_nil] at h7
          omega
        · injection e with e1 _ _; exact ⟨gv, e1⟩
      have hmem : acc[k] ∈ acc := List.getElem_mem hlt
      have hc := (HA.out.row.below hbr).cells pclCells_len k acc[k].1 (by simp [hlt])
      have c0 := hc 0 _ rfl
      have c1 := hc 1 _ rfl
      simp only [Nat.add_zero] at c0
      have hgo := (HA.out.cls _ hmem).keptBy (F' := F) (Kept.of_below hbr (fun _ => False)) (fun _ _ hF => ⟨fun e => e, hF.1⟩)
      have hcm : acc[k].2 ∈ cls := by rw [Hcls.out]; exact List.mem_map_of_mem hmem
      have hgd := Hg.out _ hcm
      have hsl := Hls.out _ hcm
      have hacc : Hid (accS cls (k + 1) = accS cls k ++ (lineQ acc[k].2 ++ ⟨#[10]⟩)) := by
        unfold Hid
        have : cls[k]? = some acc[k].2 := by rw [Hcls.out]; simp [hlt]
        rw [accS, this, lineQ_P]
      have hsq : (lineQ acc[k].2).size ≤ 21000000 := by have := lineQ_size acc[k].2; omega
      clear hmem hcm hc hsl
      have Hgo : Hid _ := hgo
      have Hgd : Hid _ := hgd
      clear hgo hgd
      generalize acc[k] = q at *
      obtain ⟨⟨⟨ah, nh, ch⟩, ⟨ab, nb, cb⟩⟩, qcl⟩ := q
      simp only at c0 c1 Hgo hsq hacc Hgd
      have d0 : wr.cell? ⟨gv, k * 2, none⟩ = some (.slice ah nh ch) := c0
      have d1 : wr.cell? ⟨gv, k * 2 + 1, none⟩ = some (.slice ab nb cb) := c1
      clear c0 c1
      have hz : (lineQ qcl ++ ⟨#[10]⟩).size ≤ 21000001 := by rw [ByteArray.size_append]; have : (⟨#[10]⟩ : ByteArray).size = 1 := rfl; omega
      go_wp2_with (go_at_call 31; refine (ctext_any F _ ⟨ah, nh, ch⟩ ⟨ab, nb, cb⟩ qcl (PClAt.keptBy (F' := F) Hgo.out (by repeat' (first | exact Kept.refl _ _ | refine Kept.setCell ?_ ?_ _ | refine Kept.drew ?_ | refine Kept.drewN ?_ _ | refine Kept.alloc ?_ _ | exact Or.inr rfl | exact Or.inr (Or.inl rfl) | (refine Or.inl ?_; simp; done) | (refine Or.inl ?_; simp; omega))) (fun _ _ hF => ⟨fun e => e, hF⟩)) Hgd.out.1 Hgd.out.2 (Tab.below HT.out (hbr.alloc hszr _))).mono ?_; rintro r w3 ⟨rfl, hb3⟩)
      go_roundw
      case rel => exact ⟨k + 1, by omega, by go_num, by rw [hacc.out], (hbr.alloc hszr _).trans (hb3.mono (by simp; omega))⟩
      case measure => simp [intOf]; omega
    · obtain rfl : k = acc.length := by omega
      go_wp2_with fail
      go_ret
      exact ⟨ret_str (by unfold listingP; rw [Hlen.out]), hbr⟩
end Go.Proofs.YtegjiaceopnfjaaGreatDoor
/- The program's session (prompt: Consult): it adds the clauses that the plain function reads. -/
namespace Go.Proofs.YtegjiaceopnfjaaGreatDoor
open Go.RowKit
theorem pcls_join {F : Nat → Prop} {w w1 w5 : World} {x : Nat} {v v1 v2 : Value} {acc acc1 : List (PClV × Rf.Cl)} (hA : PClsAt F w v acc) (hA1 : PClsAt (fun k => w.heap.size ≤ k ∧ k < w1.heap.size) w1 v1 acc1)
    (hk : Kept (fun k => k = x ∨ v.ownBlock = some k) w w5) (hk1 : Kept (fun k => k = x ∨ v.ownBlock = some k) w1 w5) (hs : w.heap.size ≤ w1.heap.size) (hx : ¬ F x) (hxl : x < w.heap.size) (hr : RowIs w5 0 81 2 pclCells v2 (acc.map (·.1) ++ acc1.map (·.1)))
    (hv2 : ∀ k, v2.ownBlock = some k → v.ownBlock = some k ∨ w1.heap.size ≤ k) (hnil : acc ++ acc1 = [] → v2 = .slice none 0 0) : PClsAt (fun k => F k ∨ (w.heap.size ≤ k ∧ k < w5.heap.size)) w5 v2 (acc ++ acc1) := by
  have hs5 := hk1.size
  have hvl : ∀ k, v.ownBlock = some k → k < w.heap.size := fun k e => (hA.row.lt k e).2
  refine ⟨by rw [List.map_append]; exact hr, fun k e => ?_, fun q hq => ?_, hnil⟩
  · rcases hv2 k e with e2 | e2
    · exact .inl (hA.rowF k e2)
    · exact .inr ⟨by omega, (hr.lt k e).2⟩
  · rcases List.mem_append.1 hq with hq | hq
    · refine (hA.cls q hq).keptBy hk (fun k hk1 hF => ⟨fun e => ?_, .inl hF.1, fun e => ?_⟩)
      · rcases e with e | e
        · exact hx (e ▸ hF.1)
        · exact hF.2 e
      · rcases hv2 k e with e2 | e2
        · exact hF.2 e2
        · omega
    · refine (hA1.cls q hq).keptBy hk1 (fun k hk1 hF => ⟨fun e => ?_, .inr ⟨hF.1.1, by omega⟩, fun e => ?_⟩)
      · rcases e with e | e
        · have := hF.1.1; omega
        · have := hvl k e; have := hF.1.1; omega
      · rcases hv2 k e with e2 | e2
        · have := hvl k e2; have := hF.1.1; omega
        · have := hF.1.2; omega
theorem PClsAt.weak {F F' M : Nat → Prop} {w w' : World} {v : Value} {acc : List (PClV × Rf.Cl)} (h : PClsAt F w v acc) (hk : Kept M w w') (hM : ∀ k, k < w.heap.size → F k → ¬ M k) (hF : ∀ k, F k → F' k) : PClsAt F' w' v acc :=
  ⟨h.row.keptBy hk (fun k e => hM k (h.row.lt k e).2 (h.rowF k e)), fun k e => hF k (h.rowF k e), fun q hq => (h.cls q hq).keptBy hk (fun k hl hk1 => ⟨hM k hl hk1.1, hF k hk1.1, hk1.2⟩), h.none⟩
theorem PsAt.keptC {F F' M : Nat → Prop} {w w' : World} {x : Nat} {vC : Value} {lim : Int} {cls : List Rf.Cl} (hC : PCls30 F w vC cls) (hk : Kept M w w') (hM : ∀ k, k < w.heap.size → F k → ¬ M k) (hB : PsB w' x lim vC) (hF : ∀ k, F k → F' k) (hx' : ¬ F' x) : PsAt F' w' x cls := by
  obtain ⟨acc, h1, h2, h3⟩ := hC.ex
  exact ⟨⟨lim, vC, hB, ⟨acc, h1.weak hk hM hF, h2, h3⟩, hC.good⟩, hx'⟩
def PConsultPost (F : Nat → Prop) (w : World) (x : Nat) (cls : List Rf.Cl) (s : ByteArray) (r : Ending) (w' : World) : Prop :=
  r = .returned (.tuple #[.int .i64 (consultP cls s).1.1, .int .i64 (consultP cls s).1.2]) ∧ Kept (fun k => k = x ∨ F k) w w' ∧ PsAt (fun k => F k ∨ (w.heap.size ≤ k ∧ k < w'.heap.size)) w' x (consultP cls s).2
set_option maxHeartbeats 1000000 in
theorem pconsult_err (F : Nat → Prop) (w : World) (x : Nat) (cls : List Rf.Cl) (s : ByteArray) (h : PsAt F w x cls) (hm : s.size ≤ maxLen) (e : Int) (q : Nat) (hr : Rf.readS s = .error (e, q)) :
    Calls Tryz.prog 15 #[.pointer (some ⟨x, 0, none⟩), .string s] w fun r w' => PConsultPost F w x cls s r w' := by
  obtain ⟨⟨lim, vC, hB, hC⟩, hx⟩ := h
  have hS : Hid (consultP cls s = ((e, q), cls)) := by unfold Hid consultP; rw [hr]
  have HR : Hid _ := hr
  have HC : Hid _ := hC
  have HB : Hid _ := hB
  have hxl := blk_lt hB
  clear hr hC hB
  go_enter Tryz.func15, Tryz.ntmps15
  go_wp2_with (first
    | (go_at_call 18; refine (pstop_any _ _).mono ?_; rintro r w0 ⟨rfl, hw0⟩; subst w0)
    | (go_at_call 30; refine (pclauses_any s _ hm).mono ?_; rintro r w1 ⟨hb1, hP⟩; rw [HR.out] at hP; obtain ⟨rfl, hne⟩ := hP; have he : (e != 0) = true := (by rw [bne_iff_ne]; exact hne)))
  go_ret2
  unfold PConsultPost
  rw [hS.out]
  exact ⟨rfl, Kept.of_below hb1 _, PsAt.keptC HC.out (Kept.of_below hb1 (fun _ => False)) (fun _ _ _ e => e) ((hb1.block x hxl).trans HB.out) (fun k x => .inl x) (notF hx hxl)⟩
set_option maxHeartbeats 1000000 in
theorem pconsult_full (F : Nat → Prop) (w : World) (x : Nat) (cls : List Rf.Cl) (s : ByteArray) (h : PsAt F w x cls) (hm : s.size ≤ maxLen) (new : List Rf.Cl) (hr : Rf.readS s = .ok new) (hf : 30 < cls.length + new.length) (hnl : new.length ≤ 402) :
    Calls Tryz.prog 15 #[.pointer (some ⟨x, 0, none⟩), .string s] w fun r w' => PConsultPost F w x cls s r w' := by
  obtain ⟨⟨lim, vC, hB, hC⟩, hx⟩ := h
  obtain ⟨acc, hA, hcls, h30⟩ := hC.ex
  have hlen : cls.length = acc.length := by rw [hcls, List.length_map]
  obtain ⟨a, c, hv⟩ := row_slice hA.row
  rw [List.length_map] at hv
  subst hv
  have Hlen : Hid _ := hlen
  have HR : Hid _ := hr
  have HC : Hid _ := hC
  have HB : Hid _ := hB
  have hxl := blk_lt hB
  have hS : Hid (consultP cls s = ((6, 0), cls)) := by unfold Hid consultP; rw [hr]; simp only []; rw [if_pos hf]
  clear hr hC hB hA hcls hlen
  go_enter Tryz.func15, Tryz.ntmps15
  go_wp2_with (first
    | (go_at_call 18; refine (pstop_any _ _).mono ?_; rintro r w0 ⟨rfl, hw0⟩; subst w0)
    | (go_at_call 30; refine (pclauses_any s _ hm).mono ?_; rintro r w1 ⟨hb1, hP⟩; rw [HR.out] at hP; obtain ⟨v1, acc1, rfl, hA1, hnew⟩ := hP; obtain ⟨a1, c1, hv1⟩ := row_slice hA1.row; rw [List.length_map] at hv1; subst hv1; have hB1 : PsB w1 x _ _ := (hb1.block x hxl).trans HB.out; have q1 : w1.cell? ⟨x, 1, none⟩ = some (.slice a acc.length c) := blk_cell hB1 1; have hl1 : new.length = acc1.length := (by rw [hnew, List.length_map]); have hbig : (30 : Int) < (acc.length : Int) + acc1.length := (by have := Hlen.out; omega); have hsm : acc1.length ≤ 402 := (by omega); clear hnew hl1 hA1))
  go_ret2
  unfold PConsultPost
  rw [hS.out]
  exact ⟨rfl, Kept.of_below hb1 _, PsAt.keptC HC.out (Kept.of_below hb1 (fun _ => False)) (fun _ _ _ e => e) hB1 (fun k x => .inl x) (notF hx hxl)⟩
set_option maxHeartbeats 1000000 in
theorem pconsult_0 (F : Nat → Prop) (w : World) (x : Nat) (cls : List Rf.Cl) (s : ByteArray) (h : PsAt F w x cls) (hm : s.size ≤ maxLen) (new : List Rf.Cl) (hr : Rf.readS s = .ok new) (hf : ¬ 30 < cls.length + new.length) (hn0 : new.length = 0) :
    Calls Tryz.prog 15 #[.pointer (some ⟨x, 0, none⟩), .string s] w fun r w' => PConsultPost F w x cls s r w' := by
  obtain ⟨⟨lim, vC, hB, hC⟩, hx⟩ := h
  obtain ⟨acc, hA, hcls, h30⟩ := hC.ex
  have hlen : cls.length = acc.length := by rw [hcls, List.length_map]
  obtain ⟨a, c, hv⟩ := row_slice hA.row
  rw [List.length_map] at hv
  subst hv
  have hnn : new = [] := List.eq_nil_of_length_eq_zero hn0
  subst hnn
  have Hlen : Hid _ := hlen
  have HR : Hid _ := hr
  have HC : Hid _ := hC
  have HA : Hid _ := hA
  have HB : Hid _ := hB
  have hxl := blk_lt hB
  have hS : Hid (consultP cls s = ((0, 0), cls)) := by unfold Hid consultP; rw [hr]; simp only []; rw [if_neg hf, List.append_nil]
  have hsa : (acc.length : Int) ≤ 30 := by omega
  clear hr hC hB hA hcls hlen hn0 hf
  go_enter Tryz.func15, Tryz.ntmps15
  go_wp2_with (first
    | (go_at_call 18; refine (pstop_any _ _).mono ?_; rintro r w0 ⟨rfl, hw0⟩; subst w0)
    | (go_at_call 30; refine (pclauses_any s _ hm).mono ?_; rintro r w1 ⟨hb1, hP⟩; rw [HR.out] at hP; obtain ⟨v1, acc1, rfl, hA1, hnew⟩ := hP; have hz1 : acc1 = [] := (by cases acc1 with | nil => rfl | cons y ys => simp at hnew); subst hz1; have hz2 := hA1.none rfl; subst hz2; have hB1 : PsB w1 x _ _ := (hb1.block x hxl).trans HB.out; have q1 : w1.cell? ⟨x, 1, none⟩ = some (.slice a acc.length c) := blk_cell hB1 1; have qf := blk_frozen hB1; have hA01 := HA.out.row.below hb1; clear hnew hA1)
    | (at_builtin; refine wpList_app_none Tryz.elemPCl pclCells _ rfl (.tmp 36) (.tmp 37) rfl 0 (.slice a acc.length c) (acc.map (·.1)) rfl hA01 rfl ?_))
  go_ret2
  have hk1 : Kept (fun k => k = x) w1 (w1.setCell ⟨x, 1, none⟩ (.slice a acc.length c)) := (Kept.refl (fun k => k = x) w1).setCell (p := ⟨x, 1, none⟩) (.inr rfl) _
  have hk : Kept (fun k => k = x) w (w1.setCell ⟨x, 1, none⟩ (.slice a acc.length c)) := (Kept.of_below hb1 (fun k => k = x)).trans hk1 (fun _ _ e => e)
  unfold PConsultPost
  rw [hS.out]
  exact ⟨rfl, hk.mono (fun _ _ e => .inl e), PsAt.keptC HC.out hk (fun k _ hF e => hx (e ▸ hF)) (blk_set hB1 1 _) (fun k x => .inl x) (notF hx hxl)⟩
set_option maxHeartbeats 1000000 in
theorem pconsult_1 (F : Nat → Prop) (w : World) (x : Nat) (cls : List Rf.Cl) (s : ByteArray) (h : PsAt F w x cls) (hm : s.size ≤ maxLen) (new : List Rf.Cl) (hr : Rf.readS s = .ok new) (hf : ¬ 30 < cls.length + new.length) (hgood : ∀ x ∈ new, GoodC x ∧ Rf.ArgCl x) (hn0 : 1 ≤ new.length) :
    Calls Tryz.prog 15 #[.pointer (some ⟨x, 0, none⟩), .string s] w fun r w' => PConsultPost F w x cls s r w' := by
  obtain ⟨⟨lim, vC, hB, hC⟩, hx⟩ := h
  obtain ⟨acc, hA, hcls, h30⟩ := hC.ex
  have hlen : cls.length = acc.length := by rw [hcls, List.length_map]
  obtain ⟨a, c, hv⟩ := row_slice hA.row
  rw [List.length_map] at hv
  subst hv
  have Hlen : Hid _ := hlen
  have Hcls : Hid _ := hcls
  have HR : Hid _ := hr
  have HC : Hid _ := hC
  have HA : Hid _ := hA
  have HB : Hid _ := hB
  have Hgood : Hid _ := hgood
  have Hn0 : Hid _ := hn0
  have hxl := blk_lt hB
  have hS : Hid (consultP cls s = ((0, 0), cls ++ new)) := by unfold Hid consultP; rw [hr]; simp only []; rw [if_neg hf]
  have hxo : Hid (∀ k, (Value.slice a acc.length c).ownBlock = some k → k ≠ x ∧ k < w.heap.size) := fun k e => ⟨fun e2 => hx (e2 ▸ hA.rowF k e), (hA.row.lt k e).2⟩
  have hsum : cls.length + new.length ≤ 30 := by omega
  clear hr hC hB hA hcls hlen hn0 hf hgood
  go_enter Tryz.func15, Tryz.ntmps15
  go_wp2_with (first
    | (go_at_call 18; refine (pstop_any _ _).mono ?_; rintro r w0 ⟨rfl, hw0⟩; subst w0)
    | (go_at_call 30; refine (pclauses_any s _ hm).mono ?_; rintro r w1 ⟨hb1, hP⟩; rw [HR.out] at hP; obtain ⟨v1, acc1, rfl, hA1, hnew⟩ := hP; obtain ⟨a1, c1, hv1⟩ := row_slice hA1.row; rw [List.length_map] at hv1; subst hv1; have hB1 : PsB w1 x _ _ := (hb1.block x hxl).trans HB.out; have q1 : w1.cell? ⟨x, 1, none⟩ = some (.slice a acc.length c) := blk_cell hB1 1; have Hnew : Hid _ := hnew; have hl1 : new.length = acc1.length := (by rw [hnew, List.length_map]); have hsm : acc.length + acc1.length ≤ 30 := (by have := Hlen.out; omega); have hsm' : (acc.length : Int) + acc1.length ≤ 30 := (by omega); have hp1 : 1 ≤ acc1.length := (by have := Hn0.out; omega); obtain ⟨g1, rfl⟩ : ∃ g1, a1 = some ⟨g1, 0, none⟩ := (by rcases hA1.row.shape with ⟨_, hnil⟩ | ⟨gv, cv, e, _⟩; have h7 := congrArg List.length hnil; rw [List.length_map, List.length_nil] at h7; omega; injection e with e1 _ _; exact ⟨gv, e1⟩); have hA01 := HA.out.row.below hb1; have hA11 := hA1.row; clear hnew hl1)
    | (at_builtin; refine wpList_apps Tryz.elemPCl pclCells pclCells_len pclCells_one _ rfl (.tmp 36) (.tmp 37) rfl 0 (.slice a acc.length c) (acc.map (·.1)) rfl hA01 ⟨g1, 0, none⟩ _ (acc1.map (·.1)) (by simpa using hp1) (by rw [List.length_map]; rfl) (hA11.own.cells rfl) (by simp; omega) (Nat.zero_le _) ?_; intro g2 cap2 w2 hrow2 hgr2 hnb2; have hyB2 : PsB w2 x _ _ := (hgr2.block x (blk_lt hB1) (fun e => (hxo.out x e.symm).1 rfl)).trans hB1; have r21 : w2.cell? ⟨x, 1, none⟩ = some (.slice a acc.length c) := blk_cell hyB2 1; have r2f := blk_frozen hyB2))
  go_ret2
  have hk1 : Kept (fun k => k = x ∨ (Value.slice a acc.length c).ownBlock = some k) w1 (w2.setCell ⟨x, 1, none⟩ (.slice (some ⟨g2, 0, none⟩) (acc.length + acc1.length) cap2)) := ((Kept.refl _ w1).grown hgr2 (fun k e => .inr (.inr e))).setCell (p := ⟨x, 1, none⟩) (.inr (.inl rfl)) _
  have hk : Kept (fun k => k = x ∨ (Value.slice a acc.length c).ownBlock = some k) w (w2.setCell ⟨x, 1, none⟩ (.slice (some ⟨g2, 0, none⟩) (acc.length + acc1.length) cap2)) := (Kept.of_below hb1 _).trans hk1 (fun _ _ e => e)
  have hg2x : g2 ≠ x := by
    rcases hnb2 with e | ⟨k, e, hk9⟩
    · exact (hxo.out g2 e.symm).1
    · have := Option.some.inj e; have := blk_lt hB1; omega
  unfold PConsultPost
  rw [hS.out]
  refine ⟨rfl, hk.mono (fun k _ e => e.imp id (fun e => HA.out.rowF k e)), ⟨_, _, blk_set hyB2 1 _, ⟨acc ++ acc1, pcls_join HA.out hA1 hk hk1 hb1.size hx hxl ?_ (fun k e => ?_) (fun e => ?_), ?_, ?_⟩, fun y hy => ?_⟩, notF hx hxl⟩
  · have h9 := hrow2.setCell ⟨x, 1, none⟩ (.slice (some ⟨g2, 0, none⟩) (acc.length + acc1.length) cap2) (fun e => hg2x (Option.some.inj e))
    simpa using h9
  · rcases hnb2 with e3 | ⟨k3, e3, hk3⟩
    · exact .inl (by rw [← e3]; exact e)
    · right
      have h5 : g2 = k := Option.some.inj e
      have := Option.some.inj e3; omega
  · simp at e; rw [e.2] at hp1; simp at hp1
  · show cls ++ new = _; rw [List.map_append, Hcls.out, Hnew.out]
  · simp; omega
  · rcases List.mem_append.1 hy with hy | hy
    · exact HC.out.good y hy
    · exact Hgood.out y hy
theorem pconsult_any (F : Nat → Prop) (w : World) (x : Nat) (cls : List Rf.Cl) (s : ByteArray) (h : PsAt F w x cls) (hm : s.size ≤ maxLen) (hgood : ∀ new, Rf.readS s = .ok new → new.length ≤ 402 ∧ ∀ x ∈ new, GoodC x ∧ Rf.ArgCl x) :
    Calls Tryz.prog 15 #[.pointer (some ⟨x, 0, none⟩), .string s] w fun r w' => PConsultPost F w x cls s r w' := by
  cases hr : Rf.readS s with
  | error y => exact pconsult_err F w x cls s h hm y.1 y.2 hr
  | ok new =>
    obtain ⟨h402, hg⟩ := hgood new hr
    by_cases hf : 30 < cls.length + new.length
    · exact pconsult_full F w x cls s h hm new hr hf h402
    · by_cases hn : new.length = 0
      · exact pconsult_0 F w x cls s h hm new hr hf hn
      · exact pconsult_1 F w x cls s h hm new hr hf hg (by omega)
theorem good_read (s : ByteArray) : ∀ new, Rf.readS s = .ok new → new.length ≤ 402 ∧ ∀ x ∈ new, GoodC x ∧ Rf.ArgCl x := by
  intro new h
  obtain ⟨h1, h2⟩ := Rf.readS_good h
  refine ⟨h1, fun x hx => ⟨?_, Rf.readS_arg h x hx⟩⟩
  have h3 := h2 x hx
  exact ⟨h3.1, by have := h3.2.1; omega, fun q hq => ⟨(h3.2.2 q hq).1, by have := (h3.2.2 q hq).2; omega⟩⟩
end Go.Proofs.YtegjiaceopnfjaaGreatDoor
/- The law's sessions (promptlaw): how the world of a script lies in memory: a row of sessions, each one of the program's beside one of the document's, with the same clauses, all apart. -/
namespace Go.Proofs.YtegjiaceopnfjaaGreatDoor
open Go.RowKit
theorem ClsAt.weakM {F F' M : Nat → Prop} {w w' : World} {v : Value} {acc : List (ClV × Rf.Cl)} (h : ClsAt F w v acc) (hk : Kept M w w') (hM : ∀ k, k < w.heap.size → F k → ¬ M k) (hF : ∀ k, F k → F' k) : ClsAt F' w' v acc :=
  ⟨h.row.keptBy hk (fun k e => hM k (h.row.lt k e).2 (h.rowF k e)), fun k e => hF k (h.rowF k e), fun q hq => ⟨(h.cls q hq).1.keptBy hk (fun k hl hk1 => ⟨hM k hl hk1.1, hF k hk1.1, hk1.2⟩), (h.cls q hq).2⟩, h.none⟩
theorem rs_kept {F M : Nat → Prop} {w w' : World} {y : Nat} {cls : List Rf.Cl} (h : RsAt F w y cls) (hk : Kept M w w') (hM : ∀ k, k < w.heap.size → (k = y ∨ F k) → ¬ M k) : RsAt F w' y cls := by
  obtain ⟨⟨vC, lim, live, vN, vG, vT, vH, fr, hB, hC⟩, hy⟩ := h
  obtain ⟨acc, h1, h2, h3⟩ := hC.ex
  exact ⟨⟨vC, lim, live, vN, vG, vT, vH, fr, (hk.block y (blk_lt hB) (hM y (blk_lt hB) (.inl rfl))).trans hB, ⟨acc, h1.weakM hk (fun k hl hF => hM k hl (.inr hF)) (fun _ x => x), h2, h3⟩, hC.good⟩, hy⟩
theorem ps_kept {F M : Nat → Prop} {w w' : World} {x : Nat} {cls : List Rf.Cl} (h : PsAt F w x cls) (hk : Kept M w w') (hM : ∀ k, k < w.heap.size → (k = x ∨ F k) → ¬ M k) : PsAt F w' x cls := by
  obtain ⟨⟨lim, vC, hB, hC⟩, hx⟩ := h
  exact PsAt.keptC hC hk (fun k hl hF => hM k hl (.inr hF)) ((hk.block x (blk_lt hB) (hM x (blk_lt hB) (.inl rfl))).trans hB) (fun _ x => x) hx
/-- Block z holds one of the law's sessions: the program's x, the document's y. -/
def SsB (w : World) (z x y : Nat) (lim : Int) (fr : ByteArray) : Prop :=
  w.heap[z]? = some (.cells #[.pointer (some ⟨x, 0, none⟩), .pointer (some ⟨y, 0, none⟩), .int .i64 lim, .string fr] 44 (0, 0))
/-- All that a session has lies in G, each part apart from the others. -/
structure SsIn (G Fp Fd : Nat → Prop) (z x y : Nat) : Prop where
  gz : G z
  gx : G x
  gy : G y
  gp : ∀ k, Fp k → G k
  gd : ∀ k, Fd k → G k
  xz : x ≠ z
  yz : y ≠ z
  xy : x ≠ y
  pz : ¬ Fp z
  py : ¬ Fp y
  dz : ¬ Fd z
  dx : ¬ Fd x
  pd : ∀ k, Fp k → ¬ Fd k
structure SsAt (G : Nat → Prop) (w : World) (z : Nat) (cls : List Rf.Cl) : Prop where
  ex : ∃ x y lim fr Fp Fd, SsB w z x y lim fr ∧ PsAt Fp w x cls ∧ RsAt Fd w y cls ∧ SsIn G Fp Fd z x y
theorem ss_kept {G M : Nat → Prop} {w w' : World} {z : Nat} {cls : List Rf.Cl} (h : SsAt G w z cls) (hk : Kept M w w') (hM : ∀ k, k < w.heap.size → G k → ¬ M k) : SsAt G w' z cls := by
  obtain ⟨x, y, lim, fr, Fp, Fd, hB, hP, hR, hI⟩ := h.ex
  refine ⟨x, y, lim, fr, Fp, Fd, (hk.block z (blk_lt hB) (hM z (blk_lt hB) hI.gz)).trans hB, ps_kept hP hk (fun k hl e => hM k hl ?_), rs_kept hR hk (fun k hl e => hM k hl ?_), hI⟩
  · rcases e with rfl | e
    · exact hI.gx
    · exact hI.gp k e
  · rcases e with rfl | e
    · exact hI.gy
    · exact hI.gd k e
structure Ss where
  z : Nat
  G : Nat → Prop
  cls : List Rf.Cl
def ptrC (z : Nat) : List Value := [.pointer (some ⟨z, 0, none⟩)]
theorem ptrC_len (z : Nat) : (ptrC z).length = 1 := rfl
theorem ptrC_one (z : Nat) : ∀ u ∈ ptrC z, u.oneCell' = true := by
  intro u hu
  simp only [ptrC, List.mem_cons, List.not_mem_nil, or_false] at hu
  rcases hu with rfl; rfl
theorem Tryz.elemSs : ElemOk Tryz.prog 27 42 1 8 (.pointer none) := ⟨Tryz.underlying27, by kernel_rfl, rfl, by decide, by decide⟩
def WlB (w : World) (b : Nat) (v : Value) : Prop := w.heap[b]? = some (.cells #[v, .slice none 0 0] 30 (0, 0))
/-- The law's world: block b, its row of sessions, all from base on. -/
structure WlAt (base : Nat) (w : World) (b : Nat) (L : List Ss) : Prop where
  ex : ∃ v, WlB w b v ∧ RowIs w 0 42 1 ptrC v (L.map (·.z)) ∧ (∀ k, v.ownBlock = some k → base ≤ k ∧ k ≠ b ∧ ∀ s ∈ L, ¬ s.G k)
  bb : base ≤ b
  ss : ∀ s ∈ L, SsAt s.G w s.z s.cls ∧ (∀ k, s.G k → base ≤ k ∧ k < w.heap.size ∧ k ≠ b)
  apart : ∀ (i j : Nat) (s t : Ss), L[i]? = some s → L[j]? = some t → i ≠ j → ∀ k, s.G k → ¬ t.G k
/-- One session turned, in its own memory and in new one: the world stands. -/
theorem wl_turn {base : Nat} {w w' : World} {b i : Nat} {L : List Ss} {s : Ss} {cls' : List Rf.Cl} (h : WlAt base w b L) (hi : L[i]? = some s) (hk : Kept s.G w w') (hs : SsAt (fun k => s.G k ∨ (w.heap.size ≤ k ∧ k < w'.heap.size)) w' s.z cls') :
    ∃ L', WlAt base w' b L' ∧ L'.length = L.length ∧ Below base w w' := by
  have hmem : s ∈ L := List.mem_of_getElem? hi
  obtain ⟨v, hB, hrow, hv⟩ := h.ex
  obtain ⟨_, hG⟩ := h.ss s hmem
  have hil : i < L.length := (List.getElem?_eq_some_iff.1 hi).1
  have hsz := hk.size
  have hbl := blk_lt hB
  have hbase : base ≤ w.heap.size := by have := h.bb; omega
  have hvl : ∀ k, v.ownBlock = some k → k < w.heap.size := fun k e => (hrow.lt k e).2
  have hset : ∀ t ∈ L.set i ⟨s.z, fun k => s.G k ∨ (w.heap.size ≤ k ∧ k < w'.heap.size), cls'⟩, t = ⟨s.z, fun k => s.G k ∨ (w.heap.size ≤ k ∧ k < w'.heap.size), cls'⟩ ∨ ∃ j, j ≠ i ∧ L[j]? = some t := by
    intro t ht
    obtain ⟨j, hj⟩ := List.getElem?_of_mem ht
    by_cases e : i = j
    · subst e
      rw [List.getElem?_set_self hil] at hj
      exact .inl (Option.some.inj hj).symm
    · rw [List.getElem?_set_ne e] at hj
      exact .inr ⟨j, fun e2 => e e2.symm, hj⟩
  have hz : (L.set i ⟨s.z, fun k => s.G k ∨ (w.heap.size ≤ k ∧ k < w'.heap.size), cls'⟩).map (·.z) = L.map (·.z) := by
    apply List.ext_getElem?
    intro j
    rw [List.getElem?_map, List.getElem?_map]
    by_cases e : i = j
    · subst e
      rw [List.getElem?_set_self hil, hi]; rfl
    · rw [List.getElem?_set_ne e]
  refine ⟨L.set i ⟨s.z, fun k => s.G k ∨ (w.heap.size ≤ k ∧ k < w'.heap.size), cls'⟩, ⟨⟨v, (hk.block b hbl (fun e => (hG b e).2.2 rfl)).trans hB, ?_, fun k e => ⟨(hv k e).1, (hv k e).2.1, fun t ht => ?_⟩⟩, h.bb, fun t ht => ?_, ?_⟩, List.length_set, hk.below hbase (fun k hkb e => by have := (hG k e).1; omega)⟩
  · rw [hz]
    exact hrow.keptBy hk (fun k e => (hv k e).2.2 s hmem)
  · rcases hset t ht with rfl | ⟨j, _, hj⟩
    · intro e2
      rcases e2 with e2 | e2
      · exact (hv k e).2.2 s hmem e2
      · have := hvl k e; omega
    · exact (hv k e).2.2 t (List.mem_of_getElem? hj)
  · rcases hset t ht with rfl | ⟨j, hne, hj⟩
    · refine ⟨hs, fun k e => ?_⟩
      rcases e with e | e
      · have := hG k e
        exact ⟨this.1, by omega, this.2.2⟩
      · exact ⟨by omega, e.2, by omega⟩
    · obtain ⟨h1, h2⟩ := h.ss t (List.mem_of_getElem? hj)
      exact ⟨ss_kept h1 hk (fun k _ e => h.apart j i t s hj hi hne k e), fun k e => ⟨(h2 k e).1, by have := (h2 k e).2.1; omega, (h2 k e).2.2⟩⟩
  · intro j1 j2 s1 s2 h1 h2 hne k
    have hlt : ∀ (j : Nat) (t : Ss), L[j]? = some t → ∀ k, t.G k → k < w.heap.size := fun j t ht k e => ((h.ss t (List.mem_of_getElem? ht)).2 k e).2.1
    by_cases e1 : i = j1
    · subst e1
      rw [List.getElem?_set_self hil] at h1
      obtain rfl := Option.some.inj h1
      rw [List.getElem?_set_ne hne] at h2
      intro e e2
      rcases e with e | e
      · exact h.apart i j2 s s2 hi h2 hne k e e2
      · have := hlt j2 s2 h2 k e2; omega
    · rw [List.getElem?_set_ne e1] at h1
      by_cases e3 : i = j2
      · subst e3
        rw [List.getElem?_set_self hil] at h2
        obtain rfl := Option.some.inj h2
        intro e e2
        rcases e2 with e2 | e2
        · exact h.apart j1 i s1 s h1 hi hne k e e2
        · have := hlt j1 s1 h1 k e; omega
      · rw [List.getElem?_set_ne e3] at h2
        exact h.apart j1 j2 s1 s2 h1 h2 hne k
end Go.Proofs.YtegjiaceopnfjaaGreatDoor
/- The law's small steps (promptlaw: pick, nothing, made). -/
namespace Go.Proofs.YtegjiaceopnfjaaGreatDoor
open Go.RowKit
def pickP (c n : Int) : Nat := ((if c < 0 then -(c + 1) else c).tmod n).toNat
theorem pickP_lt {c n : Int} (hn : 1 ≤ n) : (pickP c n : Int) < n := by
  unfold pickP
  have h3 : 0 ≤ (if c < 0 then -(c + 1) else c) := by split <;> omega
  have h4 := Int.tmod_nonneg (a := if c < 0 then -(c + 1) else c) n h3
  have h5 := Int.tmod_lt_of_pos (if c < 0 then -(c + 1) else c) (b := n) (by omega)
  omega
set_option maxHeartbeats 400000 in
theorem pick_any (c n : Int) (w : World) (h1 : -9223372036854775808 ≤ c) (h2 : c ≤ 9223372036854775807) (hn : 1 ≤ n) (hn2 : n ≤ 9223372036854775807) :
    Calls Tryz.prog 9 #[.int .i64 c, .int .i64 n] w fun r w' => r = .returned (.int .i64 (pickP c n)) ∧ w' = w := by
  have hn0 : (n == 0) = false := beq_eq_false_iff_ne.2 (by omega)
  have hnm : (n == -1) = false := beq_eq_false_iff_ne.2 (by omega)
  by_cases hc : c < 0
  · have hP : Hid ((pickP c n : Int) = -((c + 1).tmod n)) := by
      unfold Hid pickP
      have h4 := Int.tmod_nonneg (a := -(c + 1)) n (by omega)
      rw [if_pos hc, Int.toNat_of_nonneg h4, Int.neg_tmod]
    go_enter Tryz.func9, Tryz.ntmps9
    go_wp2
    go_ret
    exact ⟨ret_int hP.out.symm, rfl⟩
  · have hP : Hid ((pickP c n : Int) = c % n) := by
      unfold Hid pickP
      have h4 := Int.tmod_nonneg (a := c) n (by omega)
      rw [if_neg hc, Int.toNat_of_nonneg h4, Int.tmod_eq_emod_of_nonneg (by omega)]
    go_enter Tryz.func9, Tryz.ntmps9
    go_wp2
    go_ret
    exact ⟨ret_int hP.out.symm, rfl⟩
set_option maxHeartbeats 1000000 in
theorem nothing_2 (a b c d : Int) (s : ByteArray) (w : World) :
    Calls Tryz.prog 10 #[.agg #[.int .i64 2, .int .i64 a, .int .i64 b, .int .i64 c, .int .i64 d, .string s]] w fun r w' => r = .returned (.bool true) ∧ Below w.heap.size w w' := by
  go_enter Tryz.func10, Tryz.ntmps10
  go_wp2_with (go_at_call 15; refine (pconsult_nil _ _).mono ?_; rintro r w1 ⟨rfl, rfl⟩)
  go_ret
  exact ⟨rfl, (by repeat (first | exact Below.refl _ _ | refine Below.setCell ?_ (by simp) _ | refine Below.drew ?_ | refine Below.drewN ?_ _ | refine Below.alloc ?_ (by simp) _))⟩
set_option maxHeartbeats 1000000 in
theorem nothing_6 (a b c d : Int) (s : ByteArray) (w : World) :
    Calls Tryz.prog 10 #[.agg #[.int .i64 6, .int .i64 a, .int .i64 b, .int .i64 c, .int .i64 d, .string s]] w fun r w' => r = .returned (.bool true) ∧ Below w.heap.size w w' := by
  go_enter Tryz.func10, Tryz.ntmps10
  go_wp2_with (go_at_call 19; refine (plisting_nil _).mono ?_; rintro r w1 ⟨rfl, rfl⟩)
  go_ret
  exact ⟨rfl, (by repeat (first | exact Below.refl _ _ | refine Below.setCell ?_ (by simp) _ | refine Below.drew ?_ | refine Below.drewN ?_ _ | refine Below.alloc ?_ (by simp) _))⟩
def MadePost (base : Nat) (b : Nat) (L : List Ss) (w : World) (r : Ending) (w' : World) : Prop :=
  r = .returned (.bool true) ∧ Below base w w' ∧ ∃ L', WlAt base w' b L' ∧ L'.length ≤ L.length + 1
set_option maxHeartbeats 1000000 in
theorem made_bad (base b : Nat) (L : List Ss) (lim : Int) (w : World) (hW : WlAt base w b L) (h : lim < 1 ∨ 1000 < lim) :
    Calls Tryz.prog 5 #[.pointer (some ⟨b, 0, none⟩), .int .i64 lim] w fun r w' => MadePost base b L w r w' := by
  have HW : Hid _ := hW
  have H : Hid _ := h
  clear hW h
  go_enter Tryz.func5, Tryz.ntmps5
  go_wp2_with (first
    | (go_at_call 7; refine (pnew_bad lim _ H.out).mono ?_; rintro r w1 ⟨rfl, rfl⟩)
    | (go_at_call 8; refine (new_bad lim _ H.out).mono ?_; rintro r w1 ⟨rfl, rfl⟩))
  go_ret
  exact ⟨rfl, Below.refl _ _, L, HW.out, by omega⟩
theorem wl_made {base b : Nat} {L : List Ss} {lim : Int} {w w2 w5 : World} {v : Value} {cs : Array Value} {e : TypeId} {g n cap : Nat} (h : WlAt base w b L) (hB : WlB w b v) (hrow : RowIs w 0 42 1 ptrC v (L.map (·.z))) (hv : ∀ k, v.ownBlock = some k → base ≤ k ∧ k ≠ b ∧ ∀ s ∈ L, ¬ s.G k)
    (hs2 : w2.heap.size = w.heap.size + 2) (hb2 : Below w.heap.size w w2) (hx : PsB w2 w.heap.size lim (.slice none 0 0)) (hy : RsB w2 (w.heap.size + 1) (.slice none 0 0) lim false (.slice none 0 0) (.slice none 0 0) (.slice none 0 0) (.slice none 0 0) 0)
    (hgr : ((w2.alloc (.cells #[.pointer (some ⟨w.heap.size, 0, none⟩), .pointer (some ⟨w.heap.size + 1, 0, none⟩), .int .i64 lim, .string ⟨#[]⟩] 44)).alloc (.cells cs e)).grownBy w5 v.ownBlock)
    (hnb : Nb ((w2.alloc (.cells #[.pointer (some ⟨w.heap.size, 0, none⟩), .pointer (some ⟨w.heap.size + 1, 0, none⟩), .int .i64 lim, .string ⟨#[]⟩] 44)).alloc (.cells cs e)) v.ownBlock (some g))
    (hr : RowIs w5 0 42 1 ptrC (.slice (some ⟨g, 0, none⟩) n cap) (L.map (·.z) ++ [w.heap.size + 2])) :
    Below base w (w5.setCell ⟨b, 0, none⟩ (.slice (some ⟨g, 0, none⟩) n cap)) ∧ ∃ L', WlAt base (w5.setCell ⟨b, 0, none⟩ (.slice (some ⟨g, 0, none⟩) n cap)) b L' ∧ L'.length ≤ L.length + 1 := by
  have hbl := blk_lt hB
  have hbb := h.bb
  have hvl : ∀ k, v.ownBlock = some k → k < w.heap.size := fun k e => (hrow.lt k e).2
  have hs5 := hgr.size
  have hs5' : w.heap.size + 4 ≤ w5.heap.size := by simp at hs5; omega
  have hk4 : Kept (fun k => k = b ∨ v.ownBlock = some k) w w5 := ((((Kept.of_below hb2 (fun k => k = b ∨ v.ownBlock = some k)).alloc _).alloc _).grown hgr (fun k e => .inr (.inr e)))
  have hk : Kept (fun k => k = b ∨ v.ownBlock = some k) w (w5.setCell ⟨b, 0, none⟩ (.slice (some ⟨g, 0, none⟩) n cap)) := hk4.setCell (p := ⟨b, 0, none⟩) (.inr (.inl rfl)) _
  have hg : g ≠ b ∧ base ≤ g ∧ (∀ s ∈ L, ¬ s.G g) ∧ (v.ownBlock = some g ∨ w.heap.size + 4 ≤ g) := by
    rcases hnb with e | ⟨k, e, hk9⟩
    · have := hv g e.symm
      exact ⟨this.2.1, this.1, this.2.2, .inl e.symm⟩
    · have := Option.some.inj e
      simp at hk9
      exact ⟨by omega, by omega, fun s hs e2 => by have := ((h.ss s hs).2 g e2).2.1; omega, .inr (by omega)⟩
  have hbase : base ≤ w.heap.size := by omega
  have hB5 : WlB (w5.setCell ⟨b, 0, none⟩ (.slice (some ⟨g, 0, none⟩) n cap)) b (.slice (some ⟨g, 0, none⟩) n cap) := by
    have h9 : WlB w5 b v := (hgr.block b (by simp; omega) (fun e => (hv b e.symm).2.1 rfl)).trans (blk_alloc (blk_alloc ((hb2.block b hbl).trans hB) _) _)
    exact blk_set h9 0 _
  have hn : ∀ k, k < w.heap.size + 4 → w.heap.size ≤ k → ∀ o, ((w2.alloc (.cells #[.pointer (some ⟨w.heap.size, 0, none⟩), .pointer (some ⟨w.heap.size + 1, 0, none⟩), .int .i64 lim, .string ⟨#[]⟩] 44)).alloc (.cells cs e)).heap[k]? = some o → (w5.setCell ⟨b, 0, none⟩ (.slice (some ⟨g, 0, none⟩) n cap)).heap[k]? = some o := by
    intro k h1 h2 o ho
    have h3 : (w5.setCell ⟨b, 0, none⟩ (.slice (some ⟨g, 0, none⟩) n cap)).heap[k]? = w5.heap[k]? := Below.heap_setCell _ _ _ _ (by simp; omega)
    rw [h3]
    exact (hgr.block k (by simp; omega) (fun e => by have := hvl k e.symm; omega)).trans ho
  have hsz5 : (w5.setCell ⟨b, 0, none⟩ (.slice (some ⟨g, 0, none⟩) n cap)).heap.size = w5.heap.size := by simp [World.setCell]
  have hnew : SsAt (fun k => w.heap.size ≤ k ∧ k < w.heap.size + 3) (w5.setCell ⟨b, 0, none⟩ (.slice (some ⟨g, 0, none⟩) n cap)) (w.heap.size + 2) [] := by
    have hz1 : SsB (w5.setCell ⟨b, 0, none⟩ (.slice (some ⟨g, 0, none⟩) n cap)) (w.heap.size + 2) w.heap.size (w.heap.size + 1) lim ⟨#[]⟩ := hn _ (by omega) (by omega) _ (blk_alloc (blk_at _ _ _ (by omega)) _)
    have hx1 : PsB (w5.setCell ⟨b, 0, none⟩ (.slice (some ⟨g, 0, none⟩) n cap)) w.heap.size lim (.slice none 0 0) := hn _ (by omega) (by omega) _ (blk_alloc (blk_alloc hx _) _)
    have hy1 : RsB (w5.setCell ⟨b, 0, none⟩ (.slice (some ⟨g, 0, none⟩) n cap)) (w.heap.size + 1) (.slice none 0 0) lim false (.slice none 0 0) (.slice none 0 0) (.slice none 0 0) (.slice none 0 0) 0 := hn _ (by omega) (by omega) _ (blk_alloc (blk_alloc hy _) _)
    have hPA : PsAt (fun _ => False) (w5.setCell ⟨b, 0, none⟩ (.slice (some ⟨g, 0, none⟩) n cap)) w.heap.size [] := ⟨⟨lim, _, hx1, ⟨[], ⟨RowIs.nil _ _ _ _ _, (fun k e => by simp [Value.ownBlock] at e), (fun q hq => by simp at hq), fun _ => rfl⟩, rfl, by simp⟩, (fun c hc => by simp at hc)⟩, fun e => e⟩
    have hRA : RsAt (fun _ => False) (w5.setCell ⟨b, 0, none⟩ (.slice (some ⟨g, 0, none⟩) n cap)) (w.heap.size + 1) [] := ⟨⟨_, lim, false, _, _, _, _, 0, hy1, ⟨[], ⟨RowIs.nil _ _ _ _ _, (fun k e => by simp [Value.ownBlock] at e), (fun q hq => by simp at hq), fun _ => rfl⟩, rfl, by simp⟩, (fun c hc => by simp at hc)⟩, fun e => e⟩
    exact ⟨_, _, lim, _, _, _, hz1, hPA, hRA, ⟨⟨by omega, by omega⟩, ⟨by omega, by omega⟩, ⟨by omega, by omega⟩, (fun k e => False.elim e), (fun k e => False.elim e), by omega, by omega, by omega, (fun e => e), (fun e => e), (fun e => e), (fun e => e), (fun k e => False.elim e)⟩⟩
  refine ⟨hk.below hbase (fun k hkb e => ?_), L ++ [⟨w.heap.size + 2, fun k => w.heap.size ≤ k ∧ k < w.heap.size + 3, []⟩], ⟨⟨_, hB5, ?_, fun k e => ?_⟩, hbb, fun s hs => ?_, ?_⟩, by simp⟩
  · rcases e with e | e
    · omega
    · have := (hv k e).1; omega
  · rw [List.map_append]
    exact hr.setCell ⟨b, 0, none⟩ _ (fun e => hg.1 (Option.some.inj e))
  · obtain rfl : g = k := Option.some.inj e
    refine ⟨hg.2.1, hg.1, fun s hs => ?_⟩
    rcases List.mem_append.1 hs with hs | hs
    · exact hg.2.2.1 s hs
    · simp at hs; subst hs
      intro e2
      rcases hg.2.2.2 with e3 | e3
      · have := hvl g e3; have := e2.1; omega
      · have := e2.2; omega
  · rcases List.mem_append.1 hs with hs | hs
    · obtain ⟨h1, h2⟩ := h.ss s hs
      refine ⟨ss_kept h1 hk (fun k hl e e2 => ?_), fun k e => ⟨(h2 k e).1, ?_, (h2 k e).2.2⟩⟩
      · rcases e2 with e2 | e2
        · exact (h2 k e).2.2 e2
        · exact (hv k e2).2.2 s hs e
      · have := (h2 k e).2.1; have := hk.size; omega
    · simp at hs; subst hs
      refine ⟨hnew, fun k e => ⟨?_, ?_, ?_⟩⟩
      · have := e.1; omega
      · have := e.2; omega
      · have := e.1; omega
  · intro i j s t hi hj hne k
    have hltG : ∀ (j : Nat) (t : Ss), L[j]? = some t → ∀ k, t.G k → k < w.heap.size := fun j t ht k e => ((h.ss t (List.mem_of_getElem? ht)).2 k e).2.1
    rw [List.getElem?_append] at hi hj
    split at hi
    · split at hj
      · exact h.apart i j s t hi hj hne k
      · have h7 := List.mem_of_getElem? hj
        simp at h7; subst h7
        intro e e2
        have := hltG i s hi k e; have := e2.1; omega
    · have h6 := List.mem_of_getElem? hi
      simp at h6; subst h6
      split at hj
      · intro e e2
        have := hltG j t hj k e2; have := e.1; omega
      · have h7 := (List.getElem?_eq_some_iff.1 hi).1
        have h8 := (List.getElem?_eq_some_iff.1 hj).1
        simp at h7 h8
        omega
set_option maxHeartbeats 1000000 in
theorem made_ok (base b : Nat) (L : List Ss) (lim : Int) (w : World) (hW : WlAt base w b L) (h1 : 1 ≤ lim) (h2 : lim ≤ 1000) (hL : (L.length + 1) * 8 ≤ 140737488355328) :
    Calls Tryz.prog 5 #[.pointer (some ⟨b, 0, none⟩), .int .i64 lim] w fun r w' => MadePost base b L w r w' := by
  obtain ⟨v, hB, hrow, hv⟩ := hW.ex
  obtain ⟨a, c, he⟩ := row_slice hrow
  rw [List.length_map] at he
  subst he
  have hbl := blk_lt hB
  have HW : Hid _ := hW
  have Hrow : Hid _ := hrow
  have HB : Hid _ := hB
  have Hv : Hid _ := hv
  clear hW hrow hB hv
  go_enter Tryz.func5, Tryz.ntmps5
  go_wp2_with (first
    | (go_at_call 7; refine (pnew_ok lim _ h1 h2).mono ?_; rintro r w1 ⟨rfl, hb1, hz1, hx1⟩)
    | (go_at_call 8; refine (new_ok lim _ h1 h2).mono ?_; rintro r w2 ⟨rfl, hb2, hz2, hy2⟩; have hb12 : Below w.heap.size w w2 := hb1.trans (hb2.mono hb1.size); have hB2 : WlB w2 b _ := (hb12.block b hbl).trans HB.out; have q0 : w2.cell? ⟨b, 0, none⟩ = some (.slice a L.length c) := blk_cell hB2 0; have qf := blk_frozen hB2; have hr2 := Hrow.out.below hb12)
    | (at_builtin; (refine wpList_app Tryz.elemSs ptrC ptrC_len ptrC_one _ rfl (.tmp 37) (.tmp 43) rfl 0 (.slice a L.length c) (L.map (·.z)) rfl ((hr2.alloc _).alloc _) ⟨_, 0, none⟩ 1 (w.heap.size + 1 + 1) rfl (cell_one_at _ _ (by simp [hz1, hz2]) _ _) (by simpa using hL) (Nat.zero_le _) ?_; intro g cap w5 hrow5 hgr5 hnb5; rw [List.length_map] at hrow5; have hB5 : WlB w5 b _ := (hgr5.block b (by simp; have := hb12.size; omega) (fun e => (Hv.out b e.symm).2.1 rfl)).trans (blk_alloc (blk_alloc hB2 _) _); have q5 : w5.cell? ⟨b, 0, none⟩ = some (.slice a L.length c) := blk_cell hB5 0; have qf5 := blk_frozen hB5)))
  go_ret
  have hs2 : w2.heap.size = w.heap.size + 2 := by omega
  refine ⟨rfl, ?_⟩
  rw [hz1] at hy2
  have hx2 : PsB w2 w.heap.size lim (.slice none 0 0) := (hb2.block _ (by omega)).trans hx1
  exact wl_made HW.out HB.out Hrow.out Hv.out hs2 hb12 hx2 hy2 hgr5 hnb5 hrow5
theorem made_any (base b : Nat) (L : List Ss) (lim : Int) (w : World) (hW : WlAt base w b L) (hL : (L.length + 1) * 8 ≤ 140737488355328) :
    Calls Tryz.prog 5 #[.pointer (some ⟨b, 0, none⟩), .int .i64 lim] w fun r w' => MadePost base b L w r w' := by
  by_cases h : lim < 1 ∨ 1000 < lim
  · exact made_bad base b L lim w hW h
  · exact made_ok base b L lim w hW (by omega) (by omega) hL
end Go.Proofs.YtegjiaceopnfjaaGreatDoor
