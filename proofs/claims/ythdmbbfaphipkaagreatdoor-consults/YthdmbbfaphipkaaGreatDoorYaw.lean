/- The document's session (promptref: New, Listing): how it lies in memory, and the plain function's listing. -/
import Derived.Test.YthdmbbfaphipkaaGreatDoorYav
namespace Go.Proofs.YthdmbbfaphipkaaGreatDoor
open Go.RowKit
/-- Block y holds a session of the document's: its clauses' row vC, its limit, whether a question is suspended, and what else it has. -/
def RsB (w : World) (y : Nat) (vC : Value) (lim : Int) (live : Bool) (vN vG vT vH : Value) (fr : Int) : Prop :=
  w.heap[y]? = some (.cells #[vC, .int .i64 lim, .bool live, vN, vG, vT, vH, .int .i64 fr] 61 (0, 0))
/-- A row of at most 30 good clauses. -/
structure Cls30 (F : Nat → Prop) (w : World) (v : Value) (cls : List Rf.Cl) : Prop where
  ex : ∃ acc, ClsAt F w v acc ∧ cls = acc.map (·.2) ∧ acc.length ≤ 30
  good : ∀ c ∈ cls, GoodC c
set_option maxHeartbeats 400000 in
theorem new_bad (lim : Int) (w : World) (h : lim < 1 ∨ 1000 < lim) :
    Calls Tryz.prog 8 #[.int .i64 lim] w fun r w' => r = .returned (.tuple #[.pointer none, .bool false]) ∧ w' = w := by
  rcases h with h | h
  · go_enter Tryz.func8, Tryz.ntmps8
    go_wp2
    go_ret2
    exact ⟨rfl, rfl⟩
  · have h1 : 1 ≤ lim := by omega
    go_enter Tryz.func8, Tryz.ntmps8
    go_wp2
    go_ret2
    exact ⟨rfl, rfl⟩
set_option maxHeartbeats 400000 in
theorem new_ok (lim : Int) (w : World) (h : 1 ≤ lim) (h' : lim ≤ 1000) :
    Calls Tryz.prog 8 #[.int .i64 lim] w fun r w' => r = .returned (.tuple #[.pointer (some ⟨w.heap.size, 0, none⟩), .bool true]) ∧ Below w.heap.size w w' ∧ w'.heap.size = w.heap.size + 1 ∧
      RsB w' w.heap.size (.slice none 0 0) lim false (.slice none 0 0) (.slice none 0 0) (.slice none 0 0) (.slice none 0 0) 0 := by
  go_enter Tryz.func8, Tryz.ntmps8
  go_wp2
  go_ret2
  exact ⟨rfl, (Below.refl _ _).alloc (Nat.le_refl _) _, by simp, blk_new _ _⟩
set_option maxHeartbeats 1000000 in
set_option maxRecDepth 100000 in
theorem listing_any (F : Nat → Prop) (w : World) (y : Nat) (vC : Value) (lim : Int) (live : Bool) (vN vG vT vH : Value) (fr : Int) (cls : List Rf.Cl) (hB : RsB w y vC lim live vN vG vT vH fr) (hC : Cls30 F w vC cls) (hT : Tab w) :
    Calls Tryz.prog 29 #[.pointer (some ⟨y, 0, none⟩)] w fun r w' => r = .returned (.string (listingP cls)) ∧ Below w.heap.size w w' := by
  obtain ⟨acc, hA, hcls, h30⟩ := hC.ex
  have hgood := hC.good
  have hlen : cls.length = acc.length := by rw [hcls, List.length_map]
  obtain ⟨a, c, rfl⟩ : ∃ a c, vC = .slice a acc.length c := by
    rcases hA.row.shape with ⟨e, hnil⟩ | ⟨gv, cv, e, _⟩
    · have h7 := congrArg List.length hnil
      rw [List.length_map, List.length_nil] at h7
      exact ⟨none, 0, by rw [e, h7]⟩
    · rw [List.length_map] at e
      exact ⟨_, _, e⟩
  have h8 : ∀ q ∈ acc, q.2.body.length ≤ 8 := fun q hq => by
    obtain ⟨⟨_, ac, _, _, _, hb, h8⟩, _⟩ := hA.cls q hq
    rw [hb, List.length_map]; exact h8
  have hls : ∀ x ∈ cls, (Rf.lineP x).size ≤ 21000000 := fun x hx => line_size x (hgood x hx) (by
    rw [hcls] at hx
    obtain ⟨q, hq, rfl⟩ := List.mem_map.1 hx
    exact h8 q hq)
  have Hls : Hid _ := hls
  have HA : Hid _ := hA
  have HT : Hid _ := hT
  have Hg : Hid _ := hgood
  have HB : Hid _ := hB
  have Hcls : Hid _ := hcls
  have Hlen : Hid _ := hlen
  have k0 : w.cell? ⟨y, 0, none⟩ = some (.slice a acc.length c) := blk_cell hB 0
  clear hls hA hT hgood hB hC hcls h8 hlen
  go_enter Tryz.func29, Tryz.ntmps29
  go_wp2_with fail
  go_loopw [3, 4, 5] (fun sv iv _ wr => ∃ k : Nat, k ≤ acc.length ∧ iv = .int .i64 k ∧ sv = .string (accS cls k) ∧ Below w.heap.size w wr) (fun _ iv _ _ => acc.length - (intOf iv).toNat)
  case atStart => exact ⟨0, by omega, rfl, rfl, Below.refl _ _⟩
  case round =>
    obtain ⟨k, hk, rfl, rfl, hbr⟩ := hrel
    have y0 : wr.cell? ⟨y, 0, none⟩ = some (.slice a acc.length c) := blk_cell ((hbr.block y (blk_lt HB.out)).trans HB.out) 0
    clear k0
    have hs1 := accS_size cls Hls.out k
    have hs2 : (accS cls k).size ≤ 30 * 21000000 := Nat.le_trans hs1 (Nat.mul_le_mul_right _ (by omega))
    clear hs1
    by_cases hlt : k < acc.length
    · obtain ⟨gv, rfl⟩ : ∃ gv, a = some ⟨gv, 0, none⟩ := by
        rcases HA.out.row.shape with ⟨_, hnil⟩ | ⟨gv, cv, e, _⟩
        · have h7 := congrArg List.length hnil
          rw [List.length_map, List.length_nil] at h7
          omega
        · injection e with e1 _ _; exact ⟨gv, e1⟩
      have hmem : acc[k] ∈ acc := List.getElem_mem hlt
      have hc := (HA.out.row.below hbr).cells clCells_len k acc[k].1 (by simp [hlt])
      have c0 := hc 0 _ rfl
      have c1 := hc 1 _ rfl
      have c2 := hc 2 _ rfl
      simp only [Nat.add_zero] at c0
      have hgo := (HA.out.cls _ hmem).1.keptBy (F' := F) (Kept.of_below hbr (fun _ => False)) (fun _ _ hF => ⟨fun e => e, hF.1⟩)
      have hcm : acc[k].2 ∈ cls := by rw [Hcls.out]; exact List.mem_map_of_mem hmem
      have hgd := Hg.out _ hcm
      have hsl := Hls.out _ hcm
      have hacc : Hid (accS cls (k + 1) = accS cls k ++ Rf.lineP acc[k].2) := by
        unfold Hid
        have : cls[k]? = some acc[k].2 := by rw [Hcls.out]; simp [hlt]
        rw [accS, this]
      clear hmem hcm hc
      have Hgo : Hid _ := hgo
      have Hgd : Hid _ := hgd
      clear hgo hgd
      generalize acc[k] = q at *
      obtain ⟨⟨qp, qa, qn, qc, qk⟩, qcl⟩ := q
      simp only at c0 c1 c2 Hgo hsl hacc Hgd
      go_wp2_with (go_at_call 48; refine (line_any F _ qp qa qn qc qk qcl Hgo.out Hgd.out (Tab.below HT.out hbr)).mono ?_; rintro r w3 ⟨rfl, hb3⟩)
      go_roundw
      case rel => exact ⟨k + 1, by omega, by go_num, by rw [hacc.out], hbr.trans (hb3.mono hbr.size)⟩
      case measure => simp [intOf]; omega
    · obtain rfl : k = acc.length := by omega
      go_wp2_with fail
      go_ret
      exact ⟨ret_str (by unfold listingP; rw [Hlen.out]), hbr⟩
end Go.Proofs.YthdmbbfaphipkaaGreatDoor
/- The document's session (promptref: Consult): it adds the clauses that the plain function reads. -/
namespace Go.Proofs.YthdmbbfaphipkaaGreatDoor
open Go.RowKit
theorem cls_join {F : Nat → Prop} {w w1 w5 : World} {y : Nat} {v v1 v2 : Value} {acc acc1 : List (ClV × Rf.Cl)} (hA : ClsAt F w v acc) (hA1 : ClsAt (fun k => w.heap.size ≤ k ∧ k < w1.heap.size) w1 v1 acc1)
    (hk : Kept (fun k => k = y) w w5) (hk1 : Kept (fun k => k = y) w1 w5) (hs : w.heap.size ≤ w1.heap.size) (hy : ¬ F y) (hyl : y < w.heap.size) (hr : RowIs w5 0 114 3 clCells v2 (acc.map (·.1) ++ acc1.map (·.1)))
    (hv2 : ∀ k, v2.ownBlock = some k → w1.heap.size ≤ k) (hnil : acc ++ acc1 = [] → v2 = .slice none 0 0) : ClsAt (fun k => F k ∨ (w.heap.size ≤ k ∧ k < w5.heap.size)) w5 v2 (acc ++ acc1) := by
  have hs5 := hk1.size
  refine ⟨by rw [List.map_append]; exact hr, fun k e => .inr ⟨by have := hv2 k e; omega, (hr.lt k e).2⟩, fun q hq => ?_, hnil⟩
  rcases List.mem_append.1 hq with hq | hq
  · refine ⟨(hA.cls q hq).1.keptBy hk (fun k hk1 hF => ⟨fun e => hy (e ▸ hF.1), .inl hF.1, fun e => ?_⟩), (hA.cls q hq).2⟩
    have := hv2 k e; omega
  · refine ⟨(hA1.cls q hq).1.keptBy hk1 (fun k hk1 hF => ⟨fun e => ?_, .inr ⟨hF.1.1, by omega⟩, fun e => ?_⟩), (hA1.cls q hq).2⟩
    · have := hF.1.1; omega
    · have := hv2 k e; omega
/-- A session of the document's: block y, not among F, where its clauses lie. -/
structure RsAt (F : Nat → Prop) (w : World) (y : Nat) (cls : List Rf.Cl) : Prop where
  ex : ∃ vC lim live vN vG vT vH fr, RsB w y vC lim live vN vG vT vH fr ∧ Cls30 F w vC cls
  apart : ¬ F y
theorem ClsAt.weak {F F' : Nat → Prop} {w w' : World} {y : Nat} {v : Value} {acc : List (ClV × Rf.Cl)} (h : ClsAt F w v acc) (hk : Kept (fun k => k = y) w w') (hy : ¬ F y) (hF : ∀ k, F k → F' k) : ClsAt F' w' v acc :=
  ⟨h.row.keptBy hk (fun k e e2 => hy (e2 ▸ h.rowF k e)), fun k e => hF k (h.rowF k e), fun q hq => ⟨(h.cls q hq).1.keptBy hk (fun k _ hk1 => ⟨fun e => hy (e ▸ hk1.1), hF k hk1.1, hk1.2⟩), (h.cls q hq).2⟩, h.none⟩
theorem RsAt.kept {F F' : Nat → Prop} {w w' : World} {y : Nat} {vC : Value} {lim : Int} {live : Bool} {vN vG vT vH : Value} {fr : Int} {cls : List Rf.Cl} (hC : Cls30 F w vC cls) (hy : ¬ F y) (hk : Kept (fun k => k = y) w w') (hB : RsB w' y vC lim live vN vG vT vH fr) (hF : ∀ k, F k → F' k) (hy' : ¬ F' y) : RsAt F' w' y cls := by
  obtain ⟨acc, h1, h2, h3⟩ := hC.ex
  exact ⟨⟨vC, lim, live, vN, vG, vT, vH, fr, hB, ⟨acc, h1.weak hk hy hF, h2, h3⟩, hC.good⟩, hy'⟩
def ConsultPost (F : Nat → Prop) (w : World) (y : Nat) (cls : List Rf.Cl) (s : ByteArray) (r : Ending) (w' : World) : Prop :=
  r = .returned (.tuple #[.int .i64 (consultP cls s).1.1, .int .i64 (consultP cls s).1.2]) ∧ Kept (fun k => k = y) w w' ∧ RsAt (fun k => F k ∨ (w.heap.size ≤ k ∧ k < w'.heap.size)) w' y (consultP cls s).2
set_option maxHeartbeats 1000000 in
theorem consult_err (F : Nat → Prop) (w : World) (y : Nat) (cls : List Rf.Cl) (s : ByteArray) (h : RsAt F w y cls) (hm : s.size ≤ maxLen) (e : Int) (q : Nat) (hr : Rf.readS s = .error (e, q)) :
    Calls Tryz.prog 26 #[.pointer (some ⟨y, 0, none⟩), .string s] w fun r w' => ConsultPost F w y cls s r w' := by
  obtain ⟨⟨vC, lim, live, vN, vG, vT, vH, fr, hB, hC⟩, hy⟩ := h
  have hS : Hid (consultP cls s = ((e, q), cls)) := by unfold Hid consultP; rw [hr]
  have HR : Hid _ := hr
  have HC : Hid _ := hC
  have HB : Hid _ := hB
  have k2 : w.cell? ⟨y, 2, none⟩ = some (.bool live) := blk_cell hB 2
  have kf := blk_frozen hB
  have hyl := blk_lt hB
  clear hr hC hB
  go_enter Tryz.func26, Tryz.ntmps26
  go_wp2_with (go_at_call 42; refine (clauses_any s _ hm).mono ?_; rintro r w1 ⟨hb1, hP⟩; rw [HR.out] at hP; obtain ⟨rfl, hne⟩ := hP; have he : (e != 0) = true := (by rw [bne_iff_ne]; exact hne))
  go_ret2
  have hk : Kept (fun k => k = y) w w1 := ((Kept.refl (fun k => k = y) w).setCell (p := ⟨y, 2, none⟩) (.inr rfl) _).trans (Kept.of_below hb1 (fun k => k = y)) (fun _ _ e => e)
  unfold ConsultPost
  rw [hS.out]
  exact ⟨rfl, hk, RsAt.kept HC.out hy hk ((hb1.block y (by simpa [World.setCell] using hyl)).trans (blk_set HB.out 2 _)) (fun k x => .inl x) (notF hy hyl)⟩
set_option maxHeartbeats 1000000 in
theorem consult_full (F : Nat → Prop) (w : World) (y : Nat) (cls : List Rf.Cl) (s : ByteArray) (h : RsAt F w y cls) (hm : s.size ≤ maxLen) (new : List Rf.Cl) (hr : Rf.readS s = .ok new) (hf : 30 < cls.length + new.length) (hnl : new.length ≤ 402) :
    Calls Tryz.prog 26 #[.pointer (some ⟨y, 0, none⟩), .string s] w fun r w' => ConsultPost F w y cls s r w' := by
  obtain ⟨⟨vC, lim, live, vN, vG, vT, vH, fr, hB, hC⟩, hy⟩ := h
  obtain ⟨acc, hA, hcls, h30⟩ := hC.ex
  have hlen : cls.length = acc.length := by rw [hcls, List.length_map]
  obtain ⟨a, c, rfl⟩ : ∃ a c, vC = .slice a acc.length c := by
    rcases hA.row.shape with ⟨e, hnil⟩ | ⟨gv, cv, e, _⟩
    · have h7 := congrArg List.length hnil
      rw [List.length_map, List.length_nil] at h7
      exact ⟨none, 0, by rw [e, h7]⟩
    · rw [List.length_map] at e
      exact ⟨_, _, e⟩
  have Hlen : Hid _ := hlen
  have Hcls : Hid _ := hcls
  have HA : Hid _ := hA
  have HR : Hid _ := hr
  have HC : Hid _ := hC
  have HB : Hid _ := hB
  have k0 : w.cell? ⟨y, 0, none⟩ = some (.slice a acc.length c) := blk_cell hB 0
  have k2 : w.cell? ⟨y, 2, none⟩ = some (.bool live) := blk_cell hB 2
  have kf := blk_frozen hB
  have hyl := blk_lt hB
  have hS : Hid (consultP cls s = ((6, 0), cls)) := by unfold Hid consultP; rw [hr]; simp only []; rw [if_pos hf]
  clear hr hC hB hA hcls hlen
  go_enter Tryz.func26, Tryz.ntmps26
  go_wp2_with (go_at_call 42; refine (clauses_any s _ hm).mono ?_; rintro r w1 ⟨hb1, hP⟩; rw [HR.out] at hP; obtain ⟨v1, acc1, rfl, hA1, hnew⟩ := hP; obtain ⟨a1, c1, rfl⟩ : ∃ a1 c1, v1 = .slice a1 acc1.length c1 := (by rcases hA1.row.shape with ⟨e, hnil⟩ | ⟨gv, cv, e, _⟩; have h7 := congrArg List.length hnil; rw [List.length_map, List.length_nil] at h7; exact ⟨none, 0, by rw [e, h7]⟩; rw [List.length_map] at e; exact ⟨_, _, e⟩); have Hnew : Hid _ := hnew; clear hnew; have hB1 : RsB w1 y _ _ _ _ _ _ _ _ := (hb1.block y (by simpa [World.setCell] using hyl)).trans (blk_set HB.out 2 _); have q0 : w1.cell? ⟨y, 0, none⟩ = some (.slice a acc.length c) := blk_cell hB1 0; have qf := blk_frozen hB1; have hl1 : Hid (new.length = acc1.length) := (by unfold Hid; rw [Hnew.out, List.length_map]); have hs1 : w.heap.size ≤ w1.heap.size := (by have := hb1.size; simpa [World.setCell] using this); have hbig : (30 : Int) < (acc.length : Int) + acc1.length := (by have := hl1.out; have := Hlen.out; omega); have hsm : acc1.length ≤ 402 := (by have := hl1.out; omega))
  go_ret2
  have hk : Kept (fun k => k = y) w w1 := ((Kept.refl (fun k => k = y) w).setCell (p := ⟨y, 2, none⟩) (.inr rfl) _).trans (Kept.of_below hb1 (fun k => k = y)) (fun _ _ e => e)
  unfold ConsultPost
  rw [hS.out]
  exact ⟨rfl, hk, RsAt.kept HC.out hy hk hB1 (fun k x => .inl x) (notF hy hyl)⟩
end Go.Proofs.YthdmbbfaphipkaaGreatDoor
