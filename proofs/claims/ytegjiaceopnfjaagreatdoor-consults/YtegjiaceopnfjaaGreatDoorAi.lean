/- How the document writes a clause (promptref: Line): the plain function's line. -/
import Derived.Test.YtegjiaceopnfjaaGreatDoorAh
namespace Go.Proofs.YtegjiaceopnfjaaGreatDoor
open Go.RowKit
/-- A clause whose parts are good and not too many. -/
def GoodC (cl : Rf.Cl) : Prop := (∀ x ∈ cl.head, Rf.Good x) ∧ cl.head.length ≤ 100000 ∧ (∀ q ∈ cl.body, (∀ x ∈ q, Rf.Good x) ∧ q.length ≤ 100000)
set_option maxHeartbeats 1000000 in
set_option maxRecDepth 100000 in
theorem line_any (F : Nat → Prop) (w : World) (p : Nat) (a : Option Addr) (n c : Nat) (kk : Int) (cl : Rf.Cl) (h : ClAt F w p (.slice a n c) cl) (hg : GoodC cl) (hT : Tab w) :
    Calls Tryz.prog 39 #[.agg #[.pointer (some ⟨p, 0, none⟩), .slice a n c, .int .i64 kk]] w fun r w' => r = .returned (.string (Rf.lineP cl)) ∧ Below w.heap.size w w' := by
  obtain ⟨⟨d, hh⟩, acc, hrow, _, hgl, hbody, h8⟩ := h
  obtain ⟨g1, g2, g3⟩ := hg
  have hx : Hid (Rf.lineP cl = Rf.accL (Rf.txt cl.head) (acc.map (·.2)) acc.length ++ ⟨#[46, 10]⟩) := by unfold Hid Rf.lineP; rw [hbody, List.length_map]
  have hq : ∀ q ∈ acc, (∀ x ∈ q.2, Rf.Good x) ∧ q.2.length ≤ 100000 := fun q hq => g3 q.2 (by rw [hbody]; exact List.mem_map_of_mem hq)
  have hhs : (Rf.txt cl.head).size ≤ 2300000 := by have := Rf.txt_size cl.head g1; omega
  have hsz : ∀ k, k ≤ acc.length → (Rf.accL (Rf.txt cl.head) (acc.map (·.2)) k).size ≤ 2300000 + 8 * 2300002 := fun k hk => by
    have h5 := Rf.accL_size (Rf.txt cl.head) (acc.map (·.2)) 2300000 (fun q hq' => by
      obtain ⟨x, hx', rfl⟩ := List.mem_map.1 hq'
      have := Rf.txt_size x.2 (hq x hx').1
      have := (hq x hx').2
      omega) k (by simpa using hk)
    have h6 : k * (2300000 + 2) ≤ 8 * (2300000 + 2) := Nat.mul_le_mul_right _ (by omega)
    omega
  have hn : n = acc.length := by
    rcases hrow.shape with ⟨e, hnil⟩ | ⟨gv, cv, e, _⟩
    · have h7 := congrArg List.length hnil
      rw [List.length_map, List.length_nil] at h7
      injection e with _ e2 _
      omega
    · rw [List.length_map] at e
      injection e
  subst hn
  have Hsz : Hid _ := hsz
  have Hq : Hid _ := hq
  have Hrow : Hid _ := hrow
  have Hh : Hid _ := hh
  have Hgl : Hid _ := hgl
  have HT : Hid _ := hT
  have G1 : Hid _ := g1
  clear hsz hq hrow hh hgl hT hbody g1 g3
  generalize Rf.lineP cl = LP at *
  generalize cl.head = hd at *
  go_enter Tryz.func39, Tryz.ntmps39
  go_wp2_with (first
    | (go_at_call 54; refine (letters_any _).mono ?_; rintro r w1 ⟨vl, rfl, hl, hb1⟩; obtain ⟨gl, cl', rfl, _⟩ := hl.shape.resolve_left (fun x => by have := congrArg List.length x.2; simp [lettersL] at this); have hs1 : w.heap.size + 1 ≤ w1.heap.size := (by have := hb1.size; simpa using this); have hb1' : Below w.heap.size w w1 := ((Below.refl _ w).alloc (Nat.le_refl _) _).trans (hb1.mono (by simp)); have hX1 := (hb1.block w.heap.size (by simp)).trans (blk_new _ _); have x0 : w1.cell? ⟨w.heap.size, 0, none⟩ = some (.pointer (some ⟨p, 0, none⟩)) := blk_cell hX1 0; have x1 : w1.cell? ⟨w.heap.size, 1, none⟩ = some (.slice a acc.length c) := blk_cell hX1 1)
    | (go_at_call 55; refine (written_any d F _ p hd gl _ cl' _ (TermAt.keptBy (F' := F) (Kept.of_below hb1' (fun _ => False)) (fun _ _ hF => ⟨fun e => e, hF⟩) Hh.out) G1.out g2 hl (by simp [lettersL]) (Tab.below HT.out hb1')).mono ?_; rintro r w2 ⟨rfl, hb2⟩))
  have hb12 := hb1'.size
  go_loopw [4, 5, 6] (fun sv iv _ wr => ∃ k : Nat, k ≤ acc.length ∧ iv = .int .i64 k ∧ sv = .string (Rf.accL (Rf.txt hd) (acc.map (·.2)) k) ∧ Below w1.heap.size w1 wr) (fun _ iv _ _ => acc.length - (intOf iv).toNat)
  case atStart => exact ⟨0, by omega, rfl, rfl, hb2⟩
  case round =>
    obtain ⟨k, hk, rfl, rfl, hbr⟩ := hrel
    have hXr := (hbr.block w.heap.size (by omega)).trans hX1
    have y1 : wr.cell? ⟨w.heap.size, 1, none⟩ = some (.slice a acc.length c) := blk_cell hXr 1
    have hbw : Below w.heap.size w wr := hb1'.trans (hbr.mono hb12)
    clear x0 x1 hXr
    by_cases hlt : k < acc.length
    · obtain ⟨gv, rfl⟩ : ∃ gv, a = some ⟨gv, 0, none⟩ := by
        rcases Hrow.out.shape with ⟨_, hnil⟩ | ⟨gv, cv, e, _⟩
        · have h7 := congrArg List.length hnil
          rw [List.length_map, List.length_nil] at h7
          omega
        · injection e with e1 _ _; exact ⟨gv, e1⟩
      have hmem : acc[k] ∈ acc := List.getElem_mem hlt
      have hcell := (Hrow.out.below hbw).cells goalCells_len k acc[k].1 (by simp [hlt]) 0 _ rfl
      simp only [Nat.add_zero] at hcell
      have hgo := (Hgl.out _ hmem).keptBy (F' := F) (Kept.of_below hbw (fun _ => False)) (fun _ _ hF => ⟨fun e => e, hF⟩)
      have hgd := (Hq.out _ hmem).1
      have hld := (Hq.out _ hmem).2
      have ht1 := Rf.txt_size _ hgd
      have ht2 : (Rf.txt acc[k].2).size ≤ 2300000 := by omega
      have ht3 := Hsz.out k (by omega)
      clear ht1
      have hg2 : (acc.map (·.2)).getD k [] = acc[k].2 := by simp [hlt]
      have hacc : Hid (Rf.accL (Rf.txt hd) (acc.map (·.2)) (k + 1) = if k = 0 then (Rf.txt hd ++ ⟨#[58, 45]⟩) ++ Rf.txt acc[k].2 else (Rf.accL (Rf.txt hd) (acc.map (·.2)) k ++ ⟨#[44]⟩) ++ Rf.txt acc[k].2) := by
        unfold Hid; rw [Rf.accL]
        split
        · rename_i h0; subst h0; rw [hg2]
        · rw [hg2]
      clear hg2 hmem
      have Hgd : Hid _ := hgd
      clear hgd
      generalize acc[k] = q at *
      obtain ⟨qx, qp⟩ := q
      simp only at hcell hgo ht2 hacc Hgd hld
      have hz40 : (⟨#[58, 45]⟩ : ByteArray).size = 2 := rfl
      have hz44 : (⟨#[44]⟩ : ByteArray).size = 1 := rfl
      have ht4 : (Rf.accL (Rf.txt hd) (acc.map (·.2)) k ++ ⟨#[44]⟩).size ≤ 2300001 + 8 * 2300002 := by rw [ByteArray.size_append]; omega
      have ht5 : (Rf.accL (Rf.txt hd) (acc.map (·.2)) k ++ ⟨#[58, 45]⟩).size ≤ 2300002 + 8 * 2300002 := by rw [ByteArray.size_append]; omega
      have hz33 : (⟨#[33]⟩ : ByteArray).size = 1 := rfl
      rcases hgo with ⟨e, e2⟩ | ⟨qq, e, ⟨d2, hTq⟩, _⟩
      · injection e with e
        subst e
        have htx : Hid (Rf.txt qp = ⟨#[33]⟩) := by unfold Hid; rw [e2]; simp [Rf.txt, Rf.textP, Rf.closeP, Rf.wordP, Rf.app_emp]
        clear e2
        by_cases hk0 : k = 0
        · subst hk0
          go_wp2_with fail
          go_roundw
          case rel => exact ⟨1, by omega, rfl, by rw [hacc.out, htx.out]; simp [Rf.accL], hbr⟩
          case measure => simp [intOf]; omega
        · have hkb : ((k : Int) == 0) = false := by rw [beq_eq_false_iff_ne]; omega
          go_wp2_with fail
          go_roundw
          case rel => exact ⟨k + 1, by omega, by go_num, by rw [hacc.out, if_neg hk0, htx.out], hbr⟩
          case measure => simp [intOf]; omega
      · injection e with e
        subst e
        have HTq : Hid _ := hTq
        clear hTq
        by_cases hk0 : k = 0
        · subst hk0
          go_wp2_with (go_at_call 55; refine (written_any d2 F _ qq qp gl _ cl' _ HTq.out Hgd.out hld (hl.below hbr) (by simp [lettersL]) (Tab.below HT.out hbw)).mono ?_; rintro r w3 ⟨rfl, hb3⟩)
          go_roundw
          case rel => exact ⟨1, by omega, rfl, by rw [hacc.out]; simp [Rf.accL], hbr.trans (hb3.mono hbr.size)⟩
          case measure => simp [intOf]; omega
        · have hkb : ((k : Int) == 0) = false := by rw [beq_eq_false_iff_ne]; omega
          go_wp2_with (go_at_call 55; refine (written_any d2 F _ qq qp gl _ cl' _ HTq.out Hgd.out hld (hl.below hbr) (by simp [lettersL]) (Tab.below HT.out hbw)).mono ?_; rintro r w3 ⟨rfl, hb3⟩)
          go_roundw
          case rel => exact ⟨k + 1, by omega, by go_num, by rw [hacc.out, if_neg hk0], hbr.trans (hb3.mono hbr.size)⟩
          case measure => simp [intOf]; omega
    · obtain rfl : k = acc.length := by omega
      have ht3 := Hsz.out _ (Nat.le_refl _)
      have hz46 : (⟨#[46, 10]⟩ : ByteArray).size = 2 := rfl
      go_wp2_with fail
      go_ret
      exact ⟨ret_str hx.out.symm, hbw⟩
end Go.Proofs.YtegjiaceopnfjaaGreatDoor
/- The document's session (promptref: New, Listing): how it lies in memory, and the plain function's listing. -/
namespace Go.Proofs.YtegjiaceopnfjaaGreatDoor
open Go.RowKit
/-- Block y holds a session of the document's: its clauses' row vC, its limit, whether a question is suspended, and what else it has. -/
def RsB (w : World) (y : Nat) (vC : Value) (lim : Int) (live : Bool) (vN vG vT vH : Value) (fr : Int) : Prop :=
  w.heap[y]? = some (.cells #[vC, .int .i64 lim, .bool live, vN, vG, vT, vH, .int .i64 fr] 60 (0, 0))
/-- A row of at most 30 good clauses. -/
structure Cls30 (F : Nat → Prop) (w : World) (v : Value) (cls : List Rf.Cl) : Prop where
  ex : ∃ acc, ClsAt F w v acc ∧ cls = acc.map (·.2) ∧ acc.length ≤ 30
  good : ∀ c ∈ cls, GoodC c
def accS (cls : List Rf.Cl) : Nat → ByteArray
  | 0 => ⟨#[]⟩
  | k + 1 => accS cls k ++ (match cls[k]? with | some c => Rf.lineP c | none => ⟨#[]⟩)
def listingP (cls : List Rf.Cl) : ByteArray := accS cls cls.length
theorem line_size (c : Rf.Cl) (h : GoodC c) (h8 : c.body.length ≤ 8) : (Rf.lineP c).size ≤ 21000000 := by
  have h1 := Rf.txt_size c.head h.1
  have h2 := h.2.1
  have h3 := Rf.accL_size (Rf.txt c.head) c.body 2300000 (fun q hq => by
    have := Rf.txt_size q (h.2.2 q hq).1
    have := (h.2.2 q hq).2
    omega) c.body.length (Nat.le_refl _)
  have h4 : c.body.length * (2300000 + 2) ≤ 8 * (2300000 + 2) := Nat.mul_le_mul_right _ h8
  have h5 : (⟨#[46, 10]⟩ : ByteArray).size = 2 := rfl
  unfold Rf.lineP
  rw [ByteArray.size_append]
  omega
theorem accS_size (cls : List Rf.Cl) (h : ∀ c ∈ cls, (Rf.lineP c).size ≤ 21000000) : ∀ k, (accS cls k).size ≤ k * 21000000
  | 0 => by simp [accS, ByteArray.size]
  | k + 1 => by
    have ih := accS_size cls h k
    rw [accS, ByteArray.size_append]
    cases hc : cls[k]? with
    | none => simp only []; have h0 : (⟨#[]⟩ : ByteArray).size = 0 := rfl; omega
    | some c =>
      have := h c (List.mem_of_getElem? hc)
      simp only []
      omega
set_option maxHeartbeats 400000 in
theorem new_bad (lim : Int) (w : World) (h : lim < 1 ∨ 1000 < lim) :
    Calls Tryz.prog 8 #[.int .i64 lim] w fun r w' => r = .returned (.tuple #[.pointer none, .bool false]) ∧ w' = w := by
  rcases h with h | h
  · go_enter Tryz.func8, Tryz.ntmps8
    go_wp2
    go_ret2
    exact ⟨rfl, rfl⟩
  · have h1 : 1 ≤ lim := by omega
    go_enter Tryz.func8, Tryz.ntmps8
    go_wp2
    go_ret2
    exact ⟨rfl, rfl⟩
set_option maxHeartbeats 400000 in
theorem new_ok (lim : Int) (w : World) (h : 1 ≤ lim) (h' : lim ≤ 1000) :
    Calls Tryz.prog 8 #[.int .i64 lim] w fun r w' => r = .returned (.tuple #[.pointer (some ⟨w.heap.size, 0, none⟩), .bool true]) ∧ Below w.heap.size w w' ∧ w'.heap.size = w.heap.size + 1 ∧
      RsB w' w.heap.size (.slice none 0 0) lim false (.slice none 0 0) (.slice none 0 0) (.slice none 0 0) (.slice none 0 0) 0 := by
  go_enter Tryz.func8, Tryz.ntmps8
  go_wp2
  go_ret2
  exact ⟨rfl, (Below.refl _ _).alloc (Nat.le_refl _) _, by simp, blk_new _ _⟩
set_option maxHeartbeats 1000000 in
set_option maxRecDepth 100000 in
theorem listing_any (F : Nat → Prop) (w : World) (y : Nat) (vC : Value) (lim : Int) (live : Bool) (vN vG vT vH : Value) (fr : Int) (cls : List Rf.Cl) (hB : RsB w y vC lim live vN vG vT vH fr) (hC : Cls30 F w vC cls) (hT : Tab w) :
    Calls Tryz.prog 29 #[.pointer (some ⟨y, 0, none⟩)] w fun r w' => r = .returned (.string (listingP cls)) ∧ Below w.heap.size w w' := by
  obtain ⟨acc, hA, hcls, h30⟩ := hC.ex
  have hgood := hC.good
  have hlen : cls.length = acc.length := by rw [hcls, List.length_map]
  obtain ⟨a, c, rfl⟩ : ∃ a c, vC = .slice a acc.length c := by
    rcases hA.row.shape with ⟨e, hnil⟩ | ⟨gv, cv, e, _⟩
    · have h7 := congrArg List.length hnil
      rw [List.length_map, List.length_nil] at h7
      exact ⟨none, 0, by rw [e, h7]⟩
    · rw [List.length_map] at e
      exact ⟨_, _, e⟩
  have h8 : ∀ q ∈ acc, q.2.body.length ≤ 8 := fun q hq => by
    obtain ⟨⟨_, ac, _, _, _, hb, h8⟩, _⟩ := hA.cls q hq
    rw [hb, List.length_map]; exact h8
  have hls : ∀ x ∈ cls, (Rf.lineP x).size ≤ 21000000 := fun x hx => line_size x (hgood x hx) (by
    rw [hcls] at hx
    obtain ⟨q, hq, rfl⟩ := List.mem_map.1 hx
    exact h8 q hq)
  have Hls : Hid _ := hls
  have HA : Hid _ := hA
  have HT : Hid _ := hT
  have Hg : Hid _ := hgood
  have HB : Hid _ := hB
  have Hcls : Hid _ := hcls
  have Hlen : Hid _ := hlen
  have k0 : w.cell? ⟨y, 0, none⟩ = some (.slice a acc.length c) := blk_cell hB 0
  clear hls hA hT hgood hB hC hcls h8 hlen
  go_enter Tryz.func29, Tryz.ntmps29
  go_wp2_with fail
  go_loopw [3, 4, 5] (fun sv iv _ wr => ∃ k : Nat, k ≤ acc.length ∧ iv = .int .i64 k ∧ sv = .string (accS cls k) ∧ Below w.heap.size w wr) (fun _ iv _ _ => acc.length - (intOf iv).toNat)
  case atStart => exact ⟨0, by omega, rfl, rfl, Below.refl _ _⟩
  case round =>
    obtain ⟨k, hk, rfl, rfl, hbr⟩ := hrel
    have y0 : wr.cell? ⟨y, 0, none⟩ = some (.slice a acc.length c) := blk_cell ((hbr.block y (blk_lt HB.out)).trans HB.out) 0
    clear k0
    have hs1 := accS_size cls Hls.out k
    have hs2 : (accS cls k).size ≤ 30 * 21000000 := Nat.le_trans hs1 (Nat.mul_le_mul_right _ (by omega))
    clear hs1
    by_cases hlt : k < acc.length
    · obtain ⟨gv, rfl⟩ : ∃ gv, a = some ⟨gv, 0, none⟩ := by
        rcases HA.out.row.shape with ⟨_, hnil⟩ | ⟨gv, cv, e, _⟩
        · have h7 := congrArg List.length hnil
          rw [List.length_map, List.length_nil] at h7
          omega
        · injection e with e1 _ _; exact ⟨gv, e1⟩
      have hmem : acc[k] ∈ acc := List.getElem_mem hlt
      have hc := (HA.out.row.below hbr).cells clCells_len k acc[k].1 (by simp [hlt])
      have c0 := hc 0 _ rfl
      have c1 := hc 1 _ rfl
      have c2 := hc 2 _ rfl
      simp only [Nat.add_zero] at c0
      have hgo := (HA.out.cls _ hmem).1.keptBy (F' := F) (Kept.of_below hbr (fun _ => False)) (fun _ _ hF => ⟨fun e => e, hF.1⟩)
      have hcm : acc[k].2 ∈ cls := by rw [Hcls.out]; exact List.mem_map_of_mem hmem
      have hgd := Hg.out _ hcm
      have hsl := Hls.out _ hcm
      have hacc : Hid (accS cls (k + 1) = accS cls k ++ Rf.lineP acc[k].2) := by
        unfold Hid
        have : cls[k]? = some acc[k].2 := by rw [Hcls.out]; simp [hlt]
        rw [accS, this]
      clear hmem hcm hc
      have Hgo : Hid _ := hgo
      have Hgd : Hid _ := hgd
      clear hgo hgd
      generalize acc[k] = q at *
      obtain ⟨⟨qp, qa, qn, qc, qk⟩, qcl⟩ := q
      simp only at c0 c1 c2 Hgo hsl hacc Hgd
      go_wp2_with (go_at_call 39; refine (line_any F _ qp qa qn qc qk qcl Hgo.out Hgd.out (Tab.below HT.out hbr)).mono ?_; rintro r w3 ⟨rfl, hb3⟩)
      go_roundw
      case rel => exact ⟨k + 1, by omega, by go_num, by rw [hacc.out], hbr.trans (hb3.mono hbr.size)⟩
      case measure => simp [intOf]; omega
    · obtain rfl : k = acc.length := by omega
      go_wp2_with fail
      go_ret
      exact ⟨ret_str (by unfold listingP; rw [Hlen.out]), hbr⟩
end Go.Proofs.YtegjiaceopnfjaaGreatDoor
/- The document's session (promptref: Consult): it adds the clauses that the plain function reads. -/
namespace Go.Proofs.YtegjiaceopnfjaaGreatDoor
open Go.RowKit
theorem cls_join {F : Nat → Prop} {w w1 w5 : World} {y : Nat} {v v1 v2 : Value} {acc acc1 : List (ClV × Rf.Cl)} (hA : ClsAt F w v acc) (hA1 : ClsAt (fun k => w.heap.size ≤ k ∧ k < w1.heap.size) w1 v1 acc1)
    (hk : Kept (fun k => k = y) w w5) (hk1 : Kept (fun k => k = y) w1 w5) (hs : w.heap.size ≤ w1.heap.size) (hy : ¬ F y) (hyl : y < w.heap.size) (hr : RowIs w5 0 102 3 clCells v2 (acc.map (·.1) ++ acc1.map (·.1)))
    (hv2 : ∀ k, v2.ownBlock = some k → w1.heap.size ≤ k) (hnil : acc ++ acc1 = [] → v2 = .slice none 0 0) : ClsAt (fun k => F k ∨ (w.heap.size ≤ k ∧ k < w5.heap.size)) w5 v2 (acc ++ acc1) := by
  have hs5 := hk1.size
  refine ⟨by rw [List.map_append]; exact hr, fun k e => .inr ⟨by have := hv2 k e; omega, (hr.lt k e).2⟩, fun q hq => ?_, hnil⟩
  rcases List.mem_append.1 hq with hq | hq
  · refine ⟨(hA.cls q hq).1.keptBy hk (fun k hk1 hF => ⟨fun e => hy (e ▸ hF.1), .inl hF.1, fun e => ?_⟩), (hA.cls q hq).2⟩
    have := hv2 k e; omega
  · refine ⟨(hA1.cls q hq).1.keptBy hk1 (fun k hk1 hF => ⟨fun e => ?_, .inr ⟨hF.1.1, by omega⟩, fun e => ?_⟩), (hA1.cls q hq).2⟩
    · have := hF.1.1; omega
    · have := hv2 k e; omega
/-- What Consult comes to: the error, the place, and the clauses behind it. -/
def consultP (cls : List Rf.Cl) (s : ByteArray) : (Int × Nat) × List Rf.Cl :=
  match Rf.readS s with
  | .error e => (e, cls)
  | .ok new => if 30 < cls.length + new.length then ((6, 0), cls) else ((0, 0), cls ++ new)
/-- A session of the document's: block y, not among F, where its clauses lie. -/
structure RsAt (F : Nat → Prop) (w : World) (y : Nat) (cls : List Rf.Cl) : Prop where
  ex : ∃ vC lim live vN vG vT vH fr, RsB w y vC lim live vN vG vT vH fr ∧ Cls30 F w vC cls
  apart : ¬ F y
theorem ClsAt.weak {F F' : Nat → Prop} {w w' : World} {y : Nat} {v : Value} {acc : List (ClV × Rf.Cl)} (h : ClsAt F w v acc) (hk : Kept (fun k => k = y) w w') (hy : ¬ F y) (hF : ∀ k, F k → F' k) : ClsAt F' w' v acc :=
  ⟨h.row.keptBy hk (fun k e e2 => hy (e2 ▸ h.rowF k e)), fun k e => hF k (h.rowF k e), fun q hq => ⟨(h.cls q hq).1.keptBy hk (fun k _ hk1 => ⟨fun e => hy (e ▸ hk1.1), hF k hk1.1, hk1.2⟩), (h.cls q hq).2⟩, h.none⟩
theorem RsAt.kept {F F' : Nat → Prop} {w w' : World} {y : Nat} {vC : Value} {lim : Int} {live : Bool} {vN vG vT vH : Value} {fr : Int} {cls : List Rf.Cl} (hC : Cls30 F w vC cls) (hy : ¬ F y) (hk : Kept (fun k => k = y) w w') (hB : RsB w' y vC lim live vN vG vT vH fr) (hF : ∀ k, F k → F' k) (hy' : ¬ F' y) : RsAt F' w' y cls := by
  obtain ⟨acc, h1, h2, h3⟩ := hC.ex
  exact ⟨⟨vC, lim, live, vN, vG, vT, vH, fr, hB, ⟨acc, h1.weak hk hy hF, h2, h3⟩, hC.good⟩, hy'⟩
def ConsultPost (F : Nat → Prop) (w : World) (y : Nat) (cls : List Rf.Cl) (s : ByteArray) (r : Ending) (w' : World) : Prop :=
  r = .returned (.tuple #[.int .i64 (consultP cls s).1.1, .int .i64 (consultP cls s).1.2]) ∧ Kept (fun k => k = y) w w' ∧ RsAt (fun k => F k ∨ (w.heap.size ≤ k ∧ k < w'.heap.size)) w' y (consultP cls s).2
theorem notF {F : Nat → Prop} {w w' : World} {y : Nat} (hy : ¬ F y) (hl : y < w.heap.size) : ¬ (F y ∨ (w.heap.size ≤ y ∧ y < w'.heap.size)) := by
  intro h
  rcases h with h | h
  · exact hy h
  · omega
set_option maxHeartbeats 1000000 in
theorem consult_err (F : Nat → Prop) (w : World) (y : Nat) (cls : List Rf.Cl) (s : ByteArray) (h : RsAt F w y cls) (hm : s.size ≤ maxLen) (e : Int) (q : Nat) (hr : Rf.readS s = .error (e, q)) :
    Calls Tryz.prog 26 #[.pointer (some ⟨y, 0, none⟩), .string s] w fun r w' => ConsultPost F w y cls s r w' := by
  obtain ⟨⟨vC, lim, live, vN, vG, vT, vH, fr, hB, hC⟩, hy⟩ := h
  have hS : Hid (consultP cls s = ((e, q), cls)) := by unfold Hid consultP; rw [hr]
  have HR : Hid _ := hr
  have HC : Hid _ := hC
  have HB : Hid _ := hB
  have k2 : w.cell? ⟨y, 2, none⟩ = some (.bool live) := blk_cell hB 2
  have kf := blk_frozen hB
  have hyl := blk_lt hB
  clear hr hC hB
  go_enter Tryz.func26, Tryz.ntmps26
  go_wp2_with (go_at_call 33; refine (clauses_any s _ hm).mono ?_; rintro r w1 ⟨hb1, hP⟩; rw [HR.out] at hP; obtain ⟨rfl, hne⟩ := hP; have he : (e != 0) = true := (by rw [bne_iff_ne]; exact hne))
  go_ret2
  have hk : Kept (fun k => k = y) w w1 := ((Kept.refl (fun k => k = y) w).setCell (p := ⟨y, 2, none⟩) (.inr rfl) _).trans (Kept.of_below hb1 (fun k => k = y)) (fun _ _ e => e)
  unfold ConsultPost
  rw [hS.out]
  exact ⟨rfl, hk, RsAt.kept HC.out hy hk ((hb1.block y (by simpa [World.setCell] using hyl)).trans (blk_set HB.out 2 _)) (fun k x => .inl x) (notF hy hyl)⟩
set_option maxHeartbeats 1000000 in
theorem consult_full (F : Nat → Prop) (w : World) (y : Nat) (cls : List Rf.Cl) (s : ByteArray) (h : RsAt F w y cls) (hm : s.size ≤ maxLen) (new : List Rf.Cl) (hr : Rf.readS s = .ok new) (hf : 30 < cls.length + new.length) (hnl : new.length ≤ 402) :
    Calls Tryz.prog 26 #[.pointer (some ⟨y, 0, none⟩), .string s] w fun r w' => ConsultPost F w y cls s r w' := by
  obtain ⟨⟨vC, lim, live, vN, vG, vT, vH, fr, hB, hC⟩, hy⟩ := h
  obtain ⟨acc, hA, hcls, h30⟩ := hC.ex
  have hlen : cls.length = acc.length := by rw [hcls, List.length_map]
  obtain ⟨a, c, rfl⟩ : ∃ a c, vC = .slice a acc.length c := by
    rcases hA.row.shape with ⟨e, hnil⟩ | ⟨gv, cv, e, _⟩
    · have h7 := congrArg List.length hnil
      rw [List.length_map, List.length_nil] at h7
      exact ⟨none, 0, by rw [e, h7]⟩
    · rw [List.length_map] at e
      exact ⟨_, _, e⟩
  have Hlen : Hid _ := hlen
  have Hcls : Hid _ := hcls
  have HA : Hid _ := hA
  have HR : Hid _ := hr
  have HC : Hid _ := hC
  have HB : Hid _ := hB
  have k0 : w.cell? ⟨y, 0, none⟩ = some (.slice a acc.length c) := blk_cell hB 0
  have k2 : w.cell? ⟨y, 2, none⟩ = some (.bool live) := blk_cell hB 2
  have kf := blk_frozen hB
  have hyl := blk_lt hB
  have hS : Hid (consultP cls s = ((6, 0), cls)) := by unfold Hid consultP; rw [hr]; simp only []; rw [if_pos hf]
  clear hr hC hB hA hcls hlen
  go_enter Tryz.func26, Tryz.ntmps26
  go_wp2_with (go_at_call 33; refine (clauses_any s _ hm).mono ?_; rintro r w1 ⟨hb1, hP⟩; rw [HR.out] at hP; obtain ⟨v1, acc1, rfl, hA1, hnew⟩ := hP; obtain ⟨a1, c1, rfl⟩ : ∃ a1 c1, v1 = .slice a1 acc1.length c1 := (by rcases hA1.row.shape with ⟨e, hnil⟩ | ⟨gv, cv, e, _⟩; have h7 := congrArg List.length hnil; rw [List.length_map, List.length_nil] at h7; exact ⟨none, 0, by rw [e, h7]⟩; rw [List.length_map] at e; exact ⟨_, _, e⟩); have Hnew : Hid _ := hnew; clear hnew; have hB1 : RsB w1 y _ _ _ _ _ _ _ _ := (hb1.block y (by simpa [World.setCell] using hyl)).trans (blk_set HB.out 2 _); have q0 : w1.cell? ⟨y, 0, none⟩ = some (.slice a acc.length c) := blk_cell hB1 0; have qf := blk_frozen hB1; have hl1 : Hid (new.length = acc1.length) := (by unfold Hid; rw [Hnew.out, List.length_map]); have hs1 : w.heap.size ≤ w1.heap.size := (by have := hb1.size; simpa [World.setCell] using this); have hbig : (30 : Int) < (acc.length : Int) + acc1.length := (by have := hl1.out; have := Hlen.out; omega); have hsm : acc1.length ≤ 402 := (by have := hl1.out; omega))
  go_ret2
  have hk : Kept (fun k => k = y) w w1 := ((Kept.refl (fun k => k = y) w).setCell (p := ⟨y, 2, none⟩) (.inr rfl) _).trans (Kept.of_below hb1 (fun k => k = y)) (fun _ _ e => e)
  unfold ConsultPost
  rw [hS.out]
  exact ⟨rfl, hk, RsAt.kept HC.out hy hk hB1 (fun k x => .inl x) (notF hy hyl)⟩
end Go.Proofs.YtegjiaceopnfjaaGreatDoor
