
import Derived.Test.YtbiojnljihgpoaaGreatDoorZat
import Derived.Test.YtbiojnljihgpoaaGreatDoorZab
import Derived.Test.YtbiojnljihgpoaaGreatDoorZas
namespace Go.Proofs.YtbiojnljihgpoaaGreatDoor
open Go.RowKit
def lineQ (c : Rf.Cl) : ByteArray := Rf.accL (Rf.txt c.head) c.body c.body.length ++ ⟨#[46]⟩
theorem lineQ_P (c : Rf.Cl) : lineQ c ++ ⟨#[10]⟩ = Rf.lineP c := by
 unfold lineQ Rf.lineP
 rw [ByteArray.append_assoc]
 rfl
set_option maxHeartbeats 2000000 in
set_option maxRecDepth 100000 in
theorem ctext_any (F : Nat -> Prop) (w : World) (hx bx : SlV) (cl : Rf.Cl) (h : PClAt F w hx bx cl) (hg : GoodC cl) (ha : Rf.ArgCl cl) (hT : Tab w) :
  Calls Tryz.prog 23 #[.agg #[.slice hx.a hx.n hx.c, .slice bx.a bx.n bx.c]] w fun r w' => r = .returned (.string (lineQ cl)) /\ Below w.heap.size w w' := by
 obtain ⟨hh, acc, hrow, _, hgl, hbody, h8⟩ := h
 obtain ⟨g1, g2, g3⟩ := hg
 obtain ⟨ha1, ha2⟩ := ha
 obtain ⟨ah, nh, ch⟩ := hx
 obtain ⟨ab, nb, cb⟩ := bx
 have hxx : Hid (lineQ cl = Rf.accL (Rf.txt cl.head) (acc.map (·.2)) acc.length ++ ⟨#[46]⟩) := by unfold Hid lineQ; rw [hbody, List.length_map]
 have hq : ∀ q ∈ acc, (∀ x ∈ q.2, Rf.Good x) /\ q.2.length <= 100000 := fun q hq => g3 q.2 (by rw [hbody]; exact List.mem_map_of_mem hq)
 have hqa : ∀ q ∈ acc, ∀ x ∈ q.2, Rf.ArgOk x := fun q hq => ha2 q.2 (by rw [hbody]; exact List.mem_map_of_mem hq)
 have hhs : (Rf.txt cl.head).size <= 2300000 := by have := Rf.txt_size cl.head g1; omega
 have hsz : ∀ k, k <= acc.length -> (Rf.accL (Rf.txt cl.head) (acc.map (·.2)) k).size <= 2300000 + 8 * 2300002 := fun k hk => by
  have h5 := Rf.accL_size (Rf.txt cl.head) (acc.map (·.2)) 2300000 (fun q hq' => by
   obtain ⟨x, hx', rfl⟩ := List.mem_map.1 hq'
   have := Rf.txt_size x.2 (hq x hx').1
   have := (hq x hx').2
   omega) k (by simpa using hk)
  have h6 : k * (2300000 + 2) <= 8 * (2300000 + 2) := Nat.mul_le_mul_right _ (by omega)
  omega
 have hn : nb = acc.length := by have := row_len hrow; rw [List.length_map] at this; exact this
 subst hn
 have Hsz : Hid _ := hsz
 have Hq : Hid _ := hq
 have Hqa : Hid _ := hqa
 have Hrow : Hid _ := hrow
 have Hh : Hid _ := hh
 have Hgl : Hid _ := hgl
 have HT : Hid _ := hT
 have G1 : Hid _ := g1
 have A1 : Hid _ := ha1
 clear hsz hq hqa hrow hh hgl hT hbody g1 g3 ha1 ha2
 generalize lineQ cl = LP at *
 generalize cl.head = hd at *
 go_enter Tryz.func23, Tryz.ntmps23
 go_wp2_with (go_at_call 34; refine (text_any F _ ah nh ch hd (PT.keptBy (F' := F) Hh.out ((Kept.refl (fun _ => False) w).alloc _) (fun _ _ hF => ⟨fun e => e, hF⟩)) G1.out A1.out g2 (Tab.below HT.out ((Below.refl _ w).alloc (Nat.le_refl _) _))).mono ?_; rintro r w1 ⟨rfl, hb1⟩; have hb1' : Below w.heap.size w w1 := ((Below.refl _ w).alloc (Nat.le_refl _) _).trans (hb1.mono (by simp)); have hX1 := (hb1.block w.heap.size (by simp)).trans (blk_new _ _); have x1 : w1.cell? ⟨w.heap.size, 1, none⟩ = some (.slice ab acc.length cb) := blk_cell hX1 1)
 clear hX1 x1
 go_loopw [3, 12] (fun sv iv wr => ∃ k : Nat, k <= acc.length /\ iv = .int .i64 k /\ sv = .string (Rf.accL (Rf.txt hd) (acc.map (·.2)) k) /\ Below w.heap.size w wr) (fun _ iv _ => acc.length - (intOf iv).toNat)
 case atStart => exact ⟨0, by omega, rfl, rfl, hb1'⟩
 case round =>
  obtain ⟨k, hk, rfl, rfl, hbw⟩ := hrel
  have hcar : (acc.length : Int) <= 8 := by omega
  have ht3 := Hsz.out k hk
  by_cases hlt : k < acc.length
  ·obtain ⟨gv, rfl⟩ : ∃ gv, ab = some ⟨gv, 0, none⟩ := by
    rcases Hrow.out.shape with ⟨_, hnil⟩ | ⟨gv, cv, e, _⟩
    ·have h7 := congrArg List.length hnil
     rw [List.length_map, List.length_nil] at h7
     omega
    ·injection e with e1 _ _; exact ⟨gv, e1⟩
   have hmem : acc[k] ∈ acc := List.getElem_mem hlt
   have hcell := (Hrow.out.below hbw).cells slCells_len k acc[k].1 (by simp [hlt]) 0 _ rfl
   simp only [Nat.add_zero, Nat.mul_one] at hcell
   have hgo := (Hgl.out _ hmem).keptBy (F' := F) (Kept.of_below hbw (fun _ => False)) (fun _ _ hF => ⟨fun e => e, hF⟩)
   have hgd := (Hq.out _ hmem).1
   have hld := (Hq.out _ hmem).2
   have hga := Hqa.out _ hmem
   have ht1 := Rf.txt_size _ hgd
   have ht2 : (Rf.txt acc[k].2).size <= 2300000 := by omega
   clear ht1
   have hg2 : (acc.map (·.2)).getD k [] = acc[k].2 := by simp [hlt]
   have hacc : Hid (Rf.accL (Rf.txt hd) (acc.map (·.2)) (k + 1) = if k = 0 then (Rf.txt hd ++ ⟨#[58, 45]⟩) ++ Rf.txt acc[k].2 else (Rf.accL (Rf.txt hd) (acc.map (·.2)) k ++ ⟨#[44]⟩) ++ Rf.txt acc[k].2) := by
    unfold Hid; rw [Rf.accL]
    split
    ·rename_i h0; subst h0; rw [hg2]
    ·rw [hg2]
   clear hg2 hmem
   have Hgd : Hid _ := hgd
   have Hga : Hid _ := hga
   clear hgd hga
   generalize acc[k] = q at *
   obtain ⟨⟨qa, qn, qc⟩, qp⟩ := q
   have hcell2 : wr.cell? ⟨gv, k, none⟩ = some (.slice qa qn qc) := hcell
   have hgo2 : Hid (PT F wr (.slice qa qn qc) qp) := hgo
   simp only at ht2 hacc Hgd Hga hld
   clear hcell hgo
   have hlt' : (k : Int) < acc.length := by omega
   have hz40 : (⟨#[58, 45]⟩ : ByteArray).size = 2 := rfl
   have hz44 : (⟨#[44]⟩ : ByteArray).size = 1 := rfl
   have ht4 : (Rf.accL (Rf.txt hd) (acc.map (·.2)) k ++ ⟨#[44]⟩).size <= 2300001 + 8 * 2300002 := by rw [ByteArray.size_append]; omega
   have ht5 : (Rf.accL (Rf.txt hd) (acc.map (·.2)) k ++ ⟨#[58, 45]⟩).size <= 2300002 + 8 * 2300002 := by rw [ByteArray.size_append]; omega
   by_cases hk0 : k = 0
   ·subst hk0
    go_wp2_with (go_at_call 34; refine (text_any F _ qa qn qc qp hgo2.out Hgd.out Hga.out hld (Tab.below HT.out hbw)).mono ?_; rintro r w2 ⟨rfl, hb2⟩)
    go_roundw
    case rel => exact ⟨1, by omega, rfl, by rw [hacc.out, if_pos trivial]; rfl, hbw.trans (hb2.mono hbw.size)⟩
    case measure => simp [intOf]; omega
   ·have hk0' : ((k : Int) == 0) = false := beq_eq_false_iff_ne.2 (by omega)
    go_wp2_with (go_at_call 34; refine (text_any F _ qa qn qc qp hgo2.out Hgd.out Hga.out hld (Tab.below HT.out hbw)).mono ?_; rintro r w2 ⟨rfl, hb2⟩)
    go_roundw
    case rel => exact ⟨k + 1, by omega, by go_num, by rw [hacc.out, if_neg hk0], hbw.trans (hb2.mono hbw.size)⟩
    case measure => simp [intOf]; omega
  ·obtain rfl : k = acc.length := by omega
   go_wp2_with fail
   go_ret
   exact ⟨ret_str hxx.out.symm, hbw⟩
def PsB (w : World) (x : Nat) (lim : Int) (vC vQ : Value) : Prop :=
 w.heap[x]? = some (.cells #[.int .i64 lim, vC, vQ] 54 (0, 0))
structure PCls30 (F : Nat -> Prop) (w : World) (v : Value) (cls : List Rf.Cl) : Prop where
 ex : ∃ acc, PClsAt F w v acc /\ cls = acc.map (·.2) /\ acc.length <= 30
 good : ∀ c ∈ cls, GoodC c /\ Rf.ArgCl c
theorem lineQ_size (c : Rf.Cl) : (lineQ c).size + 1 = (Rf.lineP c).size := by
 rw [<- lineQ_P, ByteArray.size_append]; rfl
set_option maxHeartbeats 400000 in
theorem pnew_ok (lim : Int) (w : World) (h : 1 <= lim) (h' : lim <= 1000) :
  Calls Tryz.prog 20 #[.int .i64 lim] w fun r w' => r = .returned (.tuple #[.pointer (some ⟨w.heap.size, 0, none⟩), .int .i64 0]) /\ Below w.heap.size w w' /\ w'.heap.size = w.heap.size + 1 /\
   PsB w' w.heap.size lim (.slice none 0 0) (.pointer none) := by
 go_enter Tryz.func20, Tryz.ntmps20
 go_wp2
 go_ret2
 exact ⟨rfl, (Below.refl _ _).alloc (Nat.le_refl _) _, by simp, blk_new _ _⟩
set_option maxHeartbeats 400000 in
theorem pstop_any (x : Nat) (w : World) (h : ∃ lim vC vQ, PsB w x lim vC vQ) : Calls Tryz.prog 29 #[.pointer (some ⟨x, 0, none⟩)] w fun r w' => r = .returned (.tuple #[]) /\ w' = w.setCell ⟨x, 2, none⟩ (.pointer none) := by
 obtain ⟨lim, vC, vQ, hB⟩ := h
 have k2 : w.cell? ⟨x, 2, none⟩ = some vQ := blk_cell hB 2
 have kf := blk_frozen hB
 have hxl := blk_lt hB
 clear hB
 go_enter Tryz.func29, Tryz.ntmps29
 go_wp2
 go_end0
 exact ⟨rfl, rfl⟩
set_option maxHeartbeats 1000000 in
set_option maxRecDepth 100000 in
theorem plisting_any (F : Nat -> Prop) (w : World) (x : Nat) (lim : Int) (vC vQ : Value) (cls : List Rf.Cl) (hB : PsB w x lim vC vQ) (hC : PCls30 F w vC cls) (hT : Tab w) :
  Calls Tryz.prog 17 #[.pointer (some ⟨x, 0, none⟩)] w fun r w' => r = .returned (.string (listingP cls)) /\ Below w.heap.size w w' := by
 obtain ⟨acc, hA, hcls, h30⟩ := hC.ex
 have hgood := hC.good
 have hlen : cls.length = acc.length := by rw [hcls, List.length_map]
 obtain ⟨a, c, hv⟩ := row_slice hA.row
 rw [List.length_map] at hv
 subst hv
 have h8 : ∀ q ∈ acc, q.2.body.length <= 8 := fun q hq => by
  obtain ⟨_, ac, _, _, _, hb, h8⟩ := hA.cls q hq
  rw [hb, List.length_map]; exact h8
 have hls : ∀ x ∈ cls, (Rf.lineP x).size <= 21000000 := fun x hx => line_size x (hgood x hx).1 (by
  rw [hcls] at hx
  obtain ⟨q, hq, rfl⟩ := List.mem_map.1 hx
  exact h8 q hq)
 have Hls : Hid _ := hls
 have HA : Hid _ := hA
 have HT : Hid _ := hT
 have Hg : Hid _ := hgood
 have HB : Hid _ := hB
 have Hcls : Hid _ := hcls
 have Hlen : Hid _ := hlen
 have k1 : w.cell? ⟨x, 1, none⟩ = some (.slice a acc.length c) := blk_cell hB 1
 clear hls hA hT hgood hB hC hcls h8 hlen
 go_enter Tryz.func17, Tryz.ntmps17
 go_wp2_with fail
 go_loopw [3, 5, 13] (fun sv _ iv wr => ∃ k : Nat, k <= acc.length /\ iv = .int .i64 k /\ sv = .string (accS cls k) /\ Below w.heap.size w wr) (fun _ _ iv _ => acc.length - (intOf iv).toNat)
 case atStart => exact ⟨0, by omega, rfl, rfl, Below.refl _ _⟩
 case round =>
  obtain ⟨k, hk, rfl, rfl, hbr⟩ := hrel
  clear k1
  have hszr := hbr.size
  have hs1 := accS_size cls Hls.out k
  have hs2 : (accS cls k).size <= 30 * 21000000 := Nat.le_trans hs1 (Nat.mul_le_mul_right _ (by omega))
  clear hs1
  by_cases hlt : k < acc.length
  ·obtain ⟨gv, rfl⟩ : ∃ gv, a = some ⟨gv, 0, none⟩ := by
    rcases HA.out.row.shape with ⟨_, hnil⟩ | ⟨gv, cv, e, _⟩
    ·have h7 := congrArg List.length hnil
     rw [List.length_map, List.length_nil] at h7
     omega
    ·injection e with e1 _ _; exact ⟨gv, e1⟩
   have hmem : acc[k] ∈ acc := List.getElem_mem hlt
   have hc := (HA.out.row.below hbr).cells pclCells_len k acc[k].1 (by simp [hlt])
   have c0 := hc 0 _ rfl
   have c1 := hc 1 _ rfl
   simp only [Nat.add_zero] at c0
   have hgo := (HA.out.cls _ hmem).keptBy (F' := F) (Kept.of_below hbr (fun _ => False)) (fun _ _ hF => ⟨fun e => e, hF.1⟩)
   have hcm : acc[k].2 ∈ cls := by rw [Hcls.out]; exact List.mem_map_of_mem hmem
   have hgd := Hg.out _ hcm
   have hsl := Hls.out _ hcm
   have hacc : Hid (accS cls (k + 1) = accS cls k ++ (lineQ acc[k].2 ++ ⟨#[10]⟩)) := by
    unfold Hid
    have : cls[k]? = some acc[k].2 := by rw [Hcls.out]; simp [hlt]
    rw [accS, this, lineQ_P]
   have hsq : (lineQ acc[k].2).size <= 21000000 := by have := lineQ_size acc[k].2; omega
   clear hmem hcm hc hsl
   have Hgo : Hid _ := hgo
   have Hgd : Hid _ := hgd
   clear hgo hgd
   generalize acc[k] = q at *
   obtain ⟨⟨⟨ah, nh, ch⟩, ⟨ab, nb, cb⟩⟩, qcl⟩ := q
   simp only at c0 c1 Hgo hsq hacc Hgd
   have d0 : wr.cell? ⟨gv, k * 2, none⟩ = some (.slice ah nh ch) := c0
   have d1 : wr.cell? ⟨gv, k * 2 + 1, none⟩ = some (.slice ab nb cb) := c1
   clear c0 c1
   have hz : (lineQ qcl ++ ⟨#[10]⟩).size <= 21000001 := by rw [ByteArray.size_append]; have : (⟨#[10]⟩ : ByteArray).size = 1 := rfl; omega
   go_wp2_with (go_at_call 23; refine (ctext_any F _ ⟨ah, nh, ch⟩ ⟨ab, nb, cb⟩ qcl (PClAt.keptBy (F' := F) Hgo.out (by repeat'(first|exact kep0 _ _|refine kep1 ?_ ?_ _|refine kep2 ?_|refine kep3 ?_ _|refine kep4 ?_ _|exact Or.inr rfl|exact Or.inr (Or.inl rfl)|(refine Or.inl ?_;simp;done)|(refine Or.inl ?_;simp;omega))) (fun _ _ hF => ⟨fun e => e, hF⟩)) Hgd.out.1 Hgd.out.2 (Tab.below HT.out (hbr.alloc hszr _))).mono ?_; rintro r w3 ⟨rfl, hb3⟩)
   go_roundw
   case rel => exact ⟨k + 1, by omega, by go_num, by rw [hacc.out], (hbr.alloc hszr _).trans (hb3.mono (by simp; omega))⟩
   case measure => simp [intOf]; omega
  ·obtain rfl : k = acc.length := by omega
   go_wp2_with fail
   go_ret
   exact ⟨ret_str (by unfold listingP; rw [Hlen.out]), hbr⟩
theorem pcls_join {F : Nat -> Prop} {w w1 w5 : World} {x : Nat} {v v1 v2 : Value} {acc acc1 : List (PClV × Rf.Cl)} (hA : PClsAt F w v acc) (hA1 : PClsAt (fun k => w.heap.size <= k /\ k < w1.heap.size) w1 v1 acc1)
  (hk : Kept (fun k => k = x \/ v.ownBlock = some k) w w5) (hk1 : Kept (fun k => k = x \/ v.ownBlock = some k) w1 w5) (hs : w.heap.size <= w1.heap.size) (hx : ¬ F x) (hxl : x < w.heap.size) (hr : RowIs w5 0 59 2 pclCells v2 (acc.map (·.1) ++ acc1.map (·.1)))
  (hv2 : ∀ k, v2.ownBlock = some k -> v.ownBlock = some k \/ w1.heap.size <= k) (hnil : acc ++ acc1 = [] -> v2 = .slice none 0 0) : PClsAt (fun k => F k \/ (w.heap.size <= k /\ k < w5.heap.size)) w5 v2 (acc ++ acc1) := by
 have hs5 := hk1.size
 have hvl : ∀ k, v.ownBlock = some k -> k < w.heap.size := fun k e => (hA.row.lt k e).2
 refine ⟨by rw [List.map_append]; exact hr, fun k e => ?_, fun q hq => ?_, hnil⟩
 ·rcases hv2 k e with e2 | e2
  ·exact .inl (hA.rowF k e2)
  ·exact .inr ⟨by omega, (hr.lt k e).2⟩
 ·rcases List.mem_append.1 hq with hq | hq
  ·refine (hA.cls q hq).keptBy hk (fun k hk1 hF => ⟨fun e => ?_, .inl hF.1, fun e => ?_⟩)
   ·rcases e with e | e
    ·exact hx (e ▸ hF.1)
    ·exact hF.2 e
   ·rcases hv2 k e with e2 | e2
    ·exact hF.2 e2
    ·omega
  ·refine (hA1.cls q hq).keptBy hk1 (fun k hk1 hF => ⟨fun e => ?_, .inr ⟨hF.1.1, by omega⟩, fun e => ?_⟩)
   ·rcases e with e | e
    ·have := hF.1.1; omega
    ·have := hvl k e; have := hF.1.1; omega
   ·rcases hv2 k e with e2 | e2
    ·have := hvl k e2; have := hF.1.1; omega
    ·have := hF.1.2; omega
theorem PClsAt.weak {F F' M : Nat -> Prop} {w w' : World} {v : Value} {acc : List (PClV × Rf.Cl)} (h : PClsAt F w v acc) (hk : Kept M w w') (hM : ∀ k, k < w.heap.size -> F k -> ¬ M k) (hF : ∀ k, F k -> F' k) : PClsAt F' w' v acc :=
 ⟨h.row.keptBy hk (fun k e => hM k (h.row.lt k e).2 (h.rowF k e)), fun k e => hF k (h.rowF k e), fun q hq => (h.cls q hq).keptBy hk (fun k hl hk1 => ⟨hM k hl hk1.1, hF k hk1.1, hk1.2⟩), h.none⟩
structure PsL (F : Nat -> Prop) (w : World) (x : Nat) (lim : Int) (vQ : Value) (cls : List Rf.Cl) : Prop where
 ex : ∃ vC, PsB w x lim vC vQ /\ PCls30 F w vC cls
 apart : ¬ F x
theorem PsL.keptC {F F' M : Nat -> Prop} {w w' : World} {x : Nat} {vC vQ : Value} {lim : Int} {cls : List Rf.Cl} (hC : PCls30 F w vC cls) (hk : Kept M w w') (hM : ∀ k, k < w.heap.size -> F k -> ¬ M k) (hB : PsB w' x lim vC vQ) (hF : ∀ k, F k -> F' k) (hx' : ¬ F' x) : PsL F' w' x lim vQ cls := by
 obtain ⟨acc, h1, h2, h3⟩ := hC.ex
 exact ⟨⟨vC, hB, ⟨acc, h1.weak hk hM hF, h2, h3⟩, hC.good⟩, hx'⟩
def ClB (w : World) (k : Nat) : Prop := ∃ cs, w.heap[k]? = some (.cells cs 59 (0, 0))
def PConsultL (F : Nat -> Prop) (w : World) (x : Nat) (lim : Int) (vQ : Value) (cls : List Rf.Cl) (s : ByteArray) (r : Ending) (w' : World) : Prop :=
 r = .returned (.tuple #[.int .i64 (consultP cls s).1.1, .int .i64 (consultP cls s).1.2]) /\ Kept (fun k => k = x \/ (F k /\ ClB w k)) w w' /\ PsL (fun k => F k \/ (w.heap.size <= k /\ k < w'.heap.size)) w' x lim vQ (consultP cls s).2
set_option maxHeartbeats 1000000 in
theorem pconsult_err (F : Nat -> Prop) (wa w : World) (x : Nat) (lim : Int) (vQ : Value) (cls : List Rf.Cl) (s : ByteArray) (hwa : Hid (∃ lim vC vQ, PsB wa x lim vC vQ)) (hw : Hid (w = wa.setCell ⟨x, 2, none⟩ (.pointer none))) (h : PsL F w x lim vQ cls) (hm : s.size <= maxLen) (e : Int) (q : Nat) (hr : Rf.readS s = .error (e, q)) :
  Calls Tryz.prog 28 #[.pointer (some ⟨x, 0, none⟩), .string s] wa fun r w' => PConsultL F w x lim vQ cls s r w' := by
 obtain ⟨⟨vC, hB, hC⟩, hx⟩ := h
 have hS : Hid (consultP cls s = ((e, q), cls)) := by unfold Hid consultP; rw [hr]
 have HR : Hid _ := hr
 have HC : Hid _ := hC
 have HB : Hid _ := hB
 have hxl := blk_lt hB
 clear hr hC hB
 go_enter Tryz.func28, Tryz.ntmps28
 go_wp2_with (first
  | (go_at_call 29; refine (pstop_any x _ hwa.out).mono ?_; rintro r w0 ⟨rfl, hw0⟩; rw [<- hw.out] at hw0; subst w0)
  | (go_at_call 45; refine (pclauses_any s _ hm).mono ?_; rintro r w1 ⟨hb1, hP⟩; rw [HR.out] at hP; obtain ⟨rfl, hne⟩ := hP; have he : (e != 0) = true := (by rw [bne_iff_ne]; exact hne)))
 go_ret2
 unfold PConsultL
 rw [hS.out]
 exact ⟨rfl, Kept.of_below hb1 _, PsL.keptC HC.out (Kept.of_below hb1 (fun _ => False)) (fun _ _ _ e => e) ((hb1.block x hxl).trans HB.out) (fun k x => .inl x) (notF hx hxl)⟩
set_option maxHeartbeats 1000000 in
theorem pconsult_full (F : Nat -> Prop) (wa w : World) (x : Nat) (lim : Int) (vQ : Value) (cls : List Rf.Cl) (s : ByteArray) (hwa : Hid (∃ lim vC vQ, PsB wa x lim vC vQ)) (hw : Hid (w = wa.setCell ⟨x, 2, none⟩ (.pointer none))) (h : PsL F w x lim vQ cls) (hm : s.size <= maxLen) (new : List Rf.Cl) (hr : Rf.readS s = .ok new) (hf : 30 < cls.length + new.length) (hnl : new.length <= 402) :
  Calls Tryz.prog 28 #[.pointer (some ⟨x, 0, none⟩), .string s] wa fun r w' => PConsultL F w x lim vQ cls s r w' := by
 obtain ⟨⟨vC, hB, hC⟩, hx⟩ := h
 obtain ⟨acc, hA, hcls, h30⟩ := hC.ex
 have hlen : cls.length = acc.length := by rw [hcls, List.length_map]
 obtain ⟨a, c, hv⟩ := row_slice hA.row
 rw [List.length_map] at hv
 subst hv
 have Hlen : Hid _ := hlen
 have HR : Hid _ := hr
 have HC : Hid _ := hC
 have HB : Hid _ := hB
 have hxl := blk_lt hB
 have hS : Hid (consultP cls s = ((6, 0), cls)) := by unfold Hid consultP; rw [hr]; simp only []; rw [if_pos hf]
 clear hr hC hB hA hcls hlen
 go_enter Tryz.func28, Tryz.ntmps28
 go_wp2_with (first
  | (go_at_call 29; refine (pstop_any x _ hwa.out).mono ?_; rintro r w0 ⟨rfl, hw0⟩; rw [<- hw.out] at hw0; subst w0)
  | (go_at_call 45; refine (pclauses_any s _ hm).mono ?_; rintro r w1 ⟨hb1, hP⟩; rw [HR.out] at hP; obtain ⟨v1, acc1, rfl, hA1, hnew⟩ := hP; obtain ⟨a1, c1, hv1⟩ := row_slice hA1.row; rw [List.length_map] at hv1; subst hv1; have hB1 : PsB w1 x _ _ _ := (hb1.block x hxl).trans HB.out; have q1 : w1.cell? ⟨x, 1, none⟩ = some (.slice a acc.length c) := blk_cell hB1 1; have hl1 : new.length = acc1.length := (by rw [hnew, List.length_map]); have hbig : (30 : Int) < (acc.length : Int) + acc1.length := (by have := Hlen.out; omega); have hsm : acc1.length <= 402 := (by omega); clear hnew hl1 hA1))
 go_ret2
 unfold PConsultL
 rw [hS.out]
 exact ⟨rfl, Kept.of_below hb1 _, PsL.keptC HC.out (Kept.of_below hb1 (fun _ => False)) (fun _ _ _ e => e) hB1 (fun k x => .inl x) (notF hx hxl)⟩
set_option maxHeartbeats 1000000 in
theorem pconsult_0 (F : Nat -> Prop) (wa w : World) (x : Nat) (lim : Int) (vQ : Value) (cls : List Rf.Cl) (s : ByteArray) (hwa : Hid (∃ lim vC vQ, PsB wa x lim vC vQ)) (hw : Hid (w = wa.setCell ⟨x, 2, none⟩ (.pointer none))) (h : PsL F w x lim vQ cls) (hm : s.size <= maxLen) (new : List Rf.Cl) (hr : Rf.readS s = .ok new) (hf : ¬ 30 < cls.length + new.length) (hn0 : new.length = 0) :
  Calls Tryz.prog 28 #[.pointer (some ⟨x, 0, none⟩), .string s] wa fun r w' => PConsultL F w x lim vQ cls s r w' := by
 obtain ⟨⟨vC, hB, hC⟩, hx⟩ := h
 obtain ⟨acc, hA, hcls, h30⟩ := hC.ex
 have hlen : cls.length = acc.length := by rw [hcls, List.length_map]
 obtain ⟨a, c, hv⟩ := row_slice hA.row
 rw [List.length_map] at hv
 subst hv
 have hnn : new = [] := List.eq_nil_of_length_eq_zero hn0
 subst hnn
 have Hlen : Hid _ := hlen
 have HR : Hid _ := hr
 have HC : Hid _ := hC
 have HA : Hid _ := hA
 have HB : Hid _ := hB
 have hxl := blk_lt hB
 have hS : Hid (consultP cls s = ((0, 0), cls)) := by unfold Hid consultP; rw [hr]; simp only []; rw [if_neg hf, List.append_nil]
 have hsa : (acc.length : Int) <= 30 := by omega
 clear hr hC hB hA hcls hlen hn0 hf
 go_enter Tryz.func28, Tryz.ntmps28
 go_wp2_with (first
  | (go_at_call 29; refine (pstop_any x _ hwa.out).mono ?_; rintro r w0 ⟨rfl, hw0⟩; rw [<- hw.out] at hw0; subst w0)
  | (go_at_call 45; refine (pclauses_any s _ hm).mono ?_; rintro r w1 ⟨hb1, hP⟩; rw [HR.out] at hP; obtain ⟨v1, acc1, rfl, hA1, hnew⟩ := hP; have hz1 : acc1 = [] := (by cases acc1 with | nil => rfl | cons y ys => simp at hnew); subst hz1; have hz2 := hA1.none rfl; subst hz2; have hB1 : PsB w1 x _ _ _ := (hb1.block x hxl).trans HB.out; have q1 : w1.cell? ⟨x, 1, none⟩ = some (.slice a acc.length c) := blk_cell hB1 1; have qf := blk_frozen hB1; have hA01 := HA.out.row.below hb1; clear hnew hA1)
  | (at_builtin; refine wpList_app_none Tryz.elemPCl pclCells _ rfl (.tmp 36) (.tmp 37) rfl 0 (.slice a acc.length c) (acc.map (·.1)) rfl hA01 rfl ?_))
 go_ret2
 have hk1 : Kept (fun k => k = x) w1 (w1.setCell ⟨x, 1, none⟩ (.slice a acc.length c)) := (Kept.refl (fun k => k = x) w1).setCell (p := ⟨x, 1, none⟩) (.inr rfl) _
 have hk : Kept (fun k => k = x) w (w1.setCell ⟨x, 1, none⟩ (.slice a acc.length c)) := (Kept.of_below hb1 (fun k => k = x)).trans hk1 (fun _ _ e => e)
 unfold PConsultL
 rw [hS.out]
 exact ⟨rfl, hk.mono (fun _ _ e => .inl e), PsL.keptC HC.out hk (fun k _ hF e => hx (e ▸ hF)) (blk_set hB1 1 _) (fun k x => .inl x) (notF hx hxl)⟩
set_option maxHeartbeats 1000000 in
theorem pconsult_1 (F : Nat -> Prop) (wa w : World) (x : Nat) (lim : Int) (vQ : Value) (cls : List Rf.Cl) (s : ByteArray) (hwa : Hid (∃ lim vC vQ, PsB wa x lim vC vQ)) (hw : Hid (w = wa.setCell ⟨x, 2, none⟩ (.pointer none))) (h : PsL F w x lim vQ cls) (hm : s.size <= maxLen) (new : List Rf.Cl) (hr : Rf.readS s = .ok new) (hf : ¬ 30 < cls.length + new.length) (hgood : ∀ x ∈ new, GoodC x /\ Rf.ArgCl x) (hn0 : 1 <= new.length) :
  Calls Tryz.prog 28 #[.pointer (some ⟨x, 0, none⟩), .string s] wa fun r w' => PConsultL F w x lim vQ cls s r w' := by
 obtain ⟨⟨vC, hB, hC⟩, hx⟩ := h
 obtain ⟨acc, hA, hcls, h30⟩ := hC.ex
 have hlen : cls.length = acc.length := by rw [hcls, List.length_map]
 obtain ⟨a, c, hv⟩ := row_slice hA.row
 rw [List.length_map] at hv
 subst hv
 have Hlen : Hid _ := hlen
 have Hcls : Hid _ := hcls
 have HR : Hid _ := hr
 have HC : Hid _ := hC
 have HA : Hid _ := hA
 have HB : Hid _ := hB
 have Hgood : Hid _ := hgood
 have Hn0 : Hid _ := hn0
 have hxl := blk_lt hB
 have hS : Hid (consultP cls s = ((0, 0), cls ++ new)) := by unfold Hid consultP; rw [hr]; simp only []; rw [if_neg hf]
 have hxo : Hid (∀ k, (Value.slice a acc.length c).ownBlock = some k -> k ≠ x /\ k < w.heap.size) := fun k e => ⟨fun e2 => hx (e2 ▸ hA.rowF k e), (hA.row.lt k e).2⟩
 have hsum : cls.length + new.length <= 30 := by omega
 clear hr hC hB hA hcls hlen hn0 hf hgood
 go_enter Tryz.func28, Tryz.ntmps28
 go_wp2_with (first
  | (go_at_call 29; refine (pstop_any x _ hwa.out).mono ?_; rintro r w0 ⟨rfl, hw0⟩; rw [<- hw.out] at hw0; subst w0)
  | (go_at_call 45; refine (pclauses_any s _ hm).mono ?_; rintro r w1 ⟨hb1, hP⟩; rw [HR.out] at hP; obtain ⟨v1, acc1, rfl, hA1, hnew⟩ := hP; obtain ⟨a1, c1, hv1⟩ := row_slice hA1.row; rw [List.length_map] at hv1; subst hv1; have hB1 : PsB w1 x _ _ _ := (hb1.block x hxl).trans HB.out; have q1 : w1.cell? ⟨x, 1, none⟩ = some (.slice a acc.length c) := blk_cell hB1 1; have Hnew : Hid _ := hnew; have hl1 : new.length = acc1.length := (by rw [hnew, List.length_map]); have hsm : acc.length + acc1.length <= 30 := (by have := Hlen.out; omega); have hsm' : (acc.length : Int) + acc1.length <= 30 := (by omega); have hp1 : 1 <= acc1.length := (by have := Hn0.out; omega); obtain ⟨g1, rfl⟩ : ∃ g1, a1 = some ⟨g1, 0, none⟩ := (by rcases hA1.row.shape with ⟨_, hnil⟩ | ⟨gv, cv, e, _⟩; have h7 := congrArg List.length hnil; rw [List.length_map, List.length_nil] at h7; omega; injection e with e1 _ _; exact ⟨gv, e1⟩); have hA01 := HA.out.row.below hb1; have hA11 := hA1.row; clear hnew hl1)
  | (at_builtin; refine wpList_apps Tryz.elemPCl pclCells pclCells_len pclCells_one _ rfl (.tmp 36) (.tmp 37) rfl 0 (.slice a acc.length c) (acc.map (·.1)) rfl hA01 ⟨g1, 0, none⟩ _ (acc1.map (·.1)) (by simpa using hp1) (by rw [List.length_map]; rfl) (hA11.own.cells rfl) (by simp; omega) (Nat.zero_le _) ?_; intro g2 cap2 w2 hrow2 hgr2 hnb2; have hyB2 : PsB w2 x _ _ _ := (hgr2.block x (blk_lt hB1) (fun e => (hxo.out x e.symm).1 rfl)).trans hB1; have r21 : w2.cell? ⟨x, 1, none⟩ = some (.slice a acc.length c) := blk_cell hyB2 1; have r2f := blk_frozen hyB2))
 go_ret2
 have hk1 : Kept (fun k => k = x \/ (Value.slice a acc.length c).ownBlock = some k) w1 (w2.setCell ⟨x, 1, none⟩ (.slice (some ⟨g2, 0, none⟩) (acc.length + acc1.length) cap2)) := ((Kept.refl _ w1).grown hgr2 (fun k e => .inr (.inr e))).setCell (p := ⟨x, 1, none⟩) (.inr (.inl rfl)) _
 have hk : Kept (fun k => k = x \/ (Value.slice a acc.length c).ownBlock = some k) w (w2.setCell ⟨x, 1, none⟩ (.slice (some ⟨g2, 0, none⟩) (acc.length + acc1.length) cap2)) := (Kept.of_below hb1 _).trans hk1 (fun _ _ e => e)
 have hg2x : g2 ≠ x := by
  rcases hnb2 with e | ⟨k, e, hk9⟩
  ·exact (hxo.out g2 e.symm).1
  ·have := Option.some.inj e; have := blk_lt hB1; omega
 unfold PConsultL
 rw [hS.out]
 refine ⟨rfl, hk.mono (fun k _ e => e.imp id (fun e => ⟨HA.out.rowF k e, HA.out.row.typed k e⟩)), ⟨_, blk_set hyB2 1 _, ⟨acc ++ acc1, pcls_join HA.out hA1 hk hk1 hb1.size hx hxl ?_ (fun k e => ?_) (fun e => ?_), ?_, ?_⟩, fun y hy => ?_⟩, notF hx hxl⟩
 ·have h9 := hrow2.setCell ⟨x, 1, none⟩ (.slice (some ⟨g2, 0, none⟩) (acc.length + acc1.length) cap2) (fun e => hg2x (Option.some.inj e))
  simpa using h9
 ·rcases hnb2 with e3 | ⟨k3, e3, hk3⟩
  ·exact .inl (by rw [<- e3]; exact e)
  ·right
   have h5 : g2 = k := Option.some.inj e
   have := Option.some.inj e3; omega
 ·simp at e; rw [e.2] at hp1; simp at hp1
 ·show cls ++ new = _; rw [List.map_append, Hcls.out, Hnew.out]
 ·simp; omega
 ·rcases List.mem_append.1 hy with hy | hy
  ·exact HC.out.good y hy
  ·exact Hgood.out y hy
theorem pconsult_L (F : Nat -> Prop) (w : World) (x : Nat) (lim : Int) (vQ : Value) (cls : List Rf.Cl) (s : ByteArray) (h : PsL F w x lim vQ cls) (hm : s.size <= maxLen) (hgood : ∀ new, Rf.readS s = .ok new -> new.length <= 402 /\ ∀ x ∈ new, GoodC x /\ Rf.ArgCl x) :
  Calls Tryz.prog 28 #[.pointer (some ⟨x, 0, none⟩), .string s] w fun r w' => PConsultL F w x lim (.pointer none) cls s r w' := by
 obtain ⟨⟨vC, hB, hC⟩, hx⟩ := h
 have hk0 : Kept (fun k => k = x) w (w.setCell ⟨x, 2, none⟩ (.pointer none)) := Kept.setCell (p := ⟨x, 2, none⟩) (Kept.refl (fun k => k = x) w) (Or.inr rfl) _
 have h0 : PsL F (w.setCell ⟨x, 2, none⟩ (.pointer none)) x lim (.pointer none) cls := PsL.keptC hC hk0 (fun k _ hF e => hx (e ▸ hF)) (blk_set hB 2 _) (fun _ e => e) hx
 have hs0 : (w.setCell ⟨x, 2, none⟩ (.pointer none)).heap.size = w.heap.size := by simp [World.setCell]
 have hwa : Hid (∃ lim vC vQ, PsB w x lim vC vQ) := ⟨lim, vC, vQ, hB⟩
 have key : ∀ (r : Ending) (w' : World), PConsultL F (w.setCell ⟨x, 2, none⟩ (.pointer none)) x lim (.pointer none) cls s r w' -> PConsultL F w x lim (.pointer none) cls s r w' := by
  intro r w' ⟨e1, e2, e3⟩
  rw [hs0] at e3
  refine ⟨e1, (hk0.mono (fun _ _ e => .inl e)).trans (e2.mono (fun k hk e => ?_)) (fun _ _ e => e), e3⟩
  rcases e with e | ⟨hF, cs, hc⟩
  ·exact .inl e
  ·have hkx : k ≠ x := fun e => hx (e ▸ hF)
   rw [hs0] at hk
   exact .inr ⟨hF, cs, (hk0.block k hk hkx).symm.trans hc⟩
 cases hr : Rf.readS s with
 | error y => exact (pconsult_err F w _ x lim _ cls s hwa rfl h0 hm y.1 y.2 hr).mono key
 | ok new =>
  obtain ⟨h402, hg⟩ := hgood new hr
  by_cases hf : 30 < cls.length + new.length
  ·exact (pconsult_full F w _ x lim _ cls s hwa rfl h0 hm new hr hf h402).mono key
  ·by_cases hn : new.length = 0
   ·exact (pconsult_0 F w _ x lim _ cls s hwa rfl h0 hm new hr hf hn).mono key
   ·exact (pconsult_1 F w _ x lim _ cls s hwa rfl h0 hm new hr hf hg (by omega)).mono key
theorem good_read (s : ByteArray) : ∀ new, Rf.readS s = .ok new -> new.length <= 402 /\ ∀ x ∈ new, GoodC x /\ Rf.ArgCl x := by
 intro new h
 obtain ⟨h1, h2⟩ := Rf.readS_good h
 refine ⟨h1, fun x hx => ⟨?_, Rf.readS_arg h x hx⟩⟩
 have h3 := h2 x hx
 exact ⟨h3.1, by have := h3.2.1; omega, fun q hq => ⟨(h3.2.2 q hq).1, by have := (h3.2.2 q hq).2; omega⟩⟩
set_option maxHeartbeats 400000 in
theorem pexpect_end (w : World) (r : Nat) (text : ByteArray) (nb : Option Nat) (t : Rf.Tok) (l : List Rf.Tok) (ns : List ByteArray) (h : Pr w r text nb (t :: l) ns) (h0 : t.k = 0) :
  Calls Tryz.prog 48 #[.pointer (some ⟨r, 0, none⟩), .int .i64 0] w fun x w' => x = .returned (.bool true) /\ (∃ l', Pr w' r text nb l' ns) /\ Kept (fun k => k = r) w w' := by
 obtain ⟨j1, ⟨_, j0⟩, jl⟩ := h.kind
 have hk : Rf.kindOf t.k = 0 := by rw [h0]; rfl
 rw [hk] at j1
 have H : Hid _ := h
 have H0 : Hid _ := h0
 clear h h0 hk
 go_enter Tryz.func48, Tryz.ntmps48
 go_wp2_with (go_at_call 46; refine (step_end _ r text nb t l ns H.out H0.out).mono ?_; rintro e w7 ⟨rfl, hP7, hK7⟩)
 go_ret
 exact ⟨rfl, hP7, hK7⟩
def PQuestPost (w : World) (res : Except (Int × Nat) (List (List Rf.Part) × List ByteArray)) (x : Ending) (w' : World) : Prop :=
  Below w.heap.size w w' /\
  (match res with
   | .ok (gs, ns) => ∃ a1 n1 c1 a2 n2 c2, x = .returned (.tuple #[.slice a1 n1 c1, .slice a2 n2 c2, .int .i64 0, .int .i64 0]) /\ SeenTs w' (.slice a1 n1 c1) gs /\ Seen w' 9 strCells (.slice a2 n2 c2) ns /\ gs.length <= 8 /\ ns.length <= 16
   | .error (e, q) => x = .returned (.tuple #[.slice none 0 0, .slice none 0 0, .int .i64 e, .int .i64 q]) /\ e ≠ 0)
set_option maxHeartbeats 400000 in
theorem pquest_long (s : ByteArray) (w : World) (hs : 400 < s.size) (hm : s.size <= maxLen) :
  Calls Tryz.prog 30 #[.string s] w fun r w' => PQuestPost w (Rf.questS s) r w' := by
 have hS : Hid (Rf.questS s = .error (1, 0)) := by unfold Hid Rf.questS; rw [if_pos hs]
 unfold maxLen at hm
 go_enter Tryz.func30, Tryz.ntmps30
 go_wp2
 refine bodyPost_ret (v := .tuple #[.slice none 0 0, .slice none 0 0, .int .i64 1, .int .i64 0]) (by simp [results, Tryz.results30, go_sem]) rfl ?_
 rw [hS.out]
 exact ⟨Below.refl _ _, rfl, by decide⟩
theorem SeenTs.keptR {w w' : World} {v : Value} {ts : List (List Rf.Part)} {r : Nat} {cs : Array Value} {t : TypeId} (h : SeenTs w v ts) (hB : w.heap[r]? = some (.cells cs t (0, 0))) (h1 : t ≠ 101) (h2 : t ≠ 56) (hk : Kept (fun k => k = r) w w') : SeenTs w' v ts := by
 obtain ⟨acc, a1, a2, a3⟩ := h.ex
 have nt : ∀ (t' : TypeId), t' ≠ t -> ∀ k cs', w.heap[k]? = some (.cells cs' t' (0, 0)) -> ¬ k = r := fun t' hne k cs' hc he => by
  subst he; rw [hB] at hc; injection hc with e'; injection e' with _ e'; exact hne e'.symm
 exact ⟨acc, a1.kept hk (nt _ (Ne.symm h2)), fun q hq => (a2 q hq).kept hk (nt _ (Ne.symm h1)), a3⟩
theorem PGs.seen {w wr : World} {nb : Option Nat} {v : Value} {acc : List (SlV × List Rf.Part)} (h : PGs w wr nb v acc) : SeenTs wr v (acc.map (·.2)) := ⟨acc, h.row.seen, fun q hq => (h.goals q hq).1.seen, rfl⟩
set_option maxHeartbeats 2000000 in
set_option maxRecDepth 100000 in
theorem pquest_short (s : ByteArray) (w : World) (hs : s.size <= 400) :
  Calls Tryz.prog 30 #[.string s] w fun r w' => PQuestPost w (Rf.questS s) r w' := by
 have hS : Rf.questS s = Rf.questP (Rf.tokens s).length (Rf.tokens s) := by unfold Rf.questS; rw [if_neg (by omega)]
 have hlen : (Rf.tokens s).length <= 401 := by have := Rf.toks_len s s.size 0; unfold Rf.tokens; omega
 have HE : Hid (Rf.Ended (Rf.tokens s)) := Rf.toks_ended s _ _
 generalize hL : Rf.tokens s = L at *
 have HL : Hid (Rf.rest s 0 = L) := hL
 clear hL
 rw [hS]
 clear hS
 cases hres : Rf.goalsP L.length 8 [] L [] with
 | error x =>
  obtain ⟨e, q⟩ := x
  have hwe : Hid (Rf.questP L.length L = .error (e, q)) := by unfold Hid Rf.questP; rw [hres]
  have HR : Hid _ := hres
  clear hres
  go_enter Tryz.func30, Tryz.ntmps30
  go_wp2_with (first
   | (go_at_call 46; refine (step_raw _ w.heap.size s 0 0 0 0 (.slice none 0 0) (blk_at _ _ _ (by simp)) hs (Nat.zero_le _)).mono ?_; rintro x w1 ⟨K', f', to', C', rfl, hB1, ht1, hK1⟩; have hP1 : Pr w1 w.heap.size s none L [] := (by have h9 := Pr.mk' hB1 ht1 (Nat.zero_le _) hs (RowIs.nil _ _ _ _ _) rfl (by simp [Value.ownBlock]) (ns := []) (by simp); rw [HL.out] at h9; exact h9); have hb1 : Below w.heap.size w w1 := (((Kept.refl (fun k => k = w.heap.size) w).alloc (.cells #[.string s, .int .i64 0, .int .i64 0, .int .i64 0, .int .i64 0, .slice none 0 0, .int .i64 0, .int .i64 0] 95)).trans hK1 (fun _ _ e => e)).below (Nat.le_refl _) (fun k hk e => by omega); clear hB1 ht1)
   | (go_at_call 47; refine (pgoals_any L.length w.heap.size s none L [] _ hP1 (Nat.le_refl _)).mono ?_; rintro x w3 ⟨hK3, hm⟩; rw [HR.out] at hm; have hb3 : Below w.heap.size w w3 := hb1.trans (hK3.below hb1.size (fun k hk e => by rcases e with e | e; omega; cases e)); obtain ⟨rfl, hE3⟩ := hm; obtain ⟨tx, K3, f3, to3, C3, a3, n3, c3, hB3, hne3⟩ := hE3.ex; obtain ⟨x0, x1, x2, x3, x4, x5, x6, x7, xf, xl⟩ := hB3.facts; have Hne : Hid _ := hne3; clear hne3 hB3))
  go_quiet (fail)
  go_wp2_with fail
  refine bodyPost_ret (v := .tuple #[.slice none 0 0, .slice none 0 0, .int .i64 e, .int .i64 q]) (by simp [results, Tryz.results30, go_sem]) rfl ?_
  rw [hwe.out]
  exact ⟨hb3.drewN _, rfl, Hne.out⟩
 | ok x =>
  obtain ⟨gs, l1, ns1⟩ := x
  obtain ⟨u, l2, rfl⟩ := Rf.goalsP_len L.length _ _ _ _ _ _ _ hres
  by_cases h46 : u.k = 46
  ·have c8 : (Rf.kindOf u.k != 8) = false := by rw [Rf.kindOf_8, h46]; rfl
   have hend := (Rf.goalsP_good L.length _ _ _ _ _ _ _ HE.out (by simp) (fun q hq => by cases hq) hlen hres).2.2
   have hend2 := hend.tail (by omega) (by omega)
   obtain ⟨y, l3, rfl⟩ : ∃ y l3, l2 = y :: l3 := by
    cases l2 with
    | nil => exact absurd rfl hend2.ne
    | cons y l3 => exact ⟨y, l3, rfl⟩
   have HU0 : Hid (u.k ≠ 0) := by unfold Hid; omega
   have HU63 : Hid (u.k ≠ 63) := by unfold Hid; omega
   have C8 : Hid _ := c8
   have HR : Hid _ := hres
   by_cases hy : y.k = 0
   ·have hwe : Hid (Rf.questP L.length L = .ok (gs, ns1)) := by unfold Hid Rf.questP; rw [hres]; simp only []; rw [if_pos h46, if_pos hy]
    have HY : Hid _ := hy
    clear hres h46 c8 hend hend2 hy
    go_enter Tryz.func30, Tryz.ntmps30
    go_wp2_with (first
     | (go_at_call 46; refine (step_raw _ w.heap.size s 0 0 0 0 (.slice none 0 0) (blk_at _ _ _ (by simp)) hs (Nat.zero_le _)).mono ?_; rintro x w1 ⟨K', f', to', C', rfl, hB1, ht1, hK1⟩; have hP1 : Pr w1 w.heap.size s none L [] := (by have h9 := Pr.mk' hB1 ht1 (Nat.zero_le _) hs (RowIs.nil _ _ _ _ _) rfl (by simp [Value.ownBlock]) (ns := []) (by simp); rw [HL.out] at h9; exact h9); have hb1 : Below w.heap.size w w1 := (((Kept.refl (fun k => k = w.heap.size) w).alloc (.cells #[.string s, .int .i64 0, .int .i64 0, .int .i64 0, .int .i64 0, .slice none 0 0, .int .i64 0, .int .i64 0] 95)).trans hK1 (fun _ _ e => e)).below (Nat.le_refl _) (fun k hk e => by omega); clear hB1 ht1)
     | (go_at_call 47; refine (pgoals_any L.length w.heap.size s none L [] _ hP1 (Nat.le_refl _)).mono ?_; rintro x w3 ⟨hK3, hm⟩; rw [HR.out] at hm; have hb3 : Below w.heap.size w w3 := hb1.trans (hK3.below hb1.size (fun k hk e => by rcases e with e | e; omega; cases e)); obtain ⟨b1, m1, d1, nb1, acc, rfl, hP3, hNb3, hA3, hgs, h8⟩ := hm)
     | (go_at_call_of 48 (Value.int IntKind.i64 8); refine (pexpect_ok _ 8 w.heap.size s nb1 u (y :: l3) ns1 hP3 C8.out HU0.out HU63.out).mono ?_; rintro e w7 ⟨rfl, hP7, hK7⟩; have hb7 : Below w.heap.size w w7 := hb3.trans (hK7.below hb3.size (fun k hk e => by omega)))
     | (go_at_call_of 48 (Value.int IntKind.i64 0); refine (pexpect_end _ w.heap.size s nb1 y l3 ns1 hP7 HY.out).mono ?_; rintro e w8 ⟨rfl, ⟨l9, hP8⟩, hK8⟩; have hb8 : Below w.heap.size w w8 := hb7.trans (hK8.below hb7.size (fun k hk e => by omega)); obtain ⟨K9, f9, to9, C9, vN9, hB9, hat9, he9, hs9, hrow9, hnb9, hr9, h169⟩ := hP8.ex; obtain ⟨a9, c9, hv9⟩ := row_slice hrow9; subst hv9; obtain ⟨x0, x1, x2, x3, x4, x5, x6, x7, xf, xl⟩ := hB9.facts))
    go_quiet (fail)
    go_wp2_with fail
    refine bodyPost_ret (v := .tuple #[.slice b1 m1 d1, .slice a9 ns1.length c9, .int .i64 0, .int .i64 0]) (by simp [results, Tryz.results30, go_sem]) rfl ?_
    rw [hwe.out]
    obtain ⟨tq, lq, Kq, fq, toq, Cq, aq, cq, _, hBq, _⟩ := hP3.shape
    obtain ⟨tr, lr, Kr, fr, tor, Cr, ar, cr, _, hBr, _⟩ := hP7.shape
    refine ⟨hb8.drewN _, b1, m1, d1, a9, _, c9, rfl, ?_, (hrow9.drewN _).seen, by rw [hgs, List.length_map]; exact h8, h169⟩
    rw [hgs]
    exact (((hA3.seen.keptR hBq (by decide) (by decide) hK7).keptR hBr (by decide) (by decide) hK8)).below ((Below.refl _ w8).drewN _)
   ·have c0 : (Rf.kindOf y.k != 0) = true := by rw [Rf.kindOf_0]; simpa using hy
    have C0 : Hid _ := c0
    have hwe : Hid (Rf.questP L.length L = .error (Rf.errOf y 2)) := by unfold Hid Rf.questP; rw [hres]; simp only []; rw [if_pos h46, if_neg hy]
    clear hres h46 c8 hend hend2 hy c0
    go_enter Tryz.func30, Tryz.ntmps30
    go_wp2_with (first
     | (go_at_call 46; refine (step_raw _ w.heap.size s 0 0 0 0 (.slice none 0 0) (blk_at _ _ _ (by simp)) hs (Nat.zero_le _)).mono ?_; rintro x w1 ⟨K', f', to', C', rfl, hB1, ht1, hK1⟩; have hP1 : Pr w1 w.heap.size s none L [] := (by have h9 := Pr.mk' hB1 ht1 (Nat.zero_le _) hs (RowIs.nil _ _ _ _ _) rfl (by simp [Value.ownBlock]) (ns := []) (by simp); rw [HL.out] at h9; exact h9); have hb1 : Below w.heap.size w w1 := (((Kept.refl (fun k => k = w.heap.size) w).alloc (.cells #[.string s, .int .i64 0, .int .i64 0, .int .i64 0, .int .i64 0, .slice none 0 0, .int .i64 0, .int .i64 0] 95)).trans hK1 (fun _ _ e => e)).below (Nat.le_refl _) (fun k hk e => by omega); clear hB1 ht1)
     | (go_at_call 47; refine (pgoals_any L.length w.heap.size s none L [] _ hP1 (Nat.le_refl _)).mono ?_; rintro x w3 ⟨hK3, hm⟩; rw [HR.out] at hm; have hb3 : Below w.heap.size w w3 := hb1.trans (hK3.below hb1.size (fun k hk e => by rcases e with e | e; omega; cases e)); obtain ⟨b1, m1, d1, nb1, acc, rfl, hP3, hNb3, hA3, hgs, h8⟩ := hm)
     | (go_at_call_of 48 (Value.int IntKind.i64 8); refine (pexpect_ok _ 8 w.heap.size s nb1 u (y :: l3) ns1 hP3 C8.out HU0.out HU63.out).mono ?_; rintro e w7 ⟨rfl, hP7, hK7⟩; have hb7 : Below w.heap.size w w7 := hb3.trans (hK7.below hb3.size (fun k hk e => by omega)))
     | (go_at_call_of 48 (Value.int IntKind.i64 0); refine (pexpect_bad _ 0 w.heap.size s nb1 y l3 ns1 hP7 C0.out).mono ?_; rintro e w8 ⟨rfl, hE8, hK8⟩; have hb8 : Below w.heap.size w w8 := hb7.trans (hK8.below hb7.size (fun k hk e => by omega)); obtain ⟨tx, K3, f3, to3, C3, a3, n3, c3, hB3, hne3⟩ := hE8.ex; obtain ⟨x0, x1, x2, x3, x4, x5, x6, x7, xf, xl⟩ := hB3.facts; have Hne : Hid _ := hne3; clear hne3 hB3))
    go_quiet (fail)
    go_wp2_with fail
    refine bodyPost_ret (v := .tuple #[.slice none 0 0, .slice none 0 0, .int .i64 (Rf.errOf y 2).1, .int .i64 (Rf.errOf y 2).2]) (by simp [results, Tryz.results30, go_sem]) rfl ?_
    rw [hwe.out]
    exact ⟨hb8.drewN _, rfl, Hne.out⟩
  ·have c8 : (Rf.kindOf u.k != 8) = true := by rw [Rf.kindOf_8]; simpa using h46
   have hwe : Hid (Rf.questP L.length L = .error (Rf.errOf u 2)) := by unfold Hid Rf.questP; rw [hres]; simp only []; rw [if_neg h46]
   have HR : Hid _ := hres
   have C8 : Hid _ := c8
   clear hres h46 c8
   go_enter Tryz.func30, Tryz.ntmps30
   go_wp2_with (first
    | (go_at_call 46; refine (step_raw _ w.heap.size s 0 0 0 0 (.slice none 0 0) (blk_at _ _ _ (by simp)) hs (Nat.zero_le _)).mono ?_; rintro x w1 ⟨K', f', to', C', rfl, hB1, ht1, hK1⟩; have hP1 : Pr w1 w.heap.size s none L [] := (by have h9 := Pr.mk' hB1 ht1 (Nat.zero_le _) hs (RowIs.nil _ _ _ _ _) rfl (by simp [Value.ownBlock]) (ns := []) (by simp); rw [HL.out] at h9; exact h9); have hb1 : Below w.heap.size w w1 := (((Kept.refl (fun k => k = w.heap.size) w).alloc (.cells #[.string s, .int .i64 0, .int .i64 0, .int .i64 0, .int .i64 0, .slice none 0 0, .int .i64 0, .int .i64 0] 95)).trans hK1 (fun _ _ e => e)).below (Nat.le_refl _) (fun k hk e => by omega); clear hB1 ht1)
    | (go_at_call 47; refine (pgoals_any L.length w.heap.size s none L [] _ hP1 (Nat.le_refl _)).mono ?_; rintro x w3 ⟨hK3, hm⟩; rw [HR.out] at hm; have hb3 : Below w.heap.size w w3 := hb1.trans (hK3.below hb1.size (fun k hk e => by rcases e with e | e; omega; cases e)); obtain ⟨b1, m1, d1, nb1, acc, rfl, hP3, hNb3, hA3, hgs, h8⟩ := hm)
    | (go_at_call_of 48 (Value.int IntKind.i64 8); refine (pexpect_bad _ 8 w.heap.size s nb1 u l2 ns1 hP3 C8.out).mono ?_; rintro e w7 ⟨rfl, hE7, hK7⟩; have hb7 : Below w.heap.size w w7 := hb3.trans (hK7.below hb3.size (fun k hk e => by omega)); obtain ⟨tx, K3, f3, to3, C3, a3, n3, c3, hB3, hne3⟩ := hE7.ex; obtain ⟨x0, x1, x2, x3, x4, x5, x6, x7, xf, xl⟩ := hB3.facts; have Hne : Hid _ := hne3; clear hne3 hB3))
   go_quiet (fail)
   go_wp2_with fail
   refine bodyPost_ret (v := .tuple #[.slice none 0 0, .slice none 0 0, .int .i64 (Rf.errOf u 2).1, .int .i64 (Rf.errOf u 2).2]) (by simp [results, Tryz.results30, go_sem]) rfl ?_
   rw [hwe.out]
   exact ⟨hb7.drewN _, rfl, Hne.out⟩
theorem pquest_any (s : ByteArray) (w : World) (hm : s.size <= maxLen) :
  Calls Tryz.prog 30 #[.string s] w fun r w' => PQuestPost w (Rf.questS s) r w' := by
 by_cases hs : 400 < s.size
 ·exact pquest_long s w hs hm
 ·exact pquest_short s w (by omega)
end Go.Proofs.YtbiojnljihgpoaaGreatDoor
