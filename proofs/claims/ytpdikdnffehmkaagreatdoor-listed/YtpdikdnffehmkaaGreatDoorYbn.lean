/- The program's question (play: Begin): the plain function's answers. -/
import Derived.Test.YtpdikdnffehmkaaGreatDoorYbm
import Derived.Test.YtpdikdnffehmkaaGreatDoorYay
import Derived.Test.YtpdikdnffehmkaaGreatDoorYab
namespace Go.Proofs.YtpdikdnffehmkaaGreatDoor
open Go.RowKit
/-- The block that a row lies in. -/
def NmB (v : Value) (g : Nat) : Prop := ∃ off n c, v = .slice (some ⟨g, off, none⟩) n c
structure BeSt (w wr : World) (b : Nat) (vg : Value) (fr : Int) (vN vt : Value) (ns : List ByteArray) (acc : List (SlV × List Rf.Part)) : Prop where
  o : QB wr b vN vg vt fr (.slice none 0 0)
  n : RowIs wr (b + 1) 9 1 strCells vN ns
  t : TermsAt (b + 1) wr vt acc
  b : Below w.heap.size w wr
theorem BeSt.below {w wr w2 : World} {b : Nat} {vg vN vt : Value} {fr : Int} {ns : List ByteArray} {acc : List (SlV × List Rf.Part)} (h : BeSt w wr b vg fr vN vt ns acc) (hb : Below wr.heap.size wr w2) : BeSt w w2 b vg fr vN vt ns acc :=
  ⟨(hb.block b (blk_lt h.o)).trans h.o, h.n.below hb, h.t.below hb, h.b.trans (hb.mono h.b.size)⟩
theorem BeSt.apart {w wr : World} {b : Nat} {vg vN vt : Value} {fr : Int} {ns : List ByteArray} {acc : List (SlV × List Rf.Part)} (h : BeSt w wr b vg fr vN vt ns acc) : ∀ k, vN.ownBlock = some k → vt.ownBlock = some k → False := fun k e1 e2 => by
  obtain ⟨c1, h1⟩ := h.n.typed k e1
  obtain ⟨c2, h2⟩ := h.t.row.typed k e2
  rw [h1] at h2
  injection h2 with h2; injection h2 with _ h2
  exact absurd h2 (by decide)
theorem BeSt.name {w wr w3 : World} {b : Nat} {vg vN vN' vt : Value} {fr : Int} {ns : List ByteArray} {x : ByteArray} {acc : List (SlV × List Rf.Part)} (h : BeSt w wr b vg fr vN vt ns acc) (hO : w.heap.size ≤ b) (hg : wr.grownBy w3 vN.ownBlock) (hr : RowIs w3 (b + 1) 9 1 strCells vN' (ns ++ [x])) :
    QB w3 b vN vg vt fr (.slice none 0 0) ∧ BeSt w (w3.setCell ⟨b, 0, none⟩ vN') b vg fr vN' vt (ns ++ [x]) acc := by
  have hbl : ∀ k, vN.ownBlock = some k → b + 1 ≤ k := fun k e => (h.n.lt k e).1
  have ho : w3.heap[b]? = _ := (hg.block b (blk_lt h.o) (fun e => by have := hbl b e.symm; omega)).trans h.o
  have hk : Kept (fun k => vN.ownBlock = some k) wr w3 := (Kept.refl _ wr).grown hg (fun k e => .inr e)
  have nt : ∀ cs (t : TypeId), t ≠ 114 → w3.heap[b]? ≠ some (.cells cs t (0, 0)) := fun cs t hne e => by
    rw [ho] at e; injection e with e; injection e with _ e; exact hne e.symm
  have hT : RowIs w3 (b + 1) 83 1 slCells vt (acc.map (·.1)) := h.t.row.keptBy hk (fun k e1 e2 => h.apart k e2 e1)
  refine ⟨ho, blk_set ho 0 _, hr.setCell ⟨b, 0, none⟩ _ (fun e => ?_), ⟨hT.setCell ⟨b, 0, none⟩ _ (fun e => ?_), fun q hq => ((h.t.each q hq).grownT h.n (by decide) hg).setCell _ _ (fun cs => nt cs _ (by decide))⟩, (h.b.grown hg h.b.size (fun k e => by have := hbl k e; omega)).setCell (p := ⟨b, 0, none⟩) hO _⟩
  · have := (hr.lt _ e).1; simp at this; omega
  · have := (hT.lt _ e).1; simp at this; omega
theorem BeSt.term {w wr w3 : World} {b : Nat} {vg vN vt vt' : Value} {fr : Int} {ns : List ByteArray} {acc : List (SlV × List Rf.Part)} {x : SlV} {ps : List Rf.Part} (h : BeSt w wr b vg fr vN vt ns acc) (hO : w.heap.size ≤ b) (hx : Seen wr 117 partCells (.slice x.a x.n x.c) ps) (hg : wr.grownBy w3 vt.ownBlock) (hr : RowIs w3 (b + 1) 83 1 slCells vt' (acc.map (·.1) ++ [x])) :
    QB w3 b vN vg vt fr (.slice none 0 0) ∧ BeSt w (w3.setCell ⟨b, 2, none⟩ vt') b vg fr vN vt' ns (acc ++ [(x, ps)]) := by
  have hbl : ∀ k, vt.ownBlock = some k → b + 1 ≤ k := fun k e => (h.t.row.lt k e).1
  have ho : w3.heap[b]? = _ := (hg.block b (blk_lt h.o) (fun e => by have := hbl b e.symm; omega)).trans h.o
  have hk : Kept (fun k => vt.ownBlock = some k) wr w3 := (Kept.refl _ wr).grown hg (fun k e => .inr e)
  have nt : ∀ cs (t : TypeId), t ≠ 114 → w3.heap[b]? ≠ some (.cells cs t (0, 0)) := fun cs t hne e => by
    rw [ho] at e; injection e with e; injection e with _ e; exact hne e.symm
  have hT := TermsAt.app h.t hx hg hr
  have hN : RowIs w3 (b + 1) 9 1 strCells vN ns := h.n.keptBy hk (fun k e1 e2 => h.apart k e1 e2)
  refine ⟨ho, blk_set ho 2 _, hN.setCell ⟨b, 2, none⟩ _ (fun e => ?_), ⟨hT.row.setCell ⟨b, 2, none⟩ _ (fun e => ?_), fun q hq => (hT.each q hq).setCell _ _ (fun cs => nt cs _ (by decide))⟩, (h.b.grown hg h.b.size (fun k e => by have := hbl k e; omega)).setCell (p := ⟨b, 2, none⟩) hO _⟩
  · have := (hN.lt _ e).1; simp at this; omega
  · have := (hT.row.lt _ e).1; simp at this; omega
set_option maxHeartbeats 1000000 in
set_option maxRecDepth 100000 in
theorem pbegin_any (w : World) (vg : Value) (gs : List (List Rf.Part)) (vN : Value) (ns : List ByteArray) (hG : SeenTs w vg gs) (hN : Seen w 9 strCells vN ns) (hl : ns.length ≤ 16) :
    Calls Tryz.prog 39 #[vg, vN] w fun r w' => ∃ q nm, r = .returned (.pointer (some ⟨q, 0, none⟩)) ∧ w.heap.size ≤ q ∧ QAt nm w' q none (Rf.beginN ns) (Rf.beginC gs ns) ∧ (∀ g, NmB nm g → w.heap.size ≤ g) ∧ Below w.heap.size w w' := by
  obtain ⟨ga, gc, rfl⟩ := hG.slice
  obtain ⟨na, nc, rfl⟩ := hN.slice
  have HG : Hid _ := hG
  have HN : Hid _ := hN
  clear hG hN
  obtain ⟨n0, hn0⟩ : ∃ n, Hid (ns.length = n) := ⟨_, rfl⟩
  rw [hn0.out] at hl ⊢
  go_enter Tryz.func39, Tryz.ntmps39
  go_wp2_with fail
  have hst : BeSt w (w.alloc (.cells #[.slice none 0 0, .slice ga gs.length gc, .slice none 0 0, .int .i64 n0, .slice none 0 0] 114)) w.heap.size (.slice ga gs.length gc) n0 (.slice none 0 0) (.slice none 0 0) [] [] := ⟨blk_new _ _, RowIs.nil _ _ _ _ _, ⟨RowIs.nil _ _ _ _ _, fun q hq => by cases hq⟩, (Below.refl _ w).alloc (Nat.le_refl _) _⟩
  have HST : Hid _ := hst
  clear hst
  go_loopw [16] (fun iv wr => ∃ (i : Nat) (vN vt : Value) (acc : List (SlV × List Rf.Part)), i ≤ n0 ∧ iv = .int .i64 (i : Nat) ∧ BeSt w wr w.heap.size (.slice ga gs.length gc) n0 vN vt (Rf.beginN (ns.take i)) acc ∧ Hid (acc.map (·.2) = Rf.beginT (ns.take i))) (fun iv _ => n0 - (intOf iv).toNat)
  case atStart =>
    exact ⟨0, _, _, [], Nat.zero_le _, rfl, HST.out, rfl⟩
  case round =>
    obtain ⟨i, vN, vt, acc, hi, rfl, hS, hinv⟩ := hrel
    obtain ⟨m0, m1, m2, m3, m4, mf, ml⟩ := QB.facts hS.o
    obtain ⟨nl, hnl⟩ : ∃ nl, Hid (Rf.beginN (ns.take i) = nl) := ⟨_, rfl⟩
    rw [hnl.out] at hS
    have hll : nl.length ≤ 16 := by
      have h9 := Rf.namedFrom_len 0 (ns.take i)
      rw [← hnl.out]; unfold Rf.beginN
      rw [List.length_map]; rw [List.length_take, hn0.out] at h9; omega
    have hal : acc.length ≤ 16 := by
      have h9 := Rf.namedFrom_len 0 (ns.take i)
      have h8 := congrArg List.length hinv.out
      unfold Rf.beginT at h8
      rw [List.length_map, List.length_map] at h8; rw [List.length_take, hn0.out] at h9; omega
    have HS : Hid _ := hS
    obtain ⟨an, cn, rfl⟩ := row_slice hS.n
    obtain ⟨at_, ct, rfl⟩ := row_slice hS.t.row
    clear hS
    by_cases hlt : i < n0
    · have hlt' : (i : Int) < n0 := by omega
      have hil : i < ns.length := by rw [hn0.out]; exact hlt
      obtain ⟨g, off, rfl⟩ := HN.out.pos (by omega)
      have hcell : ∀ x, ns[i]? = some x → wr.cell? ⟨g, off + i, none⟩ = some (.string x) := fun x hx => Seen.strAt' (HN.out.below HS.out.b) i x hx
      have hgl := (HN.out.below HS.out.b).lt
      obtain ⟨x, hx⟩ : ∃ x, ns[i]? = some x := ⟨_, List.getElem?_eq_getElem hil⟩
      have hc := hcell x hx
      have htk : ns.take (i + 1) = ns.take i ++ [x] := by rw [List.take_add_one, hx]; rfl
      have hsn := Rf.namedFrom_snoc (ns.take i) 0 x
      rw [← htk, List.length_take, Nat.min_eq_left (by omega), Nat.zero_add] at hsn
      have HTK : Hid _ := htk
      have HSN : Hid _ := hsn
      have HX : Hid _ := hx
      clear hcell hil hx htk hsn
      cases hb : Rf.isNamedB x
      · have HB : Hid _ := hb
        go_wp2_with (go_at_call 61; refine (pisNamed_any x _).mono ?_; rintro r w1 ⟨rfl, rfl⟩; rw [HB.out])
        go_roundw
        case rel =>
          refine ⟨i + 1, .slice an nl.length cn, .slice at_ (acc.map (·.1)).length ct, acc, by omega, by go_num, ?_, ?_⟩
          · have h9 : Rf.beginN (ns.take (i + 1)) = nl := by unfold Rf.beginN; rw [HSN.out, HB.out, ← hnl.out]; simp [Rf.beginN]
            rw [h9]; exact HS.out
          · unfold Hid Rf.beginT; rw [HSN.out, HB.out, hinv.out]; simp [Rf.beginT]
        case measure => simp [intOf]; omega
      · have HB : Hid _ := hb
        rw [List.length_map] at HS m2
        go_wp2_with (first
          | (at_builtin; refine wpList_app Tryz.elemTerms slCells slCells_len slCells_one _ rfl (.tmp 38) (.tmp 42) rfl (w.heap.size + 1) (.slice at_ acc.length ct) (acc.map (·.1)) rfl (hA3.t.row) ⟨_, 0, none⟩ 1 ⟨some ⟨_, 0, none⟩, 1, 1⟩ rfl (cell_one_at _ _ (by simp) _ _) (by rw [List.length_map]; omega) (by simp; omega) ?_; intro gT capT w4 hrow4 hgr4 hnb4; have hA4 := BeSt.term (x := ⟨some ⟨_, 0, none⟩, 1, 1⟩) (ps := Rf.varP i) hA3 (Nat.le_refl _) hP hgr4 hrow4; obtain ⟨r0, r1, r2, r3, r4, rf, rb⟩ := QB.facts hA4.1)
          | (at_builtin; refine wpList_app Tryz.elemStr strCells strCells_len strCells_one _ rfl (.tmp 27) (.tmp 29) rfl (w.heap.size + 1) (.slice an nl.length cn) nl rfl (HS.out.n.alloc _) ⟨_, 0, none⟩ 1 x rfl (cell_one_at _ _ (by simp) _ _) (by omega) (by simp; omega) ?_; intro gN capN w3 hrow3 hgr3 hnb3; have hA2 := BeSt.name (HS.out.below ((Below.refl _ _).alloc (Nat.le_refl _) _)) (Nat.le_refl _) hgr3 hrow3; obtain ⟨q0, q1, q2, q3, q4, qf, qb⟩ := QB.facts hA2.1; have hA3 := (hA2.2.below ((Below.refl _ _).alloc (Nat.le_refl _) (.cells #[.int .i64 1, .string ⟨#[]⟩, .int .i64 i, .int .i64 0] 117))).below ((Below.refl _ _).alloc (Nat.le_refl _) (.cells #[.slice (some ⟨w3.heap.size, 0, none⟩) 1 1] 83)); have hP : Seen _ 117 partCells (.slice (some ⟨w3.heap.size, 0, none⟩) 1 1) (Rf.varP i) := Seen.one (p := ⟨1, ⟨#[]⟩, i, 0⟩) (blk_alloc (blk_at (w3.setCell ⟨w.heap.size, 0, none⟩ (.slice (some ⟨gN, 0, none⟩) (nl.length + 1) capN)) _ w3.heap.size (by simp)) (.cells #[.slice (some ⟨w3.heap.size, 0, none⟩) 1 1] 83)))
          | (go_at_call 61; refine (pisNamed_any x _).mono ?_; rintro r w1 ⟨rfl, rfl⟩; rw [HB.out]))
        go_roundw
        case rel =>
          refine ⟨i + 1, .slice (some ⟨gN, 0, none⟩) (nl.length + 1) capN, .slice (some ⟨gT, 0, none⟩) (acc.length + 1) capT, acc ++ [(⟨some ⟨w3.heap.size, 0, none⟩, 1, 1⟩, Rf.varP i)], by omega, by go_num, ?_, ?_⟩
          · have h9 : Rf.beginN (ns.take (i + 1)) = nl ++ [x] := by unfold Rf.beginN; rw [HSN.out, HB.out, ← hnl.out]; simp [Rf.beginN]
            have h8 := hA4.2
            rw [List.length_map] at h8
            rw [h9]; exact h8
          · unfold Hid Rf.beginT; rw [HSN.out, HB.out, List.map_append, hinv.out]; simp [Rf.beginT]
        case measure => simp [intOf]; omega
    · have hlt' : ¬ (i : Int) < n0 := by omega
      have hend : i = n0 := by omega
      go_wp2_with fail
      go_ret
      have h7 : ns.take i = ns := by rw [hend, ← hn0.out, List.take_length]
      have h8 := hinv.out
      have h9 := hnl.out
      rw [h7] at h8 h9
      have h6 := HS.out
      refine ⟨w.heap.size, rfl, Nat.le_refl _, _, ⟨_, _, _, _, h6.o, ?_, ⟨?_, ?_, ?_⟩, ⟨[], RowIs.nil _ _ _ _ _, (fun y hy => absurd hy (by simp)), rfl⟩, rfl⟩, ?_, h6.b⟩
      · rw [h9]; exact h6.n.seen
      · exact HG.out.below h6.b
      · exact ⟨acc, h6.t.row.seen, h6.t.each, h8.symm⟩
      · show (n0 : Int) = ((ns.length : Nat) : Int); rw [hn0.out]
      · rintro g ⟨off, m, c9, e9⟩
        have h5 := (h6.n.lt g (by rw [e9]; rfl)).1
        omega
end Go.Proofs.YtpdikdnffehmkaaGreatDoor
/- How the program writes a clause (term: Clause.Text). -/
namespace Go.Proofs.YtpdikdnffehmkaaGreatDoor
open Go.RowKit
def lineQ (c : Rf.Cl) : ByteArray := Rf.accL (Rf.txt c.head) c.body c.body.length ++ ⟨#[46]⟩
theorem lineQ_P (c : Rf.Cl) : lineQ c ++ ⟨#[10]⟩ = Rf.lineP c := by
  unfold lineQ Rf.lineP
  rw [ByteArray.append_assoc]
  rfl
set_option maxHeartbeats 2000000 in
set_option maxRecDepth 100000 in
theorem ctext_any (F : Nat → Prop) (w : World) (hx bx : SlV) (cl : Rf.Cl) (h : PClAt F w hx bx cl) (hg : GoodC cl) (ha : Rf.ArgCl cl) (hT : Tab w) :
    Calls Tryz.prog 43 #[.agg #[.slice hx.a hx.n hx.c, .slice bx.a bx.n bx.c]] w fun r w' => r = .returned (.string (lineQ cl)) ∧ Below w.heap.size w w' := by
  obtain ⟨hh, acc, hrow, _, hgl, hbody, h8⟩ := h
  obtain ⟨g1, g2, g3⟩ := hg
  obtain ⟨ha1, ha2⟩ := ha
  obtain ⟨ah, nh, ch⟩ := hx
  obtain ⟨ab, nb, cb⟩ := bx
  have hxx : Hid (lineQ cl = Rf.accL (Rf.txt cl.head) (acc.map (·.2)) acc.length ++ ⟨#[46]⟩) := by unfold Hid lineQ; rw [hbody, List.length_map]
  have hq : ∀ q ∈ acc, (∀ x ∈ q.2, Rf.Good x) ∧ q.2.length ≤ 100000 := fun q hq => g3 q.2 (by rw [hbody]; exact List.mem_map_of_mem hq)
  have hqa : ∀ q ∈ acc, ∀ x ∈ q.2, Rf.ArgOk x := fun q hq => ha2 q.2 (by rw [hbody]; exact List.mem_map_of_mem hq)
  have hhs : (Rf.txt cl.head).size ≤ 2300000 := by have := Rf.txt_size cl.head g1; omega
  have hsz : ∀ k, k ≤ acc.length → (Rf.accL (Rf.txt cl.head) (acc.map (·.2)) k).size ≤ 2300000 + 8 * 2300002 := fun k hk => by
    have h5 := Rf.accL_size (Rf.txt cl.head) (acc.map (·.2)) 2300000 (fun q hq' => by
      obtain ⟨x, hx', rfl⟩ := List.mem_map.1 hq'
      have := Rf.txt_size x.2 (hq x hx').1
      have := (hq x hx').2
      omega) k (by simpa using hk)
    have h6 : k * (2300000 + 2) ≤ 8 * (2300000 + 2) := Nat.mul_le_mul_right _ (by omega)
    omega
  have hn : nb = acc.length := by have := row_len hrow; rw [List.length_map] at this; exact this
  subst hn
  have Hsz : Hid _ := hsz
  have Hq : Hid _ := hq
  have Hqa : Hid _ := hqa
  have Hrow : Hid _ := hrow
  have Hh : Hid _ := hh
  have Hgl : Hid _ := hgl
  have HT : Hid _ := hT
  have G1 : Hid _ := g1
  have A1 : Hid _ := ha1
  clear hsz hq hqa hrow hh hgl hT hbody g1 g3 ha1 ha2
  generalize lineQ cl = LP at *
  generalize cl.head = hd at *
  go_enter Tryz.func43, Tryz.ntmps43
  go_wp2_with (go_at_call 66; refine (text_any F _ ah nh ch hd (PT.keptBy (F' := F) Hh.out ((Kept.refl (fun _ => False) w).alloc _) (fun _ _ hF => ⟨fun e => e, hF⟩)) G1.out A1.out g2 (Tab.below HT.out ((Below.refl _ w).alloc (Nat.le_refl _) _))).mono ?_; rintro r w1 ⟨rfl, hb1⟩; have hb1' : Below w.heap.size w w1 := ((Below.refl _ w).alloc (Nat.le_refl _) _).trans (hb1.mono (by simp)); have hX1 := (hb1.block w.heap.size (by simp)).trans (blk_new _ _); have x1 : w1.cell? ⟨w.heap.size, 1, none⟩ = some (.slice ab acc.length cb) := blk_cell hX1 1)
  clear hX1 x1
  go_loopw [3, 12] (fun sv iv wr => ∃ k : Nat, k ≤ acc.length ∧ iv = .int .i64 k ∧ sv = .string (Rf.accL (Rf.txt hd) (acc.map (·.2)) k) ∧ Below w.heap.size w wr) (fun _ iv _ => acc.length - (intOf iv).toNat)
  case atStart => exact ⟨0, by omega, rfl, rfl, hb1'⟩
  case round =>
    obtain ⟨k, hk, rfl, rfl, hbw⟩ := hrel
    have hcar : (acc.length : Int) ≤ 8 := by omega
    have ht3 := Hsz.out k hk
    by_cases hlt : k < acc.length
    · obtain ⟨gv, rfl⟩ : ∃ gv, ab = some ⟨gv, 0, none⟩ := by
        rcases Hrow.out.shape with ⟨_, hnil⟩ | ⟨gv, cv, e, _⟩
        · have h7 := congrArg List.length hnil
          rw [List.length_map, List.length_nil] at h7
          omega
        · injection e with e1 _ _; exact ⟨gv, e1⟩
      have hmem : acc[k] ∈ acc := List.getElem_mem hlt
      have hcell := (Hrow.out.below hbw).cells slCells_len k acc[k].1 (by simp [hlt]) 0 _ rfl
      simp only [Nat.add_zero, Nat.mul_one] at hcell
      have hgo := (Hgl.out _ hmem).keptBy (F' := F) (Kept.of_below hbw (fun _ => False)) (fun _ _ hF => ⟨fun e => e, hF⟩)
      have hgd := (Hq.out _ hmem).1
      have hld := (Hq.out _ hmem).2
      have hga := Hqa.out _ hmem
      have ht1 := Rf.txt_size _ hgd
      have ht2 : (Rf.txt acc[k].2).size ≤ 2300000 := by omega
      clear ht1
      have hg2 : (acc.map (·.2)).getD k [] = acc[k].2 := by simp [hlt]
      have hacc : Hid (Rf.accL (Rf.txt hd) (acc.map (·.2)) (k + 1) = if k = 0 then (Rf.txt hd ++ ⟨#[58, 45]⟩) ++ Rf.txt acc[k].2 else (Rf.accL (Rf.txt hd) (acc.map (·.2)) k ++ ⟨#[44]⟩) ++ Rf.txt acc[k].2) := by
        unfold Hid; rw [Rf.accL]
        split
        · rename_i h0; subst h0; rw [hg2]
        · rw [hg2]
      clear hg2 hmem
      have Hgd : Hid _ := hgd
      have Hga : Hid _ := hga
      clear hgd hga
      generalize acc[k] = q at *
      obtain ⟨⟨qa, qn, qc⟩, qp⟩ := q
      have hcell2 : wr.cell? ⟨gv, k, none⟩ = some (.slice qa qn qc) := hcell
      have hgo2 : Hid (PT F wr (.slice qa qn qc) qp) := hgo
      simp only at ht2 hacc Hgd Hga hld
      clear hcell hgo
      have hlt' : (k : Int) < acc.length := by omega
      have hz40 : (⟨#[58, 45]⟩ : ByteArray).size = 2 := rfl
      have hz44 : (⟨#[44]⟩ : ByteArray).size = 1 := rfl
      have ht4 : (Rf.accL (Rf.txt hd) (acc.map (·.2)) k ++ ⟨#[44]⟩).size ≤ 2300001 + 8 * 2300002 := by rw [ByteArray.size_append]; omega
      have ht5 : (Rf.accL (Rf.txt hd) (acc.map (·.2)) k ++ ⟨#[58, 45]⟩).size ≤ 2300002 + 8 * 2300002 := by rw [ByteArray.size_append]; omega
      by_cases hk0 : k = 0
      · subst hk0
        go_wp2_with (go_at_call 66; refine (text_any F _ qa qn qc qp hgo2.out Hgd.out Hga.out hld (Tab.below HT.out hbw)).mono ?_; rintro r w2 ⟨rfl, hb2⟩)
        go_roundw
        case rel => exact ⟨1, by omega, rfl, by rw [hacc.out, if_pos trivial]; rfl, hbw.trans (hb2.mono hbw.size)⟩
        case measure => simp [intOf]; omega
      · have hk0' : ((k : Int) == 0) = false := beq_eq_false_iff_ne.2 (by omega)
        go_wp2_with (go_at_call 66; refine (text_any F _ qa qn qc qp hgo2.out Hgd.out Hga.out hld (Tab.below HT.out hbw)).mono ?_; rintro r w2 ⟨rfl, hb2⟩)
        go_roundw
        case rel => exact ⟨k + 1, by omega, by go_num, by rw [hacc.out, if_neg hk0], hbw.trans (hb2.mono hbw.size)⟩
        case measure => simp [intOf]; omega
    · obtain rfl : k = acc.length := by omega
      go_wp2_with fail
      go_ret
      exact ⟨ret_str hxx.out.symm, hbw⟩
end Go.Proofs.YtpdikdnffehmkaaGreatDoor
/- The program's session (prompt: New, Stop, Listing, Consult): how it lies in memory, and the plain functions' answers. -/
namespace Go.Proofs.YtpdikdnffehmkaaGreatDoor
open Go.RowKit
/-- Block x holds a session of the program's: its limit, its clauses' row vC, its question vQ. -/
def PsB (w : World) (x : Nat) (lim : Int) (vC vQ : Value) : Prop :=
  w.heap[x]? = some (.cells #[.int .i64 lim, vC, vQ] 79 (0, 0))
/-- A row of at most 30 good clauses. -/
structure PCls30 (F : Nat → Prop) (w : World) (v : Value) (cls : List Rf.Cl) : Prop where
  ex : ∃ acc, PClsAt F w v acc ∧ cls = acc.map (·.2) ∧ acc.length ≤ 30
  good : ∀ c ∈ cls, GoodC c ∧ Rf.ArgCl c
/-- A session of the program's: block x, not among F, where its clauses lie. -/
structure PsAt (F : Nat → Prop) (w : World) (x : Nat) (cls : List Rf.Cl) : Prop where
  ex : ∃ lim vC vQ, PsB w x lim vC vQ ∧ PCls30 F w vC cls
  apart : ¬ F x
theorem lineQ_size (c : Rf.Cl) : (lineQ c).size + 1 = (Rf.lineP c).size := by
  rw [← lineQ_P, ByteArray.size_append]; rfl
set_option maxHeartbeats 400000 in
theorem pnew_bad (lim : Int) (w : World) (h : lim < 1 ∨ 1000 < lim) :
    Calls Tryz.prog 24 #[.int .i64 lim] w fun r w' => r = .returned (.tuple #[.pointer none, .int .i64 7]) ∧ w' = w := by
  rcases h with h | h
  · go_enter Tryz.func24, Tryz.ntmps24
    go_wp2
    go_ret2
    exact ⟨rfl, rfl⟩
  · have h1 : 1 ≤ lim := by omega
    go_enter Tryz.func24, Tryz.ntmps24
    go_wp2
    go_ret2
    exact ⟨rfl, rfl⟩
set_option maxHeartbeats 400000 in
theorem pnew_ok (lim : Int) (w : World) (h : 1 ≤ lim) (h' : lim ≤ 1000) :
    Calls Tryz.prog 24 #[.int .i64 lim] w fun r w' => r = .returned (.tuple #[.pointer (some ⟨w.heap.size, 0, none⟩), .int .i64 0]) ∧ Below w.heap.size w w' ∧ w'.heap.size = w.heap.size + 1 ∧
      PsB w' w.heap.size lim (.slice none 0 0) (.pointer none) := by
  go_enter Tryz.func24, Tryz.ntmps24
  go_wp2
  go_ret2
  exact ⟨rfl, (Below.refl _ _).alloc (Nat.le_refl _) _, by simp, blk_new _ _⟩
set_option maxHeartbeats 400000 in
theorem pstop_nil (w : World) : Calls Tryz.prog 29 #[.pointer none] w fun r w' => r = .returned (.tuple #[]) ∧ w' = w := by
  go_enter Tryz.func29, Tryz.ntmps29
  go_wp2
  go_end0
  exact ⟨rfl, rfl⟩
set_option maxHeartbeats 400000 in
theorem pstop_any (x : Nat) (w : World) (h : ∃ lim vC vQ, PsB w x lim vC vQ) : Calls Tryz.prog 29 #[.pointer (some ⟨x, 0, none⟩)] w fun r w' => r = .returned (.tuple #[]) ∧ w' = w.setCell ⟨x, 2, none⟩ (.pointer none) := by
  obtain ⟨lim, vC, vQ, hB⟩ := h
  have k2 : w.cell? ⟨x, 2, none⟩ = some vQ := blk_cell hB 2
  have kf := blk_frozen hB
  have hxl := blk_lt hB
  clear hB
  go_enter Tryz.func29, Tryz.ntmps29
  go_wp2
  go_end0
  exact ⟨rfl, rfl⟩
set_option maxHeartbeats 400000 in
theorem plisting_nil (w : World) : Calls Tryz.prog 27 #[.pointer none] w fun r w' => r = .returned (.string ⟨#[]⟩) ∧ w' = w := by
  go_enter Tryz.func27, Tryz.ntmps27
  go_wp2
  go_ret
  exact ⟨rfl, rfl⟩
set_option maxHeartbeats 400000 in
theorem pconsult_nil (s : ByteArray) (w : World) : Calls Tryz.prog 25 #[.pointer none, .string s] w fun r w' => r = .returned (.tuple #[.int .i64 7, .int .i64 0]) ∧ w' = w := by
  go_enter Tryz.func25, Tryz.ntmps25
  go_wp2
  go_ret2
  exact ⟨rfl, rfl⟩
set_option maxHeartbeats 1000000 in
set_option maxRecDepth 100000 in
theorem plisting_any (F : Nat → Prop) (w : World) (x : Nat) (lim : Int) (vC vQ : Value) (cls : List Rf.Cl) (hB : PsB w x lim vC vQ) (hC : PCls30 F w vC cls) (hT : Tab w) :
    Calls Tryz.prog 27 #[.pointer (some ⟨x, 0, none⟩)] w fun r w' => r = .returned (.string (listingP cls)) ∧ Below w.heap.size w w' := by
  obtain ⟨acc, hA, hcls, h30⟩ := hC.ex
  have hgood := hC.good
  have hlen : cls.length = acc.length := by rw [hcls, List.length_map]
  obtain ⟨a, c, hv⟩ := row_slice hA.row
  rw [List.length_map] at hv
  subst hv
  have h8 : ∀ q ∈ acc, q.2.body.length ≤ 8 := fun q hq => by
    obtain ⟨_, ac, _, _, _, hb, h8⟩ := hA.cls q hq
    rw [hb, List.length_map]; exact h8
  have hls : ∀ x ∈ cls, (Rf.lineP x).size ≤ 21000000 := fun x hx => line_size x (hgood x hx).1 (by
    rw [hcls] at hx
    obtain ⟨q, hq, rfl⟩ := List.mem_map.1 hx
    exact h8 q hq)
  have Hls : Hid _ := hls
  have HA : Hid _ := hA
  have HT : Hid _ := hT
  have Hg : Hid _ := hgood
  have HB : Hid _ := hB
  have Hcls : Hid _ := hcls
  have Hlen : Hid _ := hlen
  have k1 : w.cell? ⟨x, 1, none⟩ = some (.slice a acc.length c) := blk_cell hB 1
  clear hls hA hT hgood hB hC hcls h8 hlen
  go_enter Tryz.func27, Tryz.ntmps27
  go_wp2_with fail
  go_loopw [3, 5, 13] (fun sv _ iv wr => ∃ k : Nat, k ≤ acc.length ∧ iv = .int .i64 k ∧ sv = .string (accS cls k) ∧ Below w.heap.size w wr) (fun _ _ iv _ => acc.length - (intOf iv).toNat)
  case atStart => exact ⟨0, by omega, rfl, rfl, Below.refl _ _⟩
  case round =>
    obtain ⟨k, hk, rfl, rfl, hbr⟩ := hrel
    clear k1
    have hszr := hbr.size
    have hs1 := accS_size cls Hls.out k
    have hs2 : (accS cls k).size ≤ 30 * 21000000 := Nat.le_trans hs1 (Nat.mul_le_mul_right _ (by omega))
    clear hs1
    by_cases hlt : k < acc.length
    · obtain ⟨gv, rfl⟩ : ∃ gv, a = some ⟨gv, 0, none⟩ := by
        rcases HA.out.row.shape with ⟨_, hnil⟩ | ⟨gv, cv, e, _⟩
        · have h7 := congrArg List.length hnil
          rw [List.length_map, List.length_nil] at h7
          omega
        · injection e with e1 _ _; exact ⟨gv, e1⟩
      have hmem : acc[k] ∈ acc := List.getElem_mem hlt
      have hc := (HA.out.row.below hbr).cells pclCells_len k acc[k].1 (by simp [hlt])
      have c0 := hc 0 _ rfl
      have c1 := hc 1 _ rfl
      simp only [Nat.add_zero] at c0
      have hgo := (HA.out.cls _ hmem).keptBy (F' := F) (Kept.of_below hbr (fun _ => False)) (fun _ _ hF => ⟨fun e => e, hF.1⟩)
      have hcm : acc[k].2 ∈ cls := by rw [Hcls.out]; exact List.mem_map_of_mem hmem
      have hgd := Hg.out _ hcm
      have hsl := Hls.out _ hcm
      have hacc : Hid (accS cls (k + 1) = accS cls k ++ (lineQ acc[k].2 ++ ⟨#[10]⟩)) := by
        unfold Hid
        have : cls[k]? = some acc[k].2 := by rw [Hcls.out]; simp [hlt]
        rw [accS, this, lineQ_P]
      have hsq : (lineQ acc[k].2).size ≤ 21000000 := by have := lineQ_size acc[k].2; omega
      clear hmem hcm hc hsl
      have Hgo : Hid _ := hgo
      have Hgd : Hid _ := hgd
      clear hgo hgd
      generalize acc[k] = q at *
      obtain ⟨⟨⟨ah, nh, ch⟩, ⟨ab, nb, cb⟩⟩, qcl⟩ := q
      simp only at c0 c1 Hgo hsq hacc Hgd
      have d0 : wr.cell? ⟨gv, k * 2, none⟩ = some (.slice ah nh ch) := c0
      have d1 : wr.cell? ⟨gv, k * 2 + 1, none⟩ = some (.slice ab nb cb) := c1
      clear c0 c1
      have hz : (lineQ qcl ++ ⟨#[10]⟩).size ≤ 21000001 := by rw [ByteArray.size_append]; have : (⟨#[10]⟩ : ByteArray).size = 1 := rfl; omega
      go_wp2_with (go_at_call 43; refine (ctext_any F _ ⟨ah, nh, ch⟩ ⟨ab, nb, cb⟩ qcl (PClAt.keptBy (F' := F) Hgo.out (by repeat' (first | exact Kept.refl _ _ | refine Kept.setCell ?_ ?_ _ | refine Kept.drew ?_ | refine Kept.drewN ?_ _ | refine Kept.alloc ?_ _ | exact Or.inr rfl | exact Or.inr (Or.inl rfl) | (refine Or.inl ?_; simp; done) | (refine Or.inl ?_; simp; omega))) (fun _ _ hF => ⟨fun e => e, hF⟩)) Hgd.out.1 Hgd.out.2 (Tab.below HT.out (hbr.alloc hszr _))).mono ?_; rintro r w3 ⟨rfl, hb3⟩)
      go_roundw
      case rel => exact ⟨k + 1, by omega, by go_num, by rw [hacc.out], (hbr.alloc hszr _).trans (hb3.mono (by simp; omega))⟩
      case measure => simp [intOf]; omega
    · obtain rfl : k = acc.length := by omega
      go_wp2_with fail
      go_ret
      exact ⟨ret_str (by unfold listingP; rw [Hlen.out]), hbr⟩
end Go.Proofs.YtpdikdnffehmkaaGreatDoor
