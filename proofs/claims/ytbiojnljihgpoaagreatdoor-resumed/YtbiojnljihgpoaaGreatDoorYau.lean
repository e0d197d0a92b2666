
import Derived.Test.YtbiojnljihgpoaaGreatDoorYat
import Derived.Test.YtbiojnljihgpoaaGreatDoorYam
namespace Go
open Go.RowKit
theorem Seen.grownT {α β : Type} {w w' : World} {e e' : TypeId} {C : α → List Value} {C' : β → List Value} {v v' : Value} {xs : List α} {ys : List β} {base size : Nat} (h : Seen w e C v xs) (hr : RowIs w base e' size C' v' ys) (hne : e ≠ e') (hg : w.grownBy w' v'.ownBlock) : Seen w' e C v xs :=
 h.grown hg (fun k cs hc hk => by
  obtain ⟨cs', hc'⟩ := hr.typed k hk
  rw [hc] at hc'
  injection hc' with h1; injection h1 with _ h2
  exact hne h2)
end Go
namespace Go.Proofs.YtbiojnljihgpoaaGreatDoor
open Go.RowKit
structure SeenTs (w : World) (v : Value) (ts : List (List Rf.Part)) : Prop where
 ex : ∃ acc : List (SlV × List Rf.Part), Seen w 56 slCells v (acc.map (·.1)) ∧ (∀ q ∈ acc, Seen w 101 partCells (slv q.1) q.2) ∧ ts = acc.map (·.2)
theorem SeenTs.below {w w' : World} {v : Value} {ts : List (List Rf.Part)} (h : SeenTs w v ts) (hb : Below w.heap.size w w') : SeenTs w' v ts := by
 obtain ⟨acc, h1, h2, h3⟩ := h.ex
 exact ⟨acc, h1.below hb, fun q hq => (h2 q hq).below hb, h3⟩
theorem SeenTs.slice {w : World} {v : Value} {ts : List (List Rf.Part)} (h : SeenTs w v ts) : ∃ a c, v = .slice a ts.length c := by
 obtain ⟨acc, h1, h2, h3⟩ := h.ex
 obtain ⟨a, c, e⟩ := h1.slice
 exact ⟨a, c, by rw [e, h3, List.length_map, List.length_map]⟩
structure TermsAt (base : Nat) (w : World) (v : Value) (acc : List (SlV × List Rf.Part)) : Prop where
 row : RowIs w base 56 1 slCells v (acc.map (·.1))
 each : ∀ q ∈ acc, Seen w 101 partCells (slv q.1) q.2
theorem TermsAt.nil (base : Nat) (w : World) : TermsAt base w (.slice none 0 0) [] := ⟨RowIs.nil _ _ _ _ _, fun q hq => by cases hq⟩
theorem TermsAt.below {base : Nat} {w w' : World} {v : Value} {acc : List (SlV × List Rf.Part)} (h : TermsAt base w v acc) (hb : Below w.heap.size w w') : TermsAt base w' v acc := ⟨h.row.below hb, fun q hq => (h.each q hq).below hb⟩
theorem TermsAt.seen {base : Nat} {w : World} {v : Value} {acc : List (SlV × List Rf.Part)} (h : TermsAt base w v acc) : SeenTs w v (acc.map (·.2)) := ⟨acc, h.row.seen, h.each, rfl⟩
theorem TermsAt.app {base : Nat} {w w' : World} {v v' : Value} {acc : List (SlV × List Rf.Part)} {x : SlV} {ps : List Rf.Part} (h : TermsAt base w v acc) (hx : Seen w 101 partCells (slv x) ps) (hg : w.grownBy w' v.ownBlock) (hr : RowIs w' base 56 1 slCells v' (acc.map (·.1) ++ [x])) : TermsAt base w' v' (acc ++ [(x, ps)]) := by
 refine ⟨by rw [List.map_append]; exact hr, fun q hq => ?_⟩
 rcases List.mem_append.1 hq with hq | hq
 ·exact (h.each q hq).grownT h.row (by decide) hg
 ·simp at hq; subst hq
  exact hx.grownT h.row (by decide) hg
theorem Seen.termAt {w : World} {g off n c : Nat} {xs : List SlV} (h : Seen w 56 slCells (.slice (some ⟨g, off, none⟩) n c) xs) (k : Nat) (x : SlV) (hx : xs[k]? = some x) : w.cell? ⟨g, off + k, none⟩ = some (.slice x.a x.n x.c) := by
 have := h.cells slCells_len k x hx 0 _ rfl
 rw [Nat.mul_one, Nat.add_zero] at this
 exact this
set_option maxHeartbeats 1000000 in
theorem pputAll_any (v : Int) (w : World) (vt : Value) (ts : List (List Rf.Part)) (h : SeenTs w vt ts) (hl : ts.length ≤ 100000) (hl1 : ∀ t ∈ ts, t.length ≤ 100000) (a2 : Option Addr) (n2 c2 : Nat) (xs : List Rf.Part) (h2 : Seen w 101 partCells (.slice a2 n2 c2) xs) (hl2 : xs.length ≤ 100000) (hp2 : 1 ≤ xs.length) :
  Calls Tryz.prog 142 #[vt, .int .i64 v, .slice a2 n2 c2] w fun r w' => ∃ v3, r = .returned v3 ∧ SeenTs w' v3 (ts.map (Rf.putV v xs)) ∧ Below w.heap.size w w' := by
 obtain ⟨acc, hT, hE, rfl⟩ := h.ex
 obtain ⟨a, c, rfl⟩ := hT.slice
 rw [List.length_map] at hl
 have hE1 : ∀ q ∈ acc, Seen w 101 partCells (slv q.1) q.2 ∧ q.2.length ≤ 100000 := fun q hq => ⟨hE q hq, hl1 q.2 (List.mem_map_of_mem hq)⟩
 have HT : Hid _ := hT
 have HE : Hid _ := hE1
 have H2 : Hid _ := h2
 clear h hT hE h2 hl1 hE1
 rw [List.length_map]
 go_enter Tryz.func142, Tryz.ntmps142
 go_wp2_with fail
 go_loopw [7, 12] (fun pv iv wr => ∃ (k : Nat) (acc2 : List (SlV × List Rf.Part)), k ≤ acc.length ∧ iv = .int .i64 k ∧ TermsAt w.heap.size wr pv acc2 ∧ acc2.length = k ∧ Hid (acc2.map (·.2) = ((acc.take k).map (·.2)).map (Rf.putV v xs)) ∧ Below w.heap.size w wr) (fun _ iv _ => acc.length - (intOf iv).toNat)
 case atStart => exact ⟨0, [], by omega, rfl, TermsAt.nil _ _, rfl, rfl, Below.refl _ _⟩
 case round =>
  obtain ⟨k, acc2, hk, rfl, hA, hk2, hinv, hbr⟩ := hrel
  obtain rfl := hk2
  have hsz := hbr.size
  obtain ⟨a4, c4, hv4⟩ := row_slice hA.row
  rw [List.length_map] at hv4
  subst hv4
  by_cases hlt : acc2.length < acc.length
  ·obtain ⟨g, off, rfl⟩ := HT.out.pos (by simp; omega)
   have hgl := HT.out.lt
   have hmem : acc[acc2.length] ∈ acc := List.getElem_mem hlt
   have hcell := Seen.termAt (HT.out.below hbr) acc2.length acc[acc2.length].1 (by simp [hlt])
   obtain ⟨hS, hSl⟩ := HE.out _ hmem
   have hpt : Hid ((acc.take (acc2.length + 1)).map (·.2) = (acc.take acc2.length).map (·.2) ++ [acc[acc2.length].2]) := by unfold Hid; rw [List.take_succ_eq_append_getElem hlt, List.map_append]; rfl
   clear hmem
   generalize acc[acc2.length] = q at *
   obtain ⟨⟨qa, qn, qc⟩, qp⟩ := q
   simp only at hcell hSl hpt
   have HS : Hid (Seen w 101 partCells (.slice qa qn qc) qp) := hS
   clear hS
   have hgl' : g < wr.heap.size := by omega
   have hlt' : (acc2.length : Int) < acc.length := by omega
   go_wp2_with (first
    | (go_at_call 141; refine (pput_any v _ qa qn qc qp (HS.out.below hbr) hSl a2 n2 c2 xs (H2.out.below hbr) hl2 hp2).mono ?_; rintro r w2 ⟨a3, n3, c3, rfl, hS2, hb2⟩; have hs2 := hb2.size; have hbw2 : Below w.heap.size w w2 := hbr.trans (hb2.mono hsz); have hsw2 := hbw2.size; have hA2 := hA.below hb2)
    | (at_builtin; refine wpList_app Tryz.elemTerms slCells slCells_len slCells_one _ rfl (.tmp 16) (.tmp 21) rfl w.heap.size _ (acc2.map (·.1)) rfl (hA2.row.alloc _) ⟨_, 0, none⟩ 1 ⟨a3, n3, c3⟩ rfl (cell_one_at _ _ rfl _ _) (by rw [List.length_map]; omega) (by rw [World.size_alloc]; omega) ?_; intro gA capA w3 hrow3 hgr3 hnb3; rw [List.length_map] at hrow3))
   go_roundw
   case rel =>
    refine ⟨acc2.length + 1, acc2 ++ [(⟨a3, n3, c3⟩, Rf.putV v xs qp)], by omega, by go_num, ?_, by simp, ?_, (hbw2.alloc hsw2 _).grown hgr3 (by rw [World.size_alloc]; omega) (fun j e => (hA.row.lt j e).1)⟩
    ·exact TermsAt.app (hA2.below ((Below.refl _ w2).alloc (Nat.le_refl _) _)) (x := ⟨a3, n3, c3⟩) (Seen.alloc hS2 _) hgr3 hrow3
    ·unfold Hid; rw [hpt.out, List.map_append, List.map_append, hinv.out]; rfl
   case measure => simp [intOf]; omega
  ·have hend : acc2.length = acc.length := by omega
   have hinv2 : Hid (acc2.map (·.2) = (acc.map (·.2)).map (Rf.putV v xs)) := by have h9 := hinv.out; rw [hend, List.take_length] at h9; exact h9
   have hend' : ¬ ((acc2.length : Int) < acc.length) := by omega
   clear hend
   go_wp2_with fail
   go_ret
   refine ⟨_, rfl, ?_, hbr⟩
   have h9 := hA.seen
   rw [hinv2.out, List.map_map] at h9
   exact h9
theorem ownT_take {off h : Int} {t : List Rf.Part} {k : Nat} (hk : k < t.length) : Rf.ownT off h (t.take (k + 1)) = Rf.ownT off h (t.take k) ++ [Rf.ownP off h t[k]] := by
 unfold Rf.ownT
 rw [List.take_succ_eq_append_getElem hk, List.map_append]
 rfl
set_option maxHeartbeats 1000000 in
theorem pown_any (off h : Int) (w : World) (a : Option Addr) (n c : Nat) (ps : List Rf.Part) (hS : Seen w 101 partCells (.slice a n c) ps) (hl : ps.length ≤ 100000) (h0 : 0 ≤ off) (h1 : off ≤ 1000000000) (hv : ∀ p ∈ ps, p.kind = 1 → 0 ≤ p.value ∧ p.value < 1000000) :
  Calls Tryz.prog 133 #[.slice a n c, .int .i64 off, .int .i64 h] w fun r w' => ∃ (a3 : Option Addr) (n3 c3 : Nat), r = .returned (.slice a3 n3 c3) ∧ Seen w' 101 partCells (.slice a3 n3 c3) (Rf.ownT off h ps) ∧ Below w.heap.size w w' := by
 have hn : n = ps.length := hS.len
 subst hn
 have HH : Hid _ := hS
 have HV : Hid _ := hv
 clear hS hv
 go_enter Tryz.func133, Tryz.ntmps133
 go_wp2_with fail
 go_loopw [7, 12] (fun pv iv wr => ∃ (k : Nat), k ≤ ps.length ∧ iv = .int .i64 k ∧ RowIs wr w.heap.size 101 4 partCells pv (Rf.ownT off h (ps.take k)) ∧ Below w.heap.size w wr) (fun _ iv _ => ps.length - (intOf iv).toNat)
 case atStart => exact ⟨0, by omega, rfl, by rw [List.take_zero]; exact RowIs.nil _ _ _ _ _, Below.refl _ _⟩
 case round =>
   obtain ⟨k, hk, rfl, hrow, hbr⟩ := hrel
   have hsz := hbr.size
   obtain ⟨a4, c4, hv4⟩ := row_slice hrow
   subst hv4
   have hlen : (Rf.ownT off h (ps.take k)).length ≤ 100000 := by unfold Rf.ownT; rw [List.length_map, List.length_take]; omega
   by_cases hlt : k < ps.length
   ·obtain ⟨g, o, rfl⟩ := HH.out.pos (by omega)
    have hgl := HH.out.lt
    have hmem : ps[k] ∈ ps := List.getElem_mem hlt
    obtain ⟨e0, e1, e2, e3⟩ := Seen.parts (HH.out.below hbr) k ps[k] (by simp [hlt])
    have hpv := HV.out _ hmem
    have hpt : Hid _ := ownT_take (off := off) (h := h) hlt
    clear hmem
    generalize ps[k] = p at *
    have hgl' : g < wr.heap.size := by omega
    have hlt' : (k : Int) < ps.length := by omega
    generalize Rf.ownT off h (ps.take k) = acc at *
    cases k1 : (p.kind == 1)
    ·cases k4 : (p.kind == 4)
     ·have hp : Rf.ownP off h p = p := by unfold Rf.ownP; rw [if_neg (beq_eq_false_iff_ne.1 k1), if_neg (beq_eq_false_iff_ne.1 k4)]
      rw [hp] at hpt
      clear hp hpv
      go_wp2_with (at_builtin; refine wpList_app Tryz.elemPart partCells partCells_len partCells_one _ rfl (.tmp 29) (.tmp 31) rfl w.heap.size _ acc rfl ((hrow.alloc _).alloc _) ⟨_, 0, none⟩ 1 p rfl (cell_four_at _ _ (by simp) _ _ _ _ _) (by omega) (by simp; omega) ?_; intro gA capA w3 hrow3 hgr3 hnb3)
      go_roundw
      case rel => exact ⟨k + 1, by omega, by go_num, by rw [hpt.out]; exact hrow3, Below.grown ((hbr.alloc hsz _).alloc (by simp; omega) _) hgr3 (by simp; omega) (fun j e => (hrow.lt j e).1)⟩
      case measure => simp [intOf]; omega
     ·have hp : Rf.ownP off h p = { p with value := h } := by unfold Rf.ownP; rw [if_neg (beq_eq_false_iff_ne.1 k1), if_pos (eq_of_beq k4)]
      rw [hp] at hpt
      clear hp hpv
      go_wp2_with (at_builtin; refine wpList_app Tryz.elemPart partCells partCells_len partCells_one _ rfl (.tmp 29) (.tmp 31) rfl w.heap.size _ acc rfl ((hrow.alloc _).alloc _) ⟨_, 0, none⟩ 1 { p with value := h } rfl (cell_four_at _ _ (by simp) _ _ _ _ _) (by omega) (by simp; omega) ?_; intro gA capA w3 hrow3 hgr3 hnb3)
      go_roundw
      case rel => exact ⟨k + 1, by omega, by go_num, by rw [hpt.out]; exact hrow3, Below.grown ((hbr.alloc hsz _).alloc (by simp; omega) _) hgr3 (by simp; omega) (fun j e => (hrow.lt j e).1)⟩
      case measure => simp [intOf]; omega
    ·have hp : Rf.ownP off h p = { p with value := p.value + off } := by unfold Rf.ownP; rw [if_pos (eq_of_beq k1)]
     rw [hp] at hpt
     obtain ⟨v0, v1⟩ := hpv (eq_of_beq k1)
     clear hp hpv
     go_wp2_with (at_builtin; refine wpList_app Tryz.elemPart partCells partCells_len partCells_one _ rfl (.tmp 29) (.tmp 31) rfl w.heap.size _ acc rfl ((hrow.alloc _).alloc _) ⟨_, 0, none⟩ 1 { p with value := p.value + off } rfl (cell_four_at _ _ (by simp) _ _ _ _ _) (by omega) (by simp; omega) ?_; intro gA capA w3 hrow3 hgr3 hnb3)
     go_roundw
     case rel => exact ⟨k + 1, by omega, by go_num, by rw [hpt.out]; exact hrow3, Below.grown ((hbr.alloc hsz _).alloc (by simp; omega) _) hgr3 (by simp; omega) (fun j e => (hrow.lt j e).1)⟩
     case measure => simp [intOf]; omega
   ·obtain rfl : k = ps.length := by omega
    go_wp2_with fail
    go_ret
    exact ⟨_, _, _, rfl, by have h9 := hrow.seen; simp only [List.take_length] at h9 ⊢; exact h9, hbr⟩
set_option maxHeartbeats 400000 in
theorem pgreater_any (x y : Int) (w : World) : Calls Tryz.prog 116 #[.int .i64 x, .int .i64 y] w fun r w' => r = .returned (.int .i64 (Rf.maxI x y)) ∧ w' = w := by
 by_cases h : y < x
 ·have HM : Hid (Rf.maxI x y = x) := by unfold Hid Rf.maxI; rw [if_pos h]
  go_enter Tryz.func116, Tryz.ntmps116
  go_wp2
  go_ret
  exact ⟨ret_int HM.out.symm, rfl⟩
 ·have HM : Hid (Rf.maxI x y = y) := by unfold Hid Rf.maxI; rw [if_neg h]
  go_enter Tryz.func116, Tryz.ntmps116
  go_wp2
  go_ret
  exact ⟨ret_int HM.out.symm, rfl⟩
theorem pastN_bd {t : List Rf.Part} (hv : ∀ p ∈ t, p.kind = 1 → 0 ≤ p.value ∧ p.value < 1000000) : ∀ {a : Int}, 0 ≤ a → a ≤ 1000000 → 0 ≤ Rf.pastN a t ∧ Rf.pastN a t ≤ 1000000 := by
 induction t with
 | nil => intro a h0 h1; exact ⟨h0, h1⟩
 | cons p t ih =>
  intro a h0 h1
  rw [Rf.pastN]
  have hp := hv p (by simp)
  refine ih (fun q hq => hv q (List.mem_cons_of_mem _ hq)) ?_ ?_
  ·split
   ·have := hp ‹_›; unfold Rf.maxI; split <;> omega
   ·exact h0
  ·split
   ·have := hp ‹_›; unfold Rf.maxI; split <;> omega
   ·exact h1
set_option maxHeartbeats 1000000 in
theorem ppastT_any (w : World) (a : Option Addr) (n c : Nat) (ps : List Rf.Part) (hS : Seen w 101 partCells (.slice a n c) ps) (hl : ps.length ≤ 100000) (hv : ∀ p ∈ ps, p.kind = 1 → 0 ≤ p.value ∧ p.value < 1000000) :
  Calls Tryz.prog 117 #[.slice a n c] w fun r w' => r = .returned (.int .i64 (Rf.pastT ps)) ∧ Below w.heap.size w w' := by
 have hn : n = ps.length := hS.len
 subst hn
 have HH : Hid _ := hS
 have HV : Hid _ := hv
 clear hS hv
 go_enter Tryz.func117, Tryz.ntmps117
 go_wp2_with fail
 go_loopw [3, 8] (fun mv iv wr => ∃ (k : Nat) (m : Int), k ≤ ps.length ∧ iv = .int .i64 k ∧ mv = .int .i64 m ∧ 0 ≤ m ∧ m ≤ 1000000 ∧ Below w.heap.size w wr ∧ Hid (Rf.pastT ps = Rf.pastN m (ps.drop k))) (fun _ iv _ => ps.length - (intOf iv).toNat)
 case atStart => exact ⟨0, 0, by omega, rfl, rfl, by omega, by omega, Below.refl _ _, rfl⟩
 case round =>
  obtain ⟨k, m, hk, rfl, rfl, hm1, hm2, hbr, hinv⟩ := hrel
  have hsz := hbr.size
  by_cases hlt : k < ps.length
  ·obtain ⟨g, off, rfl⟩ := HH.out.pos (by omega)
   have hgl := HH.out.lt
   have hmem : ps[k] ∈ ps := List.getElem_mem hlt
   obtain ⟨c0, c1, c2, c3⟩ := Seen.parts (HH.out.below hbr) k ps[k] (by simp [hlt])
   have hpv := HV.out _ hmem
   have hdrop : ps.drop k = ps[k] :: ps.drop (k + 1) := List.drop_eq_getElem_cons hlt
   rw [hdrop, Rf.pastN] at hinv
   clear hmem hdrop
   generalize ps[k] = p at *
   have hgl' : g < wr.heap.size := by omega
   have hlt' : (k : Int) < ps.length := by omega
   cases k1 : (p.kind == 1)
   ·rw [if_neg (beq_eq_false_iff_ne.1 k1)] at hinv
    clear hpv
    go_wp2_with fail
    go_roundw
    case rel => exact ⟨k + 1, m, by omega, by go_num, rfl, hm1, hm2, hbr.alloc hsz _, hinv⟩
    case measure => simp [intOf]; omega
   ·rw [if_pos (eq_of_beq k1)] at hinv
    obtain ⟨v0, v1⟩ := hpv (eq_of_beq k1)
    clear hpv
    go_wp2_with (go_at_call 116; refine (pgreater_any m (p.value + 1) _).mono ?_; rintro r w2 ⟨rfl, hw2⟩; subst w2)
    go_roundw
    case rel => exact ⟨k + 1, Rf.maxI m (p.value + 1), by omega, by go_num, rfl, (by unfold Rf.maxI; split <;> omega), (by unfold Rf.maxI; split <;> omega), hbr.alloc hsz _, hinv⟩
    case measure => simp [intOf]; omega
  ·obtain rfl : k = ps.length := by omega
   go_wp2_with fail
   go_ret
   exact ⟨ret_int (by rw [hinv.out, List.drop_length, Rf.pastN]), hbr⟩
end Go.Proofs.YtbiojnljihgpoaaGreatDoor
namespace Go.Proofs.YtbiojnljihgpoaaGreatDoor
open Go.RowKit
structure SeenCl (w : World) (hx bx : SlV) (cl : Rf.Cl) : Prop where
 head : Seen w 101 partCells (slv hx) cl.head
 body : SeenTs w (slv bx) cl.body
theorem SeenCl.below {w w' : World} {hx bx : SlV} {cl : Rf.Cl} (h : SeenCl w hx bx cl) (hb : Below w.heap.size w w') : SeenCl w' hx bx cl := ⟨h.head.below hb, h.body.below hb⟩
structure ClOk (cl : Rf.Cl) : Prop where
 hl : cl.head.length ≤ 400
 hv : ∀ p ∈ cl.head, p.kind = 1 → 0 ≤ p.value ∧ p.value < 16
 bl : cl.body.length ≤ 8
 bt : ∀ t ∈ cl.body, t.length ≤ 400 ∧ ∀ p ∈ t, p.kind = 1 → 0 ≤ p.value ∧ p.value < 16
set_option maxHeartbeats 1000000 in
theorem ppast_any (w : World) (hx bx : SlV) (cl : Rf.Cl) (h : SeenCl w hx bx cl) (ho : ClOk cl) :
  Calls Tryz.prog 122 #[.agg #[.slice hx.a hx.n hx.c, .slice bx.a bx.n bx.c]] w fun r w' => r = .returned (.int .i64 (Rf.pastC cl)) ∧ Below w.heap.size w w' := by
 obtain ⟨hH, acc, hT, hE, hbd⟩ := h
 obtain ⟨ah, nh, ch⟩ := hx
 obtain ⟨ab, nb, cb⟩ := bx
 have hn : nb = acc.length := by have := Seen.len hT; rwa [List.length_map] at this
 subst hn
 have hP : Hid (Rf.pastC cl = Rf.pastTs (Rf.pastT cl.head) (acc.map (·.2))) := by unfold Hid Rf.pastC; rw [hbd]
 have hE1 : ∀ q ∈ acc, Seen w 101 partCells (slv q.1) q.2 ∧ q.2.length ≤ 100000 ∧ ∀ p ∈ q.2, p.kind = 1 → 0 ≤ p.value ∧ p.value < 1000000 := fun q hq => by
  have := ho.bt q.2 (by rw [hbd]; exact List.mem_map_of_mem hq)
  exact ⟨hE q hq, by omega, fun p hp hk => by have := this.2 p hp hk; omega⟩
 have HV : Hid (∀ p ∈ cl.head, p.kind = 1 → 0 ≤ p.value ∧ p.value < 1000000) := fun p hp hk => by have := ho.hv p hp hk; omega
 have hhl : cl.head.length ≤ 100000 := by have := ho.hl; omega
 have hbl : acc.length ≤ 8 := by have := ho.bl; rw [hbd, List.length_map] at this; exact this
 have hpb := pastN_bd HV.out (a := 0) (by omega) (by omega)
 have HH : Hid (Seen w 101 partCells (.slice ah nh ch) cl.head) := hH
 have HT : Hid (Seen w 56 slCells (.slice ab acc.length cb) (acc.map (·.1))) := hT
 have HE : Hid _ := hE1
 clear hH hT hE hE1 ho hbd
 generalize Rf.pastC cl = PC at *
 go_enter Tryz.func122, Tryz.ntmps122
 go_wp2_with (go_at_call 117; refine (ppastT_any _ ah nh ch cl.head (Seen.below HH.out (by repeat(first|exact bel0 _ _|refine bel1 ?_ (by simp<;>omega) _|refine bel2 ?_|refine bel3 ?_ _|refine bel4 ?_ (by simp<;>omega) _))) hhl HV.out).mono ?_; rintro r w1 ⟨rfl, hb1⟩; have hb1' : Below w.heap.size w w1 := ((Below.refl _ w).alloc (Nat.le_refl _) _).trans (hb1.mono (by simp)); have hX1 := (hb1.block w.heap.size (by simp)).trans (blk_new _ _); have x1 : w1.cell? ⟨w.heap.size, 1, none⟩ = some (.slice ab acc.length cb) := blk_cell hX1 1)
 clear hX1 x1
 go_loopw [3, 12] (fun mv iv wr => ∃ (k : Nat) (m : Int), k ≤ acc.length ∧ iv = .int .i64 k ∧ mv = .int .i64 m ∧ 0 ≤ m ∧ m ≤ 1000000 ∧ Below w.heap.size w wr ∧ Hid (PC = Rf.pastTs m ((acc.drop k).map (·.2)))) (fun _ iv _ => acc.length - (intOf iv).toNat)
 case atStart => exact ⟨0, _, by omega, rfl, rfl, hpb.1, hpb.2, hb1', hP⟩
 case round =>
  obtain ⟨k, m, hk, rfl, rfl, hm1, hm2, hbr, hinv⟩ := hrel
  have hsz := hbr.size
  by_cases hlt : k < acc.length
  ·obtain ⟨g, off, rfl⟩ := HT.out.pos (by simp; omega)
   have hgl := HT.out.lt
   have hmem : acc[k] ∈ acc := List.getElem_mem hlt
   have hcell := Seen.termAt (HT.out.below hbr) k acc[k].1 (by simp [hlt])
   obtain ⟨hS, hSl, hSv⟩ := HE.out _ hmem
   have hdrop : acc.drop k = acc[k] :: acc.drop (k + 1) := List.drop_eq_getElem_cons hlt
   rw [hdrop, List.map_cons, Rf.pastTs] at hinv
   clear hmem hdrop
   generalize acc[k] = q at *
   obtain ⟨⟨qa, qn, qc⟩, qp⟩ := q
   simp only at hcell hSl hSv hinv
   have HS : Hid (Seen w 101 partCells (.slice qa qn qc) qp) := hS
   have HSv : Hid _ := hSv
   have hqb := pastN_bd hSv (a := 0) (by omega) (by omega)
   have hqb1 : 0 ≤ Rf.pastT qp ∧ Rf.pastT qp ≤ 1000000 := hqb
   clear hS hSv hqb
   have hgl' : g < wr.heap.size := by omega
   have hlt' : (k : Int) < acc.length := by omega
   go_wp2_with (first
    | (go_at_call 117; refine (ppastT_any _ qa qn qc qp (HS.out.below hbr) hSl HSv.out).mono ?_; rintro r w2 ⟨rfl, hb2⟩)
    | (go_at_call 116; refine (pgreater_any m (Rf.pastT qp) _).mono ?_; rintro r w3 ⟨rfl, hw3⟩; subst w3))
   go_roundw
   case rel => exact ⟨k + 1, Rf.maxI m (Rf.pastT qp), by omega, by go_num, rfl, (by unfold Rf.maxI; split <;> omega), (by unfold Rf.maxI; split <;> omega), hbr.trans (hb2.mono hsz), hinv⟩
   case measure => simp [intOf]; omega
  ·obtain rfl : k = acc.length := by omega
   go_wp2_with fail
   go_ret
   exact ⟨ret_int (by rw [hinv.out, List.drop_length]; rfl), hbr⟩
structure OwnSt (w wr : World) (O R : Nat) (hd : SlV) (bv : Value) (ps : List Rf.Part) (acc : List (SlV × List Rf.Part)) : Prop where
 o : wr.heap[O]? = some (.cells #[.slice hd.a hd.n hd.c, bv] 59 (0, 0))
 r : wr.heap[R]? = some (.cells #[.slice none 0 0, .slice none 0 0] 59 (0, 0))
 rows : TermsAt (O + 1) wr bv acc
 hd : Seen wr 101 partCells (.slice hd.a hd.n hd.c) ps
 b : Below w.heap.size w wr
theorem OwnSt.below {w wr w2 : World} {O R : Nat} {hd : SlV} {bv : Value} {ps : List Rf.Part} {acc : List (SlV × List Rf.Part)} (h : OwnSt w wr O R hd bv ps acc) (hb : Below wr.heap.size wr w2) : OwnSt w w2 O R hd bv ps acc :=
 ⟨(hb.block O (blk_lt h.o)).trans h.o, (hb.block R (blk_lt h.r)).trans h.r, h.rows.below hb, h.hd.below hb, h.b.trans (hb.mono h.b.size)⟩
theorem OwnSt.app {w wr w3 : World} {O R : Nat} {hd x : SlV} {bv bv' : Value} {ps qs : List Rf.Part} {acc : List (SlV × List Rf.Part)} (h : OwnSt w wr O R hd bv ps acc) (hO : w.heap.size ≤ O) (hR : R < O) (hx : Seen wr 101 partCells (.slice x.a x.n x.c) qs) (hg : wr.grownBy w3 bv.ownBlock) (hr : RowIs w3 (O + 1) 56 1 slCells bv' (acc.map (·.1) ++ [x])) :
  OwnSt w (w3.setCell ⟨O, 1, none⟩ bv') O R hd bv' ps (acc ++ [(x, qs)]) := by
 have hbl : ∀ k, bv.ownBlock = some k → O + 1 ≤ k := fun k e => (h.rows.row.lt k e).1
 have ho : w3.heap[O]? = _ := (hg.block O (blk_lt h.o) (fun e => by have := hbl O e.symm; omega)).trans h.o
 have hr3 : w3.heap[R]? = _ := (hg.block R (blk_lt h.r) (fun e => by have := hbl R e.symm; omega)).trans h.r
 have hT := TermsAt.app h.rows hx hg hr
 have nt : ∀ cs (t : TypeId), t ≠ 59 → w3.heap[O]? ≠ some (.cells cs t (0, 0)) := fun cs t hne e => by
  rw [ho] at e; injection e with e; injection e with _ e; exact hne e.symm
 refine ⟨blk_set ho 1 _, ?_, ⟨hT.row.setCell ⟨O, 1, none⟩ _ (fun e => ?_), fun q hq => (hT.each q hq).setCell _ _ (fun cs => nt cs _ (by decide))⟩, (h.hd.grownT h.rows.row (by decide) hg).setCell _ _ (fun cs => nt cs _ (by decide)), (h.b.grown hg h.b.size (fun k e => by have := hbl k e; omega)).setCell (p := ⟨O, 1, none⟩) hO _⟩
 ·have : (w3.setCell ⟨O, 1, none⟩ bv').heap[R]? = w3.heap[R]? := Below.heap_setCell _ _ _ _ (by simp; omega)
  rw [this]; exact hr3
 ·have := (hT.row.lt _ e).1; simp at this; omega
theorem OwnSt.fin {w wr : World} {O R : Nat} {hd : SlV} {bv : Value} {ps : List Rf.Part} {acc : List (SlV × List Rf.Part)} (h : OwnSt w wr O R hd bv ps acc) (hR : w.heap.size ≤ R) (x y : Value) :
  Seen ((wr.setCell ⟨R, 0, none⟩ x).setCell ⟨R, 1, none⟩ y) 101 partCells (.slice hd.a hd.n hd.c) ps ∧ SeenTs ((wr.setCell ⟨R, 0, none⟩ x).setCell ⟨R, 1, none⟩ y) bv (acc.map (·.2)) ∧ Below w.heap.size w ((wr.setCell ⟨R, 0, none⟩ x).setCell ⟨R, 1, none⟩ y) := by
 have n1 : ∀ cs (t : TypeId), t ≠ 59 → wr.heap[R]? ≠ some (.cells cs t (0, 0)) := fun cs t hne e => by
  rw [h.r] at e; injection e with e; injection e with _ e; exact hne e.symm
 have n2 : ∀ cs (t : TypeId), t ≠ 59 → (wr.setCell ⟨R, 0, none⟩ x).heap[R]? ≠ some (.cells cs t (0, 0)) := fun cs t hne e => by
  rw [blk_set h.r 0 x] at e; injection e with e; injection e with _ e; exact hne e.symm
 have two : ∀ {α : Type} {e : TypeId} {C : α → List Value} {v : Value} {xs : List α}, e ≠ 59 → Seen wr e C v xs → Seen ((wr.setCell ⟨R, 0, none⟩ x).setCell ⟨R, 1, none⟩ y) e C v xs := fun hne hs => (hs.setCell _ _ (fun cs => n1 cs _ hne)).setCell _ _ (fun cs => n2 cs _ hne)
 exact ⟨two (by decide) h.hd, ⟨acc, two (by decide) h.rows.row.seen, fun q hq => two (by decide) (h.rows.each q hq), rfl⟩, (h.b.setCell (p := ⟨R, 0, none⟩) hR _).setCell (p := ⟨R, 1, none⟩) hR _⟩
def ownC (off h : Int) (cl : Rf.Cl) : Rf.Cl := ⟨Rf.ownT off h cl.head, cl.body.map (Rf.ownT off h), cl.vars⟩
theorem callOwn (vals : Array Value) (w : World) : (callFunc 133 vals).run Tryz.prog w = .ok (.enter 133 vals) w := by
 simp [callFunc, Tryz.func133, Tryz.f133]
set_option maxRecDepth 100000 in
set_option maxHeartbeats 1000000 in
theorem pOwn_any (off h : Int) (w : World) (hx bx : SlV) (cl : Rf.Cl) (hc : SeenCl w hx bx cl) (ho : ClOk cl) (h0 : 0 ≤ off) (h1 : off ≤ 1000000000) :
  Calls Tryz.prog 120 #[.agg #[.slice hx.a hx.n hx.c, .slice bx.a bx.n bx.c], .int .i64 off, .int .i64 h] w fun r w' => ∃ (hy bY : SlV), r = .returned (.agg #[.slice hy.a hy.n hy.c, .slice bY.a bY.n bY.c]) ∧ SeenCl w' hy bY (ownC off h cl) ∧ Below w.heap.size w w' := by
 obtain ⟨hH, acc, hT, hE, hbd⟩ := hc
 obtain ⟨ah, nh, ch⟩ := hx
 obtain ⟨ab, nb, cb⟩ := bx
 have hn : nb = acc.length := by have := Seen.len hT; rwa [List.length_map] at this
 subst hn
 have hE1 : ∀ q ∈ acc, Seen w 101 partCells (slv q.1) q.2 ∧ q.2.length ≤ 100000 ∧ ∀ p ∈ q.2, p.kind = 1 → 0 ≤ p.value ∧ p.value < 1000000 := fun q hq => by
  have := ho.bt q.2 (by rw [hbd]; exact List.mem_map_of_mem hq)
  exact ⟨hE q hq, by omega, fun p hp hk => by have := this.2 p hp hk; omega⟩
 have HV : Hid (∀ p ∈ cl.head, p.kind = 1 → 0 ≤ p.value ∧ p.value < 1000000) := fun p hp hk => by have := ho.hv p hp hk; omega
 have hhl : cl.head.length ≤ 100000 := by have := ho.hl; omega
 have hbl : acc.length ≤ 8 := by have := ho.bl; rw [hbd, List.length_map] at this; exact this
 have HH : Hid (Seen w 101 partCells (.slice ah nh ch) cl.head) := hH
 have HT : Hid (Seen w 56 slCells (.slice ab acc.length cb) (acc.map (·.1))) := hT
 have HE : Hid _ := hE1
 have Hbd : Hid _ := hbd
 clear hH hT hE hE1 ho hbd
 go_enter Tryz.func120, Tryz.ntmps120
 go_wp2_with (go_at_call 133; refine (pown_any off h _ ah nh ch cl.head (Seen.below HH.out (by repeat(first|exact bel0 _ _|refine bel1 ?_ (by simp<;>omega) _|refine bel2 ?_|refine bel3 ?_ _|refine bel4 ?_ (by simp<;>omega) _))) hhl h0 h1 HV.out).mono ?_; rintro r w1 ⟨a1, n1, c1, rfl, hS1, hb1⟩; have hb1' : Below w.heap.size w w1 := (((Below.refl _ w).alloc (Nat.le_refl _) _).alloc (by simp) _).trans (hb1.mono (by simp; omega)); have hs1 : w.heap.size + 2 ≤ w1.heap.size := (by have := hb1.size; simp at this; omega); have hX1 := (hb1.block w.heap.size (by simp; omega)).trans (blk_alloc (blk_new _ _) _); have x1 : w1.cell? ⟨w.heap.size, 1, none⟩ = some (.slice ab acc.length cb) := blk_cell hX1 1; have hY1 := (hb1.block (w.heap.size + 1) (by simp)).trans (blk_at _ _ _ (by simp)); have hsx : w.heap.size < w1.heap.size := (by omega))
 have hst : OwnSt w (w1.alloc (.cells #[.slice a1 n1 c1, .slice none 0 0] 59)) w1.heap.size (w.heap.size + 1) ⟨a1, n1, c1⟩ (.slice none 0 0) (Rf.ownT off h cl.head) [] := ⟨blk_new _ _, blk_alloc hY1 _, TermsAt.nil _ _, Seen.alloc hS1 _, hb1'.alloc hb1'.size _⟩
 clear hX1 x1 hY1
 go_loopw [19] (fun iv wr => ∃ (k : Nat) (bv : Value) (acc2 : List (SlV × List Rf.Part)), k ≤ acc.length ∧ iv = .int .i64 k ∧ OwnSt w wr w1.heap.size (w.heap.size + 1) ⟨a1, n1, c1⟩ bv (Rf.ownT off h cl.head) acc2 ∧ acc2.length = k ∧ Hid (acc2.map (·.2) = ((acc.take k).map (·.2)).map (Rf.ownT off h))) (fun iv _ => acc.length - (intOf iv).toNat)
 case atStart => exact ⟨0, _, [], by omega, rfl, hst, rfl, rfl⟩
 case round =>
  obtain ⟨k, bv, acc2, hk, rfl, hA, hk2, hinv⟩ := hrel
  obtain rfl := hk2
  have hsz := hA.b.size
  have hol := blk_lt hA.o
  obtain ⟨a4, c4, hv4⟩ := row_slice hA.rows.row
  rw [List.length_map] at hv4
  subst hv4
  have o0 := blk_cell hA.o 0
  have o1 := blk_cell hA.o 1
  have of := blk_frozen hA.o
  have hrl := blk_lt hA.r
  have r0 := blk_cell hA.r 0
  have r1 := blk_cell hA.r 1
  have rf := blk_frozen hA.r
  simp at o0 o1 r0 r1
  by_cases hlt : acc2.length < acc.length
  ·obtain ⟨g, o, rfl⟩ := HT.out.pos (by simp; omega)
   have hgl := HT.out.lt
   have hmem : acc[acc2.length] ∈ acc := List.getElem_mem hlt
   have hcell := Seen.termAt (HT.out.below hA.b) acc2.length acc[acc2.length].1 (by simp [hlt])
   obtain ⟨hS, hSl, hSv⟩ := HE.out _ hmem
   have hpt : Hid ((acc.take (acc2.length + 1)).map (·.2) = (acc.take acc2.length).map (·.2) ++ [acc[acc2.length].2]) := by unfold Hid; rw [List.take_succ_eq_append_getElem hlt, List.map_append]; rfl
   clear hmem
   generalize acc[acc2.length] = q at *
   obtain ⟨⟨qa, qn, qc⟩, qp⟩ := q
   simp only at hcell hSl hSv hpt
   have HS : Hid (Seen w 101 partCells (.slice qa qn qc) qp) := hS
   have HSv : Hid _ := hSv
   have HA : Hid _ := hA
   clear hS hSv hst
   have hgl' : g < wr.heap.size := by omega
   have hlt' : (acc2.length : Int) < acc.length := by omega
   go_wp2_with fail
   go_region_law (first
    | (refine step_call3 rfl 133 (.tmp 25) (.tmp 26) (.tmp 27) _ rfl (.slice qa qn qc) (.int .i64 off) (.int .i64 h) rfl rfl rfl (fun _ => callOwn _ _) (pown_any off h _ qa qn qc qp (HS.out.below (by first | exact HA.out.b.drew | exact HA.out.b)) hSl h0 h1 HSv.out) ?_; rintro r w2 ⟨a3, n3, c3, rfl, hS2, hb2⟩; refine ⟨_, rfl, ?_⟩; have hA2 := (HA.out.below (Below.refl _ wr).drew).below hb2; have hA3 := hA2.below ((Below.refl _ w2).alloc (Nat.le_refl _) (.cells #[.slice a3 n3 c3] 56)); have hs2 := hA2.b.size; have hol2 := blk_lt hA2.o; have p0 := blk_cell hA2.o 0; have p1 := blk_cell hA2.o 1; have pf := blk_frozen hA2.o; simp at p0 p1)
    | (refine step_app Tryz.elemTerms slCells slCells_len slCells_one rfl (.tmp 24) (.tmp 29) rfl (w1.heap.size + 1) (.slice a4 acc2.length c4) _ rfl hA3.rows.row ⟨_, 0, none⟩ 1 ⟨a3, n3, c3⟩ rfl (cell_one_at _ _ rfl _ _) (by rw [List.length_map]; omega) (by rw [World.size_alloc]; omega) ?_; intro gA capA w3 hrow3 hgr3 hnb3; rw [List.length_map] at hrow3; have hA4 := OwnSt.app hA3 (by omega) (by omega) (x := ⟨a3, n3, c3⟩) (Seen.alloc hS2 _) hgr3 hrow3; have hz3 := hgr3.size; have q1 : w3.cell? ⟨w1.heap.size, 1, none⟩ = some (.slice a4 acc2.length c4) := (blk_cell ((hgr3.block _ (blk_lt hA3.o) (fun e => by have := (hA3.rows.row.lt _ e.symm).1; omega)).trans hA3.o) 1); have qf := blk_frozen ((hgr3.block _ (blk_lt hA3.o) (fun e => by have := (hA3.rows.row.lt _ e.symm).1; omega)).trans hA3.o)))
   all_goals go_wp2_with fail
   all_goals
    go_roundw
    case rel =>
     refine ⟨acc2.length + 1, _, acc2 ++ [(⟨a3, n3, c3⟩, Rf.ownT off h qp)], by omega, by go_num, hA4, by simp, ?_⟩
     unfold Hid; rw [hpt.out, List.map_append, List.map_append, hinv.out]; rfl
    case measure => simp [intOf]; omega
  ·have hend : acc2.length = acc.length := by omega
   have hinv2 : Hid (acc2.map (·.2) = (acc.map (·.2)).map (Rf.ownT off h)) := by have h9 := hinv.out; rw [hend, List.take_length] at h9; exact h9
   have hend' : ¬ ((acc2.length : Int) < acc.length) := by omega
   clear hend hst
   have HA : Hid _ := hA
   clear hA
   go_wp2_with fail
   refine bodyPost_ret (v := .agg #[.slice a1 n1 c1, .slice a4 acc2.length c4]) (by simp [results, Tryz.results120, go_sem, *]) rfl ?_
   obtain ⟨f1, f2, f3⟩ := HA.out.fin (by omega) (.slice a1 n1 c1) (.slice a4 acc2.length c4)
   refine ⟨⟨a1, n1, c1⟩, ⟨a4, acc2.length, c4⟩, rfl, ⟨f1, ?_⟩, f3⟩
   rw [hinv2.out] at f2
   unfold ownC
   rw [Hbd.out]
   exact f2
end Go.Proofs.YtbiojnljihgpoaaGreatDoor
namespace Go.Proofs.YtbiojnljihgpoaaGreatDoor
open Go.RowKit
def EqB (w : World) (e : Nat) (vf vs vb vh vt : Value) : Prop := w.heap[e]? = some (.cells #[vf, vs, vb, vh, vt] 160 (0, 0))
structure EqIs (w : World) (vf vs vb vh vt : Value) (E : Rf.Eqn) : Prop where
 f : Seen w 101 partCells vf E.f
 s : Seen w 101 partCells vs E.s
 b : SeenTs w vb E.body
 h : SeenTs w vh E.behind
 t : SeenTs w vt E.terms
structure EqAt (w : World) (e : Nat) (E : Rf.Eqn) : Prop where
 ex : ∃ vf vs vb vh vt, EqB w e vf vs vb vh vt ∧ EqIs w vf vs vb vh vt E
structure EqOk (E : Rf.Eqn) : Prop where
 f : E.f.length ≤ 400
 s : E.s.length ≤ 400
 b : E.body.length ≤ 10000 ∧ ∀ t ∈ E.body, t.length ≤ 400
 h : E.behind.length ≤ 10000 ∧ ∀ t ∈ E.behind, t.length ≤ 400
 t : E.terms.length ≤ 10000 ∧ ∀ t ∈ E.terms, t.length ≤ 400
theorem EqIs.below {w w' : World} {vf vs vb vh vt : Value} {E : Rf.Eqn} (h : EqIs w vf vs vb vh vt E) (hb : Below w.heap.size w w') : EqIs w' vf vs vb vh vt E := ⟨h.f.below hb, h.s.below hb, h.b.below hb, h.h.below hb, h.t.below hb⟩
theorem SeenTs.setBlk {w : World} {v : Value} {ts : List (List Rf.Part)} (h : SeenTs w v ts) {e : Nat} {cs : Array Value} {t : TypeId} (hB : w.heap[e]? = some (.cells cs t (0, 0))) (h1 : t ≠ 101) (h2 : t ≠ 56) (i : Nat) (u : Value) : SeenTs (w.setCell ⟨e, i, none⟩ u) v ts := by
 obtain ⟨acc, a1, a2, a3⟩ := h.ex
 have nt : ∀ cs' (t' : TypeId), t' ≠ t → w.heap[e]? ≠ some (.cells cs' t' (0, 0)) := fun cs' t' hne e' => by
  rw [hB] at e'; injection e' with e'; injection e' with _ e'; exact hne e'.symm
 exact ⟨acc, a1.setCell _ _ (fun cs => nt cs _ (Ne.symm h2)), fun q hq => (a2 q hq).setCell _ _ (fun cs => nt cs _ (Ne.symm h1)), a3⟩
theorem EqIs.set {w : World} {e : Nat} {uf us ub uh ut : Value} {vf vs vb vh vt : Value} {E : Rf.Eqn} (h : EqIs w vf vs vb vh vt E) (hB : EqB w e uf us ub uh ut) (i : Nat) (u : Value) : EqIs (w.setCell ⟨e, i, none⟩ u) vf vs vb vh vt E :=
 ⟨h.f.setBlk hB (by decide) i u, h.s.setBlk hB (by decide) i u, h.b.setBlk hB (by decide) (by decide) i u, h.h.setBlk hB (by decide) (by decide) i u, h.t.setBlk hB (by decide) (by decide) i u⟩
theorem EqB.facts {w : World} {e : Nat} {vf vs vb vh vt : Value} (h : EqB w e vf vs vb vh vt) : w.cell? ⟨e, 0, none⟩ = some vf ∧ w.cell? ⟨e, 1, none⟩ = some vs ∧ w.cell? ⟨e, 2, none⟩ = some vb ∧ w.cell? ⟨e, 3, none⟩ = some vh ∧ w.cell? ⟨e, 4, none⟩ = some vt ∧ (∀ i, w.frozen? ⟨e, i, none⟩ = false) ∧ e < w.heap.size :=
 ⟨blk_cell h 0, blk_cell h 1, blk_cell h 2, blk_cell h 3, blk_cell h 4, blk_frozen h, blk_lt h⟩
set_option maxHeartbeats 1000000 in
theorem pdrop_any (w : World) (e m n : Nat) (E : Rf.Eqn) (h : EqAt w e E) (hf : 1 ≤ E.f.length) (hs : 1 ≤ E.s.length) (hm : m ≤ E.f.length) (hn : n ≤ E.s.length) :
  Calls Tryz.prog 134 #[.pointer (some ⟨e, 0, none⟩), .int .i64 m, .int .i64 n] w fun r w' => r = .returned (.tuple #[]) ∧ EqAt w' e { E with f := E.f.drop m, s := E.s.drop n } ∧ Kept (fun k => k = e) w w' := by
 obtain ⟨vf, vs, vb, vh, vt, hB, hE⟩ := h.ex
 obtain ⟨a1, c1, rfl⟩ := hE.f.slice
 obtain ⟨g1, o1, rfl⟩ := hE.f.pos hf
 obtain ⟨a2, c2, rfl⟩ := hE.s.slice
 obtain ⟨g2, o2, rfl⟩ := hE.s.pos hs
 obtain ⟨k0, k1, k2, k3, k4, kf, kl⟩ := hB.facts
 have hc1 := hE.f.cap
 have hc2 := hE.s.cap
 have HB : Hid _ := hB
 have E1 : Hid (∀ u1 u2, EqIs ((w.setCell ⟨e, 0, none⟩ u1).setCell ⟨e, 1, none⟩ u2) _ _ vb vh vt E) := fun u1 u2 => (hE.set hB 0 u1).set (blk_set hB 0 u1) 1 u2
 clear h hB hE
 go_enter Tryz.func134, Tryz.ntmps134
 go_wp2_with fail
 all_goals
  go_end0
  refine ⟨rfl, ⟨_, _, vb, vh, vt, blk_set (blk_set HB.out 0 _) 1 _, ?_⟩, (by repeat' (first | exact Kept.refl _ _ | refine Kept.setCell ?_ ?_ _ | refine Kept.drew ?_ | refine Kept.drewN ?_ _ | refine Kept.alloc ?_ _ | exact Or.inr rfl | exact Or.inr (Or.inl rfl) | (refine Or.inl ?_; simp; done) | (refine Or.inl ?_; simp; omega)))⟩
  refine ⟨?_, ?_, (E1.out _ _).b, (E1.out _ _).h, (E1.out _ _).t⟩
  ·first | exact (E1.out _ _).f.drop partCells_len m hm | exact (E1.out _ _).f.dropEnd m (by assumption)
  ·first | exact (E1.out _ _).s.drop partCells_len n hn | exact (E1.out _ _).s.dropEnd n (by assumption)
set_option maxHeartbeats 1000000 in
theorem psizeWith_any (z n : Nat) (v : Int) (w : World) (vt : Value) (ts : List (List Rf.Part)) (h : SeenTs w vt ts) (hl : ts.length ≤ 100000) (hl1 : ∀ t ∈ ts, t.length ≤ 400) (hz : z ≤ 1000000) (hn : n ≤ 1000) :
  Calls Tryz.prog 144 #[.int .i64 z, vt, .int .i64 v, .int .i64 ((n : Int) + 1)] w fun r w' => r = .returned (.int .i64 (Rf.sizeW v n z ts)) ∧ Below w.heap.size w w' := by
 obtain ⟨acc, hT, hE, rfl⟩ := h.ex
 obtain ⟨a, c, rfl⟩ := hT.slice
 rw [List.length_map] at hl
 have hE1 : ∀ q ∈ acc, Seen w 101 partCells (slv q.1) q.2 ∧ q.2.length ≤ 400 := fun q hq => ⟨hE q hq, hl1 q.2 (List.mem_map_of_mem hq)⟩
 have HT : Hid _ := hT
 have HE : Hid _ := hE1
 clear h hT hE hl1 hE1
 rw [List.length_map]
 go_enter Tryz.func144, Tryz.ntmps144
 go_wp2_with fail
 go_loopw [0, 13] (fun sv iv wr => ∃ (k y : Nat), k ≤ acc.length ∧ iv = .int .i64 k ∧ sv = .int .i64 y ∧ y ≤ 1000000 ∧ Below w.heap.size w wr ∧ Hid (Rf.sizeW v n z (acc.map (·.2)) = Rf.sizeW v n y ((acc.drop k).map (·.2)))) (fun _ iv _ => acc.length - (intOf iv).toNat)
 case atStart => exact ⟨0, z, by omega, rfl, rfl, hz, Below.refl _ _, rfl⟩
 case round =>
  obtain ⟨k, y, hk, rfl, rfl, hy, hbr, hinv⟩ := hrel
  have hsz := hbr.size
  by_cases hlt : k < acc.length
  ·obtain ⟨g, off, rfl⟩ := HT.out.pos (by simp; omega)
   have hgl := HT.out.lt
   have hmem : acc[k] ∈ acc := List.getElem_mem hlt
   have hcell := Seen.termAt (HT.out.below hbr) k acc[k].1 (by simp [hlt])
   obtain ⟨hS, hSl⟩ := HE.out _ hmem
   have hdrop : acc.drop k = acc[k] :: acc.drop (k + 1) := List.drop_eq_getElem_cons hlt
   rw [hdrop, List.map_cons, Rf.sizeW] at hinv
   clear hmem hdrop
   generalize acc[k] = q at *
   obtain ⟨⟨qa, qn, qc⟩, qp⟩ := q
   simp only at hcell hSl hinv
   have HS : Hid (Seen w 101 partCells (.slice qa qn qc) qp) := hS
   have hqn : qn = qp.length := Seen.len HS.out
   subst hqn
   clear hS
   have hcv := Rf.countV_le (v := v) qp
   have hcm : Rf.countV v qp * n ≤ 400 * 1000 := Nat.mul_le_mul (by omega) hn
   have hcm' : (Rf.countV v qp : Int) * n ≤ 400000 := by
    have h9 : ((Rf.countV v qp * n : Nat) : Int) ≤ 400000 := by omega
    simpa using h9
   have hcm0 : (0 : Int) ≤ (Rf.countV v qp : Int) * n := Int.mul_nonneg (by omega) (by omega)
   have hgl' : g < wr.heap.size := by omega
   have hlt' : (k : Int) < acc.length := by omega
   by_cases h200 : 200 < y
   ·rw [if_pos h200] at hinv
    go_wp2_with fail
    go_ret
    exact ⟨ret_int (by rw [hinv.out]), hbr⟩
   ·rw [if_neg h200] at hinv
    go_wp2_with (go_at_call 139; refine (pcount_any v _ qa _ qc qp (HS.out.below hbr) (by omega)).mono ?_; rintro r w2 ⟨rfl, hb2⟩)
    go_roundw
    case rel => exact ⟨k + 1, y + qp.length + Rf.countV v qp * n, by omega, by go_num, by simp; omega, by omega, hbr.trans (hb2.mono hsz), hinv⟩
    case measure => simp [intOf]; omega
  ·obtain rfl : k = acc.length := by omega
   go_wp2_with fail
   go_ret
   exact ⟨ret_int (by rw [hinv.out, List.drop_length]; rfl), hbr⟩
end Go.Proofs.YtbiojnljihgpoaaGreatDoor
