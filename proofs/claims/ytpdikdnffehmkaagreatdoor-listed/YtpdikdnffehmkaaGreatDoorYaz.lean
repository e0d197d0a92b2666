/- The program's lists of terms (term: PutAll, own, Own). -/
import Derived.Test.YtpdikdnffehmkaaGreatDoorYay
import Derived.Test.YtpdikdnffehmkaaGreatDoorYao
namespace Go
open Go.RowKit
theorem Seen.grownT {α β : Type} {w w' : World} {e e' : TypeId} {C : α → List Value} {C' : β → List Value} {v v' : Value} {xs : List α} {ys : List β} {base size : Nat} (h : Seen w e C v xs) (hr : RowIs w base e' size C' v' ys) (hne : e ≠ e') (hg : w.grownBy w' v'.ownBlock) : Seen w' e C v xs :=
  h.grown hg (fun k cs hc hk => by
    obtain ⟨cs', hc'⟩ := hr.typed k hk
    rw [hc] at hc'
    injection hc' with h1; injection h1 with _ h2
    exact hne h2)
end Go
namespace Go.Proofs.YtpdikdnffehmkaaGreatDoor
open Go.RowKit
/-- The slice v shows the terms ts. -/
structure SeenTs (w : World) (v : Value) (ts : List (List Rf.Part)) : Prop where
  ex : ∃ acc : List (SlV × List Rf.Part), Seen w 83 slCells v (acc.map (·.1)) ∧ (∀ q ∈ acc, Seen w 117 partCells (slv q.1) q.2) ∧ ts = acc.map (·.2)
theorem SeenTs.below {w w' : World} {v : Value} {ts : List (List Rf.Part)} (h : SeenTs w v ts) (hb : Below w.heap.size w w') : SeenTs w' v ts := by
  obtain ⟨acc, h1, h2, h3⟩ := h.ex
  exact ⟨acc, h1.below hb, fun q hq => (h2 q hq).below hb, h3⟩
theorem SeenTs.slice {w : World} {v : Value} {ts : List (List Rf.Part)} (h : SeenTs w v ts) : ∃ a c, v = .slice a ts.length c := by
  obtain ⟨acc, h1, h2, h3⟩ := h.ex
  obtain ⟨a, c, e⟩ := h1.slice
  exact ⟨a, c, by rw [e, h3, List.length_map, List.length_map]⟩
/-- A row of terms in the making: our own from base on; its terms are seen. -/
structure TermsAt (base : Nat) (w : World) (v : Value) (acc : List (SlV × List Rf.Part)) : Prop where
  row : RowIs w base 83 1 slCells v (acc.map (·.1))
  each : ∀ q ∈ acc, Seen w 117 partCells (slv q.1) q.2
theorem TermsAt.nil (base : Nat) (w : World) : TermsAt base w (.slice none 0 0) [] := ⟨RowIs.nil _ _ _ _ _, fun q hq => by cases hq⟩
theorem TermsAt.below {base : Nat} {w w' : World} {v : Value} {acc : List (SlV × List Rf.Part)} (h : TermsAt base w v acc) (hb : Below w.heap.size w w') : TermsAt base w' v acc := ⟨h.row.below hb, fun q hq => (h.each q hq).below hb⟩
theorem TermsAt.seen {base : Nat} {w : World} {v : Value} {acc : List (SlV × List Rf.Part)} (h : TermsAt base w v acc) : SeenTs w v (acc.map (·.2)) := ⟨acc, h.row.seen, h.each, rfl⟩
theorem TermsAt.app {base : Nat} {w w' : World} {v v' : Value} {acc : List (SlV × List Rf.Part)} {x : SlV} {ps : List Rf.Part} (h : TermsAt base w v acc) (hx : Seen w 117 partCells (slv x) ps) (hg : w.grownBy w' v.ownBlock) (hr : RowIs w' base 83 1 slCells v' (acc.map (·.1) ++ [x])) : TermsAt base w' v' (acc ++ [(x, ps)]) := by
  refine ⟨by rw [List.map_append]; exact hr, fun q hq => ?_⟩
  rcases List.mem_append.1 hq with hq | hq
  · exact (h.each q hq).grownT h.row (by decide) hg
  · simp at hq; subst hq
    exact hx.grownT h.row (by decide) hg
theorem Seen.termAt {w : World} {g off n c : Nat} {xs : List SlV} (h : Seen w 83 slCells (.slice (some ⟨g, off, none⟩) n c) xs) (k : Nat) (x : SlV) (hx : xs[k]? = some x) : w.cell? ⟨g, off + k, none⟩ = some (.slice x.a x.n x.c) := by
  have := h.cells slCells_len k x hx 0 _ rfl
  rw [Nat.mul_one, Nat.add_zero] at this
  exact this
set_option maxHeartbeats 1000000 in
theorem pputAll_any (v : Int) (w : World) (vt : Value) (ts : List (List Rf.Part)) (h : SeenTs w vt ts) (hl : ts.length ≤ 100000) (hl1 : ∀ t ∈ ts, t.length ≤ 100000) (a2 : Option Addr) (n2 c2 : Nat) (xs : List Rf.Part) (h2 : Seen w 117 partCells (.slice a2 n2 c2) xs) (hl2 : xs.length ≤ 100000) (hp2 : 1 ≤ xs.length) :
    Calls Tryz.prog 220 #[vt, .int .i64 v, .slice a2 n2 c2] w fun r w' => ∃ v3, r = .returned v3 ∧ SeenTs w' v3 (ts.map (Rf.putV v xs)) ∧ Below w.heap.size w w' := by
  obtain ⟨acc, hT, hE, rfl⟩ := h.ex
  obtain ⟨a, c, rfl⟩ := hT.slice
  rw [List.length_map] at hl
  have hE1 : ∀ q ∈ acc, Seen w 117 partCells (slv q.1) q.2 ∧ q.2.length ≤ 100000 := fun q hq => ⟨hE q hq, hl1 q.2 (List.mem_map_of_mem hq)⟩
  have HT : Hid _ := hT
  have HE : Hid _ := hE1
  have H2 : Hid _ := h2
  clear h hT hE h2 hl1 hE1
  rw [List.length_map]
  go_enter Tryz.func220, Tryz.ntmps220
  go_wp2_with fail
  go_loopw [7, 12] (fun pv iv wr => ∃ (k : Nat) (acc2 : List (SlV × List Rf.Part)), k ≤ acc.length ∧ iv = .int .i64 k ∧ TermsAt w.heap.size wr pv acc2 ∧ acc2.length = k ∧ Hid (acc2.map (·.2) = ((acc.take k).map (·.2)).map (Rf.putV v xs)) ∧ Below w.heap.size w wr) (fun _ iv _ => acc.length - (intOf iv).toNat)
  case atStart => exact ⟨0, [], by omega, rfl, TermsAt.nil _ _, rfl, rfl, Below.refl _ _⟩
  case round =>
    obtain ⟨k, acc2, hk, rfl, hA, hk2, hinv, hbr⟩ := hrel
    obtain rfl := hk2
    have hsz := hbr.size
    obtain ⟨a4, c4, hv4⟩ := row_slice hA.row
    rw [List.length_map] at hv4
    subst hv4
    by_cases hlt : acc2.length < acc.length
    · obtain ⟨g, off, rfl⟩ := HT.out.pos (by simp; omega)
      have hgl := HT.out.lt
      have hmem : acc[acc2.length] ∈ acc := List.getElem_mem hlt
      have hcell := Seen.termAt (HT.out.below hbr) acc2.length acc[acc2.length].1 (by simp [hlt])
      obtain ⟨hS, hSl⟩ := HE.out _ hmem
      have hpt : Hid ((acc.take (acc2.length + 1)).map (·.2) = (acc.take acc2.length).map (·.2) ++ [acc[acc2.length].2]) := by unfold Hid; rw [List.take_succ_eq_append_getElem hlt, List.map_append]; rfl
      clear hmem
      generalize acc[acc2.length] = q at *
      obtain ⟨⟨qa, qn, qc⟩, qp⟩ := q
      simp only at hcell hSl hpt
      have HS : Hid (Seen w 117 partCells (.slice qa qn qc) qp) := hS
      clear hS
      have hgl' : g < wr.heap.size := by omega
      have hlt' : (acc2.length : Int) < acc.length := by omega
      go_wp2_with (first
        | (go_at_call 219; refine (pput_any v _ qa qn qc qp (HS.out.below hbr) hSl a2 n2 c2 xs (H2.out.below hbr) hl2 hp2).mono ?_; rintro r w2 ⟨a3, n3, c3, rfl, hS2, hb2⟩; have hs2 := hb2.size; have hbw2 : Below w.heap.size w w2 := hbr.trans (hb2.mono hsz); have hsw2 := hbw2.size; have hA2 := hA.below hb2)
        | (at_builtin; refine wpList_app Tryz.elemTerms slCells slCells_len slCells_one _ rfl (.tmp 16) (.tmp 21) rfl w.heap.size _ (acc2.map (·.1)) rfl (hA2.row.alloc _) ⟨_, 0, none⟩ 1 ⟨a3, n3, c3⟩ rfl (cell_one_at _ _ rfl _ _) (by rw [List.length_map]; omega) (by rw [World.size_alloc]; omega) ?_; intro gA capA w3 hrow3 hgr3 hnb3; rw [List.length_map] at hrow3))
      go_roundw
      case rel =>
        refine ⟨acc2.length + 1, acc2 ++ [(⟨a3, n3, c3⟩, Rf.putV v xs qp)], by omega, by go_num, ?_, by simp, ?_, (hbw2.alloc hsw2 _).grown hgr3 (by rw [World.size_alloc]; omega) (fun j e => (hA.row.lt j e).1)⟩
        · exact TermsAt.app (hA2.below ((Below.refl _ w2).alloc (Nat.le_refl _) _)) (x := ⟨a3, n3, c3⟩) (Seen.alloc hS2 _) hgr3 hrow3
        · unfold Hid; rw [hpt.out, List.map_append, List.map_append, hinv.out]; rfl
      case measure => simp [intOf]; omega
    · have hend : acc2.length = acc.length := by omega
      have hinv2 : Hid (acc2.map (·.2) = (acc.map (·.2)).map (Rf.putV v xs)) := by have h9 := hinv.out; rw [hend, List.take_length] at h9; exact h9
      have hend' : ¬ ((acc2.length : Int) < acc.length) := by omega
      clear hend
      go_wp2_with fail
      go_ret
      refine ⟨_, rfl, ?_, hbr⟩
      have h9 := hA.seen
      rw [hinv2.out, List.map_map] at h9
      exact h9
theorem ownT_take {off h : Int} {t : List Rf.Part} {k : Nat} (hk : k < t.length) : Rf.ownT off h (t.take (k + 1)) = Rf.ownT off h (t.take k) ++ [Rf.ownP off h t[k]] := by
  unfold Rf.ownT
  rw [List.take_succ_eq_append_getElem hk, List.map_append]
  rfl
set_option maxHeartbeats 1000000 in
theorem pown_any (off h : Int) (w : World) (a : Option Addr) (n c : Nat) (ps : List Rf.Part) (hS : Seen w 117 partCells (.slice a n c) ps) (hl : ps.length ≤ 100000) (h0 : 0 ≤ off) (h1 : off ≤ 1000000000) (hv : ∀ p ∈ ps, p.kind = 1 → 0 ≤ p.value ∧ p.value < 1000000) :
    Calls Tryz.prog 205 #[.slice a n c, .int .i64 off, .int .i64 h] w fun r w' => ∃ (a3 : Option Addr) (n3 c3 : Nat), r = .returned (.slice a3 n3 c3) ∧ Seen w' 117 partCells (.slice a3 n3 c3) (Rf.ownT off h ps) ∧ Below w.heap.size w w' := by
  have hn : n = ps.length := hS.len
  subst hn
  have HH : Hid _ := hS
  have HV : Hid _ := hv
  clear hS hv
  go_enter Tryz.func205, Tryz.ntmps205
  go_wp2_with fail
  go_loopw [7, 12] (fun pv iv wr => ∃ (k : Nat), k ≤ ps.length ∧ iv = .int .i64 k ∧ RowIs wr w.heap.size 117 4 partCells pv (Rf.ownT off h (ps.take k)) ∧ Below w.heap.size w wr) (fun _ iv _ => ps.length - (intOf iv).toNat)
  case atStart => exact ⟨0, by omega, rfl, by rw [List.take_zero]; exact RowIs.nil _ _ _ _ _, Below.refl _ _⟩
  case round =>
      obtain ⟨k, hk, rfl, hrow, hbr⟩ := hrel
      have hsz := hbr.size
      obtain ⟨a4, c4, hv4⟩ := row_slice hrow
      subst hv4
      have hlen : (Rf.ownT off h (ps.take k)).length ≤ 100000 := by unfold Rf.ownT; rw [List.length_map, List.length_take]; omega
      by_cases hlt : k < ps.length
      · obtain ⟨g, o, rfl⟩ := HH.out.pos (by omega)
        have hgl := HH.out.lt
        have hmem : ps[k] ∈ ps := List.getElem_mem hlt
        obtain ⟨e0, e1, e2, e3⟩ := Seen.parts (HH.out.below hbr) k ps[k] (by simp [hlt])
        have hpv := HV.out _ hmem
        have hpt : Hid _ := ownT_take (off := off) (h := h) hlt
        clear hmem
        generalize ps[k] = p at *
        have hgl' : g < wr.heap.size := by omega
        have hlt' : (k : Int) < ps.length := by omega
        generalize Rf.ownT off h (ps.take k) = acc at *
        cases k1 : (p.kind == 1)
        · cases k4 : (p.kind == 4)
          · have hp : Rf.ownP off h p = p := by unfold Rf.ownP; rw [if_neg (beq_eq_false_iff_ne.1 k1), if_neg (beq_eq_false_iff_ne.1 k4)]
            rw [hp] at hpt
            clear hp hpv
            go_wp2_with (at_builtin; refine wpList_app Tryz.elemPart partCells partCells_len partCells_one _ rfl (.tmp 29) (.tmp 31) rfl w.heap.size _ acc rfl ((hrow.alloc _).alloc _) ⟨_, 0, none⟩ 1 p rfl (cell_four_at _ _ (by simp) _ _ _ _ _) (by omega) (by simp; omega) ?_; intro gA capA w3 hrow3 hgr3 hnb3)
            go_roundw
            case rel => exact ⟨k + 1, by omega, by go_num, by rw [hpt.out]; exact hrow3, Below.grown ((hbr.alloc hsz _).alloc (by simp; omega) _) hgr3 (by simp; omega) (fun j e => (hrow.lt j e).1)⟩
            case measure => simp [intOf]; omega
          · have hp : Rf.ownP off h p = { p with value := h } := by unfold Rf.ownP; rw [if_neg (beq_eq_false_iff_ne.1 k1), if_pos (eq_of_beq k4)]
            rw [hp] at hpt
            clear hp hpv
            go_wp2_with (at_builtin; refine wpList_app Tryz.elemPart partCells partCells_len partCells_one _ rfl (.tmp 29) (.tmp 31) rfl w.heap.size _ acc rfl ((hrow.alloc _).alloc _) ⟨_, 0, none⟩ 1 { p with value := h } rfl (cell_four_at _ _ (by simp) _ _ _ _ _) (by omega) (by simp; omega) ?_; intro gA capA w3 hrow3 hgr3 hnb3)
            go_roundw
            case rel => exact ⟨k + 1, by omega, by go_num, by rw [hpt.out]; exact hrow3, Below.grown ((hbr.alloc hsz _).alloc (by simp; omega) _) hgr3 (by simp; omega) (fun j e => (hrow.lt j e).1)⟩
            case measure => simp [intOf]; omega
        · have hp : Rf.ownP off h p = { p with value := p.value + off } := by unfold Rf.ownP; rw [if_pos (eq_of_beq k1)]
          rw [hp] at hpt
          obtain ⟨v0, v1⟩ := hpv (eq_of_beq k1)
          clear hp hpv
          go_wp2_with (at_builtin; refine wpList_app Tryz.elemPart partCells partCells_len partCells_one _ rfl (.tmp 29) (.tmp 31) rfl w.heap.size _ acc rfl ((hrow.alloc _).alloc _) ⟨_, 0, none⟩ 1 { p with value := p.value + off } rfl (cell_four_at _ _ (by simp) _ _ _ _ _) (by omega) (by simp; omega) ?_; intro gA capA w3 hrow3 hgr3 hnb3)
          go_roundw
          case rel => exact ⟨k + 1, by omega, by go_num, by rw [hpt.out]; exact hrow3, Below.grown ((hbr.alloc hsz _).alloc (by simp; omega) _) hgr3 (by simp; omega) (fun j e => (hrow.lt j e).1)⟩
          case measure => simp [intOf]; omega
      · obtain rfl : k = ps.length := by omega
        go_wp2_with fail
        go_ret
        exact ⟨_, _, _, rfl, by have h9 := hrow.seen; simp only [List.take_length] at h9 ⊢; exact h9, hbr⟩
set_option maxHeartbeats 400000 in
theorem pgreater_any (x y : Int) (w : World) : Calls Tryz.prog 162 #[.int .i64 x, .int .i64 y] w fun r w' => r = .returned (.int .i64 (Rf.maxI x y)) ∧ w' = w := by
  by_cases h : y < x
  · have HM : Hid (Rf.maxI x y = x) := by unfold Hid Rf.maxI; rw [if_pos h]
    go_enter Tryz.func162, Tryz.ntmps162
    go_wp2
    go_ret
    exact ⟨ret_int HM.out.symm, rfl⟩
  · have HM : Hid (Rf.maxI x y = y) := by unfold Hid Rf.maxI; rw [if_neg h]
    go_enter Tryz.func162, Tryz.ntmps162
    go_wp2
    go_ret
    exact ⟨ret_int HM.out.symm, rfl⟩
theorem pastN_bd {t : List Rf.Part} (hv : ∀ p ∈ t, p.kind = 1 → 0 ≤ p.value ∧ p.value < 1000000) : ∀ {a : Int}, 0 ≤ a → a ≤ 1000000 → 0 ≤ Rf.pastN a t ∧ Rf.pastN a t ≤ 1000000 := by
  induction t with
  | nil => intro a h0 h1; exact ⟨h0, h1⟩
  | cons p t ih =>
    intro a h0 h1
    rw [Rf.pastN]
    have hp := hv p (by simp)
    refine ih (fun q hq => hv q (List.mem_cons_of_mem _ hq)) ?_ ?_
    · split
      · have := hp ‹_›; unfold Rf.maxI; split <;> omega
      · exact h0
    · split
      · have := hp ‹_›; unfold Rf.maxI; split <;> omega
      · exact h1
set_option maxHeartbeats 1000000 in
theorem ppastT_any (w : World) (a : Option Addr) (n c : Nat) (ps : List Rf.Part) (hS : Seen w 117 partCells (.slice a n c) ps) (hl : ps.length ≤ 100000) (hv : ∀ p ∈ ps, p.kind = 1 → 0 ≤ p.value ∧ p.value < 1000000) :
    Calls Tryz.prog 163 #[.slice a n c] w fun r w' => r = .returned (.int .i64 (Rf.pastT ps)) ∧ Below w.heap.size w w' := by
  have hn : n = ps.length := hS.len
  subst hn
  have HH : Hid _ := hS
  have HV : Hid _ := hv
  clear hS hv
  go_enter Tryz.func163, Tryz.ntmps163
  go_wp2_with fail
  go_loopw [3, 8] (fun mv iv wr => ∃ (k : Nat) (m : Int), k ≤ ps.length ∧ iv = .int .i64 k ∧ mv = .int .i64 m ∧ 0 ≤ m ∧ m ≤ 1000000 ∧ Below w.heap.size w wr ∧ Hid (Rf.pastT ps = Rf.pastN m (ps.drop k))) (fun _ iv _ => ps.length - (intOf iv).toNat)
  case atStart => exact ⟨0, 0, by omega, rfl, rfl, by omega, by omega, Below.refl _ _, rfl⟩
  case round =>
    obtain ⟨k, m, hk, rfl, rfl, hm1, hm2, hbr, hinv⟩ := hrel
    have hsz := hbr.size
    by_cases hlt : k < ps.length
    · obtain ⟨g, off, rfl⟩ := HH.out.pos (by omega)
      have hgl := HH.out.lt
      have hmem : ps[k] ∈ ps := List.getElem_mem hlt
      obtain ⟨c0, c1, c2, c3⟩ := Seen.parts (HH.out.below hbr) k ps[k] (by simp [hlt])
      have hpv := HV.out _ hmem
      have hdrop : ps.drop k = ps[k] :: ps.drop (k + 1) := List.drop_eq_getElem_cons hlt
      rw [hdrop, Rf.pastN] at hinv
      clear hmem hdrop
      generalize ps[k] = p at *
      have hgl' : g < wr.heap.size := by omega
      have hlt' : (k : Int) < ps.length := by omega
      cases k1 : (p.kind == 1)
      · rw [if_neg (beq_eq_false_iff_ne.1 k1)] at hinv
        clear hpv
        go_wp2_with fail
        go_roundw
        case rel => exact ⟨k + 1, m, by omega, by go_num, rfl, hm1, hm2, hbr.alloc hsz _, hinv⟩
        case measure => simp [intOf]; omega
      · rw [if_pos (eq_of_beq k1)] at hinv
        obtain ⟨v0, v1⟩ := hpv (eq_of_beq k1)
        clear hpv
        go_wp2_with (go_at_call 162; refine (pgreater_any m (p.value + 1) _).mono ?_; rintro r w2 ⟨rfl, hw2⟩; subst w2)
        go_roundw
        case rel => exact ⟨k + 1, Rf.maxI m (p.value + 1), by omega, by go_num, rfl, (by unfold Rf.maxI; split <;> omega), (by unfold Rf.maxI; split <;> omega), hbr.alloc hsz _, hinv⟩
        case measure => simp [intOf]; omega
    · obtain rfl : k = ps.length := by omega
      go_wp2_with fail
      go_ret
      exact ⟨ret_int (by rw [hinv.out, List.drop_length, Rf.pastN]), hbr⟩
end Go.Proofs.YtpdikdnffehmkaaGreatDoor
/- A law of our own over any program: a call of a Go function as one step of a region that draws its order. -/
namespace Go
open Go.RowKit
theorem step_call {P : Program} {ops : Array Oper} {o : Oper} {a : Act} {w : World} {K : Act → World → Prop} {Q : Exit → Act → World → Prop} {E : Prop} {R : Ending → World → Prop}
    (hgd : o.guard = none) (f : FuncId) (args : Array Operand) (tys : Array TypeId) (ho : o.op = .call { callee := .value (.func f), args := args, argTypes := tys }) (vals : Array Value) (hv : args.map a.eval = vals)
    (hcf : (callFunc f vals).run P w = .ok (.enter f vals) w) (h : Calls P f vals w R) (hR : ∀ e w', R e w' → ∃ v, e = .returned v ∧ K (a.put o.dst v) w') : if Region.wanted o (yielded ops a.tmps) = true then Oper.wp P o a w K Q else E := by
  have hw : Region.wanted o (yielded ops a.tmps) = true := by simp [Region.wanted, hgd]
  rw [if_pos hw]
  unfold Oper.wp execOp
  simp [ho, resolve, invoke, hv, Act.eval, Deferred.ofValue, hcf]
  rw [Oper.upon_enter]
  refine h.mono ?_
  intro e w' he
  obtain ⟨v, rfl, hk⟩ := hR e w' he
  exact hk
theorem step_call1 {P : Program} {ops : Array Oper} {o : Oper} {a : Act} {w : World} {K : Act → World → Prop} {Q : Exit → Act → World → Prop} {E : Prop} {R : Ending → World → Prop}
    (hgd : o.guard = none) (f : FuncId) (x1 : Operand) (tys : Array TypeId) (ho : o.op = .call { callee := .value (.func f), args := #[x1], argTypes := tys }) (v1 : Value) (h1 : a.eval x1 = v1)
    (hcf : ∀ vals, (callFunc f vals).run P w = .ok (.enter f vals) w) (h : Calls P f #[v1] w R) (hR : ∀ e w', R e w' → ∃ v, e = .returned v ∧ K (a.put o.dst v) w') : if Region.wanted o (yielded ops a.tmps) = true then Oper.wp P o a w K Q else E :=
  step_call hgd f _ tys ho #[v1] (by simp [h1]) (hcf _) h hR
theorem step_call2 {P : Program} {ops : Array Oper} {o : Oper} {a : Act} {w : World} {K : Act → World → Prop} {Q : Exit → Act → World → Prop} {E : Prop} {R : Ending → World → Prop}
    (hgd : o.guard = none) (f : FuncId) (x1 x2 : Operand) (tys : Array TypeId) (ho : o.op = .call { callee := .value (.func f), args := #[x1, x2], argTypes := tys }) (v1 v2 : Value) (h1 : a.eval x1 = v1) (h2 : a.eval x2 = v2)
    (hcf : ∀ vals, (callFunc f vals).run P w = .ok (.enter f vals) w) (h : Calls P f #[v1, v2] w R) (hR : ∀ e w', R e w' → ∃ v, e = .returned v ∧ K (a.put o.dst v) w') : if Region.wanted o (yielded ops a.tmps) = true then Oper.wp P o a w K Q else E :=
  step_call hgd f _ tys ho #[v1, v2] (by simp [h1, h2]) (hcf _) h hR
theorem step_call3 {P : Program} {ops : Array Oper} {o : Oper} {a : Act} {w : World} {K : Act → World → Prop} {Q : Exit → Act → World → Prop} {E : Prop} {R : Ending → World → Prop}
    (hgd : o.guard = none) (f : FuncId) (x1 x2 x3 : Operand) (tys : Array TypeId) (ho : o.op = .call { callee := .value (.func f), args := #[x1, x2, x3], argTypes := tys }) (v1 v2 v3 : Value) (h1 : a.eval x1 = v1) (h2 : a.eval x2 = v2) (h3 : a.eval x3 = v3)
    (hcf : ∀ vals, (callFunc f vals).run P w = .ok (.enter f vals) w) (h : Calls P f #[v1, v2, v3] w R) (hR : ∀ e w', R e w' → ∃ v, e = .returned v ∧ K (a.put o.dst v) w') : if Region.wanted o (yielded ops a.tmps) = true then Oper.wp P o a w K Q else E :=
  step_call hgd f _ tys ho #[v1, v2, v3] (by simp [h1, h2, h3]) (hcf _) h hR
theorem step_call4 {P : Program} {ops : Array Oper} {o : Oper} {a : Act} {w : World} {K : Act → World → Prop} {Q : Exit → Act → World → Prop} {E : Prop} {R : Ending → World → Prop}
    (hgd : o.guard = none) (f : FuncId) (x1 x2 x3 x4 : Operand) (tys : Array TypeId) (ho : o.op = .call { callee := .value (.func f), args := #[x1, x2, x3, x4], argTypes := tys }) (v1 v2 v3 v4 : Value) (h1 : a.eval x1 = v1) (h2 : a.eval x2 = v2) (h3 : a.eval x3 = v3) (h4 : a.eval x4 = v4)
    (hcf : ∀ vals, (callFunc f vals).run P w = .ok (.enter f vals) w) (h : Calls P f #[v1, v2, v3, v4] w R) (hR : ∀ e w', R e w' → ∃ v, e = .returned v ∧ K (a.put o.dst v) w') : if Region.wanted o (yielded ops a.tmps) = true then Oper.wp P o a w K Q else E :=
  step_call hgd f _ tys ho #[v1, v2, v3, v4] (by simp [h1, h2, h3, h4]) (hcf _) h hR
theorem step_call5 {P : Program} {ops : Array Oper} {o : Oper} {a : Act} {w : World} {K : Act → World → Prop} {Q : Exit → Act → World → Prop} {E : Prop} {R : Ending → World → Prop}
    (hgd : o.guard = none) (f : FuncId) (x1 x2 x3 x4 x5 : Operand) (tys : Array TypeId) (ho : o.op = .call { callee := .value (.func f), args := #[x1, x2, x3, x4, x5], argTypes := tys }) (v1 v2 v3 v4 v5 : Value) (h1 : a.eval x1 = v1) (h2 : a.eval x2 = v2) (h3 : a.eval x3 = v3) (h4 : a.eval x4 = v4) (h5 : a.eval x5 = v5)
    (hcf : ∀ vals, (callFunc f vals).run P w = .ok (.enter f vals) w) (h : Calls P f #[v1, v2, v3, v4, v5] w R) (hR : ∀ e w', R e w' → ∃ v, e = .returned v ∧ K (a.put o.dst v) w') : if Region.wanted o (yielded ops a.tmps) = true then Oper.wp P o a w K Q else E :=
  step_call hgd f _ tys ho #[v1, v2, v3, v4, v5] (by simp [h1, h2, h3, h4, h5]) (hcf _) h hR
end Go
