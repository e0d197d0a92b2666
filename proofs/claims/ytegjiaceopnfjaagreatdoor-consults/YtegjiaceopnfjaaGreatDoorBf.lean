/- What the program's reader does at a text (read: Clauses): the plain function's answer, in new memory. -/
import Derived.Test.YtegjiaceopnfjaaGreatDoorBe
import Derived.Test.YtegjiaceopnfjaaGreatDoorAh
import Derived.Test.YtegjiaceopnfjaaGreatDoorAi
import Derived.Deep.LoopGhost
import Derived.Test.YtegjiaceopnfjaaGreatDoorAa
namespace Go.Proofs.YtegjiaceopnfjaaGreatDoor
open Go.RowKit
/-- A clause's two cells. -/
structure PClV where
  h : SlV
  b : SlV
def pclCells (x : PClV) : List Value := [.slice x.h.a x.h.n x.h.c, .slice x.b.a x.b.n x.b.c]
theorem pclCells_len (s : PClV) : (pclCells s).length = 2 := rfl
theorem pclCells_one (s : PClV) : ∀ u ∈ pclCells s, u.oneCell' = true := by
  intro u hu
  simp only [pclCells, List.mem_cons, List.not_mem_nil, or_false] at hu
  rcases hu with rfl | rfl <;> rfl
theorem Tryz.elemPCl : ElemOk Tryz.prog 49 81 2 48 (.agg #[.slice none 0 0, .slice none 0 0]) := ⟨Tryz.underlying49, by kernel_rfl, rfl, by decide, by decide⟩
/-- A row of clauses in memory. -/
structure PClsAt (F : Nat → Prop) (w : World) (v : Value) (acc : List (PClV × Rf.Cl)) : Prop where
  row : RowIs w 0 81 2 pclCells v (acc.map (·.1))
  rowF : ∀ k, v.ownBlock = some k → F k
  cls : ∀ q ∈ acc, PClAt (fun k => F k ∧ v.ownBlock ≠ some k) w q.1.h q.1.b q.2
  none : acc = [] → v = .slice none 0 0
theorem PClsAt.mono {w : World} {F F' : Nat → Prop} {v : Value} {acc : List (PClV × Rf.Cl)} (h : PClsAt F w v acc) (hF : ∀ k, F k → F' k) : PClsAt F' w v acc :=
  ⟨h.row, fun k e => hF k (h.rowF k e), fun q hq => (h.cls q hq).keptBy (Kept.refl (fun _ => False) _) (fun k _ hk => ⟨fun e => e, hF k hk.1, hk.2⟩), h.none⟩
theorem pcls_ok {w w2 w3 w4 : World} {r : Nat} {text : ByteArray} {o1 o2 : Obj} {nb1 nb3 : Option Nat} {v : Value} {acc : List (PClV × Rf.Cl)} {x : PClV} {cl : Rf.Cl} {l l3 : List Rf.Tok} {ns ns3 : List ByteArray} {gA n capA : Nat}
    (hs : w.heap.size ≤ w2.heap.size) (hR2 : Pr w2 r text nb1 l ns) (hA : PClsAt (Fb w w2 r nb1) w2 v acc) (hK3 : Kept (May r nb1) w2 w3) (hR3 : Pr w3 r text nb3 l3 ns3) (hn3 : ∀ y, nb3 = some y → w2.heap.size ≤ y)
    (hC : PClAt (New w2 w3 nb3) w3 x.h x.b cl) (hgr : ((w3.alloc o1).alloc o2).grownBy w4 v.ownBlock) (hn : Nb ((w3.alloc o1).alloc o2) v.ownBlock (some gA))
    (hr : RowIs w4 0 81 2 pclCells (.slice (some ⟨gA, 0, none⟩) n capA) ((acc.map (·.1)) ++ [x])) :
    PClsAt (Fb w w4 r nb3) w4 (.slice (some ⟨gA, 0, none⟩) n capA) (acc ++ [(x, cl)]) ∧ Pr w4 r text nb3 l3 ns3 := by
  have hb2 := hR2.lt.1
  have hb3 := hR3.lt.1
  have hs3 := hK3.size
  have hs4 : w3.heap.size + 2 ≤ w4.heap.size := by have := hgr.size; simpa using this
  have hk4 : Kept (fun k => v.ownBlock = some k) w3 w4 := ((((Kept.refl (fun k => v.ownBlock = some k) w3).alloc o1).alloc o2).grown hgr (fun k e => .inr e))
  have hgl : gA < w4.heap.size := (hr.lt gA rfl).2
  have hvl : ∀ k, v.ownBlock = some k → k < w2.heap.size := fun k e => (hA.rowF k e).2.1
  have hgn : w.heap.size ≤ gA ∧ nb3 ≠ some gA ∧ gA ≠ r := by
    rcases hn with e | ⟨k, e, hk⟩
    · have := hA.rowF gA e.symm
      exact ⟨this.1, fun e2 => by have := hn3 gA e2; have := hvl gA e.symm; omega, this.2.2.2⟩
    · have := Option.some.inj e
      simp at hk
      exact ⟨by omega, fun e2 => by have := hR3.lt.2.1 gA e2; omega, by omega⟩
  refine ⟨⟨by rw [List.map_append]; exact hr, fun k e => ?_, fun q hq => ?_, fun e => by simp at e⟩, hR3.keptBy hk4 (fun e => (hA.rowF r e).2.2.2 rfl) (fun k e e2 => by have := hn3 k e; have := hvl k e2; omega)⟩
  · obtain rfl := Option.some.inj e
    exact ⟨hgn.1, hgl, hgn.2.1, hgn.2.2⟩
  · have hown : ∀ k, k < w3.heap.size → v.ownBlock ≠ some k → (Value.slice (some ⟨gA, 0, none⟩) n capA).ownBlock ≠ some k := fun k hk h e => hn.ne h (by simp; omega) e
    rcases List.mem_append.1 hq with hq | hq
    · refine ((hA.cls q hq).keptBy hK3 (F' := fun k => Fb w w3 r nb3 k ∧ v.ownBlock ≠ some k) (fun k hk1 hF => ?_)).keptBy hk4 (fun k hk1 hF => ?_)
      · obtain ⟨⟨f1, f2, f3, f4⟩, f5⟩ := hF
        exact ⟨fun e => by rcases e with e | e; exact f4 e; exact f3 e.symm, ⟨f1, by omega, fun e => by have := hn3 k e; omega, f4⟩, f5⟩
      · obtain ⟨⟨f1, f2, f3, f4⟩, f5⟩ := hF
        exact ⟨f5, ⟨f1, by omega, f3, f4⟩, hown k hk1 f5⟩
    · simp at hq; subst hq
      refine hC.keptBy hk4 (fun k hk1 hF => ?_)
      obtain ⟨f1, f2, f3⟩ := hF
      have hv : v.ownBlock ≠ some k := fun e => by have := hvl k e; omega
      exact ⟨hv, ⟨by omega, by omega, f3, by omega⟩, hown k hk1 hv⟩
def PClausesPost (w : World) (res : Except (Int × Nat) (List Rf.Cl)) (x : Ending) (w' : World) : Prop :=
  Below w.heap.size w w' ∧
  (match res with
   | .ok cls => ∃ v acc, x = .returned (.tuple #[v, .int .i64 0, .int .i64 0]) ∧ PClsAt (fun k => w.heap.size ≤ k ∧ k < w'.heap.size) w' v acc ∧ cls = acc.map (·.2)
   | .error (e, q) => x = .returned (.tuple #[.slice none 0 0, .int .i64 e, .int .i64 q]) ∧ e ≠ 0)
set_option maxHeartbeats 400000 in
theorem pclauses_long (s : ByteArray) (w : World) (hs : 400 < s.size) (hm : s.size ≤ maxLen) :
    Calls Tryz.prog 30 #[.string s] w fun r w' => PClausesPost w (Rf.readS s) r w' := by
  have hS : Hid (Rf.readS s = .error (1, 0)) := by unfold Hid Rf.readS; rw [if_pos hs]
  unfold maxLen at hm
  go_enter Tryz.func30, Tryz.ntmps30
  go_wp2
  go_ret3
  rw [hS.out]
  exact ⟨Below.refl _ _, rfl, by decide⟩
def PClsSt (w : World) (r f : Nat) (text : ByteArray) (want : Except (Int × Nat) (List Rf.Cl)) (m : Nat) (v : Value) (wr : World) : Prop :=
  Below w.heap.size w wr ∧ ∃ acc l1 ns1 nb1, l1.length < m ∧ m + acc.length ≤ 402 ∧ Pr wr r text nb1 l1 ns1 ∧ l1.length ≤ f ∧ (∀ x, nb1 = some x → w.heap.size ≤ x) ∧ PClsAt (Fb w wr r nb1) wr v acc ∧ Hid (want = Rf.clausesS f m (acc.map (·.2)) l1)
set_option maxHeartbeats 2000000 in
set_option maxRecDepth 100000 in
theorem pclauses_short (s : ByteArray) (w : World) (hs : s.size ≤ 400) :
    Calls Tryz.prog 30 #[.string s] w fun r w' => PClausesPost w (Rf.readS s) r w' := by
  have hS : Hid (Rf.readS s = Rf.clausesS (Rf.tokens s).length ((Rf.tokens s).length + 1) [] (Rf.tokens s)) := by unfold Hid Rf.readS; rw [if_neg (by omega)]
  have hlen : (Rf.tokens s).length ≤ 401 := by have := Rf.toks_len s s.size 0; unfold Rf.tokens; omega
  have hend : Rf.Ended (Rf.tokens s) := Rf.toks_ended s _ _
  generalize hL : Rf.tokens s = L at *
  have HL : Hid (Rf.rest s 0 = L) := hL
  clear hL
  generalize Rf.readS s = want at *
  go_enter Tryz.func30, Tryz.ntmps30
  go_wp2_with (go_at_call 40; refine (step_raw _ w.heap.size s 0 0 0 0 (.slice none 0 0) (blk_at _ _ _ (by simp)) hs (Nat.zero_le _)).mono ?_; rintro x w1 ⟨K', f', to', C', rfl, hB1, ht1, hK1⟩)
  have hszK := hK1.size
  have hP1 : Hid (Pr w1 w.heap.size s none L []) := by
    have h9 := Pr.mk' hB1 ht1 (Nat.zero_le _) hs (RowIs.nil _ _ _ _ _) rfl (by simp [Value.ownBlock]) (ns := []) (by simp)
    rw [HL.out] at h9
    exact h9
  have hBel1 : Hid (Below w.heap.size w w1) := by
    have h9 := (Kept.refl (fun k => k = w.heap.size) w).alloc (.cells #[.string s, .int .i64 0, .int .i64 0, .int .i64 0, .int .i64 0, .slice none 0 0, .int .i64 0, .int .i64 0] 106)
    exact (h9.trans hK1 (fun _ _ e => e)).below (Nat.le_refl _) (fun k hk e => by omega)
  clear hB1 ht1 hszK
  have hwr : w.heap.size ≤ w.heap.size := Nat.le_refl _
  generalize hr0 : w.heap.size = r at hP1 hwr ⊢
  go_loopg [6] (L.length + 1) (fun m v wr => PClsSt w r L.length s want m v wr)
  case atStart => exact ⟨hBel1.out, [], L, [], none, by omega, by simp; omega, hP1.out, Nat.le_refl _, (fun x e => by cases e), ⟨RowIs.nil _ _ _ _ _, (fun k e => by simp [Value.ownBlock] at e), (fun q hq => by simp at hq), fun _ => rfl⟩, hS⟩
  case round =>
    obtain ⟨hbr, acc, l1, ns1, nb1, hm1, hm2, hP, hlf, hnn, hA, hwant⟩ := hrel
    obtain ⟨t, l, rfl⟩ : ∃ t l, l1 = t :: l := by
      cases l1 with
      | nil => exact absurd rfl hP.ended.ne
      | cons t l => exact ⟨t, l, rfl⟩
    obtain ⟨m', rfl⟩ : ∃ m', gk = m' + 1 := ⟨gk - 1, by omega⟩
    obtain ⟨a6, c6, hv6⟩ := row_slice hA.row
    rw [List.length_map] at hv6
    subst hv6
    obtain ⟨j1, ⟨_, j0⟩, jl⟩ := hP.kind
    have hszr := hbr.size
    have hk0 := Rf.kindOf_0 (k := t.k)
    cases ht0 : (t.k != 0)
    · rw [ht0] at hk0
      have hwe : Hid (want = .ok (acc.map (·.2))) := by unfold Hid; rw [hwant.out, Rf.clausesS, if_pos (by simpa using ht0)]
      go_wp2_with fail
      go_ret3
      rw [hwe.out]
      exact ⟨hbr, _, acc, rfl, hA.mono (fun k hk => ⟨hk.1, hk.2.1⟩), rfl⟩
    · rw [ht0] at hk0
      have e0 : t.k ≠ 0 := by simpa using ht0
      have HP : Hid _ := hP
      cases hres : Rf.clauseP L.length (t :: l) with
      | error x =>
        obtain ⟨e, q⟩ := x
        have hwe : Hid (want = .error (e, q)) := by unfold Hid; rw [hwant.out, Rf.clausesS, if_neg e0, Rf.clauseS_P, hres]
        have HR : Hid _ := hres
        clear hres e0
        go_wp2_with (go_at_call 41; refine (pclause_any L.length r s nb1 (t :: l) ns1 _ hP hlf).mono ?_; rintro x w3 ⟨hK3, hm⟩; rw [HR.out] at hm; have hs3 := hK3.size; obtain ⟨rfl, hE3⟩ := hm; obtain ⟨tx, K3, f3, to3, C3, a3, n3, c3, hB3, hne3⟩ := hE3.ex; obtain ⟨x0, x1, x2, x3, x4, x5, x6, x7, xf, xl⟩ := hB3.facts; have Hne3 : Hid _ := hne3; clear hne3 hB3)
        go_region
        go_wp2_with fail
        go_ret3
        rw [hwe.out]
        refine ⟨?_, rfl, Hne3.out⟩
        exact ((hbr.trans (hK3.below hszr (fun k hk e => by
          rcases e with e | e
          · omega
          · have := hnn k e.symm; omega))).alloc (by omega) _).drew
      | ok x =>
        obtain ⟨cl, l'⟩ := x
        have hlen' : l'.length < (t :: l).length := by
          have h9 := hres
          rw [← Rf.clauseS_P] at h9
          exact Rf.clauseS_len h9
        have hwe : Hid (want = Rf.clausesS L.length m' (acc.map (·.2) ++ [cl]) l') := by unfold Hid; rw [hwant.out, Rf.clausesS, if_neg e0, Rf.clauseS_P, hres]
        have HR : Hid _ := hres
        clear hres e0
        go_wp2_with (first
          | (go_at_call 41; refine (pclause_any L.length r s nb1 (t :: l) ns1 _ hP hlf).mono ?_; rintro x w3 ⟨hK3, hm⟩; rw [HR.out] at hm; have hs3 := hK3.size; obtain ⟨hx, bx, nb3, ns3, rfl, hP3, hn3, hC3⟩ := hm; have hA3row := hA.row.keptBy hK3 (fun k e e2 => by rcases e2 with e2 | e2; exact (hA.rowF k e).2.2.2 e2; exact (hA.rowF k e).2.2.1 e2.symm))
          | (at_builtin; refine wpList_app Tryz.elemPCl pclCells pclCells_len pclCells_one _ rfl (.tmp 29) (.tmp 31) rfl 0 _ (acc.map (·.1)) rfl ((hA3row.alloc _).alloc _) ⟨_, 0, none⟩ 1 (⟨hx, bx⟩ : PClV) rfl (cell_two_at _ _ (by simp) _ _ _) (by simp; omega) (Nat.zero_le _) ?_; intro gA capA w4 hrow4 hgr4 hnb4; rw [List.length_map] at hrow4))
        go_roundg m'
        case measure => omega
        case rel =>
          have hB3 : Below w.heap.size w w3 := hbr.trans (hK3.below hszr (fun k hk e => by
            rcases e with e | e
            · omega
            · have := hnn k e.symm; omega))
          have hB4 : Below w.heap.size w w4 := ((hB3.alloc hB3.size _).alloc (by have := hB3.size; simp; omega) _).grown hgr4 (by have := hB3.size; simp; omega) (fun k e => (hA.rowF k e).1)
          obtain ⟨hA4, hR4⟩ := pcls_ok (x := ⟨hx, bx⟩) hszr hP hA hK3 hP3 hn3 hC3 hgr4 hnb4 hrow4
          refine ⟨hB4, acc ++ [(⟨hx, bx⟩, cl)], l', ns3, nb3, ?_, ?_, hR4, ?_, fun x e => ?_, hA4, ?_⟩
          · simp only [List.length_cons] at hlen' hm1; omega
          · simp; omega
          · simp only [List.length_cons] at hlen' hlf; omega
          · have := hn3 x e; omega
          · have h9 := hwe.out
            simp only [List.map_append, List.map_cons, List.map_nil]
            exact h9
theorem pclauses_any (s : ByteArray) (w : World) (hm : s.size ≤ maxLen) :
    Calls Tryz.prog 30 #[.string s] w fun r w' => PClausesPost w (Rf.readS s) r w' := by
  by_cases h : 400 < s.size
  · exact pclauses_long s w h hm
  · exact pclauses_short s w (by omega)
end Go.Proofs.YtegjiaceopnfjaaGreatDoor
/- How the program writes one part of a term (term: letter, word). -/
namespace Rf
theorem letter_cut (j : Nat) (h : j < 16) : (⟨#[65, 66, 67, 68, 69, 70, 71, 72, 73, 74, 75, 76, 77, 78, 79, 80]⟩ : ByteArray).extract j (j + 1) = letterOf (j : Int) := by
  have hd : j = 0 ∨ j = 1 ∨ j = 2 ∨ j = 3 ∨ j = 4 ∨ j = 5 ∨ j = 6 ∨ j = 7 ∨ j = 8 ∨ j = 9 ∨ j = 10 ∨ j = 11 ∨ j = 12 ∨ j = 13 ∨ j = 14 ∨ j = 15 := by omega
  refine ext_list ?_
  rw [extract_list]
  rcases hd with rfl | rfl | rfl | rfl | rfl | rfl | rfl | rfl | rfl | rfl | rfl | rfl | rfl | rfl | rfl | rfl <;> rfl
end Rf
namespace Go.Proofs.YtegjiaceopnfjaaGreatDoor
open Go.RowKit
set_option maxHeartbeats 400000 in
theorem pletter_any (i : Int) (w : World) (h0 : 0 ≤ i) (h1 : i < 16) :
    Calls Tryz.prog 85 #[.int .i64 i] w fun r w' => r = .returned (.string (Rf.letterOf i)) ∧ w' = w := by
  obtain ⟨j, rfl⟩ := Int.eq_ofNat_of_zero_le h0
  have HL : Hid _ := Rf.letter_cut j (by omega)
  go_enter Tryz.func85, Tryz.ntmps85
  go_wp2
  go_ret
  exact ⟨ret_str HL.out, rfl⟩
def partVal (p : Rf.Part) : Value := .agg #[.int .i64 p.kind, .string p.name, .int .i64 p.value, .int .i64 p.args]
set_option maxHeartbeats 1000000 in
theorem word_part (p : Rf.Part) (w : World) (hg : Rf.Good p) (hT : Tab w) :
    Calls Tryz.prog 60 #[.agg #[.int .i64 p.kind, .string p.name, .int .i64 p.value, .int .i64 p.args]] w fun r w' => r = .returned (.string (Rf.wordP p)) ∧ Below w.heap.size w w' := by
  have HT : Hid _ := hT
  have Hg : Hid _ := hg
  clear hT hg
  cases c1 : (p.kind == 1)
  · cases c2 : (p.kind == 2)
    · cases c4 : (p.kind == 4)
      · have HW : Hid (Rf.wordP p = p.name) := by unfold Hid Rf.wordP; rw [if_neg (beq_eq_false_iff_ne.1 c1), if_neg (beq_eq_false_iff_ne.1 c2), if_neg (beq_eq_false_iff_ne.1 c4)]
        go_enter Tryz.func60, Tryz.ntmps60
        go_wp2
        go_ret
        exact ⟨ret_str HW.out.symm, (by repeat (first | exact Below.refl _ _ | refine Below.setCell ?_ (by simp) _ | refine Below.drew ?_ | refine Below.drewN ?_ _ | refine Below.alloc ?_ (by simp) _))⟩
      · have HW : Hid (Rf.wordP p = ⟨#[33]⟩) := by unfold Hid Rf.wordP; rw [if_neg (beq_eq_false_iff_ne.1 c1), if_neg (beq_eq_false_iff_ne.1 c2), if_pos (eq_of_beq c4)]
        go_enter Tryz.func60, Tryz.ntmps60
        go_wp2
        go_ret
        exact ⟨ret_str HW.out.symm, (by repeat (first | exact Below.refl _ _ | refine Below.setCell ?_ (by simp) _ | refine Below.drew ?_ | refine Below.drewN ?_ _ | refine Below.alloc ?_ (by simp) _))⟩
    · have HW : Hid (Rf.wordP p = Rf.itoaB p.value) := by unfold Hid Rf.wordP; rw [if_neg (beq_eq_false_iff_ne.1 c1), if_pos (eq_of_beq c2)]
      obtain ⟨a0, a1⟩ := Hg.out.2.1 (eq_of_beq c2)
      go_enter Tryz.func60, Tryz.ntmps60
      go_wp2_with (go_at_call 73; refine (Tryz.strconv_Itoa p.value (by omega) (by omega) _ (Tab.below HT.out ((Below.refl _ w).alloc (Nat.le_refl _) _))).mono ?_; rintro r w1 ⟨rfl, k, os, hw1⟩)
      go_ret
      exact ⟨ret_str HW.out.symm, ((Below.refl _ w).alloc (Nat.le_refl _) _).trans ((grow_below _ _ _).mono (by simp))⟩
  · have HW : Hid (Rf.wordP p = Rf.letterOf p.value) := by unfold Hid Rf.wordP; rw [if_pos (eq_of_beq c1)]
    obtain ⟨a0, a1⟩ := Hg.out.1 (eq_of_beq c1)
    go_enter Tryz.func60, Tryz.ntmps60
    go_wp2_with (go_at_call 85; refine (pletter_any p.value _ a0 a1).mono ?_; rintro r w1 ⟨rfl, rfl⟩)
    go_ret
    exact ⟨ret_str HW.out.symm, (by repeat (first | exact Below.refl _ _ | refine Below.setCell ?_ (by simp) _ | refine Below.drew ?_ | refine Below.drewN ?_ _ | refine Below.alloc ?_ (by simp) _))⟩
end Go.Proofs.YtegjiaceopnfjaaGreatDoor
/- How the program writes a term (term: Term.Text): the plain function's text. -/
namespace Go
open Go.RowKit
/-- The last element of a row taken off. -/
theorem row_pop {α : Type} {w : World} {base : Nat} {e : TypeId} {size : Nat} {C : α → List Value} (hC : ∀ x, (C x).length = size) {g n cap : Nat} {xs : List α} {x : α} (h : RowIs w base e size C (.slice (some ⟨g, 0, none⟩) (n + 1) cap) (xs ++ [x])) : RowIs w base e size C (.slice (some ⟨g, 0, none⟩) n cap) xs := by
  obtain ⟨hl, h2⟩ := h.own
  rcases h2 with ⟨h2, _⟩ | ⟨g', cap', cur, e1, h3, h4, h5, h6, h7, h8⟩
  · cases h2
  · obtain ⟨rfl, hn, rfl⟩ : g = g' ∧ n + 1 = (xs ++ [x]).length ∧ cap = cap' := by injection e1 with a1 a2 a3; injection a1 with a1; injection a1 with a1; exact ⟨a1, a2, a3⟩
    have hn' : n = xs.length := by simp at hn; omega
    subst hn'
    have hlen := flatMap_len C hC xs
    refine ⟨hlen, .inr ⟨g, cap, cur, rfl, h3, h4, by simp at h5; omega, h6, h7, ?_⟩⟩
    have h9 := congrArg (List.take (xs.length * size)) h8
    rw [List.take_take, List.flatMap_append, List.take_append_of_le_length (by omega), List.take_of_length_le (l := List.flatMap C xs) (by omega)] at h9
    rw [← h9]
    congr 1
    rw [List.length_append, Nat.add_mul]
    omega
/-- A cell of a row's last element turned. -/
theorem row_setLast {α : Type} {w : World} {base : Nat} {e : TypeId} {C : α → List Value} (hC : ∀ x, (C x).length = 1) {g n cap : Nat} {xs : List α} {x x' : α} {u : Value} (h : RowIs w base e 1 C (.slice (some ⟨g, 0, none⟩) n cap) (xs ++ [x])) (hx : C x' = [u]) :
    RowIs (w.setCell ⟨g, xs.length, none⟩ u) base e 1 C (.slice (some ⟨g, 0, none⟩) n cap) (xs ++ [x']) := by
  obtain ⟨hl, h2⟩ := h.own
  rcases h2 with ⟨h2, _⟩ | ⟨g', cap', cur, e1, h3, h4, h5, h6, h7, h8⟩
  · cases h2
  · obtain ⟨rfl, hn, rfl⟩ : g = g' ∧ n = (xs ++ [x]).length ∧ cap = cap' := by injection e1 with a1 a2 a3; injection a1 with a1; injection a1 with a1; exact ⟨a1, a2, a3⟩
    subst hn
    have hlen := flatMap_len C hC xs
    have hlx := hC x
    refine ⟨?_, .inr ⟨g, cap, cur.setIfInBounds xs.length u, by simp, h3, ?_, by simpa using h5, h6, by simpa using h7, ?_⟩⟩
    · rw [flatMap_len C hC]
    · simp [World.setCell, Array.getElem?_modify, h4]
    · rw [Array.toList_setIfInBounds, List.take_set]
      have hlen2 : ((xs ++ [x']).length) = (xs ++ [x]).length := by simp
      rw [hlen2, h8, List.flatMap_append, List.flatMap_append, List.set_append_right _ _ (by omega), one_flat, one_flat, hx]
      have : xs.length - (List.flatMap C xs).length = 0 := by omega
      rw [this]
      match hcx : C x, hlx with
      | [y], _ => rfl
end Go
namespace Go.Proofs.YtegjiaceopnfjaaGreatDoor
open Go.RowKit
def natCells (n : Nat) : List Value := [.int .i64 (n : Int)]
theorem natCells_len (s : Nat) : (natCells s).length = 1 := rfl
theorem natCells_one (s : Nat) : ∀ u ∈ natCells s, u.oneCell' = true := by
  intro u hu
  simp only [natCells, List.mem_cons, List.not_mem_nil, or_false] at hu
  subst hu; rfl
theorem Tryz.elemInt : ElemOk Tryz.prog 24 3 1 8 (.int .i64 0) := ⟨Tryz.underlying24, by kernel_rfl, rfl, by decide, by decide⟩
/-- The writer's state before part k: the text so far, and the compounds that are open. -/
def TxSt (w : World) (ps : List Rf.Part) (k : Nat) (sv ov : Value) (wr : World) : Prop :=
  ∃ (s : ByteArray) (st : List Nat), sv = .string s ∧ RowIs wr w.heap.size 3 1 natCells ov st.reverse ∧ Below w.heap.size w wr ∧ (∀ x ∈ st, 1 ≤ x ∧ x ≤ 4) ∧ st.length ≤ k ∧ Hid (s ++ Rf.textP (ps.drop k) st = Rf.txt ps)
set_option maxHeartbeats 2000000 in
set_option maxRecDepth 100000 in
theorem text_any (F : Nat → Prop) (w : World) (a : Option Addr) (n c : Nat) (ps : List Rf.Part) (h : PT F w (.slice a n c) ps) (hg : ∀ x ∈ ps, Rf.Good x) (h4 : ∀ x ∈ ps, 0 ≤ x.args ∧ x.args ≤ 4) (hl : ps.length ≤ 100000) (hT : Tab w) :
    Calls Tryz.prog 42 #[.slice a n c] w fun r w' => r = .returned (.string (Rf.txt ps)) ∧ Below w.heap.size w w' := by
  have hn : n = ps.length := row_len h.1
  subst hn
  have HH : Hid _ := h.1
  have Hg : Hid _ := hg
  have H4 : Hid _ := h4
  have HT : Hid _ := hT
  have hts := Rf.txt_size ps hg
  clear h hg h4 hT
  go_enter Tryz.func42, Tryz.ntmps42
  go_wp2_with fail
  go_loopg [3, 4, 10] (ps.length + 1) (fun m sv ov iv wr => ∃ k : Nat, k ≤ ps.length ∧ m = ps.length + 1 - k ∧ iv = .int .i64 k ∧ TxSt w ps k sv ov wr)
  case atStart => exact ⟨0, by omega, rfl, rfl, ⟨#[]⟩, [], rfl, RowIs.nil _ _ _ _ _, Below.refl _ _, (fun x hx => by simp at hx), by simp, by unfold Hid Rf.txt; rw [List.drop_zero, Rf.emp_app]⟩
  case round =>
    obtain ⟨k, hk, rfl, rfl, s, st, rfl, hrow, hbr, hst, hstl, hinv⟩ := hrel
    obtain ⟨a4, c4, hv4⟩ := row_slice hrow
    rw [List.length_reverse] at hv4
    subst hv4
    have hsz := hbr.size
    have hss : s.size ≤ 2300000 := by
      have h9 := congrArg ByteArray.size hinv.out
      rw [ByteArray.size_append] at h9
      omega
    by_cases hlt : k < ps.length
    · obtain ⟨gv, rfl⟩ : ∃ gv, a = some ⟨gv, 0, none⟩ := by
        rcases HH.out.shape with ⟨_, hnil⟩ | ⟨gv, cv, e, _⟩
        · rw [hnil] at hlt; simp at hlt
        · injection e with e1 _ _; exact ⟨gv, e1⟩
      have hmem : ps[k] ∈ ps := List.getElem_mem hlt
      have hcs := (HH.out.below hbr).cells partCells_len k ps[k] (by simp [hlt])
      have hgd := Hg.out _ hmem
      have ha4 := H4.out _ hmem
      have hdrop : ps.drop k = ps[k] :: ps.drop (k + 1) := List.drop_eq_getElem_cons hlt
      rw [hdrop] at hinv
      clear hmem hdrop
      generalize ps[k] = p at *
      have hwz := Rf.word_size p hgd
      have c0 := hcs 0 _ rfl
      have c1 := hcs 1 _ rfl
      have c2 := hcs 2 _ rfl
      have c3 := hcs 3 _ rfl
      simp only [Nat.add_zero] at c0
      have Hgd : Hid _ := hgd
      clear hcs hgd
      have hlt' : (k : Int) < ps.length := by omega
      have Hnc : Hid (natCells p.args.toNat = [.int .i64 p.args]) := by unfold Hid natCells; rw [Int.toNat_of_nonneg ha4.1]
      by_cases hargs : 0 < p.args
      · have hinv2 : Hid (s ++ Rf.wordP p ++ ⟨#[40]⟩ ++ Rf.textP (ps.drop (k + 1)) (p.args.toNat :: st) = Rf.txt ps) := by
          have h9 := hinv.out
          rw [Rf.textP, if_pos hargs] at h9
          unfold Hid
          rw [← h9]
          simp only [ByteArray.append_assoc]
        go_wp2_with (first
          | (go_at_call 60; refine (word_part p _ Hgd.out (Tab.below HT.out (hbr.alloc hsz _))).mono ?_; rintro r w1 ⟨rfl, hb1⟩; have hs1 := hb1.size; have hX1 := (hb1.block wr.heap.size (by simp)).trans (blk_new _ _); have x3 : w1.cell? ⟨wr.heap.size, 3, none⟩ = some (.int .i64 p.args) := blk_cell hX1 3; have hbw1 : Below w.heap.size w w1 := (hbr.alloc hsz _).trans (hb1.mono (by simp; omega)); have hsw1 := hbw1.size; have hrow1 := (hrow.alloc (.cells #[.int .i64 p.kind, .string p.name, .int .i64 p.value, .int .i64 p.args] 141)).below hb1)
          | (at_builtin; refine wpList_app Tryz.elemInt natCells natCells_len natCells_one _ rfl (.tmp 23) (.tmp 26) rfl w.heap.size _ st.reverse rfl (hrow1.alloc _) ⟨_, 0, none⟩ 1 p.args.toNat rfl (fun j v hj => cell_one_at _ _ rfl _ _ j v (by rw [← Hnc.out]; exact hj)) ?_ ?_ ?_; rw [List.length_reverse]; omega; (rw [World.size_alloc]; omega); intro gA capA w3 hrow3 hgr3 hnb3; rw [List.length_reverse] at hrow3))
        go_roundg (ps.length - k)
        case measure => omega
        case rel =>
          refine ⟨k + 1, by omega, by omega, by go_num, _, p.args.toNat :: st, rfl, ?_, ?_, ?_, by simp; omega, hinv2⟩
          · rw [List.reverse_cons]; exact hrow3
          · exact (hbw1.alloc hsw1 _).grown hgr3 (by rw [World.size_alloc]; omega) (fun j e => (hrow.lt j e).1)
          · intro x hx
            rcases List.mem_cons.1 hx with rfl | hx
            · omega
            · exact hst x hx
      · have hinv2 : Hid ((s ++ Rf.wordP p) ++ ((Rf.closeP st).1 ++ Rf.textP (ps.drop (k + 1)) (Rf.closeP st).2) = Rf.txt ps) := by
          have h9 := hinv.out
          rw [Rf.textP, if_neg hargs] at h9
          unfold Hid
          rw [← h9]
          simp only [ByteArray.append_assoc]
        have hnarg : p.args ≤ 0 := by omega
        have harg0 : decide (0 < p.args) = false := by simpa using hnarg
        obtain ⟨wo, rfl⟩ : ∃ wo : World, wo = wr := ⟨_, rfl⟩
        go_wp2_with (go_at_call 60; refine (word_part p _ Hgd.out (Tab.below HT.out (hbr.alloc hsz _))).mono ?_; rintro r w1 ⟨rfl, hb1⟩; have hs1 := hb1.size; have hX1 := (hb1.block wo.heap.size (by simp)).trans (blk_new _ _); have x3 : w1.cell? ⟨wo.heap.size, 3, none⟩ = some (.int .i64 p.args) := blk_cell hX1 3; have hbw1 : Below w.heap.size w w1 := (hbr.alloc hsz _).trans (hb1.mono (by simp; omega)); have hsw1 := hbw1.size; have hrow1 := (hrow.alloc (.cells #[.int .i64 p.kind, .string p.name, .int .i64 p.value, .int .i64 p.args] 141)).below hb1)
        have hsw1' := hsw1
        clear hX1 x3 hinv
        go_loopg [3, 4] (st.length + 1) (fun m sv ov wi => ∃ (s2 : ByteArray) (st2 : List Nat), m = st2.length + 1 ∧ sv = .string s2 ∧ RowIs wi w.heap.size 3 1 natCells ov st2.reverse ∧ Below w.heap.size w wi ∧ (∀ x ∈ st2, 1 ≤ x ∧ x ≤ 4) ∧ st2.length ≤ k ∧ Hid (s2 ++ ((Rf.closeP st2).1 ++ Rf.textP (ps.drop (k + 1)) (Rf.closeP st2).2) = Rf.txt ps))
        case atStart => exact ⟨_, st, rfl, rfl, hrow1, hbw1, hst, hstl, hinv2⟩
        case round =>
          obtain ⟨s2, st2, rfl, rfl, hrow2, hbw2, hst2, hstl2, hinv3⟩ := hrel
          have hss2 : s2.size ≤ 2300000 := by
            have h9 := congrArg ByteArray.size hinv3.out
            rw [ByteArray.size_append] at h9
            omega
          clear hrow1 hrow hinv2
          cases st2 with
          | nil =>
            obtain ⟨a5, c5, hv5⟩ := row_slice hrow2
            rw [List.reverse_nil, List.length_nil] at hv5
            subst hv5
            go_wp2_with fail
            go_roundg (ps.length - k)
            case measure => omega
            case rel => exact ⟨k + 1, by omega, by omega, by go_num, _, [], rfl, hrow2, hbw2, hst2, by simp, by have h9 := hinv3.out; rw [Rf.closeP, Rf.emp_app] at h9; exact h9⟩
          | cons x st3 =>
            rw [List.reverse_cons] at hrow2
            obtain ⟨gO, c5, hv5, _, hgO, hc5, hcm5⟩ := hrow2.shape.resolve_left (fun e => by have := congrArg List.length e.2; simp at this)
            rw [List.length_append, List.length_reverse, List.length_cons, List.length_nil] at hv5 hc5
            subst hv5
            have hcl := hrow2.cells natCells_len st3.length x (by simp) 0 _ rfl
            simp only [Nat.mul_one, Nat.add_zero] at hcl
            have hfz := row_frozen hrow2
            have hx14 := hst2 x (by simp)
            have hst3l : (st3.length : Int) ≤ 100000 := by simp only [List.length_cons] at hstl2; omega
            have hst3c : (st3.length : Int) + 1 ≤ (c5 : Int) := by omega
            have hst3 : ∀ y ∈ st3, 1 ≤ y ∧ y ≤ 4 := fun y hy => hst2 y (List.mem_cons_of_mem _ hy)
            have hset : ∀ y : Nat, (y : Int) = (x : Int) - 1 → RowIs (wr.setCell ⟨gO, st3.length, none⟩ (.int .i64 ((x : Int) - 1))) w.heap.size 3 1 natCells (.slice (some ⟨gO, 0, none⟩) (st3.length + 1) c5) (st3.reverse ++ [y]) := by
              intro y hy
              have h9 := row_setLast (x' := y) (u := .int .i64 ((x : Int) - 1)) natCells_len hrow2 (by unfold natCells; rw [hy])
              rw [List.length_reverse] at h9
              exact h9
            have Hset : Hid _ := hset
            have hgO2 := (hrow2.lt gO rfl).1
            have hbs : ∀ v, Below w.heap.size w (wr.setCell ⟨gO, st3.length, none⟩ v) := fun v => hbw2.setCell (p := ⟨gO, st3.length, none⟩) hgO2 v
            have Hbs : Hid _ := hbs
            clear hset hbs hst2
            by_cases hx1 : 1 < x
            · have hinv4 : Hid (s2 ++ ⟨#[44]⟩ ++ Rf.textP (ps.drop (k + 1)) ((x - 1) :: st3) = Rf.txt ps) := by
                have h9 := hinv3.out
                rw [Rf.closeP, if_pos hx1] at h9
                unfold Hid
                rw [← h9, ByteArray.append_assoc]
              have hxi : (0 : Int) < (x : Int) - 1 := by omega
              go_wp2_with fail
              go_roundg (ps.length - k)
              case measure => omega
              case rel =>
                refine ⟨k + 1, by omega, by omega, by go_num, _, (x - 1) :: st3, rfl, ?_, Hbs.out _, ?_, ?_, hinv4⟩
                · rw [List.reverse_cons]; exact Hset.out (x - 1) (by omega)
                · intro y hy
                  rcases List.mem_cons.1 hy with rfl | hy
                  · omega
                  · exact hst3 y hy
                · simp only [List.length_cons] at hstl2 ⊢; omega
            · obtain rfl : x = 1 := by omega
              have hinv4 : Hid ((s2 ++ ⟨#[41]⟩) ++ ((Rf.closeP st3).1 ++ Rf.textP (ps.drop (k + 1)) (Rf.closeP st3).2) = Rf.txt ps) := by
                have h9 := hinv3.out
                rw [Rf.closeP, if_neg hx1] at h9
                unfold Hid
                rw [← h9]
                simp only [ByteArray.append_assoc]
              go_wp2_with fail
              go_roundg (st3.length + 1)
              case measure => simp
              case rel =>
                refine ⟨_, st3, rfl, rfl, row_pop natCells_len (Hset.out 0 (by simp)), Hbs.out _, hst3, ?_, hinv4⟩
                simp only [List.length_cons] at hstl2; omega
    · obtain rfl : k = ps.length := by omega
      have hend : Hid (s = Rf.txt ps) := by
        have h9 := hinv.out
        rw [List.drop_length, Rf.textP, Rf.app_emp] at h9
        exact h9
      go_wp2_with fail
      go_ret
      exact ⟨ret_str hend.out, hbr⟩
end Go.Proofs.YtegjiaceopnfjaaGreatDoor
/- How the program writes a clause (term: Clause.Text). -/
namespace Go.Proofs.YtegjiaceopnfjaaGreatDoor
open Go.RowKit
def lineQ (c : Rf.Cl) : ByteArray := Rf.accL (Rf.txt c.head) c.body c.body.length ++ ⟨#[46]⟩
theorem lineQ_P (c : Rf.Cl) : lineQ c ++ ⟨#[10]⟩ = Rf.lineP c := by
  unfold lineQ Rf.lineP
  rw [ByteArray.append_assoc]
  rfl
set_option maxHeartbeats 2000000 in
set_option maxRecDepth 100000 in
theorem ctext_any (F : Nat → Prop) (w : World) (hx bx : SlV) (cl : Rf.Cl) (h : PClAt F w hx bx cl) (hg : GoodC cl) (ha : Rf.ArgCl cl) (hT : Tab w) :
    Calls Tryz.prog 31 #[.agg #[.slice hx.a hx.n hx.c, .slice bx.a bx.n bx.c]] w fun r w' => r = .returned (.string (lineQ cl)) ∧ Below w.heap.size w w' := by
  obtain ⟨hh, acc, hrow, _, hgl, hbody, h8⟩ := h
  obtain ⟨g1, g2, g3⟩ := hg
  obtain ⟨ha1, ha2⟩ := ha
  obtain ⟨ah, nh, ch⟩ := hx
  obtain ⟨ab, nb, cb⟩ := bx
  have hxx : Hid (lineQ cl = Rf.accL (Rf.txt cl.head) (acc.map (·.2)) acc.length ++ ⟨#[46]⟩) := by unfold Hid lineQ; rw [hbody, List.length_map]
  have hq : ∀ q ∈ acc, (∀ x ∈ q.2, Rf.Good x) ∧ q.2.length ≤ 100000 := fun q hq => g3 q.2 (by rw [hbody]; exact List.mem_map_of_mem hq)
  have hqa : ∀ q ∈ acc, ∀ x ∈ q.2, Rf.ArgOk x := fun q hq => ha2 q.2 (by rw [hbody]; exact List.mem_map_of_mem hq)
  have hhs : (Rf.txt cl.head).size ≤ 2300000 := by have := Rf.txt_size cl.head g1; omega
  have hsz : ∀ k, k ≤ acc.length → (Rf.accL (Rf.txt cl.head) (acc.map (·.2)) k).size ≤ 2300000 + 8 * 2300002 := fun k hk => by
    have h5 := Rf.accL_size (Rf.txt cl.head) (acc.map (·.2)) 2300000 (fun q hq' => by
      obtain ⟨x, hx', rfl⟩ := List.mem_map.1 hq'
      have := Rf.txt_size x.2 (hq x hx').1
      have := (hq x hx').2
      omega) k (by simpa using hk)
    have h6 : k * (2300000 + 2) ≤ 8 * (2300000 + 2) := Nat.mul_le_mul_right _ (by omega)
    omega
  have hn : nb = acc.length := by have := row_len hrow; rw [List.length_map] at this; exact this
  subst hn
  have Hsz : Hid _ := hsz
  have Hq : Hid _ := hq
  have Hqa : Hid _ := hqa
  have Hrow : Hid _ := hrow
  have Hh : Hid _ := hh
  have Hgl : Hid _ := hgl
  have HT : Hid _ := hT
  have G1 : Hid _ := g1
  have A1 : Hid _ := ha1
  clear hsz hq hqa hrow hh hgl hT hbody g1 g3 ha1 ha2
  generalize lineQ cl = LP at *
  generalize cl.head = hd at *
  go_enter Tryz.func31, Tryz.ntmps31
  go_wp2_with (go_at_call 42; refine (text_any F _ ah nh ch hd (PT.keptBy (F' := F) Hh.out ((Kept.refl (fun _ => False) w).alloc _) (fun _ _ hF => ⟨fun e => e, hF⟩)) G1.out A1.out g2 (Tab.below HT.out ((Below.refl _ w).alloc (Nat.le_refl _) _))).mono ?_; rintro r w1 ⟨rfl, hb1⟩; have hb1' : Below w.heap.size w w1 := ((Below.refl _ w).alloc (Nat.le_refl _) _).trans (hb1.mono (by simp)); have hX1 := (hb1.block w.heap.size (by simp)).trans (blk_new _ _); have x1 : w1.cell? ⟨w.heap.size, 1, none⟩ = some (.slice ab acc.length cb) := blk_cell hX1 1)
  clear hX1 x1
  go_loopw [3, 12] (fun sv iv wr => ∃ k : Nat, k ≤ acc.length ∧ iv = .int .i64 k ∧ sv = .string (Rf.accL (Rf.txt hd) (acc.map (·.2)) k) ∧ Below w.heap.size w wr) (fun _ iv _ => acc.length - (intOf iv).toNat)
  case atStart => exact ⟨0, by omega, rfl, rfl, hb1'⟩
  case round =>
    obtain ⟨k, hk, rfl, rfl, hbw⟩ := hrel
    have hcar : (acc.length : Int) ≤ 8 := by omega
    have ht3 := Hsz.out k hk
    by_cases hlt : k < acc.length
    · obtain ⟨gv, rfl⟩ : ∃ gv, ab = some ⟨gv, 0, none⟩ := by
        rcases Hrow.out.shape with ⟨_, hnil⟩ | ⟨gv, cv, e, _⟩
        · have h7 := congrArg List.length hnil
          rw [List.length_map, List.length_nil] at h7
          omega
        · injection e with e1 _ _; exact ⟨gv, e1⟩
      have hmem : acc[k] ∈ acc := List.getElem_mem hlt
      have hcell := (Hrow.out.below hbw).cells slCells_len k acc[k].1 (by simp [hlt]) 0 _ rfl
      simp only [Nat.add_zero, Nat.mul_one] at hcell
      have hgo := (Hgl.out _ hmem).keptBy (F' := F) (Kept.of_below hbw (fun _ => False)) (fun _ _ hF => ⟨fun e => e, hF⟩)
      have hgd := (Hq.out _ hmem).1
      have hld := (Hq.out _ hmem).2
      have hga := Hqa.out _ hmem
      have ht1 := Rf.txt_size _ hgd
      have ht2 : (Rf.txt acc[k].2).size ≤ 2300000 := by omega
      clear ht1
      have hg2 : (acc.map (·.2)).getD k [] = acc[k].2 := by simp [hlt]
      have hacc : Hid (Rf.accL (Rf.txt hd) (acc.map (·.2)) (k + 1) = if k = 0 then (Rf.txt hd ++ ⟨#[58, 45]⟩) ++ Rf.txt acc[k].2 else (Rf.accL (Rf.txt hd) (acc.map (·.2)) k ++ ⟨#[44]⟩) ++ Rf.txt acc[k].2) := by
        unfold Hid; rw [Rf.accL]
        split
        · rename_i h0; subst h0; rw [hg2]
        · rw [hg2]
      clear hg2 hmem
      have Hgd : Hid _ := hgd
      have Hga : Hid _ := hga
      clear hgd hga
      generalize acc[k] = q at *
      obtain ⟨⟨qa, qn, qc⟩, qp⟩ := q
      have hcell2 : wr.cell? ⟨gv, k, none⟩ = some (.slice qa qn qc) := hcell
      have hgo2 : Hid (PT F wr (.slice qa qn qc) qp) := hgo
      simp only at ht2 hacc Hgd Hga hld
      clear hcell hgo
      have hlt' : (k : Int) < acc.length := by omega
      have hz40 : (⟨#[58, 45]⟩ : ByteArray).size = 2 := rfl
      have hz44 : (⟨#[44]⟩ : ByteArray).size = 1 := rfl
      have ht4 : (Rf.accL (Rf.txt hd) (acc.map (·.2)) k ++ ⟨#[44]⟩).size ≤ 2300001 + 8 * 2300002 := by rw [ByteArray.size_append]; omega
      have ht5 : (Rf.accL (Rf.txt hd) (acc.map (·.2)) k ++ ⟨#[58, 45]⟩).size ≤ 2300002 + 8 * 2300002 := by rw [ByteArray.size_append]; omega
      by_cases hk0 : k = 0
      · subst hk0
        go_wp2_with (go_at_call 42; refine (text_any F _ qa qn qc qp hgo2.out Hgd.out Hga.out hld (Tab.below HT.out hbw)).mono ?_; rintro r w2 ⟨rfl, hb2⟩)
        go_roundw
        case rel => exact ⟨1, by omega, rfl, by rw [hacc.out, if_pos trivial]; rfl, hbw.trans (hb2.mono hbw.size)⟩
        case measure => simp [intOf]; omega
      · have hk0' : ((k : Int) == 0) = false := beq_eq_false_iff_ne.2 (by omega)
        go_wp2_with (go_at_call 42; refine (text_any F _ qa qn qc qp hgo2.out Hgd.out Hga.out hld (Tab.below HT.out hbw)).mono ?_; rintro r w2 ⟨rfl, hb2⟩)
        go_roundw
        case rel => exact ⟨k + 1, by omega, by go_num, by rw [hacc.out, if_neg hk0], hbw.trans (hb2.mono hbw.size)⟩
        case measure => simp [intOf]; omega
    · obtain rfl : k = acc.length := by omega
      go_wp2_with fail
      go_ret
      exact ⟨ret_str hxx.out.symm, hbw⟩
end Go.Proofs.YtegjiaceopnfjaaGreatDoor
