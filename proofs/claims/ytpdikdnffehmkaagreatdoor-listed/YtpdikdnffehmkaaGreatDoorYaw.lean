/- What the program's reader does at a text (read: Clauses): the plain function's answer, in new memory. -/
import Derived.Test.YtpdikdnffehmkaaGreatDoorYav
namespace Go.Proofs.YtpdikdnffehmkaaGreatDoor
open Go.RowKit
/-- A clause's two cells. -/
structure PClV where
  h : SlV
  b : SlV
def pclCells (x : PClV) : List Value := [.slice x.h.a x.h.n x.h.c, .slice x.b.a x.b.n x.b.c]
theorem pclCells_len (s : PClV) : (pclCells s).length = 2 := rfl
theorem pclCells_one (s : PClV) : ∀ u ∈ pclCells s, u.oneCell' = true := by
  intro u hu
  simp only [pclCells, List.mem_cons, List.not_mem_nil, or_false] at hu
  rcases hu with rfl | rfl <;> rfl
theorem Tryz.elemPCl : ElemOk Tryz.prog 77 85 2 48 (.agg #[.slice none 0 0, .slice none 0 0]) := ⟨Tryz.underlying77, by kernel_rfl, rfl, by decide, by decide⟩
/-- A row of clauses in memory. -/
structure PClsAt (F : Nat → Prop) (w : World) (v : Value) (acc : List (PClV × Rf.Cl)) : Prop where
  row : RowIs w 0 85 2 pclCells v (acc.map (·.1))
  rowF : ∀ k, v.ownBlock = some k → F k
  cls : ∀ q ∈ acc, PClAt (fun k => F k ∧ v.ownBlock ≠ some k) w q.1.h q.1.b q.2
  none : acc = [] → v = .slice none 0 0
theorem PClsAt.mono {w : World} {F F' : Nat → Prop} {v : Value} {acc : List (PClV × Rf.Cl)} (h : PClsAt F w v acc) (hF : ∀ k, F k → F' k) : PClsAt F' w v acc :=
  ⟨h.row, fun k e => hF k (h.rowF k e), fun q hq => (h.cls q hq).keptBy (Kept.refl (fun _ => False) _) (fun k _ hk => ⟨fun e => e, hF k hk.1, hk.2⟩), h.none⟩
theorem pcls_ok {w w2 w3 w4 : World} {r : Nat} {text : ByteArray} {o1 o2 : Obj} {nb1 nb3 : Option Nat} {v : Value} {acc : List (PClV × Rf.Cl)} {x : PClV} {cl : Rf.Cl} {l l3 : List Rf.Tok} {ns ns3 : List ByteArray} {gA n capA : Nat}
    (hs : w.heap.size ≤ w2.heap.size) (hR2 : Pr w2 r text nb1 l ns) (hA : PClsAt (Fb w w2 r nb1) w2 v acc) (hK3 : Kept (May r nb1) w2 w3) (hR3 : Pr w3 r text nb3 l3 ns3) (hn3 : ∀ y, nb3 = some y → w2.heap.size ≤ y)
    (hC : PClAt (New w2 w3 nb3) w3 x.h x.b cl) (hgr : ((w3.alloc o1).alloc o2).grownBy w4 v.ownBlock) (hn : Nb ((w3.alloc o1).alloc o2) v.ownBlock (some gA))
    (hr : RowIs w4 0 85 2 pclCells (.slice (some ⟨gA, 0, none⟩) n capA) ((acc.map (·.1)) ++ [x])) :
    PClsAt (Fb w w4 r nb3) w4 (.slice (some ⟨gA, 0, none⟩) n capA) (acc ++ [(x, cl)]) ∧ Pr w4 r text nb3 l3 ns3 := by
  have hb2 := hR2.lt.1
  have hb3 := hR3.lt.1
  have hs3 := hK3.size
  have hs4 : w3.heap.size + 2 ≤ w4.heap.size := by have := hgr.size; simpa using this
  have hk4 : Kept (fun k => v.ownBlock = some k) w3 w4 := ((((Kept.refl (fun k => v.ownBlock = some k) w3).alloc o1).alloc o2).grown hgr (fun k e => .inr e))
  have hgl : gA < w4.heap.size := (hr.lt gA rfl).2
  have hvl : ∀ k, v.ownBlock = some k → k < w2.heap.size := fun k e => (hA.rowF k e).2.1
  have hgn : w.heap.size ≤ gA ∧ nb3 ≠ some gA ∧ gA ≠ r := by
    rcases hn with e | ⟨k, e, hk⟩
    · have := hA.rowF gA e.symm
      exact ⟨this.1, fun e2 => by have := hn3 gA e2; have := hvl gA e.symm; omega, this.2.2.2⟩
    · have := Option.some.inj e
      simp at hk
      exact ⟨by omega, fun e2 => by have := hR3.lt.2.1 gA e2; omega, by omega⟩
  refine ⟨⟨by rw [List.map_append]; exact hr, fun k e => ?_, fun q hq => ?_, fun e => by simp at e⟩, hR3.keptBy hk4 (fun e => (hA.rowF r e).2.2.2 rfl) (fun k e e2 => by have := hn3 k e; have := hvl k e2; omega)⟩
  · obtain rfl := Option.some.inj e
    exact ⟨hgn.1, hgl, hgn.2.1, hgn.2.2⟩
  · have hown : ∀ k, k < w3.heap.size → v.ownBlock ≠ some k → (Value.slice (some ⟨gA, 0, none⟩) n capA).ownBlock ≠ some k := fun k hk h e => hn.ne h (by simp; omega) e
    rcases List.mem_append.1 hq with hq | hq
    · refine ((hA.cls q hq).keptBy hK3 (F' := fun k => Fb w w3 r nb3 k ∧ v.ownBlock ≠ some k) (fun k hk1 hF => ?_)).keptBy hk4 (fun k hk1 hF => ?_)
      · obtain ⟨⟨f1, f2, f3, f4⟩, f5⟩ := hF
        exact ⟨fun e => by rcases e with e | e; exact f4 e; exact f3 e.symm, ⟨f1, by omega, fun e => by have := hn3 k e; omega, f4⟩, f5⟩
      · obtain ⟨⟨f1, f2, f3, f4⟩, f5⟩ := hF
        exact ⟨f5, ⟨f1, by omega, f3, f4⟩, hown k hk1 f5⟩
    · simp at hq; subst hq
      refine hC.keptBy hk4 (fun k hk1 hF => ?_)
      obtain ⟨f1, f2, f3⟩ := hF
      have hv : v.ownBlock ≠ some k := fun e => by have := hvl k e; omega
      exact ⟨hv, ⟨by omega, by omega, f3, by omega⟩, hown k hk1 hv⟩
def PClausesPost (w : World) (res : Except (Int × Nat) (List Rf.Cl)) (x : Ending) (w' : World) : Prop :=
  Below w.heap.size w w' ∧
  (match res with
   | .ok cls => ∃ v acc, x = .returned (.tuple #[v, .int .i64 0, .int .i64 0]) ∧ PClsAt (fun k => w.heap.size ≤ k ∧ k < w'.heap.size) w' v acc ∧ cls = acc.map (·.2)
   | .error (e, q) => x = .returned (.tuple #[.slice none 0 0, .int .i64 e, .int .i64 q]) ∧ e ≠ 0)
set_option maxHeartbeats 400000 in
theorem pclauses_long (s : ByteArray) (w : World) (hs : 400 < s.size) (hm : s.size ≤ maxLen) :
    Calls Tryz.prog 42 #[.string s] w fun r w' => PClausesPost w (Rf.readS s) r w' := by
  have hS : Hid (Rf.readS s = .error (1, 0)) := by unfold Hid Rf.readS; rw [if_pos hs]
  unfold maxLen at hm
  go_enter Tryz.func42, Tryz.ntmps42
  go_wp2
  go_ret3
  rw [hS.out]
  exact ⟨Below.refl _ _, rfl, by decide⟩
def PClsSt (w : World) (r f : Nat) (text : ByteArray) (want : Except (Int × Nat) (List Rf.Cl)) (m : Nat) (v : Value) (wr : World) : Prop :=
  Below w.heap.size w wr ∧ ∃ acc l1 ns1 nb1, l1.length < m ∧ m + acc.length ≤ 402 ∧ Pr wr r text nb1 l1 ns1 ∧ l1.length ≤ f ∧ (∀ x, nb1 = some x → w.heap.size ≤ x) ∧ PClsAt (Fb w wr r nb1) wr v acc ∧ Hid (want = Rf.clausesS f m (acc.map (·.2)) l1)
set_option maxHeartbeats 2000000 in
set_option maxRecDepth 100000 in
theorem pclauses_short (s : ByteArray) (w : World) (hs : s.size ≤ 400) :
    Calls Tryz.prog 42 #[.string s] w fun r w' => PClausesPost w (Rf.readS s) r w' := by
  have hS : Hid (Rf.readS s = Rf.clausesS (Rf.tokens s).length ((Rf.tokens s).length + 1) [] (Rf.tokens s)) := by unfold Hid Rf.readS; rw [if_neg (by omega)]
  have hlen : (Rf.tokens s).length ≤ 401 := by have := Rf.toks_len s s.size 0; unfold Rf.tokens; omega
  have hend : Rf.Ended (Rf.tokens s) := Rf.toks_ended s _ _
  generalize hL : Rf.tokens s = L at *
  have HL : Hid (Rf.rest s 0 = L) := hL
  clear hL
  generalize Rf.readS s = want at *
  go_enter Tryz.func42, Tryz.ntmps42
  go_wp2_with (go_at_call 58; refine (step_raw _ w.heap.size s 0 0 0 0 (.slice none 0 0) (blk_at _ _ _ (by simp)) hs (Nat.zero_le _)).mono ?_; rintro x w1 ⟨K', f', to', C', rfl, hB1, ht1, hK1⟩)
  have hszK := hK1.size
  have hP1 : Hid (Pr w1 w.heap.size s none L []) := by
    have h9 := Pr.mk' hB1 ht1 (Nat.zero_le _) hs (RowIs.nil _ _ _ _ _) rfl (by simp [Value.ownBlock]) (ns := []) (by simp)
    rw [HL.out] at h9
    exact h9
  have hBel1 : Hid (Below w.heap.size w w1) := by
    have h9 := (Kept.refl (fun k => k = w.heap.size) w).alloc (.cells #[.string s, .int .i64 0, .int .i64 0, .int .i64 0, .int .i64 0, .slice none 0 0, .int .i64 0, .int .i64 0] 107)
    exact (h9.trans hK1 (fun _ _ e => e)).below (Nat.le_refl _) (fun k hk e => by omega)
  clear hB1 ht1 hszK
  have hwr : w.heap.size ≤ w.heap.size := Nat.le_refl _
  generalize hr0 : w.heap.size = r at hP1 hwr ⊢
  go_loopg [6] (L.length + 1) (fun m v wr => PClsSt w r L.length s want m v wr)
  case atStart => exact ⟨hBel1.out, [], L, [], none, by omega, by simp; omega, hP1.out, Nat.le_refl _, (fun x e => by cases e), ⟨RowIs.nil _ _ _ _ _, (fun k e => by simp [Value.ownBlock] at e), (fun q hq => by simp at hq), fun _ => rfl⟩, hS⟩
  case round =>
    obtain ⟨hbr, acc, l1, ns1, nb1, hm1, hm2, hP, hlf, hnn, hA, hwant⟩ := hrel
    obtain ⟨t, l, rfl⟩ : ∃ t l, l1 = t :: l := by
      cases l1 with
      | nil => exact absurd rfl hP.ended.ne
      | cons t l => exact ⟨t, l, rfl⟩
    obtain ⟨m', rfl⟩ : ∃ m', gk = m' + 1 := ⟨gk - 1, by omega⟩
    obtain ⟨a6, c6, hv6⟩ := row_slice hA.row
    rw [List.length_map] at hv6
    subst hv6
    obtain ⟨j1, ⟨_, j0⟩, jl⟩ := hP.kind
    have hszr := hbr.size
    have hk0 := Rf.kindOf_0 (k := t.k)
    cases ht0 : (t.k != 0)
    · rw [ht0] at hk0
      have hwe : Hid (want = .ok (acc.map (·.2))) := by unfold Hid; rw [hwant.out, Rf.clausesS, if_pos (by simpa using ht0)]
      go_wp2_with fail
      go_ret3
      rw [hwe.out]
      exact ⟨hbr, _, acc, rfl, hA.mono (fun k hk => ⟨hk.1, hk.2.1⟩), rfl⟩
    · rw [ht0] at hk0
      have e0 : t.k ≠ 0 := by simpa using ht0
      have HP : Hid _ := hP
      cases hres : Rf.clauseP L.length (t :: l) with
      | error x =>
        obtain ⟨e, q⟩ := x
        have hwe : Hid (want = .error (e, q)) := by unfold Hid; rw [hwant.out, Rf.clausesS, if_neg e0, Rf.clauseS_P, hres]
        have HR : Hid _ := hres
        clear hres e0
        go_wp2_with (go_at_call 65; refine (pclause_any L.length r s nb1 (t :: l) ns1 _ hP hlf).mono ?_; rintro x w3 ⟨hK3, hm⟩; rw [HR.out] at hm; have hs3 := hK3.size; obtain ⟨rfl, hE3⟩ := hm; obtain ⟨tx, K3, f3, to3, C3, a3, n3, c3, hB3, hne3⟩ := hE3.ex; obtain ⟨x0, x1, x2, x3, x4, x5, x6, x7, xf, xl⟩ := hB3.facts; have Hne3 : Hid _ := hne3; clear hne3 hB3)
        go_region
        go_wp2_with fail
        go_ret3
        rw [hwe.out]
        refine ⟨?_, rfl, Hne3.out⟩
        exact ((hbr.trans (hK3.below hszr (fun k hk e => by
          rcases e with e | e
          · omega
          · have := hnn k e.symm; omega))).alloc (by omega) _).drew
      | ok x =>
        obtain ⟨cl, l'⟩ := x
        have hlen' : l'.length < (t :: l).length := by
          have h9 := hres
          rw [← Rf.clauseS_P] at h9
          exact Rf.clauseS_len h9
        have hwe : Hid (want = Rf.clausesS L.length m' (acc.map (·.2) ++ [cl]) l') := by unfold Hid; rw [hwant.out, Rf.clausesS, if_neg e0, Rf.clauseS_P, hres]
        have HR : Hid _ := hres
        clear hres e0
        go_wp2_with (first
          | (go_at_call 65; refine (pclause_any L.length r s nb1 (t :: l) ns1 _ hP hlf).mono ?_; rintro x w3 ⟨hK3, hm⟩; rw [HR.out] at hm; have hs3 := hK3.size; obtain ⟨hx, bx, nb3, ns3, rfl, hP3, hn3, hC3⟩ := hm; have hA3row := hA.row.keptBy hK3 (fun k e e2 => by rcases e2 with e2 | e2; exact (hA.rowF k e).2.2.2 e2; exact (hA.rowF k e).2.2.1 e2.symm))
          | (at_builtin; refine wpList_app Tryz.elemPCl pclCells pclCells_len pclCells_one _ rfl (.tmp 29) (.tmp 31) rfl 0 _ (acc.map (·.1)) rfl ((hA3row.alloc _).alloc _) ⟨_, 0, none⟩ 1 (⟨hx, bx⟩ : PClV) rfl (cell_two_at _ _ (by simp) _ _ _) (by simp; omega) (Nat.zero_le _) ?_; intro gA capA w4 hrow4 hgr4 hnb4; rw [List.length_map] at hrow4))
        go_roundg m'
        case measure => omega
        case rel =>
          have hB3 : Below w.heap.size w w3 := hbr.trans (hK3.below hszr (fun k hk e => by
            rcases e with e | e
            · omega
            · have := hnn k e.symm; omega))
          have hB4 : Below w.heap.size w w4 := ((hB3.alloc hB3.size _).alloc (by have := hB3.size; simp; omega) _).grown hgr4 (by have := hB3.size; simp; omega) (fun k e => (hA.rowF k e).1)
          obtain ⟨hA4, hR4⟩ := pcls_ok (x := ⟨hx, bx⟩) hszr hP hA hK3 hP3 hn3 hC3 hgr4 hnb4 hrow4
          refine ⟨hB4, acc ++ [(⟨hx, bx⟩, cl)], l', ns3, nb3, ?_, ?_, hR4, ?_, fun x e => ?_, hA4, ?_⟩
          · simp only [List.length_cons] at hlen' hm1; omega
          · simp; omega
          · simp only [List.length_cons] at hlen' hlf; omega
          · have := hn3 x e; omega
          · have h9 := hwe.out
            simp only [List.map_append, List.map_cons, List.map_nil]
            exact h9
theorem pclauses_any (s : ByteArray) (w : World) (hm : s.size ≤ maxLen) :
    Calls Tryz.prog 42 #[.string s] w fun r w' => PClausesPost w (Rf.readS s) r w' := by
  by_cases h : 400 < s.size
  · exact pclauses_long s w h hm
  · exact pclauses_short s w (by omega)
end Go.Proofs.YtpdikdnffehmkaaGreatDoor
