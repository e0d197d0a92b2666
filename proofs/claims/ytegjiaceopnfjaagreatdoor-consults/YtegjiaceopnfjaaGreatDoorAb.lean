/- Laws of our own over any program: one element appended to a row that the call owns; frames that name the old blocks which may have turned. -/
import Derived.WalkKit
import Derived.WalkSpells
import Derived.WalkLawsBesides
import Derived.Deep.QuietTactic
import Derived.BigQuiet
import Derived.BigRegion
import Derived.Deep.RegionLaw
import Derived.Test.YtegjiaceopnfjaaGreatDoorProg
import Derived.Test.YtegjiaceopnfjaaGreatDoorAa
namespace Go
open Go.RowKit
theorem beq_toList (a b : ByteArray) : (a.toList == b.toList) = decide (a = b) := by
  rw [ByteArray.toList_eq, ByteArray.toList_eq]
  by_cases h : a = b
  · subst h; simp
  · rw [decide_eq_false h]
    refine beq_eq_false_iff_ne.2 (fun e => h ?_)
    cases a; cases b
    simp at e
    rw [e]
/-- A slice type t of elements e: how many cells and bytes one has. -/
def ElemOk (P : Program) (t e : TypeId) (size bytes : Nat) (z : Value) : Prop :=
  P.underlying t = some (.slice e) ∧ (P.info? e).map (fun i => (i.zero, i.size, i.bytes)) = some (some z, size, bytes) ∧ z.cells.size = size ∧ 0 < size ∧ 0 < bytes
/-- The slice v is a row of our own (from block base on, elements of type e, size cells each) that holds xs, each told by its cells. -/
structure RowIs {α : Type} (w : World) (base : Nat) (e : TypeId) (size : Nat) (C : α → List Value) (v : Value) (xs : List α) : Prop where
  own : w.ownsRow base e size v xs.length (xs.flatMap C)
/-- A block behind an append: the old one, or a new one. -/
def Nb (w : World) (nb nb' : Option Nat) : Prop := nb' = nb ∨ ∃ k, nb' = some k ∧ w.heap.size ≤ k
theorem Nb.ne {w : World} {nb nb' : Option Nat} {x : Nat} (h : Nb w nb nb') (hn : nb ≠ some x) (hx : x < w.heap.size) : nb' ≠ some x := by
  rcases h with rfl | ⟨k, rfl, hk⟩
  · exact hn
  · intro e; have := Option.some.inj e; omega
theorem Nb.trans {w w1 : World} {nb nb' nb'' : Option Nat} (h : Nb w nb nb') (h' : Nb w1 nb' nb'') (hs : w.heap.size ≤ w1.heap.size) : Nb w nb nb'' := by
  rcases h' with rfl | ⟨k, rfl, hk⟩
  · exact h
  · exact .inr ⟨k, rfl, by omega⟩
theorem flatMap_len {α : Type} {size : Nat} (C : α → List Value) (hC : ∀ x, (C x).length = size) (xs : List α) : (xs.flatMap C).length = xs.length * size := by
  induction xs with
  | nil => simp
  | cons x xs ih => rw [List.flatMap_cons, List.length_append, ih, hC, List.length_cons, Nat.add_mul]; omega
theorem run_apps {P : Program} {α : Type} {t e : TypeId} {size bytes : Nat} {z : Value} (hE : ElemOk P t e size bytes z) (C : α → List Value) (hC : ∀ x, (C x).length = size) (h1 : ∀ x, ∀ u ∈ C x, u.oneCell' = true)
    (w : World) (ty : TypeId) (base : Nat) (v : Value) (xs : List α) (hown : RowIs w base e size C v xs) (ad : Addr) (c : Nat) (ys : List α) (hy : 1 ≤ ys.length)
    (hnews : ∀ j u, (ys.flatMap C)[j]? = some u → w.cell? (ad.add j) = some u) (hb : (xs.length + ys.length) * bytes ≤ 140737488355328) (hbase : base ≤ w.heap.size) :
    ∃ g cap w', (Builtin.append_ #[t, t] ty #[v, .slice (some ad) ys.length c]).run P w = .ok (.slice (some ⟨g, 0, none⟩) (xs.length + ys.length) cap) w' ∧ RowIs w' base e size C (.slice (some ⟨g, 0, none⟩) (xs.length + ys.length) cap) (xs ++ ys) ∧
      w.grownBy w' v.ownBlock ∧ Nb w v.ownBlock (some g) := by
  obtain ⟨e1, e2, e3, e4, e5⟩ := hE
  obtain ⟨i, hi, hz, hsz, hby⟩ := info_parts e2
  have hm : xs.length + ys.length ≤ maxLen := by
    have := Nat.le_mul_of_pos_right (xs.length + ys.length) e5
    unfold maxLen; omega
  have hl := flatMap_len C hC ys
  have hone : ∀ u ∈ ys.flatMap C, u.oneCell' = true := by
    intro u hu
    obtain ⟨y, _, hu⟩ := List.mem_flatMap.1 hu
    exact h1 y u hu
  have fresh : ∀ v' w', w'.ownsRow w.heap.size e size v' (xs.length + ys.length) (xs.flatMap C ++ ys.flatMap C) → ∃ g cap, v' = .slice (some ⟨g, 0, none⟩) (xs.length + ys.length) cap ∧ w.heap.size ≤ g ∧ RowIs w' base e size C v' (xs ++ ys) := by
    intro v' w' k
    rcases k.2 with ⟨_, h0⟩ | ⟨g, cap, cur, rfl, hg, r1, r2, r3, r4, r5⟩
    · omega
    · refine ⟨g, cap, rfl, hg, ⟨?_⟩⟩
      rw [List.length_append, List.flatMap_append]
      exact ⟨k.1, .inr ⟨g, cap, cur, rfl, by omega, r1, r2, r3, r4, r5⟩⟩
  rcases hown.own.2 with ⟨rfl, h0⟩ | ⟨g, cap, cur, rfl, hbg, r1, r2, r3, r4, r5⟩
  · have hx : xs = [] := List.eq_nil_of_length_eq_zero h0
    subst hx
    obtain ⟨v', w', hrun, k1, k2, _⟩ := run_append_own (P := P) w w.heap.size t ty e i z size bytes e1 hi hz hsz hby e3 e4 (.slice none 0 0) 0 [] (World.ownsRow_nil _ _ _ _) ad ys.length c (ys.flatMap C) hl hnews hone (by simpa using hm) (by simpa using hb) (Nat.le_refl _)
    obtain ⟨g, cap, rfl, hg, hr⟩ := fresh v' w' (by simpa using k1)
    exact ⟨g, cap, w', hrun, hr, k2, .inr ⟨g, rfl, hg⟩⟩
  · by_cases hroom : xs.length + ys.length ≤ cap
    · obtain ⟨w', hrun, k1, k2⟩ := run_append_fits (P := P) w base t ty e i size e1 hi hsz g xs.length cap (xs.flatMap C) hown.own ad ys.length c (ys.flatMap C) hl hnews hone hroom
      exact ⟨g, cap, w', hrun, ⟨by rw [List.length_append, List.flatMap_append]; exact k1⟩, k2, .inl rfl⟩
    · obtain ⟨v', w', hrun, k1, k2⟩ := run_append_arg_grows (P := P) w t ty e i z size bytes e1 hi hz hsz hby e3 e4 ⟨g, 0, none⟩ xs.length cap (xs.flatMap C) hown.own.1 (hown.own.cells rfl) ad ys.length c (ys.flatMap C) hl hnews (by omega) hm hb
      obtain ⟨g', cap', rfl, hg, hr⟩ := fresh v' w' k1
      exact ⟨g', cap', w', hrun, hr, ⟨k2.os, k2.tape, k2.output, k2.size, fun k hk _ => k2.block k hk (by simp)⟩, .inr ⟨g', rfl, hg⟩⟩
theorem wp_apps {P : Program} {α : Type} {t e : TypeId} {size bytes : Nat} {z : Value} (hE : ElemOk P t e size bytes z) (C : α → List Value) (hC : ∀ x, (C x).length = size) (h1 : ∀ x, ∀ u ∈ C x, u.oneCell' = true)
    {w : World} {o : Oper} {a : Act} {K : Act → World → Prop} {Q : Exit → Act → World → Prop} (s x : Operand)
    (ho : o.op = .call { callee := .builtin .append, args := #[s, x], argTypes := #[t, t] }) (base : Nat) (v : Value) (xs : List α) (hs : a.eval s = v) (hown : RowIs w base e size C v xs)
    (ad : Addr) (c : Nat) (ys : List α) (hy : 1 ≤ ys.length) (hx : a.eval x = .slice (some ad) ys.length c) (hnews : ∀ j u, (ys.flatMap C)[j]? = some u → w.cell? (ad.add j) = some u)
    (hb : (xs.length + ys.length) * bytes ≤ 140737488355328) (hbase : base ≤ w.heap.size)
    (h : ∀ g cap w', RowIs w' base e size C (.slice (some ⟨g, 0, none⟩) (xs.length + ys.length) cap) (xs ++ ys) → w.grownBy w' v.ownBlock → Nb w v.ownBlock (some g) →
      K (a.put o.dst (.slice (some ⟨g, 0, none⟩) (xs.length + ys.length) cap)) w') : o.wp P a w K Q := by
  obtain ⟨g, cap, w', hr, k1, k2, k3⟩ := run_apps hE C hC h1 w o.type base v xs hown ad c ys hy hnews hb hbase
  unfold Oper.wp execOp
  simp only [ho, resolve, invoke, builtin, Sem.run_bind, Sem.run_pure, Result.andThen_ok, List.map_toArray, List.map_cons, List.map_nil, hs, hx, hr]
  exact h g cap w' k1 k2 k3
theorem one_flat {α : Type} (C : α → List Value) (y : α) : [y].flatMap C = C y := by simp
theorem wpList_app {P : Program} {α : Type} {t e : TypeId} {size bytes : Nat} {z : Value} (hE : ElemOk P t e size bytes z) (C : α → List Value) (hC : ∀ x, (C x).length = size) (h1 : ∀ x, ∀ u ∈ C x, u.oneCell' = true)
    (w : World) {ops : Array Oper} {rest : List Oper} {o : Oper} {a : Act} {Q : Exit → Act → World → Prop} (hgd : o.guard = none) (s x : Operand)
    (ho : o.op = .call { callee := .builtin .append, args := #[s, x], argTypes := #[t, t] }) (base : Nat) (v : Value) (xs : List α) (hs : a.eval s = v) (hown : RowIs w base e size C v xs)
    (ad : Addr) (c : Nat) (y : α) (hx : a.eval x = .slice (some ad) 1 c) (hnews : ∀ j u, (C y)[j]? = some u → w.cell? (ad.add j) = some u)
    (hb : (xs.length + 1) * bytes ≤ 140737488355328) (hbase : base ≤ w.heap.size)
    (h : ∀ g cap w', RowIs w' base e size C (.slice (some ⟨g, 0, none⟩) (xs.length + 1) cap) (xs ++ [y]) → w.grownBy w' v.ownBlock → Nb w v.ownBlock (some g) →
      wpList P ops Q rest (a.put o.dst (.slice (some ⟨g, 0, none⟩) (xs.length + 1) cap)) w') : wpList P ops Q (o :: rest) a w :=
  wpList_plain hgd fun _ hK => wp_apps hE C hC h1 s x ho base v xs hs hown ad c [y] (Nat.le_refl _) hx (by rw [one_flat]; exact hnews) hb hbase fun g cap w' k1 k2 k3 => hK _ _ (h g cap w' k1 k2 k3)
theorem wpList_apps {P : Program} {α : Type} {t e : TypeId} {size bytes : Nat} {z : Value} (hE : ElemOk P t e size bytes z) (C : α → List Value) (hC : ∀ x, (C x).length = size) (h1 : ∀ x, ∀ u ∈ C x, u.oneCell' = true)
    (w : World) {ops : Array Oper} {rest : List Oper} {o : Oper} {a : Act} {Q : Exit → Act → World → Prop} (hgd : o.guard = none) (s x : Operand)
    (ho : o.op = .call { callee := .builtin .append, args := #[s, x], argTypes := #[t, t] }) (base : Nat) (v : Value) (xs : List α) (hs : a.eval s = v) (hown : RowIs w base e size C v xs)
    (ad : Addr) (c : Nat) (ys : List α) (hy : 1 ≤ ys.length) (hx : a.eval x = .slice (some ad) ys.length c) (hnews : ∀ j u, (ys.flatMap C)[j]? = some u → w.cell? (ad.add j) = some u)
    (hb : (xs.length + ys.length) * bytes ≤ 140737488355328) (hbase : base ≤ w.heap.size)
    (h : ∀ g cap w', RowIs w' base e size C (.slice (some ⟨g, 0, none⟩) (xs.length + ys.length) cap) (xs ++ ys) → w.grownBy w' v.ownBlock → Nb w v.ownBlock (some g) →
      wpList P ops Q rest (a.put o.dst (.slice (some ⟨g, 0, none⟩) (xs.length + ys.length) cap)) w') : wpList P ops Q (o :: rest) a w :=
  wpList_plain hgd fun _ hK => wp_apps hE C hC h1 s x ho base v xs hs hown ad c ys hy hx hnews hb hbase fun g cap w' k1 k2 k3 => hK _ _ (h g cap w' k1 k2 k3)
theorem wpList_app_none {P : Program} {α : Type} {t e : TypeId} {size bytes : Nat} {z : Value} (hE : ElemOk P t e size bytes z) (C : α → List Value)
    (w : World) {ops : Array Oper} {rest : List Oper} {o : Oper} {a : Act} {Q : Exit → Act → World → Prop} (hgd : o.guard = none) (s x : Operand)
    (ho : o.op = .call { callee := .builtin .append, args := #[s, x], argTypes := #[t, t] }) (base : Nat) (v : Value) (xs : List α) (hs : a.eval s = v) (hown : RowIs w base e size C v xs)
    (hx : a.eval x = .slice none 0 0) (h : wpList P ops Q rest (a.put o.dst v) w) : wpList P ops Q (o :: rest) a w := by
  obtain ⟨e1, e2, e3, e4, e5⟩ := hE
  obtain ⟨i, hi, hz, hsz, hby⟩ := info_parts e2
  refine wpList_plain hgd fun _ hK => ?_
  have hr := run_append_owned_none (P := P) w base t o.type e i size e1 hi v xs.length (xs.flatMap C) hown.own
  unfold Oper.wp execOp
  simp only [ho, resolve, invoke, builtin, Sem.run_bind, Sem.run_pure, Result.andThen_ok, List.map_toArray, List.map_cons, List.map_nil, hs, hx, hr]
  exact hK _ _ h
theorem step_app {P : Program} {α : Type} {t e : TypeId} {size bytes : Nat} {z : Value} (hE : ElemOk P t e size bytes z) (C : α → List Value) (hC : ∀ x, (C x).length = size) (h1 : ∀ x, ∀ u ∈ C x, u.oneCell' = true)
    {w : World} {ops : Array Oper} {o : Oper} {a : Act} {K : Act → World → Prop} {Q : Exit → Act → World → Prop} {E : Prop} (hgd : o.guard = none) (s x : Operand)
    (ho : o.op = .call { callee := .builtin .append, args := #[s, x], argTypes := #[t, t] }) (base : Nat) (v : Value) (xs : List α) (hs : a.eval s = v) (hown : RowIs w base e size C v xs)
    (ad : Addr) (c : Nat) (y : α) (hx : a.eval x = .slice (some ad) 1 c) (hnews : ∀ j u, (C y)[j]? = some u → w.cell? (ad.add j) = some u)
    (hb : (xs.length + 1) * bytes ≤ 140737488355328) (hbase : base ≤ w.heap.size)
    (h : ∀ g cap w', RowIs w' base e size C (.slice (some ⟨g, 0, none⟩) (xs.length + 1) cap) (xs ++ [y]) → w.grownBy w' v.ownBlock → Nb w v.ownBlock (some g) →
      K (a.put o.dst (.slice (some ⟨g, 0, none⟩) (xs.length + 1) cap)) w') : if Region.wanted o (yielded ops a.tmps) = true then Oper.wp P o a w K Q else E := by
  have hw : Region.wanted o (yielded ops a.tmps) = true := by simp [Region.wanted, hgd]
  rw [if_pos hw]
  exact wp_apps hE C hC h1 s x ho base v xs hs hown ad c [y] (Nat.le_refl _) hx (by rw [one_flat]; exact hnews) hb hbase h
theorem cell_one_at (w : World) (N : Nat) (hN : N = w.heap.size) (x : Value) (t : TypeId) : ∀ j v, [x][j]? = some v → (w.alloc (.cells #[x] t)).cell? ((⟨N, 0, none⟩ : Addr).add j) = some v := by
  subst hN
  intro j v hj
  match j, hj with
  | 0, hj => simp at hj; subst hj; simp [Addr.add]
  | (j + 1), hj => simp at hj
theorem RowIs.nil {α : Type} (w : World) (base : Nat) (e : TypeId) (size : Nat) (C : α → List Value) : RowIs w base e size C (.slice none 0 0) [] := ⟨World.ownsRow_nil _ _ _ _⟩
theorem RowIs.shape {α : Type} {w : World} {base : Nat} {e : TypeId} {size : Nat} {C : α → List Value} {v : Value} {xs : List α} (h : RowIs w base e size C v xs) :
    (v = .slice none 0 0 ∧ xs = []) ∨ ∃ g cap, v = .slice (some ⟨g, 0, none⟩) xs.length cap ∧ base ≤ g ∧ g < w.heap.size ∧ xs.length ≤ cap ∧ cap ≤ maxLen := by
  rcases h.own.2 with ⟨h1, h2⟩ | ⟨g, cap, cur, h1, h2, h3, h4, h5, _⟩
  · exact .inl ⟨h1, List.eq_nil_of_length_eq_zero h2⟩
  · exact .inr ⟨g, cap, h1, h2, (Array.getElem?_eq_some_iff.1 h3).1, h4, h5⟩
theorem RowIs.lt {α : Type} {w : World} {base : Nat} {e : TypeId} {size : Nat} {C : α → List Value} {v : Value} {xs : List α} (h : RowIs w base e size C v xs) : ∀ k, v.ownBlock = some k → base ≤ k ∧ k < w.heap.size := h.own.lt
theorem RowIs.below {α : Type} {w w' : World} {base : Nat} {e : TypeId} {size : Nat} {C : α → List Value} {v : Value} {xs : List α} (h : RowIs w base e size C v xs) (hb : Below w.heap.size w w') : RowIs w' base e size C v xs :=
  ⟨h.own.kept (row := none) ⟨hb.os, hb.tape, hb.output, hb.size, fun k hk _ => hb.block k hk⟩ (by cases v.ownBlock <;> simp)⟩
theorem RowIs.alloc {α : Type} {w : World} {base : Nat} {e : TypeId} {size : Nat} {C : α → List Value} {v : Value} {xs : List α} (h : RowIs w base e size C v xs) (o : Obj) : RowIs (w.alloc o) base e size C v xs := ⟨h.own.alloc o⟩
theorem RowIs.drew {α : Type} {w : World} {base : Nat} {e : TypeId} {size : Nat} {C : α → List Value} {v : Value} {xs : List α} (h : RowIs w base e size C v xs) : RowIs w.drew base e size C v xs := ⟨h.own⟩
theorem RowIs.drewN {α : Type} {w : World} {base : Nat} {e : TypeId} {size : Nat} {C : α → List Value} {v : Value} {xs : List α} (h : RowIs w base e size C v xs) (n : Nat) : RowIs (w.drewN n) base e size C v xs := ⟨h.own⟩
theorem RowIs.setCell {α : Type} {w : World} {base : Nat} {e : TypeId} {size : Nat} {C : α → List Value} {v : Value} {xs : List α} (h : RowIs w base e size C v xs) (p : Addr) (u : Value) (hn : v.ownBlock ≠ some p.block) : RowIs (w.setCell p u) base e size C v xs :=
  ⟨h.own.kept (row := some p.block) ⟨rfl, rfl, rfl, by simp [World.setCell], fun k _ hk => Below.heap_setCell _ _ _ _ (fun e => hk (by rw [e]))⟩ (.inr hn)⟩
theorem RowIs.cells {α : Type} {w : World} {base : Nat} {e : TypeId} {size : Nat} {C : α → List Value} (hC : ∀ x, (C x).length = size) {g n cap : Nat} {xs : List α} (h : RowIs w base e size C (.slice (some ⟨g, 0, none⟩) n cap) xs)
    (i : Nat) (x : α) (hx : xs[i]? = some x) (j : Nat) (u : Value) (hu : (C x)[j]? = some u) : w.cell? ⟨g, i * size + j, none⟩ = some u := by
  have key : ∀ (xs : List α) (i : Nat), xs[i]? = some x → (xs.flatMap C)[i * size + j]? = some u := by
    intro xs
    induction xs with
    | nil => intro i hi; simp at hi
    | cons y ys ih =>
      intro i hi
      rw [List.flatMap_cons]
      cases i with
      | zero =>
        simp at hi; subst hi
        rw [Nat.zero_mul, Nat.zero_add, List.getElem?_append_left (by exact (List.getElem?_eq_some_iff.1 hu).1)]; exact hu
      | succ i =>
        simp at hi
        rw [List.getElem?_append_right (by rw [hC]; rw [Nat.add_mul]; omega), hC]
        have := ih i hi
        rwa [show (i + 1) * size + j - size = i * size + j by rw [Nat.add_mul]; omega]
  have := h.own.cells (g := g) rfl (i * size + j) u (key xs i hx)
  rwa [Addr.add_lit, Nat.zero_add] at this
theorem RowKit.Below.drewN {B : Nat} {a w : World} (h : Below B a w) (n : Nat) : Below B a (w.drewN n) := ⟨h.os, h.tape, h.output, h.size, h.block⟩
/-- Of the blocks that were there only those that M names may have turned; the streams are as they were. -/
structure Kept (M : Nat → Prop) (w w' : World) : Prop where
  os : w'.os = w.os
  tape : w'.tape = w.tape
  output : w'.output = w.output
  size : w.heap.size ≤ w'.heap.size
  block : ∀ k, k < w.heap.size → ¬ M k → w'.heap[k]? = w.heap[k]?
theorem Kept.refl (M : Nat → Prop) (w : World) : Kept M w w := ⟨rfl, rfl, rfl, Nat.le_refl _, fun _ _ _ => rfl⟩
theorem Kept.trans {M M' : Nat → Prop} {a b c : World} (h : Kept M a b) (k : Kept M' b c) (hm : ∀ i, i < a.heap.size → M' i → M i) : Kept M a c :=
  ⟨k.os.trans h.os, k.tape.trans h.tape, k.output.trans h.output, Nat.le_trans h.size k.size, fun i hi hn => (k.block i (Nat.lt_of_lt_of_le hi h.size) (fun x => hn (hm i hi x))).trans (h.block i hi hn)⟩
theorem Kept.mono {M M' : Nat → Prop} {a b : World} (h : Kept M a b) (hm : ∀ i, i < a.heap.size → M i → M' i) : Kept M' a b :=
  ⟨h.os, h.tape, h.output, h.size, fun i hi hn => h.block i hi (fun x => hn (hm i hi x))⟩
theorem Kept.of_below {w w' : World} (h : Below w.heap.size w w') (M : Nat → Prop) : Kept M w w' := ⟨h.os, h.tape, h.output, h.size, fun k hk _ => h.block k hk⟩
theorem Kept.below {w w' : World} {B : Nat} {M : Nat → Prop} (h : Kept M w w') (hB : B ≤ w.heap.size) (hM : ∀ k, k < B → ¬ M k) : Below B w w' := ⟨h.os, h.tape, h.output, h.size, fun k hk => h.block k (by omega) (hM k hk)⟩
theorem Kept.alloc {M : Nat → Prop} {a w : World} (h : Kept M a w) (o : Obj) : Kept M a (w.alloc o) :=
  ⟨h.os, h.tape, h.output, by have := h.size; simp; omega, fun k hk hn => (Below.heap_alloc _ _ _ (by have := h.size; omega)).trans (h.block k hk hn)⟩
theorem Kept.drew {M : Nat → Prop} {a w : World} (h : Kept M a w) : Kept M a w.drew := ⟨h.os, h.tape, h.output, h.size, h.block⟩
theorem Kept.drewN {M : Nat → Prop} {a w : World} (h : Kept M a w) (n : Nat) : Kept M a (w.drewN n) := ⟨h.os, h.tape, h.output, h.size, h.block⟩
theorem Kept.setCell {M : Nat → Prop} {a w : World} (h : Kept M a w) {p : Addr} (hp : a.heap.size ≤ p.block ∨ M p.block) (u : Value) : Kept M a (w.setCell p u) := by
  refine ⟨h.os, h.tape, h.output, by have := h.size; simpa [World.setCell] using this, fun k hk hn => (Below.heap_setCell _ _ _ _ ?_).trans (h.block k hk hn)⟩
  rintro rfl
  rcases hp with hp | hp
  · omega
  · exact hn hp
theorem Kept.grown {M : Nat → Prop} {a w w' : World} {row : Option Nat} (h : Kept M a w) (hg : w.grownBy w' row) (hr : ∀ k, row = some k → a.heap.size ≤ k ∨ M k) : Kept M a w' := by
  refine ⟨hg.os.trans h.os, hg.tape.trans h.tape, hg.output.trans h.output, Nat.le_trans h.size hg.size, fun k hk hn => (hg.block k (Nat.lt_of_lt_of_le hk h.size) ?_).trans (h.block k hk hn)⟩
  intro e
  rcases hr k e.symm with x | x
  · omega
  · exact hn x
theorem Kept.cell {M : Nat → Prop} {w w' : World} (h : Kept M w w') {p : Addr} (hp : p.block < w.heap.size) (hn : ¬ M p.block) : w'.cell? p = w.cell? p := World.cell?_of_block (h.block p.block hp hn)
theorem Kept.frozen {M : Nat → Prop} {w w' : World} (h : Kept M w w') {p : Addr} (hp : p.block < w.heap.size) (hn : ¬ M p.block) : w'.frozen? p = w.frozen? p := World.frozen?_of_block (h.block p.block hp hn)
theorem Kept.owns {M : Nat → Prop} {w w' : World} (h : Kept M w w') {base : Nat} {e : TypeId} {size : Nat} {v : Value} {n : Nat} {xs : List Value} (ho : w.ownsRow base e size v n xs) (hn : ∀ k, v.ownBlock = some k → ¬ M k) : w'.ownsRow base e size v n xs := by
  refine ⟨ho.1, ?_⟩
  rcases ho.2 with hnil | ⟨g, cap, cur, rfl, hb, hgg, rest⟩
  · exact .inl hnil
  · refine .inr ⟨g, cap, cur, rfl, hb, ?_, rest⟩
    rw [h.block g (Array.getElem?_eq_some_iff.1 hgg).1 (hn g rfl)]
    exact hgg
theorem RowIs.keptBy {α : Type} {M : Nat → Prop} {w w' : World} {base : Nat} {e : TypeId} {size : Nat} {C : α → List Value} {v : Value} {xs : List α} (h : RowIs w base e size C v xs) (hk : Kept M w w') (hn : ∀ k, v.ownBlock = some k → ¬ M k) : RowIs w' base e size C v xs := ⟨hk.owns h.own hn⟩
theorem ownsRow_base {w : World} {base base' : Nat} {e : TypeId} {size : Nat} {v : Value} {n : Nat} {xs : List Value} (ho : w.ownsRow base e size v n xs) (hn : ∀ k, v.ownBlock = some k → base' ≤ k) : w.ownsRow base' e size v n xs := by
  refine ⟨ho.1, ?_⟩
  rcases ho.2 with hnil | ⟨g, cap, cur, rfl, hb, rest⟩
  · exact .inl hnil
  · exact .inr ⟨g, cap, cur, rfl, hn g rfl, rest⟩
end Go
/- What the document's scanner (promptref: digit, letter, run, token) does at every text: it gives the plain function's token and leaves all memory that was there. -/
namespace Go.Proofs.YtegjiaceopnfjaaGreatDoor
open Go.RowKit
theorem ret_bool {a b : Bool} (h : a = b) : Ending.returned (.bool a) = .returned (.bool b) := by rw [h]
theorem ret_int {k : IntKind} {a b : Int} (h : a = b) : Ending.returned (.int k a) = .returned (.int k b) := by rw [h]
theorem ret_str {a b : ByteArray} (h : a = b) : Ending.returned (.string a) = .returned (.string b) := by rw [h]
set_option maxHeartbeats 400000 in
theorem digit_any (c : Int) (w : World) :
    Calls Tryz.prog 86 #[.int .u8 c] w fun e w' => e = .returned (.bool (Rf.digitB c)) ∧ w' = w := by
  go_enter Tryz.func86, Tryz.ntmps86
  go_wp2
  all_goals go_ret
  all_goals refine ⟨ret_bool ?_, rfl⟩
  all_goals (unfold Rf.digitB; rw [Bool.eq_iff_iff]; simp; try omega)
set_option maxHeartbeats 400000 in
theorem letter_any (c : Int) (w : World) :
    Calls Tryz.prog 87 #[.int .u8 c] w fun e w' => e = .returned (.bool (Rf.letterB c)) ∧ w' = w := by
  go_enter Tryz.func87, Tryz.ntmps87
  go_wp2
  all_goals go_ret
  all_goals refine ⟨ret_bool ?_, rfl⟩
  all_goals (unfold Rf.letterB; rw [Bool.eq_iff_iff]; simp; try omega)
set_option maxHeartbeats 400000 in
theorem run_any (s : ByteArray) (n : Nat) (dg : Bool) (w : World) (hs : s.size ≤ maxLen) (hn : n ≤ s.size) :
    Calls Tryz.prog 88 #[.string s, .int .i64 n, .bool dg] w fun e w' => e = .returned (.string (Rf.runS s dg n)) ∧ w' = w := by
  unfold maxLen at hs
  have hle := Rf.runLen_le s dg n
  go_enter Tryz.func88, Tryz.ntmps88
  go_wp2
  go_loop [7, 8, 9] (fun i _ _ => ∃ k : Nat, n ≤ k ∧ k ≤ s.size ∧ i = .int .i64 k ∧ k + Rf.runLen s dg k = n + Rf.runLen s dg n) (fun i _ _ => s.size - (intOf i).toNat)
  case atStart => exact ⟨n, by omega, by omega, rfl, rfl⟩
  case round =>
    obtain ⟨k, hk1, hk2, rfl, hk⟩ := hrel
    have Hk : Hid (k + Rf.runLen s dg k = n + Rf.runLen s dg n) := hk
    clear hk
    by_cases hlt : k < s.size
    · have hb := Rf.byteAt_eq s k hlt
      have hy : Rf.okB dg (s[k].toNat : Int) = true → k + 1 + Rf.runLen s dg (k + 1) = n + Rf.runLen s dg n := by
        intro h; rw [hb] at h; have := Rf.runLen_yes s dg k hlt h; have := Hk.out; omega
      have hno : Rf.okB dg (s[k].toNat : Int) = false → k = n + Rf.runLen s dg n := by
        intro h; rw [hb] at h; have := Rf.runLen_no s dg k hlt h; have := Hk.out; omega
      clear hb
      have Hy : Hid _ := hy
      have Hno : Hid _ := hno
      clear hy hno
      cases hl : Rf.letterB (s[k].toNat : Int) <;> cases hd : Rf.digitB (s[k].toNat : Int) <;> cases dg
      all_goals
        go_wp2_with (first | (go_at_call 87; refine (letter_any _ _).mono ?_; rintro e w' ⟨rfl, rfl⟩) | (go_at_call 86; refine (digit_any _ _).mono ?_; rintro e w' ⟨rfl, rfl⟩))
        first
        | (go_round
           case rel => exact ⟨k + 1, by omega, by omega, by go_num, Hy.out (by simp [Rf.okB, hl, hd])⟩
           case measure => simp [intOf]; omega)
        | (go_ret
           exact ⟨ret_str (by unfold Rf.runS; rw [← Hno.out (by simp [Rf.okB, hl, hd])]), rfl⟩)
    · have hend : k = n + Rf.runLen s dg n := by have := Rf.runLen_end s dg k (by omega); have := Hk.out; omega
      have He : Hid _ := hend
      clear hend
      go_wp2
      go_ret
      exact ⟨ret_str (by unfold Rf.runS; rw [← He.out]), rfl⟩
end Go.Proofs.YtegjiaceopnfjaaGreatDoor
/- What the document's scanner (promptref: token, Tokens) does at every text: it gives the plain function's tokens and leaves all memory that was there. -/
namespace Go.Proofs.YtegjiaceopnfjaaGreatDoor
open Go.RowKit
abbrev tokVal (t : Rf.Tok) : Value := .agg #[.int .u8 t.k, .int .i64 t.at_, .string t.s, .int .i64 t.e]
theorem isEmpty_size (W : ByteArray) : W.toList.isEmpty = decide (W.size = 0) := by
  rw [← decide_eq_emptyBytes W, decide_eq_decide]
  constructor
  · rintro rfl; rfl
  · intro h
    have : W.data.size = 0 := h
    cases W with
    | mk d => simp at this; subst this; rfl
set_option maxHeartbeats 1000000 in
theorem token_neg (s : ByteArray) (n : Nat) (w : World) (hs : s.size ≤ maxLen) (hn : n < s.size) (hc : (s[n].toNat : Int) = 45) :
    Calls Tryz.prog 61 #[.string s, .int .i64 n] w fun e w' => e = .returned (tokVal (Rf.tokenAt s n)) ∧ Below w.heap.size w w' := by
  have hs' := hs
  unfold maxLen at hs
  have hd : Rf.digitB 45 = false := by decide
  have hl : Rf.letterB 45 = false := by decide
  have hT : Hid (Rf.tokenAt s n = Rf.numTok n true (Rf.runS s true (n + 1))) := by
    unfold Hid Rf.tokenAt; rw [← Rf.byteAt_eq s n hn, hc]; simp
  have hi := Rf.runS_size s true (n + 1)
  have hle := Rf.runLen_le s true (n + 1)
  generalize hW : Rf.runS s true (n + 1) = W at *
  generalize Rf.runLen s true (n + 1) = L at *
  have HW : Hid _ := hW
  clear hW
  have hz : W.size ≤ s.size := by omega
  clear hi hle
  have hem := isEmpty_size W
  rcases (show W.size = 0 ∨ (0 < W.size ∧ W.size ≤ 9) ∨ (0 < W.size ∧ 9 < W.size) by omega) with hq | ⟨hq, hq'⟩ | ⟨hq, hq'⟩
  all_goals
    first | rw [decide_eq_true hq] at hem | rw [decide_eq_false (by omega)] at hem
    go_enter Tryz.func61, Tryz.ntmps61
    go_wp2_with (first | (go_at_call 87; refine (letter_any _ _).mono ?_; rintro e w' ⟨rfl, rfl⟩) | (go_at_call 86; refine (digit_any _ _).mono ?_; rintro e w' ⟨rfl, rfl⟩) | (go_at_call 88; refine (run_any s (n + 1) true _ hs' (by omega)).mono ?_; rintro e w' ⟨rfl, rfl⟩; rw [HW.out]))
    refine bodyPost_ret (v := tokVal (Rf.tokenAt s n)) ?_ rfl ⟨rfl, (Below.refl _ _).alloc (Nat.le_refl _) _⟩
    rw [hT.out]
    unfold Rf.numTok
    split
    all_goals (try split)
    all_goals (first | (exfalso; omega) | (simp [results, Tryz.results61, go_sem, tokVal, Rf.bad]; done))
set_option maxHeartbeats 1000000 in
theorem token_dig (s : ByteArray) (n : Nat) (w : World) (hs : s.size ≤ maxLen) (hn : n < s.size) (hd : Rf.digitB (s[n].toNat : Int) = true) :
    Calls Tryz.prog 61 #[.string s, .int .i64 n] w fun e w' => e = .returned (tokVal (Rf.tokenAt s n)) ∧ Below w.heap.size w w' := by
  have hs' := hs
  unfold maxLen at hs
  have hc : ((s[n].toNat : Int) == 45) = false := by
    unfold Rf.digitB at hd; simp at hd; rw [beq_eq_false_iff_ne]; omega
  have hT : Hid (Rf.tokenAt s n = Rf.numTok n false (Rf.runS s true n)) := by
    unfold Hid Rf.tokenAt; rw [← Rf.byteAt_eq s n hn, if_neg (beq_eq_false_iff_ne.1 hc), if_pos hd]
  have hi := Rf.runS_size s true n
  have hle := Rf.runLen_le s true n
  generalize hW : Rf.runS s true n = W at *
  generalize Rf.runLen s true n = L at *
  have HW : Hid _ := hW
  clear hW
  have hz : W.size ≤ s.size := by omega
  clear hi hle
  have hem := isEmpty_size W
  rcases (show W.size = 0 ∨ (0 < W.size ∧ W.size ≤ 9) ∨ (0 < W.size ∧ 9 < W.size) by omega) with hq | ⟨hq, hq'⟩ | ⟨hq, hq'⟩
  all_goals
    first | rw [decide_eq_true hq] at hem | rw [decide_eq_false (by omega)] at hem
    go_enter Tryz.func61, Tryz.ntmps61
    go_wp2_with (first | (go_at_call 87; refine (letter_any _ _).mono ?_; rintro e w' ⟨rfl, rfl⟩) | (go_at_call 86; refine (digit_any _ _).mono ?_; rintro e w' ⟨rfl, rfl⟩) | (go_at_call 88; refine (run_any s n true _ hs' (by omega)).mono ?_; rintro e w' ⟨rfl, rfl⟩; rw [HW.out]))
    refine bodyPost_ret (v := tokVal (Rf.tokenAt s n)) ?_ rfl ⟨rfl, (Below.refl _ _).alloc (Nat.le_refl _) _⟩
    rw [hT.out]
    unfold Rf.numTok
    split
    all_goals (try split)
    all_goals (first | (exfalso; omega) | (simp [results, Tryz.results61, go_sem, tokVal, Rf.bad]; done))
set_option maxHeartbeats 1000000 in
theorem token_let (s : ByteArray) (n : Nat) (w : World) (hs : s.size ≤ maxLen) (hn : n < s.size) (hc : ((s[n].toNat : Int) == 45) = false) (hd : Rf.digitB (s[n].toNat : Int) = false) (hl : Rf.letterB (s[n].toNat : Int) = true) :
    Calls Tryz.prog 61 #[.string s, .int .i64 n] w fun e w' => e = .returned (tokVal (Rf.tokenAt s n)) ∧ Below w.heap.size w w' := by
  have hs' := hs
  unfold maxLen at hs
  have hT : Hid (Rf.tokenAt s n = Rf.wordTok n (s[n].toNat : Int) (Rf.runS s false n)) := by
    unfold Hid Rf.tokenAt; rw [← Rf.byteAt_eq s n hn, if_neg (beq_eq_false_iff_ne.1 hc), if_neg (by simp [hd]), if_pos hl]
  have hi := Rf.runS_size s false n
  have hle := Rf.runLen_le s false n
  generalize hW : Rf.runS s false n = W at *
  generalize Rf.runLen s false n = L at *
  have HW : Hid _ := hW
  clear hW
  have hz : W.size ≤ s.size := by omega
  clear hi hle
  rcases (show W.size ≤ 12 ∨ 12 < W.size by omega) with hq | hq
  all_goals
    go_enter Tryz.func61, Tryz.ntmps61
    go_wp2_with (first | (go_at_call 87; refine (letter_any _ _).mono ?_; rintro e w' ⟨rfl, rfl⟩) | (go_at_call 86; refine (digit_any _ _).mono ?_; rintro e w' ⟨rfl, rfl⟩) | (go_at_call 88; refine (run_any s n false _ hs' (by omega)).mono ?_; rintro e w' ⟨rfl, rfl⟩; rw [HW.out]))
    all_goals
     refine bodyPost_ret (v := tokVal (Rf.tokenAt s n)) ?_ rfl ⟨rfl, (Below.refl _ _).alloc (Nat.le_refl _) _⟩
     rw [hT.out]
     unfold Rf.wordTok
     split
     all_goals (try split)
     all_goals (first | (exfalso; omega) | (simp [results, Tryz.results61, go_sem, tokVal, Rf.bad]; done))
set_option maxHeartbeats 1000000 in
theorem token_m40 (s : ByteArray) (n : Nat) (w : World) (hs : s.size ≤ maxLen) (hn : n < s.size) (hc : (s[n].toNat : Int) = 40) :
    Calls Tryz.prog 61 #[.string s, .int .i64 n] w fun e w' => e = .returned (tokVal (Rf.tokenAt s n)) ∧ Below w.heap.size w w' := by
  unfold maxLen at hs
  have hd : Rf.digitB 40 = false := by decide
  have hl : Rf.letterB 40 = false := by decide
  have hT : Hid (Rf.tokenAt s n = ⟨40, n, s.extract n (n + 1), 0⟩) := by
    unfold Hid Rf.tokenAt; rw [← Rf.byteAt_eq s n hn, hc]; simp [hd, hl, Rf.markB]
  go_enter Tryz.func61, Tryz.ntmps61
  go_wp2_with (first | (go_at_call 87; refine (letter_any _ _).mono ?_; rintro e w' ⟨rfl, rfl⟩) | (go_at_call 86; refine (digit_any _ _).mono ?_; rintro e w' ⟨rfl, rfl⟩))
  refine bodyPost_ret (v := tokVal (Rf.tokenAt s n)) ?_ rfl ⟨rfl, (Below.refl _ _).alloc (Nat.le_refl _) _⟩
  rw [hT.out]
  simp [results, Tryz.results61, go_sem, tokVal]
set_option maxHeartbeats 1000000 in
theorem token_m41 (s : ByteArray) (n : Nat) (w : World) (hs : s.size ≤ maxLen) (hn : n < s.size) (hc : (s[n].toNat : Int) = 41) :
    Calls Tryz.prog 61 #[.string s, .int .i64 n] w fun e w' => e = .returned (tokVal (Rf.tokenAt s n)) ∧ Below w.heap.size w w' := by
  unfold maxLen at hs
  have hd : Rf.digitB 41 = false := by decide
  have hl : Rf.letterB 41 = false := by decide
  have hT : Hid (Rf.tokenAt s n = ⟨41, n, s.extract n (n + 1), 0⟩) := by
    unfold Hid Rf.tokenAt; rw [← Rf.byteAt_eq s n hn, hc]; simp [hd, hl, Rf.markB]
  go_enter Tryz.func61, Tryz.ntmps61
  go_wp2_with (first | (go_at_call 87; refine (letter_any _ _).mono ?_; rintro e w' ⟨rfl, rfl⟩) | (go_at_call 86; refine (digit_any _ _).mono ?_; rintro e w' ⟨rfl, rfl⟩))
  refine bodyPost_ret (v := tokVal (Rf.tokenAt s n)) ?_ rfl ⟨rfl, (Below.refl _ _).alloc (Nat.le_refl _) _⟩
  rw [hT.out]
  simp [results, Tryz.results61, go_sem, tokVal]
set_option maxHeartbeats 1000000 in
theorem token_m44 (s : ByteArray) (n : Nat) (w : World) (hs : s.size ≤ maxLen) (hn : n < s.size) (hc : (s[n].toNat : Int) = 44) :
    Calls Tryz.prog 61 #[.string s, .int .i64 n] w fun e w' => e = .returned (tokVal (Rf.tokenAt s n)) ∧ Below w.heap.size w w' := by
  unfold maxLen at hs
  have hd : Rf.digitB 44 = false := by decide
  have hl : Rf.letterB 44 = false := by decide
  have hT : Hid (Rf.tokenAt s n = ⟨44, n, s.extract n (n + 1), 0⟩) := by
    unfold Hid Rf.tokenAt; rw [← Rf.byteAt_eq s n hn, hc]; simp [hd, hl, Rf.markB]
  go_enter Tryz.func61, Tryz.ntmps61
  go_wp2_with (first | (go_at_call 87; refine (letter_any _ _).mono ?_; rintro e w' ⟨rfl, rfl⟩) | (go_at_call 86; refine (digit_any _ _).mono ?_; rintro e w' ⟨rfl, rfl⟩))
  refine bodyPost_ret (v := tokVal (Rf.tokenAt s n)) ?_ rfl ⟨rfl, (Below.refl _ _).alloc (Nat.le_refl _) _⟩
  rw [hT.out]
  simp [results, Tryz.results61, go_sem, tokVal]
set_option maxHeartbeats 1000000 in
theorem token_m46 (s : ByteArray) (n : Nat) (w : World) (hs : s.size ≤ maxLen) (hn : n < s.size) (hc : (s[n].toNat : Int) = 46) :
    Calls Tryz.prog 61 #[.string s, .int .i64 n] w fun e w' => e = .returned (tokVal (Rf.tokenAt s n)) ∧ Below w.heap.size w w' := by
  unfold maxLen at hs
  have hd : Rf.digitB 46 = false := by decide
  have hl : Rf.letterB 46 = false := by decide
  have hT : Hid (Rf.tokenAt s n = ⟨46, n, s.extract n (n + 1), 0⟩) := by
    unfold Hid Rf.tokenAt; rw [← Rf.byteAt_eq s n hn, hc]; simp [hd, hl, Rf.markB]
  go_enter Tryz.func61, Tryz.ntmps61
  go_wp2_with (first | (go_at_call 87; refine (letter_any _ _).mono ?_; rintro e w' ⟨rfl, rfl⟩) | (go_at_call 86; refine (digit_any _ _).mono ?_; rintro e w' ⟨rfl, rfl⟩))
  refine bodyPost_ret (v := tokVal (Rf.tokenAt s n)) ?_ rfl ⟨rfl, (Below.refl _ _).alloc (Nat.le_refl _) _⟩
  rw [hT.out]
  simp [results, Tryz.results61, go_sem, tokVal]
set_option maxHeartbeats 1000000 in
theorem token_m33 (s : ByteArray) (n : Nat) (w : World) (hs : s.size ≤ maxLen) (hn : n < s.size) (hc : (s[n].toNat : Int) = 33) :
    Calls Tryz.prog 61 #[.string s, .int .i64 n] w fun e w' => e = .returned (tokVal (Rf.tokenAt s n)) ∧ Below w.heap.size w w' := by
  unfold maxLen at hs
  have hd : Rf.digitB 33 = false := by decide
  have hl : Rf.letterB 33 = false := by decide
  have hT : Hid (Rf.tokenAt s n = ⟨33, n, s.extract n (n + 1), 0⟩) := by
    unfold Hid Rf.tokenAt; rw [← Rf.byteAt_eq s n hn, hc]; simp [hd, hl, Rf.markB]
  go_enter Tryz.func61, Tryz.ntmps61
  go_wp2_with (first | (go_at_call 87; refine (letter_any _ _).mono ?_; rintro e w' ⟨rfl, rfl⟩) | (go_at_call 86; refine (digit_any _ _).mono ?_; rintro e w' ⟨rfl, rfl⟩))
  refine bodyPost_ret (v := tokVal (Rf.tokenAt s n)) ?_ rfl ⟨rfl, (Below.refl _ _).alloc (Nat.le_refl _) _⟩
  rw [hT.out]
  simp [results, Tryz.results61, go_sem, tokVal]
set_option maxHeartbeats 1000000 in
theorem token_colon (s : ByteArray) (n : Nat) (w : World) (hs : s.size ≤ maxLen) (hn : n < s.size) (hc : (s[n].toNat : Int) = 58) :
    Calls Tryz.prog 61 #[.string s, .int .i64 n] w fun e w' => e = .returned (tokVal (Rf.tokenAt s n)) ∧ Below w.heap.size w w' := by
  unfold maxLen at hs
  have hd : Rf.digitB 58 = false := by decide
  have hl : Rf.letterB 58 = false := by decide
  have hT : Hid (Rf.tokenAt s n = if n + 1 < s.size ∧ Rf.byteAt s (n + 1) = 45 then ⟨58, n, ⟨#[58, 45]⟩, 0⟩ else Rf.bad n 2) := by
    unfold Hid Rf.tokenAt; rw [← Rf.byteAt_eq s n hn, hc]; simp [hd, hl, Rf.markB]
  by_cases h1 : n + 1 < s.size
  · have hb := Rf.byteAt_eq s (n + 1) h1
    by_cases h2 : (s[n + 1].toNat : Int) = 45
    · have hT2 : Hid (Rf.tokenAt s n = ⟨58, n, ⟨#[58, 45]⟩, 0⟩) := by unfold Hid; rw [hT.out, if_pos ⟨h1, by rw [← hb]; exact h2⟩]
      clear hb hT
      go_enter Tryz.func61, Tryz.ntmps61
      go_wp2_with (first | (go_at_call 87; refine (letter_any _ _).mono ?_; rintro e w' ⟨rfl, rfl⟩) | (go_at_call 86; refine (digit_any _ _).mono ?_; rintro e w' ⟨rfl, rfl⟩))
      refine bodyPost_ret (v := tokVal (Rf.tokenAt s n)) ?_ rfl ⟨rfl, (Below.refl _ _).alloc (Nat.le_refl _) _⟩
      rw [hT2.out]
      simp [results, Tryz.results61, go_sem, tokVal]
    · have hT2 : Hid (Rf.tokenAt s n = Rf.bad n 2) := by unfold Hid; rw [hT.out, if_neg (by rw [← hb]; exact fun h => h2 h.2)]
      have h3 : ((s[n + 1].toNat : Int) == 45) = false := beq_eq_false_iff_ne.2 h2
      clear hb hT h2
      go_enter Tryz.func61, Tryz.ntmps61
      go_wp2_with (first | (go_at_call 87; refine (letter_any _ _).mono ?_; rintro e w' ⟨rfl, rfl⟩) | (go_at_call 86; refine (digit_any _ _).mono ?_; rintro e w' ⟨rfl, rfl⟩))
      refine bodyPost_ret (v := tokVal (Rf.tokenAt s n)) ?_ rfl ⟨rfl, (Below.refl _ _).alloc (Nat.le_refl _) _⟩
      rw [hT2.out]
      simp [results, Tryz.results61, go_sem, tokVal, Rf.bad]
  · have hT2 : Hid (Rf.tokenAt s n = Rf.bad n 2) := by unfold Hid; rw [hT.out, if_neg (fun h => h1 h.1)]
    clear hT
    go_enter Tryz.func61, Tryz.ntmps61
    go_wp2_with (first | (go_at_call 87; refine (letter_any _ _).mono ?_; rintro e w' ⟨rfl, rfl⟩) | (go_at_call 86; refine (digit_any _ _).mono ?_; rintro e w' ⟨rfl, rfl⟩))
    refine bodyPost_ret (v := tokVal (Rf.tokenAt s n)) ?_ rfl ⟨rfl, (Below.refl _ _).alloc (Nat.le_refl _) _⟩
    rw [hT2.out]
    simp [results, Tryz.results61, go_sem, tokVal, Rf.bad]
set_option maxHeartbeats 1000000 in
theorem token_other (s : ByteArray) (n : Nat) (w : World) (_hs : s.size ≤ maxLen) (hn : n < s.size) (hd : Rf.digitB (s[n].toNat : Int) = false) (hl : Rf.letterB (s[n].toNat : Int) = false)
    (c1 : ((s[n].toNat : Int) == 45) = false) (c2 : ((s[n].toNat : Int) == 40) = false) (c3 : ((s[n].toNat : Int) == 41) = false) (c4 : ((s[n].toNat : Int) == 44) = false) (c5 : ((s[n].toNat : Int) == 46) = false) (c6 : ((s[n].toNat : Int) == 33) = false) (c7 : ((s[n].toNat : Int) == 58) = false) :
    Calls Tryz.prog 61 #[.string s, .int .i64 n] w fun e w' => e = .returned (tokVal (Rf.tokenAt s n)) ∧ Below w.heap.size w w' := by
  have hT : Hid (Rf.tokenAt s n = Rf.bad n 2) := by
    unfold Hid Rf.tokenAt; rw [← Rf.byteAt_eq s n hn, if_neg (beq_eq_false_iff_ne.1 c1), if_neg (by simp [hd]), if_neg (by simp [hl]), if_neg (by simp [Rf.markB, c2, c3, c4, c5, c6]), if_neg (fun h => beq_eq_false_iff_ne.1 c7 h.1)]
  go_enter Tryz.func61, Tryz.ntmps61
  go_wp2_with (first | (go_at_call 87; refine (letter_any _ _).mono ?_; rintro e w' ⟨rfl, rfl⟩) | (go_at_call 86; refine (digit_any _ _).mono ?_; rintro e w' ⟨rfl, rfl⟩))
  refine bodyPost_ret (v := tokVal (Rf.tokenAt s n)) ?_ rfl ⟨rfl, (Below.refl _ _).alloc (Nat.le_refl _) _⟩
  rw [hT.out]
  simp [results, Tryz.results61, go_sem, tokVal, Rf.bad]
theorem token_any (s : ByteArray) (n : Nat) (w : World) (hs : s.size ≤ maxLen) (hn : n < s.size) :
    Calls Tryz.prog 61 #[.string s, .int .i64 n] w fun e w' => e = .returned (tokVal (Rf.tokenAt s n)) ∧ Below w.heap.size w w' := by
  by_cases h1 : (s[n].toNat : Int) = 45
  · exact token_neg s n w hs hn h1
  cases hd : Rf.digitB (s[n].toNat : Int) with
  | true => exact token_dig s n w hs hn hd
  | false =>
  cases hl : Rf.letterB (s[n].toNat : Int) with
  | true => exact token_let s n w hs hn (beq_eq_false_iff_ne.2 h1) hd hl
  | false =>
  by_cases h2 : (s[n].toNat : Int) = 40
  · exact token_m40 s n w hs hn h2
  by_cases h3 : (s[n].toNat : Int) = 41
  · exact token_m41 s n w hs hn h3
  by_cases h4 : (s[n].toNat : Int) = 44
  · exact token_m44 s n w hs hn h4
  by_cases h5 : (s[n].toNat : Int) = 46
  · exact token_m46 s n w hs hn h5
  by_cases h6 : (s[n].toNat : Int) = 33
  · exact token_m33 s n w hs hn h6
  by_cases h7 : (s[n].toNat : Int) = 58
  · exact token_colon s n w hs hn h7
  exact token_other s n w hs hn hd hl (beq_eq_false_iff_ne.2 h1) (beq_eq_false_iff_ne.2 h2) (beq_eq_false_iff_ne.2 h3) (beq_eq_false_iff_ne.2 h4) (beq_eq_false_iff_ne.2 h5) (beq_eq_false_iff_ne.2 h6) (beq_eq_false_iff_ne.2 h7)
end Go.Proofs.YtegjiaceopnfjaaGreatDoor
/- What the document's scanner (promptref: Tokens) does at every text of at most 400 bytes: it gives the plain function's tokens in new memory and leaves all memory that was there. -/
namespace Go.Proofs.YtegjiaceopnfjaaGreatDoor
open Go.RowKit
def tokCells (t : Rf.Tok) : List Value := [.int .u8 t.k, .int .i64 t.at_, .string t.s, .int .i64 t.e]
theorem tokCells_len (t : Rf.Tok) : (tokCells t).length = 4 := rfl
theorem tokCells_one (t : Rf.Tok) : ∀ u ∈ tokCells t, u.oneCell' = true := by
  intro u hu
  simp only [tokCells, List.mem_cons, List.not_mem_nil, or_false] at hu
  rcases hu with rfl | rfl | rfl | rfl <;> rfl
theorem Tryz.elemTok : ElemOk Tryz.prog 110 115 4 40 (.agg #[.int .u8 0, .int .i64 0, .string ⟨#[]⟩, .int .i64 0]) := ⟨Tryz.underlying110, by kernel_rfl, rfl, by decide, by decide⟩
theorem cell_four_at (w : World) (N : Nat) (hN : N = w.heap.size) (x y z u : Value) (t : TypeId) : ∀ j v, [x, y, z, u][j]? = some v → (w.alloc (.cells #[x, y, z, u] t)).cell? ((⟨N, 0, none⟩ : Addr).add j) = some v := by
  subst hN
  intro j v hj
  match j, hj with
  | 0, hj => simp at hj; subst hj; simp [Addr.add]
  | 1, hj => simp at hj; subst hj; simp [Addr.add]
  | 2, hj => simp at hj; subst hj; simp [Addr.add]
  | 3, hj => simp at hj; subst hj; simp [Addr.add]
  | (j + 4), hj => simp at hj
theorem tok_box (X : Rf.Tok) {w w2 : World} {N : Nat} {o : Obj} {row : Option Nat} (hg : World.grownBy ((w.alloc (.cells #[.int .u8 X.k, .int .i64 X.at_, .string X.s, .int .i64 X.e] N)).alloc o) w2 row) (hn : row ≠ some w.heap.size) :
    w2.cell? ⟨w.heap.size, 0, none⟩ = some (.int .u8 X.k) ∧ w2.cell? ⟨w.heap.size, 2, none⟩ = some (.string X.s) := by
  have hb := hg.block w.heap.size (by simp; omega) (fun e => hn e.symm)
  exact ⟨(World.cell?_of_block (a := ⟨w.heap.size, 0, none⟩) hb).trans (by simp), (World.cell?_of_block (a := ⟨w.heap.size, 2, none⟩) hb).trans (by simp)⟩
set_option maxHeartbeats 1000000 in
set_option maxRecDepth 100000 in
theorem tokens_any (s : ByteArray) (w : World) (hs : s.size ≤ 400) :
    Calls Tryz.prog 43 #[.string s] w fun e w' => ∃ v, e = .returned v ∧ RowIs w' w.heap.size 115 4 tokCells v (Rf.tokens s) ∧ Below w.heap.size w w' := by
  go_enter Tryz.func43, Tryz.ntmps43
  go_wp2
  go_loopw [3, 4, 5] (fun l i _ wr => ∃ (k f : Nat) (pre : List Rf.Tok), k ≤ s.size ∧ s.size ≤ k + f ∧ f ≤ s.size ∧ i = .int .i64 k ∧ pre.length + f ≤ s.size ∧ RowIs wr w.heap.size 115 4 tokCells l pre ∧ Below w.heap.size w wr ∧ Hid (pre ++ Rf.toks s f k = Rf.tokens s)) (fun _ i _ _ => s.size - (intOf i).toNat)
  case atStart => exact ⟨0, s.size, [], by omega, by omega, by omega, rfl, by simp, RowIs.nil _ _ _ _ _, Below.refl _ _, rfl⟩
  case round =>
    obtain ⟨k, f, pre, hk, hkf, hf, rfl, hpre, Hown, Hbel, hT⟩ := hrel
    have hsz := Hbel.size
    by_cases hlt : k < s.size
    · have hb := Rf.byteAt_eq s k hlt
      cases hbl : Rf.blankB (s[k].toNat : Int) with
      | true =>
        have hT2 : Hid (pre ++ Rf.toks s (f - 1) (k + 1) = Rf.tokens s) := by
          unfold Hid; rw [← Rf.toks_blank s f k hlt hkf (by rw [← hb]; exact hbl)]; exact hT.out
        have hbl' : (s[k].toNat : Int) = 32 ∨ ((s[k].toNat : Int) == 32) = false ∧ ((s[k].toNat : Int) == 10) = true := by
          unfold Rf.blankB at hbl; simp at hbl ⊢; omega
        clear hb hbl
        rcases hbl' with h32 | ⟨h32, h10⟩
        all_goals
          go_wp2_with fail
          go_roundw
          case rel => exact ⟨k + 1, f - 1, pre, by omega, by omega, by omega, by go_num, by omega, Hown, Hbel, hT2⟩
          case measure => simp [intOf]; omega
      | false =>
        have h32 : ((s[k].toNat : Int) == 32) = false := by unfold Rf.blankB at hbl; simp at hbl ⊢; omega
        have h10 : ((s[k].toNat : Int) == 10) = false := by unfold Rf.blankB at hbl; simp at hbl ⊢; omega
        have hfit := Rf.tokenAt_fit s k hlt
        by_cases h63 : (Rf.tokenAt s k).k = 63
        · have hT2 : Hid (Rf.tokens s = pre ++ [Rf.tokenAt s k]) := by
            unfold Hid; rw [← Rf.toks_bad s f k hlt hkf (by rw [← hb]; exact hbl) h63]; exact hT.out.symm
          clear hfit hb hbl
          generalize hX : Rf.tokenAt s k = X at *
          have HX : Hid _ := hX
          have hb63 : (X.k == 63) = true := beq_iff_eq.2 h63
          clear hX h63
          go_wp2_with (first
            | (go_at_call 61; refine (token_any s k _ (by unfold maxLen; omega) hlt).mono ?_; rintro e w1 ⟨rfl, hbw⟩; rw [HX.out])
            | (at_builtin; refine wpList_app Tryz.elemTok tokCells tokCells_len tokCells_one _ rfl (.tmp 25) (.tmp 27) rfl w.heap.size _ pre rfl (((Hown.below hbw).alloc _).alloc _) ⟨_, 0, none⟩ 1 X rfl (cell_four_at _ _ (by simp) _ _ _ _ _) (by omega) (by have := hbw.size; simp; omega) ?_; intro g cap w2 hrow hgr _; obtain ⟨c0, c2⟩ := tok_box X hgr (fun e => by have := (Hown.lt _ e).2; have := hbw.size; omega)))
          go_ret
          refine ⟨_, rfl, ?_, ?_⟩
          · rw [hT2.out]; exact hrow
          · exact (((Hbel.trans (hbw.mono hsz)).alloc (by have := hbw.size; omega) _).alloc (by have := hbw.size; simp; omega) _).grown hgr (by have := hbw.size; simp; omega) (fun j hj => (Hown.lt j hj).1)
        · obtain ⟨hf1, hf2⟩ := hfit h63
          have hT2 : Hid ((pre ++ [Rf.tokenAt s k]) ++ Rf.toks s (f - 1) (k + (Rf.tokenAt s k).s.size) = Rf.tokens s) := by
            unfold Hid; rw [List.append_assoc, List.singleton_append, ← Rf.toks_tok s f k hlt hkf (by rw [← hb]; exact hbl) h63]; exact hT.out
          clear hfit hb hbl
          generalize hX : Rf.tokenAt s k = X at *
          have HX : Hid _ := hX
          have hb63 : (X.k == 63) = false := beq_eq_false_iff_ne.2 h63
          clear hX h63
          go_wp2_with (first
            | (go_at_call 61; refine (token_any s k _ (by unfold maxLen; omega) hlt).mono ?_; rintro e w1 ⟨rfl, hbw⟩; rw [HX.out])
            | (at_builtin; refine wpList_app Tryz.elemTok tokCells tokCells_len tokCells_one _ rfl (.tmp 25) (.tmp 27) rfl w.heap.size _ pre rfl (((Hown.below hbw).alloc _).alloc _) ⟨_, 0, none⟩ 1 X rfl (cell_four_at _ _ (by simp) _ _ _ _ _) (by omega) (by have := hbw.size; simp; omega) ?_; intro g cap w2 hrow hgr _; obtain ⟨c0, c2⟩ := tok_box X hgr (fun e => by have := (Hown.lt _ e).2; have := hbw.size; omega)))
          go_roundw
          case rel =>
            refine ⟨k + X.s.size, f - 1, pre ++ [X], by omega, by omega, by omega, by go_num, by simp; omega, hrow, ?_, hT2⟩
            exact (((Hbel.trans (hbw.mono hsz)).alloc (by have := hbw.size; omega) _).alloc (by have := hbw.size; simp; omega) _).grown hgr (by have := hbw.size; simp; omega) (fun j hj => (Hown.lt j hj).1)
          case measure => simp [intOf]; omega
    · have hT2 : Hid (Rf.tokens s = pre ++ [Rf.endTok s]) := by
        unfold Hid; rw [← Rf.toks_end s f k (by omega)]; exact hT.out.symm
      go_wp2_with (at_builtin; refine wpList_app Tryz.elemTok tokCells tokCells_len tokCells_one _ rfl (.tmp 38) (.tmp 42) rfl w.heap.size _ pre rfl (Hown.alloc _) ⟨_, 0, none⟩ 1 (Rf.endTok s) rfl (cell_four_at _ _ (by simp) _ _ _ _ _) (by omega) (by simp; omega) ?_; intro g cap w2 hrow hgr _)
      go_ret
      refine ⟨_, rfl, ?_, ?_⟩
      · rw [hT2.out]; exact hrow
      · exact (Hbel.alloc (by omega) _).grown hgr (by simp; omega) (fun j hj => (Hown.lt j hj).1)
end Go.Proofs.YtegjiaceopnfjaaGreatDoor
