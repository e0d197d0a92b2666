
import Derived.WalkKit
import Derived.WalkSpells
import Derived.WalkLawsBesides
import Derived.Deep.QuietTactic
import Derived.BigQuiet
import Derived.BigRegion
import Derived.Deep.RegionLaw
import Derived.Test.YtbiojnljihgpoaaGreatDoorProg
import Derived.Test.YtbiojnljihgpoaaGreatDoorZab
import Derived.Test.YtbiojnljihgpoaaGreatDoorZaa
import Derived.Lib.AppendIntMem
import Derived.Deep.LoopGhost
import Derived.Laws.BytesArg
namespace Go
open Go.RowKit
theorem beq_toList (a b : ByteArray) : (a.toList == b.toList) = decide (a = b) := by
 rw [ByteArray.toList_eq, ByteArray.toList_eq]
 by_cases h : a = b
 ·subst h; simp
 ·rw [decide_eq_false h]
  refine beq_eq_false_iff_ne.2 (fun e => h ?_)
  cases a; cases b
  simp at e
  rw [e]
def ElemOk (P : Program) (t e : TypeId) (size bytes : Nat) (z : Value) : Prop :=
 P.underlying t = some (.slice e) /\ (P.info? e).map (fun i => (i.zero, i.size, i.bytes)) = some (some z, size, bytes) /\ z.cells.size = size /\ 0 < size /\ 0 < bytes
structure RowIs {α : Type} (w : World) (base : Nat) (e : TypeId) (size : Nat) (C : α -> List Value) (v : Value) (xs : List α) : Prop where
 own : w.ownsRow base e size v xs.length (xs.flatMap C)
def Nb (w : World) (nb nb' : Option Nat) : Prop := nb' = nb \/ ∃ k, nb' = some k /\ w.heap.size <= k
theorem Nb.ne {w : World} {nb nb' : Option Nat} {x : Nat} (h : Nb w nb nb') (hn : nb ≠ some x) (hx : x < w.heap.size) : nb' ≠ some x := by
 rcases h with rfl | ⟨k, rfl, hk⟩
 ·exact hn
 ·intro e; have := Option.some.inj e; omega
theorem Nb.trans {w w1 : World} {nb nb' nb'' : Option Nat} (h : Nb w nb nb') (h' : Nb w1 nb' nb'') (hs : w.heap.size <= w1.heap.size) : Nb w nb nb'' := by
 rcases h' with rfl | ⟨k, rfl, hk⟩
 ·exact h
 ·exact .inr ⟨k, rfl, by omega⟩
theorem flatMap_len {α : Type} {size : Nat} (C : α -> List Value) (hC : ∀ x, (C x).length = size) (xs : List α) : (xs.flatMap C).length = xs.length * size := by
 induction xs with
 | nil => simp
 | cons x xs ih => rw [List.flatMap_cons, List.length_append, ih, hC, List.length_cons, Nat.add_mul]; omega
theorem run_apps {P : Program} {α : Type} {t e : TypeId} {size bytes : Nat} {z : Value} (hE : ElemOk P t e size bytes z) (C : α -> List Value) (hC : ∀ x, (C x).length = size) (h1 : ∀ x, ∀ u ∈ C x, u.oneCell' = true)
  (w : World) (ty : TypeId) (base : Nat) (v : Value) (xs : List α) (hown : RowIs w base e size C v xs) (ad : Addr) (c : Nat) (ys : List α) (hy : 1 <= ys.length)
  (hnews : ∀ j u, (ys.flatMap C)[j]? = some u -> w.cell? (ad.add j) = some u) (hb : (xs.length + ys.length) * bytes <= 140737488355328) (hbase : base <= w.heap.size) :
  ∃ g cap w', (Builtin.append_ #[t, t] ty #[v, .slice (some ad) ys.length c]).run P w = .ok (.slice (some ⟨g, 0, none⟩) (xs.length + ys.length) cap) w' /\ RowIs w' base e size C (.slice (some ⟨g, 0, none⟩) (xs.length + ys.length) cap) (xs ++ ys) /\
   w.grownBy w' v.ownBlock /\ Nb w v.ownBlock (some g) := by
 obtain ⟨e1, e2, e3, e4, e5⟩ := hE
 obtain ⟨i, hi, hz, hsz, hby⟩ := info_parts e2
 have hm : xs.length + ys.length <= maxLen := by
  have := Nat.le_mul_of_pos_right (xs.length + ys.length) e5
  unfold maxLen; omega
 have hl := flatMap_len C hC ys
 have hone : ∀ u ∈ ys.flatMap C, u.oneCell' = true := by
  intro u hu
  obtain ⟨y, _, hu⟩ := List.mem_flatMap.1 hu
  exact h1 y u hu
 have fresh : ∀ v' w', w'.ownsRow w.heap.size e size v' (xs.length + ys.length) (xs.flatMap C ++ ys.flatMap C) -> ∃ g cap, v' = .slice (some ⟨g, 0, none⟩) (xs.length + ys.length) cap /\ w.heap.size <= g /\ RowIs w' base e size C v' (xs ++ ys) := by
  intro v' w' k
  rcases k.2 with ⟨_, h0⟩ | ⟨g, cap, cur, rfl, hg, r1, r2, r3, r4, r5⟩
  ·omega
  ·refine ⟨g, cap, rfl, hg, ⟨?_⟩⟩
   rw [List.length_append, List.flatMap_append]
   exact ⟨k.1, .inr ⟨g, cap, cur, rfl, by omega, r1, r2, r3, r4, r5⟩⟩
 rcases hown.own.2 with ⟨rfl, h0⟩ | ⟨g, cap, cur, rfl, hbg, r1, r2, r3, r4, r5⟩
 ·have hx : xs = [] := List.eq_nil_of_length_eq_zero h0
  subst hx
  obtain ⟨v', w', hrun, k1, k2, _⟩ := run_append_own (P := P) w w.heap.size t ty e i z size bytes e1 hi hz hsz hby e3 e4 (.slice none 0 0) 0 [] (World.ownsRow_nil _ _ _ _) ad ys.length c (ys.flatMap C) hl hnews hone (by simpa using hm) (by simpa using hb) (Nat.le_refl _)
  obtain ⟨g, cap, rfl, hg, hr⟩ := fresh v' w' (by simpa using k1)
  exact ⟨g, cap, w', hrun, hr, k2, .inr ⟨g, rfl, hg⟩⟩
 ·by_cases hroom : xs.length + ys.length <= cap
  ·obtain ⟨w', hrun, k1, k2⟩ := run_append_fits (P := P) w base t ty e i size e1 hi hsz g xs.length cap (xs.flatMap C) hown.own ad ys.length c (ys.flatMap C) hl hnews hone hroom
   exact ⟨g, cap, w', hrun, ⟨by rw [List.length_append, List.flatMap_append]; exact k1⟩, k2, .inl rfl⟩
  ·obtain ⟨v', w', hrun, k1, k2⟩ := run_append_arg_grows (P := P) w t ty e i z size bytes e1 hi hz hsz hby e3 e4 ⟨g, 0, none⟩ xs.length cap (xs.flatMap C) hown.own.1 (hown.own.cells rfl) ad ys.length c (ys.flatMap C) hl hnews (by omega) hm hb
   obtain ⟨g', cap', rfl, hg, hr⟩ := fresh v' w' k1
   exact ⟨g', cap', w', hrun, hr, ⟨k2.os, k2.tape, k2.output, k2.size, fun k hk _ => k2.block k hk (by simp)⟩, .inr ⟨g', rfl, hg⟩⟩
theorem wp_apps {P : Program} {α : Type} {t e : TypeId} {size bytes : Nat} {z : Value} (hE : ElemOk P t e size bytes z) (C : α -> List Value) (hC : ∀ x, (C x).length = size) (h1 : ∀ x, ∀ u ∈ C x, u.oneCell' = true)
  {w : World} {o : Oper} {a : Act} {K : Act -> World -> Prop} {Q : Exit -> Act -> World -> Prop} (s x : Operand)
  (ho : o.op = .call { callee := .builtin .append, args := #[s, x], argTypes := #[t, t] }) (base : Nat) (v : Value) (xs : List α) (hs : a.eval s = v) (hown : RowIs w base e size C v xs)
  (ad : Addr) (c : Nat) (ys : List α) (hy : 1 <= ys.length) (hx : a.eval x = .slice (some ad) ys.length c) (hnews : ∀ j u, (ys.flatMap C)[j]? = some u -> w.cell? (ad.add j) = some u)
  (hb : (xs.length + ys.length) * bytes <= 140737488355328) (hbase : base <= w.heap.size)
  (h : ∀ g cap w', RowIs w' base e size C (.slice (some ⟨g, 0, none⟩) (xs.length + ys.length) cap) (xs ++ ys) -> w.grownBy w' v.ownBlock -> Nb w v.ownBlock (some g) ->
   K (a.put o.dst (.slice (some ⟨g, 0, none⟩) (xs.length + ys.length) cap)) w') : o.wp P a w K Q := by
 obtain ⟨g, cap, w', hr, k1, k2, k3⟩ := run_apps hE C hC h1 w o.type base v xs hown ad c ys hy hnews hb hbase
 unfold Oper.wp execOp
 simp only [ho, resolve, invoke, builtin, Sem.run_bind, Sem.run_pure, Result.andThen_ok, List.map_toArray, List.map_cons, List.map_nil, hs, hx, hr]
 exact h g cap w' k1 k2 k3
theorem one_flat {α : Type} (C : α -> List Value) (y : α) : [y].flatMap C = C y := by simp
theorem wpList_app {P : Program} {α : Type} {t e : TypeId} {size bytes : Nat} {z : Value} (hE : ElemOk P t e size bytes z) (C : α -> List Value) (hC : ∀ x, (C x).length = size) (h1 : ∀ x, ∀ u ∈ C x, u.oneCell' = true)
  (w : World) {ops : Array Oper} {rest : List Oper} {o : Oper} {a : Act} {Q : Exit -> Act -> World -> Prop} (hgd : o.guard = none) (s x : Operand)
  (ho : o.op = .call { callee := .builtin .append, args := #[s, x], argTypes := #[t, t] }) (base : Nat) (v : Value) (xs : List α) (hs : a.eval s = v) (hown : RowIs w base e size C v xs)
  (ad : Addr) (c : Nat) (y : α) (hx : a.eval x = .slice (some ad) 1 c) (hnews : ∀ j u, (C y)[j]? = some u -> w.cell? (ad.add j) = some u)
  (hb : (xs.length + 1) * bytes <= 140737488355328) (hbase : base <= w.heap.size)
  (h : ∀ g cap w', RowIs w' base e size C (.slice (some ⟨g, 0, none⟩) (xs.length + 1) cap) (xs ++ [y]) -> w.grownBy w' v.ownBlock -> Nb w v.ownBlock (some g) ->
   wpList P ops Q rest (a.put o.dst (.slice (some ⟨g, 0, none⟩) (xs.length + 1) cap)) w') : wpList P ops Q (o :: rest) a w :=
 wpList_plain hgd fun _ hK => wp_apps hE C hC h1 s x ho base v xs hs hown ad c [y] (Nat.le_refl _) hx (by rw [one_flat]; exact hnews) hb hbase fun g cap w' k1 k2 k3 => hK _ _ (h g cap w' k1 k2 k3)
theorem wpList_apps {P : Program} {α : Type} {t e : TypeId} {size bytes : Nat} {z : Value} (hE : ElemOk P t e size bytes z) (C : α -> List Value) (hC : ∀ x, (C x).length = size) (h1 : ∀ x, ∀ u ∈ C x, u.oneCell' = true)
  (w : World) {ops : Array Oper} {rest : List Oper} {o : Oper} {a : Act} {Q : Exit -> Act -> World -> Prop} (hgd : o.guard = none) (s x : Operand)
  (ho : o.op = .call { callee := .builtin .append, args := #[s, x], argTypes := #[t, t] }) (base : Nat) (v : Value) (xs : List α) (hs : a.eval s = v) (hown : RowIs w base e size C v xs)
  (ad : Addr) (c : Nat) (ys : List α) (hy : 1 <= ys.length) (hx : a.eval x = .slice (some ad) ys.length c) (hnews : ∀ j u, (ys.flatMap C)[j]? = some u -> w.cell? (ad.add j) = some u)
  (hb : (xs.length + ys.length) * bytes <= 140737488355328) (hbase : base <= w.heap.size)
  (h : ∀ g cap w', RowIs w' base e size C (.slice (some ⟨g, 0, none⟩) (xs.length + ys.length) cap) (xs ++ ys) -> w.grownBy w' v.ownBlock -> Nb w v.ownBlock (some g) ->
   wpList P ops Q rest (a.put o.dst (.slice (some ⟨g, 0, none⟩) (xs.length + ys.length) cap)) w') : wpList P ops Q (o :: rest) a w :=
 wpList_plain hgd fun _ hK => wp_apps hE C hC h1 s x ho base v xs hs hown ad c ys hy hx hnews hb hbase fun g cap w' k1 k2 k3 => hK _ _ (h g cap w' k1 k2 k3)
theorem wpList_app_none {P : Program} {α : Type} {t e : TypeId} {size bytes : Nat} {z : Value} (hE : ElemOk P t e size bytes z) (C : α -> List Value)
  (w : World) {ops : Array Oper} {rest : List Oper} {o : Oper} {a : Act} {Q : Exit -> Act -> World -> Prop} (hgd : o.guard = none) (s x : Operand)
  (ho : o.op = .call { callee := .builtin .append, args := #[s, x], argTypes := #[t, t] }) (base : Nat) (v : Value) (xs : List α) (hs : a.eval s = v) (hown : RowIs w base e size C v xs)
  (hx : a.eval x = .slice none 0 0) (h : wpList P ops Q rest (a.put o.dst v) w) : wpList P ops Q (o :: rest) a w := by
 obtain ⟨e1, e2, e3, e4, e5⟩ := hE
 obtain ⟨i, hi, hz, hsz, hby⟩ := info_parts e2
 refine wpList_plain hgd fun _ hK => ?_
 have hr := run_append_owned_none (P := P) w base t o.type e i size e1 hi v xs.length (xs.flatMap C) hown.own
 unfold Oper.wp execOp
 simp only [ho, resolve, invoke, builtin, Sem.run_bind, Sem.run_pure, Result.andThen_ok, List.map_toArray, List.map_cons, List.map_nil, hs, hx, hr]
 exact hK _ _ h
theorem step_app {P : Program} {α : Type} {t e : TypeId} {size bytes : Nat} {z : Value} (hE : ElemOk P t e size bytes z) (C : α -> List Value) (hC : ∀ x, (C x).length = size) (h1 : ∀ x, ∀ u ∈ C x, u.oneCell' = true)
  {w : World} {ops : Array Oper} {o : Oper} {a : Act} {K : Act -> World -> Prop} {Q : Exit -> Act -> World -> Prop} {E : Prop} (hgd : o.guard = none) (s x : Operand)
  (ho : o.op = .call { callee := .builtin .append, args := #[s, x], argTypes := #[t, t] }) (base : Nat) (v : Value) (xs : List α) (hs : a.eval s = v) (hown : RowIs w base e size C v xs)
  (ad : Addr) (c : Nat) (y : α) (hx : a.eval x = .slice (some ad) 1 c) (hnews : ∀ j u, (C y)[j]? = some u -> w.cell? (ad.add j) = some u)
  (hb : (xs.length + 1) * bytes <= 140737488355328) (hbase : base <= w.heap.size)
  (h : ∀ g cap w', RowIs w' base e size C (.slice (some ⟨g, 0, none⟩) (xs.length + 1) cap) (xs ++ [y]) -> w.grownBy w' v.ownBlock -> Nb w v.ownBlock (some g) ->
   K (a.put o.dst (.slice (some ⟨g, 0, none⟩) (xs.length + 1) cap)) w') : if Region.wanted o (yielded ops a.tmps) = true then Oper.wp P o a w K Q else E := by
 have hw : Region.wanted o (yielded ops a.tmps) = true := by simp [Region.wanted, hgd]
 rw [if_pos hw]
 exact wp_apps hE C hC h1 s x ho base v xs hs hown ad c [y] (Nat.le_refl _) hx (by rw [one_flat]; exact hnews) hb hbase h
theorem cell_one_at (w : World) (N : Nat) (hN : N = w.heap.size) (x : Value) (t : TypeId) : ∀ j v, [x][j]? = some v -> (w.alloc (.cells #[x] t)).cell? ((⟨N, 0, none⟩ : Addr).add j) = some v := by
 subst hN
 intro j v hj
 match j, hj with
 | 0, hj => simp at hj; subst hj; simp [Addr.add]
 | (j + 1), hj => simp at hj
theorem RowIs.nil {α : Type} (w : World) (base : Nat) (e : TypeId) (size : Nat) (C : α -> List Value) : RowIs w base e size C (.slice none 0 0) [] := ⟨World.ownsRow_nil _ _ _ _⟩
theorem RowIs.shape {α : Type} {w : World} {base : Nat} {e : TypeId} {size : Nat} {C : α -> List Value} {v : Value} {xs : List α} (h : RowIs w base e size C v xs) :
  (v = .slice none 0 0 /\ xs = []) \/ ∃ g cap, v = .slice (some ⟨g, 0, none⟩) xs.length cap /\ base <= g /\ g < w.heap.size /\ xs.length <= cap /\ cap <= maxLen := by
 rcases h.own.2 with ⟨h1, h2⟩ | ⟨g, cap, cur, h1, h2, h3, h4, h5, _⟩
 ·exact .inl ⟨h1, List.eq_nil_of_length_eq_zero h2⟩
 ·exact .inr ⟨g, cap, h1, h2, (Array.getElem?_eq_some_iff.1 h3).1, h4, h5⟩
theorem RowIs.lt {α : Type} {w : World} {base : Nat} {e : TypeId} {size : Nat} {C : α -> List Value} {v : Value} {xs : List α} (h : RowIs w base e size C v xs) : ∀ k, v.ownBlock = some k -> base <= k /\ k < w.heap.size := h.own.lt
theorem RowIs.below {α : Type} {w w' : World} {base : Nat} {e : TypeId} {size : Nat} {C : α -> List Value} {v : Value} {xs : List α} (h : RowIs w base e size C v xs) (hb : Below w.heap.size w w') : RowIs w' base e size C v xs :=
 ⟨h.own.kept (row := none) ⟨hb.os, hb.tape, hb.output, hb.size, fun k hk _ => hb.block k hk⟩ (by cases v.ownBlock <;> simp)⟩
theorem RowIs.alloc {α : Type} {w : World} {base : Nat} {e : TypeId} {size : Nat} {C : α -> List Value} {v : Value} {xs : List α} (h : RowIs w base e size C v xs) (o : Obj) : RowIs (w.alloc o) base e size C v xs := ⟨h.own.alloc o⟩
theorem RowIs.drewN {α : Type} {w : World} {base : Nat} {e : TypeId} {size : Nat} {C : α -> List Value} {v : Value} {xs : List α} (h : RowIs w base e size C v xs) (n : Nat) : RowIs (w.drewN n) base e size C v xs := ⟨h.own⟩
theorem RowIs.setCell {α : Type} {w : World} {base : Nat} {e : TypeId} {size : Nat} {C : α -> List Value} {v : Value} {xs : List α} (h : RowIs w base e size C v xs) (p : Addr) (u : Value) (hn : v.ownBlock ≠ some p.block) : RowIs (w.setCell p u) base e size C v xs :=
 ⟨h.own.kept (row := some p.block) ⟨rfl, rfl, rfl, by simp [World.setCell], fun k _ hk => Below.heap_setCell _ _ _ _ (fun e => hk (by rw [e]))⟩ (.inr hn)⟩
theorem RowIs.cells {α : Type} {w : World} {base : Nat} {e : TypeId} {size : Nat} {C : α -> List Value} (hC : ∀ x, (C x).length = size) {g n cap : Nat} {xs : List α} (h : RowIs w base e size C (.slice (some ⟨g, 0, none⟩) n cap) xs)
  (i : Nat) (x : α) (hx : xs[i]? = some x) (j : Nat) (u : Value) (hu : (C x)[j]? = some u) : w.cell? ⟨g, i * size + j, none⟩ = some u := by
 have key : ∀ (xs : List α) (i : Nat), xs[i]? = some x -> (xs.flatMap C)[i * size + j]? = some u := by
  intro xs
  induction xs with
  | nil => intro i hi; simp at hi
  | cons y ys ih =>
   intro i hi
   rw [List.flatMap_cons]
   cases i with
   | zero =>
    simp at hi; subst hi
    rw [Nat.zero_mul, Nat.zero_add, List.getElem?_append_left (by exact (List.getElem?_eq_some_iff.1 hu).1)]; exact hu
   | succ i =>
    simp at hi
    rw [List.getElem?_append_right (by rw [hC]; rw [Nat.add_mul]; omega), hC]
    have := ih i hi
    rwa [show (i + 1) * size + j - size = i * size + j by rw [Nat.add_mul]; omega]
 have := h.own.cells (g := g) rfl (i * size + j) u (key xs i hx)
 rwa [Addr.add_lit, Nat.zero_add] at this
theorem RowKit.Below.drewN {B : Nat} {a w : World} (h : Below B a w) (n : Nat) : Below B a (w.drewN n) := ⟨h.os, h.tape, h.output, h.size, h.block⟩
structure Kept (M : Nat -> Prop) (w w' : World) : Prop where
 os : w'.os = w.os
 tape : w'.tape = w.tape
 output : w'.output = w.output
 size : w.heap.size <= w'.heap.size
 block : ∀ k, k < w.heap.size -> ¬ M k -> w'.heap[k]? = w.heap[k]?
theorem Kept.refl (M : Nat -> Prop) (w : World) : Kept M w w := ⟨rfl, rfl, rfl, Nat.le_refl _, fun _ _ _ => rfl⟩
theorem Kept.trans {M M' : Nat -> Prop} {a b c : World} (h : Kept M a b) (k : Kept M' b c) (hm : ∀ i, i < a.heap.size -> M' i -> M i) : Kept M a c :=
 ⟨k.os.trans h.os, k.tape.trans h.tape, k.output.trans h.output, Nat.le_trans h.size k.size, fun i hi hn => (k.block i (Nat.lt_of_lt_of_le hi h.size) (fun x => hn (hm i hi x))).trans (h.block i hi hn)⟩
theorem Kept.mono {M M' : Nat -> Prop} {a b : World} (h : Kept M a b) (hm : ∀ i, i < a.heap.size -> M i -> M' i) : Kept M' a b :=
 ⟨h.os, h.tape, h.output, h.size, fun i hi hn => h.block i hi (fun x => hn (hm i hi x))⟩
theorem Kept.of_below {w w' : World} (h : Below w.heap.size w w') (M : Nat -> Prop) : Kept M w w' := ⟨h.os, h.tape, h.output, h.size, fun k hk _ => h.block k hk⟩
theorem Kept.below {w w' : World} {B : Nat} {M : Nat -> Prop} (h : Kept M w w') (hB : B <= w.heap.size) (hM : ∀ k, k < B -> ¬ M k) : Below B w w' := ⟨h.os, h.tape, h.output, h.size, fun k hk => h.block k (by omega) (hM k hk)⟩
theorem Kept.alloc {M : Nat -> Prop} {a w : World} (h : Kept M a w) (o : Obj) : Kept M a (w.alloc o) :=
 ⟨h.os, h.tape, h.output, by have := h.size; simp; omega, fun k hk hn => (Below.heap_alloc _ _ _ (by have := h.size; omega)).trans (h.block k hk hn)⟩
theorem Kept.drew {M : Nat -> Prop} {a w : World} (h : Kept M a w) : Kept M a w.drew := ⟨h.os, h.tape, h.output, h.size, h.block⟩
theorem Kept.drewN {M : Nat -> Prop} {a w : World} (h : Kept M a w) (n : Nat) : Kept M a (w.drewN n) := ⟨h.os, h.tape, h.output, h.size, h.block⟩
theorem Kept.setCell {M : Nat -> Prop} {a w : World} (h : Kept M a w) {p : Addr} (hp : a.heap.size <= p.block \/ M p.block) (u : Value) : Kept M a (w.setCell p u) := by
 refine ⟨h.os, h.tape, h.output, by have := h.size; simpa [World.setCell] using this, fun k hk hn => (Below.heap_setCell _ _ _ _ ?_).trans (h.block k hk hn)⟩
 rintro rfl
 rcases hp with hp | hp
 ·omega
 ·exact hn hp
theorem Kept.grown {M : Nat -> Prop} {a w w' : World} {row : Option Nat} (h : Kept M a w) (hg : w.grownBy w' row) (hr : ∀ k, row = some k -> a.heap.size <= k \/ M k) : Kept M a w' := by
 refine ⟨hg.os.trans h.os, hg.tape.trans h.tape, hg.output.trans h.output, Nat.le_trans h.size hg.size, fun k hk hn => (hg.block k (Nat.lt_of_lt_of_le hk h.size) ?_).trans (h.block k hk hn)⟩
 intro e
 rcases hr k e.symm with x | x
 ·omega
 ·exact hn x
theorem Kept.cell {M : Nat -> Prop} {w w' : World} (h : Kept M w w') {p : Addr} (hp : p.block < w.heap.size) (hn : ¬ M p.block) : w'.cell? p = w.cell? p := World.cell?_of_block (h.block p.block hp hn)
theorem Kept.frozen {M : Nat -> Prop} {w w' : World} (h : Kept M w w') {p : Addr} (hp : p.block < w.heap.size) (hn : ¬ M p.block) : w'.frozen? p = w.frozen? p := World.frozen?_of_block (h.block p.block hp hn)
theorem Kept.owns {M : Nat -> Prop} {w w' : World} (h : Kept M w w') {base : Nat} {e : TypeId} {size : Nat} {v : Value} {n : Nat} {xs : List Value} (ho : w.ownsRow base e size v n xs) (hn : ∀ k, v.ownBlock = some k -> ¬ M k) : w'.ownsRow base e size v n xs := by
 refine ⟨ho.1, ?_⟩
 rcases ho.2 with hnil | ⟨g, cap, cur, rfl, hb, hgg, rest⟩
 ·exact .inl hnil
 ·refine .inr ⟨g, cap, cur, rfl, hb, ?_, rest⟩
  rw [h.block g (Array.getElem?_eq_some_iff.1 hgg).1 (hn g rfl)]
  exact hgg
theorem RowIs.keptBy {α : Type} {M : Nat -> Prop} {w w' : World} {base : Nat} {e : TypeId} {size : Nat} {C : α -> List Value} {v : Value} {xs : List α} (h : RowIs w base e size C v xs) (hk : Kept M w w') (hn : ∀ k, v.ownBlock = some k -> ¬ M k) : RowIs w' base e size C v xs := ⟨hk.owns h.own hn⟩
theorem ownsRow_base {w : World} {base base' : Nat} {e : TypeId} {size : Nat} {v : Value} {n : Nat} {xs : List Value} (ho : w.ownsRow base e size v n xs) (hn : ∀ k, v.ownBlock = some k -> base' <= k) : w.ownsRow base' e size v n xs := by
 refine ⟨ho.1, ?_⟩
 rcases ho.2 with hnil | ⟨g, cap, cur, rfl, hb, rest⟩
 ·exact .inl hnil
 ·exact .inr ⟨g, cap, cur, rfl, hn g rfl, rest⟩
theorem RowIs.typed {α : Type} {w : World} {base : Nat} {e : TypeId} {size : Nat} {C : α -> List Value} {v : Value} {xs : List α} (h : RowIs w base e size C v xs) : ∀ k, v.ownBlock = some k -> ∃ cs, w.heap[k]? = some (.cells cs e (0, 0)) := by
 intro k hk
 rcases h.own.2 with ⟨rfl, _⟩ | ⟨g, cap, cur, rfl, _, h3, _⟩
 ·cases hk
 ·obtain rfl : g = k := Option.some.inj hk
  exact ⟨cur, h3⟩
theorem bl0 (B : Nat) (w : World) : Below B w w := Below.refl B w
theorem bl1 {B : Nat} {a w : World} (h : Below B a w) {p : Addr} (hp : B ≤ p.block) (u : Value) : Below B a (w.setCell p u) := h.setCell hp u
theorem bl2 {B : Nat} {a w : World} (h : Below B a w) : Below B a w.drew := h.drew
theorem bl3 {B : Nat} {a w : World} (h : Below B a w) (n : Nat) : Below B a (w.drewN n) := h.drewN n
theorem bl4 {B : Nat} {a w : World} (h : Below B a w) (hB : B ≤ w.heap.size) (o : Obj) : Below B a (w.alloc o) := h.alloc hB o
theorem kep0 (M : Nat → Prop) (w : World) : Kept M w w := Kept.refl M w
theorem kep1 {M : Nat → Prop} {a w : World} (h : Kept M a w) {p : Addr} (hp : a.heap.size ≤ p.block ∨ M p.block) (u : Value) : Kept M a (w.setCell p u) := h.setCell hp u
theorem kep2 {M : Nat → Prop} {a w : World} (h : Kept M a w) : Kept M a w.drew := h.drew
theorem kep3 {M : Nat → Prop} {a w : World} (h : Kept M a w) (n : Nat) : Kept M a (w.drewN n) := h.drewN n
theorem kep4 {M : Nat → Prop} {a w : World} (h : Kept M a w) (o : Obj) : Kept M a (w.alloc o) := h.alloc o
end Go
namespace Go.Proofs.YtbiojnljihgpoaaGreatDoor
open Go.RowKit
theorem ret_bool {a b : Bool} (h : a = b) : Ending.returned (.bool a) = .returned (.bool b) := by rw [h]
theorem ret_int {k : IntKind} {a b : Int} (h : a = b) : Ending.returned (.int k a) = .returned (.int k b) := by rw [h]
theorem ret_str {a b : ByteArray} (h : a = b) : Ending.returned (.string a) = .returned (.string b) := by rw [h]
theorem blk_cell {w : World} {b : Nat} {c : Array Value} {t : TypeId} (h : w.heap[b]? = some (.cells c t (0, 0))) (i : Nat) : w.cell? ⟨b, i, none⟩ = c[i]? := by
 simp [World.cell?, h]
theorem blk_frozen {w : World} {b : Nat} {c : Array Value} {t : TypeId} (h : w.heap[b]? = some (.cells c t (0, 0))) (i : Nat) : w.frozen? ⟨b, i, none⟩ = false := by
 simp [World.frozen?, h]
theorem blk_lt {w : World} {b : Nat} {o : Obj} (h : w.heap[b]? = some o) : b < w.heap.size := (Array.getElem?_eq_some_iff.1 h).1
theorem blk_set {w : World} {b : Nat} {c : Array Value} {t : TypeId} (h : w.heap[b]? = some (.cells c t (0, 0))) (i : Nat) (v : Value) : (w.setCell ⟨b, i, none⟩ v).heap[b]? = some (.cells (c.setIfInBounds i v) t (0, 0)) := by
 simp [World.setCell, Array.getElem?_modify, h]
theorem blk_alloc {w : World} {b : Nat} {o : Obj} (h : w.heap[b]? = some o) (x : Obj) : (w.alloc x).heap[b]? = some o := (Below.heap_alloc w x b (blk_lt h)).trans h
theorem blk_new (w : World) (x : Obj) : (w.alloc x).heap[w.heap.size]? = some x := heap_alloc_new w x
theorem blk_at (w : World) (x : Obj) (N : Nat) (h : N = w.heap.size) : (w.alloc x).heap[N]? = some x := by subst h; exact heap_alloc_new w x
def strCells (s : ByteArray) : List Value := [.string s]
def May (b : Nat) (nb : Option Nat) (k : Nat) : Prop := k = b \/ some k = nb
theorem errOf_no (t : Rf.Tok) (e : Int) (h : (t.k == 63) = false) : Rf.errOf t e = (e, t.at_) := by
 unfold Rf.errOf; rw [if_neg (beq_eq_false_iff_ne.1 h)]
theorem errOf_ne {t : Rf.Tok} {l : List Rf.Tok} {e : Int} (h : Rf.Ended (t :: l)) (he : e ≠ 0) : (Rf.errOf t e).1 ≠ 0 := by
 unfold Rf.errOf
 split
 ·exact h.bad ‹_›
 ·exact he
def New (w w' : World) (nb : Option Nat) (k : Nat) : Prop := w.heap.size <= k /\ k < w'.heap.size /\ nb ≠ some k
theorem strCells_len (s : ByteArray) : (strCells s).length = 1 := rfl
theorem strCells_one (s : ByteArray) : ∀ u ∈ strCells s, u.oneCell' = true := by intro u hu; simp [strCells] at hu; subst hu; rfl
theorem Tryz.elemStr : ElemOk Tryz.prog 29 9 1 16 (.string ⟨#[]⟩) := ⟨Tryz.underlying29, by kernel_rfl, rfl, by decide, by decide⟩
def Miss (t : Rf.Tok) (ns : List ByteArray) (j : Nat) : Prop := t.s = Rf.under \/ ns[j]? ≠ some t.s
theorem look_none {t : Rf.Tok} {ns : List ByteArray} (h : ∀ j, j < ns.length -> Miss t ns j) : Rf.lookS t.s ns = none := by
 unfold Rf.lookS
 split
 ·rfl
 ·rename_i hu
  rw [List.findIdx?_eq_none_iff]
  intro x hx
  obtain ⟨j, hj, rfl⟩ := List.getElem_of_mem hx
  rcases h j hj with h | h
  ·exact absurd h hu
  ·simp only [List.getElem?_eq_getElem hj] at h
   exact decide_eq_false (fun e => h (by rw [e]))
theorem look_some {t : Rf.Tok} {ns : List ByteArray} {k : Nat} (hu : t.s ≠ Rf.under) (hk : ns[k]? = some t.s) (h : ∀ j, j < k -> Miss t ns j) : Rf.lookS t.s ns = some k := by
 unfold Rf.lookS
 obtain ⟨hlt, e⟩ := List.getElem?_eq_some_iff.1 hk
 rw [if_neg hu, List.findIdx?_eq_some_iff_getElem]
 refine ⟨hlt, by rw [e]; exact decide_eq_true rfl, fun j hj => ?_⟩
 rcases h j hj with h | h
 ·exact absurd h hu
 ·simp only [List.getElem?_eq_getElem (show j < ns.length by omega)] at h
  simp only [Bool.not_eq_true]
  exact decide_eq_false (fun e => h (by rw [e]))
theorem Miss.step {t : Rf.Tok} {ns : List ByteArray} {k : Nat} (h : ∀ j, j < k -> Miss t ns j) (hk : Miss t ns k) : ∀ j, j < k + 1 -> Miss t ns j := by
 intro j hj
 rcases Nat.lt_or_ge j k with h1 | h1
 ·exact h j h1
 ·obtain rfl : j = k := by omega
  exact hk
theorem May.of {w : World} {b : Nat} {nb nb1 : Option Nat} (h : Nb w nb nb1) : ∀ k, k < w.heap.size -> May b nb1 k -> May b nb k := by
 intro k hk hm
 rcases hm with e | e
 ·exact .inl e
 ·rcases h with rfl | ⟨x, rfl, hx⟩
  ·exact .inr e
  ·have := Option.some.inj e; omega
def builtInC (n : Int) (a1 a2 a3 a4 a5 a6 : Bool) : Bool := (n == 0 && (a1 || a2)) || (n == 1 && a3) || (n == 2 && (a4 || a5)) || (n == 3 && a6)
theorem dec_str (s : ByteArray) (l : List UInt8) : decide (s = ⟨l.toArray⟩) = (s.toList == l) := by
 rw [<- beq_toList s ⟨l.toArray⟩]; simp [ByteArray.toList_eq]
theorem builtInB_eq (s : ByteArray) (n : Int) : Rf.builtInB s n = builtInC n (s.toList == [116, 114, 117, 101]) (s.toList == [102, 97, 105, 108]) (s.toList == [110, 111, 116]) (s.toList == [101, 113]) (s.toList == [108, 101, 115, 115]) (s.toList == [112, 108, 117, 115]) := by
 unfold Rf.builtInB builtInC
 simp only [<- dec_str]
theorem cell_two_at (w : World) (N : Nat) (hN : N = w.heap.size) (x y : Value) (t : TypeId) : ∀ j v, [x, y][j]? = some v -> (w.alloc (.cells #[x, y] t)).cell? ((⟨N, 0, none⟩ : Addr).add j) = some v := by
 subst hN
 intro j v hj
 match j, hj with
 | 0, hj => simp at hj; subst hj; simp [Addr.add]
 | 1, hj => simp at hj; subst hj; simp [Addr.add]
 | (j + 2), hj => simp at hj
theorem goalS_len {f : Nat} {l : List Rf.Tok} {ns : List ByteArray} {p : List Rf.Part} {l1 : List Rf.Tok} {ns1 : List ByteArray} (h : Rf.goalS f l ns = .ok (p, l1, ns1)) : l1.length < l.length := by
 cases l with
 | nil => cases h
 | cons t l =>
  simp only [Rf.goalS] at h
  split at h
  ·simp only [Except.ok.injEq, Prod.mk.injEq] at h; obtain ⟨_, rfl, _⟩ := h; simp
  ·cases hr : Rf.termS f (t :: l) ns with
   | error x => rw [hr] at h; cases h
   | ok x =>
    obtain ⟨p', l', ns'⟩ := x
    rw [hr] at h
    simp only at h
    split at h
    ·simp only [Except.ok.injEq, Prod.mk.injEq] at h; obtain ⟨_, rfl, _⟩ := h; exact Rf.termS_len f _ _ _ _ _ hr
    ·cases h
theorem May.none {b : Nat} {nb : Option Nat} : ∀ k, May b none k -> May b nb k := by
 intro k h
 rcases h with h | h
 ·exact .inl h
 ·cases h
theorem dotS_ok (c : List Rf.Part × List (List Rf.Part)) (u : Rf.Tok) (l : List Rf.Tok) (ns : List ByteArray) (h : (u.k != 46) = false) : Rf.dotS c (u :: l) ns = .ok (⟨c.1, c.2, ns.length⟩, l) := by
 simp only [Rf.dotS]; rw [if_pos (by simpa using h)]
theorem dotS_bad (c : List Rf.Part × List (List Rf.Part)) (u : Rf.Tok) (l : List Rf.Tok) (ns : List ByteArray) (h : (u.k != 46) = true) : Rf.dotS c (u :: l) ns = .error (Rf.errOf u 2) := by
 simp only [Rf.dotS]; rw [if_neg (by simpa using h)]
def Fb (w wr : World) (b : Nat) (nb : Option Nat) (k : Nat) : Prop := w.heap.size <= k /\ k < wr.heap.size /\ nb ≠ some k /\ k ≠ b
def Tab (w : World) : Prop := Lib.TabIs Tryz.prog w "internal/strconv.uint64pow10" .u64 Lib.pow10Tab
theorem Tab.below {w w' : World} (h : Tab w) (hb : Below w.heap.size w w') : Tab w' := Lib.tabBelow_of_tabIs h w' hb
theorem grow_below (w : World) (k : Nat) (os : Array Obj) : Below w.heap.size w (Sort.grow (w.drewN k) os) := Lib.below_grow _ w (Nat.le_refl _) k os
def GoodC (cl : Rf.Cl) : Prop := (∀ x ∈ cl.head, Rf.Good x) /\ cl.head.length <= 100000 /\ (∀ q ∈ cl.body, (∀ x ∈ q, Rf.Good x) /\ q.length <= 100000)
def accS (cls : List Rf.Cl) : Nat -> ByteArray
 | 0 => ⟨#[]⟩
 | k + 1 => accS cls k ++ (match cls[k]? with | some c => Rf.lineP c | none => ⟨#[]⟩)
def listingP (cls : List Rf.Cl) : ByteArray := accS cls cls.length
theorem line_size (c : Rf.Cl) (h : GoodC c) (h8 : c.body.length <= 8) : (Rf.lineP c).size <= 21000000 := by
 have h1 := Rf.txt_size c.head h.1
 have h2 := h.2.1
 have h3 := Rf.accL_size (Rf.txt c.head) c.body 2300000 (fun q hq => by
  have := Rf.txt_size q (h.2.2 q hq).1
  have := (h.2.2 q hq).2
  omega) c.body.length (Nat.le_refl _)
 have h4 : c.body.length * (2300000 + 2) <= 8 * (2300000 + 2) := Nat.mul_le_mul_right _ h8
 have h5 : (⟨#[46, 10]⟩ : ByteArray).size = 2 := rfl
 unfold Rf.lineP
 rw [ByteArray.size_append]
 omega
theorem accS_size (cls : List Rf.Cl) (h : ∀ c ∈ cls, (Rf.lineP c).size <= 21000000) : ∀ k, (accS cls k).size <= k * 21000000
 | 0 => by simp [accS, ByteArray.size]
 | k + 1 => by
  have ih := accS_size cls h k
  rw [accS, ByteArray.size_append]
  cases hc : cls[k]? with
  | none => simp only []; have h0 : (⟨#[]⟩ : ByteArray).size = 0 := rfl; omega
  | some c =>
   have := h c (List.mem_of_getElem? hc)
   simp only []
   omega
def consultP (cls : List Rf.Cl) (s : ByteArray) : (Int × Nat) × List Rf.Cl :=
 match Rf.readS s with
 | .error e => (e, cls)
 | .ok new => if 30 < cls.length + new.length then ((6, 0), cls) else ((0, 0), cls ++ new)
theorem notF {F : Nat -> Prop} {w w' : World} {y : Nat} (hy : ¬ F y) (hl : y < w.heap.size) : ¬ (F y \/ (w.heap.size <= y /\ y < w'.heap.size)) := by
 intro h
 rcases h with h | h
 ·exact hy h
 ·omega
end Go.Proofs.YtbiojnljihgpoaaGreatDoor
namespace Go
open Go.RowKit
structure Seen {α : Type} (w : World) (e : TypeId) (C : α -> List Value) (v : Value) (xs : List α) : Prop where
 ex : (v = .slice none 0 0 /\ xs = []) \/ ∃ (g off cap : Nat) (cur : Array Value), v = .slice (some ⟨g, off, none⟩) xs.length cap /\ w.heap[g]? = some (.cells cur e (0, 0)) /\ xs.length <= cap /\ cap <= maxLen /\ ∀ j u, (xs.flatMap C)[j]? = some u -> cur[off + j]? = some u
variable {α : Type} {w w' : World} {e : TypeId} {C : α -> List Value} {v : Value} {xs : List α}
theorem RowIs.seen {base size : Nat} (h : RowIs w base e size C v xs) : Seen w e C v xs := by
 obtain ⟨hl, h2⟩ := h.own
 rcases h2 with ⟨h2, h3⟩ | ⟨g, cap, cur, h1, h2, h3, h4, h5, h6, h7⟩
 ·exact ⟨.inl ⟨h2, List.eq_nil_of_length_eq_zero h3⟩⟩
 ·refine ⟨.inr ⟨g, 0, cap, cur, h1, h3, h4, h5, fun j u hu => ?_⟩⟩
  have hj : j < (xs.flatMap C).length := (List.getElem?_eq_some_iff.1 hu).1
  rw [<- h7, List.getElem?_take, if_pos (by omega)] at hu
  simpa using hu
theorem Seen.nil : Seen w e C (.slice none 0 0) ([] : List α) := ⟨.inl ⟨rfl, rfl⟩⟩
theorem Seen.shape (h : Seen w e C v xs) : (v = .slice none 0 0 /\ xs = []) \/ ∃ g off cap, v = .slice (some ⟨g, off, none⟩) xs.length cap /\ g < w.heap.size /\ xs.length <= cap /\ cap <= maxLen := by
 rcases h.ex with h | ⟨g, off, cap, cur, h1, h2, h3, h4, _⟩
 ·exact .inl h
 ·exact .inr ⟨g, off, cap, h1, (Array.getElem?_eq_some_iff.1 h2).1, h3, h4⟩
theorem Seen.slice (h : Seen w e C v xs) : ∃ a c, v = .slice a xs.length c := by
 rcases h.ex with ⟨rfl, rfl⟩ | ⟨g, off, cap, cur, h1, _⟩
 ·exact ⟨none, 0, rfl⟩
 ·exact ⟨_, _, h1⟩
theorem Seen.len {a : Option Addr} {n c : Nat} (h : Seen w e C (.slice a n c) xs) : n = xs.length := by
 obtain ⟨a', c', e'⟩ := h.slice
 injection e'
theorem Seen.cap {a : Option Addr} {n c : Nat} (h : Seen w e C (.slice a n c) xs) : xs.length <= c /\ c <= maxLen := by
 rcases h.shape with ⟨h1, rfl⟩ | ⟨g, off, cap, h1, _, h3, h4⟩
 ·injection h1 with _ _ h1; subst h1; simp
 ·injection h1 with _ _ h1; subst h1; exact ⟨h3, h4⟩
theorem Seen.pos {a : Option Addr} {n c : Nat} (h : Seen w e C (.slice a n c) xs) (hp : 1 <= xs.length) : ∃ g off, a = some ⟨g, off, none⟩ := by
 rcases h.shape with ⟨_, rfl⟩ | ⟨g, off, cap, h1, _⟩
 ·simp at hp
 ·injection h1 with h1; exact ⟨g, off, h1⟩
theorem Seen.lt {g off n c : Nat} (h : Seen w e C (.slice (some ⟨g, off, none⟩) n c) xs) : g < w.heap.size := by
 rcases h.shape with ⟨h1, _⟩ | ⟨g', off', cap, h1, h2, _⟩
 ·cases h1
 ·injection h1 with h1; injection h1 with h1; injection h1 with h1; rw [h1]; exact h2
theorem Seen.cellsAt {ad : Addr} {n c : Nat} (h : Seen w e C (.slice (some ad) n c) xs) : ∀ j u, (xs.flatMap C)[j]? = some u -> w.cell? (ad.add j) = some u := by
 rcases h.ex with ⟨h1, _⟩ | ⟨g, off, cap, cur, h1, h2, _, _, h5⟩
 ·cases h1
 ·obtain rfl : ad = ⟨g, off, none⟩ := by injection h1 with h1; injection h1
  intro j u hu
  rw [Addr.add_lit]
  simp only [World.cell?, h2]
  exact h5 j u hu
theorem flat_at {size : Nat} (hC : ∀ x, (C x).length = size) {x : α} {j : Nat} {u : Value} (hu : (C x)[j]? = some u) : ∀ (xs : List α) (i : Nat), xs[i]? = some x -> (xs.flatMap C)[i * size + j]? = some u := by
 intro xs
 induction xs with
 | nil => intro i hi; simp at hi
 | cons y ys ih =>
  intro i hi
  rw [List.flatMap_cons]
  cases i with
  | zero =>
   simp at hi; subst hi
   rw [Nat.zero_mul, Nat.zero_add, List.getElem?_append_left (by exact (List.getElem?_eq_some_iff.1 hu).1)]; exact hu
  | succ i =>
   simp at hi
   rw [List.getElem?_append_right (by rw [hC]; rw [Nat.add_mul]; omega), hC]
   have := ih i hi
   rwa [show (i + 1) * size + j - size = i * size + j by rw [Nat.add_mul]; omega]
theorem Seen.cells {size : Nat} (hC : ∀ x, (C x).length = size) {g off n cap : Nat} (h : Seen w e C (.slice (some ⟨g, off, none⟩) n cap) xs) (i : Nat) (x : α) (hx : xs[i]? = some x) (j : Nat) (u : Value) (hu : (C x)[j]? = some u) : w.cell? ⟨g, off + (i * size + j), none⟩ = some u := by
 have := h.cellsAt _ u (flat_at hC hu xs i hx)
 rwa [Addr.add_lit] at this
theorem Seen.drop {size : Nat} (hC : ∀ x, (C x).length = size) {g off n cap : Nat} (h : Seen w e C (.slice (some ⟨g, off, none⟩) n cap) xs) (k : Nat) (hk : k <= xs.length) : Seen w e C (.slice (some ⟨g, off + k * size, none⟩) (xs.length - k) (cap - k)) (xs.drop k) := by
 rcases h.ex with ⟨h1, _⟩ | ⟨g', off', cap', cur, h1, h2, h3, h4, h5⟩
 ·cases h1
 ·obtain ⟨rfl, rfl, rfl⟩ : g = g' /\ off = off' /\ cap = cap' := by injection h1 with h1 h6 h7; injection h1 with h1; injection h1 with a1 a2; exact ⟨a1, a2, h7⟩
  refine ⟨.inr ⟨g, off + k * size, cap - k, cur, by simp, h2, by simp; omega, by omega, fun j u hu => ?_⟩⟩
  rw [Nat.add_assoc]
  refine h5 _ _ ?_
  rw [<- List.take_append_drop k xs, List.flatMap_append]
  have hl := flatMap_len C hC (xs.take k)
  rw [List.length_take, Nat.min_eq_left hk] at hl
  rw [List.getElem?_append_right (by omega), hl]
  simpa using hu
theorem Seen.dropEnd {g off n cap : Nat} (h : Seen w e C (.slice (some ⟨g, off, none⟩) n cap) xs) (k : Nat) (hk : cap = k) : Seen w e C (.slice (some ⟨g, off, none⟩) (xs.length - k) 0) (xs.drop k) := by
 rcases h.ex with ⟨h1, _⟩ | ⟨g', off', cap', cur, h1, h2, h3, h4, h5⟩
 ·cases h1
 ·obtain ⟨rfl, rfl, rfl⟩ : g = g' /\ off = off' /\ cap = cap' := by injection h1 with h1 h6 h7; injection h1 with h1; injection h1 with a1 a2; exact ⟨a1, a2, h7⟩
  have hd : xs.drop k = [] := List.drop_of_length_le (by omega)
  rw [hd]
  refine ⟨.inr ⟨g, off, 0, cur, by simp; omega, h2, by simp, by omega, fun j u hu => by simp at hu⟩⟩
theorem Seen.take {g off n cap : Nat} (h : Seen w e C (.slice (some ⟨g, off, none⟩) n cap) xs) (k : Nat) (hk : k <= xs.length) : Seen w e C (.slice (some ⟨g, off, none⟩) k cap) (xs.take k) := by
 rcases h.ex with ⟨h1, _⟩ | ⟨g', off', cap', cur, h1, h2, h3, h4, h5⟩
 ·cases h1
 ·obtain ⟨rfl, rfl, rfl⟩ : g = g' /\ off = off' /\ cap = cap' := by injection h1 with h1 h6 h7; injection h1 with h1; injection h1 with a1 a2; exact ⟨a1, a2, h7⟩
  have hlk : (xs.take k).length = k := by rw [List.length_take]; omega
  refine ⟨.inr ⟨g, off, cap, cur, by rw [hlk], h2, by omega, h4, fun j u hu => h5 j u ?_⟩⟩
  have : ∃ ys, xs.flatMap C = (xs.take k).flatMap C ++ ys := ⟨(xs.drop k).flatMap C, by rw [<- List.flatMap_append, List.take_append_drop]⟩
  obtain ⟨ys, hys⟩ := this
  rw [hys, List.getElem?_append_left ((List.getElem?_eq_some_iff.1 hu).1)]
  exact hu
theorem Seen.kept {M : Nat -> Prop} (h : Seen w e C v xs) (hk : Kept M w w') (hn : ∀ k cs, w.heap[k]? = some (.cells cs e (0, 0)) -> ¬ M k) : Seen w' e C v xs := by
 rcases h.ex with h | ⟨g, off, cap, cur, h1, h2, h3⟩
 ·exact ⟨.inl h⟩
 ·refine ⟨.inr ⟨g, off, cap, cur, h1, ?_, h3⟩⟩
  rw [hk.block g (Array.getElem?_eq_some_iff.1 h2).1 (hn g cur h2)]
  exact h2
theorem Seen.below (h : Seen w e C v xs) (hb : Below w.heap.size w w') : Seen w' e C v xs := h.kept (Kept.of_below hb (fun _ => False)) (fun _ _ _ e => e)
theorem Seen.alloc (h : Seen w e C v xs) (o : Obj) : Seen (w.alloc o) e C v xs := h.below ((Below.refl _ w).alloc (Nat.le_refl _) o)
theorem Seen.drew (h : Seen w e C v xs) : Seen w.drew e C v xs := h.below (Below.refl _ w).drew
theorem Seen.grown {row : Option Nat} (h : Seen w e C v xs) (hg : w.grownBy w' row) (hn : ∀ k cs, w.heap[k]? = some (.cells cs e (0, 0)) -> row ≠ some k) : Seen w' e C v xs :=
 h.kept (M := fun k => row = some k) ⟨hg.os, hg.tape, hg.output, hg.size, fun k hk hr => hg.block k hk (fun e => hr e.symm)⟩ (fun k cs hc he => hn k cs hc he)
theorem Seen.setCell (h : Seen w e C v xs) (p : Addr) (u : Value) (hn : ∀ cs, w.heap[p.block]? ≠ some (.cells cs e (0, 0))) : Seen (w.setCell p u) e C v xs :=
 h.kept (M := fun k => k = p.block) (Kept.setCell (Kept.refl (fun k => k = p.block) w) (Or.inr rfl) u) (fun k cs hc he => by subst he; exact hn cs hc)
theorem run_appS {P : Program} {t e : TypeId} {size bytes : Nat} {z : Value} (hE : ElemOk P t e size bytes z) (C : α -> List Value) (hC : ∀ x, (C x).length = size) (h1 : ∀ x, ∀ u ∈ C x, u.oneCell' = true)
  (w : World) (ty : TypeId) (base : Nat) (v : Value) (xs : List α) (hown : RowIs w base e size C v xs) (u : Value) (ys : List α) (hy : Seen w e C u ys) (hb : (xs.length + ys.length) * bytes <= 140737488355328) (hbase : base <= w.heap.size) :
  ∃ v' w', (Builtin.append_ #[t, t] ty #[v, u]).run P w = .ok v' w' /\ RowIs w' base e size C v' (xs ++ ys) /\ w.grownBy w' v.ownBlock := by
 obtain ⟨e1, e2, e3, e4, e5⟩ := hE
 obtain ⟨i, hi, hz, hsz, hby⟩ := info_parts e2
 rcases hy.ex with ⟨rfl, rfl⟩ | ⟨g, off, cap, cur, rfl, h2, h3, h4, h5⟩
 ·refine ⟨v, w, run_append_owned_none (P := P) w base t ty e i size e1 hi v xs.length (xs.flatMap C) hown.own, by rw [List.append_nil]; exact hown, ⟨rfl, rfl, rfl, Nat.le_refl _, fun _ _ _ => rfl⟩⟩
 ·have hm : xs.length + ys.length <= maxLen := by
   have := Nat.le_mul_of_pos_right (xs.length + ys.length) e5
   unfold maxLen; omega
  have hone : ∀ u ∈ ys.flatMap C, u.oneCell' = true := by
   intro u hu
   obtain ⟨y, _, hu⟩ := List.mem_flatMap.1 hu
   exact h1 y u hu
  obtain ⟨v', w', hrun, k1, k2, _⟩ := run_append_own (P := P) w base t ty e i z size bytes e1 hi hz hsz hby e3 e4 v xs.length (xs.flatMap C) hown.own ⟨g, off, none⟩ ys.length cap (ys.flatMap C) (flatMap_len C hC ys) hy.cellsAt hone hm hb hbase
  exact ⟨v', w', hrun, ⟨by rw [List.length_append, List.flatMap_append]; exact k1⟩, k2⟩
theorem wpList_appS {P : Program} {t e : TypeId} {size bytes : Nat} {z : Value} (hE : ElemOk P t e size bytes z) (C : α -> List Value) (hC : ∀ x, (C x).length = size) (h1 : ∀ x, ∀ u ∈ C x, u.oneCell' = true)
  (w : World) {ops : Array Oper} {rest : List Oper} {o : Oper} {a : Act} {Q : Exit -> Act -> World -> Prop} (hgd : o.guard = none) (s x : Operand)
  (ho : o.op = .call { callee := .builtin .append, args := #[s, x], argTypes := #[t, t] }) (base : Nat) (v : Value) (xs : List α) (hs : a.eval s = v) (hown : RowIs w base e size C v xs) (u : Value) (ys : List α) (hx : a.eval x = u) (hy : Seen w e C u ys)
  (hb : (xs.length + ys.length) * bytes <= 140737488355328) (hbase : base <= w.heap.size)
  (h : ∀ v' w', RowIs w' base e size C v' (xs ++ ys) -> w.grownBy w' v.ownBlock -> wpList P ops Q rest (a.put o.dst v') w') : wpList P ops Q (o :: rest) a w := by
 refine wpList_plain hgd fun _ hK => ?_
 obtain ⟨v', w', hr, k1, k2⟩ := run_appS hE C hC h1 w o.type base v xs hown u ys hy hb hbase
 unfold Oper.wp execOp
 simp only [ho, resolve, invoke, builtin, Sem.run_bind, Sem.run_pure, Result.andThen_ok, List.map_toArray, List.map_cons, List.map_nil, hs, hx, hr]
 exact hK _ _ (h v' w' k1 k2)
end Go
namespace Go
open Go.RowKit
theorem step_call {P : Program} {ops : Array Oper} {o : Oper} {a : Act} {w : World} {K : Act -> World -> Prop} {Q : Exit -> Act -> World -> Prop} {E : Prop} {R : Ending -> World -> Prop}
  (hgd : o.guard = none) (f : FuncId) (args : Array Operand) (tys : Array TypeId) (ho : o.op = .call { callee := .value (.func f), args := args, argTypes := tys }) (vals : Array Value) (hv : args.map a.eval = vals)
  (hcf : (callFunc f vals).run P w = .ok (.enter f vals) w) (h : Calls P f vals w R) (hR : ∀ e w', R e w' -> ∃ v, e = .returned v /\ K (a.put o.dst v) w') : if Region.wanted o (yielded ops a.tmps) = true then Oper.wp P o a w K Q else E := by
 have hw : Region.wanted o (yielded ops a.tmps) = true := by simp [Region.wanted, hgd]
 rw [if_pos hw]
 unfold Oper.wp execOp
 simp [ho, resolve, invoke, hv, Act.eval, Deferred.ofValue, hcf]
 rw [Oper.upon_enter]
 refine h.mono ?_
 intro e w' he
 obtain ⟨v, rfl, hk⟩ := hR e w' he
 exact hk
theorem step_call1 {P : Program} {ops : Array Oper} {o : Oper} {a : Act} {w : World} {K : Act -> World -> Prop} {Q : Exit -> Act -> World -> Prop} {E : Prop} {R : Ending -> World -> Prop}
  (hgd : o.guard = none) (f : FuncId) (x1 : Operand) (tys : Array TypeId) (ho : o.op = .call { callee := .value (.func f), args := #[x1], argTypes := tys }) (v1 : Value) (h1 : a.eval x1 = v1)
  (hcf : ∀ vals, (callFunc f vals).run P w = .ok (.enter f vals) w) (h : Calls P f #[v1] w R) (hR : ∀ e w', R e w' -> ∃ v, e = .returned v /\ K (a.put o.dst v) w') : if Region.wanted o (yielded ops a.tmps) = true then Oper.wp P o a w K Q else E :=
 step_call hgd f _ tys ho #[v1] (by simp [h1]) (hcf _) h hR
theorem step_call2 {P : Program} {ops : Array Oper} {o : Oper} {a : Act} {w : World} {K : Act -> World -> Prop} {Q : Exit -> Act -> World -> Prop} {E : Prop} {R : Ending -> World -> Prop}
  (hgd : o.guard = none) (f : FuncId) (x1 x2 : Operand) (tys : Array TypeId) (ho : o.op = .call { callee := .value (.func f), args := #[x1, x2], argTypes := tys }) (v1 v2 : Value) (h1 : a.eval x1 = v1) (h2 : a.eval x2 = v2)
  (hcf : ∀ vals, (callFunc f vals).run P w = .ok (.enter f vals) w) (h : Calls P f #[v1, v2] w R) (hR : ∀ e w', R e w' -> ∃ v, e = .returned v /\ K (a.put o.dst v) w') : if Region.wanted o (yielded ops a.tmps) = true then Oper.wp P o a w K Q else E :=
 step_call hgd f _ tys ho #[v1, v2] (by simp [h1, h2]) (hcf _) h hR
theorem step_call3 {P : Program} {ops : Array Oper} {o : Oper} {a : Act} {w : World} {K : Act -> World -> Prop} {Q : Exit -> Act -> World -> Prop} {E : Prop} {R : Ending -> World -> Prop}
  (hgd : o.guard = none) (f : FuncId) (x1 x2 x3 : Operand) (tys : Array TypeId) (ho : o.op = .call { callee := .value (.func f), args := #[x1, x2, x3], argTypes := tys }) (v1 v2 v3 : Value) (h1 : a.eval x1 = v1) (h2 : a.eval x2 = v2) (h3 : a.eval x3 = v3)
  (hcf : ∀ vals, (callFunc f vals).run P w = .ok (.enter f vals) w) (h : Calls P f #[v1, v2, v3] w R) (hR : ∀ e w', R e w' -> ∃ v, e = .returned v /\ K (a.put o.dst v) w') : if Region.wanted o (yielded ops a.tmps) = true then Oper.wp P o a w K Q else E :=
 step_call hgd f _ tys ho #[v1, v2, v3] (by simp [h1, h2, h3]) (hcf _) h hR
end Go
