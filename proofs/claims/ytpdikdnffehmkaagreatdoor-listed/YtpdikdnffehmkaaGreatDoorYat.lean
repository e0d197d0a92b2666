/- Laws of our own over any program: rows that are only read; they may begin within their block. -/
import Derived.Test.YtpdikdnffehmkaaGreatDoorYao
import Derived.Test.YtpdikdnffehmkaaGreatDoorYas
import Derived.Test.YtpdikdnffehmkaaGreatDoorYaa
namespace Go
open Go.RowKit
/-- The slice v shows xs, each told by its cells: a row that is only read; its elements have type e. -/
structure Seen {α : Type} (w : World) (e : TypeId) (C : α → List Value) (v : Value) (xs : List α) : Prop where
  ex : (v = .slice none 0 0 ∧ xs = []) ∨ ∃ (g off cap : Nat) (cur : Array Value), v = .slice (some ⟨g, off, none⟩) xs.length cap ∧ w.heap[g]? = some (.cells cur e (0, 0)) ∧ xs.length ≤ cap ∧ cap ≤ maxLen ∧ ∀ j u, (xs.flatMap C)[j]? = some u → cur[off + j]? = some u
variable {α : Type} {w w' : World} {e : TypeId} {C : α → List Value} {v : Value} {xs : List α}
theorem RowIs.seen {base size : Nat} (h : RowIs w base e size C v xs) : Seen w e C v xs := by
  obtain ⟨hl, h2⟩ := h.own
  rcases h2 with ⟨h2, h3⟩ | ⟨g, cap, cur, h1, h2, h3, h4, h5, h6, h7⟩
  · exact ⟨.inl ⟨h2, List.eq_nil_of_length_eq_zero h3⟩⟩
  · refine ⟨.inr ⟨g, 0, cap, cur, h1, h3, h4, h5, fun j u hu => ?_⟩⟩
    have hj : j < (xs.flatMap C).length := (List.getElem?_eq_some_iff.1 hu).1
    rw [← h7, List.getElem?_take, if_pos (by omega)] at hu
    simpa using hu
theorem Seen.nil : Seen w e C (.slice none 0 0) ([] : List α) := ⟨.inl ⟨rfl, rfl⟩⟩
theorem Seen.shape (h : Seen w e C v xs) : (v = .slice none 0 0 ∧ xs = []) ∨ ∃ g off cap, v = .slice (some ⟨g, off, none⟩) xs.length cap ∧ g < w.heap.size ∧ xs.length ≤ cap ∧ cap ≤ maxLen := by
  rcases h.ex with h | ⟨g, off, cap, cur, h1, h2, h3, h4, _⟩
  · exact .inl h
  · exact .inr ⟨g, off, cap, h1, (Array.getElem?_eq_some_iff.1 h2).1, h3, h4⟩
theorem Seen.slice (h : Seen w e C v xs) : ∃ a c, v = .slice a xs.length c := by
  rcases h.ex with ⟨rfl, rfl⟩ | ⟨g, off, cap, cur, h1, _⟩
  · exact ⟨none, 0, rfl⟩
  · exact ⟨_, _, h1⟩
theorem Seen.len {a : Option Addr} {n c : Nat} (h : Seen w e C (.slice a n c) xs) : n = xs.length := by
  obtain ⟨a', c', e'⟩ := h.slice
  injection e'
theorem Seen.cap {a : Option Addr} {n c : Nat} (h : Seen w e C (.slice a n c) xs) : xs.length ≤ c ∧ c ≤ maxLen := by
  rcases h.shape with ⟨h1, rfl⟩ | ⟨g, off, cap, h1, _, h3, h4⟩
  · injection h1 with _ _ h1; subst h1; simp
  · injection h1 with _ _ h1; subst h1; exact ⟨h3, h4⟩
theorem Seen.pos {a : Option Addr} {n c : Nat} (h : Seen w e C (.slice a n c) xs) (hp : 1 ≤ xs.length) : ∃ g off, a = some ⟨g, off, none⟩ := by
  rcases h.shape with ⟨_, rfl⟩ | ⟨g, off, cap, h1, _⟩
  · simp at hp
  · injection h1 with h1; exact ⟨g, off, h1⟩
theorem Seen.lt {g off n c : Nat} (h : Seen w e C (.slice (some ⟨g, off, none⟩) n c) xs) : g < w.heap.size := by
  rcases h.shape with ⟨h1, _⟩ | ⟨g', off', cap, h1, h2, _⟩
  · cases h1
  · injection h1 with h1; injection h1 with h1; injection h1 with h1; rw [h1]; exact h2
/-- All cells of the row, by address. -/
theorem Seen.cellsAt {ad : Addr} {n c : Nat} (h : Seen w e C (.slice (some ad) n c) xs) : ∀ j u, (xs.flatMap C)[j]? = some u → w.cell? (ad.add j) = some u := by
  rcases h.ex with ⟨h1, _⟩ | ⟨g, off, cap, cur, h1, h2, _, _, h5⟩
  · cases h1
  · obtain rfl : ad = ⟨g, off, none⟩ := by injection h1 with h1; injection h1
    intro j u hu
    rw [Addr.add_lit]
    simp only [World.cell?, h2]
    exact h5 j u hu
theorem flat_at {size : Nat} (hC : ∀ x, (C x).length = size) {x : α} {j : Nat} {u : Value} (hu : (C x)[j]? = some u) : ∀ (xs : List α) (i : Nat), xs[i]? = some x → (xs.flatMap C)[i * size + j]? = some u := by
  intro xs
  induction xs with
  | nil => intro i hi; simp at hi
  | cons y ys ih =>
    intro i hi
    rw [List.flatMap_cons]
    cases i with
    | zero =>
      simp at hi; subst hi
      rw [Nat.zero_mul, Nat.zero_add, List.getElem?_append_left (by exact (List.getElem?_eq_some_iff.1 hu).1)]; exact hu
    | succ i =>
      simp at hi
      rw [List.getElem?_append_right (by rw [hC]; rw [Nat.add_mul]; omega), hC]
      have := ih i hi
      rwa [show (i + 1) * size + j - size = i * size + j by rw [Nat.add_mul]; omega]
theorem Seen.cells {size : Nat} (hC : ∀ x, (C x).length = size) {g off n cap : Nat} (h : Seen w e C (.slice (some ⟨g, off, none⟩) n cap) xs) (i : Nat) (x : α) (hx : xs[i]? = some x) (j : Nat) (u : Value) (hu : (C x)[j]? = some u) : w.cell? ⟨g, off + (i * size + j), none⟩ = some u := by
  have := h.cellsAt _ u (flat_at hC hu xs i hx)
  rwa [Addr.add_lit] at this
theorem Seen.drop {size : Nat} (hC : ∀ x, (C x).length = size) {g off n cap : Nat} (h : Seen w e C (.slice (some ⟨g, off, none⟩) n cap) xs) (k : Nat) (hk : k ≤ xs.length) : Seen w e C (.slice (some ⟨g, off + k * size, none⟩) (xs.length - k) (cap - k)) (xs.drop k) := by
  rcases h.ex with ⟨h1, _⟩ | ⟨g', off', cap', cur, h1, h2, h3, h4, h5⟩
  · cases h1
  · obtain ⟨rfl, rfl, rfl⟩ : g = g' ∧ off = off' ∧ cap = cap' := by injection h1 with h1 h6 h7; injection h1 with h1; injection h1 with a1 a2; exact ⟨a1, a2, h7⟩
    refine ⟨.inr ⟨g, off + k * size, cap - k, cur, by simp, h2, by simp; omega, by omega, fun j u hu => ?_⟩⟩
    rw [Nat.add_assoc]
    refine h5 _ _ ?_
    rw [← List.take_append_drop k xs, List.flatMap_append]
    have hl := flatMap_len C hC (xs.take k)
    rw [List.length_take, Nat.min_eq_left hk] at hl
    rw [List.getElem?_append_right (by omega), hl]
    simpa using hu
theorem Seen.dropEnd {g off n cap : Nat} (h : Seen w e C (.slice (some ⟨g, off, none⟩) n cap) xs) (k : Nat) (hk : cap = k) : Seen w e C (.slice (some ⟨g, off, none⟩) (xs.length - k) 0) (xs.drop k) := by
  rcases h.ex with ⟨h1, _⟩ | ⟨g', off', cap', cur, h1, h2, h3, h4, h5⟩
  · cases h1
  · obtain ⟨rfl, rfl, rfl⟩ : g = g' ∧ off = off' ∧ cap = cap' := by injection h1 with h1 h6 h7; injection h1 with h1; injection h1 with a1 a2; exact ⟨a1, a2, h7⟩
    have hd : xs.drop k = [] := List.drop_of_length_le (by omega)
    rw [hd]
    refine ⟨.inr ⟨g, off, 0, cur, by simp; omega, h2, by simp, by omega, fun j u hu => by simp at hu⟩⟩
theorem Seen.take {g off n cap : Nat} (h : Seen w e C (.slice (some ⟨g, off, none⟩) n cap) xs) (k : Nat) (hk : k ≤ xs.length) : Seen w e C (.slice (some ⟨g, off, none⟩) k cap) (xs.take k) := by
  rcases h.ex with ⟨h1, _⟩ | ⟨g', off', cap', cur, h1, h2, h3, h4, h5⟩
  · cases h1
  · obtain ⟨rfl, rfl, rfl⟩ : g = g' ∧ off = off' ∧ cap = cap' := by injection h1 with h1 h6 h7; injection h1 with h1; injection h1 with a1 a2; exact ⟨a1, a2, h7⟩
    have hlk : (xs.take k).length = k := by rw [List.length_take]; omega
    refine ⟨.inr ⟨g, off, cap, cur, by rw [hlk], h2, by omega, h4, fun j u hu => h5 j u ?_⟩⟩
    have : ∃ ys, xs.flatMap C = (xs.take k).flatMap C ++ ys := ⟨(xs.drop k).flatMap C, by rw [← List.flatMap_append, List.take_append_drop]⟩
    obtain ⟨ys, hys⟩ := this
    rw [hys, List.getElem?_append_left ((List.getElem?_eq_some_iff.1 hu).1)]
    exact hu
theorem Seen.kept {M : Nat → Prop} (h : Seen w e C v xs) (hk : Kept M w w') (hn : ∀ k cs, w.heap[k]? = some (.cells cs e (0, 0)) → ¬ M k) : Seen w' e C v xs := by
  rcases h.ex with h | ⟨g, off, cap, cur, h1, h2, h3⟩
  · exact ⟨.inl h⟩
  · refine ⟨.inr ⟨g, off, cap, cur, h1, ?_, h3⟩⟩
    rw [hk.block g (Array.getElem?_eq_some_iff.1 h2).1 (hn g cur h2)]
    exact h2
theorem Seen.below (h : Seen w e C v xs) (hb : Below w.heap.size w w') : Seen w' e C v xs := h.kept (Kept.of_below hb (fun _ => False)) (fun _ _ _ e => e)
theorem Seen.alloc (h : Seen w e C v xs) (o : Obj) : Seen (w.alloc o) e C v xs := h.below ((Below.refl _ w).alloc (Nat.le_refl _) o)
theorem Seen.drew (h : Seen w e C v xs) : Seen w.drew e C v xs := h.below (Below.refl _ w).drew
theorem Seen.grown {row : Option Nat} (h : Seen w e C v xs) (hg : w.grownBy w' row) (hn : ∀ k cs, w.heap[k]? = some (.cells cs e (0, 0)) → row ≠ some k) : Seen w' e C v xs :=
  h.kept (M := fun k => row = some k) ⟨hg.os, hg.tape, hg.output, hg.size, fun k hk hr => hg.block k hk (fun e => hr e.symm)⟩ (fun k cs hc he => hn k cs hc he)
theorem Seen.setCell (h : Seen w e C v xs) (p : Addr) (u : Value) (hn : ∀ cs, w.heap[p.block]? ≠ some (.cells cs e (0, 0))) : Seen (w.setCell p u) e C v xs :=
  h.kept (M := fun k => k = p.block) (Kept.setCell (Kept.refl (fun k => k = p.block) w) (Or.inr rfl) u) (fun k cs hc he => by subst he; exact hn cs hc)
/-- Append of a row that is seen (it may be empty) to one that is owned. -/
theorem run_appS {P : Program} {t e : TypeId} {size bytes : Nat} {z : Value} (hE : ElemOk P t e size bytes z) (C : α → List Value) (hC : ∀ x, (C x).length = size) (h1 : ∀ x, ∀ u ∈ C x, u.oneCell' = true)
    (w : World) (ty : TypeId) (base : Nat) (v : Value) (xs : List α) (hown : RowIs w base e size C v xs) (u : Value) (ys : List α) (hy : Seen w e C u ys) (hb : (xs.length + ys.length) * bytes ≤ 140737488355328) (hbase : base ≤ w.heap.size) :
    ∃ v' w', (Builtin.append_ #[t, t] ty #[v, u]).run P w = .ok v' w' ∧ RowIs w' base e size C v' (xs ++ ys) ∧ w.grownBy w' v.ownBlock := by
  obtain ⟨e1, e2, e3, e4, e5⟩ := hE
  obtain ⟨i, hi, hz, hsz, hby⟩ := info_parts e2
  rcases hy.ex with ⟨rfl, rfl⟩ | ⟨g, off, cap, cur, rfl, h2, h3, h4, h5⟩
  · refine ⟨v, w, run_append_owned_none (P := P) w base t ty e i size e1 hi v xs.length (xs.flatMap C) hown.own, by rw [List.append_nil]; exact hown, ⟨rfl, rfl, rfl, Nat.le_refl _, fun _ _ _ => rfl⟩⟩
  · have hm : xs.length + ys.length ≤ maxLen := by
      have := Nat.le_mul_of_pos_right (xs.length + ys.length) e5
      unfold maxLen; omega
    have hone : ∀ u ∈ ys.flatMap C, u.oneCell' = true := by
      intro u hu
      obtain ⟨y, _, hu⟩ := List.mem_flatMap.1 hu
      exact h1 y u hu
    obtain ⟨v', w', hrun, k1, k2, _⟩ := run_append_own (P := P) w base t ty e i z size bytes e1 hi hz hsz hby e3 e4 v xs.length (xs.flatMap C) hown.own ⟨g, off, none⟩ ys.length cap (ys.flatMap C) (flatMap_len C hC ys) hy.cellsAt hone hm hb hbase
    exact ⟨v', w', hrun, ⟨by rw [List.length_append, List.flatMap_append]; exact k1⟩, k2⟩
theorem wpList_appS {P : Program} {t e : TypeId} {size bytes : Nat} {z : Value} (hE : ElemOk P t e size bytes z) (C : α → List Value) (hC : ∀ x, (C x).length = size) (h1 : ∀ x, ∀ u ∈ C x, u.oneCell' = true)
    (w : World) {ops : Array Oper} {rest : List Oper} {o : Oper} {a : Act} {Q : Exit → Act → World → Prop} (hgd : o.guard = none) (s x : Operand)
    (ho : o.op = .call { callee := .builtin .append, args := #[s, x], argTypes := #[t, t] }) (base : Nat) (v : Value) (xs : List α) (hs : a.eval s = v) (hown : RowIs w base e size C v xs) (u : Value) (ys : List α) (hx : a.eval x = u) (hy : Seen w e C u ys)
    (hb : (xs.length + ys.length) * bytes ≤ 140737488355328) (hbase : base ≤ w.heap.size)
    (h : ∀ v' w', RowIs w' base e size C v' (xs ++ ys) → w.grownBy w' v.ownBlock → wpList P ops Q rest (a.put o.dst v') w') : wpList P ops Q (o :: rest) a w := by
  refine wpList_plain hgd fun _ hK => ?_
  obtain ⟨v', w', hr, k1, k2⟩ := run_appS hE C hC h1 w o.type base v xs hown u ys hy hb hbase
  unfold Oper.wp execOp
  simp only [ho, resolve, invoke, builtin, Sem.run_bind, Sem.run_pure, Result.andThen_ok, List.map_toArray, List.map_cons, List.map_nil, hs, hx, hr]
  exact hK _ _ (h v' w' k1 k2)
end Go
/- The program's terms by their blocks; what it asks of a head (term: BuiltIn), and what its reader does at a goal (read: goal). -/
namespace Rf
theorem kindOf_9 {k : Int} (h : (k == 33) = false) : (kindOf k == 9) = false := by
  rw [beq_eq_false_iff_ne] at *
  unfold kindOf; repeat' split
  all_goals omega
theorem termS_name {f : Nat} {t : Tok} {l : List Tok} {ns : List ByteArray} {p : List Part} {l1 : List Tok} {ns1 : List ByteArray} (h118 : t.k ≠ 118) (h110 : t.k ≠ 110) (h : termS f (t :: l) ns = .ok (p, l1, ns1)) : ∃ x q, p = x :: q ∧ x.kind = 3 := by
  cases f with
  | zero => simp [termS] at h
  | succ f =>
    rw [termS, if_neg h118, if_neg h110] at h
    split at h
    · cases l with
      | nil => cases h
      | cons u l' =>
        simp only [nameS] at h
        split at h
        · cases ha : argsS (termS f) 4 [] l' ns with
          | error x => rw [ha] at h; cases h
          | ok x =>
            rw [ha] at h
            simp only [Except.ok.injEq, Prod.mk.injEq] at h
            obtain ⟨rfl, _⟩ := h
            exact ⟨_, _, rfl, rfl⟩
        · simp only [Except.ok.injEq, Prod.mk.injEq] at h; obtain ⟨rfl, _⟩ := h; exact ⟨_, _, rfl, rfl⟩
    · cases h
/-- A goal that begins with no variable and no number is read as a term. -/
theorem goalS_term {f : Nat} {t : Tok} {l : List Tok} {ns : List ByteArray} (h33 : t.k ≠ 33) (h118 : t.k ≠ 118) (h110 : t.k ≠ 110) : goalS f (t :: l) ns = termS f (t :: l) ns := by
  simp only [goalS]
  rw [if_neg h33]
  cases hr : termS f (t :: l) ns with
  | error e => rfl
  | ok x =>
    obtain ⟨p, l1, ns1⟩ := x
    obtain ⟨y, q, rfl, hy⟩ := termS_name h118 h110 hr
    simp only []
    rw [if_pos (by simp [hy])]
end Rf
namespace Go.Proofs.YtpdikdnffehmkaaGreatDoor
open Go.RowKit
/-- v is a term's row of parts; its block is one of F's. -/
def PT (F : Nat → Prop) (w : World) (v : Value) (ps : List Rf.Part) : Prop := RowIs w 0 117 4 partCells v ps ∧ ∀ k, v.ownBlock = some k → F k
theorem PT.keptBy {F F' M : Nat → Prop} {w w' : World} {v : Value} {ps : List Rf.Part} (h : PT F w v ps) (hk : Kept M w w') (hF : ∀ k, k < w.heap.size → F k → ¬ M k ∧ F' k) : PT F' w' v ps :=
  ⟨h.1.keptBy hk (fun k e => (hF k (h.1.lt k e).2 (h.2 k e)).1), fun k e => (hF k (h.1.lt k e).2 (h.2 k e)).2⟩
theorem PTerm.pt {w w' : World} {g n c : Nat} {nb : Option Nat} {ps : List Rf.Part} (h : PTerm w' w.heap.size (.slice (some ⟨g, 0, none⟩) n c) ps) (hn : nb ≠ some g) : PT (New w w' nb) w' (.slice (some ⟨g, 0, none⟩) n c) ps := by
  have := h.lt
  exact ⟨⟨ownsRow_base h.own (fun _ _ => Nat.zero_le _)⟩, fun k e => by cases e; exact ⟨this.1, this.2, hn⟩⟩
set_option maxHeartbeats 400000 in
theorem ptop_any (g off n c : Nat) (p : Rf.Part) (rest : List Rf.Part) (w : World) (h : Seen w 117 partCells (.slice (some ⟨g, off, none⟩) n c) (p :: rest)) :
    Calls Tryz.prog 121 #[.slice (some ⟨g, off, none⟩) n c] w fun r w' => r = .returned (.agg #[.int .i64 p.kind, .string p.name, .int .i64 p.value, .int .i64 p.args]) ∧ Below w.heap.size w w' := by
  have x0 := h.cells partCells_len 0 p rfl 0 _ rfl
  have x1 := h.cells partCells_len 0 p rfl 1 _ rfl
  have x2 := h.cells partCells_len 0 p rfl 2 _ rfl
  have x3 := h.cells partCells_len 0 p rfl 3 _ rfl
  simp only [Nat.zero_mul, Nat.zero_add, Nat.add_zero] at x0 x1 x2 x3
  have hn : 1 ≤ n := by rw [h.len]; simp
  have hgl := h.lt
  clear h
  go_enter Tryz.func121, Tryz.ntmps121
  go_wp2
  refine bodyPost_ret (v := .agg #[.int .i64 p.kind, .string p.name, .int .i64 p.value, .int .i64 p.args]) (by simp [results, Tryz.results121, go_sem, *]) rfl ?_
  exact ⟨rfl, (by repeat (first | exact Below.refl _ _ | refine Below.setCell ?_ (by simp <;> omega) _ | refine Below.drew ?_ | refine Below.drewN ?_ _ | refine Below.alloc ?_ (by simp <;> omega) _))⟩
set_option maxHeartbeats 1000000 in
theorem pbuiltIn_any (g off n c : Nat) (p : Rf.Part) (rest : List Rf.Part) (w : World) (h : Seen w 117 partCells (.slice (some ⟨g, off, none⟩) n c) (p :: rest)) (h3 : p.kind = 3) :
    Calls Tryz.prog 122 #[.slice (some ⟨g, off, none⟩) n c] w fun r w' => r = .returned (.bool (Rf.builtInB p.name p.args)) ∧ Below w.heap.size w w' := by
  have hB : Hid _ := builtInB_eq p.name p.args
  have H : Hid _ := h
  have H3 : Hid _ := h3
  clear h h3
  rcases (show p.args = 0 ∨ p.args = 1 ∨ p.args = 2 ∨ p.args = 3 ∨ ((p.args == 0) = false ∧ (p.args == 1) = false ∧ (p.args == 2) = false ∧ (p.args == 3) = false) by
    generalize p.args = a
    by_cases h0 : a = 0
    · exact .inl h0
    · by_cases h1 : a = 1
      · exact .inr (.inl h1)
      · by_cases h2 : a = 2
        · exact .inr (.inr (.inl h2))
        · by_cases h3 : a = 3
          · exact .inr (.inr (.inr (.inl h3)))
          · exact .inr (.inr (.inr (.inr ⟨beq_eq_false_iff_ne.2 h0, beq_eq_false_iff_ne.2 h1, beq_eq_false_iff_ne.2 h2, beq_eq_false_iff_ne.2 h3⟩)))) with ea | ea | ea | ea | ⟨a0, a1, a2, a3⟩
  all_goals
    go_enter Tryz.func122, Tryz.ntmps122
    go_wp2_with (go_at_call 121; refine (ptop_any g off n c p rest _ (Seen.below H.out (by repeat (first | exact Below.refl _ _ | refine Below.setCell ?_ (by simp <;> omega) _ | refine Below.drew ?_ | refine Below.drewN ?_ _ | refine Below.alloc ?_ (by simp <;> omega) _)))).mono ?_; rintro r w1 ⟨rfl, hb1⟩; have h3 := H3.out; have hs1 := hb1.size)
  all_goals
    go_ret
    refine ⟨ret_bool ?_, hb1.alloc hs1 _⟩
    rw [hB.out]
    clear hB
  all_goals
    unfold builtInC
    first | (simp [*]; done) | (simp; done) | (simp [*]; omega)
end Go.Proofs.YtpdikdnffehmkaaGreatDoor
/- What the program's reader does at a goal and at a head (read: goal, head). -/
namespace Go.Proofs.YtpdikdnffehmkaaGreatDoor
open Go.RowKit
set_option maxHeartbeats 1000000 in
set_option maxRecDepth 100000 in
theorem pgoal_any (f : Nat) (r : Nat) (text : ByteArray) (nb : Option Nat) (l0 : List Rf.Tok) (ns : List ByteArray) (w : World) (h : Pr w r text nb l0 ns) (hl0 : l0.length ≤ f) :
    Calls Tryz.prog 85 #[.pointer (some ⟨r, 0, none⟩)] w fun x w' => PTermPost w r text nb (Rf.goalS f l0 ns) x w' := by
  obtain ⟨t, l, rfl⟩ : ∃ t l, l0 = t :: l := by
    cases l0 with
    | nil => exact absurd rfl h.ended.ne
    | cons t l => exact ⟨t, l, rfl⟩
  obtain ⟨f', rfl⟩ : ∃ f', f = f' + 1 := ⟨f - 1, by simp at hl0; omega⟩
  have H : Hid _ := h
  obtain ⟨hrl, hnl, hnr⟩ := h.lt
  obtain ⟨q1, ⟨_, q0⟩, ql⟩ := h.kind
  clear h
  cases c33 : (t.k == 33)
  · cases c118 : (t.k == 118)
    · cases c110 : (t.k == 110)
      · have hS : Hid (Rf.goalS (f' + 1) (t :: l) ns = Rf.termS (f' + 1) (t :: l) ns) := Rf.goalS_term (beq_eq_false_iff_ne.1 c33) (beq_eq_false_iff_ne.1 c118) (beq_eq_false_iff_ne.1 c110)
        have k9 := Rf.kindOf_9 c33
        have k3 := Rf.kindOf_is3 c118
        have k4 := Rf.kindOf_is4 c110
        go_enter Tryz.func85, Tryz.ntmps85
        go_wp2_with (go_at_call 118; refine (pterm_any (f' + 1) r text nb (t :: l) ns _ H.out hl0).mono ?_; intro x w2 hP; obtain ⟨a, n, c, b, rfl⟩ := hP.tuple)
        refine bodyPost_ret (v := .tuple #[.slice a n c, .bool b]) (by simp [results, Tryz.results85, go_sem]) rfl ?_
        rw [hS.out]
        exact hP
      · have e110 : t.k = 110 := eq_of_beq c110
        have hS : Hid (Rf.goalS (f' + 1) (t :: l) ns = .error (5, t.at_)) := by
          unfold Hid; simp only [Rf.goalS]; rw [if_neg (by omega), Rf.termS, if_neg (by omega), if_pos e110]; rfl
        have HX : Hid (Rf.errOf t 5 = (5, t.at_)) := errOf_no t 5 (by rw [e110]; decide)
        have hq : Rf.kindOf t.k = 4 := by rw [e110]; rfl
        rw [hq] at q1
        clear e110 hq c110 c118 c33
        go_enter Tryz.func85, Tryz.ntmps85
        go_wp2_with (go_at_call 86; refine (refuse_any _ r text nb t l ns 5 H.out (by decide)).mono ?_; rintro e w7 ⟨rfl, hE7, hK7⟩; rw [HX.out] at hE7)
        refine bodyPost_ret (v := .tuple #[.slice none 0 0, .bool false]) (by simp [results, Tryz.results85, go_sem]) rfl ?_
        rw [hS.out]
        exact ⟨hK7.mono (fun _ _ e => Or.inl e), rfl, hE7⟩
    · have e118 : t.k = 118 := eq_of_beq c118
      have hS : Hid (Rf.goalS (f' + 1) (t :: l) ns = match Rf.varS t ns with | .error e => .error e | .ok _ => .error (5, t.at_)) := by
        unfold Hid; simp only [Rf.goalS]; rw [if_neg (by omega), Rf.termS, if_pos e118]; unfold Rf.varT
        cases Rf.varS t ns <;> rfl
      have HX : Hid (Rf.errOf t 5 = (5, t.at_)) := errOf_no t 5 (by rw [e118]; decide)
      have hq : Rf.kindOf t.k = 3 := by rw [e118]; rfl
      rw [hq] at q1
      have H118 : Hid _ := e118
      clear e118 hq c118 c33
      cases hv : Rf.varS t ns with
      | error x =>
        obtain ⟨e, q⟩ := x
        have HV : Hid _ := hv
        clear hv
        go_enter Tryz.func85, Tryz.ntmps85
        go_wp2_with (go_at_call 117; refine (which_any _ r text nb t l ns H.out H118.out).mono ?_; rintro x w1 ⟨hK1, hm⟩; rw [HV.out] at hm; obtain ⟨rfl, hE1⟩ := hm)
        refine bodyPost_ret (v := .tuple #[.slice none 0 0, .bool false]) (by simp [results, Tryz.results85, go_sem]) rfl ?_
        rw [hS.out, HV.out]
        exact ⟨hK1, rfl, hE1⟩
      | ok x =>
        obtain ⟨i, ns'⟩ := x
        have HV : Hid _ := hv
        clear hv
        go_enter Tryz.func85, Tryz.ntmps85
        go_wp2_with (first
          | (go_at_call 117; refine (which_any _ r text nb t l ns H.out H118.out).mono ?_; rintro x w1 ⟨hK1, hm⟩; rw [HV.out] at hm; obtain ⟨rfl, hi16, nb1, hP1, hNb1⟩ := hm)
          | (go_at_call 86; refine (refuse_any _ r text nb1 t l ns' 5 hP1 (by decide)).mono ?_; rintro e w7 ⟨rfl, hE7, hK7⟩; rw [HX.out] at hE7))
        refine bodyPost_ret (v := .tuple #[.slice none 0 0, .bool false]) (by simp [results, Tryz.results85, go_sem]) rfl ?_
        rw [hS.out, HV.out]
        exact ⟨hK1.trans hK7 (fun _ _ e => Or.inl e), rfl, hE7⟩
  · have e33 : t.k = 33 := eq_of_beq c33
    have H0 : Hid (t.k ≠ 0) := by unfold Hid; omega
    have H63 : Hid (t.k ≠ 63) := by unfold Hid; omega
    have hS : Hid (Rf.goalS (f' + 1) (t :: l) ns = .ok ([⟨4, ⟨#[]⟩, 0, 0⟩], l, ns)) := by unfold Hid; simp only [Rf.goalS]; rw [if_pos e33]
    have hq : Rf.kindOf t.k = 9 := by rw [e33]; rfl
    rw [hq] at q1
    clear e33 hq c33
    go_enter Tryz.func85, Tryz.ntmps85
    go_wp2_with (go_at_call 58; refine (step_any _ r text nb t l ns H.out H0.out H63.out).mono ?_; rintro e w2 ⟨rfl, hP2, hK2⟩)
    refine bodyPost_ret (v := .tuple #[.slice (some ⟨w2.heap.size, 0, none⟩) 1 1, .bool true]) (by simp [results, Tryz.results85, go_sem]) rfl ?_
    rw [hS.out]
    have hs2 := hK2.size
    exact ⟨(hK2.mono (fun _ _ e => Or.inl e)).alloc _, _, _, _, nb, rfl, hP2.alloc _, .inl rfl, row_new (blk_new _ _) rfl rfl (by omega), fun e => by have := hnl _ e; omega⟩
end Go.Proofs.YtpdikdnffehmkaaGreatDoor
/- What the program's reader does at a clause's head (read: head). -/
namespace Rf
def headS (f : Nat) (l : List Tok) : Except (Int × Nat) (List Part × List Tok × List ByteArray) :=
  match l with
  | [] => .error (2, 0)
  | t :: _ => match termS f l [] with
    | .error e => .error e
    | .ok (p, l1, ns1) => if headB p = true then .ok (p, l1, ns1) else .error (4, t.at_)
theorem headS_var {f : Nat} {t : Tok} {l : List Tok} (h : t.k = 118) : headS (f + 1) (t :: l) = .error (4, t.at_) := by
  simp only [headS]
  rw [termS, if_pos h]
  unfold varT varS lookS
  have : (if t.s = under then none else List.findIdx? (fun n => decide (n = t.s)) ([] : List ByteArray)) = none := by split <;> rfl
  rw [this]
  rfl
theorem headS_num {f : Nat} {t : Tok} {l : List Tok} (h : t.k = 110) : headS (f + 1) (t :: l) = .error (4, t.at_) := by
  simp only [headS]
  rw [termS, if_neg (by omega), if_pos h]
  rfl
end Rf
namespace Go.Proofs.YtpdikdnffehmkaaGreatDoor
open Go.RowKit
set_option maxHeartbeats 1000000 in
set_option maxRecDepth 100000 in
theorem phead_any (f : Nat) (r : Nat) (text : ByteArray) (nb : Option Nat) (l0 : List Rf.Tok) (w : World) (h : Pr w r text nb l0 []) (hl0 : l0.length ≤ f) :
    Calls Tryz.prog 92 #[.pointer (some ⟨r, 0, none⟩)] w fun x w' => PTermPost w r text nb (Rf.headS f l0) x w' := by
  obtain ⟨t, l, rfl⟩ : ∃ t l, l0 = t :: l := by
    cases l0 with
    | nil => exact absurd rfl h.ended.ne
    | cons t l => exact ⟨t, l, rfl⟩
  obtain ⟨f', rfl⟩ : ∃ f', f = f' + 1 := ⟨f - 1, by simp at hl0; omega⟩
  have H : Hid _ := h
  obtain ⟨hrl, hnl, hnr⟩ := h.lt
  obtain ⟨K, fr, to, C, vN, hB, ht, _⟩ := h.toks
  obtain ⟨q0, q1, q2, q3, q4, q5, q6, q7, qf, ql⟩ := hB.facts
  rw [ht.1] at q1
  rw [ht.2.1] at q2
  clear h hB ht
  cases c118 : (t.k == 118)
  · cases c110 : (t.k == 110)
    · have k3 := Rf.kindOf_is3 c118
      have k4 := Rf.kindOf_is4 c110
      cases hr : Rf.termS (f' + 1) (t :: l) [] with
      | error x =>
        obtain ⟨e, q⟩ := x
        have hS : Hid (Rf.headS (f' + 1) (t :: l) = .error (e, q)) := by unfold Hid; simp only [Rf.headS]; rw [hr]
        have HR : Hid _ := hr
        clear hr
        go_enter Tryz.func92, Tryz.ntmps92
        go_wp2_with (go_at_call 118; refine (pterm_any (f' + 1) r text nb (t :: l) [] _ (H.out.alloc _) hl0).mono ?_; rintro x w2 ⟨hK2, hm⟩; rw [HR.out] at hm; obtain ⟨rfl, hE2⟩ := hm)
        refine bodyPost_ret (v := .tuple #[.slice none 0 0, .bool false]) (by simp [results, Tryz.results92, go_sem]) rfl ?_
        rw [hS.out]
        exact ⟨((Kept.refl (May r nb) w).alloc _).trans hK2 (fun _ _ e => e), rfl, hE2⟩
      | ok x =>
        obtain ⟨p, l1, ns1⟩ := x
        obtain ⟨y, q, rfl, hy⟩ := Rf.termS_name (beq_eq_false_iff_ne.1 c118) (beq_eq_false_iff_ne.1 c110) hr
        have Hy : Hid _ := hy
        cases hb : Rf.builtInB y.name y.args
        · have hS : Hid (Rf.headS (f' + 1) (t :: l) = .ok (y :: q, l1, ns1)) := by unfold Hid; simp only [Rf.headS]; rw [hr]; simp only []; rw [if_pos (by simp [Rf.headB, hb, hy])]
          have HR : Hid _ := hr
          clear hr hy
          go_enter Tryz.func92, Tryz.ntmps92
          go_wp2_with (first
            | (go_at_call 118; refine (pterm_any (f' + 1) r text nb (t :: l) [] _ (H.out.alloc _) hl0).mono ?_; rintro x w2 ⟨hK2, hm⟩; rw [HR.out] at hm; obtain ⟨g, n, c, nb2, rfl, hP2, hNb2, hT2, hng2⟩ := hm; have hrow0 : RowIs w2 0 117 4 partCells (.slice (some ⟨g, 0, none⟩) n c) (y :: q) := ⟨ownsRow_base hT2.own (fun _ _ => Nat.zero_le _)⟩)
            | (go_at_call 122; refine (pbuiltIn_any g 0 n c y q _ hrow0.seen Hy.out).mono ?_; rintro x w3 ⟨rfl, hb3⟩; have hP3 := hP2.below hb3; have hK3 := hK2.trans (Kept.of_below hb3 (fun _ => False)) (fun _ _ e => e.elim)))
          refine bodyPost_ret (v := .tuple #[.slice (some ⟨g, 0, none⟩) n c, .bool true]) (by simp [results, Tryz.results92, go_sem]) rfl ?_
          rw [hS.out]
          have hs2 := hK2.size
          simp at hs2
          exact ⟨((Kept.refl (May r nb) w).alloc _).trans hK3 (fun _ _ e => e), _, _, _, nb2, rfl, hP3, Nb.trans (.inl rfl) hNb2 (by simp), ⟨ownsRow_base (RowIs.below hT2 hb3).own (fun k e => by have := (RowIs.lt hT2 k e).1; simp at this; omega)⟩, hng2⟩
        · have hS : Hid (Rf.headS (f' + 1) (t :: l) = .error (4, t.at_)) := by unfold Hid; simp only [Rf.headS]; rw [hr]; simp only []; rw [if_neg (by simp [Rf.headB, hb])]
          have HR : Hid _ := hr
          clear hr hy
          go_enter Tryz.func92, Tryz.ntmps92
          go_wp2_with (first
            | (go_at_call 118; refine (pterm_any (f' + 1) r text nb (t :: l) [] _ (H.out.alloc _) hl0).mono ?_; rintro x w2 ⟨hK2, hm⟩; rw [HR.out] at hm; obtain ⟨g, n, c, nb2, rfl, hP2, hNb2, hT2, hng2⟩ := hm; have hrow0 : RowIs w2 0 117 4 partCells (.slice (some ⟨g, 0, none⟩) n c) (y :: q) := ⟨ownsRow_base hT2.own (fun _ _ => Nat.zero_le _)⟩)
            | (go_at_call 122; refine (pbuiltIn_any g 0 n c y q _ hrow0.seen Hy.out).mono ?_; rintro x w3 ⟨rfl, hb3⟩; have hP3 := hP2.below hb3; have hK3 := hK2.trans (Kept.of_below hb3 (fun _ => False)) (fun _ _ e => e.elim); obtain ⟨t9, l9, K9, f9, to9, C9, a9, c9, _, hB9, _⟩ := hP3.shape; obtain ⟨z0, z1, z2, z3, z4, z5, z6, z7, zf, zl⟩ := hB9.facts; have hN9 := (hK3.block w.heap.size (by simp) (fun e => by rcases e with e | e; omega; have := hnl _ e.symm; omega)).trans (blk_new _ _); have n1 : w3.cell? ⟨w.heap.size, 1, none⟩ = some (.int .i64 t.at_) := blk_cell hN9 1; have hrN : ¬ r = w.heap.size := (by omega); have hNr : ¬ w.heap.size = r := (by omega)))
          refine bodyPost_ret (v := .tuple #[.slice none 0 0, .bool false]) (by simp [results, Tryz.results92, go_sem]) rfl ?_
          rw [hS.out]
          exact ⟨((((Kept.refl (May r nb) w).alloc _).trans hK3 (fun _ _ e => e)).setCell (p := ⟨r, 6, none⟩) (.inr (.inl rfl)) _).setCell (p := ⟨r, 7, none⟩) (.inr (.inl rfl)) _, rfl, ⟨_, _, _, _, _, _, _, _, blk_set (blk_set hB9 6 _) 7 _, by decide⟩⟩
    · have e110 : t.k = 110 := eq_of_beq c110
      have hS : Hid _ := Rf.headS_num (f := f') (l := l) e110
      have HX : Hid (Rf.errOf t 4 = (4, t.at_)) := errOf_no t 4 (by rw [e110]; decide)
      have hq : Rf.kindOf t.k = 4 := by rw [e110]; rfl
      rw [hq] at q1
      clear e110 hq
      go_enter Tryz.func92, Tryz.ntmps92
      go_wp2_with (go_at_call 86; refine (refuse_any _ r text nb t l [] 4 (H.out.alloc _) (by decide)).mono ?_; rintro e w7 ⟨rfl, hE7, hK7⟩; rw [HX.out] at hE7)
      refine bodyPost_ret (v := .tuple #[.slice none 0 0, .bool false]) (by simp [results, Tryz.results92, go_sem]) rfl ?_
      rw [hS.out]
      exact ⟨((Kept.refl (May r nb) w).alloc _).trans hK7 (fun _ _ e => Or.inl e), rfl, hE7⟩
  · have e118 : t.k = 118 := eq_of_beq c118
    have hS : Hid _ := Rf.headS_var (f := f') (l := l) e118
    have HX : Hid (Rf.errOf t 4 = (4, t.at_)) := errOf_no t 4 (by rw [e118]; decide)
    have hq : Rf.kindOf t.k = 3 := by rw [e118]; rfl
    rw [hq] at q1
    clear e118 hq
    go_enter Tryz.func92, Tryz.ntmps92
    go_wp2_with (go_at_call 86; refine (refuse_any _ r text nb t l [] 4 (H.out.alloc _) (by decide)).mono ?_; rintro e w7 ⟨rfl, hE7, hK7⟩; rw [HX.out] at hE7)
    refine bodyPost_ret (v := .tuple #[.slice none 0 0, .bool false]) (by simp [results, Tryz.results92, go_sem]) rfl ?_
    rw [hS.out]
    exact ⟨((Kept.refl (May r nb) w).alloc _).trans hK7 (fun _ _ e => Or.inl e), rfl, hE7⟩
end Go.Proofs.YtpdikdnffehmkaaGreatDoor
