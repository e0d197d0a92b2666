/- The program's terms (term.Term) in memory: rows of parts; what reading one leaves. -/
import Derived.Test.YtpdikdnffehmkaaDoorYaj
import Derived.Test.YtpdikdnffehmkaaDoorYai
import Derived.Test.YtpdikdnffehmkaaDoorYaa
namespace Go
open Go.RowKit
/-- One cell of a row's first element turned. -/
theorem row_setHead {α : Type} {w : World} {base : Nat} {e : TypeId} {size : Nat} {C : α → List Value} {g n cap : Nat} {x x' : α} {xs : List α} (h : RowIs w base e size C (.slice (some ⟨g, 0, none⟩) n cap) (x :: xs)) (j : Nat) (u : Value) (hj : j < (C x).length) (hx : C x' = (C x).set j u) :
    RowIs (w.setCell ⟨g, j, none⟩ u) base e size C (.slice (some ⟨g, 0, none⟩) n cap) (x' :: xs) := by
  obtain ⟨hl, h2⟩ := h.own
  rcases h2 with ⟨h2, _⟩ | ⟨g', cap', cur, e1, h3, h4, h5, h6, h7, h8⟩
  · cases h2
  · obtain ⟨rfl, rfl, rfl⟩ : g = g' ∧ n = (x :: xs).length ∧ cap = cap' := by injection e1 with a1 a2 a3; injection a1 with a1; injection a1 with a1; exact ⟨a1, a2, a3⟩
    refine ⟨?_, .inr ⟨g, cap, cur.setIfInBounds j u, rfl, h3, ?_, h5, h6, by simpa using h7, ?_⟩⟩
    · rw [List.flatMap_cons, List.length_append, hx, List.length_set]
      rw [List.flatMap_cons, List.length_append] at hl
      simpa using hl
    · simp [World.setCell, Array.getElem?_modify, h4]
    · rw [Array.toList_setIfInBounds, List.take_set]
      have hlen : ((x' :: xs).length) = (x :: xs).length := rfl
      rw [hlen, h8, List.flatMap_cons, List.flatMap_cons, List.set_append_left _ _ hj, hx]
/-- A row of one element that was just laid. -/
theorem row_new {α : Type} {w : World} {base : Nat} {e : TypeId} {size : Nat} {C : α → List Value} {x : α} {cs : Array Value} {N : Nat} (hN : w.heap[N]? = some (.cells cs e (0, 0))) (hcs : cs.toList = C x) (hs : (C x).length = size) (hb : base ≤ N) : RowIs w base e size C (.slice (some ⟨N, 0, none⟩) 1 1) [x] := by
  refine ⟨by simp [hs], .inr ⟨N, 1, cs, rfl, hb, hN, by simp, by unfold maxLen; omega, ?_, ?_⟩⟩
  · rw [← Array.length_toList, hcs, hs]; omega
  · rw [hcs, one_flat, List.take_of_length_le (by rw [hs]; simp)]
theorem row_frozen {α : Type} {w : World} {base : Nat} {e : TypeId} {size : Nat} {C : α → List Value} {g n cap : Nat} {xs : List α} (h : RowIs w base e size C (.slice (some ⟨g, 0, none⟩) n cap) xs) (i : Nat) : w.frozen? ⟨g, i, none⟩ = false := by
  obtain ⟨hl, h2⟩ := h.own
  rcases h2 with ⟨h2, _⟩ | ⟨g', cap', cur, e1, h3, h4, h5, h6, h7, h8⟩
  · cases h2
  · obtain rfl : g = g' := by injection e1 with a1 a2 a3; injection a1 with a1; injection a1
    simp [World.frozen?, h4]
theorem row_len {α : Type} {w : World} {base : Nat} {e : TypeId} {size : Nat} {C : α → List Value} {a : Option Addr} {n cap : Nat} {xs : List α} (h : RowIs w base e size C (.slice a n cap) xs) : n = xs.length := by
  rcases h.shape with ⟨h', rfl⟩ | ⟨g, c, h', _⟩
  · injection h'
  · injection h'
theorem wpList_appsN {P : Program} {α : Type} {t e : TypeId} {size bytes : Nat} {z : Value} (hE : ElemOk P t e size bytes z) (C : α → List Value) (hC : ∀ x, (C x).length = size) (h1 : ∀ x, ∀ u ∈ C x, u.oneCell' = true)
    (w : World) {ops : Array Oper} {rest : List Oper} {o : Oper} {a : Act} {Q : Exit → Act → World → Prop} (hgd : o.guard = none) (s x : Operand)
    (ho : o.op = .call { callee := .builtin .append, args := #[s, x], argTypes := #[t, t] }) (base : Nat) (v : Value) (xs : List α) (hs : a.eval s = v) (hown : RowIs w base e size C v xs)
    (g2 n2 c2 : Nat) (ys : List α) (hy : 1 ≤ ys.length) (hx : a.eval x = .slice (some ⟨g2, 0, none⟩) n2 c2) {base2 : Nat} (hys : RowIs w base2 e size C (.slice (some ⟨g2, 0, none⟩) n2 c2) ys)
    (hb : (xs.length + ys.length) * bytes ≤ 140737488355328) (hbase : base ≤ w.heap.size)
    (h : ∀ g n cap w', Hid (n = xs.length + ys.length) → 1 ≤ n → RowIs w' base e size C (.slice (some ⟨g, 0, none⟩) n cap) (xs ++ ys) → w.grownBy w' v.ownBlock → Nb w v.ownBlock (some g) →
      wpList P ops Q rest (a.put o.dst (.slice (some ⟨g, 0, none⟩) n cap)) w') : wpList P ops Q (o :: rest) a w := by
  obtain rfl := row_len hys
  exact wpList_apps hE C hC h1 w hgd s x ho base v xs hs hown ⟨g2, 0, none⟩ c2 ys hy hx (hys.own.cells rfl) hb hbase (fun g cap w' k1 k2 k3 => h g _ cap w' rfl (by omega) k1 k2 k3)
end Go
namespace Rf
theorem termS_pos : ∀ {f : Nat} {l : List Tok} {ns : List ByteArray} {p : List Part} {l1 : List Tok} {ns1 : List ByteArray}, termS f l ns = .ok (p, l1, ns1) → 1 ≤ p.length
  | 0, _, _, _, _, _, e => by simp [termS] at e
  | _ + 1, [], _, _, _, _, e => by simp [termS] at e
  | f + 1, t :: l, ns, p, l1, ns1, e => by
    rw [termS] at e
    split at e
    · unfold varT at e
      split at e
      · cases e
      · simp only [Except.ok.injEq, Prod.mk.injEq] at e; obtain ⟨rfl, _⟩ := e; simp
    · split at e
      · simp only [Except.ok.injEq, Prod.mk.injEq] at e; obtain ⟨rfl, _⟩ := e; simp
      · split at e
        · cases l with
          | nil => cases e
          | cons u l' =>
            simp only [nameS] at e
            split at e
            · cases ha : argsS (termS f) 4 [] l' ns with
              | error x => rw [ha] at e; cases e
              | ok x =>
                rw [ha] at e
                simp only [Except.ok.injEq, Prod.mk.injEq] at e
                obtain ⟨rfl, _⟩ := e
                simp
            · simp only [Except.ok.injEq, Prod.mk.injEq] at e; obtain ⟨rfl, _⟩ := e; simp
        · cases e
theorem kindOf_6 {k : Int} : (kindOf k == 6) = true → k = 41 := by
  unfold kindOf; repeat' split
  all_goals (intro h; first | omega | (simp at h))
theorem kindOf_n6 {k : Int} : (kindOf k == 6) = false → k ≠ 41 := by rintro h rfl; exact absurd h (by decide)
theorem kindOf_7 {k : Int} : (kindOf k != 7) = false → k = 44 := by
  unfold kindOf; repeat' split
  all_goals (intro h; first | omega | (simp at h))
theorem kindOf_n7 {k : Int} : (kindOf k != 7) = true → k ≠ 44 := by rintro h rfl; exact absurd h (by decide)
end Rf
namespace Go.Proofs.YtpdikdnffehmkaaDoor
open Go.RowKit
theorem Pr.len {w : World} {r : Nat} {text : ByteArray} {nb : Option Nat} {l : List Rf.Tok} {ns : List ByteArray} (h : Pr w r text nb l ns) : l.length ≤ 402 := by
  cases l with
  | nil => simp
  | cons t l =>
    obtain ⟨K, f, to, C, vN, hB, ht, hr, he, hs, hrow, hnb, hr', h16⟩ := h.toks
    cases l with
    | nil => simp
    | cons u l =>
      obtain ⟨⟨e, _⟩, _⟩ := hr he.1.1.1 he.1.1.2
      have := Rf.toks_len text (text.size - (t.at_ + t.s.size)) (t.at_ + t.s.size)
      rw [e]
      unfold Rf.rest
      simp
      omega
theorem Pr.n16 {w : World} {r : Nat} {text : ByteArray} {nb : Option Nat} {l : List Rf.Tok} {ns : List ByteArray} (h : Pr w r text nb l ns) : ns.length ≤ 16 := by
  obtain ⟨K, f, to, C, vN, hB, hat, he, hs, hrow, hnb, hr', h16⟩ := h.ex
  exact h16
def partCells (p : Rf.Part) : List Value := [.int .i64 p.kind, .string p.name, .int .i64 p.value, .int .i64 p.args]
theorem partCells_len (s : Rf.Part) : (partCells s).length = 4 := rfl
theorem partCells_one (s : Rf.Part) : ∀ u ∈ partCells s, u.oneCell' = true := by
  intro u hu
  simp only [partCells, List.mem_cons, List.not_mem_nil, or_false] at hu
  rcases hu with rfl | rfl | rfl | rfl <;> rfl
theorem Tryd.elemPart : ElemOk Tryd.prog 67 65 4 40 (.agg #[.int .i64 0, .string ⟨#[]⟩, .int .i64 0, .int .i64 0]) := ⟨Tryd.underlying67, by kernel_rfl, rfl, by decide, by decide⟩
/-- v is a term's row of parts, from block base on. -/
def PTerm (w : World) (base : Nat) (v : Value) (ps : List Rf.Part) : Prop := RowIs w base 65 4 partCells v ps
def PTermPost (w : World) (r : Nat) (text : ByteArray) (nb : Option Nat) (res : Except (Int × Nat) (List Rf.Part × List Rf.Tok × List ByteArray)) (x : Ending) (w' : World) : Prop :=
  Kept (May r nb) w w' ∧
  (match res with
   | .ok (ps, l', ns') => ∃ (g n c : Nat) (nb' : Option Nat), x = .returned (.tuple #[.slice (some ⟨g, 0, none⟩) n c, .bool true]) ∧ Pr w' r text nb' l' ns' ∧ Nb w nb nb' ∧ PTerm w' w.heap.size (.slice (some ⟨g, 0, none⟩) n c) ps ∧ nb' ≠ some g
   | .error (e, q) => x = .returned (.tuple #[.slice none 0 0, .bool false]) ∧ PrE w' r e q)
def PTermIH (f : Nat) : Prop := ∀ (r : Nat) (text : ByteArray) (nb : Option Nat) (l : List Rf.Tok) (ns : List ByteArray) (w : World), Pr w r text nb l ns → l.length ≤ f →
  Calls Tryd.prog 55 #[.pointer (some ⟨r, 0, none⟩)] w fun x w' => PTermPost w r text nb (Rf.termS f l ns) x w'
end Go.Proofs.YtpdikdnffehmkaaDoor
/- What the program's reader does at a name (read: named). -/
namespace Go.Proofs.YtpdikdnffehmkaaDoor
open Go.RowKit
/-- The kind of the token at hand. -/
theorem Pr.kind {w : World} {r : Nat} {text : ByteArray} {nb : Option Nat} {t : Rf.Tok} {l : List Rf.Tok} {ns : List ByteArray} (h : Pr w r text nb (t :: l) ns) : w.cell? ⟨r, 1, none⟩ = some (.int .i64 (Rf.kindOf t.k)) ∧ (∃ s, w.cell? ⟨r, 0, none⟩ = some (.string s)) ∧ r < w.heap.size := by
  obtain ⟨K, f, to, C, vN, hB, ht, _⟩ := h.toks
  obtain ⟨q0, q1, q2, q3, q4, q5, q6, q7, qf, ql⟩ := hB.facts
  rw [← ht.1]
  exact ⟨q1, ⟨_, q0⟩, ql⟩
set_option maxHeartbeats 1000000 in
set_option maxRecDepth 100000 in
theorem named_name (r : Nat) (text : ByteArray) (nb : Option Nat) (t u : Rf.Tok) (l : List Rf.Tok) (ns : List ByteArray) (w : World) (h : Pr w r text nb (t :: u :: l) ns) (hk : t.k = 97) (hu : (Rf.kindOf u.k != 5) = true) :
    Calls Tryd.prog 71 #[.pointer (some ⟨r, 0, none⟩)] w fun x w' => PTermPost w r text nb (.ok ([⟨3, t.s, 0, 0⟩], u :: l, ns)) x w' := by
  have H0 : Hid (t.k ≠ 0) := by unfold Hid; omega
  have H63 : Hid (t.k ≠ 63) := by unfold Hid; omega
  have H : Hid _ := h
  clear h hk
  go_enter Tryd.func71, Tryd.ntmps71
  go_wp2_with (first
    | (go_at_call 69; refine (word_any _ r text nb t (u :: l) ns H.out H0.out H63.out).mono ?_; rintro e w1 ⟨rfl, hb1⟩)
    | (go_at_call 20; refine (step_any _ r text nb t (u :: l) ns ((H.out.below hb1).alloc _) H0.out H63.out).mono ?_; rintro e w2 ⟨rfl, hP2, hK2⟩; obtain ⟨q1, ⟨_, q0⟩, ql⟩ := hP2.kind))
  refine bodyPost_ret (v := .tuple #[.slice (some ⟨w1.heap.size, 0, none⟩) 1 1, .bool true]) (by simp [results, Tryd.results71, go_sem]) rfl ?_
  obtain ⟨hrl, hnl, hnr⟩ := H.out.lt
  have hs1 := hb1.size
  have hN : w2.heap[w1.heap.size]? = some (.cells #[.int .i64 3, .string t.s, .int .i64 0, .int .i64 0] 65 (0, 0)) := (hK2.block w1.heap.size (by simp) (fun e => by omega)).trans (blk_new _ _)
  exact ⟨((Kept.of_below hb1 (May r nb)).alloc _).trans hK2 (fun _ _ e => Or.inl e), _, _, _, nb, rfl, hP2, .inl rfl, row_new hN rfl rfl (by omega), fun e => by have := hnl _ e; omega⟩
/-- The loop's state: the arguments acc are read, u is the parenthesis or the comma at hand. -/
def NamedSt (w : World) (r : Nat) (text : ByteArray) (nb : Option Nat) (s : ByteArray) (f : Nat) (want : Except (Int × Nat) (List (List Rf.Part) × List Rf.Tok × List ByteArray)) (m : Nat) (v : Value) (wr : World) : Prop :=
  Kept (May r nb) w wr ∧ ∃ (k : Nat) (acc : List (List Rf.Part)) (u : Rf.Tok) (l1 : List Rf.Tok) (ns1 : List ByteArray) (nb1 : Option Nat) (g n c : Nat), m = k + 1 ∧ k + 1 + acc.length = 4 ∧ v = .slice (some ⟨g, 0, none⟩) n c ∧ Pr wr r text nb1 (u :: l1) ns1 ∧ (u.k = 40 ∨ u.k = 44) ∧ Nb w nb nb1 ∧ l1.length ≤ f ∧
    PTerm wr w.heap.size (.slice (some ⟨g, 0, none⟩) n c) (⟨3, s, 0, acc.length⟩ :: acc.flatten) ∧ nb1 ≠ some g ∧ Hid (n = acc.flatten.length + 1) ∧ 1 ≤ n ∧ n ≤ 1 + 402 * acc.length ∧ Hid (want = Rf.argsS (Rf.termS f) (k + 1) acc l1 ns1)
theorem PTerm.lt {w : World} {base g n c : Nat} {ps : List Rf.Part} (h : PTerm w base (.slice (some ⟨g, 0, none⟩) n c) ps) : base ≤ g ∧ g < w.heap.size := RowIs.lt h g rfl
theorem PTerm.keptBy {M : Nat → Prop} {w w' : World} {base g n c : Nat} {ps : List Rf.Part} (h : PTerm w base (.slice (some ⟨g, 0, none⟩) n c) ps) (hk : Kept M w w') (hn : ¬ M g) : PTerm w' base (.slice (some ⟨g, 0, none⟩) n c) ps :=
  RowIs.keptBy h hk (fun k e => by cases e; exact hn)
theorem PTerm.over {wr w3 w4 : World} {base r g n c : Nat} {nb1 : Option Nat} {ps : List Rf.Part} (h : PTerm wr base (.slice (some ⟨g, 0, none⟩) n c) ps) (hr : r < base) (hng : nb1 ≠ some g) (h3 : Kept (fun k => k = r) wr w3) (h4 : Kept (May r nb1) w3 w4) : PTerm w4 base (.slice (some ⟨g, 0, none⟩) n c) ps := by
  have := h.lt
  exact (h.keptBy h3 (by omega)).keptBy h4 (fun x => by rcases x with x | x; omega; exact hng x.symm)
theorem kept_grown {w w' : World} {row : Option Nat} (h : w.grownBy w' row) : Kept (fun k => row = some k) w w' := (Kept.refl _ w).grown h (fun _ e => Or.inr e)
/-- What stands behind an append to the parts. -/
theorem push_arg {w4 w5 : World} {base r g n c g5 : Nat} {text : ByteArray} {nb4 : Option Nat} {l : List Rf.Tok} {ns : List ByteArray} {ps : List Rf.Part} (hP : Pr w4 r text nb4 l ns) (hT : PTerm w4 base (.slice (some ⟨g, 0, none⟩) n c) ps) (hr : r < base) (hng : nb4 ≠ some g)
    (hgr : w4.grownBy w5 (Value.slice (some ⟨g, 0, none⟩) n c).ownBlock) (hnb : Nb w4 (Value.slice (some ⟨g, 0, none⟩) n c).ownBlock (some g5)) : ¬ g5 = r ∧ ¬ r = g5 ∧ base ≤ g5 ∧ nb4 ≠ some g5 ∧ Pr w5 r text nb4 l ns := by
  have h1 := hT.lt
  have h2 := hP.lt
  have hg5 : base ≤ g5 ∧ (g5 = g ∨ w4.heap.size ≤ g5) := by
    rcases hnb with e | ⟨k, e, hk⟩
    · have := Option.some.inj e; simp at this; exact ⟨by omega, .inl this⟩
    · have := Option.some.inj e; exact ⟨by omega, .inr (by omega)⟩
  refine ⟨by omega, by omega, hg5.1, fun e => ?_, hP.keptBy (kept_grown hgr) (fun e => ?_) (fun k e x => ?_)⟩
  · rcases hg5.2 with x | x
    · exact hng (by rw [e, x])
    · have := h2.2.1 _ e; omega
  · have := Option.some.inj e; simp at this; omega
  · exact hng (by rw [e]; exact x.symm)
theorem push_row {w5 : World} {base g5 n5 c5 : Nat} {s : ByteArray} {acc : List (List Rf.Part)} {ps : List Rf.Part} (h : RowIs w5 base 65 4 partCells (.slice (some ⟨g5, 0, none⟩) n5 c5) ((⟨3, s, 0, acc.length⟩ :: acc.flatten) ++ ps)) :
    PTerm (w5.setCell ⟨g5, 3, none⟩ (.int .i64 ((acc.length : Int) + 1))) base (.slice (some ⟨g5, 0, none⟩) n5 c5) (⟨3, s, 0, ((acc ++ [ps]).length : Nat)⟩ :: (acc ++ [ps]).flatten) := by
  have e : (acc ++ [ps]).flatten = acc.flatten ++ ps := by simp
  rw [e]
  refine row_setHead (x := ⟨3, s, 0, acc.length⟩) h 3 _ (by simp [partCells]) ?_
  simp [partCells]
theorem Pr.setOther {w : World} {r g i : Nat} {text : ByteArray} {nb : Option Nat} {l : List Rf.Tok} {ns : List ByteArray} (h : Pr w r text nb l ns) (v : Value) (hr : ¬ r = g) (hn : nb ≠ some g) : Pr (w.setCell ⟨g, i, none⟩ v) r text nb l ns :=
  h.keptBy ((Kept.refl (fun k => k = g) w).setCell (p := ⟨g, i, none⟩) (Or.inr rfl) v) hr (fun k e x => hn (by rw [e, x]))
theorem pnameS_err {rd} {t u : Rf.Tok} {l : List Rf.Tok} {ns : List ByteArray} {e : Int × Nat} (hu : u.k = 40) (h : rd l ns = .error e) : Rf.nameS rd t (u :: l) ns = .error e := by simp only [Rf.nameS]; rw [if_pos hu, h]
theorem pnameS_ok {rd} {t u : Rf.Tok} {l : List Rf.Tok} {ns : List ByteArray} {a1 : List (List Rf.Part)} {l2 : List Rf.Tok} {ns2 : List ByteArray} (hu : u.k = 40) (h : rd l ns = .ok (a1, l2, ns2)) : Rf.nameS rd t (u :: l) ns = .ok (⟨3, t.s, 0, a1.length⟩ :: a1.flatten, l2, ns2) := by simp only [Rf.nameS]; rw [if_pos hu, h]
set_option maxHeartbeats 2000000 in
set_option maxRecDepth 100000 in
theorem named_args (f : Nat) (IH : PTermIH f) (r : Nat) (text : ByteArray) (nb : Option Nat) (t u : Rf.Tok) (l : List Rf.Tok) (ns : List ByteArray) (w : World) (h : Pr w r text nb (t :: u :: l) ns) (hk : t.k = 97) (hu : u.k = 40) (hl : l.length ≤ f) :
    Calls Tryd.prog 71 #[.pointer (some ⟨r, 0, none⟩)] w fun x w' => PTermPost w r text nb (Rf.nameS (Rf.argsS (Rf.termS f) 4 []) t (u :: l) ns) x w' := by
  have H0 : Hid (t.k ≠ 0) := by unfold Hid; omega
  have H63 : Hid (t.k ≠ 63) := by unfold Hid; omega
  have HU : Hid _ := hu
  have hu5 : (Rf.kindOf u.k != 5) = false := by rw [hu]; decide
  have H : Hid _ := h
  have HI : Hid _ := IH
  obtain ⟨hrl, hnl, hnr⟩ := h.lt
  clear h hk hu IH
  go_enter Tryd.func71, Tryd.ntmps71
  go_wp2_with (first
    | (go_at_call 69; refine (word_any _ r text nb t (u :: l) ns H.out H0.out H63.out).mono ?_; rintro e w1 ⟨rfl, hb1⟩)
    | (go_at_call 20; refine (step_any _ r text nb t (u :: l) ns ((H.out.below hb1).alloc _) H0.out H63.out).mono ?_; rintro e w2 ⟨rfl, hP2, hK2⟩; obtain ⟨q1, ⟨_, q0⟩, ql⟩ := hP2.kind))
  have hs1 := hb1.size
  have hN : w2.heap[w1.heap.size]? = some (.cells #[.int .i64 3, .string t.s, .int .i64 0, .int .i64 0] 65 (0, 0)) := (hK2.block w1.heap.size (by simp) (fun e => by omega)).trans (blk_new _ _)
  have HN : Hid _ := hN
  clear hN q0 q1
  go_loopg [4] 4 (fun m v wr => NamedSt w r text nb t.s f (Rf.argsS (Rf.termS f) 4 [] l ns) m v wr)
  case atStart => exact ⟨((Kept.of_below hb1 (May r nb)).alloc _).trans hK2 (fun _ _ e => Or.inl e), 3, [], u, l, ns, nb, _, _, _, rfl, rfl, rfl, hP2, .inl HU.out, .inl rfl, hl, row_new HN.out rfl rfl (by omega), fun e => by have := hnl _ e; omega, rfl, by omega, by omega, rfl⟩
  case round =>
    obtain ⟨hKr, k, acc, u1, l1, ns1, nb1, g, n, c, rfl, hk4, rfl, hP, hu1, hNb, hl1, hT, hng, hn, hn1, hn2, hwant⟩ := hrel
    have H10 : Hid (u1.k ≠ 0) := by unfold Hid; omega
    have H163 : Hid (u1.k ≠ 63) := by unfold Hid; omega
    have HT : Hid _ := hT
    have HP : Hid _ := hP
    clear hT hP hu1
    have hrw := hKr.size
    cases hres : Rf.termS f l1 ns1 with
    | error x =>
      obtain ⟨e, q⟩ := x
      have HR : Hid _ := hres
      clear hres
      go_wp2_with (first
        | (go_at_call 20; refine (step_any _ r text nb1 u1 l1 ns1 HP.out H10.out H163.out).mono ?_; rintro e w3 ⟨rfl, hP3, hK3⟩)
        | (go_at_call 55; refine (HI.out r text nb1 l1 ns1 _ hP3 hl1).mono ?_; rintro x w4 ⟨hK4, hm⟩; rw [HR.out] at hm; obtain ⟨rfl, hE4⟩ := hm))
      refine bodyPost_ret (v := .tuple #[.slice none 0 0, .bool false]) (by simp [results, Tryd.results71, go_sem]) rfl ?_
      rw [pnameS_err HU.out (show Rf.argsS (Rf.termS f) 4 [] l ns = .error (e, q) by rw [hwant.out, Rf.argsS, HR.out])]
      exact ⟨(hKr.trans hK3 (fun _ _ e => Or.inl e)).trans hK4 (May.of hNb), rfl, hE4⟩
    | ok x =>
      obtain ⟨ps, l2, ns2⟩ := x
      have HR : Hid _ := hres
      clear hres
      have hgood := Rf.termS_good f l1 ns1 ps l2 ns2 (HP.out.ended.tail H10.out H163.out) HP.out.n16 HR.out
      have hpos := Rf.termS_pos HR.out
      have hlen := HP.out.len
      obtain ⟨_, _, hsum, hen2⟩ := hgood
      have HS : Hid _ := hsum
      have hps : ps.length ≤ 402 := by simp at hlen; omega
      clear hsum hlen
      cases l2 with
      | nil => exact absurd rfl hen2.ne
      | cons u2 l3 =>
        have hl3 : l3.length ≤ f := by have := HS.out; simp at this; omega
        have Hen : Hid _ := hen2
        clear hen2
        have hcar : (acc.length : Int) ≤ 3 := by omega
        have HNb4 : ∀ w3 nb4, Nb w3 nb1 nb4 → wr.heap.size ≤ w3.heap.size → Nb w nb nb4 := fun w3 nb4 h1 h2 => Nb.trans hNb h1 (by omega)
        cases c6 : (Rf.kindOf u2.k == 6)
        · have Hn41 : Hid (u2.k ≠ 41) := Rf.kindOf_n6 c6
          cases c7 : (Rf.kindOf u2.k != 7)
          · have H44 : Hid (u2.k = 44) := Rf.kindOf_7 c7
            by_cases hk0 : k = 0
            · subst hk0
              have hcar4 : (acc.length : Int) + 1 = 4 := by omega
              have HW : Hid (Rf.argsS (Rf.termS f) 4 [] l ns = .error (3, u2.at_)) := by
                unfold Hid; rw [hwant.out, Rf.argsS, HR.out]; simp only []; rw [if_pos H44.out, if_pos (by omega)]
              have HX : Hid (Rf.errOf u2 3 = (3, u2.at_)) := errOf_no u2 3 (by rw [H44.out]; decide)
              go_wp2_with (first
              | (go_at_call 20; refine (step_any _ r text nb1 u1 l1 ns1 HP.out H10.out H163.out).mono ?_; rintro e w3 ⟨rfl, hP3, hK3⟩)
              | (go_at_call 55; refine (HI.out r text nb1 l1 ns1 _ hP3 hl1).mono ?_; rintro x w4 ⟨hK4, hm⟩; rw [HR.out] at hm; obtain ⟨g4, n4, c4, nb4, rfl, hP4, hNb4, hT4, hng4⟩ := hm; have hs3 := hK3.size; have hs4 := hK4.size; have hgl := PTerm.lt HT.out; have hT34 := PTerm.over HT.out hrl hng hK3 hK4)
              | (at_builtin; refine wpList_appsN Tryd.elemPart partCells partCells_len partCells_one _ rfl (.tmp 29) (.tmp 30) rfl w.heap.size _ (⟨3, t.s, 0, acc.length⟩ :: acc.flatten) rfl hT34 g4 n4 c4 ps hpos rfl hT4 ?_ ?_ ?_; have := hn.out; simp only [List.length_cons]; omega; omega; intro g5 n5 c5 w5 hn5 hn51 hrow5 hgr5 hnb5; obtain ⟨hg5r, hrg5, hg5b, hg5n, hP5⟩ := push_arg hP4 hT34 hrl (hNb4.ne hng (by omega)) hgr5 hnb5; obtain ⟨k1, ⟨_, k0⟩, kl⟩ := hP5.kind; have a3 := RowIs.cells partCells_len hrow5 0 _ rfl 3 _ rfl; have af := row_frozen hrow5; have hg5l := (RowIs.lt hrow5 g5 rfl).2; have hR5 : Hid _ := push_row hrow5; clear hrow5)
              | (go_at_call 34; refine (refuse_any _ r text nb4 u2 l3 ns2 3 (hP5.setOther _ hrg5 hg5n) (by decide)).mono ?_; rintro e w7 ⟨rfl, hE7, hK7⟩; rw [HX.out] at hE7))
              refine bodyPost_ret (v := .tuple #[.slice none 0 0, .bool false]) (by simp [results, Tryd.results71, go_sem]) rfl ?_
              rw [pnameS_err HU.out HW.out]
              exact ⟨(((((hKr.trans hK3 (fun _ _ e => Or.inl e)).trans hK4 (May.of hNb)).grown hgr5 (fun k e => Or.inl (by have := Option.some.inj e; simp at this; omega))).setCell (p := ⟨g5, 3, none⟩) (Or.inl hg5b) _)).trans hK7 (fun _ _ e => Or.inl e), rfl, hE7⟩
            · have hcar4 : (acc.length : Int) + 1 < 4 := by omega
              have HW : Hid (Rf.argsS (Rf.termS f) 4 [] l ns = Rf.argsS (Rf.termS f) k (acc ++ [ps]) l3 ns2) := by
                unfold Hid; rw [hwant.out, Rf.argsS, HR.out]; simp only []; rw [if_pos H44.out, if_neg (by omega)]
              go_wp2_with (first
              | (go_at_call 20; refine (step_any _ r text nb1 u1 l1 ns1 HP.out H10.out H163.out).mono ?_; rintro e w3 ⟨rfl, hP3, hK3⟩)
              | (go_at_call 55; refine (HI.out r text nb1 l1 ns1 _ hP3 hl1).mono ?_; rintro x w4 ⟨hK4, hm⟩; rw [HR.out] at hm; obtain ⟨g4, n4, c4, nb4, rfl, hP4, hNb4, hT4, hng4⟩ := hm; have hs3 := hK3.size; have hs4 := hK4.size; have hgl := PTerm.lt HT.out; have hT34 := PTerm.over HT.out hrl hng hK3 hK4)
              | (at_builtin; refine wpList_appsN Tryd.elemPart partCells partCells_len partCells_one _ rfl (.tmp 29) (.tmp 30) rfl w.heap.size _ (⟨3, t.s, 0, acc.length⟩ :: acc.flatten) rfl hT34 g4 n4 c4 ps hpos rfl hT4 ?_ ?_ ?_; have := hn.out; simp only [List.length_cons]; omega; omega; intro g5 n5 c5 w5 hn5 hn51 hrow5 hgr5 hnb5; obtain ⟨hg5r, hrg5, hg5b, hg5n, hP5⟩ := push_arg hP4 hT34 hrl (hNb4.ne hng (by omega)) hgr5 hnb5; obtain ⟨k1, ⟨_, k0⟩, kl⟩ := hP5.kind; have a3 := RowIs.cells partCells_len hrow5 0 _ rfl 3 _ rfl; have af := row_frozen hrow5; have hg5l := (RowIs.lt hrow5 g5 rfl).2; have hR5 : Hid _ := push_row hrow5; clear hrow5))
              go_roundg k
              case measure => omega
              case rel =>
                have hn9 := hn.out
                have hn5' := hn5.out
                simp only [List.length_cons] at hn5'
                refine ⟨(((((hKr.trans hK3 (fun _ _ e => Or.inl e)).trans hK4 (May.of hNb)).grown hgr5 (fun k e => Or.inl (by have := Option.some.inj e; simp at this; omega))).setCell (p := ⟨g5, 3, none⟩) (Or.inl hg5b) _)), k - 1, acc ++ [ps], u2, l3, ns2, nb4, g5, n5, c5, by omega, by simp; omega, rfl, hP5.setOther _ hrg5 hg5n, .inr H44.out, HNb4 _ _ hNb4 hs3, hl3, hR5.out, hg5n, ?_, by omega, ?_, ?_⟩
                · show n5 = (acc ++ [ps]).flatten.length + 1
                  rw [List.flatten_append, List.length_append]; simp only [List.flatten_cons, List.flatten_nil, List.append_nil]; omega
                · rw [List.length_append]; simp only [List.length_cons, List.length_nil]; omega
                · show _ = Rf.argsS (Rf.termS f) (k - 1 + 1) (acc ++ [ps]) l3 ns2
                  rw [show k - 1 + 1 = k by omega]; exact HW.out
          · have H44 : Hid (u2.k ≠ 44) := Rf.kindOf_n7 c7
            have HW : Hid (Rf.argsS (Rf.termS f) 4 [] l ns = .error (Rf.errOf u2 2)) := by
              unfold Hid; rw [hwant.out, Rf.argsS, HR.out]; simp only []; rw [if_neg H44.out, if_neg Hn41.out]
            go_wp2_with (first
              | (go_at_call 20; refine (step_any _ r text nb1 u1 l1 ns1 HP.out H10.out H163.out).mono ?_; rintro e w3 ⟨rfl, hP3, hK3⟩)
              | (go_at_call 55; refine (HI.out r text nb1 l1 ns1 _ hP3 hl1).mono ?_; rintro x w4 ⟨hK4, hm⟩; rw [HR.out] at hm; obtain ⟨g4, n4, c4, nb4, rfl, hP4, hNb4, hT4, hng4⟩ := hm; have hs3 := hK3.size; have hs4 := hK4.size; have hgl := PTerm.lt HT.out; have hT34 := PTerm.over HT.out hrl hng hK3 hK4)
              | (at_builtin; refine wpList_appsN Tryd.elemPart partCells partCells_len partCells_one _ rfl (.tmp 29) (.tmp 30) rfl w.heap.size _ (⟨3, t.s, 0, acc.length⟩ :: acc.flatten) rfl hT34 g4 n4 c4 ps hpos rfl hT4 ?_ ?_ ?_; have := hn.out; simp only [List.length_cons]; omega; omega; intro g5 n5 c5 w5 hn5 hn51 hrow5 hgr5 hnb5; obtain ⟨hg5r, hrg5, hg5b, hg5n, hP5⟩ := push_arg hP4 hT34 hrl (hNb4.ne hng (by omega)) hgr5 hnb5; obtain ⟨k1, ⟨_, k0⟩, kl⟩ := hP5.kind; have a3 := RowIs.cells partCells_len hrow5 0 _ rfl 3 _ rfl; have af := row_frozen hrow5; have hg5l := (RowIs.lt hrow5 g5 rfl).2; have hR5 : Hid _ := push_row hrow5; clear hrow5)
              | (go_at_call 34; refine (refuse_any _ r text nb4 u2 l3 ns2 2 (hP5.setOther _ hrg5 hg5n) (by decide)).mono ?_; rintro e w7 ⟨rfl, hE7, hK7⟩))
            refine bodyPost_ret (v := .tuple #[.slice none 0 0, .bool false]) (by simp [results, Tryd.results71, go_sem]) rfl ?_
            rw [pnameS_err HU.out HW.out]
            exact ⟨(((((hKr.trans hK3 (fun _ _ e => Or.inl e)).trans hK4 (May.of hNb)).grown hgr5 (fun k e => Or.inl (by have := Option.some.inj e; simp at this; omega))).setCell (p := ⟨g5, 3, none⟩) (Or.inl hg5b) _)).trans hK7 (fun _ _ e => Or.inl e), rfl, hE7⟩
        · have H41 : Hid (u2.k = 41) := Rf.kindOf_6 c6
          have H20 : Hid (u2.k ≠ 0) := by unfold Hid; rw [H41.out]; decide
          have H263 : Hid (u2.k ≠ 63) := by unfold Hid; rw [H41.out]; decide
          have HW : Hid (Rf.argsS (Rf.termS f) 4 [] l ns = .ok (acc ++ [ps], l3, ns2)) := by
            unfold Hid; rw [hwant.out, Rf.argsS, HR.out]; simp only []; rw [if_neg (by rw [H41.out]; decide), if_pos H41.out]
          go_wp2_with (first
              | (go_at_call 20; refine (step_any _ r text nb1 u1 l1 ns1 HP.out H10.out H163.out).mono ?_; rintro e w3 ⟨rfl, hP3, hK3⟩)
              | (go_at_call 55; refine (HI.out r text nb1 l1 ns1 _ hP3 hl1).mono ?_; rintro x w4 ⟨hK4, hm⟩; rw [HR.out] at hm; obtain ⟨g4, n4, c4, nb4, rfl, hP4, hNb4, hT4, hng4⟩ := hm; have hs3 := hK3.size; have hs4 := hK4.size; have hgl := PTerm.lt HT.out; have hT34 := PTerm.over HT.out hrl hng hK3 hK4)
              | (at_builtin; refine wpList_appsN Tryd.elemPart partCells partCells_len partCells_one _ rfl (.tmp 29) (.tmp 30) rfl w.heap.size _ (⟨3, t.s, 0, acc.length⟩ :: acc.flatten) rfl hT34 g4 n4 c4 ps hpos rfl hT4 ?_ ?_ ?_; have := hn.out; simp only [List.length_cons]; omega; omega; intro g5 n5 c5 w5 hn5 hn51 hrow5 hgr5 hnb5; obtain ⟨hg5r, hrg5, hg5b, hg5n, hP5⟩ := push_arg hP4 hT34 hrl (hNb4.ne hng (by omega)) hgr5 hnb5; obtain ⟨k1, ⟨_, k0⟩, kl⟩ := hP5.kind; have a3 := RowIs.cells partCells_len hrow5 0 _ rfl 3 _ rfl; have af := row_frozen hrow5; have hg5l := (RowIs.lt hrow5 g5 rfl).2; have hR5 : Hid _ := push_row hrow5; clear hrow5)
              | (go_at_call 20; refine (step_any _ r text nb4 u2 l3 ns2 (hP5.setOther _ hrg5 hg5n) H20.out H263.out).mono ?_; rintro e w7 ⟨rfl, hP7, hK7⟩))
          refine bodyPost_ret (v := .tuple #[.slice (some ⟨g5, 0, none⟩) n5 c5, .bool true]) (by simp [results, Tryd.results71, go_sem]) rfl ?_
          rw [pnameS_ok HU.out HW.out]
          exact ⟨(((((hKr.trans hK3 (fun _ _ e => Or.inl e)).trans hK4 (May.of hNb)).grown hgr5 (fun k e => Or.inl (by have := Option.some.inj e; simp at this; omega))).setCell (p := ⟨g5, 3, none⟩) (Or.inl hg5b) _)).trans hK7 (fun _ _ e => Or.inl e), g5, n5, c5, nb4, rfl, hP7, HNb4 _ _ hNb4 hs3, PTerm.keptBy hR5.out hK7 hg5r, hg5n⟩
end Go.Proofs.YtpdikdnffehmkaaDoor
/- What the program's reader does at a term (read: term): it reads just what the plain function reads. -/
namespace Rf
theorem kindOf_is3 {k : Int} (h : (k == 118) = false) : (kindOf k == 3) = false := by
  rw [beq_eq_false_iff_ne] at *
  unfold kindOf; repeat' split
  all_goals omega
theorem kindOf_is4 {k : Int} (h : (k == 110) = false) : (kindOf k == 4) = false := by
  rw [beq_eq_false_iff_ne] at *
  unfold kindOf; repeat' split
  all_goals omega
theorem kindOf_is2 {k : Int} (h : (k == 97) = false) : (kindOf k == 2) = false := by
  rw [beq_eq_false_iff_ne] at *
  unfold kindOf; repeat' split
  all_goals omega
theorem kindOf_is5 {k : Int} (h : k ≠ 40) : (kindOf k != 5) = true := by
  rw [bne_iff_ne]
  unfold kindOf; repeat' split
  all_goals omega
end Rf
namespace Go.Proofs.YtpdikdnffehmkaaDoor
open Go.RowKit
theorem PTermPost.lift {w wa w' : World} {r : Nat} {text : ByteArray} {nb : Option Nat} {res : Except (Int × Nat) (List Rf.Part × List Rf.Tok × List ByteArray)} {x : Ending} (h : PTermPost wa r text nb res x w') (hk : Kept (May r nb) w wa) : PTermPost w r text nb res x w' := by
  obtain ⟨h3, h4⟩ := h
  have hs := hk.size
  refine ⟨hk.trans h3 (fun _ _ x => x), ?_⟩
  cases res with
  | error x => exact h4
  | ok x =>
    obtain ⟨g, n, c, nb', a0, a1, a2, a3, a4⟩ := h4
    exact ⟨g, n, c, nb', a0, a1, Nb.trans (.inl rfl) a2 hs, ⟨ownsRow_base a3.own (fun k e => by have := (RowIs.lt a3 k e).1; omega)⟩, a4⟩
theorem PTermPost.tuple {w w' : World} {r : Nat} {text : ByteArray} {nb : Option Nat} {res : Except (Int × Nat) (List Rf.Part × List Rf.Tok × List ByteArray)} {x : Ending} (h : PTermPost w r text nb res x w') : ∃ a n c b, x = .returned (.tuple #[.slice a n c, .bool b]) := by
  obtain ⟨_, h⟩ := h
  cases res with
  | error x => exact ⟨_, _, _, _, h.1⟩
  | ok x => obtain ⟨g, n, c, nb', a0, _⟩ := h; exact ⟨_, _, _, _, a0⟩
set_option maxHeartbeats 1000000 in
set_option maxRecDepth 100000 in
theorem pterm_step (f : Nat) (IH : PTermIH f) : PTermIH (f + 1) := by
  intro r text nb l0 ns w h hl0
  obtain ⟨t, l, rfl⟩ : ∃ t l, l0 = t :: l := by
    cases l0 with
    | nil => exact absurd rfl h.ended.ne
    | cons t l => exact ⟨t, l, rfl⟩
  have hl : l.length ≤ f := by simp at hl0; omega
  have H : Hid _ := h
  have HI : Hid _ := IH
  obtain ⟨hrl, hnl, hnr⟩ := h.lt
  obtain ⟨q1, ⟨_, q0⟩, ql⟩ := h.kind
  clear h IH hl0
  cases c118 : (t.k == 118)
  · cases c110 : (t.k == 110)
    · cases c97 : (t.k == 97)
      · have hS : Hid (Rf.termS (f + 1) (t :: l) ns = .error (Rf.errOf t 2)) := by
          unfold Hid; rw [Rf.termS, if_neg (beq_eq_false_iff_ne.1 c118), if_neg (beq_eq_false_iff_ne.1 c110), if_neg (beq_eq_false_iff_ne.1 c97)]
        have k3 := Rf.kindOf_is3 c118
        have k4 := Rf.kindOf_is4 c110
        have k2 := Rf.kindOf_is2 c97
        go_enter Tryd.func55, Tryd.ntmps55
        go_wp2_with (go_at_call 34; refine (refuse_any _ r text nb t l ns 2 H.out (by decide)).mono ?_; rintro e w7 ⟨rfl, hE7, hK7⟩)
        refine bodyPost_ret (v := .tuple #[.slice none 0 0, .bool false]) (by simp [results, Tryd.results55, go_sem]) rfl ?_
        rw [hS.out]
        exact ⟨hK7.mono (fun _ _ e => Or.inl e), rfl, hE7⟩
      · have e97 : t.k = 97 := eq_of_beq c97
        have hS : Hid (Rf.termS (f + 1) (t :: l) ns = Rf.nameS (Rf.argsS (Rf.termS f) 4 []) t l ns) := by
          unfold Hid; rw [Rf.termS, if_neg (beq_eq_false_iff_ne.1 c118), if_neg (beq_eq_false_iff_ne.1 c110), if_pos e97]
        have hen := H.out.ended.tail (by omega) (by omega)
        have hq : Rf.kindOf t.k = 2 := by rw [e97]; rfl
        rw [hq] at q1
        have H97 : Hid _ := e97
        clear e97 hq c97 c110 c118
        cases l with
        | nil => exact absurd rfl hen.ne
        | cons u l' =>
          clear hen
          have hl' : l'.length ≤ f := by simp at hl; omega
          by_cases hu : u.k = 40
          · go_enter Tryd.func55, Tryd.ntmps55
            go_wp2_with (go_at_call 71; refine (named_args f HI.out r text nb t u l' ns _ H.out H97.out hu hl').mono ?_; intro x w2 hP; obtain ⟨a, n, c, b, rfl⟩ := hP.tuple)
            refine bodyPost_ret (v := .tuple #[.slice a n c, .bool b]) (by simp [results, Tryd.results55, go_sem]) rfl ?_
            rw [hS.out]
            exact hP
          · have hn : Hid (Rf.nameS (Rf.argsS (Rf.termS f) 4 []) t (u :: l') ns = .ok ([⟨3, t.s, 0, 0⟩], u :: l', ns)) := by
              unfold Hid; simp only [Rf.nameS]; rw [if_neg hu]
            have hu5 := Rf.kindOf_is5 hu
            go_enter Tryd.func55, Tryd.ntmps55
            go_wp2_with (go_at_call 71; refine (named_name r text nb t u l' ns _ H.out H97.out hu5).mono ?_; intro x w2 hP; obtain ⟨a, n, c, b, rfl⟩ := hP.tuple)
            refine bodyPost_ret (v := .tuple #[.slice a n c, .bool b]) (by simp [results, Tryd.results55, go_sem]) rfl ?_
            rw [hS.out, hn.out]
            exact hP
    · have e110 : t.k = 110 := eq_of_beq c110
      have H0 : Hid (t.k ≠ 0) := by unfold Hid; omega
      have H63 : Hid (t.k ≠ 63) := by unfold Hid; omega
      have hS : Hid (Rf.termS (f + 1) (t :: l) ns = .ok ([⟨2, ⟨#[]⟩, Rf.numVal t.s, 0⟩], l, ns)) := by
        unfold Hid; rw [Rf.termS, if_neg (beq_eq_false_iff_ne.1 c118), if_pos e110]
      have hq : Rf.kindOf t.k = 4 := by rw [e110]; rfl
      rw [hq] at q1
      have H110 : Hid _ := e110
      clear e110 hq c110 c118
      go_enter Tryd.func55, Tryd.ntmps55
      go_wp2_with (first
        | (go_at_call 70; refine (value_any _ r text nb t l ns H.out H110.out).mono ?_; rintro x w1 ⟨rfl, hb1⟩)
        | (go_at_call 20; refine (step_any _ r text nb t l ns (H.out.below hb1) H0.out H63.out).mono ?_; rintro e w2 ⟨rfl, hP2, hK2⟩))
      refine bodyPost_ret (v := .tuple #[.slice (some ⟨w2.heap.size, 0, none⟩) 1 1, .bool true]) (by simp [results, Tryd.results55, go_sem]) rfl ?_
      rw [hS.out]
      have hs1 := hb1.size
      have hs2 := hK2.size
      exact ⟨((Kept.of_below hb1 (May r nb)).trans hK2 (fun _ _ e => Or.inl e)).alloc _, _, _, _, nb, rfl, hP2.alloc _, .inl rfl, row_new (blk_new _ _) rfl rfl (by omega), fun e => by have := hnl _ e; omega⟩
  · have e118 : t.k = 118 := eq_of_beq c118
    have H0 : Hid (t.k ≠ 0) := by unfold Hid; omega
    have H63 : Hid (t.k ≠ 63) := by unfold Hid; omega
    have hS : Hid (Rf.termS (f + 1) (t :: l) ns = Rf.varT t l ns) := by
      unfold Hid; rw [Rf.termS, if_pos e118]
    have hq : Rf.kindOf t.k = 3 := by rw [e118]; rfl
    rw [hq] at q1
    have H118 : Hid _ := e118
    clear e118 hq c118
    cases hv : Rf.varS t ns with
    | error x =>
      obtain ⟨e, q⟩ := x
      have HV : Hid _ := hv
      clear hv
      have hT : Hid (Rf.varT t l ns = .error (e, q)) := by unfold Hid Rf.varT; rw [HV.out]
      go_enter Tryd.func55, Tryd.ntmps55
      go_wp2_with (go_at_call 54; refine (which_any _ r text nb t l ns H.out H118.out).mono ?_; rintro x w1 ⟨hK1, hm⟩; rw [HV.out] at hm; obtain ⟨rfl, hE1⟩ := hm)
      refine bodyPost_ret (v := .tuple #[.slice none 0 0, .bool false]) (by simp [results, Tryd.results55, go_sem]) rfl ?_
      rw [hS.out, hT.out]
      exact ⟨hK1, rfl, hE1⟩
    | ok x =>
      obtain ⟨i, ns'⟩ := x
      have HV : Hid _ := hv
      clear hv
      have hT : Hid (Rf.varT t l ns = .ok ([⟨1, ⟨#[]⟩, i, 0⟩], l, ns')) := by unfold Hid Rf.varT; rw [HV.out]
      go_enter Tryd.func55, Tryd.ntmps55
      go_wp2_with (first
        | (go_at_call 54; refine (which_any _ r text nb t l ns H.out H118.out).mono ?_; rintro x w1 ⟨hK1, hm⟩; rw [HV.out] at hm; obtain ⟨rfl, hi16, nb1, hP1, hNb1⟩ := hm)
        | (go_at_call 20; refine (step_any _ r text nb1 t l ns' hP1 H0.out H63.out).mono ?_; rintro e w2 ⟨rfl, hP2, hK2⟩))
      refine bodyPost_ret (v := .tuple #[.slice (some ⟨w2.heap.size, 0, none⟩) 1 1, .bool true]) (by simp [results, Tryd.results55, go_sem]) rfl ?_
      rw [hS.out, hT.out]
      have hs1 := hK1.size
      have hs2 := hK2.size
      exact ⟨(hK1.trans hK2 (fun _ _ e => Or.inl e)).alloc _, _, _, _, nb1, rfl, hP2.alloc _, hNb1, row_new (blk_new _ _) rfl rfl (by omega), fun e => by have := hP2.lt.2.1 _ e; omega⟩
theorem pterm_any : ∀ f, PTermIH f
  | 0 => fun r text nb l ns w h hl => absurd (List.eq_nil_of_length_eq_zero (by omega)) h.ended.ne
  | f + 1 => pterm_step f (pterm_any f)
end Go.Proofs.YtpdikdnffehmkaaDoor
/- Laws of our own over any program: rows that are only read; they may begin within their block. -/
namespace Go
open Go.RowKit
/-- The slice v shows xs, each told by its cells: a row that is only read; its elements have type e. -/
structure Seen {α : Type} (w : World) (e : TypeId) (C : α → List Value) (v : Value) (xs : List α) : Prop where
  ex : (v = .slice none 0 0 ∧ xs = []) ∨ ∃ (g off cap : Nat) (cur : Array Value), v = .slice (some ⟨g, off, none⟩) xs.length cap ∧ w.heap[g]? = some (.cells cur e (0, 0)) ∧ xs.length ≤ cap ∧ cap ≤ maxLen ∧ ∀ j u, (xs.flatMap C)[j]? = some u → cur[off + j]? = some u
variable {α : Type} {w w' : World} {e : TypeId} {C : α → List Value} {v : Value} {xs : List α}
theorem RowIs.seen {base size : Nat} (h : RowIs w base e size C v xs) : Seen w e C v xs := by
  obtain ⟨hl, h2⟩ := h.own
  rcases h2 with ⟨h2, h3⟩ | ⟨g, cap, cur, h1, h2, h3, h4, h5, h6, h7⟩
  · exact ⟨.inl ⟨h2, List.eq_nil_of_length_eq_zero h3⟩⟩
  · refine ⟨.inr ⟨g, 0, cap, cur, h1, h3, h4, h5, fun j u hu => ?_⟩⟩
    have hj : j < (xs.flatMap C).length := (List.getElem?_eq_some_iff.1 hu).1
    rw [← h7, List.getElem?_take, if_pos (by omega)] at hu
    simpa using hu
theorem Seen.nil : Seen w e C (.slice none 0 0) ([] : List α) := ⟨.inl ⟨rfl, rfl⟩⟩
theorem Seen.shape (h : Seen w e C v xs) : (v = .slice none 0 0 ∧ xs = []) ∨ ∃ g off cap, v = .slice (some ⟨g, off, none⟩) xs.length cap ∧ g < w.heap.size ∧ xs.length ≤ cap ∧ cap ≤ maxLen := by
  rcases h.ex with h | ⟨g, off, cap, cur, h1, h2, h3, h4, _⟩
  · exact .inl h
  · exact .inr ⟨g, off, cap, h1, (Array.getElem?_eq_some_iff.1 h2).1, h3, h4⟩
theorem Seen.slice (h : Seen w e C v xs) : ∃ a c, v = .slice a xs.length c := by
  rcases h.ex with ⟨rfl, rfl⟩ | ⟨g, off, cap, cur, h1, _⟩
  · exact ⟨none, 0, rfl⟩
  · exact ⟨_, _, h1⟩
theorem Seen.len {a : Option Addr} {n c : Nat} (h : Seen w e C (.slice a n c) xs) : n = xs.length := by
  obtain ⟨a', c', e'⟩ := h.slice
  injection e'
theorem Seen.cap {a : Option Addr} {n c : Nat} (h : Seen w e C (.slice a n c) xs) : xs.length ≤ c ∧ c ≤ maxLen := by
  rcases h.shape with ⟨h1, rfl⟩ | ⟨g, off, cap, h1, _, h3, h4⟩
  · injection h1 with _ _ h1; subst h1; simp
  · injection h1 with _ _ h1; subst h1; exact ⟨h3, h4⟩
theorem Seen.pos {a : Option Addr} {n c : Nat} (h : Seen w e C (.slice a n c) xs) (hp : 1 ≤ xs.length) : ∃ g off, a = some ⟨g, off, none⟩ := by
  rcases h.shape with ⟨_, rfl⟩ | ⟨g, off, cap, h1, _⟩
  · simp at hp
  · injection h1 with h1; exact ⟨g, off, h1⟩
theorem Seen.lt {g off n c : Nat} (h : Seen w e C (.slice (some ⟨g, off, none⟩) n c) xs) : g < w.heap.size := by
  rcases h.shape with ⟨h1, _⟩ | ⟨g', off', cap, h1, h2, _⟩
  · cases h1
  · injection h1 with h1; injection h1 with h1; injection h1 with h1; rw [h1]; exact h2
/-- All cells of the row, by address. -/
theorem Seen.cellsAt {ad : Addr} {n c : Nat} (h : Seen w e C (.slice (some ad) n c) xs) : ∀ j u, (xs.flatMap C)[j]? = some u → w.cell? (ad.add j) = some u := by
  rcases h.ex with ⟨h1, _⟩ | ⟨g, off, cap, cur, h1, h2, _, _, h5⟩
  · cases h1
  · obtain rfl : ad = ⟨g, off, none⟩ := by injection h1 with h1; injection h1
    intro j u hu
    rw [Addr.add_lit]
    simp only [World.cell?, h2]
    exact h5 j u hu
theorem flat_at {size : Nat} (hC : ∀ x, (C x).length = size) {x : α} {j : Nat} {u : Value} (hu : (C x)[j]? = some u) : ∀ (xs : List α) (i : Nat), xs[i]? = some x → (xs.flatMap C)[i * size + j]? = some u := by
  intro xs
  induction xs with
  | nil => intro i hi; simp at hi
  | cons y ys ih =>
    intro i hi
    rw [List.flatMap_cons]
    cases i with
    | zero =>
      simp at hi; subst hi
      rw [Nat.zero_mul, Nat.zero_add, List.getElem?_append_left (by exact (List.getElem?_eq_some_iff.1 hu).1)]; exact hu
    | succ i =>
      simp at hi
      rw [List.getElem?_append_right (by rw [hC]; rw [Nat.add_mul]; omega), hC]
      have := ih i hi
      rwa [show (i + 1) * size + j - size = i * size + j by rw [Nat.add_mul]; omega]
theorem Seen.cells {size : Nat} (hC : ∀ x, (C x).length = size) {g off n cap : Nat} (h : Seen w e C (.slice (some ⟨g, off, none⟩) n cap) xs) (i : Nat) (x : α) (hx : xs[i]? = some x) (j : Nat) (u : Value) (hu : (C x)[j]? = some u) : w.cell? ⟨g, off + (i * size + j), none⟩ = some u := by
  have := h.cellsAt _ u (flat_at hC hu xs i hx)
  rwa [Addr.add_lit] at this
theorem Seen.drop {size : Nat} (hC : ∀ x, (C x).length = size) {g off n cap : Nat} (h : Seen w e C (.slice (some ⟨g, off, none⟩) n cap) xs) (k : Nat) (hk : k ≤ xs.length) : Seen w e C (.slice (some ⟨g, off + k * size, none⟩) (xs.length - k) (cap - k)) (xs.drop k) := by
  rcases h.ex with ⟨h1, _⟩ | ⟨g', off', cap', cur, h1, h2, h3, h4, h5⟩
  · cases h1
  · obtain ⟨rfl, rfl, rfl⟩ : g = g' ∧ off = off' ∧ cap = cap' := by injection h1 with h1 h6 h7; injection h1 with h1; injection h1 with a1 a2; exact ⟨a1, a2, h7⟩
    refine ⟨.inr ⟨g, off + k * size, cap - k, cur, by simp, h2, by simp; omega, by omega, fun j u hu => ?_⟩⟩
    rw [Nat.add_assoc]
    refine h5 _ _ ?_
    rw [← List.take_append_drop k xs, List.flatMap_append]
    have hl := flatMap_len C hC (xs.take k)
    rw [List.length_take, Nat.min_eq_left hk] at hl
    rw [List.getElem?_append_right (by omega), hl]
    simpa using hu
theorem Seen.dropEnd {g off n cap : Nat} (h : Seen w e C (.slice (some ⟨g, off, none⟩) n cap) xs) (k : Nat) (hk : cap = k) : Seen w e C (.slice (some ⟨g, off, none⟩) (xs.length - k) 0) (xs.drop k) := by
  rcases h.ex with ⟨h1, _⟩ | ⟨g', off', cap', cur, h1, h2, h3, h4, h5⟩
  · cases h1
  · obtain ⟨rfl, rfl, rfl⟩ : g = g' ∧ off = off' ∧ cap = cap' := by injection h1 with h1 h6 h7; injection h1 with h1; injection h1 with a1 a2; exact ⟨a1, a2, h7⟩
    have hd : xs.drop k = [] := List.drop_of_length_le (by omega)
    rw [hd]
    refine ⟨.inr ⟨g, off, 0, cur, by simp; omega, h2, by simp, by omega, fun j u hu => by simp at hu⟩⟩
theorem Seen.take {g off n cap : Nat} (h : Seen w e C (.slice (some ⟨g, off, none⟩) n cap) xs) (k : Nat) (hk : k ≤ xs.length) : Seen w e C (.slice (some ⟨g, off, none⟩) k cap) (xs.take k) := by
  rcases h.ex with ⟨h1, _⟩ | ⟨g', off', cap', cur, h1, h2, h3, h4, h5⟩
  · cases h1
  · obtain ⟨rfl, rfl, rfl⟩ : g = g' ∧ off = off' ∧ cap = cap' := by injection h1 with h1 h6 h7; injection h1 with h1; injection h1 with a1 a2; exact ⟨a1, a2, h7⟩
    have hlk : (xs.take k).length = k := by rw [List.length_take]; omega
    refine ⟨.inr ⟨g, off, cap, cur, by rw [hlk], h2, by omega, h4, fun j u hu => h5 j u ?_⟩⟩
    have : ∃ ys, xs.flatMap C = (xs.take k).flatMap C ++ ys := ⟨(xs.drop k).flatMap C, by rw [← List.flatMap_append, List.take_append_drop]⟩
    obtain ⟨ys, hys⟩ := this
    rw [hys, List.getElem?_append_left ((List.getElem?_eq_some_iff.1 hu).1)]
    exact hu
theorem Seen.kept {M : Nat → Prop} (h : Seen w e C v xs) (hk : Kept M w w') (hn : ∀ k cs, w.heap[k]? = some (.cells cs e (0, 0)) → ¬ M k) : Seen w' e C v xs := by
  rcases h.ex with h | ⟨g, off, cap, cur, h1, h2, h3⟩
  · exact ⟨.inl h⟩
  · refine ⟨.inr ⟨g, off, cap, cur, h1, ?_, h3⟩⟩
    rw [hk.block g (Array.getElem?_eq_some_iff.1 h2).1 (hn g cur h2)]
    exact h2
theorem Seen.below (h : Seen w e C v xs) (hb : Below w.heap.size w w') : Seen w' e C v xs := h.kept (Kept.of_below hb (fun _ => False)) (fun _ _ _ e => e)
theorem Seen.alloc (h : Seen w e C v xs) (o : Obj) : Seen (w.alloc o) e C v xs := h.below ((Below.refl _ w).alloc (Nat.le_refl _) o)
theorem Seen.drew (h : Seen w e C v xs) : Seen w.drew e C v xs := h.below (Below.refl _ w).drew
theorem Seen.grown {row : Option Nat} (h : Seen w e C v xs) (hg : w.grownBy w' row) (hn : ∀ k cs, w.heap[k]? = some (.cells cs e (0, 0)) → row ≠ some k) : Seen w' e C v xs :=
  h.kept (M := fun k => row = some k) ⟨hg.os, hg.tape, hg.output, hg.size, fun k hk hr => hg.block k hk (fun e => hr e.symm)⟩ (fun k cs hc he => hn k cs hc he)
theorem Seen.setCell (h : Seen w e C v xs) (p : Addr) (u : Value) (hn : ∀ cs, w.heap[p.block]? ≠ some (.cells cs e (0, 0))) : Seen (w.setCell p u) e C v xs :=
  h.kept (M := fun k => k = p.block) (Kept.setCell (Kept.refl (fun k => k = p.block) w) (Or.inr rfl) u) (fun k cs hc he => by subst he; exact hn cs hc)
/-- Append of a row that is seen (it may be empty) to one that is owned. -/
theorem run_appS {P : Program} {t e : TypeId} {size bytes : Nat} {z : Value} (hE : ElemOk P t e size bytes z) (C : α → List Value) (hC : ∀ x, (C x).length = size) (h1 : ∀ x, ∀ u ∈ C x, u.oneCell' = true)
    (w : World) (ty : TypeId) (base : Nat) (v : Value) (xs : List α) (hown : RowIs w base e size C v xs) (u : Value) (ys : List α) (hy : Seen w e C u ys) (hb : (xs.length + ys.length) * bytes ≤ 140737488355328) (hbase : base ≤ w.heap.size) :
    ∃ v' w', (Builtin.append_ #[t, t] ty #[v, u]).run P w = .ok v' w' ∧ RowIs w' base e size C v' (xs ++ ys) ∧ w.grownBy w' v.ownBlock := by
  obtain ⟨e1, e2, e3, e4, e5⟩ := hE
  obtain ⟨i, hi, hz, hsz, hby⟩ := info_parts e2
  rcases hy.ex with ⟨rfl, rfl⟩ | ⟨g, off, cap, cur, rfl, h2, h3, h4, h5⟩
  · refine ⟨v, w, run_append_owned_none (P := P) w base t ty e i size e1 hi v xs.length (xs.flatMap C) hown.own, by rw [List.append_nil]; exact hown, ⟨rfl, rfl, rfl, Nat.le_refl _, fun _ _ _ => rfl⟩⟩
  · have hm : xs.length + ys.length ≤ maxLen := by
      have := Nat.le_mul_of_pos_right (xs.length + ys.length) e5
      unfold maxLen; omega
    have hone : ∀ u ∈ ys.flatMap C, u.oneCell' = true := by
      intro u hu
      obtain ⟨y, _, hu⟩ := List.mem_flatMap.1 hu
      exact h1 y u hu
    obtain ⟨v', w', hrun, k1, k2, _⟩ := run_append_own (P := P) w base t ty e i z size bytes e1 hi hz hsz hby e3 e4 v xs.length (xs.flatMap C) hown.own ⟨g, off, none⟩ ys.length cap (ys.flatMap C) (flatMap_len C hC ys) hy.cellsAt hone hm hb hbase
    exact ⟨v', w', hrun, ⟨by rw [List.length_append, List.flatMap_append]; exact k1⟩, k2⟩
theorem wpList_appS {P : Program} {t e : TypeId} {size bytes : Nat} {z : Value} (hE : ElemOk P t e size bytes z) (C : α → List Value) (hC : ∀ x, (C x).length = size) (h1 : ∀ x, ∀ u ∈ C x, u.oneCell' = true)
    (w : World) {ops : Array Oper} {rest : List Oper} {o : Oper} {a : Act} {Q : Exit → Act → World → Prop} (hgd : o.guard = none) (s x : Operand)
    (ho : o.op = .call { callee := .builtin .append, args := #[s, x], argTypes := #[t, t] }) (base : Nat) (v : Value) (xs : List α) (hs : a.eval s = v) (hown : RowIs w base e size C v xs) (u : Value) (ys : List α) (hx : a.eval x = u) (hy : Seen w e C u ys)
    (hb : (xs.length + ys.length) * bytes ≤ 140737488355328) (hbase : base ≤ w.heap.size)
    (h : ∀ v' w', RowIs w' base e size C v' (xs ++ ys) → w.grownBy w' v.ownBlock → wpList P ops Q rest (a.put o.dst v') w') : wpList P ops Q (o :: rest) a w := by
  refine wpList_plain hgd fun _ hK => ?_
  obtain ⟨v', w', hr, k1, k2⟩ := run_appS hE C hC h1 w o.type base v xs hown u ys hy hb hbase
  unfold Oper.wp execOp
  simp only [ho, resolve, invoke, builtin, Sem.run_bind, Sem.run_pure, Result.andThen_ok, List.map_toArray, List.map_cons, List.map_nil, hs, hx, hr]
  exact hK _ _ (h v' w' k1 k2)
end Go
/- The program's terms by their blocks; what it asks of a head (term: BuiltIn), and what its reader does at a goal (read: goal). -/
namespace Rf
theorem kindOf_9 {k : Int} (h : (k == 33) = false) : (kindOf k == 9) = false := by
  rw [beq_eq_false_iff_ne] at *
  unfold kindOf; repeat' split
  all_goals omega
theorem termS_name {f : Nat} {t : Tok} {l : List Tok} {ns : List ByteArray} {p : List Part} {l1 : List Tok} {ns1 : List ByteArray} (h118 : t.k ≠ 118) (h110 : t.k ≠ 110) (h : termS f (t :: l) ns = .ok (p, l1, ns1)) : ∃ x q, p = x :: q ∧ x.kind = 3 := by
  cases f with
  | zero => simp [termS] at h
  | succ f =>
    rw [termS, if_neg h118, if_neg h110] at h
    split at h
    · cases l with
      | nil => cases h
      | cons u l' =>
        simp only [nameS] at h
        split at h
        · cases ha : argsS (termS f) 4 [] l' ns with
          | error x => rw [ha] at h; cases h
          | ok x =>
            rw [ha] at h
            simp only [Except.ok.injEq, Prod.mk.injEq] at h
            obtain ⟨rfl, _⟩ := h
            exact ⟨_, _, rfl, rfl⟩
        · simp only [Except.ok.injEq, Prod.mk.injEq] at h; obtain ⟨rfl, _⟩ := h; exact ⟨_, _, rfl, rfl⟩
    · cases h
/-- A goal that begins with no variable and no number is read as a term. -/
theorem goalS_term {f : Nat} {t : Tok} {l : List Tok} {ns : List ByteArray} (h33 : t.k ≠ 33) (h118 : t.k ≠ 118) (h110 : t.k ≠ 110) : goalS f (t :: l) ns = termS f (t :: l) ns := by
  simp only [goalS]
  rw [if_neg h33]
  cases hr : termS f (t :: l) ns with
  | error e => rfl
  | ok x =>
    obtain ⟨p, l1, ns1⟩ := x
    obtain ⟨y, q, rfl, hy⟩ := termS_name h118 h110 hr
    simp only []
    rw [if_pos (by simp [hy])]
end Rf
namespace Go.Proofs.YtpdikdnffehmkaaDoor
open Go.RowKit
/-- v is a term's row of parts; its block is one of F's. -/
def PT (F : Nat → Prop) (w : World) (v : Value) (ps : List Rf.Part) : Prop := RowIs w 0 65 4 partCells v ps ∧ ∀ k, v.ownBlock = some k → F k
theorem PT.keptBy {F F' M : Nat → Prop} {w w' : World} {v : Value} {ps : List Rf.Part} (h : PT F w v ps) (hk : Kept M w w') (hF : ∀ k, k < w.heap.size → F k → ¬ M k ∧ F' k) : PT F' w' v ps :=
  ⟨h.1.keptBy hk (fun k e => (hF k (h.1.lt k e).2 (h.2 k e)).1), fun k e => (hF k (h.1.lt k e).2 (h.2 k e)).2⟩
theorem PTerm.pt {w w' : World} {g n c : Nat} {nb : Option Nat} {ps : List Rf.Part} (h : PTerm w' w.heap.size (.slice (some ⟨g, 0, none⟩) n c) ps) (hn : nb ≠ some g) : PT (New w w' nb) w' (.slice (some ⟨g, 0, none⟩) n c) ps := by
  have := h.lt
  exact ⟨⟨ownsRow_base h.own (fun _ _ => Nat.zero_le _)⟩, fun k e => by cases e; exact ⟨this.1, this.2, hn⟩⟩
set_option maxHeartbeats 400000 in
theorem ptop_any (g off n c : Nat) (p : Rf.Part) (rest : List Rf.Part) (w : World) (h : Seen w 65 partCells (.slice (some ⟨g, off, none⟩) n c) (p :: rest)) :
    Calls Tryd.prog 58 #[.slice (some ⟨g, off, none⟩) n c] w fun r w' => r = .returned (.agg #[.int .i64 p.kind, .string p.name, .int .i64 p.value, .int .i64 p.args]) ∧ Below w.heap.size w w' := by
  have x0 := h.cells partCells_len 0 p rfl 0 _ rfl
  have x1 := h.cells partCells_len 0 p rfl 1 _ rfl
  have x2 := h.cells partCells_len 0 p rfl 2 _ rfl
  have x3 := h.cells partCells_len 0 p rfl 3 _ rfl
  simp only [Nat.zero_mul, Nat.zero_add, Nat.add_zero] at x0 x1 x2 x3
  have hn : 1 ≤ n := by rw [h.len]; simp
  have hgl := h.lt
  clear h
  go_enter Tryd.func58, Tryd.ntmps58
  go_wp2
  refine bodyPost_ret (v := .agg #[.int .i64 p.kind, .string p.name, .int .i64 p.value, .int .i64 p.args]) (by simp [results, Tryd.results58, go_sem, *]) rfl ?_
  exact ⟨rfl, (by repeat (first | exact Below.refl _ _ | refine Below.setCell ?_ (by simp <;> omega) _ | refine Below.drew ?_ | refine Below.drewN ?_ _ | refine Below.alloc ?_ (by simp <;> omega) _))⟩
set_option maxHeartbeats 1000000 in
theorem pbuiltIn_any (g off n c : Nat) (p : Rf.Part) (rest : List Rf.Part) (w : World) (h : Seen w 65 partCells (.slice (some ⟨g, off, none⟩) n c) (p :: rest)) (h3 : p.kind = 3) :
    Calls Tryd.prog 59 #[.slice (some ⟨g, off, none⟩) n c] w fun r w' => r = .returned (.bool (Rf.builtInB p.name p.args)) ∧ Below w.heap.size w w' := by
  have hB : Hid _ := builtInB_eq p.name p.args
  have H : Hid _ := h
  have H3 : Hid _ := h3
  clear h h3
  rcases (show p.args = 0 ∨ p.args = 1 ∨ p.args = 2 ∨ p.args = 3 ∨ ((p.args == 0) = false ∧ (p.args == 1) = false ∧ (p.args == 2) = false ∧ (p.args == 3) = false) by
    generalize p.args = a
    by_cases h0 : a = 0
    · exact .inl h0
    · by_cases h1 : a = 1
      · exact .inr (.inl h1)
      · by_cases h2 : a = 2
        · exact .inr (.inr (.inl h2))
        · by_cases h3 : a = 3
          · exact .inr (.inr (.inr (.inl h3)))
          · exact .inr (.inr (.inr (.inr ⟨beq_eq_false_iff_ne.2 h0, beq_eq_false_iff_ne.2 h1, beq_eq_false_iff_ne.2 h2, beq_eq_false_iff_ne.2 h3⟩)))) with ea | ea | ea | ea | ⟨a0, a1, a2, a3⟩
  all_goals
    go_enter Tryd.func59, Tryd.ntmps59
    go_wp2_with (go_at_call 58; refine (ptop_any g off n c p rest _ (Seen.below H.out (by repeat (first | exact Below.refl _ _ | refine Below.setCell ?_ (by simp <;> omega) _ | refine Below.drew ?_ | refine Below.drewN ?_ _ | refine Below.alloc ?_ (by simp <;> omega) _)))).mono ?_; rintro r w1 ⟨rfl, hb1⟩; have h3 := H3.out; have hs1 := hb1.size)
  all_goals
    go_ret
    refine ⟨ret_bool ?_, hb1.alloc hs1 _⟩
    rw [hB.out]
    clear hB
  all_goals
    unfold builtInC
    first | (simp [*]; done) | (simp; done) | (simp [*]; omega)
end Go.Proofs.YtpdikdnffehmkaaDoor
/- What the program's reader does at a goal and at a head (read: goal, head). -/
namespace Go.Proofs.YtpdikdnffehmkaaDoor
open Go.RowKit
set_option maxHeartbeats 1000000 in
set_option maxRecDepth 100000 in
theorem pgoal_any (f : Nat) (r : Nat) (text : ByteArray) (nb : Option Nat) (l0 : List Rf.Tok) (ns : List ByteArray) (w : World) (h : Pr w r text nb l0 ns) (hl0 : l0.length ≤ f) :
    Calls Tryd.prog 33 #[.pointer (some ⟨r, 0, none⟩)] w fun x w' => PTermPost w r text nb (Rf.goalS f l0 ns) x w' := by
  obtain ⟨t, l, rfl⟩ : ∃ t l, l0 = t :: l := by
    cases l0 with
    | nil => exact absurd rfl h.ended.ne
    | cons t l => exact ⟨t, l, rfl⟩
  obtain ⟨f', rfl⟩ : ∃ f', f = f' + 1 := ⟨f - 1, by simp at hl0; omega⟩
  have H : Hid _ := h
  obtain ⟨hrl, hnl, hnr⟩ := h.lt
  obtain ⟨q1, ⟨_, q0⟩, ql⟩ := h.kind
  clear h
  cases c33 : (t.k == 33)
  · cases c118 : (t.k == 118)
    · cases c110 : (t.k == 110)
      · have hS : Hid (Rf.goalS (f' + 1) (t :: l) ns = Rf.termS (f' + 1) (t :: l) ns) := Rf.goalS_term (beq_eq_false_iff_ne.1 c33) (beq_eq_false_iff_ne.1 c118) (beq_eq_false_iff_ne.1 c110)
        have k9 := Rf.kindOf_9 c33
        have k3 := Rf.kindOf_is3 c118
        have k4 := Rf.kindOf_is4 c110
        go_enter Tryd.func33, Tryd.ntmps33
        go_wp2_with (go_at_call 55; refine (pterm_any (f' + 1) r text nb (t :: l) ns _ H.out hl0).mono ?_; intro x w2 hP; obtain ⟨a, n, c, b, rfl⟩ := hP.tuple)
        refine bodyPost_ret (v := .tuple #[.slice a n c, .bool b]) (by simp [results, Tryd.results33, go_sem]) rfl ?_
        rw [hS.out]
        exact hP
      · have e110 : t.k = 110 := eq_of_beq c110
        have hS : Hid (Rf.goalS (f' + 1) (t :: l) ns = .error (5, t.at_)) := by
          unfold Hid; simp only [Rf.goalS]; rw [if_neg (by omega), Rf.termS, if_neg (by omega), if_pos e110]; rfl
        have HX : Hid (Rf.errOf t 5 = (5, t.at_)) := errOf_no t 5 (by rw [e110]; decide)
        have hq : Rf.kindOf t.k = 4 := by rw [e110]; rfl
        rw [hq] at q1
        clear e110 hq c110 c118 c33
        go_enter Tryd.func33, Tryd.ntmps33
        go_wp2_with (go_at_call 34; refine (refuse_any _ r text nb t l ns 5 H.out (by decide)).mono ?_; rintro e w7 ⟨rfl, hE7, hK7⟩; rw [HX.out] at hE7)
        refine bodyPost_ret (v := .tuple #[.slice none 0 0, .bool false]) (by simp [results, Tryd.results33, go_sem]) rfl ?_
        rw [hS.out]
        exact ⟨hK7.mono (fun _ _ e => Or.inl e), rfl, hE7⟩
    · have e118 : t.k = 118 := eq_of_beq c118
      have hS : Hid (Rf.goalS (f' + 1) (t :: l) ns = match Rf.varS t ns with | .error e => .error e | .ok _ => .error (5, t.at_)) := by
        unfold Hid; simp only [Rf.goalS]; rw [if_neg (by omega), Rf.termS, if_pos e118]; unfold Rf.varT
        cases Rf.varS t ns <;> rfl
      have HX : Hid (Rf.errOf t 5 = (5, t.at_)) := errOf_no t 5 (by rw [e118]; decide)
      have hq : Rf.kindOf t.k = 3 := by rw [e118]; rfl
      rw [hq] at q1
      have H118 : Hid _ := e118
      clear e118 hq c118 c33
      cases hv : Rf.varS t ns with
      | error x =>
        obtain ⟨e, q⟩ := x
        have HV : Hid _ := hv
        clear hv
        go_enter Tryd.func33, Tryd.ntmps33
        go_wp2_with (go_at_call 54; refine (which_any _ r text nb t l ns H.out H118.out).mono ?_; rintro x w1 ⟨hK1, hm⟩; rw [HV.out] at hm; obtain ⟨rfl, hE1⟩ := hm)
        refine bodyPost_ret (v := .tuple #[.slice none 0 0, .bool false]) (by simp [results, Tryd.results33, go_sem]) rfl ?_
        rw [hS.out, HV.out]
        exact ⟨hK1, rfl, hE1⟩
      | ok x =>
        obtain ⟨i, ns'⟩ := x
        have HV : Hid _ := hv
        clear hv
        go_enter Tryd.func33, Tryd.ntmps33
        go_wp2_with (first
          | (go_at_call 54; refine (which_any _ r text nb t l ns H.out H118.out).mono ?_; rintro x w1 ⟨hK1, hm⟩; rw [HV.out] at hm; obtain ⟨rfl, hi16, nb1, hP1, hNb1⟩ := hm)
          | (go_at_call 34; refine (refuse_any _ r text nb1 t l ns' 5 hP1 (by decide)).mono ?_; rintro e w7 ⟨rfl, hE7, hK7⟩; rw [HX.out] at hE7))
        refine bodyPost_ret (v := .tuple #[.slice none 0 0, .bool false]) (by simp [results, Tryd.results33, go_sem]) rfl ?_
        rw [hS.out, HV.out]
        exact ⟨hK1.trans hK7 (fun _ _ e => Or.inl e), rfl, hE7⟩
  · have e33 : t.k = 33 := eq_of_beq c33
    have H0 : Hid (t.k ≠ 0) := by unfold Hid; omega
    have H63 : Hid (t.k ≠ 63) := by unfold Hid; omega
    have hS : Hid (Rf.goalS (f' + 1) (t :: l) ns = .ok ([⟨4, ⟨#[]⟩, 0, 0⟩], l, ns)) := by unfold Hid; simp only [Rf.goalS]; rw [if_pos e33]
    have hq : Rf.kindOf t.k = 9 := by rw [e33]; rfl
    rw [hq] at q1
    clear e33 hq c33
    go_enter Tryd.func33, Tryd.ntmps33
    go_wp2_with (go_at_call 20; refine (step_any _ r text nb t l ns H.out H0.out H63.out).mono ?_; rintro e w2 ⟨rfl, hP2, hK2⟩)
    refine bodyPost_ret (v := .tuple #[.slice (some ⟨w2.heap.size, 0, none⟩) 1 1, .bool true]) (by simp [results, Tryd.results33, go_sem]) rfl ?_
    rw [hS.out]
    have hs2 := hK2.size
    exact ⟨(hK2.mono (fun _ _ e => Or.inl e)).alloc _, _, _, _, nb, rfl, hP2.alloc _, .inl rfl, row_new (blk_new _ _) rfl rfl (by omega), fun e => by have := hnl _ e; omega⟩
end Go.Proofs.YtpdikdnffehmkaaDoor
