/- The program's question (play: meet, dropTo, use): the plain functions' answers. -/
import Derived.Test.YtpdikdnffehmkaaGreatDoorYbf
namespace Go.Proofs.YtpdikdnffehmkaaGreatDoor
open Go.RowKit
variable {nm : Value}
/-- A question whose block is written at one cell. -/
theorem QB.set {w : World} {q : Nat} {cs : Array Value} {t : TypeId} (h : w.heap[q]? = some (.cells cs t (0, 0))) (i : Nat) (u : Value) : (w.setCell ⟨q, i, none⟩ u).heap[q]? = some (.cells (cs.setIfInBounds i u) t (0, 0)) := blk_set h i u
theorem kept_q {w : World} {q : Nat} {rb : Option Nat} (i : Nat) (u : Value) : Kept (May q rb) w (w.setCell ⟨q, i, none⟩ u) := (Kept.refl _ w).setCell (p := ⟨q, i, none⟩) (.inr (.inl rfl)) u
theorem QIs.rq {w : World} {q : Nat} {rb : Option Nat} {vN vg vt vC : Value} {fr : Int} {names : List ByteArray} {cf : Rf.Cf} (h : QIs w q rb vN vg vt fr vC names cf) : rb ≠ some q := by
  intro e
  obtain ⟨acc, hr, _, _⟩ := h.r.ex
  obtain ⟨cs', hc'⟩ := hr.typed q (h.o.trans e)
  have hb := h.b
  unfold QB at hb
  rw [hb] at hc'
  injection hc' with h3; injection h3 with _ h4
  exact absurd h4 (by decide)
/-- What is seen is still seen behind a write into a question's block. -/
theorem Free.q {w : World} {q : Nat} {cs : Array Value} (h : w.heap[q]? = some (.cells cs 114 (0, 0))) : Free w (fun k => k = q) := by
  have key : ∀ t : TypeId, t ≠ 114 → ∀ k cs', w.heap[k]? = some (.cells cs' t (0, 0)) → ¬ k = q := by
    intro t ht k cs' hc e
    subst e
    rw [h] at hc
    injection hc with h3; injection h3 with _ h4
    exact ht h4.symm
  exact ⟨key _ (by decide), key _ (by decide), key _ (by decide), key _ (by decide), key _ (by decide)⟩
theorem kept_one {w : World} {q : Nat} (i : Nat) (u : Value) : Kept (fun k => k = q) w (w.setCell ⟨q, i, none⟩ u) := (Kept.refl (fun k => k = q) w).setCell (p := ⟨q, i, none⟩) (.inr rfl) u
/-- A new state for the question: its three cells are written. -/
theorem QIs.now {w w' : World} {q : Nat} {rb : Option Nat} {vN vg vt vC vg' vt' : Value} {fr fr' : Int} {names : List ByteArray} {cf : Rf.Cf} {S : Rf.St} (h : QIs w q rb vN vg vt fr vC names cf) (hk : Kept (fun k => k = q) w w') (hb : QB w' q vN vg' vt' fr' vC) (hs : StIs w vg' vt' fr' S) : QIs w' q rb vN vg' vt' fr' vC names ⟨S, cf.chs⟩ := by
  have hf := Free.q h.b
  have hrq := h.rq
  exact ⟨hb, Seen.kept h.n hk hf.s, hs.kept hk hf, h.r.kept hk hf (fun k e e2 => hrq (by rw [← h.o, e, e2])), h.o⟩
theorem SeenTs.pos {w : World} {a : Option Addr} {n c : Nat} {ts : List (List Rf.Part)} (h : SeenTs w (.slice a n c) ts) (hne : ts ≠ []) : ∃ g off, a = some ⟨g, off, none⟩ ∧ g < w.heap.size ∧ n = ts.length ∧ 1 ≤ n ∧ n ≤ c := by
  obtain ⟨acc, h1, h2, rfl⟩ := h.ex
  have hl : 1 ≤ (acc.map (·.1)).length := by
    cases acc with
    | nil => exact absurd rfl hne
    | cons => simp
  obtain ⟨g, off, rfl⟩ := h1.pos hl
  have hn := h1.len
  have hc := h1.cap
  rw [List.length_map] at hn hl hc
  exact ⟨g, off, rfl, h1.lt, by rw [List.length_map]; exact hn, by omega, by omega⟩
theorem SeenTs.tail1 {w : World} {g off n c : Nat} {ts : List (List Rf.Part)} (h : SeenTs w (.slice (some ⟨g, off, none⟩) n c) ts) (hc : c = 1) : SeenTs w (.slice (some ⟨g, off, none⟩) (ts.length - 1) 0) ts.tail := by
  obtain ⟨acc, h1, h2, rfl⟩ := h.ex
  refine ⟨acc.tail, ?_, fun q hq => h2 q (List.mem_of_mem_tail hq), by rw [List.map_tail]⟩
  have h3 := h1.dropEnd 1 hc
  rw [List.length_map] at h3
  rw [List.length_map, List.map_tail, ← List.drop_one]
  exact h3
theorem SeenTs.tail2 {w : World} {g off n c : Nat} {ts : List (List Rf.Part)} (h : SeenTs w (.slice (some ⟨g, off, none⟩) n c) ts) (hne : ts ≠ []) : SeenTs w (.slice (some ⟨g, off + 1, none⟩) (ts.length - 1) (c - 1)) ts.tail := by
  obtain ⟨acc, h1, h2, rfl⟩ := h.ex
  refine ⟨acc.tail, ?_, fun q hq => h2 q (List.mem_of_mem_tail hq), by rw [List.map_tail]⟩
  have h3 := h1.drop slCells_len 1 (by cases acc with | nil => exact absurd rfl hne | cons => simp)
  rw [List.length_map] at h3
  rw [List.length_map, List.map_tail, ← List.drop_one]
  exact h3
set_option maxHeartbeats 1000000 in
theorem pmeet_any (w : World) (q : Nat) (rb : Option Nat) (names : List ByteArray) (cf : Rf.Cf) (h : QAt nm w q rb names cf) (hne : cf.now.goals ≠ []) :
    Calls Tryz.prog 156 #[.pointer (some ⟨q, 0, none⟩)] w fun r w' => r = .returned (.int .i64 0) ∧ QAt nm w' q rb names (Rf.meetP cf).2 ∧ Kept (May q rb) w w' := by
  obtain ⟨vg, vt, fr, vC, hQ⟩ := h.ex
  obtain ⟨k0, k1, k2, k3, k4, kf, kl⟩ := hQ.b.facts
  obtain ⟨ag, cg, rfl⟩ := hQ.s.g.slice
  obtain ⟨g, off, rfl, hgl, _, hp1, hp2⟩ := hQ.s.g.pos hne
  have HQ : Hid _ := hQ
  have Hne : Hid _ := hne
  clear h hQ hne
  go_enter Tryz.func156, Tryz.ntmps156
  go_wp2_with fail
  all_goals
    go_ret
    refine ⟨rfl, ?_, kept_q _ _⟩
    refine (QIs.now (S := ⟨cf.now.goals.tail, cf.now.terms, cf.now.fresh⟩) HQ.out (kept_one _ _) (blk_set HQ.out.b 1 _) ⟨?_, HQ.out.s.t, HQ.out.s.f⟩).at
  · exact HQ.out.s.g.tail1 ‹_›
  · exact HQ.out.s.g.tail2 Hne.out
/-- The last of a row of choices is written over and dropped. -/
theorem row_setBeyond {α : Type} {w : World} {base : Nat} {e : TypeId} {size : Nat} {C : α → List Value} {g n cap : Nat} {xs : List α} (hC : ∀ x, (C x).length = size) (h : RowIs w base e size C (.slice (some ⟨g, 0, none⟩) n cap) xs) (j : Nat) (hj : n * size ≤ j) (u : Value) : RowIs (w.setCell ⟨g, j, none⟩ u) base e size C (.slice (some ⟨g, 0, none⟩) n cap) xs := by
  have hn := row_len h
  rcases h.own.2 with ⟨h1, _⟩ | ⟨g', cap', cur, h1, h2, h3, h4, h5, h6, h7⟩
  · cases h1
  · obtain ⟨rfl, rfl⟩ : g = g' ∧ cap = cap' := by injection h1 with a1 a2 a3; injection a1 with a1; injection a1 with a1; exact ⟨a1, a3⟩
    subst hn
    refine ⟨h.own.1, .inr ⟨g, cap, cur.setIfInBounds j u, rfl, h2, ?_, h4, h5, by simpa using h6, ?_⟩⟩
    · simp [World.setCell, Array.getElem?_modify, h3]
    · rw [Array.toList_setIfInBounds, List.take_set, h7]
      rw [List.set_eq_of_length_le]
      rw [flatMap_len C hC]; exact hj
theorem ChsAt.shape {w : World} {v : Value} {chs : List Rf.Ch} (h : ChsAt w v chs) : (v = .slice none 0 0 ∧ chs = []) ∨ ∃ g cap, v = .slice (some ⟨g, 0, none⟩) chs.length cap ∧ g < w.heap.size ∧ chs.length ≤ cap ∧ cap ≤ maxLen := by
  obtain ⟨acc, h1, _, h3⟩ := h.ex
  have hl : acc.length = chs.length := by have := congrArg List.length h3; simpa using this
  rcases h1.shape with ⟨e1, e2⟩ | ⟨g, cap, e1, _, e2⟩
  · refine .inl ⟨e1, ?_⟩
    have : acc = [] := by simpa using e2
    rw [this] at hl
    exact List.length_eq_zero_iff.1 hl.symm
  · rw [List.length_map, hl] at e1 e2
    exact .inr ⟨g, cap, e1, e2⟩
theorem acc_last {acc : List (ChV × Rf.Ch)} {c : Rf.Ch} {low : List Rf.Ch} (h : acc.map (·.2) = (c :: low).reverse) : ∃ acc' x, acc = acc' ++ [(x, c)] ∧ acc'.map (·.2) = low.reverse := by
  rw [List.reverse_cons] at h
  obtain ⟨a1, a2, e, h1, h2⟩ := List.map_eq_append_iff.1 h
  obtain ⟨y, rfl, hy⟩ := List.map_eq_singleton_iff.1 h2
  exact ⟨a1, y.1, by rw [e, ← hy], h1⟩
/-- The latest choice: its cells; and the row without it. -/
theorem ChsAt.last {w : World} {g n cap : Nat} {c : Rf.Ch} {low : List Rf.Ch} (h : ChsAt w (.slice (some ⟨g, 0, none⟩) n cap) (c :: low)) : ∃ x, ChIs w x c ∧ (∀ j u, (chCells x)[j]? = some u → w.cell? ⟨g, low.length * 4 + j, none⟩ = some u) ∧ (∀ i, w.frozen? ⟨g, i, none⟩ = false) ∧ ChsAt w (.slice (some ⟨g, 0, none⟩) low.length cap) low := by
  obtain ⟨acc, h1, h2, h3⟩ := h.ex
  obtain ⟨acc', x, rfl, h4⟩ := acc_last h3
  have hl : acc'.length = low.length := by have := congrArg List.length h4; simpa using this
  have hn := row_len h1
  rw [List.map_append, List.length_append, List.length_map] at hn
  simp only [List.map_cons, List.map_nil, List.length_cons, List.length_nil] at hn
  rw [hn] at h1
  rw [List.map_append] at h1
  refine ⟨x, h2 (x, c) (by simp), fun j u hu => ?_, fun i => row_frozen h1 i, acc', ?_, fun y hy => h2 y (by simp [hy]), h4⟩
  · have h9 := h1.seen.cells chCells_len acc'.length x (by simp) j u hu
    rw [hl] at h9
    simpa using h9
  · have h9 := row_pop (n := acc'.length) chCells_len h1
    rw [hl] at h9
    exact h9
/-- Writing behind a row of choices. -/
theorem ChsAt.beyond {w : World} {g n cap : Nat} {chs : List Rf.Ch} (h : ChsAt w (.slice (some ⟨g, 0, none⟩) n cap) chs) (hf : Free w (fun k => k = g)) (j : Nat) (hj : n * 4 ≤ j) (u : Value) : ChsAt (w.setCell ⟨g, j, none⟩ u) (.slice (some ⟨g, 0, none⟩) n cap) chs := by
  obtain ⟨acc, h1, h2, h3⟩ := h.ex
  exact ⟨acc, row_setBeyond chCells_len h1 j hj u, fun x hx => (h2 x hx).kept (kept_one j u) hf, h3⟩
theorem ChsAt.slice {w : World} {v : Value} {chs : List Rf.Ch} (h : ChsAt w v chs) : ∃ a c, v = .slice a chs.length c := by
  rcases h.shape with ⟨rfl, rfl⟩ | ⟨g, cap, rfl, _⟩
  · exact ⟨_, _, rfl⟩
  · exact ⟨_, _, rfl⟩
theorem QIs.turn {w w' : World} {q : Nat} {rb rb' : Option Nat} {vN vg vt vC vg' vt' vC' : Value} {fr fr' : Int} {names : List ByteArray} {cf cf' : Rf.Cf} (h : QIs w q rb vN vg vt fr vC names cf) (hk : Kept (May q rb) w w') (hb : QB w' q vN vg' vt' fr' vC') (hs : StIs w' vg' vt' fr' cf'.now) (hr : ChsAt w' vC' cf'.chs) (ho : vC'.ownBlock = rb') : QIs w' q rb' vN vg' vt' fr' vC' names cf' := ⟨hb, Seen.kept h.n hk h.free.s, hs, hr, ho⟩
/-- The latest choice is dropped. -/
theorem QIs.drop {w : World} {q : Nat} {rb : Option Nat} {vN vg vt : Value} {fr : Int} {g n m cap : Nat} {names : List ByteArray} {cf : Rf.Cf} {low : List Rf.Ch} (h : QIs w q rb vN vg vt fr (.slice (some ⟨g, 0, none⟩) n cap) names cf) (hlo : ChsAt w (.slice (some ⟨g, 0, none⟩) m cap) low) (u0 u1 u2 u3 : Value) : QAt vN (((((w.setCell ⟨g, m * 4, none⟩ u0).setCell ⟨g, m * 4 + 1, none⟩ u1).setCell ⟨g, m * 4 + 2, none⟩ u2).setCell ⟨g, m * 4 + 3, none⟩ u3).setCell ⟨q, 4, none⟩ (.slice (some ⟨g, 0, none⟩) m cap)) q rb names ⟨cf.now, low⟩ ∧ Kept (May q rb) w (((((w.setCell ⟨g, m * 4, none⟩ u0).setCell ⟨g, m * 4 + 1, none⟩ u1).setCell ⟨g, m * 4 + 2, none⟩ u2).setCell ⟨g, m * 4 + 3, none⟩ u3).setCell ⟨q, 4, none⟩ (.slice (some ⟨g, 0, none⟩) m cap)) := by
  have hrb : rb = some g := h.o.symm
  have hqg : ¬ q = g := fun e => h.rq (by rw [hrb, e])
  have hM : May q rb g := .inr hrb.symm
  have hk4 : Kept (May q rb) w ((((w.setCell ⟨g, m * 4, none⟩ u0).setCell ⟨g, m * 4 + 1, none⟩ u1).setCell ⟨g, m * 4 + 2, none⟩ u2).setCell ⟨g, m * 4 + 3, none⟩ u3) := ((((Kept.refl _ w).setCell (p := ⟨g, _, none⟩) (.inr hM) u0).setCell (p := ⟨g, _, none⟩) (.inr hM) u1).setCell (p := ⟨g, _, none⟩) (.inr hM) u2).setCell (p := ⟨g, _, none⟩) (.inr hM) u3
  have hk5 := hk4.setCell (p := ⟨q, 4, none⟩) (.inr (.inl rfl)) (.slice (some ⟨g, 0, none⟩) m cap)
  have hkg : Kept (fun k => k = g) w ((((w.setCell ⟨g, m * 4, none⟩ u0).setCell ⟨g, m * 4 + 1, none⟩ u1).setCell ⟨g, m * 4 + 2, none⟩ u2).setCell ⟨g, m * 4 + 3, none⟩ u3) := ((((Kept.refl (fun k => k = g) w).setCell (p := ⟨g, _, none⟩) (.inr rfl) u0).setCell (p := ⟨g, _, none⟩) (.inr rfl) u1).setCell (p := ⟨g, _, none⟩) (.inr rfl) u2).setCell (p := ⟨g, _, none⟩) (.inr rfl) u3
  refine ⟨(QIs.turn (cf' := ⟨cf.now, low⟩) h hk5 (blk_set ((hkg.block q (blk_lt h.b) hqg).trans h.b) 4 _) (h.s.kept hk5 h.free) ?_ hrb.symm).at, hk5⟩
  obtain ⟨acc, h1, h2, h3⟩ := hlo.ex
  refine ⟨acc, ?_, fun x hx => (h2 x hx).kept hk5 h.free, h3⟩
  exact (row_setBeyond chCells_len (row_setBeyond chCells_len (row_setBeyond chCells_len (row_setBeyond chCells_len h1 _ (by omega) u0) _ (by omega) u1) _ (by omega) u2) _ (by omega) u3).setCell _ _ (fun e => hqg (by injection e with e; exact e.symm))
set_option maxHeartbeats 1000000 in
set_option maxRecDepth 100000 in
theorem pdropTo_any (w : World) (q : Nat) (rb : Option Nat) (names : List ByteArray) (cf : Rf.Cf) (ht : Int) (h : QAt nm w q rb names cf) (hl : cf.chs.length ≤ 20) :
    Calls Tryz.prog 119 #[.pointer (some ⟨q, 0, none⟩), .int .i64 ht] w fun r w' => r = .returned (.tuple #[]) ∧ QAt nm w' q rb names ⟨cf.now, Rf.dropC cf.chs ht⟩ ∧ Kept (May q rb) w w' := by
  obtain ⟨vg, vt, fr, vC, hQ⟩ := h.ex
  obtain ⟨k0, k1, k2, k3, k4, kf, kl⟩ := hQ.b.facts
  obtain ⟨ac, cc, rfl⟩ := hQ.r.slice
  have HQ : Hid _ := h
  clear h hQ
  obtain ⟨n0, hn0⟩ : ∃ n, Hid (cf.chs.length = n) := ⟨_, rfl⟩
  rw [hn0.out] at hl k4
  go_enter Tryz.func119, Tryz.ntmps119
  go_wp2_with fail
  clear k0 k1 k2 k3 k4 kf kl
  go_loopw [4] (fun iv wr => ∃ m : Nat, m ≤ n0 ∧ iv = .int .i64 ((m : Int) - 1) ∧ Hid (ht.toNat ≤ m ∨ n0 = m) ∧ QAt nm wr q rb names ⟨cf.now, cf.chs.drop (n0 - m)⟩ ∧ Kept (May q rb) w wr) (fun iv _ => (intOf iv + 1).toNat)
  case atStart => exact ⟨n0, Nat.le_refl _, rfl, .inr rfl, by rw [Nat.sub_self, List.drop_zero]; exact HQ.out, Kept.refl _ _⟩
  case round =>
    obtain ⟨m, hm, rfl, hh, hQ, hk⟩ := hrel
    by_cases hgo : 1 ≤ m ∧ ht ≤ (m : Int) - 1
    · obtain ⟨m, rfl⟩ : ∃ m', m = m' + 1 := ⟨m - 1, by omega⟩
      obtain ⟨vg, vt, fr, vC, hQ⟩ := hQ.ex
      obtain ⟨c, low, hcl⟩ : ∃ c low, cf.chs.drop (n0 - (m + 1)) = c :: low := by
        cases hd : cf.chs.drop (n0 - (m + 1)) with
        | nil => have := congrArg List.length hd; rw [List.length_drop, hn0.out] at this; simp at this; omega
        | cons c low => exact ⟨c, low, rfl⟩
      have hlow : Hid (cf.chs.drop (n0 - m) = low) := by
        unfold Hid
        have h9 := congrArg List.tail hcl
        rw [List.tail_drop, List.tail_cons] at h9
        rw [← h9]; congr 1; omega
      have hll : low.length = m := by have h9 := congrArg List.length hcl; rw [List.length_drop, hn0.out, List.length_cons] at h9; omega
      rw [hcl] at hQ
      obtain ⟨k0, k1, k2, k3, k4, kf, kl⟩ := hQ.b.facts
      rcases hQ.r.shape with ⟨_, e⟩ | ⟨g, cap, rfl, hgl, hcap, hmax⟩
      · cases e
      rw [List.length_cons, hll] at hcap k4
      obtain ⟨x, hx, hxc, hxf, hlo⟩ := hQ.r.last
      rw [hll] at hxc hlo
      have x0 := hxc 0 _ rfl
      have x1 := hxc 1 _ rfl
      have x2 := hxc 2 _ rfl
      have x3 := hxc 3 _ rfl
      rw [Nat.add_zero] at x0
      have HQ1 : Hid _ := hQ
      have HLo : Hid _ := hlo
      have Hh := hh
      clear hQ hcl hx hxc hlo
      rw [show (((m + 1 : Nat) : Int) - 1) = (m : Int) by omega]
      have h2 : ht ≤ (m : Int) := by omega
      have hqg : ¬ g = q := fun e => HQ1.out.rq (by rw [← HQ1.out.o, e]; rfl)
      have hqg' : ¬ q = g := fun e => hqg e.symm
      go_wp2_with fail
      go_roundw
      case rel =>
        obtain ⟨r1, r2⟩ := QIs.drop HQ1.out HLo.out (.slice none 0 0) (.slice none 0 0) (.int .i64 0) (.slice none 0 0)
        exact ⟨m, by omega, rfl, by unfold Hid; omega, by rw [hlow.out]; exact r1, hk.trans r2 (fun _ _ h => h)⟩
      case measure => simp [intOf]
    · have hd : Hid (Rf.dropC cf.chs ht = cf.chs.drop (n0 - m)) := by
        unfold Hid Rf.dropC
        rw [hn0.out]
        have := hh.out
        congr 1
        omega
      by_cases h0 : (m : Int) - 1 < 0
      · have h0' : ¬ (0 ≤ (m : Int) - 1) := by omega
        go_wp2_with fail
        go_end0
        exact ⟨rfl, by rw [hd.out]; exact hQ, hk⟩
      · have h1 : ¬ ht ≤ (m : Int) - 1 := by omega
        have h0' : 0 ≤ (m : Int) - 1 := by omega
        go_wp2_with fail
        go_end0
        exact ⟨rfl, by rw [hd.out]; exact hQ, hk⟩
end Go.Proofs.YtpdikdnffehmkaaGreatDoor
/- The program's question (play: use): the plain functions' answers. -/
namespace Rf
theorem matchN_snoc (S : St) (c : Cl) : ∀ (i : Nat) (cs : List Cl), matchN S i (cs ++ [c]) = matchN S i cs ++ (if matchB S c = true then [i + cs.length] else [])
  | _, [] => by simp [matchN]
  | i, d :: cs => by
    rw [List.cons_append, matchN, matchN, matchN_snoc S c (i + 1) cs, List.length_cons, List.append_assoc, show i + 1 + cs.length = i + (cs.length + 1) by omega]
end Rf
namespace Go.Proofs.YtpdikdnffehmkaaGreatDoor
open Go.RowKit
variable {nm : Value}
theorem QIs.now3 {w : World} {q : Nat} {rb : Option Nat} {vN vg vt vC vg' vt' : Value} {fr fr' : Int} {names : List ByteArray} {cf : Rf.Cf} {S : Rf.St} (h : QIs w q rb vN vg vt fr vC names cf) (hs : StIs w vg' vt' fr' S) : QIs (((w.setCell ⟨q, 1, none⟩ vg').setCell ⟨q, 2, none⟩ vt').setCell ⟨q, 3, none⟩ (.int .i64 fr')) q rb vN vg' vt' fr' vC names ⟨S, cf.chs⟩ ∧ Kept (May q rb) w (((w.setCell ⟨q, 1, none⟩ vg').setCell ⟨q, 2, none⟩ vt').setCell ⟨q, 3, none⟩ (.int .i64 fr')) := by
  refine ⟨QIs.now h ((((Kept.refl (fun k => k = q) w).setCell (p := ⟨q, 1, none⟩) (.inr rfl) _).setCell (p := ⟨q, 2, none⟩) (.inr rfl) _).setCell (p := ⟨q, 3, none⟩) (.inr rfl) _) (blk_set (blk_set (blk_set h.b 1 _) 2 _) 3 _) hs, (((Kept.refl _ w).setCell (p := ⟨q, 1, none⟩) (.inr (.inl rfl)) _).setCell (p := ⟨q, 2, none⟩) (.inr (.inl rfl)) _).setCell (p := ⟨q, 3, none⟩) (.inr (.inl rfl)) _⟩
set_option maxHeartbeats 1000000 in
set_option maxRecDepth 100000 in
theorem puse_any (w : World) (q : Nat) (rb : Option Nat) (names : List ByteArray) (cf : Rf.Cf) (vg vt : Value) (fr : Int) (S : Rf.St) (hx bx : SlV) (c : Rf.Cl) (ht : Int) (N : Nat) (F : Int) (h : QAt nm w q rb names cf) (hS : StIs w vg vt fr S) (hG : Rf.StG N F S) (hN : N ≤ 9000) (hF : F ≤ 1000000) (hne : S.goals ≠ []) (hC : SeenCl w hx bx c) (hc : Rf.ClG c) :
    Calls Tryz.prog 120 #[.pointer (some ⟨q, 0, none⟩), .agg #[vg, vt, .int .i64 fr], .agg #[.slice hx.a hx.n hx.c, .slice bx.a bx.n bx.c], .int .i64 ht] w fun r w' => r = .returned (.int .i64 (Rf.useP cf S c ht).1) ∧ QAt nm w' q rb names (Rf.useP cf S c ht).2 ∧ Kept (May q rb) w w' := by
  obtain ⟨ug, ut, ur, vC, hQ⟩ := h.ex
  have HQ : Hid _ := hQ
  have HW : Hid _ := fun w' => @pwith_any w' vg vt fr ht S hx bx c N
  have HS : Hid _ := hS
  have HO : Hid _ := StG.ok hG hF
  have HC : Hid _ := hC
  have HCG : Hid _ := ClG.ok hc
  have Hne : Hid _ := hne
  obtain ⟨sa, sc, rfl⟩ := hS.g.slice
  obtain ⟨ta, tc, rfl⟩ := hS.t.slice
  clear h hQ hS hG hC hc hne
  obtain ⟨o, ho⟩ : ∃ o, Hid ((Rf.withS S c ht).1 = o) := ⟨_, rfl⟩
  have HU : Hid (Rf.useP cf S c ht = (o, if o = 0 then ⟨(Rf.withS S c ht).2, cf.chs⟩ else cf)) := by unfold Hid Rf.useP; rw [ho.out]
  by_cases h0 : o = 0
  · subst h0
    have HU0 : Hid (Rf.useP cf S c ht = (0, ⟨(Rf.withS S c ht).2, cf.chs⟩)) := HU.out
    clear HU
    go_enter Tryz.func120, Tryz.ntmps120
    go_wp2_with (go_at_call 155; refine (pwith_any _ (.slice sa S.goals.length sc) (.slice ta S.terms.length tc) fr ht S hx bx c N (HS.out.below (by repeat (first | exact Below.refl _ _ | refine Below.setCell ?_ (by simp <;> omega) _ | refine Below.drew ?_ | refine Below.drewN ?_ _ | refine Below.alloc ?_ (by simp <;> omega) _))) HO.out hN Hne.out (HC.out.below (by repeat (first | exact Below.refl _ _ | refine Below.setCell ?_ (by simp <;> omega) _ | refine Below.drew ?_ | refine Below.drewN ?_ _ | refine Below.alloc ?_ (by simp <;> omega) _))) HCG.out).mono ?_; rintro r w1 ⟨a3, n3, c3, a4, n4, c4, fr', rfl, hS1, hb1⟩; rw [ho.out]; have hbw : Below w.heap.size w w1 := Below.trans ((by repeat (first | exact Below.refl _ _ | refine Below.setCell ?_ (by simp <;> omega) _ | refine Below.drew ?_ | refine Below.drewN ?_ _ | refine Below.alloc ?_ (by simp <;> omega) _)) : Below w.heap.size w ((w.alloc _).alloc _)) (hb1.mono (by simp only [World.size_alloc]; omega)); have hz := hbw.size; have hQ1 := HQ.out.below hbw; obtain ⟨k0, k1, k2, k3, k4, kf, kl⟩ := hQ1.b.facts)
    go_ret
    rw [HU0.out]
    obtain ⟨r1, r2⟩ := QIs.now3 hQ1 hS1
    refine ⟨rfl, (r1.below ((Below.refl _ _).alloc (Nat.le_refl _) _)).at, ?_⟩
    exact ((Kept.of_below hbw _).trans r2 (fun _ _ h => h)).alloc _
  · have h0' : (o == 0) = false := beq_eq_false_iff_ne.2 h0
    go_enter Tryz.func120, Tryz.ntmps120
    go_wp2_with (go_at_call 155; refine (pwith_any _ (.slice sa S.goals.length sc) (.slice ta S.terms.length tc) fr ht S hx bx c N (HS.out.below (by repeat (first | exact Below.refl _ _ | refine Below.setCell ?_ (by simp <;> omega) _ | refine Below.drew ?_ | refine Below.drewN ?_ _ | refine Below.alloc ?_ (by simp <;> omega) _))) HO.out hN Hne.out (HC.out.below (by repeat (first | exact Below.refl _ _ | refine Below.setCell ?_ (by simp <;> omega) _ | refine Below.drew ?_ | refine Below.drewN ?_ _ | refine Below.alloc ?_ (by simp <;> omega) _))) HCG.out).mono ?_; rintro r w1 ⟨a3, n3, c3, a4, n4, c4, fr', rfl, hS1, hb1⟩; rw [ho.out]; have hbw : Below w.heap.size w w1 := Below.trans ((by repeat (first | exact Below.refl _ _ | refine Below.setCell ?_ (by simp <;> omega) _ | refine Below.drew ?_ | refine Below.drewN ?_ _ | refine Below.alloc ?_ (by simp <;> omega) _)) : Below w.heap.size w ((w.alloc _).alloc _)) (hb1.mono (by simp only [World.size_alloc]; omega)); have hz := hbw.size; have hQ1 := HQ.out.below hbw; obtain ⟨k0, k1, k2, k3, k4, kf, kl⟩ := hQ1.b.facts)
    go_ret
    rw [HU.out, if_neg h0]
    refine ⟨rfl, ?_, ?_⟩
    · exact (hQ1.below (by repeat (first | exact Below.refl _ _ | refine Below.setCell ?_ (by simp <;> omega) _ | refine Below.drew ?_ | refine Below.drewN ?_ _ | refine Below.alloc ?_ (by simp <;> omega) _))).at
    · exact Kept.of_below (hbw.trans ((Below.refl _ w1).alloc hz _)) _
theorem SeenTs.first {w : World} {g off n c : Nat} {ts : List (List Rf.Part)} (h : SeenTs w (.slice (some ⟨g, off, none⟩) n c) ts) (hne : ts ≠ []) : ∃ x : SlV, w.cell? ⟨g, off, none⟩ = some (.slice x.a x.n x.c) ∧ Seen w 117 partCells (.slice x.a x.n x.c) (ts.headD []) := by
  obtain ⟨acc, h1, h2, rfl⟩ := h.ex
  cases acc with
  | nil => exact absurd rfl hne
  | cons y acc => exact ⟨y.1, by simpa using Seen.termAt h1 0 y.1 (by simp), h2 y (by simp)⟩
theorem Seen.natAt {w : World} {g off n c : Nat} {xs : List Nat} (h : Seen w 3 natCells (.slice (some ⟨g, off, none⟩) n c) xs) (k : Nat) (x : Nat) (hx : xs[k]? = some x) : w.cell? ⟨g, off + k, none⟩ = some (.int .i64 (x : Nat)) := by
  have := h.cells natCells_len k x hx 0 _ rfl
  simpa using this
theorem SeenCls.at {w : World} {a : Option Addr} {n c : Nat} {cls : List Rf.Cl} (h : SeenCls w (.slice a n c) cls) (k : Nat) (hk : k < cls.length) : ∃ (g off : Nat) (x : PClV), a = some ⟨g, off, none⟩ ∧ g < w.heap.size ∧ n = cls.length ∧ SeenCl w x.h x.b (cls.getD k Rf.noCl) ∧ w.cell? ⟨g, off + k * 2, none⟩ = some (.slice x.h.a x.h.n x.h.c) ∧ w.cell? ⟨g, off + k * 2 + 1, none⟩ = some (.slice x.b.a x.b.n x.b.c) := by
  obtain ⟨acc, h1, h2, rfl⟩ := h.ex
  rw [List.length_map] at hk
  obtain ⟨g, off, rfl⟩ := h1.pos (by rw [List.length_map]; omega)
  have hx : (acc.map (·.1))[k]? = some acc[k].1 := by simp [hk]
  have c0 := h1.cells pclCells_len k _ hx 0 _ rfl
  have c1 := h1.cells pclCells_len k _ hx 1 _ rfl
  refine ⟨g, off, acc[k].1, rfl, h1.lt, ?_, ?_, ?_, ?_⟩
  · have := h1.len; rw [List.length_map] at this ⊢; exact this
  · have h3 := h2 acc[k] (List.getElem_mem hk)
    rw [List.getD_eq_getElem?_getD, List.getElem?_map, List.getElem?_eq_getElem hk]
    exact h3
  · simpa using c0
  · rw [Nat.add_assoc]; exact c1
end Go.Proofs.YtpdikdnffehmkaaGreatDoor
