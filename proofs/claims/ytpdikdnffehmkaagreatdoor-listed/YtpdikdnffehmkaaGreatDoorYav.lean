/- What the program's reader does at a clause (read: clause). -/
import Derived.Test.YtpdikdnffehmkaaGreatDoorYau
namespace Rf
theorem tokenAt_kinds (s : ByteArray) (n : Nat) : (tokenAt s n).k = 63 ∨ (tokenAt s n).k = 97 ∨ (tokenAt s n).k = 118 ∨ (tokenAt s n).k = 110 ∨ (tokenAt s n).k = 40 ∨ (tokenAt s n).k = 41 ∨ (tokenAt s n).k = 44 ∨ (tokenAt s n).k = 46 ∨ (tokenAt s n).k = 33 ∨ (tokenAt s n).k = 58 := by
  unfold tokenAt numTok wordTok bad
  repeat' split
  all_goals (first | (simp; done) | (rename_i h; unfold markB at h; simp at h; simp; omega))
theorem kindOf_10 {k : Int} (hk : k = 0 ∨ k = 63 ∨ k = 97 ∨ k = 118 ∨ k = 110 ∨ k = 40 ∨ k = 41 ∨ k = 44 ∨ k = 46 ∨ k = 33 ∨ k = 58) : (kindOf k == 10) = (k == 58) := by
  rcases hk with rfl | rfl | rfl | rfl | rfl | rfl | rfl | rfl | rfl | rfl | rfl <;> decide
theorem kindOf_8 {k : Int} : (kindOf k != 8) = (k != 46) := by
  by_cases h : k = 46
  · subst h; decide
  · rw [bne_iff_ne.2 h, bne_iff_ne]
    unfold kindOf; repeat' split
    all_goals omega
theorem kindOf_0 {k : Int} : (kindOf k != 0) = (k != 0) := by
  by_cases h : k = 0
  · subst h; decide
  · rw [bne_iff_ne.2 h, bne_iff_ne]
    unfold kindOf; repeat' split
    all_goals omega
end Rf
namespace Go.Proofs.YtpdikdnffehmkaaGreatDoor
open Go.RowKit
theorem Pr.kind10 {w : World} {r : Nat} {text : ByteArray} {nb : Option Nat} {t : Rf.Tok} {l : List Rf.Tok} {ns : List ByteArray} (h : Pr w r text nb (t :: l) ns) : (Rf.kindOf t.k == 10) = (t.k == 58) := by
  obtain ⟨K, f, to, C, vN, hB, ht, hr, _⟩ := h.toks
  apply Rf.kindOf_10
  by_cases h0 : t.k = 0
  · exact .inl h0
  · by_cases h63 : t.k = 63
    · exact .inr (.inl h63)
    · have := (hr h0 h63).2.2
      rw [this]
      exact .inr (Rf.tokenAt_kinds _ _)
theorem Pr.unnamed {w : World} {r : Nat} {text : ByteArray} {nb : Option Nat} {l : List Rf.Tok} {ns : List ByteArray} (h : Pr w r text nb l ns) : Pr (w.setCell ⟨r, 5, none⟩ (.slice none 0 0)) r text none l [] := by
  obtain ⟨K, f, to, C, vN, hB, hat, he, hs, hrow, hnb, hr', h16⟩ := h.ex
  exact ⟨K, f, to, C, _, blk_set hB 5 _, hat, he, hs, RowIs.nil _ _ _ _ _, rfl, by simp, by simp⟩
/-- A clause in memory: its head's row, its body's row. -/
def PClAt (F : Nat → Prop) (w : World) (hx bx : SlV) (cl : Rf.Cl) : Prop :=
  PT F w (slv hx) cl.head ∧ ∃ acc : List (SlV × List Rf.Part), RowIs w 0 83 1 slCells (slv bx) (acc.map (·.1)) ∧ (∀ k, (slv bx).ownBlock = some k → F k) ∧ (∀ q ∈ acc, PT F w (slv q.1) q.2) ∧ cl.body = acc.map (·.2) ∧ acc.length ≤ 8
theorem PClAt.keptBy {F F' M : Nat → Prop} {w w' : World} {hx bx : SlV} {cl : Rf.Cl} (h : PClAt F w hx bx cl) (hk : Kept M w w') (hF : ∀ k, k < w.heap.size → F k → ¬ M k ∧ F' k) : PClAt F' w' hx bx cl := by
  obtain ⟨h1, acc, h2, h3, h4, h5⟩ := h
  exact ⟨h1.keptBy hk hF, acc, h2.keptBy hk (fun k e => (hF k (h2.lt k e).2 (h3 k e)).1), fun k e => (hF k (h2.lt k e).2 (h3 k e)).2, fun q hq => (h4 q hq).keptBy hk hF, h5⟩
def PClausePost (w : World) (r : Nat) (text : ByteArray) (nb : Option Nat) (res : Except (Int × Nat) (Rf.Cl × List Rf.Tok)) (x : Ending) (w' : World) : Prop :=
  Kept (May r nb) w w' ∧
  (match res with
   | .ok (cl, l') => ∃ (hx bx : SlV) (nb' : Option Nat) (ns' : List ByteArray), x = .returned (.tuple #[.agg #[.slice hx.a hx.n hx.c, .slice bx.a bx.n bx.c], .bool true]) ∧ Pr w' r text nb' l' ns' ∧ (∀ y, nb' = some y → w.heap.size ≤ y) ∧ PClAt (New w w' nb') w' hx bx cl
   | .error (e, q) => x = .returned (.tuple #[.agg #[.slice none 0 0, .slice none 0 0], .bool false]) ∧ PrE w' r e q)
theorem New.over {w w1 w2 : World} {r : Nat} {nb1 nb2 : Option Nat} (hr : r < w.heap.size) (hk : Kept (May r nb1) w1 w2) (hn : Nb w1 nb1 nb2) : ∀ k, k < w1.heap.size → New w w1 nb1 k → ¬ May r nb1 k ∧ New w w2 nb2 k := by
  intro k hk1 hF
  have hs := hk.size
  refine ⟨fun e => ?_, hF.1, by omega, hn.ne hF.2.2 hk1⟩
  rcases e with e | e
  · have := hF.1; omega
  · exact hF.2.2 e.symm
def Gn (w : World) (N : Nat) : Prop := w.heap[N]? = some (.cells #[.slice none 0 0, .slice none 0 0] 85 (0, 0))
theorem Gn.over {w w' : World} {N r : Nat} {nb : Option Nat} (h : Gn w N) (hk : Kept (May r nb) w w') (hr : ¬ N = r) (hn : nb ≠ some N) : Gn w' N :=
  (hk.block N (blk_lt h) (fun e => by rcases e with e | e; exact hr e; exact hn e.symm)).trans h
theorem PrE.setOther {w : World} {r g i : Nat} {E P : Int} (h : PrE w r E P) (v : Value) (hr : ¬ r = g) : PrE (w.setCell ⟨g, i, none⟩ v) r E P :=
  h.keptBy ((Kept.refl (fun k => k = g) w).setCell (p := ⟨g, i, none⟩) (Or.inr rfl) v) hr
theorem kept_may {w w' : World} {r : Nat} {nb : Option Nat} (h : Kept (fun k => k = r) w w') : Kept (May r nb) w w' := h.mono (fun _ _ e => Or.inl e)
/-- What holds behind a clause's head: w0 is where it began. -/
structure CHead (w0 w1 : World) (N r : Nat) (nb1 : Option Nat) (v : Value) (p : List Rf.Part) : Prop where
  gn : Gn w1 N
  size : N + 1 = w0.heap.size
  kept : Kept (May r none) w0 w1
  nbN : nb1 ≠ some N
  nbNew : ∀ y, nb1 = some y → N ≤ y
  term : PT (New w0 w1 nb1) w1 v p
theorem CHead.over {w0 w1 w2 : World} {N r : Nat} {nb1 nb2 : Option Nat} {v : Value} {p : List Rf.Part} (h : CHead w0 w1 N r nb1 v p) (hr : r < N) (hk : Kept (May r nb1) w1 w2) (hn : Nb w1 nb1 nb2) : CHead w0 w2 N r nb2 v p := by
  have hs := h.size
  have hk0 := h.kept.size
  refine ⟨h.gn.over hk (by omega) h.nbN, hs, ?_, hn.ne h.nbN (by omega), ?_, h.term.keptBy hk (New.over (by omega) hk hn)⟩
  · refine h.kept.trans hk (fun i hi e => ?_)
    rcases e with e | e
    · exact .inl e
    · have := h.nbNew i e.symm
      exact absurd (show nb1 = some N by rw [← e]; congr 1; omega) h.nbN
  · intro y e
    rcases hn with e2 | ⟨k, e2, hk2⟩
    · exact h.nbNew y (by rw [← e2, e])
    · rw [e] at e2; have := Option.some.inj e2; omega
theorem CHead.first {w0 w1 : World} {N r g n c : Nat} {nb1 : Option Nat} {p : List Rf.Part} (hG : Gn w0 N) (hs : N + 1 = w0.heap.size) (hr : r < N) (hk : Kept (May r none) w0 w1) (hn : Nb w0 none nb1) (hT : PTerm w1 w0.heap.size (.slice (some ⟨g, 0, none⟩) n c) p) (hng : nb1 ≠ some g) : CHead w0 w1 N r nb1 (.slice (some ⟨g, 0, none⟩) n c) p := by
  refine ⟨hG.over hk (by omega) (by simp), hs, hk, hn.ne (by simp) (by omega), fun y e => ?_, hT.pt hng⟩
  rcases hn with e2 | ⟨k, e2, hk2⟩
  · rw [e] at e2; cases e2
  · rw [e] at e2; have := Option.some.inj e2; omega
theorem CHead.facts {w0 w1 : World} {N r : Nat} {nb1 : Option Nat} {v : Value} {p : List Rf.Part} (h : CHead w0 w1 N r nb1 v p) : w1.cell? ⟨N, 0, none⟩ = some (.slice none 0 0) ∧ w1.cell? ⟨N, 1, none⟩ = some (.slice none 0 0) ∧ (∀ i, w1.frozen? ⟨N, i, none⟩ = false) ∧ N < w1.heap.size := ⟨blk_cell h.gn 0, blk_cell h.gn 1, blk_frozen h.gn, blk_lt h.gn⟩
theorem PrE.facts {w : World} {r : Nat} {E P : Int} (h : PrE w r E P) : r < w.heap.size := by
  obtain ⟨text, K, f, to, C, a, n, c, hB, hE⟩ := h.ex
  exact blk_lt hB
/-- A clause's end: the result's two cells are laid. -/
theorem clause_end {w w0 w5 : World} {N r : Nat} {text : ByteArray} {nb nb5 : Option Nat} {hx bx : SlV} {ps : List Rf.Part} {l : List Rf.Tok} {ns : List ByteArray} {acc : List (SlV × List Rf.Part)} {F : Nat → Prop} (hN : N = w.heap.size) (hr : r < N) (hkw : Kept (May r nb) w w0) (hC : CHead w0 w5 N r nb5 (slv hx) ps) (hP : Pr w5 r text nb5 l ns)
    (hrow : RowIs w5 0 83 1 slCells (slv bx) (acc.map (·.1))) (hown : ∀ k, (slv bx).ownBlock = some k → New w0 w5 nb5 k) (hgs : ∀ q ∈ acc, PT F w5 (slv q.1) q.2) (hF : ∀ k, F k → New w0 w5 nb5 k) (h8 : acc.length ≤ 8) (kv : Nat) (x y : Value) :
    Kept (May r nb) w ((w5.setCell ⟨N, 0, none⟩ x).setCell ⟨N, 1, none⟩ y) ∧ Pr ((w5.setCell ⟨N, 0, none⟩ x).setCell ⟨N, 1, none⟩ y) r text nb5 l ns ∧ (∀ y, nb5 = some y → w.heap.size ≤ y) ∧ PClAt (New w ((w5.setCell ⟨N, 0, none⟩ x).setCell ⟨N, 1, none⟩ y) nb5) ((w5.setCell ⟨N, 0, none⟩ x).setCell ⟨N, 1, none⟩ y) hx bx ⟨ps, acc.map (·.2), kv⟩ := by
  subst hN
  have hs := hC.size
  have hrN : ¬ r = w.heap.size := by omega
  have hk : Kept (fun k => k = w.heap.size) w5 ((w5.setCell ⟨w.heap.size, 0, none⟩ x).setCell ⟨w.heap.size, 1, none⟩ y) := ((Kept.refl (fun k => k = w.heap.size) w5).setCell (p := ⟨w.heap.size, 0, none⟩) (Or.inr rfl) _).setCell (p := ⟨w.heap.size, 1, none⟩) (Or.inr rfl) _
  have hFN : ∀ k, k < w5.heap.size → New w0 w5 nb5 k → ¬ k = w.heap.size ∧ New w ((w5.setCell ⟨w.heap.size, 0, none⟩ x).setCell ⟨w.heap.size, 1, none⟩ y) nb5 k := fun k _ h => ⟨by have := h.1; omega, by have := h.1; omega, by have := h.2.1; simpa using this, h.2.2⟩
  refine ⟨?_, (hP.setOther _ hrN hC.nbN).setOther _ hrN hC.nbN, hC.nbNew, hC.term.keptBy hk hFN, acc, hrow.keptBy hk (fun k e => (hFN k (hrow.lt k e).2 (hown k e)).1), fun k e => (hFN k (hrow.lt k e).2 (hown k e)).2, fun q hq => (hgs q hq).keptBy hk (fun k h1 h2 => hFN k h1 (hF k h2)), rfl, h8⟩
  exact ((hkw.trans hC.kept (fun i _ e => May.none i e)).setCell (p := ⟨w.heap.size, 0, none⟩) (Or.inl (Nat.le_refl _)) _).setCell (p := ⟨w.heap.size, 1, none⟩) (Or.inl (Nat.le_refl _)) _
theorem headS_ended {f : Nat} {l : List Rf.Tok} {p : List Rf.Part} {l1 : List Rf.Tok} {ns1 : List ByteArray} (he : Rf.Ended l) (h : Rf.headS f l = .ok (p, l1, ns1)) : Rf.Ended l1 ∧ l1.length < l.length := by
  cases l with
  | nil => cases h
  | cons t l =>
    simp only [Rf.headS] at h
    cases hr : Rf.termS f (t :: l) [] with
    | error x => rw [hr] at h; cases h
    | ok x =>
      obtain ⟨p', l', ns'⟩ := x
      rw [hr] at h
      simp only [] at h
      split at h
      · simp only [Except.ok.injEq, Prod.mk.injEq] at h
        obtain ⟨rfl, rfl, rfl⟩ := h
        exact ⟨(Rf.termS_good f _ _ _ _ _ he (by simp) hr).2.2.2, Rf.termS_len f _ _ _ _ _ hr⟩
      · cases h
set_option maxHeartbeats 400000 in
theorem pexpect_ok (w : World) (K : Int) (r : Nat) (text : ByteArray) (nb : Option Nat) (t : Rf.Tok) (l : List Rf.Tok) (ns : List ByteArray) (h : Pr w r text nb (t :: l) ns) (hk : (Rf.kindOf t.k != K) = false) (h0 : t.k ≠ 0) (h63 : t.k ≠ 63) :
    Calls Tryz.prog 60 #[.pointer (some ⟨r, 0, none⟩), .int .i64 K] w fun x w' => x = .returned (.bool true) ∧ Pr w' r text nb l ns ∧ Kept (fun k => k = r) w w' := by
  obtain ⟨j1, ⟨_, j0⟩, jl⟩ := h.kind
  have H : Hid _ := h
  have H0 : Hid _ := h0
  have H63 : Hid _ := h63
  clear h h0 h63
  go_enter Tryz.func60, Tryz.ntmps60
  go_wp2_with (go_at_call 58; refine (step_any _ r text nb t l ns H.out H0.out H63.out).mono ?_; rintro e w7 ⟨rfl, hP7, hK7⟩)
  go_ret
  exact ⟨rfl, hP7, hK7⟩
set_option maxHeartbeats 400000 in
theorem pexpect_bad (w : World) (K : Int) (r : Nat) (text : ByteArray) (nb : Option Nat) (t : Rf.Tok) (l : List Rf.Tok) (ns : List ByteArray) (h : Pr w r text nb (t :: l) ns) (hk : (Rf.kindOf t.k != K) = true) :
    Calls Tryz.prog 60 #[.pointer (some ⟨r, 0, none⟩), .int .i64 K] w fun x w' => x = .returned (.bool false) ∧ PrE w' r (Rf.errOf t 2).1 (Rf.errOf t 2).2 ∧ Kept (fun k => k = r) w w' := by
  obtain ⟨j1, ⟨_, j0⟩, jl⟩ := h.kind
  have H : Hid _ := h
  clear h
  go_enter Tryz.func60, Tryz.ntmps60
  go_wp2_with (go_at_call 86; refine (refuse_any _ r text nb t l ns 2 H.out (by decide)).mono ?_; rintro e w7 ⟨rfl, hE7, hK7⟩)
  go_ret
  exact ⟨rfl, hE7, hK7⟩
set_option maxHeartbeats 4000000 in
set_option maxRecDepth 100000 in
theorem pclause_any (f : Nat) (r : Nat) (text : ByteArray) (nb : Option Nat) (l : List Rf.Tok) (ns : List ByteArray) (w : World) (h : Pr w r text nb l ns) (hl : l.length ≤ f) :
    Calls Tryz.prog 65 #[.pointer (some ⟨r, 0, none⟩)] w fun x w' => PClausePost w r text nb (Rf.clauseP f l) x w' := by
  obtain ⟨hrl, hnl, hnr⟩ := h.lt
  obtain ⟨t9, l9, K9, f9, to9, C9, a9, c9, _, hB9, _⟩ := h.shape
  obtain ⟨z0, z1, z2, z3, z4, z5, z6, z7, zf, zl⟩ := hB9.facts
  have H : Hid (Pr ((w.setCell ⟨r, 5, none⟩ (.slice none 0 0)).alloc (.cells #[.slice none 0 0, .slice none 0 0] 85)) r text none l []) := h.unnamed.alloc _
  have HG0 : Hid (Gn ((w.setCell ⟨r, 5, none⟩ (.slice none 0 0)).alloc (.cells #[.slice none 0 0, .slice none 0 0] 85)) w.heap.size) := blk_at _ _ _ (by simp)
  have HK0 : Hid (Kept (May r nb) w ((w.setCell ⟨r, 5, none⟩ (.slice none 0 0)).alloc (.cells #[.slice none 0 0, .slice none 0 0] 85))) := ((Kept.refl (May r nb) w).setCell (p := ⟨r, 5, none⟩) (.inr (.inl rfl)) _).alloc _
  have HS0 : Hid (w.heap.size + 1 = ((w.setCell ⟨r, 5, none⟩ (.slice none 0 0)).alloc (.cells #[.slice none 0 0, .slice none 0 0] 85)).heap.size) := by unfold Hid; simp
  have hrN : ¬ r = w.heap.size := by omega
  have hNr : ¬ w.heap.size = r := by omega
  clear h hB9
  cases hh : Rf.headS f l with
  | error x =>
    obtain ⟨e, q⟩ := x
    have HR : Hid _ := hh
    have HW : Hid (Rf.clauseP f l = .error (e, q)) := by unfold Hid; simp only [Rf.clauseP]; rw [hh]
    clear hh
    go_enter Tryz.func65, Tryz.ntmps65
    go_wp2_with (first
      | (go_at_call 92; refine (phead_any f r text none l _ H.out hl).mono ?_; rintro x w1 ⟨hK1, hm⟩; rw [HR.out] at hm; obtain ⟨rfl, hE1⟩ := hm; have hG1 := HG0.out.over hK1 hNr (by simp); have g0 := blk_cell hG1 0; have g1 := blk_cell hG1 1; have gf := blk_frozen hG1; have gl := blk_lt hG1))
    refine bodyPost_ret (v := .tuple #[.agg #[.slice none 0 0, .slice none 0 0], .bool false]) (by simp [results, Tryz.results65, go_sem, *]) rfl ?_
    rw [HW.out]
    exact ⟨((HK0.out.trans hK1 (fun i _ e => May.none i e)).setCell (p := ⟨w.heap.size, 0, none⟩) (Or.inl (Nat.le_refl _)) _).setCell (p := ⟨w.heap.size, 1, none⟩) (Or.inl (Nat.le_refl _)) _, rfl, (hE1.setOther _ hrN).setOther _ hrN⟩
  | ok x =>
    obtain ⟨p, l1, ns1⟩ := x
    have hen := headS_ended H.out.ended hh
    cases l1 with
    | nil => exact absurd rfl hen.1.ne
    | cons u l2 =>
      have hlen := hen.2
      have hl2 : l2.length ≤ f := by simp at hlen; omega
      clear hen hlen
      cases c58 : (u.k == 58)
      · cases c46 : (u.k != 46)
        · have HW : Hid (Rf.clauseP f l = .ok (⟨p, [], ns1.length⟩, l2)) := by unfold Hid; simp only [Rf.clauseP]; rw [hh]; simp only []; rw [if_neg (beq_eq_false_iff_ne.1 c58), dotS_ok _ _ _ _ c46]
          have e46 : u.k = 46 := by simpa using c46
          have Hy0 : Hid (u.k ≠ 0) := by unfold Hid; omega
          have Hy63 : Hid (u.k ≠ 63) := by unfold Hid; omega
          have HR : Hid _ := hh
          clear hh e46
          go_enter Tryz.func65, Tryz.ntmps65
          go_wp2_with (first
            | (go_at_call 92; refine (phead_any f r text none l _ H.out hl).mono ?_; rintro x w1 ⟨hK1, hm⟩; rw [HR.out] at hm; obtain ⟨g1, n1, c1, nb1, rfl, hP1, hNb1, hT1, hng1⟩ := hm; have hC1 := CHead.first HG0.out HS0.out hrl hK1 hNb1 hT1 hng1; obtain ⟨y0, y1, yf, yl⟩ := hC1.facts; obtain ⟨j1, ⟨_, j0⟩, jl⟩ := hP1.kind; have c10 := hP1.kind10; rw [c58] at c10; have c8 := Rf.kindOf_8 (k := u.k); rw [c46] at c8)
            | (go_at_call 60; refine (pexpect_ok _ 8 r text nb1 u l2 ns1 hP1 c8 Hy0.out Hy63.out).mono ?_; rintro e w7 ⟨rfl, hP7, hK7⟩; have hC7 := hC1.over hrl (kept_may hK7) (.inl rfl); obtain ⟨v0, v1, vf, vl⟩ := hC7.facts))
          refine bodyPost_ret (v := .tuple #[.agg #[.slice (some ⟨g1, 0, none⟩) n1 c1, .slice none 0 0], .bool true]) (by simp [results, Tryz.results65, go_sem, *]) rfl ?_
          rw [HW.out]
          obtain ⟨e1, e2, e3, e4⟩ := clause_end (hx := ⟨some ⟨g1, 0, none⟩, n1, c1⟩) (bx := ⟨none, 0, 0⟩) (acc := []) (F := fun _ => False) rfl hrl HK0.out hC7 hP7 (RowIs.nil _ _ _ _ _) (fun k e => by simp [slv, Value.ownBlock] at e) (fun q hq => by simp at hq) (fun k h => h.elim) (by simp) ns1.length (.slice (some ⟨g1, 0, none⟩) n1 c1) (.slice none 0 0)
          exact ⟨e1, ⟨some ⟨g1, 0, none⟩, n1, c1⟩, ⟨none, 0, 0⟩, nb1, ns1, rfl, e2, e3, e4⟩
        · have HW : Hid (Rf.clauseP f l = .error (Rf.errOf u 2)) := by unfold Hid; simp only [Rf.clauseP]; rw [hh]; simp only []; rw [if_neg (beq_eq_false_iff_ne.1 c58), dotS_bad _ _ _ _ c46]
          have HR : Hid _ := hh
          clear hh
          go_enter Tryz.func65, Tryz.ntmps65
          go_wp2_with (first
            | (go_at_call 92; refine (phead_any f r text none l _ H.out hl).mono ?_; rintro x w1 ⟨hK1, hm⟩; rw [HR.out] at hm; obtain ⟨g1, n1, c1, nb1, rfl, hP1, hNb1, hT1, hng1⟩ := hm; have hC1 := CHead.first HG0.out HS0.out hrl hK1 hNb1 hT1 hng1; obtain ⟨y0, y1, yf, yl⟩ := hC1.facts; obtain ⟨j1, ⟨_, j0⟩, jl⟩ := hP1.kind; have c10 := hP1.kind10; rw [c58] at c10; have c8 := Rf.kindOf_8 (k := u.k); rw [c46] at c8)
            | (go_at_call 60; refine (pexpect_bad _ 8 r text nb1 u l2 ns1 hP1 c8).mono ?_; rintro e w7 ⟨rfl, hE7, hK7⟩; have hC7 := hC1.over hrl (kept_may hK7) (.inl rfl); obtain ⟨v0, v1, vf, vl⟩ := hC7.facts; have el := hE7.facts))
          refine bodyPost_ret (v := .tuple #[.agg #[.slice none 0 0, .slice none 0 0], .bool false]) (by simp [results, Tryz.results65, go_sem, *]) rfl ?_
          rw [HW.out]
          exact ⟨((HK0.out.trans hC7.kept (fun i _ e => May.none i e)).setCell (p := ⟨w.heap.size, 0, none⟩) (Or.inl (Nat.le_refl _)) _).setCell (p := ⟨w.heap.size, 1, none⟩) (Or.inl (Nat.le_refl _)) _, rfl, (hE7.setOther _ hrN).setOther _ hrN⟩
      · have e58 : u.k = 58 := eq_of_beq c58
        have Hu0 : Hid (u.k ≠ 0) := by unfold Hid; omega
        have Hu63 : Hid (u.k ≠ 63) := by unfold Hid; omega
        cases hg : Rf.goalsP f 8 [] l2 ns1 with
        | error x =>
          obtain ⟨e, q⟩ := x
          have HW : Hid (Rf.clauseP f l = .error (e, q)) := by unfold Hid; simp only [Rf.clauseP]; rw [hh]; simp only []; rw [if_pos e58, hg]
          have HR : Hid _ := hh
          have HG : Hid _ := hg
          clear hh hg e58
          go_enter Tryz.func65, Tryz.ntmps65
          go_wp2_with (first
            | (go_at_call 92; refine (phead_any f r text none l _ H.out hl).mono ?_; rintro x w1 ⟨hK1, hm⟩; rw [HR.out] at hm; obtain ⟨g1, n1, c1, nb1, rfl, hP1, hNb1, hT1, hng1⟩ := hm; have hC1 := CHead.first HG0.out HS0.out hrl hK1 hNb1 hT1 hng1; obtain ⟨y0, y1, yf, yl⟩ := hC1.facts; obtain ⟨j1, ⟨_, j0⟩, jl⟩ := hP1.kind; have c10 := hP1.kind10; rw [c58] at c10; have c8 := Rf.kindOf_8 (k := u.k))
            | (go_at_call 58; refine (step_any _ r text nb1 u l2 ns1 hP1 Hu0.out Hu63.out).mono ?_; rintro e w2 ⟨rfl, hP2, hK2⟩; have hC2 := hC1.over hrl (kept_may hK2) (.inl rfl))
            | (go_at_call 59; refine (pgoals_any f r text nb1 l2 ns1 _ hP2 hl2).mono ?_; rintro x w3 ⟨hK3, hm3⟩; rw [HG.out] at hm3; obtain ⟨rfl, hE3⟩ := hm3; have hC3 := hC2.over hrl hK3 (.inl rfl); obtain ⟨x0, x1, xf, xl⟩ := hC3.facts; have el := hE3.facts))
          refine bodyPost_ret (v := .tuple #[.agg #[.slice none 0 0, .slice none 0 0], .bool false]) (by simp [results, Tryz.results65, go_sem, *]) rfl ?_
          rw [HW.out]
          exact ⟨((HK0.out.trans hC3.kept (fun i _ e => May.none i e)).setCell (p := ⟨w.heap.size, 0, none⟩) (Or.inl (Nat.le_refl _)) _).setCell (p := ⟨w.heap.size, 1, none⟩) (Or.inl (Nat.le_refl _)) _, rfl, (hE3.setOther _ hrN).setOther _ hrN⟩
        | ok x =>
          obtain ⟨gs, l3, ns2⟩ := x
          obtain ⟨y, l4, rfl⟩ := Rf.goalsP_len f _ _ _ _ _ _ _ hg
          cases c46 : (y.k != 46)
          · have HW : Hid (Rf.clauseP f l = .ok (⟨p, gs, ns2.length⟩, l4)) := by unfold Hid; simp only [Rf.clauseP]; rw [hh]; simp only []; rw [if_pos e58, hg]; simp only []; rw [dotS_ok _ _ _ _ c46]
            have e46 : y.k = 46 := by simpa using c46
            have Hy0 : Hid (y.k ≠ 0) := by unfold Hid; omega
            have Hy63 : Hid (y.k ≠ 63) := by unfold Hid; omega
            have HR : Hid _ := hh
            have HG : Hid _ := hg
            clear hh hg e58 e46
            go_enter Tryz.func65, Tryz.ntmps65
            go_wp2_with (first
              | (go_at_call 92; refine (phead_any f r text none l _ H.out hl).mono ?_; rintro x w1 ⟨hK1, hm⟩; rw [HR.out] at hm; obtain ⟨g1, n1, c1, nb1, rfl, hP1, hNb1, hT1, hng1⟩ := hm; have hC1 := CHead.first HG0.out HS0.out hrl hK1 hNb1 hT1 hng1; obtain ⟨y0, y1, yf, yl⟩ := hC1.facts; obtain ⟨j1, ⟨_, j0⟩, jl⟩ := hP1.kind; have c10 := hP1.kind10; rw [c58] at c10; have c8 := Rf.kindOf_8 (k := u.k))
              | (go_at_call 58; refine (step_any _ r text nb1 u l2 ns1 hP1 Hu0.out Hu63.out).mono ?_; rintro e w2 ⟨rfl, hP2, hK2⟩; have hC2 := hC1.over hrl (kept_may hK2) (.inl rfl))
              | (go_at_call 59; refine (pgoals_any f r text nb1 l2 ns1 _ hP2 hl2).mono ?_; rintro x w3 ⟨hK3, hm3⟩; rw [HG.out] at hm3; obtain ⟨a3, n3, c3, nb3, acc, rfl, hP3, hNb3, hA3, hgs, h8⟩ := hm3; have hC3 := hC2.over hrl hK3 hNb3; obtain ⟨x0, x1, xf, xl⟩ := hC3.facts; obtain ⟨i1, ⟨_, i0⟩, il⟩ := hP3.kind; have d8 := Rf.kindOf_8 (k := y.k); rw [c46] at d8)
              | (go_at_call 60; refine (pexpect_ok _ 8 r text nb3 y l4 ns2 hP3 d8 Hy0.out Hy63.out).mono ?_; rintro e w7 ⟨rfl, hP7, hK7⟩; have hC7 := hC3.over hrl (kept_may hK7) (.inl rfl); obtain ⟨v0, v1, vf, vl⟩ := hC7.facts))
            refine bodyPost_ret (v := .tuple #[.agg #[.slice (some ⟨g1, 0, none⟩) n1 c1, .slice a3 n3 c3], .bool true]) (by simp [results, Tryz.results65, go_sem, *]) rfl ?_
            rw [HW.out, hgs]
            have hA7 := hA3.over (b := r) (nb1 := nb3) (by have := hC2.size; have := hC2.kept.size; omega) (kept_may hK7) (.inl rfl)
            have hs2 := hC2.kept.size
            have hs20 := hC2.size
            have hNew : ∀ k, New w2 w7 nb3 k → New ((w.setCell ⟨r, 5, none⟩ (.slice none 0 0)).alloc (.cells #[.slice none 0 0, .slice none 0 0] 85)) w7 nb3 k := fun k h => ⟨by have := h.1; omega, h.2.1, h.2.2⟩
            obtain ⟨e1, e2, e3, e4⟩ := clause_end (hx := ⟨some ⟨g1, 0, none⟩, n1, c1⟩) (bx := ⟨a3, n3, c3⟩) (acc := acc) rfl hrl HK0.out hC7 hP7 hA7.row (fun k e => hNew k (hA7.rowNew k e)) hA7.goals (fun k h => hNew k h.1) h8 ns2.length (.slice (some ⟨g1, 0, none⟩) n1 c1) (.slice a3 n3 c3)
            exact ⟨e1, ⟨some ⟨g1, 0, none⟩, n1, c1⟩, ⟨a3, n3, c3⟩, nb3, ns2, rfl, e2, e3, e4⟩
          · have HW : Hid (Rf.clauseP f l = .error (Rf.errOf y 2)) := by unfold Hid; simp only [Rf.clauseP]; rw [hh]; simp only []; rw [if_pos e58, hg]; simp only []; rw [dotS_bad _ _ _ _ c46]
            have HR : Hid _ := hh
            have HG : Hid _ := hg
            clear hh hg e58
            go_enter Tryz.func65, Tryz.ntmps65
            go_wp2_with (first
              | (go_at_call 92; refine (phead_any f r text none l _ H.out hl).mono ?_; rintro x w1 ⟨hK1, hm⟩; rw [HR.out] at hm; obtain ⟨g1, n1, c1, nb1, rfl, hP1, hNb1, hT1, hng1⟩ := hm; have hC1 := CHead.first HG0.out HS0.out hrl hK1 hNb1 hT1 hng1; obtain ⟨y0, y1, yf, yl⟩ := hC1.facts; obtain ⟨j1, ⟨_, j0⟩, jl⟩ := hP1.kind; have c10 := hP1.kind10; rw [c58] at c10; have c8 := Rf.kindOf_8 (k := u.k))
              | (go_at_call 58; refine (step_any _ r text nb1 u l2 ns1 hP1 Hu0.out Hu63.out).mono ?_; rintro e w2 ⟨rfl, hP2, hK2⟩; have hC2 := hC1.over hrl (kept_may hK2) (.inl rfl))
              | (go_at_call 59; refine (pgoals_any f r text nb1 l2 ns1 _ hP2 hl2).mono ?_; rintro x w3 ⟨hK3, hm3⟩; rw [HG.out] at hm3; obtain ⟨a3, n3, c3, nb3, acc, rfl, hP3, hNb3, hA3, hgs, h8⟩ := hm3; have hC3 := hC2.over hrl hK3 hNb3; obtain ⟨x0, x1, xf, xl⟩ := hC3.facts; obtain ⟨i1, ⟨_, i0⟩, il⟩ := hP3.kind; have d8 := Rf.kindOf_8 (k := y.k); rw [c46] at d8)
              | (go_at_call 60; refine (pexpect_bad _ 8 r text nb3 y l4 ns2 hP3 d8).mono ?_; rintro e w7 ⟨rfl, hE7, hK7⟩; have hC7 := hC3.over hrl (kept_may hK7) (.inl rfl); obtain ⟨v0, v1, vf, vl⟩ := hC7.facts; have el := hE7.facts))
            refine bodyPost_ret (v := .tuple #[.agg #[.slice none 0 0, .slice none 0 0], .bool false]) (by simp [results, Tryz.results65, go_sem, *]) rfl ?_
            rw [HW.out]
            exact ⟨((HK0.out.trans hC7.kept (fun i _ e => May.none i e)).setCell (p := ⟨w.heap.size, 0, none⟩) (Or.inl (Nat.le_refl _)) _).setCell (p := ⟨w.heap.size, 1, none⟩) (Or.inl (Nat.le_refl _)) _, rfl, (hE7.setOther _ hrN).setOther _ hrN⟩
end Go.Proofs.YtpdikdnffehmkaaGreatDoor
