
import Derived.Test.YtbiojnljihgpoaaGreatDoorZar
import Derived.Shelf.Strconv.Itoa0
import Derived.Shelf.Strconv.Itoa1
import Derived.Shelf.LaysM
import Derived.Shelf.Strconv.Itoa2
import Derived.Shelf.Strconv.Itoa3
import Derived.Test.YtbiojnljihgpoaaGreatDoorProg
import Derived.Test.YtbiojnljihgpoaaGreatDoorZab
namespace Rf
theorem tokenAt_kinds (s : ByteArray) (n : Nat) : (tokenAt s n).k = 63 \/ (tokenAt s n).k = 97 \/ (tokenAt s n).k = 118 \/ (tokenAt s n).k = 110 \/ (tokenAt s n).k = 40 \/ (tokenAt s n).k = 41 \/ (tokenAt s n).k = 44 \/ (tokenAt s n).k = 46 \/ (tokenAt s n).k = 33 \/ (tokenAt s n).k = 58 := by
 unfold tokenAt numTok wordTok bad
 repeat' split
 all_goals (first | (simp; done) | (rename_i h; unfold markB at h; simp at h; simp; omega))
theorem kindOf_10 {k : Int} (hk : k = 0 \/ k = 63 \/ k = 97 \/ k = 118 \/ k = 110 \/ k = 40 \/ k = 41 \/ k = 44 \/ k = 46 \/ k = 33 \/ k = 58) : (kindOf k == 10) = (k == 58) := by
 rcases hk with rfl | rfl | rfl | rfl | rfl | rfl | rfl | rfl | rfl | rfl | rfl <;> decide
theorem kindOf_8 {k : Int} : (kindOf k != 8) = (k != 46) := by
 by_cases h : k = 46
 ·subst h; decide
 ·rw [bne_iff_ne.2 h, bne_iff_ne]
  unfold kindOf; repeat' split
  all_goals omega
theorem kindOf_0 {k : Int} : (kindOf k != 0) = (k != 0) := by
 by_cases h : k = 0
 ·subst h; decide
 ·rw [bne_iff_ne.2 h, bne_iff_ne]
  unfold kindOf; repeat' split
  all_goals omega
end Rf
namespace Go.Proofs.YtbiojnljihgpoaaGreatDoor
open Go.RowKit
theorem Pr.kind10 {w : World} {r : Nat} {text : ByteArray} {nb : Option Nat} {t : Rf.Tok} {l : List Rf.Tok} {ns : List ByteArray} (h : Pr w r text nb (t :: l) ns) : (Rf.kindOf t.k == 10) = (t.k == 58) := by
 obtain ⟨K, f, toE, C, vN, hB, ht, hr, _⟩ := h.toks
 apply Rf.kindOf_10
 by_cases h0 : t.k = 0
 ·exact .inl h0
 ·by_cases h63 : t.k = 63
  ·exact .inr (.inl h63)
  ·have := (hr h0 h63).2.2
   rw [this]
   exact .inr (Rf.tokenAt_kinds _ _)
theorem Pr.unnamed {w : World} {r : Nat} {text : ByteArray} {nb : Option Nat} {l : List Rf.Tok} {ns : List ByteArray} (h : Pr w r text nb l ns) : Pr (w.setCell ⟨r, 5, none⟩ (.slice none 0 0)) r text none l [] := by
 obtain ⟨K, f, toE, C, vN, hB, hat, he, hs, hrow, hnb, hr', h16⟩ := h.ex
 exact ⟨K, f, toE, C, _, blk_set hB 5 _, hat, he, hs, RowIs.nil _ _ _ _ _, rfl, by simp, by simp⟩
def PClAt (F : Nat -> Prop) (w : World) (hx bx : SlV) (cl : Rf.Cl) : Prop :=
 PT F w (slv hx) cl.head /\ ∃ acc : List (SlV × List Rf.Part), RowIs w 0 56 1 slCells (slv bx) (acc.map (·.1)) /\ (∀ k, (slv bx).ownBlock = some k -> F k) /\ (∀ q ∈ acc, PT F w (slv q.1) q.2) /\ cl.body = acc.map (·.2) /\ acc.length <= 8
theorem PClAt.keptBy {F F' M : Nat -> Prop} {w w' : World} {hx bx : SlV} {cl : Rf.Cl} (h : PClAt F w hx bx cl) (hk : Kept M w w') (hF : ∀ k, k < w.heap.size -> F k -> ¬ M k /\ F' k) : PClAt F' w' hx bx cl := by
 obtain ⟨h1, acc, h2, h3, h4, h5⟩ := h
 exact ⟨h1.keptBy hk hF, acc, h2.keptBy hk (fun k e => (hF k (h2.lt k e).2 (h3 k e)).1), fun k e => (hF k (h2.lt k e).2 (h3 k e)).2, fun q hq => (h4 q hq).keptBy hk hF, h5⟩
def PClausePost (w : World) (r : Nat) (text : ByteArray) (nb : Option Nat) (res : Except (Int × Nat) (Rf.Cl × List Rf.Tok)) (x : Ending) (w' : World) : Prop :=
  Kept (May r nb) w w' /\
  (match res with
   | .ok (cl, l') => ∃ (hx bx : SlV) (nb' : Option Nat) (ns' : List ByteArray), x = .returned (.tuple #[.agg #[.slice hx.a hx.n hx.c, .slice bx.a bx.n bx.c], .bool true]) /\ Pr w' r text nb' l' ns' /\ (∀ y, nb' = some y -> w.heap.size <= y) /\ PClAt (New w w' nb') w' hx bx cl
   | .error (e, q) => x = .returned (.tuple #[.agg #[.slice none 0 0, .slice none 0 0], .bool false]) /\ PrE w' r e q)
theorem New.over {w w1 w2 : World} {r : Nat} {nb1 nb2 : Option Nat} (hr : r < w.heap.size) (hk : Kept (May r nb1) w1 w2) (hn : Nb w1 nb1 nb2) : ∀ k, k < w1.heap.size -> New w w1 nb1 k -> ¬ May r nb1 k /\ New w w2 nb2 k := by
 intro k hk1 hF
 have hs := hk.size
 refine ⟨fun e => ?_, hF.1, by omega, hn.ne hF.2.2 hk1⟩
 rcases e with e | e
 ·have := hF.1; omega
 ·exact hF.2.2 e.symm
def Gn (w : World) (N : Nat) : Prop := w.heap[N]? = some (.cells #[.slice none 0 0, .slice none 0 0] 59 (0, 0))
theorem Gn.over {w w' : World} {N r : Nat} {nb : Option Nat} (h : Gn w N) (hk : Kept (May r nb) w w') (hr : ¬ N = r) (hn : nb ≠ some N) : Gn w' N :=
 (hk.block N (blk_lt h) (fun e => by rcases e with e | e; exact hr e; exact hn e.symm)).trans h
theorem PrE.setOther {w : World} {r g i : Nat} {E P : Int} (h : PrE w r E P) (v : Value) (hr : ¬ r = g) : PrE (w.setCell ⟨g, i, none⟩ v) r E P :=
 h.keptBy ((Kept.refl (fun k => k = g) w).setCell (p := ⟨g, i, none⟩) (Or.inr rfl) v) hr
theorem kept_may {w w' : World} {r : Nat} {nb : Option Nat} (h : Kept (fun k => k = r) w w') : Kept (May r nb) w w' := h.mono (fun _ _ e => Or.inl e)
structure CHead (w0 w1 : World) (N r : Nat) (nb1 : Option Nat) (v : Value) (p : List Rf.Part) : Prop where
 gn : Gn w1 N
 size : N + 1 = w0.heap.size
 kept : Kept (May r none) w0 w1
 nbN : nb1 ≠ some N
 nbNew : ∀ y, nb1 = some y -> N <= y
 term : PT (New w0 w1 nb1) w1 v p
theorem CHead.over {w0 w1 w2 : World} {N r : Nat} {nb1 nb2 : Option Nat} {v : Value} {p : List Rf.Part} (h : CHead w0 w1 N r nb1 v p) (hr : r < N) (hk : Kept (May r nb1) w1 w2) (hn : Nb w1 nb1 nb2) : CHead w0 w2 N r nb2 v p := by
 have hs := h.size
 have hk0 := h.kept.size
 refine ⟨h.gn.over hk (by omega) h.nbN, hs, ?_, hn.ne h.nbN (by omega), ?_, h.term.keptBy hk (New.over (by omega) hk hn)⟩
 ·refine h.kept.trans hk (fun i hi e => ?_)
  rcases e with e | e
  ·exact .inl e
  ·have := h.nbNew i e.symm
   exact absurd (show nb1 = some N by rw [<- e]; congr 1; omega) h.nbN
 ·intro y e
  rcases hn with e2 | ⟨k, e2, hk2⟩
  ·exact h.nbNew y (by rw [<- e2, e])
  ·rw [e] at e2; have := Option.some.inj e2; omega
theorem CHead.first {w0 w1 : World} {N r g n c : Nat} {nb1 : Option Nat} {p : List Rf.Part} (hG : Gn w0 N) (hs : N + 1 = w0.heap.size) (hr : r < N) (hk : Kept (May r none) w0 w1) (hn : Nb w0 none nb1) (hT : PTerm w1 w0.heap.size (.slice (some ⟨g, 0, none⟩) n c) p) (hng : nb1 ≠ some g) : CHead w0 w1 N r nb1 (.slice (some ⟨g, 0, none⟩) n c) p := by
 refine ⟨hG.over hk (by omega) (by simp), hs, hk, hn.ne (by simp) (by omega), fun y e => ?_, hT.pt hng⟩
 rcases hn with e2 | ⟨k, e2, hk2⟩
 ·rw [e] at e2; cases e2
 ·rw [e] at e2; have := Option.some.inj e2; omega
theorem CHead.facts {w0 w1 : World} {N r : Nat} {nb1 : Option Nat} {v : Value} {p : List Rf.Part} (h : CHead w0 w1 N r nb1 v p) : w1.cell? ⟨N, 0, none⟩ = some (.slice none 0 0) /\ w1.cell? ⟨N, 1, none⟩ = some (.slice none 0 0) /\ (∀ i, w1.frozen? ⟨N, i, none⟩ = false) /\ N < w1.heap.size := ⟨blk_cell h.gn 0, blk_cell h.gn 1, blk_frozen h.gn, blk_lt h.gn⟩
theorem PrE.facts {w : World} {r : Nat} {E P : Int} (h : PrE w r E P) : r < w.heap.size := by
 obtain ⟨text, K, f, toE, C, a, n, c, hB, hE⟩ := h.ex
 exact blk_lt hB
theorem clause_end {w w0 w5 : World} {N r : Nat} {text : ByteArray} {nb nb5 : Option Nat} {hx bx : SlV} {ps : List Rf.Part} {l : List Rf.Tok} {ns : List ByteArray} {acc : List (SlV × List Rf.Part)} {F : Nat -> Prop} (hN : N = w.heap.size) (hr : r < N) (hkw : Kept (May r nb) w w0) (hC : CHead w0 w5 N r nb5 (slv hx) ps) (hP : Pr w5 r text nb5 l ns)
  (hrow : RowIs w5 0 56 1 slCells (slv bx) (acc.map (·.1))) (hown : ∀ k, (slv bx).ownBlock = some k -> New w0 w5 nb5 k) (hgs : ∀ q ∈ acc, PT F w5 (slv q.1) q.2) (hF : ∀ k, F k -> New w0 w5 nb5 k) (h8 : acc.length <= 8) (kv : Nat) (x y : Value) :
  Kept (May r nb) w ((w5.setCell ⟨N, 0, none⟩ x).setCell ⟨N, 1, none⟩ y) /\ Pr ((w5.setCell ⟨N, 0, none⟩ x).setCell ⟨N, 1, none⟩ y) r text nb5 l ns /\ (∀ y, nb5 = some y -> w.heap.size <= y) /\ PClAt (New w ((w5.setCell ⟨N, 0, none⟩ x).setCell ⟨N, 1, none⟩ y) nb5) ((w5.setCell ⟨N, 0, none⟩ x).setCell ⟨N, 1, none⟩ y) hx bx ⟨ps, acc.map (·.2), kv⟩ := by
 subst hN
 have hs := hC.size
 have hrN : ¬ r = w.heap.size := by omega
 have hk : Kept (fun k => k = w.heap.size) w5 ((w5.setCell ⟨w.heap.size, 0, none⟩ x).setCell ⟨w.heap.size, 1, none⟩ y) := ((Kept.refl (fun k => k = w.heap.size) w5).setCell (p := ⟨w.heap.size, 0, none⟩) (Or.inr rfl) _).setCell (p := ⟨w.heap.size, 1, none⟩) (Or.inr rfl) _
 have hFN : ∀ k, k < w5.heap.size -> New w0 w5 nb5 k -> ¬ k = w.heap.size /\ New w ((w5.setCell ⟨w.heap.size, 0, none⟩ x).setCell ⟨w.heap.size, 1, none⟩ y) nb5 k := fun k _ h => ⟨by have := h.1; omega, by have := h.1; omega, by have := h.2.1; simpa using this, h.2.2⟩
 refine ⟨?_, (hP.setOther _ hrN hC.nbN).setOther _ hrN hC.nbN, hC.nbNew, hC.term.keptBy hk hFN, acc, hrow.keptBy hk (fun k e => (hFN k (hrow.lt k e).2 (hown k e)).1), fun k e => (hFN k (hrow.lt k e).2 (hown k e)).2, fun q hq => (hgs q hq).keptBy hk (fun k h1 h2 => hFN k h1 (hF k h2)), rfl, h8⟩
 exact ((hkw.trans hC.kept (fun i _ e => May.none i e)).setCell (p := ⟨w.heap.size, 0, none⟩) (Or.inl (Nat.le_refl _)) _).setCell (p := ⟨w.heap.size, 1, none⟩) (Or.inl (Nat.le_refl _)) _
theorem headS_ended {f : Nat} {l : List Rf.Tok} {p : List Rf.Part} {l1 : List Rf.Tok} {ns1 : List ByteArray} (he : Rf.Ended l) (h : Rf.headS f l = .ok (p, l1, ns1)) : Rf.Ended l1 /\ l1.length < l.length := by
 cases l with
 | nil => cases h
 | cons t l =>
  simp only [Rf.headS] at h
  cases hr : Rf.termS f (t :: l) [] with
  | error x => rw [hr] at h; cases h
  | ok x =>
   obtain ⟨p', l', ns'⟩ := x
   rw [hr] at h
   simp only [] at h
   split at h
   ·simp only [Except.ok.injEq, Prod.mk.injEq] at h
    obtain ⟨rfl, rfl, rfl⟩ := h
    exact ⟨(Rf.termS_good f _ _ _ _ _ he (by simp) hr).2.2.2, Rf.termS_len f _ _ _ _ _ hr⟩
   ·cases h
set_option maxHeartbeats 400000 in
theorem pexpect_ok (w : World) (K : Int) (r : Nat) (text : ByteArray) (nb : Option Nat) (t : Rf.Tok) (l : List Rf.Tok) (ns : List ByteArray) (h : Pr w r text nb (t :: l) ns) (hk : (Rf.kindOf t.k != K) = false) (h0 : t.k ≠ 0) (h63 : t.k ≠ 63) :
  Calls Tryz.prog 48 #[.pointer (some ⟨r, 0, none⟩), .int .i64 K] w fun x w' => x = .returned (.bool true) /\ Pr w' r text nb l ns /\ Kept (fun k => k = r) w w' := by
 obtain ⟨j1, ⟨_, j0⟩, jl⟩ := h.kind
 have H : Hid _ := h
 have H0 : Hid _ := h0
 have H63 : Hid _ := h63
 clear h h0 h63
 go_enter Tryz.func48, Tryz.ntmps48
 go_wp2_with (go_at_call 46; refine (step_any _ r text nb t l ns H.out H0.out H63.out).mono ?_; rintro e w7 ⟨rfl, hP7, hK7⟩)
 go_ret
 exact ⟨rfl, hP7, hK7⟩
set_option maxHeartbeats 400000 in
theorem pexpect_bad (w : World) (K : Int) (r : Nat) (text : ByteArray) (nb : Option Nat) (t : Rf.Tok) (l : List Rf.Tok) (ns : List ByteArray) (h : Pr w r text nb (t :: l) ns) (hk : (Rf.kindOf t.k != K) = true) :
  Calls Tryz.prog 48 #[.pointer (some ⟨r, 0, none⟩), .int .i64 K] w fun x w' => x = .returned (.bool false) /\ PrE w' r (Rf.errOf t 2).1 (Rf.errOf t 2).2 /\ Kept (fun k => k = r) w w' := by
 obtain ⟨j1, ⟨_, j0⟩, jl⟩ := h.kind
 have H : Hid _ := h
 clear h
 go_enter Tryz.func48, Tryz.ntmps48
 go_wp2_with (go_at_call 64; refine (refuse_any _ r text nb t l ns 2 H.out (by decide)).mono ?_; rintro e w7 ⟨rfl, hE7, hK7⟩)
 go_ret
 exact ⟨rfl, hE7, hK7⟩
set_option maxHeartbeats 4000000 in
set_option maxRecDepth 100000 in
theorem pclause_any (f : Nat) (r : Nat) (text : ByteArray) (nb : Option Nat) (l : List Rf.Tok) (ns : List ByteArray) (w : World) (h : Pr w r text nb l ns) (hl : l.length <= f) :
  Calls Tryz.prog 61 #[.pointer (some ⟨r, 0, none⟩)] w fun x w' => PClausePost w r text nb (Rf.clauseP f l) x w' := by
 obtain ⟨hrl, hnl, hnr⟩ := h.lt
 obtain ⟨t9, l9, K9, f9, to9, C9, a9, c9, _, hB9, _⟩ := h.shape
 obtain ⟨z0, z1, z2, z3, z4, z5, z6, z7, zf, zl⟩ := hB9.facts
 have H : Hid (Pr ((w.setCell ⟨r, 5, none⟩ (.slice none 0 0)).alloc (.cells #[.slice none 0 0, .slice none 0 0] 59)) r text none l []) := h.unnamed.alloc _
 have HG0 : Hid (Gn ((w.setCell ⟨r, 5, none⟩ (.slice none 0 0)).alloc (.cells #[.slice none 0 0, .slice none 0 0] 59)) w.heap.size) := blk_at _ _ _ (by simp)
 have HK0 : Hid (Kept (May r nb) w ((w.setCell ⟨r, 5, none⟩ (.slice none 0 0)).alloc (.cells #[.slice none 0 0, .slice none 0 0] 59))) := ((Kept.refl (May r nb) w).setCell (p := ⟨r, 5, none⟩) (.inr (.inl rfl)) _).alloc _
 have HS0 : Hid (w.heap.size + 1 = ((w.setCell ⟨r, 5, none⟩ (.slice none 0 0)).alloc (.cells #[.slice none 0 0, .slice none 0 0] 59)).heap.size) := by unfold Hid; simp
 have hrN : ¬ r = w.heap.size := by omega
 have hNr : ¬ w.heap.size = r := by omega
 clear h hB9
 cases hh : Rf.headS f l with
 | error x =>
  obtain ⟨e, q⟩ := x
  have HR : Hid _ := hh
  have HW : Hid (Rf.clauseP f l = .error (e, q)) := by unfold Hid; simp only [Rf.clauseP]; rw [hh]
  clear hh
  go_enter Tryz.func61, Tryz.ntmps61
  go_wp2_with (first
   | (go_at_call 78; refine (phead_any f r text none l _ H.out hl).mono ?_; rintro x w1 ⟨hK1, hm⟩; rw [HR.out] at hm; obtain ⟨rfl, hE1⟩ := hm; have hG1 := HG0.out.over hK1 hNr (by simp); have g0 := blk_cell hG1 0; have g1 := blk_cell hG1 1; have gf := blk_frozen hG1; have gl := blk_lt hG1))
  refine bodyPost_ret (v := .tuple #[.agg #[.slice none 0 0, .slice none 0 0], .bool false]) (by simp [results, Tryz.results61, go_sem, *]) rfl ?_
  rw [HW.out]
  exact ⟨((HK0.out.trans hK1 (fun i _ e => May.none i e)).setCell (p := ⟨w.heap.size, 0, none⟩) (Or.inl (Nat.le_refl _)) _).setCell (p := ⟨w.heap.size, 1, none⟩) (Or.inl (Nat.le_refl _)) _, rfl, (hE1.setOther _ hrN).setOther _ hrN⟩
 | ok x =>
  obtain ⟨p, l1, ns1⟩ := x
  have hen := headS_ended H.out.ended hh
  cases l1 with
  | nil => exact absurd rfl hen.1.ne
  | cons u l2 =>
   have hlen := hen.2
   have hl2 : l2.length <= f := by simp at hlen; omega
   clear hen hlen
   cases c58 : (u.k == 58)
   ·cases c46 : (u.k != 46)
    ·have HW : Hid (Rf.clauseP f l = .ok (⟨p, [], ns1.length⟩, l2)) := by unfold Hid; simp only [Rf.clauseP]; rw [hh]; simp only []; rw [if_neg (beq_eq_false_iff_ne.1 c58), dotS_ok _ _ _ _ c46]
     have e46 : u.k = 46 := by simpa using c46
     have Hy0 : Hid (u.k ≠ 0) := by unfold Hid; omega
     have Hy63 : Hid (u.k ≠ 63) := by unfold Hid; omega
     have HR : Hid _ := hh
     clear hh e46
     go_enter Tryz.func61, Tryz.ntmps61
     go_wp2_with (first
      | (go_at_call 78; refine (phead_any f r text none l _ H.out hl).mono ?_; rintro x w1 ⟨hK1, hm⟩; rw [HR.out] at hm; obtain ⟨g1, n1, c1, nb1, rfl, hP1, hNb1, hT1, hng1⟩ := hm; have hC1 := CHead.first HG0.out HS0.out hrl hK1 hNb1 hT1 hng1; obtain ⟨y0, y1, yf, yl⟩ := hC1.facts; obtain ⟨j1, ⟨_, j0⟩, jl⟩ := hP1.kind; have c10 := hP1.kind10; rw [c58] at c10; have c8 := Rf.kindOf_8 (k := u.k); rw [c46] at c8)
      | (go_at_call 48; refine (pexpect_ok _ 8 r text nb1 u l2 ns1 hP1 c8 Hy0.out Hy63.out).mono ?_; rintro e w7 ⟨rfl, hP7, hK7⟩; have hC7 := hC1.over hrl (kept_may hK7) (.inl rfl); obtain ⟨v0, v1, vf, vl⟩ := hC7.facts))
     refine bodyPost_ret (v := .tuple #[.agg #[.slice (some ⟨g1, 0, none⟩) n1 c1, .slice none 0 0], .bool true]) (by simp [results, Tryz.results61, go_sem, *]) rfl ?_
     rw [HW.out]
     obtain ⟨e1, e2, e3, e4⟩ := clause_end (hx := ⟨some ⟨g1, 0, none⟩, n1, c1⟩) (bx := ⟨none, 0, 0⟩) (acc := []) (F := fun _ => False) rfl hrl HK0.out hC7 hP7 (RowIs.nil _ _ _ _ _) (fun k e => by simp [slv, Value.ownBlock] at e) (fun q hq => by simp at hq) (fun k h => h.elim) (by simp) ns1.length (.slice (some ⟨g1, 0, none⟩) n1 c1) (.slice none 0 0)
     exact ⟨e1, ⟨some ⟨g1, 0, none⟩, n1, c1⟩, ⟨none, 0, 0⟩, nb1, ns1, rfl, e2, e3, e4⟩
    ·have HW : Hid (Rf.clauseP f l = .error (Rf.errOf u 2)) := by unfold Hid; simp only [Rf.clauseP]; rw [hh]; simp only []; rw [if_neg (beq_eq_false_iff_ne.1 c58), dotS_bad _ _ _ _ c46]
     have HR : Hid _ := hh
     clear hh
     go_enter Tryz.func61, Tryz.ntmps61
     go_wp2_with (first
      | (go_at_call 78; refine (phead_any f r text none l _ H.out hl).mono ?_; rintro x w1 ⟨hK1, hm⟩; rw [HR.out] at hm; obtain ⟨g1, n1, c1, nb1, rfl, hP1, hNb1, hT1, hng1⟩ := hm; have hC1 := CHead.first HG0.out HS0.out hrl hK1 hNb1 hT1 hng1; obtain ⟨y0, y1, yf, yl⟩ := hC1.facts; obtain ⟨j1, ⟨_, j0⟩, jl⟩ := hP1.kind; have c10 := hP1.kind10; rw [c58] at c10; have c8 := Rf.kindOf_8 (k := u.k); rw [c46] at c8)
      | (go_at_call 48; refine (pexpect_bad _ 8 r text nb1 u l2 ns1 hP1 c8).mono ?_; rintro e w7 ⟨rfl, hE7, hK7⟩; have hC7 := hC1.over hrl (kept_may hK7) (.inl rfl); obtain ⟨v0, v1, vf, vl⟩ := hC7.facts; have el := hE7.facts))
     refine bodyPost_ret (v := .tuple #[.agg #[.slice none 0 0, .slice none 0 0], .bool false]) (by simp [results, Tryz.results61, go_sem, *]) rfl ?_
     rw [HW.out]
     exact ⟨((HK0.out.trans hC7.kept (fun i _ e => May.none i e)).setCell (p := ⟨w.heap.size, 0, none⟩) (Or.inl (Nat.le_refl _)) _).setCell (p := ⟨w.heap.size, 1, none⟩) (Or.inl (Nat.le_refl _)) _, rfl, (hE7.setOther _ hrN).setOther _ hrN⟩
   ·have e58 : u.k = 58 := eq_of_beq c58
    have Hu0 : Hid (u.k ≠ 0) := by unfold Hid; omega
    have Hu63 : Hid (u.k ≠ 63) := by unfold Hid; omega
    cases hg : Rf.goalsP f 8 [] l2 ns1 with
    | error x =>
     obtain ⟨e, q⟩ := x
     have HW : Hid (Rf.clauseP f l = .error (e, q)) := by unfold Hid; simp only [Rf.clauseP]; rw [hh]; simp only []; rw [if_pos e58, hg]
     have HR : Hid _ := hh
     have HG : Hid _ := hg
     clear hh hg e58
     go_enter Tryz.func61, Tryz.ntmps61
     go_wp2_with (first
      | (go_at_call 78; refine (phead_any f r text none l _ H.out hl).mono ?_; rintro x w1 ⟨hK1, hm⟩; rw [HR.out] at hm; obtain ⟨g1, n1, c1, nb1, rfl, hP1, hNb1, hT1, hng1⟩ := hm; have hC1 := CHead.first HG0.out HS0.out hrl hK1 hNb1 hT1 hng1; obtain ⟨y0, y1, yf, yl⟩ := hC1.facts; obtain ⟨j1, ⟨_, j0⟩, jl⟩ := hP1.kind; have c10 := hP1.kind10; rw [c58] at c10; have c8 := Rf.kindOf_8 (k := u.k))
      | (go_at_call 46; refine (step_any _ r text nb1 u l2 ns1 hP1 Hu0.out Hu63.out).mono ?_; rintro e w2 ⟨rfl, hP2, hK2⟩; have hC2 := hC1.over hrl (kept_may hK2) (.inl rfl))
      | (go_at_call 47; refine (pgoals_any f r text nb1 l2 ns1 _ hP2 hl2).mono ?_; rintro x w3 ⟨hK3, hm3⟩; rw [HG.out] at hm3; obtain ⟨rfl, hE3⟩ := hm3; have hC3 := hC2.over hrl hK3 (.inl rfl); obtain ⟨x0, x1, xf, xl⟩ := hC3.facts; have el := hE3.facts))
     refine bodyPost_ret (v := .tuple #[.agg #[.slice none 0 0, .slice none 0 0], .bool false]) (by simp [results, Tryz.results61, go_sem, *]) rfl ?_
     rw [HW.out]
     exact ⟨((HK0.out.trans hC3.kept (fun i _ e => May.none i e)).setCell (p := ⟨w.heap.size, 0, none⟩) (Or.inl (Nat.le_refl _)) _).setCell (p := ⟨w.heap.size, 1, none⟩) (Or.inl (Nat.le_refl _)) _, rfl, (hE3.setOther _ hrN).setOther _ hrN⟩
    | ok x =>
     obtain ⟨gs, l3, ns2⟩ := x
     obtain ⟨y, l4, rfl⟩ := Rf.goalsP_len f _ _ _ _ _ _ _ hg
     cases c46 : (y.k != 46)
     ·have HW : Hid (Rf.clauseP f l = .ok (⟨p, gs, ns2.length⟩, l4)) := by unfold Hid; simp only [Rf.clauseP]; rw [hh]; simp only []; rw [if_pos e58, hg]; simp only []; rw [dotS_ok _ _ _ _ c46]
      have e46 : y.k = 46 := by simpa using c46
      have Hy0 : Hid (y.k ≠ 0) := by unfold Hid; omega
      have Hy63 : Hid (y.k ≠ 63) := by unfold Hid; omega
      have HR : Hid _ := hh
      have HG : Hid _ := hg
      clear hh hg e58 e46
      go_enter Tryz.func61, Tryz.ntmps61
      go_wp2_with (first
       | (go_at_call 78; refine (phead_any f r text none l _ H.out hl).mono ?_; rintro x w1 ⟨hK1, hm⟩; rw [HR.out] at hm; obtain ⟨g1, n1, c1, nb1, rfl, hP1, hNb1, hT1, hng1⟩ := hm; have hC1 := CHead.first HG0.out HS0.out hrl hK1 hNb1 hT1 hng1; obtain ⟨y0, y1, yf, yl⟩ := hC1.facts; obtain ⟨j1, ⟨_, j0⟩, jl⟩ := hP1.kind; have c10 := hP1.kind10; rw [c58] at c10; have c8 := Rf.kindOf_8 (k := u.k))
       | (go_at_call 46; refine (step_any _ r text nb1 u l2 ns1 hP1 Hu0.out Hu63.out).mono ?_; rintro e w2 ⟨rfl, hP2, hK2⟩; have hC2 := hC1.over hrl (kept_may hK2) (.inl rfl))
       | (go_at_call 47; refine (pgoals_any f r text nb1 l2 ns1 _ hP2 hl2).mono ?_; rintro x w3 ⟨hK3, hm3⟩; rw [HG.out] at hm3; obtain ⟨a3, n3, c3, nb3, acc, rfl, hP3, hNb3, hA3, hgs, h8⟩ := hm3; have hC3 := hC2.over hrl hK3 hNb3; obtain ⟨x0, x1, xf, xl⟩ := hC3.facts; obtain ⟨i1, ⟨_, i0⟩, il⟩ := hP3.kind; have d8 := Rf.kindOf_8 (k := y.k); rw [c46] at d8)
       | (go_at_call 48; refine (pexpect_ok _ 8 r text nb3 y l4 ns2 hP3 d8 Hy0.out Hy63.out).mono ?_; rintro e w7 ⟨rfl, hP7, hK7⟩; have hC7 := hC3.over hrl (kept_may hK7) (.inl rfl); obtain ⟨v0, v1, vf, vl⟩ := hC7.facts))
      refine bodyPost_ret (v := .tuple #[.agg #[.slice (some ⟨g1, 0, none⟩) n1 c1, .slice a3 n3 c3], .bool true]) (by simp [results, Tryz.results61, go_sem, *]) rfl ?_
      rw [HW.out, hgs]
      have hA7 := hA3.over (b := r) (nb1 := nb3) (by have := hC2.size; have := hC2.kept.size; omega) (kept_may hK7) (.inl rfl)
      have hs2 := hC2.kept.size
      have hs20 := hC2.size
      have hNew : ∀ k, New w2 w7 nb3 k -> New ((w.setCell ⟨r, 5, none⟩ (.slice none 0 0)).alloc (.cells #[.slice none 0 0, .slice none 0 0] 59)) w7 nb3 k := fun k h => ⟨by have := h.1; omega, h.2.1, h.2.2⟩
      obtain ⟨e1, e2, e3, e4⟩ := clause_end (hx := ⟨some ⟨g1, 0, none⟩, n1, c1⟩) (bx := ⟨a3, n3, c3⟩) (acc := acc) rfl hrl HK0.out hC7 hP7 hA7.row (fun k e => hNew k (hA7.rowNew k e)) hA7.goals (fun k h => hNew k h.1) h8 ns2.length (.slice (some ⟨g1, 0, none⟩) n1 c1) (.slice a3 n3 c3)
      exact ⟨e1, ⟨some ⟨g1, 0, none⟩, n1, c1⟩, ⟨a3, n3, c3⟩, nb3, ns2, rfl, e2, e3, e4⟩
     ·have HW : Hid (Rf.clauseP f l = .error (Rf.errOf y 2)) := by unfold Hid; simp only [Rf.clauseP]; rw [hh]; simp only []; rw [if_pos e58, hg]; simp only []; rw [dotS_bad _ _ _ _ c46]
      have HR : Hid _ := hh
      have HG : Hid _ := hg
      clear hh hg e58
      go_enter Tryz.func61, Tryz.ntmps61
      go_wp2_with (first
       | (go_at_call 78; refine (phead_any f r text none l _ H.out hl).mono ?_; rintro x w1 ⟨hK1, hm⟩; rw [HR.out] at hm; obtain ⟨g1, n1, c1, nb1, rfl, hP1, hNb1, hT1, hng1⟩ := hm; have hC1 := CHead.first HG0.out HS0.out hrl hK1 hNb1 hT1 hng1; obtain ⟨y0, y1, yf, yl⟩ := hC1.facts; obtain ⟨j1, ⟨_, j0⟩, jl⟩ := hP1.kind; have c10 := hP1.kind10; rw [c58] at c10; have c8 := Rf.kindOf_8 (k := u.k))
       | (go_at_call 46; refine (step_any _ r text nb1 u l2 ns1 hP1 Hu0.out Hu63.out).mono ?_; rintro e w2 ⟨rfl, hP2, hK2⟩; have hC2 := hC1.over hrl (kept_may hK2) (.inl rfl))
       | (go_at_call 47; refine (pgoals_any f r text nb1 l2 ns1 _ hP2 hl2).mono ?_; rintro x w3 ⟨hK3, hm3⟩; rw [HG.out] at hm3; obtain ⟨a3, n3, c3, nb3, acc, rfl, hP3, hNb3, hA3, hgs, h8⟩ := hm3; have hC3 := hC2.over hrl hK3 hNb3; obtain ⟨x0, x1, xf, xl⟩ := hC3.facts; obtain ⟨i1, ⟨_, i0⟩, il⟩ := hP3.kind; have d8 := Rf.kindOf_8 (k := y.k); rw [c46] at d8)
       | (go_at_call 48; refine (pexpect_bad _ 8 r text nb3 y l4 ns2 hP3 d8).mono ?_; rintro e w7 ⟨rfl, hE7, hK7⟩; have hC7 := hC3.over hrl (kept_may hK7) (.inl rfl); obtain ⟨v0, v1, vf, vl⟩ := hC7.facts; have el := hE7.facts))
      refine bodyPost_ret (v := .tuple #[.agg #[.slice none 0 0, .slice none 0 0], .bool false]) (by simp [results, Tryz.results61, go_sem, *]) rfl ?_
      rw [HW.out]
      exact ⟨((HK0.out.trans hC7.kept (fun i _ e => May.none i e)).setCell (p := ⟨w.heap.size, 0, none⟩) (Or.inl (Nat.le_refl _)) _).setCell (p := ⟨w.heap.size, 1, none⟩) (Or.inl (Nat.le_refl _)) _, rfl, (hE7.setOther _ hrN).setOther _ hrN⟩
structure PClV where
 h : SlV
 b : SlV
def pclCells (x : PClV) : List Value := [.slice x.h.a x.h.n x.h.c, .slice x.b.a x.b.n x.b.c]
theorem pclCells_len (s : PClV) : (pclCells s).length = 2 := rfl
theorem pclCells_one (s : PClV) : ∀ u ∈ pclCells s, u.oneCell' = true := by
 intro u hu
 simp only [pclCells, List.mem_cons, List.not_mem_nil, or_false] at hu
 rcases hu with rfl | rfl <;> rfl
theorem Tryz.elemPCl : ElemOk Tryz.prog 51 59 2 48 (.agg #[.slice none 0 0, .slice none 0 0]) := ⟨Tryz.underlying51, by kernel_rfl, rfl, by decide, by decide⟩
structure PClsAt (F : Nat -> Prop) (w : World) (v : Value) (acc : List (PClV × Rf.Cl)) : Prop where
 row : RowIs w 0 59 2 pclCells v (acc.map (·.1))
 rowF : ∀ k, v.ownBlock = some k -> F k
 cls : ∀ q ∈ acc, PClAt (fun k => F k /\ v.ownBlock ≠ some k) w q.1.h q.1.b q.2
 none : acc = [] -> v = .slice none 0 0
theorem PClsAt.mono {w : World} {F F' : Nat -> Prop} {v : Value} {acc : List (PClV × Rf.Cl)} (h : PClsAt F w v acc) (hF : ∀ k, F k -> F' k) : PClsAt F' w v acc :=
 ⟨h.row, fun k e => hF k (h.rowF k e), fun q hq => (h.cls q hq).keptBy (Kept.refl (fun _ => False) _) (fun k _ hk => ⟨fun e => e, hF k hk.1, hk.2⟩), h.none⟩
theorem pcls_ok {w w2 w3 w4 : World} {r : Nat} {text : ByteArray} {o1 o2 : Obj} {nb1 nb3 : Option Nat} {v : Value} {acc : List (PClV × Rf.Cl)} {x : PClV} {cl : Rf.Cl} {l l3 : List Rf.Tok} {ns ns3 : List ByteArray} {gA n capA : Nat}
  (hs : w.heap.size <= w2.heap.size) (hR2 : Pr w2 r text nb1 l ns) (hA : PClsAt (Fb w w2 r nb1) w2 v acc) (hK3 : Kept (May r nb1) w2 w3) (hR3 : Pr w3 r text nb3 l3 ns3) (hn3 : ∀ y, nb3 = some y -> w2.heap.size <= y)
  (hC : PClAt (New w2 w3 nb3) w3 x.h x.b cl) (hgr : ((w3.alloc o1).alloc o2).grownBy w4 v.ownBlock) (hn : Nb ((w3.alloc o1).alloc o2) v.ownBlock (some gA))
  (hr : RowIs w4 0 59 2 pclCells (.slice (some ⟨gA, 0, none⟩) n capA) ((acc.map (·.1)) ++ [x])) :
  PClsAt (Fb w w4 r nb3) w4 (.slice (some ⟨gA, 0, none⟩) n capA) (acc ++ [(x, cl)]) /\ Pr w4 r text nb3 l3 ns3 := by
 have hb2 := hR2.lt.1
 have hb3 := hR3.lt.1
 have hs3 := hK3.size
 have hs4 : w3.heap.size + 2 <= w4.heap.size := by have := hgr.size; simpa using this
 have hk4 : Kept (fun k => v.ownBlock = some k) w3 w4 := ((((Kept.refl (fun k => v.ownBlock = some k) w3).alloc o1).alloc o2).grown hgr (fun k e => .inr e))
 have hgl : gA < w4.heap.size := (hr.lt gA rfl).2
 have hvl : ∀ k, v.ownBlock = some k -> k < w2.heap.size := fun k e => (hA.rowF k e).2.1
 have hgn : w.heap.size <= gA /\ nb3 ≠ some gA /\ gA ≠ r := by
  rcases hn with e | ⟨k, e, hk⟩
  ·have := hA.rowF gA e.symm
   exact ⟨this.1, fun e2 => by have := hn3 gA e2; have := hvl gA e.symm; omega, this.2.2.2⟩
  ·have := Option.some.inj e
   simp at hk
   exact ⟨by omega, fun e2 => by have := hR3.lt.2.1 gA e2; omega, by omega⟩
 refine ⟨⟨by rw [List.map_append]; exact hr, fun k e => ?_, fun q hq => ?_, fun e => by simp at e⟩, hR3.keptBy hk4 (fun e => (hA.rowF r e).2.2.2 rfl) (fun k e e2 => by have := hn3 k e; have := hvl k e2; omega)⟩
 ·obtain rfl := Option.some.inj e
  exact ⟨hgn.1, hgl, hgn.2.1, hgn.2.2⟩
 ·have hown : ∀ k, k < w3.heap.size -> v.ownBlock ≠ some k -> (Value.slice (some ⟨gA, 0, none⟩) n capA).ownBlock ≠ some k := fun k hk h e => hn.ne h (by simp; omega) e
  rcases List.mem_append.1 hq with hq | hq
  ·refine ((hA.cls q hq).keptBy hK3 (F' := fun k => Fb w w3 r nb3 k /\ v.ownBlock ≠ some k) (fun k hk1 hF => ?_)).keptBy hk4 (fun k hk1 hF => ?_)
   ·obtain ⟨⟨f1, f2, f3, f4⟩, f5⟩ := hF
    exact ⟨fun e => by rcases e with e | e; exact f4 e; exact f3 e.symm, ⟨f1, by omega, fun e => by have := hn3 k e; omega, f4⟩, f5⟩
   ·obtain ⟨⟨f1, f2, f3, f4⟩, f5⟩ := hF
    exact ⟨f5, ⟨f1, by omega, f3, f4⟩, hown k hk1 f5⟩
  ·simp at hq; subst hq
   refine hC.keptBy hk4 (fun k hk1 hF => ?_)
   obtain ⟨f1, f2, f3⟩ := hF
   have hv : v.ownBlock ≠ some k := fun e => by have := hvl k e; omega
   exact ⟨hv, ⟨by omega, by omega, f3, by omega⟩, hown k hk1 hv⟩
def PClausesPost (w : World) (res : Except (Int × Nat) (List Rf.Cl)) (x : Ending) (w' : World) : Prop :=
  Below w.heap.size w w' /\
  (match res with
   | .ok cls => ∃ v acc, x = .returned (.tuple #[v, .int .i64 0, .int .i64 0]) /\ PClsAt (fun k => w.heap.size <= k /\ k < w'.heap.size) w' v acc /\ cls = acc.map (·.2)
   | .error (e, q) => x = .returned (.tuple #[.slice none 0 0, .int .i64 e, .int .i64 q]) /\ e ≠ 0)
set_option maxHeartbeats 400000 in
theorem pclauses_long (s : ByteArray) (w : World) (hs : 400 < s.size) (hm : s.size <= maxLen) :
  Calls Tryz.prog 45 #[.string s] w fun r w' => PClausesPost w (Rf.readS s) r w' := by
 have hS : Hid (Rf.readS s = .error (1, 0)) := by unfold Hid Rf.readS; rw [if_pos hs]
 unfold maxLen at hm
 go_enter Tryz.func45, Tryz.ntmps45
 go_wp2
 go_ret3
 rw [hS.out]
 exact ⟨Below.refl _ _, rfl, by decide⟩
def PClsSt (w : World) (r f : Nat) (text : ByteArray) (want : Except (Int × Nat) (List Rf.Cl)) (m : Nat) (v : Value) (wr : World) : Prop :=
 Below w.heap.size w wr /\ ∃ acc l1 ns1 nb1, l1.length < m /\ m + acc.length <= 402 /\ Pr wr r text nb1 l1 ns1 /\ l1.length <= f /\ (∀ x, nb1 = some x -> w.heap.size <= x) /\ PClsAt (Fb w wr r nb1) wr v acc /\ Hid (want = Rf.clausesS f m (acc.map (·.2)) l1)
set_option maxHeartbeats 2000000 in
set_option maxRecDepth 100000 in
theorem pclauses_short (s : ByteArray) (w : World) (hs : s.size <= 400) :
  Calls Tryz.prog 45 #[.string s] w fun r w' => PClausesPost w (Rf.readS s) r w' := by
 have hS : Hid (Rf.readS s = Rf.clausesS (Rf.tokens s).length ((Rf.tokens s).length + 1) [] (Rf.tokens s)) := by unfold Hid Rf.readS; rw [if_neg (by omega)]
 have hlen : (Rf.tokens s).length <= 401 := by have := Rf.toks_len s s.size 0; unfold Rf.tokens; omega
 have hend : Rf.Ended (Rf.tokens s) := Rf.toks_ended s _ _
 generalize hL : Rf.tokens s = L at *
 have HL : Hid (Rf.rest s 0 = L) := hL
 clear hL
 generalize Rf.readS s = want at *
 go_enter Tryz.func45, Tryz.ntmps45
 go_wp2_with (go_at_call 46; refine (step_raw _ w.heap.size s 0 0 0 0 (.slice none 0 0) (blk_at _ _ _ (by simp)) hs (Nat.zero_le _)).mono ?_; rintro x w1 ⟨K', f', to', C', rfl, hB1, ht1, hK1⟩)
 have hszK := hK1.size
 have hP1 : Hid (Pr w1 w.heap.size s none L []) := by
  have h9 := Pr.mk' hB1 ht1 (Nat.zero_le _) hs (RowIs.nil _ _ _ _ _) rfl (by simp [Value.ownBlock]) (ns := []) (by simp)
  rw [HL.out] at h9
  exact h9
 have hBel1 : Hid (Below w.heap.size w w1) := by
  have h9 := (Kept.refl (fun k => k = w.heap.size) w).alloc (.cells #[.string s, .int .i64 0, .int .i64 0, .int .i64 0, .int .i64 0, .slice none 0 0, .int .i64 0, .int .i64 0] 95)
  exact (h9.trans hK1 (fun _ _ e => e)).below (Nat.le_refl _) (fun k hk e => by omega)
 clear hB1 ht1 hszK
 have hwr : w.heap.size <= w.heap.size := Nat.le_refl _
 generalize hr0 : w.heap.size = r at hP1 hwr ⊢
 go_loopg [6] (L.length + 1) (fun m v wr => PClsSt w r L.length s want m v wr)
 case atStart => exact ⟨hBel1.out, [], L, [], none, by omega, by simp; omega, hP1.out, Nat.le_refl _, (fun x e => by cases e), ⟨RowIs.nil _ _ _ _ _, (fun k e => by simp [Value.ownBlock] at e), (fun q hq => by simp at hq), fun _ => rfl⟩, hS⟩
 case round =>
  obtain ⟨hbr, acc, l1, ns1, nb1, hm1, hm2, hP, hlf, hnn, hA, hwant⟩ := hrel
  obtain ⟨t, l, rfl⟩ : ∃ t l, l1 = t :: l := by
   cases l1 with
   | nil => exact absurd rfl hP.ended.ne
   | cons t l => exact ⟨t, l, rfl⟩
  obtain ⟨m', rfl⟩ : ∃ m', gk = m' + 1 := ⟨gk - 1, by omega⟩
  obtain ⟨a6, c6, hv6⟩ := row_slice hA.row
  rw [List.length_map] at hv6
  subst hv6
  obtain ⟨j1, ⟨_, j0⟩, jl⟩ := hP.kind
  have hszr := hbr.size
  have hk0 := Rf.kindOf_0 (k := t.k)
  cases ht0 : (t.k != 0)
  ·rw [ht0] at hk0
   have hwe : Hid (want = .ok (acc.map (·.2))) := by unfold Hid; rw [hwant.out, Rf.clausesS, if_pos (by simpa using ht0)]
   go_wp2_with fail
   go_ret3
   rw [hwe.out]
   exact ⟨hbr, _, acc, rfl, hA.mono (fun k hk => ⟨hk.1, hk.2.1⟩), rfl⟩
  ·rw [ht0] at hk0
   have e0 : t.k ≠ 0 := by simpa using ht0
   have HP : Hid _ := hP
   cases hres : Rf.clauseP L.length (t :: l) with
   | error x =>
    obtain ⟨e, q⟩ := x
    have hwe : Hid (want = .error (e, q)) := by unfold Hid; rw [hwant.out, Rf.clausesS, if_neg e0, Rf.clauseS_P, hres]
    have HR : Hid _ := hres
    clear hres e0
    go_wp2_with (go_at_call 61; refine (pclause_any L.length r s nb1 (t :: l) ns1 _ hP hlf).mono ?_; rintro x w3 ⟨hK3, hm⟩; rw [HR.out] at hm; have hs3 := hK3.size; obtain ⟨rfl, hE3⟩ := hm; obtain ⟨tx, K3, f3, to3, C3, a3, n3, c3, hB3, hne3⟩ := hE3.ex; obtain ⟨x0, x1, x2, x3, x4, x5, x6, x7, xf, xl⟩ := hB3.facts; have Hne3 : Hid _ := hne3; clear hne3 hB3)
    go_region
    go_wp2_with fail
    go_ret3
    rw [hwe.out]
    refine ⟨?_, rfl, Hne3.out⟩
    exact ((hbr.trans (hK3.below hszr (fun k hk e => by
     rcases e with e | e
     ·omega
     ·have := hnn k e.symm; omega))).alloc (by omega) _).drew
   | ok x =>
    obtain ⟨cl, l'⟩ := x
    have hlen' : l'.length < (t :: l).length := by
     have h9 := hres
     rw [<- Rf.clauseS_P] at h9
     exact Rf.clauseS_len h9
    have hwe : Hid (want = Rf.clausesS L.length m' (acc.map (·.2) ++ [cl]) l') := by unfold Hid; rw [hwant.out, Rf.clausesS, if_neg e0, Rf.clauseS_P, hres]
    have HR : Hid _ := hres
    clear hres e0
    go_wp2_with (first
     | (go_at_call 61; refine (pclause_any L.length r s nb1 (t :: l) ns1 _ hP hlf).mono ?_; rintro x w3 ⟨hK3, hm⟩; rw [HR.out] at hm; have hs3 := hK3.size; obtain ⟨hx, bx, nb3, ns3, rfl, hP3, hn3, hC3⟩ := hm; have hA3row := hA.row.keptBy hK3 (fun k e e2 => by rcases e2 with e2 | e2; exact (hA.rowF k e).2.2.2 e2; exact (hA.rowF k e).2.2.1 e2.symm))
     | (at_builtin; refine wpList_app Tryz.elemPCl pclCells pclCells_len pclCells_one _ rfl (.tmp 29) (.tmp 31) rfl 0 _ (acc.map (·.1)) rfl ((hA3row.alloc _).alloc _) ⟨_, 0, none⟩ 1 (⟨hx, bx⟩ : PClV) rfl (cell_two_at _ _ (by simp) _ _ _) (by simp; omega) (Nat.zero_le _) ?_; intro gA capA w4 hrow4 hgr4 hnb4; rw [List.length_map] at hrow4))
    go_roundg m'
    case measure => omega
    case rel =>
     have hB3 : Below w.heap.size w w3 := hbr.trans (hK3.below hszr (fun k hk e => by
      rcases e with e | e
      ·omega
      ·have := hnn k e.symm; omega))
     have hB4 : Below w.heap.size w w4 := ((hB3.alloc hB3.size _).alloc (by have := hB3.size; simp; omega) _).grown hgr4 (by have := hB3.size; simp; omega) (fun k e => (hA.rowF k e).1)
     obtain ⟨hA4, hR4⟩ := pcls_ok (x := ⟨hx, bx⟩) hszr hP hA hK3 hP3 hn3 hC3 hgr4 hnb4 hrow4
     refine ⟨hB4, acc ++ [(⟨hx, bx⟩, cl)], l', ns3, nb3, ?_, ?_, hR4, ?_, fun x e => ?_, hA4, ?_⟩
     ·simp only [List.length_cons] at hlen' hm1; omega
     ·simp; omega
     ·simp only [List.length_cons] at hlen' hlf; omega
     ·have := hn3 x e; omega
     ·have h9 := hwe.out
      simp only [List.map_append, List.map_cons, List.map_nil]
      exact h9
theorem pclauses_any (s : ByteArray) (w : World) (hm : s.size <= maxLen) :
  Calls Tryz.prog 45 #[.string s] w fun r w' => PClausesPost w (Rf.readS s) r w' := by
 by_cases h : 400 < s.size
 ·exact pclauses_long s w h hm
 ·exact pclauses_short s w (by omega)
end Go.Proofs.YtbiojnljihgpoaaGreatDoor
namespace Go.Proofs
open Go.Shelf
def Tryz.laysM246_ren : Go.Shelf.Ren := ⟨fun | 246 => 77 | 283 => 102 | 284 => 103 | 285 => 104 | 286 => 105 | 129 => 124 | 317 => 123 | 318 => 125 | 319 => 126 | 320 => 127 | 337 => 136 | 338 => 137 | n => n, fun | 2 => 2 | 3 => 3 | 9 => 9 | 4 => 4 | 171 => 147 | 0 => 0 | 53 => 148 | 37 => 47 | 5 => 5 | 173 => 151 | 212 => 162 | 51 => 81 | 20 => 20 | 213 => 163 | 46 => 107 | 232 => 176 | 233 => 177 | n => n, fun | 17 => 0 | 18 => 1 | 19 => 2 | n => n⟩
def Tryz.laysM243_ren : Go.Shelf.Ren := ⟨fun | 243 => 60 | 246 => 77 | 283 => 102 | 284 => 103 | 285 => 104 | 286 => 105 | 129 => 124 | 317 => 123 | 318 => 125 | 319 => 126 | 320 => 127 | 337 => 136 | 338 => 137 | n => n, fun | 3 => 3 | 9 => 9 | 2 => 2 | 4 => 4 | 171 => 147 | 0 => 0 | 53 => 148 | 37 => 47 | 5 => 5 | 173 => 151 | 212 => 162 | 51 => 81 | 20 => 20 | 213 => 163 | 46 => 107 | 232 => 176 | 233 => 177 | n => n, fun | 17 => 0 | 18 => 1 | 19 => 2 | n => n⟩
def Tryz.laysM171_ren : Go.Shelf.Ren := ⟨fun | 171 => 43 | 243 => 60 | 246 => 77 | 283 => 102 | 284 => 103 | 285 => 104 | 286 => 105 | 129 => 124 | 317 => 123 | 318 => 125 | 319 => 126 | 320 => 127 | 337 => 136 | 338 => 137 | n => n, fun | 3 => 3 | 9 => 9 | 2 => 2 | 4 => 4 | 171 => 147 | 0 => 0 | 53 => 148 | 37 => 47 | 5 => 5 | 173 => 151 | 212 => 162 | 51 => 81 | 20 => 20 | 213 => 163 | 46 => 107 | 232 => 176 | 233 => 177 | n => n, fun | 17 => 0 | 18 => 1 | 19 => 2 | n => n⟩
theorem Tryz.laysM171 : Go.Proofs.LaysM.n171 Tryz.prog Tryz.laysM171_ren := {
 mixed := by kernel_rfl
 f129 := Tryz.func124.trans (congrArg some (by kernel_rfl))
 f171 := Tryz.func43.trans (congrArg some (by kernel_rfl))
 f243 := Tryz.func60.trans (congrArg some (by kernel_rfl))
 f246 := Tryz.func77.trans (congrArg some (by kernel_rfl))
 f283 := Tryz.func102.trans (congrArg some (by kernel_rfl))
 f284 := Tryz.func103.trans (congrArg some (by kernel_rfl))
 f285 := Tryz.func104.trans (congrArg some (by kernel_rfl))
 f286 := Tryz.func105.trans (congrArg some (by kernel_rfl))
 f317 := Tryz.func123.trans (congrArg some (by kernel_rfl))
 f318 := Tryz.func125.trans (congrArg some (by kernel_rfl))
 f319 := Tryz.func126.trans (congrArg some (by kernel_rfl))
 f320 := Tryz.func127.trans (congrArg some (by kernel_rfl))
 f337 := Tryz.func136.trans (congrArg some (by kernel_rfl))
 f338 := Tryz.func137.trans (congrArg some (by kernel_rfl))
 t0 := Tryz.underlying0
 a0 := Tryz.isAgg0
 z0 := Tryz.sizeOf0
 v0 := Tryz.zeroValue0
 t2 := Tryz.underlying2
 a2 := Tryz.isAgg2
 z2 := Tryz.sizeOf2
 v2 := Tryz.zeroValue2
 t3 := Tryz.underlying3
 a3 := Tryz.isAgg3
 z3 := Tryz.sizeOf3
 v3 := Tryz.zeroValue3
 t4 := Tryz.underlying4
 a4 := Tryz.isAgg4
 z4 := Tryz.sizeOf4
 v4 := Tryz.zeroValue4
 t5 := Tryz.underlying5
 a5 := Tryz.isAgg5
 z5 := Tryz.sizeOf5
 v5 := Tryz.zeroValue5
 t9 := Tryz.underlying9
 a9 := Tryz.isAgg9
 z9 := Tryz.sizeOf9
 v9 := Tryz.zeroValue9
 t20 := Tryz.underlying20
 a20 := Tryz.isAgg20
 z20 := Tryz.sizeOf20
 v20 := Tryz.zeroValue20
 t37 := Tryz.underlying47
 a37 := Tryz.isAgg47
 z37 := Tryz.sizeOf47
 v37 := Tryz.zeroValue47
 t46 := Tryz.underlying107
 a46 := Tryz.isAgg107
 z46 := Tryz.sizeOf107
 v46 := Tryz.zeroValue107
 t51 := Tryz.underlying81
 a51 := Tryz.isAgg81
 z51 := Tryz.sizeOf81
 v51 := Tryz.zeroValue81
 t53 := Tryz.underlying148
 a53 := Tryz.isAgg148
 z53 := Tryz.sizeOf148
 v53 := Tryz.zeroValue148
 t171 := Tryz.underlying147
 a171 := Tryz.isAgg147
 z171 := Tryz.sizeOf147
 v171 := Tryz.zeroValue147
 t173 := Tryz.underlying151
 a173 := Tryz.isAgg151
 z173 := Tryz.sizeOf151
 v173 := Tryz.zeroValue151
 t212 := Tryz.underlying162
 a212 := Tryz.isAgg162
 z212 := Tryz.sizeOf162
 v212 := Tryz.zeroValue162
 t213 := Tryz.underlying163
 a213 := Tryz.isAgg163
 z213 := Tryz.sizeOf163
 t232 := Tryz.underlying176
 a232 := Tryz.isAgg176
 z232 := Tryz.sizeOf176
 v232 := Tryz.zeroValue176
 t233 := Tryz.underlying177
 a233 := Tryz.isAgg177
 z233 := Tryz.sizeOf177
 v233 := Tryz.zeroValue177
 g17 := by kernel_rfl
 g18 := by kernel_rfl
 g19 := by kernel_rfl
 i0 := by kernel_rfl
 i2 := by kernel_rfl
 i3 := by kernel_rfl
 i4 := by kernel_rfl
 i5 := by kernel_rfl
 i9 := by kernel_rfl
 i20 := by kernel_rfl
 i37 := by kernel_rfl
 i46 := by kernel_rfl
 i51 := by kernel_rfl
 i53 := by kernel_rfl
 i171 := by kernel_rfl
 i173 := by kernel_rfl
 i212 := by kernel_rfl
 i232 := by kernel_rfl
 i233 := by kernel_rfl
 m17 := by kernel_rfl
 m18 := by kernel_rfl
 m19 := by kernel_rfl }
open Go.RowKit Go.Sort Go.Lib in
theorem Tryz.strconv_Itoa (n : Int) (h0 : -9223372036854775808 <= n) (h1 : n <= 9223372036854775807) (w : World) (htab : Lib.TabIs Tryz.prog w "internal/strconv.uint64pow10" .u64 Lib.pow10Tab) :
  Calls Tryz.prog 43 #[.int .i64 n] w fun e w' => e = .returned (.string ⟨(Lib.itoa n).toArray⟩) /\ ∃ k os, w' = grow (w.drewN k) os := Any.strconv_Itoa Tryz.laysM171 n h0 h1 w htab
end Go.Proofs
namespace Rf
theorem letter_cut (j : Nat) (h : j < 16) : (⟨#[65, 66, 67, 68, 69, 70, 71, 72, 73, 74, 75, 76, 77, 78, 79, 80]⟩ : ByteArray).extract j (j + 1) = letterOf (j : Int) := by
 have hd : j = 0 \/ j = 1 \/ j = 2 \/ j = 3 \/ j = 4 \/ j = 5 \/ j = 6 \/ j = 7 \/ j = 8 \/ j = 9 \/ j = 10 \/ j = 11 \/ j = 12 \/ j = 13 \/ j = 14 \/ j = 15 := by omega
 refine ext_list ?_
 rw [extract_list]
 rcases hd with rfl | rfl | rfl | rfl | rfl | rfl | rfl | rfl | rfl | rfl | rfl | rfl | rfl | rfl | rfl | rfl <;> rfl
end Rf
namespace Go.Proofs.YtbiojnljihgpoaaGreatDoor
open Go.RowKit
set_option maxHeartbeats 400000 in
theorem pletter_any (i : Int) (w : World) (h0 : 0 <= i) (h1 : i < 16) :
  Calls Tryz.prog 97 #[.int .i64 i] w fun r w' => r = .returned (.string (Rf.letterOf i)) /\ w' = w := by
 obtain ⟨j, rfl⟩ := Int.eq_ofNat_of_zero_le h0
 have HL : Hid _ := Rf.letter_cut j (by omega)
 go_enter Tryz.func97, Tryz.ntmps97
 go_wp2
 go_ret
 exact ⟨ret_str HL.out, rfl⟩
set_option maxHeartbeats 1000000 in
theorem word_part (b : Bool) (p : Rf.Part) (w : World) (hg : Rf.GoodW b p) (hT : Tab w) :
  Calls Tryz.prog 70 #[.agg #[.int .i64 p.kind, .string p.name, .int .i64 p.value, .int .i64 p.args], .bool b] w fun r w' => r = .returned (.string (Rf.wordW b p)) /\ Below w.heap.size w w' := by
 have HT : Hid _ := hT
 have Hg : Hid (Rf.GoodW b p) := hg
 clear hT hg
 cases c1 : (p.kind == 1)
 ·cases c2 : (p.kind == 2)
  ·cases c4 : (p.kind == 4)
   ·have HW : Hid (Rf.wordW b p = p.name) := Rf.wordW_name b p c1 c2 c4
    go_enter Tryz.func70, Tryz.ntmps70
    go_wp2
    go_ret
    exact ⟨ret_str HW.out.symm, (by repeat(first|exact bl0 _ _|refine bl1 ?_ (by simp<;>omega) _|refine bl2 ?_|refine bl3 ?_ _|refine bl4 ?_ (by simp<;>omega) _))⟩
   ·have HW : Hid (Rf.wordW b p = ⟨#[33]⟩) := Rf.wordW_cut b p c1 c2 c4
    go_enter Tryz.func70, Tryz.ntmps70
    go_wp2
    go_ret
    exact ⟨ret_str HW.out.symm, (by repeat(first|exact bl0 _ _|refine bl1 ?_ (by simp<;>omega) _|refine bl2 ?_|refine bl3 ?_ _|refine bl4 ?_ (by simp<;>omega) _))⟩
  ·have HW : Hid (Rf.wordW b p = Rf.itoaB p.value) := Rf.wordW_num b p c1 c2
   obtain ⟨a0, a1⟩ := (Rf.GoodW.a Hg.out).2.1 (eq_of_beq c2)
   go_enter Tryz.func70, Tryz.ntmps70
   go_wp2_with (go_at_call 43; refine (Tryz.strconv_Itoa p.value (by omega) (by omega) _ (Tab.below HT.out ((Below.refl _ w).alloc (Nat.le_refl _) _))).mono ?_; rintro r w1 ⟨rfl, k, os, hw1⟩)
   go_ret
   exact ⟨ret_str HW.out.symm, ((Below.refl _ w).alloc (Nat.le_refl _) _).trans ((grow_below _ _ _).mono (by simp))⟩
 ·cases b with
  | true =>
   have HW : Hid (Rf.wordW true p = Rf.letterOf p.value) := Rf.wordW_let p c1
   obtain ⟨a0, a1⟩ := Rf.GoodW.l Hg.out (eq_of_beq c1)
   go_enter Tryz.func70, Tryz.ntmps70
   go_wp2_with (go_at_call 97; refine (pletter_any p.value _ a0 a1).mono ?_; rintro r w1 ⟨rfl, rfl⟩)
   go_ret
   exact ⟨ret_str HW.out.symm, (by repeat(first|exact bl0 _ _|refine bl1 ?_ (by simp<;>omega) _|refine bl2 ?_|refine bl3 ?_ _|refine bl4 ?_ (by simp<;>omega) _))⟩
  | false =>
   have HW : Hid (Rf.wordW false p = ⟨#[95]⟩ ++ Rf.itoaB (p.value + 1)) := Rf.wordW_var p c1
   obtain ⟨a0, a1⟩ := (Rf.GoodW.a Hg.out).1 (eq_of_beq c1)
   have hil : (⟨(Go.Lib.itoa (p.value + 1)).toArray⟩ : ByteArray).size <= 21 := by
    have := Go.Lib.itoa_length_le (p.value + 1) (by omega) (by omega)
    simpa [ByteArray.size] using this
   have hil2 := Go.Lib.itoa_length_le (p.value + 1) (by omega) (by omega)
   have hil3 : ((Go.Lib.itoa (p.value + 1)).length : Int) <= 21 := by omega
   go_enter Tryz.func70, Tryz.ntmps70
   go_wp2_with (go_at_call 43; refine (Tryz.strconv_Itoa (p.value + 1) (by omega) (by omega) _ (Tab.below HT.out ((Below.refl _ w).alloc (Nat.le_refl _) _))).mono ?_; rintro r w1 ⟨rfl, k, os, hw1⟩)
   go_ret
   exact ⟨ret_str HW.out.symm, ((Below.refl _ w).alloc (Nat.le_refl _) _).trans ((grow_below _ _ _).mono (by simp))⟩
end Go.Proofs.YtbiojnljihgpoaaGreatDoor
