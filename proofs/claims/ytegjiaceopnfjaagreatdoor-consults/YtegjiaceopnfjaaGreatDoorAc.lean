/- How a reading (promptref.Reading), its tokens, names and terms lie in memory. -/
import Derived.Test.YtegjiaceopnfjaaGreatDoorAb
import Derived.Test.YtegjiaceopnfjaaGreatDoorAa
import Derived.Deep.RegionLaw
namespace Go.Proofs.YtegjiaceopnfjaaGreatDoor
open Go.RowKit
/-- Block b holds a reading's five cells. -/
def RdB (w : World) (b : Nat) (vL : Value) (I : Int) (vN : Value) (E P : Int) : Prop :=
  w.heap[b]? = some (.cells #[vL, .int .i64 I, vN, .int .i64 E, .int .i64 P] 113 (0, 0))
theorem blk_cell {w : World} {b : Nat} {c : Array Value} {t : TypeId} (h : w.heap[b]? = some (.cells c t (0, 0))) (i : Nat) : w.cell? ⟨b, i, none⟩ = c[i]? := by
  simp [World.cell?, h]
theorem blk_frozen {w : World} {b : Nat} {c : Array Value} {t : TypeId} (h : w.heap[b]? = some (.cells c t (0, 0))) (i : Nat) : w.frozen? ⟨b, i, none⟩ = false := by
  simp [World.frozen?, h]
theorem blk_lt {w : World} {b : Nat} {o : Obj} (h : w.heap[b]? = some o) : b < w.heap.size := (Array.getElem?_eq_some_iff.1 h).1
theorem blk_set {w : World} {b : Nat} {c : Array Value} {t : TypeId} (h : w.heap[b]? = some (.cells c t (0, 0))) (i : Nat) (v : Value) : (w.setCell ⟨b, i, none⟩ v).heap[b]? = some (.cells (c.setIfInBounds i v) t (0, 0)) := by
  simp [World.setCell, Array.getElem?_modify, h]
theorem blk_alloc {w : World} {b : Nat} {o : Obj} (h : w.heap[b]? = some o) (x : Obj) : (w.alloc x).heap[b]? = some o := (Below.heap_alloc w x b (blk_lt h)).trans h
theorem blk_new (w : World) (x : Obj) : (w.alloc x).heap[w.heap.size]? = some x := heap_alloc_new w x
theorem blk_at (w : World) (x : Obj) (N : Nat) (h : N = w.heap.size) : (w.alloc x).heap[N]? = some x := by subst h; exact heap_alloc_new w x
theorem RdB.facts {w : World} {b : Nat} {vL : Value} {I : Int} {vN : Value} {E P : Int} (h : RdB w b vL I vN E P) :
    w.cell? ⟨b, 0, none⟩ = some vL ∧ w.cell? ⟨b, 1, none⟩ = some (.int .i64 I) ∧ w.cell? ⟨b, 2, none⟩ = some vN ∧ w.cell? ⟨b, 3, none⟩ = some (.int .i64 E) ∧ w.cell? ⟨b, 4, none⟩ = some (.int .i64 P) ∧ (∀ i, w.frozen? ⟨b, i, none⟩ = false) ∧ b < w.heap.size :=
  ⟨blk_cell h 0, blk_cell h 1, blk_cell h 2, blk_cell h 3, blk_cell h 4, blk_frozen h, blk_lt h⟩
def strCells (s : ByteArray) : List Value := [.string s]
/-- A reading with no fault: block b, the tokens' row in block g, the names' block nb; l: the tokens that are left; ns: the names. -/
structure Rd (w : World) (b g : Nat) (nb : Option Nat) (l : List Rf.Tok) (ns : List ByteArray) : Prop where
  ex : ∃ (cap I : Nat) (vN : Value) (all : List Rf.Tok), RdB w b (.slice (some ⟨g, 0, none⟩) all.length cap) I vN 0 0 ∧ all.drop I = l ∧ Rf.Ended l ∧ all.length ≤ 401 ∧ RowIs w 0 115 4 tokCells (.slice (some ⟨g, 0, none⟩) all.length cap) all ∧
    RowIs w 0 9 1 strCells vN ns ∧ vN.ownBlock = nb ∧ b ≠ g ∧ nb ≠ some b ∧ nb ≠ some g ∧ ns.length ≤ 16
/-- A reading with a fault E at P. -/
structure RdE (w : World) (b : Nat) (E P : Int) : Prop where
  ex : ∃ (vL : Value) (I : Int) (a : Option Addr) (n c : Nat), RdB w b vL I (.slice a n c) E P ∧ E ≠ 0
/-- What a call on a reading may turn among the old blocks. -/
def May (b : Nat) (nb : Option Nat) (k : Nat) : Prop := k = b ∨ some k = nb
set_option maxHeartbeats 400000 in
theorem now_lt (b g n cap I : Nat) (t : Rf.Tok) (w : World) (_hn : n ≤ 401) (hI : I < n) (hb : b < w.heap.size) (hg : g < w.heap.size)
   (h0 : w.cell? ⟨b, 0, none⟩ = some (.slice (some ⟨g, 0, none⟩) n cap)) (h1 : w.cell? ⟨b, 1, none⟩ = some (.int .i64 I))
   (k0 : w.cell? ⟨g, I * 4, none⟩ = some (.int .u8 t.k)) (k1 : w.cell? ⟨g, I * 4 + 1, none⟩ = some (.int .i64 t.at_)) (k2 : w.cell? ⟨g, I * 4 + 2, none⟩ = some (.string t.s)) (k3 : w.cell? ⟨g, I * 4 + 3, none⟩ = some (.int .i64 t.e)) :
    Calls Tryz.prog 44 #[.pointer (some ⟨b, 0, none⟩)] w fun e w' => e = .returned (tokVal t) ∧ Below w.heap.size w w' := by
  go_enter Tryz.func44, Tryz.ntmps44
  go_wp2
  go_quiet (fail)
  go_wp2
  go_region
  go_wp2
  exact bodyPost_ret (v := tokVal t) (by simp [results, Tryz.results44, go_sem, tokVal]) rfl ⟨rfl, (by repeat (first | exact Below.refl _ _ | refine Below.setCell ?_ (by simp) _ | refine Below.drew ?_ | refine Below.drewN ?_ _ | refine Below.alloc ?_ (by simp) _))⟩
theorem now_any (b g : Nat) (nb : Option Nat) (t : Rf.Tok) (l : List Rf.Tok) (ns : List ByteArray) (w : World) (h : Rd w b g nb (t :: l) ns) :
    Calls Tryz.prog 44 #[.pointer (some ⟨b, 0, none⟩)] w fun e w' => e = .returned (tokVal t) ∧ Below w.heap.size w w' := by
  obtain ⟨cap, I, vN, all, hB, hd, _, hlen, hrow, _⟩ := h.ex
  obtain ⟨h0, h1, _, _, _, _, hb⟩ := hB.facts
  have hI : all[I]? = some t := by
    have := congrArg (fun l => l[0]?) hd
    simpa using this
  have hIl := (List.getElem?_eq_some_iff.1 hI).1
  have hc := hrow.cells tokCells_len I t hI
  exact now_lt b g all.length cap I t w hlen hIl hb ((hrow.lt g rfl).2) h0 h1 (hc 0 _ rfl) (hc 1 _ rfl) (hc 2 _ rfl) (hc 3 _ rfl)
theorem Rd.below {w w' : World} {b g : Nat} {nb : Option Nat} {l : List Rf.Tok} {ns : List ByteArray} (h : Rd w b g nb l ns) (hb : Below w.heap.size w w') : Rd w' b g nb l ns := by
  obtain ⟨cap, I, vN, all, hB, h1, h2, h3, hrow, hnam, h4⟩ := h.ex
  exact ⟨cap, I, vN, all, (hb.block b (blk_lt hB)).trans hB, h1, h2, h3, hrow.below hb, hnam.below hb, h4⟩
theorem RdE.below {w w' : World} {b : Nat} {E P : Int} (h : RdE w b E P) (hb : Below w.heap.size w w') : RdE w' b E P := by
  obtain ⟨vL, I, a, n, c, hB, hE⟩ := h.ex
  exact ⟨vL, I, a, n, c, (hb.block b (blk_lt hB)).trans hB, hE⟩
end Go.Proofs.YtegjiaceopnfjaaGreatDoor
/- What the document's reading does with the next token (promptref: bad, is, must). -/
namespace Go.Proofs.YtegjiaceopnfjaaGreatDoor
open Go.RowKit
theorem errOf_no (t : Rf.Tok) (e : Int) (h : (t.k == 63) = false) : Rf.errOf t e = (e, t.at_) := by
  unfold Rf.errOf; rw [if_neg (beq_eq_false_iff_ne.1 h)]
theorem errOf_yes (t : Rf.Tok) (e : Int) (h : (t.k == 63) = true) : Rf.errOf t e = (t.e, t.at_) := by
  unfold Rf.errOf; rw [if_pos (beq_iff_eq.1 h)]
set_option maxHeartbeats 400000 in
theorem bad_free (b : Nat) (I : Int) (vL vN : Value) (t : Rf.Tok) (e : Int) (w : World) (h : RdB w b vL I vN 0 0) :
    Calls Tryz.prog 64 #[.pointer (some ⟨b, 0, none⟩), .int .i64 e, tokVal t] w fun r w' => r = .returned (.tuple #[]) ∧ RdB w' b vL I vN (Rf.errOf t e).1 (Rf.errOf t e).2 ∧ Kept (fun k => k = b) w w' := by
  obtain ⟨h0, h1, h2, h3, h4, hf, hb⟩ := h.facts
  have H : Hid _ := h
  clear h
  cases hk : t.k == 63
  · have HE : Hid _ := errOf_no t e hk
    go_enter Tryz.func64, Tryz.ntmps64
    go_wp2
    go_end0
    rw [HE.out]
    refine ⟨rfl, ?_, (by repeat' (first | exact Kept.refl _ _ | refine Kept.setCell ?_ ?_ _ | refine Kept.drew ?_ | refine Kept.drewN ?_ _ | refine Kept.alloc ?_ _ | exact Or.inr rfl | exact Or.inr (Or.inl rfl) | (refine Or.inl ?_; simp; done) | (refine Or.inl ?_; simp; omega)))⟩
    exact blk_alloc (blk_set (blk_set H.out 3 _) 4 _) _
  · have HE : Hid _ := errOf_yes t e hk
    go_enter Tryz.func64, Tryz.ntmps64
    go_wp2
    go_end0
    rw [HE.out]
    refine ⟨rfl, ?_, (by repeat' (first | exact Kept.refl _ _ | refine Kept.setCell ?_ ?_ _ | refine Kept.drew ?_ | refine Kept.drewN ?_ _ | refine Kept.alloc ?_ _ | exact Or.inr rfl | exact Or.inr (Or.inl rfl) | (refine Or.inl ?_; simp; done) | (refine Or.inl ?_; simp; omega)))⟩
    exact blk_alloc (blk_set (blk_set (blk_set H.out 3 _) 4 _) 3 _) _
set_option maxHeartbeats 400000 in
theorem bad_held (b : Nat) (I : Int) (vL vN : Value) (t : Rf.Tok) (e E P : Int) (w : World) (h : RdB w b vL I vN E P) (hE : (E == 0) = false) :
    Calls Tryz.prog 64 #[.pointer (some ⟨b, 0, none⟩), .int .i64 e, tokVal t] w fun r w' => r = .returned (.tuple #[]) ∧ Below w.heap.size w w' := by
  obtain ⟨h0, h1, h2, h3, h4, hf, hb⟩ := h.facts
  go_enter Tryz.func64, Tryz.ntmps64
  go_wp2
  go_end0
  exact ⟨rfl, (by repeat (first | exact Below.refl _ _ | refine Below.setCell ?_ (by simp) _ | refine Below.drew ?_ | refine Below.drewN ?_ _ | refine Below.alloc ?_ (by simp) _))⟩
/-- The names of a reading behind what turns its own block alone. -/
theorem Rd.err {w : World} {b g : Nat} {nb : Option Nat} {l : List Rf.Tok} {ns : List ByteArray} (h : Rd w b g nb l ns) : ∃ (vL : Value) (I : Int) (a : Option Addr) (n c : Nat), RdB w b vL I (.slice a n c) 0 0 := by
  obtain ⟨cap, I, vN, all, hB, _, _, _, _, hnam, _⟩ := h.ex
  rcases hnam.shape with ⟨rfl, _⟩ | ⟨g', c', rfl, _⟩
  · exact ⟨_, _, _, _, _, hB⟩
  · exact ⟨_, _, _, _, _, hB⟩
theorem bad_rd (b g : Nat) (nb : Option Nat) (l : List Rf.Tok) (ns : List ByteArray) (t : Rf.Tok) (e : Int) (w : World) (h : Rd w b g nb l ns) (hE : (Rf.errOf t e).1 ≠ 0) :
    Calls Tryz.prog 64 #[.pointer (some ⟨b, 0, none⟩), .int .i64 e, tokVal t] w fun r w' => r = .returned (.tuple #[]) ∧ RdE w' b (Rf.errOf t e).1 (Rf.errOf t e).2 ∧ Kept (fun k => k = b) w w' := by
  obtain ⟨vL, I, a, n, c, hB⟩ := h.err
  refine (bad_free b I vL _ t e w hB).mono ?_
  rintro r w' ⟨rfl, h1, h2⟩
  exact ⟨rfl, ⟨_, _, _, _, _, h1, hE⟩, h2⟩
theorem bad_rdE (b : Nat) (t : Rf.Tok) (e E P : Int) (w : World) (h : RdE w b E P) :
    Calls Tryz.prog 64 #[.pointer (some ⟨b, 0, none⟩), .int .i64 e, tokVal t] w fun r w' => r = .returned (.tuple #[]) ∧ RdE w' b E P ∧ Below w.heap.size w w' := by
  obtain ⟨vL, I, a, n, c, hB, hE⟩ := h.ex
  refine (bad_held b I vL _ t e E P w hB (beq_eq_false_iff_ne.2 hE)).mono ?_
  rintro r w' ⟨rfl, h2⟩
  exact ⟨rfl, h.below h2, h2⟩
theorem Rd.alloc {w : World} {b g : Nat} {nb : Option Nat} {l : List Rf.Tok} {ns : List ByteArray} (h : Rd w b g nb l ns) (o : Obj) : Rd (w.alloc o) b g nb l ns := h.below ((Below.refl _ _).alloc (Nat.le_refl _) _)
theorem Rd.ended {w : World} {b g : Nat} {nb : Option Nat} {l : List Rf.Tok} {ns : List ByteArray} (h : Rd w b g nb l ns) : Rf.Ended l := by
  obtain ⟨_, _, _, _, _, _, h, _⟩ := h.ex; exact h
theorem errOf_ne {t : Rf.Tok} {l : List Rf.Tok} {e : Int} (h : Rf.Ended (t :: l)) (he : e ≠ 0) : (Rf.errOf t e).1 ≠ 0 := by
  unfold Rf.errOf
  split
  · exact h.bad ‹_›
  · exact he
set_option maxHeartbeats 1000000 in
theorem is_bad (b g : Nat) (nb : Option Nat) (t : Rf.Tok) (l : List Rf.Tok) (ns : List ByteArray) (c : Int) (w : World) (h : Rd w b g nb (t :: l) ns) (hk : (t.k == 63) = true) :
    Calls Tryz.prog 65 #[.pointer (some ⟨b, 0, none⟩), .int .u8 c] w fun r w' => r = .returned (.bool false) ∧ RdE w' b t.e t.at_ ∧ Kept (fun k => k = b) w w' := by
  have hne : (t.e == 0) = false := beq_eq_false_iff_ne.2 (h.ended.bad (beq_iff_eq.1 hk))
  have HE : Hid _ := errOf_yes t t.e hk
  have H : Hid _ := h
  clear h
  go_enter Tryz.func65, Tryz.ntmps65
  go_wp2_with (first
    | (go_at_call 44; refine (now_any b g nb t l ns _ H.out).mono ?_; rintro e w1 ⟨rfl, hb1⟩)
    | (go_at_call 64; refine (bad_rd b g nb (t :: l) ns t t.e _ ((H.out.below hb1).alloc _) (by rw [HE.out]; exact beq_eq_false_iff_ne.1 hne)).mono ?_; rintro e w2 ⟨rfl, hE, hK⟩; rw [HE.out] at hE; obtain ⟨vL, I, a, n, cc, hB, _⟩ := hE.ex; obtain ⟨q0, q1, q2, q3, q4, qf, qb⟩ := hB.facts))
  go_ret
  exact ⟨rfl, hE, ((Kept.of_below hb1 _).alloc _).trans hK (fun _ _ h => h)⟩
set_option maxHeartbeats 1000000 in
theorem is_no (b g : Nat) (nb : Option Nat) (t : Rf.Tok) (l : List Rf.Tok) (ns : List ByteArray) (c : Int) (w : World) (h : Rd w b g nb (t :: l) ns) (hk : (t.k == 63) = false) :
    Calls Tryz.prog 65 #[.pointer (some ⟨b, 0, none⟩), .int .u8 c] w fun r w' => r = .returned (.bool (t.k == c)) ∧ Below w.heap.size w w' := by
  have H : Hid _ := h
  clear h
  go_enter Tryz.func65, Tryz.ntmps65
  go_wp2_with (first
    | (go_at_call 44; refine (now_any b g nb t l ns _ H.out).mono ?_; rintro e w1 ⟨rfl, hb1⟩; obtain ⟨vL, I, a, n, cc, hB⟩ := (H.out.below hb1).err; obtain ⟨q0, q1, q2, q3, q4, qf, qb⟩ := hB.facts))
  go_ret
  exact ⟨rfl, hb1.alloc hb1.size _⟩
theorem Rd.next {w : World} {b g : Nat} {nb : Option Nat} {t : Rf.Tok} {l : List Rf.Tok} {ns : List ByteArray} (h : Rd w b g nb (t :: l) ns) (h0 : t.k ≠ 0) (h63 : t.k ≠ 63) :
    ∃ (vL vN : Value) (I : Nat), RdB w b vL I vN 0 0 ∧ (I : Int) ≤ 401 ∧ Rd (w.setCell ⟨b, 1, none⟩ (.int .i64 ((I : Int) + 1))) b g nb l ns := by
  obtain ⟨cap, I, vN, all, hB, hd, he, hl, hrow, hnam, hnb, h1, h2, h3⟩ := h.ex
  have hI : I < all.length := by
    have := congrArg List.length hd
    simp at this; omega
  refine ⟨_, vN, I, hB, by omega, ⟨cap, I + 1, vN, all, blk_set hB 1 _, ?_, he.tail h0 h63, hl, hrow.setCell _ _ ?_, hnam.setCell _ _ ?_, hnb, h1, h2, h3⟩⟩
  · rw [← List.drop_drop]
    have := congrArg (List.drop 1) hd
    simpa [List.drop_drop, Nat.add_comm] using this
  · simp [Value.ownBlock]; exact fun e => h1 e.symm
  · rw [hnb]; exact h2
set_option maxHeartbeats 1000000 in
theorem must_ok (b g : Nat) (nb : Option Nat) (t : Rf.Tok) (l : List Rf.Tok) (ns : List ByteArray) (c : Int) (w : World) (h : Rd w b g nb (t :: l) ns) (hk : (t.k != c) = false) (h0 : t.k ≠ 0) (h63 : t.k ≠ 63) :
    Calls Tryz.prog 47 #[.pointer (some ⟨b, 0, none⟩), .int .u8 c] w fun r w' => r = .returned (.tuple #[]) ∧ Rd w' b g nb l ns ∧ Kept (fun k => k = b) w w' := by
  have H : Hid _ := h
  have H0 : Hid _ := h0
  have H63 : Hid _ := h63
  clear h h0 h63
  go_enter Tryz.func47, Tryz.ntmps47
  go_wp2_with (first
    | (go_at_call 44; refine (now_any b g nb t l ns _ H.out).mono ?_; rintro e w1 ⟨rfl, hb1⟩; obtain ⟨vL, vN, I, hB, hI, hN⟩ := (H.out.below hb1).next H0.out H63.out; obtain ⟨q0, q1, q2, q3, q4, qf, qb⟩ := hB.facts))
  go_end0
  exact ⟨rfl, hN.alloc _, (Kept.of_below hb1 _).trans (by repeat' (first | exact Kept.refl _ _ | refine Kept.setCell ?_ ?_ _ | refine Kept.drew ?_ | refine Kept.drewN ?_ _ | refine Kept.alloc ?_ _ | exact Or.inr rfl | exact Or.inr (Or.inl rfl) | (refine Or.inl ?_; simp; done) | (refine Or.inl ?_; simp; omega))) (fun _ _ h => h)⟩
set_option maxHeartbeats 1000000 in
theorem must_bad (b g : Nat) (nb : Option Nat) (t : Rf.Tok) (l : List Rf.Tok) (ns : List ByteArray) (c : Int) (w : World) (h : Rd w b g nb (t :: l) ns) (hk : (t.k != c) = true) :
    Calls Tryz.prog 47 #[.pointer (some ⟨b, 0, none⟩), .int .u8 c] w fun r w' => r = .returned (.tuple #[]) ∧ RdE w' b (Rf.errOf t 2).1 (Rf.errOf t 2).2 ∧ Kept (fun k => k = b) w w' := by
  have H : Hid _ := h
  clear h
  go_enter Tryz.func47, Tryz.ntmps47
  go_wp2_with (first
    | (go_at_call 44; refine (now_any b g nb t l ns _ H.out).mono ?_; rintro e w1 ⟨rfl, hb1⟩)
    | (go_at_call 64; refine (bad_rd b g nb (t :: l) ns t 2 _ ((H.out.below hb1).alloc _) (errOf_ne H.out.ended (by decide))).mono ?_; rintro e w2 ⟨rfl, hE, hK⟩))
  exact bodyPost_ret (v := .tuple #[]) (by simp [results, Tryz.results47, go_sem]) rfl ⟨rfl, hE, ((Kept.of_below hb1 _).alloc _).trans hK (fun _ _ h => h)⟩
end Go.Proofs.YtegjiaceopnfjaaGreatDoor
/- How the document's terms (promptref.Term) lie in memory, and what the document's reading does at a variable (promptref: variable). -/
namespace Go.Proofs.YtegjiaceopnfjaaGreatDoor
open Go.RowKit
def ptrCells (p : Nat) : List Value := [.pointer (some ⟨p, 0, none⟩)]
/-- Block p holds a term's four cells. -/
def TmB (w : World) (p : Nat) (k n : Int) (s : ByteArray) (v : Value) : Prop :=
  w.heap[p]? = some (.cells #[.int .u8 k, .int .i64 n, .string s, v] 90 (0, 0))
/-- Block p is the root of a term of at most d storeys that is the list of parts ps; all its blocks are among F. -/
def TermAt (F : Nat → Prop) (w : World) : Nat → Nat → List Rf.Part → Prop
  | 0, _, _ => False
  | d + 1, p, ps => F p ∧
    ((∃ i : Int, TmB w p 118 i ⟨#[]⟩ (.slice none 0 0) ∧ ps = [⟨1, ⟨#[]⟩, i, 0⟩]) ∨
     (∃ n : Int, TmB w p 110 n ⟨#[]⟩ (.slice none 0 0) ∧ ps = [⟨2, ⟨#[]⟩, n, 0⟩]) ∨
     (∃ s : ByteArray, TmB w p 97 0 s (.slice none 0 0) ∧ ps = [⟨3, s, 0, 0⟩]) ∨
     (∃ (s : ByteArray) (v : Value) (qs : List (Nat × List Rf.Part)), TmB w p 99 0 s v ∧ RowIs w 0 88 1 ptrCells v (qs.map (·.1)) ∧ (∀ k, v.ownBlock = some k → F k) ∧ 1 ≤ qs.length ∧ qs.length ≤ 4 ∧
       (∀ q ∈ qs, TermAt F w d q.1 q.2) ∧ ps = ⟨3, s, 0, qs.length⟩ :: (qs.map (·.2)).flatten))
def IsTerm (F : Nat → Prop) (w : World) (p : Nat) (ps : List Rf.Part) : Prop := ∃ d, TermAt F w d p ps
theorem TermAt.up {F : Nat → Prop} {w : World} : ∀ {d d' : Nat} {p : Nat} {ps : List Rf.Part}, d ≤ d' → TermAt F w d p ps → TermAt F w d' p ps
  | 0, _, _, _, _, h => h.elim
  | d + 1, 0, _, _, hd, _ => by omega
  | d + 1, d' + 1, p, ps, hd, h => by
    obtain ⟨hF, h⟩ := h
    refine ⟨hF, ?_⟩
    rcases h with h | h | h | ⟨s, v, qs, h1, h2, h3, h4, h5, h6, h7⟩
    · exact .inl h
    · exact .inr (.inl h)
    · exact .inr (.inr (.inl h))
    · exact .inr (.inr (.inr ⟨s, v, qs, h1, h2, h3, h4, h5, fun q hq => TermAt.up (by omega) (h6 q hq), h7⟩))
theorem TermAt.keptBy {F F' M : Nat → Prop} {w w' : World} (hk : Kept M w w') (hF : ∀ k, k < w.heap.size → F k → ¬ M k ∧ F' k) : ∀ {d : Nat} {p : Nat} {ps : List Rf.Part}, TermAt F w d p ps → TermAt F' w' d p ps
  | 0, _, _, h => h.elim
  | d + 1, p, ps, h => by
    obtain ⟨hp, h⟩ := h
    have hmove : ∀ {k n s v}, TmB w p k n s v → TmB w' p k n s v ∧ F' p := fun hb => ⟨(hk.block p (blk_lt hb) (hF p (blk_lt hb) hp).1).trans hb, (hF p (blk_lt hb) hp).2⟩
    rcases h with ⟨i, h, e⟩ | ⟨n, h, e⟩ | ⟨s, h, e⟩ | ⟨s, v, qs, h1, h2, h3, h4, h5, h6, h7⟩
    · exact ⟨(hmove h).2, .inl ⟨i, (hmove h).1, e⟩⟩
    · exact ⟨(hmove h).2, .inr (.inl ⟨n, (hmove h).1, e⟩)⟩
    · exact ⟨(hmove h).2, .inr (.inr (.inl ⟨s, (hmove h).1, e⟩))⟩
    · refine ⟨(hmove h1).2, .inr (.inr (.inr ⟨s, v, qs, (hmove h1).1, h2.keptBy hk (fun k e => (hF k (h2.lt k e).2 (h3 k e)).1), fun k e => (hF k (h2.lt k e).2 (h3 k e)).2, h4, h5, fun q hq => TermAt.keptBy hk hF (h6 q hq), h7⟩))⟩
theorem IsTerm.keptBy {F F' M : Nat → Prop} {w w' : World} {p : Nat} {ps : List Rf.Part} (h : IsTerm F w p ps) (hk : Kept M w w') (hF : ∀ k, k < w.heap.size → F k → ¬ M k ∧ F' k) : IsTerm F' w' p ps := ⟨_, TermAt.keptBy hk hF h.choose_spec⟩
/-- The blocks of a term that a call made: new ones, not the names'. -/
def New (w w' : World) (nb : Option Nat) (k : Nat) : Prop := w.heap.size ≤ k ∧ k < w'.heap.size ∧ nb ≠ some k
/-- Any block of a term, whatever it holds. -/
def AnyTm (w : World) (p : Nat) : Prop := ∃ k n s a l c, TmB w p k n s (.slice a l c)
/-- What a call that reads a term leaves. -/
def TermPost (w : World) (b g : Nat) (nb : Option Nat) (res : Except (Int × Nat) (List Rf.Part × List Rf.Tok × List ByteArray)) (r : Ending) (w' : World) : Prop :=
  ∃ p, r = .returned (.pointer (some ⟨p, 0, none⟩)) ∧ w.heap.size ≤ p ∧ AnyTm w' p ∧ Kept (May b nb) w w' ∧
  (match res with
   | .ok (ps, l', ns') => ∃ nb', Rd w' b g nb' l' ns' ∧ Nb w nb nb' ∧ IsTerm (New w w' nb') w' p ps
   | .error (e, q) => RdE w' b e q)
theorem strCells_len (s : ByteArray) : (strCells s).length = 1 := rfl
theorem strCells_one (s : ByteArray) : ∀ u ∈ strCells s, u.oneCell' = true := by intro u hu; simp [strCells] at hu; subst hu; rfl
theorem ptrCells_len (s : Nat) : (ptrCells s).length = 1 := rfl
theorem ptrCells_one (s : Nat) : ∀ u ∈ ptrCells s, u.oneCell' = true := by intro u hu; simp [ptrCells] at hu; subst hu; rfl
theorem Tryz.elemStr : ElemOk Tryz.prog 53 9 1 16 (.string ⟨#[]⟩) := ⟨Tryz.underlying53, by kernel_rfl, rfl, by decide, by decide⟩
theorem Tryz.elemPtr : ElemOk Tryz.prog 55 88 1 8 (.pointer none) := ⟨Tryz.underlying55, by kernel_rfl, rfl, by decide, by decide⟩
end Go.Proofs.YtegjiaceopnfjaaGreatDoor
/- What the document's reading does at a variable (promptref: variable). -/
namespace Go.Proofs.YtegjiaceopnfjaaGreatDoor
open Go.RowKit
def Box (w : World) (N : Nat) (t : Rf.Tok) : Prop := w.heap[N]? = some (.cells #[.int .u8 t.k, .int .i64 t.at_, .string t.s, .int .i64 t.e] 115 (0, 0))
theorem Box.below {w w' : World} {N : Nat} {t : Rf.Tok} (h : Box w N t) (hb : Below w.heap.size w w') : Box w' N t := (hb.block N (blk_lt h)).trans h
def Miss (t : Rf.Tok) (ns : List ByteArray) (j : Nat) : Prop := t.s = Rf.under ∨ ns[j]? ≠ some t.s
theorem look_none {t : Rf.Tok} {ns : List ByteArray} (h : ∀ j, j < ns.length → Miss t ns j) : Rf.lookS t.s ns = none := by
  unfold Rf.lookS
  split
  · rfl
  · rename_i hu
    rw [List.findIdx?_eq_none_iff]
    intro x hx
    obtain ⟨j, hj, rfl⟩ := List.getElem_of_mem hx
    rcases h j hj with h | h
    · exact absurd h hu
    · simp only [List.getElem?_eq_getElem hj] at h
      exact decide_eq_false (fun e => h (by rw [e]))
theorem look_some {t : Rf.Tok} {ns : List ByteArray} {k : Nat} (hu : t.s ≠ Rf.under) (hk : ns[k]? = some t.s) (h : ∀ j, j < k → Miss t ns j) : Rf.lookS t.s ns = some k := by
  unfold Rf.lookS
  obtain ⟨hlt, e⟩ := List.getElem?_eq_some_iff.1 hk
  rw [if_neg hu, List.findIdx?_eq_some_iff_getElem]
  refine ⟨hlt, by rw [e]; exact decide_eq_true rfl, fun j hj => ?_⟩
  rcases h j hj with h | h
  · exact absurd h hu
  · simp only [List.getElem?_eq_getElem (show j < ns.length by omega)] at h
    simp only [Bool.not_eq_true]
    exact decide_eq_false (fun e => h (by rw [e]))
theorem Rd.drewN {w : World} {b g : Nat} {nb : Option Nat} {l : List Rf.Tok} {ns : List ByteArray} (h : Rd w b g nb l ns) (n : Nat) : Rd (w.drewN n) b g nb l ns := h.below ((Below.refl _ _).drewN n)
theorem Miss.step {t : Rf.Tok} {ns : List ByteArray} {k : Nat} (h : ∀ j, j < k → Miss t ns j) (hk : Miss t ns k) : ∀ j, j < k + 1 → Miss t ns j := by
  intro j hj
  rcases Nat.lt_or_ge j k with h1 | h1
  · exact h j h1
  · obtain rfl : j = k := by omega
    exact hk
theorem RdB.grown {w w' : World} {b : Nat} {vL : Value} {I : Int} {vN : Value} {E P : Int} {row : Option Nat} (hg : w.grownBy w' row) (h : RdB w b vL I vN E P) (hn : row ≠ some b) : RdB w' b vL I vN E P :=
  (hg.block b (blk_lt h) (fun e => hn e.symm)).trans h
theorem names_grow {wr W w3 : World} {b g cap I : Nat} {vN : Value} {nb : Option Nat} {all l : List Rf.Tok} {ns : List ByteArray} {s : ByteArray} {gN capN : Nat}
    (hB : RdB wr b (.slice (some ⟨g, 0, none⟩) all.length cap) I vN 0 0) (hd : all.drop I = l) (hen : Rf.Ended l) (hlen : all.length ≤ 401) (hrow : RowIs wr 0 115 4 tokCells (.slice (some ⟨g, 0, none⟩) all.length cap) all)
    (hnb : vN.ownBlock = nb) (hbg : b ≠ g) (hnb1 : nb ≠ some b) (hnb2 : nb ≠ some g) (h16 : ns.length < 16) (hW : Below wr.heap.size wr W) (hgr : W.grownBy w3 vN.ownBlock) (hnb3 : Nb W vN.ownBlock (some gN))
    (hrow3 : RowIs w3 0 9 1 strCells (.slice (some ⟨gN, 0, none⟩) (ns.length + 1) capN) (ns ++ [s])) :
    Rd (w3.setCell ⟨b, 2, none⟩ (.slice (some ⟨gN, 0, none⟩) (ns.length + 1) capN)) b g (some gN) l (ns ++ [s]) := by
  subst hnb
  have hbl := blk_lt hB
  have hgl := (hrow.lt g rfl).2
  have hsz := hW.size
  have hB3 : RdB w3 b _ I vN 0 0 := RdB.grown hgr ((hW.block b hbl).trans hB) hnb1
  have hgb : gN ≠ b := fun e => hnb3.ne hnb1 (by omega) (by rw [e])
  have hgg : gN ≠ g := fun e => hnb3.ne hnb2 (by omega) (by rw [e])
  refine ⟨cap, I, _, all, blk_set hB3 2 _, hd, hen, hlen, RowIs.setCell ⟨((hrow.below hW).own.kept hgr (.inr (fun e => hnb2 e.symm)))⟩ _ _ (fun e => hbg (Option.some.inj e).symm), hrow3.setCell _ _ (fun e => hgb (Option.some.inj e)), rfl, hbg, fun e => hgb (Option.some.inj e), fun e => hgg (Option.some.inj e), by simp; omega⟩
set_option maxHeartbeats 1000000 in
set_option maxRecDepth 100000 in
theorem variable_any (b g : Nat) (nb : Option Nat) (t : Rf.Tok) (l : List Rf.Tok) (ns : List ByteArray) (w : World) (h : Rd w b g nb l ns) (hk : (t.k == 63) = false) :
    Calls Tryz.prog 89 #[.pointer (some ⟨b, 0, none⟩), tokVal t] w fun r w' => TermPost w b g nb (Rf.varT t l ns) r w' := by
  have hbw : Hid (b < w.heap.size) := by obtain ⟨_, _, _, _, hB, _⟩ := h.ex; exact blk_lt hB
  go_enter Tryz.func89, Tryz.ntmps89
  go_wp2
  go_loopw [5] (fun i wr => ∃ k : Nat, i = .int .i64 k ∧ k ≤ ns.length ∧ Rd wr b g nb l ns ∧ Box wr w.heap.size t ∧ Below w.heap.size w wr ∧ Hid (∀ j, j < k → Miss t ns j)) (fun i _ => ns.length - (intOf i).toNat)
  case atStart => exact ⟨0, rfl, by omega, h.alloc _, blk_new _ _, (Below.refl _ _).alloc (Nat.le_refl _) _, fun j hj => by omega⟩
  case round =>
    obtain ⟨k, rfl, hkl, hR, hX, hbel, hM⟩ := hrel
    obtain ⟨cap, I, vN, all, hB, hd, hen, hlen, hrow, hnam, hnb, hbg, hnb1, hnb2, h16⟩ := hR.ex
    have hsz := hbel.size
    have hXl := blk_lt hX
    obtain ⟨q0, q1, q2, q3, q4, qf, qb⟩ := hB.facts
    have x0 := blk_cell hX 0
    have x1 := blk_cell hX 1
    have x2 := blk_cell hX 2
    have x3 := blk_cell hX 3
    simp only [List.getElem?_toArray, List.getElem?_cons_zero, List.getElem?_cons_succ] at x0 x1 x2 x3
    have HX : Hid _ := hX
    have HB : Hid _ := hB
    have Hd : Hid _ := hd
    have Hnb : Hid _ := hnb
    have Hrow : Hid _ := hrow
    have Hen : Hid _ := hen
    clear hX hB hd hnb hrow hen
    by_cases hlt : k < ns.length
    · rcases hnam.shape with ⟨_, hnil⟩ | ⟨gn, capn, rfl, _, hgn, hcapn, hcapm⟩
      · rw [hnil] at hlt; simp at hlt
      · obtain ⟨sk, hsk⟩ : ∃ sk, ns[k]? = some sk := ⟨ns[k], by simp [hlt]⟩
        have hcell := hnam.cells strCells_len k sk hsk 0 _ rfl
        simp only [Nat.mul_one, Nat.add_zero] at hcell
        have Hsk : Hid _ := hsk
        clear hsk
        have hlt' : (k : Int) < ns.length := by omega
        have e1 : (t.s.toList == [95]) = decide (t.s = Rf.under) := by
          rw [← beq_toList t.s Rf.under]; simp [Rf.under, ByteArray.toList_eq]
        have e2 : (sk.toList == t.s.toList) = decide (sk = t.s) := beq_toList sk t.s
        by_cases hu : t.s = Rf.under
        · rw [decide_eq_true hu] at e1
          have Hu : Hid _ := hu
          clear hu e2
          go_wp2_with fail
          go_quiet (fail)
          go_wp2_with fail
          go_roundw
          case rel => exact ⟨k + 1, by go_num, by omega, hR.drewN _, HX.out, hbel.drewN _, Miss.step hM.out (.inl Hu.out)⟩
          case measure => simp [intOf]; omega
        · rw [decide_eq_false hu] at e1
          have Hu : Hid _ := hu
          clear hu
          by_cases hs : sk = t.s
          · rw [decide_eq_true hs] at e2
            have Hs : Hid _ := hs
            clear hs
            go_wp2_with fail
            go_quiet (fail)
            go_wp2_with fail
            go_ret
            refine ⟨_, rfl, by omega, ⟨_, _, _, _, _, _, blk_new _ _⟩, ((Kept.of_below hbel _).drewN _).alloc _, ?_⟩
            unfold Rf.varT Rf.varS
            rw [look_some Hu.out (by rw [← Hs.out]; exact Hsk.out) hM.out]
            exact ⟨nb, (hR.drewN _).alloc _, .inl rfl, 1, ⟨by omega, by simp, fun e => by have := (hnam.lt _ (Hnb.out.trans e)).2; simp at this⟩, .inl ⟨_, blk_new _ _, rfl⟩⟩
          · rw [decide_eq_false hs] at e2
            have Hs : Hid _ := hs
            clear hs
            go_wp2_with fail
            go_quiet (fail)
            go_wp2_with fail
            go_roundw
            case rel => exact ⟨k + 1, by go_num, by omega, hR.drewN _, HX.out, hbel.drewN _, Miss.step hM.out (.inr (by rw [Hsk.out]; exact fun e => Hs.out (Option.some.inj e)))⟩
            case measure => simp [intOf]; omega
    · obtain rfl : k = ns.length := by omega
      have hL := look_none hM.out
      have HL : Hid _ := hL
      clear hL
      rcases hnam.shape with ⟨rfl, hnil⟩ | ⟨gn, capn, rfl, _, hgn, hcapn, hcapm⟩
      · subst hnil
        have hne : (Value.slice none 0 0).ownBlock ≠ some b := by simp [Value.ownBlock]
        go_wp2_with fail
        go_region_law (refine step_app Tryz.elemStr strCells strCells_len strCells_one rfl (.tmp 46) (.tmp 49) rfl 0 _ ([] : List ByteArray) rfl ?_ ⟨_, 0, none⟩ 1 t.s rfl ?_ ?_ (Nat.zero_le _) ?_; exact ⟨(hnam.alloc _).own⟩; exact cell_one_at wr _ rfl (.string t.s) 9; (first | omega | (simp; done)); intro gN capN w3 hrow3 hgr3 hnb3; have hB3 := RdB.grown (b := b) (I := I) hgr3 (blk_alloc HB.out _) hne; obtain ⟨r0, r1, r2, r3, r4, rf, rb⟩ := hB3.facts)
        all_goals
          go_wp2_with fail
          go_ret
          have hs3 : wr.heap.size + 1 ≤ w3.heap.size := by have h9 := hgr3.size; simp at h9; omega
          refine ⟨_, rfl, by omega, ⟨_, _, _, _, _, _, blk_at _ _ _ (by simp)⟩, (((((Kept.of_below hbel (May b nb)).alloc _).drew).grown hgr3 (fun k e => Or.inr (Or.inr (e.symm.trans Hnb.out)))).setCell (p := ⟨b, 2, none⟩) (Or.inr (Or.inl rfl)) _).alloc _, ?_⟩
          unfold Rf.varT Rf.varS
          rw [HL.out]
          simp only []
          rw [if_neg (by simp)]
          exact ⟨some gN, (names_grow HB.out Hd.out Hen.out hlen Hrow.out Hnb.out hbg hnb1 hnb2 (by simp) (((Below.refl _ _).alloc (Nat.le_refl _) _).drew) hgr3 hnb3 hrow3).alloc _, Nb.trans (.inl Hnb.out) hnb3 (by simp; omega), 1, ⟨by omega, by simp, fun e => by have h8 : gN < w3.heap.size := (hrow3.lt gN rfl).2; simp at e; omega⟩, .inl ⟨_, blk_at _ _ _ (by simp), rfl⟩⟩
      · have hne : (Value.slice (some ⟨gn, 0, none⟩) ns.length capn).ownBlock ≠ some b := by rw [Hnb.out]; exact hnb1
        cases h16b : ((ns.length : Int) == 16)
        · have h16n : Hid (ns.length ≠ 16) := fun e => by rw [e] at h16b; exact absurd h16b (by decide)
          go_wp2_with fail
          go_region_law (refine step_app Tryz.elemStr strCells strCells_len strCells_one rfl (.tmp 46) (.tmp 49) rfl 0 _ ns rfl ?_ ⟨_, 0, none⟩ 1 t.s rfl ?_ ?_ (Nat.zero_le _) ?_; exact ⟨(hnam.alloc _).own⟩; exact cell_one_at wr _ rfl (.string t.s) 9; (first | omega | (simp; done)); intro gN capN w3 hrow3 hgr3 hnb3; have hB3 := RdB.grown (b := b) (I := I) hgr3 (blk_alloc HB.out _) hne; obtain ⟨r0, r1, r2, r3, r4, rf, rb⟩ := hB3.facts)
          all_goals
            go_wp2_with fail
            go_ret
            have hs3 : wr.heap.size + 1 ≤ w3.heap.size := by have h9 := hgr3.size; simp at h9; omega
            refine ⟨_, rfl, by omega, ⟨_, _, _, _, _, _, blk_at _ _ _ (by simp)⟩, (((((Kept.of_below hbel (May b nb)).alloc _).drew).grown hgr3 (fun k e => Or.inr (Or.inr (e.symm.trans Hnb.out)))).setCell (p := ⟨b, 2, none⟩) (Or.inr (Or.inl rfl)) _).alloc _, ?_⟩
            unfold Rf.varT Rf.varS
            rw [HL.out]
            simp only []
            rw [if_neg h16n.out]
            exact ⟨some gN, (names_grow HB.out Hd.out Hen.out hlen Hrow.out Hnb.out hbg hnb1 hnb2 (by have := h16n.out; omega) (((Below.refl _ _).alloc (Nat.le_refl _) _).drew) hgr3 hnb3 hrow3).alloc _, Nb.trans (.inl Hnb.out) hnb3 (by simp; omega), 1, ⟨by omega, by simp, fun e => by have h8 : gN < w3.heap.size := (hrow3.lt gN rfl).2; simp at e; omega⟩, .inl ⟨_, blk_at _ _ _ (by simp), rfl⟩⟩
        · have h16n : Hid (ns.length = 16) := by have := eq_of_beq h16b; unfold Hid; omega
          have HE : Hid _ := errOf_no t 3 hk
          have hbN : b ≠ w.heap.size := by have h7 := hbw.out; omega
          go_wp2_with (go_at_call 64; refine (bad_free b I _ _ t 3 _ HB.out).mono ?_; rintro e w2 ⟨rfl, hB2, hK2⟩; rw [HE.out] at hB2; obtain ⟨y0, y1, y2, y3, y4, yf, yb⟩ := hB2.facts; have z2 := (hK2.cell (p := ⟨w.heap.size, 2, none⟩) hXl (fun e => hbN e.symm)).trans x2; have hnam2 := hnam.keptBy hK2 (fun k e e2 => hne (e.trans (by rw [e2])))  ; have hs2 := hK2.size)
          go_wp2_with fail
          go_region_law (refine step_app Tryz.elemStr strCells strCells_len strCells_one rfl (.tmp 46) (.tmp 49) rfl 0 _ ns rfl ?_ ⟨_, 0, none⟩ 1 t.s rfl ?_ ?_ (Nat.zero_le _) ?_; exact ⟨(hnam2.alloc _).own⟩; exact cell_one_at w2 _ rfl (.string t.s) 9; (first | omega | (simp; done)); intro gN capN w3 hrow3 hgr3 hnb3; have hB3 := RdB.grown (b := b) (I := I) hgr3 (blk_alloc hB2 _) hne; obtain ⟨r0, r1, r2, r3, r4, rf, rb⟩ := hB3.facts)
          all_goals
            go_wp2_with fail
            go_ret
            have hs3 : w2.heap.size + 1 ≤ w3.heap.size := by have h9 := hgr3.size; simp at h9; omega
            refine ⟨_, rfl, by omega, ⟨_, _, _, _, _, _, blk_at _ _ _ (by simp)⟩, ((((((Kept.of_below hbel (May b nb)).trans hK2 (fun k _ e => Or.inl e)).alloc _).drew).grown hgr3 (fun k e => Or.inr (Or.inr (e.symm.trans Hnb.out)))).setCell (p := ⟨b, 2, none⟩) (Or.inr (Or.inl rfl)) _).alloc _, ?_⟩
            unfold Rf.varT Rf.varS
            rw [HL.out]
            simp only []
            rw [if_pos h16n.out]
            exact ⟨_, _, _, _, _, blk_alloc (blk_set hB3 2 _) _, by decide⟩
end Go.Proofs.YtegjiaceopnfjaaGreatDoor
