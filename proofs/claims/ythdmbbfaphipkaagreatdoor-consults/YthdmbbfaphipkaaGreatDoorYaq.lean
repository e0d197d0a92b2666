/- What the document's reading does with the next token (promptref: bad, is, must). -/
import Derived.Test.YthdmbbfaphipkaaGreatDoorYap
import Derived.Test.YthdmbbfaphipkaaGreatDoorYaa
import Derived.Deep.RegionLaw
import Derived.Test.YthdmbbfaphipkaaGreatDoorYam
namespace Go.Proofs.YthdmbbfaphipkaaGreatDoor
open Go.RowKit
theorem errOf_yes (t : Rf.Tok) (e : Int) (h : (t.k == 63) = true) : Rf.errOf t e = (t.e, t.at_) := by
  unfold Rf.errOf; rw [if_pos (beq_iff_eq.1 h)]
set_option maxHeartbeats 400000 in
theorem bad_free (b : Nat) (I : Int) (vL vN : Value) (t : Rf.Tok) (e : Int) (w : World) (h : RdB w b vL I vN 0 0) :
    Calls Tryz.prog 98 #[.pointer (some ⟨b, 0, none⟩), .int .i64 e, tokVal t] w fun r w' => r = .returned (.tuple #[]) ∧ RdB w' b vL I vN (Rf.errOf t e).1 (Rf.errOf t e).2 ∧ Kept (fun k => k = b) w w' := by
  obtain ⟨h0, h1, h2, h3, h4, hf, hb⟩ := h.facts
  have H : Hid _ := h
  clear h
  cases hk : t.k == 63
  · have HE : Hid _ := errOf_no t e hk
    go_enter Tryz.func98, Tryz.ntmps98
    go_wp2
    go_end0
    rw [HE.out]
    refine ⟨rfl, ?_, (by repeat' (first | exact Kept.refl _ _ | refine Kept.setCell ?_ ?_ _ | refine Kept.drew ?_ | refine Kept.drewN ?_ _ | refine Kept.alloc ?_ _ | exact Or.inr rfl | exact Or.inr (Or.inl rfl) | (refine Or.inl ?_; simp; done) | (refine Or.inl ?_; simp; omega)))⟩
    exact blk_alloc (blk_set (blk_set H.out 3 _) 4 _) _
  · have HE : Hid _ := errOf_yes t e hk
    go_enter Tryz.func98, Tryz.ntmps98
    go_wp2
    go_end0
    rw [HE.out]
    refine ⟨rfl, ?_, (by repeat' (first | exact Kept.refl _ _ | refine Kept.setCell ?_ ?_ _ | refine Kept.drew ?_ | refine Kept.drewN ?_ _ | refine Kept.alloc ?_ _ | exact Or.inr rfl | exact Or.inr (Or.inl rfl) | (refine Or.inl ?_; simp; done) | (refine Or.inl ?_; simp; omega)))⟩
    exact blk_alloc (blk_set (blk_set (blk_set H.out 3 _) 4 _) 3 _) _
set_option maxHeartbeats 400000 in
theorem bad_held (b : Nat) (I : Int) (vL vN : Value) (t : Rf.Tok) (e E P : Int) (w : World) (h : RdB w b vL I vN E P) (hE : (E == 0) = false) :
    Calls Tryz.prog 98 #[.pointer (some ⟨b, 0, none⟩), .int .i64 e, tokVal t] w fun r w' => r = .returned (.tuple #[]) ∧ Below w.heap.size w w' := by
  obtain ⟨h0, h1, h2, h3, h4, hf, hb⟩ := h.facts
  go_enter Tryz.func98, Tryz.ntmps98
  go_wp2
  go_end0
  exact ⟨rfl, (by repeat (first | exact Below.refl _ _ | refine Below.setCell ?_ (by simp <;> omega) _ | refine Below.drew ?_ | refine Below.drewN ?_ _ | refine Below.alloc ?_ (by simp <;> omega) _))⟩
/-- The names of a reading behind what turns its own block alone. -/
theorem Rd.err {w : World} {b g : Nat} {nb : Option Nat} {l : List Rf.Tok} {ns : List ByteArray} (h : Rd w b g nb l ns) : ∃ (vL : Value) (I : Int) (a : Option Addr) (n c : Nat), RdB w b vL I (.slice a n c) 0 0 := by
  obtain ⟨cap, I, vN, all, hB, _, _, _, _, hnam, _⟩ := h.ex
  rcases hnam.shape with ⟨rfl, _⟩ | ⟨g', c', rfl, _⟩
  · exact ⟨_, _, _, _, _, hB⟩
  · exact ⟨_, _, _, _, _, hB⟩
theorem bad_rd (b g : Nat) (nb : Option Nat) (l : List Rf.Tok) (ns : List ByteArray) (t : Rf.Tok) (e : Int) (w : World) (h : Rd w b g nb l ns) (hE : (Rf.errOf t e).1 ≠ 0) :
    Calls Tryz.prog 98 #[.pointer (some ⟨b, 0, none⟩), .int .i64 e, tokVal t] w fun r w' => r = .returned (.tuple #[]) ∧ RdE w' b (Rf.errOf t e).1 (Rf.errOf t e).2 ∧ Kept (fun k => k = b) w w' := by
  obtain ⟨vL, I, a, n, c, hB⟩ := h.err
  refine (bad_free b I vL _ t e w hB).mono ?_
  rintro r w' ⟨rfl, h1, h2⟩
  exact ⟨rfl, ⟨_, _, _, _, _, h1, hE⟩, h2⟩
theorem bad_rdE (b : Nat) (t : Rf.Tok) (e E P : Int) (w : World) (h : RdE w b E P) :
    Calls Tryz.prog 98 #[.pointer (some ⟨b, 0, none⟩), .int .i64 e, tokVal t] w fun r w' => r = .returned (.tuple #[]) ∧ RdE w' b E P ∧ Below w.heap.size w w' := by
  obtain ⟨vL, I, a, n, c, hB, hE⟩ := h.ex
  refine (bad_held b I vL _ t e E P w hB (beq_eq_false_iff_ne.2 hE)).mono ?_
  rintro r w' ⟨rfl, h2⟩
  exact ⟨rfl, h.below h2, h2⟩
theorem Rd.alloc {w : World} {b g : Nat} {nb : Option Nat} {l : List Rf.Tok} {ns : List ByteArray} (h : Rd w b g nb l ns) (o : Obj) : Rd (w.alloc o) b g nb l ns := h.below ((Below.refl _ _).alloc (Nat.le_refl _) _)
theorem Rd.ended {w : World} {b g : Nat} {nb : Option Nat} {l : List Rf.Tok} {ns : List ByteArray} (h : Rd w b g nb l ns) : Rf.Ended l := by
  obtain ⟨_, _, _, _, _, _, h, _⟩ := h.ex; exact h
set_option maxHeartbeats 1000000 in
theorem is_bad (b g : Nat) (nb : Option Nat) (t : Rf.Tok) (l : List Rf.Tok) (ns : List ByteArray) (c : Int) (w : World) (h : Rd w b g nb (t :: l) ns) (hk : (t.k == 63) = true) :
    Calls Tryz.prog 99 #[.pointer (some ⟨b, 0, none⟩), .int .u8 c] w fun r w' => r = .returned (.bool false) ∧ RdE w' b t.e t.at_ ∧ Kept (fun k => k = b) w w' := by
  have hne : (t.e == 0) = false := beq_eq_false_iff_ne.2 (h.ended.bad (beq_iff_eq.1 hk))
  have HE : Hid _ := errOf_yes t t.e hk
  have H : Hid _ := h
  clear h
  go_enter Tryz.func99, Tryz.ntmps99
  go_wp2_with (first
    | (go_at_call 67; refine (now_any b g nb t l ns _ H.out).mono ?_; rintro e w1 ⟨rfl, hb1⟩)
    | (go_at_call 98; refine (bad_rd b g nb (t :: l) ns t t.e _ ((H.out.below hb1).alloc _) (by rw [HE.out]; exact beq_eq_false_iff_ne.1 hne)).mono ?_; rintro e w2 ⟨rfl, hE, hK⟩; rw [HE.out] at hE; obtain ⟨vL, I, a, n, cc, hB, _⟩ := hE.ex; obtain ⟨q0, q1, q2, q3, q4, qf, qb⟩ := hB.facts))
  go_ret
  exact ⟨rfl, hE, ((Kept.of_below hb1 _).alloc _).trans hK (fun _ _ h => h)⟩
set_option maxHeartbeats 1000000 in
theorem is_no (b g : Nat) (nb : Option Nat) (t : Rf.Tok) (l : List Rf.Tok) (ns : List ByteArray) (c : Int) (w : World) (h : Rd w b g nb (t :: l) ns) (hk : (t.k == 63) = false) :
    Calls Tryz.prog 99 #[.pointer (some ⟨b, 0, none⟩), .int .u8 c] w fun r w' => r = .returned (.bool (t.k == c)) ∧ Below w.heap.size w w' := by
  have H : Hid _ := h
  clear h
  go_enter Tryz.func99, Tryz.ntmps99
  go_wp2_with (first
    | (go_at_call 67; refine (now_any b g nb t l ns _ H.out).mono ?_; rintro e w1 ⟨rfl, hb1⟩; obtain ⟨vL, I, a, n, cc, hB⟩ := (H.out.below hb1).err; obtain ⟨q0, q1, q2, q3, q4, qf, qb⟩ := hB.facts))
  go_ret
  exact ⟨rfl, hb1.alloc hb1.size _⟩
theorem Rd.next {w : World} {b g : Nat} {nb : Option Nat} {t : Rf.Tok} {l : List Rf.Tok} {ns : List ByteArray} (h : Rd w b g nb (t :: l) ns) (h0 : t.k ≠ 0) (h63 : t.k ≠ 63) :
    ∃ (vL vN : Value) (I : Nat), RdB w b vL I vN 0 0 ∧ (I : Int) ≤ 401 ∧ Rd (w.setCell ⟨b, 1, none⟩ (.int .i64 ((I : Int) + 1))) b g nb l ns := by
  obtain ⟨cap, I, vN, all, hB, hd, he, hl, hrow, hnam, hnb, h1, h2, h3⟩ := h.ex
  have hI : I < all.length := by
    have := congrArg List.length hd
    simp at this; omega
  refine ⟨_, vN, I, hB, by omega, ⟨cap, I + 1, vN, all, blk_set hB 1 _, ?_, he.tail h0 h63, hl, hrow.setCell _ _ ?_, hnam.setCell _ _ ?_, hnb, h1, h2, h3⟩⟩
  · rw [← List.drop_drop]
    have := congrArg (List.drop 1) hd
    simpa [List.drop_drop, Nat.add_comm] using this
  · simp [Value.ownBlock]; exact fun e => h1 e.symm
  · rw [hnb]; exact h2
set_option maxHeartbeats 1000000 in
theorem must_ok (b g : Nat) (nb : Option Nat) (t : Rf.Tok) (l : List Rf.Tok) (ns : List ByteArray) (c : Int) (w : World) (h : Rd w b g nb (t :: l) ns) (hk : (t.k != c) = false) (h0 : t.k ≠ 0) (h63 : t.k ≠ 63) :
    Calls Tryz.prog 70 #[.pointer (some ⟨b, 0, none⟩), .int .u8 c] w fun r w' => r = .returned (.tuple #[]) ∧ Rd w' b g nb l ns ∧ Kept (fun k => k = b) w w' := by
  have H : Hid _ := h
  have H0 : Hid _ := h0
  have H63 : Hid _ := h63
  clear h h0 h63
  go_enter Tryz.func70, Tryz.ntmps70
  go_wp2_with (first
    | (go_at_call 67; refine (now_any b g nb t l ns _ H.out).mono ?_; rintro e w1 ⟨rfl, hb1⟩; obtain ⟨vL, vN, I, hB, hI, hN⟩ := (H.out.below hb1).next H0.out H63.out; obtain ⟨q0, q1, q2, q3, q4, qf, qb⟩ := hB.facts))
  go_end0
  exact ⟨rfl, hN.alloc _, (Kept.of_below hb1 _).trans (by repeat' (first | exact Kept.refl _ _ | refine Kept.setCell ?_ ?_ _ | refine Kept.drew ?_ | refine Kept.drewN ?_ _ | refine Kept.alloc ?_ _ | exact Or.inr rfl | exact Or.inr (Or.inl rfl) | (refine Or.inl ?_; simp; done) | (refine Or.inl ?_; simp; omega))) (fun _ _ h => h)⟩
set_option maxHeartbeats 1000000 in
theorem must_bad (b g : Nat) (nb : Option Nat) (t : Rf.Tok) (l : List Rf.Tok) (ns : List ByteArray) (c : Int) (w : World) (h : Rd w b g nb (t :: l) ns) (hk : (t.k != c) = true) :
    Calls Tryz.prog 70 #[.pointer (some ⟨b, 0, none⟩), .int .u8 c] w fun r w' => r = .returned (.tuple #[]) ∧ RdE w' b (Rf.errOf t 2).1 (Rf.errOf t 2).2 ∧ Kept (fun k => k = b) w w' := by
  have H : Hid _ := h
  clear h
  go_enter Tryz.func70, Tryz.ntmps70
  go_wp2_with (first
    | (go_at_call 67; refine (now_any b g nb t l ns _ H.out).mono ?_; rintro e w1 ⟨rfl, hb1⟩)
    | (go_at_call 98; refine (bad_rd b g nb (t :: l) ns t 2 _ ((H.out.below hb1).alloc _) (errOf_ne H.out.ended (by decide))).mono ?_; rintro e w2 ⟨rfl, hE, hK⟩))
  exact bodyPost_ret (v := .tuple #[]) (by simp [results, Tryz.results70, go_sem]) rfl ⟨rfl, hE, ((Kept.of_below hb1 _).alloc _).trans hK (fun _ _ h => h)⟩
end Go.Proofs.YthdmbbfaphipkaaGreatDoor
/- How the document's terms (promptref.Term) lie in memory, and what the document's reading does at a variable (promptref: variable). -/
namespace Go.Proofs.YthdmbbfaphipkaaGreatDoor
open Go.RowKit
def ptrCells (p : Nat) : List Value := [.pointer (some ⟨p, 0, none⟩)]
/-- Block p holds a term's four cells. -/
def TmB (w : World) (p : Nat) (k n : Int) (s : ByteArray) (v : Value) : Prop :=
  w.heap[p]? = some (.cells #[.int .u8 k, .int .i64 n, .string s, v] 102 (0, 0))
/-- Block p is the root of a term of at most d storeys that is the list of parts ps; all its blocks are among F. -/
def TermAt (F : Nat → Prop) (w : World) : Nat → Nat → List Rf.Part → Prop
  | 0, _, _ => False
  | d + 1, p, ps => F p ∧
    ((∃ i : Int, TmB w p 118 i ⟨#[]⟩ (.slice none 0 0) ∧ ps = [⟨1, ⟨#[]⟩, i, 0⟩]) ∨
     (∃ n : Int, TmB w p 110 n ⟨#[]⟩ (.slice none 0 0) ∧ ps = [⟨2, ⟨#[]⟩, n, 0⟩]) ∨
     (∃ s : ByteArray, TmB w p 97 0 s (.slice none 0 0) ∧ ps = [⟨3, s, 0, 0⟩]) ∨
     (∃ (s : ByteArray) (v : Value) (qs : List (Nat × List Rf.Part)), TmB w p 99 0 s v ∧ RowIs w 0 100 1 ptrCells v (qs.map (·.1)) ∧ (∀ k, v.ownBlock = some k → F k) ∧ 1 ≤ qs.length ∧ qs.length ≤ 4 ∧
       (∀ q ∈ qs, TermAt F w d q.1 q.2) ∧ ps = ⟨3, s, 0, qs.length⟩ :: (qs.map (·.2)).flatten))
def IsTerm (F : Nat → Prop) (w : World) (p : Nat) (ps : List Rf.Part) : Prop := ∃ d, TermAt F w d p ps
theorem TermAt.up {F : Nat → Prop} {w : World} : ∀ {d d' : Nat} {p : Nat} {ps : List Rf.Part}, d ≤ d' → TermAt F w d p ps → TermAt F w d' p ps
  | 0, _, _, _, _, h => h.elim
  | d + 1, 0, _, _, hd, _ => by omega
  | d + 1, d' + 1, p, ps, hd, h => by
    obtain ⟨hF, h⟩ := h
    refine ⟨hF, ?_⟩
    rcases h with h | h | h | ⟨s, v, qs, h1, h2, h3, h4, h5, h6, h7⟩
    · exact .inl h
    · exact .inr (.inl h)
    · exact .inr (.inr (.inl h))
    · exact .inr (.inr (.inr ⟨s, v, qs, h1, h2, h3, h4, h5, fun q hq => TermAt.up (by omega) (h6 q hq), h7⟩))
theorem TermAt.keptBy {F F' M : Nat → Prop} {w w' : World} (hk : Kept M w w') (hF : ∀ k, k < w.heap.size → F k → ¬ M k ∧ F' k) : ∀ {d : Nat} {p : Nat} {ps : List Rf.Part}, TermAt F w d p ps → TermAt F' w' d p ps
  | 0, _, _, h => h.elim
  | d + 1, p, ps, h => by
    obtain ⟨hp, h⟩ := h
    have hmove : ∀ {k n s v}, TmB w p k n s v → TmB w' p k n s v ∧ F' p := fun hb => ⟨(hk.block p (blk_lt hb) (hF p (blk_lt hb) hp).1).trans hb, (hF p (blk_lt hb) hp).2⟩
    rcases h with ⟨i, h, e⟩ | ⟨n, h, e⟩ | ⟨s, h, e⟩ | ⟨s, v, qs, h1, h2, h3, h4, h5, h6, h7⟩
    · exact ⟨(hmove h).2, .inl ⟨i, (hmove h).1, e⟩⟩
    · exact ⟨(hmove h).2, .inr (.inl ⟨n, (hmove h).1, e⟩)⟩
    · exact ⟨(hmove h).2, .inr (.inr (.inl ⟨s, (hmove h).1, e⟩))⟩
    · refine ⟨(hmove h1).2, .inr (.inr (.inr ⟨s, v, qs, (hmove h1).1, h2.keptBy hk (fun k e => (hF k (h2.lt k e).2 (h3 k e)).1), fun k e => (hF k (h2.lt k e).2 (h3 k e)).2, h4, h5, fun q hq => TermAt.keptBy hk hF (h6 q hq), h7⟩))⟩
theorem IsTerm.keptBy {F F' M : Nat → Prop} {w w' : World} {p : Nat} {ps : List Rf.Part} (h : IsTerm F w p ps) (hk : Kept M w w') (hF : ∀ k, k < w.heap.size → F k → ¬ M k ∧ F' k) : IsTerm F' w' p ps := ⟨_, TermAt.keptBy hk hF h.choose_spec⟩
/-- Any block of a term, whatever it holds. -/
def AnyTm (w : World) (p : Nat) : Prop := ∃ k n s a l c, TmB w p k n s (.slice a l c)
/-- What a call that reads a term leaves. -/
def TermPost (w : World) (b g : Nat) (nb : Option Nat) (res : Except (Int × Nat) (List Rf.Part × List Rf.Tok × List ByteArray)) (r : Ending) (w' : World) : Prop :=
  ∃ p, r = .returned (.pointer (some ⟨p, 0, none⟩)) ∧ w.heap.size ≤ p ∧ AnyTm w' p ∧ Kept (May b nb) w w' ∧
  (match res with
   | .ok (ps, l', ns') => ∃ nb', Rd w' b g nb' l' ns' ∧ Nb w nb nb' ∧ IsTerm (New w w' nb') w' p ps
   | .error (e, q) => RdE w' b e q)
theorem ptrCells_len (s : Nat) : (ptrCells s).length = 1 := rfl
theorem ptrCells_one (s : Nat) : ∀ u ∈ ptrCells s, u.oneCell' = true := by intro u hu; simp [ptrCells] at hu; subst hu; rfl
theorem Tryz.elemPtr : ElemOk Tryz.prog 56 100 1 8 (.pointer none) := ⟨Tryz.underlying56, by kernel_rfl, rfl, by decide, by decide⟩
end Go.Proofs.YthdmbbfaphipkaaGreatDoor
/- What the document's reading does at a variable (promptref: variable). -/
namespace Go.Proofs.YthdmbbfaphipkaaGreatDoor
open Go.RowKit
def Box (w : World) (N : Nat) (t : Rf.Tok) : Prop := w.heap[N]? = some (.cells #[.int .u8 t.k, .int .i64 t.at_, .string t.s, .int .i64 t.e] 149 (0, 0))
theorem Box.below {w w' : World} {N : Nat} {t : Rf.Tok} (h : Box w N t) (hb : Below w.heap.size w w') : Box w' N t := (hb.block N (blk_lt h)).trans h
theorem Rd.drewN {w : World} {b g : Nat} {nb : Option Nat} {l : List Rf.Tok} {ns : List ByteArray} (h : Rd w b g nb l ns) (n : Nat) : Rd (w.drewN n) b g nb l ns := h.below ((Below.refl _ _).drewN n)
theorem RdB.grown {w w' : World} {b : Nat} {vL : Value} {I : Int} {vN : Value} {E P : Int} {row : Option Nat} (hg : w.grownBy w' row) (h : RdB w b vL I vN E P) (hn : row ≠ some b) : RdB w' b vL I vN E P :=
  (hg.block b (blk_lt h) (fun e => hn e.symm)).trans h
theorem names_grow {wr W w3 : World} {b g cap I : Nat} {vN : Value} {nb : Option Nat} {all l : List Rf.Tok} {ns : List ByteArray} {s : ByteArray} {gN capN : Nat}
    (hB : RdB wr b (.slice (some ⟨g, 0, none⟩) all.length cap) I vN 0 0) (hd : all.drop I = l) (hen : Rf.Ended l) (hlen : all.length ≤ 401) (hrow : RowIs wr 0 149 4 tokCells (.slice (some ⟨g, 0, none⟩) all.length cap) all)
    (hnb : vN.ownBlock = nb) (hbg : b ≠ g) (hnb1 : nb ≠ some b) (hnb2 : nb ≠ some g) (h16 : ns.length < 16) (hW : Below wr.heap.size wr W) (hgr : W.grownBy w3 vN.ownBlock) (hnb3 : Nb W vN.ownBlock (some gN))
    (hrow3 : RowIs w3 0 9 1 strCells (.slice (some ⟨gN, 0, none⟩) (ns.length + 1) capN) (ns ++ [s])) :
    Rd (w3.setCell ⟨b, 2, none⟩ (.slice (some ⟨gN, 0, none⟩) (ns.length + 1) capN)) b g (some gN) l (ns ++ [s]) := by
  subst hnb
  have hbl := blk_lt hB
  have hgl := (hrow.lt g rfl).2
  have hsz := hW.size
  have hB3 : RdB w3 b _ I vN 0 0 := RdB.grown hgr ((hW.block b hbl).trans hB) hnb1
  have hgb : gN ≠ b := fun e => hnb3.ne hnb1 (by omega) (by rw [e])
  have hgg : gN ≠ g := fun e => hnb3.ne hnb2 (by omega) (by rw [e])
  refine ⟨cap, I, _, all, blk_set hB3 2 _, hd, hen, hlen, RowIs.setCell ⟨((hrow.below hW).own.kept hgr (.inr (fun e => hnb2 e.symm)))⟩ _ _ (fun e => hbg (Option.some.inj e).symm), hrow3.setCell _ _ (fun e => hgb (Option.some.inj e)), rfl, hbg, fun e => hgb (Option.some.inj e), fun e => hgg (Option.some.inj e), by simp; omega⟩
set_option maxHeartbeats 1000000 in
set_option maxRecDepth 100000 in
theorem variable_any (b g : Nat) (nb : Option Nat) (t : Rf.Tok) (l : List Rf.Tok) (ns : List ByteArray) (w : World) (h : Rd w b g nb l ns) (hk : (t.k == 63) = false) :
    Calls Tryz.prog 136 #[.pointer (some ⟨b, 0, none⟩), tokVal t] w fun r w' => TermPost w b g nb (Rf.varT t l ns) r w' := by
  have hbw : Hid (b < w.heap.size) := by obtain ⟨_, _, _, _, hB, _⟩ := h.ex; exact blk_lt hB
  go_enter Tryz.func136, Tryz.ntmps136
  go_wp2
  go_loopw [5] (fun i wr => ∃ k : Nat, i = .int .i64 k ∧ k ≤ ns.length ∧ Rd wr b g nb l ns ∧ Box wr w.heap.size t ∧ Below w.heap.size w wr ∧ Hid (∀ j, j < k → Miss t ns j)) (fun i _ => ns.length - (intOf i).toNat)
  case atStart => exact ⟨0, rfl, by omega, h.alloc _, blk_new _ _, (Below.refl _ _).alloc (Nat.le_refl _) _, fun j hj => by omega⟩
  case round =>
    obtain ⟨k, rfl, hkl, hR, hX, hbel, hM⟩ := hrel
    obtain ⟨cap, I, vN, all, hB, hd, hen, hlen, hrow, hnam, hnb, hbg, hnb1, hnb2, h16⟩ := hR.ex
    have hsz := hbel.size
    have hXl := blk_lt hX
    obtain ⟨q0, q1, q2, q3, q4, qf, qb⟩ := hB.facts
    have x0 := blk_cell hX 0
    have x1 := blk_cell hX 1
    have x2 := blk_cell hX 2
    have x3 := blk_cell hX 3
    simp only [List.getElem?_toArray, List.getElem?_cons_zero, List.getElem?_cons_succ] at x0 x1 x2 x3
    have HX : Hid _ := hX
    have HB : Hid _ := hB
    have Hd : Hid _ := hd
    have Hnb : Hid _ := hnb
    have Hrow : Hid _ := hrow
    have Hen : Hid _ := hen
    clear hX hB hd hnb hrow hen
    by_cases hlt : k < ns.length
    · rcases hnam.shape with ⟨_, hnil⟩ | ⟨gn, capn, rfl, _, hgn, hcapn, hcapm⟩
      · rw [hnil] at hlt; simp at hlt
      · obtain ⟨sk, hsk⟩ : ∃ sk, ns[k]? = some sk := ⟨ns[k], by simp [hlt]⟩
        have hcell := hnam.cells strCells_len k sk hsk 0 _ rfl
        simp only [Nat.mul_one, Nat.add_zero] at hcell
        have Hsk : Hid _ := hsk
        clear hsk
        have hlt' : (k : Int) < ns.length := by omega
        have e1 : (t.s.toList == [95]) = decide (t.s = Rf.under) := by
          rw [← beq_toList t.s Rf.under]; simp [Rf.under, ByteArray.toList_eq]
        have e2 : (sk.toList == t.s.toList) = decide (sk = t.s) := beq_toList sk t.s
        by_cases hu : t.s = Rf.under
        · rw [decide_eq_true hu] at e1
          have Hu : Hid _ := hu
          clear hu e2
          go_wp2_with fail
          go_quiet (fail)
          go_wp2_with fail
          go_roundw
          case rel => exact ⟨k + 1, by go_num, by omega, hR.drewN _, HX.out, hbel.drewN _, Miss.step hM.out (.inl Hu.out)⟩
          case measure => simp [intOf]; omega
        · rw [decide_eq_false hu] at e1
          have Hu : Hid _ := hu
          clear hu
          by_cases hs : sk = t.s
          · rw [decide_eq_true hs] at e2
            have Hs : Hid _ := hs
            clear hs
            go_wp2_with fail
            go_quiet (fail)
            go_wp2_with fail
            go_ret
            refine ⟨_, rfl, by omega, ⟨_, _, _, _, _, _, blk_new _ _⟩, ((Kept.of_below hbel _).drewN _).alloc _, ?_⟩
            unfold Rf.varT Rf.varS
            rw [look_some Hu.out (by rw [← Hs.out]; exact Hsk.out) hM.out]
            exact ⟨nb, (hR.drewN _).alloc _, .inl rfl, 1, ⟨by omega, by simp, fun e => by have := (hnam.lt _ (Hnb.out.trans e)).2; simp at this⟩, .inl ⟨_, blk_new _ _, rfl⟩⟩
          · rw [decide_eq_false hs] at e2
            have Hs : Hid _ := hs
            clear hs
            go_wp2_with fail
            go_quiet (fail)
            go_wp2_with fail
            go_roundw
            case rel => exact ⟨k + 1, by go_num, by omega, hR.drewN _, HX.out, hbel.drewN _, Miss.step hM.out (.inr (by rw [Hsk.out]; exact fun e => Hs.out (Option.some.inj e)))⟩
            case measure => simp [intOf]; omega
    · obtain rfl : k = ns.length := by omega
      have hL := look_none hM.out
      have HL : Hid _ := hL
      clear hL
      rcases hnam.shape with ⟨rfl, hnil⟩ | ⟨gn, capn, rfl, _, hgn, hcapn, hcapm⟩
      · subst hnil
        have hne : (Value.slice none 0 0).ownBlock ≠ some b := by simp [Value.ownBlock]
        go_wp2_with fail
        go_region_law (refine step_app Tryz.elemStr strCells strCells_len strCells_one rfl (.tmp 46) (.tmp 49) rfl 0 _ ([] : List ByteArray) rfl ?_ ⟨_, 0, none⟩ 1 t.s rfl ?_ ?_ (Nat.zero_le _) ?_; exact ⟨(hnam.alloc _).own⟩; exact cell_one_at wr _ rfl (.string t.s) 9; (first | omega | (simp; done)); intro gN capN w3 hrow3 hgr3 hnb3; have hB3 := RdB.grown (b := b) (I := I) hgr3 (blk_alloc HB.out _) hne; obtain ⟨r0, r1, r2, r3, r4, rf, rb⟩ := hB3.facts)
        all_goals
          go_wp2_with fail
          go_ret
          have hs3 : wr.heap.size + 1 ≤ w3.heap.size := by have h9 := hgr3.size; simp at h9; omega
          refine ⟨_, rfl, by omega, ⟨_, _, _, _, _, _, blk_at _ _ _ (by simp)⟩, (((((Kept.of_below hbel (May b nb)).alloc _).drew).grown hgr3 (fun k e => Or.inr (Or.inr (e.symm.trans Hnb.out)))).setCell (p := ⟨b, 2, none⟩) (Or.inr (Or.inl rfl)) _).alloc _, ?_⟩
          unfold Rf.varT Rf.varS
          rw [HL.out]
          simp only []
          rw [if_neg (by simp)]
          exact ⟨some gN, (names_grow HB.out Hd.out Hen.out hlen Hrow.out Hnb.out hbg hnb1 hnb2 (by simp) (((Below.refl _ _).alloc (Nat.le_refl _) _).drew) hgr3 hnb3 hrow3).alloc _, Nb.trans (.inl Hnb.out) hnb3 (by simp; omega), 1, ⟨by omega, by simp, fun e => by have h8 : gN < w3.heap.size := (hrow3.lt gN rfl).2; simp at e; omega⟩, .inl ⟨_, blk_at _ _ _ (by simp), rfl⟩⟩
      · have hne : (Value.slice (some ⟨gn, 0, none⟩) ns.length capn).ownBlock ≠ some b := by rw [Hnb.out]; exact hnb1
        cases h16b : ((ns.length : Int) == 16)
        · have h16n : Hid (ns.length ≠ 16) := fun e => by rw [e] at h16b; exact absurd h16b (by decide)
          go_wp2_with fail
          go_region_law (refine step_app Tryz.elemStr strCells strCells_len strCells_one rfl (.tmp 46) (.tmp 49) rfl 0 _ ns rfl ?_ ⟨_, 0, none⟩ 1 t.s rfl ?_ ?_ (Nat.zero_le _) ?_; exact ⟨(hnam.alloc _).own⟩; exact cell_one_at wr _ rfl (.string t.s) 9; (first | omega | (simp; done)); intro gN capN w3 hrow3 hgr3 hnb3; have hB3 := RdB.grown (b := b) (I := I) hgr3 (blk_alloc HB.out _) hne; obtain ⟨r0, r1, r2, r3, r4, rf, rb⟩ := hB3.facts)
          all_goals
            go_wp2_with fail
            go_ret
            have hs3 : wr.heap.size + 1 ≤ w3.heap.size := by have h9 := hgr3.size; simp at h9; omega
            refine ⟨_, rfl, by omega, ⟨_, _, _, _, _, _, blk_at _ _ _ (by simp)⟩, (((((Kept.of_below hbel (May b nb)).alloc _).drew).grown hgr3 (fun k e => Or.inr (Or.inr (e.symm.trans Hnb.out)))).setCell (p := ⟨b, 2, none⟩) (Or.inr (Or.inl rfl)) _).alloc _, ?_⟩
            unfold Rf.varT Rf.varS
            rw [HL.out]
            simp only []
            rw [if_neg h16n.out]
            exact ⟨some gN, (names_grow HB.out Hd.out Hen.out hlen Hrow.out Hnb.out hbg hnb1 hnb2 (by have := h16n.out; omega) (((Below.refl _ _).alloc (Nat.le_refl _) _).drew) hgr3 hnb3 hrow3).alloc _, Nb.trans (.inl Hnb.out) hnb3 (by simp; omega), 1, ⟨by omega, by simp, fun e => by have h8 : gN < w3.heap.size := (hrow3.lt gN rfl).2; simp at e; omega⟩, .inl ⟨_, blk_at _ _ _ (by simp), rfl⟩⟩
        · have h16n : Hid (ns.length = 16) := by have := eq_of_beq h16b; unfold Hid; omega
          have HE : Hid _ := errOf_no t 3 hk
          have hbN : b ≠ w.heap.size := by have h7 := hbw.out; omega
          go_wp2_with (go_at_call 98; refine (bad_free b I _ _ t 3 _ HB.out).mono ?_; rintro e w2 ⟨rfl, hB2, hK2⟩; rw [HE.out] at hB2; obtain ⟨y0, y1, y2, y3, y4, yf, yb⟩ := hB2.facts; have z2 := (hK2.cell (p := ⟨w.heap.size, 2, none⟩) hXl (fun e => hbN e.symm)).trans x2; have hnam2 := hnam.keptBy hK2 (fun k e e2 => hne (e.trans (by rw [e2])))  ; have hs2 := hK2.size)
          go_wp2_with fail
          go_region_law (refine step_app Tryz.elemStr strCells strCells_len strCells_one rfl (.tmp 46) (.tmp 49) rfl 0 _ ns rfl ?_ ⟨_, 0, none⟩ 1 t.s rfl ?_ ?_ (Nat.zero_le _) ?_; exact ⟨(hnam2.alloc _).own⟩; exact cell_one_at w2 _ rfl (.string t.s) 9; (first | omega | (simp; done)); intro gN capN w3 hrow3 hgr3 hnb3; have hB3 := RdB.grown (b := b) (I := I) hgr3 (blk_alloc hB2 _) hne; obtain ⟨r0, r1, r2, r3, r4, rf, rb⟩ := hB3.facts)
          all_goals
            go_wp2_with fail
            go_ret
            have hs3 : w2.heap.size + 1 ≤ w3.heap.size := by have h9 := hgr3.size; simp at h9; omega
            refine ⟨_, rfl, by omega, ⟨_, _, _, _, _, _, blk_at _ _ _ (by simp)⟩, ((((((Kept.of_below hbel (May b nb)).trans hK2 (fun k _ e => Or.inl e)).alloc _).drew).grown hgr3 (fun k e => Or.inr (Or.inr (e.symm.trans Hnb.out)))).setCell (p := ⟨b, 2, none⟩) (Or.inr (Or.inl rfl)) _).alloc _, ?_⟩
            unfold Rf.varT Rf.varS
            rw [HL.out]
            simp only []
            rw [if_pos h16n.out]
            exact ⟨_, _, _, _, _, blk_alloc (blk_set hB3 2 _) _, by decide⟩
end Go.Proofs.YthdmbbfaphipkaaGreatDoor
/- What the document's reading does at a number's text (promptref: number). -/
namespace Go.Proofs.YthdmbbfaphipkaaGreatDoor
open Go.RowKit
set_option maxHeartbeats 400000 in
theorem number_any (s : ByteArray) (v : Int) (w : World) (hs : s.size ≤ 10) (h : Lib.atoi s.data.toList = some v) :
    Calls Tryz.prog 137 #[.string s] w fun e w' => e = .returned (.int .i64 (Rf.numVal s)) ∧ Below w.heap.size w w' := by
  have hv : Hid (Rf.numVal s = v) := by unfold Hid Rf.numVal; rw [h]; rfl
  have H : Hid _ := h
  clear h
  go_enter Tryz.func137, Tryz.ntmps137
  go_wp2_with (go_at_call 162; refine (Tryz.strconv_Atoi s v (by omega) H.out _).mono ?_; rintro e w1 ⟨rfl, t, hw1⟩)
  go_ret
  exact ⟨ret_int hv.out.symm, ⟨rfl, rfl, rfl, by rw [Lib.bytesWorld_size]; omega, fun j hj => Lib.bytesWorld_at_old w 5 t j hj⟩⟩
end Go.Proofs.YthdmbbfaphipkaaGreatDoor
/- A compound in the making: its block, the row of its arguments, and what keeps them. -/
namespace Go.Proofs.YthdmbbfaphipkaaGreatDoor
open Go.RowKit
theorem Rd.keptBy {M : Nat → Prop} {w w' : World} {b g : Nat} {nb : Option Nat} {l : List Rf.Tok} {ns : List ByteArray} (h : Rd w b g nb l ns) (hk : Kept M w w') (h1 : ¬ M b) (h2 : ¬ M g) (h3 : ∀ k, nb = some k → ¬ M k) : Rd w' b g nb l ns := by
  obtain ⟨cap, I, vN, all, hB, e1, e2, e3, hrow, hnam, e4, e5⟩ := h.ex
  exact ⟨cap, I, vN, all, (hk.block b (blk_lt hB) h1).trans hB, e1, e2, e3, hrow.keptBy hk (fun k e => by simp [Value.ownBlock] at e; subst e; exact h2), hnam.keptBy hk (fun k e => h3 k (e4 ▸ e)), e4, e5⟩
theorem RdE.keptBy {M : Nat → Prop} {w w' : World} {b : Nat} {E P : Int} (h : RdE w b E P) (hk : Kept M w w') (h1 : ¬ M b) : RdE w' b E P := by
  obtain ⟨vL, I, a, n, c, hB, hE⟩ := h.ex
  exact ⟨vL, I, a, n, c, (hk.block b (blk_lt hB) h1).trans hB, hE⟩
theorem Rd.lt {w : World} {b g : Nat} {nb : Option Nat} {l : List Rf.Tok} {ns : List ByteArray} (h : Rd w b g nb l ns) : b < w.heap.size ∧ g < w.heap.size ∧ (∀ k, nb = some k → k < w.heap.size ∧ k ≠ b ∧ k ≠ g) ∧ b ≠ g := by
  obtain ⟨cap, I, vN, all, hB, _, _, _, hrow, hnam, e4, e5, e6, e7, _⟩ := h.ex
  exact ⟨blk_lt hB, (hrow.lt g rfl).2, fun k e => ⟨(hnam.lt k (e4.trans e)).2, fun x => e6 (by rw [e, x]), fun x => e7 (by rw [e, x])⟩, e5⟩
/-- A compound's block X, and the row vA of the arguments acc that it has so far. -/
structure Args (w wr : World) (nb : Option Nat) (X : Nat) (s : ByteArray) (vA : Value) (acc : List (Nat × List Rf.Part)) : Prop where
  blk : TmB wr X 99 0 s vA
  new : w.heap.size ≤ X
  names : nb ≠ some X
  apart : vA.ownBlock ≠ some X
  row : RowIs wr 0 100 1 ptrCells vA (acc.map (·.1))
  rowNew : ∀ k, vA.ownBlock = some k → New w wr nb k
  terms : ∀ q ∈ acc, IsTerm (fun k => New w wr nb k ∧ vA.ownBlock ≠ some k ∧ k ≠ X) wr q.1 q.2
/-- Over a call on the reading. -/
theorem Args.over {w wr w1 : World} {b : Nat} {nb nb1 : Option Nat} {X : Nat} {s : ByteArray} {vA : Value} {acc : List (Nat × List Rf.Part)} (h : Args w wr nb X s vA acc) (hb : b < w.heap.size) (hk : Kept (May b nb) wr w1) (hn : Nb wr nb nb1) : Args w w1 nb1 X s vA acc := by
  have hsz := hk.size
  have hX := blk_lt h.blk
  have h0 := h.new
  have mv : ∀ k, k < wr.heap.size → w.heap.size ≤ k → nb ≠ some k → ¬ May b nb k ∧ nb1 ≠ some k := fun k h1 h2 h3 => ⟨fun e => by rcases e with e | e; exact absurd e (by omega); exact h3 e.symm, hn.ne h3 h1⟩
  refine ⟨(hk.block X hX (mv X hX h0 h.names).1).trans h.blk, h0, (mv X hX h0 h.names).2, h.apart, h.row.keptBy hk (fun k e => (mv k (h.rowNew k e).2.1 (h.rowNew k e).1 (h.rowNew k e).2.2).1), fun k e => ⟨(h.rowNew k e).1, by have := (h.rowNew k e).2.1; omega, (mv k (h.rowNew k e).2.1 (h.rowNew k e).1 (h.rowNew k e).2.2).2⟩, fun q hq => (h.terms q hq).keptBy hk (fun k hk1 hF => ?_)⟩
  obtain ⟨⟨f1, f2, f3⟩, f4, f5⟩ := hF
  exact ⟨(mv k f2 f1 f3).1, ⟨f1, by omega, (mv k f2 f1 f3).2⟩, f4, f5⟩
/-- What an append to the arguments may turn. -/
def MayA (X : Nat) (vA : Value) (k : Nat) : Prop := k = X ∨ vA.ownBlock = some k
theorem kept_push {w1 w2 : World} {o : Obj} {X : Nat} {vA v2 : Value} (hg : (w1.alloc o).grownBy w2 vA.ownBlock) : Kept (MayA X vA) w1 (w2.setCell ⟨X, 3, none⟩ v2) :=
  (((Kept.refl (MayA X vA) w1).alloc o).grown hg (fun _ e => .inr (.inr e))).setCell (p := ⟨X, 3, none⟩) (.inr (.inl rfl)) _
/-- One argument more. -/
theorem Args.push {w w1 w2 : World} {o : Obj} {nb : Option Nat} {X : Nat} {s : ByteArray} {vA : Value} {acc : List (Nat × List Rf.Part)} {p : Nat} {ps : List Rf.Part} {gA n capA : Nat} (h : Args w w1 nb X s vA acc)
    (hp : IsTerm (fun k => New w w1 nb k ∧ vA.ownBlock ≠ some k ∧ k ≠ X) w1 p ps) (hnbl : ∀ k, nb = some k → k < w1.heap.size)
    (hg : (w1.alloc o).grownBy w2 vA.ownBlock) (hn : Nb (w1.alloc o) vA.ownBlock (some gA)) (hr : RowIs w2 0 100 1 ptrCells (.slice (some ⟨gA, 0, none⟩) n capA) ((acc.map (·.1)) ++ [p])) :
    Args w (w2.setCell ⟨X, 3, none⟩ (.slice (some ⟨gA, 0, none⟩) n capA)) nb X s (.slice (some ⟨gA, 0, none⟩) n capA) (acc ++ [(p, ps)]) := by
  have hX := blk_lt h.blk
  have h0 := h.new
  have hk := kept_push (X := X) (v2 := .slice (some ⟨gA, 0, none⟩) n capA) hg
  have hs2 : w1.heap.size + 1 ≤ w2.heap.size := by have := hg.size; simpa using this
  have hgl : gA < w2.heap.size := (hr.lt gA rfl).2
  have hgX : gA ≠ X := fun e => hn.ne h.apart (by simp; omega) (by rw [e])
  have hgn : w.heap.size ≤ gA ∧ nb ≠ some gA := by
    rcases hn with e | ⟨k, e, hk⟩
    · exact ⟨(h.rowNew gA e.symm).1, (h.rowNew gA e.symm).2.2⟩
    · have := Option.some.inj e
      simp at hk
      exact ⟨by omega, fun e => by have := hnbl gA e; omega⟩
  have hB2 : TmB w2 X 99 0 s vA := (hg.block X (by simp; omega) (fun e => h.apart e.symm)).trans (blk_alloc h.blk o)
  have tm : ∀ q qs, IsTerm (fun k => New w w1 nb k ∧ vA.ownBlock ≠ some k ∧ k ≠ X) w1 q qs → IsTerm (fun k => New w (w2.setCell ⟨X, 3, none⟩ (.slice (some ⟨gA, 0, none⟩) n capA)) nb k ∧ (Value.slice (some ⟨gA, 0, none⟩) n capA).ownBlock ≠ some k ∧ k ≠ X) (w2.setCell ⟨X, 3, none⟩ (.slice (some ⟨gA, 0, none⟩) n capA)) q qs := by
    intro q qs hq
    refine hq.keptBy hk (fun k hk1 hF => ?_)
    obtain ⟨⟨f1, f2, f3⟩, f4, f5⟩ := hF
    exact ⟨fun e => by rcases e with e | e; exact f5 e; exact f4 e, ⟨f1, by simp; omega, f3⟩, fun e => hn.ne f4 (by simp; omega) e, f5⟩
  refine ⟨blk_set hB2 3 _, h0, h.names, fun e => hgX (Option.some.inj e), ?_, fun k e => ?_, fun q hq => ?_⟩
  · rw [List.map_append]
    exact hr.setCell _ _ (fun e => hgX (Option.some.inj e))
  · obtain rfl := Option.some.inj e
    exact ⟨hgn.1, by simpa using hgl, hgn.2⟩
  · rcases List.mem_append.1 hq with hq | hq
    · exact tm _ _ (h.terms q hq)
    · simp at hq; subst hq; exact tm _ _ hp
/-- The compound, done. -/
theorem Args.done {w wr : World} {nb : Option Nat} {X : Nat} {s : ByteArray} {vA : Value} {acc : List (Nat × List Rf.Part)} (h : Args w wr nb X s vA acc) (h1 : 1 ≤ acc.length) (h4 : acc.length ≤ 4) :
    IsTerm (New w wr nb) wr X (⟨3, s, 0, acc.length⟩ :: (acc.map (·.2)).flatten) := by
  have key : ∀ (l : List (Nat × List Rf.Part)), (∀ q ∈ l, IsTerm (fun k => New w wr nb k ∧ vA.ownBlock ≠ some k ∧ k ≠ X) wr q.1 q.2) → ∃ d, ∀ q ∈ l, TermAt (New w wr nb) wr d q.1 q.2 := by
    intro l
    induction l with
    | nil => exact fun _ => ⟨0, fun q hq => by simp at hq⟩
    | cons a l ih =>
      intro hl
      obtain ⟨d, hd⟩ := ih (fun q hq => hl q (List.mem_cons_of_mem _ hq))
      obtain ⟨d', hd'⟩ := hl a List.mem_cons_self
      refine ⟨max d d', fun q hq => ?_⟩
      rcases List.mem_cons.1 hq with rfl | hq
      · exact (TermAt.keptBy (M := fun _ => False) (Kept.refl _ _) (fun k _ hF => ⟨fun e => e, hF.1⟩) hd').up (by omega)
      · exact (hd q hq).up (by omega)
  obtain ⟨d, hd⟩ := key acc h.terms
  exact ⟨d + 1, ⟨h.new, blk_lt h.blk, h.names⟩, .inr (.inr (.inr ⟨s, vA, acc, h.blk, h.row, h.rowNew, h1, h4, hd, rfl⟩))⟩
end Go.Proofs.YthdmbbfaphipkaaGreatDoor
