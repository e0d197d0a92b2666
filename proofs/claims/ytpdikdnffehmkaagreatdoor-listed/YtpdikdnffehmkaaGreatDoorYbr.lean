/- The program's session, in memory, with all that it owns; what each call leaves of it, and of the others. -/
import Derived.Test.YtpdikdnffehmkaaGreatDoorYbp
import Derived.Test.YtpdikdnffehmkaaGreatDoorYbq
import Derived.Test.YtpdikdnffehmkaaGreatDoorYan
import Derived.Test.YtpdikdnffehmkaaGreatDoorYbo
namespace Go.Proofs.YtpdikdnffehmkaaGreatDoor
open Go.RowKit
variable {nm : Value}
/-- A block of a kind that turns: a session, a question, a row of choices, a row of clauses. -/
def Turn (w : World) (k : Nat) : Prop := ∃ cs t, w.heap[k]? = some (.cells cs t (0, 0)) ∧ (t = 79 ∨ t = 114 ∨ t = 124 ∨ t = 85)
/-- A block that holds no part of a term, no term and no number. -/
def Mut (w : World) (k : Nat) : Prop := ∃ cs t, w.heap[k]? = some (.cells cs t (0, 0)) ∧ t ≠ 117 ∧ t ≠ 83 ∧ t ≠ 3
theorem Turn.mut {w : World} {k : Nat} (h : Turn w k) : Mut w k := by
  obtain ⟨cs, t, hc, ht⟩ := h
  refine ⟨cs, t, hc, ?_⟩
  rcases ht with e | e | e | e <;> (subst e; decide)
theorem Mut.not {w : World} {k : Nat} {cs : Array Value} {t : TypeId} (h : w.heap[k]? = some (.cells cs t (0, 0))) (ht : t = 117 ∨ t = 83 ∨ t = 3) : ¬ Mut w k := by
  rintro ⟨cs', t', hc, h1, h2, h3⟩
  rw [h] at hc
  injection hc with h5; injection h5 with _ h6
  subst h6
  rcases ht with e | e | e
  · exact h1 e
  · exact h2 e
  · exact h3 e
/-- A block of another type does not turn. -/
theorem Turn.not {w : World} {k : Nat} {cs : Array Value} {t : TypeId} (h : w.heap[k]? = some (.cells cs t (0, 0))) (h1 : t ≠ 79) (h2 : t ≠ 114) (h3 : t ≠ 124) (h4 : t ≠ 85) : ¬ Turn w k := by
  rintro ⟨cs', t', hc, ht⟩
  rw [h] at hc
  injection hc with h5; injection h5 with _ h6
  subst h6
  rcases ht with e | e | e | e
  · exact h1 e
  · exact h2 e
  · exact h3 e
  · exact h4 e
/-- Block x holds the session S; all that it owns lies among G, from B on. -/
structure SeIn (B : Nat) (G : Nat → Prop) (w : World) (x : Nat) (S : Rf.Se) : Prop where
  ex : ∃ F oq nm, SeAt F w x oq nm S ∧ G x ∧ (∀ k, F k → G k) ∧ (∀ k, MayO oq k → G k) ∧ (∀ g, NmB nm g → G g)
  lo : ∀ k, G k → B ≤ k
  hi : ∀ k, G k → k < w.heap.size
def Grow (G : Nat → Prop) (w w' : World) (k : Nat) : Prop := G k ∨ (w.heap.size ≤ k ∧ k < w'.heap.size)
/-- What a call leaves of a session. -/
def SeDone (B : Nat) (G : Nat → Prop) (w : World) (x : Nat) (S : Rf.Se) (w' : World) : Prop :=
  SeIn B (Grow G w w') w' x S ∧ Kept (fun k => G k ∧ Turn w k) w w'
theorem SeIn.ok {B : Nat} {G : Nat → Prop} {w : World} {x : Nat} {S : Rf.Se} (h : SeIn B G w x S) : Rf.SeOk S := by
  obtain ⟨_, _, _, h1, _⟩ := h.ex
  exact h1.ok
theorem SeIn.x {B : Nat} {G : Nat → Prop} {w : World} {x : Nat} {S : Rf.Se} (h : SeIn B G w x S) : G x := by
  obtain ⟨_, _, _, _, h2, _⟩ := h.ex
  exact h2
theorem SeIn.mono {B : Nat} {G G' : Nat → Prop} {w : World} {x : Nat} {S : Rf.Se} (h : SeIn B G w x S) (hG : ∀ k, G k → G' k) (hl : ∀ k, G' k → B ≤ k) (hh : ∀ k, G' k → k < w.heap.size) : SeIn B G' w x S := by
  obtain ⟨F, oq, nm, h1, h2, h3, h4, h5⟩ := h.ex
  exact ⟨⟨F, oq, nm, h1, hG _ h2, fun k e => hG k (h3 k e), fun k e => hG k (h4 k e), fun g e => hG g (h5 g e)⟩, hl, hh⟩
theorem SeIn.lower {B B' : Nat} {G : Nat → Prop} {w : World} {x : Nat} {S : Rf.Se} (h : SeIn B G w x S) (hB : B' ≤ B) : SeIn B' G w x S := ⟨h.ex, fun k e => Nat.le_trans hB (h.lo k e), h.hi⟩
theorem QuAt.turn {w : World} {vQ : Value} {oq : Option (Nat × Option Nat)} {Q : Option Rf.Qs} (h : QuAt nm w vQ oq Q) : ∀ k, MayO oq k → Turn w k := by
  intro k hk
  cases oq with
  | none => exact hk.elim
  | some p =>
    obtain ⟨q, rb⟩ := p
    cases Q with
    | none => exact h.elim
    | some Q =>
      obtain ⟨_, hQ⟩ := h
      obtain ⟨_, _, _, _, hi⟩ := hQ.ex
      rcases hk with e | e
      · subst e; exact ⟨_, _, hi.b, .inr (.inl rfl)⟩
      · obtain ⟨acc, hr, _⟩ := hi.r.ex
        obtain ⟨cs, hc⟩ := hr.typed k (hi.o.trans e.symm)
        exact ⟨cs, _, hc, .inr (.inr (.inl rfl))⟩
theorem PsB.turn {w : World} {x : Nat} {lim : Int} {vC vQ : Value} (h : PsB w x lim vC vQ) : Turn w x := ⟨_, _, h, .inl rfl⟩
theorem seen_block {α : Type} {w w' : World} {M : Nat → Prop} {e : TypeId} {C : α → List Value} {v : Value} {xs : List α} (h : Seen w e C v xs) (hk : Kept M w w') (hn : ∀ g, NmB v g → ¬ M g) : Seen w' e C v xs := by
  rcases h.ex with h | ⟨g, off, cap, cur, h1, h2, h3⟩
  · exact ⟨.inl h⟩
  · exact ⟨.inr ⟨g, off, cap, cur, h1, (hk.block g (blk_lt h2) (hn g ⟨off, _, _, h1⟩)).trans h2, h3⟩⟩
theorem seen_nmb {α : Type} {w : World} {e : TypeId} {C : α → List Value} {v : Value} {xs : List α} (h : Seen w e C v xs) {g : Nat} (hg : NmB v g) : g < w.heap.size := by
  obtain ⟨off, n, c, rfl⟩ := hg
  exact h.lt
/-- A question is kept by what turns elsewhere. -/
theorem QAt.keptG {w w' : World} {M : Nat → Prop} {q : Nat} {rb : Option Nat} {names : List ByteArray} {cf : Rf.Cf} (h : QAt nm w q rb names cf) (hk : Kept M w w') (hM : ∀ k, M k → Mut w k) (hq : ∀ k, May q rb k → ¬ M k) (hn : ∀ g, NmB nm g → ¬ M g) : QAt nm w' q rb names cf := by
  obtain ⟨vg, vt, fr, vC, hi⟩ := h.ex
  have kp : ∀ k cs, w.heap[k]? = some (.cells cs 117 (0, 0)) → ¬ M k := fun k cs hc hm => Mut.not hc (.inl rfl) (hM k hm)
  have kt : ∀ k cs, w.heap[k]? = some (.cells cs 83 (0, 0)) → ¬ M k := fun k cs hc hm => Mut.not hc (.inr (.inl rfl)) (hM k hm)
  have ki : ∀ k cs, w.heap[k]? = some (.cells cs 3 (0, 0)) → ¬ M k := fun k cs hc hm => Mut.not hc (.inr (.inr rfl)) (hM k hm)
  have hst : ∀ {vg vt : Value} {fr : Int} {S : Rf.St}, StIs w vg vt fr S → StIs w' vg vt fr S := fun h => ⟨h.g.keptM hk kp kt, h.t.keptM hk kp kt, h.f⟩
  obtain ⟨acc, h1, h2, h3⟩ := hi.r.ex
  exact ⟨vg, vt, fr, vC, (hk.block q (blk_lt hi.b) (hq q (.inl rfl))).trans hi.b, seen_block hi.n hk hn, hst hi.s, ⟨acc, h1.keptBy hk (fun k e => hq k (.inr (hi.o.symm.trans e).symm)), fun x hx => ⟨hst (h2 x hx).st, Seen.kept (h2 x hx).cl hk ki⟩, h3⟩, hi.o⟩
/-- A session is kept by what others do. -/
theorem SeIn.kept {B : Nat} {G M : Nat → Prop} {w w' : World} {x : Nat} {S : Rf.Se} (h : SeIn B G w x S) (hk : Kept M w w') (hM : ∀ k, M k → Mut w k) (hG : ∀ k, G k → ¬ M k) : SeIn B G w' x S := by
  obtain ⟨F, oq, nm, h1, h2, h3, h4, h5⟩ := h.ex
  obtain ⟨vC, vQ, e1, e2, e3⟩ := h1.ex
  refine ⟨⟨F, oq, nm, ⟨h1.ok, ⟨vC, vQ, (hk.block x (blk_lt e1) (hG x h2)).trans e1, e2.kept hk (fun k _ hF => hG k (h3 k hF)), ?_⟩, h1.apart, fun k hF => Nat.lt_of_lt_of_le (h1.bd k hF) hk.size, h1.sep⟩, h2, h3, h4, h5⟩, h.lo, fun k e => Nat.lt_of_lt_of_le (h.hi k e) hk.size⟩
  cases oq with
  | none =>
    cases hQ : S.q with
    | none => rw [hQ] at e3; exact e3
    | some Q => rw [hQ] at e3; exact e3.elim
  | some p =>
    obtain ⟨q, rb⟩ := p
    cases hQ : S.q with
    | none => rw [hQ] at e3; exact e3.elim
    | some Q =>
      rw [hQ] at e3
      exact ⟨e3.1, e3.2.keptG hk hM (fun k hm => hG k (h4 k hm)) (fun g hg => hG g (h5 g hg))⟩
theorem SeIn.below {B : Nat} {G : Nat → Prop} {w w' : World} {x : Nat} {S : Rf.Se} (h : SeIn B G w x S) (hb : Below w.heap.size w w') : SeIn B G w' x S := h.kept (Kept.of_below hb (fun _ => False)) (fun _ e => e.elim) (fun _ _ e => e)
theorem SeIn.drewN {B : Nat} {G : Nat → Prop} {w : World} {x : Nat} {S : Rf.Se} (h : SeIn B G w x S) (n : Nat) : SeIn B G (w.drewN n) x S := h.below ((Below.refl _ _).drewN n)
/-- The tables are kept. -/
theorem SeDone.tab {B : Nat} {G : Nat → Prop} {w w' : World} {x : Nat} {S : Rf.Se} (h : SeDone B G w x S w') (hB : B ≤ w.heap.size) (hT : TabB B w) : TabB B w' :=
  hT.on (h.2.below hB (fun k hk e => by have := h.1.lo k (.inl e.1); omega))
theorem SeDone.size {B : Nat} {G : Nat → Prop} {w w' : World} {x : Nat} {S : Rf.Se} (h : SeDone B G w x S w') : w.heap.size ≤ w'.heap.size := h.2.size
theorem SeDone.below {B : Nat} {G : Nat → Prop} {w w' : World} {x : Nat} {S : Rf.Se} (h : SeDone B G w x S w') (hB : B ≤ w.heap.size) : Below B w w' :=
  h.2.below hB (fun k hk e => by have := h.1.lo k (.inl e.1); omega)
theorem QuAt.any {nm' : Value} {w : World} {vQ : Value} {Q : Option Rf.Qs} (h : QuAt nm w vQ none Q) : QuAt nm' w vQ none Q := by
  cases Q with
  | none => exact h
  | some _ => exact h.elim
theorem SeAt.any {nm' : Value} {F : Nat → Prop} {w : World} {x : Nat} {S : Rf.Se} (h : SeAt F w x none nm S) : SeAt F w x none nm' S := by
  obtain ⟨vC, vQ, t1, t2, t3⟩ := h.ex
  exact ⟨h.ok, ⟨vC, vQ, t1, t2, t3.any⟩, h.apart, h.bd, h.sep⟩
theorem SeAt.nmlt {F : Nat → Prop} {w : World} {x : Nat} {p : Nat × Option Nat} {S : Rf.Se} (h : SeAt F w x (some p) nm S) {g : Nat} (hg : NmB nm g) : g < w.heap.size := by
  obtain ⟨vC, vQ, t1, t2, t3⟩ := h.ex
  obtain ⟨q, rb⟩ := p
  cases hQ : S.q with
  | none => rw [hQ] at t3; exact t3.elim
  | some Q =>
    rw [hQ] at t3
    obtain ⟨_, _, _, _, hi⟩ := t3.2.ex
    exact seen_nmb hi.n hg
/-- From what a call says to what is owned. -/
theorem SePost.done {B : Nat} {G F : Nat → Prop} {w w' : World} {x : Nat} {oq : Option (Nat × Option Nat)} {S : Rf.Se} {P : Rf.Rep × Rf.Se} {r : Ending} (h : SePost F w x oq nm P r w') (h1 : SeAt F w x oq nm S) (hS : SeIn B G w x S) (h3 : ∀ k, F k → G k) (h4 : ∀ k, MayO oq k → G k) (h5 : ∀ g, NmB nm g → G g) (hB : B ≤ w.heap.size) : r = .returned (repV P.1) ∧ SeDone B G w x P.2 w' := by
  obtain ⟨e1, ⟨oq', nm', e2, e3, e5⟩, e4⟩ := h
  obtain ⟨_, _, t1, _, t3⟩ := h1.ex
  have hsz := e4.size
  have hin : ∃ F oq nm, SeAt F w' x oq nm P.2 ∧ Grow G w w' x ∧ (∀ k, F k → Grow G w w' k) ∧ (∀ k, MayO oq k → Grow G w w' k) ∧ (∀ g, NmB nm g → Grow G w w' g) := by
    cases oq' with
    | none => exact ⟨F, none, .pointer none, e2.any, .inl hS.x, fun k hF => .inl (h3 k hF), fun k hm => hm.elim, fun g hg => (nmb_none hg).elim⟩
    | some p =>
      refine ⟨F, some p, nm', e2, .inl hS.x, fun k hF => .inl (h3 k hF), fun k hm => ?_, fun g hg => ?_⟩
      · rcases e3 k hm with e | e
        · exact .inl (h4 k e)
        · obtain ⟨_, _, _, _, u3⟩ := e2.ex
          obtain ⟨cs, t, hc, _⟩ := u3.turn k hm
          exact .inr ⟨e, blk_lt hc⟩
      · rcases e5 g hg with e | e
        · exact .inl (h5 g e)
        · exact .inr ⟨e, e2.nmlt hg⟩
  refine ⟨e1, ⟨hin, fun k hk => ?_, fun k hk => ?_⟩, e4.mono (fun k _ e => ?_)⟩
  · rcases hk with hk | hk
    · exact hS.lo k hk
    · omega
  · rcases hk with hk | hk
    · have := hS.hi k hk; omega
    · exact hk.2
  · rcases e with e | e
    · subst e; exact ⟨hS.x, t1.turn⟩
    · exact ⟨h4 k e, t3.turn k e⟩
theorem pmore_in (B : Nat) (G : Nat → Prop) (w : World) (x : Nat) (S : Rf.Se) (h : SeIn B G w x S) (hB : B ≤ w.heap.size) (hT : TabB B w) :
    Calls Tryz.prog 20 #[.pointer (some ⟨x, 0, none⟩)] w fun r w' => r = .returned (repV (Rf.moreS S).1) ∧ SeDone B G w x (Rf.moreS S).2 w' := by
  obtain ⟨F, oq, nm, h1, h2, h3, h4, h5⟩ := h.ex
  cases hQ : S.q with
  | none =>
    have e : Rf.moreS S = (Rf.repK 3, S) := by unfold Rf.moreS; rw [hQ]
    rw [e]
    refine (pmore_none F w x oq S hQ h1).mono ?_
    rintro r w' ⟨e1, hb⟩
    have hsz := hb.size
    refine ⟨e1, (h.below hb).mono (fun k e => .inl e) (fun k e => ?_) (fun k e => ?_), Kept.of_below hb _⟩
    · rcases e with e | e
      · exact h.lo k e
      · omega
    · rcases e with e | e
      · have := h.hi k e; omega
      · exact e.2
  | some Q =>
    have e : Rf.moreS S = Rf.replyS S Q.names (Rf.playN S.cls S.lim (-1, ⟨Rf.stNone, Q.chs⟩)) := by unfold Rf.moreS; rw [hQ]; rfl
    rw [e]
    cases oq with
    | none =>
      obtain ⟨_, _, _, _, t3⟩ := h1.ex
      rw [hQ] at t3
      exact t3.elim
    | some p =>
      obtain ⟨q, rb⟩ := p
      refine (pmore_some F w B x q rb S Q hQ h1 hB (h.lo q (h4 q (.inl rfl))) (fun k e => h.lo k (h4 k (.inr e.symm))) hT).mono ?_
      exact fun r w' hp => hp.done h1 h h3 h4 h5 hB
theorem pask_in (B : Nat) (G : Nat → Prop) (w : World) (x : Nat) (S : Rf.Se) (s : ByteArray) (hm : s.size ≤ maxLen) (h : SeIn B G w x S) (hB : B ≤ w.heap.size) (hT : TabB B w) :
    Calls Tryz.prog 17 #[.pointer (some ⟨x, 0, none⟩), .string s] w fun r w' => r = .returned (repV (Rf.askS S s).1) ∧ SeDone B G w x (Rf.askS S s).2 w' := by
  obtain ⟨F, oq, nm, h1, h2, h3, h4, h5⟩ := h.ex
  cases hr : Rf.questS s with
  | error e =>
    have e0 : Rf.askS S s = (⟨4, ⟨#[]⟩, e.1, e.2⟩, ⟨S.lim, S.cls, none⟩) := by unfold Rf.askS; rw [hr]
    rw [e0]
    exact (pask_bad F w x oq S s hm h1 e.1 e.2 hr).mono (fun r w' hp => hp.done h1 h h3 h4 h5 hB)
  | ok y =>
    obtain ⟨gs, ns⟩ := y
    have e0 : Rf.askS S s = Rf.replyS S (Rf.beginN ns) (Rf.firstR S.cls S.lim (Rf.beginC gs ns)) := by unfold Rf.askS; rw [hr]; rfl
    rw [e0]
    exact (pask_go F w B x oq S s hm h1 hB (h.lo x h2) hT gs ns hr (Rf.questS_nz hr)).mono (fun r w' hp => hp.done h1 h h3 h4 h5 hB)
theorem pstop_in (B : Nat) (G : Nat → Prop) (w : World) (x : Nat) (S : Rf.Se) (h : SeIn B G w x S) :
    Calls Tryz.prog 29 #[.pointer (some ⟨x, 0, none⟩)] w fun r w' => r = .returned (.tuple #[]) ∧ SeDone B G w x (Rf.stopS S) w' := by
  obtain ⟨F, oq, nm, h1, h2, h3, h4, h5⟩ := h.ex
  obtain ⟨vC, vQ, t1, t2, t3⟩ := h1.ex
  refine (pstop_any x w ⟨_, _, _, t1⟩).mono ?_
  rintro r w' ⟨e1, rfl⟩
  have hk : Kept (fun k => k = x) w (w.setCell ⟨x, 2, none⟩ (.pointer none)) := Kept.setCell (p := ⟨x, 2, none⟩) (Kept.refl (fun k => k = x) w) (Or.inr rfl) _
  have hsz := hk.size
  refine ⟨e1, ⟨⟨F, none, .pointer none, ⟨Rf.stop_ok h1.ok, ⟨vC, _, blk_set t1 2 _, t2.kept hk (fun k _ hF e => h1.apart (e ▸ hF)), rfl⟩, h1.apart, fun k hF => Nat.lt_of_lt_of_le (h1.bd k hF) hsz, fun k e => e.elim⟩, .inl h2, fun k e => .inl (h3 k e), fun k e => e.elim, fun g hg => (nmb_none hg).elim⟩, fun k e => ?_, fun k e => ?_⟩, hk.mono (fun k _ e => by subst e; exact ⟨h2, t1.turn⟩)⟩
  · rcases e with e | e
    · exact h.lo k e
    · have : (w.setCell ⟨x, 2, none⟩ (.pointer none)).heap.size = w.heap.size := by simp
      omega
  · rcases e with e | e
    · have := h.hi k e; omega
    · exact e.2
theorem consultP_same (cls : List Rf.Cl) (s : ByteArray) : consultP cls s = Rf.consultC cls s := rfl
theorem pconsult_in (B : Nat) (G : Nat → Prop) (w : World) (x : Nat) (S : Rf.Se) (s : ByteArray) (hm : s.size ≤ maxLen) (h : SeIn B G w x S) (hB : B ≤ w.heap.size) :
    Calls Tryz.prog 25 #[.pointer (some ⟨x, 0, none⟩), .string s] w fun r w' => r = .returned (.tuple #[.int .i64 (Rf.consultS S s).1.1, .int .i64 (Rf.consultS S s).1.2]) ∧ SeDone B G w x (Rf.consultS S s).2 w' := by
  obtain ⟨F, oq, nm, h1, h2, h3, h4, h5⟩ := h.ex
  obtain ⟨vC, vQ, t1, t2, t3⟩ := h1.ex
  refine (pconsult_L F w x S.lim vQ S.cls s ⟨⟨vC, t1, t2⟩, h1.apart⟩ hm (good_read s)).mono ?_
  rintro r w' ⟨e1, hk, e3⟩
  have hsz := hk.size
  obtain ⟨vC', u1, u2⟩ := e3.ex
  refine ⟨e1, ⟨⟨_, none, .pointer none, ⟨Rf.consult_ok h1.ok s, ⟨vC', _, u1, u2, rfl⟩, e3.apart, fun k hF => ?_, fun k e => e.elim⟩, .inl h2, fun k e => ?_, fun k e => e.elim, fun g hg => (nmb_none hg).elim⟩, fun k e => ?_, fun k e => ?_⟩, hk.mono (fun k _ e => ?_)⟩
  · rcases hF with hF | hF
    · have := h1.bd k hF; omega
    · exact hF.2
  · rcases e with e | e
    · exact .inl (h3 k e)
    · exact .inr e
  · rcases e with e | e
    · exact h.lo k e
    · omega
  · rcases e with e | e
    · have := h.hi k e; omega
    · exact e.2
  · rcases e with e | ⟨e, cs, hc⟩
    · subst e; exact ⟨h2, t1.turn⟩
    · exact ⟨h3 k e, cs, _, hc, .inr (.inr (.inr rfl))⟩
theorem plisting_in (B : Nat) (G : Nat → Prop) (w : World) (x : Nat) (S : Rf.Se) (h : SeIn B G w x S) (hT : TabB B w) :
    Calls Tryz.prog 27 #[.pointer (some ⟨x, 0, none⟩)] w fun r w' => r = .returned (.string (listingP S.cls)) ∧ Below w.heap.size w w' := by
  obtain ⟨F, oq, nm, h1, h2, h3, h4, h5⟩ := h.ex
  obtain ⟨vC, vQ, t1, t2, t3⟩ := h1.ex
  exact plisting_any F w x _ vC vQ _ t1 t2 hT.tab
theorem new_ok {lim : Nat} (h : 1 ≤ lim) (h' : lim ≤ 1000) : Rf.SeOk ⟨lim, [], none⟩ := ⟨h, h', by simp, fun c hc => by simp at hc, fun q hq => by cases hq⟩
theorem pnew_in (B : Nat) (w : World) (lim : Nat) (h : 1 ≤ lim) (h' : lim ≤ 1000) (hB : B ≤ w.heap.size) :
    Calls Tryz.prog 24 #[.int .i64 lim] w fun r w' => r = .returned (.tuple #[.pointer (some ⟨w.heap.size, 0, none⟩), .int .i64 0]) ∧ SeIn B (fun k => w.heap.size ≤ k ∧ k < w'.heap.size) w' w.heap.size ⟨lim, [], none⟩ ∧ Below w.heap.size w w' := by
  refine (pnew_ok lim w (by omega) (by omega)).mono ?_
  rintro r w' ⟨e1, hb, hs, hP⟩
  refine ⟨e1, ⟨⟨fun _ => False, none, .pointer none, ⟨new_ok h h', ⟨_, _, hP, ⟨⟨[], ⟨RowIs.nil _ _ _ _ _, (fun k e => by cases e), (fun q hq => by simp at hq), fun _ => rfl⟩, rfl, by simp⟩, fun c hc => by simp at hc⟩, rfl⟩, fun e => e, fun k e => e.elim, fun k e => e.elim⟩, ⟨Nat.le_refl _, by omega⟩, fun k e => e.elim, fun k e => e.elim, fun g hg => (nmb_none hg).elim⟩, fun k e => by omega, fun k e => e.2⟩, hb⟩
/-- A reply in memory. -/
def RB (w : World) (L : Nat) (R : Rf.Rep) : Prop := w.heap[L]? = some (.cells #[.int .i64 R.kind, .string R.text, .int .i64 R.code, .int .i64 R.place] 33 (0, 0))
/-- Another session's call keeps it. -/
theorem SeDone.other {B : Nat} {G G2 : Nat → Prop} {w w' : World} {x y : Nat} {S T : Rf.Se} (h : SeDone B G w x S w') (h2 : SeIn B G2 w y T) (hG : ∀ k, G2 k → ¬ G k) : SeIn B G2 w' y T := h2.kept h.2 (fun _ e => e.2.mut) (fun k e e2 => hG k e e2.1)
theorem SeDone.rb {B : Nat} {G : Nat → Prop} {w w' : World} {x L : Nat} {S : Rf.Se} {cs : Array Value} (h : SeDone B G w x S w') (hL : w.heap[L]? = some (.cells cs 33 (0, 0))) : w'.heap[L]? = some (.cells cs 33 (0, 0)) :=
  (h.2.block L (blk_lt hL) (fun e => Turn.not hL (by decide) (by decide) (by decide) (by decide) e.2)).trans hL
theorem rb_set {w : World} {L : Nat} {R : Rf.Rep} (hL : RB w L R) (R' : Rf.Rep) : RB ((((w.setCell ⟨L, 0, none⟩ (.int .i64 R'.kind)).setCell ⟨L, 1, none⟩ (.string R'.text)).setCell ⟨L, 2, none⟩ (.int .i64 R'.code)).setCell ⟨L, 3, none⟩ (.int .i64 R'.place)) L R' :=
  blk_set (blk_set (blk_set (blk_set hL 0 _) 1 _) 2 _) 3 _
theorem SeIn.set {B : Nat} {G : Nat → Prop} {w : World} {x L : Nat} {S : Rf.Se} {cs : Array Value} (h : SeIn B G w x S) (hL : w.heap[L]? = some (.cells cs 33 (0, 0))) (hG : ¬ G L) (a b c d : Value) : SeIn B G ((((w.setCell ⟨L, 0, none⟩ a).setCell ⟨L, 1, none⟩ b).setCell ⟨L, 2, none⟩ c).setCell ⟨L, 3, none⟩ d) x S :=
  h.kept (kept4 w L a b c d) (fun k e => by subst e; exact ⟨cs, _, hL, by decide⟩) (fun k e e2 => hG (e2 ▸ e))
end Go.Proofs.YtpdikdnffehmkaaGreatDoor
/- The statements' small functions (promptkeep: pick, constant, told, only, high, facts). -/
namespace Go.Proofs.YtpdikdnffehmkaaGreatDoor
open Go.RowKit
set_option maxHeartbeats 400000 in
theorem kpick_any (c n : Int) (w : World) (h1 : -9223372036854775808 ≤ c) (h2 : c ≤ 9223372036854775807) (hn : 1 ≤ n) (hn2 : n ≤ 9223372036854775807) :
    Calls Tryz.prog 21 #[.int .i64 c, .int .i64 n] w fun r w' => r = .returned (.int .i64 (Rf.pickK c n)) ∧ w' = w := by
  have hn0 : (n == 0) = false := beq_eq_false_iff_ne.2 (by omega)
  have hnm : (n == -1) = false := beq_eq_false_iff_ne.2 (by omega)
  by_cases hc : c < 0
  · have hP : Hid ((Rf.pickK c n : Int) = -((c + 1).tmod n)) := by
      unfold Hid Rf.pickK
      have h4 := Int.tmod_nonneg (a := -(c + 1)) n (by omega)
      rw [if_pos hc, Int.toNat_of_nonneg h4, Int.neg_tmod]
    go_enter Tryz.func21, Tryz.ntmps21
    go_wp2
    go_ret
    exact ⟨ret_int hP.out.symm, rfl⟩
  · have hP : Hid ((Rf.pickK c n : Int) = c % n) := by
      unfold Hid Rf.pickK
      have h4 := Int.tmod_nonneg (a := c) n (by omega)
      rw [if_neg hc, Int.toNat_of_nonneg h4, Int.tmod_eq_emod_of_nonneg (by omega)]
    go_enter Tryz.func21, Tryz.ntmps21
    go_wp2
    go_ret
    exact ⟨ret_int hP.out.symm, rfl⟩
theorem itoa_size (v : Int) (h0 : -1000000000 ≤ v) (h1 : v ≤ 1000000000) : (Rf.itoaB v).size ≤ 21 ∧ (⟨(Lib.itoa v).toArray⟩ : ByteArray).size ≤ 21 ∧ (Lib.itoa v).length ≤ 21 := by
  have := Go.Lib.itoa_length_le v (by omega) (by omega)
  refine ⟨by unfold Rf.itoaB; simpa [ByteArray.size] using this, by simpa [ByteArray.size] using this, this⟩
set_option maxHeartbeats 400000 in
theorem kconst_any (x : Int) (w : World) (h1 : -9223372036854775808 ≤ x) (h2 : x ≤ 9223372036854775807) (hT : Tab w) :
    Calls Tryz.prog 33 #[.int .i64 x] w fun r w' => r = .returned (.string (Rf.constB x)) ∧ Below w.heap.size w w' := by
  have hp := Rf.pickK_lt (c := x) (n := 20) (by omega)
  obtain ⟨i1, i2, i3⟩ := itoa_size (Rf.pickK x 20) (by omega) (by omega)
  have i4 : ((Lib.itoa (Rf.pickK x 20)).length : Int) ≤ 21 := by omega
  have HT : Hid (Tab w) := hT
  have HC : Hid (Rf.constB x = ⟨#[99]⟩ ++ Rf.itoaB (Rf.pickK x 20)) := rfl
  clear hT
  go_enter Tryz.func33, Tryz.ntmps33
  go_wp2_with (first
    | (go_at_call 21; refine (kpick_any x 20 _ h1 h2 (by omega) (by omega)).mono ?_; rintro r w1 ⟨rfl, hw1⟩; subst w1)
    | (go_at_call 44; refine (Tryz.strconv_Itoa (Rf.pickK x 20) (by omega) (by omega) _ HT.out).mono ?_; rintro r w1 ⟨rfl, k, os, hw1⟩; have hb1 : Below w.heap.size w w1 := (by rw [hw1]; exact grow_below _ _ _); clear hw1))
  go_ret
  exact ⟨ret_str HC.out.symm, hb1⟩
set_option maxHeartbeats 400000 in
theorem ktold_any (t : ByteArray) (w : World) :
    Calls Tryz.prog 19 #[.agg #[.int .i64 1, .string t, .int .i64 0, .int .i64 0], .string t] w fun r w' => r = .returned (.bool true) ∧ Below w.heap.size w w' := by
  go_enter Tryz.func19, Tryz.ntmps19
  go_wp2
  go_ret
  exact ⟨rfl, (by repeat (first | exact Below.refl _ _ | refine Below.setCell ?_ (by simp <;> omega) _ | refine Below.drew ?_ | refine Below.drewN ?_ _ | refine Below.alloc ?_ (by simp <;> omega) _))⟩
set_option maxHeartbeats 400000 in
theorem konly_any (k : Int) (w : World) :
    Calls Tryz.prog 18 #[.agg #[.int .i64 k, .string ⟨#[]⟩, .int .i64 0, .int .i64 0], .int .i64 k] w fun r w' => r = .returned (.bool true) ∧ Below w.heap.size w w' := by
  go_enter Tryz.func18, Tryz.ntmps18
  go_wp2
  go_ret
  exact ⟨rfl, (by repeat (first | exact Below.refl _ _ | refine Below.setCell ?_ (by simp <;> omega) _ | refine Below.drew ?_ | refine Below.drewN ?_ _ | refine Below.alloc ?_ (by simp <;> omega) _))⟩
set_option maxHeartbeats 400000 in
theorem khigh_any (n : Nat) (w : World) (hn : n ≤ 1000) :
    Calls Tryz.prog 22 #[.int .i64 n] w fun r w' => r = .returned (.string (Rf.highB n)) ∧ w' = w := by
  go_enter Tryz.func22, Tryz.ntmps22
  go_wp2_with fail
  go_loopw [3, 4] (fun sv iv wr => ∃ k : Nat, k ≤ n ∧ iv = .int .i64 k ∧ sv = .string (Rf.highB k) ∧ wr = w) (fun _ iv _ => n - (intOf iv).toNat)
  case atStart => exact ⟨0, by omega, rfl, rfl, rfl⟩
  case round =>
    obtain ⟨k, hk, rfl, rfl, hw⟩ := hrel
    subst hw
    have hz := Rf.highB_size k
    have hz1 : (Rf.highB k).size ≤ 3001 := by omega
    have hz2 : ((⟨#[115, 40]⟩ ++ Rf.highB k : ByteArray)).size ≤ 3003 := by rw [ByteArray.size_append]; have : (⟨#[115, 40]⟩ : ByteArray).size = 2 := rfl; omega
    clear hz
    by_cases hlt : k < n
    · have hlt' : (k : Int) < n := by omega
      go_wp2_with fail
      go_roundw
      case rel => exact ⟨k + 1, by omega, by go_num, rfl, by trivial⟩
      case measure => simp [intOf]; omega
    · obtain rfl : k = n := by omega
      go_wp2_with fail
      go_ret
      exact ⟨rfl, rfl⟩
end Go.Proofs.YtpdikdnffehmkaaGreatDoor
/- The statements' small functions (promptkeep: facts, same, lines). -/
namespace Go.Proofs.YtpdikdnffehmkaaGreatDoor
open Go.RowKit
theorem Seen.strAt {w : World} {g off n c : Nat} {xs : List ByteArray} (h : Seen w 9 strCells (.slice (some ⟨g, off, none⟩) n c) xs) (k : Nat) (x : ByteArray) (hx : xs[k]? = some x) : w.cell? ⟨g, off + k, none⟩ = some (.string x) := by
  have := h.cells strCells_len k x hx 0 _ rfl
  rw [Nat.mul_one, Nat.add_zero] at this
  exact this
/-- A row of numbers in memory, as a statement gets it. -/
def IntsAt (w : World) (v : Value) (l : List Int) : Prop :=
  (l = [] ∧ ∃ a c, v = .slice a 0 c) ∨
  ∃ sb so c, v = .slice (some ⟨sb, so, none⟩) l.length c ∧ sb < w.heap.size ∧ ∀ i x, l[i]? = some x → w.cell? ⟨sb, so + i, none⟩ = some (.int .i64 x)
theorem cell_below {w w' : World} (hb : Below w.heap.size w w') {g i : Nat} (hg : g < w.heap.size) : w'.cell? ⟨g, i, none⟩ = w.cell? ⟨g, i, none⟩ := by
  simp only [World.cell?, hb.block g hg]
theorem IntsAt.below {w w' : World} {v : Value} {l : List Int} (h : IntsAt w v l) (hb : Below w.heap.size w w') : IntsAt w' v l := by
  rcases h with h | ⟨sb, so, c, h1, h2, h3⟩
  · exact .inl h
  · exact .inr ⟨sb, so, c, h1, Nat.lt_of_lt_of_le h2 hb.size, fun i x hx => (cell_below hb h2).trans (h3 i x hx)⟩
theorem IntsAt.len {w : World} {a : Option Addr} {n c : Nat} {l : List Int} (h : IntsAt w (.slice a n c) l) : n = l.length := by
  rcases h with ⟨rfl, _, _, h1⟩ | ⟨sb, so, c, h1, _⟩
  · injection h1
  · injection h1
theorem IntsAt.slice {w : World} {v : Value} {l : List Int} (h : IntsAt w v l) : ∃ a c, v = .slice a l.length c := by
  rcases h with ⟨rfl, a, c, h1⟩ | ⟨sb, so, c, h1, _⟩
  · exact ⟨a, c, h1⟩
  · exact ⟨_, _, h1⟩
theorem IntsAt.pos {w : World} {a : Option Addr} {n c : Nat} {l : List Int} (h : IntsAt w (.slice a n c) l) (hp : 1 ≤ l.length) : ∃ g off, a = some ⟨g, off, none⟩ := by
  rcases h with ⟨rfl, _⟩ | ⟨sb, so, c, h1, _⟩
  · simp at hp
  · injection h1 with h1; exact ⟨sb, so, h1⟩
theorem IntsAt.at {w : World} {g off n c : Nat} {l : List Int} (h : IntsAt w (.slice (some ⟨g, off, none⟩) n c) l) (hp : 1 ≤ l.length) : g < w.heap.size ∧ ∀ i x, l[i]? = some x → w.cell? ⟨g, off + i, none⟩ = some (.int .i64 x) := by
  rcases h with ⟨rfl, _⟩ | ⟨sb, so, c, h1, h2, h3⟩
  · simp at hp
  · injection h1 with h1 _ _; injection h1 with h1; injection h1 with h1 h4; subst h1 h4; exact ⟨h2, h3⟩
set_option maxHeartbeats 1000000 in
set_option maxRecDepth 100000 in
theorem kfacts_any (nm : ByteArray) (a : Option Addr) (n c : Nat) (xs : List Int) (most : Nat) (w : World) (h : IntsAt w (.slice a n c) xs) (hml : xs.length ≤ 9223372036854775807) (hx : ∀ x ∈ xs, -9223372036854775808 ≤ x ∧ x ≤ 9223372036854775807) (hnm : nm.size ≤ 1) (hm : most ≤ 30) (hT : Tab w) :
    Calls Tryz.prog 15 #[.string nm, .slice a n c, .int .i64 most] w fun r w' => ∃ a2 c2, r = .returned (.tuple #[.string (Rf.factsB nm (xs.take most)), .slice a2 (xs.take most).length c2]) ∧ Seen w' 9 strCells (.slice a2 (xs.take most).length c2) ((xs.take most).map Rf.constB) ∧ Below w.heap.size w w' := by
  obtain rfl : n = xs.length := h.len
  have HH : Hid (IntsAt w (.slice a xs.length c) xs) := h
  have HX : Hid _ := hx
  have HT : Hid (Tab w) := hT
  clear h hx hT
  go_enter Tryz.func15, Tryz.ntmps15
  go_wp2_with fail
  go_loopw [8, 9, 10] (fun sv nv iv wr => ∃ k : Nat, k ≤ xs.length ∧ k ≤ most ∧ iv = .int .i64 k ∧ sv = .string (Rf.factsB nm (xs.take k)) ∧ RowIs wr w.heap.size 9 1 strCells nv ((xs.take k).map Rf.constB) ∧ Below w.heap.size w wr) (fun _ _ iv _ => most - (intOf iv).toNat)
  case atStart => exact ⟨0, by omega, by omega, rfl, rfl, RowIs.nil _ _ _ _ _, Below.refl _ _⟩
  case round =>
    obtain ⟨k, hk, hk2, rfl, rfl, hrow, hbr⟩ := hrel
    have hsz := hbr.size
    obtain ⟨a4, c4, hv4⟩ := row_slice hrow
    have hlk : ((xs.take k).map Rf.constB).length = k := by rw [List.length_map, List.length_take]; omega
    rw [hlk] at hv4
    subst hv4
    have Hlk : Hid _ := hlk
    clear hlk
    have hfs := Rf.factsB_size nm hnm (xs.take k)
    have hfs1 : (Rf.factsB nm (xs.take k)).size ≤ 1200 := by
      have : (xs.take k).length ≤ 30 := by rw [List.length_take]; omega
      omega
    clear hfs
    by_cases hlt : k < xs.length
    · by_cases hltm : k < most
      · obtain ⟨g, off, rfl⟩ := IntsAt.pos HH.out (by omega)
        have hgl := (IntsAt.at HH.out (by omega)).1
        have hcell := (IntsAt.at (IntsAt.below HH.out hbr) (by omega)).2 k xs[k] (by simp [hlt])
        have hxr := HX.out _ (List.getElem_mem hlt)
        have htk : xs.take (k + 1) = xs.take k ++ [xs[k]] := List.take_succ_eq_append_getElem hlt
        have Htk : Hid _ := htk
        clear htk
        generalize xs[k] = x at *
        have hcs := Rf.constB_size x
        have hgl' : g < wr.heap.size := by omega
        have hlt' : (k : Int) < xs.length := by omega
        have hltm' : (k : Int) < most := by omega
        have z1 : (Rf.factsB nm (xs.take k) ++ nm).size ≤ 1212 := by rw [ByteArray.size_append]; omega
        have z2 : (Rf.factsB nm (xs.take k) ++ nm ++ ⟨#[40]⟩).size ≤ 1213 := by rw [ByteArray.size_append]; have : (⟨#[40]⟩ : ByteArray).size = 1 := rfl; omega
        have z3 : (Rf.factsB nm (xs.take k) ++ nm ++ ⟨#[40]⟩ ++ Rf.constB x).size ≤ 1235 := by rw [ByteArray.size_append]; omega
        go_wp2_with (first
          | (go_at_call 33; refine (kconst_any x _ hxr.1 hxr.2 (Tab.below HT.out hbr)).mono ?_; rintro r w2 ⟨rfl, hb2⟩; have hbw2 : Below w.heap.size w w2 := hbr.trans (hb2.mono hsz); have hsw2 := hbw2.size; have hrow2 := hrow.below hb2)
          | (at_builtin; refine wpList_app Tryz.elemStr strCells strCells_len strCells_one _ rfl (.tmp 35) (.tmp 37) rfl w.heap.size (.slice a4 k c4) _ rfl (hrow2.alloc _) ⟨_, 0, none⟩ 1 (Rf.constB x) rfl (cell_one_at _ _ rfl _ _) (by rw [Hlk.out]; omega) (by rw [World.size_alloc]; omega) ?_; intro gA capA w3 hrow3 hgr3 hnb3; rw [Hlk.out] at hrow3))
        go_roundw
        case rel =>
          refine ⟨k + 1, by omega, by omega, by go_num, ?_, ?_, (hbw2.alloc hsw2 _).grown hgr3 (by rw [World.size_alloc]; omega) (fun j e => (hrow.lt j e).1)⟩
          · rw [Htk.out, Rf.factsB_snoc]
            unfold Rf.factB Rf.factT
            rw [Rf.factsB_step]
          · rw [Htk.out, List.map_append]; exact hrow3
        case measure => simp [intOf]; omega
      · obtain rfl : k = most := by omega
        have hd : decide ((k : Int) < (k : Int)) = false := decide_eq_false (by omega)
        have hlt' : (k : Int) < xs.length := by omega
        go_wp2_with fail
        go_ret2
        have hlm : (xs.take k).length = k := by rw [List.length_take]; omega
        rw [hlm]
        exact ⟨a4, c4, rfl, hrow.seen, hbr⟩
    · obtain rfl : k = xs.length := by omega
      have hd : decide ((xs.length : Int) < (xs.length : Int)) = false := decide_eq_false (by omega)
      go_wp2_with fail
      go_ret2
      have e1 : xs.take xs.length = xs := List.take_length
      have e2 : xs.take most = xs := List.take_of_length_le (by omega)
      rw [e1] at hrow ⊢
      rw [e2]
      exact ⟨a4, c4, rfl, hrow.seen, hbr⟩
end Go.Proofs.YtpdikdnffehmkaaGreatDoor
/- The statements' begun: a session with clauses. -/
namespace Go.Proofs.YtpdikdnffehmkaaGreatDoor
open Go.RowKit
set_option maxHeartbeats 1000000 in
theorem kbegun_any (B lim : Nat) (s : ByteArray) (new : List Rf.Cl) (w : World) (h1 : 1 ≤ lim) (h2 : lim ≤ 1000) (hm : s.size ≤ maxLen) (hr : Rf.readS s = .ok new) (h30 : new.length ≤ 30) (hB : B ≤ w.heap.size) :
    Calls Tryz.prog 16 #[.int .i64 lim, .string s] w fun r w' => ∃ x, r = .returned (.pointer (some ⟨x, 0, none⟩)) ∧ SeIn B (fun k => w.heap.size ≤ k ∧ k < w'.heap.size) w' x ⟨lim, new, none⟩ ∧ Below w.heap.size w w' := by
  have HC : Hid _ := Rf.consult_new (lim := lim) hr h30
  clear hr
  go_enter Tryz.func16, Tryz.ntmps16
  go_wp2_with (first
    | (go_at_call 25; refine (pconsult_in B _ w1 _ _ s hm hS1 (Nat.le_trans hB hb1.size)).mono ?_; rintro r w2 ⟨hr2, hD2⟩; rw [HC.out] at hr2 hD2; subst hr2)
    | (go_at_call 24; refine (pnew_in B w lim h1 h2 hB).mono ?_; rintro r w1 ⟨rfl, hS1, hb1⟩))
  go_ret
  have hz := hb1.size
  have hz2 := hD2.size
  refine ⟨w.heap.size, rfl, hD2.1.mono (fun k e => ?_) (fun k e => by omega) (fun k e => e.2), hb1.trans (hD2.2.below hz (fun k hk e => by omega))⟩
  rcases e with e | e
  · omega
  · omega
end Go.Proofs.YtpdikdnffehmkaaGreatDoor
