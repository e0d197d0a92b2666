
import Derived.Test.YtbiojnljihgpoaaGreatDoorZbi
import Derived.Test.YtbiojnljihgpoaaGreatDoorZah
import Derived.Test.YtbiojnljihgpoaaGreatDoorZbh
namespace Go.Proofs.YtbiojnljihgpoaaGreatDoor
open Go.RowKit
variable {nm : Value}
def Turn (w : World) (k : Nat) : Prop := ∃ cs t, w.heap[k]? = some (.cells cs t (0, 0)) /\ (t = 54 \/ t = 76 \/ t = 79 \/ t = 59)
def Mut (w : World) (k : Nat) : Prop := ∃ cs t, w.heap[k]? = some (.cells cs t (0, 0)) /\ t ≠ 101 /\ t ≠ 56 /\ t ≠ 3
theorem Mut.not {w : World} {k : Nat} {cs : Array Value} {t : TypeId} (h : w.heap[k]? = some (.cells cs t (0, 0))) (ht : t = 101 \/ t = 56 \/ t = 3) : ¬ Mut w k := by
 rintro ⟨cs', t', hc, h1, h2, h3⟩
 rw [h] at hc
 injection hc with h5; injection h5 with _ h6
 subst h6
 rcases ht with e | e | e
 ·exact h1 e
 ·exact h2 e
 ·exact h3 e
theorem Turn.not {w : World} {k : Nat} {cs : Array Value} {t : TypeId} (h : w.heap[k]? = some (.cells cs t (0, 0))) (h1 : t ≠ 54) (h2 : t ≠ 76) (h3 : t ≠ 79) (h4 : t ≠ 59) : ¬ Turn w k := by
 rintro ⟨cs', t', hc, ht⟩
 rw [h] at hc
 injection hc with h5; injection h5 with _ h6
 subst h6
 rcases ht with e | e | e | e
 ·exact h1 e
 ·exact h2 e
 ·exact h3 e
 ·exact h4 e
structure SeIn (B : Nat) (G : Nat -> Prop) (w : World) (x : Nat) (S : Rf.Se) : Prop where
 ex : ∃ F oq nm, SeAt F w x oq nm S /\ G x /\ (∀ k, F k -> G k) /\ (∀ k, MayO oq k -> G k) /\ (∀ g, NmB nm g -> G g)
 lo : ∀ k, G k -> B <= k
 hi : ∀ k, G k -> k < w.heap.size
def Grow (G : Nat -> Prop) (w w' : World) (k : Nat) : Prop := G k \/ (w.heap.size <= k /\ k < w'.heap.size)
def SeDone (B : Nat) (G : Nat -> Prop) (w : World) (x : Nat) (S : Rf.Se) (w' : World) : Prop :=
 SeIn B (Grow G w w') w' x S /\ Kept (fun k => G k /\ Turn w k) w w'
theorem SeIn.ok {B : Nat} {G : Nat -> Prop} {w : World} {x : Nat} {S : Rf.Se} (h : SeIn B G w x S) : Rf.SeOk S := by
 obtain ⟨_, _, _, h1, _⟩ := h.ex
 exact h1.ok
theorem SeIn.x {B : Nat} {G : Nat -> Prop} {w : World} {x : Nat} {S : Rf.Se} (h : SeIn B G w x S) : G x := by
 obtain ⟨_, _, _, _, h2, _⟩ := h.ex
 exact h2
theorem SeIn.mono {B : Nat} {G G' : Nat -> Prop} {w : World} {x : Nat} {S : Rf.Se} (h : SeIn B G w x S) (hG : ∀ k, G k -> G' k) (hl : ∀ k, G' k -> B <= k) (hh : ∀ k, G' k -> k < w.heap.size) : SeIn B G' w x S := by
 obtain ⟨F, oq, nm, h1, h2, h3, h4, h5⟩ := h.ex
 exact ⟨⟨F, oq, nm, h1, hG _ h2, fun k e => hG k (h3 k e), fun k e => hG k (h4 k e), fun g e => hG g (h5 g e)⟩, hl, hh⟩
theorem SeIn.lower {B B' : Nat} {G : Nat -> Prop} {w : World} {x : Nat} {S : Rf.Se} (h : SeIn B G w x S) (hB : B' <= B) : SeIn B' G w x S := ⟨h.ex, fun k e => Nat.le_trans hB (h.lo k e), h.hi⟩
theorem QuAt.turn {w : World} {vQ : Value} {oq : Option (Nat × Option Nat)} {Q : Option Rf.Qs} (h : QuAt nm w vQ oq Q) : ∀ k, MayO oq k -> Turn w k := by
 intro k hk
 cases oq with
 | none => exact hk.elim
 | some p =>
  obtain ⟨q, rb⟩ := p
  cases Q with
  | none => exact h.elim
  | some Q =>
   obtain ⟨_, hQ⟩ := h
   obtain ⟨_, _, _, _, hi⟩ := hQ.ex
   rcases hk with e | e
   ·subst e; exact ⟨_, _, hi.b, .inr (.inl rfl)⟩
   ·obtain ⟨acc, hr, _⟩ := hi.r.ex
    obtain ⟨cs, hc⟩ := hr.typed k (hi.o.trans e.symm)
    exact ⟨cs, _, hc, .inr (.inr (.inl rfl))⟩
theorem PsB.turn {w : World} {x : Nat} {lim : Int} {vC vQ : Value} (h : PsB w x lim vC vQ) : Turn w x := ⟨_, _, h, .inl rfl⟩
theorem seen_block {α : Type} {w w' : World} {M : Nat -> Prop} {e : TypeId} {C : α -> List Value} {v : Value} {xs : List α} (h : Seen w e C v xs) (hk : Kept M w w') (hn : ∀ g, NmB v g -> ¬ M g) : Seen w' e C v xs := by
 rcases h.ex with h | ⟨g, off, cap, cur, h1, h2, h3⟩
 ·exact ⟨.inl h⟩
 ·exact ⟨.inr ⟨g, off, cap, cur, h1, (hk.block g (blk_lt h2) (hn g ⟨off, _, _, h1⟩)).trans h2, h3⟩⟩
theorem seen_nmb {α : Type} {w : World} {e : TypeId} {C : α -> List Value} {v : Value} {xs : List α} (h : Seen w e C v xs) {g : Nat} (hg : NmB v g) : g < w.heap.size := by
 obtain ⟨off, n, c, rfl⟩ := hg
 exact h.lt
theorem QAt.keptG {w w' : World} {M : Nat -> Prop} {q : Nat} {rb : Option Nat} {names : List ByteArray} {cf : Rf.Cf} (h : QAt nm w q rb names cf) (hk : Kept M w w') (hM : ∀ k, M k -> Mut w k) (hq : ∀ k, May q rb k -> ¬ M k) (hn : ∀ g, NmB nm g -> ¬ M g) : QAt nm w' q rb names cf := by
 obtain ⟨vg, vt, fr, vC, hi⟩ := h.ex
 have kp : ∀ k cs, w.heap[k]? = some (.cells cs 101 (0, 0)) -> ¬ M k := fun k cs hc hm => Mut.not hc (.inl rfl) (hM k hm)
 have kt : ∀ k cs, w.heap[k]? = some (.cells cs 56 (0, 0)) -> ¬ M k := fun k cs hc hm => Mut.not hc (.inr (.inl rfl)) (hM k hm)
 have ki : ∀ k cs, w.heap[k]? = some (.cells cs 3 (0, 0)) -> ¬ M k := fun k cs hc hm => Mut.not hc (.inr (.inr rfl)) (hM k hm)
 have hst : ∀ {vg vt : Value} {fr : Int} {S : Rf.St}, StIs w vg vt fr S -> StIs w' vg vt fr S := fun h => ⟨h.g.keptM hk kp kt, h.t.keptM hk kp kt, h.f⟩
 obtain ⟨acc, h1, h2, h3⟩ := hi.r.ex
 exact ⟨vg, vt, fr, vC, (hk.block q (blk_lt hi.b) (hq q (.inl rfl))).trans hi.b, seen_block hi.n hk hn, hst hi.s, ⟨acc, h1.keptBy hk (fun k e => hq k (.inr (hi.o.symm.trans e).symm)), fun x hx => ⟨hst (h2 x hx).st, Seen.kept (h2 x hx).cl hk ki⟩, h3⟩, hi.o⟩
theorem SeIn.kept {B : Nat} {G M : Nat -> Prop} {w w' : World} {x : Nat} {S : Rf.Se} (h : SeIn B G w x S) (hk : Kept M w w') (hM : ∀ k, M k -> Mut w k) (hG : ∀ k, G k -> ¬ M k) : SeIn B G w' x S := by
 obtain ⟨F, oq, nm, h1, h2, h3, h4, h5⟩ := h.ex
 obtain ⟨vC, vQ, e1, e2, e3⟩ := h1.ex
 refine ⟨⟨F, oq, nm, ⟨h1.ok, ⟨vC, vQ, (hk.block x (blk_lt e1) (hG x h2)).trans e1, e2.kept hk (fun k _ hF => hG k (h3 k hF)), ?_⟩, h1.apart, fun k hF => Nat.lt_of_lt_of_le (h1.bd k hF) hk.size, h1.sep⟩, h2, h3, h4, h5⟩, h.lo, fun k e => Nat.lt_of_lt_of_le (h.hi k e) hk.size⟩
 cases oq with
 | none =>
  cases hQ : S.q with
  | none => rw [hQ] at e3; exact e3
  | some Q => rw [hQ] at e3; exact e3.elim
 | some p =>
  obtain ⟨q, rb⟩ := p
  cases hQ : S.q with
  | none => rw [hQ] at e3; exact e3.elim
  | some Q =>
   rw [hQ] at e3
   exact ⟨e3.1, e3.2.keptG hk hM (fun k hm => hG k (h4 k hm)) (fun g hg => hG g (h5 g hg))⟩
theorem SeIn.below {B : Nat} {G : Nat -> Prop} {w w' : World} {x : Nat} {S : Rf.Se} (h : SeIn B G w x S) (hb : Below w.heap.size w w') : SeIn B G w' x S := h.kept (Kept.of_below hb (fun _ => False)) (fun _ e => e.elim) (fun _ _ e => e)
theorem SeDone.tab {B : Nat} {G : Nat -> Prop} {w w' : World} {x : Nat} {S : Rf.Se} (h : SeDone B G w x S w') (hB : B <= w.heap.size) (hT : TabB B w) : TabB B w' :=
 hT.on (h.2.below hB (fun k hk e => by have := h.1.lo k (.inl e.1); omega))
theorem SeDone.size {B : Nat} {G : Nat -> Prop} {w w' : World} {x : Nat} {S : Rf.Se} (h : SeDone B G w x S w') : w.heap.size <= w'.heap.size := h.2.size
theorem SeDone.below {B : Nat} {G : Nat -> Prop} {w w' : World} {x : Nat} {S : Rf.Se} (h : SeDone B G w x S w') (hB : B <= w.heap.size) : Below B w w' :=
 h.2.below hB (fun k hk e => by have := h.1.lo k (.inl e.1); omega)
theorem QuAt.any {nm' : Value} {w : World} {vQ : Value} {Q : Option Rf.Qs} (h : QuAt nm w vQ none Q) : QuAt nm' w vQ none Q := by
 cases Q with
 | none => exact h
 | some _ => exact h.elim
theorem SeAt.any {nm' : Value} {F : Nat -> Prop} {w : World} {x : Nat} {S : Rf.Se} (h : SeAt F w x none nm S) : SeAt F w x none nm' S := by
 obtain ⟨vC, vQ, t1, t2, t3⟩ := h.ex
 exact ⟨h.ok, ⟨vC, vQ, t1, t2, t3.any⟩, h.apart, h.bd, h.sep⟩
theorem SeAt.nmlt {F : Nat -> Prop} {w : World} {x : Nat} {p : Nat × Option Nat} {S : Rf.Se} (h : SeAt F w x (some p) nm S) {g : Nat} (hg : NmB nm g) : g < w.heap.size := by
 obtain ⟨vC, vQ, t1, t2, t3⟩ := h.ex
 obtain ⟨q, rb⟩ := p
 cases hQ : S.q with
 | none => rw [hQ] at t3; exact t3.elim
 | some Q =>
  rw [hQ] at t3
  obtain ⟨_, _, _, _, hi⟩ := t3.2.ex
  exact seen_nmb hi.n hg
theorem SePost.done {B : Nat} {G F : Nat -> Prop} {w w' : World} {x : Nat} {oq : Option (Nat × Option Nat)} {S : Rf.Se} {P : Rf.Rep × Rf.Se} {r : Ending} (h : SePost F w x oq nm P r w') (h1 : SeAt F w x oq nm S) (hS : SeIn B G w x S) (h3 : ∀ k, F k -> G k) (h4 : ∀ k, MayO oq k -> G k) (h5 : ∀ g, NmB nm g -> G g) (hB : B <= w.heap.size) : r = .returned (repV P.1) /\ SeDone B G w x P.2 w' := by
 obtain ⟨e1, ⟨oq', nm', e2, e3, e5⟩, e4⟩ := h
 obtain ⟨_, _, t1, _, t3⟩ := h1.ex
 have hsz := e4.size
 have hin : ∃ F oq nm, SeAt F w' x oq nm P.2 /\ Grow G w w' x /\ (∀ k, F k -> Grow G w w' k) /\ (∀ k, MayO oq k -> Grow G w w' k) /\ (∀ g, NmB nm g -> Grow G w w' g) := by
  cases oq' with
  | none => exact ⟨F, none, .pointer none, e2.any, .inl hS.x, fun k hF => .inl (h3 k hF), fun k hm => hm.elim, fun g hg => (nmb_none hg).elim⟩
  | some p =>
   refine ⟨F, some p, nm', e2, .inl hS.x, fun k hF => .inl (h3 k hF), fun k hm => ?_, fun g hg => ?_⟩
   ·rcases e3 k hm with e | e
    ·exact .inl (h4 k e)
    ·obtain ⟨_, _, _, _, u3⟩ := e2.ex
     obtain ⟨cs, t, hc, _⟩ := u3.turn k hm
     exact .inr ⟨e, blk_lt hc⟩
   ·rcases e5 g hg with e | e
    ·exact .inl (h5 g e)
    ·exact .inr ⟨e, e2.nmlt hg⟩
 refine ⟨e1, ⟨hin, fun k hk => ?_, fun k hk => ?_⟩, e4.mono (fun k _ e => ?_)⟩
 ·rcases hk with hk | hk
  ·exact hS.lo k hk
  ·omega
 ·rcases hk with hk | hk
  ·have := hS.hi k hk; omega
  ·exact hk.2
 ·rcases e with e | e
  ·subst e; exact ⟨hS.x, t1.turn⟩
  ·exact ⟨h4 k e, t3.turn k e⟩
theorem pmore_in (B : Nat) (G : Nat -> Prop) (w : World) (x : Nat) (S : Rf.Se) (h : SeIn B G w x S) (hB : B <= w.heap.size) (hT : TabB B w) :
  Calls Tryz.prog 16 #[.pointer (some ⟨x, 0, none⟩)] w fun r w' => r = .returned (repV (Rf.moreS S).1) /\ SeDone B G w x (Rf.moreS S).2 w' := by
 obtain ⟨F, oq, nm, h1, h2, h3, h4, h5⟩ := h.ex
 cases hQ : S.q with
 | none =>
  have e : Rf.moreS S = (Rf.repK 3, S) := by unfold Rf.moreS; rw [hQ]
  rw [e]
  refine (pmore_none F w x oq S hQ h1).mono ?_
  rintro r w' ⟨e1, hb⟩
  have hsz := hb.size
  refine ⟨e1, (h.below hb).mono (fun k e => .inl e) (fun k e => ?_) (fun k e => ?_), Kept.of_below hb _⟩
  ·rcases e with e | e
   ·exact h.lo k e
   ·omega
  ·rcases e with e | e
   ·have := h.hi k e; omega
   ·exact e.2
 | some Q =>
  have e : Rf.moreS S = Rf.replyS S Q.names (Rf.playN S.cls S.lim (-1, ⟨Rf.stNone, Q.chs⟩)) := by unfold Rf.moreS; rw [hQ]; rfl
  rw [e]
  cases oq with
  | none =>
   obtain ⟨_, _, _, _, t3⟩ := h1.ex
   rw [hQ] at t3
   exact t3.elim
  | some p =>
   obtain ⟨q, rb⟩ := p
   refine (pmore_some F w B x q rb S Q hQ h1 hB (h.lo q (h4 q (.inl rfl))) (fun k e => h.lo k (h4 k (.inr e.symm))) hT).mono ?_
   exact fun r w' hp => hp.done h1 h h3 h4 h5 hB
theorem pask_in (B : Nat) (G : Nat -> Prop) (w : World) (x : Nat) (S : Rf.Se) (s : ByteArray) (hm : s.size <= maxLen) (h : SeIn B G w x S) (hB : B <= w.heap.size) (hT : TabB B w) :
  Calls Tryz.prog 15 #[.pointer (some ⟨x, 0, none⟩), .string s] w fun r w' => r = .returned (repV (Rf.askS S s).1) /\ SeDone B G w x (Rf.askS S s).2 w' := by
 obtain ⟨F, oq, nm, h1, h2, h3, h4, h5⟩ := h.ex
 cases hr : Rf.questS s with
 | error e =>
  have e0 : Rf.askS S s = (⟨4, ⟨#[]⟩, e.1, e.2⟩, ⟨S.lim, S.cls, none⟩) := by unfold Rf.askS; rw [hr]
  rw [e0]
  exact (pask_bad F w x oq S s hm h1 e.1 e.2 hr).mono (fun r w' hp => hp.done h1 h h3 h4 h5 hB)
 | ok y =>
  obtain ⟨gs, ns⟩ := y
  have e0 : Rf.askS S s = Rf.replyS S (Rf.beginN ns) (Rf.firstR S.cls S.lim (Rf.beginC gs ns)) := by unfold Rf.askS; rw [hr]; rfl
  rw [e0]
  exact (pask_go F w B x oq S s hm h1 hB (h.lo x h2) hT gs ns hr (Rf.questS_nz hr)).mono (fun r w' hp => hp.done h1 h h3 h4 h5 hB)
theorem pstop_in (B : Nat) (G : Nat -> Prop) (w : World) (x : Nat) (S : Rf.Se) (h : SeIn B G w x S) :
  Calls Tryz.prog 29 #[.pointer (some ⟨x, 0, none⟩)] w fun r w' => r = .returned (.tuple #[]) /\ SeDone B G w x (Rf.stopS S) w' := by
 obtain ⟨F, oq, nm, h1, h2, h3, h4, h5⟩ := h.ex
 obtain ⟨vC, vQ, t1, t2, t3⟩ := h1.ex
 refine (pstop_any x w ⟨_, _, _, t1⟩).mono ?_
 rintro r w' ⟨e1, rfl⟩
 have hk : Kept (fun k => k = x) w (w.setCell ⟨x, 2, none⟩ (.pointer none)) := Kept.setCell (p := ⟨x, 2, none⟩) (Kept.refl (fun k => k = x) w) (Or.inr rfl) _
 have hsz := hk.size
 refine ⟨e1, ⟨⟨F, none, .pointer none, ⟨Rf.stop_ok h1.ok, ⟨vC, _, blk_set t1 2 _, t2.kept hk (fun k _ hF e => h1.apart (e ▸ hF)), rfl⟩, h1.apart, fun k hF => Nat.lt_of_lt_of_le (h1.bd k hF) hsz, fun k e => e.elim⟩, .inl h2, fun k e => .inl (h3 k e), fun k e => e.elim, fun g hg => (nmb_none hg).elim⟩, fun k e => ?_, fun k e => ?_⟩, hk.mono (fun k _ e => by subst e; exact ⟨h2, t1.turn⟩)⟩
 ·rcases e with e | e
  ·exact h.lo k e
  ·have : (w.setCell ⟨x, 2, none⟩ (.pointer none)).heap.size = w.heap.size := by simp
   omega
 ·rcases e with e | e
  ·have := h.hi k e; omega
  ·exact e.2
theorem pconsult_in (B : Nat) (G : Nat -> Prop) (w : World) (x : Nat) (S : Rf.Se) (s : ByteArray) (hm : s.size <= maxLen) (h : SeIn B G w x S) (hB : B <= w.heap.size) :
  Calls Tryz.prog 28 #[.pointer (some ⟨x, 0, none⟩), .string s] w fun r w' => r = .returned (.tuple #[.int .i64 (Rf.consultS S s).1.1, .int .i64 (Rf.consultS S s).1.2]) /\ SeDone B G w x (Rf.consultS S s).2 w' := by
 obtain ⟨F, oq, nm, h1, h2, h3, h4, h5⟩ := h.ex
 obtain ⟨vC, vQ, t1, t2, t3⟩ := h1.ex
 refine (pconsult_L F w x S.lim vQ S.cls s ⟨⟨vC, t1, t2⟩, h1.apart⟩ hm (good_read s)).mono ?_
 rintro r w' ⟨e1, hk, e3⟩
 have hsz := hk.size
 obtain ⟨vC', u1, u2⟩ := e3.ex
 refine ⟨e1, ⟨⟨_, none, .pointer none, ⟨Rf.consult_ok h1.ok s, ⟨vC', _, u1, u2, rfl⟩, e3.apart, fun k hF => ?_, fun k e => e.elim⟩, .inl h2, fun k e => ?_, fun k e => e.elim, fun g hg => (nmb_none hg).elim⟩, fun k e => ?_, fun k e => ?_⟩, hk.mono (fun k _ e => ?_)⟩
 ·rcases hF with hF | hF
  ·have := h1.bd k hF; omega
  ·exact hF.2
 ·rcases e with e | e
  ·exact .inl (h3 k e)
  ·exact .inr e
 ·rcases e with e | e
  ·exact h.lo k e
  ·omega
 ·rcases e with e | e
  ·have := h.hi k e; omega
  ·exact e.2
 ·rcases e with e | ⟨e, cs, hc⟩
  ·subst e; exact ⟨h2, t1.turn⟩
  ·exact ⟨h3 k e, cs, _, hc, .inr (.inr (.inr rfl))⟩
theorem plisting_in (B : Nat) (G : Nat -> Prop) (w : World) (x : Nat) (S : Rf.Se) (h : SeIn B G w x S) (hT : TabB B w) :
  Calls Tryz.prog 17 #[.pointer (some ⟨x, 0, none⟩)] w fun r w' => r = .returned (.string (listingP S.cls)) /\ Below w.heap.size w w' := by
 obtain ⟨F, oq, nm, h1, h2, h3, h4, h5⟩ := h.ex
 obtain ⟨vC, vQ, t1, t2, t3⟩ := h1.ex
 exact plisting_any F w x _ vC vQ _ t1 t2 hT.tab
theorem new_ok {lim : Nat} (h : 1 <= lim) (h' : lim <= 1000) : Rf.SeOk ⟨lim, [], none⟩ := ⟨h, h', by simp, fun c hc => by simp at hc, fun q hq => by cases hq⟩
theorem pnew_in (B : Nat) (w : World) (lim : Nat) (h : 1 <= lim) (h' : lim <= 1000) (hB : B <= w.heap.size) :
  Calls Tryz.prog 20 #[.int .i64 lim] w fun r w' => r = .returned (.tuple #[.pointer (some ⟨w.heap.size, 0, none⟩), .int .i64 0]) /\ SeIn B (fun k => w.heap.size <= k /\ k < w'.heap.size) w' w.heap.size ⟨lim, [], none⟩ /\ Below w.heap.size w w' := by
 refine (pnew_ok lim w (by omega) (by omega)).mono ?_
 rintro r w' ⟨e1, hb, hs, hP⟩
 refine ⟨e1, ⟨⟨fun _ => False, none, .pointer none, ⟨new_ok h h', ⟨_, _, hP, ⟨⟨[], ⟨RowIs.nil _ _ _ _ _, (fun k e => by cases e), (fun q hq => by simp at hq), fun _ => rfl⟩, rfl, by simp⟩, fun c hc => by simp at hc⟩, rfl⟩, fun e => e, fun k e => e.elim, fun k e => e.elim⟩, ⟨Nat.le_refl _, by omega⟩, fun k e => e.elim, fun k e => e.elim, fun g hg => (nmb_none hg).elim⟩, fun k e => by omega, fun k e => e.2⟩, hb⟩
theorem SeDone.rb {B : Nat} {G : Nat -> Prop} {w w' : World} {x L : Nat} {S : Rf.Se} {cs : Array Value} (h : SeDone B G w x S w') (hL : w.heap[L]? = some (.cells cs 39 (0, 0))) : w'.heap[L]? = some (.cells cs 39 (0, 0)) :=
 (h.2.block L (blk_lt hL) (fun e => Turn.not hL (by decide) (by decide) (by decide) (by decide) e.2)).trans hL
end Go.Proofs.YtbiojnljihgpoaaGreatDoor
namespace Rf
theorem claL_all {P : Cl -> Prop} (hP : ∀ (W : ByteArray) (out : List Cl), readS W = .ok out -> ∀ c ∈ out, P c) : ∀ (n : Nat) (a : List Cl) (r : Rdr), (∀ c ∈ a, P c) -> ∀ c ∈ (claL n a r).1, P c
 | 0, _, _, h => h
 | n + 1, a, r, h => by
  rw [claL]
  split
  ·rename_i c hc
   refine claL_all hP n _ _ (fun d hd => ?_)
   rcases List.mem_append.1 hd with hd | hd
   ·exact h d hd
   ·rw [List.mem_singleton] at hd
    subst hd
    cases hr : readS (wordL 400 r).1 with
    | error e => rw [hr] at hc; cases hc
    | ok out =>
     rw [hr] at hc
     match out, hr, hc with
     | [x], hr, hc => injection hc with hc; subst hc; exact hP _ _ hr x (by simp)
     | [], _, hc => cases hc
     | _ :: _ :: _, _, hc => cases hc
  ·intro d hd; cases hd
theorem openL_ok (b : List UInt8) : RdrOk (openL b) := by
 unfold openL
 split
 ·exact refuse_ok
 ·split
  ·exact refuse_ok
  ·intro e; cases e
end Rf
namespace Go.Proofs.YtbiojnljihgpoaaGreatDoor
open Go.RowKit
def OpAt (w w' : World) (x : Nat) (cls : List Rf.Cl) (q : Option Rf.Qs) : Prop :=
 w.heap.size <= x /\ ∃ F oq nm vC vQ, PsB w' x 0 vC vQ /\ PCls30 F w' vC cls /\ QuAt nm w' vQ oq q /\ ¬ F x /\ (∀ k, F k -> w.heap.size <= k /\ k < w'.heap.size) /\ (∀ k, MayO oq k -> ¬ F k) /\ (∀ k, MayO oq k -> w.heap.size <= k /\ k < w'.heap.size /\ k ≠ x) /\ (∀ g, NmB nm g -> w.heap.size <= g /\ g < w'.heap.size)
set_option maxHeartbeats 1000000 in
set_option maxRecDepth 100000 in
theorem popened_any (s : ByteArray) (w : World) (hm : s.size <= maxLen) :
  Calls Tryz.prog 26 #[.string s] w fun r w' => Below w.heap.size w w' /\ (((Rf.readImg (Rf.bs s)).2.wrong = true /\ r = .returned (.pointer none)) \/ ((Rf.readImg (Rf.bs s)).2.wrong = false /\ ∃ x, r = .returned (.pointer (some ⟨x, 0, none⟩)) /\ OpAt w w' x (Rf.readImg (Rf.bs s)).1.1 (Rf.readImg (Rf.bs s)).1.2)) := by
 obtain ⟨O, hOe⟩ : ∃ O, Hid (O = Rf.openL (Rf.bs s)) := ⟨_, rfl⟩
 have hRE : Rf.readImg (Rf.bs s) = Rf.sesL O := by rw [hOe.out]; rfl
 rw [Rf.sesL_eq] at hRE
 have HOO : Hid (Rf.RdrOk O) := by unfold Hid; rw [hOe.out]; exact Rf.openL_ok _
 obtain ⟨f1, f2, f3, f4⟩ := Rf.claP_facts O
 have hgd : ∀ c ∈ (Rf.claP O).1, GoodC c /\ Rf.ArgCl c := Rf.claL_all (fun W out h => (good_read W out h).2) _ _ _ (fun c hc => by cases hc)
 obtain ⟨P, hPe⟩ : ∃ P, Hid (P = Rf.claP O) := ⟨_, rfl⟩
 rw [<- hPe.out] at hRE f1 f2 f4 hgd
 have HGD : Hid _ := hgd
 have HOP : Hid (Rf.RdrOk P.2) := f1
 have hP30 : P.1.length <= 30 := f2
 have HCG : Hid (Rf.ClsG P.1) := fun c hc => (f4 c hc).2.2
 have HCR : Hid (∀ c ∈ P.1, Rf.ClR c) := fun c hc => (f4 c hc).1
 obtain ⟨a, hae⟩ : ∃ a, Hid (a = (Rf.numL 1 P.2).1) := ⟨_, rfl⟩
 obtain ⟨A, hAe⟩ : ∃ A, Hid (A = (Rf.numL 1 P.2).2) := ⟨_, rfl⟩
 have HOA : Hid (Rf.RdrOk A) := by unfold Hid; rw [hAe.out]; exact Rf.numL_ok _ _
 have hna : Rf.numL 1 P.2 = (a, A) := by rw [hae.out, hAe.out]
 rw [hna] at hRE
 clear f1 f2 f3 f4 hgd hna
 by_cases c1 : a = 1
 ·obtain ⟨U, hUe⟩ : ∃ U, Hid (U = Rf.quL P.1 A) := ⟨_, rfl⟩
  have hAS : Rf.askedL P.1 (a, A) = (some U.1, U.2) := by unfold Rf.askedL; rw [if_pos c1, hUe.out]
  rw [hAS] at hRE
  have HRE : Hid _ := hRE
  have c1i : ((a : Int) == 1) = true := by rw [c1]; rfl
  clear hAS hRE
  cases hw : U.2.wrong
  ·have HWF : Hid (U.2.wrong = false) := hw
   clear hw c1
   go_enter Tryz.func26, Tryz.ntmps26
   go_wp2_with (first
    | (go_at_call 42; refine (pwrong_any _ b U.2 (RdB.kept HR4.out (kept_one (q := w2.heap.size) 2 _) (by omega))).mono ?_; rintro x w9 ⟨hx9, hw9⟩; rw [HWF.out] at hx9; subst hx9; subst w9)
    | (go_at_call 41; refine (pLoad_any _ b A (.slice va acc.length vc) P.1 HR3.out HOA.out HC3.out.seen HCG.out HCR.out hP30).mono ?_; rintro x w4 ⟨q, rb, nm, rfl, hQ4, hR4, hk4, hq4, hrb4, hnm4⟩; rw [<- hUe.out] at hQ4 hR4; have HQ4 : Hid _ := hQ4; have HR4 : Hid (RdB w4 b U.2) := hR4; have HX4 : Hid _ := (hk4.block w2.heap.size (by omega) (by omega)).trans HX3.out; have HC4 : Hid (PCls30 (fun k => w1.heap.size <= k /\ k < w2.heap.size) w4 (.slice va acc.length vc) P.1) := HC3.out.kept hk4 (fun k _ hF e => by omega); have HK4 : Hid (Below w.heap.size w w4) := HK3.out.trans (hk4.below (B := w.heap.size) (by omega) (fun k hk e => by omega)); have hz4 := hk4.size; have Hq4 : Hid _ := hq4; have Hrb4 : Hid _ := hrb4; have Hnm4 : Hid _ := hnm4; clear m0 m1 m2 mf ml; have m0 := blk_cell HX4.out 0; have m1 := blk_cell HX4.out 1; have m2 := blk_cell HX4.out 2; have mf := blk_frozen HX4.out; have ml := blk_lt HX4.out; simp at m0 m1 m2; clear hQ4 hR4 hk4 hq4 hrb4 hnm4)
    | (go_at_call 40; refine (pnumL_any _ b P.2 1 (RdB.below HR2.out (by repeat(first|exact bl0 _ _|refine bl1 ?_ (by simp<;>omega) _|refine bl2 ?_|refine bl3 ?_ _|refine bl4 ?_ (by simp<;>omega) _))) HOP.out (by omega)).mono ?_; rintro x w3 ⟨hx3, hR3, hk3⟩; rw [<- hae.out] at hx3; subst hx3; rw [<- hAe.out] at hR3; have HR3 : Hid (RdB w3 b A) := hR3; have HX3 : Hid _ := (hk3.block w2.heap.size (by simp) (by omega)).trans (blk_new _ _); have HC3 : Hid (PCls30 (fun k => w1.heap.size <= k /\ k < w2.heap.size) w3 (.slice va acc.length vc) P.1) := (HC2.out.kept (Kept.of_below ((by repeat(first|exact bl0 _ _|refine bl1 ?_ (by simp<;>omega) _|refine bl2 ?_|refine bl3 ?_ _|refine bl4 ?_ (by simp<;>omega) _)) : Below w2.heap.size w2 (w2.alloc _)) (fun _ => False)) (fun _ _ _ e => e)).kept hk3 (fun k _ hF e => by omega); have HK3 : Hid (Below w.heap.size w w3) := (HK2.out.trans (Below.mono (B := w2.heap.size) ((by repeat(first|exact bl0 _ _|refine bl1 ?_ (by simp<;>omega) _|refine bl2 ?_|refine bl3 ?_ _|refine bl4 ?_ (by simp<;>omega) _)) : Below w2.heap.size w2 (w2.alloc _)) (by omega))).trans (hk3.below (B := w.heap.size) (by simp; omega) (fun k hk e => by omega)); have hz3 := hk3.size; simp at hz3; have m0 := blk_cell HX3.out 0; have m1 := blk_cell HX3.out 1; have m2 := blk_cell HX3.out 2; have mf := blk_frozen HX3.out; have ml := blk_lt HX3.out; simp at m0 m1 m2; clear hR3 hk3)
    | (go_at_call 39; refine (ploadCl_any _ b O HR1.out HOO.out).mono ?_; rintro x w2 ⟨v, acc, rfl, hA2, hC2, hR2, hk2⟩; rw [<- hPe.out] at hC2 hR2; obtain ⟨va, vc, hv⟩ := row_slice hA2.row; rw [List.length_map] at hv; subst hv; have HA2 : Hid _ := hA2; have HC2 : Hid (PCls30 (fun k => w1.heap.size <= k /\ k < w2.heap.size) w2 (.slice va acc.length vc) P.1) := ⟨⟨acc, hA2, hC2, by have h9 := congrArg List.length hC2; rw [List.length_map] at h9; omega⟩, HGD.out⟩; have HR2 : Hid (RdB w2 b P.2) := hR2; have HK2 : Hid (Below w.heap.size w w2) := HB1.out.trans ((hk2.below (B := w.heap.size) hz1 (fun k hk e => by omega))); have hz2 := hk2.size; have hbl2 := blk_lt hR2; clear hA2 hC2 hR2 hk2)
    | (go_at_call 38; refine (popen_any s _ hm).mono ?_; rintro x w1 ⟨b, rfl, hR1, hb1, hB1⟩; rw [<- hOe.out] at hR1; have HR1 : Hid (RdB w1 b O) := hR1; have hbl1 := blk_lt hR1; have HB1 : Hid _ := hB1; have hz1 := hB1.size; clear hR1 hB1))
   go_ret
   rw [HRE.out]
   have hk9 := kept_one (w := w4) (q := w2.heap.size) 2 (.pointer (some ⟨q, 0, none⟩))
   have hQ9 : QAt nm (w4.setCell ⟨w2.heap.size, 2, none⟩ (.pointer (some ⟨q, 0, none⟩))) q rb U.1.names ⟨Rf.stNone, U.1.chs⟩ := HQ4.out.keptG hk9 (fun k e => by subst e; exact ⟨_, _, HX4.out, by decide⟩) (fun k hm e => by
    rcases hm with hm | hm
    ·have := Hq4.out; omega
    ·have := Hrb4.out k hm.symm; omega) (fun g hg e => by have := Hnm4.out g hg; omega)
   have hlo : ∀ k, May q rb k -> w3.heap.size <= k := fun k hm => by
    rcases hm with hm | hm
    ·have := Hq4.out; omega
    ·exact Hrb4.out k hm.symm
   refine ⟨HK4.out.setCell (p := ⟨w2.heap.size, 2, none⟩) (by show w.heap.size <= w2.heap.size; omega) _, .inr ⟨HWF.out, _, rfl, by omega, _, some (q, rb), nm, _, _, blk_set HX4.out 2 _, HC4.out.kept hk9 (fun k _ hF e => by omega), ⟨rfl, hQ9⟩, (fun e => by omega), (fun k e => ⟨by omega, by simp; omega⟩), (fun k e hF => by have := hlo k e; omega), (fun k e => ⟨by have := hlo k e; omega, may_lt hQ9 e, by have := hlo k e; omega⟩), (fun g hg => ⟨by have := Hnm4.out g hg; omega, ?_⟩)⟩⟩
   obtain ⟨_, _, _, _, hi⟩ := hQ9.ex
   exact seen_nmb hi.n hg
  ·have HWF : Hid (U.2.wrong = true) := hw
   clear hw c1
   go_enter Tryz.func26, Tryz.ntmps26
   go_wp2_with (first
    | (go_at_call 42; refine (pwrong_any _ b U.2 (RdB.kept HR4.out (kept_one (q := w2.heap.size) 2 _) (by omega))).mono ?_; rintro x w9 ⟨hx9, hw9⟩; rw [HWF.out] at hx9; subst hx9; subst w9)
    | (go_at_call 41; refine (pLoad_any _ b A (.slice va acc.length vc) P.1 HR3.out HOA.out HC3.out.seen HCG.out HCR.out hP30).mono ?_; rintro x w4 ⟨q, rb, nm, rfl, hQ4, hR4, hk4, hq4, hrb4, hnm4⟩; rw [<- hUe.out] at hQ4 hR4; have HQ4 : Hid _ := hQ4; have HR4 : Hid (RdB w4 b U.2) := hR4; have HX4 : Hid _ := (hk4.block w2.heap.size (by omega) (by omega)).trans HX3.out; have HC4 : Hid (PCls30 (fun k => w1.heap.size <= k /\ k < w2.heap.size) w4 (.slice va acc.length vc) P.1) := HC3.out.kept hk4 (fun k _ hF e => by omega); have HK4 : Hid (Below w.heap.size w w4) := HK3.out.trans (hk4.below (B := w.heap.size) (by omega) (fun k hk e => by omega)); have hz4 := hk4.size; have Hq4 : Hid _ := hq4; have Hrb4 : Hid _ := hrb4; have Hnm4 : Hid _ := hnm4; clear m0 m1 m2 mf ml; have m0 := blk_cell HX4.out 0; have m1 := blk_cell HX4.out 1; have m2 := blk_cell HX4.out 2; have mf := blk_frozen HX4.out; have ml := blk_lt HX4.out; simp at m0 m1 m2; clear hQ4 hR4 hk4 hq4 hrb4 hnm4)
    | (go_at_call 40; refine (pnumL_any _ b P.2 1 (RdB.below HR2.out (by repeat(first|exact bl0 _ _|refine bl1 ?_ (by simp<;>omega) _|refine bl2 ?_|refine bl3 ?_ _|refine bl4 ?_ (by simp<;>omega) _))) HOP.out (by omega)).mono ?_; rintro x w3 ⟨hx3, hR3, hk3⟩; rw [<- hae.out] at hx3; subst hx3; rw [<- hAe.out] at hR3; have HR3 : Hid (RdB w3 b A) := hR3; have HX3 : Hid _ := (hk3.block w2.heap.size (by simp) (by omega)).trans (blk_new _ _); have HC3 : Hid (PCls30 (fun k => w1.heap.size <= k /\ k < w2.heap.size) w3 (.slice va acc.length vc) P.1) := (HC2.out.kept (Kept.of_below ((by repeat(first|exact bl0 _ _|refine bl1 ?_ (by simp<;>omega) _|refine bl2 ?_|refine bl3 ?_ _|refine bl4 ?_ (by simp<;>omega) _)) : Below w2.heap.size w2 (w2.alloc _)) (fun _ => False)) (fun _ _ _ e => e)).kept hk3 (fun k _ hF e => by omega); have HK3 : Hid (Below w.heap.size w w3) := (HK2.out.trans (Below.mono (B := w2.heap.size) ((by repeat(first|exact bl0 _ _|refine bl1 ?_ (by simp<;>omega) _|refine bl2 ?_|refine bl3 ?_ _|refine bl4 ?_ (by simp<;>omega) _)) : Below w2.heap.size w2 (w2.alloc _)) (by omega))).trans (hk3.below (B := w.heap.size) (by simp; omega) (fun k hk e => by omega)); have hz3 := hk3.size; simp at hz3; have m0 := blk_cell HX3.out 0; have m1 := blk_cell HX3.out 1; have m2 := blk_cell HX3.out 2; have mf := blk_frozen HX3.out; have ml := blk_lt HX3.out; simp at m0 m1 m2; clear hR3 hk3)
    | (go_at_call 39; refine (ploadCl_any _ b O HR1.out HOO.out).mono ?_; rintro x w2 ⟨v, acc, rfl, hA2, hC2, hR2, hk2⟩; rw [<- hPe.out] at hC2 hR2; obtain ⟨va, vc, hv⟩ := row_slice hA2.row; rw [List.length_map] at hv; subst hv; have HA2 : Hid _ := hA2; have HC2 : Hid (PCls30 (fun k => w1.heap.size <= k /\ k < w2.heap.size) w2 (.slice va acc.length vc) P.1) := ⟨⟨acc, hA2, hC2, by have h9 := congrArg List.length hC2; rw [List.length_map] at h9; omega⟩, HGD.out⟩; have HR2 : Hid (RdB w2 b P.2) := hR2; have HK2 : Hid (Below w.heap.size w w2) := HB1.out.trans ((hk2.below (B := w.heap.size) hz1 (fun k hk e => by omega))); have hz2 := hk2.size; have hbl2 := blk_lt hR2; clear hA2 hC2 hR2 hk2)
    | (go_at_call 38; refine (popen_any s _ hm).mono ?_; rintro x w1 ⟨b, rfl, hR1, hb1, hB1⟩; rw [<- hOe.out] at hR1; have HR1 : Hid (RdB w1 b O) := hR1; have hbl1 := blk_lt hR1; have HB1 : Hid _ := hB1; have hz1 := hB1.size; clear hR1 hB1))
   go_ret
   rw [HRE.out]
   exact ⟨HK4.out.setCell (p := ⟨w2.heap.size, 2, none⟩) (by show w.heap.size <= w2.heap.size; omega) _, .inl ⟨HWF.out, rfl⟩⟩
 ·have hAS : Rf.askedL P.1 (a, A) = (none, A) := by unfold Rf.askedL; rw [if_neg c1]
  rw [hAS] at hRE
  have HRE : Hid _ := hRE
  have c1i : ((a : Int) == 1) = false := beq_eq_false_iff_ne.2 (by omega)
  clear hAS hRE
  cases hw : A.wrong
  ·have HWF : Hid (A.wrong = false) := hw
   clear hw c1
   go_enter Tryz.func26, Tryz.ntmps26
   go_wp2_with (first
    | (go_at_call 42; refine (pwrong_any _ b A HR3.out).mono ?_; rintro x w9 ⟨hx9, hw9⟩; rw [HWF.out] at hx9; subst hx9; subst w9)
    | (go_at_call 40; refine (pnumL_any _ b P.2 1 (RdB.below HR2.out (by repeat(first|exact bl0 _ _|refine bl1 ?_ (by simp<;>omega) _|refine bl2 ?_|refine bl3 ?_ _|refine bl4 ?_ (by simp<;>omega) _))) HOP.out (by omega)).mono ?_; rintro x w3 ⟨hx3, hR3, hk3⟩; rw [<- hae.out] at hx3; subst hx3; rw [<- hAe.out] at hR3; have HR3 : Hid (RdB w3 b A) := hR3; have HX3 : Hid _ := (hk3.block w2.heap.size (by simp) (by omega)).trans (blk_new _ _); have HC3 : Hid (PCls30 (fun k => w1.heap.size <= k /\ k < w2.heap.size) w3 (.slice va acc.length vc) P.1) := (HC2.out.kept (Kept.of_below ((by repeat(first|exact bl0 _ _|refine bl1 ?_ (by simp<;>omega) _|refine bl2 ?_|refine bl3 ?_ _|refine bl4 ?_ (by simp<;>omega) _)) : Below w2.heap.size w2 (w2.alloc _)) (fun _ => False)) (fun _ _ _ e => e)).kept hk3 (fun k _ hF e => by omega); have HK3 : Hid (Below w.heap.size w w3) := (HK2.out.trans (Below.mono (B := w2.heap.size) ((by repeat(first|exact bl0 _ _|refine bl1 ?_ (by simp<;>omega) _|refine bl2 ?_|refine bl3 ?_ _|refine bl4 ?_ (by simp<;>omega) _)) : Below w2.heap.size w2 (w2.alloc _)) (by omega))).trans (hk3.below (B := w.heap.size) (by simp; omega) (fun k hk e => by omega)); have hz3 := hk3.size; simp at hz3; have m0 := blk_cell HX3.out 0; have m1 := blk_cell HX3.out 1; have m2 := blk_cell HX3.out 2; have mf := blk_frozen HX3.out; have ml := blk_lt HX3.out; simp at m0 m1 m2; clear hR3 hk3)
    | (go_at_call 39; refine (ploadCl_any _ b O HR1.out HOO.out).mono ?_; rintro x w2 ⟨v, acc, rfl, hA2, hC2, hR2, hk2⟩; rw [<- hPe.out] at hC2 hR2; obtain ⟨va, vc, hv⟩ := row_slice hA2.row; rw [List.length_map] at hv; subst hv; have HA2 : Hid _ := hA2; have HC2 : Hid (PCls30 (fun k => w1.heap.size <= k /\ k < w2.heap.size) w2 (.slice va acc.length vc) P.1) := ⟨⟨acc, hA2, hC2, by have h9 := congrArg List.length hC2; rw [List.length_map] at h9; omega⟩, HGD.out⟩; have HR2 : Hid (RdB w2 b P.2) := hR2; have HK2 : Hid (Below w.heap.size w w2) := HB1.out.trans ((hk2.below (B := w.heap.size) hz1 (fun k hk e => by omega))); have hz2 := hk2.size; have hbl2 := blk_lt hR2; clear hA2 hC2 hR2 hk2)
    | (go_at_call 38; refine (popen_any s _ hm).mono ?_; rintro x w1 ⟨b, rfl, hR1, hb1, hB1⟩; rw [<- hOe.out] at hR1; have HR1 : Hid (RdB w1 b O) := hR1; have hbl1 := blk_lt hR1; have HB1 : Hid _ := hB1; have hz1 := hB1.size; clear hR1 hB1))
   go_ret
   rw [HRE.out]
   refine ⟨HK3.out, .inr ⟨HWF.out, _, rfl, by omega, _, none, .pointer none, _, _, HX3.out, HC3.out, rfl, (fun e => by omega), (fun k e => by omega), (fun k e => e.elim), (fun k e => e.elim), fun g hg => (nmb_none hg).elim⟩⟩
  ·have HWF : Hid (A.wrong = true) := hw
   clear hw c1
   go_enter Tryz.func26, Tryz.ntmps26
   go_wp2_with (first
    | (go_at_call 42; refine (pwrong_any _ b A HR3.out).mono ?_; rintro x w9 ⟨hx9, hw9⟩; rw [HWF.out] at hx9; subst hx9; subst w9)
    | (go_at_call 40; refine (pnumL_any _ b P.2 1 (RdB.below HR2.out (by repeat(first|exact bl0 _ _|refine bl1 ?_ (by simp<;>omega) _|refine bl2 ?_|refine bl3 ?_ _|refine bl4 ?_ (by simp<;>omega) _))) HOP.out (by omega)).mono ?_; rintro x w3 ⟨hx3, hR3, hk3⟩; rw [<- hae.out] at hx3; subst hx3; rw [<- hAe.out] at hR3; have HR3 : Hid (RdB w3 b A) := hR3; have HX3 : Hid _ := (hk3.block w2.heap.size (by simp) (by omega)).trans (blk_new _ _); have HC3 : Hid (PCls30 (fun k => w1.heap.size <= k /\ k < w2.heap.size) w3 (.slice va acc.length vc) P.1) := (HC2.out.kept (Kept.of_below ((by repeat(first|exact bl0 _ _|refine bl1 ?_ (by simp<;>omega) _|refine bl2 ?_|refine bl3 ?_ _|refine bl4 ?_ (by simp<;>omega) _)) : Below w2.heap.size w2 (w2.alloc _)) (fun _ => False)) (fun _ _ _ e => e)).kept hk3 (fun k _ hF e => by omega); have HK3 : Hid (Below w.heap.size w w3) := (HK2.out.trans (Below.mono (B := w2.heap.size) ((by repeat(first|exact bl0 _ _|refine bl1 ?_ (by simp<;>omega) _|refine bl2 ?_|refine bl3 ?_ _|refine bl4 ?_ (by simp<;>omega) _)) : Below w2.heap.size w2 (w2.alloc _)) (by omega))).trans (hk3.below (B := w.heap.size) (by simp; omega) (fun k hk e => by omega)); have hz3 := hk3.size; simp at hz3; have m0 := blk_cell HX3.out 0; have m1 := blk_cell HX3.out 1; have m2 := blk_cell HX3.out 2; have mf := blk_frozen HX3.out; have ml := blk_lt HX3.out; simp at m0 m1 m2; clear hR3 hk3)
    | (go_at_call 39; refine (ploadCl_any _ b O HR1.out HOO.out).mono ?_; rintro x w2 ⟨v, acc, rfl, hA2, hC2, hR2, hk2⟩; rw [<- hPe.out] at hC2 hR2; obtain ⟨va, vc, hv⟩ := row_slice hA2.row; rw [List.length_map] at hv; subst hv; have HA2 : Hid _ := hA2; have HC2 : Hid (PCls30 (fun k => w1.heap.size <= k /\ k < w2.heap.size) w2 (.slice va acc.length vc) P.1) := ⟨⟨acc, hA2, hC2, by have h9 := congrArg List.length hC2; rw [List.length_map] at h9; omega⟩, HGD.out⟩; have HR2 : Hid (RdB w2 b P.2) := hR2; have HK2 : Hid (Below w.heap.size w w2) := HB1.out.trans ((hk2.below (B := w.heap.size) hz1 (fun k hk e => by omega))); have hz2 := hk2.size; have hbl2 := blk_lt hR2; clear hA2 hC2 hR2 hk2)
    | (go_at_call 38; refine (popen_any s _ hm).mono ?_; rintro x w1 ⟨b, rfl, hR1, hb1, hB1⟩; rw [<- hOe.out] at hR1; have HR1 : Hid (RdB w1 b O) := hR1; have hbl1 := blk_lt hR1; have HB1 : Hid _ := hB1; have hz1 := hB1.size; clear hR1 hB1))
   go_ret
   rw [HRE.out]
   exact ⟨HK3.out, .inl ⟨HWF.out, rfl⟩⟩
end Go.Proofs.YtbiojnljihgpoaaGreatDoor
namespace Rf
theorem load_no {T : Se} {b : List UInt8} (h : loadB b = false) : loadS T b = (false, T) := by unfold loadS; rw [if_neg (by rw [h]; decide)]
theorem load_yes {T : Se} {b : List UInt8} (h : loadB b = true) : loadS T b = (true, ⟨T.lim, (readImg b).1.1, (readImg b).1.2⟩) := by unfold loadS; rw [if_pos h]
theorem loadB_wrong {b : List UInt8} (h : (readImg b).2.wrong = true) : loadB b = false := by unfold loadB; rw [h]; rfl
def loadE (x : Bool) : Int := if x = true then 0 else 8
end Rf
namespace Go.Proofs.YtbiojnljihgpoaaGreatDoor
open Go.RowKit
theorem quat_ptr {nm : Value} {w : World} {vQ : Value} {oq : Option (Nat × Option Nat)} {q : Option Rf.Qs} (h : QuAt nm w vQ oq q) : ∃ p, vQ = .pointer p := by
 cases oq with
 | none =>
  cases q with
  | none => exact ⟨_, h⟩
  | some _ => exact h.elim
 | some p =>
  cases q with
  | none => exact h.elim
  | some Q => exact ⟨_, h.1⟩
theorem quat_kept {nm : Value} {M : Nat -> Prop} {w w' : World} {vQ : Value} {oq : Option (Nat × Option Nat)} {q : Option Rf.Qs} (h : QuAt nm w vQ oq q) (hk : Kept M w w') (hM : ∀ k, M k -> Mut w k) (hq : ∀ k, MayO oq k -> ¬ M k) (hn : ∀ g, NmB nm g -> ¬ M g) : QuAt nm w' vQ oq q := by
 cases oq with
 | none =>
  cases q with
  | none => exact h
  | some _ => exact h.elim
 | some p =>
  obtain ⟨b, rb⟩ := p
  cases q with
  | none => exact h.elim
  | some Q => exact ⟨h.1, h.2.keptG hk hM hq hn⟩
theorem saved_is (cls : List Rf.Cl) (q : Option Rf.Qs) (b : List UInt8) (C : List Rf.Cl × Option Rf.Qs) (hC : C = (cls, q)) (hr : (Rf.readImg b).1 = C) (hw : (Rf.readImg b).2.wrong = false) : Rf.loadB b = decide (savedB cls q = b) := by
 subst hC
 unfold Rf.loadB savedB
 rw [hw, hr]
 rfl
theorem psave_in (B : Nat) (G : Nat -> Prop) (w : World) (x : Nat) (S : Rf.Se) (h : SeIn B G w x S) (hT : TabB B w) (ht : Rf.TellOk S.cls S.q) (hl : Rf.LeftOk S.cls S.q) :
  Calls Tryz.prog 8 #[.pointer (some ⟨x, 0, none⟩)] w fun r w' => r = .returned (.string (strOf (Rf.saveS S))) /\ Below w.heap.size w w' := by
 obtain ⟨F, oq, nm, h1, h2, h3, h4, h5⟩ := h.ex
 obtain ⟨vC, vQ, t1, t2, t3⟩ := h1.ex
 exact psave_any F w x _ vC vQ S.cls oq S.q t1 t2 t3 ht hl hT.tab
theorem SeDone.same {B : Nat} {G : Nat -> Prop} {w w' : World} {x : Nat} {S : Rf.Se} (h : SeIn B G w x S) (hB : B <= w.heap.size) (hb : Below w.heap.size w w') : SeDone B G w x S w' := by
 have hsz := hb.size
 refine ⟨(h.below hb).mono (fun k e => .inl e) (fun k e => ?_) (fun k e => ?_), Kept.of_below hb _⟩
 ·rcases e with e | e
  ·exact h.lo k e
  ·omega
 ·rcases e with e | e
  ·have := h.hi k e; omega
  ·exact e.2
set_option maxHeartbeats 1000000 in
set_option maxRecDepth 100000 in
theorem pload_in (B : Nat) (G : Nat -> Prop) (w : World) (x : Nat) (S : Rf.Se) (s : ByteArray) (hm : s.size <= maxLen) (h : SeIn B G w x S) (hB : B <= w.heap.size) (hT : TabB B w) :
  Calls Tryz.prog 9 #[.pointer (some ⟨x, 0, none⟩), .string s] w fun r w' => r = .returned (.int .i64 (Rf.loadE (Rf.loadS S (Rf.bs s)).1)) /\ SeDone B G w x (Rf.loadS S (Rf.bs s)).2 w' := by
 have H : Hid _ := h
 have HT : Hid _ := hT.tab
 obtain ⟨F, oq, nm, h1, h2, h3, h4, h5⟩ := h.ex
 obtain ⟨vC, vQ, u1, u2, u3⟩ := h1.ex
 have HX : Hid _ := u1
 have hxl := blk_lt u1
 have HS : Hid _ := h1.ok
 have HGx : Hid (G x) := h2
 clear h hT h1 h2 h3 h4 h5 u1 u2 u3
 cases hw : (Rf.readImg (Rf.bs s)).2.wrong
 ·have hte := Rf.readImg_tell hw
  have hlf := Rf.readImg_left (Rf.bs s)
  obtain ⟨C, hCe⟩ : ∃ C, Hid (C = (Rf.readImg (Rf.bs s)).1) := ⟨_, rfl⟩
  have hLB := saved_is C.1 C.2 (Rf.bs s) C rfl hCe.out.symm hw
  rw [<- hCe.out] at hte hlf
  have HTE : Hid _ := hte
  have HLF : Hid _ := hlf
  have HW : Hid _ := hw
  obtain ⟨X, hXe⟩ : ∃ X, Hid (X = strOf (savedB C.1 C.2)) := ⟨_, rfl⟩
  clear hte hlf hw
  by_cases hc : X = s
  ·have hLt : Rf.loadB (Rf.bs s) = true := by rw [hLB, decide_eq_true]; rw [<- hc, hXe.out, bs_strOf]
   have HL : Hid (Rf.loadS S (Rf.bs s) = (true, ⟨S.lim, C.1, C.2⟩)) := by unfold Hid; rw [Rf.load_yes hLt, <- hCe.out]
   have hcm := beq_toList X s
   rw [decide_eq_true hc] at hcm
   clear hLB hLt hc
   go_enter Tryz.func9, Tryz.ntmps9
   go_wp2_with (first
    | (go_at_call 8; refine (psave_any F1 _ y 0 (.slice ca C.1.length cc) (.pointer po) C.1 oq1 C.2 t1.out t2.out t3.out HTE.out HLF.out (Tab.below HT.out hb1)).mono ?_; rintro r w2 ⟨hr2, hb2⟩; rw [<- hXe.out] at hr2; subst hr2; have HB2 : Hid (Below w.heap.size w w2) := hb1.trans (hb2.mono hb1.size); have HY2 : Hid _ := (hb2.block y (blk_lt t1.out)).trans t1.out; have y0 := blk_cell HY2.out 0; have y1 := blk_cell HY2.out 1; have y2 := blk_cell HY2.out 2; have yf := blk_frozen HY2.out; have yl := blk_lt HY2.out; have HX2 : Hid _ := (HB2.out.block x hxl).trans HX.out; have x0 := blk_cell HX2.out 0; have x1 := blk_cell HX2.out 1; have x2 := blk_cell HX2.out 2; have xf := blk_frozen HX2.out; have xl := blk_lt HX2.out; simp at y0 y1 y2 x0 x1 x2)
    | (go_at_call 26; refine (popened_any s _ hm).mono ?_; rintro r w1 ⟨hb1, hP⟩; have hP2 := hP.resolve_left (fun e => by rw [HW.out] at e; cases e.1); obtain ⟨_, y, rfl, hy, F1, oq1, nm1, vC1, vQ1, t1, t2, t3, t4, t5, t6, t7, t8⟩ := hP2; rw [<- hCe.out] at t2 t3; obtain ⟨ca, cc, hvc⟩ := (PCls30.seen t2).slice; subst hvc; obtain ⟨po, hpo⟩ := quat_ptr t3; subst hpo; have t1 : Hid _ := t1; have t2 : Hid _ := t2; have t3 : Hid _ := t3; have t4 : Hid _ := t4; have t5 : Hid _ := t5; have t6 : Hid _ := t6; have t7 : Hid _ := t7; have t8 : Hid _ := t8; have hz1 := hb1.size; clear hP))
   go_ret
   rw [HL.out]
   have hkx : Kept (fun k => k = x) w2 ((w2.setCell ⟨x, 1, none⟩ (.slice ca C.1.length cc)).setCell ⟨x, 2, none⟩ (.pointer po)) := (kept_one (w := w2) (q := x) 1 _).setCell (p := ⟨x, 2, none⟩) (.inr rfl) _
   have hzx := hkx.size
   have hz2 := HB2.out.size
   have hQ2 := quat_kept t3.out (Kept.of_below hb2 (fun _ => False)) (fun _ e => e.elim) (fun _ _ e => e) (fun _ _ e => e)
   have hQ3 := quat_kept hQ2 hkx (fun k e => by subst e; exact ⟨_, _, HX2.out, by decide⟩) (fun k e e2 => by have := (t7.out k e).1; omega) (fun g hg e2 => by have := (t8.out g hg).1; omega)
   have hC3 : PCls30 F1 _ (.slice ca C.1.length cc) C.1 := (t2.out.kept (Kept.of_below hb2 (fun _ => False)) (fun _ _ _ e => e)).kept hkx (fun k _ hF e => by have := (t5.out k hF).1; omega)
   have hz12 := hb2.size
   refine ⟨rfl, ⟨⟨F1, oq1, nm1, ⟨HTE.out.ok HS.out.l1 HS.out.l2, ⟨_, _, blk_set (blk_set HX2.out 1 _) 2 _, hC3, hQ3⟩, (fun e => by have := (t5.out x e).1; omega), (fun k hF => by have := (t5.out k hF).2; omega), fun k e => t6.out k e⟩, .inl HGx.out, (fun k hF => .inr ⟨(t5.out k hF).1, by have := (t5.out k hF).2; omega⟩), (fun k e => .inr ⟨(t7.out k e).1, by have := (t7.out k e).2.1; omega⟩), fun g hg => .inr ⟨(t8.out g hg).1, by have := (t8.out g hg).2; omega⟩⟩, (fun k e => ?_), fun k e => ?_⟩, ?_⟩
   ·rcases e with e | e
    ·exact H.out.lo k e
    ·omega
   ·rcases e with e | e
    ·have := H.out.hi k e; omega
    ·exact e.2
   ·refine (Kept.of_below HB2.out _).trans hkx (fun i hi e => ?_)
    subst e
    exact ⟨HGx.out, _, _, HX.out, .inl rfl⟩
  ·have hLf : Rf.loadB (Rf.bs s) = false := by rw [hLB, decide_eq_false]; intro e; apply hc; rw [hXe.out, e, strOf_bs]
   have HL : Hid (Rf.loadS S (Rf.bs s) = (false, S)) := Rf.load_no hLf
   have hcm := beq_toList X s
   rw [decide_eq_false hc] at hcm
   clear hLB hLf hc
   go_enter Tryz.func9, Tryz.ntmps9
   go_wp2_with (first
    | (go_at_call 8; refine (psave_any F1 _ y 0 (.slice ca C.1.length cc) (.pointer po) C.1 oq1 C.2 t1.out t2.out t3.out HTE.out HLF.out (Tab.below HT.out hb1)).mono ?_; rintro r w2 ⟨hr2, hb2⟩; rw [<- hXe.out] at hr2; subst hr2)
    | (go_at_call 26; refine (popened_any s _ hm).mono ?_; rintro r w1 ⟨hb1, hP⟩; have hP2 := hP.resolve_left (fun e => by rw [HW.out] at e; cases e.1); obtain ⟨_, y, rfl, hy, F1, oq1, nm1, vC1, vQ1, t1, t2, t3, t4, t5, t6, t7, t8⟩ := hP2; rw [<- hCe.out] at t2 t3; obtain ⟨ca, cc, hvc⟩ := (PCls30.seen t2).slice; subst hvc; obtain ⟨po, hpo⟩ := quat_ptr t3; subst hpo; have t1 : Hid _ := t1; have t2 : Hid _ := t2; have t3 : Hid _ := t3; have t4 : Hid _ := t4; have t5 : Hid _ := t5; have t6 : Hid _ := t6; have t7 : Hid _ := t7; have t8 : Hid _ := t8; have hz1 := hb1.size; clear hP))
   go_ret
   rw [HL.out]
   exact ⟨rfl, SeDone.same H.out hB (hb1.trans (hb2.mono hb1.size))⟩
 ·have HL : Hid (Rf.loadS S (Rf.bs s) = (false, S)) := Rf.load_no (Rf.loadB_wrong hw)
  have HW : Hid _ := hw
  clear hw
  go_enter Tryz.func9, Tryz.ntmps9
  go_wp2_with (go_at_call 26; refine (popened_any s _ hm).mono ?_; rintro r w1 ⟨hb1, hP⟩; have hP2 := hP.resolve_right (fun e => by rw [HW.out] at e; cases e.1); obtain ⟨_, rfl⟩ := hP2; clear hP)
  go_ret
  rw [HL.out]
  exact ⟨rfl, SeDone.same H.out hB hb1⟩
end Go.Proofs.YtbiojnljihgpoaaGreatDoor
