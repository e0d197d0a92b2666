/- Plain facts: a fault's number and place are small. -/
import Derived.Test.YtpdikdnffehmkaaGreatDoorYan
import Derived.Test.YtpdikdnffehmkaaGreatDoorYbt
namespace Rf
def ErrOk (x : Int × Nat) : Prop := 0 ≤ x.1 ∧ x.1 ≤ 10 ∧ x.2 ≤ 400
def TokE (t : Tok) : Prop := t.at_ ≤ 400 ∧ 0 ≤ t.e ∧ t.e ≤ 10
def Es (l : List Tok) : Prop := ∀ t ∈ l, TokE t
theorem Es.tail {t : Tok} {l : List Tok} (h : Es (t :: l)) : Es l := fun u hu => h u (List.mem_cons_of_mem _ hu)
theorem err_k (k : Int) (h0 : 0 ≤ k) (h1 : k ≤ 10) {n : Nat} (hn : n ≤ 400) : ErrOk (k, n) := ⟨h0, h1, hn⟩
theorem err20 : ErrOk (2, 0) := ⟨by decide, by decide, by decide⟩
theorem tokenAt_e (s : ByteArray) (n : Nat) : (tokenAt s n).at_ = n ∧ 0 ≤ (tokenAt s n).e ∧ (tokenAt s n).e ≤ 10 := by
  unfold tokenAt numTok wordTok bad
  repeat' split
  all_goals simp
theorem toks_e (s : ByteArray) (h4 : s.size ≤ 400) : ∀ (f n : Nat), Es (toks s f n)
  | 0, n => fun t ht => by simp [toks] at ht; subst ht; exact ⟨h4, by simp [endTok], by simp [endTok]⟩
  | f + 1, n => by
    rw [toks]
    split
    · rename_i hn
      have hk := tokenAt_e s n
      have ht : TokE (tokenAt s n) := ⟨by rw [hk.1]; omega, hk.2⟩
      split
      · exact toks_e s h4 f _
      · split
        · intro t h; simp at h; subst h; exact ht
        · intro t h
          rcases List.mem_cons.1 h with rfl | h
          · exact ht
          · exact toks_e s h4 f _ t h
    · intro t ht; simp at ht; subst ht; exact ⟨h4, by simp [endTok], by simp [endTok]⟩
theorem errOf_ok {t : Tok} (h : TokE t) : ErrOk (errOf t 2) := by
  unfold errOf
  refine ⟨?_, ?_, h.1⟩
  · simp only []; split
    · exact h.2.1
    · decide
  · simp only []; split
    · exact h.2.2
    · decide
def ReadsR (rd : List Tok → List ByteArray → Except (Int × Nat) (List Part × List Tok × List ByteArray)) : Prop := ∀ l ns, Es l → (∀ e, rd l ns = .error e → ErrOk e) ∧ (∀ p l1 ns1, rd l ns = .ok (p, l1, ns1) → Es l1)
theorem argsS_e (rd : List Tok → List ByteArray → Except (Int × Nat) (List Part × List Tok × List ByteArray)) (h : ReadsR rd) :
    ∀ (k : Nat) (acc : List (List Part)) (l : List Tok) (ns : List ByteArray), Es l → (∀ e, argsS rd k acc l ns = .error e → ErrOk e) ∧ (∀ a1 l2 ns2, argsS rd k acc l ns = .ok (a1, l2, ns2) → Es l2)
  | 0, _, _, _, _ => ⟨fun e he => by simp [argsS] at he; subst he; exact err20, fun _ _ _ he => by simp [argsS] at he⟩
  | k + 1, acc, l, ns, hl => by
    rw [argsS]
    obtain ⟨g1, g2⟩ := h l ns hl
    cases hr : rd l ns with
    | error x => exact ⟨fun e he => by cases he; exact g1 _ hr, fun _ _ _ he => by cases he⟩
    | ok x =>
      obtain ⟨p, l1, ns1⟩ := x
      have g3 := g2 p l1 ns1 hr
      cases l1 with
      | nil => exact ⟨fun e he => by cases he; exact err20, fun _ _ _ he => by cases he⟩
      | cons u l3 =>
        simp only
        have hu := g3 u (by simp)
        split
        · split
          · exact ⟨fun e he => by cases he; exact err_k 3 (by decide) (by decide) hu.1, fun _ _ _ he => by cases he⟩
          · exact argsS_e rd h k _ l3 ns1 g3.tail
        · split
          · exact ⟨(fun e he => by cases he), fun _ _ _ he => by cases he; exact g3.tail⟩
          · exact ⟨fun e he => by cases he; exact errOf_ok hu, fun _ _ _ he => by cases he⟩
theorem termS_e : ∀ (f : Nat), ReadsR (termS f)
  | 0 => fun _ _ _ => ⟨fun e he => by simp [termS] at he; subst he; exact err20, fun _ _ _ he => by simp [termS] at he⟩
  | f + 1 => fun l ns hl => by
    cases l with
    | nil => exact ⟨fun e he => by simp [termS] at he; subst he; exact err20, fun _ _ _ he => by simp [termS] at he⟩
    | cons t l =>
      have ht := hl t (by simp)
      rw [termS]
      split
      · unfold varT varS
        cases lookS t.s ns with
        | some i => exact ⟨(fun e he => by cases he), fun _ _ _ he => by cases he; exact hl.tail⟩
        | none =>
          simp only []
          split
          · rename_i h9
            split at h9
            · cases h9; exact ⟨fun e he => by cases he; exact err_k 3 (by decide) (by decide) ht.1, fun _ _ _ he => by cases he⟩
            · cases h9
          · exact ⟨(fun e he => by cases he), fun _ _ _ he => by cases he; exact hl.tail⟩
      · split
        · exact ⟨(fun e he => by cases he), fun _ _ _ he => by cases he; exact hl.tail⟩
        · split
          · cases l with
            | nil => exact ⟨fun e he => by cases he; exact err20, fun _ _ _ he => by cases he⟩
            | cons u l' =>
              simp only [nameS]
              split
              · obtain ⟨g1, g2⟩ := argsS_e (termS f) (termS_e f) 4 [] l' ns hl.tail.tail
                cases ha : argsS (termS f) 4 [] l' ns with
                | error x => exact ⟨fun e he => by cases he; exact g1 _ ha, fun _ _ _ he => by cases he⟩
                | ok x =>
                  obtain ⟨a1, l2, ns2⟩ := x
                  exact ⟨(fun e he => by cases he), fun _ _ _ he => by cases he; exact g2 _ _ _ ha⟩
              · exact ⟨(fun e he => by cases he), fun _ _ _ he => by cases he; exact hl.tail⟩
          · exact ⟨fun e he => by cases he; exact errOf_ok ht, fun _ _ _ he => by cases he⟩
theorem goalS_e (f : Nat) : ReadsR (goalS f) := fun l ns hl => by
  cases l with
  | nil => exact ⟨fun e he => by simp [goalS] at he; subst he; exact err20, fun _ _ _ he => by simp [goalS] at he⟩
  | cons t l =>
    have ht := hl t (by simp)
    simp only [goalS]
    split
    · exact ⟨(fun e he => by cases he), fun _ _ _ he => by cases he; exact hl.tail⟩
    · obtain ⟨g1, g2⟩ := termS_e f (t :: l) ns hl
      cases hr : termS f (t :: l) ns with
      | error x => exact ⟨fun e he => by cases he; exact g1 _ hr, fun _ _ _ he => by cases he⟩
      | ok x =>
        obtain ⟨p', l', ns'⟩ := x
        simp only
        split
        · exact ⟨(fun e he => by cases he), fun _ _ _ he => by cases he; exact g2 _ _ _ hr⟩
        · exact ⟨fun e he => by cases he; exact err_k 5 (by decide) (by decide) ht.1, fun _ _ _ he => by cases he⟩
theorem goalsP_e (f : Nat) : ∀ (k : Nat) (acc : List (List Part)) (l : List Tok) (ns : List ByteArray), Es l → (∀ e, goalsP f k acc l ns = .error e → ErrOk e) ∧ (∀ a1 l2 ns2, goalsP f k acc l ns = .ok (a1, l2, ns2) → Es l2)
  | 0, _, _, _, _ => ⟨fun e he => by simp [goalsP] at he; subst he; exact err20, fun _ _ _ he => by simp [goalsP] at he⟩
  | k + 1, acc, l, ns, hl => by
    rw [goalsP]
    obtain ⟨g1, g2⟩ := goalS_e f l ns hl
    cases hr : goalS f l ns with
    | error x => exact ⟨fun e he => by cases he; exact g1 _ hr, fun _ _ _ he => by cases he⟩
    | ok x =>
      obtain ⟨p, l1, ns1⟩ := x
      have g3 := g2 p l1 ns1 hr
      cases l1 with
      | nil => exact ⟨fun e he => by cases he; exact err20, fun _ _ _ he => by cases he⟩
      | cons u l3 =>
        simp only
        have hu := g3 u (by simp)
        split
        · split
          · exact ⟨fun e he => by cases he; exact err_k 3 (by decide) (by decide) hu.1, fun _ _ _ he => by cases he⟩
          · exact goalsP_e f k _ l3 ns1 g3.tail
        · exact ⟨(fun e he => by cases he), fun _ _ _ he => by cases he; exact g3⟩
theorem goalsS_e (f k : Nat) (acc : List (List Part)) (l : List Tok) (ns : List ByteArray) (hl : Es l) : (∀ e, goalsS f k acc l ns = .error e → ErrOk e) ∧ (∀ a1 l2 ns2, goalsS f k acc l ns = .ok (a1, l2, ns2) → Es l2) := by
  rw [goalsS_P]
  obtain ⟨g1, g2⟩ := goalsP_e f k acc l ns hl
  cases hr : goalsP f k acc l ns with
  | error x => exact ⟨fun e he => by cases he; exact g1 _ hr, fun _ _ _ he => by cases he⟩
  | ok x =>
    obtain ⟨a1, l1, ns1⟩ := x
    have g3 := g2 _ _ _ hr
    cases l1 with
    | nil => exact ⟨(fun e he => by cases he), fun _ _ _ he => by cases he; exact g3⟩
    | cons u l3 =>
      unfold noBad
      simp only
      split
      · exact ⟨fun e he => by cases he; exact errOf_ok (g3 u (by simp)), fun _ _ _ he => by cases he⟩
      · exact ⟨(fun e he => by cases he), fun _ _ _ he => by cases he; exact g3⟩
theorem questS_e {s : ByteArray} {e : Int × Nat} (h : questS s = .error e) : ErrOk e := by
  unfold questS at h
  split at h
  · cases h; exact ⟨by decide, by decide, by decide⟩
  · rename_i h4
    unfold questP at h
    obtain ⟨g1, g2⟩ := goalsP_e (tokens s).length 8 [] (tokens s) [] (toks_e s (by omega) _ _)
    cases hr : goalsP (tokens s).length 8 [] (tokens s) [] with
    | error x => rw [hr] at h; cases h; exact g1 _ hr
    | ok x =>
      obtain ⟨gs, l1, ns⟩ := x
      have g3 := g2 _ _ _ hr
      rw [hr] at h
      simp only at h
      split at h
      · cases h; exact err20
      · rename_i u l2
        split at h
        · split at h
          · cases h; exact err20
          · rename_i y l4
            split at h
            · cases h
            · cases h; exact errOf_ok (g3 y (by simp))
        · cases h; exact errOf_ok (g3 u (by simp))
theorem dotS_e (c : List Part × List (List Part)) (l : List Tok) (ns : List ByteArray) (hl : Es l) : (∀ e, dotS c l ns = .error e → ErrOk e) ∧ (∀ d l2, dotS c l ns = .ok (d, l2) → Es l2) := by
  unfold dotS
  cases l with
  | nil => exact ⟨fun e he => by cases he; exact err20, fun _ _ he => by cases he⟩
  | cons u l1 =>
    simp only
    split
    · exact ⟨(fun e he => by cases he), fun _ _ he => by cases he; exact hl.tail⟩
    · exact ⟨fun e he => by cases he; exact errOf_ok (hl u (by simp)), fun _ _ he => by cases he⟩
theorem clauseS_e (f : Nat) (l : List Tok) (hl : Es l) : (∀ e, clauseS f l = .error e → ErrOk e) ∧ (∀ d l2, clauseS f l = .ok (d, l2) → Es l2) := by
  unfold clauseS
  cases l with
  | nil => exact ⟨fun e he => by cases he; exact err20, fun _ _ he => by cases he⟩
  | cons t l =>
    simp only
    obtain ⟨g1, g2⟩ := termS_e f (t :: l) [] hl
    cases hr : termS f (t :: l) [] with
    | error x => exact ⟨fun e he => by cases he; exact g1 _ hr, fun _ _ he => by cases he⟩
    | ok x =>
      obtain ⟨p, l1, ns1⟩ := x
      have g3 := g2 _ _ _ hr
      simp only
      split
      · cases l1 with
        | nil => exact ⟨fun e he => by cases he; exact err20, fun _ _ he => by cases he⟩
        | cons u l2 =>
          simp only
          split
          · obtain ⟨k1, k2⟩ := goalsS_e f 8 [] l2 ns1 g3.tail
            cases hg : goalsS f 8 [] l2 ns1 with
            | error x => exact ⟨fun e he => by cases he; exact k1 _ hg, fun _ _ he => by cases he⟩
            | ok x =>
              obtain ⟨gs, l3, ns2⟩ := x
              exact dotS_e _ l3 ns2 (k2 _ _ _ hg)
          · exact dotS_e _ _ ns1 g3
      · exact ⟨fun e he => by cases he; exact err_k 4 (by decide) (by decide) (hl t (by simp)).1, fun _ _ he => by cases he⟩
theorem clausesS_e (f : Nat) : ∀ (k : Nat) (acc : List Cl) (l : List Tok), Es l → ∀ e, clausesS f k acc l = .error e → ErrOk e
  | 0, _, _, _, e, he => by simp [clausesS] at he; subst he; exact err20
  | _ + 1, _, [], _, e, he => by simp [clausesS] at he; subst he; exact err20
  | k + 1, acc, t :: l, hl, e, he => by
    rw [clausesS] at he
    split at he
    · cases he
    · obtain ⟨g1, g2⟩ := clauseS_e f (t :: l) hl
      cases hr : clauseS f (t :: l) with
      | error x => rw [hr] at he; cases he; exact g1 _ hr
      | ok x =>
        obtain ⟨c, l1⟩ := x
        rw [hr] at he
        exact clausesS_e f k _ l1 (g2 _ _ hr) e he
theorem readS_e {s : ByteArray} {e : Int × Nat} (h : readS s = .error e) : ErrOk e := by
  unfold readS at h
  split at h
  · cases h; exact ⟨by decide, by decide, by decide⟩
  · rename_i h4
    exact clausesS_e _ _ _ _ (toks_e s (by omega) _ _) e h
/-- A reply whose numbers are small. -/
def RepOk (r : Rep) : Prop := -1000 ≤ r.kind ∧ r.kind ≤ 1000 ∧ 0 ≤ r.code ∧ r.code ≤ 10 ∧ 0 ≤ r.place ∧ r.place ≤ 400
def consultE (cls : List Cl) (s : ByteArray) : Int × Nat := match readS s with
  | .error e => e
  | .ok new => if 30 < cls.length + new.length then (6, 0) else (0, 0)
theorem consult_e (cls : List Cl) (s : ByteArray) : ErrOk (consultE cls s) := by
  unfold consultE
  cases hr : readS s with
  | error e => exact readS_e hr
  | ok new =>
    simp only []
    split
    · exact ⟨by decide, by decide, by decide⟩
    · exact ⟨by decide, by decide, by decide⟩
end Rf
namespace Rf
theorem play_kind (cs : List Cl) (n : Nat) (r : Int × Cf) (h : OutK r.1) : -1 ≤ (playN cs n r).1 ∧ (playN cs n r).1 ≤ 12 := by
  obtain ⟨t', o, _, h2, h3⟩ := playN_ind (cs := cs) (P := fun _ x => OutK x.1) (fun _ cf _ => again_kind cs cf) (fun _ cf _ _ => take_kind cs cf) n 0 r h
  rcases h3 with ⟨_, h4⟩ | ⟨_, h4 | h4⟩
  · rw [h4]
    have h5 : OutK o := h2
    unfold OutK at h5
    omega
  · omega
  · omega
theorem reply_rep {S : Se} {names : List ByteArray} {r : Int × Cf} (h : -1 ≤ r.1 ∧ r.1 ≤ 12) : RepOk (replyS S names r).1 := by
  unfold replyS
  split
  · exact ⟨by show (-1000 : Int) ≤ 1; decide, by show (1 : Int) ≤ 1000; decide, Int.le_refl _, by show (0 : Int) ≤ 10; decide, Int.le_refl _, by show (0 : Int) ≤ 400; decide⟩
  · exact ⟨by show -1000 ≤ r.1; omega, by show r.1 ≤ 1000; omega, Int.le_refl _, by show (0 : Int) ≤ 10; decide, Int.le_refl _, by show (0 : Int) ≤ 400; decide⟩
theorem ask_rep (S : Se) (s : ByteArray) : RepOk (askS S s).1 := by
  unfold askS
  cases hr : questS s with
  | error e =>
    have he := questS_e hr
    exact ⟨by show (-1000 : Int) ≤ 4; decide, by show (4 : Int) ≤ 1000; decide, he.1, he.2.1, by show (0 : Int) ≤ (e.2 : Int); omega, by show (e.2 : Int) ≤ 400; have := he.2.2; omega⟩
  | ok x =>
    obtain ⟨gs, ns⟩ := x
    refine reply_rep ?_
    unfold firstS
    split
    · exact ⟨by show (-1 : Int) ≤ 7; decide, by show (7 : Int) ≤ 12; decide⟩
    · exact play_kind _ _ _ (.inl rfl)
theorem more_rep (S : Se) : RepOk (moreS S).1 := by
  unfold moreS
  split
  · show RepOk (repK 3); exact ⟨by decide, by decide, by decide, by decide, by decide, by decide⟩
  · exact reply_rep (play_kind _ _ _ (.inr (.inl rfl)))
end Rf
/- Plain functions: moves and what they answer (the statements' own texts of replies). -/
namespace Rf
structure MoveV where
  kd : Int
  s : ByteArray
def spB : ByteArray := ⟨#[32]⟩
/-- A reply as a text. -/
def writtenB (r : Rep) : ByteArray := itoaB r.kind ++ spB ++ r.text ++ spB ++ itoaB r.code ++ spB ++ itoaB r.place
def consT (x : Int × Nat) : ByteArray := itoaB x.1 ++ spB ++ itoaB x.2
def lineSum (cls : List Cl) : Nat → ByteArray
  | 0 => ⟨#[]⟩
  | k + 1 => lineSum cls k ++ (match cls[k]? with | some c => lineP c | none => ⟨#[]⟩)
def listS (cls : List Cl) : ByteArray := lineSum cls cls.length
/-- A move: what is answered, and the session behind it. -/
def moveS (S : Se) (m : MoveV) : ByteArray × Se :=
  if m.kd = 1 then (consT (consultS S m.s).1, (consultS S m.s).2)
  else if m.kd = 2 then (writtenB (askS S m.s).1, (askS S m.s).2)
  else if m.kd = 3 then (writtenB (moreS S).1, (moreS S).2)
  else if m.kd = 4 then (⟨#[]⟩, stopS S)
  else if m.kd = 5 then (listS S.cls, S)
  else (⟨#[]⟩, S)
def movedS (S : Se) : List MoveV → List ByteArray × Se
  | [] => ([], S)
  | m :: l => ((moveS S m).1 :: (movedS (moveS S m).2 l).1, (movedS (moveS S m).2 l).2)
theorem movedS_snoc (S : Se) : ∀ (l : List MoveV) (m : MoveV), movedS S (l ++ [m]) = ((movedS S l).1 ++ [(moveS (movedS S l).2 m).1], (moveS (movedS S l).2 m).2)
  | [], m => rfl
  | x :: l, m => by
    have ih := movedS_snoc (moveS S x).2 l m
    show ((moveS S x).1 :: (movedS (moveS S x).2 (l ++ [m])).1, (movedS (moveS S x).2 (l ++ [m])).2) = _
    rw [ih]
    rfl
theorem movedS_len (S : Se) : ∀ (l : List MoveV), (movedS S l).1.length = l.length
  | [] => rfl
  | x :: l => by show ((movedS (moveS S x).2 l).1.length + 1) = l.length + 1; rw [movedS_len (moveS S x).2 l]
theorem consult_small (S : Se) (s : ByteArray) : ErrOk (consultS S s).1 := by
  show ErrOk (consultC S.cls s).1
  unfold consultC
  cases hr : readS s with
  | error e => exact readS_e hr
  | ok new =>
    simp only []
    split
    · exact err_k 6 (by decide) (by decide) (by decide)
    · exact err_k 0 (by decide) (by decide) (by decide)
end Rf
