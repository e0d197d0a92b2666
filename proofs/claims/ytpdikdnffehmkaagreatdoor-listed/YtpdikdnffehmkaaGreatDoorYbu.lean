/- Plain facts: a fault's number and place are small. -/
import Derived.Test.YtpdikdnffehmkaaGreatDoorYan
import Derived.Test.YtpdikdnffehmkaaGreatDoorYbt
namespace Rf
def ErrOk (x : Int × Nat) : Prop := 0 ≤ x.1 ∧ x.1 ≤ 10 ∧ x.2 ≤ 400
def TokE (t : Tok) : Prop := t.at_ ≤ 400 ∧ 0 ≤ t.e ∧ t.e ≤ 10
def Es (l : List Tok) : Prop := ∀ t ∈ l, TokE t
theorem Es.tail {t : Tok} {l : List Tok} (h : Es (t :: l)) : Es l := fun u hu => h u (List.mem_cons_of_mem _ hu)
theorem err_k (k : Int) (h0 : 0 ≤ k) (h1 : k ≤ 10) {n : Nat} (hn : n ≤ 400) : ErrOk (k, n) := ⟨h0, h1, hn⟩
theorem err20 : ErrOk (2, 0) := ⟨by decide, by decide, by decide⟩
theorem tokenAt_e (s : ByteArray) (n : Nat) : (tokenAt s n).at_ = n ∧ 0 ≤ (tokenAt s n).e ∧ (tokenAt s n).e ≤ 10 := by
  unfold tokenAt numTok wordTok bad
  repeat' split
  all_goals simp
theorem toks_e (s : ByteArray) (h4 : s.size ≤ 400) : ∀ (f n : Nat), Es (toks s f n)
  | 0, n => fun t ht => by simp [toks] at ht; subst ht; exact ⟨h4, by simp [endTok], by simp [endTok]⟩
  | f + 1, n => by
    rw [toks]
    split
    · rename_i hn
      have hk := tokenAt_e s n
      have ht : TokE (tokenAt s n) := ⟨by rw [hk.1]; omega, hk.2⟩
      split
      · exact toks_e s h4 f _
      · split
        · intro t h; simp at h; subst h; exact ht
        · intro t h
          rcases List.mem_cons.1 h with rfl | h
          · exact ht
          · exact toks_e s h4 f _ t h
    · intro t ht; simp at ht; subst ht; exact ⟨h4, by simp [endTok], by simp [endTok]⟩
theorem errOf_ok {t : Tok} (h : TokE t) : ErrOk (errOf t 2) := by
  unfold errOf
  refine ⟨?_, ?_, h.1⟩
  · simp only []; split
    · exact h.2.1
    · decide
  · simp only []; split
    · exact h.2.2
    · decide
def ReadsR (rd : List Tok → List ByteArray → Except (Int × Nat) (List Part × List Tok × List ByteArray)) : Prop := ∀ l ns, Es l → (∀ e, rd l ns = .error e → ErrOk e) ∧ (∀ p l1 ns1, rd l ns = .ok (p, l1, ns1) → Es l1)
theorem argsS_e (rd : List Tok → List ByteArray → Except (Int × Nat) (List Part × List Tok × List ByteArray)) (h : ReadsR rd) :
    ∀ (k : Nat) (acc : List (List Part)) (l : List Tok) (ns : List ByteArray), Es l → (∀ e, argsS rd k acc l ns = .error e → ErrOk e) ∧ (∀ a1 l2 ns2, argsS rd k acc l ns = .ok (a1, l2, ns2) → Es l2)
  | 0, _, _, _, _ => ⟨fun e he => by simp [argsS] at he; subst he; exact err20, fun _ _ _ he => by simp [argsS] at he⟩
  | k + 1, acc, l, ns, hl => by
    rw [argsS]
    obtain ⟨g1, g2⟩ := h l ns hl
    cases hr : rd l ns with
    | error x => exact ⟨fun e he => by cases he; exact g1 _ hr, fun _ _ _ he => by cases he⟩
    | ok x =>
      obtain ⟨p, l1, ns1⟩ := x
      have g3 := g2 p l1 ns1 hr
      cases l1 with
      | nil => exact ⟨fun e he => by cases he; exact err20, fun _ _ _ he => by cases he⟩
      | cons u l3 =>
        simp only
        have hu := g3 u (by simp)
        split
        · split
          · exact ⟨fun e he => by cases he; exact err_k 3 (by decide) (by decide) hu.1, fun _ _ _ he => by cases he⟩
          · exact argsS_e rd h k _ l3 ns1 g3.tail
        · split
          · exact ⟨(fun e he => by cases he), fun _ _ _ he => by cases he; exact g3.tail⟩
          · exact ⟨fun e he => by cases he; exact errOf_ok hu, fun _ _ _ he => by cases he⟩
theorem termS_e : ∀ (f : Nat), ReadsR (termS f)
  | 0 => fun _ _ _ => ⟨fun e he => by simp [termS] at he; subst he; exact err20, fun _ _ _ he => by simp [termS] at he⟩
  | f + 1 => fun l ns hl => by
    cases l with
    | nil => exact ⟨fun e he => by simp [termS] at he; subst he; exact err20, fun _ _ _ he => by simp [termS] at he⟩
    | cons t l =>
      have ht := hl t (by simp)
      rw [termS]
      split
      · unfold varT varS
        cases lookS t.s ns with
        | some i => exact ⟨(fun e he => by cases he), fun _ _ _ he => by cases he; exact hl.tail⟩
        | none =>
          simp only []
          split
          · rename_i h9
            split at h9
            · cases h9; exact ⟨fun e he => by cases he; exact err_k 3 (by decide) (by decide) ht.1, fun _ _ _ he => by cases he⟩
            · cases h9
          · exact ⟨(fun e he => by cases he), fun _ _ _ he => by cases he; exact hl.tail⟩
      · split
        · exact ⟨(fun e he => by cases he), fun _ _ _ he => by cases he; exact hl.tail⟩
        · split
          · cases l with
            | nil => exact ⟨fun e he => by cases he; exact err20, fun _ _ _ he => by cases he⟩
            | cons u l' =>
              simp only [nameS]
              split
              · obtain ⟨g1, g2⟩ := argsS_e (termS f) (termS_e f) 4 [] l' ns hl.tail.tail
                cases ha : argsS (termS f) 4 [] l' ns with
                | error x => exact ⟨fun e he => by cases he; exact g1 _ ha, fun _ _ _ he => by cases he⟩
                | ok x =>
                  obtain ⟨a1, l2, ns2⟩ := x
                  exact ⟨(fun e he => by cases he), fun _ _ _ he => by cases he; exact g2 _ _ _ ha⟩
              · exact ⟨(fun e he => by cases he), fun _ _ _ he => by cases he; exact hl.tail⟩
          · exact ⟨fun e he => by cases he; exact errOf_ok ht, fun _ _ _ he => by cases he⟩
theorem goalS_e (f : Nat) : ReadsR (goalS f) := fun l ns hl => by
  cases l with
  | nil => exact ⟨fun e he => by simp [goalS] at he; subst he; exact err20, fun _ _ _ he => by simp [goalS] at he⟩
  | cons t l =>
    have ht := hl t (by simp)
    simp only [goalS]
    split
    · exact ⟨(fun e he => by cases he), fun _ _ _ he => by cases he; exact hl.tail⟩
    · obtain ⟨g1, g2⟩ := termS_e f (t :: l) ns hl
      cases hr : termS f (t :: l) ns with
      | error x => exact ⟨fun e he => by cases he; exact g1 _ hr, fun _ _ _ he => by cases he⟩
      | ok x =>
        obtain ⟨p', l', ns'⟩ := x
        simp only
        split
        · exact ⟨(fun e he => by cases he), fun _ _ _ he => by cases he; exact g2 _ _ _ hr⟩
        · exact ⟨fun e he => by cases he; exact err_k 5 (by decide) (by decide) ht.1, fun _ _ _ he => by cases he⟩
theorem goalsP_e (f : Nat) : ∀ (k : Nat) (acc : List (List Part)) (l : List Tok) (ns : List ByteArray), Es l → (∀ e, goalsP f k acc l ns = .error e → ErrOk e) ∧ (∀ a1 l2 ns2, goalsP f k acc l ns = .ok (a1, l2, ns2) → Es l2)
  | 0, _, _, _, _ => ⟨fun e he => by simp [goalsP] at he; subst he; exact err20, fun _ _ _ he => by simp [goalsP] at he⟩
  | k + 1, acc, l, ns, hl => by
    rw [goalsP]
    obtain ⟨g1, g2⟩ := goalS_e f l ns hl
    cases hr : goalS f l ns with
    | error x => exact ⟨fun e he => by cases he; exact g1 _ hr, fun _ _ _ he => by cases he⟩
    | ok x =>
      obtain ⟨p, l1, ns1⟩ := x
      have g3 := g2 p l1 ns1 hr
      cases l1 with
      | nil => exact ⟨fun e he => by cases he; exact err20, fun _ _ _ he => by cases he⟩
      | cons u l3 =>
        simp only
        have hu := g3 u (by simp)
        split
        · split
          · exact ⟨fun e he => by cases he; exact err_k 3 (by decide) (by decide) hu.1, fun _ _ _ he => by cases he⟩
          · exact goalsP_e f k _ l3 ns1 g3.tail
        · exact ⟨(fun e he => by cases he), fun _ _ _ he => by cases he; exact g3⟩
theorem goalsS_e (f k : Nat) (acc : List (List Part)) (l : List Tok) (ns : List ByteArray) (hl : Es l) : (∀ e, goalsS f k acc l ns = .error e → ErrOk e) ∧ (∀ a1 l2 ns2, goalsS f k acc l ns = .ok (a1, l2, ns2) → Es l2) := by
  rw [goalsS_P]
  obtain ⟨g1, g2⟩ := goalsP_e f k acc l ns hl
  cases hr : goalsP f k acc l ns with
  | error x => exact ⟨fun e he => by cases he; exact g1 _ hr, fun _ _ _ he => by cases he⟩
  | ok x =>
    obtain ⟨a1, l1, ns1⟩ := x
    have g3 := g2 _ _ _ hr
    cases l1 with
    | nil => exact ⟨(fun e he => by cases he), fun _ _ _ he => by cases he; exact g3⟩
    | cons u l3 =>
      unfold noBad
      simp only
      split
      · exact ⟨fun e he => by cases he; exact errOf_ok (g3 u (by simp)), fun _ _ _ he => by cases he⟩
      · exact ⟨(fun e he => by cases he), fun _ _ _ he => by cases he; exact g3⟩
theorem questS_e {s : ByteArray} {e : Int × Nat} (h : questS s = .error e) : ErrOk e := by
  unfold questS at h
  split at h
  · cases h; exact ⟨by decide, by decide, by decide⟩
  · rename_i h4
    unfold questP at h
    obtain ⟨g1, g2⟩ := goalsP_e (tokens s).length 8 [] (tokens s) [] (toks_e s (by omega) _ _)
    cases hr : goalsP (tokens s).length 8 [] (tokens s) [] with
    | error x => rw [hr] at h; cases h; exact g1 _ hr
    | ok x =>
      obtain ⟨gs, l1, ns⟩ := x
      have g3 := g2 _ _ _ hr
      rw [hr] at h
      simp only at h
      split at h
      · cases h; exact err20
      · rename_i u l2
        split at h
        · split at h
          · cases h; exact err20
          · rename_i y l4
            split at h
            · cases h
            · cases h; exact errOf_ok (g3 y (by simp))
        · cases h; exact errOf_ok (g3 u (by simp))
theorem dotS_e (c : List Part × List (List Part)) (l : List Tok) (ns : List ByteArray) (hl : Es l) : (∀ e, dotS c l ns = .error e → ErrOk e) ∧ (∀ d l2, dotS c l ns = .ok (d, l2) → Es l2) := by
  unfold dotS
  cases l with
  | nil => exact ⟨fun e he => by cases he; exact err20, fun _ _ he => by cases he⟩
  | cons u l1 =>
    simp only
    split
    · exact ⟨(fun e he => by cases he), fun _ _ he => by cases he; exact hl.tail⟩
    · exact ⟨fun e he => by cases he; exact errOf_ok (hl u (by simp)), fun _ _ he => by cases he⟩
theorem clauseS_e (f : Nat) (l : List Tok) (hl : Es l) : (∀ e, clauseS f l = .error e → ErrOk e) ∧ (∀ d l2, clauseS f l = .ok (d, l2) → Es l2) := by
  unfold clauseS
  cases l with
  | nil => exact ⟨fun e he => by cases he; exact err20, fun _ _ he => by cases he⟩
  | cons t l =>
    simp only
    obtain ⟨g1, g2⟩ := termS_e f (t :: l) [] hl
    cases hr : termS f (t :: l) [] with
    | error x => exact ⟨fun e he => by cases he; exact g1 _ hr, fun _ _ he => by cases he⟩
    | ok x =>
      obtain ⟨p, l1, ns1⟩ := x
      have g3 := g2 _ _ _ hr
      simp only
      split
      · cases l1 with
        | nil => exact ⟨fun e he => by cases he; exact err20, fun _ _ he => by cases he⟩
        | cons u l2 =>
          simp only
          split
          · obtain ⟨k1, k2⟩ := goalsS_e f 8 [] l2 ns1 g3.tail
            cases hg : goalsS f 8 [] l2 ns1 with
            | error x => exact ⟨fun e he => by cases he; exact k1 _ hg, fun _ _ he => by cases he⟩
            | ok x =>
              obtain ⟨gs, l3, ns2⟩ := x
              exact dotS_e _ l3 ns2 (k2 _ _ _ hg)
          · exact dotS_e _ _ ns1 g3
      · exact ⟨fun e he => by cases he; exact err_k 4 (by decide) (by decide) (hl t (by simp)).1, fun _ _ he => by cases he⟩
theorem clausesS_e (f : Nat) : ∀ (k : Nat) (acc : List Cl) (l : List Tok), Es l → ∀ e, clausesS f k acc l = .error e → ErrOk e
  | 0, _, _, _, e, he => by simp [clausesS] at he; subst he; exact err20
  | _ + 1, _, [], _, e, he => by simp [clausesS] at he; subst he; exact err20
  | k + 1, acc, t :: l, hl, e, he => by
    rw [clausesS] at he
    split at he
    · cases he
    · obtain ⟨g1, g2⟩ := clauseS_e f (t :: l) hl
      cases hr : clauseS f (t :: l) with
      | error x => rw [hr] at he; cases he; exact g1 _ hr
      | ok x =>
        obtain ⟨c, l1⟩ := x
        rw [hr] at he
        exact clausesS_e f k _ l1 (g2 _ _ hr) e he
theorem readS_e {s : ByteArray} {e : Int × Nat} (h : readS s = .error e) : ErrOk e := by
  unfold readS at h
  split at h
  · cases h; exact ⟨by decide, by decide, by decide⟩
  · rename_i h4
    exact clausesS_e _ _ _ _ (toks_e s (by omega) _ _) e h
/-- A reply whose numbers are small. -/
def RepOk (r : Rep) : Prop := -1000 ≤ r.kind ∧ r.kind ≤ 1000 ∧ 0 ≤ r.code ∧ r.code ≤ 10 ∧ 0 ≤ r.place ∧ r.place ≤ 400
def consultE (cls : List Cl) (s : ByteArray) : Int × Nat := match readS s with
  | .error e => e
  | .ok new => if 30 < cls.length + new.length then (6, 0) else (0, 0)
theorem consult_e (cls : List Cl) (s : ByteArray) : ErrOk (consultE cls s) := by
  unfold consultE
  cases hr : readS s with
  | error e => exact readS_e hr
  | ok new =>
    simp only []
    split
    · exact ⟨by decide, by decide, by decide⟩
    · exact ⟨by decide, by decide, by decide⟩
end Rf
namespace Rf
theorem play_kind (cs : List Cl) (n : Nat) (r : Int × Cf) (h : OutK r.1) : -1 ≤ (playN cs n r).1 ∧ (playN cs n r).1 ≤ 12 := by
  obtain ⟨t', o, _, h2, h3⟩ := playN_ind (cs := cs) (P := fun _ x => OutK x.1) (fun _ cf _ => again_kind cs cf) (fun _ cf _ _ => take_kind cs cf) n 0 r h
  rcases h3 with ⟨_, h4⟩ | ⟨_, h4 | h4⟩
  · rw [h4]
    have h5 : OutK o := h2
    unfold OutK at h5
    omega
  · omega
  · omega
theorem reply_rep {S : Se} {names : List ByteArray} {r : Int × Cf} (h : -1 ≤ r.1 ∧ r.1 ≤ 12) : RepOk (replyS S names r).1 := by
  unfold replyS
  split
  · exact ⟨by show (-1000 : Int) ≤ 1; decide, by show (1 : Int) ≤ 1000; decide, Int.le_refl _, by show (0 : Int) ≤ 10; decide, Int.le_refl _, by show (0 : Int) ≤ 400; decide⟩
  · exact ⟨by show -1000 ≤ r.1; omega, by show r.1 ≤ 1000; omega, Int.le_refl _, by show (0 : Int) ≤ 10; decide, Int.le_refl _, by show (0 : Int) ≤ 400; decide⟩
theorem ask_rep (S : Se) (s : ByteArray) : RepOk (askS S s).1 := by
  unfold askS
  cases hr : questS s with
  | error e =>
    have he := questS_e hr
    exact ⟨by show (-1000 : Int) ≤ 4; decide, by show (4 : Int) ≤ 1000; decide, he.1, he.2.1, by show (0 : Int) ≤ (e.2 : Int); omega, by show (e.2 : Int) ≤ 400; have := he.2.2; omega⟩
  | ok x =>
    obtain ⟨gs, ns⟩ := x
    refine reply_rep ?_
    unfold firstS
    split
    · exact ⟨by show (-1 : Int) ≤ 7; decide, by show (7 : Int) ≤ 12; decide⟩
    · exact play_kind _ _ _ (.inl rfl)
theorem more_rep (S : Se) : RepOk (moreS S).1 := by
  unfold moreS
  split
  · show RepOk (repK 3); exact ⟨by decide, by decide, by decide, by decide, by decide, by decide⟩
  · exact reply_rep (play_kind _ _ _ (.inr (.inl rfl)))
end Rf
/- Plain functions: moves and what they answer (the statements' own texts of replies). -/
namespace Rf
structure MoveV where
  kd : Int
  s : ByteArray
def spB : ByteArray := ⟨#[32]⟩
/-- A reply as a text. -/
def writtenB (r : Rep) : ByteArray := itoaB r.kind ++ spB ++ r.text ++ spB ++ itoaB r.code ++ spB ++ itoaB r.place
def consT (x : Int × Nat) : ByteArray := itoaB x.1 ++ spB ++ itoaB x.2
def lineSum (cls : List Cl) : Nat → ByteArray
  | 0 => ⟨#[]⟩
  | k + 1 => lineSum cls k ++ (match cls[k]? with | some c => lineP c | none => ⟨#[]⟩)
def listS (cls : List Cl) : ByteArray := lineSum cls cls.length
/-- A move: what is answered, and the session behind it. -/
def moveS (S : Se) (m : MoveV) : ByteArray × Se :=
  if m.kd = 1 then (consT (consultS S m.s).1, (consultS S m.s).2)
  else if m.kd = 2 then (writtenB (askS S m.s).1, (askS S m.s).2)
  else if m.kd = 3 then (writtenB (moreS S).1, (moreS S).2)
  else if m.kd = 4 then (⟨#[]⟩, stopS S)
  else if m.kd = 5 then (listS S.cls, S)
  else (⟨#[]⟩, S)
def movedS (S : Se) : List MoveV → List ByteArray × Se
  | [] => ([], S)
  | m :: l => ((moveS S m).1 :: (movedS (moveS S m).2 l).1, (movedS (moveS S m).2 l).2)
theorem movedS_snoc (S : Se) : ∀ (l : List MoveV) (m : MoveV), movedS S (l ++ [m]) = ((movedS S l).1 ++ [(moveS (movedS S l).2 m).1], (moveS (movedS S l).2 m).2)
  | [], m => rfl
  | x :: l, m => by
    have ih := movedS_snoc (moveS S x).2 l m
    show ((moveS S x).1 :: (movedS (moveS S x).2 (l ++ [m])).1, (movedS (moveS S x).2 (l ++ [m])).2) = _
    rw [ih]
    rfl
theorem movedS_len (S : Se) : ∀ (l : List MoveV), (movedS S l).1.length = l.length
  | [] => rfl
  | x :: l => by show ((movedS (moveS S x).2 l).1.length + 1) = l.length + 1; rw [movedS_len (moveS S x).2 l]
theorem consult_small (S : Se) (s : ByteArray) : ErrOk (consultS S s).1 := by
  show ErrOk (consultC S.cls s).1
  unfold consultC
  cases hr : readS s with
  | error e => exact readS_e hr
  | ok new =>
    simp only []
    split
    · exact err_k 6 (by decide) (by decide) (by decide)
    · exact err_k 0 (by decide) (by decide) (by decide)
end Rf
/- Plain functions: a listing's lines are its clauses' texts; consulted one by one they give the clauses again (promise P6). -/
namespace Rf
/-- A text's lines, without their newlines: k bytes are left, the line began at from. -/
def linesR (s : ByteArray) : Nat → Nat → List ByteArray
  | 0, _ => []
  | k + 1, from_ => if byteAt s (s.size - (k + 1)) = 10 then s.extract from_ (s.size - (k + 1)) :: linesR s k (s.size - (k + 1) + 1) else linesR s k from_
def NoNl (s : ByteArray) : Prop := ∀ x ∈ bs s, x ≠ 10
theorem NoNl.app {a b : ByteArray} (ha : NoNl a) (hb : NoNl b) : NoNl (a ++ b) := fun x hx => by
  rw [bs_app] at hx
  rcases List.mem_append.1 hx with h | h
  · exact ha x h
  · exact hb x h
theorem nl_emp : NoNl ⟨#[]⟩ := fun x hx => by simp [bs] at hx
theorem nl_one (c : UInt8) (h : c ≠ 10) : NoNl ⟨#[c]⟩ := fun x hx => by simp [bs] at hx; subst hx; exact h
theorem closeP_nl : ∀ st, NoNl (closeP st).1
  | [] => nl_emp
  | k :: st => by
    rw [closeP]
    split
    · exact nl_one 44 (by decide)
    · exact (nl_one 41 (by decide)).app (closeP_nl st)
theorem textG_nl {wd : Part → ByteArray} : ∀ (ps : List Part) (st : List Nat), (∀ p ∈ ps, NoNl (wd p)) → NoNl (textG wd ps st)
  | [], _, _ => nl_emp
  | p :: ps, st, h => by
    have h1 := h p (by simp)
    have h2 : ∀ q ∈ ps, NoNl (wd q) := fun q hq => h q (List.mem_cons_of_mem _ hq)
    rw [textG]
    split
    · exact h1.app ((nl_one 40 (by decide)).app (textG_nl ps _ h2))
    · exact h1.app ((closeP_nl st).app (textG_nl ps _ h2))
theorem nl_digit {x : UInt8} (h : digitB x.toNat = true) : x ≠ 10 := by rintro rfl; exact absurd h (by decide)
theorem nl_letter {x : UInt8} (h : letterB x.toNat = true) : x ≠ 10 := by rintro rfl; exact absurd h (by decide)
theorem part_nl {p : Part} (h : PartOk letters p) : NoNl (wl p) := by
  unfold wl wordN
  rcases h with ⟨h1, _, _, h4, h5⟩ | ⟨h1, _⟩ | ⟨h1, _, ⟨c, W, hW, _, hl, _⟩, _⟩
  · rw [if_pos h1]
    rw [letters_len] at h5
    have hi : p.value.toNat < 16 := by omega
    rw [letters_at hi]
    refine nl_one _ (fun e => ?_)
    have e2 := congrArg UInt8.toNat e
    rw [letter_nat hi] at e2
    have : (10 : UInt8).toNat = 10 := rfl
    omega
  · rw [if_neg (by omega), if_pos h1]
    intro x hx
    unfold itoaB bs Go.Lib.itoa at hx
    split at hx
    · simp at hx
      rcases hx with rfl | hx
      · decide
      · exact nl_digit ((decDigits_ok _ _ (Nat.lt_succ_self _)).1 x hx)
    · simp at hx
      exact nl_digit ((decDigits_ok _ _ (Nat.lt_succ_self _)).1 x hx)
  · rw [if_neg (by omega), if_neg (by omega), if_neg (by omega)]
    intro x hx
    rw [hW] at hx
    exact nl_letter (hl x hx)
theorem goal_nl {g : List Part} (h : GoalOk letters g) : NoNl (txtG wl g) := by
  rcases h with rfl | ⟨_, h, _⟩
  · exact nl_one 33 (by decide)
  · exact textG_nl _ _ (fun p hp => part_nl (h p hp))
theorem goals_nl : ∀ (gs : List (List Part)), (∀ g ∈ gs, GoalOk letters g) → NoNl (goalsT wl gs)
  | [], _ => nl_emp
  | [g], h => by show NoNl (txtG wl g); exact goal_nl (h g (by simp))
  | g :: g' :: gs, h => by
    show NoNl (txtG wl g ++ (⟨#[44]⟩ ++ goalsT wl (g' :: gs)))
    exact (goal_nl (h g (by simp))).app ((nl_one 44 (by decide)).app (goals_nl (g' :: gs) (fun q hq => h q (List.mem_cons_of_mem _ hq))))
theorem line_nl {c : Cl} (h : ClOkN letters c) : NoNl (lineL c) := by
  unfold lineL lineN
  refine NoNl.app (textG_nl _ _ (fun p hp => part_nl (h.hp p hp))) (NoNl.app ?_ (nl_one 46 (by decide)))
  unfold bodyT
  split
  · exact nl_emp
  · have e : (⟨#[58, 45]⟩ : ByteArray) = ⟨#[58]⟩ ++ ⟨#[45]⟩ := rfl
    rw [e]
    exact ((nl_one 58 (by decide)).app (nl_one 45 (by decide))).app (goals_nl _ h.bg)
def catL : List ByteArray → ByteArray
  | [] => ⟨#[]⟩
  | x :: l => x ++ ⟨#[10]⟩ ++ catL l
theorem lines_skip (s x : ByteArray) (p r : Nat) (rest : List UInt8) (hp : p + x.size + 1 + r = s.size) (hh : Has s p (bs x) (10 :: rest)) (hx : NoNl x) : ∀ (d j : Nat), d + j = x.size → linesR s (d + 1 + r) p = x :: linesR s r (p + x.size + 1)
  | 0, j, h => by
    have hb : byteAt s (p + x.size) = 10 := by
      have h9 : Has s (p + (bs x).length) [10] rest := Has.join (b := [10]) hh
      rw [bs_len] at h9
      exact h9.byte
    rw [show 0 + 1 + r = r + 1 by omega, linesR, show s.size - (r + 1) = p + x.size by omega, if_pos hb]
    congr 1
    refine bs_inj ?_
    have h9 : (bs s).drop p = bs x ++ 10 :: rest := hh
    unfold bs at h9 ⊢
    rw [ByteArray.data_extract, Array.toList_extract, List.extract_eq_take_drop, h9, show p + x.size - p = x.data.toList.length by simp, List.take_left']
    rfl
  | d + 1, j, h => by
    have hj : j < (bs x).length := by rw [bs_len]; omega
    have hsp : bs x = (bs x).take j ++ ((bs x)[j] :: (bs x).drop (j + 1)) := by rw [List.getElem_cons_drop, List.take_append_drop]
    have h1 : Has s p ((bs x).take j ++ ((bs x)[j] :: (bs x).drop (j + 1))) (10 :: rest) := by rw [← hsp]; exact hh
    have h2 := (Has.app h1).2
    rw [List.length_take, show min j (bs x).length = j by omega] at h2
    have hb := h2.byte
    have hne : ¬ byteAt s (p + j) = 10 := by
      rw [hb]
      intro e
      have h3 := hx _ (List.getElem_mem hj)
      have e4 : ((bs x)[j]).toNat = 10 := by omega
      exact h3 (UInt8.toNat_inj.1 (by rw [e4]; rfl))
    rw [show d + 1 + 1 + r = (d + 1 + r) + 1 by omega, linesR, show s.size - (d + 1 + r + 1) = p + j by omega, if_neg hne]
    exact lines_skip s x p r rest hp hh hx d (j + 1) (by omega)
theorem lines_cat (s : ByteArray) : ∀ (ls : List ByteArray) (pre : ByteArray), s = pre ++ catL ls → (∀ x ∈ ls, NoNl x) → linesR s (catL ls).size pre.size = ls
  | [], pre, _, _ => rfl
  | x :: l, pre, hs, hn => by
    have h10 : (⟨#[10]⟩ : ByteArray).size = 1 := rfl
    have hz : (catL (x :: l)).size = x.size + 1 + (catL l).size := by
      show (x ++ ⟨#[10]⟩ ++ catL l).size = _
      rw [ByteArray.size_append, ByteArray.size_append, h10]
    have hsz : pre.size + x.size + 1 + (catL l).size = s.size := by rw [hs, ByteArray.size_append, hz]; omega
    have hh : Has s pre.size (bs x) (10 :: bs (catL l)) := by
      show (bs s).drop pre.size = _
      rw [hs, bs_app]
      rw [← bs_len, List.drop_left']
      · show bs (x ++ ⟨#[10]⟩ ++ catL l) = _
        rw [bs_app, bs_app]
        show bs x ++ [10] ++ bs (catL l) = _
        simp
      · rfl
    rw [hz, lines_skip s x pre.size (catL l).size _ hsz hh (hn x (by simp)) x.size 0 (by omega)]
    have ih := lines_cat s l (pre ++ (x ++ ⟨#[10]⟩)) (by rw [hs]; show pre ++ (x ++ ⟨#[10]⟩ ++ catL l) = _; simp only [ByteArray.append_assoc]) (fun y hy => hn y (List.mem_cons_of_mem _ hy))
    rw [ByteArray.size_append, ByteArray.size_append, h10] at ih
    rw [show pre.size + x.size + 1 = pre.size + (x.size + 1) by omega, ih]
/-- All clauses of a session can be listed in a text each. -/
def LsOk (S : Se) : Prop := ∀ c ∈ S.cls, (lineL c).size ≤ 400
theorem cat_snoc : ∀ (l : List ByteArray) (x : ByteArray), catL (l ++ [x]) = catL l ++ (x ++ ⟨#[10]⟩)
  | [], x => by show x ++ ⟨#[10]⟩ ++ ⟨#[]⟩ = ⟨#[]⟩ ++ (x ++ ⟨#[10]⟩); rw [app_emp, emp_app]
  | y :: l, x => by
    show y ++ ⟨#[10]⟩ ++ catL (l ++ [x]) = y ++ ⟨#[10]⟩ ++ catL l ++ (x ++ ⟨#[10]⟩)
    rw [cat_snoc l x]; simp only [ByteArray.append_assoc]
theorem list_cat {cls : List Cl} (h : ∀ c ∈ cls, ClR c ∧ c.vars ≤ 16 ∧ ClG c) : listS cls = catL (cls.map lineL) := by
  have key : ∀ k, k ≤ cls.length → lineSum cls k = catL ((cls.take k).map lineL) := by
    intro k
    induction k with
    | zero => intro _; rfl
    | succ k ih =>
      intro hk
      have hk' : k < cls.length := by omega
      have hm := h _ (List.getElem_mem hk')
      rw [lineSum, ih (by omega), List.getElem?_eq_getElem hk', List.take_succ_eq_append_getElem hk', List.map_append, List.map_cons, List.map_nil, cat_snoc]
      show _ ++ lineP cls[k] = _
      rw [lineL_P hm.1 hm.2.1]
  have := key cls.length (Nat.le_refl _)
  rw [List.take_length] at this
  exact this
theorem list_lines {cls : List Cl} (h : ∀ c ∈ cls, ClR c ∧ c.vars ≤ 16 ∧ ClG c) : linesR (listS cls) (listS cls).size 0 = cls.map lineL := by
  have h1 := list_cat h
  have h2 := lines_cat (listS cls) (cls.map lineL) ⟨#[]⟩ (by rw [h1, emp_app]) (fun x hx => by
    obtain ⟨c, hc, rfl⟩ := List.mem_map.1 hx
    exact line_nl ((h c hc).1.okN (h c hc).2.1))
  rw [← h1] at h2
  exact h2
theorem consult_line {lim : Nat} {cls : List Cl} (h : ∀ c ∈ cls, ClR c ∧ c.vars ≤ 16 ∧ ClG c) (hl : ∀ c ∈ cls, (lineL c).size ≤ 400) (h30 : cls.length ≤ 30) {k : Nat} (hk : k < cls.length) : consultS ⟨lim, cls.take k, none⟩ (lineL cls[k]) = ((0, 0), ⟨lim, cls.take (k + 1), none⟩) := by
  have hm := h _ (List.getElem_mem hk)
  have hr := read_line hm.1 hm.2.1 (hl _ (List.getElem_mem hk))
  unfold consultS consultC
  rw [hr]
  simp only []
  rw [if_neg (by rw [List.length_take]; simp only [List.length_cons, List.length_nil]; omega), List.take_succ_eq_append_getElem hk]
theorem ask_cls (S : Se) (s : ByteArray) : (askS S s).2.cls = S.cls := by
  unfold askS
  split
  · rfl
  · unfold replyS; split <;> rfl
theorem more_cls (S : Se) : (moreS S).2.cls = S.cls := by
  unfold moreS
  split
  · rfl
  · unfold replyS; split <;> rfl
theorem move_ls {S : Se} (h : LsOk S) (m : MoveV) : LsOk (moveS S m).2 := by
  unfold moveS
  split
  · show LsOk (consultS S m.s).2
    unfold consultS consultC
    cases hr : readS m.s with
    | error e => exact h
    | ok new =>
      simp only []
      split
      · exact h
      · intro c hc
        rcases List.mem_append.1 hc with hc | hc
        · exact h c hc
        · exact line_size hr c hc
  · split
    · intro c hc; rw [ask_cls] at hc; exact h c hc
    · split
      · intro c hc; rw [more_cls] at hc; exact h c hc
      · split
        · exact h
        · split
          · exact h
          · exact h
theorem move_lim (S : Se) (m : MoveV) : (moveS S m).2.lim = S.lim := by
  unfold moveS
  split
  · rfl
  · split
    · exact WorksL.lim_ask S m.s
    · split
      · exact WorksL.lim_more S
      · split
        · rfl
        · split
          · rfl
          · rfl
theorem moved_ls : ∀ (l : List MoveV) (S : Se), LsOk S → LsOk (movedS S l).2 ∧ (movedS S l).2.lim = S.lim
  | [], S, h => ⟨h, rfl⟩
  | m :: l, S, h => by
    have h1 := moved_ls l (moveS S m).2 (move_ls h m)
    exact ⟨h1.1, h1.2.trans (move_lim S m)⟩
theorem listS_size {cls : List Cl} (h : ∀ c ∈ cls, ClR c ∧ c.vars ≤ 16 ∧ ClG c) (hl : ∀ c ∈ cls, (lineL c).size ≤ 400) (h30 : cls.length ≤ 30) : (listS cls).size ≤ 13000 := by
  rw [list_cat h]
  have key : ∀ ls : List ByteArray, (∀ x ∈ ls, x.size ≤ 400) → (catL ls).size ≤ ls.length * 401 := by
    intro ls
    induction ls with
    | nil => intro _; exact Nat.zero_le _
    | cons x l ih =>
      intro hx
      have h1 := ih (fun y hy => hx y (List.mem_cons_of_mem _ hy))
      have h2 := hx x (by simp)
      show (x ++ ⟨#[10]⟩ ++ catL l).size ≤ _
      rw [ByteArray.size_append, ByteArray.size_append, List.length_cons]
      have : (⟨#[10]⟩ : ByteArray).size = 1 := rfl
      omega
  have h3 := key (cls.map lineL) (fun x hx => by
    obtain ⟨c, hc, rfl⟩ := List.mem_map.1 hx
    exact hl c hc)
  rw [List.length_map] at h3
  omega
end Rf
