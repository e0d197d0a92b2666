
import Derived.Test.YtbiojnljihgpoaaGreatDoorZaa
namespace Rf
def ArgOk (p : Part) : Prop := 0 <= p.args /\ p.args <= 4
theorem argsS_arg (rd : List Tok -> List ByteArray -> Except (Int × Nat) (List Part × List Tok × List ByteArray)) (h : ∀ l ns p l1 ns1, rd l ns = .ok (p, l1, ns1) -> ∀ x ∈ p, ArgOk x) :
  ∀ (k : Nat) (acc : List (List Part)) (l : List Tok) (ns : List ByteArray) (a1 : List (List Part)) (l2 : List Tok) (ns2 : List ByteArray),
  (∀ q ∈ acc, ∀ x ∈ q, ArgOk x) -> argsS rd k acc l ns = .ok (a1, l2, ns2) -> (∀ q ∈ a1, ∀ x ∈ q, ArgOk x) /\ a1.length <= acc.length + k
 | 0, _, _, _, _, _, _, _, e => by simp [argsS] at e
 | k + 1, acc, l, ns, a1, l2, ns2, hacc, e => by
  rw [argsS] at e
  cases hr : rd l ns with
  | error x => rw [hr] at e; cases e
  | ok x =>
   obtain ⟨p, l1, ns1⟩ := x
   have g1 := h l ns p l1 ns1 hr
   rw [hr] at e
   cases l1 with
   | nil => cases e
   | cons u l3 =>
    simp only at e
    have hacc' : ∀ q ∈ acc ++ [p], ∀ x ∈ q, ArgOk x := fun q hq => by
     rcases List.mem_append.1 hq with hq | hq
     ·exact hacc q hq
     ·simp at hq; subst hq; exact g1
    split at e
    ·split at e
     ·cases e
     ·have := argsS_arg rd h k _ l3 ns1 a1 l2 ns2 hacc' e
      refine ⟨this.1, ?_⟩
      have h2 := this.2
      simp only [List.length_append, List.length_cons, List.length_nil] at h2
      omega
    ·split at e
     ·simp only [Except.ok.injEq, Prod.mk.injEq] at e
      obtain ⟨rfl, rfl, rfl⟩ := e
      exact ⟨hacc', by simp⟩
     ·cases e
theorem termS_arg : ∀ (f : Nat) (l : List Tok) (ns : List ByteArray) (p : List Part) (l1 : List Tok) (ns1 : List ByteArray), termS f l ns = .ok (p, l1, ns1) -> ∀ x ∈ p, ArgOk x
 | 0, _, _, _, _, _, e => by simp [termS] at e
 | _ + 1, [], _, _, _, _, e => by simp [termS] at e
 | f + 1, t :: l, ns, p, l1, ns1, e => by
  rw [termS] at e
  split at e
  ·unfold varT at e
   split at e
   ·cases e
   ·simp only [Except.ok.injEq, Prod.mk.injEq] at e; obtain ⟨rfl, _⟩ := e; intro x hx; simp at hx; subst hx; exact ⟨by simp, by simp⟩
  ·split at e
   ·simp only [Except.ok.injEq, Prod.mk.injEq] at e; obtain ⟨rfl, _⟩ := e; intro x hx; simp at hx; subst hx; exact ⟨by simp, by simp⟩
   ·split at e
    ·cases l with
     | nil => cases e
     | cons u l' =>
      simp only [nameS] at e
      split at e
      ·cases ha : argsS (termS f) 4 [] l' ns with
       | error x => rw [ha] at e; cases e
       | ok x =>
        obtain ⟨as, l2, ns2⟩ := x
        rw [ha] at e
        simp only [Except.ok.injEq, Prod.mk.injEq] at e
        obtain ⟨rfl, _⟩ := e
        have h2 := argsS_arg (termS f) (termS_arg f) 4 [] l' ns as l2 ns2 (fun q hq => by simp at hq) ha
        intro x hx
        rcases List.mem_cons.1 hx with rfl | hx
        ·have := h2.2
         simp only [List.length_nil] at this
         exact ⟨by show (0 : Int) <= (as.length : Int); omega, by show (as.length : Int) <= 4; omega⟩
        ·obtain ⟨q, hq, hx⟩ := List.mem_flatten.1 hx
         exact h2.1 q hq x hx
      ·simp only [Except.ok.injEq, Prod.mk.injEq] at e; obtain ⟨rfl, _⟩ := e; intro x hx; simp at hx; subst hx; exact ⟨by simp, by simp⟩
    ·cases e
theorem goalS_arg {f : Nat} {l : List Tok} {ns : List ByteArray} {p : List Part} {l1 : List Tok} {ns1 : List ByteArray} (e : goalS f l ns = .ok (p, l1, ns1)) : ∀ x ∈ p, ArgOk x := by
 cases l with
 | nil => cases e
 | cons t l =>
  simp only [goalS] at e
  split at e
  ·simp only [Except.ok.injEq, Prod.mk.injEq] at e
   obtain ⟨rfl, rfl, rfl⟩ := e
   intro x hx; simp at hx; subst hx; exact ⟨by simp, by simp⟩
  ·cases hr : termS f (t :: l) ns with
   | error x => rw [hr] at e; cases e
   | ok x =>
    obtain ⟨p', l', ns'⟩ := x
    rw [hr] at e
    simp only at e
    split at e
    ·simp only [Except.ok.injEq, Prod.mk.injEq] at e
     obtain ⟨rfl, rfl, rfl⟩ := e
     exact termS_arg f _ _ _ _ _ hr
    ·cases e
theorem goalsS_arg (f : Nat) : ∀ (k : Nat) (acc : List (List Part)) (l : List Tok) (ns : List ByteArray) (a1 : List (List Part)) (l2 : List Tok) (ns2 : List ByteArray),
  (∀ q ∈ acc, ∀ x ∈ q, ArgOk x) -> goalsS f k acc l ns = .ok (a1, l2, ns2) -> ∀ q ∈ a1, ∀ x ∈ q, ArgOk x
 | 0, _, _, _, _, _, _, _, e => by simp [goalsS] at e
 | k + 1, acc, l, ns, a1, l2, ns2, hacc, e => by
  rw [goalsS] at e
  cases hr : goalS f l ns with
  | error x => rw [hr] at e; cases e
  | ok x =>
   obtain ⟨p, l1, ns1⟩ := x
   have g1 := goalS_arg hr
   rw [hr] at e
   cases l1 with
   | nil => cases e
   | cons u l3 =>
    simp only at e
    have hacc' : ∀ q ∈ acc ++ [p], ∀ x ∈ q, ArgOk x := fun q hq => by
     rcases List.mem_append.1 hq with hq | hq
     ·exact hacc q hq
     ·simp at hq; subst hq; exact g1
    split at e
    ·split at e
     ·cases e
     ·exact goalsS_arg f k _ l3 ns1 a1 l2 ns2 hacc' e
    ·split at e
     ·cases e
     ·simp only [Except.ok.injEq, Prod.mk.injEq] at e
      obtain ⟨rfl, rfl, rfl⟩ := e
      exact hacc'
def ArgCl (c : Cl) : Prop := (∀ x ∈ c.head, ArgOk x) /\ (∀ q ∈ c.body, ∀ x ∈ q, ArgOk x)
theorem dotS_arg {c : List Part × List (List Part)} {l : List Tok} {ns : List ByteArray} {cl : Cl} {l1 : List Tok} (h : dotS c l ns = .ok (cl, l1)) (hc : ArgCl ⟨c.1, c.2, 0⟩) : ArgCl cl := by
 cases l with
 | nil => cases h
 | cons u l =>
  simp only [dotS] at h
  split at h
  ·simp only [Except.ok.injEq, Prod.mk.injEq] at h; obtain ⟨rfl, rfl⟩ := h; exact hc
  ·cases h
theorem clauseS_arg {f : Nat} {l : List Tok} {cl : Cl} {l1 : List Tok} (h : clauseS f l = .ok (cl, l1)) : ArgCl cl := by
 cases l with
 | nil => cases h
 | cons t l =>
  simp only [clauseS] at h
  cases hr : termS f (t :: l) [] with
  | error x => rw [hr] at h; cases h
  | ok x =>
   obtain ⟨p, l2, ns2⟩ := x
   have g1 := termS_arg f _ _ _ _ _ hr
   rw [hr] at h
   simp only at h
   split at h
   ·cases l2 with
    | nil => cases h
    | cons u l3 =>
     simp only at h
     split at h
     ·cases hg : goalsS f 8 [] l3 ns2 with
      | error x => rw [hg] at h; cases h
      | ok x =>
       obtain ⟨gs, l4, ns3⟩ := x
       rw [hg] at h
       simp only at h
       exact dotS_arg h ⟨g1, goalsS_arg f _ _ _ _ _ _ _ (fun q hq => by simp at hq) hg⟩
     ·exact dotS_arg h ⟨g1, fun q hq => by simp at hq⟩
   ·cases h
theorem clausesS_arg (f : Nat) : ∀ (k : Nat) (acc : List Cl) (l : List Tok) (out : List Cl), (∀ c ∈ acc, ArgCl c) -> clausesS f k acc l = .ok out -> ∀ c ∈ out, ArgCl c
 | 0, _, _, _, _, e => by simp [clausesS] at e
 | _ + 1, _, [], _, _, e => by simp [clausesS] at e
 | k + 1, acc, t :: l, out, hacc, e => by
  rw [clausesS] at e
  split at e
  ·simp only [Except.ok.injEq] at e; subst e; exact hacc
  ·cases hc : clauseS f (t :: l) with
   | error x => rw [hc] at e; cases e
   | ok x =>
    obtain ⟨c, l1⟩ := x
    rw [hc] at e
    exact clausesS_arg f k (acc ++ [c]) l1 out (fun x hx => by
     rcases List.mem_append.1 hx with hx | hx
     ·exact hacc x hx
     ·simp at hx; subst hx; exact clauseS_arg hc) e
theorem readS_arg {s : ByteArray} {out : List Cl} (h : readS s = .ok out) : ∀ c ∈ out, ArgCl c := by
 unfold readS at h
 split at h
 ·cases h
 ·exact clausesS_arg _ _ [] _ out (fun c hc => by simp at hc) h
def goalsP (f : Nat) : Nat -> List (List Part) -> List Tok -> List ByteArray -> Except (Int × Nat) (List (List Part) × List Tok × List ByteArray)
 | 0, _, _, _ => .error (2, 0)
 | k + 1, acc, l, ns => match goalS f l ns with
  | .error e => .error e
  | .ok (p, l1, ns1) => match l1 with
   | [] => .error (2, 0)
   | u :: l2 => if u.k = 44 then (if acc.length + 1 = 8 then .error (3, u.at_) else goalsP f k (acc ++ [p]) l2 ns1) else .ok (acc ++ [p], u :: l2, ns1)
def noBad (res : Except (Int × Nat) (List (List Part) × List Tok × List ByteArray)) : Except (Int × Nat) (List (List Part) × List Tok × List ByteArray) :=
 match res with
 | .ok (gs, u :: l2, ns) => if u.k = 63 then .error (errOf u 2) else .ok (gs, u :: l2, ns)
 | x => x
theorem goalsS_P (f : Nat) : ∀ (k : Nat) (acc : List (List Part)) (l : List Tok) (ns : List ByteArray), goalsS f k acc l ns = noBad (goalsP f k acc l ns)
 | 0, _, _, _ => rfl
 | k + 1, acc, l, ns => by
  rw [goalsS, goalsP]
  cases goalS f l ns with
  | error e => rfl
  | ok x =>
   obtain ⟨p, l1, ns1⟩ := x
   cases l1 with
   | nil => rfl
   | cons u l2 =>
    simp only []
    by_cases h : u.k = 44
    ·rw [if_pos h, if_pos h]
     split
     ·rfl
     ·exact goalsS_P f k _ l2 ns1
    ·rw [if_neg h, if_neg h]
     rfl
theorem goalsP_len (f : Nat) : ∀ (k : Nat) (acc : List (List Part)) (l : List Tok) (ns : List ByteArray) (a1 : List (List Part)) (l2 : List Tok) (ns2 : List ByteArray),
  goalsP f k acc l ns = .ok (a1, l2, ns2) -> ∃ y l3, l2 = y :: l3
 | 0, _, _, _, _, _, _, e => by simp [goalsP] at e
 | k + 1, acc, l, ns, a1, l2, ns2, e => by
  rw [goalsP] at e
  cases hr : goalS f l ns with
  | error x => rw [hr] at e; cases e
  | ok x =>
   obtain ⟨p, l1, ns1⟩ := x
   rw [hr] at e
   cases l1 with
   | nil => cases e
   | cons u l3 =>
    simp only at e
    split at e
    ·split at e
     ·cases e
     ·exact goalsP_len f k _ l3 ns1 a1 l2 ns2 e
    ·simp only [Except.ok.injEq, Prod.mk.injEq] at e; obtain ⟨_, rfl, _⟩ := e; exact ⟨_, _, rfl⟩
def questP (f : Nat) (l : List Tok) : Except (Int × Nat) (List (List Part) × List ByteArray) :=
 match goalsP f 8 [] l [] with
 | .error e => .error e
 | .ok (gs, l1, ns) => match l1 with
  | [] => .error (2, 0)
  | u :: l2 => if u.k = 46 then (match l2 with
    | [] => .error (2, 0)
    | y :: _ => if y.k = 0 then .ok (gs, ns) else .error (errOf y 2))
   else .error (errOf u 2)
theorem goalsP_good (f : Nat) : ∀ (k : Nat) (acc : List (List Part)) (l : List Tok) (ns : List ByteArray) (a1 : List (List Part)) (l2 : List Tok) (ns2 : List ByteArray),
  Ended l -> ns.length <= 16 -> (∀ q ∈ acc, (∀ x ∈ q, Good x) /\ q.length <= 400) -> l.length <= 401 -> goalsP f k acc l ns = .ok (a1, l2, ns2) -> (∀ q ∈ a1, (∀ x ∈ q, Good x) /\ q.length <= 400) /\ ns2.length <= 16 /\ Ended l2
 | 0, _, _, _, _, _, _, _, _, _, _, e => by simp [goalsP] at e
 | k + 1, acc, l, ns, a1, l2, ns2, hl, hn, hacc, h401, e => by
  rw [goalsP] at e
  cases hr : goalS f l ns with
  | error x => rw [hr] at e; cases e
  | ok x =>
   obtain ⟨p, l1, ns1⟩ := x
   obtain ⟨g1, g2, g3, g4⟩ := goalS_good f l ns p l1 ns1 hl hn hr
   rw [hr] at e
   cases l1 with
   | nil => cases e
   | cons u l3 =>
    simp only at e
    simp only [List.length_cons] at g3
    have hacc' : ∀ q ∈ acc ++ [p], (∀ x ∈ q, Good x) /\ q.length <= 400 := fun q hq => by
     rcases List.mem_append.1 hq with hq | hq
     ·exact hacc q hq
     ·simp at hq; subst hq; exact ⟨g1, by omega⟩
    split at e
    ·split at e
     ·cases e
     ·exact goalsP_good f k _ l3 ns1 a1 l2 ns2 (g4.tail (by omega) (by omega)) g2 hacc' (by omega) e
    ·simp only [Except.ok.injEq, Prod.mk.injEq] at e
     obtain ⟨rfl, rfl, rfl⟩ := e
     exact ⟨hacc', g2, g4⟩
def questS (s : ByteArray) : Except (Int × Nat) (List (List Part) × List ByteArray) :=
 if 400 < s.size then .error (1, 0) else questP (tokens s).length (tokens s)
def skipLen (s : ByteArray) (n : Nat) : Nat := ((s.data.toList.drop n).takeWhile fun c => blankB c.toNat).length
theorem skipLen_yes (s : ByteArray) (n : Nat) (h : n < s.size) (hk : blankB (byteAt s n) = true) : skipLen s n = skipLen s (n + 1) + 1 := by
 unfold skipLen
 rw [drop_cons s n h, List.takeWhile_cons, if_pos (by rw [byteAt_eq s n h]; exact hk)]
 simp
theorem skipLen_no (s : ByteArray) (n : Nat) (h : n < s.size) (hk : blankB (byteAt s n) = false) : skipLen s n = 0 := by
 unfold skipLen
 rw [drop_cons s n h, List.takeWhile_cons, if_neg (by rw [byteAt_eq s n h, hk]; simp)]
 rfl
theorem skipLen_end (s : ByteArray) (n : Nat) (h : s.size <= n) : skipLen s n = 0 := by
 unfold skipLen
 rw [List.drop_of_length_le (by simpa using h)]; rfl
theorem skipLen_le (s : ByteArray) (n : Nat) : skipLen s n <= s.size - n := by
 unfold skipLen
 refine Nat.le_trans (List.takeWhile_sublist _).length_le ?_
 simp
def nextTok (s : ByteArray) (n : Nat) : Tok := if n + skipLen s n < s.size then tokenAt s (n + skipLen s n) else endTok s
def rest (s : ByteArray) (n : Nat) : List Tok := toks s (s.size - n) n
theorem toks_fuel (s : ByteArray) : ∀ (f g n : Nat), s.size <= n + f -> s.size <= n + g -> toks s f n = toks s g n
 | 0, g, n, hf, _ => by rw [toks_end s g n (by omega)]; rfl
 | f + 1, 0, n, _, hg => by rw [toks_end s (f + 1) n (by omega)]; rfl
 | f + 1, g + 1, n, hf, hg => by
  rw [toks, toks]
  split
  ·rename_i hn
   split
   ·exact toks_fuel s f g (n + 1) (by omega) (by omega)
   ·split
    ·rfl
    ·rename_i hk
     have := (tokenAt_fit s n hn hk).1
     rw [toks_fuel s f g (n + (tokenAt s n).s.size) (by omega) (by omega)]
  ·rfl
theorem rest_eq (s : ByteArray) : ∀ (f n : Nat), s.size <= n + f -> n <= s.size -> rest s n = (if (nextTok s n).k = 0 \/ (nextTok s n).k = 63 then [nextTok s n] else nextTok s n :: rest s ((nextTok s n).at_ + (nextTok s n).s.size))
 | 0, n, hf, hn => by
  have h0 : n = s.size := by omega
  subst h0
  have : nextTok s s.size = endTok s := by unfold nextTok; rw [skipLen_end s _ (Nat.le_refl _), if_neg (by omega)]
  rw [this, if_pos (.inl rfl)]
  unfold rest
  rw [toks_end s _ _ (Nat.le_refl _)]
 | f + 1, n, hf, hn => by
  by_cases hlt : n < s.size
  ·cases hb : blankB (byteAt s n)
   ·have hnx : nextTok s n = tokenAt s n := by unfold nextTok; rw [skipLen_no s n hlt hb, Nat.add_zero, if_pos hlt]
    rw [hnx]
    have hat : (tokenAt s n).at_ = n := by
     unfold tokenAt numTok wordTok bad
     repeat' split
     all_goals rfl
    unfold rest
    by_cases hk : (tokenAt s n).k = 63
    ·rw [if_pos (.inr hk), toks_bad s _ n hlt (by omega) hb hk]
    ·have hfit := tokenAt_fit s n hlt hk
     rw [if_neg (by intro h; rcases h with h | h; exact tokenAt_ne s n h; exact hk h), toks_tok s _ n hlt (by omega) hb hk, hat]
     rw [toks_fuel s (s.size - n - 1) (s.size - (n + (tokenAt s n).s.size)) _ (by omega) (by omega)]
   ·have hnx : nextTok s n = nextTok s (n + 1) := by
     unfold nextTok; rw [skipLen_yes s n hlt hb, show n + (skipLen s (n + 1) + 1) = n + 1 + skipLen s (n + 1) by omega]
    have hr : rest s n = rest s (n + 1) := by
     unfold rest; rw [toks_blank s _ n hlt (by omega) hb, show s.size - n - 1 = s.size - (n + 1) by omega]
    rw [hr, hnx]
    exact rest_eq s f (n + 1) (by omega) (by omega)
  ·have h0 : n = s.size := by omega
   subst h0
   have : nextTok s s.size = endTok s := by unfold nextTok; rw [skipLen_end s _ (Nat.le_refl _), if_neg (by omega)]
   rw [this, if_pos (.inl rfl)]
   unfold rest
   rw [toks_end s _ _ (Nat.le_refl _)]
def kindOf (k : Int) : Int := if k = 0 then 0 else if k = 63 then 1 else if k = 97 then 2 else if k = 118 then 3 else if k = 110 then 4 else if k = 40 then 5 else if k = 41 then 6 else if k = 44 then 7 else if k = 46 then 8 else if k = 33 then 9 else 10
def smallB (c : Int) : Bool := decide (97 <= c) && decide (c <= 122)
def greatB (c : Int) : Bool := decide (65 <= c) && decide (c <= 90)
theorem okB_digit (c : Int) : okB true c = digitB c := by
 unfold okB
 cases h : digitB c
 ·simp
 ·simp [digit_letter c h]
theorem okB_letter (c : Int) : okB false c = letterB c := by unfold okB; simp
def wordK (L : Nat) (K : Int) : Int := if 12 < L then 1 else K
def wordC (L : Nat) : Int := if 12 < L then 3 else 0
def folK (s : ByteArray) (n : Nat) : Int := if n + 1 < s.size /\ byteAt s (n + 1) = 45 then 10 else 1
def folT (s : ByteArray) (n : Nat) : Int := if n + 1 < s.size /\ byteAt s (n + 1) = 45 then (n : Int) + 2 else (n : Int) + 1
def folC (s : ByteArray) (n : Nat) : Int := if n + 1 < s.size /\ byteAt s (n + 1) = 45 then 0 else 2
def numK (L : Nat) : Int := if L = 0 then 1 else if 9 < L then 1 else 4
def numC (L : Nat) : Int := if L = 0 then 2 else if 9 < L then 3 else 0
def markK (c : Int) : Int := if c = 40 then 5 else if c = 41 then 6 else if c = 44 then 7 else if c = 46 then 8 else if c = 33 then 9 else 1
def markC (c : Int) : Int := if markB c = true then 0 else 2
theorem extract_list (s : ByteArray) (a b : Nat) : (s.extract a b).data.toList = (s.data.toList.drop a).take (b - a) := by
 rw [ByteArray.data_extract, Array.toList_extract, List.extract_eq_take_drop]
theorem ext_list {a b : ByteArray} (h : a.data.toList = b.data.toList) : a = b := by
 cases a; cases b
 simp at h
 rw [h]
theorem byte_at (s : ByteArray) (n : Nat) (h : n < s.size) (c : UInt8) (hc : byteAt s n = c.toNat) : s.data.toList.drop n = c :: s.data.toList.drop (n + 1) := by
 rw [drop_cons s n h]
 have := byteAt_eq s n h
 rw [hc] at this
 rw [UInt8.toNat_inj.1 (Int.ofNat_inj.1 this)]
theorem tokenAt_text (s : ByteArray) (n : Nat) (hn : n < s.size) (h : (tokenAt s n).k ≠ 63) : s.extract n (n + (tokenAt s n).s.size) = (tokenAt s n).s := by
 have hrun : ∀ dg, s.extract n (n + (runS s dg n).size) = runS s dg n := by intro dg; rw [runS_size]; rfl
 unfold tokenAt at *
 split at h
 ·rename_i h1
  rw [if_pos h1]
  unfold numTok at *
  split at h
  ·simp [bad] at h
  ·split at h
   ·simp [bad] at h
   ·rename_i h2 h3
    rw [if_neg h2, if_neg h3]
    show s.extract n (n + (⟨#[45]⟩ ++ runS s true (n + 1) : ByteArray).size) = ⟨#[45]⟩ ++ runS s true (n + 1)
    refine ext_list ?_
    rw [neg_size, extract_list, byte_at s n hn 45 (by rw [h1]; rfl), ByteArray.data_append, Array.toList_append, runS_size]
    have : n + (runLen s true (n + 1) + 1) - n = runLen s true (n + 1) + 1 := by omega
    rw [this, List.take_succ_cons]
    have h9 := extract_list s (n + 1) (n + 1 + runLen s true (n + 1))
    rw [show n + 1 + runLen s true (n + 1) - (n + 1) = runLen s true (n + 1) by omega] at h9
    rw [<- h9]
    rfl
 ·rename_i h1
  rw [if_neg h1]
  split at h
  ·rename_i h2
   rw [if_pos h2]
   unfold numTok at *
   split at h
   ·simp [bad] at h
   ·split at h
    ·simp [bad] at h
    ·rename_i h3 h4
     rw [if_neg h3, if_neg h4]
     exact hrun true
  ·rename_i h2
   rw [if_neg h2]
   split at h
   ·rename_i h3
    rw [if_pos h3, wordTok_fit _ _ _ h]
    exact hrun false
   ·rename_i h3
    rw [if_neg h3]
    split at h
    ·rename_i h4
     rw [if_pos h4]
     show s.extract n (n + (s.extract n (n + 1)).size) = s.extract n (n + 1)
     rw [ByteArray.size_extract, show min (n + 1) s.size - n = 1 by omega]
    ·rename_i h4
     rw [if_neg h4]
     split at h
     ·rename_i h5
      rw [if_pos h5]
      show s.extract n (n + 2) = ⟨#[58, 45]⟩
      refine ext_list ?_
      rw [extract_list, byte_at s n hn 58 (by rw [h5.1]; rfl), byte_at s (n + 1) h5.2.1 45 (by rw [h5.2.2]; rfl), show n + 2 - n = 2 by omega]
      rfl
     ·simp [bad] at h
def digAdd (v : Nat) (c : UInt8) : Nat := if digitB c.toNat = true then v * 10 + (c.toNat - 48) else v
def vOf (l : List UInt8) : Nat := l.foldl digAdd 0
theorem vOf_succ (l : List UInt8) (j : Nat) (h : j < l.length) : vOf (l.take (j + 1)) = digAdd (vOf (l.take j)) l[j] := by
 unfold vOf
 rw [List.take_succ_eq_append_getElem h, List.foldl_append]
 rfl
theorem foldl_bd : ∀ (l : List UInt8) (acc : Nat), l.foldl digAdd acc + 1 <= (acc + 1) * 10 ^ l.length
 | [], acc => by simp
 | c :: l, acc => by
  refine Nat.le_trans (foldl_bd l (digAdd acc c)) ?_
  rw [List.length_cons, Nat.pow_succ, Nat.mul_comm (10 ^ l.length) 10, <- Nat.mul_assoc]
  refine Nat.mul_le_mul_right _ ?_
  unfold digAdd digitB
  split
  ·rename_i h; simp at h; omega
  ·omega
theorem vOf_bd (l : List UInt8) (n : Nat) (h : l.length <= n) : vOf l + 1 <= 10 ^ n := by
 have := foldl_bd l 0
 simp only [Nat.zero_add, Nat.one_mul] at this
 exact Nat.le_trans this (Nat.pow_le_pow_right (by omega) h)
theorem decFrom_fold : ∀ (l : List UInt8) (acc : Nat), (l.all fun c => digitB c.toNat) = true -> Go.Lib.decFrom acc l = some (l.foldl digAdd acc)
 | [], acc, _ => rfl
 | c :: l, acc, h => by
  simp only [List.all_cons, Bool.and_eq_true] at h
  have hc := h.1
  unfold digitB at hc
  simp only [Bool.and_eq_true, decide_eq_true_eq] at hc
  rw [Go.Lib.decFrom, Go.Lib.digitVal, if_pos (by omega), List.foldl_cons]
  show Go.Lib.decFrom (acc * 10 + (c.toNat - 48)) l = _
  rw [decFrom_fold l _ h.2]
  unfold digAdd
  rw [if_pos h.1]
def signV (c : Int) (v : Nat) : Int := if c = 45 then -(v : Int) else v
theorem numVal_tok (s : ByteArray) (n : Nat) (hk : (tokenAt s n).k = 110) : numVal (tokenAt s n).s = signV (byteAt s n) (vOf (tokenAt s n).s.data.toList) := by
 have hnum : ∀ (neg : Bool) (W : ByteArray), (W.data.toList.all fun c => digitB c.toNat) = true -> (numTok n neg W).k = 110 -> numVal (numTok n neg W).s = if neg = true then -(vOf (numTok n neg W).s.data.toList : Int) else vOf (numTok n neg W).s.data.toList := by
  intro neg W hW hk
  unfold numTok at *
  split at hk
  ·simp [bad] at hk
  ·split at hk
   ·simp [bad] at hk
   ·rename_i h1 h2
    rw [if_neg h1, if_neg h2]
    have hd := decFrom_fold W.data.toList 0 hW
    have hdn : Go.Lib.decNat W.data.toList = some (vOf W.data.toList) := by
     unfold Go.Lib.decNat
     rw [if_neg (by rw [List.isEmpty_iff]; intro e; apply h1; simpa using congrArg List.length e)]
     exact hd
    cases neg with
    | true =>
     show numVal (⟨#[45]⟩ ++ W : ByteArray) = -(vOf (⟨#[45]⟩ ++ W : ByteArray).data.toList : Int)
     unfold numVal
     rw [ByteArray.data_append, Array.toList_append]
     have : vOf ((#[45] : Array UInt8).toList ++ W.data.toList) = vOf W.data.toList := by unfold vOf; rw [List.foldl_append]; rfl
     rw [this]
     simp [Go.Lib.atoi, hdn]
    | false =>
     show numVal W = (vOf W.data.toList : Int)
     unfold numVal
     cases hw : W.data.toList with
     | nil => exact absurd (by simpa using congrArg List.length hw) h1
     | cons c l =>
      rw [hw] at hW hdn
      simp only [List.all_cons, Bool.and_eq_true] at hW
      have hc := hW.1
      unfold digitB at hc
      simp only [Bool.and_eq_true, decide_eq_true_eq] at hc
      have c1 : (c == 45) = false := by rw [beq_eq_false_iff_ne]; rintro rfl; revert hc; decide
      have c2 : (c == 43) = false := by rw [beq_eq_false_iff_ne]; rintro rfl; revert hc; decide
      simp [Go.Lib.atoi, c1, c2, hdn]
 have hm : ∀ c : Int, markB c = true -> c ≠ 110 := by intro c h; unfold markB at h; simp at h; omega
 unfold signV
 unfold tokenAt at *
 split at hk
 ·rename_i h1
  rw [if_pos h1, if_pos h1, hnum true _ (run_digits _ _) hk, if_pos rfl]
 ·rename_i h1
  rw [if_neg h1, if_neg h1]
  split at hk
  ·rename_i h2
   rw [if_pos h2, hnum false _ (run_digits _ _) hk, if_neg (by decide)]
  ·split at hk
   ·unfold wordTok at hk
    split at hk
    ·simp [bad] at hk
    ·split at hk <;> simp at hk
   ·split at hk
    ·rename_i h; exact absurd hk (hm _ h)
    ·split at hk
     ·simp at hk
     ·simp [bad] at hk
def Has (s : ByteArray) (n : Nat) (b r : List UInt8) : Prop := s.data.toList.drop n = b ++ r
theorem Has.len {s : ByteArray} {n : Nat} {b r : List UInt8} (h : Has s n b r) (hn : n <= s.size) : n + b.length + r.length = s.size := by
 have := congrArg List.length h
 simp at this
 have h2 : s.data.size = s.size := rfl
 omega
theorem Has.app {s : ByteArray} {n : Nat} {a b r : List UInt8} (h : Has s n (a ++ b) r) : Has s n a (b ++ r) /\ Has s (n + a.length) b r := by
 unfold Has at *
 refine ⟨by rw [h, List.append_assoc], ?_⟩
 rw [<- List.drop_drop, h, List.append_assoc, List.drop_left]
theorem Has.join {s : ByteArray} {n : Nat} {a b r : List UInt8} (h : Has s n a (b ++ r)) : Has s (n + a.length) b r := by
 unfold Has at *
 rw [<- List.drop_drop, h, List.drop_left]
theorem Has.lt {s : ByteArray} {n : Nat} {c : UInt8} {b r : List UInt8} (h : Has s n (c :: b) r) : n < s.size := by
 have := congrArg List.length h
 simp at this
 have h2 : s.data.size = s.size := rfl
 omega
theorem Has.byte {s : ByteArray} {n : Nat} {c : UInt8} {b r : List UInt8} (h : Has s n (c :: b) r) : byteAt s n = c.toNat := by
 unfold byteAt
 have h1 : (s.data.toList.drop n)[0]? = some c := by rw [h]; rfl
 rw [List.getElem?_drop, Nat.add_zero] at h1
 rw [h1]
 rfl
def Stop (ok : Int -> Bool) (r : List UInt8) : Prop := ∀ c r', r = c :: r' -> ok c.toNat = false
theorem takeWhile_stop {ok : Int -> Bool} {W r : List UInt8} (hW : ∀ c ∈ W, ok c.toNat = true) (hr : Stop ok r) : (W ++ r).takeWhile (fun c => ok c.toNat) = W := by
 rw [List.takeWhile_append_of_pos (fun c hc => hW c hc)]
 cases r with
 | nil => simp
 | cons c r' => rw [List.takeWhile_cons, if_neg (by rw [hr c r' rfl]; simp), List.append_nil]
theorem run_has {s : ByteArray} {n : Nat} {dg : Bool} {W r : List UInt8} (h : Has s n W r) (hW : ∀ c ∈ W, okB dg c.toNat = true) (hr : Stop (okB dg) r) : runLen s dg n = W.length /\ runS s dg n = ⟨W.toArray⟩ := by
 have h1 : runLen s dg n = W.length := by
  unfold runLen
  rw [h, takeWhile_stop hW hr]
 refine ⟨h1, ext_list ?_⟩
 unfold runS
 rw [extract_list, h1, h, show n + W.length - n = W.length by omega, List.take_left]
theorem next_at {s : ByteArray} {n : Nat} {c : UInt8} {b r : List UInt8} (h : Has s n (c :: b) r) (hb : blankB c.toNat = false) : nextTok s n = tokenAt s n := by
 have hlt := h.lt
 unfold nextTok
 rw [skipLen_no s n hlt (by rw [h.byte]; exact hb), Nat.add_zero, if_pos hlt]
theorem rest_at {s : ByteArray} {n : Nat} {t : Tok} {k : Nat} (hn : n <= s.size) (h : nextTok s n = t) (h0 : t.k ≠ 0) (h63 : t.k ≠ 63) (hat : t.at_ = n) (hk : t.s.size = k) : rest s n = t :: rest s (n + k) := by
 rw [rest_eq s (s.size - n) n (by omega) hn, h, if_neg (by intro e; rcases e with e | e <;> contradiction), hat, hk]
theorem rest_end {s : ByteArray} : rest s s.size = [endTok s] := by
 unfold rest
 rw [toks_end s _ _ (Nat.le_refl _)]
theorem rest_mark {s : ByteArray} {n : Nat} {c : UInt8} {b r : List UInt8} (h : Has s n (c :: b) r) (hm : markB c.toNat = true) : ∃ x, rest s n = ⟨c.toNat, n, x, 0⟩ :: rest s (n + 1) := by
 have hlt := h.lt
 have hby := h.byte
 have hc : (c.toNat : Int) = 40 \/ (c.toNat : Int) = 41 \/ (c.toNat : Int) = 44 \/ (c.toNat : Int) = 46 \/ (c.toNat : Int) = 33 := by
  unfold markB at hm; simp at hm; omega
 have hb : blankB c.toNat = false := by unfold blankB; simp; omega
 have ht : tokenAt s n = ⟨c.toNat, n, s.extract n (n + 1), 0⟩ := by
  unfold tokenAt
  rw [hby, if_neg (by omega), if_neg (by unfold digitB; simp; omega), if_neg (by unfold letterB; simp; omega), if_pos hm]
 refine ⟨s.extract n (n + 1), rest_at (by omega) ((next_at h hb).trans ht) (by show (c.toNat : Int) ≠ 0; omega) (by show (c.toNat : Int) ≠ 63; omega) rfl ?_⟩
 show (s.extract n (n + 1)).size = 1
 rw [ByteArray.size_extract]; omega
theorem rest_impl {s : ByteArray} {n : Nat} {b r : List UInt8} (h : Has s n (58 :: 45 :: b) r) : ∃ x, rest s n = ⟨58, n, x, 0⟩ :: rest s (n + 2) := by
 have hlt := h.lt
 have hby := h.byte
 have h2 : Has s (n + 1) (45 :: b) r := by
  have h9 : Has s n ([58] ++ (45 :: b)) r := h
  exact h9.app.2
 have ht : tokenAt s n = ⟨58, n, ⟨#[58, 45]⟩, 0⟩ := by
  unfold tokenAt
  rw [hby, h2.byte]
  rw [if_neg (by decide), if_neg (by decide), if_neg (by decide), if_neg (by decide), if_pos ⟨by decide, by have := h2.lt; omega, by decide⟩]
 exact ⟨_, rest_at (by omega) ((next_at h (by decide)).trans ht) (by show (58 : Int) ≠ 0; decide) (by show (58 : Int) ≠ 63; decide) rfl rfl⟩
theorem rest_word {s : ByteArray} {n : Nat} {c : UInt8} {W r : List UInt8} (h : Has s n (c :: W) r) (hW : ∀ x ∈ c :: W, letterB x.toNat = true) (hd : digitB c.toNat = false) (hl : (c :: W).length <= 12) (hr : Stop letterB r) :
  rest s n = ⟨if 97 <= (c.toNat : Int) /\ (c.toNat : Int) <= 122 then 97 else 118, n, ⟨(c :: W).toArray⟩, 0⟩ :: rest s (n + (c :: W).length) := by
 have hlt := h.lt
 have hby := h.byte
 have hcl := hW c (by simp)
 have hrun := run_has (dg := false) h (fun x hx => by rw [okB_letter]; exact hW x hx) (fun x r' e => by rw [okB_letter]; exact hr x r' e)
 have hne : (c.toNat : Int) ≠ 45 := by unfold letterB at hcl; simp at hcl; omega
 have hb : blankB c.toNat = false := by unfold letterB at hcl; unfold blankB; simp at hcl; simp; omega
 have hsz : (⟨(c :: W).toArray⟩ : ByteArray).size = (c :: W).length := rfl
 have ht : tokenAt s n = ⟨if 97 <= (c.toNat : Int) /\ (c.toNat : Int) <= 122 then 97 else 118, n, ⟨(c :: W).toArray⟩, 0⟩ := by
  unfold tokenAt
  rw [hby, if_neg hne, if_neg (by rw [hd]; simp), if_pos hcl, hrun.2]
  unfold wordTok
  rw [hsz, if_neg (by omega)]
  split <;> rfl
 refine rest_at (by omega) ((next_at h hb).trans ht) ?_ ?_ rfl hsz
 ·show (if _ then (97 : Int) else 118) ≠ 0; split <;> decide
 ·show (if _ then (97 : Int) else 118) ≠ 63; split <;> decide
theorem rest_num {s : ByteArray} {n : Nat} {W r : List UInt8} (neg : Bool) (h : Has s n ((if neg then [45] else []) ++ W) r) (hW : ∀ x ∈ W, digitB x.toNat = true) (h1 : 1 <= W.length) (h9 : W.length <= 9) (hr : Stop digitB r) :
  rest s n = ⟨110, n, ⟨((if neg then [45] else []) ++ W).toArray⟩, 0⟩ :: rest s (n + ((if neg then [45] else []) ++ W).length) := by
 obtain ⟨c, W', rfl⟩ : ∃ c W', W = c :: W' := by
  cases W with
  | nil => simp at h1
  | cons c W' => exact ⟨c, W', rfl⟩
 have hcd := hW c (by simp)
 cases neg with
 | true =>
  have hh : Has s n (45 :: (c :: W')) r := h
  have h2 : Has s (n + 1) (c :: W') r := by
   have h9 : Has s n ([45] ++ (c :: W')) r := h
   exact h9.app.2
  have hrun := run_has (dg := true) h2 (fun x hx => by rw [okB_digit]; exact hW x hx) (fun x r' e => by rw [okB_digit]; exact hr x r' e)
  have hsz : (⟨(c :: W').toArray⟩ : ByteArray).size = (c :: W').length := rfl
  have hs2 : (⟨#[45]⟩ ++ ⟨(c :: W').toArray⟩ : ByteArray) = ⟨(45 :: c :: W').toArray⟩ := ext_list (by rw [ByteArray.data_append, Array.toList_append]; rfl)
  have ht : tokenAt s n = ⟨110, n, ⟨(45 :: c :: W').toArray⟩, 0⟩ := by
   unfold tokenAt
   rw [hh.byte, if_pos (by decide), hrun.2]
   unfold numTok
   rw [hsz, if_neg (by omega), if_neg (by omega), if_pos rfl, hs2]
  exact rest_at (by have := hh.lt; omega) ((next_at hh (by decide)).trans ht) (by show (110 : Int) ≠ 0; decide) (by show (110 : Int) ≠ 63; decide) rfl rfl
 | false =>
  have hh : Has s n (c :: W') r := h
  have hby := hh.byte
  have hrun := run_has (dg := true) hh (fun x hx => by rw [okB_digit]; exact hW x hx) (fun x r' e => by rw [okB_digit]; exact hr x r' e)
  have hsz : (⟨(c :: W').toArray⟩ : ByteArray).size = (c :: W').length := rfl
  have hne : (c.toNat : Int) ≠ 45 := by unfold digitB at hcd; simp at hcd; omega
  have hb : blankB c.toNat = false := by unfold digitB at hcd; unfold blankB; simp at hcd; simp; omega
  have ht : tokenAt s n = ⟨110, n, ⟨(c :: W').toArray⟩, 0⟩ := by
   unfold tokenAt
   rw [hby, if_neg hne, if_pos hcd, hrun.2]
   unfold numTok
   rw [hsz, if_neg (by omega), if_neg (by omega)]
   rfl
  exact rest_at (by have := hh.lt; omega) ((next_at hh hb).trans ht) (by show (110 : Int) ≠ 0; decide) (by show (110 : Int) ≠ 63; decide) rfl rfl
theorem digit_ok (d : Nat) (h : d < 10) : digitB ((UInt8.ofNat (48 + d)).toNat : Nat) = true /\ Go.Lib.digitVal (UInt8.ofNat (48 + d)) = some d := by
 have h1 : (UInt8.ofNat (48 + d)).toNat = 48 + d := by rw [UInt8.toNat_ofNat']; omega
 unfold digitB Go.Lib.digitVal
 rw [h1]
 refine ⟨by simp; omega, ?_⟩
 rw [if_pos (by omega)]
 congr 1
 omega
theorem decFrom_snoc : ∀ (l : List UInt8) (acc m d : Nat) (b : UInt8), Go.Lib.decFrom acc l = some m -> Go.Lib.digitVal b = some d -> Go.Lib.decFrom acc (l ++ [b]) = some (m * 10 + d)
 | [], acc, m, d, b, h, hb => by
  simp only [Go.Lib.decFrom, Option.some.injEq] at h
  subst h
  simp [Go.Lib.decFrom, hb]
 | c :: l, acc, m, d, b, h, hb => by
  rw [Go.Lib.decFrom] at h
  rw [List.cons_append, Go.Lib.decFrom]
  cases hc : Go.Lib.digitVal c with
  | none => rw [hc] at h; cases h
  | some x => rw [hc] at h; exact decFrom_snoc l _ m d b h hb
theorem decDigits_ok : ∀ (k u : Nat), u < k -> (∀ x ∈ Go.Lib.decDigits u, digitB x.toNat = true) /\ Go.Lib.decFrom 0 (Go.Lib.decDigits u) = some u
 | 0, _, h => by omega
 | k + 1, u, h => by
  rw [Go.Lib.decDigits]
  split
  ·rename_i h10
   obtain ⟨h1, h2⟩ := digit_ok u h10
   refine ⟨fun x hx => by rw [List.mem_singleton] at hx; subst hx; exact h1, ?_⟩
   rw [Go.Lib.decFrom, h2]
   simp [Go.Lib.decFrom]
  ·rename_i h10
   obtain ⟨i1, i2⟩ := decDigits_ok k (u / 10) (by omega)
   obtain ⟨h1, h2⟩ := digit_ok (u % 10) (by omega)
   refine ⟨fun x hx => ?_, ?_⟩
   ·rcases List.mem_append.1 hx with hx | hx
    ·exact i1 x hx
    ·rw [List.mem_singleton] at hx; subst hx; exact h1
   ·rw [decFrom_snoc _ _ _ _ _ i2 h2]
    congr 1
    omega
theorem decDigits_len (u : Nat) (h : u <= 999999999) : 1 <= (Go.Lib.decDigits u).length /\ (Go.Lib.decDigits u).length <= 9 := by
 rw [Go.Lib.decDigits_length]
 refine ⟨Go.Lib.nDigits_pos u, ?_⟩
 rcases Nat.lt_or_ge 9 (Go.Lib.nDigits u) with h9 | h9
 ·exfalso
  have key : ∀ (k u : Nat), k + 1 <= Go.Lib.nDigits u -> 10 ^ k <= u \/ k = 0 := by
   intro k
   induction k with
   | zero => intro u _; exact .inr rfl
   | succ k ih =>
    intro u hu
    by_cases h10 : u < 10
    ·rw [Go.Lib.nDigits_small h10] at hu; omega
    ·rw [Go.Lib.nDigits_big h10] at hu
     left
     rcases ih (u / 10) (by omega) with h1 | h1
     ·rw [Nat.pow_succ]; omega
     ·subst h1; simp; omega
  rcases key 9 u (by omega) with h1 | h1
  ·have : (10 : Nat) ^ 9 = 1000000000 := by decide
   omega
  ·omega
 ·exact h9
theorem numVal_itoa (v : Int) (h0 : -999999999 <= v) (h1 : v <= 999999999) : numVal (itoaB v) = v := by
 unfold numVal itoaB
 show (Go.Lib.atoi (Go.Lib.itoa v).toArray.toList).getD 0 = v
 rw [List.toList_toArray]
 unfold Go.Lib.itoa
 have nn : ∀ u : Nat, u <= 999999999 -> Go.Lib.decNat (Go.Lib.decDigits u) = some u := by
  intro u hu
  unfold Go.Lib.decNat
  rw [if_neg (by rw [List.isEmpty_iff]; intro e; have := (decDigits_len u hu).1; rw [e] at this; simp at this)]
  exact (decDigits_ok (u + 1) u (by omega)).2
 split
 ·rename_i hn
  have := nn v.natAbs (by omega)
  simp [Go.Lib.atoi, this]
  omega
 ·rename_i hn
  have h2 := nn v.toNat (by omega)
  have hd := (decDigits_ok (v.toNat + 1) v.toNat (by omega)).1
  cases hw : Go.Lib.decDigits v.toNat with
  | nil => have := (decDigits_len v.toNat (by omega)).1; rw [hw] at this; simp at this
  | cons c l =>
   rw [hw] at h2 hd
   have hc := hd c (by simp)
   unfold digitB at hc
   simp only [Bool.and_eq_true, decide_eq_true_eq] at hc
   have c1 : (c == 45) = false := by rw [beq_eq_false_iff_ne]; rintro rfl; revert hc; decide
   have c2 : (c == 43) = false := by rw [beq_eq_false_iff_ne]; rintro rfl; revert hc; decide
   simp [Go.Lib.atoi, c1, c2, h2]
   omega
theorem rest_itoa {s : ByteArray} {n : Nat} {r : List UInt8} (v : Int) (h0 : -999999999 <= v) (h1 : v <= 999999999) (h : Has s n (Go.Lib.itoa v) r) (hr : Stop digitB r) : rest s n = ⟨110, n, itoaB v, 0⟩ :: rest s (n + (Go.Lib.itoa v).length) := by
 unfold itoaB
 unfold Go.Lib.itoa at h ⊢
 by_cases hn : v < 0
 ·rw [if_pos hn] at h ⊢
  obtain ⟨l1, l2⟩ := decDigits_len v.natAbs (by omega)
  exact rest_num true h (decDigits_ok (v.natAbs + 1) _ (by omega)).1 l1 l2 hr
 ·rw [if_neg hn] at h ⊢
  obtain ⟨l1, l2⟩ := decDigits_len v.toNat (by omega)
  exact rest_num false h (decDigits_ok (v.toNat + 1) _ (by omega)).1 l1 l2 hr
def wordA (p : Part) : ByteArray := if p.kind = 1 then ⟨#[95]⟩ ++ itoaB (p.value + 1) else if p.kind = 2 then itoaB p.value else if p.kind = 4 then ⟨#[33]⟩ else p.name
def wordW : Bool -> Part -> ByteArray
 | true, p => wordP p
 | false, p => wordA p
theorem wordW_name (b : Bool) (p : Part) (h1 : (p.kind == 1) = false) (h2 : (p.kind == 2) = false) (h4 : (p.kind == 4) = false) : wordW b p = p.name := by
 rw [beq_eq_false_iff_ne] at h1 h2 h4
 cases b
 ·show wordA p = p.name
  unfold wordA; rw [if_neg h1, if_neg h2, if_neg h4]
 ·show wordP p = p.name
  unfold wordP; rw [if_neg h1, if_neg h2, if_neg h4]
theorem wordW_cut (b : Bool) (p : Part) (h1 : (p.kind == 1) = false) (h2 : (p.kind == 2) = false) (h4 : (p.kind == 4) = true) : wordW b p = ⟨#[33]⟩ := by
 rw [beq_eq_false_iff_ne] at h1 h2
 have h4 := eq_of_beq h4
 cases b
 ·show wordA p = _
  unfold wordA; rw [if_neg h1, if_neg h2, if_pos h4]
 ·show wordP p = _
  unfold wordP; rw [if_neg h1, if_neg h2, if_pos h4]
theorem wordW_num (b : Bool) (p : Part) (h1 : (p.kind == 1) = false) (h2 : (p.kind == 2) = true) : wordW b p = itoaB p.value := by
 rw [beq_eq_false_iff_ne] at h1
 have h2 := eq_of_beq h2
 cases b
 ·show wordA p = _
  unfold wordA; rw [if_neg h1, if_pos h2]
 ·show wordP p = _
  unfold wordP; rw [if_neg h1, if_pos h2]
theorem wordW_let (p : Part) (h1 : (p.kind == 1) = true) : wordW true p = letterOf p.value := by
 show wordP p = _
 unfold wordP; rw [if_pos (eq_of_beq h1)]
theorem wordW_var (p : Part) (h1 : (p.kind == 1) = true) : wordW false p = ⟨#[95]⟩ ++ itoaB (p.value + 1) := by
 show wordA p = _
 unfold wordA; rw [if_pos (eq_of_beq h1)]
def textW (b : Bool) : List Part -> List Nat -> ByteArray
 | [], _ => ⟨#[]⟩
 | p :: ps, st => if 0 < p.args then wordW b p ++ (⟨#[40]⟩ ++ textW b ps (p.args.toNat :: st)) else wordW b p ++ ((closeP st).1 ++ textW b ps (closeP st).2)
def txtW (b : Bool) (ps : List Part) : ByteArray := textW b ps []
def txtA (ps : List Part) : ByteArray := txtW false ps
theorem textW_true : ∀ (ps : List Part) (st : List Nat), textW true ps st = textP ps st
 | [], _ => rfl
 | p :: ps, st => by rw [textW, textP, textW_true ps, textW_true ps]; rfl
theorem txtW_true (ps : List Part) : txtW true ps = txt ps := textW_true ps []
def GoodA (p : Part) : Prop := (p.kind = 1 -> 0 <= p.value /\ p.value < 1000000) /\ (p.kind = 2 -> -999999999 <= p.value /\ p.value <= 999999999) /\ p.name.size <= 12
def GoodW : Bool -> Part -> Prop
 | true, p => Good p
 | false, p => GoodA p
theorem Good.a {p : Part} (h : Good p) : GoodA p := ⟨fun k => by have := h.1 k; omega, h.2.1, h.2.2⟩
theorem GoodW.a {b : Bool} {p : Part} (h : GoodW b p) : GoodA p := by cases b with
 | true => exact Good.a h
 | false => exact h
theorem GoodW.l {p : Part} (h : GoodW true p) (k : p.kind = 1) : 0 <= p.value /\ p.value < 16 := h.1 k
theorem wordW_size (b : Bool) (p : Part) (h : GoodW b p) : (wordW b p).size <= 22 := by
 cases b with
 | true => have := word_size p h; show (wordP p).size <= 22; omega
 | false =>
  show (wordA p).size <= 22
  unfold wordA
  split
  ·rename_i h1
   have h3 := h.1 h1
   have := Go.Lib.itoa_length_le (p.value + 1) (by omega) (by omega)
   rw [ByteArray.size_append]
   have h4 : (⟨#[95]⟩ : ByteArray).size = 1 := rfl
   have h5 : (itoaB (p.value + 1)).size <= 21 := by unfold itoaB; simpa [ByteArray.size] using this
   omega
  ·split
   ·rename_i h2
    have h3 := h.2.1 h2
    have := Go.Lib.itoa_length_le p.value (by omega) (by omega)
    have h5 : (itoaB p.value).size <= 21 := by unfold itoaB; simpa [ByteArray.size] using this
    omega
   ·split
    ·show 1 <= 22; omega
    ·have := h.2.2; omega
theorem textW_size (b : Bool) : ∀ (ps : List Part) (st : List Nat), (∀ p ∈ ps, GoodW b p) -> (textW b ps st).size <= 24 * ps.length + st.length
 | [], st, _ => by simp [textW, ByteArray.size]
 | p :: ps, st, h => by
  have hw := wordW_size b p (h p (by simp))
  have h' : ∀ q ∈ ps, GoodW b q := fun q hq => h q (List.mem_cons_of_mem _ hq)
  rw [textW]
  split
  ·have := textW_size b ps (p.args.toNat :: st) h'
   have h1 : (⟨#[40]⟩ : ByteArray).size = 1 := rfl
   simp only [ByteArray.size_append, List.length_cons] at *
   omega
  ·have := textW_size b ps (closeP st).2 h'
   have := close_size st
   simp only [ByteArray.size_append, List.length_cons] at *
   omega
theorem txtW_size (b : Bool) (ps : List Part) (h : ∀ p ∈ ps, GoodW b p) : (txtW b ps).size <= 24 * ps.length := by
 have := textW_size b ps [] h
 simpa [txtW] using this
end Rf
