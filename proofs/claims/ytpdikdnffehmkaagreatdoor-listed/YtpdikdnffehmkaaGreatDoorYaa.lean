/- Plain functions on bytes and tokens: what the document's reader computes, told without the program. -/
import Derived.Lib.Atoi
import Derived.Lib.ItoaNum
namespace Rf
def byteAt (s : ByteArray) (k : Nat) : Int := ((s.data.toList)[k]?.getD 0).toNat
theorem byteAt_eq (s : ByteArray) (k : Nat) (h : k < s.size) : (s[k].toNat : Int) = byteAt s k := by
  unfold byteAt
  have h' : k < s.data.toList.length := by simpa using h
  rw [List.getElem?_eq_getElem h']
  rfl
theorem byteAt_bd (s : ByteArray) (k : Nat) : 0 ≤ byteAt s k ∧ byteAt s k < 256 := by
  unfold byteAt
  have := ((s.data.toList)[k]?.getD 0).toNat_lt
  omega
def digitB (c : Int) : Bool := decide (48 ≤ c) && decide (c ≤ 57)
def letterB (c : Int) : Bool := (decide (97 ≤ c) && decide (c ≤ 122)) || (decide (65 ≤ c) && decide (c ≤ 90)) || c == 95 || (decide (48 ≤ c) && decide (c ≤ 57))
def okB (dg : Bool) (c : Int) : Bool := letterB c && (!dg || digitB c)
def runLen (s : ByteArray) (dg : Bool) (n : Nat) : Nat := ((s.data.toList.drop n).takeWhile fun c => okB dg c.toNat).length
theorem drop_cons (s : ByteArray) (n : Nat) (h : n < s.size) : s.data.toList.drop n = s[n] :: s.data.toList.drop (n + 1) := by
  have h' : n < s.data.toList.length := by simpa using h
  rw [List.drop_eq_getElem_cons h']; rfl
theorem runLen_yes (s : ByteArray) (dg : Bool) (n : Nat) (h : n < s.size) (hk : okB dg (byteAt s n) = true) : runLen s dg n = runLen s dg (n + 1) + 1 := by
  unfold runLen
  rw [drop_cons s n h, List.takeWhile_cons, if_pos (by rw [byteAt_eq s n h]; exact hk)]
  simp
theorem runLen_no (s : ByteArray) (dg : Bool) (n : Nat) (h : n < s.size) (hk : okB dg (byteAt s n) = false) : runLen s dg n = 0 := by
  unfold runLen
  rw [drop_cons s n h, List.takeWhile_cons, if_neg (by rw [byteAt_eq s n h, hk]; simp)]
  rfl
theorem runLen_end (s : ByteArray) (dg : Bool) (n : Nat) (h : s.size ≤ n) : runLen s dg n = 0 := by
  unfold runLen
  rw [List.drop_of_length_le (by simpa using h)]; rfl
theorem runLen_le (s : ByteArray) (dg : Bool) (n : Nat) : runLen s dg n ≤ s.size - n := by
  unfold runLen
  refine Nat.le_trans (List.takeWhile_sublist _).length_le ?_
  simp
def runS (s : ByteArray) (dg : Bool) (n : Nat) : ByteArray := s.extract n (n + runLen s dg n)
theorem runS_size (s : ByteArray) (dg : Bool) (n : Nat) : (runS s dg n).size = runLen s dg n := by
  have := runLen_le s dg n
  unfold runS
  rw [ByteArray.size_extract]
  by_cases h : n ≤ s.size
  · omega
  · have := runLen_end s dg n (by omega)
    omega
structure Tok where
  k : Int
  at_ : Nat
  s : ByteArray
  e : Int
def bad (at_ : Nat) (e : Int) : Tok := ⟨63, at_, ⟨#[]⟩, e⟩
def numTok (at_ : Nat) (neg : Bool) (w : ByteArray) : Tok :=
  if w.size = 0 then bad at_ 2 else if 9 < w.size then bad at_ 3 else ⟨110, at_, if neg then ⟨#[45]⟩ ++ w else w, 0⟩
def wordTok (at_ : Nat) (c : Int) (w : ByteArray) : Tok :=
  if 12 < w.size then bad at_ 3 else if 97 ≤ c ∧ c ≤ 122 then ⟨97, at_, w, 0⟩ else ⟨118, at_, w, 0⟩
def markB (c : Int) : Bool := c == 40 || c == 41 || c == 44 || c == 46 || c == 33
def tokenAt (s : ByteArray) (n : Nat) : Tok :=
  if byteAt s n = 45 then numTok n true (runS s true (n + 1))
  else if digitB (byteAt s n) = true then numTok n false (runS s true n)
  else if letterB (byteAt s n) = true then wordTok n (byteAt s n) (runS s false n)
  else if markB (byteAt s n) = true then ⟨byteAt s n, n, s.extract n (n + 1), 0⟩
  else if byteAt s n = 58 ∧ n + 1 < s.size ∧ byteAt s (n + 1) = 45 then ⟨58, n, ⟨#[58, 45]⟩, 0⟩
  else bad n 2
end Rf
/- Plain functions on tokens: the tokens of a text, and how a text of clauses is read (promise P4), told without the program. -/
namespace Rf
theorem neg_size (W : ByteArray) : (⟨#[45]⟩ ++ W : ByteArray).size = W.size + 1 := by
  rw [ByteArray.size_append]; show 1 + W.size = _; omega
theorem numTok_fit (n : Nat) (neg : Bool) (W : ByteArray) (h : (numTok n neg W).k ≠ 63) : (numTok n neg W).s.size = W.size + (if neg then 1 else 0) ∧ 1 ≤ W.size := by
  unfold numTok at *
  split at h
  · simp [bad] at h
  · split at h
    · simp [bad] at h
    · rename_i h1 h2
      rw [if_neg h1, if_neg h2]
      cases neg
      · simp; omega
      · show (⟨#[45]⟩ ++ W : ByteArray).size = W.size + 1 ∧ 1 ≤ W.size
        rw [neg_size]; omega
theorem wordTok_fit (n : Nat) (c : Int) (W : ByteArray) (h : (wordTok n c W).k ≠ 63) : (wordTok n c W).s = W := by
  unfold wordTok at *
  split at h
  · simp [bad] at h
  · rename_i h1
    rw [if_neg h1]; split <;> rfl
theorem digit_letter (c : Int) (h : digitB c = true) : letterB c = true := by
  unfold digitB at h; unfold letterB; simp at h; simp; omega
theorem runLen_pos (s : ByteArray) (dg : Bool) (n : Nat) (h : n < s.size) (hk : okB dg (byteAt s n) = true) : 1 ≤ runLen s dg n := by
  rw [runLen_yes s dg n h hk]; omega
theorem tokenAt_fit (s : ByteArray) (n : Nat) (hn : n < s.size) (h : (tokenAt s n).k ≠ 63) : 1 ≤ (tokenAt s n).s.size ∧ n + (tokenAt s n).s.size ≤ s.size := by
  have r1 := runLen_le s true (n + 1)
  have r2 := runLen_le s true n
  have r3 := runLen_le s false n
  unfold tokenAt at *
  split at h
  · rename_i h1
    rw [if_pos h1]
    have := numTok_fit _ _ _ h
    rw [runS_size] at this; simp at this; omega
  · rename_i h1
    rw [if_neg h1]
    split at h
    · rename_i h2
      rw [if_pos h2]
      have := numTok_fit _ _ _ h
      rw [runS_size] at this; simp at this; omega
    · rename_i h2
      rw [if_neg h2]
      split at h
      · rename_i h3
        rw [if_pos h3]
        have := wordTok_fit _ _ _ h
        rw [this, runS_size]
        have := runLen_pos s false n hn (by simp [okB, h3])
        omega
      · rename_i h3
        rw [if_neg h3]
        split at h
        · rename_i h4
          rw [if_pos h4]
          simp only [ByteArray.size_extract]; omega
        · rename_i h4
          rw [if_neg h4]
          split at h
          · rename_i h5
            rw [if_pos h5]
            exact ⟨by show 1 ≤ 2; omega, by show n + 2 ≤ _; omega⟩
          · simp [bad] at h
def endTok (s : ByteArray) : Tok := ⟨0, s.size, ⟨#[]⟩, 0⟩
def blankB (c : Int) : Bool := c == 32 || c == 10
def toks (s : ByteArray) : Nat → Nat → List Tok
  | 0, _ => [endTok s]
  | f + 1, n => if n < s.size then
      (if blankB (byteAt s n) = true then toks s f (n + 1)
       else if (tokenAt s n).k = 63 then [tokenAt s n] else tokenAt s n :: toks s f (n + (tokenAt s n).s.size))
      else [endTok s]
def tokens (s : ByteArray) : List Tok := toks s s.size 0
theorem toks_end (s : ByteArray) (f n : Nat) (h : s.size ≤ n) : toks s f n = [endTok s] := by
  cases f with
  | zero => rfl
  | succ f => rw [toks, if_neg (by omega)]
theorem toks_blank (s : ByteArray) (f n : Nat) (h : n < s.size) (hf : s.size ≤ n + f) (hb : blankB (byteAt s n) = true) : toks s f n = toks s (f - 1) (n + 1) := by
  cases f with
  | zero => omega
  | succ f => rw [toks, if_pos h, if_pos hb]; rfl
theorem toks_bad (s : ByteArray) (f n : Nat) (h : n < s.size) (hf : s.size ≤ n + f) (hb : blankB (byteAt s n) = false) (hk : (tokenAt s n).k = 63) : toks s f n = [tokenAt s n] := by
  cases f with
  | zero => omega
  | succ f => rw [toks, if_pos h, if_neg (by simp [hb]), if_pos hk]
theorem toks_tok (s : ByteArray) (f n : Nat) (h : n < s.size) (hf : s.size ≤ n + f) (hb : blankB (byteAt s n) = false) (hk : (tokenAt s n).k ≠ 63) : toks s f n = tokenAt s n :: toks s (f - 1) (n + (tokenAt s n).s.size) := by
  cases f with
  | zero => omega
  | succ f => rw [toks, if_pos h, if_neg (by simp [hb]), if_neg hk]; rfl
theorem toks_len (s : ByteArray) : ∀ (f n : Nat), (toks s f n).length ≤ f + 1
  | 0, _ => by simp [toks]
  | f + 1, n => by
    rw [toks]
    split
    · split
      · have := toks_len s f (n + 1); omega
      · split
        · simp
        · have := toks_len s f (n + (tokenAt s n).s.size); simp; omega
    · simp
theorem runS_list (s : ByteArray) (dg : Bool) (n : Nat) : (runS s dg n).data.toList = (s.data.toList.drop n).takeWhile fun c => okB dg c.toNat := by
  unfold runS
  rw [ByteArray.data_extract, Array.toList_extract, List.extract_eq_take_drop]
  have h := List.prefix_iff_eq_take.1 (List.takeWhile_prefix (l := s.data.toList.drop n) (fun c : UInt8 => okB dg c.toNat))
  rw [h]
  congr 1
  unfold runLen
  omega
/-- Digits spell a number. -/
theorem decFrom_digits : ∀ (l : List UInt8) (acc : Nat), (l.all fun c => digitB c.toNat) = true → ∃ v, Go.Lib.decFrom acc l = some v ∧ v + 1 ≤ (acc + 1) * 10 ^ l.length
  | [], acc, _ => ⟨acc, rfl, by simp⟩
  | c :: l, acc, h => by
    simp only [List.all_cons, Bool.and_eq_true] at h
    have hc := h.1
    unfold digitB at hc
    simp only [Bool.and_eq_true, decide_eq_true_eq] at hc
    obtain ⟨v, hv, hb⟩ := decFrom_digits l (acc * 10 + (c.toNat - 48)) h.2
    refine ⟨v, ?_, Nat.le_trans hb ?_⟩
    · rw [Go.Lib.decFrom, Go.Lib.digitVal, if_pos (by omega)]; exact hv
    · rw [List.length_cons, Nat.pow_succ, Nat.mul_comm (10 ^ l.length) 10, ← Nat.mul_assoc]
      exact Nat.mul_le_mul_right _ (by omega)
/-- A number's token spells a number of at most nine digits; a name has at most twelve bytes. -/
def Fine (t : Tok) : Prop := (t.k = 110 → t.s.size ≤ 10 ∧ ∃ v, Go.Lib.atoi t.s.data.toList = some v ∧ -999999999 ≤ v ∧ v ≤ 999999999) ∧ (t.k = 97 → t.s.size ≤ 12)
theorem numTok_fine (n : Nat) (neg : Bool) (W : ByteArray) (h : (W.data.toList.all fun c => digitB c.toNat) = true) : Fine (numTok n neg W) := by
  unfold numTok
  split
  · exact ⟨fun h => by simp [bad] at h, fun h => by simp [bad] at h⟩
  · split
    · exact ⟨fun h => by simp [bad] at h, fun h => by simp [bad] at h⟩
    · rename_i h1 h2
      refine ⟨fun _ => ?_, fun h => by simp at h⟩
      obtain ⟨v, hv, hb⟩ := decFrom_digits W.data.toList 0 h
      have hlen : W.data.toList.length = W.size := by simp
      have hp : 10 ^ W.data.toList.length ≤ 10 ^ 9 := Nat.pow_le_pow_right (by omega) (by omega)
      have hv9 : v ≤ 999999999 := by
        simp only [Nat.zero_add, Nat.one_mul] at hb
        have h10 : (10 : Nat) ^ 9 = 1000000000 := by decide
        omega
      have hdn : Go.Lib.decNat W.data.toList = some v := by
        unfold Go.Lib.decNat
        rw [if_neg (by rw [List.isEmpty_iff]; intro e; rw [e] at hlen; simp at hlen; omega)]
        exact hv
      cases neg with
      | true =>
        refine ⟨by show (⟨#[45]⟩ ++ W : ByteArray).size ≤ 10; rw [neg_size]; omega, -(v : Int), ?_, by omega, by omega⟩
        show Go.Lib.atoi (⟨#[45]⟩ ++ W : ByteArray).data.toList = _
        rw [ByteArray.data_append]
        simp [Go.Lib.atoi, hdn]
      | false =>
        refine ⟨by show W.size ≤ 10; omega, (v : Int), ?_, by omega, by omega⟩
        show Go.Lib.atoi W.data.toList = _
        cases hw : W.data.toList with
        | nil => rw [hw] at hlen; simp at hlen; omega
        | cons c l =>
          rw [hw] at h hdn
          simp only [List.all_cons, Bool.and_eq_true] at h
          have hc := h.1
          unfold digitB at hc
          simp only [Bool.and_eq_true, decide_eq_true_eq] at hc
          have c1 : (c == 45) = false := by rw [beq_eq_false_iff_ne]; rintro rfl; revert hc; decide
          have c2 : (c == 43) = false := by rw [beq_eq_false_iff_ne]; rintro rfl; revert hc; decide
          simp [Go.Lib.atoi, c1, c2, hdn]
theorem run_digits (s : ByteArray) (n : Nat) : ((runS s true n).data.toList.all fun c => digitB c.toNat) = true := by
  rw [runS_list, List.all_eq_true]
  intro c hc
  have := List.all_eq_true.1 (List.all_takeWhile (p := fun c : UInt8 => okB true c.toNat) (l := s.data.toList.drop n)) c hc
  unfold okB at this
  simp at this
  exact this.2
theorem tokenAt_fine (s : ByteArray) (n : Nat) : Fine (tokenAt s n) := by
  have hm : ∀ c : Int, markB c = true → c ≠ 110 ∧ c ≠ 97 := by intro c h; unfold markB at h; simp at h; omega
  unfold tokenAt
  split
  · exact numTok_fine _ _ _ (run_digits _ _)
  · split
    · exact numTok_fine _ _ _ (run_digits _ _)
    · split
      · unfold wordTok
        split
        · exact ⟨fun h => by simp [bad] at h, fun h => by simp [bad] at h⟩
        · split
          · exact ⟨fun h => by simp at h, fun _ => by show (runS s false n).size ≤ 12; omega⟩
          · exact ⟨fun h => by simp at h, fun h => by simp at h⟩
      · split
        · rename_i h; exact ⟨fun e => absurd e (hm _ h).1, fun e => absurd e (hm _ h).2⟩
        · split
          · exact ⟨fun h => by simp at h, fun h => by simp at h⟩
          · exact ⟨fun h => by simp [bad] at h, fun h => by simp [bad] at h⟩
/-- A list of tokens that ends with the end or with a wrong token, and has none of these before. -/
def Ended : List Tok → Prop
  | [] => False
  | [t] => t.k = 0 ∨ (t.k = 63 ∧ t.e ≠ 0)
  | t :: u :: l => ((t.k ≠ 0 ∧ t.k ≠ 63) ∧ Fine t) ∧ Ended (u :: l)
theorem Ended.tail {t : Tok} {l : List Tok} (h : Ended (t :: l)) (h0 : t.k ≠ 0) (h63 : t.k ≠ 63) : Ended l := by
  cases l with
  | nil => rcases h with h | ⟨h, _⟩ <;> contradiction
  | cons u l => exact h.2
theorem Ended.fine {t : Tok} {l : List Tok} (h : Ended (t :: l)) : Fine t := by
  cases l with
  | nil => rcases h with h | ⟨h, _⟩ <;> exact ⟨fun e => by omega, fun e => by omega⟩
  | cons u l => exact h.1.2
theorem Ended.bad {t : Tok} {l : List Tok} (h : Ended (t :: l)) (h63 : t.k = 63) : t.e ≠ 0 := by
  cases l with
  | nil =>
    rcases h with h | ⟨_, h⟩
    · omega
    · exact h
  | cons u l => exact absurd h63 h.1.1.2
theorem Ended.ne {l : List Tok} (h : Ended l) : l ≠ [] := by cases l with
  | nil => exact h.elim
  | cons => simp
theorem Ended.cons {t : Tok} {l : List Tok} (h : Ended l) (h0 : t.k ≠ 0) (h63 : t.k ≠ 63) (hf : Fine t) : Ended (t :: l) := by
  cases l with
  | nil => exact h.elim
  | cons u l => exact ⟨⟨⟨h0, h63⟩, hf⟩, h⟩
theorem tokenAt_ne (s : ByteArray) (n : Nat) : (tokenAt s n).k ≠ 0 := by
  have hm : ∀ c : Int, markB c = true → c ≠ 0 := by intro c h; unfold markB at h; simp at h; omega
  unfold tokenAt numTok wordTok bad
  repeat' split
  all_goals (first | (simp; done) | (exact hm _ ‹_›))
theorem tokenAt_bad (s : ByteArray) (n : Nat) : (tokenAt s n).k = 63 → (tokenAt s n).e ≠ 0 := by
  have hm : ∀ c : Int, markB c = true → c ≠ 63 := by intro c h; unfold markB at h; simp at h; omega
  unfold tokenAt numTok wordTok bad
  repeat' split
  all_goals (first | (simp; done) | (exact fun h => absurd h (hm _ ‹_›)))
theorem toks_ended (s : ByteArray) : ∀ (f n : Nat), Ended (toks s f n)
  | 0, _ => .inl rfl
  | f + 1, n => by
    rw [toks]
    split
    · split
      · exact toks_ended s f _
      · split
        · rename_i h; exact .inr ⟨h, tokenAt_bad s n h⟩
        · rename_i h; exact (toks_ended s f _).cons (tokenAt_ne s n) h (tokenAt_fine s n)
    · exact .inl rfl
/-- The fault at a token: a wrong token has its own. -/
def errOf (t : Tok) (e : Int) : Int × Nat := (if t.k = 63 then t.e else e, t.at_)
end Rf
/- How a text of clauses is read (promise P4), told on lists of tokens without the program: terms, goals, clauses, each as the list of its parts. -/
namespace Rf
/-- A part of a term: kind 1 a variable (value: which), 2 a number (value), 3 a name or a compound (args: how many arguments), 4 a cut. -/
structure Part where
  kind : Int
  name : ByteArray
  value : Int
  args : Int
def under : ByteArray := ⟨#[95]⟩
def numVal (s : ByteArray) : Int := (Go.Lib.atoi s.data.toList).getD 0
def lookS (s : ByteArray) (ns : List ByteArray) : Option Nat := if s = under then none else ns.findIdx? (fun n => n = s)
def varS (t : Tok) (ns : List ByteArray) : Except (Int × Nat) (Nat × List ByteArray) :=
  match lookS t.s ns with
  | some i => .ok (i, ns)
  | none => if ns.length = 16 then .error (3, t.at_) else .ok (ns.length, ns ++ [t.s])
def argsS (rd : List Tok → List ByteArray → Except (Int × Nat) (List Part × List Tok × List ByteArray)) : Nat → List (List Part) → List Tok → List ByteArray → Except (Int × Nat) (List (List Part) × List Tok × List ByteArray)
  | 0, _, _, _ => .error (2, 0)
  | k + 1, acc, l, ns => match rd l ns with
    | .error e => .error e
    | .ok (p, l1, ns1) => match l1 with
      | [] => .error (2, 0)
      | u :: l2 => if u.k = 44 then (if acc.length + 1 = 4 then .error (3, u.at_) else argsS rd k (acc ++ [p]) l2 ns1)
        else if u.k = 41 then .ok (acc ++ [p], l2, ns1) else .error (errOf u 2)
def nameS (rd : List Tok → List ByteArray → Except (Int × Nat) (List (List Part) × List Tok × List ByteArray)) (t : Tok) (l : List Tok) (ns : List ByteArray) : Except (Int × Nat) (List Part × List Tok × List ByteArray) :=
  match l with
  | [] => .error (2, 0)
  | u :: l' => if u.k = 40 then (match rd l' ns with
      | .error e => .error e
      | .ok (a1, l2, ns2) => .ok (⟨3, t.s, 0, a1.length⟩ :: a1.flatten, l2, ns2))
    else .ok ([⟨3, t.s, 0, 0⟩], u :: l', ns)
def varT (t : Tok) (l : List Tok) (ns : List ByteArray) : Except (Int × Nat) (List Part × List Tok × List ByteArray) :=
  match varS t ns with
  | .error e => .error e
  | .ok (i, ns') => .ok ([⟨1, ⟨#[]⟩, i, 0⟩], l, ns')
def termS : Nat → List Tok → List ByteArray → Except (Int × Nat) (List Part × List Tok × List ByteArray)
  | 0, _, _ => .error (2, 0)
  | _ + 1, [], _ => .error (2, 0)
  | f + 1, t :: l, ns =>
    if t.k = 118 then varT t l ns
    else if t.k = 110 then .ok ([⟨2, ⟨#[]⟩, numVal t.s, 0⟩], l, ns)
    else if t.k = 97 then nameS (argsS (termS f) 4 []) t l ns
    else .error (errOf t 2)
theorem argsS_len (rd : List Tok → List ByteArray → Except (Int × Nat) (List Part × List Tok × List ByteArray)) (B : Nat)
    (h : ∀ l ns p l1 ns1, l.length ≤ B → rd l ns = .ok (p, l1, ns1) → l1.length < l.length) : ∀ (k : Nat) (acc : List (List Part)) (l : List Tok) (ns : List ByteArray) (as : List (List Part)) (l2 : List Tok) (ns2 : List ByteArray),
    l.length ≤ B → argsS rd k acc l ns = .ok (as, l2, ns2) → l2.length < l.length
  | 0, _, _, _, _, _, _, _, e => by simp [argsS] at e
  | k + 1, acc, l, ns, as, l2, ns2, hl, e => by
    rw [argsS] at e
    cases hr : rd l ns with
    | error x => rw [hr] at e; cases e
    | ok x =>
      obtain ⟨p, l1, ns1⟩ := x
      have h1 := h l ns p l1 ns1 hl hr
      rw [hr] at e
      cases l1 with
      | nil => cases e
      | cons u l3 =>
        simp only at e
        simp only [List.length_cons] at h1
        split at e
        · split at e
          · cases e
          · have := argsS_len rd B h k _ l3 ns1 as l2 ns2 (by omega) e; omega
        · split at e
          · simp only [Except.ok.injEq, Prod.mk.injEq] at e; obtain ⟨_, rfl, _⟩ := e; omega
          · cases e
theorem termS_len : ∀ (f : Nat) (l : List Tok) (ns : List ByteArray) (p : List Part) (l1 : List Tok) (ns1 : List ByteArray), termS f l ns = .ok (p, l1, ns1) → l1.length < l.length
  | 0, _, _, _, _, _, e => by simp [termS] at e
  | _ + 1, [], _, _, _, _, e => by simp [termS] at e
  | f + 1, t :: l, ns, p, l1, ns1, e => by
    rw [termS] at e
    split at e
    · unfold varT at e
      split at e
      · cases e
      · simp only [Except.ok.injEq, Prod.mk.injEq] at e; obtain ⟨_, rfl, _⟩ := e; simp
    · split at e
      · simp only [Except.ok.injEq, Prod.mk.injEq] at e; obtain ⟨_, rfl, _⟩ := e; simp
      · split at e
        · cases l with
          | nil => cases e
          | cons u l' =>
            simp only [nameS] at e
            split at e
            · cases ha : argsS (termS f) 4 [] l' ns with
              | error x => rw [ha] at e; cases e
              | ok x =>
                obtain ⟨as, l2, ns2⟩ := x
                rw [ha] at e
                simp only [Except.ok.injEq, Prod.mk.injEq] at e
                obtain ⟨_, rfl, _⟩ := e
                have := argsS_len (termS f) l'.length (fun l ns p l1 ns1 _ h => termS_len f l ns p l1 ns1 h) 4 [] l' ns as l2 ns2 (Nat.le_refl _) ha
                simp; omega
            · simp only [Except.ok.injEq, Prod.mk.injEq] at e; obtain ⟨_, rfl, _⟩ := e; simp
        · cases e
/-- A goal: a cut, or a term that is no variable and no number. -/
def goalS (f : Nat) (l : List Tok) (ns : List ByteArray) : Except (Int × Nat) (List Part × List Tok × List ByteArray) :=
  match l with
  | [] => .error (2, 0)
  | t :: l' => if t.k = 33 then .ok ([⟨4, ⟨#[]⟩, 0, 0⟩], l', ns)
    else match termS f (t :: l') ns with
      | .error e => .error e
      | .ok (p, l1, ns1) => if (p.head?.map (·.kind)) = some 3 then .ok (p, l1, ns1) else .error (5, t.at_)
def goalsS (f : Nat) : Nat → List (List Part) → List Tok → List ByteArray → Except (Int × Nat) (List (List Part) × List Tok × List ByteArray)
  | 0, _, _, _ => .error (2, 0)
  | k + 1, acc, l, ns => match goalS f l ns with
    | .error e => .error e
    | .ok (p, l1, ns1) => match l1 with
      | [] => .error (2, 0)
      | u :: l2 => if u.k = 44 then (if acc.length + 1 = 8 then .error (3, u.at_) else goalsS f k (acc ++ [p]) l2 ns1)
        else if u.k = 63 then .error (errOf u 2) else .ok (acc ++ [p], u :: l2, ns1)
structure Cl where
  head : List Part
  body : List (List Part)
  vars : Nat
def builtInB (s : ByteArray) (n : Int) : Bool :=
  (n == 0 && (decide (s = ⟨#[116, 114, 117, 101]⟩) || decide (s = ⟨#[102, 97, 105, 108]⟩))) || (n == 1 && decide (s = ⟨#[110, 111, 116]⟩)) || (n == 2 && (decide (s = ⟨#[101, 113]⟩) || decide (s = ⟨#[108, 101, 115, 115]⟩))) || (n == 3 && decide (s = ⟨#[112, 108, 117, 115]⟩))
def headB (p : List Part) : Bool := match p with
  | [] => false
  | h :: _ => h.kind == 3 && !builtInB h.name h.args
def dotS (c : List Part × List (List Part)) (l : List Tok) (ns : List ByteArray) : Except (Int × Nat) (Cl × List Tok) :=
  match l with
  | [] => .error (2, 0)
  | u :: l1 => if u.k = 46 then .ok (⟨c.1, c.2, ns.length⟩, l1) else .error (errOf u 2)
def clauseS (f : Nat) (l : List Tok) : Except (Int × Nat) (Cl × List Tok) :=
  match l with
  | [] => .error (2, 0)
  | t :: _ => match termS f l [] with
    | .error e => .error e
    | .ok (p, l1, ns1) => if headB p = true then (match l1 with
        | [] => .error (2, 0)
        | u :: l2 => if u.k = 58 then (match goalsS f 8 [] l2 ns1 with
            | .error e => .error e
            | .ok (gs, l3, ns2) => dotS (p, gs) l3 ns2)
          else dotS (p, []) (u :: l2) ns1)
      else .error (4, t.at_)
def clausesS (f : Nat) : Nat → List Cl → List Tok → Except (Int × Nat) (List Cl)
  | 0, _, _ => .error (2, 0)
  | _ + 1, _, [] => .error (2, 0)
  | k + 1, acc, t :: l => if t.k = 0 then .ok acc else match clauseS f (t :: l) with
    | .error e => .error e
    | .ok (c, l1) => clausesS f k (acc ++ [c]) l1
def readS (s : ByteArray) : Except (Int × Nat) (List Cl) :=
  if 400 < s.size then .error (1, 0) else clausesS (tokens s).length ((tokens s).length + 1) [] (tokens s)
end Rf
/- Plain facts on reading: what is left of the tokens ends as it did and is shorter. -/
namespace Rf
theorem argsS_ended (rd : List Tok → List ByteArray → Except (Int × Nat) (List Part × List Tok × List ByteArray))
    (h : ∀ l ns p l1 ns1, Ended l → rd l ns = .ok (p, l1, ns1) → Ended l1) : ∀ (k : Nat) (acc : List (List Part)) (l : List Tok) (ns : List ByteArray) (a1 : List (List Part)) (l2 : List Tok) (ns2 : List ByteArray),
    Ended l → argsS rd k acc l ns = .ok (a1, l2, ns2) → Ended l2
  | 0, _, _, _, _, _, _, _, e => by simp [argsS] at e
  | k + 1, acc, l, ns, a1, l2, ns2, hl, e => by
    rw [argsS] at e
    cases hr : rd l ns with
    | error x => rw [hr] at e; cases e
    | ok x =>
      obtain ⟨p, l1, ns1⟩ := x
      have h1 := h l ns p l1 ns1 hl hr
      rw [hr] at e
      cases l1 with
      | nil => cases e
      | cons u l3 =>
        simp only at e
        split at e
        · split at e
          · cases e
          · exact argsS_ended rd h k _ l3 ns1 a1 l2 ns2 (h1.tail (by omega) (by omega)) e
        · split at e
          · simp only [Except.ok.injEq, Prod.mk.injEq] at e; obtain ⟨_, rfl, _⟩ := e; exact h1.tail (by omega) (by omega)
          · cases e
theorem termS_ended : ∀ (f : Nat) (l : List Tok) (ns : List ByteArray) (p : List Part) (l1 : List Tok) (ns1 : List ByteArray), Ended l → termS f l ns = .ok (p, l1, ns1) → Ended l1
  | 0, _, _, _, _, _, _, e => by simp [termS] at e
  | _ + 1, [], _, _, _, _, h, _ => h.elim
  | f + 1, t :: l, ns, p, l1, ns1, h, e => by
    rw [termS] at e
    split at e
    · unfold varT at e
      split at e
      · cases e
      · simp only [Except.ok.injEq, Prod.mk.injEq] at e; obtain ⟨_, rfl, _⟩ := e; exact h.tail (by omega) (by omega)
    · split at e
      · simp only [Except.ok.injEq, Prod.mk.injEq] at e; obtain ⟨_, rfl, _⟩ := e; exact h.tail (by omega) (by omega)
      · split at e
        · have ht := h.tail (by omega) (by omega)
          cases l with
          | nil => cases e
          | cons u l' =>
            simp only [nameS] at e
            split at e
            · cases ha : argsS (termS f) 4 [] l' ns with
              | error x => rw [ha] at e; cases e
              | ok x =>
                obtain ⟨a1, l2, ns2⟩ := x
                rw [ha] at e
                simp only [Except.ok.injEq, Prod.mk.injEq] at e
                obtain ⟨_, rfl, _⟩ := e
                exact argsS_ended (termS f) (fun l ns p l1 ns1 he hh => termS_ended f l ns p l1 ns1 he hh) 4 [] l' ns a1 l2 ns2 (ht.tail (by omega) (by omega)) ha
            · simp only [Except.ok.injEq, Prod.mk.injEq] at e; obtain ⟨_, rfl, _⟩ := e; exact ht
        · cases e
theorem goalS_len' {f : Nat} {l : List Tok} {ns : List ByteArray} {p : List Part} {l1 : List Tok} {ns1 : List ByteArray} (h : goalS f l ns = .ok (p, l1, ns1)) : l1.length < l.length := by
  cases l with
  | nil => cases h
  | cons t l =>
    simp only [goalS] at h
    split at h
    · simp only [Except.ok.injEq, Prod.mk.injEq] at h; obtain ⟨_, rfl, _⟩ := h; simp
    · cases hr : termS f (t :: l) ns with
      | error x => rw [hr] at h; cases h
      | ok x =>
        obtain ⟨p', l', ns'⟩ := x
        rw [hr] at h
        simp only at h
        split at h
        · simp only [Except.ok.injEq, Prod.mk.injEq] at h; obtain ⟨_, rfl, _⟩ := h; exact termS_len f _ _ _ _ _ hr
        · cases h
theorem goalsS_len (f : Nat) : ∀ (k : Nat) (acc : List (List Part)) (l : List Tok) (ns : List ByteArray) (a1 : List (List Part)) (l2 : List Tok) (ns2 : List ByteArray),
    goalsS f k acc l ns = .ok (a1, l2, ns2) → l2.length < l.length ∧ ∃ y l3, l2 = y :: l3
  | 0, _, _, _, _, _, _, e => by simp [goalsS] at e
  | k + 1, acc, l, ns, a1, l2, ns2, e => by
    rw [goalsS] at e
    cases hr : goalS f l ns with
    | error x => rw [hr] at e; cases e
    | ok x =>
      obtain ⟨p, l1, ns1⟩ := x
      have h1 := goalS_len' hr
      rw [hr] at e
      cases l1 with
      | nil => cases e
      | cons u l3 =>
        simp only at e
        simp only [List.length_cons] at h1
        split at e
        · split at e
          · cases e
          · have := goalsS_len f k _ l3 ns1 a1 l2 ns2 e
            exact ⟨by omega, this.2⟩
        · split at e
          · cases e
          · simp only [Except.ok.injEq, Prod.mk.injEq] at e; obtain ⟨_, rfl, _⟩ := e; exact ⟨by simp; omega, _, _, rfl⟩
theorem dotS_len {c : List Part × List (List Part)} {l : List Tok} {ns : List ByteArray} {cl : Cl} {l1 : List Tok} (h : dotS c l ns = .ok (cl, l1)) : l1.length < l.length := by
  cases l with
  | nil => cases h
  | cons u l =>
    simp only [dotS] at h
    split at h
    · simp only [Except.ok.injEq, Prod.mk.injEq] at h; obtain ⟨_, rfl⟩ := h; simp
    · cases h
theorem clauseS_len {f : Nat} {l : List Tok} {cl : Cl} {l1 : List Tok} (h : clauseS f l = .ok (cl, l1)) : l1.length < l.length := by
  cases l with
  | nil => cases h
  | cons t l =>
    simp only [clauseS] at h
    cases hr : termS f (t :: l) [] with
    | error x => rw [hr] at h; cases h
    | ok x =>
      obtain ⟨p, l2, ns2⟩ := x
      have h1 := termS_len f _ _ _ _ _ hr
      rw [hr] at h
      simp only at h
      split at h
      · cases l2 with
        | nil => cases h
        | cons u l3 =>
          simp only at h
          simp only [List.length_cons] at h1 ⊢
          split at h
          · cases hg : goalsS f 8 [] l3 ns2 with
            | error x => rw [hg] at h; cases h
            | ok x =>
              obtain ⟨gs, l4, ns3⟩ := x
              rw [hg] at h
              simp only at h
              have h2 := (goalsS_len f _ _ _ _ _ _ _ hg).1
              have h3 := dotS_len h
              omega
          · have h3 := dotS_len h
            simp only [List.length_cons] at h3
            omega
      · cases h
end Rf
/- Plain functions: how a term and a clause are written (promise P6), told on the list of their parts. -/
namespace Rf
def itoaB (n : Int) : ByteArray := ⟨(Go.Lib.itoa n).toArray⟩
def letterOf (i : Int) : ByteArray := if 0 ≤ i ∧ i < 16 then ⟨#[UInt8.ofNat (65 + i.toNat)]⟩ else ⟨#[95]⟩
def wordP (p : Part) : ByteArray := if p.kind = 1 then letterOf p.value else if p.kind = 2 then itoaB p.value else if p.kind = 4 then ⟨#[33]⟩ else p.name
def closeP : List Nat → ByteArray × List Nat
  | [] => (⟨#[]⟩, [])
  | k :: st => if 1 < k then (⟨#[44]⟩, (k - 1) :: st) else (⟨#[41]⟩ ++ (closeP st).1, (closeP st).2)
def textP : List Part → List Nat → ByteArray
  | [], _ => ⟨#[]⟩
  | p :: ps, st => if 0 < p.args then wordP p ++ (⟨#[40]⟩ ++ textP ps (p.args.toNat :: st)) else wordP p ++ ((closeP st).1 ++ textP ps (closeP st).2)
def txt (ps : List Part) : ByteArray := textP ps []
def Wf : Nat → List Part → Prop
  | 0, _ => False
  | d + 1, ps => (∃ p : Part, ps = [p] ∧ p.args = 0) ∨ (∃ (s : ByteArray) (qs : List (List Part)), 1 ≤ qs.length ∧ (∀ q ∈ qs, Wf d q) ∧ ps = ⟨3, s, 0, qs.length⟩ :: qs.flatten)
def emp : ByteArray := ⟨#[]⟩
theorem emp_app (a : ByteArray) : (⟨#[]⟩ : ByteArray) ++ a = a := ByteArray.empty_append
theorem app_emp (a : ByteArray) : a ++ (⟨#[]⟩ : ByteArray) = a := ByteArray.append_empty
/-- The arguments' texts with commas between, and the bracket behind. -/
def joinP : List (List Part) → ByteArray
  | [] => ⟨#[]⟩
  | [q] => txt q ++ ⟨#[41]⟩
  | q :: q' :: qs => txt q ++ (⟨#[44]⟩ ++ joinP (q' :: qs))
theorem text_args (d : Nat) (H : ∀ q, Wf d q → ∀ rest st, textP (q ++ rest) st = txt q ++ ((closeP st).1 ++ textP rest (closeP st).2)) :
    ∀ (qs : List (List Part)), 1 ≤ qs.length → (∀ q ∈ qs, Wf d q) → ∀ rest st, textP (qs.flatten ++ rest) (qs.length :: st) = joinP qs ++ ((closeP st).1 ++ textP rest (closeP st).2)
  | [], h, _, _, _ => by simp at h
  | [q], _, hq, rest, st => by
    have h1 := H q (hq q (by simp)) rest (1 :: st)
    simp only [List.flatten_cons, List.flatten_nil, List.append_nil, List.length_cons, List.length_nil] at *
    rw [h1, joinP]
    simp only [closeP, Nat.lt_irrefl, if_false]
    simp only [ByteArray.append_assoc]
  | q :: q' :: qs, _, hq, rest, st => by
    have h1 := H q (hq q (by simp)) ((q' :: qs).flatten ++ rest) ((q :: q' :: qs).length :: st)
    have h2 := text_args d H (q' :: qs) (by simp) (fun x hx => hq x (List.mem_cons_of_mem _ hx)) rest st
    rw [List.flatten_cons, List.append_assoc, h1, joinP]
    have hc : closeP ((q :: q' :: qs).length :: st) = (⟨#[44]⟩, (q' :: qs).length :: st) := by
      rw [closeP, if_pos (by simp)]; rfl
    rw [hc]
    simp only [ByteArray.append_assoc]
    rw [h2]
theorem text_wf : ∀ (d : Nat) (ps : List Part), Wf d ps → ∀ rest st, textP (ps ++ rest) st = txt ps ++ ((closeP st).1 ++ textP rest (closeP st).2)
  | 0, _, h => h.elim
  | d + 1, ps, h => by
    intro rest st
    rcases h with ⟨p, rfl, h0⟩ | ⟨s, qs, h1, hq, rfl⟩
    · simp only [txt, List.singleton_append, textP, h0, Int.lt_irrefl, if_false, closeP, app_emp]
    · have h2 := text_args d (text_wf d) qs h1 hq
      have h3 := h2 rest st
      have h4 := h2 [] []
      simp only [List.append_nil, closeP, textP, app_emp] at h4
      simp only [txt, List.cons_append, textP]
      have hp : (0 : Int) < (qs.length : Int) := by omega
      simp only [hp, if_true, Int.toNat_natCast]
      rw [h3, h4]
      simp only [ByteArray.append_assoc]
/-- A compound's text. -/
theorem txt_comp (d : Nat) (s : ByteArray) (qs : List (List Part)) (h1 : 1 ≤ qs.length) (hq : ∀ q ∈ qs, Wf d q) : txt (⟨3, s, 0, qs.length⟩ :: qs.flatten) = s ++ (⟨#[40]⟩ ++ joinP qs) := by
  have h4 := text_args d (text_wf d) qs h1 hq [] []
  simp only [List.append_nil, closeP, textP, app_emp] at h4
  simp only [txt, textP]
  have hp : (0 : Int) < (qs.length : Int) := by omega
  simp only [hp, if_true, Int.toNat_natCast]
  rw [h4]
  simp [wordP]
/-- A compound's text, as far as i arguments have been written. -/
def accW (s : ByteArray) (qs : List (List Part)) : Nat → ByteArray
  | 0 => s
  | i + 1 => if i = 0 then (s ++ ⟨#[40]⟩) ++ txt (qs.getD 0 []) else (accW s qs i ++ ⟨#[44]⟩) ++ txt (qs.getD i [])
theorem accW_tail (s : ByteArray) : ∀ (n : Nat) (qs : List (List Part)) (i : Nat), n + i = qs.length → 1 ≤ n → 1 ≤ i → accW s qs qs.length ++ ⟨#[41]⟩ = (accW s qs i ++ ⟨#[44]⟩) ++ joinP (qs.drop i)
  | 0, _, _, _, h, _ => by omega
  | n + 1, qs, i, hn, _, hi => by
    have hlt : i < qs.length := by omega
    have hd := List.drop_eq_getElem_cons hlt
    have hg : qs.getD i [] = qs[i] := by simp [hlt]
    by_cases h0 : n = 0
    · have hnil : qs.drop (i + 1) = [] := List.drop_of_length_le (by omega)
      rw [hd, hnil, joinP, show qs.length = i + 1 by omega, accW, if_neg (by omega), hg]
      simp only [ByteArray.append_assoc]
    · rw [accW_tail s n qs (i + 1) (by omega) (by omega) (by omega), accW, if_neg (by omega), hg]
      rw [hd]
      have hd2 := List.drop_eq_getElem_cons (show i + 1 < qs.length by omega)
      rw [hd2, joinP]
      simp only [ByteArray.append_assoc]
theorem accW_end (s : ByteArray) (qs : List (List Part)) (h : 1 ≤ qs.length) : accW s qs qs.length ++ ⟨#[41]⟩ = s ++ (⟨#[40]⟩ ++ joinP qs) := by
  cases qs with
  | nil => simp at h
  | cons q qs =>
    cases qs with
    | nil => simp only [List.length_cons, List.length_nil, accW, joinP, if_true]; simp [ByteArray.append_assoc]
    | cons q' qs =>
      rw [accW_tail s ((q :: q' :: qs).length - 1) (q :: q' :: qs) 1 (by simp) (by simp) (Nat.le_refl _)]
      simp only [accW, if_true, joinP, List.drop_succ_cons, List.drop_zero]
      simp [ByteArray.append_assoc]
/-- A clause's line, as far as i goals have been written. -/
def accL (s : ByteArray) (gs : List (List Part)) : Nat → ByteArray
  | 0 => s
  | i + 1 => if i = 0 then (s ++ ⟨#[58, 45]⟩) ++ txt (gs.getD 0 []) else (accL s gs i ++ ⟨#[44]⟩) ++ txt (gs.getD i [])
def lineP (c : Cl) : ByteArray := accL (txt c.head) c.body c.body.length ++ ⟨#[46, 10]⟩
def listP : List Cl → ByteArray
  | [] => ⟨#[]⟩
  | c :: cs => lineP c ++ listP cs
end Rf
