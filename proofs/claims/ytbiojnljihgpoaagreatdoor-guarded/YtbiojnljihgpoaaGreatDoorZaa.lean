
import Derived.Lib.Atoi
import Derived.Lib.ItoaNum
import Derived.Lib.ItoaLen
namespace Rf
def byteAt (s : ByteArray) (k : Nat) : Int := ((s.data.toList)[k]?.getD 0).toNat
theorem byteAt_eq (s : ByteArray) (k : Nat) (h : k < s.size) : (s[k].toNat : Int) = byteAt s k := by
 unfold byteAt
 have h' : k < s.data.toList.length := by simpa using h
 rw [List.getElem?_eq_getElem h']
 rfl
def digitB (c : Int) : Bool := decide (48 <= c) && decide (c <= 57)
def letterB (c : Int) : Bool := (decide (97 <= c) && decide (c <= 122)) || (decide (65 <= c) && decide (c <= 90)) || c == 95 || (decide (48 <= c) && decide (c <= 57))
def okB (dg : Bool) (c : Int) : Bool := letterB c && (!dg || digitB c)
def runLen (s : ByteArray) (dg : Bool) (n : Nat) : Nat := ((s.data.toList.drop n).takeWhile fun c => okB dg c.toNat).length
theorem drop_cons (s : ByteArray) (n : Nat) (h : n < s.size) : s.data.toList.drop n = s[n] :: s.data.toList.drop (n + 1) := by
 have h' : n < s.data.toList.length := by simpa using h
 rw [List.drop_eq_getElem_cons h']; rfl
theorem runLen_yes (s : ByteArray) (dg : Bool) (n : Nat) (h : n < s.size) (hk : okB dg (byteAt s n) = true) : runLen s dg n = runLen s dg (n + 1) + 1 := by
 unfold runLen
 rw [drop_cons s n h, List.takeWhile_cons, if_pos (by rw [byteAt_eq s n h]; exact hk)]
 simp
theorem runLen_no (s : ByteArray) (dg : Bool) (n : Nat) (h : n < s.size) (hk : okB dg (byteAt s n) = false) : runLen s dg n = 0 := by
 unfold runLen
 rw [drop_cons s n h, List.takeWhile_cons, if_neg (by rw [byteAt_eq s n h, hk]; simp)]
 rfl
theorem runLen_end (s : ByteArray) (dg : Bool) (n : Nat) (h : s.size <= n) : runLen s dg n = 0 := by
 unfold runLen
 rw [List.drop_of_length_le (by simpa using h)]; rfl
theorem runLen_le (s : ByteArray) (dg : Bool) (n : Nat) : runLen s dg n <= s.size - n := by
 unfold runLen
 refine Nat.le_trans (List.takeWhile_sublist _).length_le ?_
 simp
def runS (s : ByteArray) (dg : Bool) (n : Nat) : ByteArray := s.extract n (n + runLen s dg n)
theorem runS_size (s : ByteArray) (dg : Bool) (n : Nat) : (runS s dg n).size = runLen s dg n := by
 have := runLen_le s dg n
 unfold runS
 rw [ByteArray.size_extract]
 by_cases h : n <= s.size
 ·omega
 ·have := runLen_end s dg n (by omega)
  omega
structure Tok where
 k : Int
 at_ : Nat
 s : ByteArray
 e : Int
def bad (at_ : Nat) (e : Int) : Tok := ⟨63, at_, ⟨#[]⟩, e⟩
def numTok (at_ : Nat) (neg : Bool) (w : ByteArray) : Tok :=
 if w.size = 0 then bad at_ 2 else if 9 < w.size then bad at_ 3 else ⟨110, at_, if neg then ⟨#[45]⟩ ++ w else w, 0⟩
def wordTok (at_ : Nat) (c : Int) (w : ByteArray) : Tok :=
 if 12 < w.size then bad at_ 3 else if 97 <= c /\ c <= 122 then ⟨97, at_, w, 0⟩ else ⟨118, at_, w, 0⟩
def markB (c : Int) : Bool := c == 40 || c == 41 || c == 44 || c == 46 || c == 33
def tokenAt (s : ByteArray) (n : Nat) : Tok :=
 if byteAt s n = 45 then numTok n true (runS s true (n + 1))
 else if digitB (byteAt s n) = true then numTok n false (runS s true n)
 else if letterB (byteAt s n) = true then wordTok n (byteAt s n) (runS s false n)
 else if markB (byteAt s n) = true then ⟨byteAt s n, n, s.extract n (n + 1), 0⟩
 else if byteAt s n = 58 /\ n + 1 < s.size /\ byteAt s (n + 1) = 45 then ⟨58, n, ⟨#[58, 45]⟩, 0⟩
 else bad n 2
theorem neg_size (W : ByteArray) : (⟨#[45]⟩ ++ W : ByteArray).size = W.size + 1 := by
 rw [ByteArray.size_append]; show 1 + W.size = _; omega
theorem numTok_fit (n : Nat) (neg : Bool) (W : ByteArray) (h : (numTok n neg W).k ≠ 63) : (numTok n neg W).s.size = W.size + (if neg then 1 else 0) /\ 1 <= W.size := by
 unfold numTok at *
 split at h
 ·simp [bad] at h
 ·split at h
  ·simp [bad] at h
  ·rename_i h1 h2
   rw [if_neg h1, if_neg h2]
   cases neg
   ·simp; omega
   ·show (⟨#[45]⟩ ++ W : ByteArray).size = W.size + 1 /\ 1 <= W.size
    rw [neg_size]; omega
theorem wordTok_fit (n : Nat) (c : Int) (W : ByteArray) (h : (wordTok n c W).k ≠ 63) : (wordTok n c W).s = W := by
 unfold wordTok at *
 split at h
 ·simp [bad] at h
 ·rename_i h1
  rw [if_neg h1]; split <;> rfl
theorem digit_letter (c : Int) (h : digitB c = true) : letterB c = true := by
 unfold digitB at h; unfold letterB; simp at h; simp; omega
theorem runLen_pos (s : ByteArray) (dg : Bool) (n : Nat) (h : n < s.size) (hk : okB dg (byteAt s n) = true) : 1 <= runLen s dg n := by
 rw [runLen_yes s dg n h hk]; omega
theorem tokenAt_fit (s : ByteArray) (n : Nat) (hn : n < s.size) (h : (tokenAt s n).k ≠ 63) : 1 <= (tokenAt s n).s.size /\ n + (tokenAt s n).s.size <= s.size := by
 have r1 := runLen_le s true (n + 1)
 have r2 := runLen_le s true n
 have r3 := runLen_le s false n
 unfold tokenAt at *
 split at h
 ·rename_i h1
  rw [if_pos h1]
  have := numTok_fit _ _ _ h
  rw [runS_size] at this; simp at this; omega
 ·rename_i h1
  rw [if_neg h1]
  split at h
  ·rename_i h2
   rw [if_pos h2]
   have := numTok_fit _ _ _ h
   rw [runS_size] at this; simp at this; omega
  ·rename_i h2
   rw [if_neg h2]
   split at h
   ·rename_i h3
    rw [if_pos h3]
    have := wordTok_fit _ _ _ h
    rw [this, runS_size]
    have := runLen_pos s false n hn (by simp [okB, h3])
    omega
   ·rename_i h3
    rw [if_neg h3]
    split at h
    ·rename_i h4
     rw [if_pos h4]
     simp only [ByteArray.size_extract]; omega
    ·rename_i h4
     rw [if_neg h4]
     split at h
     ·rename_i h5
      rw [if_pos h5]
      exact ⟨by show 1 <= 2; omega, by show n + 2 <= _; omega⟩
     ·simp [bad] at h
def endTok (s : ByteArray) : Tok := ⟨0, s.size, ⟨#[]⟩, 0⟩
def blankB (c : Int) : Bool := c == 32 || c == 10
def toks (s : ByteArray) : Nat -> Nat -> List Tok
  | 0, _ => [endTok s]
  | f + 1, n => if n < s.size then
      (if blankB (byteAt s n) = true then toks s f (n + 1)
       else if (tokenAt s n).k = 63 then [tokenAt s n] else tokenAt s n :: toks s f (n + (tokenAt s n).s.size))
      else [endTok s]
def tokens (s : ByteArray) : List Tok := toks s s.size 0
theorem toks_end (s : ByteArray) (f n : Nat) (h : s.size <= n) : toks s f n = [endTok s] := by
 cases f with
 | zero => rfl
 | succ f => rw [toks, if_neg (by omega)]
theorem toks_blank (s : ByteArray) (f n : Nat) (h : n < s.size) (hf : s.size <= n + f) (hb : blankB (byteAt s n) = true) : toks s f n = toks s (f - 1) (n + 1) := by
 cases f with
 | zero => omega
 | succ f => rw [toks, if_pos h, if_pos hb]; rfl
theorem toks_bad (s : ByteArray) (f n : Nat) (h : n < s.size) (hf : s.size <= n + f) (hb : blankB (byteAt s n) = false) (hk : (tokenAt s n).k = 63) : toks s f n = [tokenAt s n] := by
 cases f with
 | zero => omega
 | succ f => rw [toks, if_pos h, if_neg (by simp [hb]), if_pos hk]
theorem toks_tok (s : ByteArray) (f n : Nat) (h : n < s.size) (hf : s.size <= n + f) (hb : blankB (byteAt s n) = false) (hk : (tokenAt s n).k ≠ 63) : toks s f n = tokenAt s n :: toks s (f - 1) (n + (tokenAt s n).s.size) := by
 cases f with
 | zero => omega
 | succ f => rw [toks, if_pos h, if_neg (by simp [hb]), if_neg hk]; rfl
theorem toks_len (s : ByteArray) : ∀ (f n : Nat), (toks s f n).length <= f + 1
 | 0, _ => by simp [toks]
 | f + 1, n => by
  rw [toks]
  split
  ·split
   ·have := toks_len s f (n + 1); omega
   ·split
    ·simp
    ·have := toks_len s f (n + (tokenAt s n).s.size); simp; omega
  ·simp
theorem runS_list (s : ByteArray) (dg : Bool) (n : Nat) : (runS s dg n).data.toList = (s.data.toList.drop n).takeWhile fun c => okB dg c.toNat := by
 unfold runS
 rw [ByteArray.data_extract, Array.toList_extract, List.extract_eq_take_drop]
 have h := List.prefix_iff_eq_take.1 (List.takeWhile_prefix (l := s.data.toList.drop n) (fun c : UInt8 => okB dg c.toNat))
 rw [h]
 congr 1
 unfold runLen
 omega
theorem decFrom_digits : ∀ (l : List UInt8) (acc : Nat), (l.all fun c => digitB c.toNat) = true -> ∃ v, Go.Lib.decFrom acc l = some v /\ v + 1 <= (acc + 1) * 10 ^ l.length
 | [], acc, _ => ⟨acc, rfl, by simp⟩
 | c :: l, acc, h => by
  simp only [List.all_cons, Bool.and_eq_true] at h
  have hc := h.1
  unfold digitB at hc
  simp only [Bool.and_eq_true, decide_eq_true_eq] at hc
  obtain ⟨v, hv, hb⟩ := decFrom_digits l (acc * 10 + (c.toNat - 48)) h.2
  refine ⟨v, ?_, Nat.le_trans hb ?_⟩
  ·rw [Go.Lib.decFrom, Go.Lib.digitVal, if_pos (by omega)]; exact hv
  ·rw [List.length_cons, Nat.pow_succ, Nat.mul_comm (10 ^ l.length) 10, <- Nat.mul_assoc]
   exact Nat.mul_le_mul_right _ (by omega)
def Fine (t : Tok) : Prop := (t.k = 110 -> t.s.size <= 10 /\ ∃ v, Go.Lib.atoi t.s.data.toList = some v /\ -999999999 <= v /\ v <= 999999999) /\ (t.k = 97 -> t.s.size <= 12)
theorem numTok_fine (n : Nat) (neg : Bool) (W : ByteArray) (h : (W.data.toList.all fun c => digitB c.toNat) = true) : Fine (numTok n neg W) := by
 unfold numTok
 split
 ·exact ⟨fun h => by simp [bad] at h, fun h => by simp [bad] at h⟩
 ·split
  ·exact ⟨fun h => by simp [bad] at h, fun h => by simp [bad] at h⟩
  ·rename_i h1 h2
   refine ⟨fun _ => ?_, fun h => by simp at h⟩
   obtain ⟨v, hv, hb⟩ := decFrom_digits W.data.toList 0 h
   have hlen : W.data.toList.length = W.size := by simp
   have hp : 10 ^ W.data.toList.length <= 10 ^ 9 := Nat.pow_le_pow_right (by omega) (by omega)
   have hv9 : v <= 999999999 := by
    simp only [Nat.zero_add, Nat.one_mul] at hb
    have h10 : (10 : Nat) ^ 9 = 1000000000 := by decide
    omega
   have hdn : Go.Lib.decNat W.data.toList = some v := by
    unfold Go.Lib.decNat
    rw [if_neg (by rw [List.isEmpty_iff]; intro e; rw [e] at hlen; simp at hlen; omega)]
    exact hv
   cases neg with
   | true =>
    refine ⟨by show (⟨#[45]⟩ ++ W : ByteArray).size <= 10; rw [neg_size]; omega, -(v : Int), ?_, by omega, by omega⟩
    show Go.Lib.atoi (⟨#[45]⟩ ++ W : ByteArray).data.toList = _
    rw [ByteArray.data_append]
    simp [Go.Lib.atoi, hdn]
   | false =>
    refine ⟨by show W.size <= 10; omega, (v : Int), ?_, by omega, by omega⟩
    show Go.Lib.atoi W.data.toList = _
    cases hw : W.data.toList with
    | nil => rw [hw] at hlen; simp at hlen; omega
    | cons c l =>
     rw [hw] at h hdn
     simp only [List.all_cons, Bool.and_eq_true] at h
     have hc := h.1
     unfold digitB at hc
     simp only [Bool.and_eq_true, decide_eq_true_eq] at hc
     have c1 : (c == 45) = false := by rw [beq_eq_false_iff_ne]; rintro rfl; revert hc; decide
     have c2 : (c == 43) = false := by rw [beq_eq_false_iff_ne]; rintro rfl; revert hc; decide
     simp [Go.Lib.atoi, c1, c2, hdn]
theorem run_digits (s : ByteArray) (n : Nat) : ((runS s true n).data.toList.all fun c => digitB c.toNat) = true := by
 rw [runS_list, List.all_eq_true]
 intro c hc
 have := List.all_eq_true.1 (List.all_takeWhile (p := fun c : UInt8 => okB true c.toNat) (l := s.data.toList.drop n)) c hc
 unfold okB at this
 simp at this
 exact this.2
theorem tokenAt_fine (s : ByteArray) (n : Nat) : Fine (tokenAt s n) := by
 have hm : ∀ c : Int, markB c = true -> c ≠ 110 /\ c ≠ 97 := by intro c h; unfold markB at h; simp at h; omega
 unfold tokenAt
 split
 ·exact numTok_fine _ _ _ (run_digits _ _)
 ·split
  ·exact numTok_fine _ _ _ (run_digits _ _)
  ·split
   ·unfold wordTok
    split
    ·exact ⟨fun h => by simp [bad] at h, fun h => by simp [bad] at h⟩
    ·split
     ·exact ⟨fun h => by simp at h, fun _ => by show (runS s false n).size <= 12; omega⟩
     ·exact ⟨fun h => by simp at h, fun h => by simp at h⟩
   ·split
    ·rename_i h; exact ⟨fun e => absurd e (hm _ h).1, fun e => absurd e (hm _ h).2⟩
    ·split
     ·exact ⟨fun h => by simp at h, fun h => by simp at h⟩
     ·exact ⟨fun h => by simp [bad] at h, fun h => by simp [bad] at h⟩
def Ended : List Tok -> Prop
 | [] => False
 | [t] => t.k = 0 \/ (t.k = 63 /\ t.e ≠ 0)
 | t :: u :: l => ((t.k ≠ 0 /\ t.k ≠ 63) /\ Fine t) /\ Ended (u :: l)
theorem Ended.tail {t : Tok} {l : List Tok} (h : Ended (t :: l)) (h0 : t.k ≠ 0) (h63 : t.k ≠ 63) : Ended l := by
 cases l with
 | nil => rcases h with h | ⟨h, _⟩ <;> contradiction
 | cons u l => exact h.2
theorem Ended.fine {t : Tok} {l : List Tok} (h : Ended (t :: l)) : Fine t := by
 cases l with
 | nil => rcases h with h | ⟨h, _⟩ <;> exact ⟨fun e => by omega, fun e => by omega⟩
 | cons u l => exact h.1.2
theorem Ended.bad {t : Tok} {l : List Tok} (h : Ended (t :: l)) (h63 : t.k = 63) : t.e ≠ 0 := by
 cases l with
 | nil =>
  rcases h with h | ⟨_, h⟩
  ·omega
  ·exact h
 | cons u l => exact absurd h63 h.1.1.2
theorem Ended.ne {l : List Tok} (h : Ended l) : l ≠ [] := by cases l with
 | nil => exact h.elim
 | cons => simp
theorem Ended.cons {t : Tok} {l : List Tok} (h : Ended l) (h0 : t.k ≠ 0) (h63 : t.k ≠ 63) (hf : Fine t) : Ended (t :: l) := by
 cases l with
 | nil => exact h.elim
 | cons u l => exact ⟨⟨⟨h0, h63⟩, hf⟩, h⟩
theorem tokenAt_ne (s : ByteArray) (n : Nat) : (tokenAt s n).k ≠ 0 := by
 have hm : ∀ c : Int, markB c = true -> c ≠ 0 := by intro c h; unfold markB at h; simp at h; omega
 unfold tokenAt numTok wordTok bad
 repeat' split
 all_goals (first | (simp; done) | (exact hm _ ‹_›))
theorem tokenAt_bad (s : ByteArray) (n : Nat) : (tokenAt s n).k = 63 -> (tokenAt s n).e ≠ 0 := by
 have hm : ∀ c : Int, markB c = true -> c ≠ 63 := by intro c h; unfold markB at h; simp at h; omega
 unfold tokenAt numTok wordTok bad
 repeat' split
 all_goals (first | (simp; done) | (exact fun h => absurd h (hm _ ‹_›)))
theorem toks_ended (s : ByteArray) : ∀ (f n : Nat), Ended (toks s f n)
 | 0, _ => .inl rfl
 | f + 1, n => by
  rw [toks]
  split
  ·split
   ·exact toks_ended s f _
   ·split
    ·rename_i h; exact .inr ⟨h, tokenAt_bad s n h⟩
    ·rename_i h; exact (toks_ended s f _).cons (tokenAt_ne s n) h (tokenAt_fine s n)
  ·exact .inl rfl
def errOf (t : Tok) (e : Int) : Int × Nat := (if t.k = 63 then t.e else e, t.at_)
structure Part where
 kind : Int
 name : ByteArray
 value : Int
 args : Int
def under : ByteArray := ⟨#[95]⟩
def numVal (s : ByteArray) : Int := (Go.Lib.atoi s.data.toList).getD 0
def lookS (s : ByteArray) (ns : List ByteArray) : Option Nat := if s = under then none else ns.findIdx? (fun n => n = s)
def varS (t : Tok) (ns : List ByteArray) : Except (Int × Nat) (Nat × List ByteArray) :=
 match lookS t.s ns with
 | some i => .ok (i, ns)
 | none => if ns.length = 16 then .error (3, t.at_) else .ok (ns.length, ns ++ [t.s])
def argsS (rd : List Tok -> List ByteArray -> Except (Int × Nat) (List Part × List Tok × List ByteArray)) : Nat -> List (List Part) -> List Tok -> List ByteArray -> Except (Int × Nat) (List (List Part) × List Tok × List ByteArray)
 | 0, _, _, _ => .error (2, 0)
 | k + 1, acc, l, ns => match rd l ns with
  | .error e => .error e
  | .ok (p, l1, ns1) => match l1 with
   | [] => .error (2, 0)
   | u :: l2 => if u.k = 44 then (if acc.length + 1 = 4 then .error (3, u.at_) else argsS rd k (acc ++ [p]) l2 ns1)
    else if u.k = 41 then .ok (acc ++ [p], l2, ns1) else .error (errOf u 2)
def nameS (rd : List Tok -> List ByteArray -> Except (Int × Nat) (List (List Part) × List Tok × List ByteArray)) (t : Tok) (l : List Tok) (ns : List ByteArray) : Except (Int × Nat) (List Part × List Tok × List ByteArray) :=
 match l with
 | [] => .error (2, 0)
 | u :: l' => if u.k = 40 then (match rd l' ns with
   | .error e => .error e
   | .ok (a1, l2, ns2) => .ok (⟨3, t.s, 0, a1.length⟩ :: a1.flatten, l2, ns2))
  else .ok ([⟨3, t.s, 0, 0⟩], u :: l', ns)
def varT (t : Tok) (l : List Tok) (ns : List ByteArray) : Except (Int × Nat) (List Part × List Tok × List ByteArray) :=
 match varS t ns with
 | .error e => .error e
 | .ok (i, ns') => .ok ([⟨1, ⟨#[]⟩, i, 0⟩], l, ns')
def termS : Nat -> List Tok -> List ByteArray -> Except (Int × Nat) (List Part × List Tok × List ByteArray)
 | 0, _, _ => .error (2, 0)
 | _ + 1, [], _ => .error (2, 0)
 | f + 1, t :: l, ns =>
  if t.k = 118 then varT t l ns
  else if t.k = 110 then .ok ([⟨2, ⟨#[]⟩, numVal t.s, 0⟩], l, ns)
  else if t.k = 97 then nameS (argsS (termS f) 4 []) t l ns
  else .error (errOf t 2)
theorem argsS_len (rd : List Tok -> List ByteArray -> Except (Int × Nat) (List Part × List Tok × List ByteArray)) (B : Nat)
  (h : ∀ l ns p l1 ns1, l.length <= B -> rd l ns = .ok (p, l1, ns1) -> l1.length < l.length) : ∀ (k : Nat) (acc : List (List Part)) (l : List Tok) (ns : List ByteArray) (as : List (List Part)) (l2 : List Tok) (ns2 : List ByteArray),
  l.length <= B -> argsS rd k acc l ns = .ok (as, l2, ns2) -> l2.length < l.length
 | 0, _, _, _, _, _, _, _, e => by simp [argsS] at e
 | k + 1, acc, l, ns, as, l2, ns2, hl, e => by
  rw [argsS] at e
  cases hr : rd l ns with
  | error x => rw [hr] at e; cases e
  | ok x =>
   obtain ⟨p, l1, ns1⟩ := x
   have h1 := h l ns p l1 ns1 hl hr
   rw [hr] at e
   cases l1 with
   | nil => cases e
   | cons u l3 =>
    simp only at e
    simp only [List.length_cons] at h1
    split at e
    ·split at e
     ·cases e
     ·have := argsS_len rd B h k _ l3 ns1 as l2 ns2 (by omega) e; omega
    ·split at e
     ·simp only [Except.ok.injEq, Prod.mk.injEq] at e; obtain ⟨_, rfl, _⟩ := e; omega
     ·cases e
theorem termS_len : ∀ (f : Nat) (l : List Tok) (ns : List ByteArray) (p : List Part) (l1 : List Tok) (ns1 : List ByteArray), termS f l ns = .ok (p, l1, ns1) -> l1.length < l.length
 | 0, _, _, _, _, _, e => by simp [termS] at e
 | _ + 1, [], _, _, _, _, e => by simp [termS] at e
 | f + 1, t :: l, ns, p, l1, ns1, e => by
  rw [termS] at e
  split at e
  ·unfold varT at e
   split at e
   ·cases e
   ·simp only [Except.ok.injEq, Prod.mk.injEq] at e; obtain ⟨_, rfl, _⟩ := e; simp
  ·split at e
   ·simp only [Except.ok.injEq, Prod.mk.injEq] at e; obtain ⟨_, rfl, _⟩ := e; simp
   ·split at e
    ·cases l with
     | nil => cases e
     | cons u l' =>
      simp only [nameS] at e
      split at e
      ·cases ha : argsS (termS f) 4 [] l' ns with
       | error x => rw [ha] at e; cases e
       | ok x =>
        obtain ⟨as, l2, ns2⟩ := x
        rw [ha] at e
        simp only [Except.ok.injEq, Prod.mk.injEq] at e
        obtain ⟨_, rfl, _⟩ := e
        have := argsS_len (termS f) l'.length (fun l ns p l1 ns1 _ h => termS_len f l ns p l1 ns1 h) 4 [] l' ns as l2 ns2 (Nat.le_refl _) ha
        simp; omega
      ·simp only [Except.ok.injEq, Prod.mk.injEq] at e; obtain ⟨_, rfl, _⟩ := e; simp
    ·cases e
def goalS (f : Nat) (l : List Tok) (ns : List ByteArray) : Except (Int × Nat) (List Part × List Tok × List ByteArray) :=
 match l with
 | [] => .error (2, 0)
 | t :: l' => if t.k = 33 then .ok ([⟨4, ⟨#[]⟩, 0, 0⟩], l', ns)
  else match termS f (t :: l') ns with
   | .error e => .error e
   | .ok (p, l1, ns1) => if (p.head?.map (·.kind)) = some 3 then .ok (p, l1, ns1) else .error (5, t.at_)
def goalsS (f : Nat) : Nat -> List (List Part) -> List Tok -> List ByteArray -> Except (Int × Nat) (List (List Part) × List Tok × List ByteArray)
 | 0, _, _, _ => .error (2, 0)
 | k + 1, acc, l, ns => match goalS f l ns with
  | .error e => .error e
  | .ok (p, l1, ns1) => match l1 with
   | [] => .error (2, 0)
   | u :: l2 => if u.k = 44 then (if acc.length + 1 = 8 then .error (3, u.at_) else goalsS f k (acc ++ [p]) l2 ns1)
    else if u.k = 63 then .error (errOf u 2) else .ok (acc ++ [p], u :: l2, ns1)
structure Cl where
 head : List Part
 body : List (List Part)
 vars : Nat
def builtInB (s : ByteArray) (n : Int) : Bool :=
 (n == 0 && (decide (s = ⟨#[116, 114, 117, 101]⟩) || decide (s = ⟨#[102, 97, 105, 108]⟩))) || (n == 1 && decide (s = ⟨#[110, 111, 116]⟩)) || (n == 2 && (decide (s = ⟨#[101, 113]⟩) || decide (s = ⟨#[108, 101, 115, 115]⟩))) || (n == 3 && decide (s = ⟨#[112, 108, 117, 115]⟩))
def headB (p : List Part) : Bool := match p with
 | [] => false
 | h :: _ => h.kind == 3 && !builtInB h.name h.args
def dotS (c : List Part × List (List Part)) (l : List Tok) (ns : List ByteArray) : Except (Int × Nat) (Cl × List Tok) :=
 match l with
 | [] => .error (2, 0)
 | u :: l1 => if u.k = 46 then .ok (⟨c.1, c.2, ns.length⟩, l1) else .error (errOf u 2)
def clauseS (f : Nat) (l : List Tok) : Except (Int × Nat) (Cl × List Tok) :=
 match l with
 | [] => .error (2, 0)
 | t :: _ => match termS f l [] with
  | .error e => .error e
  | .ok (p, l1, ns1) => if headB p = true then (match l1 with
    | [] => .error (2, 0)
    | u :: l2 => if u.k = 58 then (match goalsS f 8 [] l2 ns1 with
      | .error e => .error e
      | .ok (gs, l3, ns2) => dotS (p, gs) l3 ns2)
     else dotS (p, []) (u :: l2) ns1)
   else .error (4, t.at_)
def clausesS (f : Nat) : Nat -> List Cl -> List Tok -> Except (Int × Nat) (List Cl)
 | 0, _, _ => .error (2, 0)
 | _ + 1, _, [] => .error (2, 0)
 | k + 1, acc, t :: l => if t.k = 0 then .ok acc else match clauseS f (t :: l) with
  | .error e => .error e
  | .ok (c, l1) => clausesS f k (acc ++ [c]) l1
def readS (s : ByteArray) : Except (Int × Nat) (List Cl) :=
 if 400 < s.size then .error (1, 0) else clausesS (tokens s).length ((tokens s).length + 1) [] (tokens s)
theorem goalS_len' {f : Nat} {l : List Tok} {ns : List ByteArray} {p : List Part} {l1 : List Tok} {ns1 : List ByteArray} (h : goalS f l ns = .ok (p, l1, ns1)) : l1.length < l.length := by
 cases l with
 | nil => cases h
 | cons t l =>
  simp only [goalS] at h
  split at h
  ·simp only [Except.ok.injEq, Prod.mk.injEq] at h; obtain ⟨_, rfl, _⟩ := h; simp
  ·cases hr : termS f (t :: l) ns with
   | error x => rw [hr] at h; cases h
   | ok x =>
    obtain ⟨p', l', ns'⟩ := x
    rw [hr] at h
    simp only at h
    split at h
    ·simp only [Except.ok.injEq, Prod.mk.injEq] at h; obtain ⟨_, rfl, _⟩ := h; exact termS_len f _ _ _ _ _ hr
    ·cases h
theorem goalsS_len (f : Nat) : ∀ (k : Nat) (acc : List (List Part)) (l : List Tok) (ns : List ByteArray) (a1 : List (List Part)) (l2 : List Tok) (ns2 : List ByteArray),
  goalsS f k acc l ns = .ok (a1, l2, ns2) -> l2.length < l.length /\ ∃ y l3, l2 = y :: l3
 | 0, _, _, _, _, _, _, e => by simp [goalsS] at e
 | k + 1, acc, l, ns, a1, l2, ns2, e => by
  rw [goalsS] at e
  cases hr : goalS f l ns with
  | error x => rw [hr] at e; cases e
  | ok x =>
   obtain ⟨p, l1, ns1⟩ := x
   have h1 := goalS_len' hr
   rw [hr] at e
   cases l1 with
   | nil => cases e
   | cons u l3 =>
    simp only at e
    simp only [List.length_cons] at h1
    split at e
    ·split at e
     ·cases e
     ·have := goalsS_len f k _ l3 ns1 a1 l2 ns2 e
      exact ⟨by omega, this.2⟩
    ·split at e
     ·cases e
     ·simp only [Except.ok.injEq, Prod.mk.injEq] at e; obtain ⟨_, rfl, _⟩ := e; exact ⟨by simp; omega, _, _, rfl⟩
theorem dotS_len {c : List Part × List (List Part)} {l : List Tok} {ns : List ByteArray} {cl : Cl} {l1 : List Tok} (h : dotS c l ns = .ok (cl, l1)) : l1.length < l.length := by
 cases l with
 | nil => cases h
 | cons u l =>
  simp only [dotS] at h
  split at h
  ·simp only [Except.ok.injEq, Prod.mk.injEq] at h; obtain ⟨_, rfl⟩ := h; simp
  ·cases h
theorem clauseS_len {f : Nat} {l : List Tok} {cl : Cl} {l1 : List Tok} (h : clauseS f l = .ok (cl, l1)) : l1.length < l.length := by
 cases l with
 | nil => cases h
 | cons t l =>
  simp only [clauseS] at h
  cases hr : termS f (t :: l) [] with
  | error x => rw [hr] at h; cases h
  | ok x =>
   obtain ⟨p, l2, ns2⟩ := x
   have h1 := termS_len f _ _ _ _ _ hr
   rw [hr] at h
   simp only at h
   split at h
   ·cases l2 with
    | nil => cases h
    | cons u l3 =>
     simp only at h
     simp only [List.length_cons] at h1 ⊢
     split at h
     ·cases hg : goalsS f 8 [] l3 ns2 with
      | error x => rw [hg] at h; cases h
      | ok x =>
       obtain ⟨gs, l4, ns3⟩ := x
       rw [hg] at h
       simp only at h
       have h2 := (goalsS_len f _ _ _ _ _ _ _ hg).1
       have h3 := dotS_len h
       omega
     ·have h3 := dotS_len h
      simp only [List.length_cons] at h3
      omega
   ·cases h
def itoaB (n : Int) : ByteArray := ⟨(Go.Lib.itoa n).toArray⟩
def letterOf (i : Int) : ByteArray := if 0 <= i /\ i < 16 then ⟨#[UInt8.ofNat (65 + i.toNat)]⟩ else ⟨#[95]⟩
def wordP (p : Part) : ByteArray := if p.kind = 1 then letterOf p.value else if p.kind = 2 then itoaB p.value else if p.kind = 4 then ⟨#[33]⟩ else p.name
def closeP : List Nat -> ByteArray × List Nat
 | [] => (⟨#[]⟩, [])
 | k :: st => if 1 < k then (⟨#[44]⟩, (k - 1) :: st) else (⟨#[41]⟩ ++ (closeP st).1, (closeP st).2)
def textP : List Part -> List Nat -> ByteArray
 | [], _ => ⟨#[]⟩
 | p :: ps, st => if 0 < p.args then wordP p ++ (⟨#[40]⟩ ++ textP ps (p.args.toNat :: st)) else wordP p ++ ((closeP st).1 ++ textP ps (closeP st).2)
def txt (ps : List Part) : ByteArray := textP ps []
def Wf : Nat -> List Part -> Prop
 | 0, _ => False
 | d + 1, ps => (∃ p : Part, ps = [p] /\ p.args = 0) \/ (∃ (s : ByteArray) (qs : List (List Part)), 1 <= qs.length /\ (∀ q ∈ qs, Wf d q) /\ ps = ⟨3, s, 0, qs.length⟩ :: qs.flatten)
theorem emp_app (a : ByteArray) : (⟨#[]⟩ : ByteArray) ++ a = a := ByteArray.empty_append
theorem app_emp (a : ByteArray) : a ++ (⟨#[]⟩ : ByteArray) = a := ByteArray.append_empty
def accW (s : ByteArray) (qs : List (List Part)) : Nat -> ByteArray
 | 0 => s
 | i + 1 => if i = 0 then (s ++ ⟨#[40]⟩) ++ txt (qs.getD 0 []) else (accW s qs i ++ ⟨#[44]⟩) ++ txt (qs.getD i [])
def accL (s : ByteArray) (gs : List (List Part)) : Nat -> ByteArray
 | 0 => s
 | i + 1 => if i = 0 then (s ++ ⟨#[58, 45]⟩) ++ txt (gs.getD 0 []) else (accL s gs i ++ ⟨#[44]⟩) ++ txt (gs.getD i [])
def lineP (c : Cl) : ByteArray := accL (txt c.head) c.body c.body.length ++ ⟨#[46, 10]⟩
def Good (p : Part) : Prop := (p.kind = 1 -> 0 <= p.value /\ p.value < 16) /\ (p.kind = 2 -> -999999999 <= p.value /\ p.value <= 999999999) /\ p.name.size <= 12
theorem word_size (p : Part) (h : Good p) : (wordP p).size <= 21 := by
 unfold wordP
 split
 ·unfold letterOf; split
  ·show 1 <= 21; omega
  ·show 1 <= 21; omega
 ·split
  ·rename_i h2
   have h3 := h.2.1 h2
   have := Go.Lib.itoa_length_le p.value (by omega) (by omega)
   unfold itoaB
   simpa [ByteArray.size] using this
  ·split
   ·show 1 <= 21; omega
   ·have := h.2.2; omega
theorem close_size : ∀ st : List Nat, (closeP st).1.size + (closeP st).2.length <= st.length + 1
 | [] => by simp [closeP, ByteArray.size]
 | k :: st => by
  rw [closeP]
  split
  ·show 1 + _ <= _; simp; omega
  ·have := close_size st
   simp only [ByteArray.size_append, List.length_cons]
   have h1 : (⟨#[41]⟩ : ByteArray).size = 1 := rfl
   omega
theorem text_size : ∀ (ps : List Part) (st : List Nat), (∀ p ∈ ps, Good p) -> (textP ps st).size <= 23 * ps.length + st.length
 | [], st, _ => by simp [textP, ByteArray.size]
 | p :: ps, st, h => by
  have hw := word_size p (h p (by simp))
  have h' : ∀ q ∈ ps, Good q := fun q hq => h q (List.mem_cons_of_mem _ hq)
  rw [textP]
  split
  ·have := text_size ps (p.args.toNat :: st) h'
   have h1 : (⟨#[40]⟩ : ByteArray).size = 1 := rfl
   simp only [ByteArray.size_append, List.length_cons] at *
   omega
  ·have := text_size ps (closeP st).2 h'
   have := close_size st
   simp only [ByteArray.size_append, List.length_cons] at *
   omega
theorem txt_size (ps : List Part) (h : ∀ p ∈ ps, Good p) : (txt ps).size <= 23 * ps.length := by
 have := text_size ps [] h
 simpa [txt] using this
theorem accW_size (s : ByteArray) (qs : List (List Part)) (B : Nat) (h : ∀ q ∈ qs, (txt q).size <= B) : ∀ k, k <= qs.length -> (accW s qs k).size <= s.size + k * (B + 1)
 | 0, _ => by simp [accW]
 | k + 1, hk => by
  have ih := accW_size s qs B h k (by omega)
  have hq : (txt (qs.getD k [])).size <= B := by
   rw [List.getD_eq_getElem?_getD, List.getElem?_eq_getElem (show k < qs.length by omega)]
   exact h _ (List.getElem_mem _)
  rw [accW]
  have h1 : (⟨#[40]⟩ : ByteArray).size = 1 := rfl
  have h2 : (⟨#[44]⟩ : ByteArray).size = 1 := rfl
  have hm : (k + 1) * (B + 1) = k * (B + 1) + (B + 1) := by rw [Nat.add_mul, Nat.one_mul]
  split
  ·rename_i h0
   subst h0
   simp only [ByteArray.size_append]
   omega
  ·simp only [ByteArray.size_append]
   omega
theorem accL_size (s : ByteArray) (qs : List (List Part)) (B : Nat) (h : ∀ q ∈ qs, (txt q).size <= B) : ∀ k, k <= qs.length -> (accL s qs k).size <= s.size + k * (B + 2)
 | 0, _ => by simp [accL]
 | k + 1, hk => by
  have ih := accL_size s qs B h k (by omega)
  have hq : (txt (qs.getD k [])).size <= B := by
   rw [List.getD_eq_getElem?_getD, List.getElem?_eq_getElem (show k < qs.length by omega)]
   exact h _ (List.getElem_mem _)
  rw [accL]
  have h1 : (⟨#[58, 45]⟩ : ByteArray).size = 2 := rfl
  have h2 : (⟨#[44]⟩ : ByteArray).size = 1 := rfl
  have hm : (k + 1) * (B + 2) = k * (B + 2) + (B + 2) := by rw [Nat.add_mul, Nat.one_mul]
  split
  ·rename_i h0
   subst h0
   simp only [ByteArray.size_append]
   omega
  ·simp only [ByteArray.size_append]
   omega
theorem varS_good {t : Tok} {ns ns' : List ByteArray} {i : Nat} (h : varS t ns = .ok (i, ns')) (h16 : ns.length <= 16) : i < 16 /\ ns'.length <= 16 := by
 unfold varS at h
 cases hl : lookS t.s ns with
 | some j =>
  rw [hl] at h
  simp only [Except.ok.injEq, Prod.mk.injEq] at h
  obtain ⟨rfl, rfl⟩ := h
  unfold lookS at hl
  split at hl
  ·cases hl
  ·have := (List.findIdx?_eq_some_iff_getElem.1 hl).1
   omega
 | none =>
  rw [hl] at h
  simp only at h
  split at h
  ·cases h
  ·simp only [Except.ok.injEq, Prod.mk.injEq] at h
   obtain ⟨rfl, rfl⟩ := h
   simp; omega
def OkTerm (rd : List Tok -> List ByteArray -> Except (Int × Nat) (List Part × List Tok × List ByteArray)) : Prop :=
 ∀ l ns p l1 ns1, Ended l -> ns.length <= 16 -> rd l ns = .ok (p, l1, ns1) -> (∀ x ∈ p, Good x) /\ ns1.length <= 16 /\ p.length + l1.length <= l.length /\ Ended l1
theorem argsS_good (rd : List Tok -> List ByteArray -> Except (Int × Nat) (List Part × List Tok × List ByteArray)) (h : OkTerm rd) :
  ∀ (k : Nat) (acc : List (List Part)) (l : List Tok) (ns : List ByteArray) (a1 : List (List Part)) (l2 : List Tok) (ns2 : List ByteArray),
  Ended l -> ns.length <= 16 -> (∀ q ∈ acc, ∀ x ∈ q, Good x) -> argsS rd k acc l ns = .ok (a1, l2, ns2) -> (∀ q ∈ a1, ∀ x ∈ q, Good x) /\ ns2.length <= 16 /\ a1.flatten.length + l2.length <= acc.flatten.length + l.length /\ Ended l2
 | 0, _, _, _, _, _, _, _, _, _, e => by simp [argsS] at e
 | k + 1, acc, l, ns, a1, l2, ns2, hl, hn, hacc, e => by
  rw [argsS] at e
  cases hr : rd l ns with
  | error x => rw [hr] at e; cases e
  | ok x =>
   obtain ⟨p, l1, ns1⟩ := x
   obtain ⟨g1, g2, g3, g4⟩ := h l ns p l1 ns1 hl hn hr
   rw [hr] at e
   cases l1 with
   | nil => cases e
   | cons u l3 =>
    simp only at e
    simp only [List.length_cons] at g3
    have hacc' : ∀ q ∈ acc ++ [p], ∀ x ∈ q, Good x := fun q hq => by
     rcases List.mem_append.1 hq with hq | hq
     ·exact hacc q hq
     ·simp at hq; subst hq; exact g1
    have hfl : (acc ++ [p]).flatten.length = acc.flatten.length + p.length := by simp
    split at e
    ·split at e
     ·cases e
     ·have := argsS_good rd h k _ l3 ns1 a1 l2 ns2 (g4.tail (by omega) (by omega)) g2 hacc' e
      exact ⟨this.1, this.2.1, by omega, this.2.2.2⟩
    ·split at e
     ·simp only [Except.ok.injEq, Prod.mk.injEq] at e
      obtain ⟨rfl, rfl, rfl⟩ := e
      exact ⟨hacc', g2, by omega, g4.tail (by omega) (by omega)⟩
     ·cases e
theorem termS_good : ∀ (f : Nat), OkTerm (termS f)
 | 0 => fun _ _ _ _ _ _ _ e => by simp [termS] at e
 | f + 1 => fun l ns p l1 ns1 h hn e => by
  cases l with
  | nil => exact h.elim
  | cons t l =>
  have hfine := h.fine
  rw [termS] at e
  split at e
  ·unfold varT at e
   split at e
   ·cases e
   ·rename_i i ns' hv
    have hg := varS_good hv hn
    simp only [Except.ok.injEq, Prod.mk.injEq] at e
    obtain ⟨rfl, rfl, rfl⟩ := e
    refine ⟨fun x hx => ?_, hg.2, by simp; omega, h.tail (by omega) (by omega)⟩
    simp at hx; subst hx
    exact ⟨fun _ => ⟨by simp, by simp; omega⟩, fun h => by simp at h, by simp [ByteArray.size]⟩
  ·split at e
   ·rename_i h110
    obtain ⟨_, v, hv, hv1, hv2⟩ := hfine.1 h110
    simp only [Except.ok.injEq, Prod.mk.injEq] at e
    obtain ⟨rfl, rfl, rfl⟩ := e
    refine ⟨fun x hx => ?_, hn, by simp; omega, h.tail (by omega) (by omega)⟩
    simp at hx; subst hx
    have hnv : numVal t.s = v := by unfold numVal; rw [hv]; rfl
    exact ⟨fun h => by simp at h, fun _ => by show -999999999 <= numVal t.s /\ numVal t.s <= 999999999; rw [hnv]; exact ⟨hv1, hv2⟩, by simp [ByteArray.size]⟩
   ·split at e
    ·rename_i h97
     have hs := hfine.2 h97
     have ht := h.tail (by omega) (by omega)
     cases l with
     | nil => cases e
     | cons u l' =>
      simp only [nameS] at e
      split at e
      ·cases ha : argsS (termS f) 4 [] l' ns with
       | error x => rw [ha] at e; cases e
       | ok x =>
        obtain ⟨a1, l2, ns2⟩ := x
        rw [ha] at e
        simp only [Except.ok.injEq, Prod.mk.injEq] at e
        obtain ⟨rfl, rfl, rfl⟩ := e
        have hg := argsS_good (termS f) (termS_good f) 4 [] l' ns a1 l2 ns2 (ht.tail (by omega) (by omega)) hn (fun q hq => by simp at hq) ha
        refine ⟨fun x hx => ?_, hg.2.1, ?_, hg.2.2.2⟩
        ·rcases List.mem_cons.1 hx with rfl | hx
         ·exact ⟨fun h => by simp at h, fun h => by simp at h, hs⟩
         ·obtain ⟨q, hq, hx⟩ := List.mem_flatten.1 hx
          exact hg.1 q hq x hx
        ·have := hg.2.2.1
         simp only [List.flatten_nil, List.length_nil, List.length_cons] at this ⊢
         omega
      ·simp only [Except.ok.injEq, Prod.mk.injEq] at e
       obtain ⟨rfl, rfl, rfl⟩ := e
       refine ⟨fun x hx => ?_, hn, by simp; omega, ht⟩
       simp at hx; subst hx
       exact ⟨fun h => by simp at h, fun h => by simp at h, hs⟩
    ·cases e
theorem goalS_good (f : Nat) : OkTerm (goalS f) := fun l ns p l1 ns1 h hn e => by
 cases l with
 | nil => exact h.elim
 | cons t l =>
  simp only [goalS] at e
  split at e
  ·simp only [Except.ok.injEq, Prod.mk.injEq] at e
   obtain ⟨rfl, rfl, rfl⟩ := e
   refine ⟨fun x hx => ?_, hn, by simp; omega, h.tail (by omega) (by omega)⟩
   simp at hx; subst hx
   exact ⟨fun h => by simp at h, fun h => by simp at h, by simp [ByteArray.size]⟩
  ·cases hr : termS f (t :: l) ns with
   | error x => rw [hr] at e; cases e
   | ok x =>
    obtain ⟨p', l', ns'⟩ := x
    rw [hr] at e
    simp only at e
    split at e
    ·simp only [Except.ok.injEq, Prod.mk.injEq] at e
     obtain ⟨rfl, rfl, rfl⟩ := e
     exact termS_good f _ _ _ _ _ h hn hr
    ·cases e
theorem goalsS_good (f : Nat) : ∀ (k : Nat) (acc : List (List Part)) (l : List Tok) (ns : List ByteArray) (a1 : List (List Part)) (l2 : List Tok) (ns2 : List ByteArray),
  Ended l -> ns.length <= 16 -> (∀ q ∈ acc, (∀ x ∈ q, Good x) /\ q.length <= 400) -> l.length <= 401 -> goalsS f k acc l ns = .ok (a1, l2, ns2) -> (∀ q ∈ a1, (∀ x ∈ q, Good x) /\ q.length <= 400) /\ ns2.length <= 16 /\ Ended l2
 | 0, _, _, _, _, _, _, _, _, _, _, e => by simp [goalsS] at e
 | k + 1, acc, l, ns, a1, l2, ns2, hl, hn, hacc, h402, e => by
  rw [goalsS] at e
  cases hr : goalS f l ns with
  | error x => rw [hr] at e; cases e
  | ok x =>
   obtain ⟨p, l1, ns1⟩ := x
   obtain ⟨g1, g2, g3, g4⟩ := goalS_good f l ns p l1 ns1 hl hn hr
   rw [hr] at e
   cases l1 with
   | nil => cases e
   | cons u l3 =>
    simp only at e
    simp only [List.length_cons] at g3
    have hacc' : ∀ q ∈ acc ++ [p], (∀ x ∈ q, Good x) /\ q.length <= 400 := fun q hq => by
     rcases List.mem_append.1 hq with hq | hq
     ·exact hacc q hq
     ·simp at hq; subst hq; exact ⟨g1, by omega⟩
    split at e
    ·split at e
     ·cases e
     ·exact goalsS_good f k _ l3 ns1 a1 l2 ns2 (g4.tail (by omega) (by omega)) g2 hacc' (by omega) e
    ·split at e
     ·cases e
     ·simp only [Except.ok.injEq, Prod.mk.injEq] at e
      obtain ⟨rfl, rfl, rfl⟩ := e
      exact ⟨hacc', g2, g4⟩
def GoodCl (c : Cl) : Prop := (∀ x ∈ c.head, Good x) /\ c.head.length <= 400 /\ (∀ q ∈ c.body, (∀ x ∈ q, Good x) /\ q.length <= 400)
theorem dotS_good {c : List Part × List (List Part)} {l : List Tok} {ns : List ByteArray} {cl : Cl} {l1 : List Tok} (h : dotS c l ns = .ok (cl, l1)) (he : Ended l) (hc : GoodCl ⟨c.1, c.2, 0⟩) : GoodCl cl /\ Ended l1 := by
 cases l with
 | nil => cases h
 | cons u l =>
  simp only [dotS] at h
  split at h
  ·simp only [Except.ok.injEq, Prod.mk.injEq] at h; obtain ⟨rfl, rfl⟩ := h; exact ⟨hc, he.tail (by omega) (by omega)⟩
  ·cases h
theorem clauseS_good {f : Nat} {l : List Tok} {cl : Cl} {l1 : List Tok} (he : Ended l) (h402 : l.length <= 401) (h : clauseS f l = .ok (cl, l1)) : GoodCl cl /\ Ended l1 := by
 cases l with
 | nil => cases h
 | cons t l =>
  simp only [clauseS] at h
  cases hr : termS f (t :: l) [] with
  | error x => rw [hr] at h; cases h
  | ok x =>
   obtain ⟨p, l2, ns2⟩ := x
   obtain ⟨g1, g2, g3, g4⟩ := termS_good f _ _ _ _ _ he (by simp) hr
   rw [hr] at h
   simp only at h
   split at h
   ·cases l2 with
    | nil => cases h
    | cons u l3 =>
     simp only at h
     simp only [List.length_cons] at g3 h402
     split at h
     ·cases hg : goalsS f 8 [] l3 ns2 with
      | error x => rw [hg] at h; cases h
      | ok x =>
       obtain ⟨gs, l4, ns3⟩ := x
       rw [hg] at h
       simp only at h
       obtain ⟨k1, k2, k3⟩ := goalsS_good f _ _ _ _ _ _ _ (g4.tail (by omega) (by omega)) g2 (fun q hq => by simp at hq) (by omega) hg
       exact dotS_good h k3 ⟨g1, by show p.length <= 400; omega, k1⟩
     ·exact dotS_good h g4 ⟨g1, by show p.length <= 400; omega, fun q hq => by simp at hq⟩
   ·cases h
theorem clausesS_good (f : Nat) : ∀ (k : Nat) (acc : List Cl) (l : List Tok) (out : List Cl), Ended l -> l.length <= 401 -> (∀ c ∈ acc, GoodCl c) -> clausesS f k acc l = .ok out -> (∀ c ∈ out, GoodCl c) /\ out.length <= acc.length + l.length
 | 0, _, _, _, _, _, _, e => by simp [clausesS] at e
 | _ + 1, _, [], _, h, _, _, _ => h.elim
 | k + 1, acc, t :: l, out, he, h402, hacc, e => by
  rw [clausesS] at e
  split at e
  ·simp only [Except.ok.injEq] at e; subst e; exact ⟨hacc, by omega⟩
  ·cases hc : clauseS f (t :: l) with
   | error x => rw [hc] at e; cases e
   | ok x =>
    obtain ⟨c, l1⟩ := x
    rw [hc] at e
    have hg := clauseS_good he h402 hc
    have hlen := clauseS_len hc
    have := clausesS_good f k (acc ++ [c]) l1 out hg.2 (by omega) (fun x hx => by
     rcases List.mem_append.1 hx with hx | hx
     ·exact hacc x hx
     ·simp at hx; subst hx; exact hg.1) e
    refine ⟨this.1, ?_⟩
    have h2 := this.2
    simp only [List.length_append, List.length_cons, List.length_nil] at h2 hlen ⊢
    omega
theorem readS_good {s : ByteArray} {out : List Cl} (h : readS s = .ok out) : out.length <= 402 /\ ∀ c ∈ out, GoodCl c := by
 unfold readS at h
 split at h
 ·cases h
 ·have hl : (tokens s).length <= 401 := by have := toks_len s s.size 0; unfold tokens; omega
  have := clausesS_good _ _ [] _ out (toks_ended s _ _) hl (fun c hc => by simp at hc) h
  refine ⟨?_, this.1⟩
  have h2 := this.2
  have h3 : (tokens s).length = (toks s s.size 0).length := rfl
  simp only [List.length_nil] at h2
  omega
end Rf
