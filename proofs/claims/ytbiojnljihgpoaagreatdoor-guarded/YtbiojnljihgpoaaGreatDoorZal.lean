
import Derived.Test.YtbiojnljihgpoaaGreatDoorZak
namespace Rf
theorem numF_len : ∀ (f n : Nat), (numF f n).length <= f
 | 0, _ => Nat.le_refl _
 | f + 1, n => by
  rw [numF]
  split
  ·rw [List.length_cons]; have := numF_len f (n / 128); omega
  ·simp
theorem numB_len (n : Nat) : (numB n).length <= 10 := numF_len 10 n
theorem wordB_len (s : ByteArray) : (wordB s).length <= 10 + s.size := by
 unfold wordB
 have := numB_len s.size
 rw [List.length_append, bs_len]; omega
theorem partB_len {p : Part} (h : p.name.size <= 12) : (partB p).length <= 32 := by
 unfold partB
 split
 ·rw [List.length_append]; have := numB_len 5; have := numB_len p.value.toNat; omega
 ·split
  ·rw [List.length_append]; have := numB_len 6; have := numB_len (p.value + 999999999).toNat; omega
  ·rw [List.length_append]; have := numB_len p.args.toNat; have := wordB_len p.name; omega
theorem termB_len : ∀ (t : List Part), (∀ p ∈ t, p.name.size <= 12) -> (termB t).length <= 32 * t.length
 | [], _ => Nat.le_refl _
 | p :: t, h => by
  have h1 := partB_len (h p (by simp))
  have h2 := termB_len t (fun q hq => h q (by simp [hq]))
  have e : termB (p :: t) = partB p ++ termB t := rfl
  rw [e, List.length_append, List.length_cons]; omega
theorem TmG.told {f : Int} {t : List Part} (h : TmG f t) : (termB t).length <= 12800 := by
 have := termB_len t (fun p hp => (h.2 p hp).2.2.2)
 have := h.1
 omega
theorem goalB_len {f : Int} {g : List Part} (h : TmG f g) : (goalB g).length <= 12810 := by
 unfold goalB
 split
 ·have := numB_len ((topP g).value + 1).toNat; omega
 ·rw [List.length_append]; have := numB_len 0; have := h.told; omega
theorem goalsB_len {f : Int} : ∀ (gs : List (List Part)), (∀ g ∈ gs, TmG f g) -> (goalsB gs).length <= 12810 * gs.length
 | [], _ => Nat.le_refl _
 | g :: gs, h => by
  have h1 := goalB_len (h g (by simp))
  have h2 := goalsB_len gs (fun q hq => h q (by simp [hq]))
  have e : goalsB (g :: gs) = goalB g ++ goalsB gs := rfl
  rw [e, List.length_append, List.length_cons]; omega
theorem termsB_len {f : Int} : ∀ (gs : List (List Part)), (∀ g ∈ gs, TmG f g) -> (termsB gs).length <= 12810 * gs.length
 | [], _ => Nat.le_refl _
 | g :: gs, h => by
  have h1 := (h g (by simp)).told
  have h2 := termsB_len gs (fun q hq => h q (by simp [hq]))
  have e : termsB (g :: gs) = termB g ++ termsB gs := rfl
  rw [e, List.length_append, List.length_cons]; omega
theorem chB_len {N : Nat} {F : Int} {c : Ch} (h : StG N F c.st) (hN : N <= 1000) : (chB c).length <= 13100000 := by
 unfold chB
 have h1 := goalsB_len c.st.goals h.g
 have h2 := termsB_len c.st.terms h.t
 have h3 := h.gl
 have h4 := h.tl
 have := numB_len c.st.goals.length
 have := numB_len c.cls.length
 simp only [List.length_append]
 omega
theorem chsB_len : ∀ (l : List Ch), (∀ c ∈ l, StG 1000 406400 c.st) -> (chsB l).length <= 13100000 * l.length
 | [], _ => Nat.le_refl _
 | c :: l, h => by
  have h1 := chB_len (h c (by simp)) (Nat.le_refl _)
  have h2 := chsB_len l (fun q hq => h q (by simp [hq]))
  have e : chsB (c :: l) = chB c ++ chsB l := rfl
  rw [e, List.length_append, List.length_cons]; omega
theorem wordsB_len : ∀ (l : List ByteArray), (∀ s ∈ l, s.size <= 12) -> (l.flatMap wordB).length <= 22 * l.length
 | [], _ => Nat.le_refl _
 | s :: l, h => by
  have h1 := wordB_len s
  have h0 := h s (by simp)
  have h2 := wordsB_len l (fun q hq => h q (by simp [hq]))
  rw [List.flatMap_cons, List.length_append, List.length_cons]; omega
theorem quB_len {n : Nat} {q : Qs} (h : QsOk n q) : (quB q).length <= 263000000 := by
 unfold quB
 have h1 := wordsB_len q.names h.nz
 have h2 := chsB_len q.chs.reverse (fun c hc => (h.c c (List.mem_reverse.1 hc)).1)
 have h3 := h.nl
 have h4 := h.cl
 have := numB_len q.names.length
 have := numB_len q.chs.length
 rw [List.length_reverse] at h2
 simp only [List.length_append]
 omega
theorem flat_snoc {α : Type} (f : α -> List UInt8) (l : List α) (k : Nat) (h : k < l.length) : (l.take (k + 1)).flatMap f = (l.take k).flatMap f ++ f l[k] := by
 rw [List.take_succ_eq_append_getElem h, List.flatMap_append]; simp
theorem flat_take_len {α : Type} (f : α -> List UInt8) (m : Nat) (l : List α) (h : ∀ x ∈ l, (f x).length <= m) (k : Nat) : ((l.take k).flatMap f).length <= m * k := by
 induction l generalizing k with
 | nil => simp
 | cons x l ih =>
  cases k with
  | zero => simp
  | succ k =>
   rw [List.take_succ_cons, List.flatMap_cons, List.length_append]
   have h1 := h x (by simp)
   have h2 := ih (fun y hy => h y (by simp [hy])) k
   rw [Nat.mul_succ]; omega
theorem pick_len (cls : List Cl) (st : St) (l : Nat) (r : Rdr) : (pickCh cls st l r).1.cls.length <= cls.length := by
 unfold pickCh
 have := matchN_len st 0 cls
 split
 ·exact Nat.zero_le _
 ·split
  ·exact Nat.zero_le _
  ·show ((matchN st 0 cls).drop _).length <= _
   rw [List.length_drop]; omega
theorem chL_len (n : Nat) (cls : List Cl) (h : Nat) (r : Rdr) : (chL n cls h r).1.cls.length <= cls.length := pick_len _ _ _ _
theorem chsL_len (n : Nat) (cls : List Cl) : ∀ (m i : Nat) (a : List Ch) (r : Rdr), (∀ c ∈ a, c.cls.length <= cls.length) -> ∀ c ∈ (chsL n cls m i a r).1, c.cls.length <= cls.length
 | 0, _, _, _, h => h
 | m + 1, i, a, r, h => by
  rw [chsL]
  split
  ·exact h
  ·refine chsL_len n cls m (i + 1) _ _ (fun c hc => ?_)
   rcases List.mem_cons.1 hc with hc | hc
   ·subst hc; exact chL_len n cls i r
   ·exact h c hc
def LeftOk (cls : List Cl) (q : Option Qs) : Prop := ∀ q', q = some q' -> ∀ c ∈ q'.chs, c.cls.length <= cls.length
theorem readImg_left (b : List UInt8) : LeftOk (readImg b).1.1 (readImg b).1.2 := by
 intro q' hq
 have e : readImg b = sesL (openL b) := rfl
 rw [e, sesL_eq] at hq ⊢
 unfold askedL at hq
 split at hq
 ·have e : (quL (claP (openL b)).1 (numL 1 (claP (openL b)).2).2).1 = q' := by injection hq
  rw [<- e]
  exact chsL_len _ _ _ _ _ _ (fun c hc => by cases hc)
 ·cases hq
theorem SeW.left {S : Se} (h : SeW S) : LeftOk S.cls S.q := by
 intro q hq c hc
 have hv := h.v.q q hq
 obtain ⟨j, hj, k⟩ := chsV_mem _ _ hv.chs c (List.mem_reverse.2 hc)
 have h1 := k.used
 have h2 := matchN_len c.st 0 S.cls
 omega
end Rf
