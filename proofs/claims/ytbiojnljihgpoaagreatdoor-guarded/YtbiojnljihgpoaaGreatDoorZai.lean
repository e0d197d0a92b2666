
import Derived.Test.YtbiojnljihgpoaaGreatDoorZah
namespace Rf
def goalB (g : List Part) : List UInt8 := if (topP g).kind = 4 then numB ((topP g).value + 1).toNat else numB 0 ++ termB g
def goalsB (gs : List (List Part)) : List UInt8 := gs.flatMap goalB
def termsB (ts : List (List Part)) : List UInt8 := ts.flatMap termB
def chB (c : Ch) : List UInt8 := numB c.st.goals.length ++ (goalsB c.st.goals ++ (termsB c.st.terms ++ numB c.cls.length))
def nameGoal (x : List Part × Ldr) : List Part × Ldr := (x.1, if (topP x.1).kind = 3 then x.2 else ⟨refuse, x.2.fresh, x.2.height⟩)
def goalL (L : Ldr) : List Part × Ldr := if 0 < (numL (L.height + 1) L.r).1 then (cutT (((numL (L.height + 1) L.r).1 - 1 : Nat) : Int), ⟨(numL (L.height + 1) L.r).2, L.fresh, (numL (L.height + 1) L.r).1 - 1⟩)
 else nameGoal (termL 202 1 [] ⟨(numL (L.height + 1) L.r).2, L.fresh, L.height⟩)
def goalsL : Nat -> List (List Part) -> Ldr -> List (List Part) × Ldr
 | 0, a, L => (a, L)
 | n + 1, a, L => if L.r.wrong = true then (a, L) else goalsL n (a ++ [(goalL L).1]) (goalL L).2
def termsL : Nat -> List (List Part) -> Ldr -> List (List Part) × Ldr
 | 0, a, L => (a, if 200 < sizeT a then ⟨refuse, L.fresh, L.height⟩ else L)
 | n + 1, a, L => termsL n (a ++ [(termL 202 1 [] L).1]) (termL 202 1 [] L).2
structure TermV (t : List Part) (k : Nat) : Prop where
 parts : ∀ p ∈ t, PartV p
 vars : VarsOk t k
 whole : Whole t 1
 len : t.length <= 200
theorem termL_V {t : List Part} {k h : Nat} (ht : TermV t k) (hk : k <= 900000) (r : List UInt8) : termL 202 1 [] ⟨⟨termB t ++ r, false⟩, k, h⟩ = (t, ⟨⟨r, false⟩, afters t k, h⟩) := by
 have hl := ht.len
 exact termL_B t 202 1 [] k h r ht.parts ht.vars ht.whole (by simp; omega) (by omega) (by omega)
theorem afters_le : ∀ (t : List Part) (k : Nat), afters t k <= k + t.length
 | [], k => by simp [afters]
 | p :: t, k => by
  have h := after_le p k
  have h2 := afters_le t (after p k)
  have e : afters (p :: t) k = afters t (after p k) := rfl
  rw [e, List.length_cons]; omega
def aftersT (ts : List (List Part)) (k : Nat) : Nat := ts.foldl (fun k t => afters t k) k
def GoalsV : List (List Part) -> Nat -> Nat -> Prop
 | [], _, _ => True
 | g :: gs, h, k => (∃ v : Nat, v <= h /\ g = cutT v /\ GoalsV gs v k) \/ ((topP g).kind = 3 /\ TermV g k /\ GoalsV gs h (afters g k))
def lastH : List (List Part) -> Nat -> Nat
 | [], h => h
 | g :: gs, h => lastH gs (if (topP g).kind = 4 then (topP g).value.toNat else h)
theorem afters_cut (v : Nat) (k : Nat) : afters (cutT v) k = k := by
 show after ⟨4, ⟨#[]⟩, v, 0⟩ k = k
 unfold after
 rw [if_neg (by intro hx; have h2 : (4 : Int) = 1 := hx.1; omega)]
theorem goalL_cut {v h k : Nat} (hv : v <= h) (hh : h <= 1000) (r : List UInt8) : goalL ⟨⟨goalB (cutT v) ++ r, false⟩, k, h⟩ = (cutT v, ⟨⟨r, false⟩, k, v⟩) := by
 have e : goalB (cutT v) = numB (v + 1) := rfl
 rw [e]
 unfold goalL
 simp only
 rw [numL_small (by omega) (by omega)]
 simp only
 rw [if_pos (by omega), Nat.add_sub_cancel]
theorem goalL_name {g : List Part} {h k : Nat} (h3 : (topP g).kind = 3) (ht : TermV g k) (hk : k <= 900000) (hh : h <= 1000) (r : List UInt8) : goalL ⟨⟨goalB g ++ r, false⟩, k, h⟩ = (g, ⟨⟨r, false⟩, afters g k, h⟩) := by
 have e : goalB g = numB 0 ++ termB g := by unfold goalB; rw [if_neg (by rw [h3]; decide)]
 rw [e, List.append_assoc]
 unfold goalL
 simp only
 rw [numL_small (by omega) (by omega)]
 simp only
 rw [if_neg (by omega), termL_V ht hk]
 unfold nameGoal
 simp only
 rw [if_pos h3]
theorem goalsL_B : ∀ (gs a : List (List Part)) (h k : Nat) (r : List UInt8), GoalsV gs h k -> h <= 1000 -> k + 200 * gs.length <= 900000 -> goalsL gs.length a ⟨⟨goalsB gs ++ r, false⟩, k, h⟩ = (a ++ gs, ⟨⟨r, false⟩, aftersT gs k, lastH gs h⟩)
 | [], a, h, k, r, _, _, _ => by simp [goalsL, goalsB, aftersT, lastH]
 | g :: gs, a, h, k, r, hg, hh, hk => by
  have e : goalsB (g :: gs) ++ r = goalB g ++ (goalsB gs ++ r) := by unfold goalsB; rw [List.flatMap_cons, List.append_assoc]
  rw [List.length_cons] at hk
  rw [e, List.length_cons, goalsL, if_neg (by simp)]
  rcases hg with ⟨v, hv, rfl, hr⟩ | ⟨h3, ht, hr⟩
  ·rw [goalL_cut hv hh]
   simp only
   rw [goalsL_B gs (a ++ [cutT v]) v k r hr (by omega) (by omega), List.append_assoc]
   have e1 : aftersT (cutT v :: gs) k = aftersT gs k := by
    show aftersT gs (afters (cutT v) k) = _
    rw [afters_cut]
   have e2 : lastH (cutT v :: gs) h = lastH gs v := rfl
   rw [e1, e2]
   rfl
  ·have hl := afters_le g k
   have hl2 := ht.len
   rw [goalL_name h3 ht (by omega) hh]
   simp only
   rw [goalsL_B gs (a ++ [g]) h (afters g k) r hr hh (by omega), List.append_assoc]
   have e2 : lastH (g :: gs) h = lastH gs h := by
    show lastH gs (if (topP g).kind = 4 then (topP g).value.toNat else h) = _
    rw [if_neg (by rw [h3]; decide)]
   rw [e2]
   rfl
def TermsV : List (List Part) -> Nat -> Prop
 | [], _ => True
 | t :: ts, k => TermV t k /\ TermsV ts (afters t k)
theorem sizeT_snoc : ∀ (a : List (List Part)) (t : List Part), sizeT (a ++ [t]) = sizeT a + t.length
 | [], t => by simp [sizeT]
 | x :: a, t => by
  show x.length + sizeT (a ++ [t]) = x.length + sizeT a + t.length
  rw [sizeT_snoc a t]; omega
theorem termsL_B : ∀ (ts a : List (List Part)) (h k : Nat) (r : List UInt8), TermsV ts k -> sizeT a + sizeT ts <= 200 -> k + 200 * ts.length <= 900000 -> termsL ts.length a ⟨⟨termsB ts ++ r, false⟩, k, h⟩ = (a ++ ts, ⟨⟨r, false⟩, aftersT ts k, h⟩)
 | [], a, h, k, r, _, hs, _ => by
  have hs' : sizeT a <= 200 := by simp [sizeT] at hs; omega
  show (a, if 200 < sizeT a then _ else _) = _
  rw [if_neg (by omega), List.append_nil]
  rfl
 | t :: ts, a, h, k, r, ht, hs, hk => by
  have e : termsB (t :: ts) ++ r = termB t ++ (termsB ts ++ r) := by unfold termsB; rw [List.flatMap_cons, List.append_assoc]
  rw [List.length_cons] at hk
  have hl := afters_le t k
  have hl2 := ht.1.len
  have hs2 : sizeT (t :: ts) = t.length + sizeT ts := rfl
  rw [e, List.length_cons, termsL, termL_V ht.1 (by omega)]
  simp only
  rw [termsL_B ts (a ++ [t]) h (afters t k) r ht.2 (by rw [sizeT_snoc]; omega) (by omega), List.append_assoc]
  rfl
def headL (L : Ldr) : Nat × Ldr := ((numL 1000 L.r).1, ⟨if (numL 1000 L.r).1 = 0 then refuse else (numL 1000 L.r).2, L.fresh, L.height⟩)
def allGoalsL (L : Ldr) : List (List Part) × Ldr := goalsL (headL L).1 [] (headL L).2
def noCh : Ch := ⟨stNone, []⟩
def pickCh (cls : List Cl) (st : St) (left : Nat) (r : Rdr) : Ch × Rdr :=
 if r.wrong = true then (noCh, r) else if left < 1 \/ (matchN st 0 cls).length < left + 1 then (noCh, refuse) else (⟨st, (matchN st 0 cls).drop ((matchN st 0 cls).length - left)⟩, r)
def chL (n : Nat) (cls : List Cl) (h : Nat) (r : Rdr) : Ch × Rdr :=
 let G := allGoalsL ⟨r, 0, h⟩
 let T := termsL n [] G.2
 let N := numL 30 T.2.r
 pickCh cls ⟨G.1, T.1, T.2.fresh⟩ N.1 N.2
structure ChV (cls : List Cl) (n h : Nat) (c : Ch) : Prop where
 g1 : 1 <= c.st.goals.length
 g2 : c.st.goals.length <= 1000
 goals : GoalsV c.st.goals h 0
 tl : c.st.terms.length = n
 terms : TermsV c.st.terms (aftersT c.st.goals 0)
 size : sizeT c.st.terms <= 200
 fresh : c.st.fresh = (aftersT c.st.terms (aftersT c.st.goals 0) : Nat)
 left : 1 <= c.cls.length
 used : c.cls.length < (matchN c.st 0 cls).length
 last : c.cls = (matchN c.st 0 cls).drop ((matchN c.st 0 cls).length - c.cls.length)
theorem aftersT_le : ∀ (ts : List (List Part)) (k : Nat), aftersT ts k <= k + sizeT ts
 | [], k => by simp [aftersT, sizeT]
 | t :: ts, k => by
  have h := afters_le t k
  have h2 := aftersT_le ts (afters t k)
  have e : aftersT (t :: ts) k = aftersT ts (afters t k) := rfl
  have e2 : sizeT (t :: ts) = t.length + sizeT ts := rfl
  rw [e, e2]; omega
theorem goalsV_size : ∀ (gs : List (List Part)) (h k : Nat), GoalsV gs h k -> sizeT gs <= 200 * gs.length
 | [], _, _, _ => by simp [sizeT]
 | g :: gs, h, k, hg => by
  have e2 : sizeT (g :: gs) = g.length + sizeT gs := rfl
  rw [e2, List.length_cons]
  rcases hg with ⟨v, _, rfl, hr⟩ | ⟨_, ht, hr⟩
  ·have := goalsV_size gs _ _ hr
   have e : (cutT v).length = 1 := rfl
   omega
  ·have := goalsV_size gs _ _ hr
   have := ht.len
   omega
theorem matchN_len (S : St) : ∀ (i : Nat) (cls : List Cl), (matchN S i cls).length <= cls.length
 | _, [] => by simp [matchN]
 | i, c :: cs => by
  rw [matchN, List.length_append, List.length_cons]
  have := matchN_len S (i + 1) cs
  split <;> simp <;> omega
theorem chL_B {cls : List Cl} {n h : Nat} {c : Ch} (hc : ChV cls n h c) (h30 : cls.length <= 30) (h16 : n <= 16) (hh : h <= 1000) (r : List UInt8) : chL n cls h ⟨chB c ++ r, false⟩ = (c, ⟨r, false⟩) := by
 have g1 := hc.g1
 have g2 := hc.g2
 have ml := matchN_len c.st 0 cls
 have hu := hc.used
 have hl := hc.left
 have hz := goalsV_size _ _ _ hc.goals
 have ha := aftersT_le c.st.goals 0
 have htl := hc.tl
 have e1 : chB c ++ r = numB c.st.goals.length ++ (goalsB c.st.goals ++ (termsB c.st.terms ++ (numB c.cls.length ++ r))) := by
  unfold chB
  simp only [List.append_assoc]
 have eH : headL ⟨⟨numB c.st.goals.length ++ (goalsB c.st.goals ++ (termsB c.st.terms ++ (numB c.cls.length ++ r))), false⟩, 0, h⟩ = (c.st.goals.length, ⟨⟨goalsB c.st.goals ++ (termsB c.st.terms ++ (numB c.cls.length ++ r)), false⟩, 0, h⟩) := by
  unfold headL
  simp only
  rw [numL_small g2 (by omega)]
  simp only
  rw [if_neg (by omega)]
 have eG : allGoalsL ⟨⟨chB c ++ r, false⟩, 0, h⟩ = (c.st.goals, ⟨⟨termsB c.st.terms ++ (numB c.cls.length ++ r), false⟩, aftersT c.st.goals 0, lastH c.st.goals h⟩) := by
  unfold allGoalsL
  rw [e1, eH]
  simp only
  rw [goalsL_B _ _ _ _ _ hc.goals hh (by omega), List.nil_append]
 have eT := termsL_B c.st.terms [] (lastH c.st.goals h) (aftersT c.st.goals 0) (numB c.cls.length ++ r) hc.terms (by have := hc.size; simp [sizeT]; omega) (by omega)
 rw [htl, List.nil_append] at eT
 unfold chL
 rw [eG]
 simp only
 rw [eT]
 simp only
 rw [numL_small (by omega) (by omega)]
 simp only
 have eS : (⟨c.st.goals, c.st.terms, ((aftersT c.st.terms (aftersT c.st.goals 0) : Nat) : Int)⟩ : St) = c.st := by rw [<- hc.fresh]
 rw [eS]
 unfold pickCh
 rw [if_neg (by simp), if_neg (by omega), <- hc.last]
def namesL : Nat -> List ByteArray -> Rdr -> List ByteArray × Rdr
 | 0, a, r => (a, r)
 | n + 1, a, r => if isTokB (wordL 12 r).1 118 = true /\ isNamedB (wordL 12 r).1 = true /\ a.any (fun n => decide (n = (wordL 12 r).1)) = false then namesL n (a ++ [(wordL 12 r).1]) (wordL 12 r).2 else ([], refuse)
theorem vr_size {W : ByteArray} (h : VrOk W) : W.size <= 12 := by
 obtain ⟨⟨c, W', e, _, _, _, hl⟩, _⟩ := h
 rw [<- bs_len, e]; exact hl
theorem isTok_vr {W : ByteArray} (h : VrOk W) : isTokB W 118 = true := by
 have hh : Has W 0 (bs W) [] := by unfold Has; rw [List.drop_zero, List.append_nil]; rfl
 have hr := rest_var h hh (fun c r' e => by cases e)
 have hn : nextTok W 0 = ⟨118, 0, W, 0⟩ := by
  rw [rest_eq W W.size 0 (by omega) (by omega)] at hr
  split at hr
  ·exact (List.cons.inj hr).1
  ·exact (List.cons.inj hr).1
 unfold isTokB
 rw [hn]
 simp
theorem namesL_B : ∀ (ns a : List ByteArray) (r : List UInt8), (∀ W ∈ ns, VrOk W /\ isNamedB W = true) -> (a ++ ns).Nodup -> namesL ns.length a ⟨ns.flatMap wordB ++ r, false⟩ = (a ++ ns, ⟨r, false⟩)
 | [], a, r, _, _ => by simp [namesL]
 | W :: ns, a, r, h, hd => by
  have hW := h W (by simp)
  have hs := vr_size hW.1
  have hd2 : (a ++ [W] ++ ns).Nodup := by rw [List.append_assoc]; exact hd
  have hna : W ∉ a := by
   intro hw
   have := (List.nodup_append.1 hd).2.2 W hw W (by simp)
   exact this rfl
  rw [List.flatMap_cons, List.append_assoc, List.length_cons, namesL, wordL_B hs (by omega)]
  simp only
  have hna2 : a.any (fun n => decide (n = W)) = false := by
   rw [List.any_eq_false]
   intro x hx
   simp only [decide_eq_true_eq]
   intro e2; subst e2; exact hna hx
  rw [if_pos ⟨isTok_vr hW.1, hW.2, hna2⟩, namesL_B ns (a ++ [W]) r (fun V hV => h V (by simp [hV])) hd2, List.append_assoc]
  rfl
def chsB (l : List Ch) : List UInt8 := l.flatMap chB
def quB (q : Qs) : List UInt8 := numB q.names.length ++ (q.names.flatMap wordB ++ (numB q.chs.length ++ chsB q.chs.reverse))
def chsL (n : Nat) (cls : List Cl) : Nat -> Nat -> List Ch -> Rdr -> List Ch × Rdr
 | 0, _, a, r => (a, r)
 | m + 1, i, a, r => if r.wrong = true then (a, r) else chsL n cls m (i + 1) ((chL n cls i r).1 :: a) (chL n cls i r).2
def quL (cls : List Cl) (r : Rdr) : Qs × Rdr :=
 let K := numL 16 r
 let N := namesL K.1 [] K.2
 let C := numL 20 N.2
 let H := chsL N.1.length cls C.1 0 [] C.2
 (⟨N.1, H.1⟩, H.2)
def ChsV (cls : List Cl) (n : Nat) : Nat -> List Ch -> Prop
 | _, [] => True
 | i, c :: l => ChV cls n i c /\ ChsV cls n (i + 1) l
theorem chsL_B {cls : List Cl} {n : Nat} (h30 : cls.length <= 30) (h16 : n <= 16) : ∀ (l : List Ch) (i : Nat) (a : List Ch) (r : List UInt8), ChsV cls n i l -> i + l.length <= 1000 -> chsL n cls l.length i a ⟨chsB l ++ r, false⟩ = (l.reverse ++ a, ⟨r, false⟩)
 | [], i, a, r, _, _ => by simp [chsL, chsB]
 | c :: l, i, a, r, h, hi => by
  rw [List.length_cons] at hi
  have e : chsB (c :: l) ++ r = chB c ++ (chsB l ++ r) := by unfold chsB; rw [List.flatMap_cons, List.append_assoc]
  rw [e, List.length_cons, chsL, if_neg (by simp), chL_B h.1 h30 h16 (by omega)]
  simp only
  rw [chsL_B h30 h16 l (i + 1) (c :: a) r h.2 (by omega), List.reverse_cons, List.append_assoc]
  rfl
structure QuV (cls : List Cl) (q : Qs) : Prop where
 n16 : q.names.length <= 16
 names : ∀ W ∈ q.names, VrOk W /\ isNamedB W = true
 nd : q.names.Nodup
 c20 : q.chs.length <= 20
 chs : ChsV cls q.names.length 0 q.chs.reverse
theorem quL_B {cls : List Cl} {q : Qs} (h : QuV cls q) (h30 : cls.length <= 30) (r : List UInt8) : quL cls ⟨quB q ++ r, false⟩ = (q, ⟨r, false⟩) := by
 have h16 := h.n16
 have h20 := h.c20
 have e : quB q ++ r = numB q.names.length ++ (q.names.flatMap wordB ++ (numB q.chs.length ++ (chsB q.chs.reverse ++ r))) := by
  unfold quB
  simp only [List.append_assoc]
 have eC := chsL_B h30 h16 q.chs.reverse 0 [] r h.chs (by rw [List.length_reverse]; omega)
 rw [List.length_reverse, List.reverse_reverse, List.append_nil] at eC
 unfold quL
 rw [e, numL_small h16 (by omega)]
 simp only
 rw [namesL_B _ _ _ h.names (by rw [List.nil_append]; exact h.nd), List.nil_append]
 simp only
 rw [numL_small h20 (by omega)]
 simp only
 rw [eC]
def claB (cls : List Cl) : List UInt8 := cls.flatMap (fun c => wordB (lineL c))
def oneCl (x : Except (Int × Nat) (List Cl)) : Option Cl := match x with
 | .ok [c] => some c
 | _ => none
def claL : Nat -> List Cl -> Rdr -> List Cl × Rdr
 | 0, a, r => (a, r)
 | n + 1, a, r => match oneCl (readS (wordL 400 r).1) with
  | some c => claL n (a ++ [c]) (wordL 400 r).2
  | none => ([], refuse)
def askedB : Option Qs -> List UInt8
 | none => numB 0
 | some q => numB 1 ++ quB q
def sesB (S : Se) : List UInt8 := numB S.cls.length ++ (claB S.cls ++ askedB S.q)
def askedL (cls : List Cl) (x : Nat × Rdr) : Option Qs × Rdr := if x.1 = 1 then (some (quL cls x.2).1, (quL cls x.2).2) else (none, x.2)
def sesL (r : Rdr) : (List Cl × Option Qs) × Rdr :=
 let K := numL 30 r
 let C := claL K.1 [] K.2
 let A := askedL C.1 (numL 1 C.2)
 ((C.1, A.1), A.2)
theorem claL_B : ∀ (cls a : List Cl) (r : List UInt8), (∀ c ∈ cls, ClR c /\ c.vars <= 16 /\ (lineL c).size <= 400) -> claL cls.length a ⟨claB cls ++ r, false⟩ = (a ++ cls, ⟨r, false⟩)
 | [], a, r, _ => by simp [claL, claB]
 | c :: cls, a, r, h => by
  obtain ⟨h1, h2, h3⟩ := h c (by simp)
  have e : claB (c :: cls) ++ r = wordB (lineL c) ++ (claB cls ++ r) := by unfold claB; rw [List.flatMap_cons, List.append_assoc]
  rw [e, List.length_cons, claL, wordL_B h3 (by omega)]
  simp only
  rw [read_line h1 h2 h3]
  show claL cls.length (a ++ [c]) ⟨claB cls ++ r, false⟩ = _
  rw [claL_B cls (a ++ [c]) r (fun d hd => h d (by simp [hd])), List.append_assoc]
  rfl
structure SeV (S : Se) : Prop where
 c30 : S.cls.length <= 30
 cls : ∀ c ∈ S.cls, ClR c /\ c.vars <= 16 /\ (lineL c).size <= 400
 q : ∀ q, S.q = some q -> QuV S.cls q
theorem sesL_B {S : Se} (h : SeV S) (r : List UInt8) : sesL ⟨sesB S ++ r, false⟩ = ((S.cls, S.q), ⟨r, false⟩) := by
 have h30 := h.c30
 have e : sesB S ++ r = numB S.cls.length ++ (claB S.cls ++ (askedB S.q ++ r)) := by unfold sesB; simp only [List.append_assoc]
 unfold sesL
 rw [e, numL_small h30 (by omega)]
 simp only
 rw [claL_B _ _ _ h.cls, List.nil_append]
 simp only
 cases hq : S.q with
 | none =>
  show ((S.cls, (askedL S.cls (numL 1 ⟨numB 0 ++ r, false⟩)).1), (askedL S.cls (numL 1 ⟨numB 0 ++ r, false⟩)).2) = _
  rw [numL_small (by omega) (by omega)]
  unfold askedL
  rw [if_neg (by show ¬ (0 : Nat) = 1; decide)]
 | some q =>
  have e2 : askedB (some q) ++ r = numB 1 ++ (quB q ++ r) := by unfold askedB; rw [List.append_assoc]
  rw [e2, numL_small (by omega) (by omega)]
  unfold askedL
  simp only [if_true]
  rw [quL_B (h.q q hq) h30]
def fourB (v : UInt32) : List UInt8 := [v.toUInt8, (v >>> 8).toUInt8, (v >>> 16).toUInt8, (v >>> 24).toUInt8]
def crcBit (r : UInt32) : UInt32 := (r >>> 1) ^^^ ((r &&& 1) * 0xEDB88320)
def crcBits : Nat -> UInt32 -> UInt32
 | 0, r => r
 | n + 1, r => crcBits n (crcBit r)
def crcByte (r : UInt32) (b : UInt8) : UInt32 := crcBits 8 (r ^^^ b.toUInt32)
def crcRest (r : UInt32) (l : List UInt8) : UInt32 := l.foldl crcByte r
def sumB (l : List UInt8) : UInt32 := ~~~ (crcRest (~~~ 0) l)
def headB4 (told : List UInt8) : List UInt8 := fourB (UInt32.ofNat (told.length + 8)) ++ told
def imgB (told : List UInt8) : List UInt8 := headB4 told ++ fourB (sumB (headB4 told))
def openL (b : List UInt8) : Rdr :=
 if b.length < 8 \/ b.take 4 ≠ fourB (UInt32.ofNat b.length) then refuse
 else if b.drop (b.length - 4) ≠ fourB (sumB (b.take (b.length - 4))) then refuse
 else ⟨(b.take (b.length - 4)).drop 4, false⟩
theorem four_len (v : UInt32) : (fourB v).length = 4 := rfl
theorem head_len (t : List UInt8) : (headB4 t).length = t.length + 4 := by unfold headB4; rw [List.length_append, four_len]; omega
theorem img_len (t : List UInt8) : (imgB t).length = t.length + 8 := by unfold imgB; rw [List.length_append, four_len, head_len]
theorem openL_B (t : List UInt8) : openL (imgB t) = ⟨t, false⟩ := by
  have hl := img_len t
  have hh := head_len t
  have e1 : (imgB t).take 4 = fourB (UInt32.ofNat (imgB t).length) := by
    rw [hl]
    unfold imgB headB4
    rw [List.append_assoc]
    exact List.take_left' rfl
  have e2 : (imgB t).take ((imgB t).length - 4) = headB4 t := by
    rw [hl]
    unfold imgB
    exact List.take_left' (by rw [hh]; omega)
  have e3 : (imgB t).drop ((imgB t).length - 4) = fourB (sumB (headB4 t)) := by
    rw [hl]
    unfold imgB
    exact List.drop_left' (by rw [hh]; omega)
  have e4 : (headB4 t).drop 4 = t := by
    unfold headB4
    exact List.drop_left' rfl
  unfold openL
  rw [if_neg (by rw [e1, hl]; intro hx; rcases hx with hx | hx; · omega
                 · exact hx rfl)]
  rw [e2, e3, e4, if_neg (by intro hx; exact hx rfl)]
def saveS (S : Se) : List UInt8 := imgB (sesB S)
def readImg (b : List UInt8) : (List Cl × Option Qs) × Rdr := sesL (openL b)
def loadB (b : List UInt8) : Bool := (readImg b).2.wrong == false && decide (imgB (sesB ⟨0, (readImg b).1.1, (readImg b).1.2⟩) = b)
def loadS (T : Se) (b : List UInt8) : Bool × Se := if loadB b = true then (true, ⟨T.lim, (readImg b).1.1, (readImg b).1.2⟩) else (false, T)
theorem readImg_B {S : Se} (h : SeV S) : readImg (saveS S) = ((S.cls, S.q), ⟨[], false⟩) := by
 unfold readImg saveS
 rw [openL_B]
 have := sesL_B h []
 rw [List.append_nil] at this
 exact this
theorem load_save {S : Se} (h : SeV S) (T : Se) : loadS T (saveS S) = (true, ⟨T.lim, S.cls, S.q⟩) := by
 have hr := readImg_B h
 have hb : loadB (saveS S) = true := by
  unfold loadB
  rw [hr]
  show ((false == false) && decide (imgB (sesB ⟨0, S.cls, S.q⟩) = saveS S)) = true
  rw [Bool.and_eq_true]
  exact ⟨rfl, decide_eq_true rfl⟩
 unfold loadS
 rw [if_pos hb, hr]
def mapP (ρ : Int -> Int) (p : Part) : Part := if p.kind = 1 then { p with value := ρ p.value } else p
def mapT (ρ : Int -> Int) (t : List Part) : List Part := t.map (mapP ρ)
def VIn (V : Int -> Prop) (t : List Part) : Prop := ∀ p ∈ t, p.kind = 1 -> V p.value
def InjV (V : Int -> Prop) (ρ : Int -> Int) : Prop := ∀ a b, V a -> V b -> ρ a = ρ b -> a = b
theorem mapP_kind (ρ : Int -> Int) (p : Part) : (mapP ρ p).kind = p.kind := by unfold mapP; split <;> rfl
theorem mapP_args (ρ : Int -> Int) (p : Part) : (mapP ρ p).args = p.args := by unfold mapP; split <;> rfl
theorem mapP_val {ρ : Int -> Int} {p : Part} (h : p.kind = 1) : (mapP ρ p).value = ρ p.value := by unfold mapP; rw [if_pos h]
theorem isV_map {V : Int -> Prop} {ρ : Int -> Int} (hi : InjV V ρ) {v : Int} (hv : V v) {p : Part} (hp : p.kind = 1 -> V p.value) : isV (ρ v) (mapP ρ p) = isV v p := by
 unfold isV
 rw [mapP_kind]
 by_cases h1 : p.kind = 1
 ·rw [mapP_val h1, h1]
  by_cases hx : p.value = v
  ·rw [hx]; simp
  ·have : ρ p.value ≠ ρ v := fun e => hx (hi _ _ (hp h1) hv e)
   have h2 : (ρ p.value == ρ v) = false := by simpa using this
   have h3 : (p.value == v) = false := by simpa using hx
   rw [h2, h3]
 ·have : (p.kind == 1) = false := by simpa using h1
  rw [this]; rfl
theorem VIn.tail {V : Int -> Prop} {p : Part} {t : List Part} (h : VIn V (p :: t)) : VIn V t := fun q hq => h q (List.mem_cons_of_mem _ hq)
theorem VIn.head {V : Int -> Prop} {p : Part} {t : List Part} (h : VIn V (p :: t)) : p.kind = 1 -> V p.value := h p (by simp)
theorem countV_map {V : Int -> Prop} {ρ : Int -> Int} (hi : InjV V ρ) {v : Int} (hv : V v) : ∀ {t : List Part}, VIn V t -> countV (ρ v) (mapT ρ t) = countV v t
 | [], _ => rfl
 | p :: t, h => by
  show countV (ρ v) (mapP ρ p :: mapT ρ t) = _
  rw [countV, countV, countV_map hi hv h.tail, isV_map hi hv h.head]
theorem putV_map {V : Int -> Prop} {ρ : Int -> Int} (hi : InjV V ρ) {v : Int} (hv : V v) {x : List Part} : ∀ {t : List Part}, VIn V t -> putV (ρ v) (mapT ρ x) (mapT ρ t) = mapT ρ (putV v x t)
 | [], _ => rfl
 | p :: t, h => by
  show putV (ρ v) (mapT ρ x) (mapP ρ p :: mapT ρ t) = _
  rw [putV, putV, putV_map hi hv h.tail, isV_map hi hv h.head]
  unfold mapT
  rw [List.map_append]
  split <;> rfl
theorem leadN_map {ρ : Int -> Int} : ∀ (m : Int) (t : List Part), leadN m (mapT ρ t) = leadN m t
 | _, [] => rfl
 | m, p :: t => by
  show leadN m (mapP ρ p :: mapT ρ t) = _
  rw [leadN, leadN, mapP_args, leadN_map _ t]
theorem leadT_map {ρ : Int -> Int} (t : List Part) : leadT (mapT ρ t) = leadT t := leadN_map 1 t
theorem samePart_map {V : Int -> Prop} {ρ : Int -> Int} (hi : InjV V ρ) {p q : Part} (hp : p.kind = 1 -> V p.value) (hq : q.kind = 1 -> V q.value) : samePart (mapP ρ p) (mapP ρ q) = samePart p q := by
 rw [Bool.eq_iff_iff, samePart_iff, samePart_iff]
 constructor
 ·intro e
  have ek : p.kind = q.kind := by rw [<- mapP_kind ρ p, e, mapP_kind]
  by_cases h1 : p.kind = 1
  ·have h2 : q.kind = 1 := by rw [<- ek]; exact h1
   have ev : p.value = q.value := hi _ _ (hp h1) (hq h2) (by rw [<- mapP_val (ρ := ρ) h1, e, mapP_val h2])
   unfold mapP at e
   rw [if_pos h1, if_pos h2] at e
   cases p; cases q
   simp only [Part.mk.injEq] at e ev ⊢
   exact ⟨e.1, e.2.1, ev, e.2.2.2⟩
  ·have h2 : ¬ q.kind = 1 := by rw [<- ek]; exact h1
   unfold mapP at e
   rw [if_neg h1, if_neg h2] at e
   exact e
 ·intro e; rw [e]
def mapE (ρ : Int -> Int) (e : Eqn) : Eqn := ⟨mapT ρ e.f, mapT ρ e.s, e.body.map (mapT ρ), e.behind.map (mapT ρ), e.terms.map (mapT ρ)⟩
structure EIn (V : Int -> Prop) (e : Eqn) : Prop where
 f : VIn V e.f
 s : VIn V e.s
 body : ∀ t ∈ e.body, VIn V t
 behind : ∀ t ∈ e.behind, VIn V t
 terms : ∀ t ∈ e.terms, VIn V t
theorem sizeT_map (ρ : Int -> Int) : ∀ (ts : List (List Part)), sizeT (ts.map (mapT ρ)) = sizeT ts
 | [] => rfl
 | t :: ts => by
  rw [List.map_cons]
  show (mapT ρ t).length + sizeT (ts.map (mapT ρ)) = t.length + sizeT ts
  rw [sizeT_map ρ ts]
  unfold mapT
  rw [List.length_map]
theorem mapE_size (ρ : Int -> Int) (e : Eqn) : (mapE ρ e).size = e.size := by
 unfold Eqn.size mapE
 simp only [sizeT_map]
 unfold mapT
 simp only [List.length_map]
theorem putVs_map {V : Int -> Prop} {ρ : Int -> Int} (hi : InjV V ρ) {v : Int} (hv : V v) {x : List Part} {ts : List (List Part)} (h : ∀ t ∈ ts, VIn V t) : (ts.map (mapT ρ)).map (putV (ρ v) (mapT ρ x)) = (ts.map (putV v x)).map (mapT ρ) := by
 rw [List.map_map, List.map_map]
 apply List.map_congr_left
 intro t ht
 exact putV_map hi hv (h t ht)
theorem put_map {V : Int -> Prop} {ρ : Int -> Int} (hi : InjV V ρ) {v : Int} (hv : V v) {x : List Part} {e : Eqn} (h : EIn V e) : (mapE ρ e).put (ρ v) (mapT ρ x) = mapE ρ (e.put v x) := by
 unfold Eqn.put mapE
 simp only
 rw [putV_map hi hv h.f, putV_map hi hv h.s, putVs_map hi hv h.body, putVs_map hi hv h.behind, putVs_map hi hv h.terms]
theorem putE_map {V : Int -> Prop} {ρ : Int -> Int} (hi : InjV V ρ) {v : Int} (hv : V v) {x : List Part} (hx : VIn V x) {e : Eqn} (h : EIn V e) : putE (mapE ρ e) (ρ v) (mapT ρ x) = ((putE e v x).1, mapE ρ (putE e v x).2) := by
 unfold putE
 rw [countV_map hi hv hx, put_map hi hv h, mapE_size]
 split
 ·rfl
 ·split <;> rfl
theorem putV_in {V : Int -> Prop} {v : Int} {x t : List Part} (hx : VIn V x) (ht : VIn V t) : VIn V (putV v x t) := by
 intro p hp hk
 rcases putV_mem hp with ⟨h1, _⟩ | h1
 ·exact ht p h1 hk
 ·exact hx p h1 hk
theorem putVs_in {V : Int -> Prop} {v : Int} {x : List Part} (hx : VIn V x) {ts : List (List Part)} (h : ∀ t ∈ ts, VIn V t) : ∀ t ∈ ts.map (putV v x), VIn V t := by
 intro t ht
 obtain ⟨u, hu, rfl⟩ := List.mem_map.1 ht
 exact putV_in hx (h u hu)
theorem putE_in {V : Int -> Prop} {v : Int} {x : List Part} (hx : VIn V x) {e : Eqn} (h : EIn V e) : EIn V (putE e v x).2 := by
 unfold putE
 split
 ·exact h
 ·split
  ·exact h
  ·exact ⟨putV_in hx h.f, putV_in hx h.s, putVs_in hx h.body, putVs_in hx h.behind, putVs_in hx h.terms⟩
theorem VIn.take {V : Int -> Prop} {t : List Part} (h : VIn V t) (n : Nat) : VIn V (t.take n) := fun p hp => h p (List.mem_of_mem_take hp)
theorem VIn.drop {V : Int -> Prop} {t : List Part} (h : VIn V t) (n : Nat) : VIn V (t.drop n) := fun p hp => h p (List.mem_of_mem_drop hp)
theorem stepE_map {V : Int -> Prop} {ρ : Int -> Int} (hi : InjV V ρ) {e : Eqn} (h : EIn V e) : stepE (mapE ρ e) = ((stepE e).1, mapE ρ (stepE e).2) /\ EIn V (stepE e).2 := by
 obtain ⟨ef, es, bo, be, te⟩ := e
 obtain ⟨hf, hs, hb, hbe, ht⟩ := h
 simp only at hf hs hb hbe ht
 cases ef with
 | nil => exact ⟨rfl, ⟨hf, hs, hb, hbe, ht⟩⟩
 | cons p f =>
  cases es with
  | nil => exact ⟨rfl, ⟨hf, hs, hb, hbe, ht⟩⟩
  | cons q s =>
   have eM : mapE ρ ⟨p :: f, q :: s, bo, be, te⟩ = ⟨mapP ρ p :: mapT ρ f, mapP ρ q :: mapT ρ s, bo.map (mapT ρ), be.map (mapT ρ), te.map (mapT ρ)⟩ := rfl
   have e1 : mapP ρ q :: mapT ρ s = mapT ρ (q :: s) := rfl
   have e2 : mapP ρ p :: mapT ρ f = mapT ρ (p :: f) := rfl
   rw [eM]
   unfold stepE
   simp only
   rw [samePart_map hi hf.head hs.head, mapP_kind, mapP_kind]
   split
   ·exact ⟨rfl, ⟨hf.tail, hs.tail, hb, hbe, ht⟩⟩
   ·split
    ·rename_i hk
     have hE : EIn V ⟨f, (q :: s).drop (leadT (q :: s)), bo, be, te⟩ := ⟨hf.tail, hs.drop _, hb, hbe, ht⟩
     have := putE_map hi (hf.head hk) (hs.take (leadT (q :: s))) hE
     refine ⟨?_, putE_in (hs.take _) hE⟩
     rw [e1, leadT_map, mapP_val hk, <- this]
     unfold mapE mapT
     simp only [List.map_take, List.map_drop]
    ·split
     ·rename_i hk
      have hE : EIn V ⟨(p :: f).drop (leadT (p :: f)), s, bo, be, te⟩ := ⟨hf.drop _, hs.tail, hb, hbe, ht⟩
      have := putE_map hi (hs.head hk) (hf.take (leadT (p :: f))) hE
      refine ⟨?_, putE_in (hf.take _) hE⟩
      rw [e2, leadT_map, mapP_val hk, <- this]
      unfold mapE mapT
      simp only [List.map_take, List.map_drop]
     ·exact ⟨rfl, ⟨hf, hs, hb, hbe, ht⟩⟩
theorem doneE_map (ρ : Int -> Int) (e : Eqn) : doneE (mapE ρ e) = doneE e := by
 obtain ⟨ef, es, bo, be, te⟩ := e
 cases ef <;> cases es <;> rfl
theorem solveN_map {V : Int -> Prop} {ρ : Int -> Int} (hi : InjV V ρ) : ∀ (n : Nat) {e : Eqn}, EIn V e -> solveN n (mapE ρ e) = ((solveN n e).1, mapE ρ (solveN n e).2)
 | 0, _, _ => rfl
 | n + 1, e, h => by
  obtain ⟨h1, h2⟩ := stepE_map hi h
  rw [solveN, solveN, doneE_map, h1]
  simp only
  split
  ·rfl
  ·split
   ·exact solveN_map hi n h2
   ·rfl
theorem solveE_map {V : Int -> Prop} {ρ : Int -> Int} (hi : InjV V ρ) {e : Eqn} (h : EIn V e) : solveE (mapE ρ e) = ((solveE e).1, mapE ρ (solveE e).2) := by
 have : fuelE (mapE ρ e) = fuelE e := by unfold fuelE mapE mapT; simp only [List.length_map]
 unfold solveE
 rw [this]
 exact solveN_map hi _ h
def idxI (ns : List Int) (v : Int) : Int := (ns.idxOf v : Nat)
theorem mapT_congr {V : Int -> Prop} {ρ σ : Int -> Int} (h : ∀ v, V v -> ρ v = σ v) {t : List Part} (ht : VIn V t) : mapT ρ t = mapT σ t := by
 unfold mapT
 apply List.map_congr_left
 intro p hp
 unfold mapP
 split
 ·rename_i hk
  rw [h _ (ht p hp hk)]
 ·rfl
theorem numV_pre (ns : List Int) (v : Int) : ns <+: numV ns v := by
 unfold numV
 split
 ·exact List.prefix_rfl
 ·exact ⟨[v], rfl⟩
theorem stepV_pre (ns : List Int) (p : Part) : ns <+: stepV ns p := by
 unfold stepV
 split
 ·exact numV_pre ns _
 ·exact List.prefix_rfl
theorem renT_pre : ∀ (t : List Part) (ns : List Int), ns <+: (renT ns t).2
 | [], _ => List.prefix_rfl
 | p :: t, ns => (stepV_pre ns p).trans (renT_pre t (stepV ns p))
theorem renTs_pre : ∀ (ts : List (List Part)) (ns : List Int), ns <+: (renTs ns ts).2
 | [], _ => List.prefix_rfl
 | t :: ts, ns => (renT_pre t ns).trans (renTs_pre ts _)
theorem numV_mem (ns : List Int) (v : Int) : v ∈ numV ns v := by
 unfold numV
 split
 ·assumption
 ·simp
theorem idx_pre {a b : List Int} (h : a <+: b) {v : Int} (hv : v ∈ a) : b.idxOf v = a.idxOf v := by
 obtain ⟨m, rfl⟩ := h
 rw [List.idxOf_append, if_pos hv]
theorem renT_map : ∀ (t : List Part) (ns ms : List Int), (renT ns t).2 <+: ms -> (renT ns t).1 = mapT (idxI ms) t /\ VIn (· ∈ ms) t
 | [], _, _, _ => ⟨rfl, fun p hp => by cases hp⟩
 | p :: t, ns, ms, h => by
  have h' : (renT (stepV ns p) t).2 <+: ms := h
  obtain ⟨h1, h2⟩ := renT_map t (stepV ns p) ms h'
  have hp : stepV ns p <+: ms := (renT_pre t _).trans h'
  have hm : p.kind = 1 -> p.value ∈ ms := by
   intro hk
   have : stepV ns p = numV ns p.value := by unfold stepV; rw [if_pos hk]
   rw [this] at hp
   exact hp.subset (numV_mem ns p.value)
  refine ⟨?_, ?_⟩
  ·show renP ns p :: (renT (stepV ns p) t).1 = mapP (idxI ms) p :: mapT (idxI ms) t
   rw [h1]
   congr 1
   unfold renP mapP idxI
   split
   ·rename_i hk
    have e : stepV ns p = numV ns p.value := by unfold stepV; rw [if_pos hk]
    rw [e] at hp
    rw [idx_pre hp (numV_mem ns p.value)]
   ·rfl
  ·intro q hq hk
   rcases List.mem_cons.1 hq with rfl | hq
   ·exact hm hk
   ·exact h2 q hq hk
theorem renTs_map : ∀ (ts : List (List Part)) (ns ms : List Int), (renTs ns ts).2 <+: ms -> (renTs ns ts).1 = ts.map (mapT (idxI ms)) /\ ∀ t ∈ ts, VIn (· ∈ ms) t
 | [], _, _, _ => ⟨rfl, fun t ht => by cases ht⟩
 | t :: ts, ns, ms, h => by
  have h' : (renTs (renT ns t).2 ts).2 <+: ms := h
  obtain ⟨h1, h2⟩ := renTs_map ts (renT ns t).2 ms h'
  obtain ⟨g1, g2⟩ := renT_map t ns ms ((renTs_pre ts _).trans h')
  refine ⟨?_, ?_⟩
  ·show (renT ns t).1 :: (renTs (renT ns t).2 ts).1 = _
   rw [g1, h1]
   rfl
  ·intro u hu
   rcases List.mem_cons.1 hu with rfl | hu
   ·exact g2
   ·exact h2 u hu
def allV (S : St) : List Int := (renTs [] (S.goals ++ S.terms)).2
theorem renS_map (S : St) : renS S = ⟨S.goals.map (mapT (idxI (allV S))), S.terms.map (mapT (idxI (allV S))), (allV S).length⟩ /\ (∀ t ∈ S.goals, VIn (· ∈ allV S) t) /\ ∀ t ∈ S.terms, VIn (· ∈ allV S) t := by
 obtain ⟨h1, h2⟩ := renTs_map (S.goals ++ S.terms) [] (allV S) List.prefix_rfl
 refine ⟨?_, fun t ht => h2 t (List.mem_append_left _ ht), fun t ht => h2 t (List.mem_append_right _ ht)⟩
 unfold renS
 rw [h1, List.map_append]
 have e1 : ((S.goals.map (mapT (idxI (allV S)))) ++ (S.terms.map (mapT (idxI (allV S))))).take S.goals.length = S.goals.map (mapT (idxI (allV S))) := List.take_left' (by simp)
 have e2 : ((S.goals.map (mapT (idxI (allV S)))) ++ (S.terms.map (mapT (idxI (allV S))))).drop S.goals.length = S.terms.map (mapT (idxI (allV S))) := List.drop_left' (by simp)
 rw [e1, e2]
 rfl
def ownR (S : St) (v : Int) : Int := if v ∈ allV S then idxI (allV S) v else v - S.fresh + (allV S).length
def ownV (S : St) (v : Int) : Prop := v ∈ allV S \/ S.fresh <= v
theorem idxI_inj {ns : List Int} {a b : Int} (ha : a ∈ ns) (hb : b ∈ ns) (h : idxI ns a = idxI ns b) : a = b := by
 have h1 : ns.idxOf a = ns.idxOf b := by unfold idxI at h; omega
 have h2 : ns.idxOf a < ns.length := List.idxOf_lt_length_of_mem ha
 have h3 : ns.idxOf b < ns.length := List.idxOf_lt_length_of_mem hb
 have e1 : ns[ns.idxOf a] = a := List.getElem_idxOf h2
 have e2 : ns[ns.idxOf b] = b := List.getElem_idxOf h3
 rw [<- e1, <- e2]
 simp only [h1]
theorem ownR_inj {S : St} : InjV (ownV S) (ownR S) := by
  intro a b ha hb h
  unfold ownR at h
  split at h <;> rename_i h1 <;> split at h <;> rename_i h2
  · exact idxI_inj h1 h2 h
  · have h3 := List.idxOf_lt_length_of_mem h1
    have h4 : S.fresh ≤ b := by rcases hb with hb | hb; · exact absurd hb h2
                                · exact hb
    unfold idxI at h
    omega
  · have h3 := List.idxOf_lt_length_of_mem h2
    have h4 : S.fresh ≤ a := by rcases ha with ha | ha; · exact absurd ha h1
                                · exact ha
    unfold idxI at h
    omega
  · omega
theorem own_map {S : St} (hs : ∀ v ∈ allV S, v < S.fresh) (h : Int) {t : List Part} (ht : ∀ p ∈ t, p.kind = 1 -> 0 <= p.value) : mapT (ownR S) (ownT S.fresh h t) = ownT (allV S).length h t /\ VIn (ownV S) (ownT S.fresh h t) := by
 refine ⟨?_, ?_⟩
 ·unfold mapT ownT
  rw [List.map_map]
  apply List.map_congr_left
  intro p hp
  show mapP (ownR S) (ownP S.fresh h p) = ownP _ h p
  unfold ownP
  by_cases h1 : p.kind = 1
  ·rw [if_pos h1, if_pos h1]
   unfold mapP
   rw [if_pos h1]
   have h0 := ht p hp h1
   have hn : ¬ (p.value + S.fresh) ∈ allV S := fun hm => by have := hs _ hm; omega
   show Part.mk p.kind p.name (ownR S (p.value + S.fresh)) p.args = _
   unfold ownR
   rw [if_neg hn, show p.value + S.fresh - S.fresh + ((allV S).length : Int) = p.value + (allV S).length by omega]
  ·rw [if_neg h1, if_neg h1]
   split
   ·rename_i h4
    unfold mapP
    rw [if_neg h1]
   ·unfold mapP
    rw [if_neg h1]
 ·intro p hp hk
  obtain ⟨q, hq, rfl⟩ := List.mem_map.1 hp
  unfold ownP at hk ⊢
  split at hk
  ·rename_i h1
   have h0 := ht q hq h1
   rw [if_pos h1]
   exact .inr (by show S.fresh <= q.value + S.fresh; omega)
  ·rename_i h1
   split at hk
   ·exact absurd hk h1
   ·exact absurd hk h1
theorem mapR_eq (S : St) {t : List Part} (h : VIn (· ∈ allV S) t) : mapT (idxI (allV S)) t = mapT (ownR S) t := mapT_congr (V := (· ∈ allV S)) (fun v hv => by unfold ownR; rw [if_pos hv]) h
theorem mapsR_eq (S : St) {ts : List (List Part)} (h : ∀ t ∈ ts, VIn (· ∈ allV S) t) : ts.map (mapT (idxI (allV S))) = ts.map (mapT (ownR S)) := List.map_congr_left fun t ht => mapR_eq S (h t ht)
def ClNn (c : Cl) : Prop := (∀ p ∈ c.head, p.kind = 1 -> 0 <= p.value) /\ ∀ t ∈ c.body, ∀ p ∈ t, p.kind = 1 -> 0 <= p.value
theorem withE_ren {S : St} (hs : ∀ v ∈ allV S, v < S.fresh) {c : Cl} (hc : ClNn c) (h : Int) : withE (renS S) c h = mapE (ownR S) (withE S c h) /\ EIn (ownV S) (withE S c h) := by
 obtain ⟨h1, h2, h3⟩ := renS_map S
 have hw : ∀ {t : List Part}, VIn (· ∈ allV S) t -> VIn (ownV S) t := fun ht p hp hk => .inl (ht p hp hk)
 refine ⟨?_, ?_⟩
 ·rw [h1]
  unfold withE mapE
  simp only
  rw [(own_map hs h hc.1).1, mapsR_eq S h2, mapsR_eq S h3]
  congr 1
  ·cases S.goals <;> rfl
  ·rw [List.map_map]
   apply List.map_congr_left
   intro t ht
   exact ((own_map hs h (hc.2 t ht)).1).symm
  ·rw [List.map_tail]
 ·refine ⟨?_, (own_map hs h hc.1).2, ?_, fun t ht => hw (h2 t (List.mem_of_mem_tail ht)), fun t ht => hw (h3 t ht)⟩
  ·show VIn _ (S.goals.headD [])
   cases hg : S.goals with
   | nil => intro p hp; cases hp
   | cons g gs => exact hw (h2 g (by rw [hg]; simp))
  ·intro t ht
   obtain ⟨u, hu, rfl⟩ := List.mem_map.1 ht
   exact (own_map hs h (hc.2 u hu)).2
theorem withS_ren {S : St} (hs : ∀ v ∈ allV S, v < S.fresh) {c : Cl} (hc : ClNn c) (h : Int) : (withS (renS S) c h).1 = (withS S c h).1 := by
 obtain ⟨e1, e2⟩ := withE_ren hs hc h
 have e3 := solveE_map ownR_inj e2
 unfold withS
 rw [e1, e3]
 simp only
 split <;> rfl
theorem hasPred_ren (S : St) {c : Cl} (h3 : (topP c.head).kind ≠ 1) : hasPred (renS S) c = hasPred S c := by
 have e : topP (goalP (renS S)) = mapP (idxI (allV S)) (topP (goalP S)) := by
  rw [(renS_map S).1]
  unfold goalP topP
  simp only
  cases S.goals with
  | nil => rfl
  | cons g gs => cases g <;> rfl
 unfold hasPred
 rw [e, Bool.eq_iff_iff, samePart_iff, samePart_iff]
 constructor
 ·intro hx
  have : (topP (goalP S)).kind ≠ 1 := by rw [hx, mapP_kind] at h3; exact h3
  rw [hx]; unfold mapP; rw [if_neg this]
 ·intro hx
  rw [hx] at h3
  rw [hx]; unfold mapP; rw [if_neg h3]
theorem matchN_ren {S : St} (hs : ∀ v ∈ allV S, v < S.fresh) : ∀ (i : Nat) (cls : List Cl), (∀ c ∈ cls, ClNn c /\ (topP c.head).kind ≠ 1) -> matchN (renS S) i cls = matchN S i cls
 | _, [], _ => rfl
 | i, c :: cs, h => by
  obtain ⟨h1, h2⟩ := h c (by simp)
  have e : matchB (renS S) c = matchB S c := by unfold matchB; rw [hasPred_ren S h2, withS_ren hs h1 0]
  rw [matchN, matchN, e, matchN_ren hs (i + 1) cs (fun d hd => h d (List.mem_cons_of_mem _ hd))]
end Rf
