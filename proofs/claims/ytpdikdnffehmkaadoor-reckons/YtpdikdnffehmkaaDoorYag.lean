/- Plain functions: two goals with a variable in common (promises P8, P10). -/
import Derived.Test.YtpdikdnffehmkaaDoorYaf
namespace Rf
theorem vx_ok : VrOk xB := ⟨⟨88, [], rfl, by decide, by decide, by decide, by decide⟩, by decide⟩
theorem pB_ok : NmOk pB := ⟨112, [], rfl, by decide, by decide, by decide⟩
theorem qB_ok : NmOk qB := ⟨113, [], rfl, by decide, by decide, by decide⟩
theorem goal_var {ν : List ByteArray} {p : ByteArray} (hp : NmOk p) {i : Nat} (hi : i < ν.length) : GoalOk ν [nmP p 1, vrP i] := by
  refine .inr ⟨⟨2, .inr ⟨p, [[vrP i]], by simp, fun q hq => by simp at hq; subst hq; exact .inl ⟨_, rfl, rfl⟩, rfl⟩⟩, fun x hx => ?_, rfl⟩
  simp at hx
  rcases hx with rfl | rfl
  · exact .inr (.inr ⟨rfl, rfl, hp, by simp [nmP], by simp [nmP]⟩)
  · exact .inl ⟨rfl, rfl, rfl, by simp [vrP], by simp [vrP]; exact hi⟩
theorem samePred_ne {S : St} {c : Cl} (h : topP c.head ≠ topP (goalP S)) : hasPred S c = false := by
  unfold hasPred
  cases hh : samePart (topP c.head) (topP (goalP S)) with
  | false => rfl
  | true => exact absurd (samePart_iff.1 hh) h
theorem take_append_of_none (S : St) (a b : List Cl) (h : ∀ c ∈ a, hasPred S c = false) : matchN S 0 (a ++ b) = matchN S a.length b := by
  rw [matchN_app, matchN_none S 0 a (fun c hc => by unfold matchB; rw [h c hc]; rfl), List.nil_append, Nat.zero_add]
end Rf
namespace Rf.JoinedL
open Rf
def S0 : St := ⟨[[nmP pB 1, vrP 0], [nmP qB 1, vrP 0]], [[vrP 0]], 1⟩
def Q (f : Int) (c : ByteArray) : St := ⟨[[nmP qB 1, nmP c 0]], [[nmP c 0]], f⟩
def cls (a b : List ByteArray) : List Cl := a.map (fact1 pB) ++ b.map (fact1 qB)
def pch (n i : Nat) : List Ch := if i < n then [⟨S0, List.range' i (n - i)⟩] else []
def qch (f : Int) (c : ByteArray) (ks : List Nat) : List Ch := if ks = [] then [] else [⟨Q f c, ks⟩]
def M (n : Nat) (b : List ByteArray) (c : ByteArray) (k : Nat) : List Nat := matchN (Q 0 c) (n + k) ((b.drop k).map (fact1 qB))
theorem with_S0 (c : ByteArray) (h : Int) : withS S0 (fact1 pB c) h = (0, Q 1 c) := with_fact_var pB c 0 [[nmP qB 1, vrP 0]] [[vrP 0]] 1 h (by simp [sizeT, putV, isV, vrP, nmP])
theorem match_Q (f : Int) (c d : ByteArray) : matchB (Q f c) (fact1 qB d) = decide (d = c) := by
  unfold matchB
  have : hasPred (Q f c) (fact1 qB d) = true := samePart_iff.2 rfl
  rw [this]
  by_cases h : d = c
  · have := (with_fact_name qB d c [] [[nmP c 0]] f 0).1 h
    unfold Q
    rw [this]; simp [h]
  · have := (with_fact_name qB d c [] [[nmP c 0]] f 0).2 h
    unfold Q
    rw [this]; simp [h]
theorem M_cons (n : Nat) (b : List ByteArray) (c d : ByteArray) (k : Nat) (hk : b[k]? = some d) : M n b c k = (if d = c then [n + k] else []) ++ M n b c (k + 1) := by
  obtain ⟨h1, h2⟩ := List.getElem?_eq_some_iff.1 hk
  unfold M
  rw [List.drop_eq_getElem_cons h1, h2, List.map_cons, matchN, match_Q]
  simp only [decide_eq_true_eq]
  rfl
theorem M_end (n : Nat) (b : List ByteArray) (c : ByteArray) : M n b c b.length = [] := by unfold M; rw [List.drop_length]; rfl
theorem M_mem (n : Nat) (b : List ByteArray) (c : ByteArray) (k j : Nat) (h : j ∈ M n b c k) : ∃ i, j = n + i ∧ b[i]? = some c := by
  unfold M at h
  have key : ∀ (l : List ByteArray) (m j : Nat), j ∈ matchN (Q 0 c) m (l.map (fact1 qB)) → ∃ i, j = m + i ∧ l[i]? = some c := by
    intro l
    induction l with
    | nil => intro m j h; simp [matchN] at h
    | cons d l ih =>
      intro m j h
      rw [List.map_cons, matchN, match_Q] at h
      rcases List.mem_append.1 h with h | h
      · split at h
        · rename_i hd
          simp at h hd; subst h; subst hd
          exact ⟨0, by simp, rfl⟩
        · simp at h
      · obtain ⟨i, e1, e2⟩ := ih (m + 1) j h
        exact ⟨i + 1, by omega, by simpa using e2⟩
  obtain ⟨i, e1, e2⟩ := key _ _ _ h
  exact ⟨k + i, by omega, by rw [List.getElem?_drop] at e2; exact e2⟩
def ans (c : ByteArray) : Rep := ⟨1, xB ++ ⟨#[32, 61, 32]⟩ ++ c, 0, 0⟩
def st (a b : List ByteArray) (i : Nat) (c : ByteArray) (ks : List Nat) : Se := ⟨20, cls a b, some ⟨[xB], qch 0 c ks ++ pch a.length (i + 1)⟩⟩
def off (a b : List ByteArray) : Rep × Se := (repK 2, ⟨20, cls a b, none⟩)
def hit (a b : List ByteArray) (i : Nat) (c : ByteArray) (m : List Nat) (no : Rep × Se) : Rep × Se := match m with
  | [] => no
  | _ :: ks => (ans c, st a b i c ks)
/-- The reply from the i-th of the first on: as is a's rest. -/
def seek (a b : List ByteArray) : Nat → List ByteArray → Rep × Se
  | _, [] => off a b
  | i, c :: as => hit a b i c (M a.length b c 0) (seek a b (i + 1) as)
def R (a b : List ByteArray) (i : Nat) (c : ByteArray) (k : Nat) : Rep × Se := hit a b i c (M a.length b c k) (seek a b (i + 1) (a.drop (i + 1)))
theorem R_skip {a b : List ByteArray} {i k : Nat} {c d : ByteArray} (hk : b[k]? = some d) (h : c ≠ d) : R a b i c k = R a b i c (k + 1) := by
  unfold R; rw [M_cons _ _ _ _ _ hk, if_neg (fun e => h e.symm)]; rfl
theorem R_row {a b : List ByteArray} {i : Nat} {c : ByteArray} : R a b i c b.length = seek a b (i + 1) (a.drop (i + 1)) := by
  unfold R; rw [M_end]; rfl
theorem R_start {a b : List ByteArray} {i : Nat} {c : ByteArray} (h : a[i]? = some c) : seek a b i (a.drop i) = R a b i c 0 := by
  obtain ⟨h1, h2⟩ := List.getElem?_eq_some_iff.1 h
  rw [List.drop_eq_getElem_cons h1, h2]; rfl
theorem ren_pch (n i : Nat) : (pch n i).map renC = pch n i := by unfold pch; split <;> rfl
theorem ren_qch (f : Int) (c : ByteArray) (ks : List Nat) : (qch f c ks).map renC = qch 0 c ks := by unfold qch; split <;> rfl
theorem reply_hit (a b : List ByteArray) (i : Nat) (f : Int) (c : ByteArray) (ks : List Nat) (q : Option Qs) : replyS ⟨20, cls a b, q⟩ [xB] (1, ⟨⟨[], [[nmP c 0]], f⟩, qch f c ks ++ pch a.length (i + 1)⟩) = (ans c, st a b i c ks) := by
  unfold replyS
  rw [if_pos rfl]
  show (_, _) = _
  rw [text_one, List.map_append, ren_pch, ren_qch]
  rfl
theorem cls_q (a b : List ByteArray) (i : Nat) (c : ByteArray) (h : b[i]? = some c) : (cls a b).getD (a.length + i) noCl = fact1 qB c := by
  unfold cls
  rw [List.getD_eq_getElem?_getD, List.getElem?_append_right (by rw [List.length_map]; omega), List.length_map, show a.length + i - a.length = i by omega, List.getElem?_map, h]; rfl
theorem cls_p (a b : List ByteArray) (i : Nat) (c : ByteArray) (h : a[i]? = some c) : (cls a b).getD i noCl = fact1 pB c := by
  have hi := (List.getElem?_eq_some_iff.1 h).1
  unfold cls
  rw [List.getD_eq_getElem?_getD, List.getElem?_append_left (by rw [List.length_map]; exact hi), List.getElem?_map, h]; rfl
theorem use_q (a b : List ByteArray) (f : Int) (c : ByteArray) (j : Nat) (hj : j ∈ M a.length b c 0) (low : List Ch) (ks : List Nat) (now : St) (h : Int) : useP ⟨now, putCh low (Q f c) ks⟩ (Q f c) ((cls a b).getD j noCl) h = (0, ⟨⟨[], [[nmP c 0]], f⟩, qch f c ks ++ low⟩) := by
  obtain ⟨i, rfl, hi⟩ := M_mem _ _ _ _ _ hj
  rw [cls_q a b i c hi]
  have hw := (with_fact_name qB c c [] [[nmP c 0]] f h).1 rfl
  have hw2 : withS (Q f c) (fact1 qB c) h = (0, ⟨[], [[nmP c 0]], f⟩) := hw
  unfold useP
  rw [hw2]
  simp only [if_true]
  unfold putCh qch
  split
  · rfl
  · rfl
theorem M_sub (n : Nat) (b : List ByteArray) (c : ByteArray) : ∀ (k j : Nat), j ∈ M n b c k → j ∈ M n b c 0 := by
  intro k
  induction k with
  | zero => intro j h; exact h
  | succ k ih =>
    intro j h
    by_cases hk : k < b.length
    · refine ih j ?_
      rw [M_cons n b c b[k] k (List.getElem?_eq_getElem hk)]
      exact List.mem_append_right _ h
    · unfold M at h
      rw [List.drop_of_length_le (by omega)] at h
      simp [matchN] at h
/-- How the first goal's clauses are gone through, from the i-th on. -/
theorem matchN_Q (a b : List ByteArray) (f : Int) (c : ByteArray) : matchN (Q f c) 0 (cls a b) = matchN (Q 0 c) 0 (cls a b) := by
  have key : ∀ (l : List Cl) (i : Nat), (∀ d ∈ l, matchB (Q f c) d = matchB (Q 0 c) d) → matchN (Q f c) i l = matchN (Q 0 c) i l := by
    intro l
    induction l with
    | nil => intro i _; rfl
    | cons d l ih => intro i h; rw [matchN, matchN, h d (by simp), ih (i + 1) (fun x hx => h x (List.mem_cons_of_mem _ hx))]
  refine key _ _ (fun d hd => ?_)
  unfold cls at hd
  rcases List.mem_append.1 hd with hd | hd
  · obtain ⟨x, _, rfl⟩ := List.mem_map.1 hd
    have h1 : ∀ g, hasPred (Q g c) (fact1 pB x) = false := fun g => samePred_ne (show nmP pB 1 ≠ nmP qB 1 by simp [nmP]; decide)
    unfold matchB; rw [h1, h1]; rfl
  · obtain ⟨x, _, rfl⟩ := List.mem_map.1 hd
    rw [match_Q, match_Q]
theorem go (a b : List ByteArray) (hb : b ≠ []) (q : Option Qs) : ∀ (as : List ByteArray) (i n : Nat) (now : St), a.drop i = as → as.length ≤ n → replyS ⟨20, cls a b, q⟩ [xB] (playN (cls a b) n (-1, ⟨now, pch a.length i⟩)) = seek a b i as
  | [], i, n, now, h, _ => by
    have hi : a.length ≤ i := List.drop_eq_nil_iff.1 h
    have hp : pch a.length i = [] := by unfold pch; rw [if_neg (by omega)]
    rw [hp, play_fail, again_none rfl, play_end (by decide) (by decide)]
    unfold replyS
    rw [if_neg (by simp)]
    rfl
  | c :: as, i, n, now, h, hn => by
    have hi : i < a.length := by
      rcases Nat.lt_or_ge i a.length with h1 | h1
      · exact h1
      · rw [List.drop_of_length_le h1] at h; cases h
    have hd := List.drop_eq_getElem_cons hi
    rw [h] at hd
    injection hd with h1 h2
    have hc : a[i]? = some c := by rw [List.getElem?_eq_getElem hi, h1]
    have hpc : pch a.length i = [⟨S0, i :: List.range' (i + 1) (a.length - (i + 1))⟩] := by
      unfold pch; rw [if_pos hi, show a.length - i = (a.length - (i + 1)) + 1 by omega, List.range'_succ]
    have hag : againP (cls a b) ⟨now, pch a.length i⟩ = (0, ⟨Q 1 c, pch a.length (i + 1)⟩) := by
      rw [hpc]
      show useP ⟨now, putCh [] S0 _⟩ S0 ((cls a b).getD i noCl) 0 = _
      rw [cls_p a b i c hc]
      unfold useP
      rw [with_S0]
      simp only [if_true]
      unfold putCh pch
      by_cases h9 : i + 1 < a.length
      · rw [if_neg (by intro e; have := congrArg List.length e; rw [List.length_range'] at this; simp at this; omega), if_pos h9]
      · rw [if_pos (by rw [show a.length - (i + 1) = 0 by omega]; rfl), if_neg h9]
    obtain ⟨m, rfl⟩ : ∃ m, n = m + 1 := ⟨n - 1, by simp at hn; omega⟩
    have hM : matchN (Q 1 c) 0 (cls a b) = M a.length b c 0 := by
      rw [matchN_Q]
      unfold cls M
      rw [take_append_of_none (Q 0 c) _ _ (fun d hd => by
        obtain ⟨x, _, rfl⟩ := List.mem_map.1 hd
        exact samePred_ne (show nmP pB 1 ≠ nmP qB 1 by simp [nmP]; decide))]
      rw [List.length_map, List.drop_zero, Nat.add_zero]
    have hkn : knownP (Q 1 c) (cls a b) = true := by
      unfold knownP cls
      rw [List.any_append]
      cases b with
      | nil => exact absurd rfl hb
      | cons d b =>
        have : hasPred (Q 1 c) (fact1 qB d) = true := samePart_iff.2 rfl
        simp [this]
    have hbu : isBuilt (goalP (Q 1 c)) = false := by
      show isBuilt [nmP qB 1, nmP c 0] = false
      unfold isBuilt
      show ((3 : Int) == 4 || ((3 : Int) == 3 && builtInB qB 1)) = false
      decide
    rw [play_fail, hag, play_take (by simp [Q]), take_user hbu hkn]
    show replyS _ _ (playN _ m (chooseP _ ⟨Q 1 c, pch a.length (i + 1)⟩ (matchN (Q 1 c) 0 (cls a b)))) = hit a b i c (M a.length b c 0) (seek a b (i + 1) as)
    rw [hM]
    cases hm : M a.length b c 0 with
    | nil =>
      show replyS _ _ (playN _ m (-1, ⟨Q 1 c, pch a.length (i + 1)⟩)) = seek a b (i + 1) as
      exact go a b hb q as (i + 1) m _ h2.symm (by simp at hn; omega)
    | cons j ks =>
      have hlen : (pch a.length (i + 1)).length ≤ 1 := by unfold pch; split <;> simp
      have hch : chooseP (cls a b) ⟨Q 1 c, pch a.length (i + 1)⟩ (j :: ks) = (0, ⟨⟨[], [[nmP c 0]], 1⟩, qch 1 c ks ++ pch a.length (i + 1)⟩) := by
        simp only [chooseP]
        rw [if_neg (by intro e; have := e.2; omega)]
        exact use_q a b 1 c j (by rw [hm]; simp) _ ks _ _
      rw [hch, play_answer' rfl]
      exact reply_hit a b i 1 c ks q
theorem more_hit {a b : List ByteArray} (hb : b ≠ []) (ha : a.length ≤ 20) {i k : Nat} {c : ByteArray} (hi : a[i]? = some c) (hk : b[k]? = some c) : (R a b i c k).1 = ans c ∧ moreS (R a b i c k).2 = R a b i c (k + 1) := by
  have hlt := (List.getElem?_eq_some_iff.1 hi).1
  have hM := M_cons a.length b c c k hk
  rw [if_pos rfl] at hM
  have hR : R a b i c k = (ans c, st a b i c (M a.length b c (k + 1))) := by unfold R; rw [hM]; rfl
  rw [hR]
  refine ⟨rfl, ?_⟩
  show replyS _ [xB] (playN (cls a b) 20 (-1, ⟨stNone, qch 0 c (M a.length b c (k + 1)) ++ pch a.length (i + 1)⟩)) = _
  unfold R
  cases hm : M a.length b c (k + 1) with
  | nil =>
    show replyS _ [xB] (playN (cls a b) 20 (-1, ⟨stNone, pch a.length (i + 1)⟩)) = seek a b (i + 1) (a.drop (i + 1))
    exact go a b hb _ _ (i + 1) 20 _ rfl (by rw [List.length_drop]; omega)
  | cons j ks =>
    have hch : againP (cls a b) ⟨stNone, qch 0 c (j :: ks) ++ pch a.length (i + 1)⟩ = (0, ⟨⟨[], [[nmP c 0]], 0⟩, qch 0 c ks ++ pch a.length (i + 1)⟩) := by
      show useP ⟨stNone, putCh (pch a.length (i + 1)) (Q 0 c) ks⟩ (Q 0 c) ((cls a b).getD j noCl) _ = _
      exact use_q a b 0 c j (M_sub _ _ _ (k + 1) j (by rw [hm]; simp)) _ ks _ _
    rw [play_fail, hch, play_answer' rfl]
    exact reply_hit a b i 0 c ks _
def askB : ByteArray := ⟨#[112, 40, 88, 41, 44, 113, 40, 88, 41, 46]⟩
theorem quest : questS askB = .ok ([[nmP pB 1, vrP 0], [nmP qB 1, vrP 0]], [xB]) := by
  refine read_quest (ν := [xB]) ⟨by simp, by simp, fun W hW => by simp at hW; subst hW; exact vx_ok⟩ (by simp) (by simp) (fun g hg => ?_) ?_ rfl (by decide)
  · simp at hg
    rcases hg with rfl | rfl
    · exact goal_var (i := 0) pB_ok (by simp)
    · exact goal_var (i := 0) qB_ok (by simp)
  · exact ⟨0, rfl, 1, .inr ⟨rfl, rfl⟩, 1, rfl, 1, .inl ⟨by decide, rfl⟩, rfl⟩
theorem first (a b : List ByteArray) (q : Option Qs) : firstS ⟨20, cls a b, q⟩ [[nmP pB 1, vrP 0], [nmP qB 1, vrP 0]] [xB] = playN (cls a b) 20 (0, ⟨S0, []⟩) := by
  unfold firstS
  rw [if_neg (by decide)]
  rfl
theorem built_S0 : isBuilt (goalP S0) = false := by
  show isBuilt [nmP pB 1, vrP 0] = false
  decide
theorem ask_hit {a b : List ByteArray} (ha : a ≠ []) (hb : b ≠ []) (h15 : a.length ≤ 15) (q : Option Qs) : askS ⟨20, cls a b, q⟩ askB = seek a b 0 a := by
  unfold askS
  rw [quest]
  simp only []
  have hbn : beginN [xB] = [xB] := by decide
  have hkn : knownP S0 (cls a b) = true := by
    unfold knownP cls
    rw [List.any_append]
    cases a with
    | nil => exact absurd rfl ha
    | cons d a =>
      have : hasPred S0 (fact1 pB d) = true := samePart_iff.2 rfl
      simp [this]
  have hM : matchN S0 0 (cls a b) = List.range' 0 a.length := by
    unfold cls
    rw [matchN_app, matchN_all S0 0 (a.map (fact1 pB)) (fun c hc => by
      obtain ⟨d, _, rfl⟩ := List.mem_map.1 hc
      unfold matchB
      rw [with_S0]
      have : hasPred S0 (fact1 pB d) = true := samePart_iff.2 rfl
      rw [this]; rfl), matchN_none S0 _ (b.map (fact1 qB)) (fun c hc => by
      obtain ⟨d, _, rfl⟩ := List.mem_map.1 hc
      unfold matchB
      rw [samePred_ne (S := S0) (c := fact1 qB d) (show nmP qB 1 ≠ nmP pB 1 by simp [nmP]; decide)]; rfl), List.append_nil, List.length_map]
  rw [hbn, first, play_take (by simp [S0]), take_user built_S0 hkn]
  show replyS _ _ (playN _ 19 (chooseP _ ⟨S0, []⟩ (matchN S0 0 (cls a b)))) = _
  rw [hM]
  have hg := go a b hb q a 0 19 stNone rfl (by omega)
  rw [play_fail] at hg
  cases ha' : a with
  | nil => exact absurd ha' ha
  | cons c as =>
    rw [← ha']
    have hl : a.length = as.length + 1 := by rw [ha']; rfl
    have hpc : pch a.length 0 = [⟨S0, List.range' 0 a.length⟩] := by unfold pch; rw [if_pos (by omega)]; rfl
    have heq : chooseP (cls a b) ⟨S0, []⟩ (List.range' 0 a.length) = againP (cls a b) ⟨stNone, pch a.length 0⟩ := by
      rw [hpc]
      have hr : List.range' 0 a.length = 0 :: List.range' 1 as.length := by rw [hl, List.range'_succ]
      rw [hr]
      simp only [chooseP]
      rw [if_neg (by simp)]
      show useP ⟨S0, putCh [] S0 _⟩ S0 _ 0 = useP ⟨stNone, putCh [] S0 _⟩ S0 _ 0
      rw [cls_p a b 0 c (by rw [ha']; rfl)]
      unfold useP
      rw [with_S0]
      simp
    rw [heq]
    exact hg
theorem ask_noP (b : List ByteArray) (q : Option Qs) : askS ⟨20, cls [] b, q⟩ askB = (repK 12, ⟨20, cls [] b, none⟩) := by
  unfold askS
  rw [quest]
  simp only []
  rw [first, play_take (by simp [S0]), take_unknown built_S0 ?_, play_end (by decide) (by decide)]
  · rfl
  · unfold knownP cls
    rw [List.map_nil, List.nil_append, List.any_eq_false]
    intro c hc
    obtain ⟨d, _, rfl⟩ := List.mem_map.1 hc
    rw [show hasPred S0 (fact1 qB d) = false from samePred_ne (show nmP qB 1 ≠ nmP pB 1 by simp [nmP]; decide)]
    simp
theorem ask_noQ (a : List ByteArray) (ha : a ≠ []) (q : Option Qs) : askS ⟨20, cls a [], q⟩ askB = (repK 12, ⟨20, cls a [], none⟩) := by
  unfold askS
  rw [quest]
  simp only []
  cases ha' : a with
  | nil => exact absurd ha' ha
  | cons c as =>
    rw [← ha']
    have hkn : knownP S0 (cls a []) = true := by
      unfold knownP cls
      rw [ha']
      have : hasPred S0 (fact1 pB c) = true := samePart_iff.2 rfl
      simp [this]
    have hM : matchN S0 0 (cls a []) = List.range' 0 a.length := by
      unfold cls
      rw [List.map_nil, List.append_nil, matchN_all S0 0 (a.map (fact1 pB)) (fun c hc => by
        obtain ⟨d, _, rfl⟩ := List.mem_map.1 hc
        unfold matchB
        rw [with_S0]
        have : hasPred S0 (fact1 pB d) = true := samePart_iff.2 rfl
        rw [this]; rfl), List.length_map]
    rw [first, play_take (by simp [S0]), take_user built_S0 hkn]
    show replyS _ _ (playN _ 19 (chooseP _ ⟨S0, []⟩ (matchN S0 0 (cls a [])))) = _
    have hl : a.length = as.length + 1 := by rw [ha']; rfl
    rw [hM, hl, List.range'_succ]
    have hch : ∃ chs, chooseP (cls a []) ⟨S0, []⟩ (0 :: List.range' (0 + 1) as.length) = (0, ⟨Q 1 c, chs⟩) := by
      simp only [chooseP]
      rw [if_neg (by simp), cls_p a [] 0 c (by rw [ha']; rfl)]
      unfold useP
      rw [with_S0]
      exact ⟨_, rfl⟩
    obtain ⟨chs, hch⟩ := hch
    rw [hch, play_take (by simp [Q]), take_unknown ?_ ?_, play_end (by decide) (by decide)]
    · rfl
    · show isBuilt [nmP qB 1, nmP c 0] = false
      show ((3 : Int) == 4 || ((3 : Int) == 3 && builtInB qB 1)) = false
      decide
    · unfold knownP cls
      rw [List.map_nil, List.append_nil, List.any_eq_false]
      intro d hd
      obtain ⟨x, _, rfl⟩ := List.mem_map.1 hd
      rw [show hasPred (Q 1 c) (fact1 pB x) = false from samePred_ne (show nmP pB 1 ≠ nmP qB 1 by simp [nmP]; decide)]
      simp
end Rf.JoinedL
/- Plain functions: plus and less, not (promise P9). -/
namespace Rf
def nuP (v : Int) : Part := ⟨2, ⟨#[]⟩, v, 0⟩
theorem part_num {ν : List ByteArray} {v : Int} (h0 : -999999999 ≤ v) (h1 : v ≤ 999999999) : PartOk ν (nuP v) := .inr (.inl ⟨rfl, rfl, rfl, h0, h1⟩)
theorem part_name {ν : List ByteArray} {s : ByteArray} (h : NmOk s) {n : Int} (h0 : 0 ≤ n) (h1 : n ≤ 4) : PartOk ν (nmP s n) := .inr (.inr ⟨rfl, rfl, h, h0, h1⟩)
theorem part_var {ν : List ByteArray} {i : Nat} (h : i < ν.length) : PartOk ν (vrP i) := .inl ⟨rfl, rfl, rfl, by simp [vrP], by simp [vrP]; exact h⟩
theorem wf_atom (p : Part) (h : p.args = 0) (d : Nat) : Wf (d + 1) [p] := .inl ⟨p, rfl, h⟩
/-- A goal with these arguments. -/
theorem goal_comp {ν : List ByteArray} {s : ByteArray} {qs : List (List Part)} {d : Nat} {g : List Part} (hs : NmOk s) (h1 : 1 ≤ qs.length) (h4 : qs.length ≤ 4) (hw : ∀ q ∈ qs, Wf d q) (hp : ∀ q ∈ qs, ∀ p ∈ q, PartOk ν p) (hg : g = nmP s qs.length :: qs.flatten) : GoalOk ν g := by
  refine .inr ⟨⟨d + 1, .inr ⟨s, qs, h1, hw, hg⟩⟩, fun p hpm => ?_, by rw [hg]; rfl⟩
  rw [hg] at hpm
  rcases List.mem_cons.1 hpm with rfl | hpm
  · exact part_name hs (by omega) (by omega)
  · obtain ⟨q, hq, hpq⟩ := List.mem_flatten.1 hpm
    exact hp q hq p hpq
theorem plusB_ok : NmOk plusB := ⟨112, [108, 117, 115], rfl, by decide, by decide, by decide⟩
theorem lessB_ok : NmOk lessB := ⟨108, [101, 115, 115], rfl, by decide, by decide, by decide⟩
theorem notB_ok : NmOk notB := ⟨110, [111, 116], rfl, by decide, by decide, by decide⟩
theorem txtA_num (v : Int) : txtA [nuP v] = itoaB v := by
  show wordA (nuP v) ++ ((closeP []).1 ++ textW false [] []) = _
  have : wordA (nuP v) = itoaB v := rfl
  rw [this]
  show itoaB v ++ (⟨#[]⟩ ++ ⟨#[]⟩) = _
  rw [emp_app, app_emp]
theorem itoaB_size {v : Int} (h0 : -999999999 ≤ v) (h1 : v ≤ 999999999) : (itoaB v).size ≤ 21 := by
  have := Go.Lib.itoa_length_le v (by omega) (by omega)
  unfold itoaB; simpa [ByteArray.size] using this
end Rf
namespace Rf.ReckonsL
open Rf
def plusG (n m : Int) : List Part := [nmP plusB 3, nuP n, nuP m, vrP 0]
def lessG (n m : Int) : List Part := [nmP lessB 2, nuP n, nuP m]
def plusT (n m : Int) : ByteArray := ⟨#[112, 108, 117, 115, 40]⟩ ++ itoaB n ++ ⟨#[44]⟩ ++ itoaB m ++ ⟨#[44, 88, 41, 46]⟩
def lessT (n m : Int) : ByteArray := ⟨#[108, 101, 115, 115, 40]⟩ ++ itoaB n ++ ⟨#[44]⟩ ++ itoaB m ++ ⟨#[41, 46]⟩
theorem quest_plus {n m : Int} (hn0 : -999999999 ≤ n) (hn1 : n ≤ 999999999) (hm0 : -999999999 ≤ m) (hm1 : m ≤ 999999999) : questS (plusT n m) = .ok ([plusG n m], [xB]) := by
  have hz : (plusT n m).size ≤ 400 := by
    unfold plusT
    simp only [ByteArray.size_append]
    have := itoaB_size hn0 hn1
    have := itoaB_size hm0 hm1
    have : (⟨#[112, 108, 117, 115, 40]⟩ : ByteArray).size = 5 := rfl
    have : (⟨#[44]⟩ : ByteArray).size = 1 := rfl
    have : (⟨#[44, 88, 41, 46]⟩ : ByteArray).size = 4 := rfl
    omega
  refine read_quest (ν := [xB]) ⟨by simp, by simp, fun W hW => by simp at hW; subst hW; exact vx_ok⟩ (by simp) (by simp) (fun g hg => ?_) ?_ ?_ hz
  · simp at hg; subst hg
    refine goal_comp (d := 1) (qs := [[nuP n], [nuP m], [vrP 0]]) plusB_ok (by simp) (by simp) (fun q hq => ?_) (fun q hq p hp => ?_) rfl
    · simp at hq
      rcases hq with rfl | rfl | rfl <;> exact wf_atom _ rfl 0
    · simp at hq
      rcases hq with rfl | rfl | rfl <;> (simp at hp; subst hp)
      · exact part_num hn0 hn1
      · exact part_num hm0 hm1
      · exact part_var (i := 0) (by simp)
  · exact ⟨0, rfl, 0, rfl, 0, rfl, 1, .inr ⟨rfl, rfl⟩, rfl⟩
  · show plusT n m = txtG (wordN [xB]) (plusG n m) ++ ⟨#[46]⟩
    have h := txtG_comp (wordN [xB]) 1 plusB [[nuP n], [nuP m], [vrP 0]] (by simp) (fun q hq => by
      simp at hq
      rcases hq with rfl | rfl | rfl <;> exact wf_atom _ rfl 0)
    have h2 : txtG (wordN [xB]) (plusG n m) = plusB ++ (⟨#[40]⟩ ++ (txtG (wordN [xB]) [nuP n] ++ (⟨#[44]⟩ ++ (txtG (wordN [xB]) [nuP m] ++ (⟨#[44]⟩ ++ (txtG (wordN [xB]) [vrP 0] ++ ⟨#[41]⟩)))))) := h
    rw [h2, txtG_one _ _ rfl, txtG_one _ _ rfl, txtG_one _ _ rfl]
    have e1 : wordN [xB] (nuP n) = itoaB n := rfl
    have e2 : wordN [xB] (nuP m) = itoaB m := rfl
    have e3 : wordN [xB] (vrP 0) = xB := rfl
    rw [e1, e2, e3]
    refine bs_inj ?_
    unfold plusT
    simp only [bs_app, List.append_assoc]
    rfl
theorem quest_less {n m : Int} (hn0 : -999999999 ≤ n) (hn1 : n ≤ 999999999) (hm0 : -999999999 ≤ m) (hm1 : m ≤ 999999999) : questS (lessT n m) = .ok ([lessG n m], []) := by
  have hz : (lessT n m).size ≤ 400 := by
    unfold lessT
    simp only [ByteArray.size_append]
    have := itoaB_size hn0 hn1
    have := itoaB_size hm0 hm1
    have : (⟨#[108, 101, 115, 115, 40]⟩ : ByteArray).size = 5 := rfl
    have : (⟨#[44]⟩ : ByteArray).size = 1 := rfl
    have : (⟨#[41, 46]⟩ : ByteArray).size = 2 := rfl
    omega
  refine read_quest (ν := []) ⟨by simp, by simp, fun W hW => by simp at hW⟩ (by simp) (by simp) (fun g hg => ?_) ?_ ?_ hz
  · simp at hg; subst hg
    refine goal_comp (d := 1) (qs := [[nuP n], [nuP m]]) lessB_ok (by simp) (by simp) (fun q hq => ?_) (fun q hq p hp => ?_) rfl
    · simp at hq
      rcases hq with rfl | rfl <;> exact wf_atom _ rfl 0
    · simp at hq
      rcases hq with rfl | rfl <;> (simp at hp; subst hp)
      · exact part_num hn0 hn1
      · exact part_num hm0 hm1
  · exact ⟨0, rfl, 0, rfl, 0, rfl, rfl⟩
  · show lessT n m = txtG (wordN []) (lessG n m) ++ ⟨#[46]⟩
    have h := txtG_comp (wordN []) 1 lessB [[nuP n], [nuP m]] (by simp) (fun q hq => by
      simp at hq
      rcases hq with rfl | rfl <;> exact wf_atom _ rfl 0)
    have h2 : txtG (wordN []) (lessG n m) = lessB ++ (⟨#[40]⟩ ++ (txtG (wordN []) [nuP n] ++ (⟨#[44]⟩ ++ (txtG (wordN []) [nuP m] ++ ⟨#[41]⟩)))) := h
    rw [h2, txtG_one _ _ rfl, txtG_one _ _ rfl]
    have e1 : wordN [] (nuP n) = itoaB n := rfl
    have e2 : wordN [] (nuP m) = itoaB m := rfl
    rw [e1, e2]
    refine bs_inj ?_
    unfold lessT
    simp only [bs_app, List.append_assoc]
    rfl
def plusR (n m : Int) : Rep := if n + m < -999999999 ∨ 999999999 < n + m then repK 11 else ⟨1, xB ++ ⟨#[32, 61, 32]⟩ ++ itoaB (n + m), 0, 0⟩
theorem ask_plus {n m : Int} (hn0 : -999999999 ≤ n) (hn1 : n ≤ 999999999) (hm0 : -999999999 ≤ m) (hm1 : m ≤ 999999999) (q : Option Qs) : (askS ⟨2, [], q⟩ (plusT n m)).1 = plusR n m ∧ ∃ q', (askS ⟨2, [], q⟩ (plusT n m)).2 = ⟨2, [], q'⟩ := by
  unfold askS
  rw [quest_plus hn0 hn1 hm0 hm1]
  simp only []
  have hb : beginN [xB] = [xB] := by decide
  have hf : firstS ⟨2, [], q⟩ [plusG n m] [xB] = playN [] 2 (0, ⟨⟨[plusG n m], [[vrP 0]], 1⟩, []⟩) := by
    unfold firstS
    rw [if_neg (by show ¬ 200 < 4 + (1 + 0); omega)]
    rfl
  have ht : takeP [] ⟨⟨[plusG n m], [[vrP 0]], 1⟩, []⟩ = plusP ⟨⟨[plusG n m], [[vrP 0]], 1⟩, []⟩ (plusG n m) := by
    unfold takeP
    rw [if_pos (by rfl)]
    unfold builtP
    have e : (topP (goalP (⟨⟨[plusG n m], [[vrP 0]], 1⟩, []⟩ : Cf).now)) = nmP plusB 3 := rfl
    rw [e]
    rw [if_neg (by decide), if_neg (by decide), if_neg (by decide), if_neg (by decide), if_pos (by rfl)]
    rfl
  have hk : numbersK (plusG n m) = 0 := rfl
  have h0 : num0 (plusG n m) = n := rfl
  have h1 : num1 (plusG n m) = m := rfl
  rw [hb, hf, play_take (by simp), ht]
  unfold plusP plusR
  rw [if_pos hk, h0, h1]
  split
  · rw [play_end (by decide) (by decide)]
    exact ⟨rfl, _, rfl⟩
  · have ha : argT (plusG n m) 2 = [vrP 0] := rfl
    have hs : solveE ⟨[nuP (n + m)], [vrP 0], [], [], [[vrP 0]]⟩ = (0, ⟨[], [], [], [], [[nuP (n + m)]]⟩) := by
      rw [solve_second (p := nuP (n + m)) (q := vrP 0) (f := []) (s := []) (x := [nuP (n + m)]) (r := []) (by simp [nuP, vrP]) (by simp [nuP]) rfl rfl (lead_one _ _ rfl) rfl]
      · exact solve_nil _ _ _ _
      · show 0 + 0 + 0 + 0 + (1 + 0) ≤ 200; omega
    have hE : equalP ⟨⟨[plusG n m], [[vrP 0]], 1⟩, []⟩ (numT (n + m)) (argT (plusG n m) 2) = (0, ⟨⟨[], [[nuP (n + m)]], 1⟩, []⟩) := by
      unfold equalP
      rw [ha]
      have e : equalE ⟨⟨[plusG n m], [[vrP 0]], 1⟩, []⟩ (numT (n + m)) [vrP 0] = ⟨[nuP (n + m)], [vrP 0], [], [], [[vrP 0]]⟩ := rfl
      rw [e, hs]
      rfl
    rw [hE, play_answer' rfl]
    unfold replyS
    rw [if_pos rfl]
    refine ⟨?_, _, rfl⟩
    show (⟨1, textQ [xB] [[nuP (n + m)]], 0, 0⟩ : Rep) = _
    have ht2 : textQ [xB] [[nuP (n + m)]] = xB ++ ⟨#[32, 61, 32]⟩ ++ itoaB (n + m) := by
      unfold textQ
      rw [if_neg (by simp)]
      show lineQ (xB, [nuP (n + m)]) ++ (if ([] : List (ByteArray × List Part)) = [] then ⟨#[]⟩ else _) = _
      rw [if_pos rfl, app_emp]
      unfold lineQ
      rw [txtA_num]
    rw [ht2]
def lessR (n m : Int) : Rep := if n < m then ⟨1, yesB, 0, 0⟩ else repK 2
theorem ask_less {n m : Int} (hn0 : -999999999 ≤ n) (hn1 : n ≤ 999999999) (hm0 : -999999999 ≤ m) (hm1 : m ≤ 999999999) (q : Option Qs) : (askS ⟨2, [], q⟩ (lessT n m)).1 = lessR n m := by
  unfold askS
  rw [quest_less hn0 hn1 hm0 hm1]
  simp only []
  have hb : beginN [] = [] := rfl
  have hf : firstS ⟨2, [], q⟩ [lessG n m] [] = playN [] 2 (0, ⟨⟨[lessG n m], [], 0⟩, []⟩) := by
    unfold firstS
    rw [if_neg (by show ¬ 200 < 3 + 0; omega)]
    rfl
  have ht : takeP [] ⟨⟨[lessG n m], [], 0⟩, []⟩ = lessP ⟨⟨[lessG n m], [], 0⟩, []⟩ (lessG n m) := by
    unfold takeP
    rw [if_pos (by rfl)]
    unfold builtP
    have e : (topP (goalP (⟨⟨[lessG n m], [], 0⟩, []⟩ : Cf).now)) = nmP lessB 2 := rfl
    rw [e]
    rw [if_neg (by decide), if_neg (by decide), if_neg (by decide), if_pos (by rfl)]
    rfl
  have hk : numbersK (lessG n m) = 0 := rfl
  have h0 : num0 (lessG n m) = n := rfl
  have h1 : num1 (lessG n m) = m := rfl
  rw [hb, hf, play_take (by simp), ht]
  unfold lessP lessR
  rw [if_pos hk, h0, h1]
  split
  · show (replyS _ [] (playN [] 1 (0, ⟨⟨[], [], 0⟩, []⟩))).1 = _
    rw [play_answer' rfl]
    rfl
  · rw [play_fail, again_none rfl, play_end (by decide) (by decide)]
    rfl
end Rf.ReckonsL
/- Plain functions: not asked of facts (promise P9). -/
namespace Rf
theorem take_built {cs : List Cl} {cf : Cf} (h : isBuilt (goalP cf.now) = true) : takeP cs cf = builtP cf (goalP cf.now) := by unfold takeP; rw [if_pos h]
/-- A not that is taken. -/
theorem take_not {cs : List Cl} {g : List Part} {gs ts : List (List Part)} {f : Int} {chs : List Ch} (h : notK (argT g 0) = 0) (hg : topP g = nmP notB 1) (h20 : chs.length < 20) :
    takeP cs ⟨⟨g :: gs, ts, f⟩, chs⟩ = (0, ⟨⟨[argT g 0, cutT chs.length, failT], ts, f⟩, ⟨⟨gs, ts, f⟩, []⟩ :: chs⟩) := by
  have hgp : goalP (⟨g :: gs, ts, f⟩ : St) = g := rfl
  rw [take_built (by show isBuilt g = true; unfold isBuilt; rw [hg]; decide)]
  show builtP _ g = _
  unfold builtP
  rw [hg, if_neg (by decide), if_neg (by decide), if_neg (by decide), if_neg (by decide), if_neg (by decide), if_pos (by rfl)]
  unfold notP
  rw [if_pos h, if_neg (by simp only []; omega)]
  rfl
theorem take_cut {cs : List Cl} {h : Int} {gs ts : List (List Part)} {f : Int} {chs : List Ch} : takeP cs ⟨⟨cutT h :: gs, ts, f⟩, chs⟩ = (0, ⟨⟨gs, ts, f⟩, dropC chs h⟩) := by
  rw [take_built (by rfl)]
  show builtP _ (cutT h) = _
  unfold builtP
  rw [if_pos (by rfl)]
  rfl
theorem take_fail {cs : List Cl} {gs ts : List (List Part)} {f : Int} {chs : List Ch} : takeP cs ⟨⟨failT :: gs, ts, f⟩, chs⟩ = (-1, ⟨⟨failT :: gs, ts, f⟩, chs⟩) := by
  rw [take_built (by show isBuilt failT = true; decide)]
  show builtP _ failT = _
  unfold builtP
  rw [if_neg (by decide), if_neg (by decide), if_neg (by decide), if_neg (by decide), if_neg (by decide), if_neg (by decide)]
theorem again_not {cs : List Cl} {now s : St} {low : List Ch} : againP cs ⟨now, ⟨s, []⟩ :: low⟩ = (0, ⟨s, low⟩) := rfl
end Rf
namespace Rf.AbsentL
open Rf
def lastB : ByteArray := ⟨#[108, 97, 115, 116]⟩
def noneB : ByteArray := ⟨#[110, 111, 110, 101]⟩
def cls (a : List ByteArray) : List Cl := (a ++ [lastB]).map (fact1 pB)
/-- The goal p(c), asked of the facts. -/
theorem match_c (l : List ByteArray) (c : ByteArray) (gs ts : List (List Part)) (f : Int) (i : Nat) : (c ∈ l → ∃ k ks, matchN ⟨[nmP pB 1, nmP c 0] :: gs, ts, f⟩ i (l.map (fact1 pB)) = (i + k) :: ks ∧ l[k]? = some c) ∧ (c ∉ l → matchN ⟨[nmP pB 1, nmP c 0] :: gs, ts, f⟩ i (l.map (fact1 pB)) = []) := by
  have hm : ∀ d, matchB ⟨[nmP pB 1, nmP c 0] :: gs, ts, f⟩ (fact1 pB d) = decide (d = c) := by
    intro d
    unfold matchB
    have : hasPred ⟨[nmP pB 1, nmP c 0] :: gs, ts, f⟩ (fact1 pB d) = true := samePart_iff.2 rfl
    rw [this]
    by_cases h : d = c
    · rw [(with_fact_name pB d c gs ts f 0).1 h]; simp [h]
    · rw [(with_fact_name pB d c gs ts f 0).2 h]; simp [h]
  induction l generalizing i with
  | nil => exact ⟨(fun h => by cases h), fun _ => rfl⟩
  | cons d l ih =>
    rw [List.map_cons, matchN, hm]
    by_cases h : d = c
    · subst h
      rw [if_pos (by simp)]
      exact ⟨fun _ => ⟨0, matchN ⟨[nmP pB 1, nmP d 0] :: gs, ts, f⟩ (i + 1) (l.map (fact1 pB)), rfl, rfl⟩, fun h => absurd (by simp) h⟩
    · rw [if_neg (by simp [h])]
      constructor
      · intro hc
        have hc' : c ∈ l := by
          rcases List.mem_cons.1 hc with e | e
          · exact absurd e.symm h
          · exact e
        obtain ⟨k, ks, e1, e2⟩ := (ih (i + 1)).1 hc'
        exact ⟨k + 1, ks, by rw [e1]; simp; omega, by simpa using e2⟩
      · intro hc
        rw [(ih (i + 1)).2 (fun e => hc (List.mem_cons_of_mem _ e))]
        rfl
theorem known (a : List ByteArray) (x : Part) (gs ts : List (List Part)) (f : Int) : knownP ⟨[nmP pB 1, x] :: gs, ts, f⟩ (cls a) = true := by
  unfold knownP cls
  rw [List.map_append, List.any_append]
  have : hasPred ⟨[nmP pB 1, x] :: gs, ts, f⟩ (fact1 pB lastB) = true := samePart_iff.2 rfl
  simp [this]
theorem built (x : Part) : isBuilt [nmP pB 1, x] = false := by
  show ((3 : Int) == 4 || ((3 : Int) == 3 && builtInB pB 1)) = false
  decide
theorem take_p (a : List ByteArray) (x : Part) (gs ts : List (List Part)) (f : Int) (chs : List Ch) : takeP (cls a) ⟨⟨[nmP pB 1, x] :: gs, ts, f⟩, chs⟩ = chooseP (cls a) ⟨⟨[nmP pB 1, x] :: gs, ts, f⟩, chs⟩ (matchN ⟨[nmP pB 1, x] :: gs, ts, f⟩ 0 (cls a)) := by
  unfold takeP
  rw [if_neg (by rw [show isBuilt (goalP (⟨⟨[nmP pB 1, x] :: gs, ts, f⟩, chs⟩ : Cf).now) = false from built x]; simp), if_pos (known a x gs ts f)]
theorem cls_at {a : List ByteArray} {k : Nat} {c : ByteArray} (h : (a ++ [lastB])[k]? = some c) : (cls a).getD k noCl = fact1 pB c := by
  unfold cls
  rw [List.getD_eq_getElem?_getD, List.getElem?_map, h]; rfl
def notG (c : ByteArray) : List Part := [nmP notB 1, nmP pB 1, nmP c 0]
/-- The goal not(p(c)) with room for it: it is met just if c is none of the facts. -/
theorem not_start (a : List ByteArray) (c : ByteArray) (gs ts : List (List Part)) (f : Int) (n : Nat) : playN (cls a) (n + 4) (0, ⟨⟨notG c :: gs, ts, f⟩, []⟩) = playN (cls a) (n + 2) (chooseP (cls a) ⟨⟨[nmP pB 1, nmP c 0] :: [cutT 0, failT], ts, f⟩, [⟨⟨gs, ts, f⟩, []⟩]⟩ (matchN ⟨[nmP pB 1, nmP c 0] :: [cutT 0, failT], ts, f⟩ 0 ((a ++ [lastB]).map (fact1 pB)))) := by
  rw [play_take (by simp), take_not (by rfl) (by rfl) (by simp), play_take (by simp)]
  have harg : argT (notG c) 0 = [nmP pB 1, nmP c 0] := rfl
  rw [harg, take_p]
  rfl
theorem not_in {a : List ByteArray} {c : ByteArray} (gs ts : List (List Part)) (f : Int) (n : Nat) (hc : c ∈ a ++ [lastB]) : playN (cls a) (n + 4) (0, ⟨⟨notG c :: gs, ts, f⟩, []⟩) = (2, ⟨⟨[failT], ts, f⟩, []⟩) := by
  rw [not_start]
  obtain ⟨k, ks, e1, e2⟩ := (match_c (a ++ [lastB]) c [cutT 0, failT] ts f 0).1 hc
  rw [e1, Nat.zero_add]
  have hu : ∃ chs, chooseP (cls a) ⟨⟨[nmP pB 1, nmP c 0] :: [cutT 0, failT], ts, f⟩, [⟨⟨gs, ts, f⟩, []⟩]⟩ (k :: ks) = (0, ⟨⟨[cutT 0, failT], ts, f⟩, chs⟩) := by
    simp only [chooseP]
    rw [if_neg (by simp), cls_at e2]
    unfold useP
    rw [(with_fact_name pB c c [cutT 0, failT] ts f _).1 rfl]
    exact ⟨_, rfl⟩
  obtain ⟨chs, hu⟩ := hu
  rw [hu, play_take (by simp), take_cut, play_take (by simp), take_fail, play_fail]
  have hd : dropC chs 0 = [] := by unfold dropC; simp
  rw [hd, again_none rfl, play_end (by decide) (by decide)]
theorem not_out {a : List ByteArray} {c : ByteArray} (gs ts : List (List Part)) (f : Int) (n : Nat) (hc : c ∉ a ++ [lastB]) : playN (cls a) (n + 4) (0, ⟨⟨notG c :: gs, ts, f⟩, []⟩) = playN (cls a) (n + 2) (0, ⟨⟨gs, ts, f⟩, []⟩) := by
  rw [not_start, (match_c (a ++ [lastB]) c [cutT 0, failT] ts f 0).2 hc]
  show playN _ (n + 2) (-1, _) = _
  rw [play_fail]
  rfl
theorem notG_ok {ν : List ByteArray} {c : ByteArray} (hc : NmOk c) : GoalOk ν (notG c) := by
  refine goal_comp (d := 2) (qs := [[nmP pB 1, nmP c 0]]) notB_ok (by simp) (by simp) (fun q hq => ?_) (fun q hq p hp => ?_) rfl
  · simp at hq; subst hq
    exact .inr ⟨pB, [[nmP c 0]], by simp, fun q hq => by simp at hq; subst hq; exact wf_atom _ rfl 0, rfl⟩
  · simp at hq; subst hq
    simp at hp
    rcases hp with rfl | rfl
    · exact part_name pB_ok (by decide) (by decide)
    · exact part_name hc (by decide) (by decide)
theorem notG_txt (ν : List ByteArray) (c : ByteArray) : txtG (wordN ν) (notG c) = ⟨#[110, 111, 116, 40, 112, 40]⟩ ++ c ++ ⟨#[41, 41]⟩ := by
  have h := txtG_comp (wordN ν) 2 notB [[nmP pB 1, nmP c 0]] (by simp) (fun q hq => by
    simp at hq; subst hq
    exact .inr ⟨pB, [[nmP c 0]], by simp, fun q hq => by simp at hq; subst hq; exact wf_atom _ rfl 0, rfl⟩)
  have h2 := txtG_comp (wordN ν) 1 pB [[nmP c 0]] (by simp) (fun q hq => by simp at hq; subst hq; exact wf_atom _ rfl 0)
  have e1 : txtG (wordN ν) (notG c) = notB ++ (⟨#[40]⟩ ++ (txtG (wordN ν) [nmP pB 1, nmP c 0] ++ ⟨#[41]⟩)) := h
  have e2 : txtG (wordN ν) [nmP pB 1, nmP c 0] = pB ++ (⟨#[40]⟩ ++ (txtG (wordN ν) [nmP c 0] ++ ⟨#[41]⟩)) := h2
  rw [e1, e2, txtG_one _ _ rfl]
  have e3 : wordN ν (nmP c 0) = c := rfl
  rw [e3]
  refine bs_inj ?_
  simp only [bs_app, List.append_assoc]
  rfl
def askT (c : ByteArray) : ByteArray := ⟨#[110, 111, 116, 40, 112, 40]⟩ ++ c ++ ⟨#[41, 41, 46]⟩
theorem quest_c {c : ByteArray} (hc : NmOk c) : questS (askT c) = .ok ([notG c], []) := by
  have hsz : c.size ≤ 12 := by obtain ⟨x, W, e, _, _, hl⟩ := hc; rw [← bs_len, e]; exact hl
  refine read_quest (ν := []) (gs := [notG c]) ⟨by simp, by simp, fun W hW => by simp at hW⟩ (by simp) (by simp) (fun g hg => by simp at hg; subst hg; exact notG_ok hc) ⟨0, rfl, 0, rfl, 0, rfl, rfl⟩ ?_ ?_
  · show askT c = txtG (wordN []) (notG c) ++ ⟨#[46]⟩
    rw [notG_txt]
    refine bs_inj ?_
    unfold askT
    simp only [bs_app, List.append_assoc]
    rfl
  · unfold askT
    simp only [ByteArray.size_append]
    have : (⟨#[110, 111, 116, 40, 112, 40]⟩ : ByteArray).size = 6 := rfl
    have : (⟨#[41, 41, 46]⟩ : ByteArray).size = 3 := rfl
    omega
theorem first_c (a : List ByteArray) (c : ByteArray) (q : Option Qs) : firstS ⟨9, cls a, q⟩ [notG c] [] = playN (cls a) (5 + 4) (0, ⟨⟨notG c :: [], [], 0⟩, []⟩) := by
  unfold firstS
  rw [if_neg (by show ¬ 200 < 3 + 0; omega)]
  rfl
theorem ask_in {a : List ByteArray} {c : ByteArray} (hc : NmOk c) (hin : c ∈ a ++ [lastB]) (q : Option Qs) : askS ⟨9, cls a, q⟩ (askT c) = (repK 2, ⟨9, cls a, none⟩) := by
  unfold askS
  rw [quest_c hc]
  simp only []
  rw [first_c, not_in [] [] 0 5 hin]
  rfl
theorem ask_out {a : List ByteArray} {c : ByteArray} (hc : NmOk c) (hout : c ∉ a ++ [lastB]) (q : Option Qs) : askS ⟨9, cls a, q⟩ (askT c) = (⟨1, yesB, 0, 0⟩, ⟨9, cls a, some ⟨[], []⟩⟩) := by
  unfold askS
  rw [quest_c hc]
  simp only []
  rw [first_c, not_out [] [] 0 5 hout, play_answer' rfl]
  rfl
def freeT : ByteArray := ⟨#[110, 111, 116, 40, 110, 111, 116, 40, 112, 40, 88, 41, 41, 41, 44, 110, 111, 116, 40, 112, 40, 110, 111, 110, 101, 41, 41, 46]⟩
def notnotG : List Part := [nmP notB 1, nmP notB 1, nmP pB 1, vrP 0]
theorem noneB_ok : NmOk noneB := ⟨110, [111, 110, 101], rfl, by decide, by decide, by decide⟩
theorem quest_free : questS freeT = .ok ([notnotG, notG noneB], [xB]) := by
  refine read_quest (ν := [xB]) (gs := [notnotG, notG noneB]) ⟨by simp, by simp, fun W hW => by simp at hW; subst hW; exact vx_ok⟩ (by simp) (by simp) (fun g hg => ?_) ⟨0, rfl, 0, rfl, 0, rfl, 1, .inr ⟨rfl, rfl⟩, 1, rfl, 1, rfl, 1, rfl, rfl⟩ rfl (by decide)
  simp at hg
  rcases hg with rfl | rfl
  · have w1 : Wf 2 [nmP pB 1, vrP 0] := .inr ⟨pB, [[vrP 0]], by simp, fun q hq => by simp at hq; subst hq; exact wf_atom _ rfl 0, rfl⟩
    have w2 : Wf 3 [nmP notB 1, nmP pB 1, vrP 0] := .inr ⟨notB, [[nmP pB 1, vrP 0]], by simp, fun q hq => by simp at hq; subst hq; exact w1, rfl⟩
    refine goal_comp (d := 3) (qs := [[nmP notB 1, nmP pB 1, vrP 0]]) notB_ok (by simp) (by simp) (fun q hq => by simp at hq; subst hq; exact w2) (fun q hq p hp => ?_) rfl
    simp at hq; subst hq
    simp at hp
    rcases hp with rfl | rfl | rfl
    · exact part_name notB_ok (by decide) (by decide)
    · exact part_name pB_ok (by decide) (by decide)
    · exact part_var (i := 0) (by simp)
  · exact notG_ok noneB_ok
theorem ask_free {a : List ByteArray} (hn : noneB ∉ a) (q : Option Qs) : (askS ⟨9, cls a, q⟩ freeT).1 = ⟨1, xB ++ ⟨#[32, 61, 32]⟩ ++ ⟨#[95, 49]⟩, 0, 0⟩ := by
  unfold askS
  rw [quest_free]
  simp only []
  have hb : beginN [xB] = [xB] := by decide
  have hf : firstS ⟨9, cls a, q⟩ [notnotG, notG noneB] [xB] = playN (cls a) 9 (0, ⟨⟨notnotG :: [notG noneB], [[vrP 0]], 1⟩, []⟩) := by
    unfold firstS
    rw [if_neg (by decide)]
    rfl
  rw [hb, hf, play_take (by simp), take_not (by rfl) (by rfl) (by simp), play_take (by simp)]
  have h1 : argT notnotG 0 = [nmP notB 1, nmP pB 1, vrP 0] := rfl
  rw [h1, take_not (by rfl) (by rfl) (by simp), play_take (by simp)]
  have h2 : argT [nmP notB 1, nmP pB 1, vrP 0] 0 = [nmP pB 1, vrP 0] := rfl
  rw [h2, take_p]
  have hm : ∃ ks, matchN (⟨[nmP pB 1, vrP 0] :: [cutT 1, failT], [[vrP 0]], 1⟩ : St) 0 (cls a) = 0 :: ks := by
    have hall := matchN_all (⟨[nmP pB 1, vrP 0] :: [cutT 1, failT], [[vrP 0]], 1⟩ : St) 0 (cls a) (fun c hc => by
      unfold cls at hc
      obtain ⟨d, _, rfl⟩ := List.mem_map.1 hc
      unfold matchB
      have : hasPred (⟨[nmP pB 1, vrP 0] :: [cutT 1, failT], [[vrP 0]], 1⟩ : St) (fact1 pB d) = true := samePart_iff.2 rfl
      rw [this, with_fact_var pB d 0 [cutT 1, failT] [[vrP 0]] 1 0 (by simp [sizeT, putV, isV, vrP, cutT, failT])]
      rfl)
    have hl : (cls a).length = a.length + 1 := by unfold cls; simp
    rw [hl, List.range'_succ] at hall
    exact ⟨_, hall⟩
  obtain ⟨ks, hm⟩ := hm
  obtain ⟨d, hd⟩ : ∃ d, (a ++ [lastB])[0]? = some d := ⟨(a ++ [lastB])[0]'(by simp), List.getElem?_eq_getElem _⟩
  show (replyS _ _ (playN _ 6 (chooseP _ ⟨⟨[nmP pB 1, vrP 0] :: [cutT 1, failT], [[vrP 0]], 1⟩, [⟨⟨[cutT 0, failT], [[vrP 0]], 1⟩, []⟩, ⟨⟨[notG noneB], [[vrP 0]], 1⟩, []⟩]⟩ (matchN (⟨[nmP pB 1, vrP 0] :: [cutT 1, failT], [[vrP 0]], 1⟩ : St) 0 (cls a))))).1 = _
  rw [hm]
  have hu : ∃ ch, chooseP (cls a) ⟨⟨[nmP pB 1, vrP 0] :: [cutT 1, failT], [[vrP 0]], 1⟩, [⟨⟨[cutT 0, failT], [[vrP 0]], 1⟩, []⟩, ⟨⟨[notG noneB], [[vrP 0]], 1⟩, []⟩]⟩ (0 :: ks) = (0, ⟨⟨[cutT 1, failT], [[nmP d 0]], 1⟩, ch⟩) ∧ dropC ch 1 = [⟨⟨[notG noneB], [[vrP 0]], 1⟩, []⟩] := by
    simp only [chooseP]
    rw [if_neg (by simp), cls_at hd]
    unfold useP
    rw [with_fact_var pB d 0 [cutT 1, failT] [[vrP 0]] 1 _ (by simp [sizeT, putV, isV, vrP, cutT, failT])]
    refine ⟨_, rfl, ?_⟩
    unfold putCh dropC
    split <;> rfl
  obtain ⟨ch, hu, hdrop⟩ := hu
  rw [hu, play_take (by simp), take_cut, hdrop, play_take (by simp), take_fail, play_fail, again_not]
  have hni : noneB ∉ a ++ [lastB] := by
    intro e
    rcases List.mem_append.1 e with e | e
    · exact hn e
    · simp at e; exact absurd e (by decide)
  show (replyS _ _ (playN _ (0 + 4) _)).1 = _
  rw [not_out [] [[vrP 0]] 1 0 hni, play_answer' rfl]
  unfold replyS
  rw [if_pos rfl]
  have : textQ [xB] [[vrP 0]] = xB ++ ⟨#[32, 61, 32]⟩ ++ ⟨#[95, 49]⟩ := by
    unfold textQ
    rw [if_neg (by simp)]
    show lineQ (xB, [vrP 0]) ++ (if ([] : List (ByteArray × List Part)) = [] then ⟨#[]⟩ else _) = _
    rw [if_pos rfl, app_emp]
    unfold lineQ
    have e : txtA [vrP 0] = ⟨#[95]⟩ ++ itoaB 1 ++ (⟨#[]⟩ ++ ⟨#[]⟩) := rfl
    have e2 : itoaB 1 = ⟨#[49]⟩ := by
      unfold itoaB Go.Lib.itoa
      rw [if_neg (by decide), Go.Lib.decDigits, dif_pos (by decide)]
      rfl
    rw [e, e2]
    rfl
  show (⟨1, textQ [xB] [[vrP 0]], 0, 0⟩ : Rep) = _
  rw [this]
end Rf.AbsentL
/- Plain functions: behind a cut (promise P9). -/
namespace Rf.FirstL
open Rf
def fB : ByteArray := ⟨#[102]⟩
def zB : ByteArray := ⟨#[122]⟩
def yB : ByteArray := ⟨#[89]⟩
theorem fB_ok : NmOk fB := ⟨102, [], rfl, by decide, by decide, by decide⟩
theorem zB_ok : NmOk zB := ⟨122, [], rfl, by decide, by decide, by decide⟩
theorem vy_ok : VrOk yB := ⟨⟨89, [], rfl, by decide, by decide, by decide, by decide⟩, by decide⟩
/-- f(X):-p(X),!. -/
def F1 : Cl := ⟨[nmP fB 1, vrP 0], [[nmP pB 1, vrP 0], cutT 0], 1⟩
def cls (a b : List ByteArray) : List Cl := a.map (fact1 pB) ++ (b.map (fact1 qB) ++ [F1, fact1 fB zB])
def S0 : St := ⟨[[nmP fB 1, vrP 0], [nmP qB 1, vrP 1]], [[vrP 0], [vrP 1]], 2⟩
def S1 : St := ⟨[[nmP pB 1, vrP 2], cutT 0, [nmP qB 1, vrP 1]], [[vrP 2], [vrP 1]], 3⟩
/-- Behind the cut: what is left is q(Y); v is which variable Y is, f how many there are. -/
def S3 (v f : Int) (c : ByteArray) : St := ⟨[[nmP qB 1, vrP v]], [[nmP c 0], [vrP v]], f⟩
theorem with_F1 : withS S0 F1 0 = (0, S1) := by
  have hE : withE S0 F1 0 = ⟨[nmP fB 1, vrP 0], [nmP fB 1, vrP 2], [[nmP pB 1, vrP 2], cutT 0], [[nmP qB 1, vrP 1]], [[vrP 0], [vrP 1]]⟩ := rfl
  have hs : solveE ⟨[nmP fB 1, vrP 0], [nmP fB 1, vrP 2], [[nmP pB 1, vrP 2], cutT 0], [[nmP qB 1, vrP 1]], [[vrP 0], [vrP 1]]⟩ = (0, ⟨[], [], [[nmP pB 1, vrP 2], cutT 0], [[nmP qB 1, vrP 1]], [[vrP 2], [vrP 1]]⟩) := by
    rw [solve_same, solve_first (p := vrP 0) (q := vrP 2) (f := []) (s := []) (x := [vrP 2]) (r := []) (by simp [vrP]) rfl rfl (lead_one _ _ rfl) rfl]
    · exact solve_nil _ _ _ _
    · decide
  unfold withS
  rw [hE, hs, if_pos rfl]
  rfl
theorem with_F2 (h : Int) : (withS S0 (fact1 fB zB) h).1 = 0 := by
  rw [show S0 = ⟨[nmP fB 1, vrP 0] :: [[nmP qB 1, vrP 1]], [[vrP 0], [vrP 1]], 2⟩ from rfl, with_fact_var fB zB 0 _ _ 2 h (by decide)]
theorem with_p (c : ByteArray) (h : Int) : withS S1 (fact1 pB c) h = (0, ⟨[cutT 0, [nmP qB 1, vrP 1]], [[nmP c 0], [vrP 1]], 3⟩) := by
  rw [show S1 = ⟨[nmP pB 1, vrP 2] :: [cutT 0, [nmP qB 1, vrP 1]], [[vrP 2], [vrP 1]], 3⟩ from rfl, with_fact_var pB c 2 _ _ 3 h (by simp [sizeT, putV, isV, vrP, cutT, nmP])]
  rfl
theorem with_q (v f : Int) (c d : ByteArray) (h : Int) : withS (S3 v f c) (fact1 qB d) h = (0, ⟨[], [[nmP c 0], [nmP d 0]], f⟩) := by
  rw [show S3 v f c = ⟨[nmP qB 1, vrP v] :: [], [[nmP c 0], [vrP v]], f⟩ from rfl, with_fact_var qB d v _ _ f h (by simp [sizeT, putV, isV, vrP, nmP])]
  simp [putV, isV, vrP, nmP]
theorem no_p {S : St} {x : Part} (h : topP (goalP S) = x) (hx : x ≠ nmP pB 1) (a : List ByteArray) : ∀ c ∈ a.map (fact1 pB), hasPred S c = false := fun c hc => by
  obtain ⟨d, _, rfl⟩ := List.mem_map.1 hc
  refine samePred_ne ?_
  rw [h]
  exact fun e => hx e.symm
theorem no_q {S : St} {x : Part} (h : topP (goalP S) = x) (hx : x ≠ nmP qB 1) (a : List ByteArray) : ∀ c ∈ a.map (fact1 qB), hasPred S c = false := fun c hc => by
  obtain ⟨d, _, rfl⟩ := List.mem_map.1 hc
  refine samePred_ne ?_
  rw [h]
  exact fun e => hx e.symm
theorem match_no {S : St} {l : List Cl} (h : ∀ c ∈ l, hasPred S c = false) : ∀ c ∈ l, matchB S c = false := fun c hc => by unfold matchB; rw [h c hc]; rfl
theorem match_S0 (a b : List ByteArray) : matchN S0 0 (cls a b) = [a.length + b.length, a.length + b.length + 1] := by
  unfold cls
  rw [matchN_app, matchN_none S0 _ _ (match_no (no_p (x := nmP fB 1) rfl (by simp [nmP]; decide) a)), matchN_app, matchN_none S0 _ _ (match_no (no_q (x := nmP fB 1) rfl (by simp [nmP]; decide) b))]
  have h1 : matchB S0 F1 = true := by
    unfold matchB; rw [with_F1]; decide
  have h2 : matchB S0 (fact1 fB zB) = true := by
    unfold matchB; rw [with_F2]; decide
  rw [matchN, if_pos h1, matchN, if_pos h2]
  simp [matchN]
theorem match_S1 (a b : List ByteArray) : matchN S1 0 (cls a b) = List.range' 0 a.length := by
  unfold cls
  have hf : ∀ c ∈ [F1, fact1 fB zB], hasPred S1 c = false := fun c hc => by
    simp at hc
    rcases hc with rfl | rfl
    · decide
    · decide
  rw [matchN_app, matchN_app, matchN_none S1 _ _ (match_no (no_q (x := nmP pB 1) rfl (by simp [nmP]; decide) b)), matchN_none S1 _ _ (match_no hf), matchN_all S1 0 (a.map (fact1 pB)) (fun c hc => by
    obtain ⟨d, _, rfl⟩ := List.mem_map.1 hc
    unfold matchB
    rw [with_p]
    have : hasPred S1 (fact1 pB d) = true := samePart_iff.2 rfl
    rw [this]; rfl), List.length_map]
  simp
theorem match_S3 (v f : Int) (c : ByteArray) (a b : List ByteArray) : matchN (S3 v f c) 0 (cls a b) = List.range' a.length b.length := by
  unfold cls
  have hf : ∀ d ∈ [F1, fact1 fB zB], hasPred (S3 v f c) d = false := fun d hd => by
    simp at hd
    rcases hd with rfl | rfl
    · exact samePred_ne (show nmP fB 1 ≠ nmP qB 1 by simp [nmP]; decide)
    · exact samePred_ne (show nmP fB 1 ≠ nmP qB 1 by simp [nmP]; decide)
  rw [matchN_app, matchN_none (S3 v f c) _ _ (match_no (no_p (x := nmP qB 1) rfl (by simp [nmP]; decide) a)), matchN_app, matchN_none (S3 v f c) _ _ (match_no hf), matchN_all (S3 v f c) _ (b.map (fact1 qB)) (fun d hd => by
    obtain ⟨x, _, rfl⟩ := List.mem_map.1 hd
    unfold matchB
    rw [with_q]
    have : hasPred (S3 v f c) (fact1 qB x) = true := samePart_iff.2 rfl
    rw [this]; rfl), List.length_map, List.length_map]
  simp
def qch (v f : Int) (c : ByteArray) (n m i : Nat) : List Ch := if i < m then [⟨S3 v f c, List.range' (n + i) (m - i)⟩] else []
theorem ren_qch (v f : Int) (c : ByteArray) (n m i : Nat) : (qch v f c n m i).map renC = qch 0 1 c n m i := by
  unfold qch
  split
  · have : renS (S3 v f c) = S3 0 1 c := by
      show (⟨(renTs [] [[nmP qB 1, vrP v], [nmP c 0], [vrP v]]).1.take 1, (renTs [] [[nmP qB 1, vrP v], [nmP c 0], [vrP v]]).1.drop 1, ((renTs [] [[nmP qB 1, vrP v], [nmP c 0], [vrP v]]).2.length : Nat)⟩ : St) = _
      have e : renTs [] [[nmP qB 1, vrP v], [nmP c 0], [vrP v]] = ([[nmP qB 1, vrP 0], [nmP c 0], [vrP 0]], [v]) := by
        simp [renTs, renT, renP, stepV, numV, nmP, vrP]
      rw [e]; rfl
    simp [renC, this]
  · rfl
def ans (c d : ByteArray) : Rep := ⟨1, xB ++ ⟨#[32, 61, 32]⟩ ++ c ++ (⟨#[44, 32]⟩ ++ (yB ++ ⟨#[32, 61, 32]⟩ ++ d)), 0, 0⟩
def st (a b : List ByteArray) (c : ByteArray) (i : Nat) : Se := ⟨20, cls a b, if i < b.length then some ⟨[xB, yB], qch 0 1 c a.length b.length (i + 1)⟩ else none⟩
def rep (b : List ByteArray) (c : ByteArray) (i : Nat) : Rep := match b[i]? with
  | some d => ans c d
  | none => repK 2
theorem text_two (c d : ByteArray) : textQ [xB, yB] [[nmP c 0], [nmP d 0]] = xB ++ ⟨#[32, 61, 32]⟩ ++ c ++ (⟨#[44, 32]⟩ ++ (yB ++ ⟨#[32, 61, 32]⟩ ++ d)) := by
  unfold textQ
  rw [if_neg (by simp)]
  show joinQ [(xB, [nmP c 0]), (yB, [nmP d 0])] = _
  rw [joinQ, if_neg (by simp), joinQ, if_pos rfl, app_emp]
  unfold lineQ
  rw [txtA_atom, txtA_atom]
theorem cls_q (a b : List ByteArray) (i : Nat) (d : ByteArray) (h : b[i]? = some d) : (cls a b).getD (a.length + i) noCl = fact1 qB d := by
  have hi := (List.getElem?_eq_some_iff.1 h).1
  unfold cls
  rw [List.getD_eq_getElem?_getD, List.getElem?_append_right (by rw [List.length_map]; omega), List.length_map, show a.length + i - a.length = i by omega, List.getElem?_append_left (by rw [List.length_map]; exact hi), List.getElem?_map, h]; rfl
theorem use_q (a b : List ByteArray) (v f : Int) (c d : ByteArray) (i : Nat) (h : b[i]? = some d) (now : St) (k : Int) : useP ⟨now, putCh [] (S3 v f c) (List.range' (a.length + i + 1) (b.length - (i + 1)))⟩ (S3 v f c) ((cls a b).getD (a.length + i) noCl) k = (0, ⟨⟨[], [[nmP c 0], [nmP d 0]], f⟩, qch v f c a.length b.length (i + 1)⟩) := by
  have hi := (List.getElem?_eq_some_iff.1 h).1
  rw [cls_q a b i d h]
  unfold useP
  rw [with_q]
  simp only [if_true]
  unfold putCh qch
  by_cases h9 : i + 1 < b.length
  · rw [if_neg (by intro e; have := congrArg List.length e; rw [List.length_range'] at this; simp at this; omega), if_pos h9]
    rfl
  · rw [if_pos (by rw [show b.length - (i + 1) = 0 by omega]; rfl), if_neg h9]
theorem reply_at (a b : List ByteArray) (v f : Int) (c d : ByteArray) (i : Nat) (h : b[i]? = some d) (q : Option Qs) : replyS ⟨20, cls a b, q⟩ [xB, yB] (1, ⟨⟨[], [[nmP c 0], [nmP d 0]], f⟩, qch v f c a.length b.length (i + 1)⟩) = (rep b c i, st a b c i) := by
  have hi := (List.getElem?_eq_some_iff.1 h).1
  unfold replyS
  rw [if_pos rfl]
  show (_, _) = _
  rw [text_two, ren_qch]
  unfold rep st
  rw [h, if_pos hi]
  rfl
theorem more_at (a b : List ByteArray) (c : ByteArray) (i : Nat) (hi : i < b.length) : moreS (st a b c i) = (rep b c (i + 1), st a b c (i + 1)) := by
  unfold moreS
  have hq : (st a b c i).q = some ⟨[xB, yB], qch 0 1 c a.length b.length (i + 1)⟩ := by unfold st; rw [if_pos hi]
  rw [hq]
  simp only []
  unfold nextS
  show replyS _ [xB, yB] (playN (cls a b) 20 (-1, ⟨stNone, qch 0 1 c a.length b.length (i + 1)⟩)) = _
  rw [play_fail]
  by_cases h : i + 1 < b.length
  · obtain ⟨d, hd⟩ : ∃ d, b[i + 1]? = some d := ⟨b[i + 1], List.getElem?_eq_getElem h⟩
    have hch : qch 0 1 c a.length b.length (i + 1) = [⟨S3 0 1 c, (a.length + (i + 1)) :: List.range' (a.length + (i + 1) + 1) (b.length - (i + 1 + 1))⟩] := by
      unfold qch
      rw [if_pos h, show b.length - (i + 1) = (b.length - (i + 1 + 1)) + 1 by omega, List.range'_succ]
    have ha : againP (cls a b) ⟨stNone, qch 0 1 c a.length b.length (i + 1)⟩ = (0, ⟨⟨[], [[nmP c 0], [nmP d 0]], 1⟩, qch 0 1 c a.length b.length (i + 1 + 1)⟩) := by
      rw [hch]
      exact use_q a b 0 1 c d (i + 1) hd stNone _
    rw [ha, play_answer' rfl]
    exact reply_at a b 0 1 c d (i + 1) hd _
  · have hch : qch 0 1 c a.length b.length (i + 1) = [] := by unfold qch; rw [if_neg h]
    rw [hch, again_none rfl, play_end (by decide) (by decide)]
    unfold replyS rep st
    rw [if_neg (by simp), List.getElem?_eq_none (by omega), if_neg h]
def askB : ByteArray := ⟨#[102, 40, 88, 41, 44, 113, 40, 89, 41, 46]⟩
theorem quest : questS askB = .ok ([[nmP fB 1, vrP 0], [nmP qB 1, vrP 1]], [xB, yB]) := by
  refine read_quest (ν := [xB, yB]) ⟨by decide, by simp, fun W hW => ?_⟩ (by simp) (by simp) (fun g hg => ?_) ?_ rfl (by decide)
  · simp at hW
    rcases hW with rfl | rfl
    · exact vx_ok
    · exact vy_ok
  · simp at hg
    rcases hg with rfl | rfl
    · exact goal_var (i := 0) fB_ok (by simp)
    · exact goal_var (i := 1) qB_ok (by simp)
  · exact ⟨0, rfl, 1, .inr ⟨rfl, rfl⟩, 1, rfl, 2, .inr ⟨rfl, rfl⟩, rfl⟩
theorem start (a b : List ByteArray) (q : Option Qs) : askS ⟨20, cls a b, q⟩ askB = replyS ⟨20, cls a b, q⟩ [xB, yB] (playN (cls a b) 19 (0, ⟨S1, [⟨S0, [a.length + b.length + 1]⟩]⟩)) := by
  unfold askS
  rw [quest]
  simp only []
  have hb : beginN [xB, yB] = [xB, yB] := by decide
  have hf : firstS ⟨20, cls a b, q⟩ [[nmP fB 1, vrP 0], [nmP qB 1, vrP 1]] [xB, yB] = playN (cls a b) 20 (0, ⟨S0, []⟩) := by
    unfold firstS
    rw [if_neg (by decide)]
    rfl
  have hkn : knownP S0 (cls a b) = true := by
    unfold knownP cls
    rw [List.any_append, List.any_append]
    have : hasPred S0 F1 = true := samePart_iff.2 rfl
    simp [this]
  have hcl : (cls a b).getD (a.length + b.length) noCl = F1 := by
    unfold cls
    rw [List.getD_eq_getElem?_getD, List.getElem?_append_right (by rw [List.length_map]; omega), List.length_map, show a.length + b.length - a.length = b.length by omega, List.getElem?_append_right (by rw [List.length_map]; omega), List.length_map, Nat.sub_self]
    rfl
  have ht : takeP (cls a b) ⟨S0, []⟩ = (0, ⟨S1, [⟨S0, [a.length + b.length + 1]⟩]⟩) := by
    rw [take_user (cf := ⟨S0, []⟩) (by decide) hkn]
    show chooseP _ ⟨S0, []⟩ (matchN S0 0 (cls a b)) = _
    rw [match_S0]
    simp only [chooseP]
    rw [if_neg (by simp), hcl]
    show useP ⟨S0, putCh [] S0 _⟩ S0 F1 0 = _
    unfold useP
    rw [with_F1]
    rfl
  rw [hb, hf, play_take (by simp [S0]), ht]
theorem ask_noP (b : List ByteArray) (q : Option Qs) : (askS ⟨20, cls [] b, q⟩ askB).1 = repK 12 := by
  rw [start, play_take (by simp [S1]), take_unknown (cf := ⟨S1, _⟩) (show isBuilt (goalP S1) = false by decide) ?_, play_end (by decide) (by decide)]
  · rfl
  · show knownP S1 _ = false
    unfold knownP cls
    rw [List.map_nil, List.nil_append, List.any_append, Bool.or_eq_false_iff]
    constructor
    · rw [List.any_eq_false]
      intro c hc
      rw [no_q (S := S1) (x := nmP pB 1) rfl (by simp [nmP]; decide) b c hc]; simp
    · decide
theorem step_p (a b : List ByteArray) (c : ByteArray) (h : a[0]? = some c) (hl : a.length ≤ 15) (n : Nat) : playN (cls a b) (n + 2) (0, ⟨S1, [⟨S0, [a.length + b.length + 1]⟩]⟩) = playN (cls a b) n (0, ⟨S3 1 3 c, []⟩) := by
  obtain ⟨as, rfl⟩ : ∃ as, a = c :: as := by
    cases a with
    | nil => simp at h
    | cons x as => simp at h; subst h; exact ⟨as, rfl⟩
  have hkn : knownP S1 (cls (c :: as) b) = true := by
    unfold knownP cls
    have : hasPred S1 (fact1 pB c) = true := samePart_iff.2 rfl
    simp [this]
  have ht : ∃ chs, takeP (cls (c :: as) b) ⟨S1, [⟨S0, [(c :: as).length + b.length + 1]⟩]⟩ = (0, ⟨⟨[cutT 0, [nmP qB 1, vrP 1]], [[nmP c 0], [vrP 1]], 3⟩, chs⟩) := by
    rw [take_user (cf := ⟨S1, _⟩) (show isBuilt (goalP S1) = false by decide) hkn]
    show ∃ chs, chooseP _ ⟨S1, _⟩ (matchN S1 0 (cls (c :: as) b)) = _
    rw [match_S1, List.length_cons, List.range'_succ]
    simp only [chooseP]
    rw [if_neg (by simp)]
    have hcl : (cls (c :: as) b).getD 0 noCl = fact1 pB c := rfl
    rw [hcl]
    unfold useP
    rw [with_p]
    exact ⟨_, rfl⟩
  obtain ⟨chs, ht⟩ := ht
  rw [play_take (by simp [S1]), ht, play_take (by simp), take_cut]
  have hd : dropC chs 0 = [] := by unfold dropC; simp
  rw [hd]
  rfl
theorem ask_noQ {a : List ByteArray} (ha : a ≠ []) (hl : a.length ≤ 15) (q : Option Qs) : (askS ⟨20, cls a [], q⟩ askB).1 = repK 12 := by
  obtain ⟨c, hc⟩ : ∃ c, a[0]? = some c := by
    cases a with
    | nil => exact absurd rfl ha
    | cons x as => exact ⟨x, rfl⟩
  rw [start, step_p a [] c hc hl 17, play_take (by simp [S3]), take_unknown (cf := ⟨S3 1 3 c, []⟩) ?_ ?_, play_end (by decide) (by decide)]
  · rfl
  · show isBuilt [nmP qB 1, vrP 1] = false
    decide
  · show knownP (S3 1 3 c) _ = false
    unfold knownP cls
    rw [List.map_nil, List.nil_append, List.any_append, Bool.or_eq_false_iff]
    constructor
    · rw [List.any_eq_false]
      intro d hd
      rw [no_p (S := S3 1 3 c) (x := nmP qB 1) rfl (by simp [nmP]; decide) a d hd]; simp
    · rfl
theorem ask_at {a b : List ByteArray} {c : ByteArray} (hc : a[0]? = some c) (hl : a.length ≤ 15) (hb : b ≠ []) (q : Option Qs) : askS ⟨20, cls a b, q⟩ askB = (rep b c 0, st a b c 0) := by
  obtain ⟨d, hd⟩ : ∃ d, b[0]? = some d := by
    cases b with
    | nil => exact absurd rfl hb
    | cons x bs => exact ⟨x, rfl⟩
  have hi := (List.getElem?_eq_some_iff.1 hd).1
  have hkn : knownP (S3 1 3 c) (cls a b) = true := by
    unfold knownP cls
    rw [List.any_append, List.any_append]
    cases b with
    | nil => exact absurd rfl hb
    | cons x bs =>
      have : hasPred (S3 1 3 c) (fact1 qB x) = true := samePart_iff.2 rfl
      simp [this]
  have ht : takeP (cls a b) ⟨S3 1 3 c, []⟩ = (0, ⟨⟨[], [[nmP c 0], [nmP d 0]], 3⟩, qch 1 3 c a.length b.length (0 + 1)⟩) := by
    rw [take_user (cf := ⟨S3 1 3 c, []⟩) (by show isBuilt [nmP qB 1, vrP 1] = false; decide) hkn]
    show chooseP _ ⟨S3 1 3 c, []⟩ (matchN (S3 1 3 c) 0 (cls a b)) = _
    rw [match_S3, show b.length = (b.length - 1) + 1 by omega, List.range'_succ]
    simp only [chooseP]
    rw [if_neg (by simp), show b.length - 1 + 1 = b.length by omega]
    exact use_q a b 1 3 c d 0 hd _ _
  rw [start, step_p a b c hc hl 17, play_take (by simp [S3]), ht, play_answer' rfl]
  exact reply_at a b 1 3 c d 0 hd _
end Rf.FirstL
