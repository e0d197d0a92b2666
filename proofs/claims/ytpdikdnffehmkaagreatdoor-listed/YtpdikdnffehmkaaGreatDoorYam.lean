/- Plain functions: behind a cut (promise P9). -/
import Derived.Test.YtpdikdnffehmkaaGreatDoorYal
namespace Rf.FirstL
open Rf
def fB : ByteArray := ⟨#[102]⟩
def zB : ByteArray := ⟨#[122]⟩
def yB : ByteArray := ⟨#[89]⟩
theorem fB_ok : NmOk fB := ⟨102, [], rfl, by decide, by decide, by decide⟩
theorem zB_ok : NmOk zB := ⟨122, [], rfl, by decide, by decide, by decide⟩
theorem vy_ok : VrOk yB := ⟨⟨89, [], rfl, by decide, by decide, by decide, by decide⟩, by decide⟩
/-- f(X):-p(X),!. -/
def F1 : Cl := ⟨[nmP fB 1, vrP 0], [[nmP pB 1, vrP 0], cutT 0], 1⟩
def cls (a b : List ByteArray) : List Cl := a.map (fact1 pB) ++ (b.map (fact1 qB) ++ [F1, fact1 fB zB])
def S0 : St := ⟨[[nmP fB 1, vrP 0], [nmP qB 1, vrP 1]], [[vrP 0], [vrP 1]], 2⟩
def S1 : St := ⟨[[nmP pB 1, vrP 2], cutT 0, [nmP qB 1, vrP 1]], [[vrP 2], [vrP 1]], 3⟩
/-- Behind the cut: what is left is q(Y); v is which variable Y is, f how many there are. -/
def S3 (v f : Int) (c : ByteArray) : St := ⟨[[nmP qB 1, vrP v]], [[nmP c 0], [vrP v]], f⟩
theorem with_F1 : withS S0 F1 0 = (0, S1) := by
  have hE : withE S0 F1 0 = ⟨[nmP fB 1, vrP 0], [nmP fB 1, vrP 2], [[nmP pB 1, vrP 2], cutT 0], [[nmP qB 1, vrP 1]], [[vrP 0], [vrP 1]]⟩ := rfl
  have hs : solveE ⟨[nmP fB 1, vrP 0], [nmP fB 1, vrP 2], [[nmP pB 1, vrP 2], cutT 0], [[nmP qB 1, vrP 1]], [[vrP 0], [vrP 1]]⟩ = (0, ⟨[], [], [[nmP pB 1, vrP 2], cutT 0], [[nmP qB 1, vrP 1]], [[vrP 2], [vrP 1]]⟩) := by
    rw [solve_same, solve_first (p := vrP 0) (q := vrP 2) (f := []) (s := []) (x := [vrP 2]) (r := []) (by simp [vrP]) rfl rfl (lead_one _ _ rfl) rfl]
    · exact solve_nil _ _ _ _
    · decide
  unfold withS
  rw [hE, hs, if_pos rfl]
  rfl
theorem with_F2 (h : Int) : (withS S0 (fact1 fB zB) h).1 = 0 := by
  rw [show S0 = ⟨[nmP fB 1, vrP 0] :: [[nmP qB 1, vrP 1]], [[vrP 0], [vrP 1]], 2⟩ from rfl, with_fact_var fB zB 0 _ _ 2 h (by decide)]
theorem with_p (c : ByteArray) (h : Int) : withS S1 (fact1 pB c) h = (0, ⟨[cutT 0, [nmP qB 1, vrP 1]], [[nmP c 0], [vrP 1]], 3⟩) := by
  rw [show S1 = ⟨[nmP pB 1, vrP 2] :: [cutT 0, [nmP qB 1, vrP 1]], [[vrP 2], [vrP 1]], 3⟩ from rfl, with_fact_var pB c 2 _ _ 3 h (by simp [sizeT, putV, isV, vrP, cutT, nmP])]
  rfl
theorem with_q (v f : Int) (c d : ByteArray) (h : Int) : withS (S3 v f c) (fact1 qB d) h = (0, ⟨[], [[nmP c 0], [nmP d 0]], f⟩) := by
  rw [show S3 v f c = ⟨[nmP qB 1, vrP v] :: [], [[nmP c 0], [vrP v]], f⟩ from rfl, with_fact_var qB d v _ _ f h (by simp [sizeT, putV, isV, vrP, nmP])]
  simp [putV, isV, vrP, nmP]
theorem no_p {S : St} {x : Part} (h : topP (goalP S) = x) (hx : x ≠ nmP pB 1) (a : List ByteArray) : ∀ c ∈ a.map (fact1 pB), hasPred S c = false := fun c hc => by
  obtain ⟨d, _, rfl⟩ := List.mem_map.1 hc
  refine samePred_ne ?_
  rw [h]
  exact fun e => hx e.symm
theorem no_q {S : St} {x : Part} (h : topP (goalP S) = x) (hx : x ≠ nmP qB 1) (a : List ByteArray) : ∀ c ∈ a.map (fact1 qB), hasPred S c = false := fun c hc => by
  obtain ⟨d, _, rfl⟩ := List.mem_map.1 hc
  refine samePred_ne ?_
  rw [h]
  exact fun e => hx e.symm
theorem match_no {S : St} {l : List Cl} (h : ∀ c ∈ l, hasPred S c = false) : ∀ c ∈ l, matchB S c = false := fun c hc => by unfold matchB; rw [h c hc]; rfl
theorem match_S0 (a b : List ByteArray) : matchN S0 0 (cls a b) = [a.length + b.length, a.length + b.length + 1] := by
  unfold cls
  rw [matchN_app, matchN_none S0 _ _ (match_no (no_p (x := nmP fB 1) rfl (by simp [nmP]; decide) a)), matchN_app, matchN_none S0 _ _ (match_no (no_q (x := nmP fB 1) rfl (by simp [nmP]; decide) b))]
  have h1 : matchB S0 F1 = true := by
    unfold matchB; rw [with_F1]; decide
  have h2 : matchB S0 (fact1 fB zB) = true := by
    unfold matchB; rw [with_F2]; decide
  rw [matchN, if_pos h1, matchN, if_pos h2]
  simp [matchN]
theorem match_S1 (a b : List ByteArray) : matchN S1 0 (cls a b) = List.range' 0 a.length := by
  unfold cls
  have hf : ∀ c ∈ [F1, fact1 fB zB], hasPred S1 c = false := fun c hc => by
    simp at hc
    rcases hc with rfl | rfl
    · decide
    · decide
  rw [matchN_app, matchN_app, matchN_none S1 _ _ (match_no (no_q (x := nmP pB 1) rfl (by simp [nmP]; decide) b)), matchN_none S1 _ _ (match_no hf), matchN_all S1 0 (a.map (fact1 pB)) (fun c hc => by
    obtain ⟨d, _, rfl⟩ := List.mem_map.1 hc
    unfold matchB
    rw [with_p]
    have : hasPred S1 (fact1 pB d) = true := samePart_iff.2 rfl
    rw [this]; rfl), List.length_map]
  simp
theorem match_S3 (v f : Int) (c : ByteArray) (a b : List ByteArray) : matchN (S3 v f c) 0 (cls a b) = List.range' a.length b.length := by
  unfold cls
  have hf : ∀ d ∈ [F1, fact1 fB zB], hasPred (S3 v f c) d = false := fun d hd => by
    simp at hd
    rcases hd with rfl | rfl
    · exact samePred_ne (show nmP fB 1 ≠ nmP qB 1 by simp [nmP]; decide)
    · exact samePred_ne (show nmP fB 1 ≠ nmP qB 1 by simp [nmP]; decide)
  rw [matchN_app, matchN_none (S3 v f c) _ _ (match_no (no_p (x := nmP qB 1) rfl (by simp [nmP]; decide) a)), matchN_app, matchN_none (S3 v f c) _ _ (match_no hf), matchN_all (S3 v f c) _ (b.map (fact1 qB)) (fun d hd => by
    obtain ⟨x, _, rfl⟩ := List.mem_map.1 hd
    unfold matchB
    rw [with_q]
    have : hasPred (S3 v f c) (fact1 qB x) = true := samePart_iff.2 rfl
    rw [this]; rfl), List.length_map, List.length_map]
  simp
def qch (v f : Int) (c : ByteArray) (n m i : Nat) : List Ch := if i < m then [⟨S3 v f c, List.range' (n + i) (m - i)⟩] else []
theorem ren_qch (v f : Int) (c : ByteArray) (n m i : Nat) : (qch v f c n m i).map renC = qch 0 1 c n m i := by
  unfold qch
  split
  · have : renS (S3 v f c) = S3 0 1 c := by
      show (⟨(renTs [] [[nmP qB 1, vrP v], [nmP c 0], [vrP v]]).1.take 1, (renTs [] [[nmP qB 1, vrP v], [nmP c 0], [vrP v]]).1.drop 1, ((renTs [] [[nmP qB 1, vrP v], [nmP c 0], [vrP v]]).2.length : Nat)⟩ : St) = _
      have e : renTs [] [[nmP qB 1, vrP v], [nmP c 0], [vrP v]] = ([[nmP qB 1, vrP 0], [nmP c 0], [vrP 0]], [v]) := by
        simp [renTs, renT, renP, stepV, numV, nmP, vrP]
      rw [e]; rfl
    simp [renC, this]
  · rfl
def ans (c d : ByteArray) : Rep := ⟨1, xB ++ ⟨#[32, 61, 32]⟩ ++ c ++ (⟨#[44, 32]⟩ ++ (yB ++ ⟨#[32, 61, 32]⟩ ++ d)), 0, 0⟩
def st (a b : List ByteArray) (c : ByteArray) (i : Nat) : Se := ⟨20, cls a b, if i < b.length then some ⟨[xB, yB], qch 0 1 c a.length b.length (i + 1)⟩ else none⟩
def rep (b : List ByteArray) (c : ByteArray) (i : Nat) : Rep := match b[i]? with
  | some d => ans c d
  | none => repK 2
theorem text_two (c d : ByteArray) : textQ [xB, yB] [[nmP c 0], [nmP d 0]] = xB ++ ⟨#[32, 61, 32]⟩ ++ c ++ (⟨#[44, 32]⟩ ++ (yB ++ ⟨#[32, 61, 32]⟩ ++ d)) := by
  unfold textQ
  rw [if_neg (by simp)]
  show joinQ [(xB, [nmP c 0]), (yB, [nmP d 0])] = _
  rw [joinQ, if_neg (by simp), joinQ, if_pos rfl, app_emp]
  unfold lineQ
  rw [txtA_atom, txtA_atom]
theorem cls_q (a b : List ByteArray) (i : Nat) (d : ByteArray) (h : b[i]? = some d) : (cls a b).getD (a.length + i) noCl = fact1 qB d := by
  have hi := (List.getElem?_eq_some_iff.1 h).1
  unfold cls
  rw [List.getD_eq_getElem?_getD, List.getElem?_append_right (by rw [List.length_map]; omega), List.length_map, show a.length + i - a.length = i by omega, List.getElem?_append_left (by rw [List.length_map]; exact hi), List.getElem?_map, h]; rfl
theorem use_q (a b : List ByteArray) (v f : Int) (c d : ByteArray) (i : Nat) (h : b[i]? = some d) (now : St) (k : Int) : useP ⟨now, putCh [] (S3 v f c) (List.range' (a.length + i + 1) (b.length - (i + 1)))⟩ (S3 v f c) ((cls a b).getD (a.length + i) noCl) k = (0, ⟨⟨[], [[nmP c 0], [nmP d 0]], f⟩, qch v f c a.length b.length (i + 1)⟩) := by
  have hi := (List.getElem?_eq_some_iff.1 h).1
  rw [cls_q a b i d h]
  unfold useP
  rw [with_q]
  simp only [if_true]
  unfold putCh qch
  by_cases h9 : i + 1 < b.length
  · rw [if_neg (by intro e; have := congrArg List.length e; rw [List.length_range'] at this; simp at this; omega), if_pos h9]
    rfl
  · rw [if_pos (by rw [show b.length - (i + 1) = 0 by omega]; rfl), if_neg h9]
theorem reply_at (a b : List ByteArray) (v f : Int) (c d : ByteArray) (i : Nat) (h : b[i]? = some d) (q : Option Qs) : replyS ⟨20, cls a b, q⟩ [xB, yB] (1, ⟨⟨[], [[nmP c 0], [nmP d 0]], f⟩, qch v f c a.length b.length (i + 1)⟩) = (rep b c i, st a b c i) := by
  have hi := (List.getElem?_eq_some_iff.1 h).1
  unfold replyS
  rw [if_pos rfl]
  show (_, _) = _
  rw [text_two, ren_qch]
  unfold rep st
  rw [h, if_pos hi]
  rfl
theorem more_at (a b : List ByteArray) (c : ByteArray) (i : Nat) (hi : i < b.length) : moreS (st a b c i) = (rep b c (i + 1), st a b c (i + 1)) := by
  unfold moreS
  have hq : (st a b c i).q = some ⟨[xB, yB], qch 0 1 c a.length b.length (i + 1)⟩ := by unfold st; rw [if_pos hi]
  rw [hq]
  simp only []
  unfold nextS
  show replyS _ [xB, yB] (playN (cls a b) 20 (-1, ⟨stNone, qch 0 1 c a.length b.length (i + 1)⟩)) = _
  rw [play_fail]
  by_cases h : i + 1 < b.length
  · obtain ⟨d, hd⟩ : ∃ d, b[i + 1]? = some d := ⟨b[i + 1], List.getElem?_eq_getElem h⟩
    have hch : qch 0 1 c a.length b.length (i + 1) = [⟨S3 0 1 c, (a.length + (i + 1)) :: List.range' (a.length + (i + 1) + 1) (b.length - (i + 1 + 1))⟩] := by
      unfold qch
      rw [if_pos h, show b.length - (i + 1) = (b.length - (i + 1 + 1)) + 1 by omega, List.range'_succ]
    have ha : againP (cls a b) ⟨stNone, qch 0 1 c a.length b.length (i + 1)⟩ = (0, ⟨⟨[], [[nmP c 0], [nmP d 0]], 1⟩, qch 0 1 c a.length b.length (i + 1 + 1)⟩) := by
      rw [hch]
      exact use_q a b 0 1 c d (i + 1) hd stNone _
    rw [ha, play_answer' rfl]
    exact reply_at a b 0 1 c d (i + 1) hd _
  · have hch : qch 0 1 c a.length b.length (i + 1) = [] := by unfold qch; rw [if_neg h]
    rw [hch, again_none rfl, play_end (by decide) (by decide)]
    unfold replyS rep st
    rw [if_neg (by simp), List.getElem?_eq_none (by omega), if_neg h]
def askB : ByteArray := ⟨#[102, 40, 88, 41, 44, 113, 40, 89, 41, 46]⟩
theorem quest : questS askB = .ok ([[nmP fB 1, vrP 0], [nmP qB 1, vrP 1]], [xB, yB]) := by
  refine read_quest (ν := [xB, yB]) ⟨by decide, by simp, fun W hW => ?_⟩ (by simp) (by simp) (fun g hg => ?_) ?_ rfl (by decide)
  · simp at hW
    rcases hW with rfl | rfl
    · exact vx_ok
    · exact vy_ok
  · simp at hg
    rcases hg with rfl | rfl
    · exact goal_var (i := 0) fB_ok (by simp)
    · exact goal_var (i := 1) qB_ok (by simp)
  · exact ⟨0, rfl, 1, .inr ⟨rfl, rfl⟩, 1, rfl, 2, .inr ⟨rfl, rfl⟩, rfl⟩
theorem start (a b : List ByteArray) (q : Option Qs) : askS ⟨20, cls a b, q⟩ askB = replyS ⟨20, cls a b, q⟩ [xB, yB] (playN (cls a b) 19 (0, ⟨S1, [⟨S0, [a.length + b.length + 1]⟩]⟩)) := by
  unfold askS
  rw [quest]
  simp only []
  have hb : beginN [xB, yB] = [xB, yB] := by decide
  have hf : firstS ⟨20, cls a b, q⟩ [[nmP fB 1, vrP 0], [nmP qB 1, vrP 1]] [xB, yB] = playN (cls a b) 20 (0, ⟨S0, []⟩) := by
    unfold firstS
    rw [if_neg (by decide)]
    rfl
  have hkn : knownP S0 (cls a b) = true := by
    unfold knownP cls
    rw [List.any_append, List.any_append]
    have : hasPred S0 F1 = true := samePart_iff.2 rfl
    simp [this]
  have hcl : (cls a b).getD (a.length + b.length) noCl = F1 := by
    unfold cls
    rw [List.getD_eq_getElem?_getD, List.getElem?_append_right (by rw [List.length_map]; omega), List.length_map, show a.length + b.length - a.length = b.length by omega, List.getElem?_append_right (by rw [List.length_map]; omega), List.length_map, Nat.sub_self]
    rfl
  have ht : takeP (cls a b) ⟨S0, []⟩ = (0, ⟨S1, [⟨S0, [a.length + b.length + 1]⟩]⟩) := by
    rw [take_user (cf := ⟨S0, []⟩) (by decide) hkn]
    show chooseP _ ⟨S0, []⟩ (matchN S0 0 (cls a b)) = _
    rw [match_S0]
    simp only [chooseP]
    rw [if_neg (by simp), hcl]
    show useP ⟨S0, putCh [] S0 _⟩ S0 F1 0 = _
    unfold useP
    rw [with_F1]
    rfl
  rw [hb, hf, play_take (by simp [S0]), ht]
theorem ask_noP (b : List ByteArray) (q : Option Qs) : (askS ⟨20, cls [] b, q⟩ askB).1 = repK 12 := by
  rw [start, play_take (by simp [S1]), take_unknown (cf := ⟨S1, _⟩) (show isBuilt (goalP S1) = false by decide) ?_, play_end (by decide) (by decide)]
  · rfl
  · show knownP S1 _ = false
    unfold knownP cls
    rw [List.map_nil, List.nil_append, List.any_append, Bool.or_eq_false_iff]
    constructor
    · rw [List.any_eq_false]
      intro c hc
      rw [no_q (S := S1) (x := nmP pB 1) rfl (by simp [nmP]; decide) b c hc]; simp
    · decide
theorem step_p (a b : List ByteArray) (c : ByteArray) (h : a[0]? = some c) (hl : a.length ≤ 15) (n : Nat) : playN (cls a b) (n + 2) (0, ⟨S1, [⟨S0, [a.length + b.length + 1]⟩]⟩) = playN (cls a b) n (0, ⟨S3 1 3 c, []⟩) := by
  obtain ⟨as, rfl⟩ : ∃ as, a = c :: as := by
    cases a with
    | nil => simp at h
    | cons x as => simp at h; subst h; exact ⟨as, rfl⟩
  have hkn : knownP S1 (cls (c :: as) b) = true := by
    unfold knownP cls
    have : hasPred S1 (fact1 pB c) = true := samePart_iff.2 rfl
    simp [this]
  have ht : ∃ chs, takeP (cls (c :: as) b) ⟨S1, [⟨S0, [(c :: as).length + b.length + 1]⟩]⟩ = (0, ⟨⟨[cutT 0, [nmP qB 1, vrP 1]], [[nmP c 0], [vrP 1]], 3⟩, chs⟩) := by
    rw [take_user (cf := ⟨S1, _⟩) (show isBuilt (goalP S1) = false by decide) hkn]
    show ∃ chs, chooseP _ ⟨S1, _⟩ (matchN S1 0 (cls (c :: as) b)) = _
    rw [match_S1, List.length_cons, List.range'_succ]
    simp only [chooseP]
    rw [if_neg (by simp)]
    have hcl : (cls (c :: as) b).getD 0 noCl = fact1 pB c := rfl
    rw [hcl]
    unfold useP
    rw [with_p]
    exact ⟨_, rfl⟩
  obtain ⟨chs, ht⟩ := ht
  rw [play_take (by simp [S1]), ht, play_take (by simp), take_cut]
  have hd : dropC chs 0 = [] := by unfold dropC; simp
  rw [hd]
  rfl
theorem ask_noQ {a : List ByteArray} (ha : a ≠ []) (hl : a.length ≤ 15) (q : Option Qs) : (askS ⟨20, cls a [], q⟩ askB).1 = repK 12 := by
  obtain ⟨c, hc⟩ : ∃ c, a[0]? = some c := by
    cases a with
    | nil => exact absurd rfl ha
    | cons x as => exact ⟨x, rfl⟩
  rw [start, step_p a [] c hc hl 17, play_take (by simp [S3]), take_unknown (cf := ⟨S3 1 3 c, []⟩) ?_ ?_, play_end (by decide) (by decide)]
  · rfl
  · show isBuilt [nmP qB 1, vrP 1] = false
    decide
  · show knownP (S3 1 3 c) _ = false
    unfold knownP cls
    rw [List.map_nil, List.nil_append, List.any_append, Bool.or_eq_false_iff]
    constructor
    · rw [List.any_eq_false]
      intro d hd
      rw [no_p (S := S3 1 3 c) (x := nmP qB 1) rfl (by simp [nmP]; decide) a d hd]; simp
    · rfl
theorem ask_at {a b : List ByteArray} {c : ByteArray} (hc : a[0]? = some c) (hl : a.length ≤ 15) (hb : b ≠ []) (q : Option Qs) : askS ⟨20, cls a b, q⟩ askB = (rep b c 0, st a b c 0) := by
  obtain ⟨d, hd⟩ : ∃ d, b[0]? = some d := by
    cases b with
    | nil => exact absurd rfl hb
    | cons x bs => exact ⟨x, rfl⟩
  have hi := (List.getElem?_eq_some_iff.1 hd).1
  have hkn : knownP (S3 1 3 c) (cls a b) = true := by
    unfold knownP cls
    rw [List.any_append, List.any_append]
    cases b with
    | nil => exact absurd rfl hb
    | cons x bs =>
      have : hasPred (S3 1 3 c) (fact1 qB x) = true := samePart_iff.2 rfl
      simp [this]
  have ht : takeP (cls a b) ⟨S3 1 3 c, []⟩ = (0, ⟨⟨[], [[nmP c 0], [nmP d 0]], 3⟩, qch 1 3 c a.length b.length (0 + 1)⟩) := by
    rw [take_user (cf := ⟨S3 1 3 c, []⟩) (by show isBuilt [nmP qB 1, vrP 1] = false; decide) hkn]
    show chooseP _ ⟨S3 1 3 c, []⟩ (matchN (S3 1 3 c) 0 (cls a b)) = _
    rw [match_S3, show b.length = (b.length - 1) + 1 by omega, List.range'_succ]
    simp only [chooseP]
    rw [if_neg (by simp), show b.length - 1 + 1 = b.length by omega]
    exact use_q a b 1 3 c d 0 hd _ _
  rw [start, step_p a b c hc hl 17, play_take (by simp [S3]), ht, play_answer' rfl]
  exact reply_at a b 1 3 c d 0 hd _
end Rf.FirstL
/- Plain functions: sums of numbers written s(s(z)) (promises P10, P11). -/
namespace Rf
theorem renT_fix : ∀ (t : List Part) (ns : List Int), (∀ p ∈ t, p.kind ≠ 1) → renT ns t = (t, ns)
  | [], _, _ => rfl
  | p :: t, ns, h => by
    have hp : p.kind ≠ 1 := h p (by simp)
    have h1 : stepV ns p = ns := by unfold stepV; rw [if_neg hp]
    have h2 : renP ns p = p := by unfold renP; rw [if_neg hp]
    rw [renT, h1, h2, renT_fix t ns (fun q hq => h q (List.mem_cons_of_mem _ hq))]
theorem renT_app : ∀ (a b : List Part) (ns : List Int), renT ns (a ++ b) = ((renT ns a).1 ++ (renT (renT ns a).2 b).1, (renT (renT ns a).2 b).2)
  | [], _, _ => rfl
  | p :: a, b, ns => by rw [List.cons_append, renT, renT_app a b, renT]; rfl
theorem count_fix : ∀ {t : List Part} {v : Int}, (∀ p ∈ t, p.kind ≠ 1) → countV v t = 0
  | [], _, _ => rfl
  | p :: t, v, h => by
    rw [countV, count_fix (fun q hq => h q (List.mem_cons_of_mem _ hq)), if_neg]
    intro e; unfold isV at e; simp at e; exact h p (by simp) e.1
theorem put_nil (v : Int) (x : List Part) : putV v x [] = [] := rfl
theorem put_var (v : Int) (x : List Part) : putV v x [vrP v] = x := by simp [putV, isV, vrP]
theorem put_other {v u : Int} (x : List Part) (h : u ≠ v) : putV v x [vrP u] = [vrP u] := by simp [putV, isV, vrP, h]
theorem put_cons_name (v : Int) (x : List Part) (s : ByteArray) (n : Int) (t : List Part) : putV v x (nmP s n :: t) = nmP s n :: putV v x t := by simp [putV, isV, nmP]
theorem put_cons_var (v : Int) (x : List Part) (t : List Part) : putV v x (vrP v :: t) = x ++ putV v x t := by simp [putV, isV, vrP]
theorem put_cons_other {v u : Int} (x : List Part) (t : List Part) (h : u ≠ v) : putV v x (vrP u :: t) = vrP u :: putV v x t := by simp [putV, isV, vrP, h]
end Rf
namespace Rf.AddsL
open Rf
def addB : ByteArray := ⟨#[97, 100, 100]⟩
def sB : ByteArray := ⟨#[115]⟩
def zB : ByteArray := ⟨#[122]⟩
def rB : ByteArray := ⟨#[82]⟩
def yB : ByteArray := ⟨#[89]⟩
def zV : ByteArray := ⟨#[90]⟩
theorem addB_ok : NmOk addB := ⟨97, [100, 100], rfl, by decide, by decide, by decide⟩
theorem sB_ok : NmOk sB := ⟨115, [], rfl, by decide, by decide, by decide⟩
theorem zB_ok : NmOk zB := ⟨122, [], rfl, by decide, by decide, by decide⟩
theorem vr_ok : VrOk rB := ⟨⟨82, [], rfl, by decide, by decide, by decide, by decide⟩, by decide⟩
theorem vy_ok : VrOk yB := ⟨⟨89, [], rfl, by decide, by decide, by decide, by decide⟩, by decide⟩
theorem vz_ok : VrOk zV := ⟨⟨90, [], rfl, by decide, by decide, by decide, by decide⟩, by decide⟩
def sP : Part := nmP sB 1
def zP : Part := nmP zB 0
def addP : Part := nmP addB 3
def Sj (j : Nat) : List Part := List.replicate j sP
def H (k : Nat) : List Part := Sj k ++ [zP]
theorem Sj_fix (j : Nat) : ∀ p ∈ Sj j, p.kind ≠ 1 := fun p hp => by
  have := List.eq_of_mem_replicate hp; subst this; decide
theorem H_fix (k : Nat) : ∀ p ∈ H k, p.kind ≠ 1 := fun p hp => by
  rcases List.mem_append.1 hp with h | h
  · exact Sj_fix k p h
  · simp at h; subst h; decide
theorem H_succ (k : Nat) : H (k + 1) = sP :: H k := by unfold H Sj; rw [List.replicate_succ]; rfl
theorem H_len (k : Nat) : (H k).length = k + 1 := by unfold H Sj; simp
theorem Sj_len (k : Nat) : (Sj k).length = k := by unfold Sj; simp
theorem Sj_H (j k : Nat) : Sj j ++ H k = H (j + k) := by unfold H Sj; rw [← List.append_assoc, List.replicate_append_replicate]
theorem Sj_succ (j : Nat) (t : List Part) : Sj j ++ (sP :: t) = Sj (j + 1) ++ t := by
  unfold Sj
  rw [List.replicate_succ', List.append_assoc]; rfl
theorem lead_H (k : Nat) (r : List Part) : leadT (H k ++ r) = (H k).length := by
  rw [H_len]
  unfold leadT
  induction k with
  | zero => show leadN 1 (zP :: r) = 1; rw [leadN, if_pos (by decide)]
  | succ k ih => rw [H_succ, List.cons_append, leadN, if_neg (by decide)]; show leadN 1 (H k ++ r) + 1 = _; rw [ih]
theorem H_put (k : Nat) (v : Int) (x : List Part) : putV v x (H k) = H k := putV_fix (H_fix k)
theorem Sj_put (k : Nat) (v : Int) (x : List Part) : putV v x (Sj k) = Sj k := putV_fix (Sj_fix k)
theorem H_put_app (k : Nat) (v : Int) (x t : List Part) : putV v x (H k ++ t) = H k ++ putV v x t := by rw [putV_app, H_put]
theorem Sj_put_app (k : Nat) (v : Int) (x t : List Part) : putV v x (Sj k ++ t) = Sj k ++ putV v x t := by rw [putV_app, Sj_put]
/-- A written number against a variable. -/
theorem solve_H (k : Nat) (v : Int) (r s : List Part) (bo be te : List (List Part)) (hz : ((⟨r, s, bo, be, te⟩ : Eqn).put v (H k)).size ≤ 200) : solveE ⟨H k ++ r, vrP v :: s, bo, be, te⟩ = solveE ((⟨r, s, bo, be, te⟩ : Eqn).put v (H k)) := by
  obtain ⟨p, t, hp, h3⟩ : ∃ p t, H k = p :: t ∧ p.kind = 3 := by
    cases k with
    | zero => exact ⟨zP, [], rfl, rfl⟩
    | succ k => exact ⟨sP, H k, H_succ k, rfl⟩
  have hl := lead_H k r
  have hc : countV v (H k) = 0 := count_fix (H_fix k)
  rw [hp] at hl hc hz ⊢
  rw [List.cons_append] at hl ⊢
  exact solve_second (p := p) (q := vrP v) (f := t ++ r) (s := s) (x := p :: t) (r := r) (by intro e; rw [e] at h3; simp [vrP] at h3) (by omega) rfl rfl hl hc hz
/-- A variable against a written number. -/
theorem solve_vH (k : Nat) (v : Int) (f r : List Part) (bo be te : List (List Part)) (hz : ((⟨f, r, bo, be, te⟩ : Eqn).put v (H k)).size ≤ 200) : solveE ⟨vrP v :: f, H k ++ r, bo, be, te⟩ = solveE ((⟨f, r, bo, be, te⟩ : Eqn).put v (H k)) := by
  obtain ⟨p, t, hp, h3⟩ : ∃ p t, H k = p :: t ∧ p.kind = 3 := by
    cases k with
    | zero => exact ⟨zP, [], rfl, rfl⟩
    | succ k => exact ⟨sP, H k, H_succ k, rfl⟩
  have hl := lead_H k r
  have hc : countV v (H k) = 0 := count_fix (H_fix k)
  rw [hp] at hl hc hz ⊢
  rw [List.cons_append] at hl ⊢
  exact solve_first (p := vrP v) (q := p) (f := f) (s := t ++ r) (x := p :: t) (r := r) (by intro e; rw [← e] at h3; simp [vrP] at h3) rfl rfl hl hc hz
/-- add(z,Y,Y). -/
def A1 : Cl := ⟨[addP, zP, vrP 0, vrP 0], [], 1⟩
/-- add(s(X),Y,s(Z)):-add(X,Y,Z). -/
def A2 : Cl := ⟨[addP, sP, vrP 0, vrP 1, sP, vrP 2], [[addP, vrP 0, vrP 1, vrP 2]], 3⟩
def cls : List Cl := [A1, A2]
theorem own_A1 (f h : Int) : ownT f h A1.head = [addP, zP, vrP f, vrP f] := by simp [ownT, A1, ownP, addP, zP, vrP, nmP]
theorem own_A2 (f h : Int) : ownT f h A2.head = [addP, sP, vrP f, vrP (f + 1), sP, vrP (f + 2)] ∧ A2.body.map (ownT f h) = [[addP, vrP f, vrP (f + 1), vrP (f + 2)]] := by
  constructor
  · simp [ownT, A2, ownP, addP, sP, vrP, nmP, Int.add_comm]
  · simp [ownT, A2, ownP, addP, vrP, nmP, Int.add_comm]
theorem past_A1 : pastC A1 = 1 := by decide
theorem past_A2 : pastC A2 = 3 := by decide
/-- On the way to a sum: add(n,m,R), and what R stands for. -/
def G (n m j : Nat) (r f : Int) : St := ⟨[addP :: (H n ++ (H m ++ [vrP r]))], [Sj j ++ [vrP r]], f⟩
theorem with_G2 (n m j : Nat) (r f h : Int) (hr : r < f) (hz : n + m + j ≤ 60) : withS (G (n + 1) m j r f) A2 h = (0, G n m (j + 1) (f + 2) (f + 3)) := by
  have hE : withE (G (n + 1) m j r f) A2 h = ⟨addP :: sP :: (H n ++ (H m ++ [vrP r])), [addP, sP, vrP f, vrP (f + 1), sP, vrP (f + 2)], [[addP, vrP f, vrP (f + 1), vrP (f + 2)]], [], [Sj j ++ [vrP r]]⟩ := by
    unfold withE
    show (⟨addP :: (H (n + 1) ++ (H m ++ [vrP r])), ownT f h A2.head, A2.body.map (ownT f h), [], [Sj j ++ [vrP r]]⟩ : Eqn) = _
    rw [(own_A2 f h).1, (own_A2 f h).2, H_succ]
    rfl
  have hs : solveE (withE (G (n + 1) m j r f) A2 h) = (0, ⟨[], [], [addP :: (H n ++ (H m ++ [vrP (f + 2)]))], [], [Sj (j + 1) ++ [vrP (f + 2)]]⟩) := by
    have e1 : ((⟨H m ++ [vrP r], [vrP (f + 1), sP, vrP (f + 2)], [[addP, vrP f, vrP (f + 1), vrP (f + 2)]], [], [Sj j ++ [vrP r]]⟩ : Eqn).put f (H n)) = ⟨H m ++ [vrP r], [vrP (f + 1), sP, vrP (f + 2)], [addP :: (H n ++ [vrP (f + 1), vrP (f + 2)])], [], [Sj j ++ [vrP r]]⟩ := by
      unfold Eqn.put
      simp only [List.map_cons, List.map_nil, H_put_app, Sj_put_app, put_other (H n) (show r ≠ f by omega), put_cons_other (H n) _ (show f + 1 ≠ f by omega), put_other (H n) (show f + 2 ≠ f by omega), sP, addP, put_cons_name, put_cons_var]
    have e2 : ((⟨[vrP r], [sP, vrP (f + 2)], [addP :: (H n ++ [vrP (f + 1), vrP (f + 2)])], [], [Sj j ++ [vrP r]]⟩ : Eqn).put (f + 1) (H m)) = ⟨[vrP r], [sP, vrP (f + 2)], [addP :: (H n ++ (H m ++ [vrP (f + 2)]))], [], [Sj j ++ [vrP r]]⟩ := by
      unfold Eqn.put
      simp only [List.map_cons, List.map_nil, H_put_app, Sj_put_app, put_other (H m) (show r ≠ f + 1 by omega), put_other (H m) (show f + 2 ≠ f + 1 by omega), sP, addP, put_cons_name, put_cons_var]
    have e3 : ((⟨[], [], [addP :: (H n ++ (H m ++ [vrP (f + 2)]))], [], [Sj j ++ [vrP r]]⟩ : Eqn).put r [sP, vrP (f + 2)]) = ⟨[], [], [addP :: (H n ++ (H m ++ [vrP (f + 2)]))], [], [Sj (j + 1) ++ [vrP (f + 2)]]⟩ := by
      unfold Eqn.put
      simp only [List.map_cons, List.map_nil, H_put_app, Sj_put_app, put_other [sP, vrP (f + 2)] (show f + 2 ≠ r by omega), put_var, addP, put_cons_name, Sj_succ, put_nil]
    rw [hE, solve_same, solve_same, solve_H n f (H m ++ [vrP r]) [vrP (f + 1), sP, vrP (f + 2)] _ _ _ ?_, e1, solve_H m (f + 1) [vrP r] [sP, vrP (f + 2)] _ _ _ ?_, e2]
    · rw [solve_first (p := vrP r) (q := sP) (f := []) (s := [vrP (f + 2)]) (x := [sP, vrP (f + 2)]) (r := []) (by simp [vrP, sP, nmP]) rfl rfl rfl ?_ ?_]
      · show solveE ((⟨[], [], _, _, _⟩ : Eqn).put r [sP, vrP (f + 2)]) = _
        rw [e3]; exact solve_nil _ _ _ _
      · show countV r [sP, vrP (f + 2)] = 0
        have : ¬ f + 2 = r := by omega
        simp [countV, isV, sP, nmP, vrP, this]
      · show ((⟨[], [], _, _, _⟩ : Eqn).put r [sP, vrP (f + 2)]).size ≤ 200
        rw [e3]
        simp only [Eqn.size, sizeT, List.length_cons, List.length_append, List.length_nil, H_len, Sj_len]
        omega
    · rw [e2]
      simp only [Eqn.size, sizeT, List.length_cons, List.length_append, List.length_nil, H_len, Sj_len]
      omega
    · rw [e1]
      simp only [Eqn.size, sizeT, List.length_cons, List.length_append, List.length_nil, H_len, Sj_len]
      omega
  unfold withS
  rw [hs, if_pos rfl, past_A2]
  rfl
theorem with_G1 (m j : Nat) (r f h : Int) (hr : r < f) (hz : m + j ≤ 60) : withS (G 0 m j r f) A1 h = (0, ⟨[], [H (j + m)], f + 1⟩) := by
  have hE : withE (G 0 m j r f) A1 h = ⟨addP :: zP :: (H m ++ [vrP r]), [addP, zP, vrP f, vrP f], [], [], [Sj j ++ [vrP r]]⟩ := by
    unfold withE
    show (⟨addP :: (H 0 ++ (H m ++ [vrP r])), ownT f h A1.head, [], [], [Sj j ++ [vrP r]]⟩ : Eqn) = _
    rw [own_A1]
    rfl
  have e1 : ((⟨[vrP r], [vrP f], [], [], [Sj j ++ [vrP r]]⟩ : Eqn).put f (H m)) = ⟨[vrP r], H m ++ [], [], [], [Sj j ++ [vrP r]]⟩ := by
    unfold Eqn.put
    simp only [List.map_cons, List.map_nil, Sj_put_app, put_other (H m) (show r ≠ f by omega), put_var, List.append_nil]
  have e2 : ((⟨[], [], [], [], [Sj j ++ [vrP r]]⟩ : Eqn).put r (H m)) = ⟨[], [], [], [], [H (j + m)]⟩ := by
    unfold Eqn.put
    simp only [List.map_cons, List.map_nil, Sj_put_app, put_var, put_nil, Sj_H]
  have hs : solveE (withE (G 0 m j r f) A1 h) = (0, ⟨[], [], [], [], [H (j + m)]⟩) := by
    rw [hE, solve_same, solve_same, solve_H m f [vrP r] [vrP f] _ _ _ ?_, e1, solve_vH m r [] [] _ _ _ ?_, e2]
    · exact solve_nil _ _ _ _
    · rw [e2]
      simp only [Eqn.size, sizeT, List.length_nil, H_len]
      omega
    · rw [e1]
      simp only [Eqn.size, sizeT, List.length_cons, List.length_append, List.length_nil, H_len, Sj_len]
      omega
  unfold withS
  rw [hs, if_pos rfl, past_A1]
  rfl
theorem no_G1 (n m j : Nat) (r f h : Int) : (withS (G (n + 1) m j r f) A1 h).1 = -1 := by
  have hE : withE (G (n + 1) m j r f) A1 h = ⟨addP :: sP :: (H n ++ (H m ++ [vrP r])), [addP, zP, vrP f, vrP f], [], [], [Sj j ++ [vrP r]]⟩ := by
    unfold withE
    show (⟨addP :: (H (n + 1) ++ (H m ++ [vrP r])), ownT f h A1.head, [], [], [Sj j ++ [vrP r]]⟩ : Eqn) = _
    rw [own_A1, H_succ]
    rfl
  have hs : (solveE (withE (G (n + 1) m j r f) A1 h)).1 = -1 := by
    rw [hE, solve_same]
    exact solve_clash _ _ _ _ _ (by simp [sP, zP, nmP]) (by decide) (by decide)
  unfold withS
  rw [hs, if_neg (by decide)]
theorem no_G2 (m j : Nat) (r f h : Int) : (withS (G 0 m j r f) A2 h).1 = -1 := by
  have hE : withE (G 0 m j r f) A2 h = ⟨addP :: zP :: (H m ++ [vrP r]), [addP, sP, vrP f, vrP (f + 1), sP, vrP (f + 2)], [[addP, vrP f, vrP (f + 1), vrP (f + 2)]], [], [Sj j ++ [vrP r]]⟩ := by
    unfold withE
    show (⟨addP :: (H 0 ++ (H m ++ [vrP r])), ownT f h A2.head, A2.body.map (ownT f h), [], [Sj j ++ [vrP r]]⟩ : Eqn) = _
    rw [(own_A2 f h).1, (own_A2 f h).2]
    rfl
  have hs : (solveE (withE (G 0 m j r f) A2 h)).1 = -1 := by
    rw [hE, solve_same]
    exact solve_clash _ _ _ _ _ (by simp [sP, zP, nmP]) (by decide) (by decide)
  unfold withS
  rw [hs, if_neg (by decide)]
theorem take_add {S : St} {t : List Part} {gs ts : List (List Part)} {f : Int} (hS : S = ⟨(addP :: t) :: gs, ts, f⟩) (chs : List Ch) : takeP cls ⟨S, chs⟩ = chooseP cls ⟨S, chs⟩ ((if (withS S A1 0).1 ≠ -1 then [0] else []) ++ (if (withS S A2 0).1 ≠ -1 then [1] else [])) := by
  subst hS
  have h1 : hasPred ⟨(addP :: t) :: gs, ts, f⟩ A1 = true := samePart_iff.2 rfl
  have h2 : hasPred ⟨(addP :: t) :: gs, ts, f⟩ A2 = true := samePart_iff.2 rfl
  rw [take_user (cf := ⟨⟨(addP :: t) :: gs, ts, f⟩, chs⟩) (by show ((3 : Int) == 4 || ((3 : Int) == 3 && builtInB addB 3)) = false; decide) (by unfold knownP cls; simp [h1])]
  show chooseP _ _ (matchN _ 0 [A1, A2]) = _
  rw [matchN, matchN, matchN]
  unfold matchB
  rw [h1, h2]
  simp
theorem sum : ∀ (n m j : Nat) (r f : Int) (k : Nat), r < f → n + m + j ≤ 60 → ∃ f', playN cls (n + 1 + k) (0, ⟨G n m j r f, []⟩) = (1, ⟨⟨[], [H (j + n + m)], f'⟩, []⟩)
  | 0, m, j, r, f, k, hr, hz => by
    refine ⟨f + 1, ?_⟩
    rw [show 0 + 1 + k = k + 1 by omega, play_take (by simp [G]), take_add (S := G _ _ _ _ _) rfl, if_pos (by rw [with_G1 m j r f 0 hr (by omega)]; simp), if_neg (by rw [no_G2 m j r f 0]; simp)]
    simp only [List.append_nil, chooseP]
    rw [if_neg (by simp)]
    show playN cls k (useP ⟨G 0 m j r f, putCh [] (G 0 m j r f) []⟩ (G 0 m j r f) A1 0) = _
    unfold useP
    rw [with_G1 m j r f 0 hr (by omega)]
    show playN cls k (0, ⟨⟨[], [H (j + m)], f + 1⟩, []⟩) = _
    rw [play_answer' rfl]
    rfl
  | n + 1, m, j, r, f, k, hr, hz => by
    obtain ⟨f', ih⟩ := sum n m (j + 1) (f + 2) (f + 3) k (by omega) (by omega)
    refine ⟨f', ?_⟩
    rw [show n + 1 + 1 + k = (n + 1 + k) + 1 by omega, play_take (by simp [G]), take_add (S := G _ _ _ _ _) rfl, if_neg (by rw [no_G1 n m j r f 0]; simp), if_pos (by rw [with_G2 n m j r f 0 hr (by omega)]; simp)]
    simp only [List.nil_append, chooseP]
    rw [if_neg (by simp)]
    show playN cls (n + 1 + k) (useP ⟨G (n + 1) m j r f, putCh [] (G (n + 1) m j r f) []⟩ (G (n + 1) m j r f) A2 0) = _
    unfold useP
    rw [with_G2 n m j r f 0 hr (by omega)]
    show playN cls (n + 1 + k) (0, ⟨G n m (j + 1) (f + 2) (f + 3), []⟩) = _
    rw [ih, show j + 1 + n + m = j + (n + 1) + m by omega]
end Rf.AddsL
