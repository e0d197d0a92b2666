/- Plain functions: plus and less, not (promise P9). -/
import Derived.Test.YtpdikdnffehmkaaGreatDoorYak
namespace Rf
def nuP (v : Int) : Part := ⟨2, ⟨#[]⟩, v, 0⟩
theorem part_num {ν : List ByteArray} {v : Int} (h0 : -999999999 ≤ v) (h1 : v ≤ 999999999) : PartOk ν (nuP v) := .inr (.inl ⟨rfl, rfl, rfl, h0, h1⟩)
theorem part_name {ν : List ByteArray} {s : ByteArray} (h : NmOk s) {n : Int} (h0 : 0 ≤ n) (h1 : n ≤ 4) : PartOk ν (nmP s n) := .inr (.inr ⟨rfl, rfl, h, h0, h1⟩)
theorem part_var {ν : List ByteArray} {i : Nat} (h : i < ν.length) : PartOk ν (vrP i) := .inl ⟨rfl, rfl, rfl, by simp [vrP], by simp [vrP]; exact h⟩
theorem wf_atom (p : Part) (h : p.args = 0) (d : Nat) : Wf (d + 1) [p] := .inl ⟨p, rfl, h⟩
/-- A goal with these arguments. -/
theorem goal_comp {ν : List ByteArray} {s : ByteArray} {qs : List (List Part)} {d : Nat} {g : List Part} (hs : NmOk s) (h1 : 1 ≤ qs.length) (h4 : qs.length ≤ 4) (hw : ∀ q ∈ qs, Wf d q) (hp : ∀ q ∈ qs, ∀ p ∈ q, PartOk ν p) (hg : g = nmP s qs.length :: qs.flatten) : GoalOk ν g := by
  refine .inr ⟨⟨d + 1, .inr ⟨s, qs, h1, hw, hg⟩⟩, fun p hpm => ?_, by rw [hg]; rfl⟩
  rw [hg] at hpm
  rcases List.mem_cons.1 hpm with rfl | hpm
  · exact part_name hs (by omega) (by omega)
  · obtain ⟨q, hq, hpq⟩ := List.mem_flatten.1 hpm
    exact hp q hq p hpq
theorem plusB_ok : NmOk plusB := ⟨112, [108, 117, 115], rfl, by decide, by decide, by decide⟩
theorem lessB_ok : NmOk lessB := ⟨108, [101, 115, 115], rfl, by decide, by decide, by decide⟩
theorem notB_ok : NmOk notB := ⟨110, [111, 116], rfl, by decide, by decide, by decide⟩
theorem txtA_num (v : Int) : txtA [nuP v] = itoaB v := by
  show wordA (nuP v) ++ ((closeP []).1 ++ textW false [] []) = _
  have : wordA (nuP v) = itoaB v := rfl
  rw [this]
  show itoaB v ++ (⟨#[]⟩ ++ ⟨#[]⟩) = _
  rw [emp_app, app_emp]
theorem itoaB_size {v : Int} (h0 : -999999999 ≤ v) (h1 : v ≤ 999999999) : (itoaB v).size ≤ 21 := by
  have := Go.Lib.itoa_length_le v (by omega) (by omega)
  unfold itoaB; simpa [ByteArray.size] using this
end Rf
namespace Rf.ReckonsL
open Rf
def plusG (n m : Int) : List Part := [nmP plusB 3, nuP n, nuP m, vrP 0]
def lessG (n m : Int) : List Part := [nmP lessB 2, nuP n, nuP m]
def plusT (n m : Int) : ByteArray := ⟨#[112, 108, 117, 115, 40]⟩ ++ itoaB n ++ ⟨#[44]⟩ ++ itoaB m ++ ⟨#[44, 88, 41, 46]⟩
def lessT (n m : Int) : ByteArray := ⟨#[108, 101, 115, 115, 40]⟩ ++ itoaB n ++ ⟨#[44]⟩ ++ itoaB m ++ ⟨#[41, 46]⟩
theorem quest_plus {n m : Int} (hn0 : -999999999 ≤ n) (hn1 : n ≤ 999999999) (hm0 : -999999999 ≤ m) (hm1 : m ≤ 999999999) : questS (plusT n m) = .ok ([plusG n m], [xB]) := by
  have hz : (plusT n m).size ≤ 400 := by
    unfold plusT
    simp only [ByteArray.size_append]
    have := itoaB_size hn0 hn1
    have := itoaB_size hm0 hm1
    have : (⟨#[112, 108, 117, 115, 40]⟩ : ByteArray).size = 5 := rfl
    have : (⟨#[44]⟩ : ByteArray).size = 1 := rfl
    have : (⟨#[44, 88, 41, 46]⟩ : ByteArray).size = 4 := rfl
    omega
  refine read_quest (ν := [xB]) ⟨by simp, by simp, fun W hW => by simp at hW; subst hW; exact vx_ok⟩ (by simp) (by simp) (fun g hg => ?_) ?_ ?_ hz
  · simp at hg; subst hg
    refine goal_comp (d := 1) (qs := [[nuP n], [nuP m], [vrP 0]]) plusB_ok (by simp) (by simp) (fun q hq => ?_) (fun q hq p hp => ?_) rfl
    · simp at hq
      rcases hq with rfl | rfl | rfl <;> exact wf_atom _ rfl 0
    · simp at hq
      rcases hq with rfl | rfl | rfl <;> (simp at hp; subst hp)
      · exact part_num hn0 hn1
      · exact part_num hm0 hm1
      · exact part_var (i := 0) (by simp)
  · exact ⟨0, rfl, 0, rfl, 0, rfl, 1, .inr ⟨rfl, rfl⟩, rfl⟩
  · show plusT n m = txtG (wordN [xB]) (plusG n m) ++ ⟨#[46]⟩
    have h := txtG_comp (wordN [xB]) 1 plusB [[nuP n], [nuP m], [vrP 0]] (by simp) (fun q hq => by
      simp at hq
      rcases hq with rfl | rfl | rfl <;> exact wf_atom _ rfl 0)
    have h2 : txtG (wordN [xB]) (plusG n m) = plusB ++ (⟨#[40]⟩ ++ (txtG (wordN [xB]) [nuP n] ++ (⟨#[44]⟩ ++ (txtG (wordN [xB]) [nuP m] ++ (⟨#[44]⟩ ++ (txtG (wordN [xB]) [vrP 0] ++ ⟨#[41]⟩)))))) := h
    rw [h2, txtG_one _ _ rfl, txtG_one _ _ rfl, txtG_one _ _ rfl]
    have e1 : wordN [xB] (nuP n) = itoaB n := rfl
    have e2 : wordN [xB] (nuP m) = itoaB m := rfl
    have e3 : wordN [xB] (vrP 0) = xB := rfl
    rw [e1, e2, e3]
    refine bs_inj ?_
    unfold plusT
    simp only [bs_app, List.append_assoc]
    rfl
theorem quest_less {n m : Int} (hn0 : -999999999 ≤ n) (hn1 : n ≤ 999999999) (hm0 : -999999999 ≤ m) (hm1 : m ≤ 999999999) : questS (lessT n m) = .ok ([lessG n m], []) := by
  have hz : (lessT n m).size ≤ 400 := by
    unfold lessT
    simp only [ByteArray.size_append]
    have := itoaB_size hn0 hn1
    have := itoaB_size hm0 hm1
    have : (⟨#[108, 101, 115, 115, 40]⟩ : ByteArray).size = 5 := rfl
    have : (⟨#[44]⟩ : ByteArray).size = 1 := rfl
    have : (⟨#[41, 46]⟩ : ByteArray).size = 2 := rfl
    omega
  refine read_quest (ν := []) ⟨by simp, by simp, fun W hW => by simp at hW⟩ (by simp) (by simp) (fun g hg => ?_) ?_ ?_ hz
  · simp at hg; subst hg
    refine goal_comp (d := 1) (qs := [[nuP n], [nuP m]]) lessB_ok (by simp) (by simp) (fun q hq => ?_) (fun q hq p hp => ?_) rfl
    · simp at hq
      rcases hq with rfl | rfl <;> exact wf_atom _ rfl 0
    · simp at hq
      rcases hq with rfl | rfl <;> (simp at hp; subst hp)
      · exact part_num hn0 hn1
      · exact part_num hm0 hm1
  · exact ⟨0, rfl, 0, rfl, 0, rfl, rfl⟩
  · show lessT n m = txtG (wordN []) (lessG n m) ++ ⟨#[46]⟩
    have h := txtG_comp (wordN []) 1 lessB [[nuP n], [nuP m]] (by simp) (fun q hq => by
      simp at hq
      rcases hq with rfl | rfl <;> exact wf_atom _ rfl 0)
    have h2 : txtG (wordN []) (lessG n m) = lessB ++ (⟨#[40]⟩ ++ (txtG (wordN []) [nuP n] ++ (⟨#[44]⟩ ++ (txtG (wordN []) [nuP m] ++ ⟨#[41]⟩)))) := h
    rw [h2, txtG_one _ _ rfl, txtG_one _ _ rfl]
    have e1 : wordN [] (nuP n) = itoaB n := rfl
    have e2 : wordN [] (nuP m) = itoaB m := rfl
    rw [e1, e2]
    refine bs_inj ?_
    unfold lessT
    simp only [bs_app, List.append_assoc]
    rfl
def plusR (n m : Int) : Rep := if n + m < -999999999 ∨ 999999999 < n + m then repK 11 else ⟨1, xB ++ ⟨#[32, 61, 32]⟩ ++ itoaB (n + m), 0, 0⟩
theorem ask_plus {n m : Int} (hn0 : -999999999 ≤ n) (hn1 : n ≤ 999999999) (hm0 : -999999999 ≤ m) (hm1 : m ≤ 999999999) (q : Option Qs) : (askS ⟨2, [], q⟩ (plusT n m)).1 = plusR n m ∧ ∃ q', (askS ⟨2, [], q⟩ (plusT n m)).2 = ⟨2, [], q'⟩ := by
  unfold askS
  rw [quest_plus hn0 hn1 hm0 hm1]
  simp only []
  have hb : beginN [xB] = [xB] := by decide
  have hf : firstS ⟨2, [], q⟩ [plusG n m] [xB] = playN [] 2 (0, ⟨⟨[plusG n m], [[vrP 0]], 1⟩, []⟩) := by
    unfold firstS
    rw [if_neg (by show ¬ 200 < 4 + (1 + 0); omega)]
    rfl
  have ht : takeP [] ⟨⟨[plusG n m], [[vrP 0]], 1⟩, []⟩ = plusP ⟨⟨[plusG n m], [[vrP 0]], 1⟩, []⟩ (plusG n m) := by
    unfold takeP
    rw [if_pos (by rfl)]
    unfold builtP
    have e : (topP (goalP (⟨⟨[plusG n m], [[vrP 0]], 1⟩, []⟩ : Cf).now)) = nmP plusB 3 := rfl
    rw [e]
    rw [if_neg (by decide), if_neg (by decide), if_neg (by decide), if_neg (by decide), if_pos (by rfl)]
    rfl
  have hk : numbersK (plusG n m) = 0 := rfl
  have h0 : num0 (plusG n m) = n := rfl
  have h1 : num1 (plusG n m) = m := rfl
  rw [hb, hf, play_take (by simp), ht]
  unfold plusP plusR
  rw [if_pos hk, h0, h1]
  split
  · rw [play_end (by decide) (by decide)]
    exact ⟨rfl, _, rfl⟩
  · have ha : argT (plusG n m) 2 = [vrP 0] := rfl
    have hs : solveE ⟨[nuP (n + m)], [vrP 0], [], [], [[vrP 0]]⟩ = (0, ⟨[], [], [], [], [[nuP (n + m)]]⟩) := by
      rw [solve_second (p := nuP (n + m)) (q := vrP 0) (f := []) (s := []) (x := [nuP (n + m)]) (r := []) (by simp [nuP, vrP]) (by simp [nuP]) rfl rfl (lead_one _ _ rfl) rfl]
      · exact solve_nil _ _ _ _
      · show 0 + 0 + 0 + 0 + (1 + 0) ≤ 200; omega
    have hE : equalP ⟨⟨[plusG n m], [[vrP 0]], 1⟩, []⟩ (numT (n + m)) (argT (plusG n m) 2) = (0, ⟨⟨[], [[nuP (n + m)]], 1⟩, []⟩) := by
      unfold equalP
      rw [ha]
      have e : equalE ⟨⟨[plusG n m], [[vrP 0]], 1⟩, []⟩ (numT (n + m)) [vrP 0] = ⟨[nuP (n + m)], [vrP 0], [], [], [[vrP 0]]⟩ := rfl
      rw [e, hs]
      rfl
    rw [hE, play_answer' rfl]
    unfold replyS
    rw [if_pos rfl]
    refine ⟨?_, _, rfl⟩
    show (⟨1, textQ [xB] [[nuP (n + m)]], 0, 0⟩ : Rep) = _
    have ht2 : textQ [xB] [[nuP (n + m)]] = xB ++ ⟨#[32, 61, 32]⟩ ++ itoaB (n + m) := by
      unfold textQ
      rw [if_neg (by simp)]
      show lineQ (xB, [nuP (n + m)]) ++ (if ([] : List (ByteArray × List Part)) = [] then ⟨#[]⟩ else _) = _
      rw [if_pos rfl, app_emp]
      unfold lineQ
      rw [txtA_num]
    rw [ht2]
def lessR (n m : Int) : Rep := if n < m then ⟨1, yesB, 0, 0⟩ else repK 2
theorem ask_less {n m : Int} (hn0 : -999999999 ≤ n) (hn1 : n ≤ 999999999) (hm0 : -999999999 ≤ m) (hm1 : m ≤ 999999999) (q : Option Qs) : (askS ⟨2, [], q⟩ (lessT n m)).1 = lessR n m := by
  unfold askS
  rw [quest_less hn0 hn1 hm0 hm1]
  simp only []
  have hb : beginN [] = [] := rfl
  have hf : firstS ⟨2, [], q⟩ [lessG n m] [] = playN [] 2 (0, ⟨⟨[lessG n m], [], 0⟩, []⟩) := by
    unfold firstS
    rw [if_neg (by show ¬ 200 < 3 + 0; omega)]
    rfl
  have ht : takeP [] ⟨⟨[lessG n m], [], 0⟩, []⟩ = lessP ⟨⟨[lessG n m], [], 0⟩, []⟩ (lessG n m) := by
    unfold takeP
    rw [if_pos (by rfl)]
    unfold builtP
    have e : (topP (goalP (⟨⟨[lessG n m], [], 0⟩, []⟩ : Cf).now)) = nmP lessB 2 := rfl
    rw [e]
    rw [if_neg (by decide), if_neg (by decide), if_neg (by decide), if_pos (by rfl)]
    rfl
  have hk : numbersK (lessG n m) = 0 := rfl
  have h0 : num0 (lessG n m) = n := rfl
  have h1 : num1 (lessG n m) = m := rfl
  rw [hb, hf, play_take (by simp), ht]
  unfold lessP lessR
  rw [if_pos hk, h0, h1]
  split
  · show (replyS _ [] (playN [] 1 (0, ⟨⟨[], [], 0⟩, []⟩))).1 = _
    rw [play_answer' rfl]
    rfl
  · rw [play_fail, again_none rfl, play_end (by decide) (by decide)]
    rfl
end Rf.ReckonsL
/- Plain functions: not asked of facts (promise P9). -/
namespace Rf
theorem take_built {cs : List Cl} {cf : Cf} (h : isBuilt (goalP cf.now) = true) : takeP cs cf = builtP cf (goalP cf.now) := by unfold takeP; rw [if_pos h]
/-- A not that is taken. -/
theorem take_not {cs : List Cl} {g : List Part} {gs ts : List (List Part)} {f : Int} {chs : List Ch} (h : notK (argT g 0) = 0) (hg : topP g = nmP notB 1) (h20 : chs.length < 20) :
    takeP cs ⟨⟨g :: gs, ts, f⟩, chs⟩ = (0, ⟨⟨[argT g 0, cutT chs.length, failT], ts, f⟩, ⟨⟨gs, ts, f⟩, []⟩ :: chs⟩) := by
  have hgp : goalP (⟨g :: gs, ts, f⟩ : St) = g := rfl
  rw [take_built (by show isBuilt g = true; unfold isBuilt; rw [hg]; decide)]
  show builtP _ g = _
  unfold builtP
  rw [hg, if_neg (by decide), if_neg (by decide), if_neg (by decide), if_neg (by decide), if_neg (by decide), if_pos (by rfl)]
  unfold notP
  rw [if_pos h, if_neg (by simp only []; omega)]
  rfl
theorem take_cut {cs : List Cl} {h : Int} {gs ts : List (List Part)} {f : Int} {chs : List Ch} : takeP cs ⟨⟨cutT h :: gs, ts, f⟩, chs⟩ = (0, ⟨⟨gs, ts, f⟩, dropC chs h⟩) := by
  rw [take_built (by rfl)]
  show builtP _ (cutT h) = _
  unfold builtP
  rw [if_pos (by rfl)]
  rfl
theorem take_fail {cs : List Cl} {gs ts : List (List Part)} {f : Int} {chs : List Ch} : takeP cs ⟨⟨failT :: gs, ts, f⟩, chs⟩ = (-1, ⟨⟨failT :: gs, ts, f⟩, chs⟩) := by
  rw [take_built (by show isBuilt failT = true; decide)]
  show builtP _ failT = _
  unfold builtP
  rw [if_neg (by decide), if_neg (by decide), if_neg (by decide), if_neg (by decide), if_neg (by decide), if_neg (by decide)]
theorem again_not {cs : List Cl} {now s : St} {low : List Ch} : againP cs ⟨now, ⟨s, []⟩ :: low⟩ = (0, ⟨s, low⟩) := rfl
end Rf
namespace Rf.AbsentL
open Rf
def lastB : ByteArray := ⟨#[108, 97, 115, 116]⟩
def noneB : ByteArray := ⟨#[110, 111, 110, 101]⟩
def cls (a : List ByteArray) : List Cl := (a ++ [lastB]).map (fact1 pB)
/-- The goal p(c), asked of the facts. -/
theorem match_c (l : List ByteArray) (c : ByteArray) (gs ts : List (List Part)) (f : Int) (i : Nat) : (c ∈ l → ∃ k ks, matchN ⟨[nmP pB 1, nmP c 0] :: gs, ts, f⟩ i (l.map (fact1 pB)) = (i + k) :: ks ∧ l[k]? = some c) ∧ (c ∉ l → matchN ⟨[nmP pB 1, nmP c 0] :: gs, ts, f⟩ i (l.map (fact1 pB)) = []) := by
  have hm : ∀ d, matchB ⟨[nmP pB 1, nmP c 0] :: gs, ts, f⟩ (fact1 pB d) = decide (d = c) := by
    intro d
    unfold matchB
    have : hasPred ⟨[nmP pB 1, nmP c 0] :: gs, ts, f⟩ (fact1 pB d) = true := samePart_iff.2 rfl
    rw [this]
    by_cases h : d = c
    · rw [(with_fact_name pB d c gs ts f 0).1 h]; simp [h]
    · rw [(with_fact_name pB d c gs ts f 0).2 h]; simp [h]
  induction l generalizing i with
  | nil => exact ⟨(fun h => by cases h), fun _ => rfl⟩
  | cons d l ih =>
    rw [List.map_cons, matchN, hm]
    by_cases h : d = c
    · subst h
      rw [if_pos (by simp)]
      exact ⟨fun _ => ⟨0, matchN ⟨[nmP pB 1, nmP d 0] :: gs, ts, f⟩ (i + 1) (l.map (fact1 pB)), rfl, rfl⟩, fun h => absurd (by simp) h⟩
    · rw [if_neg (by simp [h])]
      constructor
      · intro hc
        have hc' : c ∈ l := by
          rcases List.mem_cons.1 hc with e | e
          · exact absurd e.symm h
          · exact e
        obtain ⟨k, ks, e1, e2⟩ := (ih (i + 1)).1 hc'
        exact ⟨k + 1, ks, by rw [e1]; simp; omega, by simpa using e2⟩
      · intro hc
        rw [(ih (i + 1)).2 (fun e => hc (List.mem_cons_of_mem _ e))]
        rfl
theorem known (a : List ByteArray) (x : Part) (gs ts : List (List Part)) (f : Int) : knownP ⟨[nmP pB 1, x] :: gs, ts, f⟩ (cls a) = true := by
  unfold knownP cls
  rw [List.map_append, List.any_append]
  have : hasPred ⟨[nmP pB 1, x] :: gs, ts, f⟩ (fact1 pB lastB) = true := samePart_iff.2 rfl
  simp [this]
theorem built (x : Part) : isBuilt [nmP pB 1, x] = false := by
  show ((3 : Int) == 4 || ((3 : Int) == 3 && builtInB pB 1)) = false
  decide
theorem take_p (a : List ByteArray) (x : Part) (gs ts : List (List Part)) (f : Int) (chs : List Ch) : takeP (cls a) ⟨⟨[nmP pB 1, x] :: gs, ts, f⟩, chs⟩ = chooseP (cls a) ⟨⟨[nmP pB 1, x] :: gs, ts, f⟩, chs⟩ (matchN ⟨[nmP pB 1, x] :: gs, ts, f⟩ 0 (cls a)) := by
  unfold takeP
  rw [if_neg (by rw [show isBuilt (goalP (⟨⟨[nmP pB 1, x] :: gs, ts, f⟩, chs⟩ : Cf).now) = false from built x]; simp), if_pos (known a x gs ts f)]
theorem cls_at {a : List ByteArray} {k : Nat} {c : ByteArray} (h : (a ++ [lastB])[k]? = some c) : (cls a).getD k noCl = fact1 pB c := by
  unfold cls
  rw [List.getD_eq_getElem?_getD, List.getElem?_map, h]; rfl
def notG (c : ByteArray) : List Part := [nmP notB 1, nmP pB 1, nmP c 0]
/-- The goal not(p(c)) with room for it: it is met just if c is none of the facts. -/
theorem not_start (a : List ByteArray) (c : ByteArray) (gs ts : List (List Part)) (f : Int) (n : Nat) : playN (cls a) (n + 4) (0, ⟨⟨notG c :: gs, ts, f⟩, []⟩) = playN (cls a) (n + 2) (chooseP (cls a) ⟨⟨[nmP pB 1, nmP c 0] :: [cutT 0, failT], ts, f⟩, [⟨⟨gs, ts, f⟩, []⟩]⟩ (matchN ⟨[nmP pB 1, nmP c 0] :: [cutT 0, failT], ts, f⟩ 0 ((a ++ [lastB]).map (fact1 pB)))) := by
  rw [play_take (by simp), take_not (by rfl) (by rfl) (by simp), play_take (by simp)]
  have harg : argT (notG c) 0 = [nmP pB 1, nmP c 0] := rfl
  rw [harg, take_p]
  rfl
theorem not_in {a : List ByteArray} {c : ByteArray} (gs ts : List (List Part)) (f : Int) (n : Nat) (hc : c ∈ a ++ [lastB]) : playN (cls a) (n + 4) (0, ⟨⟨notG c :: gs, ts, f⟩, []⟩) = (2, ⟨⟨[failT], ts, f⟩, []⟩) := by
  rw [not_start]
  obtain ⟨k, ks, e1, e2⟩ := (match_c (a ++ [lastB]) c [cutT 0, failT] ts f 0).1 hc
  rw [e1, Nat.zero_add]
  have hu : ∃ chs, chooseP (cls a) ⟨⟨[nmP pB 1, nmP c 0] :: [cutT 0, failT], ts, f⟩, [⟨⟨gs, ts, f⟩, []⟩]⟩ (k :: ks) = (0, ⟨⟨[cutT 0, failT], ts, f⟩, chs⟩) := by
    simp only [chooseP]
    rw [if_neg (by simp), cls_at e2]
    unfold useP
    rw [(with_fact_name pB c c [cutT 0, failT] ts f _).1 rfl]
    exact ⟨_, rfl⟩
  obtain ⟨chs, hu⟩ := hu
  rw [hu, play_take (by simp), take_cut, play_take (by simp), take_fail, play_fail]
  have hd : dropC chs 0 = [] := by unfold dropC; simp
  rw [hd, again_none rfl, play_end (by decide) (by decide)]
theorem not_out {a : List ByteArray} {c : ByteArray} (gs ts : List (List Part)) (f : Int) (n : Nat) (hc : c ∉ a ++ [lastB]) : playN (cls a) (n + 4) (0, ⟨⟨notG c :: gs, ts, f⟩, []⟩) = playN (cls a) (n + 2) (0, ⟨⟨gs, ts, f⟩, []⟩) := by
  rw [not_start, (match_c (a ++ [lastB]) c [cutT 0, failT] ts f 0).2 hc]
  show playN _ (n + 2) (-1, _) = _
  rw [play_fail]
  rfl
theorem notG_ok {ν : List ByteArray} {c : ByteArray} (hc : NmOk c) : GoalOk ν (notG c) := by
  refine goal_comp (d := 2) (qs := [[nmP pB 1, nmP c 0]]) notB_ok (by simp) (by simp) (fun q hq => ?_) (fun q hq p hp => ?_) rfl
  · simp at hq; subst hq
    exact .inr ⟨pB, [[nmP c 0]], by simp, fun q hq => by simp at hq; subst hq; exact wf_atom _ rfl 0, rfl⟩
  · simp at hq; subst hq
    simp at hp
    rcases hp with rfl | rfl
    · exact part_name pB_ok (by decide) (by decide)
    · exact part_name hc (by decide) (by decide)
theorem notG_txt (ν : List ByteArray) (c : ByteArray) : txtG (wordN ν) (notG c) = ⟨#[110, 111, 116, 40, 112, 40]⟩ ++ c ++ ⟨#[41, 41]⟩ := by
  have h := txtG_comp (wordN ν) 2 notB [[nmP pB 1, nmP c 0]] (by simp) (fun q hq => by
    simp at hq; subst hq
    exact .inr ⟨pB, [[nmP c 0]], by simp, fun q hq => by simp at hq; subst hq; exact wf_atom _ rfl 0, rfl⟩)
  have h2 := txtG_comp (wordN ν) 1 pB [[nmP c 0]] (by simp) (fun q hq => by simp at hq; subst hq; exact wf_atom _ rfl 0)
  have e1 : txtG (wordN ν) (notG c) = notB ++ (⟨#[40]⟩ ++ (txtG (wordN ν) [nmP pB 1, nmP c 0] ++ ⟨#[41]⟩)) := h
  have e2 : txtG (wordN ν) [nmP pB 1, nmP c 0] = pB ++ (⟨#[40]⟩ ++ (txtG (wordN ν) [nmP c 0] ++ ⟨#[41]⟩)) := h2
  rw [e1, e2, txtG_one _ _ rfl]
  have e3 : wordN ν (nmP c 0) = c := rfl
  rw [e3]
  refine bs_inj ?_
  simp only [bs_app, List.append_assoc]
  rfl
def askT (c : ByteArray) : ByteArray := ⟨#[110, 111, 116, 40, 112, 40]⟩ ++ c ++ ⟨#[41, 41, 46]⟩
theorem quest_c {c : ByteArray} (hc : NmOk c) : questS (askT c) = .ok ([notG c], []) := by
  have hsz : c.size ≤ 12 := by obtain ⟨x, W, e, _, _, hl⟩ := hc; rw [← bs_len, e]; exact hl
  refine read_quest (ν := []) (gs := [notG c]) ⟨by simp, by simp, fun W hW => by simp at hW⟩ (by simp) (by simp) (fun g hg => by simp at hg; subst hg; exact notG_ok hc) ⟨0, rfl, 0, rfl, 0, rfl, rfl⟩ ?_ ?_
  · show askT c = txtG (wordN []) (notG c) ++ ⟨#[46]⟩
    rw [notG_txt]
    refine bs_inj ?_
    unfold askT
    simp only [bs_app, List.append_assoc]
    rfl
  · unfold askT
    simp only [ByteArray.size_append]
    have : (⟨#[110, 111, 116, 40, 112, 40]⟩ : ByteArray).size = 6 := rfl
    have : (⟨#[41, 41, 46]⟩ : ByteArray).size = 3 := rfl
    omega
theorem first_c (a : List ByteArray) (c : ByteArray) (q : Option Qs) : firstS ⟨9, cls a, q⟩ [notG c] [] = playN (cls a) (5 + 4) (0, ⟨⟨notG c :: [], [], 0⟩, []⟩) := by
  unfold firstS
  rw [if_neg (by show ¬ 200 < 3 + 0; omega)]
  rfl
theorem ask_in {a : List ByteArray} {c : ByteArray} (hc : NmOk c) (hin : c ∈ a ++ [lastB]) (q : Option Qs) : askS ⟨9, cls a, q⟩ (askT c) = (repK 2, ⟨9, cls a, none⟩) := by
  unfold askS
  rw [quest_c hc]
  simp only []
  rw [first_c, not_in [] [] 0 5 hin]
  rfl
theorem ask_out {a : List ByteArray} {c : ByteArray} (hc : NmOk c) (hout : c ∉ a ++ [lastB]) (q : Option Qs) : askS ⟨9, cls a, q⟩ (askT c) = (⟨1, yesB, 0, 0⟩, ⟨9, cls a, some ⟨[], []⟩⟩) := by
  unfold askS
  rw [quest_c hc]
  simp only []
  rw [first_c, not_out [] [] 0 5 hout, play_answer' rfl]
  rfl
def freeT : ByteArray := ⟨#[110, 111, 116, 40, 110, 111, 116, 40, 112, 40, 88, 41, 41, 41, 44, 110, 111, 116, 40, 112, 40, 110, 111, 110, 101, 41, 41, 46]⟩
def notnotG : List Part := [nmP notB 1, nmP notB 1, nmP pB 1, vrP 0]
theorem noneB_ok : NmOk noneB := ⟨110, [111, 110, 101], rfl, by decide, by decide, by decide⟩
theorem quest_free : questS freeT = .ok ([notnotG, notG noneB], [xB]) := by
  refine read_quest (ν := [xB]) (gs := [notnotG, notG noneB]) ⟨by simp, by simp, fun W hW => by simp at hW; subst hW; exact vx_ok⟩ (by simp) (by simp) (fun g hg => ?_) ⟨0, rfl, 0, rfl, 0, rfl, 1, .inr ⟨rfl, rfl⟩, 1, rfl, 1, rfl, 1, rfl, rfl⟩ rfl (by decide)
  simp at hg
  rcases hg with rfl | rfl
  · have w1 : Wf 2 [nmP pB 1, vrP 0] := .inr ⟨pB, [[vrP 0]], by simp, fun q hq => by simp at hq; subst hq; exact wf_atom _ rfl 0, rfl⟩
    have w2 : Wf 3 [nmP notB 1, nmP pB 1, vrP 0] := .inr ⟨notB, [[nmP pB 1, vrP 0]], by simp, fun q hq => by simp at hq; subst hq; exact w1, rfl⟩
    refine goal_comp (d := 3) (qs := [[nmP notB 1, nmP pB 1, vrP 0]]) notB_ok (by simp) (by simp) (fun q hq => by simp at hq; subst hq; exact w2) (fun q hq p hp => ?_) rfl
    simp at hq; subst hq
    simp at hp
    rcases hp with rfl | rfl | rfl
    · exact part_name notB_ok (by decide) (by decide)
    · exact part_name pB_ok (by decide) (by decide)
    · exact part_var (i := 0) (by simp)
  · exact notG_ok noneB_ok
theorem ask_free {a : List ByteArray} (hn : noneB ∉ a) (q : Option Qs) : (askS ⟨9, cls a, q⟩ freeT).1 = ⟨1, xB ++ ⟨#[32, 61, 32]⟩ ++ ⟨#[95, 49]⟩, 0, 0⟩ := by
  unfold askS
  rw [quest_free]
  simp only []
  have hb : beginN [xB] = [xB] := by decide
  have hf : firstS ⟨9, cls a, q⟩ [notnotG, notG noneB] [xB] = playN (cls a) 9 (0, ⟨⟨notnotG :: [notG noneB], [[vrP 0]], 1⟩, []⟩) := by
    unfold firstS
    rw [if_neg (by decide)]
    rfl
  rw [hb, hf, play_take (by simp), take_not (by rfl) (by rfl) (by simp), play_take (by simp)]
  have h1 : argT notnotG 0 = [nmP notB 1, nmP pB 1, vrP 0] := rfl
  rw [h1, take_not (by rfl) (by rfl) (by simp), play_take (by simp)]
  have h2 : argT [nmP notB 1, nmP pB 1, vrP 0] 0 = [nmP pB 1, vrP 0] := rfl
  rw [h2, take_p]
  have hm : ∃ ks, matchN (⟨[nmP pB 1, vrP 0] :: [cutT 1, failT], [[vrP 0]], 1⟩ : St) 0 (cls a) = 0 :: ks := by
    have hall := matchN_all (⟨[nmP pB 1, vrP 0] :: [cutT 1, failT], [[vrP 0]], 1⟩ : St) 0 (cls a) (fun c hc => by
      unfold cls at hc
      obtain ⟨d, _, rfl⟩ := List.mem_map.1 hc
      unfold matchB
      have : hasPred (⟨[nmP pB 1, vrP 0] :: [cutT 1, failT], [[vrP 0]], 1⟩ : St) (fact1 pB d) = true := samePart_iff.2 rfl
      rw [this, with_fact_var pB d 0 [cutT 1, failT] [[vrP 0]] 1 0 (by simp [sizeT, putV, isV, vrP, cutT, failT])]
      rfl)
    have hl : (cls a).length = a.length + 1 := by unfold cls; simp
    rw [hl, List.range'_succ] at hall
    exact ⟨_, hall⟩
  obtain ⟨ks, hm⟩ := hm
  obtain ⟨d, hd⟩ : ∃ d, (a ++ [lastB])[0]? = some d := ⟨(a ++ [lastB])[0]'(by simp), List.getElem?_eq_getElem _⟩
  show (replyS _ _ (playN _ 6 (chooseP _ ⟨⟨[nmP pB 1, vrP 0] :: [cutT 1, failT], [[vrP 0]], 1⟩, [⟨⟨[cutT 0, failT], [[vrP 0]], 1⟩, []⟩, ⟨⟨[notG noneB], [[vrP 0]], 1⟩, []⟩]⟩ (matchN (⟨[nmP pB 1, vrP 0] :: [cutT 1, failT], [[vrP 0]], 1⟩ : St) 0 (cls a))))).1 = _
  rw [hm]
  have hu : ∃ ch, chooseP (cls a) ⟨⟨[nmP pB 1, vrP 0] :: [cutT 1, failT], [[vrP 0]], 1⟩, [⟨⟨[cutT 0, failT], [[vrP 0]], 1⟩, []⟩, ⟨⟨[notG noneB], [[vrP 0]], 1⟩, []⟩]⟩ (0 :: ks) = (0, ⟨⟨[cutT 1, failT], [[nmP d 0]], 1⟩, ch⟩) ∧ dropC ch 1 = [⟨⟨[notG noneB], [[vrP 0]], 1⟩, []⟩] := by
    simp only [chooseP]
    rw [if_neg (by simp), cls_at hd]
    unfold useP
    rw [with_fact_var pB d 0 [cutT 1, failT] [[vrP 0]] 1 _ (by simp [sizeT, putV, isV, vrP, cutT, failT])]
    refine ⟨_, rfl, ?_⟩
    unfold putCh dropC
    split <;> rfl
  obtain ⟨ch, hu, hdrop⟩ := hu
  rw [hu, play_take (by simp), take_cut, hdrop, play_take (by simp), take_fail, play_fail, again_not]
  have hni : noneB ∉ a ++ [lastB] := by
    intro e
    rcases List.mem_append.1 e with e | e
    · exact hn e
    · simp at e; exact absurd e (by decide)
  show (replyS _ _ (playN _ (0 + 4) _)).1 = _
  rw [not_out [] [[vrP 0]] 1 0 hni, play_answer' rfl]
  unfold replyS
  rw [if_pos rfl]
  have : textQ [xB] [[vrP 0]] = xB ++ ⟨#[32, 61, 32]⟩ ++ ⟨#[95, 49]⟩ := by
    unfold textQ
    rw [if_neg (by simp)]
    show lineQ (xB, [vrP 0]) ++ (if ([] : List (ByteArray × List Part)) = [] then ⟨#[]⟩ else _) = _
    rw [if_pos rfl, app_emp]
    unfold lineQ
    have e : txtA [vrP 0] = ⟨#[95]⟩ ++ itoaB 1 ++ (⟨#[]⟩ ++ ⟨#[]⟩) := rfl
    have e2 : itoaB 1 = ⟨#[49]⟩ := by
      unfold itoaB Go.Lib.itoa
      rw [if_neg (by decide), Go.Lib.decDigits, dif_pos (by decide)]
      rfl
    rw [e, e2]
    rfl
  show (⟨1, textQ [xB] [[vrP 0]], 0, 0⟩ : Rep) = _
  rw [this]
end Rf.AbsentL
