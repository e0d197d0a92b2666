/- Plain functions: pairs solved one after the other, as rules; facts and what is asked of them (promises P7, P10, P12). -/
import Derived.Test.YtpdikdnffehmkaaGreatDoorYaj
namespace Rf
theorem solve_done {e : Eqn} (h : doneE e = true) : solveE e = (0, e) := by rw [solveE_step, if_pos h]
theorem solve_nil (s : List Part) (bo be te : List (List Part)) : solveE ⟨[], s, bo, be, te⟩ = (0, ⟨[], s, bo, be, te⟩) := solve_done rfl
theorem solve_same (p : Part) (f s : List Part) (bo be te : List (List Part)) : solveE ⟨p :: f, p :: s, bo, be, te⟩ = solveE ⟨f, s, bo, be, te⟩ := by
  have hs : stepE ⟨p :: f, p :: s, bo, be, te⟩ = (0, ⟨f, s, bo, be, te⟩) := by simp only [stepE]; rw [if_pos (samePart_iff.2 rfl)]
  rw [solveE_step, if_neg (by simp [doneE]), hs, if_pos rfl]
theorem solve_clash {p q : Part} (f s : List Part) (bo be te : List (List Part)) (hne : p ≠ q) (h1 : p.kind ≠ 1) (h2 : q.kind ≠ 1) : (solveE ⟨p :: f, q :: s, bo, be, te⟩).1 = -1 := by
  have hs : stepE ⟨p :: f, q :: s, bo, be, te⟩ = (-1, ⟨p :: f, q :: s, bo, be, te⟩) := by
    simp only [stepE]; rw [if_neg (fun e => hne (samePart_iff.1 e)), if_neg h1, if_neg h2]
  rw [solveE_step, if_neg (by simp [doneE]), hs, if_neg (by simp)]
theorem solve_first {p q : Part} {f s x r : List Part} {bo be te : List (List Part)} (hne : p ≠ q) (h1 : p.kind = 1) (hx : q :: s = x ++ r) (hl : leadT (q :: s) = x.length) (hc : countV p.value x = 0) (hz : ((⟨f, r, bo, be, te⟩ : Eqn).put p.value x).size ≤ 200) : solveE ⟨p :: f, q :: s, bo, be, te⟩ = solveE ((⟨f, r, bo, be, te⟩ : Eqn).put p.value x) := by
  have ht : (q :: s).take (leadT (q :: s)) = x := by rw [hl, hx, List.take_left']; rfl
  have hd : (q :: s).drop (leadT (q :: s)) = r := by rw [hl, hx, List.drop_left']; rfl
  have hs : stepE ⟨p :: f, q :: s, bo, be, te⟩ = (0, (⟨f, r, bo, be, te⟩ : Eqn).put p.value x) := by
    simp only [stepE]; rw [if_neg (fun e => hne (samePart_iff.1 e)), if_pos h1, ht, hd]
    unfold putE
    rw [if_neg (by omega), if_neg (by omega)]
  rw [solveE_step, if_neg (by simp [doneE]), hs, if_pos rfl]
theorem solve_second {p q : Part} {f s x r : List Part} {bo be te : List (List Part)} (hne : p ≠ q) (h0 : p.kind ≠ 1) (h1 : q.kind = 1) (hx : p :: f = x ++ r) (hl : leadT (p :: f) = x.length) (hc : countV q.value x = 0) (hz : ((⟨r, s, bo, be, te⟩ : Eqn).put q.value x).size ≤ 200) : solveE ⟨p :: f, q :: s, bo, be, te⟩ = solveE ((⟨r, s, bo, be, te⟩ : Eqn).put q.value x) := by
  have ht : (p :: f).take (leadT (p :: f)) = x := by rw [hl, hx, List.take_left']; rfl
  have hd : (p :: f).drop (leadT (p :: f)) = r := by rw [hl, hx, List.drop_left']; rfl
  have hs : stepE ⟨p :: f, q :: s, bo, be, te⟩ = (0, (⟨r, s, bo, be, te⟩ : Eqn).put q.value x) := by
    simp only [stepE]; rw [if_neg (fun e => hne (samePart_iff.1 e)), if_neg h0, if_pos h1, ht, hd]
    unfold putE
    rw [if_neg (by omega), if_neg (by omega)]
  rw [solveE_step, if_neg (by simp [doneE]), hs, if_pos rfl]
def nmP (s : ByteArray) (n : Int) : Part := ⟨3, s, 0, n⟩
def vrP (i : Int) : Part := ⟨1, ⟨#[]⟩, i, 0⟩
def fact1 (p c : ByteArray) : Cl := ⟨[nmP p 1, nmP c 0], [], 0⟩
theorem fact_past (p c : ByteArray) : pastC (fact1 p c) = 0 := rfl
theorem fact_own (p c : ByteArray) (off h : Int) : ownT off h (fact1 p c).head = [nmP p 1, nmP c 0] := rfl
theorem lead_one (p : Part) (t : List Part) (h : p.args = 0) : leadT (p :: t) = 1 := by unfold leadT; rw [leadN, if_pos (by omega)]
/-- A goal with a variable, and a fact. -/
theorem with_fact_var (p c : ByteArray) (v : Int) (gs ts : List (List Part)) (fr h : Int) (hz : sizeT (gs.map (putV v [nmP c 0])) + sizeT (ts.map (putV v [nmP c 0])) ≤ 200) :
    withS ⟨[nmP p 1, vrP v] :: gs, ts, fr⟩ (fact1 p c) h = (0, ⟨gs.map (putV v [nmP c 0]), ts.map (putV v [nmP c 0]), fr⟩) := by
  have hE : withE ⟨[nmP p 1, vrP v] :: gs, ts, fr⟩ (fact1 p c) h = ⟨[nmP p 1, vrP v], [nmP p 1, nmP c 0], [], gs, ts⟩ := rfl
  have hs : solveE ⟨[nmP p 1, vrP v], [nmP p 1, nmP c 0], [], gs, ts⟩ = (0, ⟨[], [], [], gs.map (putV v [nmP c 0]), ts.map (putV v [nmP c 0])⟩) := by
    rw [solve_same, solve_first (p := vrP v) (q := nmP c 0) (f := []) (s := []) (x := [nmP c 0]) (r := []) (by simp [vrP, nmP]) rfl rfl (lead_one _ _ rfl) rfl]
    · exact solve_nil _ _ _ _
    · show 0 + 0 + 0 + sizeT (gs.map (putV v [nmP c 0])) + sizeT (ts.map (putV v [nmP c 0])) ≤ 200
      omega
  unfold withS
  rw [hE, hs, if_pos rfl, fact_past]
  simp
/-- A goal with a name, and a fact. -/
theorem with_fact_name (p c d : ByteArray) (gs ts : List (List Part)) (fr h : Int) :
    (c = d → withS ⟨[nmP p 1, nmP d 0] :: gs, ts, fr⟩ (fact1 p c) h = (0, ⟨gs, ts, fr⟩)) ∧ (c ≠ d → (withS ⟨[nmP p 1, nmP d 0] :: gs, ts, fr⟩ (fact1 p c) h).1 = -1) := by
  have hE : withE ⟨[nmP p 1, nmP d 0] :: gs, ts, fr⟩ (fact1 p c) h = ⟨[nmP p 1, nmP d 0], [nmP p 1, nmP c 0], [], gs, ts⟩ := rfl
  constructor
  · rintro rfl
    have hs : solveE ⟨[nmP p 1, nmP c 0], [nmP p 1, nmP c 0], [], gs, ts⟩ = (0, ⟨[], [], [], gs, ts⟩) := by rw [solve_same, solve_same, solve_nil]
    unfold withS
    rw [hE, hs, if_pos rfl, fact_past]
    simp
  · intro hne
    have hs : (solveE ⟨[nmP p 1, nmP d 0], [nmP p 1, nmP c 0], [], gs, ts⟩).1 = -1 := by
      rw [solve_same]
      exact solve_clash _ _ _ _ _ (by simp [nmP]; exact fun e => hne e.symm) (by simp [nmP]) (by simp [nmP])
    unfold withS
    rw [hE, hs, if_neg (by simp)]
/-- All clauses match. -/
theorem matchN_all (S : St) : ∀ (i : Nat) (cs : List Cl), (∀ c ∈ cs, matchB S c = true) → matchN S i cs = List.range' i cs.length
  | _, [], _ => rfl
  | i, c :: cs, h => by
    rw [matchN, if_pos (h c (by simp)), matchN_all S (i + 1) cs (fun d hd => h d (List.mem_cons_of_mem _ hd)), List.length_cons, List.range'_succ]
    rfl
theorem matchN_none (S : St) : ∀ (i : Nat) (cs : List Cl), (∀ c ∈ cs, matchB S c = false) → matchN S i cs = []
  | _, [], _ => rfl
  | i, c :: cs, h => by
    rw [matchN, if_neg (by rw [h c (by simp)]; simp), matchN_none S (i + 1) cs (fun d hd => h d (List.mem_cons_of_mem _ hd))]
    rfl
theorem matchN_app (S : St) : ∀ (i : Nat) (a b : List Cl), matchN S i (a ++ b) = matchN S i a ++ matchN S (i + a.length) b
  | _, [], _ => by simp [matchN]
  | i, c :: a, b => by
    rw [List.cons_append, matchN, matchN, matchN_app S (i + 1) a b, List.length_cons, List.append_assoc, show i + 1 + a.length = i + (a.length + 1) by omega]
def pB : ByteArray := ⟨#[112]⟩
def qB : ByteArray := ⟨#[113]⟩
def xB : ByteArray := ⟨#[88]⟩
/-- Playing on: a step that takes a goal. -/
theorem play_take {cs : List Cl} {n : Nat} {cf : Cf} (h : cf.now.goals ≠ []) : playN cs (n + 1) (0, cf) = playN cs n (takeP cs cf) := by
  rw [playN_eq, settle_ok (by simp), if_neg (by simp), if_neg h]
theorem play_answer' {cs : List Cl} {n : Nat} {cf : Cf} (h : cf.now.goals = []) : playN cs n (0, cf) = (1, cf) := by
  rw [playN_eq, settle_ok (by simp), if_neg (by simp), if_pos h]
theorem play_fail {cs : List Cl} {n : Nat} {cf : Cf} : playN cs n (-1, cf) = playN cs n (againP cs cf) := by
  rw [playN_eq, playN_eq, settle_fail]
theorem play_end {cs : List Cl} {n : Nat} {k : Int} {cf : Cf} (h : k ≠ 0) (h1 : k ≠ -1) : playN cs n (k, cf) = (k, cf) := by
  rw [playN_eq, settle_ok (by exact h1), if_pos (by exact h)]
theorem take_user {cs : List Cl} {cf : Cf} (h : isBuilt (goalP cf.now) = false) (hk : knownP cf.now cs = true) : takeP cs cf = chooseP cs cf (matchN cf.now 0 cs) := by
  unfold takeP; rw [if_neg (by rw [h]; simp), if_pos hk]
theorem take_unknown {cs : List Cl} {cf : Cf} (h : isBuilt (goalP cf.now) = false) (hk : knownP cf.now cs = false) : takeP cs cf = (12, cf) := by
  unfold takeP; rw [if_neg (by rw [h]; simp), if_neg (by rw [hk]; simp)]
theorem ren_atom (c : ByteArray) : (renTs [] [[nmP c 0]]).1 = [[nmP c 0]] := rfl
theorem txtA_atom (c : ByteArray) : txtA [nmP c 0] = c := by
  show wordA (nmP c 0) ++ ((closeP []).1 ++ textW false [] []) = c
  have : wordA (nmP c 0) = c := rfl
  rw [this]
  show c ++ (⟨#[]⟩ ++ ⟨#[]⟩) = c
  rw [emp_app, app_emp]
/-- The text of an answer with one variable. -/
theorem text_one (x c : ByteArray) : textQ [x] [[nmP c 0]] = x ++ ⟨#[32, 61, 32]⟩ ++ c := by
  unfold textQ
  rw [if_neg (by simp), ren_atom]
  show lineQ (x, [nmP c 0]) ++ (if ([] : List (ByteArray × List Part)) = [] then ⟨#[]⟩ else _) = _
  rw [if_pos rfl, app_emp]
  unfold lineQ
  rw [txtA_atom]
end Rf
namespace Rf.FactsL
open Rf
def S0 : St := ⟨[[nmP pB 1, vrP 0]], [[vrP 0]], 1⟩
def cls (cs : List ByteArray) : List Cl := cs.map (fact1 pB)
def chs (n i : Nat) : List Ch := if i < n then [⟨S0, List.range' i (n - i)⟩] else []
theorem ren_S0 : renS S0 = S0 := rfl
theorem ren_chs (n i : Nat) : (chs n i).map renC = chs n i := by
  unfold chs
  split
  · rfl
  · rfl
theorem with_S0 (c : ByteArray) (h : Int) : withS S0 (fact1 pB c) h = (0, ⟨[], [[nmP c 0]], 1⟩) := with_fact_var pB c 0 [] [[vrP 0]] 1 h (by simp [sizeT, putV, isV, vrP])
def st (cs : List ByteArray) (i : Nat) : Se := ⟨1, cls cs, if i < cs.length then some ⟨[xB], chs cs.length (i + 1)⟩ else none⟩
def rep (cs : List ByteArray) (i : Nat) : Rep := match cs[i]? with
  | some c => ⟨1, xB ++ ⟨#[32, 61, 32]⟩ ++ c, 0, 0⟩
  | none => repK 2
theorem use_at (cs : List ByteArray) (i : Nat) (c : ByteArray) (hc : cs[i]? = some c) (now : St) : useP ⟨now, putCh [] S0 (List.range' (i + 1) (cs.length - (i + 1)))⟩ S0 (fact1 pB c) 0 = (0, ⟨⟨[], [[nmP c 0]], 1⟩, chs cs.length (i + 1)⟩) := by
  have hi : i < cs.length := (List.getElem?_eq_some_iff.1 hc).1
  unfold useP
  rw [with_S0]
  simp only [if_true]
  unfold putCh chs
  by_cases h : i + 1 < cs.length
  · rw [if_neg (by intro e; have := congrArg List.length e; rw [List.length_range'] at this; simp at this; omega), if_pos h]
  · rw [if_pos (by rw [show cs.length - (i + 1) = 0 by omega]; rfl), if_neg h]
theorem reply_at (cs : List ByteArray) (i : Nat) (c : ByteArray) (hc : cs[i]? = some c) (q : Option Qs) :
    replyS ⟨1, cls cs, q⟩ [xB] (1, ⟨⟨[], [[nmP c 0]], 1⟩, chs cs.length (i + 1)⟩) = (rep cs i, st cs i) := by
  have hi : i < cs.length := (List.getElem?_eq_some_iff.1 hc).1
  unfold replyS
  rw [if_pos rfl]
  show (_, _) = _
  rw [text_one, ren_chs]
  unfold rep st
  rw [hc, if_pos hi]
theorem cls_at (cs : List ByteArray) (i : Nat) (c : ByteArray) (hc : cs[i]? = some c) : (cls cs).getD i noCl = fact1 pB c := by
  unfold cls
  rw [List.getD_eq_getElem?_getD, List.getElem?_map, hc]; rfl
theorem quest_px : questS (⟨#[112, 40, 88, 41, 46]⟩ : ByteArray) = .ok ([[nmP pB 1, vrP 0]], [xB]) := by
  have hx : VrOk xB := ⟨⟨88, [], rfl, by decide, by decide, by decide, by decide⟩, by decide⟩
  have hp : NmOk pB := ⟨112, [], rfl, by decide, by decide, by decide⟩
  refine read_quest (ν := [xB]) ⟨by simp, by simp, fun W hW => by simp at hW; subst hW; exact hx⟩ (by simp) (by simp) (fun g hg => ?_) ?_ rfl (by decide)
  · simp at hg; subst hg
    refine .inr ⟨⟨2, .inr ⟨pB, [[vrP 0]], by simp, fun q hq => by simp at hq; subst hq; exact .inl ⟨_, rfl, rfl⟩, rfl⟩⟩, fun p hp2 => ?_, rfl⟩
    simp at hp2
    rcases hp2 with rfl | rfl
    · exact .inr (.inr ⟨rfl, rfl, hp, by decide, by decide⟩)
    · exact .inl ⟨rfl, rfl, rfl, by decide, by decide⟩
  · exact ⟨0, rfl, 1, .inr ⟨rfl, rfl⟩, rfl⟩
theorem match_S0 (cs : List ByteArray) : matchN S0 0 (cls cs) = List.range' 0 cs.length := by
  rw [matchN_all S0 0 (cls cs) (fun c hc => ?_)]
  · unfold cls; rw [List.length_map]
  · unfold cls at hc
    obtain ⟨d, _, rfl⟩ := List.mem_map.1 hc
    unfold matchB
    rw [with_S0]
    have : hasPred S0 (fact1 pB d) = true := samePart_iff.2 rfl
    rw [this]; rfl
theorem more_at (cs : List ByteArray) (i : Nat) (hi : i < cs.length) : moreS (st cs i) = (rep cs (i + 1), st cs (i + 1)) := by
  unfold moreS
  have hq : (st cs i).q = some ⟨[xB], chs cs.length (i + 1)⟩ := by unfold st; rw [if_pos hi]
  rw [hq]
  simp only []
  unfold nextS
  show replyS _ [xB] (playN (cls cs) 1 (-1, ⟨stNone, chs cs.length (i + 1)⟩)) = _
  rw [play_fail]
  by_cases h : i + 1 < cs.length
  · obtain ⟨c, hc⟩ : ∃ c, cs[i + 1]? = some c := ⟨cs[i + 1], List.getElem?_eq_getElem h⟩
    have hch : chs cs.length (i + 1) = [⟨S0, (i + 1) :: List.range' (i + 1 + 1) (cs.length - (i + 1 + 1))⟩] := by
      unfold chs
      rw [if_pos h, show cs.length - (i + 1) = (cs.length - (i + 1 + 1)) + 1 by omega, List.range'_succ]
    have ha : againP (cls cs) ⟨stNone, chs cs.length (i + 1)⟩ = (0, ⟨⟨[], [[nmP c 0]], 1⟩, chs cs.length (i + 1 + 1)⟩) := by
      rw [hch]
      show useP ⟨stNone, putCh [] S0 _⟩ S0 ((cls cs).getD (i + 1) noCl) 0 = _
      rw [cls_at cs (i + 1) c hc]
      exact use_at cs (i + 1) c hc stNone
    rw [ha, play_answer' rfl]
    exact reply_at cs (i + 1) c hc _
  · have hch : chs cs.length (i + 1) = [] := by unfold chs; rw [if_neg h]
    rw [hch, again_none rfl, play_end (by decide) (by decide)]
    unfold replyS rep st
    rw [if_neg (by simp), List.getElem?_eq_none (by omega), if_neg h]
theorem more_end (cs : List ByteArray) : moreS (st cs cs.length) = (repK 3, st cs cs.length) := by
  unfold moreS
  have hq : (st cs cs.length).q = none := by unfold st; rw [if_neg (by omega)]
  rw [hq]
theorem ask_at (cs : List ByteArray) (q : Option Qs) (h : cs ≠ []) : askS ⟨1, cls cs, q⟩ ⟨#[112, 40, 88, 41, 46]⟩ = (rep cs 0, st cs 0) := by
  cases cs with
  | nil => exact absurd rfl h
  | cons c cs' =>
    unfold askS
    rw [quest_px]
    simp only []
    have hb : beginN [xB] = [xB] := by decide
    have hf : firstS ⟨1, cls (c :: cs'), q⟩ [[nmP pB 1, vrP 0]] [xB] = playN (cls (c :: cs')) 1 (0, ⟨S0, []⟩) := by
      unfold firstS
      rw [if_neg (by decide)]
      rfl
    rw [hb, hf, play_take (by simp [S0]), take_user (by decide) ?_]
    · show replyS _ _ (playN _ 0 (chooseP _ ⟨S0, []⟩ (matchN S0 0 (cls (c :: cs'))))) = _
      rw [match_S0, List.length_cons, List.range'_succ]
      have hc : chooseP (cls (c :: cs')) ⟨S0, []⟩ (0 :: List.range' (0 + 1) cs'.length) = (0, ⟨⟨[], [[nmP c 0]], 1⟩, chs (c :: cs').length (0 + 1)⟩) := by
        simp only [chooseP]
        rw [if_neg (by simp)]
        exact use_at (c :: cs') 0 c rfl S0
      rw [hc, play_answer' rfl]
      exact reply_at (c :: cs') 0 c rfl _
    · rfl
theorem ask_none (q : Option Qs) : askS ⟨1, cls [], q⟩ ⟨#[112, 40, 88, 41, 46]⟩ = (repK 12, ⟨1, [], none⟩) := by
  unfold askS
  rw [quest_px]
  simp only []
  have hf : firstS ⟨1, cls [], q⟩ [[nmP pB 1, vrP 0]] [xB] = playN [] 1 (0, ⟨S0, []⟩) := by
    unfold firstS
    rw [if_neg (by decide)]
    rfl
  rw [hf, play_take (by simp [S0]), take_unknown (by decide) rfl, play_end (by decide) (by decide)]
  rfl
end Rf.FactsL
/- Plain functions: two goals with a variable in common (promises P8, P10). -/
namespace Rf
theorem vx_ok : VrOk xB := ⟨⟨88, [], rfl, by decide, by decide, by decide, by decide⟩, by decide⟩
theorem pB_ok : NmOk pB := ⟨112, [], rfl, by decide, by decide, by decide⟩
theorem qB_ok : NmOk qB := ⟨113, [], rfl, by decide, by decide, by decide⟩
theorem goal_var {ν : List ByteArray} {p : ByteArray} (hp : NmOk p) {i : Nat} (hi : i < ν.length) : GoalOk ν [nmP p 1, vrP i] := by
  refine .inr ⟨⟨2, .inr ⟨p, [[vrP i]], by simp, fun q hq => by simp at hq; subst hq; exact .inl ⟨_, rfl, rfl⟩, rfl⟩⟩, fun x hx => ?_, rfl⟩
  simp at hx
  rcases hx with rfl | rfl
  · exact .inr (.inr ⟨rfl, rfl, hp, by simp [nmP], by simp [nmP]⟩)
  · exact .inl ⟨rfl, rfl, rfl, by simp [vrP], by simp [vrP]; exact hi⟩
theorem samePred_ne {S : St} {c : Cl} (h : topP c.head ≠ topP (goalP S)) : hasPred S c = false := by
  unfold hasPred
  cases hh : samePart (topP c.head) (topP (goalP S)) with
  | false => rfl
  | true => exact absurd (samePart_iff.1 hh) h
theorem take_append_of_none (S : St) (a b : List Cl) (h : ∀ c ∈ a, hasPred S c = false) : matchN S 0 (a ++ b) = matchN S a.length b := by
  rw [matchN_app, matchN_none S 0 a (fun c hc => by unfold matchB; rw [h c hc]; rfl), List.nil_append, Nat.zero_add]
end Rf
namespace Rf.JoinedL
open Rf
def S0 : St := ⟨[[nmP pB 1, vrP 0], [nmP qB 1, vrP 0]], [[vrP 0]], 1⟩
def Q (f : Int) (c : ByteArray) : St := ⟨[[nmP qB 1, nmP c 0]], [[nmP c 0]], f⟩
def cls (a b : List ByteArray) : List Cl := a.map (fact1 pB) ++ b.map (fact1 qB)
def pch (n i : Nat) : List Ch := if i < n then [⟨S0, List.range' i (n - i)⟩] else []
def qch (f : Int) (c : ByteArray) (ks : List Nat) : List Ch := if ks = [] then [] else [⟨Q f c, ks⟩]
def M (n : Nat) (b : List ByteArray) (c : ByteArray) (k : Nat) : List Nat := matchN (Q 0 c) (n + k) ((b.drop k).map (fact1 qB))
theorem with_S0 (c : ByteArray) (h : Int) : withS S0 (fact1 pB c) h = (0, Q 1 c) := with_fact_var pB c 0 [[nmP qB 1, vrP 0]] [[vrP 0]] 1 h (by simp [sizeT, putV, isV, vrP, nmP])
theorem match_Q (f : Int) (c d : ByteArray) : matchB (Q f c) (fact1 qB d) = decide (d = c) := by
  unfold matchB
  have : hasPred (Q f c) (fact1 qB d) = true := samePart_iff.2 rfl
  rw [this]
  by_cases h : d = c
  · have := (with_fact_name qB d c [] [[nmP c 0]] f 0).1 h
    unfold Q
    rw [this]; simp [h]
  · have := (with_fact_name qB d c [] [[nmP c 0]] f 0).2 h
    unfold Q
    rw [this]; simp [h]
theorem M_cons (n : Nat) (b : List ByteArray) (c d : ByteArray) (k : Nat) (hk : b[k]? = some d) : M n b c k = (if d = c then [n + k] else []) ++ M n b c (k + 1) := by
  obtain ⟨h1, h2⟩ := List.getElem?_eq_some_iff.1 hk
  unfold M
  rw [List.drop_eq_getElem_cons h1, h2, List.map_cons, matchN, match_Q]
  simp only [decide_eq_true_eq]
  rfl
theorem M_end (n : Nat) (b : List ByteArray) (c : ByteArray) : M n b c b.length = [] := by unfold M; rw [List.drop_length]; rfl
theorem M_mem (n : Nat) (b : List ByteArray) (c : ByteArray) (k j : Nat) (h : j ∈ M n b c k) : ∃ i, j = n + i ∧ b[i]? = some c := by
  unfold M at h
  have key : ∀ (l : List ByteArray) (m j : Nat), j ∈ matchN (Q 0 c) m (l.map (fact1 qB)) → ∃ i, j = m + i ∧ l[i]? = some c := by
    intro l
    induction l with
    | nil => intro m j h; simp [matchN] at h
    | cons d l ih =>
      intro m j h
      rw [List.map_cons, matchN, match_Q] at h
      rcases List.mem_append.1 h with h | h
      · split at h
        · rename_i hd
          simp at h hd; subst h; subst hd
          exact ⟨0, by simp, rfl⟩
        · simp at h
      · obtain ⟨i, e1, e2⟩ := ih (m + 1) j h
        exact ⟨i + 1, by omega, by simpa using e2⟩
  obtain ⟨i, e1, e2⟩ := key _ _ _ h
  exact ⟨k + i, by omega, by rw [List.getElem?_drop] at e2; exact e2⟩
def ans (c : ByteArray) : Rep := ⟨1, xB ++ ⟨#[32, 61, 32]⟩ ++ c, 0, 0⟩
def st (a b : List ByteArray) (i : Nat) (c : ByteArray) (ks : List Nat) : Se := ⟨20, cls a b, some ⟨[xB], qch 0 c ks ++ pch a.length (i + 1)⟩⟩
def off (a b : List ByteArray) : Rep × Se := (repK 2, ⟨20, cls a b, none⟩)
def hit (a b : List ByteArray) (i : Nat) (c : ByteArray) (m : List Nat) (no : Rep × Se) : Rep × Se := match m with
  | [] => no
  | _ :: ks => (ans c, st a b i c ks)
/-- The reply from the i-th of the first on: as is a's rest. -/
def seek (a b : List ByteArray) : Nat → List ByteArray → Rep × Se
  | _, [] => off a b
  | i, c :: as => hit a b i c (M a.length b c 0) (seek a b (i + 1) as)
def R (a b : List ByteArray) (i : Nat) (c : ByteArray) (k : Nat) : Rep × Se := hit a b i c (M a.length b c k) (seek a b (i + 1) (a.drop (i + 1)))
theorem R_skip {a b : List ByteArray} {i k : Nat} {c d : ByteArray} (hk : b[k]? = some d) (h : c ≠ d) : R a b i c k = R a b i c (k + 1) := by
  unfold R; rw [M_cons _ _ _ _ _ hk, if_neg (fun e => h e.symm)]; rfl
theorem R_row {a b : List ByteArray} {i : Nat} {c : ByteArray} : R a b i c b.length = seek a b (i + 1) (a.drop (i + 1)) := by
  unfold R; rw [M_end]; rfl
theorem R_start {a b : List ByteArray} {i : Nat} {c : ByteArray} (h : a[i]? = some c) : seek a b i (a.drop i) = R a b i c 0 := by
  obtain ⟨h1, h2⟩ := List.getElem?_eq_some_iff.1 h
  rw [List.drop_eq_getElem_cons h1, h2]; rfl
theorem ren_pch (n i : Nat) : (pch n i).map renC = pch n i := by unfold pch; split <;> rfl
theorem ren_qch (f : Int) (c : ByteArray) (ks : List Nat) : (qch f c ks).map renC = qch 0 c ks := by unfold qch; split <;> rfl
theorem reply_hit (a b : List ByteArray) (i : Nat) (f : Int) (c : ByteArray) (ks : List Nat) (q : Option Qs) : replyS ⟨20, cls a b, q⟩ [xB] (1, ⟨⟨[], [[nmP c 0]], f⟩, qch f c ks ++ pch a.length (i + 1)⟩) = (ans c, st a b i c ks) := by
  unfold replyS
  rw [if_pos rfl]
  show (_, _) = _
  rw [text_one, List.map_append, ren_pch, ren_qch]
  rfl
theorem cls_q (a b : List ByteArray) (i : Nat) (c : ByteArray) (h : b[i]? = some c) : (cls a b).getD (a.length + i) noCl = fact1 qB c := by
  unfold cls
  rw [List.getD_eq_getElem?_getD, List.getElem?_append_right (by rw [List.length_map]; omega), List.length_map, show a.length + i - a.length = i by omega, List.getElem?_map, h]; rfl
theorem cls_p (a b : List ByteArray) (i : Nat) (c : ByteArray) (h : a[i]? = some c) : (cls a b).getD i noCl = fact1 pB c := by
  have hi := (List.getElem?_eq_some_iff.1 h).1
  unfold cls
  rw [List.getD_eq_getElem?_getD, List.getElem?_append_left (by rw [List.length_map]; exact hi), List.getElem?_map, h]; rfl
theorem use_q (a b : List ByteArray) (f : Int) (c : ByteArray) (j : Nat) (hj : j ∈ M a.length b c 0) (low : List Ch) (ks : List Nat) (now : St) (h : Int) : useP ⟨now, putCh low (Q f c) ks⟩ (Q f c) ((cls a b).getD j noCl) h = (0, ⟨⟨[], [[nmP c 0]], f⟩, qch f c ks ++ low⟩) := by
  obtain ⟨i, rfl, hi⟩ := M_mem _ _ _ _ _ hj
  rw [cls_q a b i c hi]
  have hw := (with_fact_name qB c c [] [[nmP c 0]] f h).1 rfl
  have hw2 : withS (Q f c) (fact1 qB c) h = (0, ⟨[], [[nmP c 0]], f⟩) := hw
  unfold useP
  rw [hw2]
  simp only [if_true]
  unfold putCh qch
  split
  · rfl
  · rfl
theorem M_sub (n : Nat) (b : List ByteArray) (c : ByteArray) : ∀ (k j : Nat), j ∈ M n b c k → j ∈ M n b c 0 := by
  intro k
  induction k with
  | zero => intro j h; exact h
  | succ k ih =>
    intro j h
    by_cases hk : k < b.length
    · refine ih j ?_
      rw [M_cons n b c b[k] k (List.getElem?_eq_getElem hk)]
      exact List.mem_append_right _ h
    · unfold M at h
      rw [List.drop_of_length_le (by omega)] at h
      simp [matchN] at h
/-- How the first goal's clauses are gone through, from the i-th on. -/
theorem matchN_Q (a b : List ByteArray) (f : Int) (c : ByteArray) : matchN (Q f c) 0 (cls a b) = matchN (Q 0 c) 0 (cls a b) := by
  have key : ∀ (l : List Cl) (i : Nat), (∀ d ∈ l, matchB (Q f c) d = matchB (Q 0 c) d) → matchN (Q f c) i l = matchN (Q 0 c) i l := by
    intro l
    induction l with
    | nil => intro i _; rfl
    | cons d l ih => intro i h; rw [matchN, matchN, h d (by simp), ih (i + 1) (fun x hx => h x (List.mem_cons_of_mem _ hx))]
  refine key _ _ (fun d hd => ?_)
  unfold cls at hd
  rcases List.mem_append.1 hd with hd | hd
  · obtain ⟨x, _, rfl⟩ := List.mem_map.1 hd
    have h1 : ∀ g, hasPred (Q g c) (fact1 pB x) = false := fun g => samePred_ne (show nmP pB 1 ≠ nmP qB 1 by simp [nmP]; decide)
    unfold matchB; rw [h1, h1]; rfl
  · obtain ⟨x, _, rfl⟩ := List.mem_map.1 hd
    rw [match_Q, match_Q]
theorem go (a b : List ByteArray) (hb : b ≠ []) (q : Option Qs) : ∀ (as : List ByteArray) (i n : Nat) (now : St), a.drop i = as → as.length ≤ n → replyS ⟨20, cls a b, q⟩ [xB] (playN (cls a b) n (-1, ⟨now, pch a.length i⟩)) = seek a b i as
  | [], i, n, now, h, _ => by
    have hi : a.length ≤ i := List.drop_eq_nil_iff.1 h
    have hp : pch a.length i = [] := by unfold pch; rw [if_neg (by omega)]
    rw [hp, play_fail, again_none rfl, play_end (by decide) (by decide)]
    unfold replyS
    rw [if_neg (by simp)]
    rfl
  | c :: as, i, n, now, h, hn => by
    have hi : i < a.length := by
      rcases Nat.lt_or_ge i a.length with h1 | h1
      · exact h1
      · rw [List.drop_of_length_le h1] at h; cases h
    have hd := List.drop_eq_getElem_cons hi
    rw [h] at hd
    injection hd with h1 h2
    have hc : a[i]? = some c := by rw [List.getElem?_eq_getElem hi, h1]
    have hpc : pch a.length i = [⟨S0, i :: List.range' (i + 1) (a.length - (i + 1))⟩] := by
      unfold pch; rw [if_pos hi, show a.length - i = (a.length - (i + 1)) + 1 by omega, List.range'_succ]
    have hag : againP (cls a b) ⟨now, pch a.length i⟩ = (0, ⟨Q 1 c, pch a.length (i + 1)⟩) := by
      rw [hpc]
      show useP ⟨now, putCh [] S0 _⟩ S0 ((cls a b).getD i noCl) 0 = _
      rw [cls_p a b i c hc]
      unfold useP
      rw [with_S0]
      simp only [if_true]
      unfold putCh pch
      by_cases h9 : i + 1 < a.length
      · rw [if_neg (by intro e; have := congrArg List.length e; rw [List.length_range'] at this; simp at this; omega), if_pos h9]
      · rw [if_pos (by rw [show a.length - (i + 1) = 0 by omega]; rfl), if_neg h9]
    obtain ⟨m, rfl⟩ : ∃ m, n = m + 1 := ⟨n - 1, by simp at hn; omega⟩
    have hM : matchN (Q 1 c) 0 (cls a b) = M a.length b c 0 := by
      rw [matchN_Q]
      unfold cls M
      rw [take_append_of_none (Q 0 c) _ _ (fun d hd => by
        obtain ⟨x, _, rfl⟩ := List.mem_map.1 hd
        exact samePred_ne (show nmP pB 1 ≠ nmP qB 1 by simp [nmP]; decide))]
      rw [List.length_map, List.drop_zero, Nat.add_zero]
    have hkn : knownP (Q 1 c) (cls a b) = true := by
      unfold knownP cls
      rw [List.any_append]
      cases b with
      | nil => exact absurd rfl hb
      | cons d b =>
        have : hasPred (Q 1 c) (fact1 qB d) = true := samePart_iff.2 rfl
        simp [this]
    have hbu : isBuilt (goalP (Q 1 c)) = false := by
      show isBuilt [nmP qB 1, nmP c 0] = false
      unfold isBuilt
      show ((3 : Int) == 4 || ((3 : Int) == 3 && builtInB qB 1)) = false
      decide
    rw [play_fail, hag, play_take (by simp [Q]), take_user hbu hkn]
    show replyS _ _ (playN _ m (chooseP _ ⟨Q 1 c, pch a.length (i + 1)⟩ (matchN (Q 1 c) 0 (cls a b)))) = hit a b i c (M a.length b c 0) (seek a b (i + 1) as)
    rw [hM]
    cases hm : M a.length b c 0 with
    | nil =>
      show replyS _ _ (playN _ m (-1, ⟨Q 1 c, pch a.length (i + 1)⟩)) = seek a b (i + 1) as
      exact go a b hb q as (i + 1) m _ h2.symm (by simp at hn; omega)
    | cons j ks =>
      have hlen : (pch a.length (i + 1)).length ≤ 1 := by unfold pch; split <;> simp
      have hch : chooseP (cls a b) ⟨Q 1 c, pch a.length (i + 1)⟩ (j :: ks) = (0, ⟨⟨[], [[nmP c 0]], 1⟩, qch 1 c ks ++ pch a.length (i + 1)⟩) := by
        simp only [chooseP]
        rw [if_neg (by intro e; have := e.2; omega)]
        exact use_q a b 1 c j (by rw [hm]; simp) _ ks _ _
      rw [hch, play_answer' rfl]
      exact reply_hit a b i 1 c ks q
theorem more_hit {a b : List ByteArray} (hb : b ≠ []) (ha : a.length ≤ 20) {i k : Nat} {c : ByteArray} (hi : a[i]? = some c) (hk : b[k]? = some c) : (R a b i c k).1 = ans c ∧ moreS (R a b i c k).2 = R a b i c (k + 1) := by
  have hlt := (List.getElem?_eq_some_iff.1 hi).1
  have hM := M_cons a.length b c c k hk
  rw [if_pos rfl] at hM
  have hR : R a b i c k = (ans c, st a b i c (M a.length b c (k + 1))) := by unfold R; rw [hM]; rfl
  rw [hR]
  refine ⟨rfl, ?_⟩
  show replyS _ [xB] (playN (cls a b) 20 (-1, ⟨stNone, qch 0 c (M a.length b c (k + 1)) ++ pch a.length (i + 1)⟩)) = _
  unfold R
  cases hm : M a.length b c (k + 1) with
  | nil =>
    show replyS _ [xB] (playN (cls a b) 20 (-1, ⟨stNone, pch a.length (i + 1)⟩)) = seek a b (i + 1) (a.drop (i + 1))
    exact go a b hb _ _ (i + 1) 20 _ rfl (by rw [List.length_drop]; omega)
  | cons j ks =>
    have hch : againP (cls a b) ⟨stNone, qch 0 c (j :: ks) ++ pch a.length (i + 1)⟩ = (0, ⟨⟨[], [[nmP c 0]], 0⟩, qch 0 c ks ++ pch a.length (i + 1)⟩) := by
      show useP ⟨stNone, putCh (pch a.length (i + 1)) (Q 0 c) ks⟩ (Q 0 c) ((cls a b).getD j noCl) _ = _
      exact use_q a b 0 c j (M_sub _ _ _ (k + 1) j (by rw [hm]; simp)) _ ks _ _
    rw [play_fail, hch, play_answer' rfl]
    exact reply_hit a b i 0 c ks _
def askB : ByteArray := ⟨#[112, 40, 88, 41, 44, 113, 40, 88, 41, 46]⟩
theorem quest : questS askB = .ok ([[nmP pB 1, vrP 0], [nmP qB 1, vrP 0]], [xB]) := by
  refine read_quest (ν := [xB]) ⟨by simp, by simp, fun W hW => by simp at hW; subst hW; exact vx_ok⟩ (by simp) (by simp) (fun g hg => ?_) ?_ rfl (by decide)
  · simp at hg
    rcases hg with rfl | rfl
    · exact goal_var (i := 0) pB_ok (by simp)
    · exact goal_var (i := 0) qB_ok (by simp)
  · exact ⟨0, rfl, 1, .inr ⟨rfl, rfl⟩, 1, rfl, 1, .inl ⟨by decide, rfl⟩, rfl⟩
theorem first (a b : List ByteArray) (q : Option Qs) : firstS ⟨20, cls a b, q⟩ [[nmP pB 1, vrP 0], [nmP qB 1, vrP 0]] [xB] = playN (cls a b) 20 (0, ⟨S0, []⟩) := by
  unfold firstS
  rw [if_neg (by decide)]
  rfl
theorem built_S0 : isBuilt (goalP S0) = false := by
  show isBuilt [nmP pB 1, vrP 0] = false
  decide
theorem ask_hit {a b : List ByteArray} (ha : a ≠ []) (hb : b ≠ []) (h15 : a.length ≤ 15) (q : Option Qs) : askS ⟨20, cls a b, q⟩ askB = seek a b 0 a := by
  unfold askS
  rw [quest]
  simp only []
  have hbn : beginN [xB] = [xB] := by decide
  have hkn : knownP S0 (cls a b) = true := by
    unfold knownP cls
    rw [List.any_append]
    cases a with
    | nil => exact absurd rfl ha
    | cons d a =>
      have : hasPred S0 (fact1 pB d) = true := samePart_iff.2 rfl
      simp [this]
  have hM : matchN S0 0 (cls a b) = List.range' 0 a.length := by
    unfold cls
    rw [matchN_app, matchN_all S0 0 (a.map (fact1 pB)) (fun c hc => by
      obtain ⟨d, _, rfl⟩ := List.mem_map.1 hc
      unfold matchB
      rw [with_S0]
      have : hasPred S0 (fact1 pB d) = true := samePart_iff.2 rfl
      rw [this]; rfl), matchN_none S0 _ (b.map (fact1 qB)) (fun c hc => by
      obtain ⟨d, _, rfl⟩ := List.mem_map.1 hc
      unfold matchB
      rw [samePred_ne (S := S0) (c := fact1 qB d) (show nmP qB 1 ≠ nmP pB 1 by simp [nmP]; decide)]; rfl), List.append_nil, List.length_map]
  rw [hbn, first, play_take (by simp [S0]), take_user built_S0 hkn]
  show replyS _ _ (playN _ 19 (chooseP _ ⟨S0, []⟩ (matchN S0 0 (cls a b)))) = _
  rw [hM]
  have hg := go a b hb q a 0 19 stNone rfl (by omega)
  rw [play_fail] at hg
  cases ha' : a with
  | nil => exact absurd ha' ha
  | cons c as =>
    rw [← ha']
    have hl : a.length = as.length + 1 := by rw [ha']; rfl
    have hpc : pch a.length 0 = [⟨S0, List.range' 0 a.length⟩] := by unfold pch; rw [if_pos (by omega)]; rfl
    have heq : chooseP (cls a b) ⟨S0, []⟩ (List.range' 0 a.length) = againP (cls a b) ⟨stNone, pch a.length 0⟩ := by
      rw [hpc]
      have hr : List.range' 0 a.length = 0 :: List.range' 1 as.length := by rw [hl, List.range'_succ]
      rw [hr]
      simp only [chooseP]
      rw [if_neg (by simp)]
      show useP ⟨S0, putCh [] S0 _⟩ S0 _ 0 = useP ⟨stNone, putCh [] S0 _⟩ S0 _ 0
      rw [cls_p a b 0 c (by rw [ha']; rfl)]
      unfold useP
      rw [with_S0]
      simp
    rw [heq]
    exact hg
theorem ask_noP (b : List ByteArray) (q : Option Qs) : askS ⟨20, cls [] b, q⟩ askB = (repK 12, ⟨20, cls [] b, none⟩) := by
  unfold askS
  rw [quest]
  simp only []
  rw [first, play_take (by simp [S0]), take_unknown built_S0 ?_, play_end (by decide) (by decide)]
  · rfl
  · unfold knownP cls
    rw [List.map_nil, List.nil_append, List.any_eq_false]
    intro c hc
    obtain ⟨d, _, rfl⟩ := List.mem_map.1 hc
    rw [show hasPred S0 (fact1 qB d) = false from samePred_ne (show nmP qB 1 ≠ nmP pB 1 by simp [nmP]; decide)]
    simp
theorem ask_noQ (a : List ByteArray) (ha : a ≠ []) (q : Option Qs) : askS ⟨20, cls a [], q⟩ askB = (repK 12, ⟨20, cls a [], none⟩) := by
  unfold askS
  rw [quest]
  simp only []
  cases ha' : a with
  | nil => exact absurd ha' ha
  | cons c as =>
    rw [← ha']
    have hkn : knownP S0 (cls a []) = true := by
      unfold knownP cls
      rw [ha']
      have : hasPred S0 (fact1 pB c) = true := samePart_iff.2 rfl
      simp [this]
    have hM : matchN S0 0 (cls a []) = List.range' 0 a.length := by
      unfold cls
      rw [List.map_nil, List.append_nil, matchN_all S0 0 (a.map (fact1 pB)) (fun c hc => by
        obtain ⟨d, _, rfl⟩ := List.mem_map.1 hc
        unfold matchB
        rw [with_S0]
        have : hasPred S0 (fact1 pB d) = true := samePart_iff.2 rfl
        rw [this]; rfl), List.length_map]
    rw [first, play_take (by simp [S0]), take_user built_S0 hkn]
    show replyS _ _ (playN _ 19 (chooseP _ ⟨S0, []⟩ (matchN S0 0 (cls a [])))) = _
    have hl : a.length = as.length + 1 := by rw [ha']; rfl
    rw [hM, hl, List.range'_succ]
    have hch : ∃ chs, chooseP (cls a []) ⟨S0, []⟩ (0 :: List.range' (0 + 1) as.length) = (0, ⟨Q 1 c, chs⟩) := by
      simp only [chooseP]
      rw [if_neg (by simp), cls_p a [] 0 c (by rw [ha']; rfl)]
      unfold useP
      rw [with_S0]
      exact ⟨_, rfl⟩
    obtain ⟨chs, hch⟩ := hch
    rw [hch, play_take (by simp [Q]), take_unknown ?_ ?_, play_end (by decide) (by decide)]
    · rfl
    · show isBuilt [nmP qB 1, nmP c 0] = false
      show ((3 : Int) == 4 || ((3 : Int) == 3 && builtInB qB 1)) = false
      decide
    · unfold knownP cls
      rw [List.map_nil, List.append_nil, List.any_eq_false]
      intro d hd
      obtain ⟨x, _, rfl⟩ := List.mem_map.1 hd
      rw [show hasPred (Q 1 c) (fact1 pB x) = false from samePred_ne (show nmP pB 1 ≠ nmP qB 1 by simp [nmP]; decide)]
      simp
end Rf.JoinedL
