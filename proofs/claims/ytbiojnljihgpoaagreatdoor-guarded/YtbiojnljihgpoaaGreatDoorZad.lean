
import Derived.Test.YtbiojnljihgpoaaGreatDoorZac
namespace Rf
def ownP (off h : Int) (p : Part) : Part := if p.kind = 1 then { p with value := p.value + off } else if p.kind = 4 then { p with value := h } else p
def ownT (off h : Int) (t : List Part) : List Part := t.map (ownP off h)
def maxI (a b : Int) : Int := if b < a then a else b
def pastN (a : Int) : List Part -> Int
 | [] => a
 | p :: t => pastN (if p.kind = 1 then maxI a (p.value + 1) else a) t
def pastT (t : List Part) : Int := pastN 0 t
def pastTs (a : Int) : List (List Part) -> Int
 | [] => a
 | t :: ts => pastTs (maxI a (pastT t)) ts
def pastC (c : Cl) : Int := pastTs (pastT c.head) c.body
structure St where
 goals : List (List Part)
 terms : List (List Part)
 fresh : Int
def withE (s : St) (c : Cl) (h : Int) : Eqn := ⟨s.goals.headD [], ownT s.fresh h c.head, c.body.map (ownT s.fresh h), s.goals.tail, s.terms⟩
def withS (s : St) (c : Cl) (h : Int) : Int × St :=
 if (solveE (withE s c h)).1 = 0 then (0, ⟨(solveE (withE s c h)).2.body ++ (solveE (withE s c h)).2.behind, (solveE (withE s c h)).2.terms, s.fresh + pastC c⟩) else ((solveE (withE s c h)).1, ⟨[], [], 0⟩)
def numV (ns : List Int) (v : Int) : List Int := if v ∈ ns then ns else ns ++ [v]
def renP (ns : List Int) (p : Part) : Part := if p.kind = 1 then { p with value := ((numV ns p.value).idxOf p.value : Nat) } else p
def stepV (ns : List Int) (p : Part) : List Int := if p.kind = 1 then numV ns p.value else ns
def renT (ns : List Int) : List Part -> List Part × List Int
 | [] => ([], ns)
 | p :: t => (renP ns p :: (renT (stepV ns p) t).1, (renT (stepV ns p) t).2)
def renTs (ns : List Int) : List (List Part) -> List (List Part) × List Int
 | [] => ([], ns)
 | t :: ts => ((renT ns t).1 :: (renTs (renT ns t).2 ts).1, (renTs (renT ns t).2 ts).2)
theorem putV_len_le {v : Int} {x : List Part} : ∀ (t : List Part), (putV v x t).length + countV v t = t.length + countV v t * x.length
 | [] => by simp [putV, countV]
 | p :: t => by
  have ih := putV_len_le (v := v) (x := x) t
  rw [putV, countV]
  split
  ·rw [List.length_append, List.length_cons, Nat.add_mul, Nat.one_mul]; omega
  ·simp only [List.length_append, List.length_cons, List.length_nil, Nat.add_zero]; omega
theorem countV_le {v : Int} : ∀ (t : List Part), countV v t <= t.length
 | [] => by simp [countV]
 | p :: t => by
  have := countV_le (v := v) t
  rw [countV, List.length_cons]
  split <;> omega
theorem putV_none {v : Int} {x : List Part} : ∀ {t : List Part}, countV v t = 0 -> putV v x t = t
 | [], _ => rfl
 | p :: t, h => by
  rw [countV] at h
  have hp : ¬ isV v p = true := by intro e; rw [if_pos e] at h; omega
  rw [putV, if_neg hp, putV_none (t := t) (by omega)]
  rfl
theorem putV_app {v : Int} {x : List Part} : ∀ (s t : List Part), putV v x (s ++ t) = putV v x s ++ putV v x t
 | [], _ => rfl
 | p :: s, t => by rw [List.cons_append, putV, putV, putV_app s t, List.append_assoc]
def sizeW (v : Int) (n : Nat) : Nat -> List (List Part) -> Nat
 | z, [] => z
 | z, t :: ts => if 200 < z then z else sizeW v n (z + t.length + countV v t * n) ts
theorem sizeT_put {v : Int} {x : List Part} {n : Nat} (hx : x.length = n + 1) (t : List Part) : (putV v x t).length = t.length + countV v t * n := by
 have := putV_len_le (v := v) (x := x) t
 rw [hx, Nat.mul_add, Nat.mul_one] at this
 omega
theorem sizeW_big {v : Int} {x : List Part} {n : Nat} (hx : x.length = n + 1) : ∀ (ts : List (List Part)) (z : Nat), 200 < sizeW v n z ts ↔ 200 < z + sizeT (ts.map (putV v x))
 | [], z => by simp [sizeW, sizeT]
 | t :: ts, z => by
  rw [sizeW, List.map_cons, sizeT, sizeT_put hx]
  split
  ·constructor <;> intro _ <;> omega
  ·rw [sizeW_big hx ts]
   constructor <;> intro _ <;> omega
structure Ch where
 st : St
 cls : List Nat
structure Cf where
 now : St
 chs : List Ch
def noPart : Part := ⟨0, ⟨#[]⟩, 0, 0⟩
def topP (g : List Part) : Part := g.headD noPart
def goalP (S : St) : List Part := S.goals.headD []
def hasPred (S : St) (c : Cl) : Bool := samePart (topP c.head) (topP (goalP S))
def matchB (S : St) (c : Cl) : Bool := hasPred S c && decide ((withS S c 0).1 ≠ -1)
def matchN (S : St) : Nat -> List Cl -> List Nat
 | _, [] => []
 | i, c :: cs => (if matchB S c = true then [i] else []) ++ matchN S (i + 1) cs
def knownP (S : St) (cs : List Cl) : Bool := cs.any (hasPred S)
def noCl : Cl := ⟨[], [], 0⟩
def useP (cf : Cf) (s : St) (c : Cl) (h : Int) : Int × Cf := ((withS s c h).1, if (withS s c h).1 = 0 then ⟨(withS s c h).2, cf.chs⟩ else cf)
def putCh (low : List Ch) (s : St) (rest : List Nat) : List Ch := if rest = [] then low else ⟨s, rest⟩ :: low
def takeUp (cs : List Cl) (now : St) (low : List Ch) (c : Ch) : Int × Cf := match c.cls with
 | [] => (0, ⟨c.st, low⟩)
 | k :: rest => useP ⟨now, putCh low c.st rest⟩ c.st (cs.getD k noCl) low.length
def againP (cs : List Cl) (cf : Cf) : Int × Cf := match cf.chs with
 | [] => (2, cf)
 | c :: low => takeUp cs cf.now low c
def chooseP (cs : List Cl) (cf : Cf) : List Nat -> Int × Cf
 | [] => (-1, cf)
 | k :: rest => if rest ≠ [] /\ 20 <= cf.chs.length then (6, cf) else useP ⟨cf.now, putCh cf.chs cf.now rest⟩ cf.now (cs.getD k noCl) cf.chs.length
def argN : Nat -> List Part -> List Part
 | 0, r => r.take (leadT r)
 | n + 1, r => argN n (r.drop (leadT r))
def argT (t : List Part) (i : Nat) : List Part := if t = [] then [] else argN i t.tail
def meetP (cf : Cf) : Int × Cf := (0, ⟨⟨cf.now.goals.tail, cf.now.terms, cf.now.fresh⟩, cf.chs⟩)
def equalE (cf : Cf) (a b : List Part) : Eqn := ⟨a, b, [], cf.now.goals.tail, cf.now.terms⟩
def equalP (cf : Cf) (a b : List Part) : Int × Cf :=
 ((solveE (equalE cf a b)).1, if (solveE (equalE cf a b)).1 = 0 then ⟨⟨(solveE (equalE cf a b)).2.behind, (solveE (equalE cf a b)).2.terms, cf.now.fresh⟩, cf.chs⟩ else cf)
def numberK (p : Part) : Int := if p.kind = 1 then 9 else if p.kind = 2 then 0 else 10
def numbersK (g : List Part) : Int := if numberK (topP (argT g 0)) = 0 then numberK (topP (argT g 1)) else numberK (topP (argT g 0))
def num0 (g : List Part) : Int := (topP (argT g 0)).value
def num1 (g : List Part) : Int := (topP (argT g 1)).value
def lessP (cf : Cf) (g : List Part) : Int × Cf := if numbersK g = 0 then (if num0 g < num1 g then meetP cf else (-1, cf)) else (numbersK g, cf)
def numT (v : Int) : List Part := [⟨2, ⟨#[]⟩, v, 0⟩]
def plusP (cf : Cf) (g : List Part) : Int × Cf := if numbersK g = 0 then (if num0 g + num1 g < -999999999 \/ 999999999 < num0 g + num1 g then (11, cf) else equalP cf (numT (num0 g + num1 g)) (argT g 2)) else (numbersK g, cf)
def cutT (h : Int) : List Part := [⟨4, ⟨#[]⟩, h, 0⟩]
def failB : ByteArray := ⟨#[102, 97, 105, 108]⟩
def failT : List Part := [⟨3, failB, 0, 0⟩]
def notK (t : List Part) : Int := if (topP t).kind = 1 then 9 else if (topP t).kind = 2 then 10 else 0
def notP (cf : Cf) (t : List Part) : Int × Cf :=
 if notK t = 0 then (if 20 <= cf.chs.length then (6, cf) else (0, ⟨⟨[t, cutT cf.chs.length, failT], cf.now.terms, cf.now.fresh⟩, ⟨⟨cf.now.goals.tail, cf.now.terms, cf.now.fresh⟩, []⟩ :: cf.chs⟩)) else (notK t, cf)
def dropC (chs : List Ch) (h : Int) : List Ch := chs.drop (chs.length - h.toNat)
def trueB : ByteArray := ⟨#[116, 114, 117, 101]⟩
def eqB : ByteArray := ⟨#[101, 113]⟩
def lessB : ByteArray := ⟨#[108, 101, 115, 115]⟩
def plusB : ByteArray := ⟨#[112, 108, 117, 115]⟩
def notB : ByteArray := ⟨#[110, 111, 116]⟩
def builtP (cf : Cf) (g : List Part) : Int × Cf :=
 if (topP g).kind = 4 then meetP ⟨cf.now, dropC cf.chs (topP g).value⟩
 else if (topP g).name = trueB then meetP cf
 else if (topP g).name = eqB then equalP cf (argT g 0) (argT g 1)
 else if (topP g).name = lessB then lessP cf g
 else if (topP g).name = plusB then plusP cf g
 else if (topP g).name = notB then notP cf (argT g 0)
 else (-1, cf)
def isBuilt (g : List Part) : Bool := (topP g).kind == 4 || ((topP g).kind == 3 && builtInB (topP g).name (topP g).args)
def takeP (cs : List Cl) (cf : Cf) : Int × Cf :=
 if isBuilt (goalP cf.now) = true then builtP cf (goalP cf.now) else if knownP cf.now cs = true then chooseP cs cf (matchN cf.now 0 cs) else (12, cf)
def leftC : List Ch -> Nat
 | [] => 0
 | c :: l => c.cls.length + 1 + leftC l
def againN (cs : List Cl) : Nat -> Int × Cf -> Int × Cf
 | 0, r => r
 | n + 1, r => if r.1 = -1 then againN cs n (againP cs r.2) else r
def settle (cs : List Cl) (r : Int × Cf) : Int × Cf := againN cs (leftC r.2.chs + 2) r
def playN (cs : List Cl) : Nat -> Int × Cf -> Int × Cf
 | n, r => if (settle cs r).1 ≠ 0 then settle cs r else if (settle cs r).2.now.goals = [] then (1, (settle cs r).2) else match n with
  | 0 => (5, (settle cs r).2)
  | m + 1 => playN cs m (takeP cs (settle cs r).2)
theorem useP_chs (cf : Cf) (s : St) (c : Cl) (h : Int) : (useP cf s c h).2.chs = cf.chs := by unfold useP; simp only []; split <;> rfl
theorem again_left {cs : List Cl} {cf : Cf} (h : cf.chs ≠ []) : leftC (againP cs cf).2.chs < leftC cf.chs := by
 unfold againP
 cases hl : cf.chs with
 | nil => exact absurd hl h
 | cons c low =>
  simp only []
  unfold takeUp
  split
  ·simp [leftC]
  ·rename_i k rest he
   rw [useP_chs]
   unfold putCh
   simp only []
   split
   ·simp [leftC]
   ·simp [leftC, he]
theorem again_none {cs : List Cl} {cf : Cf} (h : cf.chs = []) : againP cs cf = (2, cf) := by unfold againP; rw [h]
theorem againN_more (cs : List Cl) : ∀ (n : Nat) (r : Int × Cf), leftC r.2.chs + 2 <= n -> againN cs n r = againN cs (leftC r.2.chs + 2) r := by
 have key : ∀ (n : Nat) (r : Int × Cf), leftC r.2.chs + 2 <= n -> againN cs (n + 1) r = againN cs n r := by
  intro n
  induction n with
  | zero => intro r h; omega
  | succ n ih =>
   intro r h
   rw [againN, show againN cs (n + 1) r = if r.1 = -1 then againN cs n (againP cs r.2) else r from rfl]
   split
   ·rename_i h1
    by_cases hc : r.2.chs = []
    ·rw [again_none hc]
     obtain ⟨m, rfl⟩ : ∃ m, n = m + 1 := ⟨n - 1, by omega⟩
     rw [againN, if_neg (by simp), againN, if_neg (by simp)]
    ·exact ih _ (by have := again_left (cs := cs) hc; omega)
   ·rfl
 intro n r h
 obtain ⟨d, rfl⟩ : ∃ d, n = leftC r.2.chs + 2 + d := ⟨n - (leftC r.2.chs + 2), by omega⟩
 induction d with
 | zero => rfl
 | succ d ih => rw [<- ih (by omega)]; exact key (leftC r.2.chs + 2 + d) r (by omega)
theorem settle_step (cs : List Cl) (r : Int × Cf) : settle cs r = if r.1 = -1 then settle cs (againP cs r.2) else r := by
 unfold settle
 rw [againN]
 split
 ·by_cases hc : r.2.chs = []
  ·rw [again_none hc, againN, if_neg (by simp), againN, if_neg (by simp)]
  ·exact againN_more cs _ _ (by have := again_left (cs := cs) hc; omega)
 ·rfl
theorem settle_fail (cs : List Cl) (cf : Cf) : settle cs (-1, cf) = settle cs (againP cs cf) := by rw [settle_step, if_pos rfl]
theorem settle_ok {cs : List Cl} {r : Int × Cf} (h : r.1 ≠ -1) : settle cs r = r := by rw [settle_step, if_neg h]
theorem playN_eq (cs : List Cl) (n : Nat) (r : Int × Cf) : playN cs n r = if (settle cs r).1 ≠ 0 then settle cs r else if (settle cs r).2.now.goals = [] then (1, (settle cs r).2) else match n with
  | 0 => (5, (settle cs r).2)
  | m + 1 => playN cs m (takeP cs (settle cs r).2) := by cases n <;> rfl
theorem settle_ind {cs : List Cl} {P : Int × Cf -> Prop} (hstep : ∀ cf, P (-1, cf) -> P (againP cs cf)) : ∀ (n : Nat) (r : Int × Cf), P r -> P (againN cs n r)
 | 0, _, h => h
 | n + 1, r, h => by
  rw [againN]
  split
  ·rename_i h1
   obtain ⟨o, cf⟩ := r
   simp only at h1
   subst h1
   exact settle_ind hstep n _ (hstep cf h)
  ·exact h
theorem pastN_ge : ∀ (t : List Part) (a : Int), a <= pastN a t
 | [], a => Int.le_refl _
 | p :: t, a => by
  rw [pastN]
  refine Int.le_trans ?_ (pastN_ge t _)
  split
  ·unfold maxI; split <;> omega
  ·omega
theorem pastN_mem : ∀ {t : List Part} {a : Int} {p : Part}, p ∈ t -> p.kind = 1 -> p.value < pastN a t
 | [], _, _, h, _ => by cases h
 | q :: t, a, p, h, hk => by
  rw [pastN]
  rcases List.mem_cons.1 h with rfl | h
  ·rw [if_pos hk]
   have := pastN_ge t (maxI a (p.value + 1))
   have h2 : p.value + 1 <= maxI a (p.value + 1) := by unfold maxI; split <;> omega
   omega
  ·exact pastN_mem h hk
theorem pastTs_ge : ∀ (ts : List (List Part)) (a : Int), a <= pastTs a ts
 | [], a => Int.le_refl _
 | t :: ts, a => by
  rw [pastTs]
  refine Int.le_trans ?_ (pastTs_ge ts _)
  unfold maxI; split <;> omega
theorem pastTs_mem : ∀ {ts : List (List Part)} {a : Int} {t : List Part} {p : Part}, t ∈ ts -> p ∈ t -> p.kind = 1 -> p.value < pastTs a ts
 | [], _, _, _, h, _, _ => by cases h
 | u :: ts, a, t, p, h, hp, hk => by
  rw [pastTs]
  rcases List.mem_cons.1 h with rfl | h
  ·have h1 : p.value < pastT t := pastN_mem hp hk
   have h2 := pastTs_ge ts (maxI a (pastT t))
   have h3 : pastT t <= maxI a (pastT t) := by unfold maxI; split <;> omega
   omega
  ·exact pastTs_mem h hp hk
theorem pastN_le {B : Int} : ∀ {t : List Part} {a : Int}, a <= B -> (∀ p ∈ t, p.kind = 1 -> p.value < B) -> pastN a t <= B
 | [], _, h, _ => h
 | p :: t, a, h, hp => by
  rw [pastN]
  refine pastN_le ?_ (fun q hq => hp q (List.mem_cons_of_mem _ hq))
  split
  ·rename_i hk
   have := hp p (by simp) hk
   unfold maxI; split <;> omega
  ·exact h
theorem pastTs_le {B : Int} (hB : 0 <= B) : ∀ {ts : List (List Part)} {a : Int}, a <= B -> (∀ t ∈ ts, ∀ p ∈ t, p.kind = 1 -> p.value < B) -> pastTs a ts <= B
 | [], _, h, _ => h
 | t :: ts, a, h, hp => by
  rw [pastTs]
  refine pastTs_le hB ?_ (fun q hq => hp q (List.mem_cons_of_mem _ hq))
  have : pastT t <= B := pastN_le (a := 0) hB (hp t (by simp))
  unfold maxI; split <;> omega
def PartG (f : Int) (p : Part) : Prop := (0 <= p.args /\ p.args <= 4) /\ (p.kind = 1 -> 0 <= p.value /\ p.value < f) /\ (p.kind = 2 -> -999999999 <= p.value /\ p.value <= 999999999) /\ p.name.size <= 12
def TmG (f : Int) (t : List Part) : Prop := t.length <= 400 /\ ∀ p ∈ t, PartG f p
structure StG (N : Nat) (F : Int) (S : St) : Prop where
 gl : S.goals.length <= N
 tl : S.terms.length <= 16
 f0 : 0 <= S.fresh
 f1 : S.fresh <= F
 g : ∀ t ∈ S.goals, TmG S.fresh t
 t : ∀ t ∈ S.terms, TmG S.fresh t
structure ClG (c : Cl) : Prop where
 hd : TmG 16 c.head
 bl : c.body.length <= 8
 bd : ∀ t ∈ c.body, TmG 16 t
theorem PartG.mono {f f' : Int} {p : Part} (h : PartG f p) (hf : f <= f') : PartG f' p := ⟨h.1, fun k => by have := h.2.1 k; omega, h.2.2⟩
theorem TmG.mono {f f' : Int} {t : List Part} (h : TmG f t) (hf : f <= f') : TmG f' t := ⟨h.1, fun p hp => (h.2 p hp).mono hf⟩
theorem StG.mono {N N' : Nat} {F F' : Int} {S : St} (h : StG N F S) (hN : N <= N') (hF : F <= F') : StG N' F' S := ⟨by have := h.gl; omega, h.tl, h.f0, by have := h.f1; omega, h.g, h.t⟩
theorem StG.none (N : Nat) {F : Int} (h : 0 <= F) : StG N F ⟨[], [], 0⟩ := ⟨by simp, by simp, by simp, h, by simp, by simp⟩
def EqAll (P : Part -> Prop) (e : Eqn) : Prop := (∀ p ∈ e.f, P p) /\ (∀ p ∈ e.s, P p) /\ (∀ t ∈ e.body, ∀ p ∈ t, P p) /\ (∀ t ∈ e.behind, ∀ p ∈ t, P p) /\ (∀ t ∈ e.terms, ∀ p ∈ t, P p)
def EqLen (e : Eqn) : Prop := (∀ t ∈ e.body, t.length <= 400) /\ (∀ t ∈ e.behind, t.length <= 400) /\ (∀ t ∈ e.terms, t.length <= 400)
theorem put_all {P : Part -> Prop} {e : Eqn} {v : Int} {x : List Part} (h : EqAll P e) (hx : ∀ p ∈ x, P p) : EqAll P (e.put v x) := by
 have one : ∀ t : List Part, (∀ p ∈ t, P p) -> ∀ p ∈ putV v x t, P p := fun t ht p hp => by
  rcases putV_mem hp with ⟨h1, _⟩ | h1
  ·exact ht p h1
  ·exact hx p h1
 have many : ∀ ts : List (List Part), (∀ t ∈ ts, ∀ p ∈ t, P p) -> ∀ t ∈ ts.map (putV v x), ∀ p ∈ t, P p := fun ts hts t ht => by
  obtain ⟨u, hu, rfl⟩ := List.mem_map.1 ht
  exact one u (hts u hu)
 exact ⟨one _ h.1, one _ h.2.1, many _ h.2.2.1, many _ h.2.2.2.1, many _ h.2.2.2.2⟩
theorem putE_all {P : Part -> Prop} {e : Eqn} {v : Int} {x : List Part} (h : EqAll P e) (hx : ∀ p ∈ x, P p) : EqAll P (putE e v x).2 := by
 unfold putE
 split
 ·exact h
 ·split
  ·exact h
  ·exact put_all h hx
theorem stepE_all {P : Part -> Prop} {e : Eqn} (h : EqAll P e) : EqAll P (stepE e).2 := by
 obtain ⟨F, S, bo, be, te⟩ := e
 obtain ⟨h1, h2, h3⟩ := h
 unfold stepE
 split
 ·rename_i p f q s e1 e2
  simp only at e1 e2
  subst e1; subst e2
  split
  ·exact ⟨fun x hx => h1 x (List.mem_cons_of_mem _ hx), fun x hx => h2 x (List.mem_cons_of_mem _ hx), h3⟩
  ·split
   ·exact putE_all ⟨fun x hx => h1 x (List.mem_cons_of_mem _ hx), fun x hx => h2 x (List.mem_of_mem_drop hx), h3⟩ (fun x hx => h2 x (List.mem_of_mem_take hx))
   ·split
    ·exact putE_all ⟨fun x hx => h1 x (List.mem_of_mem_drop hx), fun x hx => h2 x (List.mem_cons_of_mem _ hx), h3⟩ (fun x hx => h1 x (List.mem_of_mem_take hx))
    ·exact ⟨h1, h2, h3⟩
 ·exact ⟨h1, h2, h3⟩
theorem size_mem : ∀ {ts : List (List Part)} {t : List Part}, t ∈ ts -> t.length <= sizeT ts
 | [], _, h => by cases h
 | u :: ts, t, h => by
  rw [sizeT]
  rcases List.mem_cons.1 h with rfl | h
  ·omega
  ·have := size_mem h; omega
theorem putE_len {e : Eqn} {v : Int} {x : List Part} (h : EqLen e) : EqLen (putE e v x).2 := by
 unfold putE
 split
 ·exact h
 ·split
  ·exact h
  ·rename_i hz
   simp only []
   unfold Eqn.size at hz
   exact ⟨fun t ht => by have := size_mem ht; omega, fun t ht => by have := size_mem ht; omega, fun t ht => by have := size_mem ht; omega⟩
theorem stepE_len {e : Eqn} (h : EqLen e) : EqLen (stepE e).2 := by
 unfold stepE
 split
 ·split
  ·exact h
  ·split
   ·exact putE_len h
   ·split
    ·exact putE_len h
    ·exact h
 ·exact h
def EqNum (a b c : Nat) (e : Eqn) : Prop := e.body.length = a /\ e.behind.length = b /\ e.terms.length = c
theorem putE_num {e : Eqn} {v : Int} {x : List Part} {a b c : Nat} (h : EqNum a b c e) : EqNum a b c (putE e v x).2 := by
 unfold putE
 split
 ·exact h
 ·split
  ·exact h
  ·exact ⟨by simpa [Eqn.put] using h.1, by simpa [Eqn.put] using h.2.1, by simpa [Eqn.put] using h.2.2⟩
theorem stepE_num {e : Eqn} {a b c : Nat} (h : EqNum a b c e) : EqNum a b c (stepE e).2 := by
 unfold stepE
 split
 ·split
  ·exact h
  ·split
   ·exact putE_num h
   ·split
    ·exact putE_num h
    ·exact h
 ·exact h
theorem solveN_inv {I : Eqn -> Prop} (hs : ∀ e, I e -> I (stepE e).2) : ∀ (n : Nat) (e : Eqn), I e -> I (solveN n e).2
 | 0, _, h => h
 | n + 1, e, h => by
  rw [solveN]
  split
  ·exact h
  ·split
   ·exact solveN_inv hs n _ (hs e h)
   ·exact hs e h
theorem solveE_all {P : Part -> Prop} {e : Eqn} (h : EqAll P e) : EqAll P (solveE e).2 := solveN_inv (fun _ h => stepE_all h) _ e h
theorem solveE_len {e : Eqn} (h : EqLen e) : EqLen (solveE e).2 := solveN_inv (fun _ h => stepE_len h) _ e h
theorem solveE_num (e : Eqn) : EqNum e.body.length e.behind.length e.terms.length (solveE e).2 := solveN_inv (fun _ h => stepE_num h) _ e ⟨rfl, rfl, rfl⟩
theorem ClG.past {c : Cl} (h : ClG c) : 0 <= pastC c /\ pastC c <= 16 := by
 unfold pastC
 have h0 : 0 <= pastT c.head := pastN_ge c.head 0
 have h1 : pastT c.head <= 16 := pastN_le (a := 0) (by omega) (fun p hp hk => ((h.hd.2 p hp).2.1 hk).2)
 have h2 := pastTs_ge c.body (pastT c.head)
 exact ⟨by omega, pastTs_le (by omega) h1 (fun t ht p hp hk => (((h.bd t ht).2 p hp).2.1 hk).2)⟩
theorem own_tm {t : List Part} {off h m : Int} (ht : TmG 16 t) (hv : ∀ p ∈ t, p.kind = 1 -> p.value < m) (h0 : 0 <= off) : TmG (off + m) (ownT off h t) := by
 refine ⟨by unfold ownT; simpa using ht.1, fun p hp => ?_⟩
 unfold ownT at hp
 obtain ⟨q, hq, rfl⟩ := List.mem_map.1 hp
 have hg := ht.2 q hq
 have hvq := hv q hq
 unfold ownP
 split
 ·rename_i hk
  have := hg.2.1 hk
  have := hvq hk
  exact ⟨hg.1, fun _ => by simp only []; omega, fun e => by simp only [hk] at e; omega, hg.2.2.2⟩
 ·split
  ·rename_i hk hk4
   exact ⟨hg.1, fun e => absurd e hk, fun e => by simp only [hk4] at e; omega, hg.2.2.2⟩
  ·rename_i hk _
   exact ⟨hg.1, fun e => absurd e hk, hg.2.2⟩
theorem withS_good {S : St} {c : Cl} {h : Int} {N : Nat} {F : Int} (hS : StG N F S) (hne : S.goals ≠ []) (hc : ClG c) (h0 : (withS S c h).1 = 0) : StG (N + 7) (F + 16) (withS S c h).2 := by
 have hz : (solveE (withE S c h)).1 = 0 := by
  unfold withS at h0
  split at h0
  ·assumption
  ·exact h0
 have hw : (withS S c h).2 = ⟨(solveE (withE S c h)).2.body ++ (solveE (withE S c h)).2.behind, (solveE (withE S c h)).2.terms, S.fresh + pastC c⟩ := by
  unfold withS; rw [if_pos hz]
 rw [hw]
 obtain ⟨g0, gs, hg⟩ : ∃ g0 gs, S.goals = g0 :: gs := by
  cases hS' : S.goals with
  | nil => exact absurd hS' hne
  | cons a b => exact ⟨a, b, rfl⟩
 have hp := hc.past
 have hgg := hS.g
 have hgl := hS.gl
 rw [hg] at hgg hgl
 simp only [List.length_cons] at hgl
 have hT : ∀ t ∈ S.goals, TmG (S.fresh + pastC c) t := fun t ht => (hS.g t ht).mono (by omega)
 have hB : ∀ t ∈ c.body.map (ownT S.fresh h), TmG (S.fresh + pastC c) t := fun t ht => by
  obtain ⟨q, hq, rfl⟩ := List.mem_map.1 ht
  exact own_tm (hc.bd q hq) (fun p hp hk => pastTs_mem hq hp hk) hS.f0
 have hH : TmG (S.fresh + pastC c) (ownT S.fresh h c.head) := own_tm hc.hd (fun p hp hk => by
  have h1 : p.value < pastT c.head := pastN_mem hp hk
  have h2 := pastTs_ge c.body (pastT c.head)
  unfold pastC; omega) hS.f0
 have hE : EqAll (PartG (S.fresh + pastC c)) (withE S c h) := by
  unfold withE
  rw [hg]
  exact ⟨(hT g0 (by rw [hg]; simp)).2, hH.2, fun t ht => (hB t ht).2, fun t ht => (hT t (by rw [hg]; exact List.mem_cons_of_mem _ ht)).2, fun t ht => ((hS.t t ht).mono (by omega)).2⟩
 have hL : EqLen (withE S c h) := by
  unfold withE
  rw [hg]
  exact ⟨fun t ht => (hB t ht).1, fun t ht => (hgg t (List.mem_cons_of_mem _ ht)).1, fun t ht => (hS.t t ht).1⟩
 have hN := solveE_num (withE S c h)
 have hA := solveE_all hE
 have hL2 := solveE_len hL
 have n1 : (withE S c h).body.length = c.body.length := by unfold withE; simp
 have n2 : (withE S c h).behind.length = gs.length := by unfold withE; rw [hg]; rfl
 have n3 : (withE S c h).terms.length = S.terms.length := rfl
 have hbl := hc.bl
 have htl := hS.tl
 have hf1 := hS.f1
 have hf0 := hS.f0
 refine ⟨?_, ?_, by simp only []; omega, by simp only []; omega, fun t ht => ?_, fun t ht => ⟨hL2.2.2 t ht, hA.2.2.2.2 t ht⟩⟩
 ·rw [List.length_append, hN.1, hN.2.1]; omega
 ·have := hN.2.2; simp only []; omega
 ·rcases List.mem_append.1 ht with ht | ht
  ·exact ⟨hL2.1 t ht, hA.2.2.1 t ht⟩
  ·exact ⟨hL2.2.1 t ht, hA.2.2.2.1 t ht⟩
structure CfG (cs : List Cl) (G : Nat) (F : Int) (t : Nat) (cf : Cf) : Prop where
 now : StG (G + 7 * (t + 1)) (F + 16 * (t + 1)) cf.now
 chs : ∀ c ∈ cf.chs, StG (G + 7 * t) (F + 16 * t) c.st /\ (∀ k ∈ c.cls, k < cs.length) /\ (c.cls ≠ [] -> c.st.goals ≠ [])
 len : cf.chs.length <= 20
def ClsG (cs : List Cl) : Prop := ∀ c ∈ cs, ClG c
theorem ClsG.at {cs : List Cl} (h : ClsG cs) {k : Nat} (hk : k < cs.length) : ClG (cs.getD k noCl) := by
 rw [List.getD_eq_getElem?_getD, List.getElem?_eq_getElem hk]
 exact h _ (List.getElem_mem hk)
theorem again_good {cs : List Cl} {G : Nat} {F : Int} {t : Nat} {cf : Cf} (hc : ClsG cs) (h : CfG cs G F t cf) : CfG cs G F t (againP cs cf).2 := by
 unfold againP
 cases hl : cf.chs with
 | nil => exact h
 | cons c low =>
  simp only []
  have hlen2 := h.len
  rw [hl, List.length_cons] at hlen2
  have hmem : c ∈ cf.chs := by rw [hl]; simp
  have hlow : ∀ d ∈ low, d ∈ cf.chs := fun d hd => by rw [hl]; exact List.mem_cons_of_mem _ hd
  obtain ⟨g1, g2, g3⟩ := h.chs c hmem
  unfold takeUp
  split
  ·exact ⟨g1.mono (by omega) (by omega), fun d hd => h.chs d (hlow d hd), by simp only []; omega⟩
  ·rename_i k rest he
   rw [he] at g2 g3
   have hG := hc.at (g2 k (by simp))
   have hchs : ∀ d ∈ putCh low c.st rest, StG (G + 7 * t) (F + 16 * t) d.st /\ (∀ k ∈ d.cls, k < cs.length) /\ (d.cls ≠ [] -> d.st.goals ≠ []) := by
    intro d hd
    unfold putCh at hd
    split at hd
    ·exact h.chs d (hlow d hd)
    ·rcases List.mem_cons.1 hd with rfl | hd
     ·exact ⟨g1, fun j hj => g2 j (List.mem_cons_of_mem _ hj), fun _ => g3 (by simp)⟩
     ·exact h.chs d (hlow d hd)
   have hl2 : (putCh low c.st rest).length <= 20 := by
    unfold putCh; split
    ·omega
    ·simp only [List.length_cons]; omega
   unfold useP
   simp only []
   split
   ·rename_i h0
    exact ⟨(withS_good g1 (g3 (by simp)) hG h0).mono (by omega) (by omega), hchs, hl2⟩
   ·exact ⟨h.now, hchs, hl2⟩
theorem matchN_lt (S : St) : ∀ (i : Nat) (cs : List Cl) (k : Nat), k ∈ matchN S i cs -> i <= k /\ k < i + cs.length
 | _, [], _, h => by simp [matchN] at h
 | i, c :: cs, k, h => by
  rw [matchN] at h
  rcases List.mem_append.1 h with h | h
  ·split at h
   ·simp at h; subst h; simp
   ·simp at h
  ·have := matchN_lt S (i + 1) cs k h
   simp only [List.length_cons]; omega
theorem argN_sub : ∀ (n : Nat) (r : List Part), (argN n r).length <= r.length /\ ∀ p ∈ argN n r, p ∈ r
 | 0, r => ⟨by simp [argN, List.length_take]; omega, fun p hp => List.mem_of_mem_take hp⟩
 | n + 1, r => by
  have h := argN_sub n (r.drop (leadT r))
  refine ⟨?_, fun p hp => List.mem_of_mem_drop (h.2 p hp)⟩
  have := h.1
  rw [argN]
  simp only [List.length_drop] at this
  omega
theorem argT_sub (t : List Part) (i : Nat) : (argT t i).length <= t.length /\ ∀ p ∈ argT t i, p ∈ t := by
 unfold argT
 split
 ·exact ⟨by simp, by simp⟩
 ·have h := argN_sub i t.tail
  exact ⟨by have := h.1; simp only [List.length_tail] at this; omega, fun p hp => List.mem_of_mem_tail (h.2 p hp)⟩
theorem argT_tm {f : Int} {t : List Part} (h : TmG f t) (i : Nat) : TmG f (argT t i) := ⟨Nat.le_trans (argT_sub t i).1 h.1, fun p hp => h.2 p ((argT_sub t i).2 p hp)⟩
theorem goalP_tm {N : Nat} {F : Int} {S : St} (h : StG N F S) (hne : S.goals ≠ []) : TmG S.fresh (goalP S) := by
 unfold goalP
 cases hg : S.goals with
 | nil => exact absurd hg hne
 | cons a b => exact h.g a (by rw [hg]; simp)
theorem tail_good {N : Nat} {F : Int} {S : St} (h : StG N F S) : StG N F ⟨S.goals.tail, S.terms, S.fresh⟩ :=
 ⟨by have := h.gl; simp only [List.length_tail]; omega, h.tl, h.f0, h.f1, fun t ht => h.g t (List.mem_of_mem_tail ht), h.t⟩
theorem equal_good {N : Nat} {F : Int} {cf : Cf} {a b : List Part} (h : StG N F cf.now) (ha : TmG cf.now.fresh a) (hb : TmG cf.now.fresh b) : StG N F (equalP cf a b).2.now /\ (equalP cf a b).2.chs = cf.chs := by
 have hE : EqAll (PartG cf.now.fresh) (equalE cf a b) := ⟨ha.2, hb.2, (by intro t ht; cases ht), fun t ht => (h.g t (List.mem_of_mem_tail ht)).2, fun t ht => (h.t t ht).2⟩
 have hL : EqLen (equalE cf a b) := ⟨(by intro t ht; cases ht), fun t ht => (h.g t (List.mem_of_mem_tail ht)).1, fun t ht => (h.t t ht).1⟩
 have hA := solveE_all hE
 have hL2 := solveE_len hL
 have hN := solveE_num (equalE cf a b)
 unfold equalP
 simp only []
 split
 ·refine ⟨⟨?_, ?_, h.f0, h.f1, fun t ht => ⟨hL2.2.1 t ht, hA.2.2.2.1 t ht⟩, fun t ht => ⟨hL2.2.2 t ht, hA.2.2.2.2 t ht⟩⟩, rfl⟩
  ·have := h.gl; have h2 := hN.2.1; have h3 : (equalE cf a b).behind.length = cf.now.goals.length - 1 := by unfold equalE; simp
   simp only []; omega
  ·have := h.tl; have h2 := hN.2.2; have h3 : (equalE cf a b).terms.length = cf.now.terms.length := rfl
   simp only []; omega
 ·exact ⟨h, rfl⟩
theorem num_tm {f v : Int} (h0 : ¬ (v < -999999999 \/ 999999999 < v)) : TmG f (numT v) := by
 refine ⟨by simp [numT], fun p hp => ?_⟩
 simp [numT] at hp; subst hp
 exact ⟨by simp, by simp, fun _ => by simp only []; omega, by simp [ByteArray.size]⟩
theorem cut_tm (f h : Int) : TmG f (cutT h) := by
 refine ⟨by simp [cutT], fun p hp => ?_⟩
 simp [cutT] at hp; subst hp
 exact ⟨by simp, by simp, by simp, by simp [ByteArray.size]⟩
theorem fail_tm (f : Int) : TmG f failT := by
 refine ⟨by simp [failT], fun p hp => ?_⟩
 simp [failT] at hp; subst hp
 exact ⟨by simp, by simp, by simp, by decide⟩
theorem take_good {cs : List Cl} {G : Nat} {F : Int} {t : Nat} {cf : Cf} (hc : ClsG cs) (h : CfG cs G F t cf) (hne : cf.now.goals ≠ []) : CfG cs G F (t + 1) (takeP cs cf).2 := by
 have hold : ∀ c ∈ cf.chs, StG (G + 7 * (t + 1)) (F + 16 * (t + 1 : Nat)) c.st /\ (∀ k ∈ c.cls, k < cs.length) /\ (c.cls ≠ [] -> c.st.goals ≠ []) := fun c hc => ⟨(h.chs c hc).1.mono (by omega) (by omega), (h.chs c hc).2⟩
 have hn := h.now
 have hn1 : StG (G + 7 * (t + 1 + 1)) (F + 16 * ((t + 1 : Nat) + 1)) cf.now := hn.mono (by omega) (by omega)
 have hn2 : StG (G + 7 * (t + 1)) (F + 16 * (t + 1 : Nat)) cf.now := hn.mono (by omega) (by omega)
 have hstay : CfG cs G F (t + 1) cf := ⟨hn1, hold, h.len⟩
 have hmeet : CfG cs G F (t + 1) (meetP cf).2 := ⟨tail_good hn1, hold, h.len⟩
 have hgt := goalP_tm hn hne
 have hlen := h.len
 have hequal : ∀ a b, TmG cf.now.fresh a -> TmG cf.now.fresh b -> CfG cs G F (t + 1) (equalP cf a b).2 := fun a b ha hb => by
  have h1 := equal_good hn1 ha hb
  exact ⟨h1.1, by rw [h1.2]; exact hold, by rw [h1.2]; exact hlen⟩
 unfold takeP
 split
 ·unfold builtP
  split
  ·exact ⟨tail_good hn1, fun c hc => hold c (List.mem_of_mem_drop hc), by show (List.drop _ _).length <= 20; rw [List.length_drop]; omega⟩
  split
  ·exact hmeet
  split
  ·exact hequal _ _ (argT_tm hgt 0) (argT_tm hgt 1)
  split
  ·unfold lessP
   split
   ·split
    ·exact hmeet
    ·exact hstay
   ·exact hstay
  split
  ·unfold plusP
   split
   ·split
    ·exact hstay
    ·rename_i hr
     exact hequal _ _ (num_tm hr) (argT_tm hgt 2)
   ·exact hstay
  split
  ·unfold notP
   split
   ·split
    ·exact hstay
    ·rename_i h20
     refine ⟨⟨by simp only [List.length_cons, List.length_nil]; omega, hn.tl, hn.f0, by have := hn.f1; simp only []; omega, fun u hu => ?_, hn.t⟩, fun c hc => ?_, by simp only [List.length_cons]; omega⟩
     ·simp only [List.mem_cons, List.not_mem_nil, or_false] at hu
      rcases hu with rfl | rfl | rfl
      ·exact argT_tm hgt 0
      ·exact cut_tm _ _
      ·exact fail_tm _
     ·rcases List.mem_cons.1 hc with rfl | hc
      ·exact ⟨tail_good hn2, by simp, by simp⟩
      ·exact hold c hc
   ·exact hstay
  ·exact hstay
 ·split
  ·have hm := matchN_lt cf.now 0 cs
   unfold chooseP
   split
   ·exact hstay
   ·rename_i k rest he
    have hk := hm k (by rw [he]; simp)
    have hrest : ∀ j ∈ rest, j < cs.length := fun j hj => by have := hm j (by rw [he]; exact List.mem_cons_of_mem _ hj); omega
    split
    ·exact hstay
    ·rename_i hdeep
     have hchs : ∀ d ∈ putCh cf.chs cf.now rest, StG (G + 7 * (t + 1)) (F + 16 * (t + 1 : Nat)) d.st /\ (∀ k ∈ d.cls, k < cs.length) /\ (d.cls ≠ [] -> d.st.goals ≠ []) := by
      intro d hd
      unfold putCh at hd
      split at hd
      ·exact hold d hd
      ·rcases List.mem_cons.1 hd with rfl | hd
       ·exact ⟨hn2, hrest, fun _ => hne⟩
       ·exact hold d hd
     have hl2 : (putCh cf.chs cf.now rest).length <= 20 := by
      unfold putCh; split
      ·exact hlen
      ·rename_i hr
       have : ¬ 20 <= cf.chs.length := fun h9 => hdeep ⟨hr, h9⟩
       simp only [List.length_cons]; omega
     unfold useP
     simp only []
     split
     ·rename_i h0
      exact ⟨(withS_good hn hne (hc.at (by omega)) h0).mono (by omega) (by omega), hchs, hl2⟩
     ·exact ⟨hn1, hchs, hl2⟩
  ·exact hstay
end Rf
