/- Plain facts: the names of a question's variables have at most twelve bytes. -/
import Derived.Test.YtpdikdnffehmkaaGreatDoorYai
import Derived.Test.YtpdikdnffehmkaaGreatDoorYam
namespace Rf
def Nz (l : List Tok) : Prop := ∀ t ∈ l, t.k = 118 → t.s.size ≤ 12
def Ns (ns : List ByteArray) : Prop := ∀ y ∈ ns, y.size ≤ 12
theorem tokenAt_nz (s : ByteArray) (n : Nat) (h : (tokenAt s n).k = 118) : (tokenAt s n).s.size ≤ 12 := by
  unfold tokenAt at h ⊢
  have hnum : ∀ neg W, (numTok n neg W).k ≠ 118 := fun neg W => by unfold numTok; split <;> (try split) <;> simp [bad]
  split at h
  · exact absurd h (hnum _ _)
  rename_i h1
  rw [if_neg h1]
  split at h
  · exact absurd h (hnum _ _)
  rename_i h2
  rw [if_neg h2]
  split at h
  · rename_i h3
    rw [if_pos h3]
    unfold wordTok at h ⊢
    split at h
    · simp [bad] at h
    · rename_i h4
      rw [if_neg h4]
      split
      · show (runS s false n).size ≤ 12; omega
      · show (runS s false n).size ≤ 12; omega
  · rename_i h3
    split at h
    · rename_i h4
      simp only at h
      rw [h] at h4; exact absurd h4 (by decide)
    · split at h
      · simp at h
      · simp [bad] at h
theorem toks_nz (s : ByteArray) : ∀ (f n : Nat), Nz (toks s f n)
  | 0, n => fun t ht h => by simp [toks] at ht; subst ht; simp [endTok] at h
  | f + 1, n => by
    rw [toks]
    split
    · split
      · exact toks_nz s f _
      · split
        · intro t ht h; simp at ht; subst ht; exact tokenAt_nz s n h
        · intro t ht h
          rcases List.mem_cons.1 ht with rfl | ht
          · exact tokenAt_nz s n h
          · exact toks_nz s f _ t ht h
    · intro t ht h; simp at ht; subst ht; simp [endTok] at h
theorem varS_nz {t : Tok} {ns ns' : List ByteArray} {i : Nat} (h : varS t ns = .ok (i, ns')) (ht : t.s.size ≤ 12) (hn : Ns ns) : Ns ns' := by
  unfold varS at h
  split at h
  · simp only [Except.ok.injEq, Prod.mk.injEq] at h; obtain ⟨_, rfl⟩ := h; exact hn
  · split at h
    · cases h
    · simp only [Except.ok.injEq, Prod.mk.injEq] at h
      obtain ⟨_, rfl⟩ := h
      intro y hy
      rcases List.mem_append.1 hy with hy | hy
      · exact hn y hy
      · simp at hy; subst hy; exact ht
def ReadsZ (rd : List Tok → List ByteArray → Except (Int × Nat) (List Part × List Tok × List ByteArray)) : Prop := ∀ l ns p l1 ns1, Nz l → Ns ns → rd l ns = .ok (p, l1, ns1) → Nz l1 ∧ Ns ns1
theorem Nz.tail {t : Tok} {l : List Tok} (h : Nz (t :: l)) : Nz l := fun u hu => h u (List.mem_cons_of_mem _ hu)
theorem argsS_nz (rd : List Tok → List ByteArray → Except (Int × Nat) (List Part × List Tok × List ByteArray)) (h : ReadsZ rd) :
    ∀ (k : Nat) (acc : List (List Part)) (l : List Tok) (ns : List ByteArray) (a1 : List (List Part)) (l2 : List Tok) (ns2 : List ByteArray), Nz l → Ns ns → argsS rd k acc l ns = .ok (a1, l2, ns2) → Nz l2 ∧ Ns ns2
  | 0, _, _, _, _, _, _, _, _, e => by simp [argsS] at e
  | k + 1, acc, l, ns, a1, l2, ns2, hl, hn, e => by
    rw [argsS] at e
    cases hr : rd l ns with
    | error x => rw [hr] at e; cases e
    | ok x =>
      obtain ⟨p, l1, ns1⟩ := x
      obtain ⟨g1, g2⟩ := h l ns p l1 ns1 hl hn hr
      rw [hr] at e
      cases l1 with
      | nil => cases e
      | cons u l3 =>
        simp only at e
        split at e
        · split at e
          · cases e
          · exact argsS_nz rd h k _ l3 ns1 a1 l2 ns2 g1.tail g2 e
        · split at e
          · simp only [Except.ok.injEq, Prod.mk.injEq] at e
            obtain ⟨rfl, rfl, rfl⟩ := e
            exact ⟨g1.tail, g2⟩
          · cases e
theorem termS_nz : ∀ (f : Nat), ReadsZ (termS f)
  | 0 => fun _ _ _ _ _ _ _ e => by simp [termS] at e
  | f + 1 => fun l ns p l1 ns1 h hn e => by
    cases l with
    | nil => simp [termS] at e
    | cons t l =>
    rw [termS] at e
    split at e
    · rename_i h118
      unfold varT at e
      split at e
      · cases e
      · rename_i i ns' hv
        have hg := varS_nz hv (h t (by simp) h118) hn
        simp only [Except.ok.injEq, Prod.mk.injEq] at e
        obtain ⟨rfl, rfl, rfl⟩ := e
        exact ⟨h.tail, hg⟩
    · split at e
      · simp only [Except.ok.injEq, Prod.mk.injEq] at e
        obtain ⟨rfl, rfl, rfl⟩ := e
        exact ⟨h.tail, hn⟩
      · split at e
        · cases l with
          | nil => cases e
          | cons u l' =>
            simp only [nameS] at e
            split at e
            · cases ha : argsS (termS f) 4 [] l' ns with
              | error x => rw [ha] at e; cases e
              | ok x =>
                obtain ⟨a1, l2, ns2⟩ := x
                rw [ha] at e
                simp only [Except.ok.injEq, Prod.mk.injEq] at e
                obtain ⟨rfl, rfl, rfl⟩ := e
                exact argsS_nz (termS f) (termS_nz f) 4 [] l' ns a1 l2 ns2 h.tail.tail hn ha
            · simp only [Except.ok.injEq, Prod.mk.injEq] at e
              obtain ⟨rfl, rfl, rfl⟩ := e
              exact ⟨h.tail, hn⟩
        · cases e
theorem goalS_nz (f : Nat) : ReadsZ (goalS f) := fun l ns p l1 ns1 h hn e => by
  cases l with
  | nil => simp [goalS] at e
  | cons t l =>
    simp only [goalS] at e
    split at e
    · simp only [Except.ok.injEq, Prod.mk.injEq] at e
      obtain ⟨rfl, rfl, rfl⟩ := e
      exact ⟨h.tail, hn⟩
    · cases hr : termS f (t :: l) ns with
      | error x => rw [hr] at e; cases e
      | ok x =>
        obtain ⟨p', l', ns'⟩ := x
        rw [hr] at e
        simp only at e
        split at e
        · simp only [Except.ok.injEq, Prod.mk.injEq] at e
          obtain ⟨rfl, rfl, rfl⟩ := e
          exact termS_nz f _ _ _ _ _ h hn hr
        · cases e
theorem goalsP_nz (f : Nat) : ∀ (k : Nat) (acc : List (List Part)) (l : List Tok) (ns : List ByteArray) (a1 : List (List Part)) (l2 : List Tok) (ns2 : List ByteArray),
    Nz l → Ns ns → goalsP f k acc l ns = .ok (a1, l2, ns2) → Ns ns2
  | 0, _, _, _, _, _, _, _, _, e => by simp [goalsP] at e
  | k + 1, acc, l, ns, a1, l2, ns2, hl, hn, e => by
    rw [goalsP] at e
    cases hr : goalS f l ns with
    | error x => rw [hr] at e; cases e
    | ok x =>
      obtain ⟨p, l1, ns1⟩ := x
      obtain ⟨g1, g2⟩ := goalS_nz f l ns p l1 ns1 hl hn hr
      rw [hr] at e
      cases l1 with
      | nil => cases e
      | cons u l3 =>
        simp only at e
        split at e
        · split at e
          · cases e
          · exact goalsP_nz f k _ l3 ns1 a1 l2 ns2 g1.tail g2 e
        · simp only [Except.ok.injEq, Prod.mk.injEq] at e
          obtain ⟨rfl, rfl, rfl⟩ := e
          exact g2
theorem questS_nz {s : ByteArray} {gs : List (List Part)} {ns : List ByteArray} (h : questS s = .ok (gs, ns)) : ∀ y ∈ beginN ns, y.size ≤ 12 := by
  have key : Ns ns := by
    unfold questS at h
    split at h
    · cases h
    · unfold questP at h
      cases hr : goalsP (tokens s).length 8 [] (tokens s) [] with
      | error e => rw [hr] at h; cases h
      | ok x =>
        obtain ⟨g1, l1, n1⟩ := x
        have hz := goalsP_nz _ _ _ _ _ _ _ _ (toks_nz s _ _) (fun y hy => by simp at hy) hr
        rw [hr] at h
        simp only at h
        split at h
        · cases h
        · split at h
          · split at h
            · cases h
            · split at h
              · simp only [Except.ok.injEq, Prod.mk.injEq] at h; obtain ⟨rfl, rfl⟩ := h
                exact hz
              · cases h
          · cases h
  intro y hy
  unfold beginN at hy
  obtain ⟨x, hx, rfl⟩ := List.mem_map.1 hy
  exact key _ (namedFrom_mem 0 ns x hx).2.2.1
end Rf
/- Plain functions: the statements' own texts (constants, facts, high numbers), read as the clauses that they spell. -/
namespace Rf
def pickK (c n : Int) : Nat := ((if c < 0 then -(c + 1) else c).tmod n).toNat
theorem pickK_lt {c n : Int} (hn : 1 ≤ n) : (pickK c n : Int) < n := by
  unfold pickK
  have h3 : 0 ≤ (if c < 0 then -(c + 1) else c) := by split <;> omega
  have h4 := Int.tmod_nonneg (a := if c < 0 then -(c + 1) else c) n h3
  have h5 := Int.tmod_lt_of_pos (if c < 0 then -(c + 1) else c) (b := n) (by omega)
  omega
/-- One of twenty names. -/
def constB (x : Int) : ByteArray := ⟨#[99]⟩ ++ itoaB (pickK x 20)
theorem itoa_nat (k : Nat) : Go.Lib.itoa (k : Int) = Go.Lib.decDigits k := by unfold Go.Lib.itoa; rw [if_neg (by omega), Int.toNat_natCast]
theorem constB_bs (x : Int) : bs (constB x) = 99 :: Go.Lib.decDigits (pickK x 20) := by
  unfold constB
  rw [bs_app]
  show 99 :: bs (itoaB _) = _
  unfold itoaB bs
  rw [itoa_nat]
theorem constB_len (x : Int) : (99 :: Go.Lib.decDigits (pickK x 20)).length ≤ 3 := by
  have h := pickK_lt (c := x) (n := 20) (by omega)
  have := digits_le 2 (pickK x 20) (by omega) (by omega)
  simp only [List.length_cons]; omega
theorem constB_ok (x : Int) : NmOk (constB x) := by
  have hl := constB_len x
  refine ⟨99, _, constB_bs x, by decide, fun y hy => ?_, by omega⟩
  rcases List.mem_cons.1 hy with rfl | hy
  · decide
  · exact digit_letter _ ((decDigits_ok (pickK x 20 + 1) (pickK x 20) (by omega)).1 y hy)
theorem constB_size (x : Int) : (constB x).size ≤ 3 := by rw [← bs_len, constB_bs]; exact constB_len x
/-- The text of facts of a predicate, one for each number. -/
def factT (nm c : ByteArray) : ByteArray := nm ++ ⟨#[40]⟩ ++ c ++ ⟨#[41, 46]⟩
def factB (nm : ByteArray) (x : Int) : ByteArray := factT nm (constB x)
def factsB (nm : ByteArray) : List Int → ByteArray
  | [] => ⟨#[]⟩
  | x :: xs => factB nm x ++ factsB nm xs
theorem factsB_snoc (nm : ByteArray) : ∀ (xs : List Int) (x : Int), factsB nm (xs ++ [x]) = factsB nm xs ++ factB nm x
  | [], x => by rw [List.nil_append, factsB, factsB, factsB, app_emp, emp_app]
  | y :: xs, x => by rw [List.cons_append, factsB, factsB_snoc nm xs x, factsB, ByteArray.append_assoc]
theorem factB_size (nm : ByteArray) (x : Int) : (factB nm x).size ≤ nm.size + 6 := by
  have := constB_size x
  unfold factB factT
  rw [ByteArray.size_append, ByteArray.size_append, ByteArray.size_append]
  have h1 : (⟨#[40]⟩ : ByteArray).size = 1 := rfl
  have h2 : (⟨#[41, 46]⟩ : ByteArray).size = 2 := rfl
  omega
theorem factsB_size (nm : ByteArray) (h : nm.size ≤ 1) : ∀ xs : List Int, (factsB nm xs).size ≤ xs.length * 7
  | [] => by simp [factsB, ByteArray.size]
  | x :: xs => by
    rw [factsB, ByteArray.size_append, List.length_cons]
    have := factB_size nm x
    have := factsB_size nm h xs
    omega
theorem factsB_step (nm s c : ByteArray) : s ++ nm ++ ⟨#[40]⟩ ++ c ++ ⟨#[41, 46]⟩ = s ++ (nm ++ ⟨#[40]⟩ ++ c ++ ⟨#[41, 46]⟩) := by simp only [ByteArray.append_assoc]
theorem fact_line (p c : ByteArray) : lineN [] (fact1 p c) = factT p c := by
  have h2 := txtG_comp (wordN []) 1 p [[nmP c 0]] (by simp) (fun q hq => by simp at hq; subst hq; exact wf_atom _ rfl 0)
  have e2 : txtG (wordN []) [nmP p 1, nmP c 0] = p ++ (⟨#[40]⟩ ++ (txtG (wordN []) [nmP c 0] ++ ⟨#[41]⟩)) := h2
  have e0 : lineN [] (fact1 p c) = txtG (wordN []) [nmP p 1, nmP c 0] ++ (⟨#[]⟩ ++ ⟨#[46]⟩) := rfl
  rw [e0, e2, txtG_one _ _ rfl]
  have e3 : wordN [] (nmP c 0) = c := rfl
  rw [e3]
  unfold factT
  refine bs_inj ?_
  simp only [bs_app, List.append_assoc]
  rfl
theorem fact_okN {p c : ByteArray} (hp : NmOk p) (hc : NmOk c) (hb : builtInB p 1 = false) : ClOkN [] (fact1 p c) := by
  refine ⟨⟨by simp, by simp, fun W hW => by simp at hW⟩, ⟨2, .inr ⟨p, [[nmP c 0]], by simp, fun q hq => by simp at hq; subst hq; exact wf_atom _ rfl 0, rfl⟩⟩, fun x hx => ?_, ?_, fun g hg => by simp [fact1] at hg, by simp [fact1], ?_, by simp [fact1]⟩
  · simp [fact1] at hx
    rcases hx with rfl | rfl
    · exact part_name hp (by decide) (by decide)
    · exact part_name hc (by decide) (by decide)
  · show ((3 : Int) == 3 && !builtInB p 1) = true
    rw [hb]; rfl
  · exact ⟨0, rfl, 0, rfl, rfl⟩
def factL (p : ByteArray) (xs : List Int) : List (List ByteArray × Cl) := xs.map (fun x => ([], fact1 p (constB x)))
theorem facts_text (p : ByteArray) : ∀ xs, textsN (factL p xs) = factsB p xs
  | [] => rfl
  | x :: xs => by
    show lineN [] (fact1 p (constB x)) ++ textsN (factL p xs) = _
    rw [fact_line, facts_text p xs]; rfl
theorem texts_app : ∀ (a b : List (List ByteArray × Cl)), textsN (a ++ b) = textsN a ++ textsN b
  | [], b => by show textsN b = ⟨#[]⟩ ++ textsN b; rw [emp_app]
  | x :: a, b => by
    show lineN x.1 x.2 ++ textsN (a ++ b) = lineN x.1 x.2 ++ textsN a ++ textsN b
    rw [texts_app a b, ByteArray.append_assoc]
theorem factL_ok {p : ByteArray} (hp : NmOk p) (hb : builtInB p 1 = false) (xs : List Int) : ∀ x ∈ factL p xs, ClOkN x.1 x.2 := fun x hx => by
  unfold factL at hx
  obtain ⟨y, _, rfl⟩ := List.mem_map.1 hx
  exact fact_okN hp (constB_ok y) hb
theorem factL_cls (p : ByteArray) (xs : List Int) : (factL p xs).map (·.2) = (xs.map constB).map (fact1 p) := by
  unfold factL; rw [List.map_map, List.map_map]; rfl
theorem ok_app {a b : List (List ByteArray × Cl)} (ha : ∀ x ∈ a, ClOkN x.1 x.2) (hb : ∀ x ∈ b, ClOkN x.1 x.2) : ∀ x ∈ a ++ b, ClOkN x.1 x.2 := fun x hx => by
  rcases List.mem_append.1 hx with h | h
  · exact ha x h
  · exact hb x h
/-- Facts' text. -/
theorem read_facts (xs : List Int) (h : xs.length ≤ 30) : readS (factsB pB xs) = .ok (FactsL.cls (xs.map constB)) := by
  have hz := factsB_size pB (by decide) xs
  rw [← facts_text, read_texts _ (factL_ok pB_ok rfl xs) (by rw [facts_text]; omega), factL_cls]
  rfl
theorem read_joined (xs ys : List Int) (h : xs.length ≤ 15) (h' : ys.length ≤ 15) : readS (factsB pB xs ++ factsB qB ys) = .ok (JoinedL.cls (xs.map constB) (ys.map constB)) := by
  have hz := factsB_size pB (by decide) xs
  have hz' := factsB_size qB (by decide) ys
  have e : textsN (factL pB xs ++ factL qB ys) = factsB pB xs ++ factsB qB ys := by rw [texts_app, facts_text, facts_text]
  rw [← e, read_texts _ (ok_app (factL_ok pB_ok rfl xs) (factL_ok qB_ok rfl ys)) (by rw [e, ByteArray.size_append]; omega), List.map_append, factL_cls, factL_cls]
  rfl
/-- The text of First's last clauses. -/
def firstB : ByteArray := ⟨#[102, 40, 88, 41, 58, 45, 112, 40, 88, 41, 44, 33, 46, 102, 40, 122, 41, 46]⟩
theorem goal_cutOk (ν : List ByteArray) : GoalOk ν (cutT 0) := .inl rfl
theorem F1_ok : ClOkN [xB] FirstL.F1 := by
  refine ⟨⟨by simp, by simp, fun W hW => by simp at hW; subst hW; exact vx_ok⟩, ⟨2, .inr ⟨FirstL.fB, [[vrP 0]], by simp, fun q hq => by simp at hq; subst hq; exact wf_atom _ rfl 0, rfl⟩⟩, fun x hx => ?_, rfl, fun g hg => ?_, by simp [FirstL.F1], ?_, by simp [FirstL.F1]⟩
  · simp [FirstL.F1] at hx
    rcases hx with rfl | rfl
    · exact part_name FirstL.fB_ok (by decide) (by decide)
    · exact part_var (i := 0) (by simp)
  · simp [FirstL.F1] at hg
    rcases hg with rfl | rfl
    · exact goal_var (i := 0) pB_ok (by simp)
    · exact goal_cutOk _
  · exact ⟨0, rfl, 1, .inr ⟨rfl, rfl⟩, 1, rfl, 1, .inl ⟨by decide, rfl⟩, 1, rfl, rfl⟩
theorem first_text : textsN [([xB], FirstL.F1), ([], fact1 FirstL.fB FirstL.zB)] = firstB := rfl
theorem read_first (xs ys : List Int) (h : xs.length ≤ 12) (h' : ys.length ≤ 12) : readS (factsB pB xs ++ factsB qB ys ++ firstB) = .ok (FirstL.cls (xs.map constB) (ys.map constB)) := by
  have hz := factsB_size pB (by decide) xs
  have hz' := factsB_size qB (by decide) ys
  have e : textsN (factL pB xs ++ (factL qB ys ++ [([xB], FirstL.F1), ([], fact1 FirstL.fB FirstL.zB)])) = factsB pB xs ++ factsB qB ys ++ firstB := by rw [texts_app, texts_app, facts_text, facts_text, first_text, ByteArray.append_assoc]
  have hf : firstB.size = 18 := rfl
  rw [← e, read_texts _ (ok_app (factL_ok pB_ok rfl xs) (ok_app (factL_ok qB_ok rfl ys) (fun x hx => ?_))) (by rw [e, ByteArray.size_append, ByteArray.size_append]; omega), List.map_append, List.map_append, factL_cls, factL_cls]
  · rfl
  · simp at hx
    rcases hx with rfl | rfl
    · exact F1_ok
    · exact fact_okN FirstL.fB_ok FirstL.zB_ok rfl
/-- The text of Absent's last clause. -/
def absentB : ByteArray := ⟨#[112, 40, 108, 97, 115, 116, 41, 46]⟩
theorem lastB_ok : NmOk AbsentL.lastB := ⟨108, [97, 115, 116], rfl, by decide, by decide, by decide⟩
theorem read_absent (xs : List Int) (h : xs.length ≤ 20) : readS (factsB pB xs ++ absentB) = .ok (AbsentL.cls (xs.map constB)) := by
  have hz := factsB_size pB (by decide) xs
  have e0 : textsN [([], fact1 pB AbsentL.lastB)] = absentB := rfl
  have e : textsN (factL pB xs ++ [([], fact1 pB AbsentL.lastB)]) = factsB pB xs ++ absentB := by rw [texts_app, facts_text, e0]
  have hf : absentB.size = 8 := rfl
  rw [← e, read_texts _ (ok_app (factL_ok pB_ok rfl xs) (fun x hx => ?_)) (by rw [e, ByteArray.size_append]; omega), List.map_append, factL_cls]
  · unfold AbsentL.cls; rw [List.map_append]; rfl
  · simp at hx; subst hx; exact fact_okN pB_ok lastB_ok rfl
theorem const_none (xs : List Int) : AbsentL.noneB ∉ xs.map constB := fun h => by
  obtain ⟨x, _, e⟩ := List.mem_map.1 h
  have := congrArg bs e
  rw [constB_bs] at this
  injection this with h1 _
  exact absurd h1 (by decide)
theorem const_last (x : Int) : constB x ≠ AbsentL.lastB := fun e => by
  have := congrArg bs e
  rw [constB_bs] at this
  injection this with h1 _
  exact absurd h1 (by decide)
/-- The text of the clauses of sums. -/
def addsB : ByteArray := ⟨#[97, 100, 100, 40, 122, 44, 89, 44, 89, 41, 46, 97, 100, 100, 40, 115, 40, 88, 41, 44, 89, 44, 115, 40, 90, 41, 41, 58, 45, 97, 100, 100, 40, 88, 44, 89, 44, 90, 41, 46]⟩
theorem A1_ok : ClOkN [AddsL.yB] AddsL.A1 := by
  refine ⟨⟨by simp, by simp, fun W hW => by simp at hW; subst hW; exact AddsL.vy_ok⟩, ⟨2, .inr ⟨AddsL.addB, [[AddsL.zP], [vrP 0], [vrP 0]], by simp, fun q hq => ?_, rfl⟩⟩, fun x hx => ?_, rfl, fun g hg => by simp [AddsL.A1] at hg, by simp [AddsL.A1], ?_, by simp [AddsL.A1]⟩
  · simp at hq
    rcases hq with rfl | rfl <;> exact wf_atom _ rfl 0
  · simp [AddsL.A1] at hx
    rcases hx with rfl | rfl | rfl
    · exact part_name AddsL.addB_ok (by decide) (by decide)
    · exact part_name AddsL.zB_ok (by decide) (by decide)
    · exact part_var (i := 0) (by simp)
  · exact ⟨0, rfl, 0, rfl, 1, .inr ⟨rfl, rfl⟩, 1, .inl ⟨by decide, rfl⟩, rfl⟩
theorem A2_ok : ClOkN [xB, AddsL.yB, AddsL.zV] AddsL.A2 := by
  refine ⟨⟨by decide, by decide, fun W hW => ?_⟩, ⟨3, .inr ⟨AddsL.addB, [[AddsL.sP, vrP 0], [vrP 1], [AddsL.sP, vrP 2]], by simp, fun q hq => ?_, rfl⟩⟩, fun x hx => ?_, rfl, fun g hg => ?_, by simp [AddsL.A2], ?_, by simp [AddsL.A2]⟩
  · simp at hW
    rcases hW with rfl | rfl | rfl
    · exact vx_ok
    · exact AddsL.vy_ok
    · exact AddsL.vz_ok
  · simp at hq
    rcases hq with rfl | rfl | rfl
    · exact .inr ⟨AddsL.sB, [[vrP 0]], by simp, fun q hq => by simp at hq; subst hq; exact wf_atom _ rfl 0, rfl⟩
    · exact wf_atom _ rfl 1
    · exact .inr ⟨AddsL.sB, [[vrP 2]], by simp, fun q hq => by simp at hq; subst hq; exact wf_atom _ rfl 0, rfl⟩
  · simp [AddsL.A2] at hx
    rcases hx with rfl | rfl | rfl | rfl | rfl | rfl
    · exact part_name AddsL.addB_ok (by decide) (by decide)
    · exact part_name AddsL.sB_ok (by decide) (by decide)
    · exact part_var (i := 0) (by simp)
    · exact part_var (i := 1) (by simp)
    · exact part_name AddsL.sB_ok (by decide) (by decide)
    · exact part_var (i := 2) (by simp)
  · simp [AddsL.A2] at hg
    subst hg
    refine goal_comp (d := 1) (qs := [[vrP 0], [vrP 1], [vrP 2]]) AddsL.addB_ok (by simp) (by simp) (fun q hq => ?_) (fun q hq p hp => ?_) rfl
    · simp at hq
      rcases hq with rfl | rfl | rfl <;> exact wf_atom _ rfl 0
    · simp at hq
      rcases hq with rfl | rfl | rfl <;> (simp at hp; subst hp)
      · exact part_var (i := 0) (by simp)
      · exact part_var (i := 1) (by simp)
      · exact part_var (i := 2) (by simp)
  · exact ⟨0, rfl, 0, rfl, 1, .inr ⟨rfl, rfl⟩, 2, .inr ⟨rfl, rfl⟩, 2, rfl, 3, .inr ⟨rfl, rfl⟩, 3, rfl, 3, .inl ⟨by decide, rfl⟩, 3, .inl ⟨by decide, rfl⟩, 3, .inl ⟨by decide, rfl⟩, rfl⟩
theorem read_adds : readS addsB = .ok AddsL.cls := by
  have e : textsN [([AddsL.yB], AddsL.A1), ([xB, AddsL.yB, AddsL.zV], AddsL.A2)] = addsB := rfl
  rw [← e, read_texts _ (fun x hx => ?_) (by rw [e]; decide)]
  · rfl
  · simp at hx
    rcases hx with rfl | rfl
    · exact A1_ok
    · exact A2_ok
theorem read_none : readS ⟨#[]⟩ = .ok [] := read_texts [] (fun x hx => by simp at hx) (by decide)
/-- What Consult leaves of a session's clauses. -/
def consultC (cls : List Cl) (s : ByteArray) : (Int × Nat) × List Cl := match readS s with
  | .error e => (e, cls)
  | .ok new => if 30 < cls.length + new.length then ((6, 0), cls) else ((0, 0), cls ++ new)
def consultS (S : Se) (s : ByteArray) : (Int × Nat) × Se := ((consultC S.cls s).1, ⟨S.lim, (consultC S.cls s).2, none⟩)
theorem consult_ok {S : Se} (h : SeOk S) (s : ByteArray) : SeOk (consultS S s).2 := by
  unfold consultS consultC
  cases hr : readS s with
  | error e => exact ⟨h.l1, h.l2, h.cl, h.cls, fun q hq => by cases hq⟩
  | ok new =>
    simp only []
    split
    · exact ⟨h.l1, h.l2, h.cl, h.cls, fun q hq => by cases hq⟩
    · rename_i h30
      refine ⟨h.l1, h.l2, ?_, fun c hc => ?_, fun q hq => by cases hq⟩
      · rw [List.length_append]; omega
      · rcases List.mem_append.1 hc with hc | hc
        · exact h.cls c hc
        · exact readS_ok hr c hc
theorem consult_new {lim : Nat} {s : ByteArray} {new : List Cl} (hr : readS s = .ok new) (h : new.length ≤ 30) : consultS ⟨lim, [], none⟩ s = ((0, 0), ⟨lim, new, none⟩) := by
  unfold consultS consultC
  rw [hr]
  simp only [List.length_nil, List.nil_append]
  rw [if_neg (by omega)]
/-- A number as s(s(.. z ..)). -/
def highB : Nat → ByteArray
  | 0 => ⟨#[122]⟩
  | n + 1 => ⟨#[115, 40]⟩ ++ highB n ++ ⟨#[41]⟩
theorem highB_size : ∀ n, (highB n).size = 3 * n + 1
  | 0 => rfl
  | n + 1 => by
    rw [highB, ByteArray.size_append, ByteArray.size_append, highB_size n]
    have h1 : (⟨#[115, 40]⟩ : ByteArray).size = 2 := rfl
    have h2 : (⟨#[41]⟩ : ByteArray).size = 1 := rfl
    omega
end Rf
