/- Plain functions: what is read is well made (promise P4): each term whole, its names names, its variables numbered by where they first stand. -/
import Derived.Test.YtpdikdnffehmkaaGreatDoorYae
import Derived.Test.YtpdikdnffehmkaaGreatDoorYag
import Derived.Test.YtpdikdnffehmkaaGreatDoorYac
namespace Rf
/-- A part of a term with n variables. -/
def PartR (n : Nat) (p : Part) : Prop :=
  (p.kind = 1 ∧ p.name = ⟨#[]⟩ ∧ p.args = 0 ∧ 0 ≤ p.value ∧ p.value < n) ∨ (p.kind = 2 ∧ p.name = ⟨#[]⟩ ∧ p.args = 0 ∧ -999999999 ≤ p.value ∧ p.value ≤ 999999999) ∨ (p.kind = 3 ∧ p.value = 0 ∧ NmOk p.name ∧ 0 ≤ p.args ∧ p.args ≤ 4)
theorem PartR.mono {n n' : Nat} {p : Part} (h : PartR n p) (hn : n ≤ n') : PartR n' p := by
  rcases h with h | h | h
  · exact .inl ⟨h.1, h.2.1, h.2.2.1, h.2.2.2.1, by have := h.2.2.2.2; omega⟩
  · exact .inr (.inl h)
  · exact .inr (.inr h)
theorem PartR.ok {ν : List ByteArray} {p : Part} (h : PartR ν.length p) : PartOk ν p := h
theorem PartR.kind {n : Nat} {p : Part} (h : PartR n p) : p.kind ≠ 4 := by rcases h with h | h | h <;> omega
theorem PartR.good {n : Nat} {p : Part} (h : PartR n p) (f : Int) (hf : (n : Int) ≤ f) : PartG f p := by
  rcases h with ⟨h1, h2, h3, h4, h5⟩ | ⟨h1, h2, h3, h4, h5⟩ | ⟨h1, h2, h3, h4, h5⟩
  · exact ⟨by omega, fun _ => by omega, fun e => by omega, by rw [h2]; decide⟩
  · exact ⟨by omega, fun e => by omega, fun _ => by omega, by rw [h2]; decide⟩
  · refine ⟨by omega, fun e => by omega, fun e => by omega, ?_⟩
    obtain ⟨c, W', e, _, _, hl⟩ := h3
    rw [← bs_len, e]; exact hl
theorem stepN_le {m m' : Nat} {p : Part} (h : stepN m p m') : m ≤ m' := by
  unfold stepN at h; split at h <;> omega
theorem NumTo.le : ∀ {ps : List Part} {m m' : Nat}, NumTo m ps m' → m ≤ m'
  | [], _, _, h => by cases h; exact Nat.le_refl _
  | _ :: _, _, _, h => by
    obtain ⟨m1, h1, h2⟩ := h
    have := stepN_le h1
    have := h2.le
    omega
/-- What reading a term gives. -/
structure ReadT (l : List Tok) (ns : List ByteArray) (p : List Part) (l1 : List Tok) (ns1 : List ByteArray) : Prop where
  wf : Wf p.length p
  ok : ∀ x ∈ p, PartR ns1.length x
  num : NumTo ns.length p ns1.length
  sub : ∀ t ∈ l1, t ∈ l
def NmToks (l : List Tok) : Prop := ∀ t ∈ l, Fine t ∧ (t.k = 97 → NmOk t.s)
theorem findIdx_lt {α : Type} {q : α → Bool} : ∀ {ns : List α} {i : Nat}, ns.findIdx? q = some i → i < ns.length := by
  intro ns i h
  exact (List.findIdx?_eq_some_iff_getElem.1 h).1
theorem varS_num {t : Tok} {ns ns' : List ByteArray} {i : Nat} (h : varS t ns = .ok (i, ns')) : (i < ns.length ∧ ns' = ns) ∨ (i = ns.length ∧ ns'.length = ns.length + 1) := by
  unfold varS at h
  split at h
  · rename_i j hj
    simp only [Except.ok.injEq, Prod.mk.injEq] at h
    obtain ⟨rfl, rfl⟩ := h
    unfold lookS at hj
    split at hj
    · cases hj
    · exact .inl ⟨findIdx_lt hj, rfl⟩
  · split at h
    · cases h
    · simp only [Except.ok.injEq, Prod.mk.injEq] at h
      obtain ⟨rfl, rfl⟩ := h
      exact .inr ⟨rfl, by simp⟩
def ReadsT (rd : List Tok → List ByteArray → Except (Int × Nat) (List Part × List Tok × List ByteArray)) : Prop := ∀ l ns p l1 ns1, NmToks l → rd l ns = .ok (p, l1, ns1) → ReadT l ns p l1 ns1
theorem argsS_read (rd : List Tok → List ByteArray → Except (Int × Nat) (List Part × List Tok × List ByteArray)) (h : ReadsT rd) :
    ∀ (k : Nat) (acc : List (List Part)) (l : List Tok) (ns : List ByteArray) (a1 : List (List Part)) (l2 : List Tok) (ns2 : List ByteArray), NmToks l → acc.length < 4 → argsS rd k acc l ns = .ok (a1, l2, ns2) →
    ∃ qs, a1 = acc ++ qs ∧ 1 ≤ qs.length ∧ a1.length ≤ 4 ∧ (∀ q ∈ qs, Wf q.length q) ∧ (∀ q ∈ qs, ∀ x ∈ q, PartR ns2.length x) ∧ NumTo ns.length qs.flatten ns2.length ∧ ∀ t ∈ l2, t ∈ l
  | 0, _, _, _, _, _, _, _, _, e => by simp [argsS] at e
  | k + 1, acc, l, ns, a1, l2, ns2, hl, ha, e => by
    rw [argsS] at e
    cases hr : rd l ns with
    | error x => rw [hr] at e; cases e
    | ok x =>
      obtain ⟨p, l1, ns1⟩ := x
      have hp := h l ns p l1 ns1 hl hr
      rw [hr] at e
      cases l1 with
      | nil => cases e
      | cons u l3 =>
        simp only at e
        split at e
        · split at e
          · cases e
          · rename_i h4
            obtain ⟨qs, e1, e2, e3, e4, e5, e6, e7⟩ := argsS_read rd h k (acc ++ [p]) l3 ns1 a1 l2 ns2 (fun t ht => hl t (hp.sub t (List.mem_cons_of_mem _ ht))) (by simp only [List.length_append, List.length_cons, List.length_nil]; omega) e
            refine ⟨p :: qs, by rw [e1]; simp, by simp, e3, ?_, ?_, ?_, fun t ht => hp.sub t (List.mem_cons_of_mem _ (e7 t ht))⟩
            · intro q hq
              rcases List.mem_cons.1 hq with rfl | hq
              · exact hp.wf
              · exact e4 q hq
            · intro q hq x hx
              rcases List.mem_cons.1 hq with rfl | hq
              · exact (hp.ok x hx).mono e6.le
              · exact e5 q hq x hx
            · rw [List.flatten_cons]; exact NumTo.app.2 ⟨_, hp.num, e6⟩
        · split at e
          · simp only [Except.ok.injEq, Prod.mk.injEq] at e
            obtain ⟨rfl, rfl, rfl⟩ := e
            refine ⟨[p], rfl, by simp, by simp only [List.length_append, List.length_cons, List.length_nil]; omega, ?_, ?_, ?_, fun t ht => hp.sub t (List.mem_cons_of_mem _ ht)⟩
            · intro q hq; simp at hq; subst hq; exact hp.wf
            · intro q hq; simp at hq; subst hq; exact hp.ok
            · simpa using hp.num
          · cases e
theorem wf_one (p : Part) (h : p.args = 0) : Wf [p].length [p] := .inl ⟨p, rfl, h⟩
theorem wf_comp (s : ByteArray) {qs : List (List Part)} (h1 : 1 ≤ qs.length) (h : ∀ q ∈ qs, Wf q.length q) : Wf ((⟨3, s, 0, qs.length⟩ : Part) :: qs.flatten).length (⟨3, s, 0, qs.length⟩ :: qs.flatten) :=
  .inr ⟨s, qs, h1, fun q hq => (h q hq).mono (flatten_mem_len hq), rfl⟩
theorem termS_read : ∀ (f : Nat), ReadsT (termS f)
  | 0 => fun _ _ _ _ _ _ e => by simp [termS] at e
  | f + 1 => fun l ns p l1 ns1 hl e => by
    cases l with
    | nil => simp [termS] at e
    | cons t l =>
      have ht := hl t (by simp)
      rw [termS] at e
      split at e
      · unfold varT at e
        split at e
        · cases e
        · rename_i i ns' hv
          simp only [Except.ok.injEq, Prod.mk.injEq] at e
          obtain ⟨rfl, rfl, rfl⟩ := e
          have hn := varS_num hv
          refine ⟨wf_one _ rfl, fun x hx => ?_, ⟨_, ?_, rfl⟩, fun u hu => List.mem_cons_of_mem _ hu⟩
          · simp at hx; subst hx
            refine .inl ⟨rfl, rfl, rfl, by simp, ?_⟩
            simp only []
            rcases hn with ⟨h1, h2⟩ | ⟨h1, h2⟩
            · rw [h2]; omega
            · omega
          · unfold stepN
            rw [if_pos rfl]
            simp only []
            rcases hn with ⟨h1, h2⟩ | ⟨h1, h2⟩
            · exact .inl ⟨by omega, by rw [h2]⟩
            · exact .inr ⟨by omega, h2⟩
      · split at e
        · rename_i h110
          simp only [Except.ok.injEq, Prod.mk.injEq] at e
          obtain ⟨rfl, rfl, rfl⟩ := e
          obtain ⟨_, v, hv, h0, h1⟩ := ht.1.1 h110
          refine ⟨wf_one _ rfl, fun x hx => ?_, ⟨_, ?_, rfl⟩, fun u hu => List.mem_cons_of_mem _ hu⟩
          · simp at hx; subst hx
            refine .inr (.inl ⟨rfl, rfl, rfl, ?_⟩)
            simp only [numVal, hv, Option.getD_some]
            exact ⟨h0, h1⟩
          · unfold stepN; rw [if_neg (by simp)]
        · split at e
          · rename_i h97
            have hnm := ht.2 h97
            cases l with
            | nil => cases e
            | cons u l' =>
              simp only [nameS] at e
              split at e
              · cases hr : argsS (termS f) 4 [] l' ns with
                | error x => rw [hr] at e; cases e
                | ok x =>
                  obtain ⟨a1, l2, ns2⟩ := x
                  rw [hr] at e
                  simp only [Except.ok.injEq, Prod.mk.injEq] at e
                  obtain ⟨rfl, rfl, rfl⟩ := e
                  obtain ⟨qs, e1, e2, e3, e4, e5, e6, e7⟩ := argsS_read (termS f) (termS_read f) 4 [] l' ns a1 l2 ns2 (fun v hv => hl v (List.mem_cons_of_mem _ (List.mem_cons_of_mem _ hv))) (by simp) hr
                  rw [List.nil_append] at e1
                  subst e1
                  refine ⟨wf_comp t.s e2 e4, fun x hx => ?_, ⟨ns.length, by unfold stepN; rw [if_neg (by simp)], e6⟩, fun v hv => List.mem_cons_of_mem _ (List.mem_cons_of_mem _ (e7 v hv))⟩
                  rcases List.mem_cons.1 hx with rfl | hx
                  · exact .inr (.inr ⟨rfl, rfl, hnm, by simp only []; omega, by simp only []; omega⟩)
                  · obtain ⟨q, hq, hxq⟩ := List.mem_flatten.1 hx
                    exact e5 q hq x hxq
              · simp only [Except.ok.injEq, Prod.mk.injEq] at e
                obtain ⟨rfl, rfl, rfl⟩ := e
                refine ⟨wf_one _ rfl, fun x hx => ?_, ⟨_, ?_, rfl⟩, fun v hv => List.mem_cons_of_mem _ hv⟩
                · simp at hx; subst hx
                  exact .inr (.inr ⟨rfl, rfl, hnm, by simp, by simp⟩)
                · unfold stepN; rw [if_neg (by simp)]
          · cases e
/-- A goal that is read: a cut, or a term with a name. -/
def GoalR (n : Nat) (g : List Part) : Prop := g = cutG ∨ (Wf g.length g ∧ (∀ x ∈ g, PartR n x) ∧ (g.head?.map (·.kind)) = some 3)
theorem GoalR.mono {n n' : Nat} {g : List Part} (h : GoalR n g) (hn : n ≤ n') : GoalR n' g := h.imp id (fun h => ⟨h.1, fun x hx => (h.2.1 x hx).mono hn, h.2.2⟩)
theorem GoalR.k {n : Nat} {g : List Part} (h : GoalR n g) : GoalK g := by
  rcases h with rfl | h
  · exact .inl ⟨0, rfl⟩
  · exact .inr (fun p hp => (h.2.1 p hp).kind)
theorem GoalR.part {n : Nat} {g : List Part} (h : GoalR n g) {f : Int} (hf : (n : Int) ≤ f) : ∀ p ∈ g, PartG f p := by
  rcases h with rfl | h
  · exact (cut_tm f 0).2
  · exact fun p hp => (h.2.1 p hp).good f hf
theorem goalS_read {f : Nat} {l : List Tok} {ns : List ByteArray} {p : List Part} {l1 : List Tok} {ns1 : List ByteArray} (hl : NmToks l) (e : goalS f l ns = .ok (p, l1, ns1)) : GoalR ns1.length p ∧ NumTo ns.length p ns1.length ∧ ∀ t ∈ l1, t ∈ l := by
  unfold goalS at e
  cases l with
  | nil => cases e
  | cons t l =>
    simp only at e
    split at e
    · simp only [Except.ok.injEq, Prod.mk.injEq] at e
      obtain ⟨rfl, rfl, rfl⟩ := e
      exact ⟨.inl rfl, ⟨_, by unfold stepN; rw [if_neg (by simp)], rfl⟩, fun u hu => List.mem_cons_of_mem _ hu⟩
    · cases hr : termS f (t :: l) ns with
      | error x => rw [hr] at e; cases e
      | ok x =>
        obtain ⟨q, l2, ns2⟩ := x
        rw [hr] at e
        simp only at e
        split at e
        · rename_i h3
          simp only [Except.ok.injEq, Prod.mk.injEq] at e
          obtain ⟨rfl, rfl, rfl⟩ := e
          have hq := termS_read f _ _ _ _ _ hl hr
          exact ⟨.inr ⟨hq.wf, hq.ok, h3⟩, hq.num, hq.sub⟩
        · cases e
/-- What reading goals gives. -/
structure ReadG (l : List Tok) (ns : List ByteArray) (acc a1 : List (List Part)) (l1 : List Tok) (ns1 : List ByteArray) : Prop where
  ex : ∃ qs, a1 = acc ++ qs ∧ 1 ≤ qs.length ∧ (∀ q ∈ qs, GoalR ns1.length q) ∧ NumTo ns.length qs.flatten ns1.length
  len : a1.length ≤ 8
  sub : ∀ t ∈ l1, t ∈ l
theorem goalsS_read (f : Nat) : ∀ (k : Nat) (acc : List (List Part)) (l : List Tok) (ns : List ByteArray) (a1 : List (List Part)) (l2 : List Tok) (ns2 : List ByteArray), NmToks l → acc.length < 8 → goalsS f k acc l ns = .ok (a1, l2, ns2) → ReadG l ns acc a1 l2 ns2
  | 0, _, _, _, _, _, _, _, _, e => by simp [goalsS] at e
  | k + 1, acc, l, ns, a1, l2, ns2, hl, ha, e => by
    rw [goalsS] at e
    cases hr : goalS f l ns with
    | error x => rw [hr] at e; cases e
    | ok x =>
      obtain ⟨p, l1, ns1⟩ := x
      obtain ⟨g1, g2, g3⟩ := goalS_read hl hr
      rw [hr] at e
      cases l1 with
      | nil => cases e
      | cons u l3 =>
        simp only at e
        split at e
        · split at e
          · cases e
          · obtain ⟨⟨qs, e1, e2, e3, e4⟩, e5, e6⟩ := goalsS_read f k (acc ++ [p]) l3 ns1 a1 l2 ns2 (fun t ht => hl t (g3 t (List.mem_cons_of_mem _ ht))) (by simp only [List.length_append, List.length_cons, List.length_nil]; omega) e
            refine ⟨⟨p :: qs, by rw [e1]; simp, by simp, ?_, by rw [List.flatten_cons]; exact NumTo.app.2 ⟨_, g2, e4⟩⟩, e5, fun t ht => g3 t (List.mem_cons_of_mem _ (e6 t ht))⟩
            intro q hq
            rcases List.mem_cons.1 hq with rfl | hq
            · exact g1.mono e4.le
            · exact e3 q hq
        · split at e
          · cases e
          · simp only [Except.ok.injEq, Prod.mk.injEq] at e
            obtain ⟨rfl, rfl, rfl⟩ := e
            exact ⟨⟨[p], rfl, by simp, fun q hq => by simp at hq; subst hq; exact g1, by simpa using g2⟩, by simp only [List.length_append, List.length_cons, List.length_nil]; omega, g3⟩
/-- A clause that is read. -/
structure ClR (c : Cl) : Prop where
  hw : Wf c.head.length c.head
  hp : ∀ x ∈ c.head, PartR c.vars x
  hb : headB c.head = true
  bg : ∀ g ∈ c.body, GoalR c.vars g
  bl : c.body.length ≤ 8
  num : NumTo 0 (c.head ++ c.body.flatten) c.vars
theorem dotS_eq {c : List Part × List (List Part)} {l : List Tok} {ns : List ByteArray} {cl : Cl} {l1 : List Tok} (h : dotS c l ns = .ok (cl, l1)) : cl = ⟨c.1, c.2, ns.length⟩ ∧ ∀ t ∈ l1, t ∈ l := by
  unfold dotS at h
  split at h
  · cases h
  · split at h
    · simp only [Except.ok.injEq, Prod.mk.injEq] at h
      obtain ⟨rfl, rfl⟩ := h
      exact ⟨rfl, fun t ht => List.mem_cons_of_mem _ ht⟩
    · cases h
theorem clauseS_read {f : Nat} {l : List Tok} {cl : Cl} {l1 : List Tok} (hl : NmToks l) (e : clauseS f l = .ok (cl, l1)) : ClR cl ∧ ∀ t ∈ l1, t ∈ l := by
  unfold clauseS at e
  cases l with
  | nil => cases e
  | cons t l =>
    simp only at e
    cases hr : termS f (t :: l) [] with
    | error x => rw [hr] at e; cases e
    | ok x =>
      obtain ⟨p, l2, ns1⟩ := x
      rw [hr] at e
      have hp := termS_read f _ _ _ _ _ hl hr
      simp only at e
      split at e
      · rename_i hb
        cases l2 with
        | nil => cases e
        | cons u l3 =>
          simp only at e
          split at e
          · cases hg : goalsS f 8 [] l3 ns1 with
            | error x => rw [hg] at e; cases e
            | ok x =>
              obtain ⟨gs, l4, ns2⟩ := x
              rw [hg] at e
              obtain ⟨⟨qs, e1, e2, e3, e4⟩, e5, e6⟩ := goalsS_read f 8 [] l3 ns1 gs l4 ns2 (fun v hv => hl v (hp.sub v (List.mem_cons_of_mem _ hv))) (by simp) hg
              obtain ⟨rfl, hs⟩ := dotS_eq e
              rw [List.nil_append] at e1
              subst e1
              exact ⟨⟨hp.wf, fun x hx => (hp.ok x hx).mono e4.le, hb, e3, e5, NumTo.app.2 ⟨_, hp.num, e4⟩⟩, fun v hv => hp.sub v (List.mem_cons_of_mem _ (e6 v (hs v hv)))⟩
          · obtain ⟨rfl, hs⟩ := dotS_eq e
            exact ⟨⟨hp.wf, hp.ok, hb, (fun g hg => by cases hg), (by simp), (by simpa using hp.num)⟩, fun v hv => hp.sub v (hs v hv)⟩
      · cases e
theorem clausesS_read (f : Nat) : ∀ (k : Nat) (acc : List Cl) (l : List Tok) (out : List Cl), NmToks l → (∀ c ∈ acc, ClR c) → clausesS f k acc l = .ok out → ∀ c ∈ out, ClR c
  | 0, _, _, _, _, _, e => by simp [clausesS] at e
  | _ + 1, _, [], _, _, _, e => by simp [clausesS] at e
  | k + 1, acc, t :: l, out, hl, ha, e => by
    rw [clausesS] at e
    split at e
    · simp only [Except.ok.injEq] at e; subst e; exact ha
    · cases hr : clauseS f (t :: l) with
      | error x => rw [hr] at e; cases e
      | ok x =>
        obtain ⟨c, l1⟩ := x
        rw [hr] at e
        obtain ⟨h1, h2⟩ := clauseS_read hl hr
        refine clausesS_read f k (acc ++ [c]) l1 out (fun v hv => hl v (h2 v hv)) (fun d hd => ?_) e
        rcases List.mem_append.1 hd with hd | hd
        · exact ha d hd
        · simp at hd; subst hd; exact h1
theorem run_letters (s : ByteArray) (n : Nat) : ∀ x ∈ bs (runS s false n), letterB x.toNat = true := by
  intro x hx
  unfold bs runS at hx
  rw [extract_list, show n + runLen s false n - n = runLen s false n by omega] at hx
  unfold runLen at hx
  have key : ∀ (l : List UInt8), l.take (l.takeWhile fun c => okB false c.toNat).length = l.takeWhile fun c => okB false c.toNat := fun l => by
    induction l with
    | nil => rfl
    | cons a l ih =>
      rw [List.takeWhile_cons]
      split
      · rw [List.length_cons, List.take_succ_cons, ih]
      · rfl
  rw [key] at hx
  have hall := List.all_takeWhile (p := fun c : UInt8 => okB false c.toNat) (l := s.data.toList.drop n)
  have := List.all_eq_true.1 hall x hx
  simpa [okB] using this
theorem tokenAt_name (s : ByteArray) (n : Nat) (hn : n < s.size) (h : (tokenAt s n).k = 97) : NmOk (tokenAt s n).s := by
  unfold tokenAt at h ⊢
  have hnum : ∀ neg W, (numTok n neg W).k ≠ 97 := fun neg W => by unfold numTok; split <;> (try split) <;> simp [bad]
  split at h
  · exact absurd h (hnum _ _)
  rename_i h1
  rw [if_neg h1]
  split at h
  · exact absurd h (hnum _ _)
  rename_i h2
  rw [if_neg h2]
  split at h
  · rename_i h3
    rw [if_pos h3]
    unfold wordTok at h ⊢
    split at h
    · simp [bad] at h
    · rename_i h4
      rw [if_neg h4]
      split at h
      · rename_i h5
        rw [if_pos h5]
        show NmOk (runS s false n)
        have hl : 1 ≤ runLen s false n := by rw [runLen_yes s false n hn (by simp [okB, h3])]; omega
        have hsz : (bs (runS s false n)).length = runLen s false n := by rw [bs_len, runS_size]
        cases hb : bs (runS s false n) with
        | nil => rw [hb] at hsz; simp at hsz; omega
        | cons c W =>
          have hc : c = s[n] := by
            have h9 : bs (runS s false n) = (s.data.toList.drop n).take (runLen s false n) := by unfold bs runS; rw [extract_list, show n + runLen s false n - n = runLen s false n by omega]
            rw [hb, drop_cons s n hn] at h9
            obtain ⟨k, hk⟩ : ∃ k, runLen s false n = k + 1 := ⟨_, (Nat.sub_add_cancel hl).symm⟩
            rw [hk, List.take_succ_cons] at h9
            injection h9
          refine ⟨c, W, hb, ?_, ?_, ?_⟩
          · rw [hc, byteAt_eq s n hn]; exact h5
          · intro x hx; rw [← hb] at hx; exact run_letters s n x hx
          · rw [← hb, bs_len]; omega
      · simp at h
  · rename_i h3
    rw [if_neg h3]
    split at h
    · rename_i h4
      simp only at h
      rw [h] at h4; exact absurd h4 (by decide)
    · split at h
      · simp at h
      · simp [bad] at h
theorem toks_names (s : ByteArray) : ∀ (f n : Nat), NmToks (toks s f n)
  | 0, n => by intro t ht; simp [toks] at ht; subst ht; exact ⟨⟨fun h => by simp [endTok] at h, fun h => by simp [endTok] at h⟩, fun h => by simp [endTok] at h⟩
  | f + 1, n => by
    rw [toks]
    split
    · rename_i hn
      split
      · exact toks_names s f (n + 1)
      · split
        · intro t ht; simp at ht; subst ht; exact ⟨tokenAt_fine s n, tokenAt_name s n hn⟩
        · intro t ht
          rcases List.mem_cons.1 ht with rfl | ht
          · exact ⟨tokenAt_fine s n, tokenAt_name s n hn⟩
          · exact toks_names s f _ t ht
    · intro t ht; simp at ht; subst ht; exact ⟨⟨fun h => by simp [endTok] at h, fun h => by simp [endTok] at h⟩, fun h => by simp [endTok] at h⟩
theorem readS_read {s : ByteArray} {out : List Cl} (h : readS s = .ok out) : ∀ c ∈ out, ClR c := by
  unfold readS at h
  split at h
  · cases h
  · exact clausesS_read _ _ [] _ out (toks_names s _ _) (by simp) h
end Rf
/- Plain functions: a session's questions (promises P7, P8, P12): what is asked, what more, what is answered; what holds between the calls. -/
namespace Rf
theorem goalsP_read (f : Nat) : ∀ (k : Nat) (acc : List (List Part)) (l : List Tok) (ns : List ByteArray) (a1 : List (List Part)) (l2 : List Tok) (ns2 : List ByteArray), NmToks l → acc.length < 8 → goalsP f k acc l ns = .ok (a1, l2, ns2) → ReadG l ns acc a1 l2 ns2
  | 0, _, _, _, _, _, _, _, _, e => by simp [goalsP] at e
  | k + 1, acc, l, ns, a1, l2, ns2, hl, ha, e => by
    rw [goalsP] at e
    cases hr : goalS f l ns with
    | error x => rw [hr] at e; cases e
    | ok x =>
      obtain ⟨p, l1, ns1⟩ := x
      obtain ⟨g1, g2, g3⟩ := goalS_read hl hr
      rw [hr] at e
      cases l1 with
      | nil => cases e
      | cons u l3 =>
        simp only at e
        split at e
        · split at e
          · cases e
          · obtain ⟨⟨qs, e1, e2, e3, e4⟩, e5, e6⟩ := goalsP_read f k (acc ++ [p]) l3 ns1 a1 l2 ns2 (fun t ht => hl t (g3 t (List.mem_cons_of_mem _ ht))) (by simp only [List.length_append, List.length_cons, List.length_nil]; omega) e
            refine ⟨⟨p :: qs, by rw [e1]; simp, by simp, ?_, by rw [List.flatten_cons]; exact NumTo.app.2 ⟨_, g2, e4⟩⟩, e5, fun t ht => g3 t (List.mem_cons_of_mem _ (e6 t ht))⟩
            intro q hq
            rcases List.mem_cons.1 hq with rfl | hq
            · exact g1.mono e4.le
            · exact e3 q hq
        · simp only [Except.ok.injEq, Prod.mk.injEq] at e
          obtain ⟨rfl, rfl, rfl⟩ := e
          exact ⟨⟨[p], rfl, by simp, fun q hq => by simp at hq; subst hq; exact g1, by simpa using g2⟩, by simp only [List.length_append, List.length_cons, List.length_nil]; omega, g3⟩
/-- What a question's text is read as. -/
structure QuR (gs : List (List Part)) (ns : List ByteArray) : Prop where
  ne : 1 ≤ gs.length
  len : gs.length ≤ 8
  g : ∀ q ∈ gs, GoalR ns.length q
  num : NumTo 0 gs.flatten ns.length
theorem questS_read {s : ByteArray} {gs : List (List Part)} {ns : List ByteArray} (h : questS s = .ok (gs, ns)) : QuR gs ns := by
  unfold questS at h
  split at h
  · cases h
  · unfold questP at h
    cases hr : goalsP (tokens s).length 8 [] (tokens s) [] with
    | error e => rw [hr] at h; cases h
    | ok x =>
      obtain ⟨g1, l1, n1⟩ := x
      obtain ⟨⟨qs, e1, e2, e3, e4⟩, e5, _⟩ := goalsP_read _ _ _ _ _ _ _ _ (toks_names s _ _) (by simp) hr
      rw [List.nil_append] at e1
      subst e1
      rw [hr] at h
      simp only at h
      split at h
      · cases h
      · split at h
        · split at h
          · cases h
          · split at h
            · simp only [Except.ok.injEq, Prod.mk.injEq] at h; obtain ⟨rfl, rfl⟩ := h
              exact ⟨e2, e5, e3, e4⟩
            · cases h
        · cases h
structure Rep where
  kind : Int
  text : ByteArray
  code : Int
  place : Int
def repK (k : Int) : Rep := ⟨k, ⟨#[]⟩, 0, 0⟩
def isNamedB (n : ByteArray) : Bool := decide (0 < n.size) && decide (byteAt n 0 ≠ 95)
def namedFrom : Nat → List ByteArray → List (ByteArray × Nat)
  | _, [] => []
  | i, n :: ns => (if isNamedB n = true then [(n, i)] else []) ++ namedFrom (i + 1) ns
def varP (i : Int) : List Part := [⟨1, ⟨#[]⟩, i, 0⟩]
def beginN (ns : List ByteArray) : List ByteArray := (namedFrom 0 ns).map (·.1)
def beginT (ns : List ByteArray) : List (List Part) := (namedFrom 0 ns).map (fun x => varP x.2)
def beginC (gs : List (List Part)) (ns : List ByteArray) : Cf := ⟨⟨gs, beginT ns, ns.length⟩, []⟩
def sizeS (S : St) : Nat := sizeT (S.goals ++ S.terms)
def renS (S : St) : St := ⟨(renTs [] (S.goals ++ S.terms)).1.take S.goals.length, (renTs [] (S.goals ++ S.terms)).1.drop S.goals.length, (renTs [] (S.goals ++ S.terms)).2.length⟩
def renC (c : Ch) : Ch := ⟨renS c.st, c.cls⟩
def lineQ (x : ByteArray × List Part) : ByteArray := x.1 ++ ⟨#[32, 61, 32]⟩ ++ txtA x.2
def joinQ : List (ByteArray × List Part) → ByteArray
  | [] => ⟨#[]⟩
  | x :: l => lineQ x ++ (if l = [] then ⟨#[]⟩ else ⟨#[44, 32]⟩ ++ joinQ l)
def yesB : ByteArray := ⟨#[121, 101, 115]⟩
def textQ (names : List ByteArray) (terms : List (List Part)) : ByteArray := if names = [] then yesB else joinQ (names.zip (renTs [] terms).1)
/-- A question that is suspended: its variables' names, its choices. -/
structure Qs where
  names : List ByteArray
  chs : List Ch
structure Se where
  lim : Nat
  cls : List Cl
  q : Option Qs
def stNone : St := ⟨[], [], 0⟩
def replyS (S : Se) (names : List ByteArray) (r : Int × Cf) : Rep × Se :=
  if r.1 = 1 then (⟨1, textQ names r.2.now.terms, 0, 0⟩, ⟨S.lim, S.cls, some ⟨names, r.2.chs.map renC⟩⟩) else (repK r.1, ⟨S.lim, S.cls, none⟩)
def firstS (S : Se) (gs : List (List Part)) (ns : List ByteArray) : Int × Cf := if 200 < sizeS (beginC gs ns).now then (7, beginC gs ns) else playN S.cls S.lim (0, beginC gs ns)
def nextS (S : Se) (q : Qs) : Int × Cf := playN S.cls S.lim (-1, ⟨stNone, q.chs⟩)
def askS (S : Se) (text : ByteArray) : Rep × Se := match questS text with
  | .error e => (⟨4, ⟨#[]⟩, e.1, e.2⟩, ⟨S.lim, S.cls, none⟩)
  | .ok (gs, ns) => replyS S (beginN ns) (firstS S gs ns)
def moreS (S : Se) : Rep × Se := match S.q with
  | none => (repK 3, S)
  | some q => replyS S q.names (nextS S q)
def stopS (S : Se) : Se := ⟨S.lim, S.cls, none⟩
theorem namedFrom_mem : ∀ (i : Nat) (ns : List ByteArray) (x : ByteArray × Nat), x ∈ namedFrom i ns → i ≤ x.2 ∧ x.2 < i + ns.length ∧ x.1 ∈ ns ∧ isNamedB x.1 = true
  | _, [], _, h => by simp [namedFrom] at h
  | i, n :: ns, x, h => by
    rw [namedFrom] at h
    rcases List.mem_append.1 h with h | h
    · split at h
      · rename_i hn
        simp at h; subst h; exact ⟨by simp, by simp, by simp, hn⟩
      · simp at h
    · obtain ⟨h1, h2, h3, h4⟩ := namedFrom_mem (i + 1) ns x h
      exact ⟨by omega, by simp only [List.length_cons]; omega, List.mem_cons_of_mem _ h3, h4⟩
theorem namedFrom_len : ∀ (i : Nat) (ns : List ByteArray), (namedFrom i ns).length ≤ ns.length
  | _, [] => by simp [namedFrom]
  | i, n :: ns => by
    have := namedFrom_len (i + 1) ns
    rw [namedFrom, List.length_append, List.length_cons]
    split
    · simp only [List.length_cons, List.length_nil]; omega
    · simp only [List.length_nil]; omega
/-- What holds of a question between the calls. -/
structure QsOk (n : Nat) (q : Qs) : Prop where
  nl : q.names.length ≤ 16
  nz : ∀ x ∈ q.names, x.size ≤ 12
  cl : q.chs.length ≤ 20
  c : ∀ c ∈ q.chs, StG 1000 406400 c.st ∧ c.st.terms.length = q.names.length ∧ (∀ k ∈ c.cls, k < n) ∧ c.cls ≠ [] ∧ GoalsK c.st.goals ∧ ∃ g gs, c.st.goals = g :: gs ∧ NoCut g
structure SeOk (S : Se) : Prop where
  l1 : 1 ≤ S.lim
  l2 : S.lim ≤ 1000
  cl : S.cls.length ≤ 30
  cls : ∀ c ∈ S.cls, ClR c ∧ c.vars ≤ 16 ∧ ClG c
  q : ∀ q, S.q = some q → QsOk S.cls.length q
end Rf
