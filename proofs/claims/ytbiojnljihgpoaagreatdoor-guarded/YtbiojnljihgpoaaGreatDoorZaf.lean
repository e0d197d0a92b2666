
import Derived.Test.YtbiojnljihgpoaaGreatDoorZac
import Derived.Test.YtbiojnljihgpoaaGreatDoorZae
import Derived.Test.YtbiojnljihgpoaaGreatDoorZab
namespace Rf
def PartR (n : Nat) (p : Part) : Prop :=
 (p.kind = 1 /\ p.name = ⟨#[]⟩ /\ p.args = 0 /\ 0 <= p.value /\ p.value < n) \/ (p.kind = 2 /\ p.name = ⟨#[]⟩ /\ p.args = 0 /\ -999999999 <= p.value /\ p.value <= 999999999) \/ (p.kind = 3 /\ p.value = 0 /\ NmOk p.name /\ 0 <= p.args /\ p.args <= 4)
theorem PartR.mono {n n' : Nat} {p : Part} (h : PartR n p) (hn : n <= n') : PartR n' p := by
 rcases h with h | h | h
 ·exact .inl ⟨h.1, h.2.1, h.2.2.1, h.2.2.2.1, by have := h.2.2.2.2; omega⟩
 ·exact .inr (.inl h)
 ·exact .inr (.inr h)
theorem PartR.ok {ν : List ByteArray} {p : Part} (h : PartR ν.length p) : PartOk ν p := h
theorem PartR.kind {n : Nat} {p : Part} (h : PartR n p) : p.kind ≠ 4 := by rcases h with h | h | h <;> omega
theorem PartR.good {n : Nat} {p : Part} (h : PartR n p) (f : Int) (hf : (n : Int) <= f) : PartG f p := by
 rcases h with ⟨h1, h2, h3, h4, h5⟩ | ⟨h1, h2, h3, h4, h5⟩ | ⟨h1, h2, h3, h4, h5⟩
 ·exact ⟨by omega, fun _ => by omega, fun e => by omega, by rw [h2]; decide⟩
 ·exact ⟨by omega, fun e => by omega, fun _ => by omega, by rw [h2]; decide⟩
 ·refine ⟨by omega, fun e => by omega, fun e => by omega, ?_⟩
  obtain ⟨c, W', e, _, _, hl⟩ := h3
  rw [<- bs_len, e]; exact hl
theorem stepN_le {m m' : Nat} {p : Part} (h : stepN m p m') : m <= m' := by
 unfold stepN at h; split at h <;> omega
theorem NumTo.le : ∀ {ps : List Part} {m m' : Nat}, NumTo m ps m' -> m <= m'
 | [], _, _, h => by cases h; exact Nat.le_refl _
 | _ :: _, _, _, h => by
  obtain ⟨m1, h1, h2⟩ := h
  have := stepN_le h1
  have := h2.le
  omega
structure ReadT (l : List Tok) (ns : List ByteArray) (p : List Part) (l1 : List Tok) (ns1 : List ByteArray) : Prop where
 wf : Wf p.length p
 ok : ∀ x ∈ p, PartR ns1.length x
 num : NumTo ns.length p ns1.length
 sub : ∀ t ∈ l1, t ∈ l
def NmToks (l : List Tok) : Prop := ∀ t ∈ l, Fine t /\ (t.k = 97 -> NmOk t.s)
theorem findIdx_lt {α : Type} {q : α -> Bool} : ∀ {ns : List α} {i : Nat}, ns.findIdx? q = some i -> i < ns.length := by
 intro ns i h
 exact (List.findIdx?_eq_some_iff_getElem.1 h).1
theorem varS_num {t : Tok} {ns ns' : List ByteArray} {i : Nat} (h : varS t ns = .ok (i, ns')) : (i < ns.length /\ ns' = ns) \/ (i = ns.length /\ ns'.length = ns.length + 1) := by
 unfold varS at h
 split at h
 ·rename_i j hj
  simp only [Except.ok.injEq, Prod.mk.injEq] at h
  obtain ⟨rfl, rfl⟩ := h
  unfold lookS at hj
  split at hj
  ·cases hj
  ·exact .inl ⟨findIdx_lt hj, rfl⟩
 ·split at h
  ·cases h
  ·simp only [Except.ok.injEq, Prod.mk.injEq] at h
   obtain ⟨rfl, rfl⟩ := h
   exact .inr ⟨rfl, by simp⟩
def ReadsT (rd : List Tok -> List ByteArray -> Except (Int × Nat) (List Part × List Tok × List ByteArray)) : Prop := ∀ l ns p l1 ns1, NmToks l -> rd l ns = .ok (p, l1, ns1) -> ReadT l ns p l1 ns1
theorem argsS_read (rd : List Tok -> List ByteArray -> Except (Int × Nat) (List Part × List Tok × List ByteArray)) (h : ReadsT rd) :
  ∀ (k : Nat) (acc : List (List Part)) (l : List Tok) (ns : List ByteArray) (a1 : List (List Part)) (l2 : List Tok) (ns2 : List ByteArray), NmToks l -> acc.length < 4 -> argsS rd k acc l ns = .ok (a1, l2, ns2) ->
  ∃ qs, a1 = acc ++ qs /\ 1 <= qs.length /\ a1.length <= 4 /\ (∀ q ∈ qs, Wf q.length q) /\ (∀ q ∈ qs, ∀ x ∈ q, PartR ns2.length x) /\ NumTo ns.length qs.flatten ns2.length /\ ∀ t ∈ l2, t ∈ l
 | 0, _, _, _, _, _, _, _, _, e => by simp [argsS] at e
 | k + 1, acc, l, ns, a1, l2, ns2, hl, ha, e => by
  rw [argsS] at e
  cases hr : rd l ns with
  | error x => rw [hr] at e; cases e
  | ok x =>
   obtain ⟨p, l1, ns1⟩ := x
   have hp := h l ns p l1 ns1 hl hr
   rw [hr] at e
   cases l1 with
   | nil => cases e
   | cons u l3 =>
    simp only at e
    split at e
    ·split at e
     ·cases e
     ·rename_i h4
      obtain ⟨qs, e1, e2, e3, e4, e5, e6, e7⟩ := argsS_read rd h k (acc ++ [p]) l3 ns1 a1 l2 ns2 (fun t ht => hl t (hp.sub t (List.mem_cons_of_mem _ ht))) (by simp only [List.length_append, List.length_cons, List.length_nil]; omega) e
      refine ⟨p :: qs, by rw [e1]; simp, by simp, e3, ?_, ?_, ?_, fun t ht => hp.sub t (List.mem_cons_of_mem _ (e7 t ht))⟩
      ·intro q hq
       rcases List.mem_cons.1 hq with rfl | hq
       ·exact hp.wf
       ·exact e4 q hq
      ·intro q hq x hx
       rcases List.mem_cons.1 hq with rfl | hq
       ·exact (hp.ok x hx).mono e6.le
       ·exact e5 q hq x hx
      ·rw [List.flatten_cons]; exact NumTo.app.2 ⟨_, hp.num, e6⟩
    ·split at e
     ·simp only [Except.ok.injEq, Prod.mk.injEq] at e
      obtain ⟨rfl, rfl, rfl⟩ := e
      refine ⟨[p], rfl, by simp, by simp only [List.length_append, List.length_cons, List.length_nil]; omega, ?_, ?_, ?_, fun t ht => hp.sub t (List.mem_cons_of_mem _ ht)⟩
      ·intro q hq; simp at hq; subst hq; exact hp.wf
      ·intro q hq; simp at hq; subst hq; exact hp.ok
      ·simpa using hp.num
     ·cases e
theorem wf_one (p : Part) (h : p.args = 0) : Wf [p].length [p] := .inl ⟨p, rfl, h⟩
theorem wf_comp (s : ByteArray) {qs : List (List Part)} (h1 : 1 <= qs.length) (h : ∀ q ∈ qs, Wf q.length q) : Wf ((⟨3, s, 0, qs.length⟩ : Part) :: qs.flatten).length (⟨3, s, 0, qs.length⟩ :: qs.flatten) :=
 .inr ⟨s, qs, h1, fun q hq => (h q hq).mono (flatten_mem_len hq), rfl⟩
theorem termS_read : ∀ (f : Nat), ReadsT (termS f)
 | 0 => fun _ _ _ _ _ _ e => by simp [termS] at e
 | f + 1 => fun l ns p l1 ns1 hl e => by
  cases l with
  | nil => simp [termS] at e
  | cons t l =>
   have ht := hl t (by simp)
   rw [termS] at e
   split at e
   ·unfold varT at e
    split at e
    ·cases e
    ·rename_i i ns' hv
     simp only [Except.ok.injEq, Prod.mk.injEq] at e
     obtain ⟨rfl, rfl, rfl⟩ := e
     have hn := varS_num hv
     refine ⟨wf_one _ rfl, fun x hx => ?_, ⟨_, ?_, rfl⟩, fun u hu => List.mem_cons_of_mem _ hu⟩
     ·simp at hx; subst hx
      refine .inl ⟨rfl, rfl, rfl, by simp, ?_⟩
      simp only []
      rcases hn with ⟨h1, h2⟩ | ⟨h1, h2⟩
      ·rw [h2]; omega
      ·omega
     ·unfold stepN
      rw [if_pos rfl]
      simp only []
      rcases hn with ⟨h1, h2⟩ | ⟨h1, h2⟩
      ·exact .inl ⟨by omega, by rw [h2]⟩
      ·exact .inr ⟨by omega, h2⟩
   ·split at e
    ·rename_i h110
     simp only [Except.ok.injEq, Prod.mk.injEq] at e
     obtain ⟨rfl, rfl, rfl⟩ := e
     obtain ⟨_, v, hv, h0, h1⟩ := ht.1.1 h110
     refine ⟨wf_one _ rfl, fun x hx => ?_, ⟨_, ?_, rfl⟩, fun u hu => List.mem_cons_of_mem _ hu⟩
     ·simp at hx; subst hx
      refine .inr (.inl ⟨rfl, rfl, rfl, ?_⟩)
      simp only [numVal, hv, Option.getD_some]
      exact ⟨h0, h1⟩
     ·unfold stepN; rw [if_neg (by simp)]
    ·split at e
     ·rename_i h97
      have hnm := ht.2 h97
      cases l with
      | nil => cases e
      | cons u l' =>
       simp only [nameS] at e
       split at e
       ·cases hr : argsS (termS f) 4 [] l' ns with
        | error x => rw [hr] at e; cases e
        | ok x =>
         obtain ⟨a1, l2, ns2⟩ := x
         rw [hr] at e
         simp only [Except.ok.injEq, Prod.mk.injEq] at e
         obtain ⟨rfl, rfl, rfl⟩ := e
         obtain ⟨qs, e1, e2, e3, e4, e5, e6, e7⟩ := argsS_read (termS f) (termS_read f) 4 [] l' ns a1 l2 ns2 (fun v hv => hl v (List.mem_cons_of_mem _ (List.mem_cons_of_mem _ hv))) (by simp) hr
         rw [List.nil_append] at e1
         subst e1
         refine ⟨wf_comp t.s e2 e4, fun x hx => ?_, ⟨ns.length, by unfold stepN; rw [if_neg (by simp)], e6⟩, fun v hv => List.mem_cons_of_mem _ (List.mem_cons_of_mem _ (e7 v hv))⟩
         rcases List.mem_cons.1 hx with rfl | hx
         ·exact .inr (.inr ⟨rfl, rfl, hnm, by simp only []; omega, by simp only []; omega⟩)
         ·obtain ⟨q, hq, hxq⟩ := List.mem_flatten.1 hx
          exact e5 q hq x hxq
       ·simp only [Except.ok.injEq, Prod.mk.injEq] at e
        obtain ⟨rfl, rfl, rfl⟩ := e
        refine ⟨wf_one _ rfl, fun x hx => ?_, ⟨_, ?_, rfl⟩, fun v hv => List.mem_cons_of_mem _ hv⟩
        ·simp at hx; subst hx
         exact .inr (.inr ⟨rfl, rfl, hnm, by simp, by simp⟩)
        ·unfold stepN; rw [if_neg (by simp)]
     ·cases e
def GoalR (n : Nat) (g : List Part) : Prop := g = cutG \/ (Wf g.length g /\ (∀ x ∈ g, PartR n x) /\ (g.head?.map (·.kind)) = some 3)
theorem GoalR.mono {n n' : Nat} {g : List Part} (h : GoalR n g) (hn : n <= n') : GoalR n' g := h.imp id (fun h => ⟨h.1, fun x hx => (h.2.1 x hx).mono hn, h.2.2⟩)
theorem GoalR.k {n : Nat} {g : List Part} (h : GoalR n g) : GoalK g := by
 rcases h with rfl | h
 ·exact .inl ⟨0, rfl⟩
 ·exact .inr (fun p hp => (h.2.1 p hp).kind)
theorem GoalR.part {n : Nat} {g : List Part} (h : GoalR n g) {f : Int} (hf : (n : Int) <= f) : ∀ p ∈ g, PartG f p := by
 rcases h with rfl | h
 ·exact (cut_tm f 0).2
 ·exact fun p hp => (h.2.1 p hp).good f hf
theorem goalS_read {f : Nat} {l : List Tok} {ns : List ByteArray} {p : List Part} {l1 : List Tok} {ns1 : List ByteArray} (hl : NmToks l) (e : goalS f l ns = .ok (p, l1, ns1)) : GoalR ns1.length p /\ NumTo ns.length p ns1.length /\ ∀ t ∈ l1, t ∈ l := by
 unfold goalS at e
 cases l with
 | nil => cases e
 | cons t l =>
  simp only at e
  split at e
  ·simp only [Except.ok.injEq, Prod.mk.injEq] at e
   obtain ⟨rfl, rfl, rfl⟩ := e
   exact ⟨.inl rfl, ⟨_, by unfold stepN; rw [if_neg (by simp)], rfl⟩, fun u hu => List.mem_cons_of_mem _ hu⟩
  ·cases hr : termS f (t :: l) ns with
   | error x => rw [hr] at e; cases e
   | ok x =>
    obtain ⟨q, l2, ns2⟩ := x
    rw [hr] at e
    simp only at e
    split at e
    ·rename_i h3
     simp only [Except.ok.injEq, Prod.mk.injEq] at e
     obtain ⟨rfl, rfl, rfl⟩ := e
     have hq := termS_read f _ _ _ _ _ hl hr
     exact ⟨.inr ⟨hq.wf, hq.ok, h3⟩, hq.num, hq.sub⟩
    ·cases e
structure ReadG (l : List Tok) (ns : List ByteArray) (acc a1 : List (List Part)) (l1 : List Tok) (ns1 : List ByteArray) : Prop where
 ex : ∃ qs, a1 = acc ++ qs /\ 1 <= qs.length /\ (∀ q ∈ qs, GoalR ns1.length q) /\ NumTo ns.length qs.flatten ns1.length
 len : a1.length <= 8
 sub : ∀ t ∈ l1, t ∈ l
theorem goalsS_read (f : Nat) : ∀ (k : Nat) (acc : List (List Part)) (l : List Tok) (ns : List ByteArray) (a1 : List (List Part)) (l2 : List Tok) (ns2 : List ByteArray), NmToks l -> acc.length < 8 -> goalsS f k acc l ns = .ok (a1, l2, ns2) -> ReadG l ns acc a1 l2 ns2
 | 0, _, _, _, _, _, _, _, _, e => by simp [goalsS] at e
 | k + 1, acc, l, ns, a1, l2, ns2, hl, ha, e => by
  rw [goalsS] at e
  cases hr : goalS f l ns with
  | error x => rw [hr] at e; cases e
  | ok x =>
   obtain ⟨p, l1, ns1⟩ := x
   obtain ⟨g1, g2, g3⟩ := goalS_read hl hr
   rw [hr] at e
   cases l1 with
   | nil => cases e
   | cons u l3 =>
    simp only at e
    split at e
    ·split at e
     ·cases e
     ·obtain ⟨⟨qs, e1, e2, e3, e4⟩, e5, e6⟩ := goalsS_read f k (acc ++ [p]) l3 ns1 a1 l2 ns2 (fun t ht => hl t (g3 t (List.mem_cons_of_mem _ ht))) (by simp only [List.length_append, List.length_cons, List.length_nil]; omega) e
      refine ⟨⟨p :: qs, by rw [e1]; simp, by simp, ?_, by rw [List.flatten_cons]; exact NumTo.app.2 ⟨_, g2, e4⟩⟩, e5, fun t ht => g3 t (List.mem_cons_of_mem _ (e6 t ht))⟩
      intro q hq
      rcases List.mem_cons.1 hq with rfl | hq
      ·exact g1.mono e4.le
      ·exact e3 q hq
    ·split at e
     ·cases e
     ·simp only [Except.ok.injEq, Prod.mk.injEq] at e
      obtain ⟨rfl, rfl, rfl⟩ := e
      exact ⟨⟨[p], rfl, by simp, fun q hq => by simp at hq; subst hq; exact g1, by simpa using g2⟩, by simp only [List.length_append, List.length_cons, List.length_nil]; omega, g3⟩
structure ClR (c : Cl) : Prop where
 hw : Wf c.head.length c.head
 hp : ∀ x ∈ c.head, PartR c.vars x
 hb : headB c.head = true
 bg : ∀ g ∈ c.body, GoalR c.vars g
 bl : c.body.length <= 8
 num : NumTo 0 (c.head ++ c.body.flatten) c.vars
theorem dotS_eq {c : List Part × List (List Part)} {l : List Tok} {ns : List ByteArray} {cl : Cl} {l1 : List Tok} (h : dotS c l ns = .ok (cl, l1)) : cl = ⟨c.1, c.2, ns.length⟩ /\ ∀ t ∈ l1, t ∈ l := by
 unfold dotS at h
 split at h
 ·cases h
 ·split at h
  ·simp only [Except.ok.injEq, Prod.mk.injEq] at h
   obtain ⟨rfl, rfl⟩ := h
   exact ⟨rfl, fun t ht => List.mem_cons_of_mem _ ht⟩
  ·cases h
theorem clauseS_read {f : Nat} {l : List Tok} {cl : Cl} {l1 : List Tok} (hl : NmToks l) (e : clauseS f l = .ok (cl, l1)) : ClR cl /\ ∀ t ∈ l1, t ∈ l := by
 unfold clauseS at e
 cases l with
 | nil => cases e
 | cons t l =>
  simp only at e
  cases hr : termS f (t :: l) [] with
  | error x => rw [hr] at e; cases e
  | ok x =>
   obtain ⟨p, l2, ns1⟩ := x
   rw [hr] at e
   have hp := termS_read f _ _ _ _ _ hl hr
   simp only at e
   split at e
   ·rename_i hb
    cases l2 with
    | nil => cases e
    | cons u l3 =>
     simp only at e
     split at e
     ·cases hg : goalsS f 8 [] l3 ns1 with
      | error x => rw [hg] at e; cases e
      | ok x =>
       obtain ⟨gs, l4, ns2⟩ := x
       rw [hg] at e
       obtain ⟨⟨qs, e1, e2, e3, e4⟩, e5, e6⟩ := goalsS_read f 8 [] l3 ns1 gs l4 ns2 (fun v hv => hl v (hp.sub v (List.mem_cons_of_mem _ hv))) (by simp) hg
       obtain ⟨rfl, hs⟩ := dotS_eq e
       rw [List.nil_append] at e1
       subst e1
       exact ⟨⟨hp.wf, fun x hx => (hp.ok x hx).mono e4.le, hb, e3, e5, NumTo.app.2 ⟨_, hp.num, e4⟩⟩, fun v hv => hp.sub v (List.mem_cons_of_mem _ (e6 v (hs v hv)))⟩
     ·obtain ⟨rfl, hs⟩ := dotS_eq e
      exact ⟨⟨hp.wf, hp.ok, hb, (fun g hg => by cases hg), (by simp), (by simpa using hp.num)⟩, fun v hv => hp.sub v (hs v hv)⟩
   ·cases e
theorem clausesS_read (f : Nat) : ∀ (k : Nat) (acc : List Cl) (l : List Tok) (out : List Cl), NmToks l -> (∀ c ∈ acc, ClR c) -> clausesS f k acc l = .ok out -> ∀ c ∈ out, ClR c
 | 0, _, _, _, _, _, e => by simp [clausesS] at e
 | _ + 1, _, [], _, _, _, e => by simp [clausesS] at e
 | k + 1, acc, t :: l, out, hl, ha, e => by
  rw [clausesS] at e
  split at e
  ·simp only [Except.ok.injEq] at e; subst e; exact ha
  ·cases hr : clauseS f (t :: l) with
   | error x => rw [hr] at e; cases e
   | ok x =>
    obtain ⟨c, l1⟩ := x
    rw [hr] at e
    obtain ⟨h1, h2⟩ := clauseS_read hl hr
    refine clausesS_read f k (acc ++ [c]) l1 out (fun v hv => hl v (h2 v hv)) (fun d hd => ?_) e
    rcases List.mem_append.1 hd with hd | hd
    ·exact ha d hd
    ·simp at hd; subst hd; exact h1
theorem run_letters (s : ByteArray) (n : Nat) : ∀ x ∈ bs (runS s false n), letterB x.toNat = true := by
 intro x hx
 unfold bs runS at hx
 rw [extract_list, show n + runLen s false n - n = runLen s false n by omega] at hx
 unfold runLen at hx
 have key : ∀ (l : List UInt8), l.take (l.takeWhile fun c => okB false c.toNat).length = l.takeWhile fun c => okB false c.toNat := fun l => by
  induction l with
  | nil => rfl
  | cons a l ih =>
   rw [List.takeWhile_cons]
   split
   ·rw [List.length_cons, List.take_succ_cons, ih]
   ·rfl
 rw [key] at hx
 have hall := List.all_takeWhile (p := fun c : UInt8 => okB false c.toNat) (l := s.data.toList.drop n)
 have := List.all_eq_true.1 hall x hx
 simpa [okB] using this
theorem tokenAt_name (s : ByteArray) (n : Nat) (hn : n < s.size) (h : (tokenAt s n).k = 97) : NmOk (tokenAt s n).s := by
 unfold tokenAt at h ⊢
 have hnum : ∀ neg W, (numTok n neg W).k ≠ 97 := fun neg W => by unfold numTok; split <;> (try split) <;> simp [bad]
 split at h
 ·exact absurd h (hnum _ _)
 rename_i h1
 rw [if_neg h1]
 split at h
 ·exact absurd h (hnum _ _)
 rename_i h2
 rw [if_neg h2]
 split at h
 ·rename_i h3
  rw [if_pos h3]
  unfold wordTok at h ⊢
  split at h
  ·simp [bad] at h
  ·rename_i h4
   rw [if_neg h4]
   split at h
   ·rename_i h5
    rw [if_pos h5]
    show NmOk (runS s false n)
    have hl : 1 <= runLen s false n := by rw [runLen_yes s false n hn (by simp [okB, h3])]; omega
    have hsz : (bs (runS s false n)).length = runLen s false n := by rw [bs_len, runS_size]
    cases hb : bs (runS s false n) with
    | nil => rw [hb] at hsz; simp at hsz; omega
    | cons c W =>
     have hc : c = s[n] := by
      have h9 : bs (runS s false n) = (s.data.toList.drop n).take (runLen s false n) := by unfold bs runS; rw [extract_list, show n + runLen s false n - n = runLen s false n by omega]
      rw [hb, drop_cons s n hn] at h9
      obtain ⟨k, hk⟩ : ∃ k, runLen s false n = k + 1 := ⟨_, (Nat.sub_add_cancel hl).symm⟩
      rw [hk, List.take_succ_cons] at h9
      injection h9
     refine ⟨c, W, hb, ?_, ?_, ?_⟩
     ·rw [hc, byteAt_eq s n hn]; exact h5
     ·intro x hx; rw [<- hb] at hx; exact run_letters s n x hx
     ·rw [<- hb, bs_len]; omega
   ·simp at h
 ·rename_i h3
  rw [if_neg h3]
  split at h
  ·rename_i h4
   simp only at h
   rw [h] at h4; exact absurd h4 (by decide)
  ·split at h
   ·simp at h
   ·simp [bad] at h
theorem toks_names (s : ByteArray) : ∀ (f n : Nat), NmToks (toks s f n)
 | 0, n => by intro t ht; simp [toks] at ht; subst ht; exact ⟨⟨fun h => by simp [endTok] at h, fun h => by simp [endTok] at h⟩, fun h => by simp [endTok] at h⟩
 | f + 1, n => by
  rw [toks]
  split
  ·rename_i hn
   split
   ·exact toks_names s f (n + 1)
   ·split
    ·intro t ht; simp at ht; subst ht; exact ⟨tokenAt_fine s n, tokenAt_name s n hn⟩
    ·intro t ht
     rcases List.mem_cons.1 ht with rfl | ht
     ·exact ⟨tokenAt_fine s n, tokenAt_name s n hn⟩
     ·exact toks_names s f _ t ht
  ·intro t ht; simp at ht; subst ht; exact ⟨⟨fun h => by simp [endTok] at h, fun h => by simp [endTok] at h⟩, fun h => by simp [endTok] at h⟩
theorem readS_read {s : ByteArray} {out : List Cl} (h : readS s = .ok out) : ∀ c ∈ out, ClR c := by
 unfold readS at h
 split at h
 ·cases h
 ·exact clausesS_read _ _ [] _ out (toks_names s _ _) (by simp) h
theorem goalsP_read (f : Nat) : ∀ (k : Nat) (acc : List (List Part)) (l : List Tok) (ns : List ByteArray) (a1 : List (List Part)) (l2 : List Tok) (ns2 : List ByteArray), NmToks l -> acc.length < 8 -> goalsP f k acc l ns = .ok (a1, l2, ns2) -> ReadG l ns acc a1 l2 ns2
 | 0, _, _, _, _, _, _, _, _, e => by simp [goalsP] at e
 | k + 1, acc, l, ns, a1, l2, ns2, hl, ha, e => by
  rw [goalsP] at e
  cases hr : goalS f l ns with
  | error x => rw [hr] at e; cases e
  | ok x =>
   obtain ⟨p, l1, ns1⟩ := x
   obtain ⟨g1, g2, g3⟩ := goalS_read hl hr
   rw [hr] at e
   cases l1 with
   | nil => cases e
   | cons u l3 =>
    simp only at e
    split at e
    ·split at e
     ·cases e
     ·obtain ⟨⟨qs, e1, e2, e3, e4⟩, e5, e6⟩ := goalsP_read f k (acc ++ [p]) l3 ns1 a1 l2 ns2 (fun t ht => hl t (g3 t (List.mem_cons_of_mem _ ht))) (by simp only [List.length_append, List.length_cons, List.length_nil]; omega) e
      refine ⟨⟨p :: qs, by rw [e1]; simp, by simp, ?_, by rw [List.flatten_cons]; exact NumTo.app.2 ⟨_, g2, e4⟩⟩, e5, fun t ht => g3 t (List.mem_cons_of_mem _ (e6 t ht))⟩
      intro q hq
      rcases List.mem_cons.1 hq with rfl | hq
      ·exact g1.mono e4.le
      ·exact e3 q hq
    ·simp only [Except.ok.injEq, Prod.mk.injEq] at e
     obtain ⟨rfl, rfl, rfl⟩ := e
     exact ⟨⟨[p], rfl, by simp, fun q hq => by simp at hq; subst hq; exact g1, by simpa using g2⟩, by simp only [List.length_append, List.length_cons, List.length_nil]; omega, g3⟩
structure QuR (gs : List (List Part)) (ns : List ByteArray) : Prop where
 ne : 1 <= gs.length
 len : gs.length <= 8
 g : ∀ q ∈ gs, GoalR ns.length q
 num : NumTo 0 gs.flatten ns.length
theorem questS_read {s : ByteArray} {gs : List (List Part)} {ns : List ByteArray} (h : questS s = .ok (gs, ns)) : QuR gs ns := by
 unfold questS at h
 split at h
 ·cases h
 ·unfold questP at h
  cases hr : goalsP (tokens s).length 8 [] (tokens s) [] with
  | error e => rw [hr] at h; cases h
  | ok x =>
   obtain ⟨g1, l1, n1⟩ := x
   obtain ⟨⟨qs, e1, e2, e3, e4⟩, e5, _⟩ := goalsP_read _ _ _ _ _ _ _ _ (toks_names s _ _) (by simp) hr
   rw [List.nil_append] at e1
   subst e1
   rw [hr] at h
   simp only at h
   split at h
   ·cases h
   ·split at h
    ·split at h
     ·cases h
     ·split at h
      ·simp only [Except.ok.injEq, Prod.mk.injEq] at h; obtain ⟨rfl, rfl⟩ := h
       exact ⟨e2, e5, e3, e4⟩
      ·cases h
    ·cases h
structure Rep where
 kind : Int
 text : ByteArray
 code : Int
 place : Int
def repK (k : Int) : Rep := ⟨k, ⟨#[]⟩, 0, 0⟩
def isNamedB (n : ByteArray) : Bool := decide (0 < n.size) && decide (byteAt n 0 ≠ 95)
def namedFrom : Nat -> List ByteArray -> List (ByteArray × Nat)
 | _, [] => []
 | i, n :: ns => (if isNamedB n = true then [(n, i)] else []) ++ namedFrom (i + 1) ns
def varP (i : Int) : List Part := [⟨1, ⟨#[]⟩, i, 0⟩]
def beginN (ns : List ByteArray) : List ByteArray := (namedFrom 0 ns).map (·.1)
def beginT (ns : List ByteArray) : List (List Part) := (namedFrom 0 ns).map (fun x => varP x.2)
def beginC (gs : List (List Part)) (ns : List ByteArray) : Cf := ⟨⟨gs, beginT ns, ns.length⟩, []⟩
def sizeS (S : St) : Nat := sizeT (S.goals ++ S.terms)
def renS (S : St) : St := ⟨(renTs [] (S.goals ++ S.terms)).1.take S.goals.length, (renTs [] (S.goals ++ S.terms)).1.drop S.goals.length, (renTs [] (S.goals ++ S.terms)).2.length⟩
def renC (c : Ch) : Ch := ⟨renS c.st, c.cls⟩
def lineQ (x : ByteArray × List Part) : ByteArray := x.1 ++ ⟨#[32, 61, 32]⟩ ++ txtA x.2
def joinQ : List (ByteArray × List Part) -> ByteArray
 | [] => ⟨#[]⟩
 | x :: l => lineQ x ++ (if l = [] then ⟨#[]⟩ else ⟨#[44, 32]⟩ ++ joinQ l)
def yesB : ByteArray := ⟨#[121, 101, 115]⟩
def textQ (names : List ByteArray) (terms : List (List Part)) : ByteArray := if names = [] then yesB else joinQ (names.zip (renTs [] terms).1)
structure Qs where
 names : List ByteArray
 chs : List Ch
structure Se where
 lim : Nat
 cls : List Cl
 q : Option Qs
def stNone : St := ⟨[], [], 0⟩
def replyS (S : Se) (names : List ByteArray) (r : Int × Cf) : Rep × Se :=
 if r.1 = 1 then (⟨1, textQ names r.2.now.terms, 0, 0⟩, ⟨S.lim, S.cls, some ⟨names, r.2.chs.map renC⟩⟩) else (repK r.1, ⟨S.lim, S.cls, none⟩)
def firstS (S : Se) (gs : List (List Part)) (ns : List ByteArray) : Int × Cf := if 200 < sizeS (beginC gs ns).now then (7, beginC gs ns) else playN S.cls S.lim (0, beginC gs ns)
def nextS (S : Se) (q : Qs) : Int × Cf := playN S.cls S.lim (-1, ⟨stNone, q.chs⟩)
def askS (S : Se) (text : ByteArray) : Rep × Se := match questS text with
 | .error e => (⟨4, ⟨#[]⟩, e.1, e.2⟩, ⟨S.lim, S.cls, none⟩)
 | .ok (gs, ns) => replyS S (beginN ns) (firstS S gs ns)
def moreS (S : Se) : Rep × Se := match S.q with
 | none => (repK 3, S)
 | some q => replyS S q.names (nextS S q)
def stopS (S : Se) : Se := ⟨S.lim, S.cls, none⟩
theorem namedFrom_mem : ∀ (i : Nat) (ns : List ByteArray) (x : ByteArray × Nat), x ∈ namedFrom i ns -> i <= x.2 /\ x.2 < i + ns.length /\ x.1 ∈ ns /\ isNamedB x.1 = true
 | _, [], _, h => by simp [namedFrom] at h
 | i, n :: ns, x, h => by
  rw [namedFrom] at h
  rcases List.mem_append.1 h with h | h
  ·split at h
   ·rename_i hn
    simp at h; subst h; exact ⟨by simp, by simp, by simp, hn⟩
   ·simp at h
  ·obtain ⟨h1, h2, h3, h4⟩ := namedFrom_mem (i + 1) ns x h
   exact ⟨by omega, by simp only [List.length_cons]; omega, List.mem_cons_of_mem _ h3, h4⟩
theorem namedFrom_len : ∀ (i : Nat) (ns : List ByteArray), (namedFrom i ns).length <= ns.length
 | _, [] => by simp [namedFrom]
 | i, n :: ns => by
  have := namedFrom_len (i + 1) ns
  rw [namedFrom, List.length_append, List.length_cons]
  split
  ·simp only [List.length_cons, List.length_nil]; omega
  ·simp only [List.length_nil]; omega
structure QsOk (n : Nat) (q : Qs) : Prop where
 nl : q.names.length <= 16
 nz : ∀ x ∈ q.names, x.size <= 12
 cl : q.chs.length <= 20
 c : ∀ c ∈ q.chs, StG 1000 406400 c.st /\ c.st.terms.length = q.names.length /\ (∀ k ∈ c.cls, k < n) /\ c.cls ≠ [] /\ GoalsK c.st.goals /\ ∃ g gs, c.st.goals = g :: gs /\ NoCut g
structure SeOk (S : Se) : Prop where
 l1 : 1 <= S.lim
 l2 : S.lim <= 1000
 cl : S.cls.length <= 30
 cls : ∀ c ∈ S.cls, ClR c /\ c.vars <= 16 /\ ClG c
 q : ∀ q, S.q = some q -> QsOk S.cls.length q
theorem NumTo.bd {B : Nat} : ∀ {ps : List Part} {m m' : Nat}, NumTo m ps m' -> (∀ p ∈ ps, p.kind = 1 -> p.value < B) -> m <= B -> m' <= B
 | [], _, _, h, _, hm => by cases h; exact hm
 | p :: ps, m, m', h, hp, hm => by
  obtain ⟨m1, h1, h2⟩ := h
  refine h2.bd (fun q hq => hp q (List.mem_cons_of_mem _ hq)) ?_
  unfold stepN at h1
  split at h1
  ·rename_i hk
   have := hp p (by simp) hk
   omega
  ·omega
theorem ClR.good {c : Cl} (h : ClR c) (hg : GoodCl c) : c.vars <= 16 /\ ClG c := by
 have hv : c.vars <= 16 := by
  refine h.num.bd (fun p hp hk => ?_) (by omega)
  rcases List.mem_append.1 hp with hp | hp
  ·exact ((hg.1 p hp).1 hk).2
  ·obtain ⟨q, hq, hpq⟩ := List.mem_flatten.1 hp
   exact (((hg.2.2 q hq).1 p hpq).1 hk).2
 refine ⟨hv, ⟨hg.2.1, fun p hp => (h.hp p hp).good 16 (by omega)⟩, h.bl, fun t ht => ⟨(hg.2.2 t ht).2, (h.bg t ht).part (by omega)⟩⟩
theorem readS_ok {s : ByteArray} {out : List Cl} (h : readS s = .ok out) : ∀ c ∈ out, ClR c /\ c.vars <= 16 /\ ClG c := fun c hc => by
 have h1 := readS_read h c hc
 exact ⟨h1, h1.good ((readS_good h).2 c hc)⟩
theorem ClR.k {c : Cl} (h : ClR c) : ClK c := ⟨fun p hp => (h.hp p hp).kind, fun g hg => (h.bg g hg).k⟩
theorem SeOk.g {S : Se} (h : SeOk S) : ClsG S.cls := fun c hc => (h.cls c hc).2.2
theorem SeOk.k {S : Se} (h : SeOk S) : ClsK S.cls := fun c hc => (h.cls c hc).1.k
theorem numV_ge (ns : List Int) (v : Int) : ns.length <= (numV ns v).length := by unfold numV; split <;> simp
theorem stepV_ge (ns : List Int) (p : Part) : ns.length <= (stepV ns p).length := by
 unfold stepV; split
 ·exact numV_ge _ _
 ·exact Nat.le_refl _
theorem renT_ge : ∀ (t : List Part) (ns : List Int), ns.length <= (renT ns t).2.length
 | [], _ => Nat.le_refl _
 | p :: t, ns => by rw [renT]; exact Nat.le_trans (stepV_ge ns p) (renT_ge t _)
theorem renTs_ge : ∀ (ts : List (List Part)) (ns : List Int), ns.length <= (renTs ns ts).2.length
 | [], _ => Nat.le_refl _
 | t :: ts, ns => by rw [renTs]; exact Nat.le_trans (renT_ge t ns) (renTs_ge ts _)
theorem idx_lt (ns : List Int) (v : Int) : (numV ns v).idxOf v < (numV ns v).length := by
 refine List.idxOf_lt_length_of_mem ?_
 unfold numV; split
 ·assumption
 ·simp
def RenOf (n : Nat) (q p : Part) : Prop := p.kind = q.kind /\ p.name = q.name /\ p.args = q.args /\ (q.kind ≠ 1 -> p.value = q.value) /\ (q.kind = 1 -> 0 <= p.value /\ p.value < n)
theorem RenOf.mono {n n' : Nat} {q p : Part} (h : RenOf n q p) (hn : n <= n') : RenOf n' q p := ⟨h.1, h.2.1, h.2.2.1, h.2.2.2.1, fun k => by have := h.2.2.2.2 k; omega⟩
theorem renP_of (ns : List Int) (p : Part) : RenOf (stepV ns p).length p (renP ns p) := by
 unfold renP stepV
 split
 ·rename_i hk
  have := idx_lt ns p.value
  exact ⟨rfl, rfl, rfl, fun h => absurd hk h, fun _ => by simp only []; omega⟩
 ·rename_i hk
  exact ⟨rfl, rfl, rfl, fun _ => rfl, fun h => absurd h hk⟩
theorem renT_of : ∀ (t : List Part) (ns : List Int), (renT ns t).1.length = t.length /\ ∀ p ∈ (renT ns t).1, ∃ q ∈ t, RenOf (renT ns t).2.length q p
 | [], ns => ⟨rfl, by simp [renT]⟩
 | x :: t, ns => by
  obtain ⟨h1, h2⟩ := renT_of t (stepV ns x)
  rw [renT]
  refine ⟨by simp [h1], fun p hp => ?_⟩
  rcases List.mem_cons.1 hp with rfl | hp
  ·exact ⟨x, by simp, (renP_of ns x).mono (renT_ge t _)⟩
  ·obtain ⟨q, hq, hr⟩ := h2 p hp
   exact ⟨q, List.mem_cons_of_mem _ hq, hr⟩
theorem renTs_of : ∀ (ts : List (List Part)) (ns : List Int), (renTs ns ts).1.length = ts.length /\ ∀ (i : Nat) (u : List Part), (renTs ns ts).1[i]? = some u -> ∃ t, ts[i]? = some t /\ u.length = t.length /\ (∀ p ∈ u, ∃ q ∈ t, RenOf (renTs ns ts).2.length q p) /\ (t.head?.map (·.kind)) = u.head?.map (·.kind)
 | [], ns => ⟨rfl, by simp [renTs]⟩
 | t :: ts, ns => by
  obtain ⟨h1, h2⟩ := renTs_of ts (renT ns t).2
  obtain ⟨g1, g2⟩ := renT_of t ns
  rw [renTs]
  refine ⟨by simp [h1], fun i u hu => ?_⟩
  cases i with
  | zero =>
   simp at hu; subst hu
   refine ⟨t, rfl, g1, fun p hp => ?_, ?_⟩
   ·obtain ⟨q, hq, hr⟩ := g2 p hp
    exact ⟨q, hq, hr.mono (renTs_ge ts _)⟩
   ·cases t with
    | nil => rfl
    | cons x t =>
     rw [renT]
     simp only [List.head?_cons, Option.map_some]
     have := (renP_of ns x).1
     rw [this]
  | succ i =>
   simp at hu
   obtain ⟨t', e1, e2, e3, e4⟩ := h2 i u hu
   exact ⟨t', by simpa using e1, e2, e3, e4⟩
theorem renTs_count : ∀ (ts : List (List Part)) (ns : List Int), (∀ t ∈ ts, t.length <= 400) -> (renTs ns ts).2.length <= ns.length + ts.length * 400 := by
 have one : ∀ (t : List Part) (ns : List Int), (renT ns t).2.length <= ns.length + t.length := by
  intro t
  induction t with
  | nil => intro ns; simp [renT]
  | cons p t ih =>
   intro ns
   rw [renT]
   have h1 := ih (stepV ns p)
   have h2 : (stepV ns p).length <= ns.length + 1 := by
    unfold stepV; split
    ·unfold numV; split <;> simp
    ·simp
   simp only [List.length_cons]
   omega
 intro ts
 induction ts with
 | nil => intro ns _; simp [renTs]
 | cons t ts ih =>
  intro ns h
  have h1 := ih (renT ns t).2 (fun u hu => h u (List.mem_cons_of_mem _ hu))
  have h2 := one t ns
  have h3 := h t (by simp)
  rw [renTs]
  simp only [List.length_cons]
  omega
theorem RenOf.good {n : Nat} {f : Int} {q p : Part} (h : RenOf n q p) (hq : PartG f q) : PartG n p := by
 refine ⟨by rw [h.2.2.1]; exact hq.1, fun k => h.2.2.2.2 (by rw [<- h.1]; exact k), fun k => ?_, by rw [h.2.1]; exact hq.2.2.2⟩
 have hk : q.kind = 2 := by rw [<- h.1]; exact k
 rw [h.2.2.2.1 (by omega)]
 exact hq.2.2.1 hk
theorem renS_lens (S : St) : (renS S).goals.length = S.goals.length /\ (renS S).terms.length = S.terms.length := by
 have h1 := (renTs_of (S.goals ++ S.terms) []).1
 rw [List.length_append] at h1
 unfold renS
 simp only [List.length_take, List.length_drop]
 omega
theorem renS_each (S : St) : (∀ (i : Nat) (u : List Part), (renS S).goals[i]? = some u -> ∃ t, S.goals[i]? = some t /\ u.length = t.length /\ (∀ p ∈ u, ∃ q ∈ t, RenOf (renTs [] (S.goals ++ S.terms)).2.length q p) /\ (t.head?.map (·.kind)) = u.head?.map (·.kind)) /\ (∀ (i : Nat) (u : List Part), (renS S).terms[i]? = some u -> ∃ t, S.terms[i]? = some t /\ u.length = t.length /\ (∀ p ∈ u, ∃ q ∈ t, RenOf (renTs [] (S.goals ++ S.terms)).2.length q p)) := by
 have h2 := (renTs_of (S.goals ++ S.terms) []).2
 constructor
 ·intro i u hu
  have hi : i < S.goals.length := by
   have := (List.getElem?_eq_some_iff.1 hu).1
   have := (renS_lens S).1
   omega
  unfold renS at hu
  simp only [List.getElem?_take, if_pos hi] at hu
  obtain ⟨t, e1, e2, e3, e4⟩ := h2 i u hu
  rw [List.getElem?_append_left hi] at e1
  exact ⟨t, e1, e2, e3, e4⟩
 ·intro i u hu
  unfold renS at hu
  simp only [List.getElem?_drop] at hu
  obtain ⟨t, e1, e2, e3, _⟩ := h2 _ u hu
  rw [List.getElem?_append_right (by omega), show S.goals.length + i - S.goals.length = i by omega] at e1
  exact ⟨t, e1, e2, e3⟩
theorem renS_good {N : Nat} {F : Int} {S : St} (h : StG N F S) (hN : N <= 1000) : StG N 406400 (renS S) := by
 obtain ⟨l1, l2⟩ := renS_lens S
 obtain ⟨e1, e2⟩ := renS_each S
 have hc := renTs_count (S.goals ++ S.terms) [] (fun t ht => by
  rcases List.mem_append.1 ht with ht | ht
  ·exact (h.g t ht).1
  ·exact (h.t t ht).1)
 rw [List.length_append] at hc
 have := h.gl
 have := h.tl
 refine ⟨by omega, by omega, by unfold renS; simp, ?_, fun u hu => ?_, fun u hu => ?_⟩
 ·unfold renS; simp only [List.length_nil] at hc ⊢
  have : (S.goals.length + S.terms.length) * 400 <= 1016 * 400 := Nat.mul_le_mul_right _ (by omega)
  omega
 ·obtain ⟨i, hi⟩ := List.getElem?_of_mem hu
  obtain ⟨t, a1, a2, a3, _⟩ := e1 i u hi
  have ht := h.g t (List.mem_of_getElem? a1)
  exact ⟨by rw [a2]; exact ht.1, fun p hp => by obtain ⟨q, hq, hr⟩ := a3 p hp; exact hr.good (ht.2 q hq)⟩
 ·obtain ⟨i, hi⟩ := List.getElem?_of_mem hu
  obtain ⟨t, a1, a2, a3⟩ := e2 i u hi
  have ht := h.t t (List.mem_of_getElem? a1)
  exact ⟨by rw [a2]; exact ht.1, fun p hp => by obtain ⟨q, hq, hr⟩ := a3 p hp; exact hr.good (ht.2 q hq)⟩
theorem renS_goals (S : St) (h : GoalsK S.goals) : GoalsK (renS S).goals := by
 intro u hu
 obtain ⟨i, hi⟩ := List.getElem?_of_mem hu
 obtain ⟨t, a1, a2, a3, _⟩ := (renS_each S).1 i u hi
 rcases h t (List.mem_of_getElem? a1) with ⟨v, rfl⟩ | hn
 ·refine .inl ⟨v, ?_⟩
  cases u with
  | nil => simp [cutT] at a2
  | cons x u =>
   cases u with
   | cons y u => simp [cutT] at a2
   | nil =>
    obtain ⟨q, hq, hr⟩ := a3 x (by simp)
    simp [cutT] at hq; subst hq
    obtain ⟨r1, r2, r3, r4, _⟩ := hr
    replace r4 := r4 (by simp)
    obtain ⟨xk, xn, xv, xa⟩ := x
    simp only at r1 r2 r3 r4
    subst r1; subst r2; subst r3; subst r4
    rfl
 ·refine .inr (fun p hp => ?_)
  obtain ⟨q, hq, hr⟩ := a3 p hp
  rw [hr.1]; exact hn q hq
theorem renS_first (S : St) (h : ∃ g gs, S.goals = g :: gs /\ NoCut g) : ∃ g gs, (renS S).goals = g :: gs /\ NoCut g := by
 obtain ⟨g, gs, hg, hn⟩ := h
 have hl := (renS_lens S).1
 cases hr : (renS S).goals with
 | nil => rw [hr, hg] at hl; simp at hl
 | cons u us =>
  refine ⟨u, us, rfl, fun p hp => ?_⟩
  obtain ⟨t, a1, a2, a3, _⟩ := (renS_each S).1 0 u (by rw [hr]; rfl)
  rw [hg] at a1
  simp at a1; subst a1
  obtain ⟨q, hq, hr⟩ := a3 p hp
  rw [hr.1]; exact hn q hq
theorem playN_ind {cs : List Cl} {P : Nat -> Int × Cf -> Prop} (hag : ∀ t cf, P t (-1, cf) -> P t (againP cs cf)) (htk : ∀ t cf, P t (0, cf) -> cf.now.goals ≠ [] -> P (t + 1) (takeP cs cf)) : ∀ (n t : Nat) (r : Int × Cf), P t r ->
  ∃ t' o, t' <= t + n /\ P t' (o, (playN cs n r).2) /\ ((o ≠ 0 /\ (playN cs n r).1 = o) \/ (o = 0 /\ ((playN cs n r).1 = 1 \/ (playN cs n r).1 = 5))) := by
 have hset : ∀ t r, P t r -> P t (settle cs r) := fun t r h => settle_ind (P := P t) (hag t) _ r h
 intro n
 induction n with
 | zero =>
  intro t r h
  have h1 := hset t r h
  rw [playN_eq]
  split
  ·rename_i h0
   exact ⟨t, _, by omega, h1, .inl ⟨h0, rfl⟩⟩
  ·rename_i h0
   have h0 : (settle cs r).1 = 0 := Classical.not_not.1 h0
   have h2 : P t (0, (settle cs r).2) := by rw [<- h0]; exact h1
   split
   ·exact ⟨t, 0, by omega, h2, .inr ⟨rfl, .inl rfl⟩⟩
   ·exact ⟨t, 0, by omega, h2, .inr ⟨rfl, .inr rfl⟩⟩
 | succ n ih =>
  intro t r h
  have h1 := hset t r h
  rw [playN_eq]
  split
  ·rename_i h0
   exact ⟨t, _, by omega, h1, .inl ⟨h0, rfl⟩⟩
  ·rename_i h0
   have h0 : (settle cs r).1 = 0 := Classical.not_not.1 h0
   have h2 : P t (0, (settle cs r).2) := by rw [<- h0]; exact h1
   split
   ·exact ⟨t, 0, by omega, h2, .inr ⟨rfl, .inl rfl⟩⟩
   ·rename_i hg
    obtain ⟨t', o, a1, a2, a3⟩ := ih (t + 1) _ (htk t _ h2 hg)
    exact ⟨t', o, by omega, a2, a3⟩
def TmN (n : Nat) (r : Int × Cf) : Prop := (r.1 = 0 -> r.2.now.terms.length = n) /\ ∀ c ∈ r.2.chs, c.st.terms.length = n
theorem with_terms {S : St} {c : Cl} {h : Int} (h0 : (withS S c h).1 = 0) : (withS S c h).2.terms.length = S.terms.length := by
 have hz : (solveE (withE S c h)).1 = 0 := by
  unfold withS at h0
  split at h0
  ·assumption
  ·exact h0
 unfold withS; rw [if_pos hz]
 exact (solveE_num (withE S c h)).2.2
theorem use_tmn {n : Nat} {cf : Cf} {s : St} {c : Cl} {h : Int} (hs : s.terms.length = n) (hc : ∀ d ∈ cf.chs, d.st.terms.length = n) : TmN n (useP cf s c h) := by
 refine ⟨fun h0 => ?_, by rw [useP_chs]; exact hc⟩
 unfold useP at h0 ⊢
 simp only at h0 ⊢
 rw [if_pos h0]
 exact (with_terms h0).trans hs
theorem putCh_all {P : Ch -> Prop} {low : List Ch} {s : St} {rest : List Nat} (hl : ∀ c ∈ low, P c) (hs : P ⟨s, rest⟩) : ∀ c ∈ putCh low s rest, P c := by
 intro c hc
 unfold putCh at hc
 split at hc
 ·exact hl c hc
 ·rcases List.mem_cons.1 hc with rfl | hc
  ·exact hs
  ·exact hl c hc
theorem again_tmn {cs : List Cl} {n : Nat} {cf : Cf} (h : TmN n (-1, cf)) : TmN n (againP cs cf) := by
 have hc := h.2
 simp only at hc
 unfold againP
 cases hl : cf.chs with
 | nil => exact ⟨fun e => by simp at e, hc⟩
 | cons c low =>
  rw [hl] at hc
  simp only []
  have hlow : ∀ d ∈ low, d.st.terms.length = n := fun d hd => hc d (List.mem_cons_of_mem _ hd)
  unfold takeUp
  split
  ·exact ⟨fun _ => hc c (by simp), hlow⟩
  ·exact use_tmn (hc c (by simp)) (putCh_all (P := fun d => d.st.terms.length = n) hlow (hc c (by simp)))
theorem take_tmn {cs : List Cl} {n : Nat} {cf : Cf} (h : TmN n (0, cf)) : TmN n (takeP cs cf) := by
 obtain ⟨hn, hc⟩ := h
 have hn := hn rfl
 simp only at hn hc
 have stay : ∀ k : Int, TmN n (k, cf) := fun k => ⟨fun _ => hn, hc⟩
 have meet : TmN n (meetP cf) := ⟨fun _ => hn, hc⟩
 have equal : ∀ a b, TmN n (equalP cf a b) := fun a b => by
  refine ⟨fun h0 => ?_, by rw [equal_chs]; exact hc⟩
  unfold equalP at h0 ⊢
  simp only at h0 ⊢
  rw [if_pos h0]
  exact (solveE_num (equalE cf a b)).2.2.trans hn
 unfold takeP
 split
 ·unfold builtP
  split
  ·exact ⟨fun _ => hn, fun c hcm => hc c (List.mem_of_mem_drop hcm)⟩
  split
  ·exact meet
  split
  ·exact equal _ _
  split
  ·unfold lessP
   split
   ·split
    ·exact meet
    ·exact stay _
   ·exact stay _
  split
  ·unfold plusP
   split
   ·split
    ·exact stay _
    ·exact equal _ _
   ·exact stay _
  split
  ·unfold notP
   split
   ·split
    ·exact stay _
    ·refine ⟨fun _ => hn, fun c hcm => ?_⟩
     rcases List.mem_cons.1 hcm with rfl | hcm
     ·exact hn
     ·exact hc c hcm
   ·exact stay _
  ·exact stay _
 ·split
  ·unfold chooseP
   split
   ·exact stay _
   ·split
    ·exact stay _
    ·exact use_tmn hn (putCh_all (P := fun d => d.st.terms.length = n) hc hn)
  ·exact stay _
structure Kep (cs : List Cl) (n t : Nat) (r : Int × Cf) : Prop where
 cf : CfG cs 1000 406400 t r.2
 inv : Inv t r
 tm : TmN n r
 out : OutK r.1
theorem kep_again {cs : List Cl} (hg : ClsG cs) (hk : ClsK cs) {n t : Nat} {cf : Cf} (h : Kep cs n t (-1, cf)) : Kep cs n t (againP cs cf) := ⟨again_good hg h.cf, again_inv hk h.inv.base, again_tmn h.tm, again_kind cs cf⟩
theorem kep_take {cs : List Cl} (hg : ClsG cs) (hk : ClsK cs) {n t : Nat} {cf : Cf} (h : Kep cs n t (0, cf)) (hne : cf.now.goals ≠ []) : Kep cs n (t + 1) (takeP cs cf) := ⟨take_good hg h.cf hne, take_inv hk h.inv hne, take_tmn h.tm, take_kind cs cf⟩
theorem reply_ok {S : Se} (hS : SeOk S) {names : List ByteArray} (hn : names.length <= 16) (hz : ∀ x ∈ names, x.size <= 12) {r : Int × Cf} (h : Kep S.cls names.length 0 r) : SeOk (replyS S names (playN S.cls S.lim r)).2 := by
 unfold replyS
 split
 ·rename_i h1
  have hl := hS.l2
  obtain ⟨t', o, a1, a2, a3⟩ := playN_ind (P := Kep S.cls names.length) (fun _ _ h => kep_again hS.g hS.k h) (fun _ _ h hne => kep_take hS.g hS.k h hne) S.lim 0 r h
  have han := play_answer hS.k S.lim 0 r h.inv (by omega) h.out h1
  refine ⟨hS.l1, hS.l2, hS.cl, hS.cls, fun q hq => ?_⟩
  simp only [Option.some.injEq] at hq
  subst hq
  refine ⟨hn, hz, by simp only [List.length_map]; exact a2.cf.len, fun c hc => ?_⟩
  simp only at hc
  obtain ⟨d, hd, rfl⟩ := List.mem_map.1 hc
  obtain ⟨n1, n2, n3, n4⟩ := han.2 d hd
  obtain ⟨g1, g2, _⟩ := a2.cf.chs d hd
  refine ⟨?_, ?_, g2, n1, renS_goals _ n3, renS_first _ n4⟩
  ·exact renS_good (N := 1000) (F := 406400 + 16 * t') ⟨n2, g1.tl, g1.f0, g1.f1, g1.g, g1.t⟩ (Nat.le_refl _)
  ·show (renS d.st).terms.length = _
   rw [(renS_lens d.st).2]; exact a2.tm.2 d hd
 ·exact ⟨hS.l1, hS.l2, hS.cl, hS.cls, fun q hq => by cases hq⟩
theorem begin_kep {S : Se} {gs : List (List Part)} {ns : List ByteArray} (hq : QuR gs ns) (hg : ∀ q ∈ gs, (∀ x ∈ q, Good x) /\ q.length <= 400) : ns.length <= 16 /\ Kep S.cls (beginN ns).length 0 (0, beginC gs ns) := by
 have h16 : ns.length <= 16 := by
  refine hq.num.bd (fun p hp hk => ?_) (by omega)
  obtain ⟨q, hq2, hpq⟩ := List.mem_flatten.1 hp
  exact (((hg q hq2).1 p hpq).1 hk).2
 have hnl := namedFrom_len 0 ns
 have hlen := hq.len
 refine ⟨h16, ⟨⟨?_, (fun c hc => by cases hc), (by simp [beginC])⟩, ⟨⟨trivial, trivial, (fun _ c hc => by cases hc)⟩, fun _ => ⟨fun q hq2 => (hq.g q hq2).k, .inr ⟨trivial, trivial⟩⟩⟩, ⟨(fun _ => by simp [beginC, beginT, beginN]), (fun c hc => by cases hc)⟩, .inl rfl⟩⟩
 refine ⟨by simp only [beginC]; omega, by simp only [beginC, beginT, List.length_map]; omega, by simp [beginC], by simp only [beginC]; omega, fun t ht => ⟨(hg t ht).2, (hq.g t ht).part (by simp [beginC])⟩, fun t ht => ?_⟩
 simp only [beginC, beginT] at ht
 obtain ⟨x, hx, rfl⟩ := List.mem_map.1 ht
 obtain ⟨b1, b2, _, _⟩ := namedFrom_mem 0 ns x hx
 refine ⟨by simp [varP], fun p hp => ?_⟩
 simp [varP] at hp; subst hp
 exact ⟨by simp, fun _ => by simp only [beginC]; omega, by simp, by simp [ByteArray.size]⟩
theorem next_kep {S : Se} (hS : SeOk S) {q : Qs} (h : QsOk S.cls.length q) : Kep S.cls q.names.length 0 (-1, ⟨stNone, q.chs⟩) := by
 have hk : ∀ c ∈ q.chs, _ := h.c
 have sh : ∀ l : List Ch, (∀ c ∈ l, c ∈ q.chs) -> topNot l = none /\ notSum l = 0 /\ ShR l /\ RkR 0 l /\ (∀ a B, Rk a B l) := by
  intro l
  induction l with
  | nil => intro _; exact ⟨rfl, rfl, trivial, trivial, fun _ _ => trivial⟩
  | cons c l ih =>
   intro hl
   obtain ⟨i1, i2, i3, i4, i5⟩ := ih (fun d hd => hl d (List.mem_cons_of_mem _ hd))
   obtain ⟨g1, _, _, g4, g5, g6⟩ := h.c c (hl c (by simp))
   refine ⟨by rw [topNot, if_neg g4]; exact i1, by rw [notSum, if_neg g4, i2], ⟨⟨by rw [i1]; trivial, g5, fun _ => g6⟩, i3⟩, ⟨i5 _ _, i4⟩, fun a B => ⟨.inl g1.gl, i5 a B⟩⟩
 obtain ⟨_, _, s3, s4, _⟩ := sh q.chs (fun c hc => hc)
 have := hS.l1
 refine ⟨⟨StG.none _ (by omega), fun c hc => ?_, h.cl⟩, ⟨⟨s3, s4, fun _ c hc => (h.c c hc).1.gl⟩, fun e => by simp at e⟩, ⟨fun e => by simp at e, fun c hc => (h.c c hc).2.1⟩, .inr (.inl rfl)⟩
 obtain ⟨g1, _, g3, _, _, g, gs, hgs, _⟩ := h.c c hc
 exact ⟨g1.mono (by omega) (by omega), g3, fun _ => by rw [hgs]; simp⟩
theorem more_ok {S : Se} (hS : SeOk S) : SeOk (moreS S).2 := by
 unfold moreS
 split
 ·exact hS
 ·rename_i q hq
  have h := hS.q q hq
  exact reply_ok hS h.nl h.nz (next_kep hS h)
theorem stop_ok {S : Se} (hS : SeOk S) : SeOk (stopS S) := ⟨hS.l1, hS.l2, hS.cl, hS.cls, fun q hq => by cases hq⟩
theorem questS_good {s : ByteArray} {gs : List (List Part)} {ns : List ByteArray} (h : questS s = .ok (gs, ns)) : ∀ q ∈ gs, (∀ x ∈ q, Good x) /\ q.length <= 400 := by
 unfold questS at h
 split at h
 ·cases h
 ·unfold questP at h
  cases hr : goalsP (tokens s).length 8 [] (tokens s) [] with
  | error e => rw [hr] at h; cases h
  | ok x =>
   obtain ⟨g1, l1, n1⟩ := x
   have hlen : (tokens s).length <= 401 := by have := toks_len s s.size 0; unfold tokens; omega
   have k1 := (goalsP_good _ _ _ _ _ _ _ _ (toks_ended s _ _) (by simp) (fun q hq => by cases hq) hlen hr).1
   rw [hr] at h
   simp only at h
   split at h
   ·cases h
   ·split at h
    ·split at h
     ·cases h
     ·split at h
      ·simp only [Except.ok.injEq, Prod.mk.injEq] at h; obtain ⟨rfl, rfl⟩ := h; exact k1
      ·cases h
    ·cases h
end Rf
