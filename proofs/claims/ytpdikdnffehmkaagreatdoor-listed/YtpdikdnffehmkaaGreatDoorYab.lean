/- Plain facts: how long a written term can be. -/
import Derived.Test.YtpdikdnffehmkaaGreatDoorYaa
import Derived.Lib.ItoaLen
namespace Rf
def Good (p : Part) : Prop := (p.kind = 1 → 0 ≤ p.value ∧ p.value < 16) ∧ (p.kind = 2 → -999999999 ≤ p.value ∧ p.value ≤ 999999999) ∧ p.name.size ≤ 12
theorem word_size (p : Part) (h : Good p) : (wordP p).size ≤ 21 := by
  unfold wordP
  split
  · unfold letterOf; split
    · show 1 ≤ 21; omega
    · show 1 ≤ 21; omega
  · split
    · rename_i h2
      have h3 := h.2.1 h2
      have := Go.Lib.itoa_length_le p.value (by omega) (by omega)
      unfold itoaB
      simpa [ByteArray.size] using this
    · split
      · show 1 ≤ 21; omega
      · have := h.2.2; omega
theorem close_size : ∀ st : List Nat, (closeP st).1.size + (closeP st).2.length ≤ st.length + 1
  | [] => by simp [closeP, ByteArray.size]
  | k :: st => by
    rw [closeP]
    split
    · show 1 + _ ≤ _; simp; omega
    · have := close_size st
      simp only [ByteArray.size_append, List.length_cons]
      have h1 : (⟨#[41]⟩ : ByteArray).size = 1 := rfl
      omega
theorem text_size : ∀ (ps : List Part) (st : List Nat), (∀ p ∈ ps, Good p) → (textP ps st).size ≤ 23 * ps.length + st.length
  | [], st, _ => by simp [textP, ByteArray.size]
  | p :: ps, st, h => by
    have hw := word_size p (h p (by simp))
    have h' : ∀ q ∈ ps, Good q := fun q hq => h q (List.mem_cons_of_mem _ hq)
    rw [textP]
    split
    · have := text_size ps (p.args.toNat :: st) h'
      have h1 : (⟨#[40]⟩ : ByteArray).size = 1 := rfl
      simp only [ByteArray.size_append, List.length_cons] at *
      omega
    · have := text_size ps (closeP st).2 h'
      have := close_size st
      simp only [ByteArray.size_append, List.length_cons] at *
      omega
theorem txt_size (ps : List Part) (h : ∀ p ∈ ps, Good p) : (txt ps).size ≤ 23 * ps.length := by
  have := text_size ps [] h
  simpa [txt] using this
theorem accW_size (s : ByteArray) (qs : List (List Part)) (B : Nat) (h : ∀ q ∈ qs, (txt q).size ≤ B) : ∀ k, k ≤ qs.length → (accW s qs k).size ≤ s.size + k * (B + 1)
  | 0, _ => by simp [accW]
  | k + 1, hk => by
    have ih := accW_size s qs B h k (by omega)
    have hq : (txt (qs.getD k [])).size ≤ B := by
      rw [List.getD_eq_getElem?_getD, List.getElem?_eq_getElem (show k < qs.length by omega)]
      exact h _ (List.getElem_mem _)
    rw [accW]
    have h1 : (⟨#[40]⟩ : ByteArray).size = 1 := rfl
    have h2 : (⟨#[44]⟩ : ByteArray).size = 1 := rfl
    have hm : (k + 1) * (B + 1) = k * (B + 1) + (B + 1) := by rw [Nat.add_mul, Nat.one_mul]
    split
    · rename_i h0
      subst h0
      simp only [ByteArray.size_append]
      omega
    · simp only [ByteArray.size_append]
      omega
theorem accL_size (s : ByteArray) (qs : List (List Part)) (B : Nat) (h : ∀ q ∈ qs, (txt q).size ≤ B) : ∀ k, k ≤ qs.length → (accL s qs k).size ≤ s.size + k * (B + 2)
  | 0, _ => by simp [accL]
  | k + 1, hk => by
    have ih := accL_size s qs B h k (by omega)
    have hq : (txt (qs.getD k [])).size ≤ B := by
      rw [List.getD_eq_getElem?_getD, List.getElem?_eq_getElem (show k < qs.length by omega)]
      exact h _ (List.getElem_mem _)
    rw [accL]
    have h1 : (⟨#[58, 45]⟩ : ByteArray).size = 2 := rfl
    have h2 : (⟨#[44]⟩ : ByteArray).size = 1 := rfl
    have hm : (k + 1) * (B + 2) = k * (B + 2) + (B + 2) := by rw [Nat.add_mul, Nat.one_mul]
    split
    · rename_i h0
      subst h0
      simp only [ByteArray.size_append]
      omega
    · simp only [ByteArray.size_append]
      omega
end Rf
/- Plain facts: clauses that were read have good parts, and no more of them than tokens. -/
namespace Rf
theorem varS_good {t : Tok} {ns ns' : List ByteArray} {i : Nat} (h : varS t ns = .ok (i, ns')) (h16 : ns.length ≤ 16) : i < 16 ∧ ns'.length ≤ 16 := by
  unfold varS at h
  cases hl : lookS t.s ns with
  | some j =>
    rw [hl] at h
    simp only [Except.ok.injEq, Prod.mk.injEq] at h
    obtain ⟨rfl, rfl⟩ := h
    unfold lookS at hl
    split at hl
    · cases hl
    · have := (List.findIdx?_eq_some_iff_getElem.1 hl).1
      omega
  | none =>
    rw [hl] at h
    simp only at h
    split at h
    · cases h
    · simp only [Except.ok.injEq, Prod.mk.injEq] at h
      obtain ⟨rfl, rfl⟩ := h
      simp; omega
def OkTerm (rd : List Tok → List ByteArray → Except (Int × Nat) (List Part × List Tok × List ByteArray)) : Prop :=
  ∀ l ns p l1 ns1, Ended l → ns.length ≤ 16 → rd l ns = .ok (p, l1, ns1) → (∀ x ∈ p, Good x) ∧ ns1.length ≤ 16 ∧ p.length + l1.length ≤ l.length ∧ Ended l1
theorem argsS_good (rd : List Tok → List ByteArray → Except (Int × Nat) (List Part × List Tok × List ByteArray)) (h : OkTerm rd) :
    ∀ (k : Nat) (acc : List (List Part)) (l : List Tok) (ns : List ByteArray) (a1 : List (List Part)) (l2 : List Tok) (ns2 : List ByteArray),
    Ended l → ns.length ≤ 16 → (∀ q ∈ acc, ∀ x ∈ q, Good x) → argsS rd k acc l ns = .ok (a1, l2, ns2) → (∀ q ∈ a1, ∀ x ∈ q, Good x) ∧ ns2.length ≤ 16 ∧ a1.flatten.length + l2.length ≤ acc.flatten.length + l.length ∧ Ended l2
  | 0, _, _, _, _, _, _, _, _, _, e => by simp [argsS] at e
  | k + 1, acc, l, ns, a1, l2, ns2, hl, hn, hacc, e => by
    rw [argsS] at e
    cases hr : rd l ns with
    | error x => rw [hr] at e; cases e
    | ok x =>
      obtain ⟨p, l1, ns1⟩ := x
      obtain ⟨g1, g2, g3, g4⟩ := h l ns p l1 ns1 hl hn hr
      rw [hr] at e
      cases l1 with
      | nil => cases e
      | cons u l3 =>
        simp only at e
        simp only [List.length_cons] at g3
        have hacc' : ∀ q ∈ acc ++ [p], ∀ x ∈ q, Good x := fun q hq => by
          rcases List.mem_append.1 hq with hq | hq
          · exact hacc q hq
          · simp at hq; subst hq; exact g1
        have hfl : (acc ++ [p]).flatten.length = acc.flatten.length + p.length := by simp
        split at e
        · split at e
          · cases e
          · have := argsS_good rd h k _ l3 ns1 a1 l2 ns2 (g4.tail (by omega) (by omega)) g2 hacc' e
            exact ⟨this.1, this.2.1, by omega, this.2.2.2⟩
        · split at e
          · simp only [Except.ok.injEq, Prod.mk.injEq] at e
            obtain ⟨rfl, rfl, rfl⟩ := e
            exact ⟨hacc', g2, by omega, g4.tail (by omega) (by omega)⟩
          · cases e
theorem termS_good : ∀ (f : Nat), OkTerm (termS f)
  | 0 => fun _ _ _ _ _ _ _ e => by simp [termS] at e
  | f + 1 => fun l ns p l1 ns1 h hn e => by
    cases l with
    | nil => exact h.elim
    | cons t l =>
    have hfine := h.fine
    rw [termS] at e
    split at e
    · unfold varT at e
      split at e
      · cases e
      · rename_i i ns' hv
        have hg := varS_good hv hn
        simp only [Except.ok.injEq, Prod.mk.injEq] at e
        obtain ⟨rfl, rfl, rfl⟩ := e
        refine ⟨fun x hx => ?_, hg.2, by simp; omega, h.tail (by omega) (by omega)⟩
        simp at hx; subst hx
        exact ⟨fun _ => ⟨by simp, by simp; omega⟩, fun h => by simp at h, by simp [ByteArray.size]⟩
    · split at e
      · rename_i h110
        obtain ⟨_, v, hv, hv1, hv2⟩ := hfine.1 h110
        simp only [Except.ok.injEq, Prod.mk.injEq] at e
        obtain ⟨rfl, rfl, rfl⟩ := e
        refine ⟨fun x hx => ?_, hn, by simp; omega, h.tail (by omega) (by omega)⟩
        simp at hx; subst hx
        have hnv : numVal t.s = v := by unfold numVal; rw [hv]; rfl
        exact ⟨fun h => by simp at h, fun _ => by show -999999999 ≤ numVal t.s ∧ numVal t.s ≤ 999999999; rw [hnv]; exact ⟨hv1, hv2⟩, by simp [ByteArray.size]⟩
      · split at e
        · rename_i h97
          have hs := hfine.2 h97
          have ht := h.tail (by omega) (by omega)
          cases l with
          | nil => cases e
          | cons u l' =>
            simp only [nameS] at e
            split at e
            · cases ha : argsS (termS f) 4 [] l' ns with
              | error x => rw [ha] at e; cases e
              | ok x =>
                obtain ⟨a1, l2, ns2⟩ := x
                rw [ha] at e
                simp only [Except.ok.injEq, Prod.mk.injEq] at e
                obtain ⟨rfl, rfl, rfl⟩ := e
                have hg := argsS_good (termS f) (termS_good f) 4 [] l' ns a1 l2 ns2 (ht.tail (by omega) (by omega)) hn (fun q hq => by simp at hq) ha
                refine ⟨fun x hx => ?_, hg.2.1, ?_, hg.2.2.2⟩
                · rcases List.mem_cons.1 hx with rfl | hx
                  · exact ⟨fun h => by simp at h, fun h => by simp at h, hs⟩
                  · obtain ⟨q, hq, hx⟩ := List.mem_flatten.1 hx
                    exact hg.1 q hq x hx
                · have := hg.2.2.1
                  simp only [List.flatten_nil, List.length_nil, List.length_cons] at this ⊢
                  omega
            · simp only [Except.ok.injEq, Prod.mk.injEq] at e
              obtain ⟨rfl, rfl, rfl⟩ := e
              refine ⟨fun x hx => ?_, hn, by simp; omega, ht⟩
              simp at hx; subst hx
              exact ⟨fun h => by simp at h, fun h => by simp at h, hs⟩
        · cases e
theorem goalS_good (f : Nat) : OkTerm (goalS f) := fun l ns p l1 ns1 h hn e => by
  cases l with
  | nil => exact h.elim
  | cons t l =>
    simp only [goalS] at e
    split at e
    · simp only [Except.ok.injEq, Prod.mk.injEq] at e
      obtain ⟨rfl, rfl, rfl⟩ := e
      refine ⟨fun x hx => ?_, hn, by simp; omega, h.tail (by omega) (by omega)⟩
      simp at hx; subst hx
      exact ⟨fun h => by simp at h, fun h => by simp at h, by simp [ByteArray.size]⟩
    · cases hr : termS f (t :: l) ns with
      | error x => rw [hr] at e; cases e
      | ok x =>
        obtain ⟨p', l', ns'⟩ := x
        rw [hr] at e
        simp only at e
        split at e
        · simp only [Except.ok.injEq, Prod.mk.injEq] at e
          obtain ⟨rfl, rfl, rfl⟩ := e
          exact termS_good f _ _ _ _ _ h hn hr
        · cases e
theorem goalsS_good (f : Nat) : ∀ (k : Nat) (acc : List (List Part)) (l : List Tok) (ns : List ByteArray) (a1 : List (List Part)) (l2 : List Tok) (ns2 : List ByteArray),
    Ended l → ns.length ≤ 16 → (∀ q ∈ acc, (∀ x ∈ q, Good x) ∧ q.length ≤ 400) → l.length ≤ 401 → goalsS f k acc l ns = .ok (a1, l2, ns2) → (∀ q ∈ a1, (∀ x ∈ q, Good x) ∧ q.length ≤ 400) ∧ ns2.length ≤ 16 ∧ Ended l2
  | 0, _, _, _, _, _, _, _, _, _, _, e => by simp [goalsS] at e
  | k + 1, acc, l, ns, a1, l2, ns2, hl, hn, hacc, h402, e => by
    rw [goalsS] at e
    cases hr : goalS f l ns with
    | error x => rw [hr] at e; cases e
    | ok x =>
      obtain ⟨p, l1, ns1⟩ := x
      obtain ⟨g1, g2, g3, g4⟩ := goalS_good f l ns p l1 ns1 hl hn hr
      rw [hr] at e
      cases l1 with
      | nil => cases e
      | cons u l3 =>
        simp only at e
        simp only [List.length_cons] at g3
        have hacc' : ∀ q ∈ acc ++ [p], (∀ x ∈ q, Good x) ∧ q.length ≤ 400 := fun q hq => by
          rcases List.mem_append.1 hq with hq | hq
          · exact hacc q hq
          · simp at hq; subst hq; exact ⟨g1, by omega⟩
        split at e
        · split at e
          · cases e
          · exact goalsS_good f k _ l3 ns1 a1 l2 ns2 (g4.tail (by omega) (by omega)) g2 hacc' (by omega) e
        · split at e
          · cases e
          · simp only [Except.ok.injEq, Prod.mk.injEq] at e
            obtain ⟨rfl, rfl, rfl⟩ := e
            exact ⟨hacc', g2, g4⟩
def GoodCl (c : Cl) : Prop := (∀ x ∈ c.head, Good x) ∧ c.head.length ≤ 400 ∧ (∀ q ∈ c.body, (∀ x ∈ q, Good x) ∧ q.length ≤ 400)
theorem dotS_good {c : List Part × List (List Part)} {l : List Tok} {ns : List ByteArray} {cl : Cl} {l1 : List Tok} (h : dotS c l ns = .ok (cl, l1)) (he : Ended l) (hc : GoodCl ⟨c.1, c.2, 0⟩) : GoodCl cl ∧ Ended l1 := by
  cases l with
  | nil => cases h
  | cons u l =>
    simp only [dotS] at h
    split at h
    · simp only [Except.ok.injEq, Prod.mk.injEq] at h; obtain ⟨rfl, rfl⟩ := h; exact ⟨hc, he.tail (by omega) (by omega)⟩
    · cases h
theorem clauseS_good {f : Nat} {l : List Tok} {cl : Cl} {l1 : List Tok} (he : Ended l) (h402 : l.length ≤ 401) (h : clauseS f l = .ok (cl, l1)) : GoodCl cl ∧ Ended l1 := by
  cases l with
  | nil => cases h
  | cons t l =>
    simp only [clauseS] at h
    cases hr : termS f (t :: l) [] with
    | error x => rw [hr] at h; cases h
    | ok x =>
      obtain ⟨p, l2, ns2⟩ := x
      obtain ⟨g1, g2, g3, g4⟩ := termS_good f _ _ _ _ _ he (by simp) hr
      rw [hr] at h
      simp only at h
      split at h
      · cases l2 with
        | nil => cases h
        | cons u l3 =>
          simp only at h
          simp only [List.length_cons] at g3 h402
          split at h
          · cases hg : goalsS f 8 [] l3 ns2 with
            | error x => rw [hg] at h; cases h
            | ok x =>
              obtain ⟨gs, l4, ns3⟩ := x
              rw [hg] at h
              simp only at h
              obtain ⟨k1, k2, k3⟩ := goalsS_good f _ _ _ _ _ _ _ (g4.tail (by omega) (by omega)) g2 (fun q hq => by simp at hq) (by omega) hg
              exact dotS_good h k3 ⟨g1, by show p.length ≤ 400; omega, k1⟩
          · exact dotS_good h g4 ⟨g1, by show p.length ≤ 400; omega, fun q hq => by simp at hq⟩
      · cases h
theorem clausesS_good (f : Nat) : ∀ (k : Nat) (acc : List Cl) (l : List Tok) (out : List Cl), Ended l → l.length ≤ 401 → (∀ c ∈ acc, GoodCl c) → clausesS f k acc l = .ok out → (∀ c ∈ out, GoodCl c) ∧ out.length ≤ acc.length + l.length
  | 0, _, _, _, _, _, _, e => by simp [clausesS] at e
  | _ + 1, _, [], _, h, _, _, _ => h.elim
  | k + 1, acc, t :: l, out, he, h402, hacc, e => by
    rw [clausesS] at e
    split at e
    · simp only [Except.ok.injEq] at e; subst e; exact ⟨hacc, by omega⟩
    · cases hc : clauseS f (t :: l) with
      | error x => rw [hc] at e; cases e
      | ok x =>
        obtain ⟨c, l1⟩ := x
        rw [hc] at e
        have hg := clauseS_good he h402 hc
        have hlen := clauseS_len hc
        have := clausesS_good f k (acc ++ [c]) l1 out hg.2 (by omega) (fun x hx => by
          rcases List.mem_append.1 hx with hx | hx
          · exact hacc x hx
          · simp at hx; subst hx; exact hg.1) e
        refine ⟨this.1, ?_⟩
        have h2 := this.2
        simp only [List.length_append, List.length_cons, List.length_nil] at h2 hlen ⊢
        omega
theorem readS_good {s : ByteArray} {out : List Cl} (h : readS s = .ok out) : out.length ≤ 402 ∧ ∀ c ∈ out, GoodCl c := by
  unfold readS at h
  split at h
  · cases h
  · have hl : (tokens s).length ≤ 401 := by have := toks_len s s.size 0; unfold tokens; omega
    have := clausesS_good _ _ [] _ out (toks_ended s _ _) hl (fun c hc => by simp at hc) h
    refine ⟨?_, this.1⟩
    have h2 := this.2
    have h3 : (tokens s).length = (toks s s.size 0).length := rfl
    simp only [List.length_nil] at h2
    omega
end Rf
/- Plain functions: the next token from a place on, and the tokens that are left. -/
namespace Rf
def skipLen (s : ByteArray) (n : Nat) : Nat := ((s.data.toList.drop n).takeWhile fun c => blankB c.toNat).length
theorem skipLen_yes (s : ByteArray) (n : Nat) (h : n < s.size) (hk : blankB (byteAt s n) = true) : skipLen s n = skipLen s (n + 1) + 1 := by
  unfold skipLen
  rw [drop_cons s n h, List.takeWhile_cons, if_pos (by rw [byteAt_eq s n h]; exact hk)]
  simp
theorem skipLen_no (s : ByteArray) (n : Nat) (h : n < s.size) (hk : blankB (byteAt s n) = false) : skipLen s n = 0 := by
  unfold skipLen
  rw [drop_cons s n h, List.takeWhile_cons, if_neg (by rw [byteAt_eq s n h, hk]; simp)]
  rfl
theorem skipLen_end (s : ByteArray) (n : Nat) (h : s.size ≤ n) : skipLen s n = 0 := by
  unfold skipLen
  rw [List.drop_of_length_le (by simpa using h)]; rfl
theorem skipLen_le (s : ByteArray) (n : Nat) : skipLen s n ≤ s.size - n := by
  unfold skipLen
  refine Nat.le_trans (List.takeWhile_sublist _).length_le ?_
  simp
def nextTok (s : ByteArray) (n : Nat) : Tok := if n + skipLen s n < s.size then tokenAt s (n + skipLen s n) else endTok s
def rest (s : ByteArray) (n : Nat) : List Tok := toks s (s.size - n) n
theorem toks_fuel (s : ByteArray) : ∀ (f g n : Nat), s.size ≤ n + f → s.size ≤ n + g → toks s f n = toks s g n
  | 0, g, n, hf, _ => by rw [toks_end s g n (by omega)]; rfl
  | f + 1, 0, n, _, hg => by rw [toks_end s (f + 1) n (by omega)]; rfl
  | f + 1, g + 1, n, hf, hg => by
    rw [toks, toks]
    split
    · rename_i hn
      split
      · exact toks_fuel s f g (n + 1) (by omega) (by omega)
      · split
        · rfl
        · rename_i hk
          have := (tokenAt_fit s n hn hk).1
          rw [toks_fuel s f g (n + (tokenAt s n).s.size) (by omega) (by omega)]
    · rfl
/-- The tokens that are left begin with the next one. -/
theorem rest_eq (s : ByteArray) : ∀ (f n : Nat), s.size ≤ n + f → n ≤ s.size → rest s n = (if (nextTok s n).k = 0 ∨ (nextTok s n).k = 63 then [nextTok s n] else nextTok s n :: rest s ((nextTok s n).at_ + (nextTok s n).s.size))
  | 0, n, hf, hn => by
    have h0 : n = s.size := by omega
    subst h0
    have : nextTok s s.size = endTok s := by unfold nextTok; rw [skipLen_end s _ (Nat.le_refl _), if_neg (by omega)]
    rw [this, if_pos (.inl rfl)]
    unfold rest
    rw [toks_end s _ _ (Nat.le_refl _)]
  | f + 1, n, hf, hn => by
    by_cases hlt : n < s.size
    · cases hb : blankB (byteAt s n)
      · have hnx : nextTok s n = tokenAt s n := by unfold nextTok; rw [skipLen_no s n hlt hb, Nat.add_zero, if_pos hlt]
        rw [hnx]
        have hat : (tokenAt s n).at_ = n := by
          unfold tokenAt numTok wordTok bad
          repeat' split
          all_goals rfl
        unfold rest
        by_cases hk : (tokenAt s n).k = 63
        · rw [if_pos (.inr hk), toks_bad s _ n hlt (by omega) hb hk]
        · have hfit := tokenAt_fit s n hlt hk
          rw [if_neg (by intro h; rcases h with h | h; exact tokenAt_ne s n h; exact hk h), toks_tok s _ n hlt (by omega) hb hk, hat]
          rw [toks_fuel s (s.size - n - 1) (s.size - (n + (tokenAt s n).s.size)) _ (by omega) (by omega)]
      · have hnx : nextTok s n = nextTok s (n + 1) := by
          unfold nextTok; rw [skipLen_yes s n hlt hb, show n + (skipLen s (n + 1) + 1) = n + 1 + skipLen s (n + 1) by omega]
        have hr : rest s n = rest s (n + 1) := by
          unfold rest; rw [toks_blank s _ n hlt (by omega) hb, show s.size - n - 1 = s.size - (n + 1) by omega]
        rw [hr, hnx]
        exact rest_eq s f (n + 1) (by omega) (by omega)
    · have h0 : n = s.size := by omega
      subst h0
      have : nextTok s s.size = endTok s := by unfold nextTok; rw [skipLen_end s _ (Nat.le_refl _), if_neg (by omega)]
      rw [this, if_pos (.inl rfl)]
      unfold rest
      rw [toks_end s _ _ (Nat.le_refl _)]
/-- The number by which the program tells a token's kind. -/
def kindOf (k : Int) : Int := if k = 0 then 0 else if k = 63 then 1 else if k = 97 then 2 else if k = 118 then 3 else if k = 110 then 4 else if k = 40 then 5 else if k = 41 then 6 else if k = 44 then 7 else if k = 46 then 8 else if k = 33 then 9 else 10
def smallB (c : Int) : Bool := decide (97 ≤ c) && decide (c ≤ 122)
def greatB (c : Int) : Bool := decide (65 ≤ c) && decide (c ≤ 90)
theorem okB_digit (c : Int) : okB true c = digitB c := by
  unfold okB
  cases h : digitB c
  · simp
  · simp [digit_letter c h]
theorem okB_letter (c : Int) : okB false c = letterB c := by unfold okB; simp
def wordK (L : Nat) (K : Int) : Int := if 12 < L then 1 else K
def wordC (L : Nat) : Int := if 12 < L then 3 else 0
def folK (s : ByteArray) (n : Nat) : Int := if n + 1 < s.size ∧ byteAt s (n + 1) = 45 then 10 else 1
def folT (s : ByteArray) (n : Nat) : Int := if n + 1 < s.size ∧ byteAt s (n + 1) = 45 then (n : Int) + 2 else (n : Int) + 1
def folC (s : ByteArray) (n : Nat) : Int := if n + 1 < s.size ∧ byteAt s (n + 1) = 45 then 0 else 2
def numK (L : Nat) : Int := if L = 0 then 1 else if 9 < L then 1 else 4
def numC (L : Nat) : Int := if L = 0 then 2 else if 9 < L then 3 else 0
def markK (c : Int) : Int := if c = 40 then 5 else if c = 41 then 6 else if c = 44 then 7 else if c = 46 then 8 else if c = 33 then 9 else 1
def markC (c : Int) : Int := if markB c = true then 0 else 2
end Rf
/- Plain: what was read has at most four arguments a compound. -/
namespace Rf
def ArgOk (p : Part) : Prop := 0 ≤ p.args ∧ p.args ≤ 4
theorem argsS_arg (rd : List Tok → List ByteArray → Except (Int × Nat) (List Part × List Tok × List ByteArray)) (h : ∀ l ns p l1 ns1, rd l ns = .ok (p, l1, ns1) → ∀ x ∈ p, ArgOk x) :
    ∀ (k : Nat) (acc : List (List Part)) (l : List Tok) (ns : List ByteArray) (a1 : List (List Part)) (l2 : List Tok) (ns2 : List ByteArray),
    (∀ q ∈ acc, ∀ x ∈ q, ArgOk x) → argsS rd k acc l ns = .ok (a1, l2, ns2) → (∀ q ∈ a1, ∀ x ∈ q, ArgOk x) ∧ a1.length ≤ acc.length + k
  | 0, _, _, _, _, _, _, _, e => by simp [argsS] at e
  | k + 1, acc, l, ns, a1, l2, ns2, hacc, e => by
    rw [argsS] at e
    cases hr : rd l ns with
    | error x => rw [hr] at e; cases e
    | ok x =>
      obtain ⟨p, l1, ns1⟩ := x
      have g1 := h l ns p l1 ns1 hr
      rw [hr] at e
      cases l1 with
      | nil => cases e
      | cons u l3 =>
        simp only at e
        have hacc' : ∀ q ∈ acc ++ [p], ∀ x ∈ q, ArgOk x := fun q hq => by
          rcases List.mem_append.1 hq with hq | hq
          · exact hacc q hq
          · simp at hq; subst hq; exact g1
        split at e
        · split at e
          · cases e
          · have := argsS_arg rd h k _ l3 ns1 a1 l2 ns2 hacc' e
            refine ⟨this.1, ?_⟩
            have h2 := this.2
            simp only [List.length_append, List.length_cons, List.length_nil] at h2
            omega
        · split at e
          · simp only [Except.ok.injEq, Prod.mk.injEq] at e
            obtain ⟨rfl, rfl, rfl⟩ := e
            exact ⟨hacc', by simp⟩
          · cases e
theorem termS_arg : ∀ (f : Nat) (l : List Tok) (ns : List ByteArray) (p : List Part) (l1 : List Tok) (ns1 : List ByteArray), termS f l ns = .ok (p, l1, ns1) → ∀ x ∈ p, ArgOk x
  | 0, _, _, _, _, _, e => by simp [termS] at e
  | _ + 1, [], _, _, _, _, e => by simp [termS] at e
  | f + 1, t :: l, ns, p, l1, ns1, e => by
    rw [termS] at e
    split at e
    · unfold varT at e
      split at e
      · cases e
      · simp only [Except.ok.injEq, Prod.mk.injEq] at e; obtain ⟨rfl, _⟩ := e; intro x hx; simp at hx; subst hx; exact ⟨by simp, by simp⟩
    · split at e
      · simp only [Except.ok.injEq, Prod.mk.injEq] at e; obtain ⟨rfl, _⟩ := e; intro x hx; simp at hx; subst hx; exact ⟨by simp, by simp⟩
      · split at e
        · cases l with
          | nil => cases e
          | cons u l' =>
            simp only [nameS] at e
            split at e
            · cases ha : argsS (termS f) 4 [] l' ns with
              | error x => rw [ha] at e; cases e
              | ok x =>
                obtain ⟨as, l2, ns2⟩ := x
                rw [ha] at e
                simp only [Except.ok.injEq, Prod.mk.injEq] at e
                obtain ⟨rfl, _⟩ := e
                have h2 := argsS_arg (termS f) (termS_arg f) 4 [] l' ns as l2 ns2 (fun q hq => by simp at hq) ha
                intro x hx
                rcases List.mem_cons.1 hx with rfl | hx
                · have := h2.2
                  simp only [List.length_nil] at this
                  exact ⟨by show (0 : Int) ≤ (as.length : Int); omega, by show (as.length : Int) ≤ 4; omega⟩
                · obtain ⟨q, hq, hx⟩ := List.mem_flatten.1 hx
                  exact h2.1 q hq x hx
            · simp only [Except.ok.injEq, Prod.mk.injEq] at e; obtain ⟨rfl, _⟩ := e; intro x hx; simp at hx; subst hx; exact ⟨by simp, by simp⟩
        · cases e
theorem goalS_arg {f : Nat} {l : List Tok} {ns : List ByteArray} {p : List Part} {l1 : List Tok} {ns1 : List ByteArray} (e : goalS f l ns = .ok (p, l1, ns1)) : ∀ x ∈ p, ArgOk x := by
  cases l with
  | nil => cases e
  | cons t l =>
    simp only [goalS] at e
    split at e
    · simp only [Except.ok.injEq, Prod.mk.injEq] at e
      obtain ⟨rfl, rfl, rfl⟩ := e
      intro x hx; simp at hx; subst hx; exact ⟨by simp, by simp⟩
    · cases hr : termS f (t :: l) ns with
      | error x => rw [hr] at e; cases e
      | ok x =>
        obtain ⟨p', l', ns'⟩ := x
        rw [hr] at e
        simp only at e
        split at e
        · simp only [Except.ok.injEq, Prod.mk.injEq] at e
          obtain ⟨rfl, rfl, rfl⟩ := e
          exact termS_arg f _ _ _ _ _ hr
        · cases e
theorem goalsS_arg (f : Nat) : ∀ (k : Nat) (acc : List (List Part)) (l : List Tok) (ns : List ByteArray) (a1 : List (List Part)) (l2 : List Tok) (ns2 : List ByteArray),
    (∀ q ∈ acc, ∀ x ∈ q, ArgOk x) → goalsS f k acc l ns = .ok (a1, l2, ns2) → ∀ q ∈ a1, ∀ x ∈ q, ArgOk x
  | 0, _, _, _, _, _, _, _, e => by simp [goalsS] at e
  | k + 1, acc, l, ns, a1, l2, ns2, hacc, e => by
    rw [goalsS] at e
    cases hr : goalS f l ns with
    | error x => rw [hr] at e; cases e
    | ok x =>
      obtain ⟨p, l1, ns1⟩ := x
      have g1 := goalS_arg hr
      rw [hr] at e
      cases l1 with
      | nil => cases e
      | cons u l3 =>
        simp only at e
        have hacc' : ∀ q ∈ acc ++ [p], ∀ x ∈ q, ArgOk x := fun q hq => by
          rcases List.mem_append.1 hq with hq | hq
          · exact hacc q hq
          · simp at hq; subst hq; exact g1
        split at e
        · split at e
          · cases e
          · exact goalsS_arg f k _ l3 ns1 a1 l2 ns2 hacc' e
        · split at e
          · cases e
          · simp only [Except.ok.injEq, Prod.mk.injEq] at e
            obtain ⟨rfl, rfl, rfl⟩ := e
            exact hacc'
def ArgCl (c : Cl) : Prop := (∀ x ∈ c.head, ArgOk x) ∧ (∀ q ∈ c.body, ∀ x ∈ q, ArgOk x)
theorem dotS_arg {c : List Part × List (List Part)} {l : List Tok} {ns : List ByteArray} {cl : Cl} {l1 : List Tok} (h : dotS c l ns = .ok (cl, l1)) (hc : ArgCl ⟨c.1, c.2, 0⟩) : ArgCl cl := by
  cases l with
  | nil => cases h
  | cons u l =>
    simp only [dotS] at h
    split at h
    · simp only [Except.ok.injEq, Prod.mk.injEq] at h; obtain ⟨rfl, rfl⟩ := h; exact hc
    · cases h
theorem clauseS_arg {f : Nat} {l : List Tok} {cl : Cl} {l1 : List Tok} (h : clauseS f l = .ok (cl, l1)) : ArgCl cl := by
  cases l with
  | nil => cases h
  | cons t l =>
    simp only [clauseS] at h
    cases hr : termS f (t :: l) [] with
    | error x => rw [hr] at h; cases h
    | ok x =>
      obtain ⟨p, l2, ns2⟩ := x
      have g1 := termS_arg f _ _ _ _ _ hr
      rw [hr] at h
      simp only at h
      split at h
      · cases l2 with
        | nil => cases h
        | cons u l3 =>
          simp only at h
          split at h
          · cases hg : goalsS f 8 [] l3 ns2 with
            | error x => rw [hg] at h; cases h
            | ok x =>
              obtain ⟨gs, l4, ns3⟩ := x
              rw [hg] at h
              simp only at h
              exact dotS_arg h ⟨g1, goalsS_arg f _ _ _ _ _ _ _ (fun q hq => by simp at hq) hg⟩
          · exact dotS_arg h ⟨g1, fun q hq => by simp at hq⟩
      · cases h
theorem clausesS_arg (f : Nat) : ∀ (k : Nat) (acc : List Cl) (l : List Tok) (out : List Cl), (∀ c ∈ acc, ArgCl c) → clausesS f k acc l = .ok out → ∀ c ∈ out, ArgCl c
  | 0, _, _, _, _, e => by simp [clausesS] at e
  | _ + 1, _, [], _, _, e => by simp [clausesS] at e
  | k + 1, acc, t :: l, out, hacc, e => by
    rw [clausesS] at e
    split at e
    · simp only [Except.ok.injEq] at e; subst e; exact hacc
    · cases hc : clauseS f (t :: l) with
      | error x => rw [hc] at e; cases e
      | ok x =>
        obtain ⟨c, l1⟩ := x
        rw [hc] at e
        exact clausesS_arg f k (acc ++ [c]) l1 out (fun x hx => by
          rcases List.mem_append.1 hx with hx | hx
          · exact hacc x hx
          · simp at hx; subst hx; exact clauseS_arg hc) e
theorem readS_arg {s : ByteArray} {out : List Cl} (h : readS s = .ok out) : ∀ c ∈ out, ArgCl c := by
  unfold readS at h
  split at h
  · cases h
  · exact clausesS_arg _ _ [] _ out (fun c hc => by simp at hc) h
end Rf
