
import Derived.Test.YtbiojnljihgpoaaGreatDoorZab
import Derived.Test.YtbiojnljihgpoaaGreatDoorZaa
namespace Rf
def bs (b : ByteArray) : List UInt8 := b.data.toList
theorem bs_app (a b : ByteArray) : bs (a ++ b) = bs a ++ bs b := by unfold bs; rw [ByteArray.data_append, Array.toList_append]
theorem bs_len (a : ByteArray) : (bs a).length = a.size := by unfold bs; simp
theorem bs_inj {a b : ByteArray} (h : bs a = bs b) : a = b := ext_list h
def textG (wd : Part -> ByteArray) : List Part -> List Nat -> ByteArray
 | [], _ => ⟨#[]⟩
 | p :: ps, st => if 0 < p.args then wd p ++ (⟨#[40]⟩ ++ textG wd ps (p.args.toNat :: st)) else wd p ++ ((closeP st).1 ++ textG wd ps (closeP st).2)
def txtG (wd : Part -> ByteArray) (ps : List Part) : ByteArray := textG wd ps []
theorem textG_P : ∀ (ps : List Part) (st : List Nat), textG wordP ps st = textP ps st
 | [], _ => rfl
 | p :: ps, st => by rw [textG, textP, textG_P ps, textG_P ps]
def joinG (wd : Part -> ByteArray) : List (List Part) -> ByteArray
 | [] => ⟨#[]⟩
 | [q] => txtG wd q ++ ⟨#[41]⟩
 | q :: q' :: qs => txtG wd q ++ (⟨#[44]⟩ ++ joinG wd (q' :: qs))
theorem textG_args (wd : Part -> ByteArray) (d : Nat) (H : ∀ q, Wf d q -> ∀ rest st, textG wd (q ++ rest) st = txtG wd q ++ ((closeP st).1 ++ textG wd rest (closeP st).2)) :
  ∀ (qs : List (List Part)), 1 <= qs.length -> (∀ q ∈ qs, Wf d q) -> ∀ rest st, textG wd (qs.flatten ++ rest) (qs.length :: st) = joinG wd qs ++ ((closeP st).1 ++ textG wd rest (closeP st).2)
 | [], h, _, _, _ => by simp at h
 | [q], _, hq, rest, st => by
  have h1 := H q (hq q (by simp)) rest (1 :: st)
  simp only [List.flatten_cons, List.flatten_nil, List.append_nil, List.length_cons, List.length_nil] at *
  rw [h1, joinG]
  simp only [closeP, Nat.lt_irrefl, if_false]
  simp only [ByteArray.append_assoc]
 | q :: q' :: qs, _, hq, rest, st => by
  have h1 := H q (hq q (by simp)) ((q' :: qs).flatten ++ rest) ((q :: q' :: qs).length :: st)
  have h2 := textG_args wd d H (q' :: qs) (by simp) (fun x hx => hq x (List.mem_cons_of_mem _ hx)) rest st
  rw [List.flatten_cons, List.append_assoc, h1, joinG]
  have hc : closeP ((q :: q' :: qs).length :: st) = (⟨#[44]⟩, (q' :: qs).length :: st) := by
   rw [closeP, if_pos (by simp)]; rfl
  rw [hc]
  simp only [ByteArray.append_assoc]
  rw [h2]
theorem textG_wf (wd : Part -> ByteArray) : ∀ (d : Nat) (ps : List Part), Wf d ps -> ∀ rest st, textG wd (ps ++ rest) st = txtG wd ps ++ ((closeP st).1 ++ textG wd rest (closeP st).2)
 | 0, _, h => h.elim
 | d + 1, ps, h => by
  intro rest st
  rcases h with ⟨p, rfl, h0⟩ | ⟨s, qs, h1, hq, rfl⟩
  ·simp only [txtG, List.singleton_append, textG, h0, Int.lt_irrefl, if_false, closeP, app_emp]
  ·have h2 := textG_args wd d (textG_wf wd d) qs h1 hq
   have h3 := h2 rest st
   have h4 := h2 [] []
   simp only [List.append_nil, closeP, textG, app_emp] at h4
   simp only [txtG, List.cons_append, textG]
   have hp : (0 : Int) < (qs.length : Int) := by omega
   simp only [hp, if_true, Int.toNat_natCast]
   rw [h3, h4]
   simp only [ByteArray.append_assoc]
theorem txtG_comp (wd : Part -> ByteArray) (d : Nat) (s : ByteArray) (qs : List (List Part)) (h1 : 1 <= qs.length) (hq : ∀ q ∈ qs, Wf d q) : txtG wd (⟨3, s, 0, qs.length⟩ :: qs.flatten) = wd ⟨3, s, 0, qs.length⟩ ++ (⟨#[40]⟩ ++ joinG wd qs) := by
 have h4 := textG_args wd d (textG_wf wd d) qs h1 hq [] []
 simp only [List.append_nil, closeP, textG, app_emp] at h4
 simp only [txtG, textG]
 have hp : (0 : Int) < (qs.length : Int) := by omega
 simp only [hp, if_true, Int.toNat_natCast]
 rw [h4]
theorem txtG_one (wd : Part -> ByteArray) (p : Part) (h : p.args = 0) : txtG wd [p] = wd p := by
 simp only [txtG, textG, h, Int.lt_irrefl, if_false, closeP, app_emp]
def NmOk (W : ByteArray) : Prop := ∃ c W', bs W = c :: W' /\ (97 <= (c.toNat : Int) /\ (c.toNat : Int) <= 122) /\ (∀ x ∈ c :: W', letterB x.toNat = true) /\ (c :: W').length <= 12
def VrOk (W : ByteArray) : Prop := (∃ c W', bs W = c :: W' /\ ¬ (97 <= (c.toNat : Int) /\ (c.toNat : Int) <= 122) /\ digitB c.toNat = false /\ (∀ x ∈ c :: W', letterB x.toNat = true) /\ (c :: W').length <= 12) /\ W ≠ under
theorem rest_name {s W : ByteArray} {n : Nat} {r : List UInt8} (hW : NmOk W) (h : Has s n (bs W) r) (hr : Stop letterB r) : rest s n = ⟨97, n, W, 0⟩ :: rest s (n + W.size) := by
 obtain ⟨c, W', e, h1, h2, h3⟩ := hW
 rw [e] at h
 have hd : digitB c.toNat = false := by unfold digitB; simp; omega
 have h9 := rest_word h h2 hd h3 hr
 rw [if_pos h1] at h9
 have hw : (⟨(c :: W').toArray⟩ : ByteArray) = W := bs_inj (by rw [e]; rfl)
 have hl : (c :: W').length = W.size := by rw [<- e, bs_len]
 rw [hw, hl] at h9
 exact h9
theorem rest_var {s W : ByteArray} {n : Nat} {r : List UInt8} (hW : VrOk W) (h : Has s n (bs W) r) (hr : Stop letterB r) : rest s n = ⟨118, n, W, 0⟩ :: rest s (n + W.size) := by
 obtain ⟨⟨c, W', e, h1, hd, h2, h3⟩, _⟩ := hW
 rw [e] at h
 have h9 := rest_word h h2 hd h3 hr
 rw [if_neg h1] at h9
 have hw : (⟨(c :: W').toArray⟩ : ByteArray) = W := bs_inj (by rw [e]; rfl)
 have hl : (c :: W').length = W.size := by rw [<- e, bs_len]
 rw [hw, hl] at h9
 exact h9
def wordN (ν : List ByteArray) (p : Part) : ByteArray := if p.kind = 1 then ν.getD p.value.toNat under else if p.kind = 2 then itoaB p.value else if p.kind = 4 then ⟨#[33]⟩ else p.name
def PartOk (ν : List ByteArray) (p : Part) : Prop :=
 (p.kind = 1 /\ p.name = ⟨#[]⟩ /\ p.args = 0 /\ 0 <= p.value /\ p.value < ν.length) \/ (p.kind = 2 /\ p.name = ⟨#[]⟩ /\ p.args = 0 /\ -999999999 <= p.value /\ p.value <= 999999999) \/ (p.kind = 3 /\ p.value = 0 /\ NmOk p.name /\ 0 <= p.args /\ p.args <= 4)
def stepN (m : Nat) (p : Part) (m' : Nat) : Prop := if p.kind = 1 then (p.value < m /\ m' = m) \/ (p.value = m /\ m' = m + 1) else m' = m
def NumTo : Nat -> List Part -> Nat -> Prop
 | m, [], m' => m' = m
 | m, p :: ps, m' => ∃ m1, stepN m p m1 /\ NumTo m1 ps m'
theorem NumTo.app : ∀ {a b : List Part} {m m' : Nat}, NumTo m (a ++ b) m' ↔ ∃ m1, NumTo m a m1 /\ NumTo m1 b m'
 | [], b, m, m' => by simp [NumTo]
 | p :: a, b, m, m' => by
  rw [List.cons_append]
  constructor
  ·rintro ⟨m1, h1, h2⟩
   obtain ⟨m2, h3, h4⟩ := NumTo.app.1 h2
   exact ⟨m2, ⟨m1, h1, h3⟩, h4⟩
  ·rintro ⟨m2, ⟨m1, h1, h3⟩, h4⟩
   exact ⟨m1, h1, NumTo.app.2 ⟨m2, h3, h4⟩⟩
theorem nodup_at {ν : List ByteArray} (h : ν.Nodup) {i j : Nat} (hi : i < ν.length) (hj : j < ν.length) (hij : i ≠ j) : ν[i] ≠ ν[j] := by
 have h1 := List.pairwise_iff_getElem.1 h
 rcases Nat.lt_or_gt_of_ne hij with h2 | h2
 ·exact h1 i j hi hj h2
 ·exact fun e => h1 j i hj hi h2 e.symm
theorem look_old {ν : List ByteArray} (h : ν.Nodup) {v m : Nat} (hv : v < ν.length) (hm : v < m) (hu : ν[v] ≠ under) : lookS ν[v] (ν.take m) = some v := by
 unfold lookS
 rw [if_neg hu, List.findIdx?_eq_some_iff_getElem]
 refine ⟨by rw [List.length_take]; omega, by simp, fun j hj => ?_⟩
 simp only [List.getElem_take]
 have := nodup_at h (show j < ν.length by omega) hv (by omega)
 simpa using this
theorem look_new {ν : List ByteArray} (h : ν.Nodup) {v : Nat} (hv : v < ν.length) : lookS ν[v] (ν.take v) = none := by
 unfold lookS
 split
 ·rfl
 ·rw [List.findIdx?_eq_none_iff]
  intro x hx
  obtain ⟨j, hj, rfl⟩ := List.getElem_of_mem hx
  rw [List.length_take] at hj
  simp only [List.getElem_take]
  have := nodup_at h (show j < ν.length by omega) hv (by omega)
  simpa using this
theorem rest_cons {s : ByteArray} {n : Nat} (hn : n <= s.size) : ∃ t l, rest s n = t :: l := by
 rw [rest_eq s (s.size - n) n (by omega) hn]
 split
 ·exact ⟨_, _, rfl⟩
 ·exact ⟨_, _, rfl⟩
theorem stop_mark (c : UInt8) (r : List UInt8) (h : markB c.toNat = true) : Stop letterB (c :: r) := by
 intro x r' e
 injection e with e1 e2
 subst e1
 unfold markB at h
 simp at h
 unfold letterB
 simp
 omega
theorem stop_digit {r : List UInt8} (h : Stop letterB r) : Stop digitB r := by
 intro c r' e
 have := h c r' e
 cases hd : digitB c.toNat with
 | false => rfl
 | true => rw [digit_letter _ hd] at this; cases this
structure Names (ν : List ByteArray) : Prop where
 nodup : ν.Nodup
 len : ν.length <= 16
 ok : ∀ W ∈ ν, VrOk W
def TermAtR (ν : List ByteArray) (d : Nat) : Prop := ∀ ps, Wf d ps -> (∀ p ∈ ps, PartOk ν p) -> ∀ s n r m m' f, d <= f -> n <= s.size -> Has s n (bs (txtG (wordN ν) ps)) r -> Stop letterB r -> (∀ t l, rest s (n + (txtG (wordN ν) ps).size) = t :: l -> t.k ≠ 40) -> NumTo m ps m' -> termS f (rest s n) (ν.take m) = .ok (ps, rest s (n + (txtG (wordN ν) ps).size), ν.take m')
theorem parse_args {ν : List ByteArray} {d : Nat} (H : TermAtR ν d) {f : Nat} (hf : d <= f) (s : ByteArray) : ∀ (qs acc : List (List Part)) (k n m m' : Nat) (r : List UInt8), 1 <= qs.length -> acc.length + qs.length <= 4 -> qs.length <= k -> (∀ q ∈ qs, Wf d q) -> (∀ q ∈ qs, ∀ p ∈ q, PartOk ν p) -> n <= s.size -> Has s n (bs (joinG (wordN ν) qs)) r -> NumTo m qs.flatten m' ->
  argsS (termS f) k acc (rest s n) (ν.take m) = .ok (acc ++ qs, rest s (n + (joinG (wordN ν) qs).size), ν.take m')
 | [], _, _, _, _, _, _, h, _, _, _, _, _, _, _ => by simp at h
 | [q], acc, k, n, m, m', r, _, h4, hk, hw, hp, hn, hh, hm => by
  obtain ⟨k, rfl⟩ : ∃ k', k = k' + 1 := ⟨k - 1, by simp at hk; omega⟩
  rw [joinG, bs_app] at hh
  obtain ⟨h1, h2⟩ := hh.app
  rw [bs_len] at h2
  have h3 : Has s (n + (txtG (wordN ν) q).size) [41] r := h2
  obtain ⟨x, hx⟩ := rest_mark h3 (by decide)
  rw [List.flatten_cons, List.flatten_nil, List.append_nil] at hm
  have ht := H q (hw q (by simp)) (hp q (by simp)) s n _ m m' f hf hn h1 (stop_mark 41 r (by decide)) (fun t l e => by rw [hx] at e; injection e with e _; rw [<- e]; show ((41 : UInt8).toNat : Int) ≠ 40; decide) hm
  rw [argsS, ht, hx]
  simp only []
  rw [if_neg (by decide), if_pos (by decide), joinG, ByteArray.size_append]
  rfl
 | q :: q' :: qs, acc, k, n, m, m', r, _, h4, hk, hw, hp, hn, hh, hm => by
  obtain ⟨k, rfl⟩ : ∃ k', k = k' + 1 := ⟨k - 1, by simp at hk; omega⟩
  rw [joinG, bs_app, bs_app] at hh
  obtain ⟨h1, h2⟩ := hh.app
  rw [bs_len] at h2
  obtain ⟨h3, h4'⟩ := h2.app
  have h3' : Has s (n + (txtG (wordN ν) q).size) [44] (bs (joinG (wordN ν) (q' :: qs)) ++ r) := h3
  have h5 : Has s (n + (txtG (wordN ν) q).size + 1) (bs (joinG (wordN ν) (q' :: qs))) r := h4'
  obtain ⟨x, hx⟩ := rest_mark h3' (by decide)
  rw [List.flatten_cons] at hm
  obtain ⟨m1, hm1, hm2⟩ := NumTo.app.1 hm
  have hlt := h3'.lt
  have ht := H q (hw q (by simp)) (hp q (by simp)) s n _ m m1 f hf hn h1 (by
   intro c r' e
   have e2 : (44 :: (bs (joinG (wordN ν) (q' :: qs)) ++ r)) = c :: r' := e
   exact stop_mark 44 _ (by decide) c r' e2) (fun t l e => by rw [hx] at e; injection e with e _; rw [<- e]; show ((44 : UInt8).toNat : Int) ≠ 40; decide) hm1
  have ih := parse_args H hf s (q' :: qs) (acc ++ [q]) k (n + (txtG (wordN ν) q).size + 1) m1 m' r (by simp) (by simp at h4 ⊢; omega) (by simp at hk ⊢; omega) (fun y hy => hw y (List.mem_cons_of_mem _ hy)) (fun y hy => hp y (List.mem_cons_of_mem _ hy)) (by omega) h5 hm2
  rw [argsS, ht, hx]
  simp only []
  rw [if_pos (by decide), if_neg (by simp at h4; omega), ih, joinG, ByteArray.size_append, ByteArray.size_append]
  have e1 : acc ++ [q] ++ q' :: qs = acc ++ q :: q' :: qs := by simp
  have e2 : n + (txtG (wordN ν) q).size + 1 + (joinG (wordN ν) (q' :: qs)).size = n + ((txtG (wordN ν) q).size + ((⟨#[44]⟩ : ByteArray).size + (joinG (wordN ν) (q' :: qs)).size)) := by
   have : (⟨#[44]⟩ : ByteArray).size = 1 := rfl
   omega
  rw [e1, e2]
theorem parse_term {ν : List ByteArray} (hν : Names ν) : ∀ d, TermAtR ν d
 | 0 => fun ps h => h.elim
 | d + 1 => fun ps hw hp s n r m m' f hf hn hh hr hk hm => by
  obtain ⟨f, rfl⟩ : ∃ f', f = f' + 1 := ⟨f - 1, by omega⟩
  rcases hw with ⟨p, rfl, h0⟩ | ⟨nm, qs, h1, hq, rfl⟩
  ·rw [txtG_one _ p h0] at hh hk ⊢
   obtain ⟨m1, hs1, rfl⟩ : ∃ m1, stepN m p m1 /\ m' = m1 := by
    obtain ⟨m1, h1, h2⟩ := hm
    exact ⟨m1, h1, h2⟩
   obtain ⟨pk, pn, pv, pa⟩ := p
   rcases hp _ (List.mem_singleton.2 rfl) with ⟨e1, e2, e3, e4, e5⟩ | ⟨e1, e2, e3, e4, e5⟩ | ⟨e1, e2, e3, e4, e5⟩
   ·simp only at e1 e2 e3 e4 e5
    subst e1; subst e2; subst e3
    obtain ⟨v, rfl⟩ := Int.eq_ofNat_of_zero_le e4
    have hv : v < ν.length := by omega
    have hwd : wordN ν ⟨1, ⟨#[]⟩, (v : Int), 0⟩ = ν[v] := by
     unfold wordN
     simp [hv]
    rw [hwd] at hh hk ⊢
    have hvo := hν.ok ν[v] (List.getElem_mem hv)
    rw [rest_var hvo hh hr, termS, if_pos rfl]
    unfold varT varS
    unfold stepN at hs1
    simp only [if_pos] at hs1
    rcases hs1 with ⟨h1, rfl⟩ | ⟨h1, rfl⟩
    ·rw [look_old hν.nodup hv (by omega) hvo.2]
    ·have hvm : v = m := by omega
     subst hvm
     rw [look_new hν.nodup hv]
     simp only []
     have hl : (ν.take v).length = v := by rw [List.length_take]; omega
     have h16 := hν.len
     rw [if_neg (by rw [hl]; omega), hl, List.take_succ_eq_append_getElem hv]
   ·simp only at e1 e2 e3 e4 e5
    subst e1; subst e2; subst e3
    have hwd : wordN ν ⟨2, ⟨#[]⟩, pv, 0⟩ = itoaB pv := by unfold wordN; rfl
    rw [hwd] at hh hk ⊢
    have hb : bs (itoaB pv) = Go.Lib.itoa pv := by unfold bs itoaB; simp
    have hl : (itoaB pv).size = (Go.Lib.itoa pv).length := by rw [<- bs_len, hb]
    rw [hb] at hh
    unfold stepN at hs1
    rw [if_neg (by show ¬ (2 : Int) = 1; decide)] at hs1
    subst hs1
    rw [rest_itoa pv e4 e5 hh (stop_digit hr), hl, termS, if_neg (by show ¬ (110 : Int) = 118; decide), if_pos rfl, numVal_itoa pv e4 e5]
   ·simp only at e1 e2 e3 e4 e5 h0
    subst e1; subst e2; subst h0
    have hwd : wordN ν ⟨3, pn, 0, 0⟩ = pn := by unfold wordN; rfl
    rw [hwd] at hh hk ⊢
    unfold stepN at hs1
    rw [if_neg (by show ¬ (3 : Int) = 1; decide)] at hs1
    subst hs1
    have hle : n + pn.size <= s.size := by have := hh.len hn; rw [bs_len] at this; omega
    obtain ⟨u, l, hu⟩ := rest_cons hle
    rw [rest_name e3 hh hr, termS, if_neg (by show ¬ (97 : Int) = 118; decide), if_neg (by show ¬ (97 : Int) = 110; decide), if_pos rfl, hu]
    simp only [nameS]
    rw [if_neg (hk u l hu)]
  ·have hwd : wordN ν ⟨3, nm, 0, qs.length⟩ = nm := by unfold wordN; rfl
   rw [txtG_comp _ d nm qs h1 hq, hwd] at hh hk ⊢
   rcases hp _ List.mem_cons_self with ⟨e1, _⟩ | ⟨e1, _⟩ | ⟨e1, e2, e3, e4, e5⟩
   ·cases e1
   ·cases e1
   ·simp only at e3 e4 e5
    rw [bs_app, bs_app] at hh
    obtain ⟨g1, g2⟩ := hh.app
    rw [bs_len] at g2
    obtain ⟨g3, g4⟩ := g2.app
    have g3' : Has s (n + nm.size) [40] (bs (joinG (wordN ν) qs) ++ r) := g3
    have g5 : Has s (n + nm.size + 1) (bs (joinG (wordN ν) qs)) r := g4
    obtain ⟨x, hx⟩ := rest_mark g3' (by decide)
    obtain ⟨m1, hs1, hm1⟩ := hm
    unfold stepN at hs1
    rw [if_neg (by show ¬ (3 : Int) = 1; decide)] at hs1
    subst hs1
    have hlt := g3'.lt
    have ha := parse_args (parse_term hν d) (show d <= f by omega) s qs [] 4 (n + nm.size + 1) _ m' r h1 (by simp; omega) (by omega) hq (fun q hq2 y hy => hp y (List.mem_cons_of_mem _ (List.mem_flatten.2 ⟨q, hq2, hy⟩))) (by omega) g5 hm1
    have hst : Stop letterB (bs (⟨#[40]⟩ : ByteArray) ++ bs (joinG (wordN ν) qs) ++ r) := stop_mark 40 _ (by decide)
    rw [rest_name e3 g1 (by rw [List.append_assoc] at hst ⊢; exact hst), termS, if_neg (by show ¬ (97 : Int) = 118; decide), if_neg (by show ¬ (97 : Int) = 110; decide), if_pos rfl, hx]
    simp only [nameS]
    rw [if_pos (by decide), ha, ByteArray.size_append, ByteArray.size_append]
    have e2 : n + nm.size + 1 + (joinG (wordN ν) qs).size = n + (nm.size + ((⟨#[40]⟩ : ByteArray).size + (joinG (wordN ν) qs).size)) := by
     have : (⟨#[40]⟩ : ByteArray).size = 1 := rfl
     omega
    rw [e2]
    rfl
theorem Wf.mono : ∀ {d d' : Nat} {ps : List Part}, d <= d' -> Wf d ps -> Wf d' ps
 | 0, _, _, _, h => h.elim
 | d + 1, 0, _, hd, _ => by omega
 | d + 1, d' + 1, ps, hd, h => by
  rcases h with h | ⟨s, qs, h1, hq, e⟩
  ·exact .inl h
  ·exact .inr ⟨s, qs, h1, fun q hq' => Wf.mono (by omega) (hq q hq'), e⟩
theorem flatten_mem_len : ∀ {qs : List (List Part)} {q : List Part}, q ∈ qs -> q.length <= qs.flatten.length
 | [], _, h => by cases h
 | x :: qs, q, h => by
  rw [List.flatten_cons, List.length_append]
  rcases List.mem_cons.1 h with rfl | h
  ·omega
  ·have := flatten_mem_len h; omega
theorem Wf.byLen : ∀ {d : Nat} {ps : List Part}, Wf d ps -> Wf ps.length ps
 | 0, _, h => h.elim
 | d + 1, ps, h => by
  rcases h with ⟨p, rfl, h0⟩ | ⟨s, qs, h1, hq, rfl⟩
  ·exact .inl ⟨p, rfl, h0⟩
  ·exact .inr ⟨s, qs, h1, fun q hq' => Wf.mono (flatten_mem_len hq') (Wf.byLen (hq q hq')), rfl⟩
theorem parse_termF {ν : List ByteArray} (hν : Names ν) {d : Nat} {ps : List Part} (hw : Wf d ps) (hp : ∀ p ∈ ps, PartOk ν p) {s : ByteArray} {n m m' f : Nat} {r : List UInt8} (hf : (rest s n).length <= f) (hn : n <= s.size) (hh : Has s n (bs (txtG (wordN ν) ps)) r) (hr : Stop letterB r) (hk : ∀ t l, rest s (n + (txtG (wordN ν) ps).size) = t :: l -> t.k ≠ 40) (hm : NumTo m ps m') :
  termS f (rest s n) (ν.take m) = .ok (ps, rest s (n + (txtG (wordN ν) ps).size), ν.take m') := by
 have h1 := parse_term hν d ps hw hp s n r m m' d (Nat.le_refl _) hn hh hr hk hm
 have h2 : ps.length + (rest s (n + (txtG (wordN ν) ps).size)).length <= (rest s n).length := (termS_good d _ _ _ _ _ (toks_ended s _ _) (by rw [List.length_take]; have := hν.len; omega) h1).2.2.1
 exact parse_term hν ps.length ps hw.byLen hp s n r m m' f (by omega) hn hh hr hk hm
def cutG : List Part := [⟨4, ⟨#[]⟩, 0, 0⟩]
def GoalOk (ν : List ByteArray) (g : List Part) : Prop := g = cutG \/ ((∃ d, Wf d g) /\ (∀ p ∈ g, PartOk ν p) /\ (g.head?.map (·.kind)) = some 3)
theorem head_name {ν : List ByteArray} {d : Nat} {g : List Part} (hw : Wf d g) (h3 : (g.head?.map (·.kind)) = some 3) (hp : ∀ p ∈ g, PartOk ν p) : ∃ nm b, NmOk nm /\ bs (txtG (wordN ν) g) = bs nm ++ b /\ (b = [] \/ ∃ b', b = 40 :: b') := by
 cases d with
 | zero => exact hw.elim
 | succ d =>
  rcases hw with ⟨p, rfl, h0⟩ | ⟨nm, qs, h1, hq, rfl⟩
  ·simp at h3
   rcases hp p (List.mem_singleton.2 rfl) with ⟨e1, _⟩ | ⟨e1, _⟩ | ⟨e1, e2, e3, e4, e5⟩
   ·rw [e1] at h3; cases h3
   ·rw [e1] at h3; cases h3
   ·refine ⟨p.name, [], e3, ?_, .inl rfl⟩
    rw [txtG_one _ p h0, List.append_nil]
    unfold wordN
    rw [if_neg (by rw [e1]; decide), if_neg (by rw [e1]; decide), if_neg (by rw [e1]; decide)]
  ·rcases hp _ List.mem_cons_self with ⟨e1, _⟩ | ⟨e1, _⟩ | ⟨e1, e2, e3, e4, e5⟩
   ·cases e1
   ·cases e1
   ·refine ⟨nm, 40 :: bs (joinG (wordN ν) qs), e3, ?_, .inr ⟨_, rfl⟩⟩
    rw [txtG_comp _ d nm qs h1 hq, bs_app, bs_app]
    rfl
theorem parse_goal {ν : List ByteArray} (hν : Names ν) {g : List Part} (hg : GoalOk ν g) {s : ByteArray} {n m m' f : Nat} {r : List UInt8} (hf : (rest s n).length <= f) (hn : n <= s.size) (hh : Has s n (bs (txtG (wordN ν) g)) r) (hr : Stop letterB r) (hk : ∀ t l, rest s (n + (txtG (wordN ν) g).size) = t :: l -> t.k ≠ 40) (hm : NumTo m g m') :
  goalS f (rest s n) (ν.take m) = .ok (g, rest s (n + (txtG (wordN ν) g).size), ν.take m') := by
 rcases hg with rfl | ⟨⟨d, hw⟩, hp, h3⟩
 ·have hx : txtG (wordN ν) cutG = ⟨#[33]⟩ := by unfold cutG; rw [txtG_one _ _ rfl]; rfl
  rw [hx] at hh ⊢
  have hh' : Has s n [33] r := hh
  obtain ⟨x, e⟩ := rest_mark hh' (by decide)
  obtain ⟨m1, hs1, rfl⟩ : ∃ m1, stepN m ⟨4, ⟨#[]⟩, 0, 0⟩ m1 /\ m' = m1 := by
   obtain ⟨m1, h1, h2⟩ := hm
   exact ⟨m1, h1, h2⟩
  unfold stepN at hs1
  rw [if_neg (by show ¬ (4 : Int) = 1; decide)] at hs1
  subst hs1
  rw [e]
  simp only [goalS]
  rw [if_pos (by decide)]
  rfl
 ·have ht := parse_termF hν hw hp hf hn hh hr hk hm
  obtain ⟨nm, b, hnm, hb, hb2⟩ := head_name hw h3 hp
  rw [hb] at hh
  obtain ⟨h1, _⟩ := hh.app
  have hst : Stop letterB (b ++ r) := by
   rcases hb2 with rfl | ⟨b', rfl⟩
   ·exact hr
   ·exact stop_mark 40 _ (by decide)
  have e := rest_name hnm h1 hst
  rw [e] at ht ⊢
  simp only [goalS]
  rw [if_neg (by show ¬ (97 : Int) = 33; decide), ht]
  simp only []
  rw [if_pos h3]
def goalsT (wd : Part -> ByteArray) : List (List Part) -> ByteArray
 | [] => ⟨#[]⟩
 | [g] => txtG wd g
 | g :: g' :: gs => txtG wd g ++ (⟨#[44]⟩ ++ goalsT wd (g' :: gs))
theorem parse_goals {ν : List ByteArray} (hν : Names ν) {f : Nat} (s : ByteArray) (c : UInt8) (hc : markB c.toNat = true) (hc44 : (c.toNat : Int) ≠ 44) (hc40 : (c.toNat : Int) ≠ 40) : ∀ (gs acc : List (List Part)) (k n m m' : Nat) (r : List UInt8), 1 <= gs.length -> acc.length + gs.length <= 8 -> gs.length <= k -> (∀ g ∈ gs, GoalOk ν g) -> n <= s.size -> (rest s n).length <= f -> Has s n (bs (goalsT (wordN ν) gs)) (c :: r) -> NumTo m gs.flatten m' ->
  goalsS f k acc (rest s n) (ν.take m) = .ok (acc ++ gs, rest s (n + (goalsT (wordN ν) gs).size), ν.take m')
 | [], _, _, _, _, _, _, h, _, _, _, _, _, _, _ => by simp at h
 | [g], acc, k, n, m, m', r, _, h8, hk, hg, hn, hf, hh, hm => by
  obtain ⟨k, rfl⟩ : ∃ k', k = k' + 1 := ⟨k - 1, by simp at hk; omega⟩
  rw [goalsT] at hh ⊢
  have h2 : Has s (n + (bs (txtG (wordN ν) g)).length) [c] r := Has.join (a := bs (txtG (wordN ν) g)) (b := [c]) hh
  rw [bs_len] at h2
  obtain ⟨x, hx⟩ := rest_mark h2 hc
  rw [List.flatten_cons, List.flatten_nil, List.append_nil] at hm
  have ht := parse_goal hν (hg g (by simp)) hf hn hh (stop_mark c r hc) (fun t l e => by rw [hx] at e; injection e with e _; rw [<- e]; exact hc40) hm
  rw [goalsS, ht, hx]
  simp only []
  have h63 : (c.toNat : Int) ≠ 63 := by unfold markB at hc; simp at hc; omega
  rw [if_neg hc44, if_neg h63]
 | g :: g' :: gs, acc, k, n, m, m', r, _, h8, hk, hg, hn, hf, hh, hm => by
  obtain ⟨k, rfl⟩ : ∃ k', k = k' + 1 := ⟨k - 1, by simp at hk; omega⟩
  rw [goalsT, bs_app, bs_app] at hh
  obtain ⟨h1, h2⟩ := hh.app
  rw [bs_len] at h2
  obtain ⟨h3, h4'⟩ := h2.app
  have h3' : Has s (n + (txtG (wordN ν) g).size) [44] (bs (goalsT (wordN ν) (g' :: gs)) ++ c :: r) := h3
  have h5 : Has s (n + (txtG (wordN ν) g).size + 1) (bs (goalsT (wordN ν) (g' :: gs))) (c :: r) := h4'
  obtain ⟨x, hx⟩ := rest_mark h3' (by decide)
  rw [List.flatten_cons] at hm
  obtain ⟨m1, hm1, hm2⟩ := NumTo.app.1 hm
  have hlt := h3'.lt
  have ht := parse_goal hν (hg g (by simp)) hf hn h1 (by
   intro c' r' e
   have e2 : (44 :: (bs (goalsT (wordN ν) (g' :: gs)) ++ c :: r)) = c' :: r' := e
   exact stop_mark 44 _ (by decide) c' r' e2) (fun t l e => by rw [hx] at e; injection e with e _; rw [<- e]; show ((44 : UInt8).toNat : Int) ≠ 40; decide) hm1
  have hlen := goalS_len' ht
  rw [hx] at hlen
  simp only [List.length_cons] at hlen
  have ih := parse_goals hν (f := f) s c hc hc44 hc40 (g' :: gs) (acc ++ [g]) k (n + (txtG (wordN ν) g).size + 1) m1 m' r (by simp) (by simp at h8 ⊢; omega) (by simp at hk ⊢; omega) (fun y hy => hg y (List.mem_cons_of_mem _ hy)) (by omega) (by omega) h5 hm2
  rw [goalsS, ht, hx]
  simp only []
  rw [if_pos (by decide), if_neg (by simp at h8; omega), ih, goalsT, ByteArray.size_append, ByteArray.size_append]
  have e1 : acc ++ [g] ++ g' :: gs = acc ++ g :: g' :: gs := by simp
  have e2 : n + (txtG (wordN ν) g).size + 1 + (goalsT (wordN ν) (g' :: gs)).size = n + ((txtG (wordN ν) g).size + ((⟨#[44]⟩ : ByteArray).size + (goalsT (wordN ν) (g' :: gs)).size)) := by
   have : (⟨#[44]⟩ : ByteArray).size = 1 := rfl
   omega
  rw [e1, e2]
def bodyT (wd : Part -> ByteArray) (b : List (List Part)) : ByteArray := if b = [] then ⟨#[]⟩ else ⟨#[58, 45]⟩ ++ goalsT wd b
def lineN (ν : List ByteArray) (c : Cl) : ByteArray := txtG (wordN ν) c.head ++ (bodyT (wordN ν) c.body ++ ⟨#[46]⟩)
structure ClOkN (ν : List ByteArray) (c : Cl) : Prop where
 names : Names ν
 hw : ∃ d, Wf d c.head
 hp : ∀ p ∈ c.head, PartOk ν p
 hb : headB c.head = true
 bg : ∀ g ∈ c.body, GoalOk ν g
 bl : c.body.length <= 8
 num : NumTo 0 (c.head ++ c.body.flatten) c.vars
 vars : c.vars <= ν.length
theorem Has.sub {s : ByteArray} {n : Nat} {a b r : List UInt8} (h : Has s n (a ++ b) r) : Has s (n + a.length) b r := h.app.2
theorem parse_clause {ν : List ByteArray} {c : Cl} (h : ClOkN ν c) {s : ByteArray} {n f : Nat} {r : List UInt8} (hf : (rest s n).length <= f) (hn : n <= s.size) (hh : Has s n (bs (lineN ν c)) r) : clauseS f (rest s n) = .ok (c, rest s (n + (lineN ν c).size)) := by
 obtain ⟨hd, body, vars⟩ := c
 obtain ⟨hν, ⟨d, hw⟩, hp, hb, hbg, hbl, hnum, hvl⟩ := h
 simp only at hw hp hb hbg hbl hnum hvl
 obtain ⟨m1, hm1, hm2⟩ := NumTo.app.1 hnum
 unfold lineN at hh ⊢
 simp only at hh ⊢
 rw [bs_app] at hh
 obtain ⟨h1, h2⟩ := hh.app
 rw [bs_len] at h2
 have h3 : (hd.head?.map (·.kind)) = some 3 := by
  unfold headB at hb
  cases hd with
  | nil => simp at hb
  | cons p ps => simp at hb; simp [hb.1]
 obtain ⟨nm, b, hnm, hbb, hb2⟩ := head_name hw h3 hp
 have hvt : (ν.take vars).length = vars := by rw [List.length_take]; omega
 have hdot : ∀ (k : Nat) (r' : List UInt8), Has s k [46] r' -> ∀ (c : List Part × List (List Part)), dotS c (rest s k) (ν.take vars) = .ok (⟨c.1, c.2, vars⟩, rest s (k + 1)) := by
  intro k r' hk c
  obtain ⟨x, hx⟩ := rest_mark hk (by decide)
  rw [hx]
  simp only [dotS]
  rw [if_pos (by decide), hvt]
 by_cases hb0 : body = []
 ·subst hb0
  have e0 : bodyT (wordN ν) [] = ⟨#[]⟩ := by unfold bodyT; rw [if_pos rfl]
  rw [e0] at h1 h2 hh ⊢
  rw [emp_app] at h1 h2 ⊢
  have h2' : Has s (n + (txtG (wordN ν) hd).size) [46] r := h2
  obtain ⟨x, hx⟩ := rest_mark h2' (by decide)
  rw [List.flatten_nil] at hm2
  have hm2' : vars = m1 := hm2
  subst hm2'
  have ht := parse_termF hν (m := 0) hw hp hf hn h1 (stop_mark 46 r (by decide)) (fun t l e => by rw [hx] at e; injection e with e _; rw [<- e]; show ((46 : UInt8).toNat : Int) ≠ 40; decide) hm1
  have hd1 := hdot _ r h2' (hd, [])
  obtain ⟨t, l, hrl⟩ := rest_cons hn
  rw [List.take_zero] at ht
  have hfin : clauseS f (rest s n) = dotS (hd, []) (rest s (n + (txtG (wordN ν) hd).size)) (ν.take vars) := by
   rw [hrl] at ht ⊢
   simp only [clauseS]
   rw [ht]
   simp only []
   rw [if_pos hb, hx]
   simp only []
   rw [if_neg (by decide)]
  rw [hfin, hd1, ByteArray.size_append]
  rfl
 ·have e0 : bodyT (wordN ν) body = ⟨#[58, 45]⟩ ++ goalsT (wordN ν) body := by unfold bodyT; rw [if_neg hb0]
  rw [e0] at h1 h2 hh ⊢
  rw [bs_app, bs_app] at h1 h2
  have h2' : Has s (n + (txtG (wordN ν) hd).size) (58 :: 45 :: (bs (goalsT (wordN ν) body) ++ [46])) r := by
   have h9 := h2
   rw [List.append_assoc] at h9
   exact h9
  obtain ⟨x, hx⟩ := rest_impl h2'
  have h5 : Has s (n + (txtG (wordN ν) hd).size + 2) (bs (goalsT (wordN ν) body) ++ [46]) r := by
   have h9 : Has s (n + (txtG (wordN ν) hd).size) ([58, 45] ++ (bs (goalsT (wordN ν) body) ++ [46])) r := h2'
   exact h9.sub
  obtain ⟨h6, h7⟩ := h5.app
  rw [bs_len] at h7
  have hle : n + (txtG (wordN ν) hd).size + 2 <= s.size := by
   have h9 : Has s (n + (txtG (wordN ν) hd).size) ([58] ++ (45 :: (bs (goalsT (wordN ν) body) ++ [46]))) r := h2'
   have := h9.sub.lt
   simp at this
   omega
  have ht := parse_termF hν (m := 0) hw hp hf hn h1 (by
   intro c' r' e
   have e2 : (58 :: 45 :: (bs (goalsT (wordN ν) body) ++ [46] ++ r)) = c' :: r' := by rw [<- e]; simp [bs]
   injection e2 with e3 _
   subst e3
   decide) (fun t l e => by rw [hx] at e; injection e with e _; rw [<- e]; show (58 : Int) ≠ 40; decide) hm1
  have hlen := termS_len f _ _ _ _ _ ht
  rw [hx] at hlen
  simp only [List.length_cons] at hlen
  have hg := parse_goals hν (f := f) s 46 (by decide) (by decide) (by decide) body [] 8 _ m1 vars r (by cases body with | nil => exact absurd rfl hb0 | cons => simp) (by simpa using hbl) hbl hbg hle (by omega) h6 hm2
  have hd1 := hdot _ r h7 (hd, body)
  obtain ⟨t, l, hrl⟩ := rest_cons hn
  rw [List.take_zero] at ht
  have hfin : clauseS f (rest s n) = dotS (hd, body) (rest s (n + (txtG (wordN ν) hd).size + 2 + (goalsT (wordN ν) body).size)) (ν.take vars) := by
   rw [hrl] at ht ⊢
   simp only [clauseS]
   rw [ht]
   simp only []
   rw [if_pos hb, hx]
   simp only []
   rw [if_pos (by decide), hg]
   rfl
  rw [hfin, hd1, ByteArray.size_append, ByteArray.size_append, ByteArray.size_append]
  have e9 : n + (txtG (wordN ν) hd).size + 2 + (goalsT (wordN ν) body).size + 1 = n + ((txtG (wordN ν) hd).size + ((⟨#[58, 45]⟩ : ByteArray).size + (goalsT (wordN ν) body).size + (⟨#[46]⟩ : ByteArray).size)) := by
   have a1 : (⟨#[58, 45]⟩ : ByteArray).size = 2 := rfl
   have a2 : (⟨#[46]⟩ : ByteArray).size = 1 := rfl
   omega
  rw [e9]
def textsN : List (List ByteArray × Cl) -> ByteArray
 | [] => ⟨#[]⟩
 | x :: l => lineN x.1 x.2 ++ textsN l
theorem clause_first {ν : List ByteArray} {c : Cl} (h : ClOkN ν c) {s : ByteArray} {n : Nat} {r : List UInt8} (hh : Has s n (bs (lineN ν c)) r) : ∃ t l, rest s n = t :: l /\ t.k ≠ 0 := by
 obtain ⟨d, hw⟩ := h.hw
 have h3 : (c.head.head?.map (·.kind)) = some 3 := by
  have hb := h.hb
  unfold headB at hb
  cases hd : c.head with
  | nil => rw [hd] at hb; simp at hb
  | cons p ps => rw [hd] at hb; simp at hb; simp [hb.1]
 obtain ⟨nm, b, hnm, hbb, hb2⟩ := head_name hw h3 h.hp
 unfold lineN at hh
 rw [bs_app, hbb, List.append_assoc] at hh
 obtain ⟨h1, _⟩ := hh.app
 have hst : Stop letterB (b ++ bs (bodyT (wordN ν) c.body ++ ⟨#[46]⟩) ++ r) := by
  rcases hb2 with rfl | ⟨b', rfl⟩
  ·unfold bodyT
   split
   ·exact stop_mark 46 _ (by decide)
   ·intro x r' e
    rw [bs_app, bs_app] at e
    have e2 : (58 :: (45 :: (bs (goalsT (wordN ν) c.body) ++ bs ⟨#[46]⟩ ++ r))) = x :: r' := by rw [<- e]; simp [bs]
    injection e2 with e3 _
    subst e3
    decide
  ·exact stop_mark 40 _ (by decide)
 exact ⟨_, _, rest_name hnm h1 hst, by show (97 : Int) ≠ 0; decide⟩
theorem parse_clauses {f : Nat} (s : ByteArray) : ∀ (L : List (List ByteArray × Cl)) (acc : List Cl) (k n : Nat), (∀ x ∈ L, ClOkN x.1 x.2) -> n <= s.size -> (rest s n).length <= f -> (rest s n).length <= k -> Has s n (bs (textsN L)) [] -> clausesS f k acc (rest s n) = .ok (acc ++ L.map (·.2))
 | [], acc, k, n, _, hn, _, hk, hh => by
  have hl := hh.len hn
  have hn' : n = s.size := by have : (bs (textsN [])).length = 0 := rfl; simp [this] at hl; omega
  subst hn'
  rw [rest_end] at hk ⊢
  obtain ⟨k, rfl⟩ : ∃ k', k = k' + 1 := ⟨k - 1, by simp at hk; omega⟩
  rw [clausesS, if_pos (show (endTok s).k = 0 from rfl)]
  simp
 | (ν, c) :: L, acc, k, n, hL, hn, hf, hk, hh => by
  have hh' : Has s n (bs (lineN ν c ++ textsN L)) [] := hh
  rw [bs_app] at hh'
  obtain ⟨h1, h2⟩ := hh'.app
  rw [bs_len] at h2
  have hc : ClOkN ν c := hL (ν, c) (by simp)
  have hcl := parse_clause hc hf hn h1
  obtain ⟨t, l, e, h0⟩ := clause_first hc h1
  have hle : n + (lineN ν c).size <= s.size := by have := h1.len hn; rw [bs_len] at this; omega
  have hlen := clauseS_len hcl
  have hlen' : (rest s (n + (lineN ν c).size)).length < (rest s n).length := hlen
  have ih := parse_clauses (f := f) s L (acc ++ [c]) (k - 1) (n + (lineN ν c).size) (fun y hy => hL y (List.mem_cons_of_mem _ hy)) hle (by omega) (by omega) h2
  obtain ⟨k, rfl⟩ : ∃ k', k = k' + 1 := ⟨k - 1, by rw [e] at hk; simp at hk; omega⟩
  rw [e] at hcl ⊢
  rw [clausesS, if_neg h0, hcl]
  simp only []
  rw [show k + 1 - 1 = k by omega] at ih
  rw [ih]
  simp
theorem read_texts (L : List (List ByteArray × Cl)) (hL : ∀ x ∈ L, ClOkN x.1 x.2) (hs : (textsN L).size <= 400) : readS (textsN L) = .ok (L.map (·.2)) := by
 unfold readS
 rw [if_neg (by omega)]
 have h0 : tokens (textsN L) = rest (textsN L) 0 := rfl
 rw [h0]
 have := parse_clauses (f := (rest (textsN L) 0).length) (textsN L) L [] ((rest (textsN L) 0).length + 1) 0 hL (by omega) (Nat.le_refl _) (by omega) (by unfold Has bs; simp)
 simpa using this
def samePart (p q : Part) : Bool := p.kind == q.kind && decide (p.name = q.name) && p.value == q.value && p.args == q.args
theorem samePart_iff {p q : Part} : samePart p q = true ↔ p = q := by
 unfold samePart
 cases p; cases q
 simp [and_assoc]
def isV (v : Int) (p : Part) : Bool := p.kind == 1 && p.value == v
def countV (v : Int) : List Part -> Nat
 | [] => 0
 | p :: t => countV v t + (if isV v p = true then 1 else 0)
def putV (v : Int) (x : List Part) : List Part -> List Part
 | [] => []
 | p :: t => (if isV v p = true then x else [p]) ++ putV v x t
def leadN : Int -> List Part -> Nat
 | _, [] => 0
 | m, p :: t => if m + (p.args - 1) = 0 then 1 else leadN (m + (p.args - 1)) t + 1
def leadT (t : List Part) : Nat := leadN 1 t
def sizeT : List (List Part) -> Nat
 | [] => 0
 | t :: ts => t.length + sizeT ts
structure Eqn where
 f : List Part
 s : List Part
 body : List (List Part)
 behind : List (List Part)
 terms : List (List Part)
def Eqn.size (e : Eqn) : Nat := e.f.length + e.s.length + sizeT e.body + sizeT e.behind + sizeT e.terms
def Eqn.put (e : Eqn) (v : Int) (x : List Part) : Eqn := ⟨putV v x e.f, putV v x e.s, e.body.map (putV v x), e.behind.map (putV v x), e.terms.map (putV v x)⟩
def putE (e : Eqn) (v : Int) (x : List Part) : Int × Eqn :=
 if 0 < countV v x then (8, e) else if 200 < (e.put v x).size then (7, e) else (0, e.put v x)
def stepE (e : Eqn) : Int × Eqn :=
 match e.f, e.s with
 | p :: f, q :: s =>
  if samePart p q = true then (0, { e with f := f, s := s })
  else if p.kind = 1 then putE { e with f := f, s := (q :: s).drop (leadT (q :: s)) } p.value ((q :: s).take (leadT (q :: s)))
  else if q.kind = 1 then putE { e with f := (p :: f).drop (leadT (p :: f)), s := s } q.value ((p :: f).take (leadT (p :: f)))
  else (-1, e)
 | _, _ => (0, e)
def doneE (e : Eqn) : Bool := e.f.isEmpty || e.s.isEmpty
def solveN : Nat -> Eqn -> Int × Eqn
 | 0, e => (0, e)
 | n + 1, e => if doneE e = true then (0, e) else if (stepE e).1 = 0 then solveN n (stepE e).2 else stepE e
def haltN : Nat -> Eqn -> Bool
 | 0, _ => false
 | n + 1, e => if doneE e = true then true else if (stepE e).1 = 0 then haltN n (stepE e).2 else true
theorem solveN_more : ∀ (n : Nat) (e : Eqn), haltN n e = true -> ∀ m, n <= m -> solveN m e = solveN n e /\ haltN m e = true
 | 0, _, h, _, _ => by simp [haltN] at h
 | n + 1, e, h, m, hm => by
  obtain ⟨m, rfl⟩ : ∃ k, m = k + 1 := ⟨m - 1, by omega⟩
  rw [haltN] at h
  rw [solveN, solveN, haltN]
  split
  ·exact ⟨rfl, rfl⟩
  ·rename_i h1
   rw [if_neg h1] at h
   split
   ·rename_i h2
    rw [if_pos h2] at h
    exact solveN_more n _ h m (by omega)
   ·exact ⟨rfl, rfl⟩
theorem countV_zero {v : Int} : ∀ {t : List Part}, countV v t = 0 -> ∀ p ∈ t, isV v p = false
 | [], _, _, h => by cases h
 | q :: t, h, p, hp => by
  rw [countV] at h
  rcases List.mem_cons.1 hp with rfl | hp
  ·cases hq : isV v p with
   | false => rfl
   | true => rw [hq] at h; simp at h
  ·exact countV_zero (by omega) p hp
theorem putV_mem {v : Int} {x : List Part} : ∀ {t : List Part} {p : Part}, p ∈ putV v x t -> (p ∈ t /\ isV v p = false) \/ p ∈ x
 | [], _, h => by simp [putV] at h
 | q :: t, p, h => by
  rw [putV] at h
  rcases List.mem_append.1 h with h | h
  ·split at h
   ·exact .inr h
   ·rename_i hq
    simp at h; subst h
    exact .inl ⟨by simp, by simpa using hq⟩
  ·rcases putV_mem h with ⟨h1, h2⟩ | h1
   ·exact .inl ⟨List.mem_cons_of_mem _ h1, h2⟩
   ·exact .inr h1
def VarsIn (L : List Int) (e : Eqn) : Prop := ∀ p, p ∈ e.f \/ p ∈ e.s -> p.kind = 1 -> p.value ∈ L
theorem putE_ok {e : Eqn} {v : Int} {x : List Part} (h : (putE e v x).1 = 0) : countV v x = 0 /\ (putE e v x).2 = e.put v x /\ (e.put v x).size <= 200 := by
 unfold putE at *
 split at h
 ·simp at h
 ·split at h
  ·simp at h
  ·rename_i h1 h2
   rw [if_neg h1, if_neg h2]
   exact ⟨by omega, rfl, by omega⟩
theorem mem_take {p : Part} {n : Nat} {t : List Part} (h : p ∈ t.take n) : p ∈ t := List.mem_of_mem_take h
theorem putE_vars {e : Eqn} {v : Int} {x : List Part} {L : List Int} (h : (putE e v x).1 = 0) (hL : VarsIn L e) (hx : ∀ p ∈ x, p.kind = 1 -> p.value ∈ L) : VarsIn (L.filter (fun u => u != v)) (putE e v x).2 := by
 obtain ⟨h0, h1, _⟩ := putE_ok h
 rw [h1]
 have key : ∀ t p, p ∈ putV v x t -> (∀ q ∈ t, q.kind = 1 -> q.value ∈ L) -> p.kind = 1 -> p.value ∈ L.filter (fun u => u != v) := by
  intro t p hp ht hk
  rw [List.mem_filter]
  rcases putV_mem hp with ⟨h2, h3⟩ | h2
  ·refine ⟨ht p h2 hk, ?_⟩
   unfold isV at h3
   rw [hk] at h3
   simpa using h3
  ·refine ⟨hx p h2 hk, ?_⟩
   have h3 := countV_zero h0 p h2
   unfold isV at h3
   rw [hk] at h3
   simpa using h3
 intro p hp hk
 rcases hp with hp | hp
 ·exact key e.f p hp (fun q hq => hL q (.inl hq)) hk
 ·exact key e.s p hp (fun q hq => hL q (.inr hq)) hk
theorem filter_shorter {v : Int} : ∀ {L : List Int}, v ∈ L -> (L.filter (fun u => u != v)).length < L.length
 | [], h => by cases h
 | u :: L, h => by
  by_cases hu : u = v
  ·subst hu
   rw [List.filter_cons_of_neg (by simp)]
   have := List.length_filter_le (fun x => x != u) L
   simp only [List.length_cons]; omega
  ·have h' : v ∈ L := by
    rcases List.mem_cons.1 h with rfl | h
    ·exact absurd rfl hu
    ·exact h
   have := filter_shorter h'
   rw [List.filter_cons_of_pos (by simpa using hu)]
   simp only [List.length_cons]; omega
theorem haltN_ex : ∀ (n : Nat) (L : List Int) (e : Eqn), VarsIn L e -> L.length * 201 + e.f.length < n -> haltN n e = true
 | 0, _, _, _, h => by omega
 | n + 1, L, e, hL, h => by
  rw [haltN]
  split
  ·rfl
  ·rename_i hd
   split
   ·rename_i h0
    obtain ⟨F, S, bo, be, te⟩ := e
    cases F with
    | nil => simp [doneE] at hd
    | cons p f =>
    cases S with
    | nil => simp [doneE] at hd
    | cons q s =>
    by_cases hpq : samePart p q = true
    ·have hs : stepE ⟨p :: f, q :: s, bo, be, te⟩ = (0, ⟨f, s, bo, be, te⟩) := by simp only [stepE]; rw [if_pos hpq]
     rw [hs]
     refine haltN_ex n L _ (fun x hx hk => ?_) ?_
     ·exact hL x (hx.imp (List.mem_cons_of_mem _) (List.mem_cons_of_mem _)) hk
     ·simp only [List.length_cons] at h; simp only []; omega
    ·have go : ∀ (e1 : Eqn) (v : Int) (x : List Part), (putE e1 v x).1 = 0 -> VarsIn L e1 -> (∀ p ∈ x, p.kind = 1 -> p.value ∈ L) -> v ∈ L -> haltN n (putE e1 v x).2 = true := by
      intro e1 v x h1 h2 h3 h4
      have h5 := filter_shorter h4
      obtain ⟨_, h6, h7⟩ := putE_ok h1
      refine haltN_ex n _ _ (putE_vars h1 h2 h3) ?_
      have : (putE e1 v x).2.f.length <= 200 := by rw [h6]; unfold Eqn.size at h7; omega
      omega
     by_cases hp : p.kind = 1
     ·have hs : stepE ⟨p :: f, q :: s, bo, be, te⟩ = putE ⟨f, (q :: s).drop (leadT (q :: s)), bo, be, te⟩ p.value ((q :: s).take (leadT (q :: s))) := by
       simp only [stepE]; rw [if_neg hpq, if_pos hp]
      rw [hs] at h0 ⊢
      refine go _ _ _ h0 (fun x hx hk => ?_) (fun x hx hk => hL x (.inr (mem_take hx)) hk) (hL p (.inl (by simp)) hp)
      exact hL x (hx.imp (List.mem_cons_of_mem _) List.mem_of_mem_drop) hk
     ·by_cases hq : q.kind = 1
      ·have hs : stepE ⟨p :: f, q :: s, bo, be, te⟩ = putE ⟨(p :: f).drop (leadT (p :: f)), s, bo, be, te⟩ q.value ((p :: f).take (leadT (p :: f))) := by
        simp only [stepE]; rw [if_neg hpq, if_neg hp, if_pos hq]
       rw [hs] at h0 ⊢
       refine go _ _ _ h0 (fun x hx hk => ?_) (fun x hx hk => hL x (.inl (mem_take hx)) hk) (hL q (.inr (by simp)) hq)
       exact hL x (hx.imp List.mem_of_mem_drop (List.mem_cons_of_mem _)) hk
      ·have hs : stepE ⟨p :: f, q :: s, bo, be, te⟩ = (-1, ⟨p :: f, q :: s, bo, be, te⟩) := by
        simp only [stepE]; rw [if_neg hpq, if_neg hp, if_neg hq]
       rw [hs] at h0; simp at h0
   ·rfl
def fuelE (e : Eqn) : Nat := (e.f.length + e.s.length) * 201 + e.f.length + 1
def solveE (e : Eqn) : Int × Eqn := solveN (fuelE e) e
theorem haltE (e : Eqn) : haltN (fuelE e) e = true := by
 refine haltN_ex _ ((e.f ++ e.s).map (fun p => p.value)) e (fun p hp _ => List.mem_map.2 ⟨p, List.mem_append.2 hp, rfl⟩) ?_
 simp only [List.length_map, List.length_append]
 unfold fuelE; omega
theorem solveE_of {n : Nat} {e : Eqn} (h : haltN n e = true) : solveN n e = solveE e := by
 unfold solveE
 rcases Nat.le_total n (fuelE e) with h1 | h1
 ·exact (solveN_more n e h _ h1).1.symm
 ·exact (solveN_more _ e (haltE e) _ h1).1
theorem solveE_step (e : Eqn) : solveE e = if doneE e = true then (0, e) else if (stepE e).1 = 0 then solveE (stepE e).2 else stepE e := by
 rw [<- solveE_of (n := fuelE e + 1) ((solveN_more _ e (haltE e) _ (Nat.le_succ _)).2), solveN]
 split
 ·rfl
 ·rename_i hd
  split
  ·rename_i h0
   refine solveE_of ?_
   have := (solveN_more _ e (haltE e) _ (Nat.le_succ _)).2
   rw [Nat.succ_eq_add_one, haltN, if_neg hd, if_pos h0] at this
   exact this
  ·rfl
end Rf
