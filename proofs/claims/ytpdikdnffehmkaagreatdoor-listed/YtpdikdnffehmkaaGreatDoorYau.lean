/- What the program's reader does at goals with commas between (read: goals). -/
import Derived.Test.YtpdikdnffehmkaaGreatDoorYat
import Derived.Test.YtpdikdnffehmkaaGreatDoorYac
namespace Rf
/-- A clause as the program reads it. -/
def clauseP (f : Nat) (l : List Tok) : Except (Int × Nat) (Cl × List Tok) :=
  match headS f l with
  | .error e => .error e
  | .ok (p, l1, ns1) => match l1 with
    | [] => .error (2, 0)
    | u :: l2 => if u.k = 58 then (match goalsP f 8 [] l2 ns1 with
        | .error e => .error e
        | .ok (gs, l3, ns2) => dotS (p, gs) l3 ns2)
      else dotS (p, []) (u :: l2) ns1
theorem clauseS_P (f : Nat) (l : List Tok) : clauseS f l = clauseP f l := by
  unfold clauseS clauseP headS
  cases l with
  | nil => rfl
  | cons t l =>
    simp only []
    cases termS f (t :: l) [] with
    | error e => rfl
    | ok x =>
      obtain ⟨p, l1, ns1⟩ := x
      simp only []
      cases headB p with
      | false => rfl
      | true =>
        rw [if_pos rfl, if_pos rfl]
        cases l1 with
        | nil => rfl
        | cons u l2 =>
          simp only []
          split
          · rw [goalsS_P]
            cases hg : goalsP f 8 [] l2 ns1 with
            | error e => rfl
            | ok x =>
              obtain ⟨gs, l3, ns2⟩ := x
              obtain ⟨y, l4, rfl⟩ := goalsP_len f _ _ _ _ _ _ _ hg
              unfold noBad
              simp only []
              by_cases h : y.k = 63
              · rw [if_pos h]
                simp only [dotS]
                rw [if_neg (by omega)]
              · rw [if_neg h]
          · rfl
end Rf
namespace Go.Proofs.YtpdikdnffehmkaaGreatDoor
open Go.RowKit
/-- A slice's value. -/
structure SlV where
  a : Option Addr
  n : Nat
  c : Nat
def slv (x : SlV) : Value := .slice x.a x.n x.c
def slCells (x : SlV) : List Value := [slv x]
theorem slCells_len (s : SlV) : (slCells s).length = 1 := rfl
theorem slCells_one (s : SlV) : ∀ u ∈ slCells s, u.oneCell' = true := by
  intro u hu
  simp only [slCells, List.mem_cons, List.not_mem_nil, or_false] at hu
  subst hu; rfl
theorem Tryz.elemTerms : ElemOk Tryz.prog 71 83 1 24 (.slice none 0 0) := ⟨Tryz.underlying71, by kernel_rfl, rfl, by decide, by decide⟩
/-- The row v of the goals acc that a body has so far. -/
structure PGs (w wr : World) (nb : Option Nat) (v : Value) (acc : List (SlV × List Rf.Part)) : Prop where
  row : RowIs wr 0 83 1 slCells v (acc.map (·.1))
  rowNew : ∀ k, v.ownBlock = some k → New w wr nb k
  goals : ∀ q ∈ acc, PT (fun k => New w wr nb k ∧ v.ownBlock ≠ some k) wr (slv q.1) q.2
theorem PGs.over {w wr w1 : World} {b : Nat} {nb nb1 : Option Nat} {v : Value} {acc : List (SlV × List Rf.Part)} (h : PGs w wr nb v acc) (hb : b < w.heap.size) (hk : Kept (May b nb) wr w1) (hn : Nb wr nb nb1) : PGs w w1 nb1 v acc := by
  have hsz := hk.size
  have mv : ∀ k, k < wr.heap.size → w.heap.size ≤ k → nb ≠ some k → ¬ May b nb k ∧ nb1 ≠ some k := fun k h1 h2 h3 => ⟨fun e => by rcases e with e | e; exact absurd e (by omega); exact h3 e.symm, hn.ne h3 h1⟩
  refine ⟨h.row.keptBy hk (fun k e => (mv k (h.rowNew k e).2.1 (h.rowNew k e).1 (h.rowNew k e).2.2).1), fun k e => ⟨(h.rowNew k e).1, by have := (h.rowNew k e).2.1; omega, (mv k (h.rowNew k e).2.1 (h.rowNew k e).1 (h.rowNew k e).2.2).2⟩, fun q hq => (h.goals q hq).keptBy hk (fun k hk1 hF => ?_)⟩
  obtain ⟨⟨f1, f2, f3⟩, f4⟩ := hF
  exact ⟨(mv k f2 f1 f3).1, ⟨f1, by omega, (mv k f2 f1 f3).2⟩, f4⟩
theorem pgs_ok {w wr w2 w3 : World} {r : Nat} {text : ByteArray} {o : Obj} {nb1 nb2 : Option Nat} {v : Value} {acc : List (SlV × List Rf.Part)} {x : SlV} {ps : List Rf.Part} {l : List Rf.Tok} {ns : List ByteArray} {gA n capA : Nat}
    (hs : w.heap.size ≤ wr.heap.size) (hs' : wr.heap.size ≤ w2.heap.size) (hA : PGs w wr nb1 v acc) (hA2 : PGs w w2 nb2 v acc) (hT2 : PT (New wr w2 nb2) w2 (slv x) ps) (hP2 : Pr w2 r text nb2 l ns) (hb : r < w.heap.size)
    (hgr : (w2.alloc o).grownBy w3 v.ownBlock) (hn : Nb (w2.alloc o) v.ownBlock (some gA)) (hr : RowIs w3 0 83 1 slCells (.slice (some ⟨gA, 0, none⟩) n capA) ((acc.map (·.1)) ++ [x])) :
    PGs w w3 nb2 (.slice (some ⟨gA, 0, none⟩) n capA) (acc ++ [(x, ps)]) ∧ Pr w3 r text nb2 l ns ∧ Kept (fun k => v.ownBlock = some k) w2 w3 ∧ (∀ k, v.ownBlock = some k → w.heap.size ≤ k) := by
  have hk : Kept (fun k => v.ownBlock = some k) w2 w3 := (((Kept.refl (fun k => v.ownBlock = some k) w2).alloc o).grown hgr (fun k e => .inr e))
  have hs2 : w2.heap.size + 1 ≤ w3.heap.size := by have := hgr.size; simpa using this
  have hgl : gA < w3.heap.size := (hr.lt gA rfl).2
  have hnl : ∀ k, nb2 = some k → k < w2.heap.size := fun k e => hP2.lt.2.1 k e
  have hgn : w.heap.size ≤ gA ∧ nb2 ≠ some gA := by
    rcases hn with e | ⟨k, e, hk⟩
    · exact ⟨(hA2.rowNew gA e.symm).1, (hA2.rowNew gA e.symm).2.2⟩
    · have := Option.some.inj e
      simp at hk
      exact ⟨by omega, fun e => by have := hnl gA e; omega⟩
  have tm : ∀ gv qs, PT (fun k => New w w2 nb2 k ∧ v.ownBlock ≠ some k) w2 gv qs → PT (fun k => New w w3 nb2 k ∧ (Value.slice (some ⟨gA, 0, none⟩) n capA).ownBlock ≠ some k) w3 gv qs := by
    intro gv qs hq
    refine hq.keptBy hk (fun k hk1 hF => ?_)
    obtain ⟨⟨f1, f2, f3⟩, f4⟩ := hF
    exact ⟨f4, ⟨f1, by omega, f3⟩, fun e => hn.ne f4 (by simp; omega) e⟩
  refine ⟨⟨?_, fun k e => ?_, fun q hq => ?_⟩, hP2.keptBy hk (fun e => by have := (hA2.rowNew r e).1; omega) (fun k e e2 => (hA2.rowNew k e2).2.2 e), hk, fun k e => (hA2.rowNew k e).1⟩
  · rw [List.map_append]; exact hr
  · obtain rfl := Option.some.inj e
    exact ⟨hgn.1, hgl, hgn.2⟩
  · rcases List.mem_append.1 hq with hq | hq
    · exact tm _ _ (hA2.goals q hq)
    · simp at hq; subst hq
      refine tm _ _ (hT2.keptBy (Kept.refl (fun _ => False) _) (fun k _ hF => ⟨fun e => e, ⟨by have := hF.1; omega, hF.2.1, hF.2.2⟩, fun e => ?_⟩))
      have := (hA.rowNew k e).2.1; have := hF.1; omega
/-- What a call that reads goals leaves. -/
def PGoalsPost (w : World) (r : Nat) (text : ByteArray) (nb : Option Nat) (res : Except (Int × Nat) (List (List Rf.Part) × List Rf.Tok × List ByteArray)) (x : Ending) (w' : World) : Prop :=
  Kept (May r nb) w w' ∧
  (match res with
   | .ok (gs, l', ns') => ∃ (a : Option Addr) (n c : Nat) (nb' : Option Nat) (acc : List (SlV × List Rf.Part)), x = .returned (.tuple #[.slice a n c, .bool true]) ∧ Pr w' r text nb' l' ns' ∧ Nb w nb nb' ∧ PGs w w' nb' (.slice a n c) acc ∧ gs = acc.map (·.2) ∧ acc.length ≤ 8
   | .error (e, q) => x = .returned (.tuple #[.slice none 0 0, .bool false]) ∧ PrE w' r e q)
def PGoalsSt (w : World) (r : Nat) (text : ByteArray) (nb : Option Nat) (f : Nat) (want : Except (Int × Nat) (List (List Rf.Part) × List Rf.Tok × List ByteArray)) (m : Nat) (v : Value) (wr : World) : Prop :=
  Kept (May r nb) w wr ∧ ∃ (k : Nat) (acc : List (SlV × List Rf.Part)) (l1 : List Rf.Tok) (ns1 : List ByteArray) (nb1 : Option Nat), m = k + 1 ∧ k + 1 + acc.length = 8 ∧ Pr wr r text nb1 l1 ns1 ∧ Nb w nb nb1 ∧ l1.length ≤ f ∧ PGs w wr nb1 v acc ∧ Hid (want = Rf.goalsP f (k + 1) (acc.map (·.2)) l1 ns1)
set_option maxHeartbeats 2000000 in
set_option maxRecDepth 100000 in
theorem pgoals_any (f : Nat) (r : Nat) (text : ByteArray) (nb : Option Nat) (l : List Rf.Tok) (ns : List ByteArray) (w : World) (h : Pr w r text nb l ns) (hl : l.length ≤ f) :
    Calls Tryz.prog 59 #[.pointer (some ⟨r, 0, none⟩)] w fun x w' => PGoalsPost w r text nb (Rf.goalsP f 8 [] l ns) x w' := by
  obtain ⟨hrl, hnl, hnr⟩ := h.lt
  have H : Hid _ := h
  clear h
  go_enter Tryz.func59, Tryz.ntmps59
  go_wp2_with fail
  go_loopg [4] 8 (fun m v wr => PGoalsSt w r text nb f (Rf.goalsP f 8 [] l ns) m v wr)
  case atStart => exact ⟨Kept.refl _ _, 7, [], l, ns, nb, rfl, rfl, H.out, .inl rfl, hl, ⟨RowIs.nil _ _ _ _ _, fun k e => by simp [Value.ownBlock] at e, fun q hq => by simp at hq⟩, rfl⟩
  case round =>
    obtain ⟨hKr, k, acc, l1, ns1, nb1, rfl, hk8, hP, hNb, hl1, hA, hwant⟩ := hrel
    obtain ⟨a, c, hv⟩ := row_slice hA.row
    rw [List.length_map] at hv
    subst hv
    have hrw := hKr.size
    have HP : Hid _ := hP
    have HA : Hid _ := hA
    clear hP hA
    cases hres : Rf.goalS f l1 ns1 with
    | error x =>
      obtain ⟨e, q⟩ := x
      have HR : Hid _ := hres
      clear hres
      have HW : Hid (Rf.goalsP f 8 [] l ns = .error (e, q)) := by unfold Hid; rw [hwant.out, Rf.goalsP, HR.out]
      go_wp2_with (go_at_call 85; refine (pgoal_any f r text nb1 l1 ns1 _ HP.out hl1).mono ?_; rintro x w2 ⟨hK2, hm⟩; rw [HR.out] at hm; obtain ⟨rfl, hE2⟩ := hm)
      refine bodyPost_ret (v := .tuple #[.slice none 0 0, .bool false]) (by simp [results, Tryz.results59, go_sem]) rfl ?_
      rw [HW.out]
      exact ⟨hKr.trans hK2 (May.of hNb), rfl, hE2⟩
    | ok x =>
      obtain ⟨ps, l2, ns2⟩ := x
      have HR : Hid _ := hres
      clear hres
      have hgood := Rf.goalS_good f l1 ns1 ps l2 ns2 HP.out.ended HP.out.n16 HR.out
      have hlen2 := goalS_len HR.out
      obtain ⟨_, _, _, hen2⟩ := hgood
      cases l2 with
      | nil => exact absurd rfl hen2.ne
      | cons u2 l3 =>
        have hl3 : l3.length ≤ f := by simp at hlen2; omega
        clear hen2 hlen2
        have hcar : (acc.length : Int) ≤ 7 := by omega
        have hmap : ∀ x : SlV, (acc ++ [(x, ps)]).map (·.2) = acc.map (·.2) ++ [ps] := fun x => by simp
        cases c7 : (Rf.kindOf u2.k != 7)
        · have H44 : Hid (u2.k = 44) := Rf.kindOf_7 c7
          have H20 : Hid (u2.k ≠ 0) := by unfold Hid; rw [H44.out]; decide
          have H263 : Hid (u2.k ≠ 63) := by unfold Hid; rw [H44.out]; decide
          by_cases hk0 : k = 0
          · subst hk0
            have hcar4 : (acc.length : Int) + 1 = 8 := by omega
            have HW : Hid (Rf.goalsP f 8 [] l ns = .error (3, u2.at_)) := by
              unfold Hid; rw [hwant.out, Rf.goalsP, HR.out]; simp only []; rw [if_pos H44.out, if_pos (by simp; omega)]
            have HX : Hid (Rf.errOf u2 3 = (3, u2.at_)) := errOf_no u2 3 (by rw [H44.out]; decide)
            go_wp2_with (first
            | (go_at_call 85; refine (pgoal_any f r text nb1 l1 ns1 _ HP.out hl1).mono ?_; rintro x w2 ⟨hK2, hm⟩; rw [HR.out] at hm; obtain ⟨g2, n2, c2, nb2, rfl, hP2, hNb2, hT2, hng2⟩ := hm; have hs2 := hK2.size; have hA2 := PGs.over HA.out hrl hK2 hNb2)
            | (at_builtin; refine wpList_app Tryz.elemTerms slCells slCells_len slCells_one _ rfl (.tmp 14) (.tmp 16) rfl 0 _ (acc.map (·.1)) rfl (hA2.row.alloc _) ⟨_, 0, none⟩ 1 (SlV.mk (some ⟨g2, 0, none⟩) n2 c2) rfl (cell_one_at _ _ rfl _ _) (by simp; omega) (Nat.zero_le _) ?_; intro gA capA w3 hrow3 hgr3 hnb3; rw [List.length_map] at hrow3; obtain ⟨hA3, hP3, hK3, hv3⟩ := pgs_ok (x := SlV.mk (some ⟨g2, 0, none⟩) n2 c2) hrw hs2 HA.out hA2 (hT2.pt hng2) hP2 hrl hgr3 hnb3 hrow3; obtain ⟨k1, ⟨_, k0⟩, kl⟩ := hP3.kind)
            | (go_at_call 86; refine (refuse_any _ r text nb2 u2 l3 ns2 3 hP3 (by decide)).mono ?_; rintro e w7 ⟨rfl, hE7, hK7⟩; rw [HX.out] at hE7))
            refine bodyPost_ret (v := .tuple #[.slice none 0 0, .bool false]) (by simp [results, Tryz.results59, go_sem]) rfl ?_
            rw [HW.out]
            exact ⟨((hKr.trans hK2 (May.of hNb)).trans hK3 (fun k hk e => absurd (hv3 k e) (by omega))).trans hK7 (fun _ _ e => Or.inl e), rfl, hE7⟩
          · have hcar4 : (acc.length : Int) + 1 < 8 := by omega
            have HW : Hid (Rf.goalsP f 8 [] l ns = Rf.goalsP f k (acc.map (·.2) ++ [ps]) l3 ns2) := by
              unfold Hid; rw [hwant.out, Rf.goalsP, HR.out]; simp only []; rw [if_pos H44.out, if_neg (by simp; omega)]
            go_wp2_with (first
            | (go_at_call 85; refine (pgoal_any f r text nb1 l1 ns1 _ HP.out hl1).mono ?_; rintro x w2 ⟨hK2, hm⟩; rw [HR.out] at hm; obtain ⟨g2, n2, c2, nb2, rfl, hP2, hNb2, hT2, hng2⟩ := hm; have hs2 := hK2.size; have hA2 := PGs.over HA.out hrl hK2 hNb2)
            | (at_builtin; refine wpList_app Tryz.elemTerms slCells slCells_len slCells_one _ rfl (.tmp 14) (.tmp 16) rfl 0 _ (acc.map (·.1)) rfl (hA2.row.alloc _) ⟨_, 0, none⟩ 1 (SlV.mk (some ⟨g2, 0, none⟩) n2 c2) rfl (cell_one_at _ _ rfl _ _) (by simp; omega) (Nat.zero_le _) ?_; intro gA capA w3 hrow3 hgr3 hnb3; rw [List.length_map] at hrow3; obtain ⟨hA3, hP3, hK3, hv3⟩ := pgs_ok (x := SlV.mk (some ⟨g2, 0, none⟩) n2 c2) hrw hs2 HA.out hA2 (hT2.pt hng2) hP2 hrl hgr3 hnb3 hrow3; obtain ⟨k1, ⟨_, k0⟩, kl⟩ := hP3.kind)
            | (go_at_call 58; refine (step_any _ r text nb2 u2 l3 ns2 hP3 H20.out H263.out).mono ?_; rintro e w7 ⟨rfl, hP7, hK7⟩))
            go_roundg k
            case measure => omega
            case rel =>
              refine ⟨((hKr.trans hK2 (May.of hNb)).trans hK3 (fun k hk e => absurd (hv3 k e) (by omega))).trans hK7 (fun _ _ e => Or.inl e), k - 1, _, l3, ns2, nb2, by omega, ?_, hP7, (Nb.trans hNb hNb2 (by omega)), hl3, hA3.over hrl (hK7.mono (fun _ _ e => Or.inl e)) (.inl rfl), ?_⟩
              · simp; omega
              · show Rf.goalsP f 8 [] l ns = Rf.goalsP f (k - 1 + 1) ((acc ++ [(SlV.mk (some ⟨g2, 0, none⟩) n2 c2, ps)]).map (·.2)) l3 ns2
                rw [show k - 1 + 1 = k by omega, hmap]; exact HW.out
        · have H44 : Hid (u2.k ≠ 44) := Rf.kindOf_n7 c7
          have HW : Hid (Rf.goalsP f 8 [] l ns = .ok (acc.map (·.2) ++ [ps], u2 :: l3, ns2)) := by
            unfold Hid; rw [hwant.out, Rf.goalsP, HR.out]; simp only []; rw [if_neg H44.out]
          go_wp2_with (first
            | (go_at_call 85; refine (pgoal_any f r text nb1 l1 ns1 _ HP.out hl1).mono ?_; rintro x w2 ⟨hK2, hm⟩; rw [HR.out] at hm; obtain ⟨g2, n2, c2, nb2, rfl, hP2, hNb2, hT2, hng2⟩ := hm; have hs2 := hK2.size; have hA2 := PGs.over HA.out hrl hK2 hNb2)
            | (at_builtin; refine wpList_app Tryz.elemTerms slCells slCells_len slCells_one _ rfl (.tmp 14) (.tmp 16) rfl 0 _ (acc.map (·.1)) rfl (hA2.row.alloc _) ⟨_, 0, none⟩ 1 (SlV.mk (some ⟨g2, 0, none⟩) n2 c2) rfl (cell_one_at _ _ rfl _ _) (by simp; omega) (Nat.zero_le _) ?_; intro gA capA w3 hrow3 hgr3 hnb3; rw [List.length_map] at hrow3; obtain ⟨hA3, hP3, hK3, hv3⟩ := pgs_ok (x := SlV.mk (some ⟨g2, 0, none⟩) n2 c2) hrw hs2 HA.out hA2 (hT2.pt hng2) hP2 hrl hgr3 hnb3 hrow3; obtain ⟨k1, ⟨_, k0⟩, kl⟩ := hP3.kind))
          refine bodyPost_ret (v := .tuple #[.slice (some ⟨gA, 0, none⟩) (acc.length + 1) capA, .bool true]) (by simp [results, Tryz.results59, go_sem]) rfl ?_
          rw [HW.out]
          exact ⟨((hKr.trans hK2 (May.of hNb)).trans hK3 (fun k hk e => absurd (hv3 k e) (by omega))), _, _, _, nb2, _, rfl, hP3, (Nb.trans hNb hNb2 (by omega)), hA3, (hmap _).symm, by simp; omega⟩
end Go.Proofs.YtpdikdnffehmkaaGreatDoor
