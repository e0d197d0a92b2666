
import Derived.Test.YtbiojnljihgpoaaGreatDoorZaq
import Derived.Test.YtbiojnljihgpoaaGreatDoorZaa
import Derived.Test.YtbiojnljihgpoaaGreatDoorZam
import Derived.Test.YtbiojnljihgpoaaGreatDoorZab
namespace Rf
theorem kindOf_is3 {k : Int} (h : (k == 118) = false) : (kindOf k == 3) = false := by
 rw [beq_eq_false_iff_ne] at *
 unfold kindOf; repeat' split
 all_goals omega
theorem kindOf_is4 {k : Int} (h : (k == 110) = false) : (kindOf k == 4) = false := by
 rw [beq_eq_false_iff_ne] at *
 unfold kindOf; repeat' split
 all_goals omega
theorem kindOf_is2 {k : Int} (h : (k == 97) = false) : (kindOf k == 2) = false := by
 rw [beq_eq_false_iff_ne] at *
 unfold kindOf; repeat' split
 all_goals omega
theorem kindOf_is5 {k : Int} (h : k ≠ 40) : (kindOf k != 5) = true := by
 rw [bne_iff_ne]
 unfold kindOf; repeat' split
 all_goals omega
end Rf
namespace Go.Proofs.YtbiojnljihgpoaaGreatDoor
open Go.RowKit
theorem PTermPost.tuple {w w' : World} {r : Nat} {text : ByteArray} {nb : Option Nat} {res : Except (Int × Nat) (List Rf.Part × List Rf.Tok × List ByteArray)} {x : Ending} (h : PTermPost w r text nb res x w') : ∃ a n c b, x = .returned (.tuple #[.slice a n c, .bool b]) := by
 obtain ⟨_, h⟩ := h
 cases res with
 | error x => exact ⟨_, _, _, _, h.1⟩
 | ok x => obtain ⟨g, n, c, nb', a0, _⟩ := h; exact ⟨_, _, _, _, a0⟩
set_option maxHeartbeats 1000000 in
set_option maxRecDepth 100000 in
theorem pterm_step (f : Nat) (IH : PTermIH f) : PTermIH (f + 1) := by
 intro r text nb l0 ns w h hl0
 obtain ⟨t, l, rfl⟩ : ∃ t l, l0 = t :: l := by
  cases l0 with
  | nil => exact absurd rfl h.ended.ne
  | cons t l => exact ⟨t, l, rfl⟩
 have hl : l.length <= f := by simp at hl0; omega
 have H : Hid _ := h
 have HI : Hid _ := IH
 obtain ⟨hrl, hnl, hnr⟩ := h.lt
 obtain ⟨q1, ⟨_, q0⟩, ql⟩ := h.kind
 clear h IH hl0
 cases c118 : (t.k == 118)
 ·cases c110 : (t.k == 110)
  ·cases c97 : (t.k == 97)
   ·have hS : Hid (Rf.termS (f + 1) (t :: l) ns = .error (Rf.errOf t 2)) := by
     unfold Hid; rw [Rf.termS, if_neg (beq_eq_false_iff_ne.1 c118), if_neg (beq_eq_false_iff_ne.1 c110), if_neg (beq_eq_false_iff_ne.1 c97)]
    have k3 := Rf.kindOf_is3 c118
    have k4 := Rf.kindOf_is4 c110
    have k2 := Rf.kindOf_is2 c97
    go_enter Tryz.func88, Tryz.ntmps88
    go_wp2_with (go_at_call 64; refine (refuse_any _ r text nb t l ns 2 H.out (by decide)).mono ?_; rintro e w7 ⟨rfl, hE7, hK7⟩)
    refine bodyPost_ret (v := .tuple #[.slice none 0 0, .bool false]) (by simp [results, Tryz.results88, go_sem]) rfl ?_
    rw [hS.out]
    exact ⟨hK7.mono (fun _ _ e => Or.inl e), rfl, hE7⟩
   ·have e97 : t.k = 97 := eq_of_beq c97
    have hS : Hid (Rf.termS (f + 1) (t :: l) ns = Rf.nameS (Rf.argsS (Rf.termS f) 4 []) t l ns) := by
     unfold Hid; rw [Rf.termS, if_neg (beq_eq_false_iff_ne.1 c118), if_neg (beq_eq_false_iff_ne.1 c110), if_pos e97]
    have hen := H.out.ended.tail (by omega) (by omega)
    have hq : Rf.kindOf t.k = 2 := by rw [e97]; rfl
    rw [hq] at q1
    have H97 : Hid _ := e97
    clear e97 hq c97 c110 c118
    cases l with
    | nil => exact absurd rfl hen.ne
    | cons u l' =>
     clear hen
     have hl' : l'.length <= f := by simp at hl; omega
     by_cases hu : u.k = 40
     ·go_enter Tryz.func88, Tryz.ntmps88
      go_wp2_with (go_at_call 109; refine (named_args f HI.out r text nb t u l' ns _ H.out H97.out hu hl').mono ?_; intro x w2 hP; obtain ⟨a, n, c, b, rfl⟩ := hP.tuple)
      refine bodyPost_ret (v := .tuple #[.slice a n c, .bool b]) (by simp [results, Tryz.results88, go_sem]) rfl ?_
      rw [hS.out]
      exact hP
     ·have hn : Hid (Rf.nameS (Rf.argsS (Rf.termS f) 4 []) t (u :: l') ns = .ok ([⟨3, t.s, 0, 0⟩], u :: l', ns)) := by
       unfold Hid; simp only [Rf.nameS]; rw [if_neg hu]
      have hu5 := Rf.kindOf_is5 hu
      go_enter Tryz.func88, Tryz.ntmps88
      go_wp2_with (go_at_call 109; refine (named_name r text nb t u l' ns _ H.out H97.out hu5).mono ?_; intro x w2 hP; obtain ⟨a, n, c, b, rfl⟩ := hP.tuple)
      refine bodyPost_ret (v := .tuple #[.slice a n c, .bool b]) (by simp [results, Tryz.results88, go_sem]) rfl ?_
      rw [hS.out, hn.out]
      exact hP
  ·have e110 : t.k = 110 := eq_of_beq c110
   have H0 : Hid (t.k ≠ 0) := by unfold Hid; omega
   have H63 : Hid (t.k ≠ 63) := by unfold Hid; omega
   have hS : Hid (Rf.termS (f + 1) (t :: l) ns = .ok ([⟨2, ⟨#[]⟩, Rf.numVal t.s, 0⟩], l, ns)) := by
    unfold Hid; rw [Rf.termS, if_neg (beq_eq_false_iff_ne.1 c118), if_pos e110]
   have hq : Rf.kindOf t.k = 4 := by rw [e110]; rfl
   rw [hq] at q1
   have H110 : Hid _ := e110
   clear e110 hq c110 c118
   go_enter Tryz.func88, Tryz.ntmps88
   go_wp2_with (first
    | (go_at_call 108; refine (value_any _ r text nb t l ns H.out H110.out).mono ?_; rintro x w1 ⟨rfl, hb1⟩)
    | (go_at_call 46; refine (step_any _ r text nb t l ns (H.out.below hb1) H0.out H63.out).mono ?_; rintro e w2 ⟨rfl, hP2, hK2⟩))
   refine bodyPost_ret (v := .tuple #[.slice (some ⟨w2.heap.size, 0, none⟩) 1 1, .bool true]) (by simp [results, Tryz.results88, go_sem]) rfl ?_
   rw [hS.out]
   have hs1 := hb1.size
   have hs2 := hK2.size
   exact ⟨((Kept.of_below hb1 (May r nb)).trans hK2 (fun _ _ e => Or.inl e)).alloc _, _, _, _, nb, rfl, hP2.alloc _, .inl rfl, row_new (blk_new _ _) rfl rfl (by omega), fun e => by have := hnl _ e; omega⟩
 ·have e118 : t.k = 118 := eq_of_beq c118
  have H0 : Hid (t.k ≠ 0) := by unfold Hid; omega
  have H63 : Hid (t.k ≠ 63) := by unfold Hid; omega
  have hS : Hid (Rf.termS (f + 1) (t :: l) ns = Rf.varT t l ns) := by
   unfold Hid; rw [Rf.termS, if_pos e118]
  have hq : Rf.kindOf t.k = 3 := by rw [e118]; rfl
  rw [hq] at q1
  have H118 : Hid _ := e118
  clear e118 hq c118
  cases hv : Rf.varS t ns with
  | error x =>
   obtain ⟨e, q⟩ := x
   have HV : Hid _ := hv
   clear hv
   have hT : Hid (Rf.varT t l ns = .error (e, q)) := by unfold Hid Rf.varT; rw [HV.out]
   go_enter Tryz.func88, Tryz.ntmps88
   go_wp2_with (go_at_call 87; refine (which_any _ r text nb t l ns H.out H118.out).mono ?_; rintro x w1 ⟨hK1, hm⟩; rw [HV.out] at hm; obtain ⟨rfl, hE1⟩ := hm)
   refine bodyPost_ret (v := .tuple #[.slice none 0 0, .bool false]) (by simp [results, Tryz.results88, go_sem]) rfl ?_
   rw [hS.out, hT.out]
   exact ⟨hK1, rfl, hE1⟩
  | ok x =>
   obtain ⟨i, ns'⟩ := x
   have HV : Hid _ := hv
   clear hv
   have hT : Hid (Rf.varT t l ns = .ok ([⟨1, ⟨#[]⟩, i, 0⟩], l, ns')) := by unfold Hid Rf.varT; rw [HV.out]
   go_enter Tryz.func88, Tryz.ntmps88
   go_wp2_with (first
    | (go_at_call 87; refine (which_any _ r text nb t l ns H.out H118.out).mono ?_; rintro x w1 ⟨hK1, hm⟩; rw [HV.out] at hm; obtain ⟨rfl, hi16, nb1, hP1, hNb1⟩ := hm)
    | (go_at_call 46; refine (step_any _ r text nb1 t l ns' hP1 H0.out H63.out).mono ?_; rintro e w2 ⟨rfl, hP2, hK2⟩))
   refine bodyPost_ret (v := .tuple #[.slice (some ⟨w2.heap.size, 0, none⟩) 1 1, .bool true]) (by simp [results, Tryz.results88, go_sem]) rfl ?_
   rw [hS.out, hT.out]
   have hs1 := hK1.size
   have hs2 := hK2.size
   exact ⟨(hK1.trans hK2 (fun _ _ e => Or.inl e)).alloc _, _, _, _, nb1, rfl, hP2.alloc _, hNb1, row_new (blk_new _ _) rfl rfl (by omega), fun e => by have := hP2.lt.2.1 _ e; omega⟩
theorem pterm_any : ∀ f, PTermIH f
 | 0 => fun r text nb l ns w h hl => absurd (List.eq_nil_of_length_eq_zero (by omega)) h.ended.ne
 | f + 1 => pterm_step f (pterm_any f)
end Go.Proofs.YtbiojnljihgpoaaGreatDoor
namespace Rf
theorem kindOf_9 {k : Int} (h : (k == 33) = false) : (kindOf k == 9) = false := by
 rw [beq_eq_false_iff_ne] at *
 unfold kindOf; repeat' split
 all_goals omega
theorem termS_name {f : Nat} {t : Tok} {l : List Tok} {ns : List ByteArray} {p : List Part} {l1 : List Tok} {ns1 : List ByteArray} (h118 : t.k ≠ 118) (h110 : t.k ≠ 110) (h : termS f (t :: l) ns = .ok (p, l1, ns1)) : ∃ x q, p = x :: q /\ x.kind = 3 := by
 cases f with
 | zero => simp [termS] at h
 | succ f =>
  rw [termS, if_neg h118, if_neg h110] at h
  split at h
  ·cases l with
   | nil => cases h
   | cons u l' =>
    simp only [nameS] at h
    split at h
    ·cases ha : argsS (termS f) 4 [] l' ns with
     | error x => rw [ha] at h; cases h
     | ok x =>
      rw [ha] at h
      simp only [Except.ok.injEq, Prod.mk.injEq] at h
      obtain ⟨rfl, _⟩ := h
      exact ⟨_, _, rfl, rfl⟩
    ·simp only [Except.ok.injEq, Prod.mk.injEq] at h; obtain ⟨rfl, _⟩ := h; exact ⟨_, _, rfl, rfl⟩
  ·cases h
theorem goalS_term {f : Nat} {t : Tok} {l : List Tok} {ns : List ByteArray} (h33 : t.k ≠ 33) (h118 : t.k ≠ 118) (h110 : t.k ≠ 110) : goalS f (t :: l) ns = termS f (t :: l) ns := by
 simp only [goalS]
 rw [if_neg h33]
 cases hr : termS f (t :: l) ns with
 | error e => rfl
 | ok x =>
  obtain ⟨p, l1, ns1⟩ := x
  obtain ⟨y, q, rfl, hy⟩ := termS_name h118 h110 hr
  simp only []
  rw [if_pos (by simp [hy])]
end Rf
namespace Go.Proofs.YtbiojnljihgpoaaGreatDoor
open Go.RowKit
def PT (F : Nat -> Prop) (w : World) (v : Value) (ps : List Rf.Part) : Prop := RowIs w 0 101 4 partCells v ps /\ ∀ k, v.ownBlock = some k -> F k
theorem PT.keptBy {F F' M : Nat -> Prop} {w w' : World} {v : Value} {ps : List Rf.Part} (h : PT F w v ps) (hk : Kept M w w') (hF : ∀ k, k < w.heap.size -> F k -> ¬ M k /\ F' k) : PT F' w' v ps :=
 ⟨h.1.keptBy hk (fun k e => (hF k (h.1.lt k e).2 (h.2 k e)).1), fun k e => (hF k (h.1.lt k e).2 (h.2 k e)).2⟩
theorem PTerm.pt {w w' : World} {g n c : Nat} {nb : Option Nat} {ps : List Rf.Part} (h : PTerm w' w.heap.size (.slice (some ⟨g, 0, none⟩) n c) ps) (hn : nb ≠ some g) : PT (New w w' nb) w' (.slice (some ⟨g, 0, none⟩) n c) ps := by
 have := h.lt
 exact ⟨⟨ownsRow_base h.own (fun _ _ => Nat.zero_le _)⟩, fun k e => by cases e; exact ⟨this.1, this.2, hn⟩⟩
set_option maxHeartbeats 400000 in
theorem ptop_any (g off n c : Nat) (p : Rf.Part) (rest : List Rf.Part) (w : World) (h : Seen w 101 partCells (.slice (some ⟨g, off, none⟩) n c) (p :: rest)) :
  Calls Tryz.prog 71 #[.slice (some ⟨g, off, none⟩) n c] w fun r w' => r = .returned (.agg #[.int .i64 p.kind, .string p.name, .int .i64 p.value, .int .i64 p.args]) /\ Below w.heap.size w w' := by
 have x0 := h.cells partCells_len 0 p rfl 0 _ rfl
 have x1 := h.cells partCells_len 0 p rfl 1 _ rfl
 have x2 := h.cells partCells_len 0 p rfl 2 _ rfl
 have x3 := h.cells partCells_len 0 p rfl 3 _ rfl
 simp only [Nat.zero_mul, Nat.zero_add, Nat.add_zero] at x0 x1 x2 x3
 have hn : 1 <= n := by rw [h.len]; simp
 have hgl := h.lt
 clear h
 go_enter Tryz.func71, Tryz.ntmps71
 go_wp2
 refine bodyPost_ret (v := .agg #[.int .i64 p.kind, .string p.name, .int .i64 p.value, .int .i64 p.args]) (by simp [results, Tryz.results71, go_sem, *]) rfl ?_
 exact ⟨rfl, (by repeat(first|exact bl0 _ _|refine bl1 ?_ (by simp<;>omega) _|refine bl2 ?_|refine bl3 ?_ _|refine bl4 ?_ (by simp<;>omega) _))⟩
set_option maxHeartbeats 1000000 in
theorem pbuiltIn_any (g off n c : Nat) (p : Rf.Part) (rest : List Rf.Part) (w : World) (h : Seen w 101 partCells (.slice (some ⟨g, off, none⟩) n c) (p :: rest)) (h3 : p.kind = 3) :
  Calls Tryz.prog 91 #[.slice (some ⟨g, off, none⟩) n c] w fun r w' => r = .returned (.bool (Rf.builtInB p.name p.args)) /\ Below w.heap.size w w' := by
 have hB : Hid _ := builtInB_eq p.name p.args
 have H : Hid _ := h
 have H3 : Hid _ := h3
 clear h h3
 rcases (show p.args = 0 \/ p.args = 1 \/ p.args = 2 \/ p.args = 3 \/ ((p.args == 0) = false /\ (p.args == 1) = false /\ (p.args == 2) = false /\ (p.args == 3) = false) by
  generalize p.args = a
  by_cases h0 : a = 0
  ·exact .inl h0
  ·by_cases h1 : a = 1
   ·exact .inr (.inl h1)
   ·by_cases h2 : a = 2
    ·exact .inr (.inr (.inl h2))
    ·by_cases h3 : a = 3
     ·exact .inr (.inr (.inr (.inl h3)))
     ·exact .inr (.inr (.inr (.inr ⟨beq_eq_false_iff_ne.2 h0, beq_eq_false_iff_ne.2 h1, beq_eq_false_iff_ne.2 h2, beq_eq_false_iff_ne.2 h3⟩)))) with ea | ea | ea | ea | ⟨a0, a1, a2, a3⟩
 all_goals
  go_enter Tryz.func91, Tryz.ntmps91
  go_wp2_with (go_at_call 71; refine (ptop_any g off n c p rest _ (Seen.below H.out (by repeat(first|exact bl0 _ _|refine bl1 ?_ (by simp<;>omega) _|refine bl2 ?_|refine bl3 ?_ _|refine bl4 ?_ (by simp<;>omega) _)))).mono ?_; rintro r w1 ⟨rfl, hb1⟩; have h3 := H3.out; have hs1 := hb1.size)
 all_goals
  go_ret
  refine ⟨ret_bool ?_, hb1.alloc hs1 _⟩
  rw [hB.out]
  clear hB
 all_goals
  unfold builtInC
  first | (simp [*]; done) | (simp; done) | (simp [*]; omega)
set_option maxHeartbeats 1000000 in
set_option maxRecDepth 100000 in
theorem pgoal_any (f : Nat) (r : Nat) (text : ByteArray) (nb : Option Nat) (l0 : List Rf.Tok) (ns : List ByteArray) (w : World) (h : Pr w r text nb l0 ns) (hl0 : l0.length <= f) :
  Calls Tryz.prog 63 #[.pointer (some ⟨r, 0, none⟩)] w fun x w' => PTermPost w r text nb (Rf.goalS f l0 ns) x w' := by
 obtain ⟨t, l, rfl⟩ : ∃ t l, l0 = t :: l := by
  cases l0 with
  | nil => exact absurd rfl h.ended.ne
  | cons t l => exact ⟨t, l, rfl⟩
 obtain ⟨f', rfl⟩ : ∃ f', f = f' + 1 := ⟨f - 1, by simp at hl0; omega⟩
 have H : Hid _ := h
 obtain ⟨hrl, hnl, hnr⟩ := h.lt
 obtain ⟨q1, ⟨_, q0⟩, ql⟩ := h.kind
 clear h
 cases c33 : (t.k == 33)
 ·cases c118 : (t.k == 118)
  ·cases c110 : (t.k == 110)
   ·have hS : Hid (Rf.goalS (f' + 1) (t :: l) ns = Rf.termS (f' + 1) (t :: l) ns) := Rf.goalS_term (beq_eq_false_iff_ne.1 c33) (beq_eq_false_iff_ne.1 c118) (beq_eq_false_iff_ne.1 c110)
    have k9 := Rf.kindOf_9 c33
    have k3 := Rf.kindOf_is3 c118
    have k4 := Rf.kindOf_is4 c110
    go_enter Tryz.func63, Tryz.ntmps63
    go_wp2_with (go_at_call 88; refine (pterm_any (f' + 1) r text nb (t :: l) ns _ H.out hl0).mono ?_; intro x w2 hP; obtain ⟨a, n, c, b, rfl⟩ := hP.tuple)
    refine bodyPost_ret (v := .tuple #[.slice a n c, .bool b]) (by simp [results, Tryz.results63, go_sem]) rfl ?_
    rw [hS.out]
    exact hP
   ·have e110 : t.k = 110 := eq_of_beq c110
    have hS : Hid (Rf.goalS (f' + 1) (t :: l) ns = .error (5, t.at_)) := by
     unfold Hid; simp only [Rf.goalS]; rw [if_neg (by omega), Rf.termS, if_neg (by omega), if_pos e110]; rfl
    have HX : Hid (Rf.errOf t 5 = (5, t.at_)) := errOf_no t 5 (by rw [e110]; decide)
    have hq : Rf.kindOf t.k = 4 := by rw [e110]; rfl
    rw [hq] at q1
    clear e110 hq c110 c118 c33
    go_enter Tryz.func63, Tryz.ntmps63
    go_wp2_with (go_at_call 64; refine (refuse_any _ r text nb t l ns 5 H.out (by decide)).mono ?_; rintro e w7 ⟨rfl, hE7, hK7⟩; rw [HX.out] at hE7)
    refine bodyPost_ret (v := .tuple #[.slice none 0 0, .bool false]) (by simp [results, Tryz.results63, go_sem]) rfl ?_
    rw [hS.out]
    exact ⟨hK7.mono (fun _ _ e => Or.inl e), rfl, hE7⟩
  ·have e118 : t.k = 118 := eq_of_beq c118
   have hS : Hid (Rf.goalS (f' + 1) (t :: l) ns = match Rf.varS t ns with | .error e => .error e | .ok _ => .error (5, t.at_)) := by
    unfold Hid; simp only [Rf.goalS]; rw [if_neg (by omega), Rf.termS, if_pos e118]; unfold Rf.varT
    cases Rf.varS t ns <;> rfl
   have HX : Hid (Rf.errOf t 5 = (5, t.at_)) := errOf_no t 5 (by rw [e118]; decide)
   have hq : Rf.kindOf t.k = 3 := by rw [e118]; rfl
   rw [hq] at q1
   have H118 : Hid _ := e118
   clear e118 hq c118 c33
   cases hv : Rf.varS t ns with
   | error x =>
    obtain ⟨e, q⟩ := x
    have HV : Hid _ := hv
    clear hv
    go_enter Tryz.func63, Tryz.ntmps63
    go_wp2_with (go_at_call 87; refine (which_any _ r text nb t l ns H.out H118.out).mono ?_; rintro x w1 ⟨hK1, hm⟩; rw [HV.out] at hm; obtain ⟨rfl, hE1⟩ := hm)
    refine bodyPost_ret (v := .tuple #[.slice none 0 0, .bool false]) (by simp [results, Tryz.results63, go_sem]) rfl ?_
    rw [hS.out, HV.out]
    exact ⟨hK1, rfl, hE1⟩
   | ok x =>
    obtain ⟨i, ns'⟩ := x
    have HV : Hid _ := hv
    clear hv
    go_enter Tryz.func63, Tryz.ntmps63
    go_wp2_with (first
     | (go_at_call 87; refine (which_any _ r text nb t l ns H.out H118.out).mono ?_; rintro x w1 ⟨hK1, hm⟩; rw [HV.out] at hm; obtain ⟨rfl, hi16, nb1, hP1, hNb1⟩ := hm)
     | (go_at_call 64; refine (refuse_any _ r text nb1 t l ns' 5 hP1 (by decide)).mono ?_; rintro e w7 ⟨rfl, hE7, hK7⟩; rw [HX.out] at hE7))
    refine bodyPost_ret (v := .tuple #[.slice none 0 0, .bool false]) (by simp [results, Tryz.results63, go_sem]) rfl ?_
    rw [hS.out, HV.out]
    exact ⟨hK1.trans hK7 (fun _ _ e => Or.inl e), rfl, hE7⟩
 ·have e33 : t.k = 33 := eq_of_beq c33
  have H0 : Hid (t.k ≠ 0) := by unfold Hid; omega
  have H63 : Hid (t.k ≠ 63) := by unfold Hid; omega
  have hS : Hid (Rf.goalS (f' + 1) (t :: l) ns = .ok ([⟨4, ⟨#[]⟩, 0, 0⟩], l, ns)) := by unfold Hid; simp only [Rf.goalS]; rw [if_pos e33]
  have hq : Rf.kindOf t.k = 9 := by rw [e33]; rfl
  rw [hq] at q1
  clear e33 hq c33
  go_enter Tryz.func63, Tryz.ntmps63
  go_wp2_with (go_at_call 46; refine (step_any _ r text nb t l ns H.out H0.out H63.out).mono ?_; rintro e w2 ⟨rfl, hP2, hK2⟩)
  refine bodyPost_ret (v := .tuple #[.slice (some ⟨w2.heap.size, 0, none⟩) 1 1, .bool true]) (by simp [results, Tryz.results63, go_sem]) rfl ?_
  rw [hS.out]
  have hs2 := hK2.size
  exact ⟨(hK2.mono (fun _ _ e => Or.inl e)).alloc _, _, _, _, nb, rfl, hP2.alloc _, .inl rfl, row_new (blk_new _ _) rfl rfl (by omega), fun e => by have := hnl _ e; omega⟩
end Go.Proofs.YtbiojnljihgpoaaGreatDoor
namespace Rf
def headS (f : Nat) (l : List Tok) : Except (Int × Nat) (List Part × List Tok × List ByteArray) :=
 match l with
 | [] => .error (2, 0)
 | t :: _ => match termS f l [] with
  | .error e => .error e
  | .ok (p, l1, ns1) => if headB p = true then .ok (p, l1, ns1) else .error (4, t.at_)
theorem headS_var {f : Nat} {t : Tok} {l : List Tok} (h : t.k = 118) : headS (f + 1) (t :: l) = .error (4, t.at_) := by
 simp only [headS]
 rw [termS, if_pos h]
 unfold varT varS lookS
 have : (if t.s = under then none else List.findIdx? (fun n => decide (n = t.s)) ([] : List ByteArray)) = none := by split <;> rfl
 rw [this]
 rfl
theorem headS_num {f : Nat} {t : Tok} {l : List Tok} (h : t.k = 110) : headS (f + 1) (t :: l) = .error (4, t.at_) := by
 simp only [headS]
 rw [termS, if_neg (by omega), if_pos h]
 rfl
end Rf
namespace Go.Proofs.YtbiojnljihgpoaaGreatDoor
open Go.RowKit
set_option maxHeartbeats 1000000 in
set_option maxRecDepth 100000 in
theorem phead_any (f : Nat) (r : Nat) (text : ByteArray) (nb : Option Nat) (l0 : List Rf.Tok) (w : World) (h : Pr w r text nb l0 []) (hl0 : l0.length <= f) :
  Calls Tryz.prog 78 #[.pointer (some ⟨r, 0, none⟩)] w fun x w' => PTermPost w r text nb (Rf.headS f l0) x w' := by
 obtain ⟨t, l, rfl⟩ : ∃ t l, l0 = t :: l := by
  cases l0 with
  | nil => exact absurd rfl h.ended.ne
  | cons t l => exact ⟨t, l, rfl⟩
 obtain ⟨f', rfl⟩ : ∃ f', f = f' + 1 := ⟨f - 1, by simp at hl0; omega⟩
 have H : Hid _ := h
 obtain ⟨hrl, hnl, hnr⟩ := h.lt
 obtain ⟨K, fr, toE, C, vN, hB, ht, _⟩ := h.toks
 obtain ⟨q0, q1, q2, q3, q4, q5, q6, q7, qf, ql⟩ := hB.facts
 rw [ht.1] at q1
 rw [ht.2.1] at q2
 clear h hB ht
 cases c118 : (t.k == 118)
 ·cases c110 : (t.k == 110)
  ·have k3 := Rf.kindOf_is3 c118
   have k4 := Rf.kindOf_is4 c110
   cases hr : Rf.termS (f' + 1) (t :: l) [] with
   | error x =>
    obtain ⟨e, q⟩ := x
    have hS : Hid (Rf.headS (f' + 1) (t :: l) = .error (e, q)) := by unfold Hid; simp only [Rf.headS]; rw [hr]
    have HR : Hid _ := hr
    clear hr
    go_enter Tryz.func78, Tryz.ntmps78
    go_wp2_with (go_at_call 88; refine (pterm_any (f' + 1) r text nb (t :: l) [] _ (H.out.alloc _) hl0).mono ?_; rintro x w2 ⟨hK2, hm⟩; rw [HR.out] at hm; obtain ⟨rfl, hE2⟩ := hm)
    refine bodyPost_ret (v := .tuple #[.slice none 0 0, .bool false]) (by simp [results, Tryz.results78, go_sem]) rfl ?_
    rw [hS.out]
    exact ⟨((Kept.refl (May r nb) w).alloc _).trans hK2 (fun _ _ e => e), rfl, hE2⟩
   | ok x =>
    obtain ⟨p, l1, ns1⟩ := x
    obtain ⟨y, q, rfl, hy⟩ := Rf.termS_name (beq_eq_false_iff_ne.1 c118) (beq_eq_false_iff_ne.1 c110) hr
    have Hy : Hid _ := hy
    cases hb : Rf.builtInB y.name y.args
    ·have hS : Hid (Rf.headS (f' + 1) (t :: l) = .ok (y :: q, l1, ns1)) := by unfold Hid; simp only [Rf.headS]; rw [hr]; simp only []; rw [if_pos (by simp [Rf.headB, hb, hy])]
     have HR : Hid _ := hr
     clear hr hy
     go_enter Tryz.func78, Tryz.ntmps78
     go_wp2_with (first
      | (go_at_call 88; refine (pterm_any (f' + 1) r text nb (t :: l) [] _ (H.out.alloc _) hl0).mono ?_; rintro x w2 ⟨hK2, hm⟩; rw [HR.out] at hm; obtain ⟨g, n, c, nb2, rfl, hP2, hNb2, hT2, hng2⟩ := hm; have hrow0 : RowIs w2 0 101 4 partCells (.slice (some ⟨g, 0, none⟩) n c) (y :: q) := ⟨ownsRow_base hT2.own (fun _ _ => Nat.zero_le _)⟩)
      | (go_at_call 91; refine (pbuiltIn_any g 0 n c y q _ hrow0.seen Hy.out).mono ?_; rintro x w3 ⟨rfl, hb3⟩; have hP3 := hP2.below hb3; have hK3 := hK2.trans (Kept.of_below hb3 (fun _ => False)) (fun _ _ e => e.elim)))
     refine bodyPost_ret (v := .tuple #[.slice (some ⟨g, 0, none⟩) n c, .bool true]) (by simp [results, Tryz.results78, go_sem]) rfl ?_
     rw [hS.out]
     have hs2 := hK2.size
     simp at hs2
     exact ⟨((Kept.refl (May r nb) w).alloc _).trans hK3 (fun _ _ e => e), _, _, _, nb2, rfl, hP3, Nb.trans (.inl rfl) hNb2 (by simp), ⟨ownsRow_base (RowIs.below hT2 hb3).own (fun k e => by have := (RowIs.lt hT2 k e).1; simp at this; omega)⟩, hng2⟩
    ·have hS : Hid (Rf.headS (f' + 1) (t :: l) = .error (4, t.at_)) := by unfold Hid; simp only [Rf.headS]; rw [hr]; simp only []; rw [if_neg (by simp [Rf.headB, hb])]
     have HR : Hid _ := hr
     clear hr hy
     go_enter Tryz.func78, Tryz.ntmps78
     go_wp2_with (first
      | (go_at_call 88; refine (pterm_any (f' + 1) r text nb (t :: l) [] _ (H.out.alloc _) hl0).mono ?_; rintro x w2 ⟨hK2, hm⟩; rw [HR.out] at hm; obtain ⟨g, n, c, nb2, rfl, hP2, hNb2, hT2, hng2⟩ := hm; have hrow0 : RowIs w2 0 101 4 partCells (.slice (some ⟨g, 0, none⟩) n c) (y :: q) := ⟨ownsRow_base hT2.own (fun _ _ => Nat.zero_le _)⟩)
      | (go_at_call 91; refine (pbuiltIn_any g 0 n c y q _ hrow0.seen Hy.out).mono ?_; rintro x w3 ⟨rfl, hb3⟩; have hP3 := hP2.below hb3; have hK3 := hK2.trans (Kept.of_below hb3 (fun _ => False)) (fun _ _ e => e.elim); obtain ⟨t9, l9, K9, f9, to9, C9, a9, c9, _, hB9, _⟩ := hP3.shape; obtain ⟨z0, z1, z2, z3, z4, z5, z6, z7, zf, zl⟩ := hB9.facts; have hN9 := (hK3.block w.heap.size (by simp) (fun e => by rcases e with e | e; omega; have := hnl _ e.symm; omega)).trans (blk_new _ _); have n1 : w3.cell? ⟨w.heap.size, 1, none⟩ = some (.int .i64 t.at_) := blk_cell hN9 1; have hrN : ¬ r = w.heap.size := (by omega); have hNr : ¬ w.heap.size = r := (by omega)))
     refine bodyPost_ret (v := .tuple #[.slice none 0 0, .bool false]) (by simp [results, Tryz.results78, go_sem]) rfl ?_
     rw [hS.out]
     exact ⟨((((Kept.refl (May r nb) w).alloc _).trans hK3 (fun _ _ e => e)).setCell (p := ⟨r, 6, none⟩) (.inr (.inl rfl)) _).setCell (p := ⟨r, 7, none⟩) (.inr (.inl rfl)) _, rfl, ⟨_, _, _, _, _, _, _, _, blk_set (blk_set hB9 6 _) 7 _, by decide⟩⟩
  ·have e110 : t.k = 110 := eq_of_beq c110
   have hS : Hid _ := Rf.headS_num (f := f') (l := l) e110
   have HX : Hid (Rf.errOf t 4 = (4, t.at_)) := errOf_no t 4 (by rw [e110]; decide)
   have hq : Rf.kindOf t.k = 4 := by rw [e110]; rfl
   rw [hq] at q1
   clear e110 hq
   go_enter Tryz.func78, Tryz.ntmps78
   go_wp2_with (go_at_call 64; refine (refuse_any _ r text nb t l [] 4 (H.out.alloc _) (by decide)).mono ?_; rintro e w7 ⟨rfl, hE7, hK7⟩; rw [HX.out] at hE7)
   refine bodyPost_ret (v := .tuple #[.slice none 0 0, .bool false]) (by simp [results, Tryz.results78, go_sem]) rfl ?_
   rw [hS.out]
   exact ⟨((Kept.refl (May r nb) w).alloc _).trans hK7 (fun _ _ e => Or.inl e), rfl, hE7⟩
 ·have e118 : t.k = 118 := eq_of_beq c118
  have hS : Hid _ := Rf.headS_var (f := f') (l := l) e118
  have HX : Hid (Rf.errOf t 4 = (4, t.at_)) := errOf_no t 4 (by rw [e118]; decide)
  have hq : Rf.kindOf t.k = 3 := by rw [e118]; rfl
  rw [hq] at q1
  clear e118 hq
  go_enter Tryz.func78, Tryz.ntmps78
  go_wp2_with (go_at_call 64; refine (refuse_any _ r text nb t l [] 4 (H.out.alloc _) (by decide)).mono ?_; rintro e w7 ⟨rfl, hE7, hK7⟩; rw [HX.out] at hE7)
  refine bodyPost_ret (v := .tuple #[.slice none 0 0, .bool false]) (by simp [results, Tryz.results78, go_sem]) rfl ?_
  rw [hS.out]
  exact ⟨((Kept.refl (May r nb) w).alloc _).trans hK7 (fun _ _ e => Or.inl e), rfl, hE7⟩
end Go.Proofs.YtbiojnljihgpoaaGreatDoor
namespace Rf
def clauseP (f : Nat) (l : List Tok) : Except (Int × Nat) (Cl × List Tok) :=
 match headS f l with
 | .error e => .error e
 | .ok (p, l1, ns1) => match l1 with
  | [] => .error (2, 0)
  | u :: l2 => if u.k = 58 then (match goalsP f 8 [] l2 ns1 with
    | .error e => .error e
    | .ok (gs, l3, ns2) => dotS (p, gs) l3 ns2)
   else dotS (p, []) (u :: l2) ns1
theorem clauseS_P (f : Nat) (l : List Tok) : clauseS f l = clauseP f l := by
 unfold clauseS clauseP headS
 cases l with
 | nil => rfl
 | cons t l =>
  simp only []
  cases termS f (t :: l) [] with
  | error e => rfl
  | ok x =>
   obtain ⟨p, l1, ns1⟩ := x
   simp only []
   cases headB p with
   | false => rfl
   | true =>
    rw [if_pos rfl, if_pos rfl]
    cases l1 with
    | nil => rfl
    | cons u l2 =>
     simp only []
     split
     ·rw [goalsS_P]
      cases hg : goalsP f 8 [] l2 ns1 with
      | error e => rfl
      | ok x =>
       obtain ⟨gs, l3, ns2⟩ := x
       obtain ⟨y, l4, rfl⟩ := goalsP_len f _ _ _ _ _ _ _ hg
       unfold noBad
       simp only []
       by_cases h : y.k = 63
       ·rw [if_pos h]
        simp only [dotS]
        rw [if_neg (by omega)]
       ·rw [if_neg h]
     ·rfl
end Rf
namespace Go.Proofs.YtbiojnljihgpoaaGreatDoor
open Go.RowKit
structure SlV where
 a : Option Addr
 n : Nat
 c : Nat
def slv (x : SlV) : Value := .slice x.a x.n x.c
def slCells (x : SlV) : List Value := [slv x]
theorem slCells_len (s : SlV) : (slCells s).length = 1 := rfl
theorem slCells_one (s : SlV) : ∀ u ∈ slCells s, u.oneCell' = true := by
 intro u hu
 simp only [slCells, List.mem_cons, List.not_mem_nil, or_false] at hu
 subst hu; rfl
theorem Tryz.elemTerms : ElemOk Tryz.prog 57 56 1 24 (.slice none 0 0) := ⟨Tryz.underlying57, by kernel_rfl, rfl, by decide, by decide⟩
structure PGs (w wr : World) (nb : Option Nat) (v : Value) (acc : List (SlV × List Rf.Part)) : Prop where
 row : RowIs wr 0 56 1 slCells v (acc.map (·.1))
 rowNew : ∀ k, v.ownBlock = some k -> New w wr nb k
 goals : ∀ q ∈ acc, PT (fun k => New w wr nb k /\ v.ownBlock ≠ some k) wr (slv q.1) q.2
theorem PGs.over {w wr w1 : World} {b : Nat} {nb nb1 : Option Nat} {v : Value} {acc : List (SlV × List Rf.Part)} (h : PGs w wr nb v acc) (hb : b < w.heap.size) (hk : Kept (May b nb) wr w1) (hn : Nb wr nb nb1) : PGs w w1 nb1 v acc := by
 have hsz := hk.size
 have mv : ∀ k, k < wr.heap.size -> w.heap.size <= k -> nb ≠ some k -> ¬ May b nb k /\ nb1 ≠ some k := fun k h1 h2 h3 => ⟨fun e => by rcases e with e | e; exact absurd e (by omega); exact h3 e.symm, hn.ne h3 h1⟩
 refine ⟨h.row.keptBy hk (fun k e => (mv k (h.rowNew k e).2.1 (h.rowNew k e).1 (h.rowNew k e).2.2).1), fun k e => ⟨(h.rowNew k e).1, by have := (h.rowNew k e).2.1; omega, (mv k (h.rowNew k e).2.1 (h.rowNew k e).1 (h.rowNew k e).2.2).2⟩, fun q hq => (h.goals q hq).keptBy hk (fun k hk1 hF => ?_)⟩
 obtain ⟨⟨f1, f2, f3⟩, f4⟩ := hF
 exact ⟨(mv k f2 f1 f3).1, ⟨f1, by omega, (mv k f2 f1 f3).2⟩, f4⟩
theorem pgs_ok {w wr w2 w3 : World} {r : Nat} {text : ByteArray} {o : Obj} {nb1 nb2 : Option Nat} {v : Value} {acc : List (SlV × List Rf.Part)} {x : SlV} {ps : List Rf.Part} {l : List Rf.Tok} {ns : List ByteArray} {gA n capA : Nat}
  (hs : w.heap.size <= wr.heap.size) (hs' : wr.heap.size <= w2.heap.size) (hA : PGs w wr nb1 v acc) (hA2 : PGs w w2 nb2 v acc) (hT2 : PT (New wr w2 nb2) w2 (slv x) ps) (hP2 : Pr w2 r text nb2 l ns) (hb : r < w.heap.size)
  (hgr : (w2.alloc o).grownBy w3 v.ownBlock) (hn : Nb (w2.alloc o) v.ownBlock (some gA)) (hr : RowIs w3 0 56 1 slCells (.slice (some ⟨gA, 0, none⟩) n capA) ((acc.map (·.1)) ++ [x])) :
  PGs w w3 nb2 (.slice (some ⟨gA, 0, none⟩) n capA) (acc ++ [(x, ps)]) /\ Pr w3 r text nb2 l ns /\ Kept (fun k => v.ownBlock = some k) w2 w3 /\ (∀ k, v.ownBlock = some k -> w.heap.size <= k) := by
 have hk : Kept (fun k => v.ownBlock = some k) w2 w3 := (((Kept.refl (fun k => v.ownBlock = some k) w2).alloc o).grown hgr (fun k e => .inr e))
 have hs2 : w2.heap.size + 1 <= w3.heap.size := by have := hgr.size; simpa using this
 have hgl : gA < w3.heap.size := (hr.lt gA rfl).2
 have hnl : ∀ k, nb2 = some k -> k < w2.heap.size := fun k e => hP2.lt.2.1 k e
 have hgn : w.heap.size <= gA /\ nb2 ≠ some gA := by
  rcases hn with e | ⟨k, e, hk⟩
  ·exact ⟨(hA2.rowNew gA e.symm).1, (hA2.rowNew gA e.symm).2.2⟩
  ·have := Option.some.inj e
   simp at hk
   exact ⟨by omega, fun e => by have := hnl gA e; omega⟩
 have tm : ∀ gv qs, PT (fun k => New w w2 nb2 k /\ v.ownBlock ≠ some k) w2 gv qs -> PT (fun k => New w w3 nb2 k /\ (Value.slice (some ⟨gA, 0, none⟩) n capA).ownBlock ≠ some k) w3 gv qs := by
  intro gv qs hq
  refine hq.keptBy hk (fun k hk1 hF => ?_)
  obtain ⟨⟨f1, f2, f3⟩, f4⟩ := hF
  exact ⟨f4, ⟨f1, by omega, f3⟩, fun e => hn.ne f4 (by simp; omega) e⟩
 refine ⟨⟨?_, fun k e => ?_, fun q hq => ?_⟩, hP2.keptBy hk (fun e => by have := (hA2.rowNew r e).1; omega) (fun k e e2 => (hA2.rowNew k e2).2.2 e), hk, fun k e => (hA2.rowNew k e).1⟩
 ·rw [List.map_append]; exact hr
 ·obtain rfl := Option.some.inj e
  exact ⟨hgn.1, hgl, hgn.2⟩
 ·rcases List.mem_append.1 hq with hq | hq
  ·exact tm _ _ (hA2.goals q hq)
  ·simp at hq; subst hq
   refine tm _ _ (hT2.keptBy (Kept.refl (fun _ => False) _) (fun k _ hF => ⟨fun e => e, ⟨by have := hF.1; omega, hF.2.1, hF.2.2⟩, fun e => ?_⟩))
   have := (hA.rowNew k e).2.1; have := hF.1; omega
def PGoalsPost (w : World) (r : Nat) (text : ByteArray) (nb : Option Nat) (res : Except (Int × Nat) (List (List Rf.Part) × List Rf.Tok × List ByteArray)) (x : Ending) (w' : World) : Prop :=
  Kept (May r nb) w w' /\
  (match res with
   | .ok (gs, l', ns') => ∃ (a : Option Addr) (n c : Nat) (nb' : Option Nat) (acc : List (SlV × List Rf.Part)), x = .returned (.tuple #[.slice a n c, .bool true]) /\ Pr w' r text nb' l' ns' /\ Nb w nb nb' /\ PGs w w' nb' (.slice a n c) acc /\ gs = acc.map (·.2) /\ acc.length <= 8
   | .error (e, q) => x = .returned (.tuple #[.slice none 0 0, .bool false]) /\ PrE w' r e q)
def PGoalsSt (w : World) (r : Nat) (text : ByteArray) (nb : Option Nat) (f : Nat) (want : Except (Int × Nat) (List (List Rf.Part) × List Rf.Tok × List ByteArray)) (m : Nat) (v : Value) (wr : World) : Prop :=
 Kept (May r nb) w wr /\ ∃ (k : Nat) (acc : List (SlV × List Rf.Part)) (l1 : List Rf.Tok) (ns1 : List ByteArray) (nb1 : Option Nat), m = k + 1 /\ k + 1 + acc.length = 8 /\ Pr wr r text nb1 l1 ns1 /\ Nb w nb nb1 /\ l1.length <= f /\ PGs w wr nb1 v acc /\ Hid (want = Rf.goalsP f (k + 1) (acc.map (·.2)) l1 ns1)
set_option maxHeartbeats 2000000 in
set_option maxRecDepth 100000 in
theorem pgoals_any (f : Nat) (r : Nat) (text : ByteArray) (nb : Option Nat) (l : List Rf.Tok) (ns : List ByteArray) (w : World) (h : Pr w r text nb l ns) (hl : l.length <= f) :
  Calls Tryz.prog 47 #[.pointer (some ⟨r, 0, none⟩)] w fun x w' => PGoalsPost w r text nb (Rf.goalsP f 8 [] l ns) x w' := by
 obtain ⟨hrl, hnl, hnr⟩ := h.lt
 have H : Hid _ := h
 clear h
 go_enter Tryz.func47, Tryz.ntmps47
 go_wp2_with fail
 go_loopg [4] 8 (fun m v wr => PGoalsSt w r text nb f (Rf.goalsP f 8 [] l ns) m v wr)
 case atStart => exact ⟨Kept.refl _ _, 7, [], l, ns, nb, rfl, rfl, H.out, .inl rfl, hl, ⟨RowIs.nil _ _ _ _ _, fun k e => by simp [Value.ownBlock] at e, fun q hq => by simp at hq⟩, rfl⟩
 case round =>
  obtain ⟨hKr, k, acc, l1, ns1, nb1, rfl, hk8, hP, hNb, hl1, hA, hwant⟩ := hrel
  obtain ⟨a, c, hv⟩ := row_slice hA.row
  rw [List.length_map] at hv
  subst hv
  have hrw := hKr.size
  have HP : Hid _ := hP
  have HA : Hid _ := hA
  clear hP hA
  cases hres : Rf.goalS f l1 ns1 with
  | error x =>
   obtain ⟨e, q⟩ := x
   have HR : Hid _ := hres
   clear hres
   have HW : Hid (Rf.goalsP f 8 [] l ns = .error (e, q)) := by unfold Hid; rw [hwant.out, Rf.goalsP, HR.out]
   go_wp2_with (go_at_call 63; refine (pgoal_any f r text nb1 l1 ns1 _ HP.out hl1).mono ?_; rintro x w2 ⟨hK2, hm⟩; rw [HR.out] at hm; obtain ⟨rfl, hE2⟩ := hm)
   refine bodyPost_ret (v := .tuple #[.slice none 0 0, .bool false]) (by simp [results, Tryz.results47, go_sem]) rfl ?_
   rw [HW.out]
   exact ⟨hKr.trans hK2 (May.of hNb), rfl, hE2⟩
  | ok x =>
   obtain ⟨ps, l2, ns2⟩ := x
   have HR : Hid _ := hres
   clear hres
   have hgood := Rf.goalS_good f l1 ns1 ps l2 ns2 HP.out.ended HP.out.n16 HR.out
   have hlen2 := goalS_len HR.out
   obtain ⟨_, _, _, hen2⟩ := hgood
   cases l2 with
   | nil => exact absurd rfl hen2.ne
   | cons u2 l3 =>
    have hl3 : l3.length <= f := by simp at hlen2; omega
    clear hen2 hlen2
    have hcar : (acc.length : Int) <= 7 := by omega
    have hmap : ∀ x : SlV, (acc ++ [(x, ps)]).map (·.2) = acc.map (·.2) ++ [ps] := fun x => by simp
    cases c7 : (Rf.kindOf u2.k != 7)
    ·have H44 : Hid (u2.k = 44) := Rf.kindOf_7 c7
     have H20 : Hid (u2.k ≠ 0) := by unfold Hid; rw [H44.out]; decide
     have H263 : Hid (u2.k ≠ 63) := by unfold Hid; rw [H44.out]; decide
     by_cases hk0 : k = 0
     ·subst hk0
      have hcar4 : (acc.length : Int) + 1 = 8 := by omega
      have HW : Hid (Rf.goalsP f 8 [] l ns = .error (3, u2.at_)) := by
       unfold Hid; rw [hwant.out, Rf.goalsP, HR.out]; simp only []; rw [if_pos H44.out, if_pos (by simp; omega)]
      have HX : Hid (Rf.errOf u2 3 = (3, u2.at_)) := errOf_no u2 3 (by rw [H44.out]; decide)
      go_wp2_with (first
      | (go_at_call 63; refine (pgoal_any f r text nb1 l1 ns1 _ HP.out hl1).mono ?_; rintro x w2 ⟨hK2, hm⟩; rw [HR.out] at hm; obtain ⟨g2, n2, c2, nb2, rfl, hP2, hNb2, hT2, hng2⟩ := hm; have hs2 := hK2.size; have hA2 := PGs.over HA.out hrl hK2 hNb2)
      | (at_builtin; refine wpList_app Tryz.elemTerms slCells slCells_len slCells_one _ rfl (.tmp 14) (.tmp 16) rfl 0 _ (acc.map (·.1)) rfl (hA2.row.alloc _) ⟨_, 0, none⟩ 1 (SlV.mk (some ⟨g2, 0, none⟩) n2 c2) rfl (cell_one_at _ _ rfl _ _) (by simp; omega) (Nat.zero_le _) ?_; intro gA capA w3 hrow3 hgr3 hnb3; rw [List.length_map] at hrow3; obtain ⟨hA3, hP3, hK3, hv3⟩ := pgs_ok (x := SlV.mk (some ⟨g2, 0, none⟩) n2 c2) hrw hs2 HA.out hA2 (hT2.pt hng2) hP2 hrl hgr3 hnb3 hrow3; obtain ⟨k1, ⟨_, k0⟩, kl⟩ := hP3.kind)
      | (go_at_call 64; refine (refuse_any _ r text nb2 u2 l3 ns2 3 hP3 (by decide)).mono ?_; rintro e w7 ⟨rfl, hE7, hK7⟩; rw [HX.out] at hE7))
      refine bodyPost_ret (v := .tuple #[.slice none 0 0, .bool false]) (by simp [results, Tryz.results47, go_sem]) rfl ?_
      rw [HW.out]
      exact ⟨((hKr.trans hK2 (May.of hNb)).trans hK3 (fun k hk e => absurd (hv3 k e) (by omega))).trans hK7 (fun _ _ e => Or.inl e), rfl, hE7⟩
     ·have hcar4 : (acc.length : Int) + 1 < 8 := by omega
      have HW : Hid (Rf.goalsP f 8 [] l ns = Rf.goalsP f k (acc.map (·.2) ++ [ps]) l3 ns2) := by
       unfold Hid; rw [hwant.out, Rf.goalsP, HR.out]; simp only []; rw [if_pos H44.out, if_neg (by simp; omega)]
      go_wp2_with (first
      | (go_at_call 63; refine (pgoal_any f r text nb1 l1 ns1 _ HP.out hl1).mono ?_; rintro x w2 ⟨hK2, hm⟩; rw [HR.out] at hm; obtain ⟨g2, n2, c2, nb2, rfl, hP2, hNb2, hT2, hng2⟩ := hm; have hs2 := hK2.size; have hA2 := PGs.over HA.out hrl hK2 hNb2)
      | (at_builtin; refine wpList_app Tryz.elemTerms slCells slCells_len slCells_one _ rfl (.tmp 14) (.tmp 16) rfl 0 _ (acc.map (·.1)) rfl (hA2.row.alloc _) ⟨_, 0, none⟩ 1 (SlV.mk (some ⟨g2, 0, none⟩) n2 c2) rfl (cell_one_at _ _ rfl _ _) (by simp; omega) (Nat.zero_le _) ?_; intro gA capA w3 hrow3 hgr3 hnb3; rw [List.length_map] at hrow3; obtain ⟨hA3, hP3, hK3, hv3⟩ := pgs_ok (x := SlV.mk (some ⟨g2, 0, none⟩) n2 c2) hrw hs2 HA.out hA2 (hT2.pt hng2) hP2 hrl hgr3 hnb3 hrow3; obtain ⟨k1, ⟨_, k0⟩, kl⟩ := hP3.kind)
      | (go_at_call 46; refine (step_any _ r text nb2 u2 l3 ns2 hP3 H20.out H263.out).mono ?_; rintro e w7 ⟨rfl, hP7, hK7⟩))
      go_roundg k
      case measure => omega
      case rel =>
       refine ⟨((hKr.trans hK2 (May.of hNb)).trans hK3 (fun k hk e => absurd (hv3 k e) (by omega))).trans hK7 (fun _ _ e => Or.inl e), k - 1, _, l3, ns2, nb2, by omega, ?_, hP7, (Nb.trans hNb hNb2 (by omega)), hl3, hA3.over hrl (hK7.mono (fun _ _ e => Or.inl e)) (.inl rfl), ?_⟩
       ·simp; omega
       ·show Rf.goalsP f 8 [] l ns = Rf.goalsP f (k - 1 + 1) ((acc ++ [(SlV.mk (some ⟨g2, 0, none⟩) n2 c2, ps)]).map (·.2)) l3 ns2
        rw [show k - 1 + 1 = k by omega, hmap]; exact HW.out
    ·have H44 : Hid (u2.k ≠ 44) := Rf.kindOf_n7 c7
     have HW : Hid (Rf.goalsP f 8 [] l ns = .ok (acc.map (·.2) ++ [ps], u2 :: l3, ns2)) := by
      unfold Hid; rw [hwant.out, Rf.goalsP, HR.out]; simp only []; rw [if_neg H44.out]
     go_wp2_with (first
      | (go_at_call 63; refine (pgoal_any f r text nb1 l1 ns1 _ HP.out hl1).mono ?_; rintro x w2 ⟨hK2, hm⟩; rw [HR.out] at hm; obtain ⟨g2, n2, c2, nb2, rfl, hP2, hNb2, hT2, hng2⟩ := hm; have hs2 := hK2.size; have hA2 := PGs.over HA.out hrl hK2 hNb2)
      | (at_builtin; refine wpList_app Tryz.elemTerms slCells slCells_len slCells_one _ rfl (.tmp 14) (.tmp 16) rfl 0 _ (acc.map (·.1)) rfl (hA2.row.alloc _) ⟨_, 0, none⟩ 1 (SlV.mk (some ⟨g2, 0, none⟩) n2 c2) rfl (cell_one_at _ _ rfl _ _) (by simp; omega) (Nat.zero_le _) ?_; intro gA capA w3 hrow3 hgr3 hnb3; rw [List.length_map] at hrow3; obtain ⟨hA3, hP3, hK3, hv3⟩ := pgs_ok (x := SlV.mk (some ⟨g2, 0, none⟩) n2 c2) hrw hs2 HA.out hA2 (hT2.pt hng2) hP2 hrl hgr3 hnb3 hrow3; obtain ⟨k1, ⟨_, k0⟩, kl⟩ := hP3.kind))
     refine bodyPost_ret (v := .tuple #[.slice (some ⟨gA, 0, none⟩) (acc.length + 1) capA, .bool true]) (by simp [results, Tryz.results47, go_sem]) rfl ?_
     rw [HW.out]
     exact ⟨((hKr.trans hK2 (May.of hNb)).trans hK3 (fun k hk e => absurd (hv3 k e) (by omega))), _, _, _, nb2, _, rfl, hP3, (Nb.trans hNb hNb2 (by omega)), hA3, (hmap _).symm, by simp; omega⟩
end Go.Proofs.YtbiojnljihgpoaaGreatDoor
