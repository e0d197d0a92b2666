
import Derived.Test.YtbiojnljihgpoaaGreatDoorZau
import Derived.Deep.LoopGhost
import Derived.Deep.CutRange
namespace Rf
def ArgsOk (t : List Part) : Prop := ∀ p ∈ t, 0 <= p.args /\ p.args <= 4
theorem leadN_le : ∀ (t : List Part) (m : Int), leadN m t <= t.length
 | [], _ => Nat.le_refl _
 | p :: t, m => by
  rw [leadN]
  have := leadN_le t (m + (p.args - 1))
  split
  ·simp
  ·simp; omega
theorem lead_le (t : List Part) : leadT t <= t.length := leadN_le t 1
theorem lead_pos (p : Part) (t : List Part) : 1 <= leadT (p :: t) := by
 unfold leadT; rw [leadN]; split <;> omega
theorem sizeT_mem : ∀ {ts : List (List Part)} {t : List Part}, t ∈ ts -> t.length <= sizeT ts
 | [], _, h => by cases h
 | u :: ts, t, h => by
  rw [sizeT]
  rcases List.mem_cons.1 h with rfl | h
  ·omega
  ·have := sizeT_mem h; omega
theorem halt_go {n : Nat} {p q : Part} {f s : List Part} {bo be te : List (List Part)} (h : haltN (n + 1) ⟨p :: f, q :: s, bo, be, te⟩ = true) (h0 : (stepE ⟨p :: f, q :: s, bo, be, te⟩).1 = 0) : haltN n (stepE ⟨p :: f, q :: s, bo, be, te⟩).2 = true := by
 rw [haltN, if_neg (by simp [doneE]), if_pos h0] at h
 exact h
theorem solve_go {n : Nat} {p q : Part} {f s : List Part} {bo be te : List (List Part)} (h0 : (stepE ⟨p :: f, q :: s, bo, be, te⟩).1 = 0) : solveN (n + 1) ⟨p :: f, q :: s, bo, be, te⟩ = solveN n (stepE ⟨p :: f, q :: s, bo, be, te⟩).2 := by
 rw [solveN, if_neg (by simp [doneE]), if_pos h0]
theorem solve_stop {n : Nat} {p q : Part} {f s : List Part} {bo be te : List (List Part)} (h0 : (stepE ⟨p :: f, q :: s, bo, be, te⟩).1 ≠ 0) : solveN (n + 1) ⟨p :: f, q :: s, bo, be, te⟩ = stepE ⟨p :: f, q :: s, bo, be, te⟩ := by
 rw [solveN, if_neg (by simp [doneE]), if_neg h0]
theorem step_same (p : Part) (f s : List Part) (bo be te : List (List Part)) : stepE ⟨p :: f, p :: s, bo, be, te⟩ = (0, ⟨f, s, bo, be, te⟩) := by
 simp only [stepE]; rw [if_pos (samePart_iff.2 rfl)]
theorem step_first {p q : Part} (f s : List Part) (bo be te : List (List Part)) (hne : p ≠ q) (h1 : p.kind = 1) : stepE ⟨p :: f, q :: s, bo, be, te⟩ = putE ⟨f, (q :: s).drop (leadT (q :: s)), bo, be, te⟩ p.value ((q :: s).take (leadT (q :: s))) := by
 simp only [stepE]; rw [if_neg (fun e => hne (samePart_iff.1 e)), if_pos h1]
theorem step_second {p q : Part} (f s : List Part) (bo be te : List (List Part)) (hne : p ≠ q) (h1 : p.kind ≠ 1) (h2 : q.kind = 1) : stepE ⟨p :: f, q :: s, bo, be, te⟩ = putE ⟨(p :: f).drop (leadT (p :: f)), s, bo, be, te⟩ q.value ((p :: f).take (leadT (p :: f))) := by
 simp only [stepE]; rw [if_neg (fun e => hne (samePart_iff.1 e)), if_neg h1, if_pos h2]
theorem step_none {p q : Part} (f s : List Part) (bo be te : List (List Part)) (hne : p ≠ q) (h1 : p.kind ≠ 1) (h2 : q.kind ≠ 1) : stepE ⟨p :: f, q :: s, bo, be, te⟩ = (-1, ⟨p :: f, q :: s, bo, be, te⟩) := by
 simp only [stepE]; rw [if_neg (fun e => hne (samePart_iff.1 e)), if_neg h1, if_neg h2]
theorem part_ext {p q : Part} (h1 : p.kind = q.kind) (h2 : p.name.toList = q.name.toList) (h3 : p.value = q.value) (h4 : p.args = q.args) : p = q := by
 have h5 : p.name = q.name := by
  have h6 := Go.beq_toList p.name q.name
  rw [h2] at h6
  simpa using h6
 cases p; cases q
 simp at h1 h3 h4 h5
 simp [h1, h3, h4, h5]
end Rf
namespace Go.Proofs.YtbiojnljihgpoaaGreatDoor
open Go.RowKit
structure EqGood (E : Rf.Eqn) : Prop where
 ok : EqOk E
 f : Rf.ArgsOk E.f
 s : Rf.ArgsOk E.s
theorem putE_good {E : Rf.Eqn} {v : Int} {x : List Rf.Part} (h : EqGood E) (hx : Rf.ArgsOk x) (h0 : (Rf.putE E v x).1 = 0) : EqGood (Rf.putE E v x).2 := by
 obtain ⟨_, e1, e2⟩ := Rf.putE_ok h0
 rw [e1]
 have hz := e2
 unfold Rf.Eqn.size at hz
 refine ⟨⟨by omega, by omega, ⟨?_, ?_⟩, ⟨?_, ?_⟩, ⟨?_, ?_⟩⟩, ?_, ?_⟩
 ·have := h.ok.b.1; simpa [Rf.Eqn.put] using this
 ·intro t ht; have := Rf.sizeT_mem ht; omega
 ·have := h.ok.h.1; simpa [Rf.Eqn.put] using this
 ·intro t ht; have := Rf.sizeT_mem ht; omega
 ·have := h.ok.t.1; simpa [Rf.Eqn.put] using this
 ·intro t ht; have := Rf.sizeT_mem ht; omega
 ·intro p hp
  rcases Rf.putV_mem hp with ⟨h1, _⟩ | h1
  ·exact h.f p h1
  ·exact hx p h1
 ·intro p hp
  rcases Rf.putV_mem hp with ⟨h1, _⟩ | h1
  ·exact h.s p h1
  ·exact hx p h1
theorem EqGood.drops {E : Rf.Eqn} (h : EqGood E) (m n : Nat) : EqGood { E with f := E.f.drop m, s := E.s.drop n } :=
 ⟨⟨by have := h.ok.f; simp; omega, by have := h.ok.s; simp; omega, h.ok.b, h.ok.h, h.ok.t⟩, fun p hp => h.f p (List.mem_of_mem_drop hp), fun p hp => h.s p (List.mem_of_mem_drop hp)⟩
theorem Seen.keptEq {w w' : World} {v : Value} {ps : List Rf.Part} {e : Nat} {vf vs vb vh vt : Value} (h : Seen w 101 partCells v ps) (hB : EqB w e vf vs vb vh vt) (hk : Kept (fun k => k = e) w w') : Seen w' 101 partCells v ps :=
 h.kept hk (fun k cs hc he => by subst he; rw [show w.heap[k]? = _ from hB] at hc; injection hc with h1; injection h1 with _ h2; exact absurd h2 (by decide))
set_option maxHeartbeats 4000000 in
set_option maxRecDepth 100000 in
theorem psolve_any (w : World) (e : Nat) (E : Rf.Eqn) (h : EqAt w e E) (hg : EqGood E) :
  Calls Tryz.prog 121 #[.pointer (some ⟨e, 0, none⟩)] w fun r w' => r = .returned (.int .i64 (Rf.solveE E).1) /\ Kept (fun k => k = e) w w' /\ ((Rf.solveE E).1 = 0 -> EqAt w' e (Rf.solveE E).2) := by
 have H : Hid _ := h
 have HG : Hid _ := hg
 clear h hg
 go_enter Tryz.func121, Tryz.ntmps121
 go_wp2_with fail
 go_loopg [] (Rf.fuelE E) (fun m wr => ∃ E1, Hid (Rf.haltN m E1 = true) /\ Hid (Rf.solveN m E1 = Rf.solveE E) /\ EqAt wr e E1 /\ EqGood E1 /\ Kept (fun k => k = e) w wr)
 case atStart => exact ⟨E, Rf.haltE E, rfl, H.out, HG.out, Kept.refl _ _⟩
 case round =>
  obtain ⟨E1, hh, hso, hA, hG, hk⟩ := hrel
  obtain ⟨vf, vs, vb, vh, vt, hB, hE⟩ := hA.ex
  obtain ⟨a1, c1, rfl⟩ := hE.f.slice
  obtain ⟨a2, c2, rfl⟩ := hE.s.slice
  obtain ⟨k0, k1, k2, k3, k4, kf, kl⟩ := hB.facts
  obtain ⟨n, rfl⟩ : ∃ n, gk = n + 1 := by
   cases gk with
   | zero => have := hh.out; simp [Rf.haltN] at this
   | succ n => exact ⟨n, rfl⟩
  obtain ⟨F, S, bo, be, te⟩ := E1
  have HA : Hid _ := hA
  have HB : Hid _ := hB
  have HE : Hid _ := hE
  have HG1 : Hid _ := hG
  clear hA hB hE hG
  cases F with
  | nil =>
   have hS : Hid (Rf.solveE E = (0, ⟨[], S, bo, be, te⟩)) := by unfold Hid; rw [<- hso.out, Rf.solveN, if_pos (by simp [Rf.doneE])]
   simp only [List.length_nil] at k0
   go_wp2_with fail
   go_ret
   exact ⟨ret_int (by rw [hS.out]), hk, fun _ => by rw [hS.out]; exact HA.out⟩
  | cons p f =>
  cases S with
  | nil =>
   have hS : Hid (Rf.solveE E = (0, ⟨p :: f, [], bo, be, te⟩)) := by unfold Hid; rw [<- hso.out, Rf.solveN, if_pos (by simp [Rf.doneE])]
   simp only [List.length_nil, List.length_cons] at k0 k1
   go_wp2_with fail
   go_ret
   exact ⟨ret_int (by rw [hS.out]), hk, fun _ => by rw [hS.out]; exact HA.out⟩
  | cons q s =>
   obtain ⟨g1, o1, rfl⟩ := HE.out.f.pos (by simp)
   obtain ⟨g2, o2, rfl⟩ := HE.out.s.pos (by simp)
   have hg1 := HE.out.f.lt
   have hg2 := HE.out.s.lt
   obtain ⟨x0, x1, x2, x3⟩ := Seen.parts HE.out.f 0 p rfl
   obtain ⟨y0, y1, y2, y3⟩ := Seen.parts HE.out.s 0 q rfl
   simp only [Nat.zero_mul, Nat.add_zero] at x0 x1 x2 x3 y0 y1 y2 y3
   simp only [List.length_cons] at k0 k1
   have hc1 := HE.out.f.cap
   have hc2 := HE.out.s.cap
   simp only [List.length_cons] at hc1 hc2
   have hel : ¬ wr.heap.size = e := by omega
   have hel1 : ¬ wr.heap.size + 1 = e := by omega
   by_cases hpq : p = q
   ·subst hpq
    have hst := Rf.step_same p f s bo be te
    have hH2 : Hid (Rf.haltN n ⟨f, s, bo, be, te⟩ = true) := by have := Rf.halt_go hh.out (by rw [hst]); rw [hst] at this; exact this
    have hS2 : Hid (Rf.solveN n ⟨f, s, bo, be, te⟩ = Rf.solveE E) := by have h9 := hso.out; rw [Rf.solve_go (by rw [hst]), hst] at h9; exact h9
    clear hst
    go_wp2_with (go_at_call 134; refine (pdrop_any _ e 1 1 ⟨p :: f, p :: s, bo, be, te⟩ ⟨_, _, _, _, _, (Below.block ((by repeat(first|exact bl0 _ _|refine bl1 ?_ (by simp<;>omega) _|refine bl2 ?_|refine bl3 ?_ _|refine bl4 ?_ (by simp<;>omega) _)) : Below wr.heap.size wr _) e kl).trans HB.out, HE.out.below (by repeat(first|exact bl0 _ _|refine bl1 ?_ (by simp<;>omega) _|refine bl2 ?_|refine bl3 ?_ _|refine bl4 ?_ (by simp<;>omega) _))⟩ (by simp) (by simp) (by simp) (by simp)).mono ?_; rintro r w2 ⟨rfl, hA2, hk2⟩)
    go_roundg n
    case measure => omega
    case rel => exact ⟨⟨f, s, bo, be, te⟩, hH2, hS2, hA2, HG1.out.drops 1 1, (hk.trans (Kept.of_below ((by repeat(first|exact bl0 _ _|refine bl1 ?_ (by simp<;>omega) _|refine bl2 ?_|refine bl3 ?_ _|refine bl4 ?_ (by simp<;>omega) _)) : Below wr.heap.size wr _) (fun k => k = e)) (fun _ _ h => h)).trans hk2 (fun _ _ h => h)⟩
   ·have Hpq : Hid _ := hpq
    clear hpq
    cases c1k : (p.kind == 1)
    ·cases c2k : (q.kind == 1)
     ·have hst := Rf.step_none f s bo be te Hpq.out (beq_eq_false_iff_ne.1 c1k) (beq_eq_false_iff_ne.1 c2k)
      have hS2 : Hid (Rf.solveE E = (-1, ⟨p :: f, q :: s, bo, be, te⟩)) := by unfold Hid; rw [<- hso.out, Rf.solve_stop (by rw [hst]; intro h; cases h), hst]
      clear hst
      go_upto_region 6 with fail
      go_cut [34] from 8 to 88 (fun b wx => b = .bool false /\ wx = ((wr.alloc (Obj.cells #[.int .i64 p.kind, .string p.name, .int .i64 p.value, .int .i64 p.args] 101)).alloc (Obj.cells #[.int .i64 q.kind, .string q.name, .int .i64 q.value, .int .i64 q.args] 101)))
      case first =>
       go_wp2_with fail
       all_goals first | (exfalso; exact Hpq.out (Rf.part_ext (by assumption) (by assumption) (by assumption) (by assumption))) | (go_meet; exact ⟨rfl, by simp [*]⟩)
      case rest =>
       obtain ⟨rfl, rfl⟩ := hcut
       go_wp2_with fail
       go_ret
       exact ⟨ret_int (by rw [hS2.out]), hk.trans (Kept.of_below ((by repeat(first|exact bl0 _ _|refine bl1 ?_ (by simp<;>omega) _|refine bl2 ?_|refine bl3 ?_ _|refine bl4 ?_ (by simp<;>omega) _)) : Below wr.heap.size wr _) (fun k => k = e)) (fun _ _ h => h), fun h9 => by rw [hS2.out] at h9; cases h9⟩
     ·obtain ⟨L, hL⟩ : ∃ L, L = Rf.leadT (p :: f) := ⟨_, rfl⟩
      have hL1 : 1 <= L := by rw [hL]; exact Rf.lead_pos _ _
      have hL2 : L <= f.length + 1 := by rw [hL]; exact Rf.lead_le _
      have hst := Rf.step_second f s bo be te Hpq.out (beq_eq_false_iff_ne.1 c1k) (eq_of_beq c2k)
      rw [<- hL] at hst
      have HL : Hid _ := hL
      have hXa : Rf.ArgsOk ((p :: f).take L) := fun y hy => HG1.out.f y (List.mem_of_mem_take hy)
      have HG2 : Hid (EqGood ⟨(p :: f).drop L, s, bo, be, te⟩) := HG1.out.drops L 1
      have Hxl : Hid (((p :: f).take L).length = L) := by unfold Hid; rw [List.length_take]; simp; omega
      have hl4 : f.length + 1 <= 400 := HG1.out.ok.f
      have hLc : (L : Int) <= (c1 : Nat) := by omega
      clear hL
      by_cases h0 : (Rf.putE ⟨(p :: f).drop L, s, bo, be, te⟩ q.value ((p :: f).take L)).1 = 0
      ·have hH2 : Hid (Rf.haltN n (Rf.putE ⟨(p :: f).drop L, s, bo, be, te⟩ q.value ((p :: f).take L)).2 = true) := by have h9 := Rf.halt_go hh.out (by rw [hst]; exact h0); rw [hst] at h9; exact h9
       have hS2 : Hid (Rf.solveN n (Rf.putE ⟨(p :: f).drop L, s, bo, be, te⟩ q.value ((p :: f).take L)).2 = Rf.solveE E) := by have h9 := hso.out; rw [Rf.solve_go (by rw [hst]; exact h0), hst] at h9; exact h9
       have hG3 : Hid (EqGood (Rf.putE ⟨(p :: f).drop L, s, bo, be, te⟩ q.value ((p :: f).take L)).2) := putE_good HG2.out hXa h0
       have H0 : Hid ((Rf.putE ⟨(p :: f).drop L, s, bo, be, te⟩ q.value ((p :: f).take L)).1 = 0) := h0
       clear hst h0 hXa
       go_upto_region 6 with fail
       go_cut [34] from 8 to 88 (fun b wx => b = .bool false /\ wx = ((wr.alloc (Obj.cells #[.int .i64 p.kind, .string p.name, .int .i64 p.value, .int .i64 p.args] 101)).alloc (Obj.cells #[.int .i64 q.kind, .string q.name, .int .i64 q.value, .int .i64 q.args] 101)))
       case first =>
        go_wp2_with fail
        all_goals first | (exfalso; exact Hpq.out (Rf.part_ext (by assumption) (by assumption) (by assumption) (by assumption))) | (go_meet; exact ⟨rfl, by simp [*]⟩)
       case rest =>
        obtain ⟨rfl, rfl⟩ := hcut
        go_upto_region 13 with fail
        go_cut [7] from 8 to 88 (fun ov wx => ov = .slice (some ⟨g1, o1, none⟩) L c1 /\ Below wr.heap.size wr wx /\ wx.heap[(wr.heap.size + 1)]? = some (Obj.cells #[.int .i64 q.kind, .string q.name, .int .i64 q.value, .int .i64 q.args] 101))
        case first =>
         go_region_with (go_at_call 128; refine (plead_any _ (some ⟨g1, o1, none⟩) _ c1 (p :: f) (HE.out.f.below (by repeat(first|exact bl0 _ _|refine bl1 ?_ (by simp<;>omega) _|refine bl2 ?_|refine bl3 ?_ _|refine bl4 ?_ (by simp<;>omega) _))) HG1.out.f (by simp; omega)).mono ?_; rintro r w1 ⟨rfl, hb1⟩; rw [<- HL.out]; have hbw1 : Below wr.heap.size wr w1 := Below.trans ((by repeat(first|exact bl0 _ _|refine bl1 ?_ (by simp<;>omega) _|refine bl2 ?_|refine bl3 ?_ _|refine bl4 ?_ (by simp<;>omega) _)) : Below wr.heap.size wr (World.drew ((wr.alloc (Obj.cells #[.int .i64 p.kind, .string p.name, .int .i64 p.value, .int .i64 p.args] 101)).alloc (Obj.cells #[.int .i64 q.kind, .string q.name, .int .i64 q.value, .int .i64 q.args] 101)))) (hb1.mono (by simp; omega)); have hB1 : EqB w1 e _ _ _ _ _ := (hbw1.block e kl).trans HB.out; obtain ⟨l0, l1, l2, l3, l4, lf, ll⟩ := EqB.facts hB1; have hP1 : w1.heap[(wr.heap.size + 1)]? = some (Obj.cells #[.int .i64 q.kind, .string q.name, .int .i64 q.value, .int .i64 q.args] 101) := (hb1.block (wr.heap.size + 1) (by simp <;> omega)).trans (blk_at _ _ _ (by simp)))
         all_goals
          go_wp2_with fail
          go_meet
          exact ⟨rfl, hbw1, hP1⟩
        case rest =>
         obtain ⟨rfl, hbw1, hP1⟩ := hcut
         have hz1 := hbw1.size
         have hB1 : EqB wc e _ _ _ _ _ := (hbw1.block e kl).trans HB.out
         obtain ⟨l0, l1, l2, l3, l4, lf, ll⟩ := EqB.facts hB1
         have hA1 : Hid (EqAt wc e ⟨p :: f, q :: s, bo, be, te⟩) := ⟨_, _, _, _, _, hB1, HE.out.below hbw1⟩
         have hX1 : Hid (Seen wc 101 partCells (.slice (some ⟨g1, o1, none⟩) L c1) ((p :: f).take L)) := (HE.out.f.below hbw1).take L (by simp; omega)
         have hlc : (wr.heap.size + 1) < wc.heap.size := blk_lt hP1
         have HP1 : Hid _ := hP1
         have HB1 : Hid _ := hB1
         clear hP1 hB1
         go_wp2_with (first
          | (go_at_call 134; refine (pdrop_any _ e L 1 ⟨p :: f, q :: s, bo, be, te⟩ hA1.out (by simp) (by simp) (by simp <;> omega) (by simp <;> omega)).mono ?_; rintro r w2 ⟨rfl, hA2, hk2⟩; have hP2 := (hk2.block (wr.heap.size + 1) hlc hel1).trans HP1.out; have t2 : w2.cell? ⟨(wr.heap.size + 1), 2, none⟩ = some (.int .i64 q.value) := blk_cell hP2 2; have hX2 := Seen.keptEq hX1.out HB1.out hk2)
          | (go_at_call 135; refine (pputE_any q.value _ e ⟨(p :: f).drop L, s, bo, be, te⟩ hA2 HG2.out.ok _ L c1 ((p :: f).take L) hX2 (by rw [Hxl.out]; exact hL1) (by rw [Hxl.out]; omega)).mono ?_; rintro r w3 ⟨rfl, hk3, hA3⟩; rw [H0.out]))
         go_roundg n
         case measure => omega
         case rel => exact ⟨(Rf.putE ⟨(p :: f).drop L, s, bo, be, te⟩ q.value ((p :: f).take L)).2, hH2, hS2, hA3 H0.out, hG3.out, ((hk.trans (Kept.of_below hbw1 (fun k => k = e)) (fun _ _ h => h)).trans hk2 (fun _ _ h => h)).trans hk3 (fun _ _ h => h)⟩
      ·have hS2 : Hid (Rf.solveE E = (Rf.putE ⟨(p :: f).drop L, s, bo, be, te⟩ q.value ((p :: f).take L))) := by unfold Hid; rw [<- hso.out, Rf.solve_stop (by rw [hst]; exact h0), hst]
       have h0' : ((Rf.putE ⟨(p :: f).drop L, s, bo, be, te⟩ q.value ((p :: f).take L)).1 == 0) = false := beq_eq_false_iff_ne.2 h0
       have h0'' : ((Rf.putE ⟨(p :: f).drop L, s, bo, be, te⟩ q.value ((p :: f).take L)).1 != 0) = true := bne_iff_ne.2 h0
       have H0 : Hid _ := h0
       clear hst h0 hXa
       go_upto_region 6 with fail
       go_cut [34] from 8 to 88 (fun b wx => b = .bool false /\ wx = ((wr.alloc (Obj.cells #[.int .i64 p.kind, .string p.name, .int .i64 p.value, .int .i64 p.args] 101)).alloc (Obj.cells #[.int .i64 q.kind, .string q.name, .int .i64 q.value, .int .i64 q.args] 101)))
       case first =>
        go_wp2_with fail
        all_goals first | (exfalso; exact Hpq.out (Rf.part_ext (by assumption) (by assumption) (by assumption) (by assumption))) | (go_meet; exact ⟨rfl, by simp [*]⟩)
       case rest =>
        obtain ⟨rfl, rfl⟩ := hcut
        go_upto_region 13 with fail
        go_cut [7] from 8 to 88 (fun ov wx => ov = .slice (some ⟨g1, o1, none⟩) L c1 /\ Below wr.heap.size wr wx /\ wx.heap[(wr.heap.size + 1)]? = some (Obj.cells #[.int .i64 q.kind, .string q.name, .int .i64 q.value, .int .i64 q.args] 101))
        case first =>
         go_region_with (go_at_call 128; refine (plead_any _ (some ⟨g1, o1, none⟩) _ c1 (p :: f) (HE.out.f.below (by repeat(first|exact bl0 _ _|refine bl1 ?_ (by simp<;>omega) _|refine bl2 ?_|refine bl3 ?_ _|refine bl4 ?_ (by simp<;>omega) _))) HG1.out.f (by simp; omega)).mono ?_; rintro r w1 ⟨rfl, hb1⟩; rw [<- HL.out]; have hbw1 : Below wr.heap.size wr w1 := Below.trans ((by repeat(first|exact bl0 _ _|refine bl1 ?_ (by simp<;>omega) _|refine bl2 ?_|refine bl3 ?_ _|refine bl4 ?_ (by simp<;>omega) _)) : Below wr.heap.size wr (World.drew ((wr.alloc (Obj.cells #[.int .i64 p.kind, .string p.name, .int .i64 p.value, .int .i64 p.args] 101)).alloc (Obj.cells #[.int .i64 q.kind, .string q.name, .int .i64 q.value, .int .i64 q.args] 101)))) (hb1.mono (by simp; omega)); have hB1 : EqB w1 e _ _ _ _ _ := (hbw1.block e kl).trans HB.out; obtain ⟨l0, l1, l2, l3, l4, lf, ll⟩ := EqB.facts hB1; have hP1 : w1.heap[(wr.heap.size + 1)]? = some (Obj.cells #[.int .i64 q.kind, .string q.name, .int .i64 q.value, .int .i64 q.args] 101) := (hb1.block (wr.heap.size + 1) (by simp <;> omega)).trans (blk_at _ _ _ (by simp)))
         all_goals
          go_wp2_with fail
          go_meet
          exact ⟨rfl, hbw1, hP1⟩
        case rest =>
         obtain ⟨rfl, hbw1, hP1⟩ := hcut
         have hz1 := hbw1.size
         have hB1 : EqB wc e _ _ _ _ _ := (hbw1.block e kl).trans HB.out
         obtain ⟨l0, l1, l2, l3, l4, lf, ll⟩ := EqB.facts hB1
         have hA1 : Hid (EqAt wc e ⟨p :: f, q :: s, bo, be, te⟩) := ⟨_, _, _, _, _, hB1, HE.out.below hbw1⟩
         have hX1 : Hid (Seen wc 101 partCells (.slice (some ⟨g1, o1, none⟩) L c1) ((p :: f).take L)) := (HE.out.f.below hbw1).take L (by simp; omega)
         have hlc : (wr.heap.size + 1) < wc.heap.size := blk_lt hP1
         have HP1 : Hid _ := hP1
         have HB1 : Hid _ := hB1
         clear hP1 hB1
         go_wp2_with (first
          | (go_at_call 134; refine (pdrop_any _ e L 1 ⟨p :: f, q :: s, bo, be, te⟩ hA1.out (by simp) (by simp) (by simp <;> omega) (by simp <;> omega)).mono ?_; rintro r w2 ⟨rfl, hA2, hk2⟩; have hP2 := (hk2.block (wr.heap.size + 1) hlc hel1).trans HP1.out; have t2 : w2.cell? ⟨(wr.heap.size + 1), 2, none⟩ = some (.int .i64 q.value) := blk_cell hP2 2; have hX2 := Seen.keptEq hX1.out HB1.out hk2)
          | (go_at_call 135; refine (pputE_any q.value _ e ⟨(p :: f).drop L, s, bo, be, te⟩ hA2 HG2.out.ok _ L c1 ((p :: f).take L) hX2 (by rw [Hxl.out]; exact hL1) (by rw [Hxl.out]; omega)).mono ?_; rintro r w3 ⟨rfl, hk3, hA3⟩; skip))
         go_ret
         exact ⟨ret_int (by rw [hS2.out]), ((hk.trans (Kept.of_below hbw1 (fun k => k = e)) (fun _ _ h => h)).trans hk2 (fun _ _ h => h)).trans hk3 (fun _ _ h => h), fun h9 => by rw [hS2.out] at h9; exact absurd h9 H0.out⟩
    ·obtain ⟨L, hL⟩ : ∃ L, L = Rf.leadT (q :: s) := ⟨_, rfl⟩
     have hL1 : 1 <= L := by rw [hL]; exact Rf.lead_pos _ _
     have hL2 : L <= s.length + 1 := by rw [hL]; exact Rf.lead_le _
     have hst := Rf.step_first f s bo be te Hpq.out (eq_of_beq c1k)
     rw [<- hL] at hst
     have HL : Hid _ := hL
     have hXa : Rf.ArgsOk ((q :: s).take L) := fun y hy => HG1.out.s y (List.mem_of_mem_take hy)
     have HG2 : Hid (EqGood ⟨f, (q :: s).drop L, bo, be, te⟩) := HG1.out.drops 1 L
     have Hxl : Hid (((q :: s).take L).length = L) := by unfold Hid; rw [List.length_take]; simp; omega
     have hl4 : s.length + 1 <= 400 := HG1.out.ok.s
     have hLc : (L : Int) <= (c2 : Nat) := by omega
     clear hL
     by_cases h0 : (Rf.putE ⟨f, (q :: s).drop L, bo, be, te⟩ p.value ((q :: s).take L)).1 = 0
     ·have hH2 : Hid (Rf.haltN n (Rf.putE ⟨f, (q :: s).drop L, bo, be, te⟩ p.value ((q :: s).take L)).2 = true) := by have h9 := Rf.halt_go hh.out (by rw [hst]; exact h0); rw [hst] at h9; exact h9
      have hS2 : Hid (Rf.solveN n (Rf.putE ⟨f, (q :: s).drop L, bo, be, te⟩ p.value ((q :: s).take L)).2 = Rf.solveE E) := by have h9 := hso.out; rw [Rf.solve_go (by rw [hst]; exact h0), hst] at h9; exact h9
      have hG3 : Hid (EqGood (Rf.putE ⟨f, (q :: s).drop L, bo, be, te⟩ p.value ((q :: s).take L)).2) := putE_good HG2.out hXa h0
      have H0 : Hid ((Rf.putE ⟨f, (q :: s).drop L, bo, be, te⟩ p.value ((q :: s).take L)).1 = 0) := h0
      clear hst h0 hXa
      go_upto_region 6 with fail
      go_cut [34] from 8 to 88 (fun b wx => b = .bool false /\ wx = ((wr.alloc (Obj.cells #[.int .i64 p.kind, .string p.name, .int .i64 p.value, .int .i64 p.args] 101)).alloc (Obj.cells #[.int .i64 q.kind, .string q.name, .int .i64 q.value, .int .i64 q.args] 101)))
      case first =>
       go_wp2_with fail
       all_goals first | (exfalso; exact Hpq.out (Rf.part_ext (by assumption) (by assumption) (by assumption) (by assumption))) | (go_meet; exact ⟨rfl, by simp [*]⟩)
      case rest =>
       obtain ⟨rfl, rfl⟩ := hcut
       go_upto_region 9 with fail
       go_cut [6] from 8 to 88 (fun ov wx => ov = .slice (some ⟨g2, o2, none⟩) L c2 /\ Below wr.heap.size wr wx /\ wx.heap[wr.heap.size]? = some (Obj.cells #[.int .i64 p.kind, .string p.name, .int .i64 p.value, .int .i64 p.args] 101))
       case first =>
        go_region_with (go_at_call 128; refine (plead_any _ (some ⟨g2, o2, none⟩) _ c2 (q :: s) (HE.out.s.below (by repeat(first|exact bl0 _ _|refine bl1 ?_ (by simp<;>omega) _|refine bl2 ?_|refine bl3 ?_ _|refine bl4 ?_ (by simp<;>omega) _))) HG1.out.s (by simp; omega)).mono ?_; rintro r w1 ⟨rfl, hb1⟩; rw [<- HL.out]; have hbw1 : Below wr.heap.size wr w1 := Below.trans ((by repeat(first|exact bl0 _ _|refine bl1 ?_ (by simp<;>omega) _|refine bl2 ?_|refine bl3 ?_ _|refine bl4 ?_ (by simp<;>omega) _)) : Below wr.heap.size wr (World.drew ((wr.alloc (Obj.cells #[.int .i64 p.kind, .string p.name, .int .i64 p.value, .int .i64 p.args] 101)).alloc (Obj.cells #[.int .i64 q.kind, .string q.name, .int .i64 q.value, .int .i64 q.args] 101)))) (hb1.mono (by simp; omega)); have hB1 : EqB w1 e _ _ _ _ _ := (hbw1.block e kl).trans HB.out; obtain ⟨l0, l1, l2, l3, l4, lf, ll⟩ := EqB.facts hB1; have hP1 : w1.heap[wr.heap.size]? = some (Obj.cells #[.int .i64 p.kind, .string p.name, .int .i64 p.value, .int .i64 p.args] 101) := (hb1.block wr.heap.size (by simp <;> omega)).trans (blk_alloc (blk_new _ _) _))
        all_goals
         go_wp2_with fail
         go_meet
         exact ⟨rfl, hbw1, hP1⟩
       case rest =>
        obtain ⟨rfl, hbw1, hP1⟩ := hcut
        have hz1 := hbw1.size
        have hB1 : EqB wc e _ _ _ _ _ := (hbw1.block e kl).trans HB.out
        obtain ⟨l0, l1, l2, l3, l4, lf, ll⟩ := EqB.facts hB1
        have hA1 : Hid (EqAt wc e ⟨p :: f, q :: s, bo, be, te⟩) := ⟨_, _, _, _, _, hB1, HE.out.below hbw1⟩
        have hX1 : Hid (Seen wc 101 partCells (.slice (some ⟨g2, o2, none⟩) L c2) ((q :: s).take L)) := (HE.out.s.below hbw1).take L (by simp; omega)
        have hlc : wr.heap.size < wc.heap.size := blk_lt hP1
        have HP1 : Hid _ := hP1
        have HB1 : Hid _ := hB1
        clear hP1 hB1
        go_wp2_with (first
         | (go_at_call 134; refine (pdrop_any _ e 1 L ⟨p :: f, q :: s, bo, be, te⟩ hA1.out (by simp) (by simp) (by simp <;> omega) (by simp <;> omega)).mono ?_; rintro r w2 ⟨rfl, hA2, hk2⟩; have hP2 := (hk2.block wr.heap.size hlc hel).trans HP1.out; have t2 : w2.cell? ⟨wr.heap.size, 2, none⟩ = some (.int .i64 p.value) := blk_cell hP2 2; have hX2 := Seen.keptEq hX1.out HB1.out hk2)
         | (go_at_call 135; refine (pputE_any p.value _ e ⟨f, (q :: s).drop L, bo, be, te⟩ hA2 HG2.out.ok _ L c2 ((q :: s).take L) hX2 (by rw [Hxl.out]; exact hL1) (by rw [Hxl.out]; omega)).mono ?_; rintro r w3 ⟨rfl, hk3, hA3⟩; rw [H0.out]))
        go_roundg n
        case measure => omega
        case rel => exact ⟨(Rf.putE ⟨f, (q :: s).drop L, bo, be, te⟩ p.value ((q :: s).take L)).2, hH2, hS2, hA3 H0.out, hG3.out, ((hk.trans (Kept.of_below hbw1 (fun k => k = e)) (fun _ _ h => h)).trans hk2 (fun _ _ h => h)).trans hk3 (fun _ _ h => h)⟩
     ·have hS2 : Hid (Rf.solveE E = (Rf.putE ⟨f, (q :: s).drop L, bo, be, te⟩ p.value ((q :: s).take L))) := by unfold Hid; rw [<- hso.out, Rf.solve_stop (by rw [hst]; exact h0), hst]
      have h0' : ((Rf.putE ⟨f, (q :: s).drop L, bo, be, te⟩ p.value ((q :: s).take L)).1 == 0) = false := beq_eq_false_iff_ne.2 h0
      have h0'' : ((Rf.putE ⟨f, (q :: s).drop L, bo, be, te⟩ p.value ((q :: s).take L)).1 != 0) = true := bne_iff_ne.2 h0
      have H0 : Hid _ := h0
      clear hst h0 hXa
      go_upto_region 6 with fail
      go_cut [34] from 8 to 88 (fun b wx => b = .bool false /\ wx = ((wr.alloc (Obj.cells #[.int .i64 p.kind, .string p.name, .int .i64 p.value, .int .i64 p.args] 101)).alloc (Obj.cells #[.int .i64 q.kind, .string q.name, .int .i64 q.value, .int .i64 q.args] 101)))
      case first =>
       go_wp2_with fail
       all_goals first | (exfalso; exact Hpq.out (Rf.part_ext (by assumption) (by assumption) (by assumption) (by assumption))) | (go_meet; exact ⟨rfl, by simp [*]⟩)
      case rest =>
       obtain ⟨rfl, rfl⟩ := hcut
       go_upto_region 9 with fail
       go_cut [6] from 8 to 88 (fun ov wx => ov = .slice (some ⟨g2, o2, none⟩) L c2 /\ Below wr.heap.size wr wx /\ wx.heap[wr.heap.size]? = some (Obj.cells #[.int .i64 p.kind, .string p.name, .int .i64 p.value, .int .i64 p.args] 101))
       case first =>
        go_region_with (go_at_call 128; refine (plead_any _ (some ⟨g2, o2, none⟩) _ c2 (q :: s) (HE.out.s.below (by repeat(first|exact bl0 _ _|refine bl1 ?_ (by simp<;>omega) _|refine bl2 ?_|refine bl3 ?_ _|refine bl4 ?_ (by simp<;>omega) _))) HG1.out.s (by simp; omega)).mono ?_; rintro r w1 ⟨rfl, hb1⟩; rw [<- HL.out]; have hbw1 : Below wr.heap.size wr w1 := Below.trans ((by repeat(first|exact bl0 _ _|refine bl1 ?_ (by simp<;>omega) _|refine bl2 ?_|refine bl3 ?_ _|refine bl4 ?_ (by simp<;>omega) _)) : Below wr.heap.size wr (World.drew ((wr.alloc (Obj.cells #[.int .i64 p.kind, .string p.name, .int .i64 p.value, .int .i64 p.args] 101)).alloc (Obj.cells #[.int .i64 q.kind, .string q.name, .int .i64 q.value, .int .i64 q.args] 101)))) (hb1.mono (by simp; omega)); have hB1 : EqB w1 e _ _ _ _ _ := (hbw1.block e kl).trans HB.out; obtain ⟨l0, l1, l2, l3, l4, lf, ll⟩ := EqB.facts hB1; have hP1 : w1.heap[wr.heap.size]? = some (Obj.cells #[.int .i64 p.kind, .string p.name, .int .i64 p.value, .int .i64 p.args] 101) := (hb1.block wr.heap.size (by simp <;> omega)).trans (blk_alloc (blk_new _ _) _))
        all_goals
         go_wp2_with fail
         go_meet
         exact ⟨rfl, hbw1, hP1⟩
       case rest =>
        obtain ⟨rfl, hbw1, hP1⟩ := hcut
        have hz1 := hbw1.size
        have hB1 : EqB wc e _ _ _ _ _ := (hbw1.block e kl).trans HB.out
        obtain ⟨l0, l1, l2, l3, l4, lf, ll⟩ := EqB.facts hB1
        have hA1 : Hid (EqAt wc e ⟨p :: f, q :: s, bo, be, te⟩) := ⟨_, _, _, _, _, hB1, HE.out.below hbw1⟩
        have hX1 : Hid (Seen wc 101 partCells (.slice (some ⟨g2, o2, none⟩) L c2) ((q :: s).take L)) := (HE.out.s.below hbw1).take L (by simp; omega)
        have hlc : wr.heap.size < wc.heap.size := blk_lt hP1
        have HP1 : Hid _ := hP1
        have HB1 : Hid _ := hB1
        clear hP1 hB1
        go_wp2_with (first
         | (go_at_call 134; refine (pdrop_any _ e 1 L ⟨p :: f, q :: s, bo, be, te⟩ hA1.out (by simp) (by simp) (by simp <;> omega) (by simp <;> omega)).mono ?_; rintro r w2 ⟨rfl, hA2, hk2⟩; have hP2 := (hk2.block wr.heap.size hlc hel).trans HP1.out; have t2 : w2.cell? ⟨wr.heap.size, 2, none⟩ = some (.int .i64 p.value) := blk_cell hP2 2; have hX2 := Seen.keptEq hX1.out HB1.out hk2)
         | (go_at_call 135; refine (pputE_any p.value _ e ⟨f, (q :: s).drop L, bo, be, te⟩ hA2 HG2.out.ok _ L c2 ((q :: s).take L) hX2 (by rw [Hxl.out]; exact hL1) (by rw [Hxl.out]; omega)).mono ?_; rintro r w3 ⟨rfl, hk3, hA3⟩; skip))
        go_ret
        exact ⟨ret_int (by rw [hS2.out]), ((hk.trans (Kept.of_below hbw1 (fun k => k = e)) (fun _ _ h => h)).trans hk2 (fun _ _ h => h)).trans hk3 (fun _ _ h => h), fun h9 => by rw [hS2.out] at h9; exact absurd h9 H0.out⟩
theorem SeenTs.app {w3 : World} {v2 : Value} {base : Nat} {acc acc2 : List (SlV × List Rf.Part)} (hr : RowIs w3 base 56 1 slCells v2 (acc.map (·.1) ++ acc2.map (·.1))) (h1 : ∀ q ∈ acc, Seen w3 101 partCells (slv q.1) q.2) (h2 : ∀ q ∈ acc2, Seen w3 101 partCells (slv q.1) q.2) : SeenTs w3 v2 (acc.map (·.2) ++ acc2.map (·.2)) := by
 refine ⟨acc ++ acc2, by rw [List.map_append]; exact hr.seen, fun q hq => ?_, by rw [List.map_append]⟩
 rcases List.mem_append.1 hq with hq | hq
 ·exact h1 q hq
 ·exact h2 q hq
set_option maxHeartbeats 1000000 in
theorem pjoined_any (w : World) (u1 u2 : Value) (ts us : List (List Rf.Part)) (h1 : SeenTs w u1 ts) (h2 : SeenTs w u2 us) (l1 : ts.length <= 100000) (l2 : us.length <= 100000) :
  Calls Tryz.prog 65 #[u1, u2] w fun r w' => ∃ a3 n3 c3, r = .returned (.slice a3 n3 c3) /\ SeenTs w' (.slice a3 n3 c3) (ts ++ us) /\ Below w.heap.size w w' := by
 obtain ⟨acc, s1, e1, rfl⟩ := h1.ex
 obtain ⟨acc2, s2, e2, rfl⟩ := h2.ex
 obtain ⟨a1, c1, rfl⟩ := s1.slice
 obtain ⟨a2, c2, rfl⟩ := s2.slice
 rw [List.length_map] at l1 l2
 have S1 : Hid _ := s1
 have S2 : Hid _ := s2
 have E1 : Hid _ := e1
 have E2 : Hid _ := e2
 clear h1 h2 s1 s2 e1 e2
 rw [List.length_map, List.length_map] at *
 go_enter Tryz.func65, Tryz.ntmps65
 go_wp2_with (first
  | (at_builtin; refine wpList_appS Tryz.elemTerms slCells slCells_len slCells_one _ rfl (.tmp 6) (.tmp 7) rfl w.heap.size (.slice none 0 0) [] rfl (RowIs.nil _ _ _ _ _) (.slice a1 acc.length c1) _ rfl S1.out (by simp; omega) (Nat.le_refl _) ?_; intro v1 w1 hr1 hg1; rw [List.nil_append] at hr1; have hb1 : Below w.heap.size w w1 := (Below.refl _ w).grown hg1 (Nat.le_refl _) (fun k e => by simp [Value.ownBlock] at e); obtain ⟨b1, d1, hv1⟩ := row_slice hr1; rw [List.length_map] at hv1; subst hv1)
  | (at_builtin; refine wpList_appS Tryz.elemTerms slCells slCells_len slCells_one _ rfl (.tmp 9) (.tmp 10) rfl w.heap.size (.slice b1 acc.length d1) _ rfl hr1 (.slice a2 acc2.length c2) _ rfl (S2.out.below hb1) (by simp; omega) hb1.size ?_; intro v2 w2 hr2 hg2; have hb2 : Below w.heap.size w w2 := hb1.grown hg2 hb1.size (fun k e => (hr1.lt k e).1); obtain ⟨b2, d2, hv2⟩ := row_slice hr2; rw [List.length_append, List.length_map, List.length_map] at hv2; subst hv2))
 go_ret
 refine ⟨_, _, _, rfl, ?_, hb2⟩
 exact SeenTs.app hr2 (fun q hq => (E1.out q hq).below hb2) (fun q hq => (E2.out q hq).below hb2)
theorem SeenTs.nil (w : World) : SeenTs w (.slice none 0 0) [] := ⟨[], Seen.nil, (fun q hq => by cases hq), rfl⟩
structure StIs (w : World) (vg vt : Value) (fr : Int) (S : Rf.St) : Prop where
 g : SeenTs w vg S.goals
 t : SeenTs w vt S.terms
 f : fr = S.fresh
theorem StIs.below {w w' : World} {vg vt : Value} {fr : Int} {S : Rf.St} (h : StIs w vg vt fr S) (hb : Below w.heap.size w w') : StIs w' vg vt fr S := ⟨h.g.below hb, h.t.below hb, h.f⟩
structure StOk (S : Rf.St) (N : Nat) : Prop where
 gl : S.goals.length <= N
 g : ∀ t ∈ S.goals, t.length <= 400 /\ Rf.ArgsOk t
 tl : S.terms.length <= 16
 t : ∀ t ∈ S.terms, t.length <= 400 /\ Rf.ArgsOk t
 f0 : 0 <= S.fresh
 f1 : S.fresh <= 1000000
theorem ownT_len (off h : Int) (t : List Rf.Part) : (Rf.ownT off h t).length = t.length := by unfold Rf.ownT; simp
theorem ownT_args {off h : Int} {t : List Rf.Part} (ht : Rf.ArgsOk t) : Rf.ArgsOk (Rf.ownT off h t) := by
 intro p hp
 unfold Rf.ownT at hp
 obtain ⟨q, hq, rfl⟩ := List.mem_map.1 hp
 have := ht q hq
 unfold Rf.ownP
 split
 ·exact this
 ·split
  ·exact this
  ·exact this
structure ClGood (cl : Rf.Cl) : Prop where
 ok : ClOk cl
 h : Rf.ArgsOk cl.head
 b : ∀ t ∈ cl.body, Rf.ArgsOk t
theorem withE_good {S : Rf.St} {cl : Rf.Cl} {h : Int} {N : Nat} (hS : StOk S N) (hN : N <= 9000) (hc : ClGood cl) (hne : S.goals ≠ []) : EqGood (Rf.withE S cl h) := by
 obtain ⟨g0, gs, hg⟩ : ∃ g0 gs, S.goals = g0 :: gs := by
  cases hS' : S.goals with
  | nil => exact absurd hS' hne
  | cons a b => exact ⟨a, b, rfl⟩
 have hgl := hS.gl
 have hgg := hS.g
 rw [hg] at hgl hgg
 simp only [List.length_cons] at hgl
 unfold Rf.withE
 rw [hg]
 refine ⟨⟨(hgg g0 (by simp)).1, by show (Rf.ownT _ _ _).length <= 400; rw [ownT_len]; exact hc.ok.hl, ⟨?_, ?_⟩, ⟨?_, ?_⟩, ⟨?_, ?_⟩⟩, (hgg g0 (by simp)).2, ownT_args hc.h⟩
 ·have := hc.ok.bl; simp; omega
 ·intro t ht
  obtain ⟨q, hq, rfl⟩ := List.mem_map.1 ht
  rw [ownT_len]; exact (hc.ok.bt q hq).1
 ·show gs.length <= 10000; omega
 ·intro t ht; exact (hgg t (List.mem_cons_of_mem _ ht)).1
 ·have := hS.tl; show S.terms.length <= 10000; omega
 ·intro t ht; exact (hS.t t ht).1
theorem pastTs_bd {ts : List (List Rf.Part)} (hv : ∀ t ∈ ts, ∀ p ∈ t, p.kind = 1 -> 0 <= p.value /\ p.value < 1000000) : ∀ {a : Int}, 0 <= a -> a <= 1000000 -> 0 <= Rf.pastTs a ts /\ Rf.pastTs a ts <= 1000000 := by
 induction ts with
 | nil => intro a h0 h1; exact ⟨h0, h1⟩
 | cons t ts ih =>
  intro a h0 h1
  rw [Rf.pastTs]
  have hp := pastN_bd (hv t (by simp)) (a := 0) (by omega) (by omega)
  have hp' : 0 <= Rf.pastT t /\ Rf.pastT t <= 1000000 := hp
  refine ih (fun q hq => hv q (List.mem_cons_of_mem _ hq)) ?_ ?_
  ·unfold Rf.maxI; split <;> omega
  ·unfold Rf.maxI; split <;> omega
theorem pastC_bd {cl : Rf.Cl} (h : ClOk cl) : 0 <= Rf.pastC cl /\ Rf.pastC cl <= 1000000 := by
 unfold Rf.pastC
 have hp := pastN_bd (t := cl.head) (fun p hp hk => by have := h.hv p hp hk; omega) (a := 0) (by omega) (by omega)
 exact pastTs_bd (fun t ht p hp hk => by have := (h.bt t ht).2 p hp hk; omega) hp.1 hp.2
theorem step_len (E : Rf.Eqn) : (Rf.stepE E).2.body.length = E.body.length /\ (Rf.stepE E).2.behind.length = E.behind.length /\ (Rf.stepE E).2.terms.length = E.terms.length := by
 have hp : ∀ (E : Rf.Eqn) v x, (Rf.putE E v x).2.body.length = E.body.length /\ (Rf.putE E v x).2.behind.length = E.behind.length /\ (Rf.putE E v x).2.terms.length = E.terms.length := by
  intro E v x
  unfold Rf.putE
  split
  ·exact ⟨rfl, rfl, rfl⟩
  ·split
   ·exact ⟨rfl, rfl, rfl⟩
   ·simp [Rf.Eqn.put]
 unfold Rf.stepE
 split
 ·split
  ·exact ⟨rfl, rfl, rfl⟩
  ·split
   ·exact hp _ _ _
   ·split
    ·exact hp _ _ _
    ·exact ⟨rfl, rfl, rfl⟩
 ·exact ⟨rfl, rfl, rfl⟩
theorem solveN_len : ∀ (n : Nat) (E : Rf.Eqn), (Rf.solveN n E).2.body.length = E.body.length /\ (Rf.solveN n E).2.behind.length = E.behind.length /\ (Rf.solveN n E).2.terms.length = E.terms.length
 | 0, _ => ⟨rfl, rfl, rfl⟩
 | n + 1, E => by
  rw [Rf.solveN]
  have h1 := step_len E
  split
  ·exact ⟨rfl, rfl, rfl⟩
  ·split
   ·have h2 := solveN_len n (Rf.stepE E).2
    exact ⟨h2.1.trans h1.1, h2.2.1.trans h1.2.1, h2.2.2.trans h1.2.2⟩
   ·exact h1
theorem solve_len (E : Rf.Eqn) (h : EqGood E) : (Rf.solveE E).2.body.length <= 10000 /\ (Rf.solveE E).2.behind.length <= 10000 /\ (Rf.solveE E).2.terms.length <= 10000 := by
 have h1 := solveN_len (Rf.fuelE E) E
 exact ⟨by have := h1.1; have := h.ok.b.1; unfold Rf.solveE; omega, by have := h1.2.1; have := h.ok.h.1; unfold Rf.solveE; omega, by have := h1.2.2; have := h.ok.t.1; unfold Rf.solveE; omega⟩
end Go.Proofs.YtbiojnljihgpoaaGreatDoor
