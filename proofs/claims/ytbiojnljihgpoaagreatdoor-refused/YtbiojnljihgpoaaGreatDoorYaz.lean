
import Derived.Test.YtbiojnljihgpoaaGreatDoorYay
namespace Rf
theorem termL_stop {f : Nat} {m : Int} {t : List Part} {L : Ldr} (h : ¬ (0 < m ∧ L.r.wrong = false)) : termL f m t L = (t, L) := by
 cases f with
 | zero => rfl
 | succ f => rw [termL, if_neg h]
theorem termL_go {f : Nat} {m : Int} {t : List Part} {L : Ldr} (h : 0 < m) (h2 : L.r.wrong = false) : termL (f + 1) m t L = termL f (m + (partL L).1.args - 1) (t ++ [(partL L).1]) (over (t ++ [(partL L).1]) (partL L).2) := by rw [termL, if_pos ⟨h, h2⟩]
end Rf
namespace Go.Proofs.YtbiojnljihgpoaaGreatDoor
open Go.RowKit
set_option maxHeartbeats 4000000 in
set_option maxRecDepth 100000 in
theorem ptermL_any (w : World) (lb b : Nat) (L : Rf.Ldr) (h : LdAt w lb b L) (hf : L.fresh ≤ 900000000) :
  Calls Tryz.prog 100 #[.pointer (some ⟨lb, 0, none⟩)] w fun x w' => ∃ a n c, x = .returned (.slice a n c) ∧ Seen w' 101 partCells (.slice a n c) (Rf.termL 202 1 [] L).1 ∧ LdAt w' lb b (Rf.termL 202 1 [] L).2 ∧ Kept (LdM lb b) w w' := by
 have hll := blk_lt h.l
 have hbl := blk_lt h.r
 have H : Hid _ := h
 clear h
 go_enter Tryz.func100, Tryz.ntmps100
 go_wp2_with fail
 go_loopg [3, 4] 203 (fun M tv mv wr => ∃ (k : Nat) (m : Int) (t : List Rf.Part) (K : Rf.Ldr), k ≤ 201 ∧ M = 203 - k ∧ t.length = k ∧ mv = .int .i64 m ∧ -1000 ≤ m ∧ m ≤ 1 + 4 * k ∧ RowIs wr w.heap.size 101 4 partCells tv t ∧ LdAt wr lb b K ∧ K.fresh ≤ L.fresh + k ∧ Hid (200 < k → K.r.wrong = true) ∧ Kept (LdM lb b) w wr ∧ Hid (Rf.termL (202 - k) m t K = Rf.termL 202 1 [] L))
 case atStart => exact ⟨0, 1, [], L, by omega, rfl, rfl, rfl, by omega, by omega, RowIs.nil _ _ _ _ _, H.out, by omega, (fun e => by omega), Kept.refl _ _, rfl⟩
 case round =>
  obtain ⟨k, m, t, K, hk, rfl, hkl, rfl, hm0, hm1, hrow, hL, hfr, h200, hkp, hE⟩ := hrel
  subst hkl
  have hsz := hkp.size
  obtain ⟨a4, c4, hv4⟩ := row_slice hrow
  subst hv4
  obtain ⟨q0, q1, q2, qf, ql⟩ := hL.l.facts
  have HL : Hid _ := hL
  have HR : Hid _ := hrow
  by_cases hm : 0 < m
  ·cases hw : K.r.wrong
   ·have hk2 : t.length ≤ 200 := by
     have : ¬ 200 < t.length := fun e => by have := h200.out e; rw [hw] at this; cases this
     omega
    have hE2 : Hid (Rf.termL (202 - (t.length + 1)) (m + (Rf.partL K).1.args - 1) (t ++ [(Rf.partL K).1]) (Rf.over (t ++ [(Rf.partL K).1]) (Rf.partL K).2) = Rf.termL 202 1 [] L) := by
     unfold Hid
     rw [← hE.out, show 202 - t.length = 202 - (t.length + 1) + 1 by omega, Rf.termL_go hm hw]
    obtain ⟨f1, f2, f3, f4, f5, f6⟩ := Rf.partL_facts K
    obtain ⟨p, hp⟩ : ∃ p, Hid (p = (Rf.partL K).1) := ⟨_, rfl⟩
    obtain ⟨P, hP⟩ : ∃ P, Hid (P = (Rf.partL K).2) := ⟨_, rfl⟩
    rw [← hp.out, ← hP.out] at hE2
    have hargs : 0 ≤ p.args ∧ p.args ≤ 4 := by rw [hp.out]; exact f1.1.1
    have hPf : P.fresh ≤ L.fresh + (t.length + 1) := by rw [hP.out]; omega
    have HPO : Hid (Rf.RdrOk P.r) := by unfold Hid; rw [hP.out]; exact f4
    obtain ⟨pk, pn, pv, pa⟩ := p
    simp only at hargs
    obtain ⟨ha0, ha1⟩ := hargs
    have hmi : (0 : Int) < m := hm
    have HWF : Hid (K.r.wrong = false) := hw
    clear f1 f2 f3 f4 f5 f6 hL hrow hw
    by_cases hov : 200 < t.length + 1
    ·have hov1 : (200 : Int) < (t.length : Int) + 1 := by omega
     have hO : Hid (Rf.over (t ++ [⟨pk, pn, pv, pa⟩]) P = ⟨Rf.refuse, P.fresh, P.height⟩) := by unfold Hid Rf.over; rw [if_pos (by simp; omega)]
     rw [hO.out] at hE2
     go_wp2_with (first
      | (go_at_call 57; refine (prefuse_any _ b P.r HL3.out.r).mono ?_; rintro x w4 ⟨rfl, hR4, hk4⟩; have HL4 : Hid _ := LdAt.go HL3.out hk4 hR4 Rf.refuse_ok; have HK4 : Hid (Kept (LdM lb b) w w4) := HK3.out.trans (LdM.of hk4) (fun _ _ e => e); have HR4 : Hid _ := HR3.out.keptBy hk4 (fun j e => by have h9 := (HR3.out.lt j e).1; intro e2; omega); clear hk4 hR4)
      | (go_at_call 42; refine (pwrong_any _ b K.r HL.out.r).mono ?_; rintro x w1 ⟨hx1, hw1⟩; rw [HWF.out] at hx1; subst hx1; subst w1)
      | (go_at_call 119; refine (ppart_any _ lb b K HL.out (by omega)).mono ?_; rintro x w2 ⟨hx2, hL2, hk2'⟩; rw [← hp.out] at hx2; subst hx2; rw [← hP.out] at hL2; have HL2 : Hid _ := hL2; have HR2 : Hid _ := HR.out.keptBy hk2' (fun j e => by have h9 := (HR.out.lt j e).1; intro e2; rcases e2 with e2 | e2 <;> omega); have HK2 : Hid (Kept (LdM lb b) w w2) := hkp.trans hk2' (fun _ _ e => e); have hz2 := HK2.out.size; clear hL2 hk2')
      | (at_builtin; refine wpList_app Tryz.elemPart partCells partCells_len partCells_one _ rfl (.tmp 23) (.tmp 25) rfl w.heap.size (.slice a4 t.length c4) t rfl ((HR2.out.alloc _).alloc _) ⟨_, 0, none⟩ 1 ⟨pk, pn, pv, pa⟩ rfl (cell_four_at _ _ (by simp) _ _ _ _ _) (by omega) (by simp; omega) ?_; intro gA capA w3 hrow3 hgr3 hnb3; have HL3 : Hid _ := ((HL2.out.below (by repeat(first|exact bel0 _ _|refine bel1 ?_ (by simp<;>omega) _|refine bel2 ?_|refine bel3 ?_ _|refine bel4 ?_ (by simp<;>omega) _)) : LdAt ((w2.alloc _).alloc _) lb b P)).kept (M := fun k => (Value.slice a4 t.length c4).ownBlock = some k) ⟨hgr3.os, hgr3.tape, hgr3.output, hgr3.size, fun j hj hr => hgr3.block j hj (fun e => hr e.symm)⟩ (fun e => by have := (HR.out.lt _ e).1; omega) (fun e => by have := (HR.out.lt _ e).1; omega); have HK3 : Hid (Kept (LdM lb b) w w3) := ((HK2.out.alloc _).alloc _).grown hgr3 (fun j e => .inl (HR.out.lt j e).1); have HR3 : Hid _ := hrow3; obtain ⟨r0, r1, r2, rf, rl⟩ := HL3.out.l.facts; clear hgr3 hnb3 hrow3))
     go_roundg (202 - t.length)
     case measure => omega
     case rel => exact ⟨t.length + 1, m + pa - 1, t ++ [⟨pk, pn, pv, pa⟩], ⟨Rf.refuse, P.fresh, P.height⟩, by omega, by omega, by simp, by go_num, by omega, by omega, HR4.out, HL4.out, hPf, (fun _ => rfl), HK4.out, hE2⟩
    ·have hov1 : ¬ ((200 : Int) < (t.length : Int) + 1) := by omega
     have hO : Hid (Rf.over (t ++ [⟨pk, pn, pv, pa⟩]) P = P) := by unfold Hid Rf.over; rw [if_neg (by simp; omega)]
     rw [hO.out] at hE2
     go_wp2_with (first
      | (go_at_call 42; refine (pwrong_any _ b K.r HL.out.r).mono ?_; rintro x w1 ⟨hx1, hw1⟩; rw [HWF.out] at hx1; subst hx1; subst w1)
      | (go_at_call 119; refine (ppart_any _ lb b K HL.out (by omega)).mono ?_; rintro x w2 ⟨hx2, hL2, hk2'⟩; rw [← hp.out] at hx2; subst hx2; rw [← hP.out] at hL2; have HL2 : Hid _ := hL2; have HR2 : Hid _ := HR.out.keptBy hk2' (fun j e => by have h9 := (HR.out.lt j e).1; intro e2; rcases e2 with e2 | e2 <;> omega); have HK2 : Hid (Kept (LdM lb b) w w2) := hkp.trans hk2' (fun _ _ e => e); have hz2 := HK2.out.size; clear hL2 hk2')
      | (at_builtin; refine wpList_app Tryz.elemPart partCells partCells_len partCells_one _ rfl (.tmp 23) (.tmp 25) rfl w.heap.size (.slice a4 t.length c4) t rfl ((HR2.out.alloc _).alloc _) ⟨_, 0, none⟩ 1 ⟨pk, pn, pv, pa⟩ rfl (cell_four_at _ _ (by simp) _ _ _ _ _) (by omega) (by simp; omega) ?_; intro gA capA w3 hrow3 hgr3 hnb3; have HL3 : Hid _ := ((HL2.out.below (by repeat(first|exact bel0 _ _|refine bel1 ?_ (by simp<;>omega) _|refine bel2 ?_|refine bel3 ?_ _|refine bel4 ?_ (by simp<;>omega) _)) : LdAt ((w2.alloc _).alloc _) lb b P)).kept (M := fun k => (Value.slice a4 t.length c4).ownBlock = some k) ⟨hgr3.os, hgr3.tape, hgr3.output, hgr3.size, fun j hj hr => hgr3.block j hj (fun e => hr e.symm)⟩ (fun e => by have := (HR.out.lt _ e).1; omega) (fun e => by have := (HR.out.lt _ e).1; omega); have HK3 : Hid (Kept (LdM lb b) w w3) := ((HK2.out.alloc _).alloc _).grown hgr3 (fun j e => .inl (HR.out.lt j e).1); have HR3 : Hid _ := hrow3; obtain ⟨r0, r1, r2, rf, rl⟩ := HL3.out.l.facts; clear hgr3 hnb3 hrow3))
     go_roundg (202 - t.length)
     case measure => omega
     case rel => exact ⟨t.length + 1, m + pa - 1, t ++ [⟨pk, pn, pv, pa⟩], P, by omega, by omega, by simp, by go_num, by omega, by omega, HR3.out, HL3.out, hPf, (fun e => by omega), HK3.out, hE2⟩
   ·have hS : Hid (Rf.termL 202 1 [] L = (t, K)) := by unfold Hid; rw [← hE.out, Rf.termL_stop (by rw [hw]; simp)]
    have hmi : (0 : Int) < m := hm
    have HWF : Hid (K.r.wrong = true) := hw
    clear hL hrow hw
    go_wp2_with (go_at_call 42; refine (pwrong_any _ b K.r HL.out.r).mono ?_; rintro x w1 ⟨hx1, hw1⟩; rw [HWF.out] at hx1; subst hx1; subst w1)
    go_ret
    rw [hS.out]
    exact ⟨_, _, _, rfl, HR.out.seen, HL.out, hkp⟩
  ·have hS : Hid (Rf.termL 202 1 [] L = (t, K)) := by unfold Hid; rw [← hE.out, Rf.termL_stop (fun e => hm e.1)]
   have hmi : ¬ ((0 : Int) < m) := hm
   clear hL hrow
   go_wp2_with fail
   go_ret
   rw [hS.out]
   exact ⟨_, _, _, rfl, HR.out.seen, HL.out, hkp⟩
end Go.Proofs.YtbiojnljihgpoaaGreatDoor
namespace Go.Proofs.YtbiojnljihgpoaaGreatDoor
open Go.RowKit
variable {nm : Value}
theorem kept_q {w : World} {q : Nat} {rb : Option Nat} (i : Nat) (u : Value) : Kept (May q rb) w (w.setCell ⟨q, i, none⟩ u) := (Kept.refl _ w).setCell (p := ⟨q, i, none⟩) (.inr (.inl rfl)) u
theorem QIs.rq {w : World} {q : Nat} {rb : Option Nat} {vN vg vt vC : Value} {fr : Int} {names : List ByteArray} {cf : Rf.Cf} (h : QIs w q rb vN vg vt fr vC names cf) : rb ≠ some q := by
 intro e
 obtain ⟨acc, hr, _, _⟩ := h.r.ex
 obtain ⟨cs', hc'⟩ := hr.typed q (h.o.trans e)
 have hb := h.b
 unfold QB at hb
 rw [hb] at hc'
 injection hc' with h3; injection h3 with _ h4
 exact absurd h4 (by decide)
theorem Free.q {w : World} {q : Nat} {cs : Array Value} (h : w.heap[q]? = some (.cells cs 76 (0, 0))) : Free w (fun k => k = q) := by
 have key : ∀ t : TypeId, t ≠ 76 → ∀ k cs', w.heap[k]? = some (.cells cs' t (0, 0)) → ¬ k = q := by
  intro t ht k cs' hc e
  subst e
  rw [h] at hc
  injection hc with h3; injection h3 with _ h4
  exact ht h4.symm
 exact ⟨key _ (by decide), key _ (by decide), key _ (by decide), key _ (by decide), key _ (by decide)⟩
theorem kept_one {w : World} {q : Nat} (i : Nat) (u : Value) : Kept (fun k => k = q) w (w.setCell ⟨q, i, none⟩ u) := (Kept.refl (fun k => k = q) w).setCell (p := ⟨q, i, none⟩) (.inr rfl) u
theorem QIs.now {w w' : World} {q : Nat} {rb : Option Nat} {vN vg vt vC vg' vt' : Value} {fr fr' : Int} {names : List ByteArray} {cf : Rf.Cf} {S : Rf.St} (h : QIs w q rb vN vg vt fr vC names cf) (hk : Kept (fun k => k = q) w w') (hb : QB w' q vN vg' vt' fr' vC) (hs : StIs w vg' vt' fr' S) : QIs w' q rb vN vg' vt' fr' vC names ⟨S, cf.chs⟩ := by
 have hf := Free.q h.b
 have hrq := h.rq
 exact ⟨hb, Seen.kept h.n hk hf.s, hs.kept hk hf, h.r.kept hk hf (fun k e e2 => hrq (by rw [← h.o, e, e2])), h.o⟩
theorem SeenTs.pos {w : World} {a : Option Addr} {n c : Nat} {ts : List (List Rf.Part)} (h : SeenTs w (.slice a n c) ts) (hne : ts ≠ []) : ∃ g off, a = some ⟨g, off, none⟩ ∧ g < w.heap.size ∧ n = ts.length ∧ 1 ≤ n ∧ n ≤ c := by
 obtain ⟨acc, h1, h2, rfl⟩ := h.ex
 have hl : 1 ≤ (acc.map (·.1)).length := by
  cases acc with
  | nil => exact absurd rfl hne
  | cons => simp
 obtain ⟨g, off, rfl⟩ := h1.pos hl
 have hn := h1.len
 have hc := h1.cap
 rw [List.length_map] at hn hl hc
 exact ⟨g, off, rfl, h1.lt, by rw [List.length_map]; exact hn, by omega, by omega⟩
theorem SeenTs.tail1 {w : World} {g off n c : Nat} {ts : List (List Rf.Part)} (h : SeenTs w (.slice (some ⟨g, off, none⟩) n c) ts) (hc : c = 1) : SeenTs w (.slice (some ⟨g, off, none⟩) (ts.length - 1) 0) ts.tail := by
 obtain ⟨acc, h1, h2, rfl⟩ := h.ex
 refine ⟨acc.tail, ?_, fun q hq => h2 q (List.mem_of_mem_tail hq), by rw [List.map_tail]⟩
 have h3 := h1.dropEnd 1 hc
 rw [List.length_map] at h3
 rw [List.length_map, List.map_tail, ← List.drop_one]
 exact h3
theorem SeenTs.tail2 {w : World} {g off n c : Nat} {ts : List (List Rf.Part)} (h : SeenTs w (.slice (some ⟨g, off, none⟩) n c) ts) (hne : ts ≠ []) : SeenTs w (.slice (some ⟨g, off + 1, none⟩) (ts.length - 1) (c - 1)) ts.tail := by
 obtain ⟨acc, h1, h2, rfl⟩ := h.ex
 refine ⟨acc.tail, ?_, fun q hq => h2 q (List.mem_of_mem_tail hq), by rw [List.map_tail]⟩
 have h3 := h1.drop slCells_len 1 (by cases acc with | nil => exact absurd rfl hne | cons => simp)
 rw [List.length_map] at h3
 rw [List.length_map, List.map_tail, ← List.drop_one]
 exact h3
set_option maxHeartbeats 1000000 in
theorem pmeet_any (w : World) (q : Nat) (rb : Option Nat) (names : List ByteArray) (cf : Rf.Cf) (h : QAt nm w q rb names cf) (hne : cf.now.goals ≠ []) :
  Calls Tryz.prog 110 #[.pointer (some ⟨q, 0, none⟩)] w fun r w' => r = .returned (.int .i64 0) ∧ QAt nm w' q rb names (Rf.meetP cf).2 ∧ Kept (May q rb) w w' := by
 obtain ⟨vg, vt, fr, vC, hQ⟩ := h.ex
 obtain ⟨k0, k1, k2, k3, k4, kf, kl⟩ := hQ.b.facts
 obtain ⟨ag, cg, rfl⟩ := hQ.s.g.slice
 obtain ⟨g, off, rfl, hgl, _, hp1, hp2⟩ := hQ.s.g.pos hne
 have HQ : Hid _ := hQ
 have Hne : Hid _ := hne
 clear h hQ hne
 go_enter Tryz.func110, Tryz.ntmps110
 go_wp2_with fail
 all_goals
  go_ret
  refine ⟨rfl, ?_, kept_q _ _⟩
  refine (QIs.now (S := ⟨cf.now.goals.tail, cf.now.terms, cf.now.fresh⟩) HQ.out (kept_one _ _) (blk_set HQ.out.b 1 _) ⟨?_, HQ.out.s.t, HQ.out.s.f⟩).at
 ·exact HQ.out.s.g.tail1 ‹_›
 ·exact HQ.out.s.g.tail2 Hne.out
theorem row_setBeyond {α : Type} {w : World} {base : Nat} {e : TypeId} {size : Nat} {C : α → List Value} {g n cap : Nat} {xs : List α} (hC : ∀ x, (C x).length = size) (h : RowIs w base e size C (.slice (some ⟨g, 0, none⟩) n cap) xs) (j : Nat) (hj : n * size ≤ j) (u : Value) : RowIs (w.setCell ⟨g, j, none⟩ u) base e size C (.slice (some ⟨g, 0, none⟩) n cap) xs := by
 have hn := row_len h
 rcases h.own.2 with ⟨h1, _⟩ | ⟨g', cap', cur, h1, h2, h3, h4, h5, h6, h7⟩
 ·cases h1
 ·obtain ⟨rfl, rfl⟩ : g = g' ∧ cap = cap' := by injection h1 with a1 a2 a3; injection a1 with a1; injection a1 with a1; exact ⟨a1, a3⟩
  subst hn
  refine ⟨h.own.1, .inr ⟨g, cap, cur.setIfInBounds j u, rfl, h2, ?_, h4, h5, by simpa using h6, ?_⟩⟩
  ·simp [World.setCell, Array.getElem?_modify, h3]
  ·rw [Array.toList_setIfInBounds, List.take_set, h7]
   rw [List.set_eq_of_length_le]
   rw [flatMap_len C hC]; exact hj
theorem ChsAt.shape {w : World} {v : Value} {chs : List Rf.Ch} (h : ChsAt w v chs) : (v = .slice none 0 0 ∧ chs = []) ∨ ∃ g cap, v = .slice (some ⟨g, 0, none⟩) chs.length cap ∧ g < w.heap.size ∧ chs.length ≤ cap ∧ cap ≤ maxLen := by
 obtain ⟨acc, h1, _, h3⟩ := h.ex
 have hl : acc.length = chs.length := by have := congrArg List.length h3; simpa using this
 rcases h1.shape with ⟨e1, e2⟩ | ⟨g, cap, e1, _, e2⟩
 ·refine .inl ⟨e1, ?_⟩
  have : acc = [] := by simpa using e2
  rw [this] at hl
  exact List.length_eq_zero_iff.1 hl.symm
 ·rw [List.length_map, hl] at e1 e2
  exact .inr ⟨g, cap, e1, e2⟩
theorem acc_last {acc : List (ChV × Rf.Ch)} {c : Rf.Ch} {low : List Rf.Ch} (h : acc.map (·.2) = (c :: low).reverse) : ∃ acc' x, acc = acc' ++ [(x, c)] ∧ acc'.map (·.2) = low.reverse := by
 rw [List.reverse_cons] at h
 obtain ⟨a1, a2, e, h1, h2⟩ := List.map_eq_append_iff.1 h
 obtain ⟨y, rfl, hy⟩ := List.map_eq_singleton_iff.1 h2
 exact ⟨a1, y.1, by rw [e, ← hy], h1⟩
theorem ChsAt.last {w : World} {g n cap : Nat} {c : Rf.Ch} {low : List Rf.Ch} (h : ChsAt w (.slice (some ⟨g, 0, none⟩) n cap) (c :: low)) : ∃ x, ChIs w x c ∧ (∀ j u, (chCells x)[j]? = some u → w.cell? ⟨g, low.length * 4 + j, none⟩ = some u) ∧ (∀ i, w.frozen? ⟨g, i, none⟩ = false) ∧ ChsAt w (.slice (some ⟨g, 0, none⟩) low.length cap) low := by
 obtain ⟨acc, h1, h2, h3⟩ := h.ex
 obtain ⟨acc', x, rfl, h4⟩ := acc_last h3
 have hl : acc'.length = low.length := by have := congrArg List.length h4; simpa using this
 have hn := row_len h1
 rw [List.map_append, List.length_append, List.length_map] at hn
 simp only [List.map_cons, List.map_nil, List.length_cons, List.length_nil] at hn
 rw [hn] at h1
 rw [List.map_append] at h1
 refine ⟨x, h2 (x, c) (by simp), fun j u hu => ?_, fun i => row_frozen h1 i, acc', ?_, fun y hy => h2 y (by simp [hy]), h4⟩
 ·have h9 := h1.seen.cells chCells_len acc'.length x (by simp) j u hu
  rw [hl] at h9
  simpa using h9
 ·have h9 := row_pop (n := acc'.length) chCells_len h1
  rw [hl] at h9
  exact h9
theorem ChsAt.slice {w : World} {v : Value} {chs : List Rf.Ch} (h : ChsAt w v chs) : ∃ a c, v = .slice a chs.length c := by
 rcases h.shape with ⟨rfl, rfl⟩ | ⟨g, cap, rfl, _⟩
 ·exact ⟨_, _, rfl⟩
 ·exact ⟨_, _, rfl⟩
theorem QIs.turn {w w' : World} {q : Nat} {rb rb' : Option Nat} {vN vg vt vC vg' vt' vC' : Value} {fr fr' : Int} {names : List ByteArray} {cf cf' : Rf.Cf} (h : QIs w q rb vN vg vt fr vC names cf) (hk : Kept (May q rb) w w') (hb : QB w' q vN vg' vt' fr' vC') (hs : StIs w' vg' vt' fr' cf'.now) (hr : ChsAt w' vC' cf'.chs) (ho : vC'.ownBlock = rb') : QIs w' q rb' vN vg' vt' fr' vC' names cf' := ⟨hb, Seen.kept h.n hk h.free.s, hs, hr, ho⟩
theorem QIs.drop {w : World} {q : Nat} {rb : Option Nat} {vN vg vt : Value} {fr : Int} {g n m cap : Nat} {names : List ByteArray} {cf : Rf.Cf} {low : List Rf.Ch} (h : QIs w q rb vN vg vt fr (.slice (some ⟨g, 0, none⟩) n cap) names cf) (hlo : ChsAt w (.slice (some ⟨g, 0, none⟩) m cap) low) (u0 u1 u2 u3 : Value) : QAt vN (((((w.setCell ⟨g, m * 4, none⟩ u0).setCell ⟨g, m * 4 + 1, none⟩ u1).setCell ⟨g, m * 4 + 2, none⟩ u2).setCell ⟨g, m * 4 + 3, none⟩ u3).setCell ⟨q, 4, none⟩ (.slice (some ⟨g, 0, none⟩) m cap)) q rb names ⟨cf.now, low⟩ ∧ Kept (May q rb) w (((((w.setCell ⟨g, m * 4, none⟩ u0).setCell ⟨g, m * 4 + 1, none⟩ u1).setCell ⟨g, m * 4 + 2, none⟩ u2).setCell ⟨g, m * 4 + 3, none⟩ u3).setCell ⟨q, 4, none⟩ (.slice (some ⟨g, 0, none⟩) m cap)) := by
 have hrb : rb = some g := h.o.symm
 have hqg : ¬ q = g := fun e => h.rq (by rw [hrb, e])
 have hM : May q rb g := .inr hrb.symm
 have hk4 : Kept (May q rb) w ((((w.setCell ⟨g, m * 4, none⟩ u0).setCell ⟨g, m * 4 + 1, none⟩ u1).setCell ⟨g, m * 4 + 2, none⟩ u2).setCell ⟨g, m * 4 + 3, none⟩ u3) := ((((Kept.refl _ w).setCell (p := ⟨g, _, none⟩) (.inr hM) u0).setCell (p := ⟨g, _, none⟩) (.inr hM) u1).setCell (p := ⟨g, _, none⟩) (.inr hM) u2).setCell (p := ⟨g, _, none⟩) (.inr hM) u3
 have hk5 := hk4.setCell (p := ⟨q, 4, none⟩) (.inr (.inl rfl)) (.slice (some ⟨g, 0, none⟩) m cap)
 have hkg : Kept (fun k => k = g) w ((((w.setCell ⟨g, m * 4, none⟩ u0).setCell ⟨g, m * 4 + 1, none⟩ u1).setCell ⟨g, m * 4 + 2, none⟩ u2).setCell ⟨g, m * 4 + 3, none⟩ u3) := ((((Kept.refl (fun k => k = g) w).setCell (p := ⟨g, _, none⟩) (.inr rfl) u0).setCell (p := ⟨g, _, none⟩) (.inr rfl) u1).setCell (p := ⟨g, _, none⟩) (.inr rfl) u2).setCell (p := ⟨g, _, none⟩) (.inr rfl) u3
 refine ⟨(QIs.turn (cf' := ⟨cf.now, low⟩) h hk5 (blk_set ((hkg.block q (blk_lt h.b) hqg).trans h.b) 4 _) (h.s.kept hk5 h.free) ?_ hrb.symm).at, hk5⟩
 obtain ⟨acc, h1, h2, h3⟩ := hlo.ex
 refine ⟨acc, ?_, fun x hx => (h2 x hx).kept hk5 h.free, h3⟩
 exact (row_setBeyond chCells_len (row_setBeyond chCells_len (row_setBeyond chCells_len (row_setBeyond chCells_len h1 _ (by omega) u0) _ (by omega) u1) _ (by omega) u2) _ (by omega) u3).setCell _ _ (fun e => hqg (by injection e with e; exact e.symm))
set_option maxHeartbeats 1000000 in
set_option maxRecDepth 100000 in
theorem pdropTo_any (w : World) (q : Nat) (rb : Option Nat) (names : List ByteArray) (cf : Rf.Cf) (ht : Int) (h : QAt nm w q rb names cf) (hl : cf.chs.length ≤ 20) :
  Calls Tryz.prog 89 #[.pointer (some ⟨q, 0, none⟩), .int .i64 ht] w fun r w' => r = .returned (.tuple #[]) ∧ QAt nm w' q rb names ⟨cf.now, Rf.dropC cf.chs ht⟩ ∧ Kept (May q rb) w w' := by
 obtain ⟨vg, vt, fr, vC, hQ⟩ := h.ex
 obtain ⟨k0, k1, k2, k3, k4, kf, kl⟩ := hQ.b.facts
 obtain ⟨ac, cc, rfl⟩ := hQ.r.slice
 have HQ : Hid _ := h
 clear h hQ
 obtain ⟨n0, hn0⟩ : ∃ n, Hid (cf.chs.length = n) := ⟨_, rfl⟩
 rw [hn0.out] at hl k4
 go_enter Tryz.func89, Tryz.ntmps89
 go_wp2_with fail
 clear k0 k1 k2 k3 k4 kf kl
 go_loopw [4] (fun iv wr => ∃ m : Nat, m ≤ n0 ∧ iv = .int .i64 ((m : Int) - 1) ∧ Hid (ht.toNat ≤ m ∨ n0 = m) ∧ QAt nm wr q rb names ⟨cf.now, cf.chs.drop (n0 - m)⟩ ∧ Kept (May q rb) w wr) (fun iv _ => (intOf iv + 1).toNat)
 case atStart => exact ⟨n0, Nat.le_refl _, rfl, .inr rfl, by rw [Nat.sub_self, List.drop_zero]; exact HQ.out, Kept.refl _ _⟩
 case round =>
  obtain ⟨m, hm, rfl, hh, hQ, hk⟩ := hrel
  by_cases hgo : 1 ≤ m ∧ ht ≤ (m : Int) - 1
  ·obtain ⟨m, rfl⟩ : ∃ m', m = m' + 1 := ⟨m - 1, by omega⟩
   obtain ⟨vg, vt, fr, vC, hQ⟩ := hQ.ex
   obtain ⟨c, low, hcl⟩ : ∃ c low, cf.chs.drop (n0 - (m + 1)) = c :: low := by
    cases hd : cf.chs.drop (n0 - (m + 1)) with
    | nil => have := congrArg List.length hd; rw [List.length_drop, hn0.out] at this; simp at this; omega
    | cons c low => exact ⟨c, low, rfl⟩
   have hlow : Hid (cf.chs.drop (n0 - m) = low) := by
    unfold Hid
    have h9 := congrArg List.tail hcl
    rw [List.tail_drop, List.tail_cons] at h9
    rw [← h9]; congr 1; omega
   have hll : low.length = m := by have h9 := congrArg List.length hcl; rw [List.length_drop, hn0.out, List.length_cons] at h9; omega
   rw [hcl] at hQ
   obtain ⟨k0, k1, k2, k3, k4, kf, kl⟩ := hQ.b.facts
   rcases hQ.r.shape with ⟨_, e⟩ | ⟨g, cap, rfl, hgl, hcap, hmax⟩
   ·cases e
   rw [List.length_cons, hll] at hcap k4
   obtain ⟨x, hx, hxc, hxf, hlo⟩ := hQ.r.last
   rw [hll] at hxc hlo
   have x0 := hxc 0 _ rfl
   have x1 := hxc 1 _ rfl
   have x2 := hxc 2 _ rfl
   have x3 := hxc 3 _ rfl
   rw [Nat.add_zero] at x0
   have HQ1 : Hid _ := hQ
   have HLo : Hid _ := hlo
   have Hh := hh
   clear hQ hcl hx hxc hlo
   rw [show (((m + 1 : Nat) : Int) - 1) = (m : Int) by omega]
   have h2 : ht ≤ (m : Int) := by omega
   have hqg : ¬ g = q := fun e => HQ1.out.rq (by rw [← HQ1.out.o, e]; rfl)
   have hqg' : ¬ q = g := fun e => hqg e.symm
   go_wp2_with fail
   go_roundw
   case rel =>
    obtain ⟨r1, r2⟩ := QIs.drop HQ1.out HLo.out (.slice none 0 0) (.slice none 0 0) (.int .i64 0) (.slice none 0 0)
    exact ⟨m, by omega, rfl, by unfold Hid; omega, by rw [hlow.out]; exact r1, hk.trans r2 (fun _ _ h => h)⟩
   case measure => simp [intOf]
  ·have hd : Hid (Rf.dropC cf.chs ht = cf.chs.drop (n0 - m)) := by
    unfold Hid Rf.dropC
    rw [hn0.out]
    have := hh.out
    congr 1
    omega
   by_cases h0 : (m : Int) - 1 < 0
   ·have h0' : ¬ (0 ≤ (m : Int) - 1) := by omega
    go_wp2_with fail
    go_end0
    exact ⟨rfl, by rw [hd.out]; exact hQ, hk⟩
   ·have h1 : ¬ ht ≤ (m : Int) - 1 := by omega
    have h0' : 0 ≤ (m : Int) - 1 := by omega
    go_wp2_with fail
    go_end0
    exact ⟨rfl, by rw [hd.out]; exact hQ, hk⟩
end Go.Proofs.YtbiojnljihgpoaaGreatDoor
namespace Rf
theorem matchN_snoc (S : St) (c : Cl) : ∀ (i : Nat) (cs : List Cl), matchN S i (cs ++ [c]) = matchN S i cs ++ (if matchB S c = true then [i + cs.length] else [])
 | _, [] => by simp [matchN]
 | i, d :: cs => by
  rw [List.cons_append, matchN, matchN, matchN_snoc S c (i + 1) cs, List.length_cons, List.append_assoc, show i + 1 + cs.length = i + (cs.length + 1) by omega]
end Rf
namespace Go.Proofs.YtbiojnljihgpoaaGreatDoor
open Go.RowKit
variable {nm : Value}
theorem QIs.now3 {w : World} {q : Nat} {rb : Option Nat} {vN vg vt vC vg' vt' : Value} {fr fr' : Int} {names : List ByteArray} {cf : Rf.Cf} {S : Rf.St} (h : QIs w q rb vN vg vt fr vC names cf) (hs : StIs w vg' vt' fr' S) : QIs (((w.setCell ⟨q, 1, none⟩ vg').setCell ⟨q, 2, none⟩ vt').setCell ⟨q, 3, none⟩ (.int .i64 fr')) q rb vN vg' vt' fr' vC names ⟨S, cf.chs⟩ ∧ Kept (May q rb) w (((w.setCell ⟨q, 1, none⟩ vg').setCell ⟨q, 2, none⟩ vt').setCell ⟨q, 3, none⟩ (.int .i64 fr')) := by
 refine ⟨QIs.now h ((((Kept.refl (fun k => k = q) w).setCell (p := ⟨q, 1, none⟩) (.inr rfl) _).setCell (p := ⟨q, 2, none⟩) (.inr rfl) _).setCell (p := ⟨q, 3, none⟩) (.inr rfl) _) (blk_set (blk_set (blk_set h.b 1 _) 2 _) 3 _) hs, (((Kept.refl _ w).setCell (p := ⟨q, 1, none⟩) (.inr (.inl rfl)) _).setCell (p := ⟨q, 2, none⟩) (.inr (.inl rfl)) _).setCell (p := ⟨q, 3, none⟩) (.inr (.inl rfl)) _⟩
set_option maxHeartbeats 1000000 in
set_option maxRecDepth 100000 in
theorem puse_any (w : World) (q : Nat) (rb : Option Nat) (names : List ByteArray) (cf : Rf.Cf) (vg vt : Value) (fr : Int) (S : Rf.St) (hx bx : SlV) (c : Rf.Cl) (ht : Int) (N : Nat) (F : Int) (h : QAt nm w q rb names cf) (hS : StIs w vg vt fr S) (hG : Rf.StG N F S) (hN : N ≤ 9000) (hF : F ≤ 1000000) (hne : S.goals ≠ []) (hC : SeenCl w hx bx c) (hc : Rf.ClG c) :
  Calls Tryz.prog 90 #[.pointer (some ⟨q, 0, none⟩), .agg #[vg, vt, .int .i64 fr], .agg #[.slice hx.a hx.n hx.c, .slice bx.a bx.n bx.c], .int .i64 ht] w fun r w' => r = .returned (.int .i64 (Rf.useP cf S c ht).1) ∧ QAt nm w' q rb names (Rf.useP cf S c ht).2 ∧ Kept (May q rb) w w' := by
 obtain ⟨ug, ut, ur, vC, hQ⟩ := h.ex
 have HQ : Hid _ := hQ
 have HW : Hid _ := fun w' => @pwith_any w' vg vt fr ht S hx bx c N
 have HS : Hid _ := hS
 have HO : Hid _ := StG.ok hG hF
 have HC : Hid _ := hC
 have HCG : Hid _ := ClG.ok hc
 have Hne : Hid _ := hne
 obtain ⟨sa, sc, rfl⟩ := hS.g.slice
 obtain ⟨ta, tc, rfl⟩ := hS.t.slice
 clear h hQ hS hG hC hc hne
 obtain ⟨o, ho⟩ : ∃ o, Hid ((Rf.withS S c ht).1 = o) := ⟨_, rfl⟩
 have HU : Hid (Rf.useP cf S c ht = (o, if o = 0 then ⟨(Rf.withS S c ht).2, cf.chs⟩ else cf)) := by unfold Hid Rf.useP; rw [ho.out]
 by_cases h0 : o = 0
 ·subst h0
  have HU0 : Hid (Rf.useP cf S c ht = (0, ⟨(Rf.withS S c ht).2, cf.chs⟩)) := HU.out
  clear HU
  go_enter Tryz.func90, Tryz.ntmps90
  go_wp2_with (go_at_call 101; refine (pwith_any _ (.slice sa S.goals.length sc) (.slice ta S.terms.length tc) fr ht S hx bx c N (HS.out.below (by repeat(first|exact bel0 _ _|refine bel1 ?_ (by simp<;>omega) _|refine bel2 ?_|refine bel3 ?_ _|refine bel4 ?_ (by simp<;>omega) _))) HO.out hN Hne.out (HC.out.below (by repeat(first|exact bel0 _ _|refine bel1 ?_ (by simp<;>omega) _|refine bel2 ?_|refine bel3 ?_ _|refine bel4 ?_ (by simp<;>omega) _))) HCG.out).mono ?_; rintro r w1 ⟨a3, n3, c3, a4, n4, c4, fr', rfl, hS1, hb1⟩; rw [ho.out]; have hbw : Below w.heap.size w w1 := Below.trans ((by repeat(first|exact bel0 _ _|refine bel1 ?_ (by simp<;>omega) _|refine bel2 ?_|refine bel3 ?_ _|refine bel4 ?_ (by simp<;>omega) _)) : Below w.heap.size w ((w.alloc _).alloc _)) (hb1.mono (by simp only [World.size_alloc]; omega)); have hz := hbw.size; have hQ1 := HQ.out.below hbw; obtain ⟨k0, k1, k2, k3, k4, kf, kl⟩ := hQ1.b.facts)
  go_ret
  rw [HU0.out]
  obtain ⟨r1, r2⟩ := QIs.now3 hQ1 hS1
  refine ⟨rfl, (r1.below ((Below.refl _ _).alloc (Nat.le_refl _) _)).at, ?_⟩
  exact ((Kept.of_below hbw _).trans r2 (fun _ _ h => h)).alloc _
 ·have h0' : (o == 0) = false := beq_eq_false_iff_ne.2 h0
  go_enter Tryz.func90, Tryz.ntmps90
  go_wp2_with (go_at_call 101; refine (pwith_any _ (.slice sa S.goals.length sc) (.slice ta S.terms.length tc) fr ht S hx bx c N (HS.out.below (by repeat(first|exact bel0 _ _|refine bel1 ?_ (by simp<;>omega) _|refine bel2 ?_|refine bel3 ?_ _|refine bel4 ?_ (by simp<;>omega) _))) HO.out hN Hne.out (HC.out.below (by repeat(first|exact bel0 _ _|refine bel1 ?_ (by simp<;>omega) _|refine bel2 ?_|refine bel3 ?_ _|refine bel4 ?_ (by simp<;>omega) _))) HCG.out).mono ?_; rintro r w1 ⟨a3, n3, c3, a4, n4, c4, fr', rfl, hS1, hb1⟩; rw [ho.out]; have hbw : Below w.heap.size w w1 := Below.trans ((by repeat(first|exact bel0 _ _|refine bel1 ?_ (by simp<;>omega) _|refine bel2 ?_|refine bel3 ?_ _|refine bel4 ?_ (by simp<;>omega) _)) : Below w.heap.size w ((w.alloc _).alloc _)) (hb1.mono (by simp only [World.size_alloc]; omega)); have hz := hbw.size; have hQ1 := HQ.out.below hbw; obtain ⟨k0, k1, k2, k3, k4, kf, kl⟩ := hQ1.b.facts)
  go_ret
  rw [HU.out, if_neg h0]
  refine ⟨rfl, ?_, ?_⟩
  ·exact (hQ1.below (by repeat(first|exact bel0 _ _|refine bel1 ?_ (by simp<;>omega) _|refine bel2 ?_|refine bel3 ?_ _|refine bel4 ?_ (by simp<;>omega) _))).at
  ·exact Kept.of_below (hbw.trans ((Below.refl _ w1).alloc hz _)) _
theorem SeenTs.first {w : World} {g off n c : Nat} {ts : List (List Rf.Part)} (h : SeenTs w (.slice (some ⟨g, off, none⟩) n c) ts) (hne : ts ≠ []) : ∃ x : SlV, w.cell? ⟨g, off, none⟩ = some (.slice x.a x.n x.c) ∧ Seen w 101 partCells (.slice x.a x.n x.c) (ts.headD []) := by
 obtain ⟨acc, h1, h2, rfl⟩ := h.ex
 cases acc with
 | nil => exact absurd rfl hne
 | cons y acc => exact ⟨y.1, by simpa using Seen.termAt h1 0 y.1 (by simp), h2 y (by simp)⟩
theorem Seen.natAt {w : World} {g off n c : Nat} {xs : List Nat} (h : Seen w 3 natCells (.slice (some ⟨g, off, none⟩) n c) xs) (k : Nat) (x : Nat) (hx : xs[k]? = some x) : w.cell? ⟨g, off + k, none⟩ = some (.int .i64 (x : Nat)) := by
 have := h.cells natCells_len k x hx 0 _ rfl
 simpa using this
theorem SeenCls.at {w : World} {a : Option Addr} {n c : Nat} {cls : List Rf.Cl} (h : SeenCls w (.slice a n c) cls) (k : Nat) (hk : k < cls.length) : ∃ (g off : Nat) (x : PClV), a = some ⟨g, off, none⟩ ∧ g < w.heap.size ∧ n = cls.length ∧ SeenCl w x.h x.b (cls.getD k Rf.noCl) ∧ w.cell? ⟨g, off + k * 2, none⟩ = some (.slice x.h.a x.h.n x.h.c) ∧ w.cell? ⟨g, off + k * 2 + 1, none⟩ = some (.slice x.b.a x.b.n x.b.c) := by
 obtain ⟨acc, h1, h2, rfl⟩ := h.ex
 rw [List.length_map] at hk
 obtain ⟨g, off, rfl⟩ := h1.pos (by rw [List.length_map]; omega)
 have hx : (acc.map (·.1))[k]? = some acc[k].1 := by simp [hk]
 have c0 := h1.cells pclCells_len k _ hx 0 _ rfl
 have c1 := h1.cells pclCells_len k _ hx 1 _ rfl
 refine ⟨g, off, acc[k].1, rfl, h1.lt, ?_, ?_, ?_, ?_⟩
 ·have := h1.len; rw [List.length_map] at this ⊢; exact this
 ·have h3 := h2 acc[k] (List.getElem_mem hk)
  rw [List.getD_eq_getElem?_getD, List.getElem?_map, List.getElem?_eq_getElem hk]
  exact h3
 ·simpa using c0
 ·rw [Nat.add_assoc]; exact c1
end Go.Proofs.YtbiojnljihgpoaaGreatDoor
namespace Go.Proofs.YtbiojnljihgpoaaGreatDoor
open Go.RowKit
set_option maxHeartbeats 1000000 in
set_option maxRecDepth 100000 in
theorem pmatching_any (w : World) (vg vt : Value) (fr : Int) (S : Rf.St) (vc : Value) (cls : List Rf.Cl) (N : Nat) (F : Int) (hS : StIs w vg vt fr S) (hG : Rf.StG N F S) (hN : N ≤ 9000) (hF : F ≤ 1000000) (hne : S.goals ≠ []) (hC : SeenCls w vc cls) (hc : Rf.ClsG cls) (hl : cls.length ≤ 30) :
  Calls Tryz.prog 76 #[.agg #[vg, vt, .int .i64 fr], vc] w fun r w' => ∃ a3 n3 c3, r = .returned (.tuple #[.slice a3 n3 c3, .bool (Rf.knownP S cls)]) ∧ Seen w' 3 natCells (.slice a3 n3 c3) (Rf.matchN S 0 cls) ∧ Below w.heap.size w w' := by
 obtain ⟨sa, sc, rfl⟩ := hS.g.slice
 obtain ⟨ta, tc, rfl⟩ := hS.t.slice
 obtain ⟨ca, cc, rfl⟩ := hC.slice
 obtain ⟨g0, o0, rfl, hgl0, _, hp1, hp2⟩ := hS.g.pos hne
 obtain ⟨⟨xa, xn, xc⟩, hx, hX⟩ := hS.g.first hne
 simp only at hx hX
 have HX : Hid (Seen w 101 partCells (.slice xa xn xc) (Rf.goalP S)) := hX
 obtain ⟨p0, hp0⟩ : ∃ p, Hid (Rf.topP (Rf.goalP S) = p) := ⟨_, rfl⟩
 have HS : Hid _ := hS
 have HO : Hid _ := StG.ok hG hF
 have HC : Hid _ := hC
 have HG : Hid (Rf.ClsG cls) := hc
 have Hne : Hid _ := hne
 clear hS hG hC hc hne hX
 go_enter Tryz.func76, Tryz.ntmps76
 go_wp2_with (go_at_call 71; refine (ptopA_any xa xn xc _ _ (HX.out.below (by repeat(first|exact bel0 _ _|refine bel1 ?_ (by simp<;>omega) _|refine bel2 ?_|refine bel3 ?_ _|refine bel4 ?_ (by simp<;>omega) _)))).mono ?_; rintro r w1 ⟨rfl, hb1⟩; rw [hp0.out])
 have hbw1 : Below w.heap.size w w1 := Below.trans ((Below.refl _ w).alloc (Nat.le_refl _) _) (hb1.mono (by rw [World.size_alloc]; omega))
 have hz1 : w.heap.size + 1 ≤ w1.heap.size := by have := hb1.size; rw [World.size_alloc] at this; exact this
 have HB0 : Hid (w1.heap[w.heap.size]? = _) := (hb1.block w.heap.size (by rw [World.size_alloc]; omega)).trans (blk_new w _)
 go_loopw [7, 8, 20] (fun kv mv iv wr => ∃ (k : Nat) (ms : List Nat), k ≤ cls.length ∧ iv = .int .i64 (k : Nat) ∧ kv = .bool (Rf.knownP S (cls.take k)) ∧ ms.length ≤ k ∧ RowIs wr (w1.heap.size + 1) 3 1 natCells mv ms ∧ Hid (Rf.matchN S 0 (cls.take k) = ms) ∧ Below (w1.heap.size + 1) (w1.alloc (.cells #[.int .i64 p0.kind, .string p0.name, .int .i64 p0.value, .int .i64 p0.args] 101)) wr) (fun _ _ iv _ => cls.length - (intOf iv).toNat)
 case atStart => exact ⟨0, [], Nat.zero_le _, rfl, rfl, Nat.le_refl _, RowIs.nil _ _ _ _ _, rfl, Below.refl _ _⟩
 case round =>
  obtain ⟨k, ms, hk, rfl, rfl, hms, hR, hinv, hbr⟩ := hrel
  have hsz := hbr.size
  rw [World.size_alloc] at hsz
  have hbwr : Below w.heap.size w wr := hbw1.trans (Below.trans ((Below.refl _ w1).alloc (by omega) _) (hbr.mono (by omega)))
  obtain ⟨am, cm, hv⟩ := row_slice hR
  subst hv
  by_cases hlt : k < cls.length
  ·obtain ⟨gc, oc, xx, rfl, hgl, _, hCl, hc0, hc1⟩ := (HC.out.below hbwr).at k hlt
   have hgc := HG.out.at hlt
   have htk : cls.take (k + 1) = cls.take k ++ [cls.getD k Rf.noCl] := by
    rw [List.take_succ_eq_append_getElem hlt, List.getD_eq_getElem?_getD, List.getElem?_eq_getElem hlt]; rfl
   obtain ⟨cl, hcl⟩ : ∃ cl, Hid (cls.getD k Rf.noCl = cl) := ⟨_, rfl⟩
   rw [hcl.out] at hCl hgc htk
   have HCl : Hid _ := hCl
   have HGc : Hid _ := hgc
   have Htk : Hid _ := htk
   obtain ⟨⟨ha, hn, hc⟩, ⟨ba, bn, bc⟩⟩ := xx
   simp only at hc0 hc1
   have hlt' : (k : Int) < cls.length := by omega
   have P1 : wr.heap[w1.heap.size]? = _ := (hbr.block w1.heap.size (by omega)).trans (blk_new w1 _)
   obtain ⟨q0, q1, q2, q3, ql⟩ := cells4 P1
   have P2 : wr.heap[w.heap.size]? = _ := (hbr.block w.heap.size (by omega)).trans (blk_alloc HB0.out _)
   have s0 := blk_cell P2 0
   have s1 := blk_cell P2 1
   have s2 := blk_cell P2 2
   have sl := blk_lt P2
   simp at s0 s1 s2
   have HP1 : Hid _ := P1
   have HP2 : Hid _ := P2
   clear hCl hgc htk P1 P2
   have hmk : Hid (Rf.matchN S 0 (cls.take (k + 1)) = ms ++ (if Rf.matchB S cl = true then [k] else [])) := by
    unfold Hid
    rw [Htk.out, Rf.matchN_snoc, hinv.out, List.length_take, show 0 + min k cls.length = k by omega]
   have hkk : Hid (Rf.knownP S (cls.take (k + 1)) = (Rf.knownP S (cls.take k) || Rf.hasPred S cl)) := by
    unfold Hid Rf.knownP
    rw [Htk.out, List.any_append]; simp
   have HGc2 : Hid (ClGood cl) := ClG.ok HGc.out
   by_cases hp : Rf.topP cl.head = p0
   ·have hpr : Rf.hasPred S cl = true := by unfold Rf.hasPred; rw [hp0.out, hp]; exact Rf.samePart_iff.2 rfl
    obtain ⟨o, ho⟩ : ∃ o, Hid ((Rf.withS S cl 0).1 = o) := ⟨_, rfl⟩
    have hmb : Hid (Rf.matchB S cl = decide (o ≠ -1)) := by unfold Hid Rf.matchB; rw [hpr, ho.out]; rfl
    have hkt : Hid (Rf.knownP S (cls.take (k + 1)) = true) := by unfold Hid; rw [hkk.out, hpr]; simp
    clear hpr
    by_cases ho1 : o = -1
    ·subst ho1
     have hm2 : Hid (Rf.matchN S 0 (cls.take (k + 1)) = ms) := by unfold Hid; rw [hmk.out, hmb.out]; simp
     clear hmk hmb
     go_wp2_with fail
     go_region_with (go_at_call 71; refine (ptopA_any ha hn hc _ _ (HCl.out.head.below (by repeat(first|exact bel0 _ _|refine bel1 ?_ (by simp<;>omega) _|refine bel2 ?_|refine bel3 ?_ _|refine bel4 ?_ (by simp<;>omega) _)))).mono ?_; rintro r w2 ⟨rfl, hb2⟩; rw [hp]; have P1' : w2.heap[w1.heap.size]? = _ := (hb2.block w1.heap.size (by simp; omega)).trans (blk_alloc HP1.out _); obtain ⟨y0, y1, y2, y3, yl⟩ := cells4 P1'; have P2' : w2.heap[w.heap.size]? = _ := (hb2.block w.heap.size (by simp; omega)).trans (blk_alloc HP2.out _); have t0 := blk_cell P2' 0; have t1 := blk_cell P2' 1; have t2 := blk_cell P2' 2; simp at t0 t1 t2; have P3' : w2.heap[wr.heap.size]? = _ := (hb2.block wr.heap.size (by simp)).trans (blk_new wr _); have z0 := blk_cell P3' 0; have z1 := blk_cell P3' 1; simp at z0 z1; have zl := blk_lt P3'; have hbw2 : Below wr.heap.size wr w2 := Below.trans ((Below.refl _ wr).alloc (Nat.le_refl _) _).drew (hb2.mono (by simp)); clear P1' P2' P3')
     all_goals
      go_wp2_with (go_at_call 101; refine (pwith_any _ (.slice (some ⟨g0, o0, none⟩) S.goals.length sc) (.slice ta S.terms.length tc) fr 0 S ⟨ha, hn, hc⟩ ⟨ba, bn, bc⟩ cl N (HS.out.below (hbwr.trans (hbw2.mono hbwr.size))) HO.out hN Hne.out (HCl.out.below hbw2) HGc2.out).mono ?_; rintro r w3 ⟨a3, n3, c3, a4, n4, c4, fr', rfl, hS3, hb3⟩; rw [ho.out]; have hbw3 : Below wr.heap.size wr w3 := hbw2.trans (hb3.mono hbw2.size); have hz3 := hbw3.size; have hR3 := hR.below hbw3)
      go_roundw
      case rel => exact ⟨k + 1, ms, by omega, by go_num, by rw [hkt.out], by omega, hR3.below ((Below.refl _ w3).alloc (Nat.le_refl _) _), hm2, hbr.trans (Below.mono (hbw3.alloc hz3 _) (by omega))⟩
      case measure => simp [intOf]; omega
    ·have ho1' : (o != -1) = true := bne_iff_ne.2 ho1
     have hm2 : Hid (Rf.matchN S 0 (cls.take (k + 1)) = ms ++ [k]) := by unfold Hid; rw [hmk.out, hmb.out]; simp [ho1]
     clear hmk hmb
     go_wp2_with fail
     go_region_with (go_at_call 71; refine (ptopA_any ha hn hc _ _ (HCl.out.head.below (by repeat(first|exact bel0 _ _|refine bel1 ?_ (by simp<;>omega) _|refine bel2 ?_|refine bel3 ?_ _|refine bel4 ?_ (by simp<;>omega) _)))).mono ?_; rintro r w2 ⟨rfl, hb2⟩; rw [hp]; have P1' : w2.heap[w1.heap.size]? = _ := (hb2.block w1.heap.size (by simp; omega)).trans (blk_alloc HP1.out _); obtain ⟨y0, y1, y2, y3, yl⟩ := cells4 P1'; have P2' : w2.heap[w.heap.size]? = _ := (hb2.block w.heap.size (by simp; omega)).trans (blk_alloc HP2.out _); have t0 := blk_cell P2' 0; have t1 := blk_cell P2' 1; have t2 := blk_cell P2' 2; simp at t0 t1 t2; have P3' : w2.heap[wr.heap.size]? = _ := (hb2.block wr.heap.size (by simp)).trans (blk_new wr _); have z0 := blk_cell P3' 0; have z1 := blk_cell P3' 1; simp at z0 z1; have zl := blk_lt P3'; have hbw2 : Below wr.heap.size wr w2 := Below.trans ((Below.refl _ wr).alloc (Nat.le_refl _) _).drew (hb2.mono (by simp)); clear P1' P2' P3')
     all_goals
      go_wp2_with (first
       | (go_at_call 101; refine (pwith_any _ (.slice (some ⟨g0, o0, none⟩) S.goals.length sc) (.slice ta S.terms.length tc) fr 0 S ⟨ha, hn, hc⟩ ⟨ba, bn, bc⟩ cl N (HS.out.below (hbwr.trans (hbw2.mono hbwr.size))) HO.out hN Hne.out (HCl.out.below hbw2) HGc2.out).mono ?_; rintro r w3 ⟨a3, n3, c3, a4, n4, c4, fr', rfl, hS3, hb3⟩; rw [ho.out]; have hbw3 : Below wr.heap.size wr w3 := hbw2.trans (hb3.mono hbw2.size); have hz3 := hbw3.size; have hR3 := hR.below hbw3)
       | (at_builtin; refine wpList_app Tryz.elemInt natCells natCells_len natCells_one _ rfl (.tmp 38) (.tmp 40) rfl (w1.heap.size + 1) (.slice am ms.length cm) ms rfl ((hR3.alloc _).alloc _) ⟨_, 0, none⟩ 1 k rfl (cell_one_at _ (w3.heap.size + 1) (by simp) _ _) (by omega) (by simp only [World.size_alloc]; omega) ?_; intro gA capA w4 hrow4 hgr4 hnb4))
      go_roundw
      case rel =>
       refine ⟨k + 1, ms ++ [k], by omega, by go_num, by rw [hkt.out], by simp; omega, hrow4, hm2, ?_⟩
       exact (hbr.trans (((hbw3.mono (by omega : w1.heap.size + 1 ≤ wr.heap.size)).alloc (by omega) _).alloc (by simp only [World.size_alloc]; omega) _)).grown hgr4 (by simp only [World.size_alloc]; omega) (fun j e => (hR.lt j e).1)
      case measure => simp [intOf]; omega
   ·have hpr : Rf.hasPred S cl = false := by
     cases hh : Rf.hasPred S cl with
     | false => rfl
     | true => unfold Rf.hasPred at hh; rw [hp0.out] at hh; exact absurd (Rf.samePart_iff.1 hh) hp
    have hm2 : Hid (Rf.matchN S 0 (cls.take (k + 1)) = ms) := by unfold Hid; rw [hmk.out]; unfold Rf.matchB; rw [hpr]; simp
    have hkt : Hid (Rf.knownP S (cls.take (k + 1)) = Rf.knownP S (cls.take k)) := by unfold Hid; rw [hkk.out, hpr]; simp
    have Hp : Hid _ := hp
    clear hmk hp hpr
    obtain ⟨p1, hp1⟩ : ∃ p, Hid (Rf.topP cl.head = p) := ⟨_, rfl⟩
    have hdif : (¬ p1.kind = p0.kind) ∨ (p1.kind = p0.kind ∧ ¬ p1.name.toList = p0.name.toList) ∨ (p1.kind = p0.kind ∧ p1.name.toList = p0.name.toList ∧ ¬ p1.value = p0.value) ∨ (p1.kind = p0.kind ∧ p1.name.toList = p0.name.toList ∧ p1.value = p0.value ∧ ¬ p1.args = p0.args) := by
     by_cases e1 : p1.kind = p0.kind
     ·by_cases e2 : p1.name.toList = p0.name.toList
      ·by_cases e3 : p1.value = p0.value
       ·by_cases e4 : p1.args = p0.args
        ·exfalso; refine Hp.out ?_; rw [hp1.out]; exact Rf.part_ext e1 e2 e3 e4
        ·exact .inr (.inr (.inr ⟨e1, e2, e3, e4⟩))
       ·exact .inr (.inr (.inl ⟨e1, e2, e3⟩))
      ·exact .inr (.inl ⟨e1, e2⟩)
     ·exact .inl e1
    rcases hdif with e1 | ⟨e1, e2⟩ | ⟨e1, e2, e3⟩ | ⟨e1, e2, e3, e4⟩
    all_goals
     go_wp2_with fail
     go_region_with (go_at_call 71; refine (ptopA_any ha hn hc _ _ (HCl.out.head.below (by repeat(first|exact bel0 _ _|refine bel1 ?_ (by simp<;>omega) _|refine bel2 ?_|refine bel3 ?_ _|refine bel4 ?_ (by simp<;>omega) _)))).mono ?_; rintro r w2 ⟨rfl, hb2⟩; rw [hp1.out]; have P1' : w2.heap[w1.heap.size]? = _ := (hb2.block w1.heap.size (by simp; omega)).trans (blk_alloc HP1.out _); obtain ⟨y0, y1, y2, y3, yl⟩ := cells4 P1'; have P2' : w2.heap[w.heap.size]? = _ := (hb2.block w.heap.size (by simp; omega)).trans (blk_alloc HP2.out _); have t0 := blk_cell P2' 0; have t1 := blk_cell P2' 1; have t2 := blk_cell P2' 2; simp at t0 t1 t2; have P3' : w2.heap[wr.heap.size]? = _ := (hb2.block wr.heap.size (by simp)).trans (blk_new wr _); have z0 := blk_cell P3' 0; have z1 := blk_cell P3' 1; simp at z0 z1; have zl := blk_lt P3'; have hbw2 : Below wr.heap.size wr w2 := Below.trans ((Below.refl _ wr).alloc (Nat.le_refl _) _).drew (hb2.mono (by simp)); clear P1' P2' P3')
     all_goals
      go_wp2_with fail
      go_roundw
      case rel => exact ⟨k + 1, ms, by omega, by go_num, by rw [hkt.out], by omega, hR.below hbw2, hm2, hbr.trans (hbw2.mono (by omega))⟩
      case measure => simp [intOf]; omega
  ·obtain rfl : k = cls.length := by omega
   rw [List.take_length] at hinv ⊢
   go_wp2_with fail
   go_ret2
   exact ⟨_, _, _, rfl, by rw [hinv.out]; exact hR.seen, hbwr⟩
end Go.Proofs.YtbiojnljihgpoaaGreatDoor
