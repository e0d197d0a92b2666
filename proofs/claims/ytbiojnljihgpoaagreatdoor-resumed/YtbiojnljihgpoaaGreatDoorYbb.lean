
import Derived.Test.YtbiojnljihgpoaaGreatDoorYba
import Derived.Test.YtbiojnljihgpoaaGreatDoorYaz
namespace Rf
theorem termsL_succ {n : Nat} {a : List (List Part)} {L : Ldr} (T : List Part × Ldr) (hT : T = termL 202 1 [] L) : termsL (n + 1) a L = termsL n (a ++ [T.1]) T.2 := by rw [termsL, hT]
theorem termsL_big {a : List (List Part)} {L : Ldr} (h : 200 < sizeT a) : termsL 0 a L = (a, ⟨refuse, L.fresh, L.height⟩) := by rw [termsL, if_pos h]
theorem termsL_end {a : List (List Part)} {L : Ldr} (h : ¬ 200 < sizeT a) : termsL 0 a L = (a, L) := by rw [termsL, if_neg h]
theorem goalsL_wrong {n : Nat} {a : List (List Part)} {L : Ldr} (h : L.r.wrong = true) : goalsL n a L = (a, L) := by
 cases n with
 | zero => rfl
 | succ n => rw [goalsL, if_pos h]
theorem goalsL_go {n : Nat} {a : List (List Part)} {L : Ldr} (h : L.r.wrong = false) : goalsL (n + 1) a L = goalsL n (a ++ [(goalL L).1]) (goalL L).2 := by rw [goalsL, if_neg (by rw [h]; decide)]
end Rf
namespace Go.Proofs.YtbiojnljihgpoaaGreatDoor
open Go.RowKit
theorem TermsAt.keptM {base : Nat} {M : Nat → Prop} {w w' : World} {v : Value} {acc : List (SlV × List Rf.Part)} (h : TermsAt base w v acc) (hk : Kept M w w') (hf : Free w M) (hv : ∀ k, v.ownBlock = some k → ¬ M k) : TermsAt base w' v acc := ⟨h.row.keptBy hk hv, fun q hq => (h.each q hq).kept hk hf.p⟩
set_option maxHeartbeats 1000000 in
set_option maxRecDepth 100000 in
theorem ptermsL_any (w : World) (lb b : Nat) (L : Rf.Ldr) (n : Nat) (h : LdAt w lb b L) (hf : L.fresh ≤ 800000000) (hn : n ≤ 16) :
  Calls Tryz.prog 75 #[.pointer (some ⟨lb, 0, none⟩), .int .i64 n] w fun x w' => ∃ v, x = .returned v ∧ SeenTs w' v (Rf.termsL n [] L).1 ∧ LdAt w' lb b (Rf.termsL n [] L).2 ∧ Kept (LdM lb b) w w' := by
 have hll := blk_lt h.l
 have hbl := blk_lt h.r
 have H : Hid _ := h
 clear h
 go_enter Tryz.func75, Tryz.ntmps75
 go_wp2_with fail
 go_loopg [5, 6, 7] (n + 1) (fun M sv tv iv wr => ∃ (k s : Nat) (acc : List (SlV × List Rf.Part)) (K : Rf.Ldr), k ≤ n ∧ M = n + 1 - k ∧ iv = .int .i64 k ∧ sv = .int .i64 s ∧ s ≤ 201 * k ∧ Hid (s = Rf.sizeT (acc.map (·.2))) ∧ acc.length = k ∧ TermsAt w.heap.size wr tv acc ∧ LdAt wr lb b K ∧ K.fresh ≤ L.fresh + 201 * k ∧ Kept (LdM lb b) w wr ∧ Hid (Rf.termsL (n - k) (acc.map (·.2)) K = Rf.termsL n [] L))
 case atStart => exact ⟨0, 0, [], L, by omega, by omega, rfl, rfl, by omega, rfl, rfl, TermsAt.nil _ _, H.out, by omega, Kept.refl _ _, rfl⟩
 case round =>
  obtain ⟨k, s, acc, K, hk, rfl, rfl, rfl, hs, hsE, hkl, hT, hL, hfr, hkp, hE⟩ := hrel
  subst hkl
  have hsz := hkp.size
  obtain ⟨a4, c4, hv4⟩ := row_slice hT.row
  rw [List.length_map] at hv4
  subst hv4
  obtain ⟨q0, q1, q2, qf, ql⟩ := hL.l.facts
  have HL : Hid _ := hL
  have HT : Hid _ := hT
  clear hL hT
  by_cases hlt : acc.length < n
  ·obtain ⟨t1, t2, t3, t4, t5, t6, t7⟩ := Rf.term1 K HL.out.ok
   obtain ⟨T, hT⟩ : ∃ T, Hid (T = Rf.termL 202 1 [] K) := ⟨_, rfl⟩
   have hT1 : T.1.length ≤ 201 := by rw [hT.out]; exact t1.len
   have hTf : T.2.fresh ≤ L.fresh + 201 * (acc.length + 1) := by rw [hT.out]; omega
   have hE2 : Hid (Rf.termsL (n - (acc.length + 1)) (acc.map (·.2) ++ [T.1]) T.2 = Rf.termsL n [] L) := by
    unfold Hid
    rw [← hE.out, show n - acc.length = n - (acc.length + 1) + 1 by omega, Rf.termsL_succ T hT.out]
   have hlt' : (acc.length : Int) < n := by omega
   clear t1 t2 t3 t4 t5 t6 t7
   go_wp2_with (first
    | (go_at_call 100; refine (ptermL_any _ lb b K HL.out (by omega)).mono ?_; rintro x w2 ⟨ta, tn, tc, rfl, hS2, hL2, hk2⟩; rw [← hT.out] at hS2 hL2; have htn : tn = T.1.length := hS2.len; subst htn; have HL2 : Hid _ := hL2; have HS2 : Hid _ := hS2; have HT2 : Hid _ := HT.out.keptM hk2 (LdM.free HL.out) (fun j e => by have h9 := (HT.out.row.lt j e).1; intro e2; rcases e2 with e2 | e2 <;> omega); have HK2 : Hid (Kept (LdM lb b) w w2) := hkp.trans hk2 (fun _ _ e => e); have hz2 := HK2.out.size; clear hL2 hk2 hS2)
    | (at_builtin; refine wpList_app Tryz.elemTerms slCells slCells_len slCells_one _ rfl (.tmp 20) (.tmp 22) rfl w.heap.size (.slice a4 acc.length c4) (acc.map (·.1)) rfl (HT2.out.row.alloc _) ⟨_, 0, none⟩ 1 ⟨ta, T.1.length, tc⟩ rfl (cell_one_at _ _ (by simp) _ _) (by rw [List.length_map]; omega) (by simp; omega) ?_; intro gA capA w3 hrow3 hgr3 hnb3; rw [List.length_map] at hrow3; have HT3 : Hid _ := TermsAt.app (x := ⟨ta, T.1.length, tc⟩) (HT2.out.below (by repeat(first|exact bel0 _ _|refine bel1 ?_ (by simp<;>omega) _|refine bel2 ?_|refine bel3 ?_ _|refine bel4 ?_ (by simp<;>omega) _))) (Seen.alloc HS2.out _) hgr3 hrow3; have HL3 : Hid _ := ((HL2.out.below (by repeat(first|exact bel0 _ _|refine bel1 ?_ (by simp<;>omega) _|refine bel2 ?_|refine bel3 ?_ _|refine bel4 ?_ (by simp<;>omega) _)) : LdAt (w2.alloc _) lb b _)).kept (M := fun k => (Value.slice a4 acc.length c4).ownBlock = some k) ⟨hgr3.os, hgr3.tape, hgr3.output, hgr3.size, fun j hj hr => hgr3.block j hj (fun e => hr e.symm)⟩ (fun e => by have := (HT2.out.row.lt _ e).1; omega) (fun e => by have := (HT2.out.row.lt _ e).1; omega); have HK3 : Hid (Kept (LdM lb b) w w3) := (HK2.out.alloc _).grown hgr3 (fun j e => .inl (HT2.out.row.lt j e).1); clear hgr3 hnb3 hrow3))
   go_roundg (n - acc.length)
   case measure => omega
   case rel => exact ⟨acc.length + 1, s + T.1.length, acc ++ [(⟨ta, T.1.length, tc⟩, T.1)], T.2, by omega, by omega, by go_num, by go_num, by omega, by unfold Hid; rw [List.map_append]; show _ = Rf.sizeT (_ ++ [T.1]); rw [Rf.sizeT_snoc, ← hsE.out], by simp, HT3.out, HL3.out, hTf, HK3.out, by unfold Hid; rw [List.map_append]; exact hE2.out⟩
  ·have hz : n - acc.length = 0 := by omega
   have hE3 := hE.out
   rw [hz] at hE3
   have HE3 : Hid _ := hE3
   have hlt' : ¬ ((acc.length : Int) < n) := by omega
   clear hE3 hz
   by_cases hbig : 200 < s
   ·have hS : Hid (Rf.termsL n [] L = (acc.map (·.2), ⟨Rf.refuse, K.fresh, K.height⟩)) := by unfold Hid; rw [← HE3.out, Rf.termsL_big (by rw [← hsE.out]; exact hbig)]
    have hbi : (200 : Int) < s := by omega
    go_wp2_with (go_at_call 57; refine (prefuse_any _ b K.r HL.out.r).mono ?_; rintro x w4 ⟨rfl, hR4, hk4⟩; have HL4 : Hid _ := LdAt.go HL.out hk4 hR4 Rf.refuse_ok; have HK4 : Hid (Kept (LdM lb b) w w4) := hkp.trans (LdM.of hk4) (fun _ _ e => e); have HT4 : Hid _ := HT.out.keptM (LdM.of (lb := lb) hk4) (LdM.free HL.out) (fun j e => by have h9 := (HT.out.row.lt j e).1; intro e2; rcases e2 with e2 | e2 <;> omega); clear hk4 hR4)
    go_ret
    rw [hS.out]
    exact ⟨_, rfl, HT4.out.seen, HL4.out, HK4.out⟩
   ·have hS : Hid (Rf.termsL n [] L = (acc.map (·.2), K)) := by unfold Hid; rw [← HE3.out, Rf.termsL_end (by rw [← hsE.out]; exact hbig)]
    have hbi : ¬ ((200 : Int) < s) := by omega
    go_wp2_with fail
    go_ret
    rw [hS.out]
    exact ⟨_, rfl, HT.out.seen, HL.out, hkp⟩
end Go.Proofs.YtbiojnljihgpoaaGreatDoor
namespace Go.Proofs.YtbiojnljihgpoaaGreatDoor
open Go.RowKit
set_option maxHeartbeats 1000000 in
set_option maxRecDepth 100000 in
theorem pgoalsL_any (w : World) (lb b : Nat) (L : Rf.Ldr) (h : LdAt w lb b L) (hf : L.fresh ≤ 100000000) (hh : L.height ≤ 100000000) :
  Calls Tryz.prog 74 #[.pointer (some ⟨lb, 0, none⟩)] w fun x w' => ∃ v, x = .returned v ∧ SeenTs w' v (Rf.allGoalsL L).1 ∧ LdAt w' lb b (Rf.allGoalsL L).2 ∧ Kept (LdM lb b) w w' := by
 have hll := blk_lt h.l
 have hbl := blk_lt h.r
 obtain ⟨q0, q1, q2, qf, _⟩ := h.l.facts
 have H : Hid _ := h
 have hn0 := Rf.numL_le 1000 L.r
 obtain ⟨n, hn⟩ : ∃ n, Hid (n = (Rf.numL 1000 L.r).1) := ⟨_, rfl⟩
 obtain ⟨R, hR⟩ : ∃ R, Hid (R = (Rf.numL 1000 L.r).2) := ⟨_, rfl⟩
 have HO : Hid (Rf.RdrOk R) := by unfold Hid; rw [hR.out]; exact Rf.numL_ok _ _
 rw [← hn.out] at hn0
 have hA : Hid (Rf.allGoalsL L = Rf.goalsL n [] ⟨if n = 0 then Rf.refuse else R, L.fresh, L.height⟩) := by unfold Hid Rf.allGoalsL Rf.headL; rw [← hn.out, ← hR.out]
 clear h
 by_cases c0 : n = 0
 ·rw [if_pos c0] at hA
  subst c0
  go_enter Tryz.func74, Tryz.ntmps74
  go_wp2_with (first
   | (go_at_call 57; refine (prefuse_any _ b R HL1.out.r).mono ?_; rintro x w2 ⟨rfl, hR2, hk2⟩; have HL2 : Hid _ := LdAt.go HL1.out hk2 hR2 Rf.refuse_ok; have HK2 : Hid (Kept (LdM lb b) w w2) := HK1.out.trans (LdM.of hk2) (fun _ _ e => e); clear hk2 hR2)
   | (go_at_call 40; refine (pnumL_any _ b L.r 1000 H.out.r H.out.ok (by omega)).mono ?_; rintro x w1 ⟨hx1, hR1, hk1⟩; rw [← hn.out] at hx1; subst hx1; rw [← hR.out] at hR1; have HL1 : Hid _ := LdAt.go H.out hk1 hR1 HO.out; have HK1 : Hid (Kept (LdM lb b) w w1) := LdM.of hk1; obtain ⟨p0, p1, p2, pf, pl⟩ := HL1.out.l.facts; simp only at p0 p1 p2; clear hk1))
  go_loopg [4, 5] 1 (fun M tv iv wr => M = 1 ∧ wr = w2 ∧ iv = .int .i64 0 ∧ tv = .slice none 0 0)
  case atStart => exact ⟨rfl, rfl, rfl, rfl⟩
  case round =>
   obtain ⟨rfl, rfl, rfl, rfl⟩ := hrel
   go_wp2_with fail
   go_ret
   rw [hA.out]
   exact ⟨_, rfl, ⟨[], Seen.nil, (fun q hq => by cases hq), rfl⟩, HL2.out, HK2.out⟩
 ·rw [if_neg c0] at hA
  have c0i : ((n : Int) == 0) = false := beq_eq_false_iff_ne.2 (by omega)
  go_enter Tryz.func74, Tryz.ntmps74
  go_wp2_with (go_at_call 40; refine (pnumL_any _ b L.r 1000 H.out.r H.out.ok (by omega)).mono ?_; rintro x w1 ⟨hx1, hR1, hk1⟩; rw [← hn.out] at hx1; subst hx1; rw [← hR.out] at hR1; have HL1 : Hid _ := LdAt.go H.out hk1 hR1 HO.out; have HK1 : Hid (Kept (LdM lb b) w w1) := LdM.of hk1; obtain ⟨p0, p1, p2, pf, pl⟩ := HL1.out.l.facts; simp only at p0 p1 p2; clear hk1)
  go_loopg [4, 5] (n + 1) (fun M tv iv wr => ∃ (k : Nat) (acc : List (SlV × List Rf.Part)) (K : Rf.Ldr), k ≤ n ∧ M = n + 1 - k ∧ iv = .int .i64 k ∧ acc.length = k ∧ TermsAt w.heap.size wr tv acc ∧ LdAt wr lb b K ∧ K.fresh ≤ L.fresh + 201 * k ∧ K.height ≤ L.height ∧ Kept (LdM lb b) w wr ∧ Hid (Rf.goalsL (n - k) (acc.map (·.2)) K = Rf.allGoalsL L))
  case atStart => exact ⟨0, [], ⟨R, L.fresh, L.height⟩, by omega, by omega, rfl, rfl, TermsAt.nil _ _, HL1.out, by show L.fresh ≤ _; omega, Nat.le_refl _, HK1.out, hA.out.symm⟩
  case round =>
   obtain ⟨k, acc, K, hk, rfl, rfl, hkl, hT, hL, hfr, hhr, hkp, hE⟩ := hrel
   subst hkl
   have hsz := hkp.size
   obtain ⟨a4, c4, hv4⟩ := row_slice hT.row
   rw [List.length_map] at hv4
   subst hv4
   clear p0 p1 p2 pf pl q0 q1 q2 qf
   obtain ⟨q0, q1, q2, qf, ql⟩ := hL.l.facts
   have HL : Hid _ := hL
   have HT : Hid _ := hT
   clear hL hT
   by_cases hlt : acc.length < n
   ·have hlt' : (acc.length : Int) < n := by omega
    cases hw : K.r.wrong
    ·obtain ⟨t1, t2, t3, t4, t5, t6⟩ := Rf.goalL_facts K HL.out.ok
     obtain ⟨T, hT⟩ : ∃ T, Hid (T = Rf.goalL K) := ⟨_, rfl⟩
     have hTf : T.2.fresh ≤ L.fresh + 201 * (acc.length + 1) := by rw [hT.out]; omega
     have hTh : T.2.height ≤ L.height := by rw [hT.out]; omega
     have hE2 : Hid (Rf.goalsL (n - (acc.length + 1)) (acc.map (·.2) ++ [T.1]) T.2 = Rf.allGoalsL L) := by
      unfold Hid
      rw [← hE.out, show n - acc.length = n - (acc.length + 1) + 1 by omega, Rf.goalsL_go hw, hT.out]
     have HWF : Hid (K.r.wrong = false) := hw
     clear t1 t2 t3 t4 t5 t6 hw
     go_wp2_with (first
      | (go_at_call 42; refine (pwrong_any _ b K.r HL.out.r).mono ?_; rintro x w9 ⟨hx1, hw1⟩; rw [HWF.out] at hx1; subst hx1; subst w9)
      | (go_at_call 99; refine (pgoalL_any _ lb b K HL.out (by omega) (by omega)).mono ?_; rintro x w2 ⟨ta, tn, tc, rfl, hS2, hL2, hk2⟩; rw [← hT.out] at hS2 hL2; have HL2 : Hid _ := hL2; have HS2 : Hid _ := hS2; have HT2 : Hid _ := HT.out.keptM hk2 (LdM.free HL.out) (fun j e => by have h9 := (HT.out.row.lt j e).1; intro e2; rcases e2 with e2 | e2 <;> omega); have HK2 : Hid (Kept (LdM lb b) w w2) := hkp.trans hk2 (fun _ _ e => e); have hz2 := HK2.out.size; clear hL2 hk2 hS2)
      | (at_builtin; refine wpList_app Tryz.elemTerms slCells slCells_len slCells_one _ rfl (.tmp 34) (.tmp 36) rfl w.heap.size (.slice a4 acc.length c4) (acc.map (·.1)) rfl (HT2.out.row.alloc _) ⟨_, 0, none⟩ 1 ⟨ta, tn, tc⟩ rfl (cell_one_at _ _ (by simp) _ _) (by rw [List.length_map]; omega) (by simp; omega) ?_; intro gA capA w3 hrow3 hgr3 hnb3; rw [List.length_map] at hrow3; have HT3 : Hid _ := TermsAt.app (x := ⟨ta, tn, tc⟩) (HT2.out.below (by repeat(first|exact bel0 _ _|refine bel1 ?_ (by simp<;>omega) _|refine bel2 ?_|refine bel3 ?_ _|refine bel4 ?_ (by simp<;>omega) _))) (Seen.alloc HS2.out _) hgr3 hrow3; have HL3 : Hid _ := ((HL2.out.below (by repeat(first|exact bel0 _ _|refine bel1 ?_ (by simp<;>omega) _|refine bel2 ?_|refine bel3 ?_ _|refine bel4 ?_ (by simp<;>omega) _)) : LdAt (w2.alloc _) lb b _)).kept (M := fun k => (Value.slice a4 acc.length c4).ownBlock = some k) ⟨hgr3.os, hgr3.tape, hgr3.output, hgr3.size, fun j hj hr => hgr3.block j hj (fun e => hr e.symm)⟩ (fun e => by have := (HT2.out.row.lt _ e).1; omega) (fun e => by have := (HT2.out.row.lt _ e).1; omega); have HK3 : Hid (Kept (LdM lb b) w w3) := (HK2.out.alloc _).grown hgr3 (fun j e => .inl (HT2.out.row.lt j e).1); clear hgr3 hnb3 hrow3))
     go_roundg (n - acc.length)
     case measure => omega
     case rel => exact ⟨acc.length + 1, acc ++ [(⟨ta, tn, tc⟩, T.1)], T.2, by omega, by omega, by go_num, by simp, HT3.out, HL3.out, hTf, hTh, HK3.out, by unfold Hid; rw [List.map_append]; exact hE2.out⟩
    ·have hS : Hid (Rf.allGoalsL L = (acc.map (·.2), K)) := by unfold Hid; rw [← hE.out, Rf.goalsL_wrong hw]
     have HWF : Hid (K.r.wrong = true) := hw
     clear hw
     go_wp2_with (go_at_call 42; refine (pwrong_any _ b K.r HL.out.r).mono ?_; rintro x w9 ⟨hx1, hw1⟩; rw [HWF.out] at hx1; subst hx1; subst w9)
     go_ret
     rw [hS.out]
     exact ⟨_, rfl, HT.out.seen, HL.out, hkp⟩
   ·have hS : Hid (Rf.allGoalsL L = (acc.map (·.2), K)) := by unfold Hid; rw [← hE.out, show n - acc.length = 0 by omega]; rfl
    have hlt' : ¬ ((acc.length : Int) < n) := by omega
    go_wp2_with fail
    go_ret
    rw [hS.out]
    exact ⟨_, rfl, HT.out.seen, HL.out, hkp⟩
end Go.Proofs.YtbiojnljihgpoaaGreatDoor
namespace Rf
theorem pick_wrong {cls : List Cl} {st : St} {l : Nat} {r : Rdr} (h : r.wrong = true) : pickCh cls st l r = (noCh, r) := by unfold pickCh; rw [if_pos h]
theorem pick_no {cls : List Cl} {st : St} {l : Nat} {r : Rdr} (h : r.wrong = false) (h2 : l < 1 ∨ (matchN st 0 cls).length < l + 1) : pickCh cls st l r = (noCh, refuse) := by unfold pickCh; rw [if_neg (by rw [h]; decide), if_pos h2]
theorem pick_yes {cls : List Cl} {st : St} {l : Nat} {r : Rdr} (h : r.wrong = false) (h2 : ¬ (l < 1 ∨ (matchN st 0 cls).length < l + 1)) : pickCh cls st l r = (⟨st, (matchN st 0 cls).drop ((matchN st 0 cls).length - l)⟩, r) := by unfold pickCh; rw [if_neg (by rw [h]; decide), if_neg h2]
end Rf
namespace Go.Proofs.YtbiojnljihgpoaaGreatDoor
open Go.RowKit
theorem Free.ch {w : World} {q : Nat} {cs : Array Value} (h : w.heap[q]? = some (.cells cs 79 (0, 0))) : Free w (fun k => k = q) := by
 have key : ∀ t : TypeId, t ≠ 79 → ∀ k cs', w.heap[k]? = some (.cells cs' t (0, 0)) → ¬ k = q := by
  intro t ht k cs' hc e
  subst e
  rw [h] at hc
  injection hc with h3; injection h3 with _ h4
  exact ht h4.symm
 exact ⟨key _ (by decide), key _ (by decide), key _ (by decide), key _ (by decide), key _ (by decide)⟩
theorem noCh_is (w : World) : ChIs w ⟨⟨none, 0, 0⟩, ⟨none, 0, 0⟩, 0, ⟨none, 0, 0⟩⟩ Rf.noCh := ⟨⟨⟨[], Seen.nil, (fun q hq => by cases hq), rfl⟩, ⟨[], Seen.nil, (fun q hq => by cases hq), rfl⟩, rfl⟩, Seen.nil⟩
set_option maxHeartbeats 1000000 in
set_option maxRecDepth 100000 in
theorem pchL_any (w : World) (lb b : Nat) (h n : Nat) (r : Rf.Rdr) (vc : Value) (cls : List Rf.Cl) (hL : LdAt w lb b ⟨r, 0, h⟩) (hh : h ≤ 1000) (hn : n ≤ 16) (hC : SeenCls w vc cls) (hCG : Rf.ClsG cls) (hcl : cls.length ≤ 30) :
  Calls Tryz.prog 59 #[.pointer (some ⟨lb, 0, none⟩), .int .i64 n, vc] w fun x w' => ∃ y : ChV, x = .returned (.agg #[.slice y.g.a y.g.n y.g.c, .slice y.t.a y.t.n y.t.c, .int .i64 y.f, .slice y.c.a y.c.n y.c.c]) ∧ ChIs w' y (Rf.chL n cls h r).1 ∧ RdB w' b (Rf.chL n cls h r).2 ∧ Kept (LdM lb b) w w' := by
 have hll := blk_lt hL.l
 have hbl := blk_lt hL.r
 have H : Hid _ := hL
 obtain ⟨ca, cc, hvc⟩ := hC.slice
 subst hvc
 have HC : Hid _ := hC
 have HCG : Hid (Rf.ClsG cls) := hCG
 obtain ⟨f1, f2, f3, f4⟩ := Rf.stL_facts n h r hL.ok hn
 obtain ⟨g1, g2, g3, g4, g5, g6⟩ := Rf.allGoals_facts r h hL.ok
 have hchE := Rf.chL_eq n cls h r
 have hstE : Rf.stL n h r = ⟨(Rf.allGoalsL ⟨r, 0, h⟩).1, (Rf.termsL n [] (Rf.allGoalsL ⟨r, 0, h⟩).2).1, ((Rf.termsL n [] (Rf.allGoalsL ⟨r, 0, h⟩).2).2.fresh : Nat)⟩ := rfl
 have hlfE : Rf.leftL n h r = Rf.numL 30 (Rf.termsL n [] (Rf.allGoalsL ⟨r, 0, h⟩).2).2.r := rfl
 obtain ⟨G, hGe⟩ : ∃ G, Hid (G = Rf.allGoalsL ⟨r, 0, h⟩) := ⟨_, rfl⟩
 rw [← hGe.out] at hstE hlfE g2
 obtain ⟨T, hTe⟩ : ∃ T, Hid (T = Rf.termsL n [] G.2) := ⟨_, rfl⟩
 rw [← hTe.out] at hstE hlfE
 obtain ⟨S, hSe⟩ : ∃ S, Hid (S = (⟨G.1, T.1, (T.2.fresh : Nat)⟩ : Rf.St)) := ⟨_, rfl⟩
 rw [← hSe.out] at hstE
 rw [hstE] at f1 f4 hchE
 have HG : Hid (Rf.StG 1000 406400 S) := f1.stg hn
 have HO : Hid (Rf.RdrOk (Rf.leftL n h r).2) := f2
 obtain ⟨l, hle⟩ : ∃ l, Hid (l = (Rf.numL 30 T.2.r).1) := ⟨_, rfl⟩
 obtain ⟨R, hRe⟩ : ∃ R, Hid (R = (Rf.numL 30 T.2.r).2) := ⟨_, rfl⟩
 rw [hlfE] at HO f3 f4 hchE
 rw [← hle.out] at f3 hchE
 rw [← hRe.out] at HO f4 hchE
 have HE : Hid _ := hchE
 obtain ⟨m, hme⟩ : ∃ m, Hid (m = (Rf.matchN S 0 cls).length) := ⟨_, rfl⟩
 have hm30 : m ≤ 30 := by rw [hme.out]; have := Rf.matchN_len S 0 cls; omega
 have HSt : Hid (∀ (X : World) (v1 v2 : Value), SeenTs X v1 G.1 → SeenTs X v2 T.1 → StIs X v1 v2 (T.2.fresh : Nat) S) := by
  intro X v1 v2 e1 e2
  rw [hSe.out]
  exact ⟨e1, e2, rfl⟩
 clear hL hC hCG f1 f2 g1 g3 g4 g5 g6 hstE hlfE hchE
 cases hw : R.wrong
 ·obtain ⟨_, hne⟩ := f4 hw
  have HNE : Hid (S.goals ≠ []) := hne
  have HWF : Hid (R.wrong = false) := hw
  clear f4 hne hw
  by_cases c1 : l < 1
  ·have hP : Hid (Rf.chL n cls h r = (Rf.noCh, Rf.refuse)) := by unfold Hid; rw [HE.out, Rf.pick_no HWF.out (.inl c1)]
   have c1i : (l : Int) < 1 := by omega
   go_enter Tryz.func59, Tryz.ntmps59
   go_wp2_with (first
    | (go_at_call 57; refine (prefuse_any _ b R HL4.out.r).mono ?_; rintro x w5 ⟨rfl, hR5, hk5⟩; have HR5 : Hid (RdB w5 b Rf.refuse) := hR5; have HK5 : Hid (Kept (LdM lb b) w w5) := HK4.out.trans (LdM.of hk5) (fun _ _ e => e); have hG := (hk5.block w.heap.size gl (by omega)).trans HG4.out; clear g0 g1 g2 g3 gf gl; have g0 := blk_cell hG 0; have g1 := blk_cell hG 1; have g2 := blk_cell hG 2; have g3 := blk_cell hG 3; have gf := blk_frozen hG; have gl := blk_lt hG; simp at g0 g1 g2 g3; clear hG hk5 hR5)
    | (go_at_call 76; refine (pmatching_any _ _ _ _ S (.slice ca cls.length cc) cls 1000 406400 (HSt.out _ _ _ (HSg3.out.below (by repeat(first|exact bel0 _ _|refine bel1 ?_ (by simp<;>omega) _|refine bel2 ?_|refine bel3 ?_ _|refine bel4 ?_ (by simp<;>omega) _))) (HSt3.out.below (by repeat(first|exact bel0 _ _|refine bel1 ?_ (by simp<;>omega) _|refine bel2 ?_|refine bel3 ?_ _|refine bel4 ?_ (by simp<;>omega) _)))) HG.out (by omega) (by omega) HNE.out ((HC.out.kept HK3.out (LdM.free H.out)).below (by repeat(first|exact bel0 _ _|refine bel1 ?_ (by simp<;>omega) _|refine bel2 ?_|refine bel3 ?_ _|refine bel4 ?_ (by simp<;>omega) _))) HCG.out hcl).mono ?_; rintro x w4 ⟨a3, n3, c3, rfl, hM4, hb4⟩; have hn3 : n3 = m := hM4.len.trans hme.out.symm; subst hn3; have HM4 : Hid _ := hM4; have hbX : Below w3.heap.size w3 w4 := Below.trans (by repeat(first|exact bel0 _ _|refine bel1 ?_ (by simp<;>omega) _|refine bel2 ?_|refine bel3 ?_ _|refine bel4 ?_ (by simp<;>omega) _)) (hb4.mono (by simp)); have HbX : Hid _ := hbX; have hG := (hbX.block w.heap.size gl).trans HG3.out; have HG4 : Hid _ := hG; clear g0 g1 g2 g3 gf gl; have g0 := blk_cell hG 0; have g1 := blk_cell hG 1; have g2 := blk_cell hG 2; have g3 := blk_cell hG 3; have gf := blk_frozen hG; have gl := blk_lt hG; simp at g0 g1 g2 g3; have HL4 : Hid _ := HL3.out.below hbX; have HK4 : Hid (Kept (LdM lb b) w w4) := HK3.out.trans (Kept.of_below hbX (LdM lb b)) (fun _ _ e => e); have hS4 := (hb4.block w3.heap.size (by simp)).trans (blk_new _ _); have s0 := blk_cell hS4 0; have s1 := blk_cell hS4 1; have s2 := blk_cell hS4 2; have sf := blk_frozen hS4; have sl := blk_lt hS4; simp at s0 s1 s2; clear p0 p1 p2 pf pl; obtain ⟨p0, p1, p2, pf, pl⟩ := HL4.out.l.facts; simp only at p0 p1 p2; clear hG hb4 hbX hM4 hS4)
    | (go_at_call 42; refine (pwrong_any _ b R HL3.out.r).mono ?_; rintro x w9 ⟨hx9, hw9⟩; rw [HWF.out] at hx9; subst hx9; subst w9)
    | (go_at_call 40; refine (pnumL_any _ b T.2.r 30 HL2.out.r HL2.out.ok (by omega)).mono ?_; rintro x w3 ⟨hx3, hR3, hk3⟩; rw [← hle.out] at hx3; subst hx3; rw [← hRe.out] at hR3; have HL3 : Hid _ := LdAt.go HL2.out hk3 hR3 HO.out; have hk3' := LdM.of (lb := lb) hk3; have HSg3 : Hid _ := HSg.out.keptM hk3' (LdM.free HL2.out).p (LdM.free HL2.out).t; have HSt3 : Hid _ := HS2.out.keptM hk3' (LdM.free HL2.out).p (LdM.free HL2.out).t; have HK3 : Hid (Kept (LdM lb b) w w3) := HK2.out.trans hk3' (fun _ _ e => e); have hG := (hk3.block w.heap.size gl (by omega)).trans HG2.out; have HG3 : Hid _ := hG; clear g0 g1 g2 g3 gf gl; have g0 := blk_cell hG 0; have g1 := blk_cell hG 1; have g2 := blk_cell hG 2; have g3 := blk_cell hG 3; have gf := blk_frozen hG; have gl := blk_lt hG; simp at g0 g1 g2 g3; clear p0 p1 p2 pf pl; obtain ⟨p0, p1, p2, pf, pl⟩ := HL3.out.l.facts; simp only at p0 p1 p2; clear hG hk3 hk3' hR3)
    | (go_at_call 75; refine (ptermsL_any _ lb b _ n HL1.out (by omega) hn).mono ?_; rintro x w2 ⟨vt, rfl, hS2, hL2, hk2⟩; rw [← hTe.out] at hS2 hL2; obtain ⟨ta, tc, hvt⟩ := hS2.slice; subst hvt; have HS2 : Hid _ := hS2; have HSg : Hid _ := HS1.out.keptM hk2 (LdM.free HL1.out).p (LdM.free HL1.out).t; have HL2 : Hid _ := hL2; have HK2 : Hid (Kept (LdM lb b) w w2) := HK1.out.trans hk2 (fun _ _ e => e); have hG := (hk2.block w.heap.size gl (fun e => by rcases e with e | e <;> omega)).trans HG1.out; have HG2 : Hid _ := hG; clear g0 g1 g2 g3 gf gl; have g0 := blk_cell hG 0; have g1 := blk_cell hG 1; have g2 := blk_cell hG 2; have g3 := blk_cell hG 3; have gf := blk_frozen hG; have gl := blk_lt hG; simp at g0 g1 g2 g3; obtain ⟨p0, p1, p2, pf, pl⟩ := HL2.out.l.facts; clear hG hk2 hS2 hL2)
    | (go_at_call 74; refine (pgoalsL_any _ lb b _ (H.out.below (by repeat(first|exact bel0 _ _|refine bel1 ?_ (by simp<;>omega) _|refine bel2 ?_|refine bel3 ?_ _|refine bel4 ?_ (by simp<;>omega) _))) (by show (0 : Nat) ≤ _; omega) (by show h ≤ _; omega)).mono ?_; rintro x w1 ⟨vg, rfl, hS1, hL1, hk1⟩; rw [← hGe.out] at hS1 hL1; obtain ⟨ga, gc, hvg⟩ := hS1.slice; subst hvg; have HS1 : Hid _ := hS1; have HL1 : Hid _ := hL1; have HK1 : Hid (Kept (LdM lb b) w w1) := Kept.trans (M' := LdM lb b) (by repeat' (first | exact Kept.refl _ _ | refine Kept.setCell ?_ ?_ _ | refine Kept.drew ?_ | refine Kept.drewN ?_ _ | refine Kept.alloc ?_ _ | exact Or.inr rfl | exact Or.inr (Or.inl rfl) | (refine Or.inl ?_; simp; done) | (refine Or.inl ?_; simp; omega))) hk1 (fun _ _ e => e); have hG := (hk1.block w.heap.size (by simp) (fun e => by rcases e with e | e <;> omega)).trans (blk_new _ _); have HG1 : Hid _ := hG; have g0 := blk_cell hG 0; have g1 := blk_cell hG 1; have g2 := blk_cell hG 2; have g3 := blk_cell hG 3; have gf := blk_frozen hG; have gl := blk_lt hG; simp at g0 g1 g2 g3; clear hG hk1 hS1 hL1))
   refine bodyPost_ret (v := (.agg #[.slice none 0 0, .slice none 0 0, .int .i64 0, .slice none 0 0])) (by simp [results, Tryz.results59, go_sem, *]) rfl ?_
   rw [hP.out]
   exact ⟨⟨⟨none, 0, 0⟩, ⟨none, 0, 0⟩, 0, ⟨none, 0, 0⟩⟩, rfl, noCh_is _, RdB.kept HR5.out (keep4 _ _ _ _ _ _) (by omega), HK5.out.trans (keep4 _ _ _ _ _ _) (fun i hi e => by omega)⟩
  ·have c1i : ¬ ((l : Int) < 1) := by omega
   have c1d : decide ((l : Int) < 1) = false := decide_eq_false c1i
   by_cases c2 : m < l + 1
   ·have hP : Hid (Rf.chL n cls h r = (Rf.noCh, Rf.refuse)) := by unfold Hid; rw [HE.out, Rf.pick_no HWF.out (.inr (by rw [← hme.out]; exact c2))]
    have c2i : (m : Int) - l < 1 := by omega
    go_enter Tryz.func59, Tryz.ntmps59
    go_wp2_with (first
     | (go_at_call 57; refine (prefuse_any _ b R HL4.out.r).mono ?_; rintro x w5 ⟨rfl, hR5, hk5⟩; have HR5 : Hid (RdB w5 b Rf.refuse) := hR5; have HK5 : Hid (Kept (LdM lb b) w w5) := HK4.out.trans (LdM.of hk5) (fun _ _ e => e); have hG := (hk5.block w.heap.size gl (by omega)).trans HG4.out; clear g0 g1 g2 g3 gf gl; have g0 := blk_cell hG 0; have g1 := blk_cell hG 1; have g2 := blk_cell hG 2; have g3 := blk_cell hG 3; have gf := blk_frozen hG; have gl := blk_lt hG; simp at g0 g1 g2 g3; clear hG hk5 hR5)
     | (go_at_call 76; refine (pmatching_any _ _ _ _ S (.slice ca cls.length cc) cls 1000 406400 (HSt.out _ _ _ (HSg3.out.below (by repeat(first|exact bel0 _ _|refine bel1 ?_ (by simp<;>omega) _|refine bel2 ?_|refine bel3 ?_ _|refine bel4 ?_ (by simp<;>omega) _))) (HSt3.out.below (by repeat(first|exact bel0 _ _|refine bel1 ?_ (by simp<;>omega) _|refine bel2 ?_|refine bel3 ?_ _|refine bel4 ?_ (by simp<;>omega) _)))) HG.out (by omega) (by omega) HNE.out ((HC.out.kept HK3.out (LdM.free H.out)).below (by repeat(first|exact bel0 _ _|refine bel1 ?_ (by simp<;>omega) _|refine bel2 ?_|refine bel3 ?_ _|refine bel4 ?_ (by simp<;>omega) _))) HCG.out hcl).mono ?_; rintro x w4 ⟨a3, n3, c3, rfl, hM4, hb4⟩; have hn3 : n3 = m := hM4.len.trans hme.out.symm; subst hn3; have HM4 : Hid _ := hM4; have hbX : Below w3.heap.size w3 w4 := Below.trans (by repeat(first|exact bel0 _ _|refine bel1 ?_ (by simp<;>omega) _|refine bel2 ?_|refine bel3 ?_ _|refine bel4 ?_ (by simp<;>omega) _)) (hb4.mono (by simp)); have HbX : Hid _ := hbX; have hG := (hbX.block w.heap.size gl).trans HG3.out; have HG4 : Hid _ := hG; clear g0 g1 g2 g3 gf gl; have g0 := blk_cell hG 0; have g1 := blk_cell hG 1; have g2 := blk_cell hG 2; have g3 := blk_cell hG 3; have gf := blk_frozen hG; have gl := blk_lt hG; simp at g0 g1 g2 g3; have HL4 : Hid _ := HL3.out.below hbX; have HK4 : Hid (Kept (LdM lb b) w w4) := HK3.out.trans (Kept.of_below hbX (LdM lb b)) (fun _ _ e => e); have hS4 := (hb4.block w3.heap.size (by simp)).trans (blk_new _ _); have s0 := blk_cell hS4 0; have s1 := blk_cell hS4 1; have s2 := blk_cell hS4 2; have sf := blk_frozen hS4; have sl := blk_lt hS4; simp at s0 s1 s2; clear p0 p1 p2 pf pl; obtain ⟨p0, p1, p2, pf, pl⟩ := HL4.out.l.facts; simp only at p0 p1 p2; clear hG hb4 hbX hM4 hS4)
     | (go_at_call 42; refine (pwrong_any _ b R HL3.out.r).mono ?_; rintro x w9 ⟨hx9, hw9⟩; rw [HWF.out] at hx9; subst hx9; subst w9)
     | (go_at_call 40; refine (pnumL_any _ b T.2.r 30 HL2.out.r HL2.out.ok (by omega)).mono ?_; rintro x w3 ⟨hx3, hR3, hk3⟩; rw [← hle.out] at hx3; subst hx3; rw [← hRe.out] at hR3; have HL3 : Hid _ := LdAt.go HL2.out hk3 hR3 HO.out; have hk3' := LdM.of (lb := lb) hk3; have HSg3 : Hid _ := HSg.out.keptM hk3' (LdM.free HL2.out).p (LdM.free HL2.out).t; have HSt3 : Hid _ := HS2.out.keptM hk3' (LdM.free HL2.out).p (LdM.free HL2.out).t; have HK3 : Hid (Kept (LdM lb b) w w3) := HK2.out.trans hk3' (fun _ _ e => e); have hG := (hk3.block w.heap.size gl (by omega)).trans HG2.out; have HG3 : Hid _ := hG; clear g0 g1 g2 g3 gf gl; have g0 := blk_cell hG 0; have g1 := blk_cell hG 1; have g2 := blk_cell hG 2; have g3 := blk_cell hG 3; have gf := blk_frozen hG; have gl := blk_lt hG; simp at g0 g1 g2 g3; clear p0 p1 p2 pf pl; obtain ⟨p0, p1, p2, pf, pl⟩ := HL3.out.l.facts; simp only at p0 p1 p2; clear hG hk3 hk3' hR3)
     | (go_at_call 75; refine (ptermsL_any _ lb b _ n HL1.out (by omega) hn).mono ?_; rintro x w2 ⟨vt, rfl, hS2, hL2, hk2⟩; rw [← hTe.out] at hS2 hL2; obtain ⟨ta, tc, hvt⟩ := hS2.slice; subst hvt; have HS2 : Hid _ := hS2; have HSg : Hid _ := HS1.out.keptM hk2 (LdM.free HL1.out).p (LdM.free HL1.out).t; have HL2 : Hid _ := hL2; have HK2 : Hid (Kept (LdM lb b) w w2) := HK1.out.trans hk2 (fun _ _ e => e); have hG := (hk2.block w.heap.size gl (fun e => by rcases e with e | e <;> omega)).trans HG1.out; have HG2 : Hid _ := hG; clear g0 g1 g2 g3 gf gl; have g0 := blk_cell hG 0; have g1 := blk_cell hG 1; have g2 := blk_cell hG 2; have g3 := blk_cell hG 3; have gf := blk_frozen hG; have gl := blk_lt hG; simp at g0 g1 g2 g3; obtain ⟨p0, p1, p2, pf, pl⟩ := HL2.out.l.facts; clear hG hk2 hS2 hL2)
     | (go_at_call 74; refine (pgoalsL_any _ lb b _ (H.out.below (by repeat(first|exact bel0 _ _|refine bel1 ?_ (by simp<;>omega) _|refine bel2 ?_|refine bel3 ?_ _|refine bel4 ?_ (by simp<;>omega) _))) (by show (0 : Nat) ≤ _; omega) (by show h ≤ _; omega)).mono ?_; rintro x w1 ⟨vg, rfl, hS1, hL1, hk1⟩; rw [← hGe.out] at hS1 hL1; obtain ⟨ga, gc, hvg⟩ := hS1.slice; subst hvg; have HS1 : Hid _ := hS1; have HL1 : Hid _ := hL1; have HK1 : Hid (Kept (LdM lb b) w w1) := Kept.trans (M' := LdM lb b) (by repeat' (first | exact Kept.refl _ _ | refine Kept.setCell ?_ ?_ _ | refine Kept.drew ?_ | refine Kept.drewN ?_ _ | refine Kept.alloc ?_ _ | exact Or.inr rfl | exact Or.inr (Or.inl rfl) | (refine Or.inl ?_; simp; done) | (refine Or.inl ?_; simp; omega))) hk1 (fun _ _ e => e); have hG := (hk1.block w.heap.size (by simp) (fun e => by rcases e with e | e <;> omega)).trans (blk_new _ _); have HG1 : Hid _ := hG; have g0 := blk_cell hG 0; have g1 := blk_cell hG 1; have g2 := blk_cell hG 2; have g3 := blk_cell hG 3; have gf := blk_frozen hG; have gl := blk_lt hG; simp at g0 g1 g2 g3; clear hG hk1 hS1 hL1))
    refine bodyPost_ret (v := (.agg #[.slice none 0 0, .slice none 0 0, .int .i64 0, .slice none 0 0])) (by simp [results, Tryz.results59, go_sem, *]) rfl ?_
    rw [hP.out]
    exact ⟨⟨⟨none, 0, 0⟩, ⟨none, 0, 0⟩, 0, ⟨none, 0, 0⟩⟩, rfl, noCh_is _, RdB.kept HR5.out (keep4 _ _ _ _ _ _) (by omega), HK5.out.trans (keep4 _ _ _ _ _ _) (fun i hi e => by omega)⟩
   ·have hP : Hid (Rf.chL n cls h r = (⟨S, (Rf.matchN S 0 cls).drop (m - l)⟩, R)) := by unfold Hid; rw [HE.out, Rf.pick_yes HWF.out (fun e => by rcases e with e | e; exact c1 e; rw [← hme.out] at e; exact c2 e), ← hme.out]
    obtain ⟨u, hu⟩ : ∃ u : Nat, (m : Int) - l = (u : Int) := ⟨m - l, by omega⟩
    have hul : (u : Int) ≤ m := by omega
    have hum : u = m - l := by omega
    have Hum : Hid _ := hum
    have hu1 : ¬ ((u : Int) < 1) := by omega
    have hu1d : decide ((u : Int) < 1) = false := decide_eq_false hu1
    clear hum
    go_enter Tryz.func59, Tryz.ntmps59
    go_wp2_with (first
     | (go_at_call 76; refine (pmatching_any _ _ _ _ S (.slice ca cls.length cc) cls 1000 406400 (HSt.out _ _ _ (HSg3.out.below (by repeat(first|exact bel0 _ _|refine bel1 ?_ (by simp<;>omega) _|refine bel2 ?_|refine bel3 ?_ _|refine bel4 ?_ (by simp<;>omega) _))) (HSt3.out.below (by repeat(first|exact bel0 _ _|refine bel1 ?_ (by simp<;>omega) _|refine bel2 ?_|refine bel3 ?_ _|refine bel4 ?_ (by simp<;>omega) _)))) HG.out (by omega) (by omega) HNE.out ((HC.out.kept HK3.out (LdM.free H.out)).below (by repeat(first|exact bel0 _ _|refine bel1 ?_ (by simp<;>omega) _|refine bel2 ?_|refine bel3 ?_ _|refine bel4 ?_ (by simp<;>omega) _))) HCG.out hcl).mono ?_; rintro x w4 ⟨a3, n3, c3, rfl, hM4, hb4⟩; have hn3 : n3 = m := hM4.len.trans hme.out.symm; subst hn3; have HM4 : Hid _ := hM4; have hbX : Below w3.heap.size w3 w4 := Below.trans (by repeat(first|exact bel0 _ _|refine bel1 ?_ (by simp<;>omega) _|refine bel2 ?_|refine bel3 ?_ _|refine bel4 ?_ (by simp<;>omega) _)) (hb4.mono (by simp)); have HbX : Hid _ := hbX; have hG := (hbX.block w.heap.size gl).trans HG3.out; have HG4 : Hid _ := hG; clear g0 g1 g2 g3 gf gl; have g0 := blk_cell hG 0; have g1 := blk_cell hG 1; have g2 := blk_cell hG 2; have g3 := blk_cell hG 3; have gf := blk_frozen hG; have gl := blk_lt hG; simp at g0 g1 g2 g3; have HL4 : Hid _ := HL3.out.below hbX; have HK4 : Hid (Kept (LdM lb b) w w4) := HK3.out.trans (Kept.of_below hbX (LdM lb b)) (fun _ _ e => e); have hS4 := (hb4.block w3.heap.size (by simp)).trans (blk_new _ _); have s0 := blk_cell hS4 0; have s1 := blk_cell hS4 1; have s2 := blk_cell hS4 2; have sf := blk_frozen hS4; have sl := blk_lt hS4; simp at s0 s1 s2; clear p0 p1 p2 pf pl; obtain ⟨p0, p1, p2, pf, pl⟩ := HL4.out.l.facts; simp only at p0 p1 p2; clear hG hb4 hbX hM4 hS4)
     | (go_at_call 42; refine (pwrong_any _ b R HL3.out.r).mono ?_; rintro x w9 ⟨hx9, hw9⟩; rw [HWF.out] at hx9; subst hx9; subst w9)
     | (go_at_call 40; refine (pnumL_any _ b T.2.r 30 HL2.out.r HL2.out.ok (by omega)).mono ?_; rintro x w3 ⟨hx3, hR3, hk3⟩; rw [← hle.out] at hx3; subst hx3; rw [← hRe.out] at hR3; have HL3 : Hid _ := LdAt.go HL2.out hk3 hR3 HO.out; have hk3' := LdM.of (lb := lb) hk3; have HSg3 : Hid _ := HSg.out.keptM hk3' (LdM.free HL2.out).p (LdM.free HL2.out).t; have HSt3 : Hid _ := HS2.out.keptM hk3' (LdM.free HL2.out).p (LdM.free HL2.out).t; have HK3 : Hid (Kept (LdM lb b) w w3) := HK2.out.trans hk3' (fun _ _ e => e); have hG := (hk3.block w.heap.size gl (by omega)).trans HG2.out; have HG3 : Hid _ := hG; clear g0 g1 g2 g3 gf gl; have g0 := blk_cell hG 0; have g1 := blk_cell hG 1; have g2 := blk_cell hG 2; have g3 := blk_cell hG 3; have gf := blk_frozen hG; have gl := blk_lt hG; simp at g0 g1 g2 g3; clear p0 p1 p2 pf pl; obtain ⟨p0, p1, p2, pf, pl⟩ := HL3.out.l.facts; simp only at p0 p1 p2; clear hG hk3 hk3' hR3)
     | (go_at_call 75; refine (ptermsL_any _ lb b _ n HL1.out (by omega) hn).mono ?_; rintro x w2 ⟨vt, rfl, hS2, hL2, hk2⟩; rw [← hTe.out] at hS2 hL2; obtain ⟨ta, tc, hvt⟩ := hS2.slice; subst hvt; have HS2 : Hid _ := hS2; have HSg : Hid _ := HS1.out.keptM hk2 (LdM.free HL1.out).p (LdM.free HL1.out).t; have HL2 : Hid _ := hL2; have HK2 : Hid (Kept (LdM lb b) w w2) := HK1.out.trans hk2 (fun _ _ e => e); have hG := (hk2.block w.heap.size gl (fun e => by rcases e with e | e <;> omega)).trans HG1.out; have HG2 : Hid _ := hG; clear g0 g1 g2 g3 gf gl; have g0 := blk_cell hG 0; have g1 := blk_cell hG 1; have g2 := blk_cell hG 2; have g3 := blk_cell hG 3; have gf := blk_frozen hG; have gl := blk_lt hG; simp at g0 g1 g2 g3; obtain ⟨p0, p1, p2, pf, pl⟩ := HL2.out.l.facts; clear hG hk2 hS2 hL2)
     | (go_at_call 74; refine (pgoalsL_any _ lb b _ (H.out.below (by repeat(first|exact bel0 _ _|refine bel1 ?_ (by simp<;>omega) _|refine bel2 ?_|refine bel3 ?_ _|refine bel4 ?_ (by simp<;>omega) _))) (by show (0 : Nat) ≤ _; omega) (by show h ≤ _; omega)).mono ?_; rintro x w1 ⟨vg, rfl, hS1, hL1, hk1⟩; rw [← hGe.out] at hS1 hL1; obtain ⟨ga, gc, hvg⟩ := hS1.slice; subst hvg; have HS1 : Hid _ := hS1; have HL1 : Hid _ := hL1; have HK1 : Hid (Kept (LdM lb b) w w1) := Kept.trans (M' := LdM lb b) (by repeat' (first | exact Kept.refl _ _ | refine Kept.setCell ?_ ?_ _ | refine Kept.drew ?_ | refine Kept.drewN ?_ _ | refine Kept.alloc ?_ _ | exact Or.inr rfl | exact Or.inr (Or.inl rfl) | (refine Or.inl ?_; simp; done) | (refine Or.inl ?_; simp; omega))) hk1 (fun _ _ e => e); have hG := (hk1.block w.heap.size (by simp) (fun e => by rcases e with e | e <;> omega)).trans (blk_new _ _); have HG1 : Hid _ := hG; have g0 := blk_cell hG 0; have g1 := blk_cell hG 1; have g2 := blk_cell hG 2; have g3 := blk_cell hG 3; have gf := blk_frozen hG; have gl := blk_lt hG; simp at g0 g1 g2 g3; clear hG hk1 hS1 hL1))
    obtain ⟨g4, o4, ha3⟩ := HM4.out.pos (by rw [← hme.out]; omega)
    subst ha3
    have hcap := HM4.out.cap.1
    rw [← hme.out] at hcap
    have hcapi : (u : Int) ≤ c3 := by omega
    have hD := Seen.drop natCells_len HM4.out u (by rw [← hme.out]; omega)
    rw [← hme.out, Nat.mul_one] at hD
    have HD : Hid _ := hD
    clear hD p0 p1 p2 pf pl
    go_region
    all_goals
     go_wp2_with fail
     refine bodyPost_ret (v := .agg #[.slice ga G.1.length gc, .slice ta T.1.length tc, .int .i64 (T.2.fresh : Nat), .slice (some ⟨g4, o4 + u, none⟩) (n3 - u) (c3 - u)]) (by simp [results, Tryz.results59, go_sem, *]) rfl ?_
     rw [hP.out]
     have hfr := Free.ch HG4.out
     have hk9 := Kept.drew (keep4 w4 w.heap.size (.slice ga G.1.length gc) (.slice ta T.1.length tc) (.int .i64 (T.2.fresh : Nat)) (.slice (some ⟨g4, o4 + u, none⟩) (n3 - u) (c3 - u)))
     refine ⟨⟨⟨ga, G.1.length, gc⟩, ⟨ta, T.1.length, tc⟩, (T.2.fresh : Nat), ⟨some ⟨g4, o4 + u, none⟩, n3 - u, c3 - u⟩⟩, rfl, ⟨HSt.out _ _ _ ((HSg3.out.below HbX.out).keptM hk9 hfr.p hfr.t) ((HSt3.out.below HbX.out).keptM hk9 hfr.p hfr.t), ?_⟩, RdB.kept HL4.out.r hk9 (by omega), HK4.out.trans hk9 (fun i hi e => by omega)⟩
     have h9 := Seen.kept HD.out hk9 hfr.i
     rw [← Hum.out]
     exact h9
 ·have hP : Hid (Rf.chL n cls h r = (Rf.noCh, R)) := by unfold Hid; rw [HE.out, Rf.pick_wrong hw]
  have HWF : Hid (R.wrong = true) := hw
  clear hw
  go_enter Tryz.func59, Tryz.ntmps59
  go_wp2_with (first
   | (go_at_call 42; refine (pwrong_any _ b R HL3.out.r).mono ?_; rintro x w9 ⟨hx9, hw9⟩; rw [HWF.out] at hx9; subst hx9; subst w9)
   | (go_at_call 40; refine (pnumL_any _ b T.2.r 30 HL2.out.r HL2.out.ok (by omega)).mono ?_; rintro x w3 ⟨hx3, hR3, hk3⟩; rw [← hle.out] at hx3; subst hx3; rw [← hRe.out] at hR3; have HL3 : Hid _ := LdAt.go HL2.out hk3 hR3 HO.out; have hk3' := LdM.of (lb := lb) hk3; have HSg3 : Hid _ := HSg.out.keptM hk3' (LdM.free HL2.out).p (LdM.free HL2.out).t; have HSt3 : Hid _ := HS2.out.keptM hk3' (LdM.free HL2.out).p (LdM.free HL2.out).t; have HK3 : Hid (Kept (LdM lb b) w w3) := HK2.out.trans hk3' (fun _ _ e => e); have hG := (hk3.block w.heap.size gl (by omega)).trans HG2.out; have HG3 : Hid _ := hG; clear g0 g1 g2 g3 gf gl; have g0 := blk_cell hG 0; have g1 := blk_cell hG 1; have g2 := blk_cell hG 2; have g3 := blk_cell hG 3; have gf := blk_frozen hG; have gl := blk_lt hG; simp at g0 g1 g2 g3; clear p0 p1 p2 pf pl; obtain ⟨p0, p1, p2, pf, pl⟩ := HL3.out.l.facts; simp only at p0 p1 p2; clear hG hk3 hk3' hR3)
   | (go_at_call 75; refine (ptermsL_any _ lb b _ n HL1.out (by omega) hn).mono ?_; rintro x w2 ⟨vt, rfl, hS2, hL2, hk2⟩; rw [← hTe.out] at hS2 hL2; obtain ⟨ta, tc, hvt⟩ := hS2.slice; subst hvt; have HS2 : Hid _ := hS2; have HSg : Hid _ := HS1.out.keptM hk2 (LdM.free HL1.out).p (LdM.free HL1.out).t; have HL2 : Hid _ := hL2; have HK2 : Hid (Kept (LdM lb b) w w2) := HK1.out.trans hk2 (fun _ _ e => e); have hG := (hk2.block w.heap.size gl (fun e => by rcases e with e | e <;> omega)).trans HG1.out; have HG2 : Hid _ := hG; clear g0 g1 g2 g3 gf gl; have g0 := blk_cell hG 0; have g1 := blk_cell hG 1; have g2 := blk_cell hG 2; have g3 := blk_cell hG 3; have gf := blk_frozen hG; have gl := blk_lt hG; simp at g0 g1 g2 g3; obtain ⟨p0, p1, p2, pf, pl⟩ := HL2.out.l.facts; clear hG hk2 hS2 hL2)
   | (go_at_call 74; refine (pgoalsL_any _ lb b _ (H.out.below (by repeat(first|exact bel0 _ _|refine bel1 ?_ (by simp<;>omega) _|refine bel2 ?_|refine bel3 ?_ _|refine bel4 ?_ (by simp<;>omega) _))) (by show (0 : Nat) ≤ _; omega) (by show h ≤ _; omega)).mono ?_; rintro x w1 ⟨vg, rfl, hS1, hL1, hk1⟩; rw [← hGe.out] at hS1 hL1; obtain ⟨ga, gc, hvg⟩ := hS1.slice; subst hvg; have HS1 : Hid _ := hS1; have HL1 : Hid _ := hL1; have HK1 : Hid (Kept (LdM lb b) w w1) := Kept.trans (M' := LdM lb b) (by repeat' (first | exact Kept.refl _ _ | refine Kept.setCell ?_ ?_ _ | refine Kept.drew ?_ | refine Kept.drewN ?_ _ | refine Kept.alloc ?_ _ | exact Or.inr rfl | exact Or.inr (Or.inl rfl) | (refine Or.inl ?_; simp; done) | (refine Or.inl ?_; simp; omega))) hk1 (fun _ _ e => e); have hG := (hk1.block w.heap.size (by simp) (fun e => by rcases e with e | e <;> omega)).trans (blk_new _ _); have HG1 : Hid _ := hG; have g0 := blk_cell hG 0; have g1 := blk_cell hG 1; have g2 := blk_cell hG 2; have g3 := blk_cell hG 3; have gf := blk_frozen hG; have gl := blk_lt hG; simp at g0 g1 g2 g3; clear hG hk1 hS1 hL1))
  refine bodyPost_ret (v := (.agg #[.slice none 0 0, .slice none 0 0, .int .i64 0, .slice none 0 0])) (by simp [results, Tryz.results59, go_sem, *]) rfl ?_
  rw [hP.out]
  exact ⟨⟨⟨none, 0, 0⟩, ⟨none, 0, 0⟩, 0, ⟨none, 0, 0⟩⟩, rfl, noCh_is _, HL3.out.r.kept (keep4 _ _ _ _ _ _) (by omega), HK3.out.trans (keep4 _ _ _ _ _ _) (fun i hi e => by omega)⟩
end Go.Proofs.YtbiojnljihgpoaaGreatDoor
