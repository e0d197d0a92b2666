
import Derived.Test.YtbiojnljihgpoaaGreatDoorZba
import Derived.Test.YtbiojnljihgpoaaGreatDoorZaz
namespace Rf
theorem pick_wrong {cls : List Cl} {st : St} {l : Nat} {r : Rdr} (h : r.wrong = true) : pickCh cls st l r = (noCh, r) := by unfold pickCh; rw [if_pos h]
theorem pick_no {cls : List Cl} {st : St} {l : Nat} {r : Rdr} (h : r.wrong = false) (h2 : l < 1 \/ (matchN st 0 cls).length < l + 1) : pickCh cls st l r = (noCh, refuse) := by unfold pickCh; rw [if_neg (by rw [h]; decide), if_pos h2]
theorem pick_yes {cls : List Cl} {st : St} {l : Nat} {r : Rdr} (h : r.wrong = false) (h2 : ¬ (l < 1 \/ (matchN st 0 cls).length < l + 1)) : pickCh cls st l r = (⟨st, (matchN st 0 cls).drop ((matchN st 0 cls).length - l)⟩, r) := by unfold pickCh; rw [if_neg (by rw [h]; decide), if_neg h2]
end Rf
namespace Go.Proofs.YtbiojnljihgpoaaGreatDoor
open Go.RowKit
theorem Free.ch {w : World} {q : Nat} {cs : Array Value} (h : w.heap[q]? = some (.cells cs 79 (0, 0))) : Free w (fun k => k = q) := by
 have key : ∀ t : TypeId, t ≠ 79 -> ∀ k cs', w.heap[k]? = some (.cells cs' t (0, 0)) -> ¬ k = q := by
  intro t ht k cs' hc e
  subst e
  rw [h] at hc
  injection hc with h3; injection h3 with _ h4
  exact ht h4.symm
 exact ⟨key _ (by decide), key _ (by decide), key _ (by decide), key _ (by decide), key _ (by decide)⟩
theorem noCh_is (w : World) : ChIs w ⟨⟨none, 0, 0⟩, ⟨none, 0, 0⟩, 0, ⟨none, 0, 0⟩⟩ Rf.noCh := ⟨⟨⟨[], Seen.nil, (fun q hq => by cases hq), rfl⟩, ⟨[], Seen.nil, (fun q hq => by cases hq), rfl⟩, rfl⟩, Seen.nil⟩
set_option maxHeartbeats 1000000 in
set_option maxRecDepth 100000 in
theorem pchL_any (w : World) (lb b : Nat) (h n : Nat) (r : Rf.Rdr) (vc : Value) (cls : List Rf.Cl) (hL : LdAt w lb b ⟨r, 0, h⟩) (hh : h <= 1000) (hn : n <= 16) (hC : SeenCls w vc cls) (hCG : Rf.ClsG cls) (hcl : cls.length <= 30) :
  Calls Tryz.prog 59 #[.pointer (some ⟨lb, 0, none⟩), .int .i64 n, vc] w fun x w' => ∃ y : ChV, x = .returned (.agg #[.slice y.g.a y.g.n y.g.c, .slice y.t.a y.t.n y.t.c, .int .i64 y.f, .slice y.c.a y.c.n y.c.c]) /\ ChIs w' y (Rf.chL n cls h r).1 /\ RdB w' b (Rf.chL n cls h r).2 /\ Kept (LdM lb b) w w' := by
 have hll := blk_lt hL.l
 have hbl := blk_lt hL.r
 have H : Hid _ := hL
 obtain ⟨ca, cc, hvc⟩ := hC.slice
 subst hvc
 have HC : Hid _ := hC
 have HCG : Hid (Rf.ClsG cls) := hCG
 obtain ⟨f1, f2, f3, f4⟩ := Rf.stL_facts n h r hL.ok hn
 obtain ⟨g1, g2, g3, g4, g5, g6⟩ := Rf.allGoals_facts r h hL.ok
 have hchE := Rf.chL_eq n cls h r
 have hstE : Rf.stL n h r = ⟨(Rf.allGoalsL ⟨r, 0, h⟩).1, (Rf.termsL n [] (Rf.allGoalsL ⟨r, 0, h⟩).2).1, ((Rf.termsL n [] (Rf.allGoalsL ⟨r, 0, h⟩).2).2.fresh : Nat)⟩ := rfl
 have hlfE : Rf.leftL n h r = Rf.numL 30 (Rf.termsL n [] (Rf.allGoalsL ⟨r, 0, h⟩).2).2.r := rfl
 obtain ⟨G, hGe⟩ : ∃ G, Hid (G = Rf.allGoalsL ⟨r, 0, h⟩) := ⟨_, rfl⟩
 rw [<- hGe.out] at hstE hlfE g2
 obtain ⟨T, hTe⟩ : ∃ T, Hid (T = Rf.termsL n [] G.2) := ⟨_, rfl⟩
 rw [<- hTe.out] at hstE hlfE
 obtain ⟨S, hSe⟩ : ∃ S, Hid (S = (⟨G.1, T.1, (T.2.fresh : Nat)⟩ : Rf.St)) := ⟨_, rfl⟩
 rw [<- hSe.out] at hstE
 rw [hstE] at f1 f4 hchE
 have HG : Hid (Rf.StG 1000 406400 S) := f1.stg hn
 have HO : Hid (Rf.RdrOk (Rf.leftL n h r).2) := f2
 obtain ⟨l, hle⟩ : ∃ l, Hid (l = (Rf.numL 30 T.2.r).1) := ⟨_, rfl⟩
 obtain ⟨R, hRe⟩ : ∃ R, Hid (R = (Rf.numL 30 T.2.r).2) := ⟨_, rfl⟩
 rw [hlfE] at HO f3 f4 hchE
 rw [<- hle.out] at f3 hchE
 rw [<- hRe.out] at HO f4 hchE
 have HE : Hid _ := hchE
 obtain ⟨m, hme⟩ : ∃ m, Hid (m = (Rf.matchN S 0 cls).length) := ⟨_, rfl⟩
 have hm30 : m <= 30 := by rw [hme.out]; have := Rf.matchN_len S 0 cls; omega
 have HSt : Hid (∀ (X : World) (v1 v2 : Value), SeenTs X v1 G.1 -> SeenTs X v2 T.1 -> StIs X v1 v2 (T.2.fresh : Nat) S) := by
  intro X v1 v2 e1 e2
  rw [hSe.out]
  exact ⟨e1, e2, rfl⟩
 clear hL hC hCG f1 f2 g1 g3 g4 g5 g6 hstE hlfE hchE
 cases hw : R.wrong
 ·obtain ⟨_, hne⟩ := f4 hw
  have HNE : Hid (S.goals ≠ []) := hne
  have HWF : Hid (R.wrong = false) := hw
  clear f4 hne hw
  by_cases c1 : l < 1
  ·have hP : Hid (Rf.chL n cls h r = (Rf.noCh, Rf.refuse)) := by unfold Hid; rw [HE.out, Rf.pick_no HWF.out (.inl c1)]
   have c1i : (l : Int) < 1 := by omega
   go_enter Tryz.func59, Tryz.ntmps59
   go_wp2_with (first
    | (go_at_call 57; refine (prefuse_any _ b R HL4.out.r).mono ?_; rintro x w5 ⟨rfl, hR5, hk5⟩; have HR5 : Hid (RdB w5 b Rf.refuse) := hR5; have HK5 : Hid (Kept (LdM lb b) w w5) := HK4.out.trans (LdM.of hk5) (fun _ _ e => e); have hG := (hk5.block w.heap.size gl (by omega)).trans HG4.out; clear g0 g1 g2 g3 gf gl; have g0 := blk_cell hG 0; have g1 := blk_cell hG 1; have g2 := blk_cell hG 2; have g3 := blk_cell hG 3; have gf := blk_frozen hG; have gl := blk_lt hG; simp at g0 g1 g2 g3; clear hG hk5 hR5)
    | (go_at_call 76; refine (pmatching_any _ _ _ _ S (.slice ca cls.length cc) cls 1000 406400 (HSt.out _ _ _ (HSg3.out.below (by repeat(first|exact bl0 _ _|refine bl1 ?_ (by simp<;>omega) _|refine bl2 ?_|refine bl3 ?_ _|refine bl4 ?_ (by simp<;>omega) _))) (HSt3.out.below (by repeat(first|exact bl0 _ _|refine bl1 ?_ (by simp<;>omega) _|refine bl2 ?_|refine bl3 ?_ _|refine bl4 ?_ (by simp<;>omega) _)))) HG.out (by omega) (by omega) HNE.out ((HC.out.kept HK3.out (LdM.free H.out)).below (by repeat(first|exact bl0 _ _|refine bl1 ?_ (by simp<;>omega) _|refine bl2 ?_|refine bl3 ?_ _|refine bl4 ?_ (by simp<;>omega) _))) HCG.out hcl).mono ?_; rintro x w4 ⟨a3, n3, c3, rfl, hM4, hb4⟩; have hn3 : n3 = m := hM4.len.trans hme.out.symm; subst hn3; have HM4 : Hid _ := hM4; have hbX : Below w3.heap.size w3 w4 := Below.trans (by repeat(first|exact bl0 _ _|refine bl1 ?_ (by simp<;>omega) _|refine bl2 ?_|refine bl3 ?_ _|refine bl4 ?_ (by simp<;>omega) _)) (hb4.mono (by simp)); have HbX : Hid _ := hbX; have hG := (hbX.block w.heap.size gl).trans HG3.out; have HG4 : Hid _ := hG; clear g0 g1 g2 g3 gf gl; have g0 := blk_cell hG 0; have g1 := blk_cell hG 1; have g2 := blk_cell hG 2; have g3 := blk_cell hG 3; have gf := blk_frozen hG; have gl := blk_lt hG; simp at g0 g1 g2 g3; have HL4 : Hid _ := HL3.out.below hbX; have HK4 : Hid (Kept (LdM lb b) w w4) := HK3.out.trans (Kept.of_below hbX (LdM lb b)) (fun _ _ e => e); have hS4 := (hb4.block w3.heap.size (by simp)).trans (blk_new _ _); have s0 := blk_cell hS4 0; have s1 := blk_cell hS4 1; have s2 := blk_cell hS4 2; have sf := blk_frozen hS4; have sl := blk_lt hS4; simp at s0 s1 s2; clear p0 p1 p2 pf pl; obtain ⟨p0, p1, p2, pf, pl⟩ := HL4.out.l.facts; simp only at p0 p1 p2; clear hG hb4 hbX hM4 hS4)
    | (go_at_call 42; refine (pwrong_any _ b R HL3.out.r).mono ?_; rintro x w9 ⟨hx9, hw9⟩; rw [HWF.out] at hx9; subst hx9; subst w9)
    | (go_at_call 40; refine (pnumL_any _ b T.2.r 30 HL2.out.r HL2.out.ok (by omega)).mono ?_; rintro x w3 ⟨hx3, hR3, hk3⟩; rw [<- hle.out] at hx3; subst hx3; rw [<- hRe.out] at hR3; have HL3 : Hid _ := LdAt.go HL2.out hk3 hR3 HO.out; have hk3' := LdM.of (lb := lb) hk3; have HSg3 : Hid _ := HSg.out.keptM hk3' (LdM.free HL2.out).p (LdM.free HL2.out).t; have HSt3 : Hid _ := HS2.out.keptM hk3' (LdM.free HL2.out).p (LdM.free HL2.out).t; have HK3 : Hid (Kept (LdM lb b) w w3) := HK2.out.trans hk3' (fun _ _ e => e); have hG := (hk3.block w.heap.size gl (by omega)).trans HG2.out; have HG3 : Hid _ := hG; clear g0 g1 g2 g3 gf gl; have g0 := blk_cell hG 0; have g1 := blk_cell hG 1; have g2 := blk_cell hG 2; have g3 := blk_cell hG 3; have gf := blk_frozen hG; have gl := blk_lt hG; simp at g0 g1 g2 g3; clear p0 p1 p2 pf pl; obtain ⟨p0, p1, p2, pf, pl⟩ := HL3.out.l.facts; simp only at p0 p1 p2; clear hG hk3 hk3' hR3)
    | (go_at_call 75; refine (ptermsL_any _ lb b _ n HL1.out (by omega) hn).mono ?_; rintro x w2 ⟨vt, rfl, hS2, hL2, hk2⟩; rw [<- hTe.out] at hS2 hL2; obtain ⟨ta, tc, hvt⟩ := hS2.slice; subst hvt; have HS2 : Hid _ := hS2; have HSg : Hid _ := HS1.out.keptM hk2 (LdM.free HL1.out).p (LdM.free HL1.out).t; have HL2 : Hid _ := hL2; have HK2 : Hid (Kept (LdM lb b) w w2) := HK1.out.trans hk2 (fun _ _ e => e); have hG := (hk2.block w.heap.size gl (fun e => by rcases e with e | e <;> omega)).trans HG1.out; have HG2 : Hid _ := hG; clear g0 g1 g2 g3 gf gl; have g0 := blk_cell hG 0; have g1 := blk_cell hG 1; have g2 := blk_cell hG 2; have g3 := blk_cell hG 3; have gf := blk_frozen hG; have gl := blk_lt hG; simp at g0 g1 g2 g3; obtain ⟨p0, p1, p2, pf, pl⟩ := HL2.out.l.facts; clear hG hk2 hS2 hL2)
    | (go_at_call 74; refine (pgoalsL_any _ lb b _ (H.out.below (by repeat(first|exact bl0 _ _|refine bl1 ?_ (by simp<;>omega) _|refine bl2 ?_|refine bl3 ?_ _|refine bl4 ?_ (by simp<;>omega) _))) (by show (0 : Nat) <= _; omega) (by show h <= _; omega)).mono ?_; rintro x w1 ⟨vg, rfl, hS1, hL1, hk1⟩; rw [<- hGe.out] at hS1 hL1; obtain ⟨ga, gc, hvg⟩ := hS1.slice; subst hvg; have HS1 : Hid _ := hS1; have HL1 : Hid _ := hL1; have HK1 : Hid (Kept (LdM lb b) w w1) := Kept.trans (M' := LdM lb b) (by repeat'(first|exact kep0 _ _|refine kep1 ?_ ?_ _|refine kep2 ?_|refine kep3 ?_ _|refine kep4 ?_ _|exact Or.inr rfl|exact Or.inr (Or.inl rfl)|(refine Or.inl ?_;simp;done)|(refine Or.inl ?_;simp;omega))) hk1 (fun _ _ e => e); have hG := (hk1.block w.heap.size (by simp) (fun e => by rcases e with e | e <;> omega)).trans (blk_new _ _); have HG1 : Hid _ := hG; have g0 := blk_cell hG 0; have g1 := blk_cell hG 1; have g2 := blk_cell hG 2; have g3 := blk_cell hG 3; have gf := blk_frozen hG; have gl := blk_lt hG; simp at g0 g1 g2 g3; clear hG hk1 hS1 hL1))
   refine bodyPost_ret (v := (.agg #[.slice none 0 0, .slice none 0 0, .int .i64 0, .slice none 0 0])) (by simp [results, Tryz.results59, go_sem, *]) rfl ?_
   rw [hP.out]
   exact ⟨⟨⟨none, 0, 0⟩, ⟨none, 0, 0⟩, 0, ⟨none, 0, 0⟩⟩, rfl, noCh_is _, RdB.kept HR5.out (keep4 _ _ _ _ _ _) (by omega), HK5.out.trans (keep4 _ _ _ _ _ _) (fun i hi e => by omega)⟩
  ·have c1i : ¬ ((l : Int) < 1) := by omega
   have c1d : decide ((l : Int) < 1) = false := decide_eq_false c1i
   by_cases c2 : m < l + 1
   ·have hP : Hid (Rf.chL n cls h r = (Rf.noCh, Rf.refuse)) := by unfold Hid; rw [HE.out, Rf.pick_no HWF.out (.inr (by rw [<- hme.out]; exact c2))]
    have c2i : (m : Int) - l < 1 := by omega
    go_enter Tryz.func59, Tryz.ntmps59
    go_wp2_with (first
     | (go_at_call 57; refine (prefuse_any _ b R HL4.out.r).mono ?_; rintro x w5 ⟨rfl, hR5, hk5⟩; have HR5 : Hid (RdB w5 b Rf.refuse) := hR5; have HK5 : Hid (Kept (LdM lb b) w w5) := HK4.out.trans (LdM.of hk5) (fun _ _ e => e); have hG := (hk5.block w.heap.size gl (by omega)).trans HG4.out; clear g0 g1 g2 g3 gf gl; have g0 := blk_cell hG 0; have g1 := blk_cell hG 1; have g2 := blk_cell hG 2; have g3 := blk_cell hG 3; have gf := blk_frozen hG; have gl := blk_lt hG; simp at g0 g1 g2 g3; clear hG hk5 hR5)
     | (go_at_call 76; refine (pmatching_any _ _ _ _ S (.slice ca cls.length cc) cls 1000 406400 (HSt.out _ _ _ (HSg3.out.below (by repeat(first|exact bl0 _ _|refine bl1 ?_ (by simp<;>omega) _|refine bl2 ?_|refine bl3 ?_ _|refine bl4 ?_ (by simp<;>omega) _))) (HSt3.out.below (by repeat(first|exact bl0 _ _|refine bl1 ?_ (by simp<;>omega) _|refine bl2 ?_|refine bl3 ?_ _|refine bl4 ?_ (by simp<;>omega) _)))) HG.out (by omega) (by omega) HNE.out ((HC.out.kept HK3.out (LdM.free H.out)).below (by repeat(first|exact bl0 _ _|refine bl1 ?_ (by simp<;>omega) _|refine bl2 ?_|refine bl3 ?_ _|refine bl4 ?_ (by simp<;>omega) _))) HCG.out hcl).mono ?_; rintro x w4 ⟨a3, n3, c3, rfl, hM4, hb4⟩; have hn3 : n3 = m := hM4.len.trans hme.out.symm; subst hn3; have HM4 : Hid _ := hM4; have hbX : Below w3.heap.size w3 w4 := Below.trans (by repeat(first|exact bl0 _ _|refine bl1 ?_ (by simp<;>omega) _|refine bl2 ?_|refine bl3 ?_ _|refine bl4 ?_ (by simp<;>omega) _)) (hb4.mono (by simp)); have HbX : Hid _ := hbX; have hG := (hbX.block w.heap.size gl).trans HG3.out; have HG4 : Hid _ := hG; clear g0 g1 g2 g3 gf gl; have g0 := blk_cell hG 0; have g1 := blk_cell hG 1; have g2 := blk_cell hG 2; have g3 := blk_cell hG 3; have gf := blk_frozen hG; have gl := blk_lt hG; simp at g0 g1 g2 g3; have HL4 : Hid _ := HL3.out.below hbX; have HK4 : Hid (Kept (LdM lb b) w w4) := HK3.out.trans (Kept.of_below hbX (LdM lb b)) (fun _ _ e => e); have hS4 := (hb4.block w3.heap.size (by simp)).trans (blk_new _ _); have s0 := blk_cell hS4 0; have s1 := blk_cell hS4 1; have s2 := blk_cell hS4 2; have sf := blk_frozen hS4; have sl := blk_lt hS4; simp at s0 s1 s2; clear p0 p1 p2 pf pl; obtain ⟨p0, p1, p2, pf, pl⟩ := HL4.out.l.facts; simp only at p0 p1 p2; clear hG hb4 hbX hM4 hS4)
     | (go_at_call 42; refine (pwrong_any _ b R HL3.out.r).mono ?_; rintro x w9 ⟨hx9, hw9⟩; rw [HWF.out] at hx9; subst hx9; subst w9)
     | (go_at_call 40; refine (pnumL_any _ b T.2.r 30 HL2.out.r HL2.out.ok (by omega)).mono ?_; rintro x w3 ⟨hx3, hR3, hk3⟩; rw [<- hle.out] at hx3; subst hx3; rw [<- hRe.out] at hR3; have HL3 : Hid _ := LdAt.go HL2.out hk3 hR3 HO.out; have hk3' := LdM.of (lb := lb) hk3; have HSg3 : Hid _ := HSg.out.keptM hk3' (LdM.free HL2.out).p (LdM.free HL2.out).t; have HSt3 : Hid _ := HS2.out.keptM hk3' (LdM.free HL2.out).p (LdM.free HL2.out).t; have HK3 : Hid (Kept (LdM lb b) w w3) := HK2.out.trans hk3' (fun _ _ e => e); have hG := (hk3.block w.heap.size gl (by omega)).trans HG2.out; have HG3 : Hid _ := hG; clear g0 g1 g2 g3 gf gl; have g0 := blk_cell hG 0; have g1 := blk_cell hG 1; have g2 := blk_cell hG 2; have g3 := blk_cell hG 3; have gf := blk_frozen hG; have gl := blk_lt hG; simp at g0 g1 g2 g3; clear p0 p1 p2 pf pl; obtain ⟨p0, p1, p2, pf, pl⟩ := HL3.out.l.facts; simp only at p0 p1 p2; clear hG hk3 hk3' hR3)
     | (go_at_call 75; refine (ptermsL_any _ lb b _ n HL1.out (by omega) hn).mono ?_; rintro x w2 ⟨vt, rfl, hS2, hL2, hk2⟩; rw [<- hTe.out] at hS2 hL2; obtain ⟨ta, tc, hvt⟩ := hS2.slice; subst hvt; have HS2 : Hid _ := hS2; have HSg : Hid _ := HS1.out.keptM hk2 (LdM.free HL1.out).p (LdM.free HL1.out).t; have HL2 : Hid _ := hL2; have HK2 : Hid (Kept (LdM lb b) w w2) := HK1.out.trans hk2 (fun _ _ e => e); have hG := (hk2.block w.heap.size gl (fun e => by rcases e with e | e <;> omega)).trans HG1.out; have HG2 : Hid _ := hG; clear g0 g1 g2 g3 gf gl; have g0 := blk_cell hG 0; have g1 := blk_cell hG 1; have g2 := blk_cell hG 2; have g3 := blk_cell hG 3; have gf := blk_frozen hG; have gl := blk_lt hG; simp at g0 g1 g2 g3; obtain ⟨p0, p1, p2, pf, pl⟩ := HL2.out.l.facts; clear hG hk2 hS2 hL2)
     | (go_at_call 74; refine (pgoalsL_any _ lb b _ (H.out.below (by repeat(first|exact bl0 _ _|refine bl1 ?_ (by simp<;>omega) _|refine bl2 ?_|refine bl3 ?_ _|refine bl4 ?_ (by simp<;>omega) _))) (by show (0 : Nat) <= _; omega) (by show h <= _; omega)).mono ?_; rintro x w1 ⟨vg, rfl, hS1, hL1, hk1⟩; rw [<- hGe.out] at hS1 hL1; obtain ⟨ga, gc, hvg⟩ := hS1.slice; subst hvg; have HS1 : Hid _ := hS1; have HL1 : Hid _ := hL1; have HK1 : Hid (Kept (LdM lb b) w w1) := Kept.trans (M' := LdM lb b) (by repeat'(first|exact kep0 _ _|refine kep1 ?_ ?_ _|refine kep2 ?_|refine kep3 ?_ _|refine kep4 ?_ _|exact Or.inr rfl|exact Or.inr (Or.inl rfl)|(refine Or.inl ?_;simp;done)|(refine Or.inl ?_;simp;omega))) hk1 (fun _ _ e => e); have hG := (hk1.block w.heap.size (by simp) (fun e => by rcases e with e | e <;> omega)).trans (blk_new _ _); have HG1 : Hid _ := hG; have g0 := blk_cell hG 0; have g1 := blk_cell hG 1; have g2 := blk_cell hG 2; have g3 := blk_cell hG 3; have gf := blk_frozen hG; have gl := blk_lt hG; simp at g0 g1 g2 g3; clear hG hk1 hS1 hL1))
    refine bodyPost_ret (v := (.agg #[.slice none 0 0, .slice none 0 0, .int .i64 0, .slice none 0 0])) (by simp [results, Tryz.results59, go_sem, *]) rfl ?_
    rw [hP.out]
    exact ⟨⟨⟨none, 0, 0⟩, ⟨none, 0, 0⟩, 0, ⟨none, 0, 0⟩⟩, rfl, noCh_is _, RdB.kept HR5.out (keep4 _ _ _ _ _ _) (by omega), HK5.out.trans (keep4 _ _ _ _ _ _) (fun i hi e => by omega)⟩
   ·have hP : Hid (Rf.chL n cls h r = (⟨S, (Rf.matchN S 0 cls).drop (m - l)⟩, R)) := by unfold Hid; rw [HE.out, Rf.pick_yes HWF.out (fun e => by rcases e with e | e; exact c1 e; rw [<- hme.out] at e; exact c2 e), <- hme.out]
    obtain ⟨u, hu⟩ : ∃ u : Nat, (m : Int) - l = (u : Int) := ⟨m - l, by omega⟩
    have hul : (u : Int) <= m := by omega
    have hum : u = m - l := by omega
    have Hum : Hid _ := hum
    have hu1 : ¬ ((u : Int) < 1) := by omega
    have hu1d : decide ((u : Int) < 1) = false := decide_eq_false hu1
    clear hum
    go_enter Tryz.func59, Tryz.ntmps59
    go_wp2_with (first
     | (go_at_call 76; refine (pmatching_any _ _ _ _ S (.slice ca cls.length cc) cls 1000 406400 (HSt.out _ _ _ (HSg3.out.below (by repeat(first|exact bl0 _ _|refine bl1 ?_ (by simp<;>omega) _|refine bl2 ?_|refine bl3 ?_ _|refine bl4 ?_ (by simp<;>omega) _))) (HSt3.out.below (by repeat(first|exact bl0 _ _|refine bl1 ?_ (by simp<;>omega) _|refine bl2 ?_|refine bl3 ?_ _|refine bl4 ?_ (by simp<;>omega) _)))) HG.out (by omega) (by omega) HNE.out ((HC.out.kept HK3.out (LdM.free H.out)).below (by repeat(first|exact bl0 _ _|refine bl1 ?_ (by simp<;>omega) _|refine bl2 ?_|refine bl3 ?_ _|refine bl4 ?_ (by simp<;>omega) _))) HCG.out hcl).mono ?_; rintro x w4 ⟨a3, n3, c3, rfl, hM4, hb4⟩; have hn3 : n3 = m := hM4.len.trans hme.out.symm; subst hn3; have HM4 : Hid _ := hM4; have hbX : Below w3.heap.size w3 w4 := Below.trans (by repeat(first|exact bl0 _ _|refine bl1 ?_ (by simp<;>omega) _|refine bl2 ?_|refine bl3 ?_ _|refine bl4 ?_ (by simp<;>omega) _)) (hb4.mono (by simp)); have HbX : Hid _ := hbX; have hG := (hbX.block w.heap.size gl).trans HG3.out; have HG4 : Hid _ := hG; clear g0 g1 g2 g3 gf gl; have g0 := blk_cell hG 0; have g1 := blk_cell hG 1; have g2 := blk_cell hG 2; have g3 := blk_cell hG 3; have gf := blk_frozen hG; have gl := blk_lt hG; simp at g0 g1 g2 g3; have HL4 : Hid _ := HL3.out.below hbX; have HK4 : Hid (Kept (LdM lb b) w w4) := HK3.out.trans (Kept.of_below hbX (LdM lb b)) (fun _ _ e => e); have hS4 := (hb4.block w3.heap.size (by simp)).trans (blk_new _ _); have s0 := blk_cell hS4 0; have s1 := blk_cell hS4 1; have s2 := blk_cell hS4 2; have sf := blk_frozen hS4; have sl := blk_lt hS4; simp at s0 s1 s2; clear p0 p1 p2 pf pl; obtain ⟨p0, p1, p2, pf, pl⟩ := HL4.out.l.facts; simp only at p0 p1 p2; clear hG hb4 hbX hM4 hS4)
     | (go_at_call 42; refine (pwrong_any _ b R HL3.out.r).mono ?_; rintro x w9 ⟨hx9, hw9⟩; rw [HWF.out] at hx9; subst hx9; subst w9)
     | (go_at_call 40; refine (pnumL_any _ b T.2.r 30 HL2.out.r HL2.out.ok (by omega)).mono ?_; rintro x w3 ⟨hx3, hR3, hk3⟩; rw [<- hle.out] at hx3; subst hx3; rw [<- hRe.out] at hR3; have HL3 : Hid _ := LdAt.go HL2.out hk3 hR3 HO.out; have hk3' := LdM.of (lb := lb) hk3; have HSg3 : Hid _ := HSg.out.keptM hk3' (LdM.free HL2.out).p (LdM.free HL2.out).t; have HSt3 : Hid _ := HS2.out.keptM hk3' (LdM.free HL2.out).p (LdM.free HL2.out).t; have HK3 : Hid (Kept (LdM lb b) w w3) := HK2.out.trans hk3' (fun _ _ e => e); have hG := (hk3.block w.heap.size gl (by omega)).trans HG2.out; have HG3 : Hid _ := hG; clear g0 g1 g2 g3 gf gl; have g0 := blk_cell hG 0; have g1 := blk_cell hG 1; have g2 := blk_cell hG 2; have g3 := blk_cell hG 3; have gf := blk_frozen hG; have gl := blk_lt hG; simp at g0 g1 g2 g3; clear p0 p1 p2 pf pl; obtain ⟨p0, p1, p2, pf, pl⟩ := HL3.out.l.facts; simp only at p0 p1 p2; clear hG hk3 hk3' hR3)
     | (go_at_call 75; refine (ptermsL_any _ lb b _ n HL1.out (by omega) hn).mono ?_; rintro x w2 ⟨vt, rfl, hS2, hL2, hk2⟩; rw [<- hTe.out] at hS2 hL2; obtain ⟨ta, tc, hvt⟩ := hS2.slice; subst hvt; have HS2 : Hid _ := hS2; have HSg : Hid _ := HS1.out.keptM hk2 (LdM.free HL1.out).p (LdM.free HL1.out).t; have HL2 : Hid _ := hL2; have HK2 : Hid (Kept (LdM lb b) w w2) := HK1.out.trans hk2 (fun _ _ e => e); have hG := (hk2.block w.heap.size gl (fun e => by rcases e with e | e <;> omega)).trans HG1.out; have HG2 : Hid _ := hG; clear g0 g1 g2 g3 gf gl; have g0 := blk_cell hG 0; have g1 := blk_cell hG 1; have g2 := blk_cell hG 2; have g3 := blk_cell hG 3; have gf := blk_frozen hG; have gl := blk_lt hG; simp at g0 g1 g2 g3; obtain ⟨p0, p1, p2, pf, pl⟩ := HL2.out.l.facts; clear hG hk2 hS2 hL2)
     | (go_at_call 74; refine (pgoalsL_any _ lb b _ (H.out.below (by repeat(first|exact bl0 _ _|refine bl1 ?_ (by simp<;>omega) _|refine bl2 ?_|refine bl3 ?_ _|refine bl4 ?_ (by simp<;>omega) _))) (by show (0 : Nat) <= _; omega) (by show h <= _; omega)).mono ?_; rintro x w1 ⟨vg, rfl, hS1, hL1, hk1⟩; rw [<- hGe.out] at hS1 hL1; obtain ⟨ga, gc, hvg⟩ := hS1.slice; subst hvg; have HS1 : Hid _ := hS1; have HL1 : Hid _ := hL1; have HK1 : Hid (Kept (LdM lb b) w w1) := Kept.trans (M' := LdM lb b) (by repeat'(first|exact kep0 _ _|refine kep1 ?_ ?_ _|refine kep2 ?_|refine kep3 ?_ _|refine kep4 ?_ _|exact Or.inr rfl|exact Or.inr (Or.inl rfl)|(refine Or.inl ?_;simp;done)|(refine Or.inl ?_;simp;omega))) hk1 (fun _ _ e => e); have hG := (hk1.block w.heap.size (by simp) (fun e => by rcases e with e | e <;> omega)).trans (blk_new _ _); have HG1 : Hid _ := hG; have g0 := blk_cell hG 0; have g1 := blk_cell hG 1; have g2 := blk_cell hG 2; have g3 := blk_cell hG 3; have gf := blk_frozen hG; have gl := blk_lt hG; simp at g0 g1 g2 g3; clear hG hk1 hS1 hL1))
    obtain ⟨g4, o4, ha3⟩ := HM4.out.pos (by rw [<- hme.out]; omega)
    subst ha3
    have hcap := HM4.out.cap.1
    rw [<- hme.out] at hcap
    have hcapi : (u : Int) <= c3 := by omega
    have hD := Seen.drop natCells_len HM4.out u (by rw [<- hme.out]; omega)
    rw [<- hme.out, Nat.mul_one] at hD
    have HD : Hid _ := hD
    clear hD p0 p1 p2 pf pl
    go_region
    all_goals
     go_wp2_with fail
     refine bodyPost_ret (v := .agg #[.slice ga G.1.length gc, .slice ta T.1.length tc, .int .i64 (T.2.fresh : Nat), .slice (some ⟨g4, o4 + u, none⟩) (n3 - u) (c3 - u)]) (by simp [results, Tryz.results59, go_sem, *]) rfl ?_
     rw [hP.out]
     have hfr := Free.ch HG4.out
     have hk9 := Kept.drew (keep4 w4 w.heap.size (.slice ga G.1.length gc) (.slice ta T.1.length tc) (.int .i64 (T.2.fresh : Nat)) (.slice (some ⟨g4, o4 + u, none⟩) (n3 - u) (c3 - u)))
     refine ⟨⟨⟨ga, G.1.length, gc⟩, ⟨ta, T.1.length, tc⟩, (T.2.fresh : Nat), ⟨some ⟨g4, o4 + u, none⟩, n3 - u, c3 - u⟩⟩, rfl, ⟨HSt.out _ _ _ ((HSg3.out.below HbX.out).keptM hk9 hfr.p hfr.t) ((HSt3.out.below HbX.out).keptM hk9 hfr.p hfr.t), ?_⟩, RdB.kept HL4.out.r hk9 (by omega), HK4.out.trans hk9 (fun i hi e => by omega)⟩
     have h9 := Seen.kept HD.out hk9 hfr.i
     rw [<- Hum.out]
     exact h9
 ·have hP : Hid (Rf.chL n cls h r = (Rf.noCh, R)) := by unfold Hid; rw [HE.out, Rf.pick_wrong hw]
  have HWF : Hid (R.wrong = true) := hw
  clear hw
  go_enter Tryz.func59, Tryz.ntmps59
  go_wp2_with (first
   | (go_at_call 42; refine (pwrong_any _ b R HL3.out.r).mono ?_; rintro x w9 ⟨hx9, hw9⟩; rw [HWF.out] at hx9; subst hx9; subst w9)
   | (go_at_call 40; refine (pnumL_any _ b T.2.r 30 HL2.out.r HL2.out.ok (by omega)).mono ?_; rintro x w3 ⟨hx3, hR3, hk3⟩; rw [<- hle.out] at hx3; subst hx3; rw [<- hRe.out] at hR3; have HL3 : Hid _ := LdAt.go HL2.out hk3 hR3 HO.out; have hk3' := LdM.of (lb := lb) hk3; have HSg3 : Hid _ := HSg.out.keptM hk3' (LdM.free HL2.out).p (LdM.free HL2.out).t; have HSt3 : Hid _ := HS2.out.keptM hk3' (LdM.free HL2.out).p (LdM.free HL2.out).t; have HK3 : Hid (Kept (LdM lb b) w w3) := HK2.out.trans hk3' (fun _ _ e => e); have hG := (hk3.block w.heap.size gl (by omega)).trans HG2.out; have HG3 : Hid _ := hG; clear g0 g1 g2 g3 gf gl; have g0 := blk_cell hG 0; have g1 := blk_cell hG 1; have g2 := blk_cell hG 2; have g3 := blk_cell hG 3; have gf := blk_frozen hG; have gl := blk_lt hG; simp at g0 g1 g2 g3; clear p0 p1 p2 pf pl; obtain ⟨p0, p1, p2, pf, pl⟩ := HL3.out.l.facts; simp only at p0 p1 p2; clear hG hk3 hk3' hR3)
   | (go_at_call 75; refine (ptermsL_any _ lb b _ n HL1.out (by omega) hn).mono ?_; rintro x w2 ⟨vt, rfl, hS2, hL2, hk2⟩; rw [<- hTe.out] at hS2 hL2; obtain ⟨ta, tc, hvt⟩ := hS2.slice; subst hvt; have HS2 : Hid _ := hS2; have HSg : Hid _ := HS1.out.keptM hk2 (LdM.free HL1.out).p (LdM.free HL1.out).t; have HL2 : Hid _ := hL2; have HK2 : Hid (Kept (LdM lb b) w w2) := HK1.out.trans hk2 (fun _ _ e => e); have hG := (hk2.block w.heap.size gl (fun e => by rcases e with e | e <;> omega)).trans HG1.out; have HG2 : Hid _ := hG; clear g0 g1 g2 g3 gf gl; have g0 := blk_cell hG 0; have g1 := blk_cell hG 1; have g2 := blk_cell hG 2; have g3 := blk_cell hG 3; have gf := blk_frozen hG; have gl := blk_lt hG; simp at g0 g1 g2 g3; obtain ⟨p0, p1, p2, pf, pl⟩ := HL2.out.l.facts; clear hG hk2 hS2 hL2)
   | (go_at_call 74; refine (pgoalsL_any _ lb b _ (H.out.below (by repeat(first|exact bl0 _ _|refine bl1 ?_ (by simp<;>omega) _|refine bl2 ?_|refine bl3 ?_ _|refine bl4 ?_ (by simp<;>omega) _))) (by show (0 : Nat) <= _; omega) (by show h <= _; omega)).mono ?_; rintro x w1 ⟨vg, rfl, hS1, hL1, hk1⟩; rw [<- hGe.out] at hS1 hL1; obtain ⟨ga, gc, hvg⟩ := hS1.slice; subst hvg; have HS1 : Hid _ := hS1; have HL1 : Hid _ := hL1; have HK1 : Hid (Kept (LdM lb b) w w1) := Kept.trans (M' := LdM lb b) (by repeat'(first|exact kep0 _ _|refine kep1 ?_ ?_ _|refine kep2 ?_|refine kep3 ?_ _|refine kep4 ?_ _|exact Or.inr rfl|exact Or.inr (Or.inl rfl)|(refine Or.inl ?_;simp;done)|(refine Or.inl ?_;simp;omega))) hk1 (fun _ _ e => e); have hG := (hk1.block w.heap.size (by simp) (fun e => by rcases e with e | e <;> omega)).trans (blk_new _ _); have HG1 : Hid _ := hG; have g0 := blk_cell hG 0; have g1 := blk_cell hG 1; have g2 := blk_cell hG 2; have g3 := blk_cell hG 3; have gf := blk_frozen hG; have gl := blk_lt hG; simp at g0 g1 g2 g3; clear hG hk1 hS1 hL1))
  refine bodyPost_ret (v := (.agg #[.slice none 0 0, .slice none 0 0, .int .i64 0, .slice none 0 0])) (by simp [results, Tryz.results59, go_sem, *]) rfl ?_
  rw [hP.out]
  exact ⟨⟨⟨none, 0, 0⟩, ⟨none, 0, 0⟩, 0, ⟨none, 0, 0⟩⟩, rfl, noCh_is _, HL3.out.r.kept (keep4 _ _ _ _ _ _) (by omega), HK3.out.trans (keep4 _ _ _ _ _ _) (fun i hi e => by omega)⟩
end Go.Proofs.YtbiojnljihgpoaaGreatDoor
namespace Go.Proofs.YtbiojnljihgpoaaGreatDoor
open Go.RowKit
variable {nm : Value}
theorem isName (s : ByteArray) (l : List UInt8) : (s.toList == l) = true ↔ s = ⟨l.toArray⟩ := by
 rw [<- dec_str]; simp
set_option maxHeartbeats 1000000 in
set_option maxRecDepth 100000 in
theorem pbuilt_any (w : World) (q : Nat) (rb : Option Nat) (names : List ByteArray) (cf : Rf.Cf) (a1 : Option Addr) (n1 c1 : Nat) (A : List Rf.Part) (N : Nat) (F : Int) (h : QAt nm w q rb names cf) (hA : Seen w 101 partCells (.slice a1 n1 c1) A) (hG : Rf.StG N F cf.now) (hN : N <= 9000) (hne : cf.now.goals ≠ []) (hAl : A.length <= 400) (hAG : ∀ p ∈ A, Rf.PartG cf.now.fresh p) (hl20 : cf.chs.length <= 20) :
  Calls Tryz.prog 92 #[.pointer (some ⟨q, 0, none⟩), .slice a1 n1 c1] w fun r w' => r = .returned (.int .i64 (Rf.builtP cf A).1) /\ (∃ rb', QAt nm w' q rb' names (Rf.builtP cf A).2 /\ Nb w rb rb') /\ Kept (May q rb) w w' := by
 have HQ : Hid _ := h
 have HA : Hid _ := hA
 have HAG : Hid (∀ p ∈ A, Rf.PartG cf.now.fresh p) := hAG
 have HA4 : Hid (Rf.ArgsOk A) := fun p hp => (hAG p hp).1
 have HG : Hid _ := hG
 have Hne : Hid _ := hne
 obtain ⟨p, hp⟩ : ∃ p, Hid (Rf.topP A = p) := ⟨_, rfl⟩
 clear h hA hne hAG hG
 by_cases h4 : p.kind = 4
 ·have HB0 : Hid (Rf.builtP cf A = Rf.meetP ⟨cf.now, Rf.dropC cf.chs p.value⟩) := by unfold Hid Rf.builtP; rw [hp.out, if_pos h4]
  go_enter Tryz.func92, Tryz.ntmps92
  go_wp2_with (first
   | (go_at_call 71; refine (ptopA_any a1 n1 c1 A _ HA.out).mono ?_; rintro r w1 ⟨rfl, hb1⟩; rw [hp.out]; have hz1 := hb1.size)
   | (go_at_call 89; refine (pdropTo_any _ q rb names cf p.value (HQ.out.below (hb1.alloc hz1 _)) hl20).mono ?_; rintro r w2 ⟨rfl, hQ2, hk2⟩)
   | (go_at_call 110; refine (pmeet_any _ q rb names _ hQ2 Hne.out).mono ?_; rintro r w3 ⟨rfl, hQ3, hk3⟩))
  go_ret
  rw [HB0.out]
  exact ⟨rfl, ⟨rb, hQ3, .inl rfl⟩, ((Kept.of_below (hb1.alloc hz1 _) (May q rb)).trans hk2 (fun _ _ h => h)).trans hk3 (fun _ _ h => h)⟩
 ·have h4' : (p.kind == 4) = false := beq_eq_false_iff_ne.2 h4
  have b1 : (p.name.toList == [116, 114, 117, 101]) = true ↔ p.name = Rf.trueB := isName p.name [116, 114, 117, 101]
  have b2 : (p.name.toList == [101, 113]) = true ↔ p.name = Rf.eqB := isName p.name [101, 113]
  have b3 : (p.name.toList == [108, 101, 115, 115]) = true ↔ p.name = Rf.lessB := isName p.name [108, 101, 115, 115]
  have b4 : (p.name.toList == [112, 108, 117, 115]) = true ↔ p.name = Rf.plusB := isName p.name [112, 108, 117, 115]
  have b5 : (p.name.toList == [110, 111, 116]) = true ↔ p.name = Rf.notB := isName p.name [110, 111, 116]
  have HBP : Hid (Rf.builtP cf A = if p.name = Rf.trueB then Rf.meetP cf else if p.name = Rf.eqB then Rf.equalP cf (Rf.argT A 0) (Rf.argT A 1) else if p.name = Rf.lessB then Rf.lessP cf A else if p.name = Rf.plusB then Rf.plusP cf A else if p.name = Rf.notB then Rf.notP cf (Rf.argT A 0) else (-1, cf)) := by unfold Hid Rf.builtP; rw [hp.out, if_neg h4]
  cases e1 : (p.name.toList == [116, 114, 117, 101])
  ·rw [e1] at b1
   cases e2 : (p.name.toList == [101, 113])
   ·rw [e2] at b2
    cases e3 : (p.name.toList == [108, 101, 115, 115])
    ·rw [e3] at b3
     cases e4 : (p.name.toList == [112, 108, 117, 115])
     ·rw [e4] at b4
      cases e5 : (p.name.toList == [110, 111, 116])
      ·rw [e5] at b5
       have HB0 : Hid (Rf.builtP cf A = (-1, cf)) := by unfold Hid; rw [HBP.out, if_neg (fun e => by have := b1.2 e; cases this), if_neg (fun e => by have := b2.2 e; cases this), if_neg (fun e => by have := b3.2 e; cases this), if_neg (fun e => by have := b4.2 e; cases this), if_neg (fun e => by have := b5.2 e; cases this)]
       clear HBP b1 b2 b3 b4 b5
       go_enter Tryz.func92, Tryz.ntmps92
       go_wp2_with (go_at_call 71; refine (ptopA_any a1 n1 c1 A _ HA.out).mono ?_; rintro r w1 ⟨rfl, hb1⟩; rw [hp.out]; have hz1 := hb1.size)
       go_ret
       rw [HB0.out]
       exact ⟨rfl, ⟨rb, HQ.out.below (hb1.alloc hz1 _), .inl rfl⟩, Kept.of_below (hb1.alloc hz1 _) _⟩
      ·rw [e5] at b5
       have HB0 : Hid (Rf.builtP cf A = Rf.notP cf (Rf.argT A 0)) := by unfold Hid; rw [HBP.out, if_neg (fun e => by have := b1.2 e; cases this), if_neg (fun e => by have := b2.2 e; cases this), if_neg (fun e => by have := b3.2 e; cases this), if_neg (fun e => by have := b4.2 e; cases this), if_pos (b5.1 rfl)]
       clear HBP b1 b2 b3 b4 b5
       go_enter Tryz.func92, Tryz.ntmps92
       go_wp2_with (first
        | (go_at_call 71; refine (ptopA_any a1 n1 c1 A _ HA.out).mono ?_; rintro r w1 ⟨rfl, hb1⟩; rw [hp.out]; have hz1 := hb1.size)
        | (go_at_call 112; refine (parg0_any a1 n1 c1 A _ (HA.out.below (hb1.alloc hz1 _)) HA4.out hAl).mono ?_; rintro r w2 ⟨a3, n3, c3, rfl, hS2, hb2⟩; have hbw2 : Below w.heap.size w w2 := (hb1.alloc hz1 _).trans (hb2.mono (by rw [World.size_alloc]; omega)))
        | (go_at_call 115; refine (pnot_any _ q rb names cf a3 n3 c3 (Rf.argT A 0) (HQ.out.below hbw2) hS2 Hne.out hl20).mono ?_; rintro r w3 ⟨rfl, ⟨rb', hQ3, hnb⟩, hk3⟩))
       go_ret
       rw [HB0.out]
       exact ⟨rfl, ⟨rb', hQ3, by
        rcases hnb with e | ⟨k, e, hk⟩
        ·exact .inl e
        ·exact .inr ⟨k, e, by have := hbw2.size; omega⟩⟩, (Kept.of_below hbw2 _).trans hk3 (fun _ _ h => h)⟩
     ·rw [e4] at b4
      have HB0 : Hid (Rf.builtP cf A = Rf.plusP cf A) := by unfold Hid; rw [HBP.out, if_neg (fun e => by have := b1.2 e; cases this), if_neg (fun e => by have := b2.2 e; cases this), if_neg (fun e => by have := b3.2 e; cases this), if_pos (b4.1 rfl)]
      clear HBP b1 b2 b3 b4 b5
      go_enter Tryz.func92, Tryz.ntmps92
      go_wp2_with (first
       | (go_at_call 71; refine (ptopA_any a1 n1 c1 A _ HA.out).mono ?_; rintro r w1 ⟨rfl, hb1⟩; rw [hp.out]; have hz1 := hb1.size)
       | (go_at_call 114; refine (pplus_any _ q rb names cf a1 n1 c1 A N F (HQ.out.below (hb1.alloc hz1 _)) (HA.out.below (hb1.alloc hz1 _)) HG.out hN Hne.out hAl HAG.out).mono ?_; rintro r w3 ⟨rfl, hQ3, hk3⟩))
      go_ret
      rw [HB0.out]
      exact ⟨rfl, ⟨rb, hQ3, .inl rfl⟩, (Kept.of_below (hb1.alloc hz1 _) _).trans hk3 (fun _ _ h => h)⟩
    ·rw [e3] at b3
     have HB0 : Hid (Rf.builtP cf A = Rf.lessP cf A) := by unfold Hid; rw [HBP.out, if_neg (fun e => by have := b1.2 e; cases this), if_neg (fun e => by have := b2.2 e; cases this), if_pos (b3.1 rfl)]
     clear HBP b1 b2 b3 b4 b5
     go_enter Tryz.func92, Tryz.ntmps92
     go_wp2_with (first
      | (go_at_call 71; refine (ptopA_any a1 n1 c1 A _ HA.out).mono ?_; rintro r w1 ⟨rfl, hb1⟩; rw [hp.out]; have hz1 := hb1.size)
      | (go_at_call 113; refine (pless_any _ q rb names cf a1 n1 c1 A (HQ.out.below (hb1.alloc hz1 _)) (HA.out.below (hb1.alloc hz1 _)) Hne.out hAl HA4.out).mono ?_; rintro r w3 ⟨rfl, hQ3, hk3⟩))
     go_ret
     rw [HB0.out]
     exact ⟨rfl, ⟨rb, hQ3, .inl rfl⟩, (Kept.of_below (hb1.alloc hz1 _) _).trans hk3 (fun _ _ h => h)⟩
   ·rw [e2] at b2
    have HB0 : Hid (Rf.builtP cf A = Rf.equalP cf (Rf.argT A 0) (Rf.argT A 1)) := by unfold Hid; rw [HBP.out, if_neg (fun e => by have := b1.2 e; cases this), if_pos (b2.1 rfl)]
    clear HBP b1 b2 b3 b4 b5
    go_enter Tryz.func92, Tryz.ntmps92
    go_wp2_with (first
     | (go_at_call 71; refine (ptopA_any a1 n1 c1 A _ HA.out).mono ?_; rintro r w1 ⟨rfl, hb1⟩; rw [hp.out]; have hz1 := hb1.size)
     | (go_at_call 112; first
      | (refine (parg1_any a1 n1 c1 A _ (HA.out.below hbw2) HA4.out hAl).mono ?_; rintro r w4 ⟨a4, n4, c4, rfl, hS4, hb4⟩; have hbw4 : Below w.heap.size w w4 := hbw2.trans (hb4.mono hbw2.size); have hS3 := Seen.below hS2 hb4)
      | (refine (parg0_any a1 n1 c1 A _ (HA.out.below (hb1.alloc hz1 _)) HA4.out hAl).mono ?_; rintro r w2 ⟨a3, n3, c3, rfl, hS2, hb2⟩; have hbw2 : Below w.heap.size w w2 := (hb1.alloc hz1 _).trans (hb2.mono (by rw [World.size_alloc]; omega))))
     | (go_at_call 111; refine (pequal_any _ q rb names cf a3 n3 c3 (Rf.argT A 0) a4 n4 c4 (Rf.argT A 1) N F (HQ.out.below hbw4) hS3 hS4 HG.out hN Hne.out (Nat.le_trans (Rf.argT_sub A 0).1 hAl) (Nat.le_trans (Rf.argT_sub A 1).1 hAl) (argsOk_arg HA4.out 0) (argsOk_arg HA4.out 1)).mono ?_; rintro r w5 ⟨rfl, hQ5, hk5⟩))
    go_ret
    rw [HB0.out]
    exact ⟨rfl, ⟨rb, hQ5, .inl rfl⟩, (Kept.of_below hbw4 _).trans hk5 (fun _ _ h => h)⟩
  ·rw [e1] at b1
   have HB0 : Hid (Rf.builtP cf A = Rf.meetP cf) := by unfold Hid; rw [HBP.out, if_pos (b1.1 rfl)]
   clear HBP b1 b2 b3 b4 b5
   go_enter Tryz.func92, Tryz.ntmps92
   go_wp2_with (first
    | (go_at_call 71; refine (ptopA_any a1 n1 c1 A _ HA.out).mono ?_; rintro r w1 ⟨rfl, hb1⟩; rw [hp.out]; have hz1 := hb1.size)
    | (go_at_call 110; refine (pmeet_any _ q rb names cf (HQ.out.below (hb1.alloc hz1 _)) Hne.out).mono ?_; rintro r w3 ⟨rfl, hQ3, hk3⟩))
   go_ret
   rw [HB0.out]
   exact ⟨rfl, ⟨rb, hQ3, .inl rfl⟩, (Kept.of_below (hb1.alloc hz1 _) _).trans hk3 (fun _ _ h => h)⟩
end Go.Proofs.YtbiojnljihgpoaaGreatDoor
