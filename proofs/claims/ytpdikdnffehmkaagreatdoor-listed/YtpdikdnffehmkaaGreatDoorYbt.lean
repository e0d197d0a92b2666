/- Plain functions: all ways to make a sum (promises P10, P11); the texts that are asked and answered. -/
import Derived.Test.YtpdikdnffehmkaaGreatDoorYan
namespace Rf
theorem wf_H : ∀ k, Wf (k + 1) (AddsL.H k)
  | 0 => wf_atom _ rfl 0
  | k + 1 => .inr ⟨AddsL.sB, [AddsL.H k], by simp, fun q hq => by simp at hq; subst hq; exact wf_H k, by rw [AddsL.H_succ]; simp [AddsL.sP, nmP]⟩
theorem part_H (ν : List ByteArray) (k : Nat) : ∀ p ∈ AddsL.H k, PartOk ν p := fun p hp => by
  unfold AddsL.H AddsL.Sj at hp
  rcases List.mem_append.1 hp with h | h
  · rw [(List.mem_replicate.1 h).2]; exact part_name AddsL.sB_ok (by decide) (by decide)
  · simp at h; subst h; exact part_name AddsL.zB_ok (by decide) (by decide)
theorem txtG_H (wd : Part → ByteArray) (hs : wd AddsL.sP = ⟨#[115]⟩) (hz : wd AddsL.zP = ⟨#[122]⟩) : ∀ k, txtG wd (AddsL.H k) = highB k
  | 0 => by
    show txtG wd [AddsL.zP] = _
    rw [txtG_one _ _ rfl, hz]; rfl
  | k + 1 => by
    have h := txtG_comp wd (k + 1) AddsL.sB [AddsL.H k] (by simp) (fun q hq => by simp at hq; subst hq; exact wf_H k)
    have e1 : txtG wd (AddsL.H (k + 1)) = wd AddsL.sP ++ (⟨#[40]⟩ ++ (txtG wd (AddsL.H k) ++ ⟨#[41]⟩)) := by
      rw [AddsL.H_succ]
      have : ([AddsL.H k].flatten : List Part) = AddsL.H k := by simp
      rw [this] at h
      exact h
    rw [e1, hs, txtG_H wd hs hz k, highB]
    refine bs_inj ?_
    simp only [bs_app, List.append_assoc]
    rfl
theorem txtA_H (k : Nat) : txtA (AddsL.H k) = highB k := by
  have h := txtG_H (wordW false) rfl rfl k
  unfold txtG at h
  rw [textG_W] at h
  exact h
theorem num_H (k m : Nat) : NumTo m (AddsL.H k) m := by
  induction k with
  | zero => exact ⟨m, rfl, rfl⟩
  | succ k ih => rw [AddsL.H_succ]; exact ⟨m, rfl, ih⟩
end Rf
namespace Rf.AddsL
open Rf
def oneT (n m : Nat) : ByteArray := ⟨#[97, 100, 100, 40]⟩ ++ highB n ++ ⟨#[44]⟩ ++ highB m ++ ⟨#[44, 82, 41, 46]⟩
def twoT (n : Nat) : ByteArray := ⟨#[97, 100, 100, 40, 88, 44, 89, 44]⟩ ++ highB n ++ ⟨#[41, 46]⟩
theorem quest_one {n m : Nat} (hn : n ≤ 12) (hm : m ≤ 12) : questS (oneT n m) = .ok ([addP :: (H n ++ (H m ++ [vrP 0]))], [rB]) := by
  have hz : (oneT n m).size ≤ 400 := by
    unfold oneT
    simp only [ByteArray.size_append, highB_size]
    have : (⟨#[97, 100, 100, 40]⟩ : ByteArray).size = 4 := rfl
    have : (⟨#[44]⟩ : ByteArray).size = 1 := rfl
    have : (⟨#[44, 82, 41, 46]⟩ : ByteArray).size = 4 := rfl
    omega
  have hw : ∀ q ∈ [H n, H m, [vrP 0]], Wf 14 q := fun q hq => by
    simp at hq
    rcases hq with rfl | rfl | rfl
    · exact (wf_H n).mono (by omega)
    · exact (wf_H m).mono (by omega)
    · exact wf_atom _ rfl 13
  refine read_quest (ν := [rB]) ⟨by simp, by simp, fun W hW => by simp at hW; subst hW; exact vr_ok⟩ (by simp) (by simp) (fun g hg => ?_) ?_ ?_ hz
  · simp at hg; subst hg
    refine goal_comp (d := 14) (qs := [H n, H m, [vrP 0]]) addB_ok (by simp) (by simp) hw (fun q hq p hp => ?_) (by simp [addP, nmP])
    simp at hq
    rcases hq with rfl | rfl | rfl
    · exact part_H _ n p hp
    · exact part_H _ m p hp
    · simp at hp; subst hp; exact part_var (i := 0) (by simp)
  · show NumTo 0 ((addP :: (H n ++ (H m ++ [vrP 0]))) ++ []) 1
    rw [List.append_nil]
    exact ⟨0, rfl, NumTo.app.2 ⟨0, num_H n 0, NumTo.app.2 ⟨0, num_H m 0, 1, .inr ⟨rfl, rfl⟩, rfl⟩⟩⟩
  · show oneT n m = txtG (wordN [rB]) (addP :: (H n ++ (H m ++ [vrP 0]))) ++ ⟨#[46]⟩
    have h := txtG_comp (wordN [rB]) 14 addB [H n, H m, [vrP 0]] (by simp) hw
    have e1 : txtG (wordN [rB]) (addP :: (H n ++ (H m ++ [vrP 0]))) = addB ++ (⟨#[40]⟩ ++ (txtG (wordN [rB]) (H n) ++ (⟨#[44]⟩ ++ (txtG (wordN [rB]) (H m) ++ (⟨#[44]⟩ ++ (txtG (wordN [rB]) [vrP 0] ++ ⟨#[41]⟩)))))) := by
      have : ([H n, H m, [vrP 0]].flatten : List Part) = H n ++ (H m ++ [vrP 0]) := by simp
      rw [this] at h
      exact h
    rw [e1, txtG_H _ rfl rfl, txtG_H _ rfl rfl, txtG_one _ _ rfl]
    refine bs_inj ?_
    unfold oneT
    simp only [bs_app, List.append_assoc]
    rfl
theorem quest_two {n : Nat} (hn : n ≤ 12) : questS (twoT n) = .ok ([addP :: vrP 0 :: vrP 1 :: H n], [xB, yB]) := by
  have hz : (twoT n).size ≤ 400 := by
    unfold twoT
    simp only [ByteArray.size_append, highB_size]
    have : (⟨#[97, 100, 100, 40, 88, 44, 89, 44]⟩ : ByteArray).size = 8 := rfl
    have : (⟨#[41, 46]⟩ : ByteArray).size = 2 := rfl
    omega
  have hw : ∀ q ∈ [[vrP 0], [vrP 1], H n], Wf 14 q := fun q hq => by
    simp at hq
    rcases hq with rfl | rfl | rfl
    · exact wf_atom _ rfl 13
    · exact wf_atom _ rfl 13
    · exact (wf_H n).mono (by omega)
  refine read_quest (ν := [xB, yB]) ⟨by decide, by decide, fun W hW => by
    simp at hW
    rcases hW with rfl | rfl
    · exact vx_ok
    · exact vy_ok⟩ (by simp) (by simp) (fun g hg => ?_) ?_ ?_ hz
  · simp at hg; subst hg
    refine goal_comp (d := 14) (qs := [[vrP 0], [vrP 1], H n]) addB_ok (by simp) (by simp) hw (fun q hq p hp => ?_) (by simp [addP, nmP])
    simp at hq
    rcases hq with rfl | rfl | rfl
    · simp at hp; subst hp; exact part_var (i := 0) (by simp)
    · simp at hp; subst hp; exact part_var (i := 1) (by simp)
    · exact part_H _ n p hp
  · show NumTo 0 ((addP :: vrP 0 :: vrP 1 :: H n) ++ []) 2
    rw [List.append_nil]
    exact ⟨0, rfl, 1, .inr ⟨rfl, rfl⟩, 2, .inr ⟨rfl, rfl⟩, num_H n 2⟩
  · show twoT n = txtG (wordN [xB, yB]) (addP :: vrP 0 :: vrP 1 :: H n) ++ ⟨#[46]⟩
    have h := txtG_comp (wordN [xB, yB]) 14 addB [[vrP 0], [vrP 1], H n] (by simp) hw
    have e1 : txtG (wordN [xB, yB]) (addP :: vrP 0 :: vrP 1 :: H n) = addB ++ (⟨#[40]⟩ ++ (txtG (wordN [xB, yB]) [vrP 0] ++ (⟨#[44]⟩ ++ (txtG (wordN [xB, yB]) [vrP 1] ++ (⟨#[44]⟩ ++ (txtG (wordN [xB, yB]) (H n) ++ ⟨#[41]⟩)))))) := by
      have : ([[vrP 0], [vrP 1], H n].flatten : List Part) = vrP 0 :: vrP 1 :: H n := by simp
      rw [this] at h
      exact h
    rw [e1, txtG_H _ rfl rfl, txtG_one _ _ rfl, txtG_one _ _ rfl]
    refine bs_inj ?_
    unfold twoT
    simp only [bs_app, List.append_assoc]
    rfl
theorem renT_H (k : Nat) (ns : List Int) : renT ns (H k) = (H k, ns) := renT_fix _ _ (H_fix k)
/-- One sum: its answer, then No. -/
def oneR (n m : Nat) : Rep := ⟨1, ⟨#[82, 32, 61, 32]⟩ ++ highB (n + m), 0, 0⟩
theorem ask_one {n m : Nat} (hn : n ≤ 12) (hm : m ≤ 12) (q : Option Qs) : askS ⟨14, cls, q⟩ (oneT n m) = (oneR n m, ⟨14, cls, some ⟨[rB], []⟩⟩) := by
  unfold askS
  rw [quest_one hn hm]
  simp only []
  have hb : beginN [rB] = [rB] := by decide
  have hf : firstS ⟨14, cls, q⟩ [addP :: (H n ++ (H m ++ [vrP 0]))] [rB] = playN cls (n + 1 + (13 - n)) (0, ⟨G n m 0 0 1, []⟩) := by
    unfold firstS
    rw [if_neg, show n + 1 + (13 - n) = 14 by omega]
    · rfl
    · show ¬ 200 < sizeT ([addP :: (H n ++ (H m ++ [vrP 0]))] ++ [[vrP 0]])
      simp only [sizeT, List.cons_append, List.nil_append, List.length_cons, List.length_append, List.length_nil, H_len]
      omega
  obtain ⟨f', hs⟩ := sum n m 0 0 1 (13 - n) (by omega) (by omega)
  rw [hb, hf, hs]
  unfold replyS
  rw [if_pos rfl]
  have e0 : 0 + n + m = n + m := by omega
  show ((⟨1, textQ [rB] [H (0 + n + m)], 0, 0⟩ : Rep), (⟨14, cls, some ⟨[rB], [].map renC⟩⟩ : Se)) = _
  rw [e0]
  have ht : textQ [rB] [H (n + m)] = ⟨#[82, 32, 61, 32]⟩ ++ highB (n + m) := by
    unfold textQ
    rw [if_neg (by simp)]
    have hr : (renTs [] [H (n + m)]).1 = [H (n + m)] := by simp only [renTs, renT_H]
    rw [hr]
    show lineQ (rB, H (n + m)) ++ (if ([] : List (ByteArray × List Part)) = [] then ⟨#[]⟩ else _) = _
    rw [if_pos rfl, app_emp]
    unfold lineQ
    rw [txtA_H]
    refine bs_inj ?_
    simp only [bs_app, List.append_assoc]
    rfl
  rw [ht]
  rfl
theorem more_one (q : List ByteArray) : moreS ⟨14, cls, some ⟨q, []⟩⟩ = (repK 2, ⟨14, cls, none⟩) := by
  unfold moreS
  simp only []
  unfold nextS
  show replyS _ q (playN cls 14 (-1, ⟨stNone, []⟩)) = _
  rw [play_fail, again_none rfl, play_end (by decide) (by decide)]
  unfold replyS
  rw [if_neg (by simp)]
theorem put_s (v : Int) (x t : List Part) : putV v x (sP :: t) = sP :: putV v x t := put_cons_name v x sB 1 t
theorem put_z (v : Int) (x t : List Part) : putV v x (zP :: t) = zP :: putV v x t := put_cons_name v x zB 0 t
theorem put_add (v : Int) (x t : List Part) : putV v x (addP :: t) = addP :: putV v x t := put_cons_name v x addB 3 t
/-- On the way to all ways: add(A,B,d), A stands behind i s. -/
def T (i d : Nat) (a b f : Int) : St := ⟨[addP :: vrP a :: vrP b :: H d], [Sj i ++ [vrP a], [vrP b]], f⟩
theorem with_T1 (i d : Nat) (a b f h : Int) (hab : a ≠ b) (ha : a < f) (hb : b < f) (hz : i + d ≤ 30) : withS (T i d a b f) A1 h = (0, ⟨[], [H i, H d], f + 1⟩) := by
  have hE : withE (T i d a b f) A1 h = ⟨addP :: vrP a :: vrP b :: H d, [addP, zP, vrP f, vrP f], [], [], [Sj i ++ [vrP a], [vrP b]]⟩ := by
    unfold withE
    show (⟨addP :: vrP a :: vrP b :: H d, ownT f h A1.head, [], [], [Sj i ++ [vrP a], [vrP b]]⟩ : Eqn) = _
    rw [own_A1]
  have hH0 : Sj i ++ [zP] = H i := rfl
  have e1 : ((⟨vrP b :: H d, [vrP f, vrP f], [], [], [Sj i ++ [vrP a], [vrP b]]⟩ : Eqn).put a [zP]) = ⟨vrP b :: H d, [vrP f, vrP f], [], [], [H i, [vrP b]]⟩ := by
    unfold Eqn.put
    simp only [List.map_cons, List.map_nil, Sj_put_app, put_var, put_cons_other [zP] _ (show b ≠ a from fun e => hab e.symm), put_cons_other [zP] _ (show f ≠ a by omega), put_nil, H_put, hH0]
  have e2 : ((⟨H d, [vrP f], [], [], [H i, [vrP b]]⟩ : Eqn).put b [vrP f]) = ⟨H d, [vrP f], [], [], [H i, [vrP f]]⟩ := by
    unfold Eqn.put
    simp only [List.map_cons, List.map_nil, H_put, put_var, put_other [vrP f] (show f ≠ b by omega)]
  have e3 : ((⟨[], [], [], [], [H i, [vrP f]]⟩ : Eqn).put f (H d)) = ⟨[], [], [], [], [H i, H d]⟩ := by
    unfold Eqn.put
    simp only [List.map_cons, List.map_nil, H_put, put_var, put_nil]
  have hs : solveE (withE (T i d a b f) A1 h) = (0, ⟨[], [], [], [], [H i, H d]⟩) := by
    rw [hE, solve_same, solve_first (p := vrP a) (q := zP) (f := vrP b :: H d) (s := [vrP f, vrP f]) (x := [zP]) (r := [vrP f, vrP f]) (by simp [vrP, zP, nmP]) rfl rfl (lead_one _ _ rfl) rfl ?_]
    · show solveE ((⟨vrP b :: H d, [vrP f, vrP f], [], [], [Sj i ++ [vrP a], [vrP b]]⟩ : Eqn).put a [zP]) = _
      rw [e1, solve_first (p := vrP b) (q := vrP f) (f := H d) (s := [vrP f]) (x := [vrP f]) (r := [vrP f]) (by simp [vrP]; omega) rfl rfl (lead_one _ _ rfl) ?_ ?_]
      · show solveE ((⟨H d, [vrP f], [], [], [H i, [vrP b]]⟩ : Eqn).put b [vrP f]) = _
        rw [e2]
        have h9 := solve_H d f [] [] [] [] [H i, [vrP f]] ?_
        · rw [List.append_nil] at h9
          rw [h9, e3]; exact solve_nil _ _ _ _
        · rw [e3]
          simp only [Eqn.size, sizeT, List.length_nil, H_len]; omega
      · show countV b [vrP f] = 0
        have : ¬ f = b := by omega
        simp [countV, isV, vrP, this]
      · show ((⟨H d, [vrP f], [], [], [H i, [vrP b]]⟩ : Eqn).put b [vrP f]).size ≤ 200
        rw [e2]
        simp only [Eqn.size, sizeT, List.length_cons, List.length_nil, H_len]; omega
    · show ((⟨vrP b :: H d, [vrP f, vrP f], [], [], [Sj i ++ [vrP a], [vrP b]]⟩ : Eqn).put a [zP]).size ≤ 200
      rw [e1]
      simp only [Eqn.size, sizeT, List.length_cons, List.length_nil, H_len]; omega
  unfold withS
  rw [hs, if_pos rfl, past_A1]
  rfl
theorem with_T2 (i d : Nat) (a b f h : Int) (hab : a ≠ b) (ha : a < f) (hb : b < f) (hz : i + d ≤ 30) : withS (T i (d + 1) a b f) A2 h = (0, T (i + 1) d f (f + 1) (f + 3)) := by
  have hE : withE (T i (d + 1) a b f) A2 h = ⟨addP :: vrP a :: vrP b :: sP :: H d, [addP, sP, vrP f, vrP (f + 1), sP, vrP (f + 2)], [[addP, vrP f, vrP (f + 1), vrP (f + 2)]], [], [Sj i ++ [vrP a], [vrP b]]⟩ := by
    unfold withE
    show (⟨addP :: vrP a :: vrP b :: H (d + 1), ownT f h A2.head, A2.body.map (ownT f h), [], [Sj i ++ [vrP a], [vrP b]]⟩ : Eqn) = _
    rw [(own_A2 f h).1, (own_A2 f h).2, H_succ]
  have hba : b ≠ a := fun e => hab e.symm
  have hS1 : Sj i ++ [sP, vrP f] = Sj (i + 1) ++ [vrP f] := Sj_succ i [vrP f]
  have e1 : ((⟨vrP b :: sP :: H d, [vrP (f + 1), sP, vrP (f + 2)], [[addP, vrP f, vrP (f + 1), vrP (f + 2)]], [], [Sj i ++ [vrP a], [vrP b]]⟩ : Eqn).put a [sP, vrP f]) = ⟨vrP b :: sP :: H d, [vrP (f + 1), sP, vrP (f + 2)], [[addP, vrP f, vrP (f + 1), vrP (f + 2)]], [], [Sj (i + 1) ++ [vrP f], [vrP b]]⟩ := by
    unfold Eqn.put
    simp only [List.map_cons, List.map_nil, Sj_put_app, H_put, put_var, put_nil, put_cons_other [sP, vrP f] _ hba, put_cons_other [sP, vrP f] _ (show f ≠ a by omega), put_cons_other [sP, vrP f] _ (show f + 1 ≠ a by omega), put_other [sP, vrP f] (show f + 2 ≠ a by omega), hS1, put_s, put_add]
  have e2 : ((⟨sP :: H d, [sP, vrP (f + 2)], [[addP, vrP f, vrP (f + 1), vrP (f + 2)]], [], [Sj (i + 1) ++ [vrP f], [vrP b]]⟩ : Eqn).put b [vrP (f + 1)]) = ⟨sP :: H d, [sP, vrP (f + 2)], [[addP, vrP f, vrP (f + 1), vrP (f + 2)]], [], [Sj (i + 1) ++ [vrP f], [vrP (f + 1)]]⟩ := by
    unfold Eqn.put
    simp only [List.map_cons, List.map_nil, Sj_put_app, H_put, put_var, put_other [vrP (f + 1)] (show f ≠ b by omega), put_cons_other [vrP (f + 1)] _ (show f ≠ b by omega), put_cons_other [vrP (f + 1)] _ (show f + 1 ≠ b by omega), put_other [vrP (f + 1)] (show f + 2 ≠ b by omega), put_s, put_add]
  have e3 : ((⟨[], [], [[addP, vrP f, vrP (f + 1), vrP (f + 2)]], [], [Sj (i + 1) ++ [vrP f], [vrP (f + 1)]]⟩ : Eqn).put (f + 2) (H d)) = ⟨[], [], [addP :: vrP f :: vrP (f + 1) :: H d], [], [Sj (i + 1) ++ [vrP f], [vrP (f + 1)]]⟩ := by
    unfold Eqn.put
    simp only [List.map_cons, List.map_nil, Sj_put_app, put_var, put_nil, put_other (H d) (show f ≠ f + 2 by omega), put_other (H d) (show f + 1 ≠ f + 2 by omega), put_cons_other (H d) _ (show f ≠ f + 2 by omega), put_cons_other (H d) _ (show f + 1 ≠ f + 2 by omega), put_add]
  have hs : solveE (withE (T i (d + 1) a b f) A2 h) = (0, ⟨[], [], [addP :: vrP f :: vrP (f + 1) :: H d], [], [Sj (i + 1) ++ [vrP f], [vrP (f + 1)]]⟩) := by
    rw [hE, solve_same, solve_first (p := vrP a) (q := sP) (f := vrP b :: sP :: H d) (s := [vrP f, vrP (f + 1), sP, vrP (f + 2)]) (x := [sP, vrP f]) (r := [vrP (f + 1), sP, vrP (f + 2)]) (by simp [vrP, sP, nmP]) rfl rfl rfl ?_ ?_]
    · show solveE ((⟨vrP b :: sP :: H d, [vrP (f + 1), sP, vrP (f + 2)], [[addP, vrP f, vrP (f + 1), vrP (f + 2)]], [], [Sj i ++ [vrP a], [vrP b]]⟩ : Eqn).put a [sP, vrP f]) = _
      rw [e1, solve_first (p := vrP b) (q := vrP (f + 1)) (f := sP :: H d) (s := [sP, vrP (f + 2)]) (x := [vrP (f + 1)]) (r := [sP, vrP (f + 2)]) (by simp [vrP]; omega) rfl rfl (lead_one _ _ rfl) ?_ ?_]
      · show solveE ((⟨sP :: H d, [sP, vrP (f + 2)], [[addP, vrP f, vrP (f + 1), vrP (f + 2)]], [], [Sj (i + 1) ++ [vrP f], [vrP b]]⟩ : Eqn).put b [vrP (f + 1)]) = _
        rw [e2, solve_same]
        have h9 := solve_H d (f + 2) [] [] [[addP, vrP f, vrP (f + 1), vrP (f + 2)]] [] [Sj (i + 1) ++ [vrP f], [vrP (f + 1)]] ?_
        · rw [List.append_nil] at h9
          rw [h9, e3]; exact solve_nil _ _ _ _
        · rw [e3]
          simp only [Eqn.size, sizeT, List.length_cons, List.length_append, List.length_nil, H_len, Sj_len]; omega
      · show countV b [vrP (f + 1)] = 0
        have : ¬ f + 1 = b := by omega
        simp [countV, isV, vrP, this]
      · show ((⟨sP :: H d, [sP, vrP (f + 2)], [[addP, vrP f, vrP (f + 1), vrP (f + 2)]], [], [Sj (i + 1) ++ [vrP f], [vrP b]]⟩ : Eqn).put b [vrP (f + 1)]).size ≤ 200
        rw [e2]
        simp only [Eqn.size, sizeT, List.length_cons, List.length_append, List.length_nil, H_len, Sj_len]; omega
    · show countV a [sP, vrP f] = 0
      have : ¬ f = a := by omega
      simp [countV, isV, sP, nmP, vrP, this]
    · show ((⟨vrP b :: sP :: H d, [vrP (f + 1), sP, vrP (f + 2)], [[addP, vrP f, vrP (f + 1), vrP (f + 2)]], [], [Sj i ++ [vrP a], [vrP b]]⟩ : Eqn).put a [sP, vrP f]).size ≤ 200
      rw [e1]
      simp only [Eqn.size, sizeT, List.length_cons, List.length_append, List.length_nil, H_len, Sj_len]; omega
  unfold withS
  rw [hs, if_pos rfl, past_A2]
  rfl
theorem no_T2 (i : Nat) (a b f h : Int) (hab : a ≠ b) (ha : a < f) (hb : b < f) (hz : i ≤ 30) : (withS (T i 0 a b f) A2 h).1 = -1 := by
  have hE : withE (T i 0 a b f) A2 h = ⟨addP :: vrP a :: vrP b :: [zP], [addP, sP, vrP f, vrP (f + 1), sP, vrP (f + 2)], [[addP, vrP f, vrP (f + 1), vrP (f + 2)]], [], [Sj i ++ [vrP a], [vrP b]]⟩ := by
    unfold withE
    show (⟨addP :: vrP a :: vrP b :: H 0, ownT f h A2.head, A2.body.map (ownT f h), [], [Sj i ++ [vrP a], [vrP b]]⟩ : Eqn) = _
    rw [(own_A2 f h).1, (own_A2 f h).2]
    rfl
  have hba : b ≠ a := fun e => hab e.symm
  have e1 : ((⟨[vrP b, zP], [vrP (f + 1), sP, vrP (f + 2)], [[addP, vrP f, vrP (f + 1), vrP (f + 2)]], [], [Sj i ++ [vrP a], [vrP b]]⟩ : Eqn).put a [sP, vrP f]) = ⟨[vrP b, zP], [vrP (f + 1), sP, vrP (f + 2)], [[addP, vrP f, vrP (f + 1), vrP (f + 2)]], [], [Sj i ++ [sP, vrP f], [vrP b]]⟩ := by
    unfold Eqn.put
    simp only [List.map_cons, List.map_nil, Sj_put_app, put_var, put_cons_other [sP, vrP f] _ hba, put_cons_other [sP, vrP f] _ (show f ≠ a by omega), put_cons_other [sP, vrP f] _ (show f + 1 ≠ a by omega), put_other [sP, vrP f] (show f + 2 ≠ a by omega), put_s, put_z, put_add, put_nil]
  have e2 : ((⟨[zP], [sP, vrP (f + 2)], [[addP, vrP f, vrP (f + 1), vrP (f + 2)]], [], [Sj i ++ [sP, vrP f], [vrP b]]⟩ : Eqn).put b [vrP (f + 1)]) = ⟨[zP], [sP, vrP (f + 2)], [[addP, vrP f, vrP (f + 1), vrP (f + 2)]], [], [Sj i ++ [sP, vrP f], [vrP (f + 1)]]⟩ := by
    unfold Eqn.put
    simp only [List.map_cons, List.map_nil, Sj_put_app, put_var, put_other [vrP (f + 1)] (show f ≠ b by omega), put_cons_other [vrP (f + 1)] _ (show f ≠ b by omega), put_cons_other [vrP (f + 1)] _ (show f + 1 ≠ b by omega), put_other [vrP (f + 1)] (show f + 2 ≠ b by omega), put_s, put_z, put_add, put_nil]
  have hs : (solveE (withE (T i 0 a b f) A2 h)).1 = -1 := by
    rw [hE, solve_same, solve_first (p := vrP a) (q := sP) (f := [vrP b, zP]) (s := [vrP f, vrP (f + 1), sP, vrP (f + 2)]) (x := [sP, vrP f]) (r := [vrP (f + 1), sP, vrP (f + 2)]) (by simp [vrP, sP, nmP]) rfl rfl rfl ?_ ?_]
    · show (solveE ((⟨[vrP b, zP], [vrP (f + 1), sP, vrP (f + 2)], [[addP, vrP f, vrP (f + 1), vrP (f + 2)]], [], [Sj i ++ [vrP a], [vrP b]]⟩ : Eqn).put a [sP, vrP f])).1 = _
      rw [e1, solve_first (p := vrP b) (q := vrP (f + 1)) (f := [zP]) (s := [sP, vrP (f + 2)]) (x := [vrP (f + 1)]) (r := [sP, vrP (f + 2)]) (by simp [vrP]; omega) rfl rfl (lead_one _ _ rfl) ?_ ?_]
      · show (solveE ((⟨[zP], [sP, vrP (f + 2)], [[addP, vrP f, vrP (f + 1), vrP (f + 2)]], [], [Sj i ++ [sP, vrP f], [vrP b]]⟩ : Eqn).put b [vrP (f + 1)])).1 = _
        rw [e2]
        exact solve_clash _ _ _ _ _ (by simp [sP, zP, nmP]) (by decide) (by decide)
      · show countV b [vrP (f + 1)] = 0
        have : ¬ f + 1 = b := by omega
        simp [countV, isV, vrP, this]
      · show ((⟨[zP], [sP, vrP (f + 2)], [[addP, vrP f, vrP (f + 1), vrP (f + 2)]], [], [Sj i ++ [sP, vrP f], [vrP b]]⟩ : Eqn).put b [vrP (f + 1)]).size ≤ 200
        rw [e2]
        simp only [Eqn.size, sizeT, List.length_cons, List.length_append, List.length_nil, Sj_len]; omega
    · show countV a [sP, vrP f] = 0
      have : ¬ f = a := by omega
      simp [countV, isV, sP, nmP, vrP, this]
    · show ((⟨[vrP b, zP], [vrP (f + 1), sP, vrP (f + 2)], [[addP, vrP f, vrP (f + 1), vrP (f + 2)]], [], [Sj i ++ [vrP a], [vrP b]]⟩ : Eqn).put a [sP, vrP f]).size ≤ 200
      rw [e1]
      simp only [Eqn.size, sizeT, List.length_cons, List.length_append, List.length_nil, Sj_len]; omega
  unfold withS
  rw [hs, if_neg (by decide)]
def tch (i d : Nat) (a b f : Int) : List Ch := if d = 0 then [] else [⟨T i d a b f, [1]⟩]
/-- A step from there: an answer, and the way that is left. -/
theorem step_T (i d : Nat) (a b f : Int) (k : Nat) (hab : a ≠ b) (ha : a < f) (hb : b < f) (hz : i + d ≤ 30) : playN cls (k + 1) (0, ⟨T i d a b f, []⟩) = (1, ⟨⟨[], [H i, H d], f + 1⟩, tch i d a b f⟩) := by
  cases d with
  | zero =>
    rw [play_take (by simp [T]), take_add (S := T _ _ _ _ _) rfl, if_pos (by rw [with_T1 i 0 a b f 0 hab ha hb (by omega)]; simp), if_neg (by rw [no_T2 i a b f 0 hab ha hb (by omega)]; simp)]
    simp only [List.append_nil, chooseP]
    rw [if_neg (by simp)]
    show playN cls k (useP ⟨T i 0 a b f, putCh [] (T i 0 a b f) []⟩ (T i 0 a b f) A1 0) = _
    unfold useP
    rw [with_T1 i 0 a b f 0 hab ha hb (by omega)]
    show playN cls k (0, ⟨⟨[], [H i, H 0], f + 1⟩, []⟩) = _
    rw [play_answer' rfl]
    rfl
  | succ d =>
    rw [play_take (by simp [T]), take_add (S := T _ _ _ _ _) rfl, if_pos (by rw [with_T1 i (d + 1) a b f 0 hab ha hb (by omega)]; simp), if_pos (by rw [with_T2 i d a b f 0 hab ha hb (by omega)]; simp)]
    simp only [List.cons_append, List.nil_append, chooseP]
    rw [if_neg (by simp)]
    show playN cls k (useP ⟨T i (d + 1) a b f, putCh [] (T i (d + 1) a b f) [1]⟩ (T i (d + 1) a b f) A1 0) = _
    unfold useP
    rw [with_T1 i (d + 1) a b f 0 hab ha hb (by omega)]
    show playN cls k (0, ⟨⟨[], [H i, H (d + 1)], f + 1⟩, [⟨T i (d + 1) a b f, [1]⟩]⟩) = _
    rw [play_answer' rfl]
    rfl
theorem ren_T (i d : Nat) (a b f : Int) (hab : a ≠ b) : renS (T i d a b f) = T i d 0 1 2 := by
  have e0 : renT [] (addP :: vrP a :: vrP b :: H d) = (addP :: vrP 0 :: vrP 1 :: H d, [a, b]) := by
    have h1 : renT [] [addP, vrP a, vrP b] = ([addP, vrP 0, vrP 1], [a, b]) := by
      simp [renT, renP, stepV, numV, addP, nmP, vrP, List.idxOf_cons, beq_eq_false_iff_ne.2 hab, Ne.symm hab]
    have h2 := renT_app [addP, vrP a, vrP b] (H d) []
    rw [h1, renT_H] at h2
    exact h2
  have e1 : renT [a, b] (Sj i ++ [vrP a]) = (Sj i ++ [vrP 0], [a, b]) := by
    rw [renT_app, renT_fix _ _ (Sj_fix i)]
    simp [renT, renP, stepV, numV, vrP]
  have e2 : renT [a, b] [vrP b] = ([vrP 1], [a, b]) := by
    simp [renT, renP, stepV, numV, vrP, List.idxOf_cons, beq_eq_false_iff_ne.2 hab]
  unfold renS
  have hts : renTs [] ((T i d a b f).goals ++ (T i d a b f).terms) = ([addP :: vrP 0 :: vrP 1 :: H d, Sj i ++ [vrP 0], [vrP 1]], [a, b]) := by
    show renTs [] [addP :: vrP a :: vrP b :: H d, Sj i ++ [vrP a], [vrP b]] = _
    simp only [renTs, e0, e1, e2]
  rw [hts]
  rfl
def twoR (n i : Nat) : Rep := ⟨1, ⟨#[88, 32, 61, 32]⟩ ++ highB i ++ ⟨#[44, 32, 89, 32, 61, 32]⟩ ++ highB (n - i), 0, 0⟩
def twoS (n i : Nat) : Se := ⟨14, cls, some ⟨[xB, yB], tch i (n - i) 0 1 2⟩⟩
theorem text_H (i d : Nat) : textQ [xB, yB] [H i, H d] = ⟨#[88, 32, 61, 32]⟩ ++ highB i ++ ⟨#[44, 32, 89, 32, 61, 32]⟩ ++ highB d := by
  unfold textQ
  rw [if_neg (by simp)]
  have hr : (renTs [] [H i, H d]).1 = [H i, H d] := by simp only [renTs, renT_H]
  rw [hr]
  show lineQ (xB, H i) ++ (if [(yB, H d)] = [] then ⟨#[]⟩ else ⟨#[44, 32]⟩ ++ (lineQ (yB, H d) ++ (if ([] : List (ByteArray × List Part)) = [] then ⟨#[]⟩ else _))) = _
  rw [if_neg (by simp), if_pos rfl, app_emp]
  unfold lineQ
  rw [txtA_H, txtA_H]
  refine bs_inj ?_
  simp only [bs_app, List.append_assoc]
  rfl
theorem reply_T (q : Option Qs) (n i : Nat) (a b f f' : Int) (hab : a ≠ b) : replyS ⟨14, cls, q⟩ [xB, yB] (1, ⟨⟨[], [H i, H (n - i)], f'⟩, tch i (n - i) a b f⟩) = (twoR n i, twoS n i) := by
  unfold replyS
  rw [if_pos rfl]
  show ((⟨1, textQ [xB, yB] [H i, H (n - i)], 0, 0⟩ : Rep), (⟨14, cls, some ⟨[xB, yB], (tch i (n - i) a b f).map renC⟩⟩ : Se)) = _
  rw [text_H]
  unfold twoR twoS
  have : (tch i (n - i) a b f).map renC = tch i (n - i) 0 1 2 := by
    unfold tch
    split
    · rfl
    · show [renC ⟨T i (n - i) a b f, [1]⟩] = _
      unfold renC
      rw [ren_T i (n - i) a b f hab]
  rw [this]
theorem ask_two {n : Nat} (hn : n ≤ 12) (q : Option Qs) : askS ⟨14, cls, q⟩ (twoT n) = (twoR n 0, twoS n 0) := by
  unfold askS
  rw [quest_two hn]
  simp only []
  have hb : beginN [xB, yB] = [xB, yB] := by decide
  have hf : firstS ⟨14, cls, q⟩ [addP :: vrP 0 :: vrP 1 :: H n] [xB, yB] = playN cls (13 + 1) (0, ⟨T 0 n 0 1 2, []⟩) := by
    unfold firstS
    rw [if_neg]
    · rfl
    · show ¬ 200 < sizeT ([addP :: vrP 0 :: vrP 1 :: H n] ++ [[vrP 0], [vrP 1]])
      simp only [sizeT, List.cons_append, List.nil_append, List.length_cons, List.length_nil, H_len]
      omega
  rw [hb, hf, step_T 0 n 0 1 2 13 (by decide) (by decide) (by decide) (by omega)]
  exact reply_T q n 0 0 1 2 _ (by decide)
theorem more_two {n i : Nat} (hn : n ≤ 12) (hi : i < n) : moreS (twoS n i) = (twoR n (i + 1), twoS n (i + 1)) := by
  unfold moreS twoS
  simp only []
  unfold nextS
  show replyS _ [xB, yB] (playN cls 14 (-1, ⟨stNone, tch i (n - i) 0 1 2⟩)) = _
  obtain ⟨d, hd⟩ : ∃ d, n - i = d + 1 := ⟨n - i - 1, by omega⟩
  have hd' : n - (i + 1) = d := by omega
  have hag : againP cls ⟨stNone, tch i (n - i) 0 1 2⟩ = (0, ⟨T (i + 1) d 2 3 5, []⟩) := by
    rw [hd]
    show useP ⟨stNone, putCh [] (T i (d + 1) 0 1 2) []⟩ (T i (d + 1) 0 1 2) A2 0 = _
    unfold useP
    rw [with_T2 i d 0 1 2 0 (by decide) (by decide) (by decide) (by omega)]
    rfl
  rw [play_fail, hag, show (14 : Nat) = 13 + 1 from rfl, step_T (i + 1) d 2 3 5 13 (by decide) (by decide) (by decide) (by omega)]
  have := reply_T (some ⟨[xB, yB], tch i (n - i) 0 1 2⟩) n (i + 1) 2 3 5 (5 + 1) (by decide)
  rw [hd'] at this
  exact this
theorem more_end (n : Nat) : moreS (twoS n n) = (repK 2, ⟨14, cls, none⟩) := by
  have : twoS n n = ⟨14, cls, some ⟨[xB, yB], []⟩⟩ := by unfold twoS tch; rw [if_pos (by omega)]
  rw [this]
  exact more_one _
end Rf.AddsL
/- Plain functions: the answers that the statements ask for first (works). -/
namespace Rf.WorksL
open Rf
def aB : ByteArray := ⟨#[97]⟩
def bB : ByteArray := ⟨#[98]⟩
def abT : ByteArray := ⟨#[112, 40, 97, 41, 46, 112, 40, 98, 41, 46]⟩
def cls : List Cl := FactsL.cls [aB, bB]
theorem aB_ok : NmOk aB := ⟨97, [], rfl, by decide, by decide, by decide⟩
theorem bB_ok : NmOk bB := ⟨98, [], rfl, by decide, by decide, by decide⟩
theorem read_ab : readS abT = .ok cls := by
  have e : textsN [([], fact1 pB aB), ([], fact1 pB bB)] = abT := rfl
  rw [← e, read_texts _ (fun x hx => ?_) (by rw [e]; decide)]
  · rfl
  · simp at hx
    rcases hx with rfl | rfl
    · exact fact_okN pB_ok aB_ok rfl
    · exact fact_okN pB_ok bB_ok rfl
def st (i : Nat) : Se := ⟨9, cls, (FactsL.st [aB, bB] i).q⟩
theorem lg_of {S T : Se} (h : Lg S T) : T = ⟨T.lim, S.cls, S.q⟩ := by
  cases T; cases h.c; cases h.q; rfl
theorem lim_reply (S : Se) (names : List ByteArray) (r : Int × Cf) : (replyS S names r).2.lim = S.lim := by unfold replyS; split <;> rfl
theorem lim_ask (S : Se) (s : ByteArray) : (askS S s).2.lim = S.lim := by
  unfold askS
  split
  · rfl
  · exact lim_reply _ _ _
theorem lim_more (S : Se) : (moreS S).2.lim = S.lim := by
  unfold moreS
  split
  · rfl
  · exact lim_reply _ _ _
theorem lg_st (i : Nat) : Lg (FactsL.st [aB, bB] i) (st i) := ⟨by show (1 : Nat) ≤ 9; omega, rfl, rfl⟩
theorem kind_rep (i : Nat) : (FactsL.rep [aB, bB] i).kind ≠ 5 := by
  unfold FactsL.rep
  split
  · show (1 : Int) ≠ 5; decide
  · decide
theorem ask_ab : askS ⟨9, cls, none⟩ ⟨#[112, 40, 88, 41, 46]⟩ = (⟨1, ⟨#[88, 32, 61, 32, 97]⟩, 0, 0⟩, st 0) := by
  have h0 := FactsL.ask_at [aB, bB] none (by simp)
  have hl : Lg ⟨1, FactsL.cls [aB, bB], none⟩ ⟨9, cls, none⟩ := ⟨by show (1 : Nat) ≤ 9; omega, rfl, rfl⟩
  have h := ask_lg hl ⟨#[112, 40, 88, 41, 46]⟩ (by rw [h0]; exact kind_rep 0)
  rw [h0] at h
  have h2 := lg_of h.2
  rw [lim_ask] at h2
  refine Prod.ext ?_ ?_
  · rw [← h.1]; rfl
  · rw [h2]; rfl
theorem more_i (i : Nat) (hi : i < 2) : moreS (st i) = (FactsL.rep [aB, bB] (i + 1), st (i + 1)) := by
  have h0 := FactsL.more_at [aB, bB] i hi
  have h := more_lg (lg_st i) (by rw [h0]; exact kind_rep (i + 1))
  rw [h0] at h
  have h2 := lg_of h.2
  rw [lim_more] at h2
  refine Prod.ext ?_ ?_
  · rw [← h.1]
  · rw [h2]; rfl
theorem more_ab : moreS (st 0) = (⟨1, ⟨#[88, 32, 61, 32, 98]⟩, 0, 0⟩, st 1) := by
  rw [more_i 0 (by omega)]; rfl
theorem more_no : moreS (st 1) = (⟨2, ⟨#[]⟩, 0, 0⟩, st 2) := by
  rw [more_i 1 (by omega)]; rfl
theorem lines_ab : (lineP (fact1 pB aB) ++ lineP (fact1 pB bB)) = ⟨#[112, 40, 97, 41, 46, 10, 112, 40, 98, 41, 46, 10]⟩ := rfl
end Rf.WorksL
