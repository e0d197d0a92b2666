/- First: behind a cut no other answer of what is ahead of it, walked. -/
import Derived.Test.YtpdikdnffehmkaaGreatDoorYaw
import Derived.Deep.CutRange
import Derived.Deep.RegionHeld2
import Derived.Deep.LoopGhost
import Derived.Test.YtpdikdnffehmkaaGreatDoorCards
import Derived.Test.YtpdikdnffehmkaaGreatDoorTie
namespace Go.Proofs.YtpdikdnffehmkaaGreatDoor
open Go.RowKit
namespace FirstW
def xeB : ByteArray := ⟨#[88, 32, 61, 32]⟩
theorem tab_new {w : World} (h : Tab w) : TabB w.heap.size w := Lib.tabBelow_of_tabIs h
theorem callTold (vals : Array Value) (w : World) : (callFunc 19 vals).run Tryz.prog w = .ok (.enter 19 vals) w := by
  simp [callFunc, Tryz.func19, Tryz.f19]
def yeB : ByteArray := ⟨#[44, 32, 89, 32, 61, 32]⟩
theorem rep_some (b : List ByteArray) (c d : ByteArray) (k : Nat) (h : b[k]? = some d) : Rf.FirstL.rep b c k = ⟨1, xeB ++ c ++ yeB ++ d, 0, 0⟩ := by
  unfold Rf.FirstL.rep
  rw [h]
  show Rf.FirstL.ans c d = _
  unfold Rf.FirstL.ans
  congr 1
  refine Rf.bs_inj ?_
  simp only [Rf.bs_app, List.append_assoc]
  rfl
theorem rep_end (b : List ByteArray) (c : ByteArray) : Rf.FirstL.rep b c b.length = ⟨2, ⟨#[]⟩, 0, 0⟩ := by
  unfold Rf.FirstL.rep
  rw [List.getElem?_eq_none (Nat.le_refl _)]
  rfl
set_option maxHeartbeats 2000000 in
set_option maxRecDepth 100000 in
theorem first_noP (W : World) (a : Option Addr) (n c : Nat) (l : List Int) (a' : Option Addr) (n' c' : Nat) (l' : List Int) (hI : IntsAt W (.slice a n c) l) (hx : ∀ x ∈ l, -9223372036854775808 ≤ x ∧ x ≤ 9223372036854775807) (hl : l.length ≤ 9223372036854775807) (hI' : IntsAt W (.slice a' n' c') l') (hx' : ∀ x ∈ l', -9223372036854775808 ≤ x ∧ x ≤ 9223372036854775807) (hl' : l'.length ≤ 9223372036854775807) (hT : Tab W) (h0 : l.take 12 = []) :
    Calls Tryz.prog 11 #[.slice a n c, .slice a' n' c'] W fun r w' => r = .returned (.bool true) ∧ Below W.heap.size W w' := by
  have HI : Hid (IntsAt W (.slice a n c) l) := hI
  have HX : Hid _ := hx
  have HL : Hid (l.length ≤ 9223372036854775807) := hl
  have HI' : Hid (IntsAt W (.slice a' n' c') l') := hI'
  have HX' : Hid _ := hx'
  have HL' : Hid (l'.length ≤ 9223372036854775807) := hl'
  have HT : Hid (Tab W) := hT
  obtain ⟨N, hN⟩ : ∃ N, N = (l.take 12).length := ⟨_, rfl⟩
  obtain ⟨M, hM⟩ : ∃ M, M = (l'.take 12).length := ⟨_, rfl⟩
  have hN12 : N ≤ 12 := by rw [hN, List.length_take]; omega
  have hM12 : M ≤ 12 := by rw [hM, List.length_take]; omega
  obtain ⟨cs, hcs⟩ : ∃ cs, cs = (l.take 12).map Rf.constB := ⟨_, rfl⟩
  obtain ⟨ds, hds⟩ : ∃ ds, ds = (l'.take 12).map Rf.constB := ⟨_, rfl⟩
  have hcl : Hid (cs.length = N) := by unfold Hid; rw [hcs, List.length_map, hN]
  have hdl : Hid (ds.length = M) := by unfold Hid; rw [hds, List.length_map, hM]
  have hc3 : Hid (∀ y ∈ cs, y.size ≤ 3) := fun y hy => by
    rw [hcs] at hy
    obtain ⟨z, _, rfl⟩ := List.mem_map.1 hy
    exact Rf.constB_size z
  have HR : Hid _ := Rf.read_first (l.take 12) (l'.take 12) (by rw [← hN]; exact hN12) (by rw [← hM]; exact hM12)
  rw [← hcs, ← hds] at HR
  have hmz : (Rf.factsB Rf.pB (l.take 12)).size ≤ 84 := by
    have := Rf.factsB_size Rf.pB (by decide) (l.take 12)
    rw [← hN] at this; omega
  have hmz' : (Rf.factsB Rf.qB (l'.take 12)).size ≤ 84 := by
    have := Rf.factsB_size Rf.qB (by decide) (l'.take 12)
    rw [← hM] at this; omega
  have HN : Hid (N = (l.take 12).length) := hN
  have HM : Hid (M = (l'.take 12).length) := hM
  have HC : Hid (cs = (l.take 12).map Rf.constB) := hcs
  have HD : Hid (ds = (l'.take 12).map Rf.constB) := hds
  have h0c : cs = [] := by rw [hcs, h0]; rfl
  have hA : Hid (∀ q, (Rf.askS ⟨20, Rf.FirstL.cls cs ds, q⟩ Rf.FirstL.askB).1 = Rf.repK 12) := fun q => by rw [h0c]; exact Rf.FirstL.ask_noP ds q
  have hR0 : Hid (Rf.repK 12 = ⟨12, ⟨#[]⟩, 0, 0⟩) := rfl
  have hNb : ((N : Int) == 0) = true := by rw [hN, h0]; rfl
  clear h0 h0c
  obtain ⟨tx, hTx⟩ : ∃ tx, Hid (Rf.factsB Rf.pB (l.take 12) = tx) := ⟨_, rfl⟩
  obtain ⟨ty, hTy⟩ : ∃ ty, Hid (Rf.factsB Rf.qB (l'.take 12) = ty) := ⟨_, rfl⟩
  rw [hTx.out] at hmz
  rw [hTy.out] at hmz'
  rw [hTx.out, hTy.out] at HR
  have hmq : (tx ++ ty).size ≤ 168 := by rw [ByteArray.size_append]; omega
  have hmx : (tx ++ ty ++ Rf.firstB).size ≤ maxLen := by rw [ByteArray.size_append]; have : Rf.firstB.size = 18 := rfl; unfold maxLen; omega
  have HMX : Hid ((tx ++ ty ++ Rf.firstB).size ≤ maxLen) := hmx
  clear hI hx hl hI' hx' hl' hT hcs hds hN hM hmx
  go_enter Tryz.func11, Tryz.ntmps11
  go_wp2_with (first
    | (go_at_call 15; have h9 := mk1; refine (kfacts_any Rf.qB a' n' c' l' 12 _ (IntsAt.below HI'.out hb1) HL'.out HX'.out (by decide) (by omega) (Tab.below HT.out hb1)).mono ?_; rintro r w2 ⟨a2, c2, hr2, hn2, hb2⟩; rw [hTy.out, ← HM.out] at hr2; rw [← HD.out, ← HM.out] at hn2; subst hr2)
    | (go_at_call 15; refine (kfacts_any Rf.pB a n c l 12 _ HI.out HL.out HX.out (by decide) (by omega) HT.out).mono ?_; rintro r w1 ⟨a1, c1, hr1, hn1, hb1⟩; rw [hTx.out, ← HN.out] at hr1; rw [← HC.out, ← HN.out] at hn1; subst hr1; have mk1 : Hid True := trivial)
    | (go_at_call 16; refine (kbegun_any w2.heap.size 20 (tx ++ ty ++ Rf.firstB) _ w2 (by omega) (by omega) HMX.out HR.out (by unfold Rf.FirstL.cls; rw [List.length_append, List.length_append, List.length_map, List.length_map, hcl.out, hdl.out]; simp only [List.length_cons, List.length_nil]; omega) (Nat.le_refl _)).mono ?_; rintro r w3 ⟨x, rfl, hS3, hb3⟩)
    | (go_at_call 17; refine (pask_in w2.heap.size _ w3 x _ Rf.FirstL.askB (by decide) hS3 hb3.size (TabB.on (tab_new (Tab.below HT.out (hb1.trans (hb2.mono hb1.size)))) hb3)).mono ?_; rintro r w4 ⟨hr4, hD4⟩; rw [hA.out, hR0.out] at hr4; subst hr4; simp only [repV])
    | (go_at_call 18; refine (konly_any 12 _).mono ?_; rintro r w5 ⟨rfl, hb5⟩))
  go_ret
  refine ⟨rfl, ?_⟩
  have hz1 := hb1.size
  have hz2 := hb2.size
  have hz3 := hb3.size
  have hb4 := hD4.below hb3.size
  have hz4 := hb4.size
  exact ((((hb1.trans (hb2.mono hz1)).trans (hb3.mono (by omega))).trans (hb4.mono (by omega))).alloc (by omega) _).trans (hb5.mono (by rw [World.size_alloc]; omega))
set_option maxHeartbeats 2000000 in
set_option maxRecDepth 100000 in
theorem first_noQ (W : World) (a : Option Addr) (n c : Nat) (l : List Int) (a' : Option Addr) (n' c' : Nat) (l' : List Int) (hI : IntsAt W (.slice a n c) l) (hx : ∀ x ∈ l, -9223372036854775808 ≤ x ∧ x ≤ 9223372036854775807) (hl : l.length ≤ 9223372036854775807) (hI' : IntsAt W (.slice a' n' c') l') (hx' : ∀ x ∈ l', -9223372036854775808 ≤ x ∧ x ≤ 9223372036854775807) (hl' : l'.length ≤ 9223372036854775807) (hT : Tab W) (h1 : l.take 12 ≠ []) (h0 : l'.take 12 = []) :
    Calls Tryz.prog 11 #[.slice a n c, .slice a' n' c'] W fun r w' => r = .returned (.bool true) ∧ Below W.heap.size W w' := by
  have HI : Hid (IntsAt W (.slice a n c) l) := hI
  have HX : Hid _ := hx
  have HL : Hid (l.length ≤ 9223372036854775807) := hl
  have HI' : Hid (IntsAt W (.slice a' n' c') l') := hI'
  have HX' : Hid _ := hx'
  have HL' : Hid (l'.length ≤ 9223372036854775807) := hl'
  have HT : Hid (Tab W) := hT
  obtain ⟨N, hN⟩ : ∃ N, N = (l.take 12).length := ⟨_, rfl⟩
  obtain ⟨M, hM⟩ : ∃ M, M = (l'.take 12).length := ⟨_, rfl⟩
  have hN12 : N ≤ 12 := by rw [hN, List.length_take]; omega
  have hM12 : M ≤ 12 := by rw [hM, List.length_take]; omega
  obtain ⟨cs, hcs⟩ : ∃ cs, cs = (l.take 12).map Rf.constB := ⟨_, rfl⟩
  obtain ⟨ds, hds⟩ : ∃ ds, ds = (l'.take 12).map Rf.constB := ⟨_, rfl⟩
  have hcl : Hid (cs.length = N) := by unfold Hid; rw [hcs, List.length_map, hN]
  have hdl : Hid (ds.length = M) := by unfold Hid; rw [hds, List.length_map, hM]
  have hc3 : Hid (∀ y ∈ cs, y.size ≤ 3) := fun y hy => by
    rw [hcs] at hy
    obtain ⟨z, _, rfl⟩ := List.mem_map.1 hy
    exact Rf.constB_size z
  have HR : Hid _ := Rf.read_first (l.take 12) (l'.take 12) (by rw [← hN]; exact hN12) (by rw [← hM]; exact hM12)
  rw [← hcs, ← hds] at HR
  have hmz : (Rf.factsB Rf.pB (l.take 12)).size ≤ 84 := by
    have := Rf.factsB_size Rf.pB (by decide) (l.take 12)
    rw [← hN] at this; omega
  have hmz' : (Rf.factsB Rf.qB (l'.take 12)).size ≤ 84 := by
    have := Rf.factsB_size Rf.qB (by decide) (l'.take 12)
    rw [← hM] at this; omega
  have HN : Hid (N = (l.take 12).length) := hN
  have HM : Hid (M = (l'.take 12).length) := hM
  have HC : Hid (cs = (l.take 12).map Rf.constB) := hcs
  have HD : Hid (ds = (l'.take 12).map Rf.constB) := hds
  have h0c : ds = [] := by rw [hds, h0]; rfl
  have h1c : cs ≠ [] := by rw [hcs]; simpa using h1
  have hA : Hid (∀ q, (Rf.askS ⟨20, Rf.FirstL.cls cs ds, q⟩ Rf.FirstL.askB).1 = Rf.repK 12) := fun q => by rw [h0c]; exact Rf.FirstL.ask_noQ h1c (by rw [hcl.out]; omega) q
  have hR0 : Hid (Rf.repK 12 = ⟨12, ⟨#[]⟩, 0, 0⟩) := rfl
  have hN1 : 1 ≤ N := by rw [hN]; exact List.length_pos_iff.2 h1
  have hNb : ((N : Int) == 0) = false := beq_eq_false_iff_ne.2 (by omega)
  have hMb : ((M : Int) == 0) = true := by rw [hM, h0]; rfl
  clear h0 h0c h1 h1c
  obtain ⟨tx, hTx⟩ : ∃ tx, Hid (Rf.factsB Rf.pB (l.take 12) = tx) := ⟨_, rfl⟩
  obtain ⟨ty, hTy⟩ : ∃ ty, Hid (Rf.factsB Rf.qB (l'.take 12) = ty) := ⟨_, rfl⟩
  rw [hTx.out] at hmz
  rw [hTy.out] at hmz'
  rw [hTx.out, hTy.out] at HR
  have hmq : (tx ++ ty).size ≤ 168 := by rw [ByteArray.size_append]; omega
  have hmx : (tx ++ ty ++ Rf.firstB).size ≤ maxLen := by rw [ByteArray.size_append]; have : Rf.firstB.size = 18 := rfl; unfold maxLen; omega
  have HMX : Hid ((tx ++ ty ++ Rf.firstB).size ≤ maxLen) := hmx
  clear hI hx hl hI' hx' hl' hT hcs hds hN hM hmx
  go_enter Tryz.func11, Tryz.ntmps11
  go_wp2_with (first
    | (go_at_call 15; have h9 := mk1; refine (kfacts_any Rf.qB a' n' c' l' 12 _ (IntsAt.below HI'.out hb1) HL'.out HX'.out (by decide) (by omega) (Tab.below HT.out hb1)).mono ?_; rintro r w2 ⟨a2, c2, hr2, hn2, hb2⟩; rw [hTy.out, ← HM.out] at hr2; rw [← HD.out, ← HM.out] at hn2; subst hr2)
    | (go_at_call 15; refine (kfacts_any Rf.pB a n c l 12 _ HI.out HL.out HX.out (by decide) (by omega) HT.out).mono ?_; rintro r w1 ⟨a1, c1, hr1, hn1, hb1⟩; rw [hTx.out, ← HN.out] at hr1; rw [← HC.out, ← HN.out] at hn1; subst hr1; have mk1 : Hid True := trivial)
    | (go_at_call 16; refine (kbegun_any w2.heap.size 20 (tx ++ ty ++ Rf.firstB) _ w2 (by omega) (by omega) HMX.out HR.out (by unfold Rf.FirstL.cls; rw [List.length_append, List.length_append, List.length_map, List.length_map, hcl.out, hdl.out]; simp only [List.length_cons, List.length_nil]; omega) (Nat.le_refl _)).mono ?_; rintro r w3 ⟨x, rfl, hS3, hb3⟩)
    | (go_at_call 17; refine (pask_in w2.heap.size _ w3 x _ Rf.FirstL.askB (by decide) hS3 hb3.size (TabB.on (tab_new (Tab.below HT.out (hb1.trans (hb2.mono hb1.size)))) hb3)).mono ?_; rintro r w4 ⟨hr4, hD4⟩; rw [hA.out, hR0.out] at hr4; subst hr4; simp only [repV])
    | (go_at_call 18; refine (konly_any 12 _).mono ?_; rintro r w5 ⟨rfl, hb5⟩))
  go_ret
  refine ⟨rfl, ?_⟩
  have hz1 := hb1.size
  have hz2 := hb2.size
  have hz3 := hb3.size
  have hb4 := hD4.below hb3.size
  have hz4 := hb4.size
  exact ((((hb1.trans (hb2.mono hz1)).trans (hb3.mono (by omega))).trans (hb4.mono (by omega))).alloc (by omega) _).trans (hb5.mono (by rw [World.size_alloc]; omega))
set_option maxHeartbeats 2000000 in
set_option maxRecDepth 100000 in
theorem first_some (W : World) (a : Option Addr) (n c : Nat) (l : List Int) (a' : Option Addr) (n' c' : Nat) (l' : List Int) (hI : IntsAt W (.slice a n c) l) (hx : ∀ x ∈ l, -9223372036854775808 ≤ x ∧ x ≤ 9223372036854775807) (hl : l.length ≤ 9223372036854775807) (hI' : IntsAt W (.slice a' n' c') l') (hx' : ∀ x ∈ l', -9223372036854775808 ≤ x ∧ x ≤ 9223372036854775807) (hl' : l'.length ≤ 9223372036854775807) (hT : Tab W) (h1 : l.take 12 ≠ []) (h2 : l'.take 12 ≠ []) :
    Calls Tryz.prog 11 #[.slice a n c, .slice a' n' c'] W fun r w' => r = .returned (.bool true) ∧ Below W.heap.size W w' := by
  have HI : Hid (IntsAt W (.slice a n c) l) := hI
  have HX : Hid _ := hx
  have HL : Hid (l.length ≤ 9223372036854775807) := hl
  have HI' : Hid (IntsAt W (.slice a' n' c') l') := hI'
  have HX' : Hid _ := hx'
  have HL' : Hid (l'.length ≤ 9223372036854775807) := hl'
  have HT : Hid (Tab W) := hT
  obtain ⟨N, hN⟩ : ∃ N, N = (l.take 12).length := ⟨_, rfl⟩
  obtain ⟨M, hM⟩ : ∃ M, M = (l'.take 12).length := ⟨_, rfl⟩
  have hN12 : N ≤ 12 := by rw [hN, List.length_take]; omega
  have hM12 : M ≤ 12 := by rw [hM, List.length_take]; omega
  obtain ⟨cs, hcs⟩ : ∃ cs, cs = (l.take 12).map Rf.constB := ⟨_, rfl⟩
  obtain ⟨ds, hds⟩ : ∃ ds, ds = (l'.take 12).map Rf.constB := ⟨_, rfl⟩
  have hcl : Hid (cs.length = N) := by unfold Hid; rw [hcs, List.length_map, hN]
  have hdl : Hid (ds.length = M) := by unfold Hid; rw [hds, List.length_map, hM]
  have hc3 : Hid (∀ y ∈ cs, y.size ≤ 3) := fun y hy => by
    rw [hcs] at hy
    obtain ⟨z, _, rfl⟩ := List.mem_map.1 hy
    exact Rf.constB_size z
  have HR : Hid _ := Rf.read_first (l.take 12) (l'.take 12) (by rw [← hN]; exact hN12) (by rw [← hM]; exact hM12)
  rw [← hcs, ← hds] at HR
  have hmz : (Rf.factsB Rf.pB (l.take 12)).size ≤ 84 := by
    have := Rf.factsB_size Rf.pB (by decide) (l.take 12)
    rw [← hN] at this; omega
  have hmz' : (Rf.factsB Rf.qB (l'.take 12)).size ≤ 84 := by
    have := Rf.factsB_size Rf.qB (by decide) (l'.take 12)
    rw [← hM] at this; omega
  have HN : Hid (N = (l.take 12).length) := hN
  have HM : Hid (M = (l'.take 12).length) := hM
  have HC : Hid (cs = (l.take 12).map Rf.constB) := hcs
  have HD : Hid (ds = (l'.take 12).map Rf.constB) := hds
  have h2c : ds ≠ [] := by rw [hds]; simpa using h2
  have hN1 : 1 ≤ N := by rw [hN]; exact List.length_pos_iff.2 h1
  have hM1 : 1 ≤ M := by rw [hM]; exact List.length_pos_iff.2 h2
  obtain ⟨c9, hc9⟩ : ∃ c9, Hid (cs[0]? = some c9) := ⟨cs[0]'(by rw [hcl.out]; omega), List.getElem?_eq_getElem _⟩
  have hA : Hid (∀ q, Rf.askS ⟨20, Rf.FirstL.cls cs ds, q⟩ Rf.FirstL.askB = (Rf.FirstL.rep ds c9 0, Rf.FirstL.st cs ds c9 0)) := fun q => Rf.FirstL.ask_at hc9.out (by rw [hcl.out]; omega) h2c q
  obtain ⟨⟨rk, rt, rc, rp⟩, hR0⟩ : ∃ R0, Hid (Rf.FirstL.rep ds c9 0 = R0) := ⟨_, rfl⟩
  have hd3 : Hid (∀ y ∈ ds, y.size ≤ 3) := fun y hy => by
    rw [hds] at hy
    obtain ⟨z, _, rfl⟩ := List.mem_map.1 hy
    exact Rf.constB_size z
  have hNb : ((N : Int) == 0) = false := beq_eq_false_iff_ne.2 (by omega)
  have hMb : ((M : Int) == 0) = false := beq_eq_false_iff_ne.2 (by omega)
  have hz9 := hc3.out c9 (List.mem_of_getElem? hc9.out)
  clear h1 h2 h2c
  obtain ⟨tx, hTx⟩ : ∃ tx, Hid (Rf.factsB Rf.pB (l.take 12) = tx) := ⟨_, rfl⟩
  obtain ⟨ty, hTy⟩ : ∃ ty, Hid (Rf.factsB Rf.qB (l'.take 12) = ty) := ⟨_, rfl⟩
  rw [hTx.out] at hmz
  rw [hTy.out] at hmz'
  rw [hTx.out, hTy.out] at HR
  have hmq : (tx ++ ty).size ≤ 168 := by rw [ByteArray.size_append]; omega
  have hmx : (tx ++ ty ++ Rf.firstB).size ≤ maxLen := by rw [ByteArray.size_append]; have : Rf.firstB.size = 18 := rfl; unfold maxLen; omega
  have HMX : Hid ((tx ++ ty ++ Rf.firstB).size ≤ maxLen) := hmx
  clear hI hx hl hI' hx' hl' hT hcs hds hN hM hmx
  go_enter Tryz.func11, Tryz.ntmps11
  go_wp2_with (first
    | (go_at_call 15; have h9 := mk1; refine (kfacts_any Rf.qB a' n' c' l' 12 _ (IntsAt.below HI'.out hb1) HL'.out HX'.out (by decide) (by omega) (Tab.below HT.out hb1)).mono ?_; rintro r w2 ⟨a2, c2, hr2, hn2, hb2⟩; rw [hTy.out, ← HM.out] at hr2; rw [← HD.out, ← HM.out] at hn2; subst hr2)
    | (go_at_call 15; refine (kfacts_any Rf.pB a n c l 12 _ HI.out HL.out HX.out (by decide) (by omega) HT.out).mono ?_; rintro r w1 ⟨a1, c1, hr1, hn1, hb1⟩; rw [hTx.out, ← HN.out] at hr1; rw [← HC.out, ← HN.out] at hn1; subst hr1; have mk1 : Hid True := trivial)
    | (go_at_call 16; refine (kbegun_any w2.heap.size 20 (tx ++ ty ++ Rf.firstB) _ w2 (by omega) (by omega) HMX.out HR.out (by unfold Rf.FirstL.cls; rw [List.length_append, List.length_append, List.length_map, List.length_map, hcl.out, hdl.out]; simp only [List.length_cons, List.length_nil]; omega) (Nat.le_refl _)).mono ?_; rintro r w3 ⟨x, rfl, hS3, hb3⟩)
    | (go_at_call 17; refine (pask_in w2.heap.size _ w3 x _ Rf.FirstL.askB (by decide) hS3 hb3.size (TabB.on (tab_new (Tab.below HT.out (hb1.trans (hb2.mono hb1.size)))) hb3)).mono ?_; rintro r w4 ⟨hr4, hD4⟩; rw [hA.out] at hr4 hD4; simp only [hR0.out] at hr4; subst hr4; simp only [repV])
    )
  obtain ⟨g1, o1, rfl⟩ := Seen.pos hn1 (by rw [hcl.out]; exact hN1)
  obtain ⟨g2, o2, rfl⟩ := Seen.pos hn2 (by rw [hdl.out]; exact hM1)
  have hz1 := hb1.size
  have hz2 := hb2.size
  have hz3 := hb3.size
  have hb4 := hD4.below hb3.size
  have hz4 := hb4.size
  have HN1 : Hid (Seen w2 9 strCells (.slice (some ⟨g1, o1, none⟩) N c1) cs) := hn1.below hb2
  have HN2 : Hid (Seen w2 9 strCells (.slice (some ⟨g2, o2, none⟩) M c2) ds) := hn2
  have HB2 : Hid (Below W.heap.size W w2) := hb1.trans (hb2.mono hz1)
  have HT2 : Hid (TabB w2.heap.size w2) := tab_new (Tab.below HT.out HB2.out)
  have HB4 : Hid (Below w2.heap.size w2 w4) := hb3.trans hb4
  have HD4 : Hid _ := hD4
  have hL0 : w2.heap.size ≤ w4.heap.size := by omega
  have hgl := HN1.out.lt
  have hgl2 := HN2.out.lt
  clear hn1 hn2 hb1 hb2 hb3 hb4 hD4 hS3 hz1 mk1
  go_loopw [11] (fun iv wr => ∃ k : Nat, k ≤ M ∧ iv = .int .i64 k ∧ RB wr w4.heap.size (Rf.FirstL.rep ds c9 k) ∧ (∃ G, SeIn w2.heap.size G wr x (Rf.FirstL.st cs ds c9 k) ∧ ¬ G w4.heap.size) ∧ Below w2.heap.size w2 wr) (fun iv _ => M - (intOf iv).toNat)
  case atStart =>
    refine ⟨0, by omega, rfl, ?_, ⟨_, HD4.out.1.below ((Below.refl _ _).alloc (Nat.le_refl _) _), fun e => ?_⟩, HB4.out.alloc (by omega) _⟩
    · rw [hR0.out]; exact blk_new w4 _
    · have := HD4.out.1.hi _ e; omega
  case round =>
    obtain ⟨k, hk, rfl, hRB, ⟨G, hS, hG⟩, hbr⟩ := hrel
    have hsz := hbr.size
    by_cases hlt : k < M
    · obtain ⟨d9, hd9⟩ : ∃ d9, Hid (ds[k]? = some d9) := ⟨ds[k]'(by rw [hdl.out]; exact hlt), List.getElem?_eq_getElem _⟩
      rw [rep_some ds c9 d9 k hd9.out] at hRB
      have hq1 := Seen.strAt (HN1.out.below hbr) 0 c9 hc9.out
      rw [Nat.add_zero] at hq1
      have hq2 := Seen.strAt (HN2.out.below hbr) k d9 hd9.out
      have hzd := hd3.out d9 (List.mem_of_getElem? hd9.out)
      have g1' : ¬ 9223372036854775807 < 4 + c9.size := by omega
      have g2' : ¬ 9223372036854775807 < 4 + c9.size + 6 := by omega
      have g3' : ¬ 9223372036854775807 < 4 + c9.size + 6 + d9.size := by omega
      have s0 := blk_cell hRB 0
      have s1 := blk_cell hRB 1
      have s2 := blk_cell hRB 2
      have s3 := blk_cell hRB 3
      have sf := blk_frozen hRB
      have sl := blk_lt hRB
      simp at s0 s1 s2 s3
      have HRB : Hid _ := hRB
      have HS : Hid _ := hS
      have HBR : Hid _ := hbr
      have HTr : Hid (TabB w2.heap.size wr) := TabB.on HT2.out hbr
      have hlt' : (k : Int) < M := by omega
      have hNp : 0 < N := by omega
      clear hRB hS hbr
      go_upto_region 12 with fail
      go_cut [12] from 42 to 63 (fun b wx => b = .bool true ∧ Below wr.heap.size wr wx)
      case first =>
        go_region_law (refine step_call2 rfl 19 (.tmp 48) (.tmp 58) _ rfl (.agg #[.int .i64 1, .string (xeB ++ c9 ++ yeB ++ d9), .int .i64 0, .int .i64 0]) (.string (xeB ++ c9 ++ yeB ++ d9)) rfl rfl (fun _ => callTold _ _) (ktold_any _ _) ?_; rintro r w5 ⟨rfl, hb5⟩; refine ⟨_, rfl, ?_⟩)
        all_goals
          go_wp2_with fail
          go_meet
          exact ⟨rfl, ((Below.refl _ _).drew).trans hb5⟩
      case rest =>
        obtain ⟨rfl, hbx⟩ := hcut
        have hzx := hbx.size
        have HMo : Hid _ := Rf.FirstL.more_at cs ds c9 k (by rw [hdl.out]; exact hlt)
        have HRx : Hid (RB wc w4.heap.size ⟨1, xeB ++ c9 ++ yeB ++ d9, 0, 0⟩) := (hbx.block _ sl).trans HRB.out
        have HBx : Hid (Below w2.heap.size w2 wc) := HBR.out.trans (hbx.mono hsz)
        have HSx : Hid _ := HS.out.below hbx
        have HTx : Hid (TabB w2.heap.size wc) := TabB.on HTr.out (hbx.mono hsz)
        have hzw : w2.heap.size ≤ wc.heap.size := by omega
        obtain ⟨⟨rk5, rt5, rc5, rp5⟩, hR5⟩ : ∃ R5, Hid (Rf.FirstL.rep ds c9 (k + 1) = R5) := ⟨_, rfl⟩
        clear s0 s1 s2 s3 sf hq1 hq2 hbx
        go_wp2_with (go_at_call 20; refine (pmore_in w2.heap.size G wc x _ HSx.out hzw HTx.out).mono ?_; rintro r w5 ⟨hr5, hD5⟩; rw [HMo.out] at hr5 hD5; simp only [hR5.out] at hr5; subst hr5; simp only [repV]; have hRB5 := hD5.rb HRx.out; have s0 := blk_cell hRB5 0; have s1 := blk_cell hRB5 1; have s2 := blk_cell hRB5 2; have s3 := blk_cell hRB5 3; have sf := blk_frozen hRB5; have sl5 := blk_lt hRB5; simp at s0 s1 s2 s3)
        have hz5 := hD5.size
        have hB5 : Below w2.heap.size w2 w5 := HBx.out.trans (hD5.below hzw)
        have hG5 : ¬ Grow G wc w5 w4.heap.size := fun e => e.elim hG (fun e => by omega)
        go_roundw
        case rel =>
          refine ⟨k + 1, by omega, by go_num, ?_, ⟨_, hD5.1.set hRB5 hG5 _ _ _ _, hG5⟩, hB5.trans ((kept4 _ _ _ _ _ _).below (by omega) (fun k hk e => by omega))⟩
          rw [hR5.out]; exact rb_set (R := ⟨1, xeB ++ c9 ++ yeB ++ d9, 0, 0⟩) hRB5 ⟨rk5, rt5, rc5, rp5⟩
        case measure => simp [intOf]; omega
    · obtain rfl : k = M := by omega
      have hrep : Rf.FirstL.rep ds c9 k = ⟨2, ⟨#[]⟩, 0, 0⟩ := by
        have h9 := rep_end ds c9
        rw [hdl.out] at h9
        exact h9
      rw [hrep] at hRB
      have s0 := blk_cell hRB 0
      have s1 := blk_cell hRB 1
      have s2 := blk_cell hRB 2
      have s3 := blk_cell hRB 3
      have sf := blk_frozen hRB
      have sl := blk_lt hRB
      simp at s0 s1 s2 s3
      have HBR : Hid _ := hbr
      clear hrep hRB hS hbr
      go_wp2_with (go_at_call 18; refine (konly_any 2 _).mono ?_; rintro r w5 ⟨rfl, hb5⟩)
      go_ret
      exact ⟨rfl, HB2.out.trans ((HBR.out.trans (hb5.mono hsz)).mono HB2.out.size)⟩
end FirstW
end Go.Proofs.YtpdikdnffehmkaaGreatDoor
/- The given card of First, out of its walk. -/
namespace Go.Proofs.YtpdikdnffehmkaaGreatDoor
open Go.ChangeShapes Go.WideShapes Go.ChangeAt Go.RowKit Go.Deep
/-- What the walk has to give. -/
def FirstWalk : Prop := ∀ (W : World) (v0 : Value) (l0 : List Int) (v1 : Value) (l1 : List Int), IntsAt W v0 l0 → (∀ x ∈ l0, -9223372036854775808 ≤ x ∧ x ≤ 9223372036854775807) → l0.length * 8 ≤ 140737488355328 → IntsAt W v1 l1 → (∀ x ∈ l1, -9223372036854775808 ≤ x ∧ x ≤ 9223372036854775807) → l1.length * 8 ≤ 140737488355328 → Lib.TabIs Tryz.prog W "internal/strconv.uint64pow10" .u64 Lib.pow10Tab →
    Calls Tryz.prog 11 #[v0, v1] W fun e W' => e = .returned (.bool true) ∧ Below W.heap.size W W'
namespace FirstC
theorem table {W : World} (h : laidMetH Tryz.prog Rows.firstRow.laid W) : Lib.TabIs Tryz.prog W "internal/strconv.uint64pow10" .u64 Lib.pow10Tab := by
  have h' : laidMet Tryz.prog Rows.firstRow.laid W := by
    rw [MakeChecks.laidMetH_plain _ _ _ (by kernel_rfl)] at h
    exact h
  exact Lib.tabIs_of_head Tryz.gTab Tryz.gTabType Tryz.underlying239 Tryz.underlying198 Tryz.cellsU64 Tryz.cellsTab (laidMet.tail (laidMet.tail h'))
section
variable {H : Type} {enc : TypeId × Value → H}
set_option maxRecDepth 100000 in
/-- What the walk gives, for every argument and every world that holds the table. -/
theorem contract (hw : FirstWalk) (W : World) (base : Nat) (args : Array Value) (ds gs : List (DataW H)) (before : List MemPlace)
    (hval : ∀ (j : Nat) t v, Tryz.f11.params[j]? = some t → args[j]? = some v → Value.okWide Tryz.prog W .any base t v)
    (hW : DataW.Whole enc Tryz.prog Tryz.f11.params.toList Rows.firstSpec.vars false W args.toList ds gs before)
    (hsz : (DataW.weightsEach Tryz.prog (Tryz.f11.params.toList ++ (OpenSpec.ofChange Rows.firstSpec).bare.plain.varTypes Tryz.prog) (ds ++ gs)).all (· ≤ reachBytes) = true)
    (hL : laidMetH Tryz.prog Rows.firstRow.laid W) :
    Calls Tryz.prog 11 args W fun e W' => ∃ v, e = .returned v ∧ Rows.firstSpec.post enc Tryz.prog Tryz.f11 false true false false W args v W' := by
  have hW' := hW
  obtain ⟨p, q, hA0, hV, rfl, hfz, hnd⟩ := hW
  have hA : DataW.TrodAll enc Tryz.prog W 0 (fun _ => true) true Tryz.f11.params.toList args.toList ds p := hA0
  rw [Tryz.params11] at hA hval hsz
  obtain ⟨v0, vs0, d0, ds0, p0, q0, hargs, rfl, rfl, h0, r0⟩ := trodAll_cons hA
  obtain ⟨v1, vs1, d1, ds1, p1, q1, rfl, rfl, rfl, h1, r1⟩ := trodAll_cons r0
  obtain ⟨rfl, rfl, rfl⟩ := trodAll_nil r1
  obtain rfl : args = #[v0, v1] := by cases args; simp_all
  obtain ⟨rfl, rfl⟩ := trodVars_none hV
  clear hA0
  obtain ⟨l0, hS0, hok0, hn0⟩ := open_ints h0 (okWide_slice Tryz.underlying24 (hval 0 24 v0 rfl rfl)) (fun elems spare e => by
    subst e
    have := sized_slice hsz (j := 0) (t := 24) (e := 3) rfl rfl Tryz.underlying24
    rw [Tryz.bytesInt] at this
    exact this)
  obtain ⟨l1, hS1, hok1, hn1⟩ := open_ints h1 (okWide_slice Tryz.underlying24 (hval 1 24 v1 rfl rfl)) (fun elems spare e => by
    subst e
    have := sized_slice hsz (j := 1) (t := 24) (e := 3) rfl rfl Tryz.underlying24
    rw [Tryz.bytesInt] at this
    exact this)
  refine (hw W v0 l0 v1 l1 hS0 hok0 hn0 hS1 hok1 hn1 (table hL)).mono fun e W' ⟨he, hB⟩ => ?_
  subst he
  have hlt : ∀ x ∈ p0 ++ (p1 ++ []) ++ [], x.block < W.heap.size := fun x hx => hW'.lt x hx
  refine ⟨_, rfl, [d0, d1], [], _, [], p0 ++ (p1 ++ []), [], hW', ?_, ?_, ?_, hB.frame _, fun h => by cases h⟩
  · exact trodAll_cons_mk (shut_bool Tryz.underlying4 true) trodAll_mk0
  · exact (trodAll_cons_mk (again (of_decide_eq_true (by kernel_rfl)) h0 hB (fun x hx => hlt x (by simp [hx]))) (trodAll_cons_mk (again (of_decide_eq_true (by kernel_rfl)) h1 hB (fun x hx => hlt x (by simp [hx]))) trodAll_mk0))
  · rfl
end
theorem laid_met (os : Os) : laidMet Tryz.prog Rows.firstRow.laid ((World.doorLaid Tryz.prog 400 os).forCall (fun _ _ => 0) ⟨#[], #[.slice none 0 0, .slice none 0 0], []⟩).memory :=
  laidMet_of_run' 8 (by kernel_rfl) (by kernel_rfl)
theorem reads (os : Os) {H : Type} (enc : TypeId × Value → H) : ∃ places, DataW.whole enc Tryz.prog ((World.doorLaid Tryz.prog 400 os).forCall (fun _ _ => 0) ⟨#[], #[.slice none 0 0, .slice none 0 0], []⟩).memory Tryz.f11.params.toList Rows.firstSpec.vars false #[Value.slice none 0 0, .slice none 0 0].toList 8 = some ([.nil, .nil], [], places) :=
  ⟨[], by kernel_rfl⟩
set_option maxRecDepth 100000 in
theorem lifted (hw : FirstWalk) (os : Os) (started : os.Started) (H : Type) (enc : TypeId × Value → H) (F : Stop.Interp) :
    ReturnsInHanded {} Tryz.checked os 11 .any ((OpenSpec.ofChange Rows.firstSpec).preRow enc Tryz.prog Tryz.f11 Rows.firstRow.domain false Rows.firstRow.laid) (((OpenSpec.ofChange Rows.firstSpec).at F).post enc Tryz.prog Tryz.f11 false true false false) := by
  obtain ⟨places, hx⟩ := reads os enc
  refine returnsInHanded_of_row (C := Tryz.checked) (s := OpenSpec.ofChange Rows.firstSpec) Tryz.own started (by kernel_rfl) Tryz.func11
    (witness_row_atRef (enc := enc) (C := Tryz.checked) false (World.doorLaid Tryz.prog 400 os) #[.slice none 0 0, .slice none 0 0] rfl (by kernel_rfl) (by kernel_rfl) (by kernel_rfl)
      (OpenSpec.preRow_of_cond 8 hx (by kernel_rfl) (fun k hk => by cases hk) (by kernel_rfl) (laid_met os))) ?_
  intro W base args ds gs before hval hW _ _ hsz hL _ _
  exact contract hw W base args ds gs before hval hW hsz hL
theorem said (hw : FirstWalk) : Rows.FirstSaid :=
  OpenClaim.holds_of_cond 11 Tryz.f11 rfl rfl rfl rfl rfl rfl rfl ⟨rfl, rfl, rfl, rfl, rfl⟩ rfl rfl rfl rfl rfl (by kernel_rfl) Tryz.func11 (by kernel_rfl)
    (of_decide_eq_true (by kernel_rfl)) (by unfold Func.isWrapper; first | (rw [if_pos (by decide +kernel)]; kernel_rfl) | (rw [if_neg (by decide +kernel)]; exact ⟨rfl, rfl⟩))
    (fun os started H enc _ F => by rw [OpenClaim.pre_eq_preRow]; exact lifted hw os started H enc F)
theorem plain (f : FuncId) (fn : Func) (hf : Tryz.pinned.checked.prog.funcNamed "prompt/promptkeep.First" = some f) (hfn : Tryz.pinned.checked.prog.funcs[f]? = some fn) :
    true = Tryz.pinned.checked.prog.looks [] ∧ ∀ (j : Nat) t, fn.params[j]? = some t → Tryz.pinned.checked.prog.wantsStandIn t = false := by
  obtain rfl : f = 11 := Option.some.inj ((show Tryz.prog.funcNamed "prompt/promptkeep.First" = some 11 by kernel_rfl).symm.trans hf) |>.symm
  obtain rfl : fn = Tryz.f11 := (Option.some.inj (Tryz.func11.symm.trans hfn)).symm
  refine ⟨by kernel_rfl, fun j t ht => ?_⟩
  rw [Tryz.params11] at ht
  have hm := Array.mem_of_getElem? ht
  simp at hm
  subst hm
  exact (show Tryz.prog.wantsStandIn 24 = false by kernel_rfl)
theorem card_of (hw : FirstWalk) : Rows.FirstCardSaid :=
  Claim7.holds_tied_plain_at .later [] _ _ _ _ (said hw) (fun _ h => by cases h) (by kernel_rfl) (fun _ h => by cases h) first_row_tie rfl ⟨rfl, rfl⟩ (by kernel_rfl) rfl plain (by kernel_rfl)
end FirstC
end Go.Proofs.YtpdikdnffehmkaaGreatDoor
