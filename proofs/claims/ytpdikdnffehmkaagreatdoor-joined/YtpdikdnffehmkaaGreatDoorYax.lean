/- Joined: two goals with a variable in common, walked. -/
import Derived.Test.YtpdikdnffehmkaaGreatDoorYaw
import Derived.Deep.CutRange
import Derived.Deep.RegionHeld2
import Derived.Deep.LoopGhost
import Derived.Test.YtpdikdnffehmkaaGreatDoorCards
import Derived.Test.YtpdikdnffehmkaaGreatDoorTie
namespace Go.Proofs.YtpdikdnffehmkaaGreatDoor
open Go.RowKit
namespace JoinedW
def xeB : ByteArray := ⟨#[88, 32, 61, 32]⟩
theorem tab_new {w : World} (h : Tab w) : TabB w.heap.size w := Lib.tabBelow_of_tabIs h
theorem callTold (vals : Array Value) (w : World) : (callFunc 19 vals).run Tryz.prog w = .ok (.enter 19 vals) w := by
  simp [callFunc, Tryz.func19, Tryz.f19]
theorem ans_x (c : ByteArray) : Rf.JoinedL.ans c = ⟨1, xeB ++ c, 0, 0⟩ := rfl
theorem off_x (a b : List ByteArray) : Rf.JoinedL.off a b = (⟨2, ⟨#[]⟩, 0, 0⟩, ⟨20, Rf.JoinedL.cls a b, none⟩) := rfl
set_option maxHeartbeats 2000000 in
set_option maxRecDepth 100000 in
theorem joined_noP (W : World) (a : Option Addr) (n c : Nat) (l : List Int) (a' : Option Addr) (n' c' : Nat) (l' : List Int) (hI : IntsAt W (.slice a n c) l) (hx : ∀ x ∈ l, -9223372036854775808 ≤ x ∧ x ≤ 9223372036854775807) (hl : l.length ≤ 9223372036854775807) (hI' : IntsAt W (.slice a' n' c') l') (hx' : ∀ x ∈ l', -9223372036854775808 ≤ x ∧ x ≤ 9223372036854775807) (hl' : l'.length ≤ 9223372036854775807) (hT : Tab W) (h0 : l.take 15 = []) :
    Calls Tryz.prog 5 #[.slice a n c, .slice a' n' c'] W fun r w' => r = .returned (.bool true) ∧ Below W.heap.size W w' := by
  have HI : Hid (IntsAt W (.slice a n c) l) := hI
  have HX : Hid _ := hx
  have HL : Hid (l.length ≤ 9223372036854775807) := hl
  have HI' : Hid (IntsAt W (.slice a' n' c') l') := hI'
  have HX' : Hid _ := hx'
  have HL' : Hid (l'.length ≤ 9223372036854775807) := hl'
  have HT : Hid (Tab W) := hT
  obtain ⟨N, hN⟩ : ∃ N, N = (l.take 15).length := ⟨_, rfl⟩
  obtain ⟨M, hM⟩ : ∃ M, M = (l'.take 15).length := ⟨_, rfl⟩
  have hN15 : N ≤ 15 := by rw [hN, List.length_take]; omega
  have hM15 : M ≤ 15 := by rw [hM, List.length_take]; omega
  obtain ⟨cs, hcs⟩ : ∃ cs, cs = (l.take 15).map Rf.constB := ⟨_, rfl⟩
  obtain ⟨ds, hds⟩ : ∃ ds, ds = (l'.take 15).map Rf.constB := ⟨_, rfl⟩
  have hcl : Hid (cs.length = N) := by unfold Hid; rw [hcs, List.length_map, hN]
  have hdl : Hid (ds.length = M) := by unfold Hid; rw [hds, List.length_map, hM]
  have hc3 : Hid (∀ y ∈ cs, y.size ≤ 3) := fun y hy => by
    rw [hcs] at hy
    obtain ⟨z, _, rfl⟩ := List.mem_map.1 hy
    exact Rf.constB_size z
  have HR : Hid _ := Rf.read_joined (l.take 15) (l'.take 15) (by rw [← hN]; exact hN15) (by rw [← hM]; exact hM15)
  rw [← hcs, ← hds] at HR
  have hmz : (Rf.factsB Rf.pB (l.take 15)).size ≤ 105 := by
    have := Rf.factsB_size Rf.pB (by decide) (l.take 15)
    rw [← hN] at this; omega
  have hmz' : (Rf.factsB Rf.qB (l'.take 15)).size ≤ 105 := by
    have := Rf.factsB_size Rf.qB (by decide) (l'.take 15)
    rw [← hM] at this; omega
  have HN : Hid (N = (l.take 15).length) := hN
  have HM : Hid (M = (l'.take 15).length) := hM
  have HC : Hid (cs = (l.take 15).map Rf.constB) := hcs
  have HD : Hid (ds = (l'.take 15).map Rf.constB) := hds
  have h0c : cs = [] := by rw [hcs, h0]; rfl
  have hA : Hid (∀ q, Rf.askS ⟨20, Rf.JoinedL.cls cs ds, q⟩ Rf.JoinedL.askB = (Rf.repK 12, ⟨20, Rf.JoinedL.cls cs ds, none⟩)) := fun q => by rw [h0c]; exact Rf.JoinedL.ask_noP ds q
  have hR0 : Hid (Rf.repK 12 = ⟨12, ⟨#[]⟩, 0, 0⟩) := rfl
  have hNb : ((N : Int) == 0) = true := by rw [hN, h0]; rfl
  clear h0 h0c
  obtain ⟨tx, hTx⟩ : ∃ tx, Hid (Rf.factsB Rf.pB (l.take 15) = tx) := ⟨_, rfl⟩
  obtain ⟨ty, hTy⟩ : ∃ ty, Hid (Rf.factsB Rf.qB (l'.take 15) = ty) := ⟨_, rfl⟩
  rw [hTx.out] at hmz
  rw [hTy.out] at hmz'
  rw [hTx.out, hTy.out] at HR
  have hmx : (tx ++ ty).size ≤ maxLen := by rw [ByteArray.size_append]; unfold maxLen; omega
  have HMX : Hid ((tx ++ ty).size ≤ maxLen) := hmx
  clear hI hx hl hI' hx' hl' hT hcs hds hN hM hmx
  go_enter Tryz.func5, Tryz.ntmps5
  go_wp2_with (first
    | (go_at_call 15; have h9 := mk1; refine (kfacts_any Rf.qB a' n' c' l' 15 _ (IntsAt.below HI'.out hb1) HL'.out HX'.out (by decide) (by omega) (Tab.below HT.out hb1)).mono ?_; rintro r w2 ⟨a2, c2, hr2, hn2, hb2⟩; rw [hTy.out, ← HM.out] at hr2; rw [← HD.out, ← HM.out] at hn2; subst hr2)
    | (go_at_call 15; refine (kfacts_any Rf.pB a n c l 15 _ HI.out HL.out HX.out (by decide) (by omega) HT.out).mono ?_; rintro r w1 ⟨a1, c1, hr1, hn1, hb1⟩; rw [hTx.out, ← HN.out] at hr1; rw [← HC.out, ← HN.out] at hn1; subst hr1; have mk1 : Hid True := trivial)
    | (go_at_call 16; refine (kbegun_any w2.heap.size 20 (tx ++ ty) _ w2 (by omega) (by omega) HMX.out HR.out (by unfold Rf.JoinedL.cls; rw [List.length_append, List.length_map, List.length_map, hcl.out, hdl.out]; omega) (Nat.le_refl _)).mono ?_; rintro r w3 ⟨x, rfl, hS3, hb3⟩)
    | (go_at_call 17; refine (pask_in w2.heap.size _ w3 x _ Rf.JoinedL.askB (by decide) hS3 hb3.size (TabB.on (tab_new (Tab.below HT.out (hb1.trans (hb2.mono hb1.size)))) hb3)).mono ?_; rintro r w4 ⟨hr4, hD4⟩; rw [hA.out] at hr4 hD4; simp only [hR0.out] at hr4; subst hr4; simp only [repV])
    | (go_at_call 18; refine (konly_any 12 _).mono ?_; rintro r w5 ⟨rfl, hb5⟩))
  go_ret
  refine ⟨rfl, ?_⟩
  have hz1 := hb1.size
  have hz2 := hb2.size
  have hz3 := hb3.size
  have hb4 := hD4.below hb3.size
  have hz4 := hb4.size
  exact ((((hb1.trans (hb2.mono hz1)).trans (hb3.mono (by omega))).trans (hb4.mono (by omega))).alloc (by omega) _).trans (hb5.mono (by rw [World.size_alloc]; omega))
set_option maxHeartbeats 2000000 in
set_option maxRecDepth 100000 in
theorem joined_noQ (W : World) (a : Option Addr) (n c : Nat) (l : List Int) (a' : Option Addr) (n' c' : Nat) (l' : List Int) (hI : IntsAt W (.slice a n c) l) (hx : ∀ x ∈ l, -9223372036854775808 ≤ x ∧ x ≤ 9223372036854775807) (hl : l.length ≤ 9223372036854775807) (hI' : IntsAt W (.slice a' n' c') l') (hx' : ∀ x ∈ l', -9223372036854775808 ≤ x ∧ x ≤ 9223372036854775807) (hl' : l'.length ≤ 9223372036854775807) (hT : Tab W) (h1 : l.take 15 ≠ []) (h0 : l'.take 15 = []) :
    Calls Tryz.prog 5 #[.slice a n c, .slice a' n' c'] W fun r w' => r = .returned (.bool true) ∧ Below W.heap.size W w' := by
  have HI : Hid (IntsAt W (.slice a n c) l) := hI
  have HX : Hid _ := hx
  have HL : Hid (l.length ≤ 9223372036854775807) := hl
  have HI' : Hid (IntsAt W (.slice a' n' c') l') := hI'
  have HX' : Hid _ := hx'
  have HL' : Hid (l'.length ≤ 9223372036854775807) := hl'
  have HT : Hid (Tab W) := hT
  obtain ⟨N, hN⟩ : ∃ N, N = (l.take 15).length := ⟨_, rfl⟩
  obtain ⟨M, hM⟩ : ∃ M, M = (l'.take 15).length := ⟨_, rfl⟩
  have hN15 : N ≤ 15 := by rw [hN, List.length_take]; omega
  have hM15 : M ≤ 15 := by rw [hM, List.length_take]; omega
  obtain ⟨cs, hcs⟩ : ∃ cs, cs = (l.take 15).map Rf.constB := ⟨_, rfl⟩
  obtain ⟨ds, hds⟩ : ∃ ds, ds = (l'.take 15).map Rf.constB := ⟨_, rfl⟩
  have hcl : Hid (cs.length = N) := by unfold Hid; rw [hcs, List.length_map, hN]
  have hdl : Hid (ds.length = M) := by unfold Hid; rw [hds, List.length_map, hM]
  have hc3 : Hid (∀ y ∈ cs, y.size ≤ 3) := fun y hy => by
    rw [hcs] at hy
    obtain ⟨z, _, rfl⟩ := List.mem_map.1 hy
    exact Rf.constB_size z
  have HR : Hid _ := Rf.read_joined (l.take 15) (l'.take 15) (by rw [← hN]; exact hN15) (by rw [← hM]; exact hM15)
  rw [← hcs, ← hds] at HR
  have hmz : (Rf.factsB Rf.pB (l.take 15)).size ≤ 105 := by
    have := Rf.factsB_size Rf.pB (by decide) (l.take 15)
    rw [← hN] at this; omega
  have hmz' : (Rf.factsB Rf.qB (l'.take 15)).size ≤ 105 := by
    have := Rf.factsB_size Rf.qB (by decide) (l'.take 15)
    rw [← hM] at this; omega
  have HN : Hid (N = (l.take 15).length) := hN
  have HM : Hid (M = (l'.take 15).length) := hM
  have HC : Hid (cs = (l.take 15).map Rf.constB) := hcs
  have HD : Hid (ds = (l'.take 15).map Rf.constB) := hds
  have h0c : ds = [] := by rw [hds, h0]; rfl
  have h1c : cs ≠ [] := by rw [hcs]; simpa using h1
  have hA : Hid (∀ q, Rf.askS ⟨20, Rf.JoinedL.cls cs ds, q⟩ Rf.JoinedL.askB = (Rf.repK 12, ⟨20, Rf.JoinedL.cls cs ds, none⟩)) := fun q => by rw [h0c]; exact Rf.JoinedL.ask_noQ cs h1c q
  have hR0 : Hid (Rf.repK 12 = ⟨12, ⟨#[]⟩, 0, 0⟩) := rfl
  have hN1 : 1 ≤ N := by rw [hN]; exact List.length_pos_iff.2 h1
  have hNb : ((N : Int) == 0) = false := beq_eq_false_iff_ne.2 (by omega)
  have hMb : ((M : Int) == 0) = true := by rw [hM, h0]; rfl
  clear h0 h0c h1 h1c
  obtain ⟨tx, hTx⟩ : ∃ tx, Hid (Rf.factsB Rf.pB (l.take 15) = tx) := ⟨_, rfl⟩
  obtain ⟨ty, hTy⟩ : ∃ ty, Hid (Rf.factsB Rf.qB (l'.take 15) = ty) := ⟨_, rfl⟩
  rw [hTx.out] at hmz
  rw [hTy.out] at hmz'
  rw [hTx.out, hTy.out] at HR
  have hmx : (tx ++ ty).size ≤ maxLen := by rw [ByteArray.size_append]; unfold maxLen; omega
  have HMX : Hid ((tx ++ ty).size ≤ maxLen) := hmx
  clear hI hx hl hI' hx' hl' hT hcs hds hN hM hmx
  go_enter Tryz.func5, Tryz.ntmps5
  go_wp2_with (first
    | (go_at_call 15; have h9 := mk1; refine (kfacts_any Rf.qB a' n' c' l' 15 _ (IntsAt.below HI'.out hb1) HL'.out HX'.out (by decide) (by omega) (Tab.below HT.out hb1)).mono ?_; rintro r w2 ⟨a2, c2, hr2, hn2, hb2⟩; rw [hTy.out, ← HM.out] at hr2; rw [← HD.out, ← HM.out] at hn2; subst hr2)
    | (go_at_call 15; refine (kfacts_any Rf.pB a n c l 15 _ HI.out HL.out HX.out (by decide) (by omega) HT.out).mono ?_; rintro r w1 ⟨a1, c1, hr1, hn1, hb1⟩; rw [hTx.out, ← HN.out] at hr1; rw [← HC.out, ← HN.out] at hn1; subst hr1; have mk1 : Hid True := trivial)
    | (go_at_call 16; refine (kbegun_any w2.heap.size 20 (tx ++ ty) _ w2 (by omega) (by omega) HMX.out HR.out (by unfold Rf.JoinedL.cls; rw [List.length_append, List.length_map, List.length_map, hcl.out, hdl.out]; omega) (Nat.le_refl _)).mono ?_; rintro r w3 ⟨x, rfl, hS3, hb3⟩)
    | (go_at_call 17; refine (pask_in w2.heap.size _ w3 x _ Rf.JoinedL.askB (by decide) hS3 hb3.size (TabB.on (tab_new (Tab.below HT.out (hb1.trans (hb2.mono hb1.size)))) hb3)).mono ?_; rintro r w4 ⟨hr4, hD4⟩; rw [hA.out] at hr4 hD4; simp only [hR0.out] at hr4; subst hr4; simp only [repV])
    | (go_at_call 18; refine (konly_any 12 _).mono ?_; rintro r w5 ⟨rfl, hb5⟩))
  go_ret
  refine ⟨rfl, ?_⟩
  have hz1 := hb1.size
  have hz2 := hb2.size
  have hz3 := hb3.size
  have hb4 := hD4.below hb3.size
  have hz4 := hb4.size
  exact ((((hb1.trans (hb2.mono hz1)).trans (hb3.mono (by omega))).trans (hb4.mono (by omega))).alloc (by omega) _).trans (hb5.mono (by rw [World.size_alloc]; omega))
set_option maxHeartbeats 2000000 in
set_option maxRecDepth 100000 in
theorem joined_some (W : World) (a : Option Addr) (n c : Nat) (l : List Int) (a' : Option Addr) (n' c' : Nat) (l' : List Int) (hI : IntsAt W (.slice a n c) l) (hx : ∀ x ∈ l, -9223372036854775808 ≤ x ∧ x ≤ 9223372036854775807) (hl : l.length ≤ 9223372036854775807) (hI' : IntsAt W (.slice a' n' c') l') (hx' : ∀ x ∈ l', -9223372036854775808 ≤ x ∧ x ≤ 9223372036854775807) (hl' : l'.length ≤ 9223372036854775807) (hT : Tab W) (h1 : l.take 15 ≠ []) (h2 : l'.take 15 ≠ []) :
    Calls Tryz.prog 5 #[.slice a n c, .slice a' n' c'] W fun r w' => r = .returned (.bool true) ∧ Below W.heap.size W w' := by
  have HI : Hid (IntsAt W (.slice a n c) l) := hI
  have HX : Hid _ := hx
  have HL : Hid (l.length ≤ 9223372036854775807) := hl
  have HI' : Hid (IntsAt W (.slice a' n' c') l') := hI'
  have HX' : Hid _ := hx'
  have HL' : Hid (l'.length ≤ 9223372036854775807) := hl'
  have HT : Hid (Tab W) := hT
  obtain ⟨N, hN⟩ : ∃ N, N = (l.take 15).length := ⟨_, rfl⟩
  obtain ⟨M, hM⟩ : ∃ M, M = (l'.take 15).length := ⟨_, rfl⟩
  have hN15 : N ≤ 15 := by rw [hN, List.length_take]; omega
  have hM15 : M ≤ 15 := by rw [hM, List.length_take]; omega
  obtain ⟨cs, hcs⟩ : ∃ cs, cs = (l.take 15).map Rf.constB := ⟨_, rfl⟩
  obtain ⟨ds, hds⟩ : ∃ ds, ds = (l'.take 15).map Rf.constB := ⟨_, rfl⟩
  have hcl : Hid (cs.length = N) := by unfold Hid; rw [hcs, List.length_map, hN]
  have hdl : Hid (ds.length = M) := by unfold Hid; rw [hds, List.length_map, hM]
  have hc3 : Hid (∀ y ∈ cs, y.size ≤ 3) := fun y hy => by
    rw [hcs] at hy
    obtain ⟨z, _, rfl⟩ := List.mem_map.1 hy
    exact Rf.constB_size z
  have HR : Hid _ := Rf.read_joined (l.take 15) (l'.take 15) (by rw [← hN]; exact hN15) (by rw [← hM]; exact hM15)
  rw [← hcs, ← hds] at HR
  have hmz : (Rf.factsB Rf.pB (l.take 15)).size ≤ 105 := by
    have := Rf.factsB_size Rf.pB (by decide) (l.take 15)
    rw [← hN] at this; omega
  have hmz' : (Rf.factsB Rf.qB (l'.take 15)).size ≤ 105 := by
    have := Rf.factsB_size Rf.qB (by decide) (l'.take 15)
    rw [← hM] at this; omega
  have HN : Hid (N = (l.take 15).length) := hN
  have HM : Hid (M = (l'.take 15).length) := hM
  have HC : Hid (cs = (l.take 15).map Rf.constB) := hcs
  have HD : Hid (ds = (l'.take 15).map Rf.constB) := hds
  have h1c : cs ≠ [] := by rw [hcs]; simpa using h1
  have h2c : ds ≠ [] := by rw [hds]; simpa using h2
  have hA : Hid (∀ q, Rf.askS ⟨20, Rf.JoinedL.cls cs ds, q⟩ Rf.JoinedL.askB = Rf.JoinedL.seek cs ds 0 cs) := fun q => Rf.JoinedL.ask_hit h1c h2c (by rw [hcl.out]; exact hN15) q
  obtain ⟨⟨rk, rt, rc, rp⟩, hR0⟩ : ∃ R0, Hid ((Rf.JoinedL.seek cs ds 0 cs).1 = R0) := ⟨_, rfl⟩
  have hN1 : 1 ≤ N := by rw [hN]; exact List.length_pos_iff.2 h1
  have hM1 : 1 ≤ M := by rw [hM]; exact List.length_pos_iff.2 h2
  have hNb : ((N : Int) == 0) = false := beq_eq_false_iff_ne.2 (by omega)
  have hMb : ((M : Int) == 0) = false := beq_eq_false_iff_ne.2 (by omega)
  have H2c : Hid (ds ≠ []) := h2c
  clear h1 h2 h1c h2c
  obtain ⟨tx, hTx⟩ : ∃ tx, Hid (Rf.factsB Rf.pB (l.take 15) = tx) := ⟨_, rfl⟩
  obtain ⟨ty, hTy⟩ : ∃ ty, Hid (Rf.factsB Rf.qB (l'.take 15) = ty) := ⟨_, rfl⟩
  rw [hTx.out] at hmz
  rw [hTy.out] at hmz'
  rw [hTx.out, hTy.out] at HR
  have hmx : (tx ++ ty).size ≤ maxLen := by rw [ByteArray.size_append]; unfold maxLen; omega
  have HMX : Hid ((tx ++ ty).size ≤ maxLen) := hmx
  clear hI hx hl hI' hx' hl' hT hcs hds hN hM hmx
  go_enter Tryz.func5, Tryz.ntmps5
  go_wp2_with (first
    | (go_at_call 15; have h9 := mk1; refine (kfacts_any Rf.qB a' n' c' l' 15 _ (IntsAt.below HI'.out hb1) HL'.out HX'.out (by decide) (by omega) (Tab.below HT.out hb1)).mono ?_; rintro r w2 ⟨a2, c2, hr2, hn2, hb2⟩; rw [hTy.out, ← HM.out] at hr2; rw [← HD.out, ← HM.out] at hn2; subst hr2)
    | (go_at_call 15; refine (kfacts_any Rf.pB a n c l 15 _ HI.out HL.out HX.out (by decide) (by omega) HT.out).mono ?_; rintro r w1 ⟨a1, c1, hr1, hn1, hb1⟩; rw [hTx.out, ← HN.out] at hr1; rw [← HC.out, ← HN.out] at hn1; subst hr1; have mk1 : Hid True := trivial)
    | (go_at_call 16; refine (kbegun_any w2.heap.size 20 (tx ++ ty) _ w2 (by omega) (by omega) HMX.out HR.out (by unfold Rf.JoinedL.cls; rw [List.length_append, List.length_map, List.length_map, hcl.out, hdl.out]; omega) (Nat.le_refl _)).mono ?_; rintro r w3 ⟨x, rfl, hS3, hb3⟩)
    | (go_at_call 17; refine (pask_in w2.heap.size _ w3 x _ Rf.JoinedL.askB (by decide) hS3 hb3.size (TabB.on (tab_new (Tab.below HT.out (hb1.trans (hb2.mono hb1.size)))) hb3)).mono ?_; rintro r w4 ⟨hr4, hD4⟩; rw [hA.out] at hr4 hD4; simp only [hR0.out] at hr4; subst hr4; simp only [repV])
    )
  obtain ⟨g1, o1, rfl⟩ := Seen.pos hn1 (by rw [hcl.out]; exact hN1)
  obtain ⟨g2, o2, rfl⟩ := Seen.pos hn2 (by rw [hdl.out]; exact hM1)
  have hz1 := hb1.size
  have hz2 := hb2.size
  have hz3 := hb3.size
  have hb4 := hD4.below hb3.size
  have hz4 := hb4.size
  have HN1 : Hid (Seen w2 9 strCells (.slice (some ⟨g1, o1, none⟩) N c1) cs) := hn1.below hb2
  have HN2 : Hid (Seen w2 9 strCells (.slice (some ⟨g2, o2, none⟩) M c2) ds) := hn2
  have HB2 : Hid (Below W.heap.size W w2) := hb1.trans (hb2.mono hz1)
  have HT2 : Hid (TabB w2.heap.size w2) := tab_new (Tab.below HT.out HB2.out)
  have HB4 : Hid (Below w2.heap.size w2 w4) := hb3.trans hb4
  have HD4 : Hid _ := hD4
  have hL0 : w2.heap.size ≤ w4.heap.size := by omega
  clear hn1 hn2 hb1 hb2 hb3 hb4 hD4 hS3 hz1 mk1
  go_loopg [11, 12, 13] (N + 1) (fun mm iv _ _ wr => ∃ i : Nat, i ≤ N ∧ mm = N + 1 - i ∧ iv = .int .i64 i ∧ RB wr w4.heap.size (Rf.JoinedL.seek cs ds i (cs.drop i)).1 ∧ (∃ G, SeIn w2.heap.size G wr x (Rf.JoinedL.seek cs ds i (cs.drop i)).2 ∧ ¬ G w4.heap.size) ∧ Below w2.heap.size w2 wr)
  case atStart =>
    refine ⟨0, by omega, rfl, rfl, ?_, ⟨_, HD4.out.1.below ((Below.refl _ _).alloc (Nat.le_refl _) _), fun e => ?_⟩, HB4.out.alloc (by omega) _⟩
    · show RB _ _ (Rf.JoinedL.seek cs ds 0 cs).1
      rw [hR0.out]; exact blk_new w4 _
    · have := HD4.out.1.hi _ e; omega
  case round =>
    obtain ⟨i, hi, rfl, rfl, hRB, ⟨G, hS, hG⟩, hbr⟩ := hrel
    have hsz := hbr.size
    by_cases hlt : i < N
    · obtain ⟨c9, hc9⟩ : ∃ c9, Hid (cs[i]? = some c9) := ⟨cs[i]'(by rw [hcl.out]; exact hlt), List.getElem?_eq_getElem _⟩
      rw [Rf.JoinedL.R_start hc9.out] at hRB hS
      have hz9 := hc3.out c9 (List.mem_of_getElem? hc9.out)
      have hlt' : (i : Int) < N := by omega
      have HRB : Hid _ := hRB
      have HS : Hid (∃ G, SeIn w2.heap.size G wr x (Rf.JoinedL.R cs ds i c9 0).2 ∧ ¬ G w4.heap.size) := ⟨G, hS, hG⟩
      have HBR : Hid _ := hbr
      have hgl := HN1.out.lt
      have hgl2 := HN2.out.lt
      clear hRB hS hG hbr
      obtain ⟨wo, rfl⟩ : ∃ wo : World, wo = wr := ⟨_, rfl⟩
      go_wp2_with fail
      go_loopg [12, 13] (M + 1) (fun mm kv _ wi => ∃ k : Nat, k ≤ M ∧ mm = M + 1 - k ∧ kv = .int .i64 k ∧ RB wi w4.heap.size (Rf.JoinedL.R cs ds i c9 k).1 ∧ (∃ G, SeIn w2.heap.size G wi x (Rf.JoinedL.R cs ds i c9 k).2 ∧ ¬ G w4.heap.size) ∧ Below w2.heap.size w2 wi)
      case atStart => exact ⟨0, by omega, rfl, rfl, HRB.out, HS.out, HBR.out⟩
      case round =>
        obtain ⟨k, hk, rfl, rfl, hRB, ⟨G, hS, hG⟩, hbr⟩ := hrel
        clear HRB HS HBR hsz
        have hsz := hbr.size
        by_cases hkl : k < M
        · obtain ⟨d9, hd9⟩ : ∃ d9, Hid (ds[k]? = some d9) := ⟨ds[k]'(by rw [hdl.out]; exact hkl), List.getElem?_eq_getElem _⟩
          have hkl' : (k : Int) < M := by omega
          have hc1 := Seen.strAt (HN1.out.below hbr) i c9 hc9.out
          have hc2 := Seen.strAt (HN2.out.below hbr) k d9 hd9.out
          have hgw : g1 < wr.heap.size := by omega
          have hgw2 : g2 < wr.heap.size := by omega
          by_cases hcd : c9 = d9
          · subst hcd
            obtain ⟨hA1, hM1⟩ := Rf.JoinedL.more_hit H2c.out (by rw [hcl.out]; omega) hc9.out hd9.out
            rw [hA1, ans_x] at hRB
            have HMo : Hid _ := hM1
            have s0 := blk_cell hRB 0
            have s1 := blk_cell hRB 1
            have s2 := blk_cell hRB 2
            have s3 := blk_cell hRB 3
            have sf := blk_frozen hRB
            have sl := blk_lt hRB
            simp at s0 s1 s2 s3
            have hz10 : ¬ 9223372036854775807 < 4 + c9.size := by omega
            have HRB : Hid _ := hRB
            have HS : Hid _ := hS
            have HBR : Hid _ := hbr
            have HTr : Hid (TabB w2.heap.size wr) := TabB.on HT2.out hbr
            clear hRB hS hbr hA1 hM1
            go_wp2_with fail
            go_quiet (fail)
            go_wp2_with fail
            go_cut [13] from 48 to 73 (fun b wx => b = .bool true ∧ Below wr.heap.size wr wx)
            case first =>
              go_region_law (refine step_call2 rfl 19 (.tmp 63) (.tmp 68) _ rfl (.agg #[.int .i64 1, .string (xeB ++ c9), .int .i64 0, .int .i64 0]) (.string (xeB ++ c9)) rfl rfl (fun _ => callTold _ _) (ktold_any _ _) ?_; rintro r w5 ⟨rfl, hb5⟩; refine ⟨_, rfl, ?_⟩)
              all_goals
                go_wp2_with fail
                go_meet
                exact ⟨rfl, (((Below.refl _ _).drewN _).drew).trans hb5⟩
            case rest =>
              obtain ⟨rfl, hbx⟩ := hcut
              have hzx := hbx.size
              have HRx : Hid (RB wc w4.heap.size ⟨1, xeB ++ c9, 0, 0⟩) := (hbx.block _ sl).trans HRB.out
              have HBx : Hid (Below w2.heap.size w2 wc) := HBR.out.trans (hbx.mono hsz)
              have HSx : Hid _ := HS.out.below hbx
              have HTx : Hid (TabB w2.heap.size wc) := TabB.on HTr.out (hbx.mono hsz)
              have hzw : w2.heap.size ≤ wc.heap.size := by omega
              obtain ⟨⟨rk5, rt5, rc5, rp5⟩, hR5⟩ : ∃ R5, Hid ((Rf.JoinedL.R cs ds i c9 (k + 1)).1 = R5) := ⟨_, rfl⟩
              clear s0 s1 s2 s3 sf hc1 hc2 hbx
              go_wp2_with (go_at_call 20; refine (pmore_in w2.heap.size G wc x _ HSx.out hzw HTx.out).mono ?_; rintro r w5 ⟨hr5, hD5⟩; rw [HMo.out] at hr5 hD5; simp only [hR5.out] at hr5; subst hr5; simp only [repV]; have hRB5 := hD5.rb HRx.out; have s0 := blk_cell hRB5 0; have s1 := blk_cell hRB5 1; have s2 := blk_cell hRB5 2; have s3 := blk_cell hRB5 3; have sf := blk_frozen hRB5; have sl5 := blk_lt hRB5; simp at s0 s1 s2 s3)
              have hz5 := hD5.size
              have hB5 : Below w2.heap.size w2 w5 := HBx.out.trans (hD5.below hzw)
              have hG5 : ¬ Grow G wc w5 w4.heap.size := fun e => e.elim hG (fun e => by omega)
              go_roundg (M - k)
              case measure => omega
              case rel =>
                refine ⟨k + 1, by omega, by omega, by go_num, ?_, ⟨_, hD5.1.set hRB5 hG5 _ _ _ _, hG5⟩, hB5.trans ((kept4 _ _ _ _ _ _).below (by omega) (fun k hk e => by omega))⟩
                rw [hR5.out]; exact rb_set (R := ⟨1, xeB ++ c9, 0, 0⟩) hRB5 ⟨rk5, rt5, rc5, rp5⟩
          · rw [Rf.JoinedL.R_skip hd9.out hcd] at hRB hS
            have hcb : (c9.toList == d9.toList) = false := by rw [beq_toList]; exact decide_eq_false hcd
            have HRB : Hid (∀ nq, RB (wr.drewN nq) w4.heap.size (Rf.JoinedL.R cs ds i c9 (k + 1)).1) := fun nq => (((Below.refl wr.heap.size wr).drewN nq).block _ (blk_lt hRB)).trans hRB
            have HS : Hid (∀ nq, SeIn w2.heap.size G (wr.drewN nq) x (Rf.JoinedL.R cs ds i c9 (k + 1)).2) := fun nq => hS.drewN nq
            have HBR : Hid _ := hbr
            clear hRB hS hbr
            go_wp2_with fail
            go_quiet (fail)
            go_wp2_with fail
            go_roundg (M - k)
            case measure => omega
            case rel => exact ⟨k + 1, by omega, by omega, by go_num, HRB.out _, ⟨G, HS.out _, hG⟩, HBR.out.drewN _⟩
        · obtain rfl : k = M := by omega
          have hrow : Rf.JoinedL.R cs ds i c9 k = Rf.JoinedL.seek cs ds (i + 1) (cs.drop (i + 1)) := by
            have h9 := Rf.JoinedL.R_row (a := cs) (b := ds) (i := i) (c := c9)
            rw [hdl.out] at h9
            exact h9
          rw [hrow] at hRB hS
          have HRB : Hid _ := hRB
          have HS : Hid _ := hS
          have HBR : Hid _ := hbr
          clear hrow hRB hS hbr
          go_wp2_with fail
          go_roundg (N - i)
          case measure => omega
          case rel => exact ⟨i + 1, by omega, by omega, by go_num, HRB.out, ⟨G, HS.out, hG⟩, HBR.out⟩
    · obtain rfl : i = N := by omega
      have hd0 : cs.drop i = [] := List.drop_of_length_le (by rw [hcl.out]; exact Nat.le_refl _)
      have hoff : Rf.JoinedL.seek cs ds i (cs.drop i) = Rf.JoinedL.off cs ds := by rw [hd0]; rfl
      rw [hoff, off_x] at hRB
      have s0 := blk_cell hRB 0
      have s1 := blk_cell hRB 1
      have s2 := blk_cell hRB 2
      have s3 := blk_cell hRB 3
      have sf := blk_frozen hRB
      have sl := blk_lt hRB
      simp at s0 s1 s2 s3
      have HBR : Hid _ := hbr
      clear hRB hS hbr hoff hd0
      go_wp2_with (go_at_call 18; refine (konly_any 2 _).mono ?_; rintro r w5 ⟨rfl, hb5⟩)
      go_ret
      exact ⟨rfl, HB2.out.trans ((HBR.out.trans (hb5.mono hsz)).mono HB2.out.size)⟩
end JoinedW
end Go.Proofs.YtpdikdnffehmkaaGreatDoor
/- The given card of Joined, out of its walk. -/
namespace Go.Proofs.YtpdikdnffehmkaaGreatDoor
open Go.ChangeShapes Go.WideShapes Go.ChangeAt Go.RowKit Go.Deep
/-- What the walk has to give. -/
def JoinedWalk : Prop := ∀ (W : World) (v0 : Value) (l0 : List Int) (v1 : Value) (l1 : List Int), IntsAt W v0 l0 → (∀ x ∈ l0, -9223372036854775808 ≤ x ∧ x ≤ 9223372036854775807) → l0.length * 8 ≤ 140737488355328 → IntsAt W v1 l1 → (∀ x ∈ l1, -9223372036854775808 ≤ x ∧ x ≤ 9223372036854775807) → l1.length * 8 ≤ 140737488355328 → Lib.TabIs Tryz.prog W "internal/strconv.uint64pow10" .u64 Lib.pow10Tab →
    Calls Tryz.prog 5 #[v0, v1] W fun e W' => e = .returned (.bool true) ∧ Below W.heap.size W W'
namespace JoinedC
theorem table {W : World} (h : laidMetH Tryz.prog Rows.joinedRow.laid W) : Lib.TabIs Tryz.prog W "internal/strconv.uint64pow10" .u64 Lib.pow10Tab := by
  have h' : laidMet Tryz.prog Rows.joinedRow.laid W := by
    rw [MakeChecks.laidMetH_plain _ _ _ (by kernel_rfl)] at h
    exact h
  exact Lib.tabIs_of_head Tryz.gTab Tryz.gTabType Tryz.underlying239 Tryz.underlying198 Tryz.cellsU64 Tryz.cellsTab (laidMet.tail (laidMet.tail h'))
section
variable {H : Type} {enc : TypeId × Value → H}
set_option maxRecDepth 100000 in
/-- What the walk gives, for every argument and every world that holds the table. -/
theorem contract (hw : JoinedWalk) (W : World) (base : Nat) (args : Array Value) (ds gs : List (DataW H)) (before : List MemPlace)
    (hval : ∀ (j : Nat) t v, Tryz.f5.params[j]? = some t → args[j]? = some v → Value.okWide Tryz.prog W .any base t v)
    (hW : DataW.Whole enc Tryz.prog Tryz.f5.params.toList Rows.joinedSpec.vars false W args.toList ds gs before)
    (hsz : (DataW.weightsEach Tryz.prog (Tryz.f5.params.toList ++ (OpenSpec.ofChange Rows.joinedSpec).bare.plain.varTypes Tryz.prog) (ds ++ gs)).all (· ≤ reachBytes) = true)
    (hL : laidMetH Tryz.prog Rows.joinedRow.laid W) :
    Calls Tryz.prog 5 args W fun e W' => ∃ v, e = .returned v ∧ Rows.joinedSpec.post enc Tryz.prog Tryz.f5 false true false false W args v W' := by
  have hW' := hW
  obtain ⟨p, q, hA0, hV, rfl, hfz, hnd⟩ := hW
  have hA : DataW.TrodAll enc Tryz.prog W 0 (fun _ => true) true Tryz.f5.params.toList args.toList ds p := hA0
  rw [Tryz.params5] at hA hval hsz
  obtain ⟨v0, vs0, d0, ds0, p0, q0, hargs, rfl, rfl, h0, r0⟩ := trodAll_cons hA
  obtain ⟨v1, vs1, d1, ds1, p1, q1, rfl, rfl, rfl, h1, r1⟩ := trodAll_cons r0
  obtain ⟨rfl, rfl, rfl⟩ := trodAll_nil r1
  obtain rfl : args = #[v0, v1] := by cases args; simp_all
  obtain ⟨rfl, rfl⟩ := trodVars_none hV
  clear hA0
  obtain ⟨l0, hS0, hok0, hn0⟩ := open_ints h0 (okWide_slice Tryz.underlying24 (hval 0 24 v0 rfl rfl)) (fun elems spare e => by
    subst e
    have := sized_slice hsz (j := 0) (t := 24) (e := 3) rfl rfl Tryz.underlying24
    rw [Tryz.bytesInt] at this
    exact this)
  obtain ⟨l1, hS1, hok1, hn1⟩ := open_ints h1 (okWide_slice Tryz.underlying24 (hval 1 24 v1 rfl rfl)) (fun elems spare e => by
    subst e
    have := sized_slice hsz (j := 1) (t := 24) (e := 3) rfl rfl Tryz.underlying24
    rw [Tryz.bytesInt] at this
    exact this)
  refine (hw W v0 l0 v1 l1 hS0 hok0 hn0 hS1 hok1 hn1 (table hL)).mono fun e W' ⟨he, hB⟩ => ?_
  subst he
  have hlt : ∀ x ∈ p0 ++ (p1 ++ []) ++ [], x.block < W.heap.size := fun x hx => hW'.lt x hx
  refine ⟨_, rfl, [d0, d1], [], _, [], p0 ++ (p1 ++ []), [], hW', ?_, ?_, ?_, hB.frame _, fun h => by cases h⟩
  · exact trodAll_cons_mk (shut_bool Tryz.underlying4 true) trodAll_mk0
  · exact (trodAll_cons_mk (again (of_decide_eq_true (by kernel_rfl)) h0 hB (fun x hx => hlt x (by simp [hx]))) (trodAll_cons_mk (again (of_decide_eq_true (by kernel_rfl)) h1 hB (fun x hx => hlt x (by simp [hx]))) trodAll_mk0))
  · rfl
end
theorem laid_met (os : Os) : laidMet Tryz.prog Rows.joinedRow.laid ((World.doorLaid Tryz.prog 400 os).forCall (fun _ _ => 0) ⟨#[], #[.slice none 0 0, .slice none 0 0], []⟩).memory :=
  laidMet_of_run' 8 (by kernel_rfl) (by kernel_rfl)
theorem reads (os : Os) {H : Type} (enc : TypeId × Value → H) : ∃ places, DataW.whole enc Tryz.prog ((World.doorLaid Tryz.prog 400 os).forCall (fun _ _ => 0) ⟨#[], #[.slice none 0 0, .slice none 0 0], []⟩).memory Tryz.f5.params.toList Rows.joinedSpec.vars false #[Value.slice none 0 0, .slice none 0 0].toList 8 = some ([.nil, .nil], [], places) :=
  ⟨[], by kernel_rfl⟩
set_option maxRecDepth 100000 in
theorem lifted (hw : JoinedWalk) (os : Os) (started : os.Started) (H : Type) (enc : TypeId × Value → H) (F : Stop.Interp) :
    ReturnsInHanded {} Tryz.checked os 5 .any ((OpenSpec.ofChange Rows.joinedSpec).preRow enc Tryz.prog Tryz.f5 Rows.joinedRow.domain false Rows.joinedRow.laid) (((OpenSpec.ofChange Rows.joinedSpec).at F).post enc Tryz.prog Tryz.f5 false true false false) := by
  obtain ⟨places, hx⟩ := reads os enc
  refine returnsInHanded_of_row (C := Tryz.checked) (s := OpenSpec.ofChange Rows.joinedSpec) Tryz.own started (by kernel_rfl) Tryz.func5
    (witness_row_atRef (enc := enc) (C := Tryz.checked) false (World.doorLaid Tryz.prog 400 os) #[.slice none 0 0, .slice none 0 0] rfl (by kernel_rfl) (by kernel_rfl) (by kernel_rfl)
      (OpenSpec.preRow_of_cond 8 hx (by kernel_rfl) (fun k hk => by cases hk) (by kernel_rfl) (laid_met os))) ?_
  intro W base args ds gs before hval hW _ _ hsz hL _ _
  exact contract hw W base args ds gs before hval hW hsz hL
theorem said (hw : JoinedWalk) : Rows.JoinedSaid :=
  OpenClaim.holds_of_cond 5 Tryz.f5 rfl rfl rfl rfl rfl rfl rfl ⟨rfl, rfl, rfl, rfl, rfl⟩ rfl rfl rfl rfl rfl (by kernel_rfl) Tryz.func5 (by kernel_rfl)
    (of_decide_eq_true (by kernel_rfl)) (by unfold Func.isWrapper; first | (rw [if_pos (by decide +kernel)]; kernel_rfl) | (rw [if_neg (by decide +kernel)]; exact ⟨rfl, rfl⟩))
    (fun os started H enc _ F => by rw [OpenClaim.pre_eq_preRow]; exact lifted hw os started H enc F)
theorem plain (f : FuncId) (fn : Func) (hf : Tryz.pinned.checked.prog.funcNamed "prompt/promptkeep.Joined" = some f) (hfn : Tryz.pinned.checked.prog.funcs[f]? = some fn) :
    true = Tryz.pinned.checked.prog.looks [] ∧ ∀ (j : Nat) t, fn.params[j]? = some t → Tryz.pinned.checked.prog.wantsStandIn t = false := by
  obtain rfl : f = 5 := Option.some.inj ((show Tryz.prog.funcNamed "prompt/promptkeep.Joined" = some 5 by kernel_rfl).symm.trans hf) |>.symm
  obtain rfl : fn = Tryz.f5 := (Option.some.inj (Tryz.func5.symm.trans hfn)).symm
  refine ⟨by kernel_rfl, fun j t ht => ?_⟩
  rw [Tryz.params5] at ht
  have hm := Array.mem_of_getElem? ht
  simp at hm
  subst hm
  exact (show Tryz.prog.wantsStandIn 24 = false by kernel_rfl)
theorem card_of (hw : JoinedWalk) : Rows.JoinedCardSaid :=
  Claim7.holds_tied_plain_at .later [] _ _ _ _ (said hw) (fun _ h => by cases h) (by kernel_rfl) (fun _ h => by cases h) joined_row_tie rfl ⟨rfl, rfl⟩ (by kernel_rfl) rfl plain (by kernel_rfl)
end JoinedC
end Go.Proofs.YtpdikdnffehmkaaGreatDoor
