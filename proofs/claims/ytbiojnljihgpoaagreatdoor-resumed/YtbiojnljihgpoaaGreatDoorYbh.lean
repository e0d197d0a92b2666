
import Derived.Test.YtbiojnljihgpoaaGreatDoorYbg
import Derived.Test.YtbiojnljihgpoaaGreatDoorYbf
import Derived.Test.YtbiojnljihgpoaaGreatDoorYan
import Derived.Test.YtbiojnljihgpoaaGreatDoorYax
namespace Rf
theorem claL_no {n : Nat} {a : List Cl} {r : Rdr} (h : oneCl (readS (wordL 400 r).1) = none) : claL (n + 1) a r = ([], refuse) := by rw [claL, h]
theorem claL_yes {n : Nat} {a : List Cl} {r : Rdr} {c : Cl} (h : oneCl (readS (wordL 400 r).1) = some c) : claL (n + 1) a r = claL n (a ++ [c]) (wordL 400 r).2 := by rw [claL, h]
end Rf
namespace Go.Proofs.YtbiojnljihgpoaaGreatDoor
open Go.RowKit
set_option maxHeartbeats 1000000 in
set_option maxRecDepth 100000 in
theorem ploadCl_any (w : World) (b : Nat) (r : Rf.Rdr) (h : RdB w b r) (ho : Rf.RdrOk r) :
  Calls Tryz.prog 39 #[.pointer (some ⟨b, 0, none⟩)] w fun x w' => ∃ v acc, x = .returned v ∧ PClsAt (fun k => w.heap.size ≤ k ∧ k < w'.heap.size) w' v acc ∧ (Rf.claP r).1 = acc.map (·.2) ∧ RdB w' b (Rf.claP r).2 ∧ Kept (fun k => k = b) w w' := by
 have hbl := blk_lt h
 have H : Hid (RdB w b r) := h
 have HO : Hid (Rf.RdrOk r) := ho
 have hn0 := Rf.numL_le 30 r
 have hO0 := Rf.numL_ok 30 r
 have hPE : Rf.claP r = Rf.claL (Rf.numL 30 r).1 [] (Rf.numL 30 r).2 := rfl
 obtain ⟨n, hn⟩ : ∃ n, Hid (n = (Rf.numL 30 r).1) := ⟨_, rfl⟩
 obtain ⟨Q, hQ⟩ : ∃ Q, Hid (Q = (Rf.numL 30 r).2) := ⟨_, rfl⟩
 rw [← hn.out] at hn0
 rw [← hQ.out] at hO0
 rw [← hn.out, ← hQ.out] at hPE
 obtain ⟨P, hP⟩ : ∃ P, Hid (P = Rf.claP r) := ⟨_, rfl⟩
 rw [← hP.out] at hPE ⊢
 have HPE : Hid _ := hPE
 have HOQ : Hid (Rf.RdrOk Q) := hO0
 clear h ho hO0 hPE
 go_enter Tryz.func39, Tryz.ntmps39
 go_wp2_with (go_at_call 40; refine (pnumL_any _ b r 30 H.out HO.out (by omega)).mono ?_; rintro x w0 ⟨hx0, hR0, hk0⟩; rw [← hn.out] at hx0; subst hx0; rw [← hQ.out] at hR0; have HR0 : Hid (RdB w0 b Q) := hR0; have HK0 : Hid _ := hk0; clear hR0 hk0)
 go_loopg [4, 5] (n + 1) (fun M cv iv wr => ∃ (k : Nat) (acc : List (PClV × Rf.Cl)) (R : Rf.Rdr), k ≤ n ∧ M = n + 1 - k ∧ iv = .int .i64 k ∧ acc.length = k ∧ PClsAt (fun k => w.heap.size ≤ k ∧ k < wr.heap.size) wr cv acc ∧ RdB wr b R ∧ Hid (Rf.RdrOk R) ∧ Kept (fun k => k = b) w wr ∧ Hid (Rf.claL (n - k) (acc.map (·.2)) R = P))
 case atStart => exact ⟨0, [], Q, by omega, by omega, rfl, rfl, ⟨RowIs.nil _ _ _ _ _, (fun k e => by cases e), (fun q hq => by cases hq), fun _ => rfl⟩, HR0.out, HOQ, HK0.out, HPE.out.symm⟩
 case round =>
  obtain ⟨k, acc, R, hk, rfl, rfl, hkl, hA, hRk, HOk, hkp, hE⟩ := hrel
  subst hkl
  have hsz := hkp.size
  obtain ⟨a4, c4, hv4⟩ := row_slice hA.row
  rw [List.length_map] at hv4
  subst hv4
  have HA : Hid _ := hA
  have HRk : Hid (RdB wr b R) := hRk
  clear hA hRk
  by_cases hlt : acc.length < n
  ·have hlt' : (acc.length : Int) < n := by omega
   have hW4 := Rf.wordL_size 400 R
   have hOW : Rf.RdrOk (Rf.wordL 400 R).2 := Rf.wordL_ok
   have hNoG := @Rf.claL_no (n - (acc.length + 1)) (acc.map (·.2)) R
   have hYesG := @Rf.claL_yes (n - (acc.length + 1)) (acc.map (·.2)) R
   rw [show n - (acc.length + 1) + 1 = n - acc.length by omega, hE.out] at hNoG hYesG
   obtain ⟨W, hW⟩ : ∃ W, Hid (W = (Rf.wordL 400 R).1) := ⟨_, rfl⟩
   obtain ⟨R2, hR2⟩ : ∃ R2, Hid (R2 = (Rf.wordL 400 R).2) := ⟨_, rfl⟩
   rw [← hW.out] at hW4 hNoG hYesG
   rw [← hR2.out] at hOW hYesG
   have HOW : Hid (Rf.RdrOk R2) := hOW
   clear hOW
   cases hr : Rf.readS W with
   | error y =>
    obtain ⟨e, q⟩ := y
    have HRd : Hid _ := hr
    have hNo : Hid (P = ([], Rf.refuse)) := hNoG (by rw [hr]; rfl)
    clear hNoG hYesG hr
    go_wp2_with (first
     | (go_at_call 57; refine (prefuse_any _ b R2 HR2b.out).mono ?_; rintro x w5 ⟨rfl, hR5, hk5⟩; have HR5 : Hid (RdB w5 b Rf.refuse) := hR5; have HK5 : Hid (Kept (fun k => k = b) w w5) := HK2.out.trans hk5 (fun _ _ e => e); clear hk5 hR5)
     | (go_at_call 45; refine (pclauses_any W _ (by unfold maxLen; omega)).mono ?_; rintro x w2 ⟨hb2, hP⟩; rw [HRd.out] at hP; obtain ⟨rfl, hne⟩ := hP; have he : (e != 0) = true := (by rw [bne_iff_ne]; exact hne); have HR2b : Hid (RdB w2 b R2) := RdB.below HR1.out hb2; have HK2 : Hid (Kept (fun k => k = b) w w2) := HK1.out.trans (Kept.of_below hb2 (fun k => k = b)) (fun _ _ e => e); clear hb2 hne)
     | (go_at_call 56; refine (pwordL_any _ b R 400 HRk.out HOk.out (by omega)).mono ?_; rintro x w1 ⟨hx1, hR1, hk1⟩; rw [← hW.out] at hx1; subst hx1; rw [← hR2.out] at hR1; have HR1 : Hid (RdB w1 b R2) := hR1; have HK1 : Hid (Kept (fun k => k = b) w w1) := hkp.trans hk1 (fun _ _ e => e); have HA1 : Hid (PClsAt (fun k => w.heap.size ≤ k ∧ k < w1.heap.size) w1 (.slice a4 acc.length c4) acc) := HA.out.weak hk1 (fun k _ hF e => by omega) (fun k hF => ⟨hF.1, by have := hk1.size; omega⟩); have hz1 := HK1.out.size; clear hk1 hR1))
    go_ret
    rw [hNo.out]
    exact ⟨_, [], rfl, ⟨RowIs.nil _ _ _ _ _, (fun k e => by cases e), (fun q hq => by cases hq), fun _ => rfl⟩, rfl, HR5.out, HK5.out⟩
   | ok new =>
    by_cases h1 : new.length = 1
    ·obtain ⟨c, rfl⟩ := List.length_eq_one_iff.1 h1
     have HRd : Hid _ := hr
     have hYes : Hid (P = Rf.claL (n - (acc.length + 1)) (acc.map (·.2) ++ [c]) R2) := hYesG (by rw [hr]; rfl)
     clear hNoG hYesG hr h1
     go_wp2_with (first
      | (go_at_call 45; refine (pclauses_any W _ (by unfold maxLen; omega)).mono ?_; rintro x w2 ⟨hb2, hP⟩; rw [HRd.out] at hP; obtain ⟨v1, acc1, rfl, hA2, hnew⟩ := hP; obtain ⟨a5, c5, hv5⟩ := row_slice hA2.row; rw [List.length_map] at hv5; subst hv5; have Hnew : Hid _ := hnew; have hln0 := congrArg List.length hnew; rw [List.length_map] at hln0; have hln := hln0.symm; clear hln0; have hl1 : acc1.length = 1 := hln; obtain ⟨g5, ha5⟩ : ∃ g5, a5 = some ⟨g5, 0, none⟩ := (by rcases hA2.row.shape with ⟨e, e2⟩ | ⟨g5, cap, e, _⟩; (rw [List.map_eq_nil_iff] at e2; rw [e2] at hl1; cases hl1); (injection e with e1 _ _; exact ⟨g5, e1⟩)); subst ha5; have hl1i : ((acc1.length : Int) != 1) = false := (by rw [hl1]; rfl); have Hl1 : Hid _ := hl1; clear hl1; have HA2 : Hid _ := hA2; have HR2b : Hid (RdB w2 b R2) := RdB.below HR1.out hb2; have HK2 : Hid (Kept (fun k => k = b) w w2) := HK1.out.trans (Kept.of_below hb2 (fun k => k = b)) (fun _ _ e => e); have HB2 : Hid _ := hb2; have hz2 := hb2.size; clear hb2 hA2 hnew hln)
      | (go_at_call 56; refine (pwordL_any _ b R 400 HRk.out HOk.out (by omega)).mono ?_; rintro x w1 ⟨hx1, hR1, hk1⟩; rw [← hW.out] at hx1; subst hx1; rw [← hR2.out] at hR1; have HR1 : Hid (RdB w1 b R2) := hR1; have HK1 : Hid (Kept (fun k => k = b) w w1) := hkp.trans hk1 (fun _ _ e => e); have HA1 : Hid (PClsAt (fun k => w.heap.size ≤ k ∧ k < w1.heap.size) w1 (.slice a4 acc.length c4) acc) := HA.out.weak hk1 (fun k _ hF e => by omega) (fun k hF => ⟨hF.1, by have := hk1.size; omega⟩); have hz1 := HK1.out.size; clear hk1 hR1)
      | (at_builtin; refine wpList_apps Tryz.elemPCl pclCells pclCells_len pclCells_one _ rfl (.tmp 34) (.tmp 35) rfl 0 (.slice a4 acc.length c4) (acc.map (·.1)) rfl (HA1.out.row.below HB2.out) ⟨g5, 0, none⟩ c5 (acc1.map (·.1)) (by rw [List.length_map, Hl1.out]; omega) (by rw [List.length_map]; rfl) (HA2.out.row.own.cells rfl) (by rw [List.length_map, List.length_map, Hl1.out]; omega) (Nat.zero_le _) ?_; intro gA capA w3 hrow3 hgr3 hnb3; rw [List.length_map, List.length_map] at hrow3; have HJ : Hid _ := pcls_join (x := b) HA1.out HA2.out ((Kept.of_below HB2.out _).grown hgr3 (fun k e => .inr (.inr e))) ((Kept.refl _ w2).grown hgr3 (fun k e => .inr (.inr e))) HB2.out.size (fun e => by omega) (by omega) hrow3 (fun k e => by injection e with e; subst e; rcases hnb3 with e | ⟨j, e, hj⟩; exact .inl e.symm; injection e with e; subst e; exact .inr hj) (fun e => by have h9 := Hl1.out; rw [(List.append_eq_nil_iff.1 e).2] at h9; cases h9); have HK3 : Hid (Kept (fun k => k = b) w w3) := HK2.out.grown hgr3 (fun k e => .inl (HA1.out.rowF k e).1); have HR3 : Hid (RdB w3 b R2) := (hgr3.block b (by omega) (fun e => by have := (HA1.out.rowF b e.symm).1; omega)).trans HR2b.out; have hz3 := HK3.out.size; have hz32 := hgr3.size; clear hgr3 hnb3 hrow3))
     go_roundg (n - acc.length)
     case measure => omega
     case rel =>
      refine ⟨acc.length + 1, acc ++ acc1, R2, by omega, by omega, by go_num, by rw [List.length_append, Hl1.out], HJ.out.mono (fun k e => by rcases e with e | e <;> omega), HR3.out, HOW, HK3.out, ?_⟩
      unfold Hid
      rw [List.map_append, ← Hnew.out]
      exact hYes.out.symm
    ·have HRd : Hid _ := hr
     have hNo : Hid (P = ([], Rf.refuse)) := hNoG (by
      rw [hr]
      match new, h1 with
      | [], _ => rfl
      | [x], h1 => exact absurd rfl h1
      | _ :: _ :: _, _ => rfl)
     clear hNoG hYesG hr
     go_wp2_with (first
      | (go_at_call 57; refine (prefuse_any _ b R2 HR2b.out).mono ?_; rintro x w5 ⟨rfl, hR5, hk5⟩; have HR5 : Hid (RdB w5 b Rf.refuse) := hR5; have HK5 : Hid (Kept (fun k => k = b) w w5) := HK2.out.trans hk5 (fun _ _ e => e); clear hk5 hR5)
      | (go_at_call 45; refine (pclauses_any W _ (by unfold maxLen; omega)).mono ?_; rintro x w2 ⟨hb2, hP⟩; rw [HRd.out] at hP; obtain ⟨v1, acc1, rfl, hA2, hnew⟩ := hP; obtain ⟨a5, c5, hv5⟩ := row_slice hA2.row; rw [List.length_map] at hv5; subst hv5; have HA2 : Hid _ := hA2; have Hnew : Hid _ := hnew; have hln0 := congrArg List.length hnew; rw [List.length_map] at hln0; have hln := hln0.symm; clear hln0; have hl1i : ((acc1.length : Int) != 1) = true := (by rw [hln, bne_iff_ne]; omega); have HR2b : Hid (RdB w2 b R2) := RdB.below HR1.out hb2; have HK2 : Hid (Kept (fun k => k = b) w w2) := HK1.out.trans (Kept.of_below hb2 (fun k => k = b)) (fun _ _ e => e); have HB2 : Hid _ := hb2; have hz2 := hb2.size; clear hb2 hA2 hnew hln)
      | (go_at_call 56; refine (pwordL_any _ b R 400 HRk.out HOk.out (by omega)).mono ?_; rintro x w1 ⟨hx1, hR1, hk1⟩; rw [← hW.out] at hx1; subst hx1; rw [← hR2.out] at hR1; have HR1 : Hid (RdB w1 b R2) := hR1; have HK1 : Hid (Kept (fun k => k = b) w w1) := hkp.trans hk1 (fun _ _ e => e); have HA1 : Hid (PClsAt (fun k => w.heap.size ≤ k ∧ k < w1.heap.size) w1 (.slice a4 acc.length c4) acc) := HA.out.weak hk1 (fun k _ hF e => by omega) (fun k hF => ⟨hF.1, by have := hk1.size; omega⟩); have hz1 := HK1.out.size; clear hk1 hR1))
     go_ret
     rw [hNo.out]
     exact ⟨_, [], rfl, ⟨RowIs.nil _ _ _ _ _, (fun k e => by cases e), (fun q hq => by cases hq), fun _ => rfl⟩, rfl, HR5.out, HK5.out⟩
  ·have hS : Hid (P = (acc.map (·.2), R)) := by unfold Hid; rw [← hE.out, show n - acc.length = 0 by omega]; rfl
   have hlt' : ¬ ((acc.length : Int) < n) := by omega
   go_wp2_with fail
   go_ret
   rw [hS.out]
   exact ⟨_, rfl, acc, HA.out, rfl, HRk.out, hkp⟩
end Go.Proofs.YtbiojnljihgpoaaGreatDoor
namespace Rf
theorem partB_1 {p : Part} (h : (p.kind == 1) = true) : partB p = numB 5 ++ numB p.value.toNat := by unfold partB; rw [if_pos (eq_of_beq h)]
theorem partB_2 {p : Part} (h1 : (p.kind == 1) = false) (h : (p.kind == 2) = true) : partB p = numB 6 ++ numB (p.value + 999999999).toNat := by unfold partB; rw [if_neg (beq_eq_false_iff_ne.1 h1), if_pos (eq_of_beq h)]
theorem partB_3 {p : Part} (h1 : (p.kind == 1) = false) (h2 : (p.kind == 2) = false) : partB p = numB p.args.toNat ++ wordB p.name := by unfold partB; rw [if_neg (beq_eq_false_iff_ne.1 h1), if_neg (beq_eq_false_iff_ne.1 h2)]
end Rf
namespace Go.Proofs.YtbiojnljihgpoaaGreatDoor
open Go.RowKit
set_option maxHeartbeats 2000000 in
set_option maxRecDepth 100000 in
theorem psaveTerm_any (w0 w : World) (b : Nat) (l : List UInt8) (a : Option Addr) (n c : Nat) (t : List Rf.Part) (f : Int) (hW : WrAt w0.heap.size w b l) (hb : Below w0.heap.size w0 w) (hS : Seen w0 101 partCells (.slice a n c) t) (ht : Rf.TmG f t) (hf : f ≤ 1000000) (hl : l.length ≤ 10000000000) :
  Calls Tryz.prog 55 #[.pointer (some ⟨b, 0, none⟩), .slice a n c] w fun r w' => r = .returned (.tuple #[]) ∧ WrAt w0.heap.size w' b (l ++ Rf.termB t) ∧ Wk w0.heap.size w w' := by
 have hn : n = t.length := hS.len
 subst hn
 have HS : Hid _ := hS
 have HB : Hid _ := hb
 have HW : Hid _ := hW
 have HT : Hid _ := ht
 have ht4 := ht.1
 clear hS hb hW ht
 go_enter Tryz.func55, Tryz.ntmps55
 go_wp2_with fail
 go_loopw [8] (fun iv wr => ∃ k : Nat, k ≤ t.length ∧ iv = .int .i64 k ∧ WrAt w0.heap.size wr b (l ++ Rf.termB (t.take k)) ∧ Wk w0.heap.size w wr) (fun iv _ => t.length - (intOf iv).toNat)
 case atStart => exact ⟨0, by omega, rfl, by show WrAt _ _ _ (l ++ []); rw [List.append_nil]; exact HW.out, Wk.refl _ _⟩
 case round =>
  obtain ⟨k, hk, rfl, hWr, hkr⟩ := hrel
  by_cases hlt : k < t.length
  ·obtain ⟨gp, off, rfl⟩ := HS.out.pos (by omega)
   have hgl := HS.out.lt
   have hbr : Below w0.heap.size w0 wr := HB.out.trans (hkr.below HB.out.size)
   have hsz := hbr.size
   obtain ⟨e0, e1, e2, e3⟩ := Seen.parts (HS.out.below hbr) k t[k] (by simp [hlt])
   have hpG := HT.out.2 t[k] (List.getElem_mem hlt)
   have htk : Hid (l ++ Rf.termB (t.take (k + 1)) = l ++ Rf.termB (t.take k) ++ Rf.partB t[k]) := by
    unfold Hid Rf.termB
    rw [Rf.flat_snoc _ _ _ hlt, List.append_assoc]
   have hl2 : (l ++ Rf.termB (t.take k)).length ≤ 10000020000 := by
    have h9 := Rf.flat_take_len Rf.partB 32 t (fun p hp => Rf.partB_len (HT.out.2 p hp).2.2.2) k
    unfold Rf.termB
    rw [List.length_append]
    omega
   obtain ⟨l2, hl2e⟩ : ∃ l2, Hid (l2 = l ++ Rf.termB (t.take k)) := ⟨_, rfl⟩
   rw [← hl2e.out] at hWr htk hl2
   generalize t[k] = p at *
   have hgl' : gp < wr.heap.size := by omega
   have hlt' : (k : Int) < t.length := by omega
   obtain ⟨pk, pn, pv, pa⟩ := p
   simp only at e0 e1 e2 e3
   obtain ⟨⟨g1, g2⟩, g3, g4, g5⟩ := hpG
   simp only at g1 g2 g3 g4 g5
   have HWr : Hid _ := hWr
   have n5 := Rf.numB_len 5
   have n6 := Rf.numB_len 6
   have na := Rf.numB_len pa.toNat
   clear hWr hbr
   cases k1 : (pk == 1)
   ·cases k2 : (pk == 2)
    ·obtain ⟨pa, rfl⟩ := Int.eq_ofNat_of_zero_le g1
     have hpB : Hid (Rf.partB ⟨pk, pn, pv, (pa : Int)⟩ = Rf.numB pa ++ Rf.wordB pn) := Rf.partB_3 k1 k2
     rw [hpB.out] at htk
     simp only [Int.toNat_natCast] at na
     go_wp2_with (first
      | (go_at_call 22; refine (wword_any _ _ b _ pn hW1 (by omega) (by rw [List.length_append]; omega)).mono ?_; rintro r w2 ⟨rfl, hW2, hk2⟩)
      | (go_at_call 21; refine (wnumber_any _ _ b l2 pa (HWr.out.below (by repeat(first|exact bel0 _ _|refine bel1 ?_ (by simp<;>omega) _|refine bel2 ?_|refine bel3 ?_ _|refine bel4 ?_ (by simp<;>omega) _))) (by omega) (by omega)).mono ?_; rintro r w1 ⟨rfl, hW1, hk1⟩; have hP := hk1.blk (blk_new _ _) (by decide) (by decide); have p0 := blk_cell hP 0; have p1 := blk_cell hP 1; have p2 := blk_cell hP 2; have p3 := blk_cell hP 3; have pf := blk_frozen hP; have pl := blk_lt hP; simp at p0 p1 p2 p3; clear hP))
     go_roundw
     case rel =>
      refine ⟨k + 1, by omega, by go_num, ?_, ((hkr.trans (Wk.of (by repeat(first|exact bel0 _ _|refine bel1 ?_ (by simp<;>omega) _|refine bel2 ?_|refine bel3 ?_ _|refine bel4 ?_ (by simp<;>omega) _)))).trans hk1).trans hk2⟩
      rw [htk.out, ← List.append_assoc]; exact hW2
     case measure => simp [intOf]; omega
    ·obtain ⟨v0, v1⟩ := g4 (eq_of_beq k2)
     obtain ⟨m, hm⟩ : ∃ m : Nat, pv + 999999999 = (m : Int) := ⟨(pv + 999999999).toNat, by omega⟩
     have hpB : Hid (Rf.partB ⟨pk, pn, pv, pa⟩ = Rf.numB 6 ++ Rf.numB m) := by
      have := Rf.partB_2 (p := ⟨pk, pn, pv, pa⟩) k1 k2
      simp only [hm, Int.toNat_natCast] at this
      exact this
     rw [hpB.out] at htk
     have hm0 : (m : Int) < 2000000000 := by omega
     clear g3 g4
     go_wp2_with (first
      | (have h9 := hW1; go_at_call 21; refine (wnumber_any _ _ b _ m hW1 (by omega) (by rw [List.length_append]; omega)).mono ?_; rintro r w2 ⟨rfl, hW2, hk2⟩)
      | (go_at_call 21; refine (wnumber_any _ _ b l2 6 (HWr.out.below (by repeat(first|exact bel0 _ _|refine bel1 ?_ (by simp<;>omega) _|refine bel2 ?_|refine bel3 ?_ _|refine bel4 ?_ (by simp<;>omega) _))) (by omega) (by omega)).mono ?_; rintro r w1 ⟨rfl, hW1, hk1⟩; have hP := hk1.blk (blk_new _ _) (by decide) (by decide); have p0 := blk_cell hP 0; have p1 := blk_cell hP 1; have p2 := blk_cell hP 2; have p3 := blk_cell hP 3; have pf := blk_frozen hP; have pl := blk_lt hP; simp at p0 p1 p2 p3; clear hP))
     go_roundw
     case rel =>
      refine ⟨k + 1, by omega, by go_num, ?_, ((hkr.trans (Wk.of (by repeat(first|exact bel0 _ _|refine bel1 ?_ (by simp<;>omega) _|refine bel2 ?_|refine bel3 ?_ _|refine bel4 ?_ (by simp<;>omega) _)))).trans hk1).trans hk2⟩
      rw [htk.out, ← List.append_assoc]; exact hW2
     case measure => simp [intOf]; omega
   ·obtain ⟨v0, v1⟩ := g3 (eq_of_beq k1)
    obtain ⟨m, rfl⟩ := Int.eq_ofNat_of_zero_le v0
    have hpB : Hid (Rf.partB ⟨pk, pn, (m : Int), pa⟩ = Rf.numB 5 ++ Rf.numB m) := Rf.partB_1 (p := ⟨pk, pn, (m : Int), pa⟩) k1
    rw [hpB.out] at htk
    have hmf : m < 1000000 := by omega
    clear v0 v1 g3 g4
    go_wp2_with (first
     | (have h9 := hW1; go_at_call 21; refine (wnumber_any _ _ b _ m hW1 (by omega) (by rw [List.length_append]; omega)).mono ?_; rintro r w2 ⟨rfl, hW2, hk2⟩)
     | (go_at_call 21; refine (wnumber_any _ _ b l2 5 (HWr.out.below (by repeat(first|exact bel0 _ _|refine bel1 ?_ (by simp<;>omega) _|refine bel2 ?_|refine bel3 ?_ _|refine bel4 ?_ (by simp<;>omega) _))) (by omega) (by omega)).mono ?_; rintro r w1 ⟨rfl, hW1, hk1⟩; have hP := hk1.blk (blk_new _ _) (by decide) (by decide); have p0 := blk_cell hP 0; have p1 := blk_cell hP 1; have p2 := blk_cell hP 2; have p3 := blk_cell hP 3; have pf := blk_frozen hP; have pl := blk_lt hP; simp at p0 p1 p2 p3; clear hP))
    go_roundw
    case rel =>
     refine ⟨k + 1, by omega, by go_num, ?_, ((hkr.trans (Wk.of (by repeat(first|exact bel0 _ _|refine bel1 ?_ (by simp<;>omega) _|refine bel2 ?_|refine bel3 ?_ _|refine bel4 ?_ (by simp<;>omega) _)))).trans hk1).trans hk2⟩
     rw [htk.out, ← List.append_assoc]; exact hW2
    case measure => simp [intOf]; omega
  ·obtain rfl : k = t.length := by omega
   rw [List.take_length] at hWr
   go_wp2_with fail
   go_end0
   exact ⟨rfl, hWr, hkr⟩
end Go.Proofs.YtbiojnljihgpoaaGreatDoor
namespace Rf
theorem goalB_4 {g : List Part} (h : ((topP g).kind == 4) = true) : goalB g = numB ((topP g).value + 1).toNat := by unfold goalB; rw [if_pos (eq_of_beq h)]
theorem goalB_3 {g : List Part} (h : ((topP g).kind == 4) = false) : goalB g = numB 0 ++ termB g := by unfold goalB; rw [if_neg (beq_eq_false_iff_ne.1 h)]
end Rf
namespace Go.Proofs.YtbiojnljihgpoaaGreatDoor
open Go.RowKit
set_option maxHeartbeats 2000000 in
set_option maxRecDepth 100000 in
theorem psaveGoal_any (w0 w : World) (b : Nat) (l : List UInt8) (a : Option Addr) (n c : Nat) (g : List Rf.Part) (f : Int) (hW : WrAt w0.heap.size w b l) (hb : Below w0.heap.size w0 w) (hS : Seen w0 101 partCells (.slice a n c) g) (ht : Rf.TmG f g) (hcut : (Rf.topP g).kind = 4 → 0 ≤ (Rf.topP g).value ∧ (Rf.topP g).value ≤ 1000) (hf : f ≤ 1000000) (hl : l.length ≤ 9000000000) :
  Calls Tryz.prog 54 #[.pointer (some ⟨b, 0, none⟩), .slice a n c] w fun r w' => r = .returned (.tuple #[]) ∧ WrAt w0.heap.size w' b (l ++ Rf.goalB g) ∧ Wk w0.heap.size w w' := by
 have HS : Hid _ := hS
 have HB : Hid _ := hb
 have HW : Hid _ := hW
 have HT : Hid _ := ht
 have HC : Hid _ := hcut
 clear hS hb hW ht hcut
 have n0 := Rf.numB_len 0
 obtain ⟨p, hp⟩ : ∃ p, Hid (p = Rf.topP g) := ⟨_, rfl⟩
 rw [← hp.out] at HC
 cases k4 : (p.kind == 4)
 ·have hg : Hid (l ++ Rf.goalB g = l ++ Rf.numB 0 ++ Rf.termB g) := by unfold Hid; rw [Rf.goalB_3 (by rw [← hp.out]; exact k4), List.append_assoc]
  obtain ⟨pk, pn, pv, pa⟩ := p
  simp only at k4
  go_enter Tryz.func54, Tryz.ntmps54
  go_wp2_with (first
   | (go_at_call 55; refine (psaveTerm_any w0 _ b _ a n c g f hW2 ((HB.out.trans (((Wk.of (B := w0.heap.size) hb1).trans (Wk.of (by repeat(first|exact bel0 _ _|refine bel1 ?_ (by simp<;>omega) _|refine bel2 ?_|refine bel3 ?_ _|refine bel4 ?_ (by simp<;>omega) _)))).below HB.out.size)).trans (hk2.below (by have := HB.out.size; have := hb1.size; simp; omega))) HS.out HT.out hf (by rw [List.length_append]; omega)).mono ?_; rintro r w3 ⟨rfl, hW3, hk3⟩)
   | (go_at_call 21; refine (wnumber_any _ _ b l 0 ((HW.out.below hb1).below (by repeat(first|exact bel0 _ _|refine bel1 ?_ (by simp<;>omega) _|refine bel2 ?_|refine bel3 ?_ _|refine bel4 ?_ (by simp<;>omega) _))) (by omega) (by omega)).mono ?_; rintro r w2 ⟨rfl, hW2, hk2⟩)
   | (go_at_call 71; refine (ptopA_any a n c g _ (HS.out.below HB.out)).mono ?_; rintro r w1 ⟨hr1, hb1⟩; rw [← hp.out] at hr1; subst hr1))
  go_end0
  rw [hg.out]
  exact ⟨rfl, hW3, ((Wk.of hb1).trans (Wk.of (by repeat(first|exact bel0 _ _|refine bel1 ?_ (by simp<;>omega) _|refine bel2 ?_|refine bel3 ?_ _|refine bel4 ?_ (by simp<;>omega) _)))).trans (hk2.trans hk3)⟩
 ·obtain ⟨c0, c1⟩ := HC.out (eq_of_beq k4)
  obtain ⟨m, hm⟩ : ∃ m : Nat, p.value + 1 = (m : Int) := ⟨(p.value + 1).toNat, by omega⟩
  have hg : Hid (l ++ Rf.goalB g = l ++ Rf.numB m) := by unfold Hid; rw [Rf.goalB_4 (by rw [← hp.out]; exact k4), ← hp.out, hm, Int.toNat_natCast]
  obtain ⟨pk, pn, pv, pa⟩ := p
  simp only at k4 c0 c1 hm
  have hm0 : (m : Int) < 2000000000 := by omega
  go_enter Tryz.func54, Tryz.ntmps54
  go_wp2_with (first
   | (go_at_call 21; refine (wnumber_any _ _ b l m ((HW.out.below hb1).below (by repeat(first|exact bel0 _ _|refine bel1 ?_ (by simp<;>omega) _|refine bel2 ?_|refine bel3 ?_ _|refine bel4 ?_ (by simp<;>omega) _))) (by omega) (by omega)).mono ?_; rintro r w2 ⟨rfl, hW2, hk2⟩)
   | (go_at_call 71; refine (ptopA_any a n c g _ (HS.out.below HB.out)).mono ?_; rintro r w1 ⟨hr1, hb1⟩; rw [← hp.out] at hr1; subst hr1))
  refine bodyPost_ret (v := .tuple #[]) (by simp [results, Tryz.results54, go_sem]) rfl ?_
  rw [hg.out]
  exact ⟨rfl, hW2, ((Wk.of hb1).trans (Wk.of (by repeat(first|exact bel0 _ _|refine bel1 ?_ (by simp<;>omega) _|refine bel2 ?_|refine bel3 ?_ _|refine bel4 ?_ (by simp<;>omega) _)))).trans hk2⟩
theorem flat_snd {β : Type} (f : List Rf.Part → List UInt8) (acc : List (β × List Rf.Part)) : (acc.map (·.2)).flatMap f = acc.flatMap (fun q => f q.2) := by
 rw [List.flatMap_map]
set_option maxHeartbeats 4000000 in
set_option maxRecDepth 100000 in
theorem psaveCh_any (w0 w : World) (b : Nat) (l : List UInt8) (x : ChV) (c : Rf.Ch) (hW : WrAt w0.heap.size w b l) (hb : Below w0.heap.size w0 w) (hI : ChIs w0 x c) (hG : Rf.StG 1000 406400 c.st) (hcut : ∀ g ∈ c.st.goals, (Rf.topP g).kind = 4 → 0 ≤ (Rf.topP g).value ∧ (Rf.topP g).value ≤ 1000) (hcl : c.cls.length ≤ 1000000) (hl : l.length ≤ 5000000000) :
  Calls Tryz.prog 35 #[.agg #[.slice x.g.a x.g.n x.g.c, .slice x.t.a x.t.n x.t.c, .int .i64 x.f, .slice x.c.a x.c.n x.c.c], .pointer (some ⟨b, 0, none⟩)] w fun r w' => r = .returned (.tuple #[]) ∧ WrAt w0.heap.size w' b (l ++ Rf.chB c) ∧ Wk w0.heap.size w w' := by
 obtain ⟨accG, hg1, hg2, hg3⟩ := hI.st.g.ex
 obtain ⟨accT, ht1, ht2, ht3⟩ := hI.st.t.ex
 obtain ⟨⟨ga, gn, gc⟩, ⟨ta, tn, tc⟩, fr, ⟨ca, cn, cc⟩⟩ := x
 simp only [slv] at hg1 ht1
 have hgn : gn = accG.length := by have := hg1.len; rw [List.length_map] at this; exact this
 have htn : tn = accT.length := by have := ht1.len; rw [List.length_map] at this; exact this
 have hcn : cn = c.cls.length := hI.cl.len
 subst hgn; subst htn; subst hcn
 have hgl : accG.length ≤ 1000 := by have := hG.gl; rw [hg3, List.length_map] at this; exact this
 have htl : accT.length ≤ 16 := by have := hG.tl; rw [ht3, List.length_map] at this; exact this
 have hf1 := hG.f1
 have HG1 : Hid _ := hg1
 have HG2 : Hid (∀ q ∈ accG, Seen w0 101 partCells (slv q.1) q.2 ∧ Rf.TmG c.st.fresh q.2 ∧ ((Rf.topP q.2).kind = 4 → 0 ≤ (Rf.topP q.2).value ∧ (Rf.topP q.2).value ≤ 1000)) := fun q hq => ⟨hg2 q hq, hG.g q.2 (by rw [hg3]; exact List.mem_map_of_mem hq), hcut q.2 (by rw [hg3]; exact List.mem_map_of_mem hq)⟩
 have HT1 : Hid _ := ht1
 have HT2 : Hid (∀ q ∈ accT, Seen w0 101 partCells (slv q.1) q.2 ∧ Rf.TmG c.st.fresh q.2) := fun q hq => ⟨ht2 q hq, hG.t q.2 (by rw [ht3]; exact List.mem_map_of_mem hq)⟩
 have hE : Hid (l ++ Rf.chB c = l ++ Rf.numB accG.length ++ accG.flatMap (fun q => Rf.goalB q.2) ++ accT.flatMap (fun q => Rf.termB q.2) ++ Rf.numB c.cls.length) := by
  unfold Hid Rf.chB Rf.goalsB Rf.termsB
  rw [hg3, ht3, flat_snd, flat_snd, List.length_map]
  simp only [List.append_assoc]
 have HB : Hid _ := hb
 have HW : Hid _ := hW
 have hnG := Rf.numB_len accG.length
 clear hg1 hg2 hg3 ht1 ht2 ht3 hI hG hcut hb hW
 go_enter Tryz.func35, Tryz.ntmps35
 go_wp2_with (go_at_call 21; refine (wnumber_any _ _ b l accG.length (HW.out.below (by repeat(first|exact bel0 _ _|refine bel1 ?_ (by simp<;>omega) _|refine bel2 ?_|refine bel3 ?_ _|refine bel4 ?_ (by simp<;>omega) _))) (by omega) (by omega)).mono ?_; rintro r w1 ⟨rfl, hW1, hk1⟩; have HK1 : Hid (Wk w0.heap.size w w1) := Wk.trans (Wk.of (by repeat(first|exact bel0 _ _|refine bel1 ?_ (by simp<;>omega) _|refine bel2 ?_|refine bel3 ?_ _|refine bel4 ?_ (by simp<;>omega) _))) hk1; have HC1 : Hid _ := hk1.blk (blk_new _ _) (by decide) (by decide); have p0 := blk_cell HC1.out 0; have p1 := blk_cell HC1.out 1; have p2 := blk_cell HC1.out 2; have p3 := blk_cell HC1.out 3; have pf := blk_frozen HC1.out; have pl := blk_lt HC1.out; simp at p0 p1 p2 p3)
 go_loopg [18] (accG.length + 1) (fun m iv wr => ∃ k : Nat, k ≤ accG.length ∧ m = accG.length + 1 - k ∧ iv = .int .i64 k ∧ WrAt w0.heap.size wr b (l ++ Rf.numB accG.length ++ (accG.take k).flatMap (fun q => Rf.goalB q.2)) ∧ Wk w0.heap.size w1 wr)
 case atStart => exact ⟨0, by omega, by omega, rfl, by show WrAt _ _ _ (l ++ Rf.numB accG.length ++ []); rw [List.append_nil]; assumption, Wk.refl _ _⟩
 case round =>
  obtain ⟨k, hk, rfl, rfl, hWr, hkr⟩ := hrel
  have HCr : Hid _ := hkr.blk HC1.out (by decide) (by decide)
  have r0 := blk_cell HCr.out 0; have r1 := blk_cell HCr.out 1; have r2 := blk_cell HCr.out 2; have r3 := blk_cell HCr.out 3; have rf := blk_frozen HCr.out; have rl := blk_lt HCr.out
  simp at r0 r1 r2 r3
  by_cases hlt : k < accG.length
  ·obtain ⟨gp, off, rfl⟩ := HG1.out.pos (by rw [List.length_map]; omega)
   have hgl0 := HG1.out.lt
   have hbr : Below w0.heap.size w0 wr := HB.out.trans ((HK1.out.trans hkr).below HB.out.size)
   have hsz := hbr.size
   have e0 := Seen.termAt (HG1.out.below hbr) k accG[k].1 (by simp [hlt])
   have hx := HG2.out accG[k] (List.getElem_mem hlt)
   have htk : Hid (l ++ Rf.numB accG.length ++ (accG.take (k + 1)).flatMap (fun q => Rf.goalB q.2) = l ++ Rf.numB accG.length ++ (accG.take k).flatMap (fun q => Rf.goalB q.2) ++ Rf.goalB accG[k].2) := by
    unfold Hid
    rw [Rf.flat_snoc _ _ _ hlt]; simp only [List.append_assoc]
   have hl2 : (l ++ Rf.numB accG.length ++ (accG.take k).flatMap (fun q => Rf.goalB q.2)).length ≤ 6000000000 := by
    have h9 := Rf.flat_take_len (fun q => Rf.goalB q.2) 12810 accG (fun q hq => Rf.goalB_len (HG2.out q hq).2.1) k
    rw [List.length_append]
    rw [List.length_append]
    omega
   have hlt' : (k : Int) < accG.length := by omega
   have hgl' : gp < wr.heap.size := by omega
   generalize accG[k] = y at *
   obtain ⟨⟨ya, yn, yc⟩, ps⟩ := y
   simp only [slv] at hx e0 htk
   have HX : Hid _ := hx
   have HWr : Hid _ := hWr
   clear hx hWr
   go_wp2_with (go_at_call 54; refine (psaveGoal_any w0 _ b _ ya yn yc ps c.st.fresh HWr.out hbr HX.out.1 HX.out.2.1 HX.out.2.2 (by omega) (by omega)).mono ?_; rintro r w9 ⟨rfl, hW9, hk9⟩)
   go_roundg (accG.length - k)
   case measure => omega
   case rel => exact ⟨k + 1, by omega, by omega, by go_num, by rw [htk.out]; exact hW9, hkr.trans hk9⟩
  ·obtain rfl : k = accG.length := by omega
   rw [List.take_length] at hWr
   have hlG : (l ++ Rf.numB accG.length ++ accG.flatMap (fun q => Rf.goalB q.2)).length ≤ 5100000000 := by
    have h9 := Rf.flat_take_len (fun q => Rf.goalB q.2) 12810 accG (fun q hq => Rf.goalB_len (HG2.out q hq).2.1) accG.length
    rw [List.take_length] at h9
    rw [List.length_append, List.length_append]
    omega
   have HCs := HCr
   have Hks : Hid (Wk w0.heap.size w wr) := HK1.out.trans hkr
   have hWs := hWr
   clear hWr hkr HCr p0 p1 p2 p3 pf pl
   go_wp2_with fail
   go_loopg [30] (accT.length + 1) (fun m iv wi => ∃ k : Nat, k ≤ accT.length ∧ m = accT.length + 1 - k ∧ iv = .int .i64 k ∧ WrAt w0.heap.size wi b (l ++ Rf.numB accG.length ++ accG.flatMap (fun q => Rf.goalB q.2) ++ (accT.take k).flatMap (fun q => Rf.termB q.2)) ∧ Wk w0.heap.size wr wi)
   case atStart => exact ⟨0, by omega, by omega, rfl, by show WrAt _ _ _ (l ++ Rf.numB accG.length ++ accG.flatMap (fun q => Rf.goalB q.2) ++ []); rw [List.append_nil]; assumption, Wk.refl _ _⟩
   case round =>
    obtain ⟨k, hk, rfl, rfl, hWr, hkr⟩ := hrel
    have HCr : Hid _ := hkr.blk HCs.out (by decide) (by decide)
    have r0 := blk_cell HCr.out 0; have r1 := blk_cell HCr.out 1; have r2 := blk_cell HCr.out 2; have r3 := blk_cell HCr.out 3; have rf := blk_frozen HCr.out; have rl := blk_lt HCr.out
    simp at r0 r1 r2 r3
    by_cases hlt : k < accT.length
    ·obtain ⟨gp, off, rfl⟩ := HT1.out.pos (by rw [List.length_map]; omega)
     have hgl0 := HT1.out.lt
     have hbr : Below w0.heap.size w0 wr := HB.out.trans ((Hks.out.trans hkr).below HB.out.size)
     have hsz := hbr.size
     have e0 := Seen.termAt (HT1.out.below hbr) k accT[k].1 (by simp [hlt])
     have hx := HT2.out accT[k] (List.getElem_mem hlt)
     have htk : Hid (l ++ Rf.numB accG.length ++ accG.flatMap (fun q => Rf.goalB q.2) ++ (accT.take (k + 1)).flatMap (fun q => Rf.termB q.2) = l ++ Rf.numB accG.length ++ accG.flatMap (fun q => Rf.goalB q.2) ++ (accT.take k).flatMap (fun q => Rf.termB q.2) ++ Rf.termB accT[k].2) := by
      unfold Hid
      rw [Rf.flat_snoc _ _ _ hlt]; simp only [List.append_assoc]
     have hl2 : (l ++ Rf.numB accG.length ++ accG.flatMap (fun q => Rf.goalB q.2) ++ (accT.take k).flatMap (fun q => Rf.termB q.2)).length ≤ 6000000000 := by
      have h9 := Rf.flat_take_len (fun q => Rf.termB q.2) 12810 accT (fun q hq => by have := (HT2.out q hq).2.told; omega) k
      rw [List.length_append]
      have := hlG
      omega
     have hlt' : (k : Int) < accT.length := by omega
     have hgl' : gp < wr.heap.size := by omega
     generalize accT[k] = y at *
     obtain ⟨⟨ya, yn, yc⟩, ps⟩ := y
     simp only [slv] at hx e0 htk
     have HX : Hid _ := hx
     have HWr : Hid _ := hWr
     clear hx hWr
     go_wp2_with (go_at_call 55; refine (psaveTerm_any w0 _ b _ ya yn yc ps c.st.fresh HWr.out hbr HX.out.1 HX.out.2 (by omega) (by omega)).mono ?_; rintro r w9 ⟨rfl, hW9, hk9⟩)
     go_roundg (accT.length - k)
     case measure => omega
     case rel => exact ⟨k + 1, by omega, by omega, by go_num, by rw [htk.out]; exact hW9, hkr.trans hk9⟩
    ·obtain rfl : k = accT.length := by omega
     rw [List.take_length] at hWr
     have hl9 : (l ++ Rf.numB accG.length ++ accG.flatMap (fun q => Rf.goalB q.2) ++ accT.flatMap (fun q => Rf.termB q.2)).length ≤ 6100000000 := by
      have h9 := Rf.flat_take_len (fun q => Rf.termB q.2) 12810 accT (fun q hq => by have := (HT2.out q hq).2.told; omega) accT.length
      rw [List.take_length] at h9
      rw [List.length_append]
      omega
     go_wp2_with (go_at_call 21; refine (wnumber_any _ _ b _ c.cls.length hWr (by omega) (by omega)).mono ?_; rintro r w9 ⟨rfl, hW9, hk9⟩)
     go_end0
     rw [hE.out]
     exact ⟨rfl, hW9, (Hks.out.trans hkr).trans hk9⟩
set_option maxHeartbeats 2000000 in
set_option maxRecDepth 100000 in
theorem psaveQ_any (w0 w : World) (b q : Nat) (l : List UInt8) (nm : Value) (rb : Option Nat) (Q : Rf.Qs) (n : Nat) (hW : WrAt w0.heap.size w b l) (hb : Below w0.heap.size w0 w) (hQ : QAt nm w0 q rb Q.names ⟨Rf.stNone, Q.chs⟩) (hq : Rf.QsOk n Q) (hcut : Rf.CutsOk Q) (hcl : ∀ c ∈ Q.chs, c.cls.length ≤ 1000000) (hl : l.length ≤ 4000000000) :
  Calls Tryz.prog 24 #[.pointer (some ⟨q, 0, none⟩), .pointer (some ⟨b, 0, none⟩)] w fun r w' => r = .returned (.tuple #[]) ∧ WrAt w0.heap.size w' b (l ++ Rf.quB Q) ∧ Wk w0.heap.size w w' := by
 obtain ⟨vg, vt, fr, vC, hI⟩ := hQ.ex
 obtain ⟨na, nc, rfl⟩ := hI.n.slice
 obtain ⟨acc, hr, hac, ham⟩ := hI.r.ex
 have hal : acc.length = Q.chs.length := by
  have := congrArg List.length ham
  rw [List.length_map, List.length_reverse] at this
  exact this
 obtain ⟨ca, cc, hvC⟩ := row_slice hr
 subst hvC
 rw [List.length_map] at hr
 have hqb : QB w q (.slice na Q.names.length nc) vg vt fr (.slice ca (acc.map (·.1)).length cc) := (hb.block q (blk_lt hI.b)).trans hI.b
 rw [List.length_map] at hqb
 obtain ⟨q0, q1, q2, q3, q4, qf, ql⟩ := hqb.facts
 have h16 := hq.nl
 have h20 := hq.cl
 have h20' : acc.length ≤ 20 := by omega
 have Hal : Hid _ := hal
 clear hal h20
 have HR : Hid _ := hr
 have HA : Hid _ := hac
 have HM : Hid _ := ham
 have HN : Hid _ := hI.n
 have HQB : Hid _ := hqb
 have HB : Hid _ := hb
 have HW : Hid _ := hW
 have HQ : Hid _ := hq
 have HC : Hid (Rf.CutsOk Q) := hcut
 have HL : Hid _ := hcl
 have hn1 := Rf.numB_len Q.names.length
 clear hr hac ham hI hQ hb hW hq hcut hqb hcl
 have HX2 : Hid (∀ x ∈ acc, ChIs w0 x.1 x.2 ∧ Rf.StG 1000 406400 x.2.st ∧ (∀ g ∈ x.2.st.goals, (Rf.topP g).kind = 4 → 0 ≤ (Rf.topP g).value ∧ (Rf.topP g).value ≤ 1000) ∧ x.2.cls.length ≤ 1000000) := fun x hx => by
  have hm : x.2 ∈ Q.chs := by
   have h9 : x.2 ∈ acc.map (·.2) := List.mem_map_of_mem hx
   rw [HM.out] at h9
   exact List.mem_reverse.1 h9
  exact ⟨HA.out x hx, (HQ.out.c x.2 hm).1, HC.out x.2 hm, HL.out x.2 hm⟩
 have hE : Hid (l ++ Rf.quB Q = l ++ Rf.numB Q.names.length ++ Q.names.flatMap Rf.wordB ++ Rf.numB acc.length ++ acc.flatMap (fun x => Rf.chB x.2)) := by
  unfold Hid Rf.quB Rf.chsB
  rw [← HM.out, Hal.out, List.flatMap_map]
  simp only [List.append_assoc]
 clear HA HC HM
 go_enter Tryz.func24, Tryz.ntmps24
 go_wp2_with (go_at_call 21; refine (wnumber_any _ _ b l Q.names.length HW.out (by omega) (by omega)).mono ?_; rintro r w1 ⟨rfl, hW1, hk1⟩; have HKw1 : Hid (Wk w0.heap.size w w1) := hk1; have HQw1 : Hid _ := hk1.blk HQB.out (by decide) (by decide); obtain ⟨m0, m1, m2, m3, m4, mf, ml⟩ := QB.facts HQw1.out)
 go_loopg [20] (Q.names.length + 1) (fun m iv wr => ∃ k : Nat, k ≤ Q.names.length ∧ m = Q.names.length + 1 - k ∧ iv = .int .i64 k ∧ WrAt w0.heap.size wr b (l ++ Rf.numB Q.names.length ++ (Q.names.take k).flatMap Rf.wordB) ∧ Wk w0.heap.size w1 wr)
 case atStart => exact ⟨0, by omega, by omega, rfl, by show WrAt _ _ _ (l ++ Rf.numB Q.names.length ++ []); rw [List.append_nil]; assumption, Wk.refl _ _⟩
 case round =>
  obtain ⟨k, hk, rfl, rfl, hWr, hkr⟩ := hrel
  have HQr : Hid _ := hkr.blk HQw1.out (by decide) (by decide)
  obtain ⟨r0, r1, r2, r3, r4, rf, rl⟩ := QB.facts HQr.out
  by_cases hlt : k < Q.names.length
  ·have hbr : Below w0.heap.size w0 wr := HB.out.trans ((HKw1.out.trans hkr).below HB.out.size)
   have hsz := hbr.size
   have htk : Hid (l ++ Rf.numB Q.names.length ++ (Q.names.take (k + 1)).flatMap Rf.wordB = l ++ Rf.numB Q.names.length ++ (Q.names.take k).flatMap Rf.wordB ++ Rf.wordB Q.names[k]) := by
    unfold Hid
    rw [Rf.flat_snoc _ _ _ hlt]; simp only [List.append_assoc]
   have hl2 : (l ++ Rf.numB Q.names.length ++ (Q.names.take k).flatMap Rf.wordB).length ≤ 5000000000 := by
    have h9 := Rf.flat_take_len Rf.wordB 22 Q.names (fun x hx => by have := Rf.wordB_len x; have := HQ.out.nz x hx; omega) k
    rw [List.length_append]
    rw [List.length_append]
    omega
   have hlt' : (k : Int) < Q.names.length := by omega
   obtain ⟨gp, off, rfl⟩ := HN.out.pos (by omega)
   have hgl0 := HN.out.lt
   have e0 := (HN.out.below hbr).cells strCells_len k Q.names[k] (by simp [hlt]) 0 _ rfl
   rw [Nat.mul_one, Nat.add_zero] at e0
   have hx12 := HQ.out.nz Q.names[k] (List.getElem_mem hlt)
   have hgl' : gp < wr.heap.size := by omega
   generalize Q.names[k] = y at *
   have HWr : Hid _ := hWr
   clear hWr
   go_wp2_with (go_at_call 22; refine (wword_any _ _ b _ y HWr.out (by omega) (by omega)).mono ?_; rintro r w9 ⟨rfl, hW9, hk9⟩)
   go_roundg (Q.names.length - k)
   case measure => omega
   case rel => exact ⟨k + 1, by omega, by omega, by go_num, by rw [htk.out]; exact hW9, hkr.trans hk9⟩
  ·obtain rfl : k = Q.names.length := by omega
   rw [List.take_length] at hWr
   have hlN : (l ++ Rf.numB Q.names.length ++ Q.names.flatMap Rf.wordB).length ≤ 4000001000 := by
    have h9 := Rf.wordsB_len Q.names HQ.out.nz
    rw [List.length_append, List.length_append]
    omega
   have HKr : Hid (Wk w0.heap.size w wr) := HKw1.out.trans hkr
   have hn2 := Rf.numB_len acc.length
   have HWr : Hid _ := hWr
   clear hWr hkr m0 m1 m2 m3 m4 mf ml
   go_wp2_with (go_at_call 21; refine (wnumber_any _ _ b _ acc.length HWr.out (by omega) (by omega)).mono ?_; rintro r w2 ⟨rfl, hW2, hk2⟩; have HKw2 : Hid (Wk w0.heap.size w w2) := HKr.out.trans hk2; have HQw2 : Hid _ := hk2.blk HQr.out (by decide) (by decide); obtain ⟨m0, m1, m2, m3, m4, mf, ml⟩ := QB.facts HQw2.out)
   go_loopg [40] (acc.length + 1) (fun m iv wr => ∃ k : Nat, k ≤ acc.length ∧ m = acc.length + 1 - k ∧ iv = .int .i64 k ∧ WrAt w0.heap.size wr b (l ++ Rf.numB Q.names.length ++ Q.names.flatMap Rf.wordB ++ Rf.numB acc.length ++ (acc.take k).flatMap (fun x => Rf.chB x.2)) ∧ Wk w0.heap.size w2 wr)
   case atStart => exact ⟨0, by omega, by omega, rfl, by show WrAt _ _ _ (l ++ Rf.numB Q.names.length ++ Q.names.flatMap Rf.wordB ++ Rf.numB acc.length ++ []); rw [List.append_nil]; assumption, Wk.refl _ _⟩
   case round =>
    obtain ⟨k, hk, rfl, rfl, hWr, hkr⟩ := hrel
    have HQr : Hid _ := hkr.blk HQw2.out (by decide) (by decide)
    obtain ⟨r0, r1, r2, r3, r4, rf, rl⟩ := QB.facts HQr.out
    by_cases hlt : k < acc.length
    ·have hbr : Below w0.heap.size w0 wr := HB.out.trans ((HKw2.out.trans hkr).below HB.out.size)
     have hsz := hbr.size
     have htk : Hid (l ++ Rf.numB Q.names.length ++ Q.names.flatMap Rf.wordB ++ Rf.numB acc.length ++ (acc.take (k + 1)).flatMap (fun x => Rf.chB x.2) = l ++ Rf.numB Q.names.length ++ Q.names.flatMap Rf.wordB ++ Rf.numB acc.length ++ (acc.take k).flatMap (fun x => Rf.chB x.2) ++ Rf.chB acc[k].2) := by
      unfold Hid
      rw [Rf.flat_snoc _ _ _ hlt]; simp only [List.append_assoc]
     have hl2 : (l ++ Rf.numB Q.names.length ++ Q.names.flatMap Rf.wordB ++ Rf.numB acc.length ++ (acc.take k).flatMap (fun x => Rf.chB x.2)).length ≤ 5000000000 := by
      have h9 := Rf.flat_take_len (fun x => Rf.chB x.2) 13100000 acc (fun x hx => Rf.chB_len (HX2.out x hx).2.1 (Nat.le_refl _)) k
      rw [List.length_append]
      rw [List.length_append]
      omega
     have hlt' : (k : Int) < acc.length := by omega
     obtain ⟨gp, rfl⟩ : ∃ gp, ca = some ⟨gp, 0, none⟩ := by
      rcases HR.out.shape with ⟨e, e2⟩ | ⟨gp, cap, e, _⟩
      ·injection e with _ e3 _; omega
      ·injection e with e1 _ _; exact ⟨gp, e1⟩
     have hgl0 := HR.out.lt gp rfl
     have hR9 := HR.out.below hbr
     have e0 := hR9.cells chCells_len k acc[k].1 (by simp [hlt]) 0 _ rfl
     have e1 := hR9.cells chCells_len k acc[k].1 (by simp [hlt]) 1 _ rfl
     have e2 := hR9.cells chCells_len k acc[k].1 (by simp [hlt]) 2 _ rfl
     have e3 := hR9.cells chCells_len k acc[k].1 (by simp [hlt]) 3 _ rfl
     rw [Nat.add_zero] at e0
     have hx := HX2.out acc[k] (List.getElem_mem hlt)
     have hgl' : gp < wr.heap.size := by omega
     generalize acc[k] = y at *
     obtain ⟨⟨⟨ga, gn, gc⟩, ⟨ta, tn, tc⟩, yf, ⟨xa, xn, xc⟩⟩, c⟩ := y
     simp only at hx e0 e1 e2 e3 htk
     have HX : Hid _ := hx
     clear hx hR9
     have HWr : Hid _ := hWr
     clear hWr
     go_wp2_with (go_at_call 35; refine (psaveCh_any w0 _ b _ ⟨⟨ga, gn, gc⟩, ⟨ta, tn, tc⟩, yf, ⟨xa, xn, xc⟩⟩ c (HWr.out.below (by repeat(first|exact bel0 _ _|refine bel1 ?_ (by simp<;>omega) _|refine bel2 ?_|refine bel3 ?_ _|refine bel4 ?_ (by simp<;>omega) _))) (hbr.trans (Below.mono (B := wr.heap.size) (by repeat(first|exact bel0 _ _|refine bel1 ?_ (by simp<;>omega) _|refine bel2 ?_|refine bel3 ?_ _|refine bel4 ?_ (by simp<;>omega) _)) (by omega))) HX.out.1 HX.out.2.1 HX.out.2.2.1 HX.out.2.2.2 (by omega)).mono ?_; rintro r w9 ⟨rfl, hW9, hk9⟩)
     go_roundg (acc.length - k)
     case measure => omega
     case rel => exact ⟨k + 1, by omega, by omega, by go_num, by rw [htk.out]; exact hW9, (hkr.trans (Wk.of (by repeat(first|exact bel0 _ _|refine bel1 ?_ (by simp<;>omega) _|refine bel2 ?_|refine bel3 ?_ _|refine bel4 ?_ (by simp<;>omega) _)))).trans hk9⟩
    ·obtain rfl : k = acc.length := by omega
     rw [List.take_length] at hWr
     go_wp2_with fail
     go_end0
     rw [hE.out]
     exact ⟨rfl, hWr, HKw2.out.trans hkr⟩
end Go.Proofs.YtbiojnljihgpoaaGreatDoor
