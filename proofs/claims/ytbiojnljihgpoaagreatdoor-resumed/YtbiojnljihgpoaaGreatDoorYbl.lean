
import Derived.Test.YtbiojnljihgpoaaGreatDoorYbj
import Derived.Test.YtbiojnljihgpoaaGreatDoorYal
import Derived.Test.YtbiojnljihgpoaaGreatDoorYbk
import Derived.Test.YtbiojnljihgpoaaGreatDoorRows
import Derived.ProofKit
import Derived.OpenShut
import Derived.Deep.Slices
import Derived.Deep.DeepHandedRow
import Derived.Deep.DeepWitnessRowRef
import Derived.Lib.LaidTab
import Derived.Lib.AppendIntMem
import Derived.SizedLaws
import Derived.ReadAgain
import Derived.LaidMore
import Derived.LaidHandle
import Derived.Stop.LaidErr
namespace Rf
theorem load_tell {T : Se} {b : List UInt8} (h : (loadS T b).1 = true) : TellOk (loadS T b).2.cls (loadS T b).2.q ∧ LeftOk (loadS T b).2.cls (loadS T b).2.q := by
 unfold loadS at h ⊢
 split at h
 ·rename_i hb
  rw [if_pos hb]
  have hw : (readImg b).2.wrong = false := by
   unfold loadB at hb
   rw [Bool.and_eq_true] at hb
   exact eq_of_beq hb.1
  exact ⟨readImg_tell hw, readImg_left b⟩
 ·cases h
theorem load_long {T : Se} {b : List UInt8} (h : (loadS T b).1 = true) : 8 ≤ b.length := by
 have := load_told h
 rw [← this]
 unfold saveS
 rw [img_len]; omega
end Rf
namespace Go.Proofs.YtbiojnljihgpoaaGreatDoor
open Go.RowKit
theorem seen_done {B : Nat} {G : Nat → Prop} {w w' : World} {x : Nat} {S : Rf.Se} {v : Value} {xs : List ByteArray} (h : Seen w 9 strCells v xs) (hD : SeDone B G w x S w') : Seen w' 9 strCells v xs := Seen.kept h hD.2 (fun k cs hc e => Turn.not hc (by decide) (by decide) (by decide) (by decide) e.2)
theorem str_full (s : ByteArray) (h : 8 ≤ (Rf.bs s).length) : s.toList.isEmpty = false := by
 rw [ByteArray.toList_eq]
 have e : s.data.toList = Rf.bs s := rfl
 rw [e]
 cases hc : Rf.bs s with
 | nil => rw [hc] at h; simp at h
 | cons => rfl
set_option maxHeartbeats 1000000 in
set_option maxRecDepth 100000 in
theorem refused_any (W : World) (p : Int) (a : Option Addr) (n c : Nat) (l : List Rf.MoveV) (s : ByteArray) (a' : Option Addr) (n' c' : Nat) (l' : List Rf.MoveV) (hp : -9223372036854775808 ≤ p) (hp' : p ≤ 9223372036854775807) (hM : MovesAt W (.slice a n c) l) (hok : ∀ m ∈ l, m.s.size ≤ maxLen) (hl : l.length * 24 ≤ 140737488355328) (hs : s.size ≤ maxLen) (hM' : MovesAt W (.slice a' n' c') l') (hok' : ∀ m ∈ l', m.s.size ≤ maxLen) (hl' : l'.length * 24 ≤ 140737488355328) (hT : Tab W) :
  Calls Tryz.prog 4 #[.int .i64 p, .slice a n c, .string s, .slice a' n' c'] W fun r w' => r = .returned (.bool true) ∧ Below W.heap.size W w' := by
 obtain rfl : n = l.length := hM.len
 obtain rfl : n' = l'.length := hM'.len
 have HM : Hid (MovesAt W (.slice a l.length c) l) := hM
 have HM' : Hid (MovesAt W (.slice a' l'.length c') l') := hM'
 have HO : Hid (∀ m ∈ l, m.s.size ≤ maxLen) := hok
 have HO' : Hid (∀ m ∈ l', m.s.size ≤ maxLen) := hok'
 have HT : Hid (Tab W) := hT
 obtain ⟨S, hS0⟩ : ∃ S, Hid ((Rf.movedS (⟨(1 + (Rf.pickK p 1000 : Int)).toNat, [], none⟩ : Rf.Se) l).2 = S) := ⟨_, rfl⟩
 have HMat : Hid (∀ w, Below W.heap.size W w → MovesAt w (.slice a l.length c) l) := fun w hb => HM.out.on hb (Nat.le_refl _)
 have HMat' : Hid (∀ w, Below W.heap.size W w → MovesAt w (.slice a' l'.length c') l') := fun w hb => HM'.out.on hb (Nat.le_refl _)
 have HMB : Hid (∀ B, W.heap.size ≤ B → ∀ g off, 1 ≤ l.length → a = some ⟨g, off, none⟩ → g < B) := fun B hB g off h1 e => by subst e; have := (HM.out.at h1).1; omega
 have HMB' : Hid (∀ B, W.heap.size ≤ B → ∀ g off, 1 ≤ l'.length → a' = some ⟨g, off, none⟩ → g < B) := fun B hB g off h1 e => by subst e; have := (HM'.out.at h1).1; omega
 clear hM hM' hok hok' hT
 obtain ⟨L, hLe⟩ : ∃ L, Hid (L = Rf.loadS S (Rf.bs s)) := ⟨_, rfl⟩
 cases hc : L.1
 ·have hL2 : Hid (L.2 = S) := by unfold Hid; rw [hLe.out]; exact Rf.load_kept (by rw [← hLe.out]; exact hc)
  have HC : Hid _ := hc
  clear hc
  go_enter Tryz.func4, Tryz.ntmps4
  go_wp2_with (first
   | (go_at_call 11; refine (ksame_any _ _ _ _ _ _ (Rf.movedS S l').1 _ (seen_done hR5 hD6) hR6).mono ?_; rintro r w7 ⟨rfl, hb7⟩)
   | (go_at_call 10; have h9 := hD5; refine (kmoved_any w1.heap.size _ w5 y S a' l'.length c' l' (HMat'.out _ (HB1.out.trans ((HB5.out).mono hz1))) HO'.out hl' hy5 (HB5.out.size) (HMB'.out _ hz1) (TabB.on HT1.out HB5.out)).mono ?_; rintro r w6 ⟨a3, c3, rfl, hR6, hD6⟩)
   | (go_at_call 10; have h9 := hD4; refine (kmoved_any w1.heap.size _ w4 x S a' l'.length c' l' (HMat'.out _ (HB1.out.trans ((HB4.out).mono hz1))) HO'.out hl' hx4 (HB4.out.size) (HMB'.out _ hz1) (TabB.on HT1.out HB4.out)).mono ?_; rintro r w5 ⟨a2, c2, rfl, hR5, hD5⟩; have hy5 := hD5.other hy4 (fun k e e2 => by rcases e2 with e2 | e2; omega; have := hy4.hi k e; omega); have HB5 : Hid (Below w1.heap.size w1 w5) := HB4.out.trans (hD5.below HB4.out.size))
   | (go_at_call 9; refine (pload_in w1.heap.size _ w3 x S s hs (hx.below hbw3) HBw3.out.size (TabB.on HT1.out HBw3.out)).mono ?_; rintro r w4 ⟨hr4, hD4⟩; rw [← hLe.out, HC.out] at hr4; subst hr4; rw [← hLe.out, hL2.out] at hD4; have hx4 := hD4.1; have hy4 := (hD4.other (hy.lower hzw2) (fun k e e2 => by omega)); have HB4 : Hid (Below w1.heap.size w1 w4) := HBw3.out.trans (hD4.below HBw3.out.size))
   | (go_at_call 7; have h9 := hx; refine (ksession_any w2 p a l.length c l hp hp' (HMat.out _ (HB1.out.trans (HBw2.out.mono hz1))) HO.out hl (HMB.out _ (by omega)) (tab_here (TabB.tab (TabB.on HT1.out HBw2.out)))).mono ?_; rintro r w3 ⟨y, rfl, hy, hbw3⟩; rw [hS0.out] at hy; have hzw3 := hbw3.size; have HBw3 : Hid (Below w1.heap.size w1 w3) := HBw2.out.trans (hbw3.mono hzw2))
   | (go_at_call 7; refine (ksession_any w1 p a l.length c l hp hp' (HMat.out _ HB1.out) HO.out hl (HMB.out _ hz1) HT1.out).mono ?_; rintro r w2 ⟨x, rfl, hx, hbw2⟩; rw [hS0.out] at hx; have hzw2 := hbw2.size; have HBw2 : Hid (Below w1.heap.size w1 w2) := hbw2)
   | (go_at_call 6; refine (kworks_any W HT.out).mono ?_; rintro r w1 ⟨rfl, hb1⟩; have HT1 : Hid (TabB w1.heap.size w1) := tab_here (Tab.below HT.out hb1); have hz1 := hb1.size; have HB1 : Hid _ := hb1))
  go_ret
  exact ⟨rfl, HB1.out.trans (((HB5.out.trans (hD6.below HB5.out.size)).trans (hb7.mono (by have := HB5.out.size; have := hD6.size; omega))).mono hz1)⟩
 ·have hTL : Hid (Rf.TellOk L.2.cls L.2.q ∧ Rf.LeftOk L.2.cls L.2.q) := by unfold Hid; rw [hLe.out]; exact Rf.load_tell (by rw [← hLe.out]; exact hc)
  have hSv : Hid (strOf (Rf.saveS L.2) = s) := by unfold Hid; rw [hLe.out, Rf.load_told (by rw [← hLe.out]; exact hc), strOf_bs]
  have hemp : s.toList.isEmpty = false := str_full s (Rf.load_long (T := S) (by rw [← hLe.out]; exact hc))
  have HC : Hid _ := hc
  clear hc
  go_enter Tryz.func4, Tryz.ntmps4
  go_wp2_with (first
   | (go_at_call 8; refine (psave_in w1.heap.size _ w4 x L.2 hx4 (TabB.on HT1.out HB4.out) hTL.out.1 hTL.out.2).mono ?_; rintro r w5 ⟨hr5, hb5⟩; rw [hSv.out] at hr5; subst hr5)
   | (go_at_call 9; refine (pload_in w1.heap.size _ w3 x S s hs (hx.below hbw3) HBw3.out.size (TabB.on HT1.out HBw3.out)).mono ?_; rintro r w4 ⟨hr4, hD4⟩; rw [← hLe.out, HC.out] at hr4; subst hr4; rw [← hLe.out] at hD4; have hx4 := hD4.1; have HB4 : Hid (Below w1.heap.size w1 w4) := HBw3.out.trans (hD4.below HBw3.out.size))
   | (go_at_call 7; have h9 := hx; refine (ksession_any w2 p a l.length c l hp hp' (HMat.out _ (HB1.out.trans (HBw2.out.mono hz1))) HO.out hl (HMB.out _ (by omega)) (tab_here (TabB.tab (TabB.on HT1.out HBw2.out)))).mono ?_; rintro r w3 ⟨y, rfl, hy, hbw3⟩; rw [hS0.out] at hy; have hzw3 := hbw3.size; have HBw3 : Hid (Below w1.heap.size w1 w3) := HBw2.out.trans (hbw3.mono hzw2))
   | (go_at_call 7; refine (ksession_any w1 p a l.length c l hp hp' (HMat.out _ HB1.out) HO.out hl (HMB.out _ hz1) HT1.out).mono ?_; rintro r w2 ⟨x, rfl, hx, hbw2⟩; rw [hS0.out] at hx; have hzw2 := hbw2.size; have HBw2 : Hid (Below w1.heap.size w1 w2) := hbw2)
   | (go_at_call 6; refine (kworks_any W HT.out).mono ?_; rintro r w1 ⟨rfl, hb1⟩; have HT1 : Hid (TabB w1.heap.size w1) := tab_here (Tab.below HT.out hb1); have hz1 := hb1.size; have HB1 : Hid _ := hb1))
  go_ret
  exact ⟨rfl, HB1.out.trans ((HB4.out.trans (hb5.mono HB4.out.size)).mono hz1)⟩
end Go.Proofs.YtbiojnljihgpoaaGreatDoor
namespace Go.Proofs.YtbiojnljihgpoaaGreatDoor
open Go.ChangeShapes Go.WideShapes Go.ChangeAt Go.RowKit Go.Deep
theorem Tryz.kids : Kids Tryz.prog (· < Tryz.prog.types.size) := kids_rows (by kernel_rfl) (by kernel_rfl)
theorem Tryz.full : ∀ t e, t < Tryz.prog.types.size → Tryz.prog.underlying t = some (.slice e) → 0 < Tryz.prog.cellsOf e := slices_full_of Tryz.prog (by kernel_rfl)
theorem Tryz.cellsInt : Tryz.prog.cellsOf 3 = 1 := by kernel_rfl
theorem Tryz.cellsStr : Tryz.prog.cellsOf 9 = 1 := by kernel_rfl
theorem i64_wf {n : Int} (h : (Lit.int .i64 n).wf = true) : -9223372036854775808 ≤ n ∧ n ≤ 9223372036854775807 := bounds_i64 h
theorem cell_lt {w : World} {p : Addr} {u : Value} (h : w.cell? p = some u) : p.block < w.heap.size := by
 unfold World.cell? at h
 cases hb : w.heap[p.block]? with
 | none => simp [hb] at h
 | some o => exact (Array.getElem?_eq_some_iff.1 hb).1
theorem Tryz.own : ownKnob Tryz.prog.godebug = none := by kernel_rfl
theorem Tryz.gTab : Tryz.prog.globalNamed "internal/strconv.uint64pow10" = some 0 := by kernel_rfl
theorem Tryz.gTabType : (Tryz.prog.globals[0]?).map (·.type) = some 162 := by kernel_rfl
theorem Tryz.cellsTab : Tryz.prog.cellsOf 162 = 20 := by kernel_rfl
theorem Tryz.cellsU64 : Tryz.prog.cellsOf 148 = 1 := by kernel_rfl
section
variable {H : Type} {enc : TypeId × Value → H}
theorem again {W W' : World} {v : Value} {d : DataW H} {p : List MemPlace} {t : TypeId} (ht : t < Tryz.prog.types.size) (h0 : DataW.Trod enc Tryz.prog W 0 (fun _ => true) true t v d p) (hB : Below W.heap.size W W') (hlt : ∀ x ∈ p, x.block < W.heap.size) : DataW.Trod enc Tryz.prog W' 0 (fun b => decide (b < W.heap.size)) true t v d p := by
 have h9 : DataW.Trod enc Tryz.prog W' 0 (fun _ => true) true t v d p := by
  obtain ⟨n, hn⟩ := h0
  exact ⟨n, DataW.trod_carry n _ _ _ hn (fun x hx => hB.same (hlt x hx))⟩
 exact DataW.Trod.respare (spare' := fun b => decide (b < W.heap.size)) Tryz.kids Tryz.full ht h9 (fun x hx => by simpa using hlt x hx)
end
end Go.Proofs.YtbiojnljihgpoaaGreatDoor
namespace Go.Proofs.YtbiojnljihgpoaaGreatDoor
open Go.ChangeShapes Go.WideShapes Go.ChangeAt Go.RowKit Go.Deep
section
variable {H : Type} {enc : TypeId × Value → H} {P : Program} {W : World} {sp : Nat → Bool} {held : Bool} {base b0 : Nat} {t : TypeId}
theorem open_str {v : Value} {d : DataW H} {p : List MemPlace} (ht : P.underlying t = some .string) (hval : Value.okWide P W .any b0 t v) (hd : DataW.Trod enc P W base sp held t v d p) :
  ∃ s : ByteArray, v = .string s ∧ d = .lit (.string s.data.toList) ∧ p = [] ∧ s.size ≤ maxLen := by
 obtain ⟨s, rfl⟩ := okWide_string ht hval
 obtain ⟨fuel, hf⟩ := hd
 obtain ⟨s', h, hx, hs⟩ := DataW.trod_string ht hf
 simp [Value.cells] at h
 subst h
 simp only [Prod.mk.injEq] at hx
 exact ⟨s, rfl, hx.1, hx.2, hs⟩
end
end Go.Proofs.YtbiojnljihgpoaaGreatDoor
namespace Go.Proofs.YtbiojnljihgpoaaGreatDoor
open Go.ChangeShapes Go.WideShapes Go.ChangeAt Go.RowKit Go.Deep
theorem Tryz.cellsMove : Tryz.prog.cellsOf 65 = 2 := by kernel_rfl
theorem Tryz.bytesMove : Tryz.prog.bytesOf 65 = 24 := by kernel_rfl
theorem Tryz.fieldsMove : ∃ f0 f1 : Field, Tryz.prog.underlying 65 = some (.struct #[f0, f1]) ∧ (f0.type = 3 ∧ f0.offset = 0) ∧ (f1.type = 9 ∧ f1.offset = 1) :=
 ⟨_, _, Tryz.underlying65, ⟨rfl, rfl⟩, ⟨rfl, rfl⟩⟩
section
variable {H : Type} {enc : TypeId × Value → H}
set_option maxRecDepth 100000 in
theorem open_move {W : World} {sp : Nat → Bool} {hd : Bool} {n : Nat} {cs : List Value} {y : DataW H × List MemPlace} (h : DataW.trod enc Tryz.prog W 0 sp hd n 65 cs = some y) : ∃ x : Rf.MoveV, cs = [.int .i64 x.kd, .string x.s] ∧ x.s.size ≤ maxLen := by
 obtain ⟨f0, f1, hu, ⟨t0, o0⟩, ⟨t1, o1⟩⟩ := Tryz.fieldsMove
 obtain ⟨xs, k, _, _, hlen, hxl, hf⟩ := DataW.trod_struct hu h
 rw [Tryz.cellsMove] at hlen
 match xs, hxl, cs, hlen with
 | [y0, y1], _, [v0, v1], _ =>
  have g0 := hf 0 f0 rfl
  have g1 := hf 1 f1 rfl
  rw [t0, o0, Tryz.cellsInt] at g0
  rw [t1, o1, Tryz.cellsStr] at g1
  simp only [List.drop_zero, List.drop_succ_cons, List.take_succ_cons, List.take_zero, List.getElem?_cons_zero, List.getElem?_cons_succ] at g0 g1
  obtain ⟨n0, e0, _, _⟩ := DataW.trod_int Tryz.underlying3 g0
  obtain ⟨s, e1, _, hs⟩ := DataW.trod_string Tryz.underlying9 g1
  simp only [List.cons.injEq, and_true] at e0 e1
  subst e0 e1
  exact ⟨⟨n0, s⟩, rfl, hs⟩
theorem open_moves {W : World} {v : Value} {d : DataW H} {p : List MemPlace} (hd : DataW.Trod enc Tryz.prog W 0 (fun _ => true) true 22 v d p) (hok : ∃ a len cap, v = .slice a len cap)
  (hsz : ∀ elems spare, d = .slice elems spare → (elems.length + spare.length) * 24 ≤ reachBytes) :
  ∃ l, MovesAt W v l ∧ (∀ x ∈ l, x.s.size ≤ maxLen) ∧ l.length * 24 ≤ 140737488355328 := by
 obtain ⟨a0, len0, cap0, rfl⟩ := hok
 obtain ⟨n, hn⟩ := hd
 have hn' : DataW.trod enc Tryz.prog W 0 (fun _ => true) true n 22 [.slice a0 len0 cap0] = some (d, p) := hn
 rcases open_slice Tryz.underlying22 hn' with ⟨hc, hx⟩ | ⟨a, len, cap, m, k, D, Pl, hc, _, hl, hm, hmm, hx, hall⟩
 ·simp only [List.cons.injEq, and_true] at hc
  exact ⟨[], .inl ⟨rfl, none, 0, hc⟩, by simp, by decide⟩
 ·simp only [List.cons.injEq, and_true] at hc
  simp only [if_true] at hmm
  subst hmm
  simp only [Prod.mk.injEq] at hx
  have hsz' := hsz _ _ hx.1
  simp only [List.length_map, List.length_range, reachBytes] at hsz'
  rw [Tryz.cellsMove] at hall
  have each : ∀ i, i < m → ∃ x : Rf.MoveV, x.s.size ≤ maxLen ∧ W.cell? (a.add (i * 2)) = some (.int .i64 x.kd) ∧ W.cell? (a.add (i * 2 + 1)) = some (.string x.s) := fun i hi => by
   obtain ⟨cs, h1, h2⟩ := hall i hi
   obtain ⟨x, rfl, hxok⟩ := open_move h2
   obtain ⟨_, hlen, hcell⟩ := World.cells?_some h1
   refine ⟨x, hxok, ?_, ?_⟩
   ·have := hcell 0 (by omega)
    rw [add_add, Nat.add_zero] at this
    exact this
   ·have := hcell 1 (by omega)
    rw [add_add] at this
    exact this
  have : Inhabited Rf.MoveV := ⟨⟨0, ⟨#[]⟩⟩⟩
  obtain ⟨X, hX⟩ := choose_lt each
  by_cases h0 : len = 0
  ·subst h0
   exact ⟨[], .inl ⟨rfl, some a, m, hc⟩, by simp, by decide⟩
  ·obtain ⟨sb, so, spot⟩ := a
   have h00 := (hX 0 (by omega)).2.1
   have hspot : spot = none := by simpa [Addr.add] using World.cell?_spot h00
   subst hspot
   refine ⟨(List.range len).map X, .inr ⟨sb, so, m, ?_, ?_, fun i x hi => ?_⟩, fun x hx => ?_, ?_⟩
   ·rw [hc, List.length_map, List.length_range]
   ·have h9 : W.cell? ⟨sb, so, none⟩ = some (.int .i64 (X 0).kd) := by simpa [Addr.add] using h00
    exact cell_lt h9
   ·rw [List.getElem?_map] at hi
    obtain ⟨i', hi', rfl⟩ := Option.map_eq_some_iff.1 hi
    have hil := (List.getElem?_eq_some_iff.1 hi').1
    rw [List.length_range] at hil
    rw [List.getElem?_range hil] at hi'
    obtain rfl := Option.some.inj hi'
    obtain ⟨_, t0, t1⟩ := hX i (by omega)
    rw [Addr.add_lit] at t0 t1
    exact ⟨t0, by rw [Nat.add_assoc]; exact t1⟩
   ·obtain ⟨i, hi, rfl⟩ := List.mem_map.1 hx
    exact (hX i (by have := List.mem_range.1 hi; omega)).1
   ·rw [List.length_map, List.length_range]
    omega
end
end Go.Proofs.YtbiojnljihgpoaaGreatDoor
