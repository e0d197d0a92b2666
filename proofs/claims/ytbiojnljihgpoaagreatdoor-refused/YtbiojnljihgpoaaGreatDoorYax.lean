
import Derived.Test.YtbiojnljihgpoaaGreatDoorYaw
import Derived.Test.YtbiojnljihgpoaaGreatDoorYaf
import Derived.Test.YtbiojnljihgpoaaGreatDoorYau
import Derived.Test.YtbiojnljihgpoaaGreatDoorYav
namespace Go.Proofs.YtbiojnljihgpoaaGreatDoor
open Go.RowKit
theorem cells4 {w : World} {b : Nat} {p : Rf.Part} (h : w.heap[b]? = some (.cells #[.int .i64 p.kind, .string p.name, .int .i64 p.value, .int .i64 p.args] 101 (0, 0))) : w.cell? ⟨b, 0, none⟩ = some (.int .i64 p.kind) ∧ w.cell? ⟨b, 1, none⟩ = some (.string p.name) ∧ w.cell? ⟨b, 2, none⟩ = some (.int .i64 p.value) ∧ w.cell? ⟨b, 3, none⟩ = some (.int .i64 p.args) ∧ b < w.heap.size := ⟨blk_cell h 0, blk_cell h 1, blk_cell h 2, blk_cell h 3, blk_lt h⟩
theorem Seen.dropIf {α : Type} {w : World} {e : TypeId} {C : α → List Value} {size : Nat} {g off n cap : Nat} {xs : List α} (h : Seen w e C (.slice (some ⟨g, off, none⟩) n cap) xs) (hC : ∀ x, (C x).length = size) (k : Nat) (hk : k ≤ xs.length) : Seen w e C (.slice (if cap = k then some ⟨g, off, none⟩ else some ⟨g, off + k * size, none⟩) (xs.length - k) (cap - k)) (xs.drop k) := by
 split
 ·rename_i hc
  have := h.dropEnd k hc
  rw [show cap - k = 0 by omega]; exact this
 ·exact h.drop hC k hk
set_option maxHeartbeats 400000 in
theorem ptopA_any (a : Option Addr) (n c : Nat) (ps : List Rf.Part) (w : World) (h : Seen w 101 partCells (.slice a n c) ps) :
  Calls Tryz.prog 71 #[.slice a n c] w fun r w' => r = .returned (.agg #[.int .i64 (Rf.topP ps).kind, .string (Rf.topP ps).name, .int .i64 (Rf.topP ps).value, .int .i64 (Rf.topP ps).args]) ∧ Below w.heap.size w w' := by
 cases ps with
 | nil =>
  have hn : n = 0 := h.len
  subst hn
  clear h
  go_enter Tryz.func71, Tryz.ntmps71
  go_wp2
  refine bodyPost_ret (v := .agg #[.int .i64 0, .string ⟨#[]⟩, .int .i64 0, .int .i64 0]) (by simp [results, Tryz.results71, go_sem, *]) rfl ?_
  exact ⟨rfl, (by repeat(first|exact bel0 _ _|refine bel1 ?_ (by simp<;>omega) _|refine bel2 ?_|refine bel3 ?_ _|refine bel4 ?_ (by simp<;>omega) _))⟩
 | cons p rest =>
  obtain ⟨g, off, rfl⟩ := h.pos (by simp)
  exact ptop_any g off n c p rest w h
set_option maxHeartbeats 400000 in
theorem pnumber_kind (p : Rf.Part) (w : World) :
  Calls Tryz.prog 138 #[.agg #[.int .i64 p.kind, .string p.name, .int .i64 p.value, .int .i64 p.args]] w fun r w' => r = .returned (.int .i64 (Rf.numberK p)) ∧ Below w.heap.size w w' := by
 have HK : Hid (Rf.numberK p = if p.kind = 1 then 9 else if p.kind = 2 then 0 else 10) := rfl
 by_cases h1 : p.kind = 1
 ·have hv : Hid (Rf.numberK p = 9) := by unfold Hid; rw [HK.out, if_pos h1]
  go_enter Tryz.func138, Tryz.ntmps138
  go_wp2
  go_ret
  exact ⟨ret_int hv.out.symm, (by repeat(first|exact bel0 _ _|refine bel1 ?_ (by simp<;>omega) _|refine bel2 ?_|refine bel3 ?_ _|refine bel4 ?_ (by simp<;>omega) _))⟩
 ·have h1' : (p.kind == 1) = false := beq_eq_false_iff_ne.2 h1
  by_cases h2 : p.kind = 2
  ·have hv : Hid (Rf.numberK p = 0) := by unfold Hid; rw [HK.out, if_neg h1, if_pos h2]
   go_enter Tryz.func138, Tryz.ntmps138
   go_wp2
   go_ret
   exact ⟨ret_int hv.out.symm, (by repeat(first|exact bel0 _ _|refine bel1 ?_ (by simp<;>omega) _|refine bel2 ?_|refine bel3 ?_ _|refine bel4 ?_ (by simp<;>omega) _))⟩
  ·have h2' : (p.kind == 2) = false := beq_eq_false_iff_ne.2 h2
   have hv : Hid (Rf.numberK p = 10) := by unfold Hid; rw [HK.out, if_neg h1, if_neg h2]
   clear h1 h2
   go_enter Tryz.func138, Tryz.ntmps138
   go_wp2
   go_ret
   exact ⟨ret_int hv.out.symm, (by repeat(first|exact bel0 _ _|refine bel1 ?_ (by simp<;>omega) _|refine bel2 ?_|refine bel3 ?_ _|refine bel4 ?_ (by simp<;>omega) _))⟩
set_option maxHeartbeats 400000 in
theorem pisNamed_any (s : ByteArray) (w : World) :
  Calls Tryz.prog 49 #[.string s] w fun r w' => r = .returned (.bool (Rf.isNamedB s)) ∧ w' = w := by
 by_cases h0 : 0 < s.size
 ·have hv : Hid (Rf.isNamedB s = ((s[0].toNat : Int) != 95)) := by
   unfold Hid Rf.isNamedB
   rw [Rf.byteAt_eq s 0 h0]
   generalize Rf.byteAt s 0 = x
   simp only [h0, decide_true, Bool.true_and]
   by_cases hx : x = 95
   ·subst hx; rfl
   ·rw [decide_eq_true hx]; exact (bne_iff_ne.2 hx).symm
  go_enter Tryz.func49, Tryz.ntmps49
  go_wp2
  go_ret
  exact ⟨ret_bool hv.out.symm, rfl⟩
 ·have hv : Hid (Rf.isNamedB s = false) := by unfold Hid Rf.isNamedB; simp [h0]
  go_enter Tryz.func49, Tryz.ntmps49
  go_wp2
  go_ret
  exact ⟨ret_bool hv.out.symm, rfl⟩
set_option maxHeartbeats 1000000 in
theorem parg_any (a : Option Addr) (n c i : Nat) (ps : List Rf.Part) (w : World) (h : Seen w 101 partCells (.slice a n c) ps) (h4 : Rf.ArgsOk ps) (hl : ps.length ≤ 400) (hi : i ≤ 10) :
  Calls Tryz.prog 112 #[.slice a n c, .int .i64 (i : Nat)] w fun r w' => ∃ a3 n3 c3, r = .returned (.slice a3 n3 c3) ∧ Seen w' 101 partCells (.slice a3 n3 c3) (Rf.argT ps i) ∧ Below w.heap.size w w' := by
 cases ps with
 | nil =>
  have hn : n = 0 := h.len
  subst hn
  have hv : Hid (Rf.argT [] i = []) := rfl
  clear h
  go_enter Tryz.func112, Tryz.ntmps112
  go_wp2
  go_ret
  exact ⟨_, _, _, rfl, by rw [hv.out]; exact Seen.nil, Below.refl _ _⟩
 | cons p t =>
  obtain ⟨g, off, rfl⟩ := h.pos (by simp)
  have hn : n = t.length + 1 := h.len
  subst hn
  have hcap := h.cap
  have hv : Hid (Rf.argT (p :: t) i = Rf.argN i t) := rfl
  have H : Hid _ := h
  have H4 : Hid (Rf.ArgsOk t) := fun x hx => h4 x (List.mem_cons_of_mem _ hx)
  simp only [List.length_cons] at hl hcap
  clear h h4
  go_enter Tryz.func112, Tryz.ntmps112
  have hstart : ∀ (a3 : Option Addr) (n3 c3 : Nat), Seen w 101 partCells (.slice a3 n3 c3) t → ∃ (k : Nat) (rs : List Rf.Part) (ar : Option Addr) (nr cr : Nat), k ≤ i ∧ (.int .i64 (0 : Int) : Value) = .int .i64 (k : Nat) ∧ (.slice a3 n3 c3 : Value) = .slice ar nr cr ∧ Seen w 101 partCells (.slice ar nr cr) rs ∧ Rf.ArgsOk rs ∧ rs.length ≤ 400 ∧ Hid (Rf.argN i t = Rf.argN (i - k) rs) ∧ Below w.heap.size w w := fun a3 n3 c3 h3 => ⟨0, t, a3, n3, c3, Nat.zero_le _, rfl, rfl, h3, H4.out, by omega, rfl, Below.refl _ _⟩
  have HD1 : Hid (c = 1 → Seen w 101 partCells (.slice (some ⟨g, off, none⟩) t.length 0) t) := fun hc => by have h9 := H.out.dropEnd 1 hc; simpa using h9
  have HD2 : Hid (Seen w 101 partCells (.slice (some ⟨g, off + 4, none⟩) t.length (c - 1)) t) := by unfold Hid; have h9 := H.out.drop partCells_len 1 (by simp); simpa using h9
  have HSt : Hid _ := hstart
  clear hstart
  go_wp2_with fail
  all_goals
   go_loopw [5, 6] (fun rv iv wr => ∃ (k : Nat) (rs : List Rf.Part) (ar : Option Addr) (nr cr : Nat), k ≤ i ∧ iv = .int .i64 (k : Nat) ∧ rv = .slice ar nr cr ∧ Seen wr 101 partCells (.slice ar nr cr) rs ∧ Rf.ArgsOk rs ∧ rs.length ≤ 400 ∧ Hid (Rf.argN i t = Rf.argN (i - k) rs) ∧ Below w.heap.size w wr) (fun _ iv _ => i - (intOf iv).toNat)
   case atStart => first | exact HSt.out _ _ _ (HD1.out ‹_›) | exact HSt.out _ _ _ HD2.out
   case round =>
    obtain ⟨k, rs, ar, nr, cr, hk, rfl, rfl, hS, hA, hrl, hinv, hbr⟩ := hrel
    have hnr : nr = rs.length := hS.len
    subst hnr
    have hsz := hbr.size
    have hld := Rf.lead_le rs
    have hcr := hS.cap
    have HS : Hid _ := hS
    have HA : Hid _ := hA
    by_cases hlt : k < i
    ·have hlt' : (k : Int) < (i : Nat) := by omega
     rw [show i - k = (i - (k + 1)) + 1 by omega, Rf.argN] at hinv
     rcases hS.shape with ⟨hv1, rfl⟩ | ⟨g1, o1, c1, hv1, hg1, _, _⟩
     ·injection hv1 with e1 e2 e3
      subst e1; subst e3
      clear hS hA
      go_wp2_with (go_at_call 128; refine (plead_any _ none 0 0 [] HS.out HA.out (by simp)).mono ?_; rintro r w2 ⟨rfl, hb2⟩)
      go_roundw
      case rel => exact ⟨k + 1, [], none, 0, 0, by omega, by go_num, rfl, Seen.nil, HA.out, by simp, hinv, hbr.trans (hb2.mono hsz)⟩
      case measure => simp [intOf]; omega
     ·injection hv1 with e1 e2 e3
      subst e1; subst e3
      obtain ⟨L, hL⟩ : ∃ L, Hid (Rf.leadT rs = L) := ⟨_, rfl⟩
      rw [hL.out] at hld hinv
      clear hS hA
      have HDb : Hid (∀ w2, Below wr.heap.size wr w2 → Seen w2 101 partCells (.slice (if cr = L then some ⟨g1, o1, none⟩ else some ⟨g1, o1 + L * 4, none⟩) (rs.length - L) (cr - L)) (rs.drop L)) := fun w2 hb => Seen.dropIf (HS.out.below hb) partCells_len L hld
      have HAd : Hid (Rf.ArgsOk (rs.drop L)) := fun x hx => HA.out x (List.mem_of_mem_drop hx)
      have hdl : (rs.drop L).length ≤ 400 := by rw [List.length_drop]; omega
      have hdl2 : Hid ((rs.drop L).length = rs.length - L) := List.length_drop
      go_wp2_with (go_at_call 128; refine (plead_any _ (some ⟨g1, o1, none⟩) _ cr rs HS.out HA.out (by omega)).mono ?_; rintro r w2 ⟨rfl, hb2⟩; rw [hL.out])
      all_goals
       go_roundw
       case rel => exact ⟨k + 1, rs.drop L, _, _, _, by omega, by go_num, rfl, HDb.out _ hb2, HAd.out, hdl, hinv, hbr.trans (hb2.mono hsz)⟩
       case measure => simp [intOf]; omega
    ·obtain rfl : k = i := by omega
     rw [Nat.sub_self, Rf.argN] at hinv
     rcases hS.shape with ⟨hv1, rfl⟩ | ⟨g1, o1, c1, hv1, hg1, _, _⟩
     ·injection hv1 with e1 e2 e3
      subst e1; subst e3
      clear hS hA
      go_wp2_with (go_at_call 128; refine (plead_any _ none 0 0 [] HS.out HA.out (by simp)).mono ?_; rintro r w2 ⟨rfl, hb2⟩)
      go_ret
      refine ⟨_, _, _, rfl, ?_, hbr.trans (hb2.mono hsz)⟩
      rw [hv.out, hinv.out]; exact Seen.nil
     ·injection hv1 with e1 e2 e3
      subst e1; subst e3
      obtain ⟨L, hL⟩ : ∃ L, Hid (Rf.leadT rs = L) := ⟨_, rfl⟩
      rw [hL.out] at hld hinv
      clear hS hA
      go_wp2_with (go_at_call 128; refine (plead_any _ (some ⟨g1, o1, none⟩) _ cr rs HS.out HA.out (by omega)).mono ?_; rintro r w2 ⟨rfl, hb2⟩; rw [hL.out])
      go_ret
      refine ⟨_, _, _, rfl, ?_, hbr.trans (hb2.mono hsz)⟩
      rw [hv.out, hinv.out]
      exact (HS.out.below hb2).take L hld
theorem parg0_any (a : Option Addr) (n c : Nat) (ps : List Rf.Part) (w : World) (h : Seen w 101 partCells (.slice a n c) ps) (h4 : Rf.ArgsOk ps) (hl : ps.length ≤ 400) : Calls Tryz.prog 112 #[.slice a n c, .int .i64 0] w fun r w' => ∃ a3 n3 c3, r = .returned (.slice a3 n3 c3) ∧ Seen w' 101 partCells (.slice a3 n3 c3) (Rf.argT ps 0) ∧ Below w.heap.size w w' := parg_any a n c 0 ps w h h4 hl (by omega)
theorem parg1_any (a : Option Addr) (n c : Nat) (ps : List Rf.Part) (w : World) (h : Seen w 101 partCells (.slice a n c) ps) (h4 : Rf.ArgsOk ps) (hl : ps.length ≤ 400) : Calls Tryz.prog 112 #[.slice a n c, .int .i64 1] w fun r w' => ∃ a3 n3 c3, r = .returned (.slice a3 n3 c3) ∧ Seen w' 101 partCells (.slice a3 n3 c3) (Rf.argT ps 1) ∧ Below w.heap.size w w' := parg_any a n c 1 ps w h h4 hl (by omega)
theorem parg2_any (a : Option Addr) (n c : Nat) (ps : List Rf.Part) (w : World) (h : Seen w 101 partCells (.slice a n c) ps) (h4 : Rf.ArgsOk ps) (hl : ps.length ≤ 400) : Calls Tryz.prog 112 #[.slice a n c, .int .i64 2] w fun r w' => ∃ a3 n3 c3, r = .returned (.slice a3 n3 c3) ∧ Seen w' 101 partCells (.slice a3 n3 c3) (Rf.argT ps 2) ∧ Below w.heap.size w w' := parg_any a n c 2 ps w h h4 hl (by omega)
set_option maxHeartbeats 600000 in
set_option maxRecDepth 100000 in
theorem pnumbers_any (a : Option Addr) (n c : Nat) (ps : List Rf.Part) (w : World) (h : Seen w 101 partCells (.slice a n c) ps) (h4 : Rf.ArgsOk ps) (hl : ps.length ≤ 400) :
  Calls Tryz.prog 129 #[.slice a n c] w fun r w' => ∃ x y, r = .returned (.tuple #[.int .i64 x, .int .i64 y, .int .i64 (Rf.numbersK ps)]) ∧ (Rf.numbersK ps = 0 → x = Rf.num0 ps ∧ y = Rf.num1 ps) ∧ Below w.heap.size w w' := by
 have H : Hid _ := h
 have H4 : Hid (Rf.ArgsOk ps) := h4
 obtain ⟨K0, e0⟩ : ∃ K, Hid (Rf.numberK (Rf.topP (Rf.argT ps 0)) = K) := ⟨_, rfl⟩
 obtain ⟨K1, e1⟩ : ∃ K, Hid (Rf.numberK (Rf.topP (Rf.argT ps 1)) = K) := ⟨_, rfl⟩
 have HK : Hid (Rf.numbersK ps = if K0 = 0 then K1 else K0) := by unfold Hid Rf.numbersK; rw [e0.out, e1.out]
 clear h h4
 by_cases h0 : K0 = 0
 ·subst h0
  by_cases h1 : K1 = 0
  ·subst h1
   go_enter Tryz.func129, Tryz.ntmps129
   go_wp2_with (first
    | (go_at_call 112; first
     | (have hm := hb2; refine (parg1_any a n c ps _ (hSw.out.below (by repeat(first|exact bel0 _ _|refine bel1 ?_ (by simp<;>omega) _|refine bel2 ?_|refine bel3 ?_ _|refine bel4 ?_ (by simp<;>omega) _))) H4.out hl).mono ?_; rintro r w3 ⟨a3, n3, c3, rfl, hS3, hb3⟩; have hbw3 : Below w.heap.size w w3 := hbw2.trans (Below.trans ((Below.refl _ w2).alloc hz2 _) (hb3.mono (by rw [World.size_alloc]; omega))))
     | (refine (parg0_any a n c ps _ H.out H4.out hl).mono ?_; rintro r w1 ⟨a1, n1, c1, rfl, hS1, hb1⟩))
    | (go_at_call 71; first
     | (refine (ptopA_any a3 n3 c3 _ _ hS3).mono ?_; rintro r w4 ⟨rfl, hb4⟩; have hbw4 : Below w.heap.size w w4 := hbw3.trans (hb4.mono hbw3.size); have hz4 := hbw4.size; have B0 := (hb4.block w2.heap.size (by have := hb3.size; rw [World.size_alloc] at this; omega)).trans ((hb3.block w2.heap.size (by rw [World.size_alloc]; omega)).trans (blk_new w2 _)); obtain ⟨c0, c1', c2, c3', l0⟩ := cells4 B0; obtain ⟨p1, hp1⟩ : ∃ p, Hid (Rf.topP (Rf.argT ps 1) = p) := ⟨_, rfl⟩; rw [hp1.out])
     | (refine (ptopA_any a1 n1 c1 _ _ hS1).mono ?_; rintro r w2 ⟨rfl, hb2⟩; have hbw2 : Below w.heap.size w w2 := hb1.trans (hb2.mono hb1.size); have hz2 := hbw2.size; have hSw : Hid _ := H.out.below hbw2; obtain ⟨p0, hp0⟩ : ∃ p, Hid (Rf.topP (Rf.argT ps 0) = p) := ⟨_, rfl⟩; rw [hp0.out]))
    | (go_at_call 138; first
     | (have hm := hb5; refine (pnumber_kind p1 _).mono ?_; rintro r w6 ⟨rfl, hb6⟩; have hbw6 : Below w.heap.size w w6 := hbw5.trans (hb6.mono hbw5.size); have D0 := (hb6.block w2.heap.size l5).trans C0; have D1 := (hb6.block w4.heap.size l6).trans C1; obtain ⟨q0, q1, q2, q3, l7⟩ := cells4 D0; obtain ⟨r0, r1, r2, r3, l8⟩ := cells4 D1; rw [← hp1.out, e1.out])
     | (refine (pnumber_kind p0 _).mono ?_; rintro r w5 ⟨rfl, hb5⟩; have hbw5 : Below w.heap.size w w5 := hbw4.trans (Below.trans ((Below.refl _ w4).alloc hz4 _) (hb5.mono (by rw [World.size_alloc]; omega))); have C0 := (hb5.block w2.heap.size (by rw [World.size_alloc]; omega)).trans (blk_alloc B0 _); have C1 := (hb5.block w4.heap.size (by rw [World.size_alloc]; omega)).trans (blk_new w4 _); obtain ⟨d0, d1, d2, d3, l5⟩ := cells4 C0; obtain ⟨f0, f1, f2, f3, l6⟩ := cells4 C1; rw [← hp0.out, e0.out])))
   go_quiet (fail)
   go_wp2_with fail
   go_ret3
   have hN : Rf.numbersK ps = 0 := by have h9 := HK.out; simpa using h9
   refine ⟨p0.value, p1.value, by rw [hN]; rfl, fun _ => ⟨by rw [← hp0.out]; rfl, by rw [← hp1.out]; rfl⟩, ?_⟩
   first | exact hbw6 | exact hbw6.drew | exact hbw6.drewN _
  ·have h1' : (K1 == 0) = false := beq_eq_false_iff_ne.2 h1
   go_enter Tryz.func129, Tryz.ntmps129
   go_wp2_with (first
    | (go_at_call 112; first
     | (have hm := hb2; refine (parg1_any a n c ps _ (hSw.out.below (by repeat(first|exact bel0 _ _|refine bel1 ?_ (by simp<;>omega) _|refine bel2 ?_|refine bel3 ?_ _|refine bel4 ?_ (by simp<;>omega) _))) H4.out hl).mono ?_; rintro r w3 ⟨a3, n3, c3, rfl, hS3, hb3⟩; have hbw3 : Below w.heap.size w w3 := hbw2.trans (Below.trans ((Below.refl _ w2).alloc hz2 _) (hb3.mono (by rw [World.size_alloc]; omega))))
     | (refine (parg0_any a n c ps _ H.out H4.out hl).mono ?_; rintro r w1 ⟨a1, n1, c1, rfl, hS1, hb1⟩))
    | (go_at_call 71; first
     | (refine (ptopA_any a3 n3 c3 _ _ hS3).mono ?_; rintro r w4 ⟨rfl, hb4⟩; have hbw4 : Below w.heap.size w w4 := hbw3.trans (hb4.mono hbw3.size); have hz4 := hbw4.size; have B0 := (hb4.block w2.heap.size (by have := hb3.size; rw [World.size_alloc] at this; omega)).trans ((hb3.block w2.heap.size (by rw [World.size_alloc]; omega)).trans (blk_new w2 _)); obtain ⟨c0, c1', c2, c3', l0⟩ := cells4 B0; obtain ⟨p1, hp1⟩ : ∃ p, Hid (Rf.topP (Rf.argT ps 1) = p) := ⟨_, rfl⟩; rw [hp1.out])
     | (refine (ptopA_any a1 n1 c1 _ _ hS1).mono ?_; rintro r w2 ⟨rfl, hb2⟩; have hbw2 : Below w.heap.size w w2 := hb1.trans (hb2.mono hb1.size); have hz2 := hbw2.size; have hSw : Hid _ := H.out.below hbw2; obtain ⟨p0, hp0⟩ : ∃ p, Hid (Rf.topP (Rf.argT ps 0) = p) := ⟨_, rfl⟩; rw [hp0.out]))
    | (go_at_call 138; first
     | (have hm := hb5; refine (pnumber_kind p1 _).mono ?_; rintro r w6 ⟨rfl, hb6⟩; have hbw6 : Below w.heap.size w w6 := hbw5.trans (hb6.mono hbw5.size); have D0 := (hb6.block w2.heap.size l5).trans C0; have D1 := (hb6.block w4.heap.size l6).trans C1; obtain ⟨q0, q1, q2, q3, l7⟩ := cells4 D0; obtain ⟨r0, r1, r2, r3, l8⟩ := cells4 D1; rw [← hp1.out, e1.out])
     | (refine (pnumber_kind p0 _).mono ?_; rintro r w5 ⟨rfl, hb5⟩; have hbw5 : Below w.heap.size w w5 := hbw4.trans (Below.trans ((Below.refl _ w4).alloc hz4 _) (hb5.mono (by rw [World.size_alloc]; omega))); have C0 := (hb5.block w2.heap.size (by rw [World.size_alloc]; omega)).trans (blk_alloc B0 _); have C1 := (hb5.block w4.heap.size (by rw [World.size_alloc]; omega)).trans (blk_new w4 _); obtain ⟨d0, d1, d2, d3, l5⟩ := cells4 C0; obtain ⟨f0, f1, f2, f3, l6⟩ := cells4 C1; rw [← hp0.out, e0.out])))
   go_ret3
   have hN : Rf.numbersK ps = K1 := by have h9 := HK.out; simpa using h9
   refine ⟨0, 0, by rw [hN]; rfl, fun e => absurd (hN.symm.trans e) h1, ?_⟩
   first | exact hbw6 | exact hbw6.drew | exact hbw6.drewN _
 ·have h0' : (K0 == 0) = false := beq_eq_false_iff_ne.2 h0
  go_enter Tryz.func129, Tryz.ntmps129
  go_wp2_with (first
   | (go_at_call 112; first
    | (have hm := hb2; refine (parg1_any a n c ps _ (hSw.out.below (by repeat(first|exact bel0 _ _|refine bel1 ?_ (by simp<;>omega) _|refine bel2 ?_|refine bel3 ?_ _|refine bel4 ?_ (by simp<;>omega) _))) H4.out hl).mono ?_; rintro r w3 ⟨a3, n3, c3, rfl, hS3, hb3⟩; have hbw3 : Below w.heap.size w w3 := hbw2.trans (Below.trans ((Below.refl _ w2).alloc hz2 _) (hb3.mono (by rw [World.size_alloc]; omega))))
    | (refine (parg0_any a n c ps _ H.out H4.out hl).mono ?_; rintro r w1 ⟨a1, n1, c1, rfl, hS1, hb1⟩))
   | (go_at_call 71; first
    | (refine (ptopA_any a3 n3 c3 _ _ hS3).mono ?_; rintro r w4 ⟨rfl, hb4⟩; have hbw4 : Below w.heap.size w w4 := hbw3.trans (hb4.mono hbw3.size); have hz4 := hbw4.size; have B0 := (hb4.block w2.heap.size (by have := hb3.size; rw [World.size_alloc] at this; omega)).trans ((hb3.block w2.heap.size (by rw [World.size_alloc]; omega)).trans (blk_new w2 _)); obtain ⟨c0, c1', c2, c3', l0⟩ := cells4 B0; obtain ⟨p1, hp1⟩ : ∃ p, Hid (Rf.topP (Rf.argT ps 1) = p) := ⟨_, rfl⟩; rw [hp1.out])
    | (refine (ptopA_any a1 n1 c1 _ _ hS1).mono ?_; rintro r w2 ⟨rfl, hb2⟩; have hbw2 : Below w.heap.size w w2 := hb1.trans (hb2.mono hb1.size); have hz2 := hbw2.size; have hSw : Hid _ := H.out.below hbw2; obtain ⟨p0, hp0⟩ : ∃ p, Hid (Rf.topP (Rf.argT ps 0) = p) := ⟨_, rfl⟩; rw [hp0.out]))
   | (go_at_call 138; first
    | (have hm := hb5; refine (pnumber_kind p1 _).mono ?_; rintro r w6 ⟨rfl, hb6⟩; have hbw6 : Below w.heap.size w w6 := hbw5.trans (hb6.mono hbw5.size); have D0 := (hb6.block w2.heap.size l5).trans C0; have D1 := (hb6.block w4.heap.size l6).trans C1; obtain ⟨q0, q1, q2, q3, l7⟩ := cells4 D0; obtain ⟨r0, r1, r2, r3, l8⟩ := cells4 D1; rw [← hp1.out, e1.out])
    | (refine (pnumber_kind p0 _).mono ?_; rintro r w5 ⟨rfl, hb5⟩; have hbw5 : Below w.heap.size w w5 := hbw4.trans (Below.trans ((Below.refl _ w4).alloc hz4 _) (hb5.mono (by rw [World.size_alloc]; omega))); have C0 := (hb5.block w2.heap.size (by rw [World.size_alloc]; omega)).trans (blk_alloc B0 _); have C1 := (hb5.block w4.heap.size (by rw [World.size_alloc]; omega)).trans (blk_new w4 _); obtain ⟨d0, d1, d2, d3, l5⟩ := cells4 C0; obtain ⟨f0, f1, f2, f3, l6⟩ := cells4 C1; rw [← hp0.out, e0.out])))
  go_ret3
  have hN : Rf.numbersK ps = K0 := by have h9 := HK.out; rw [if_neg h0] at h9; exact h9
  refine ⟨0, 0, by rw [hN]; rfl, fun e => absurd (hN.symm.trans e) h0, ?_⟩
  first | exact hbw5 | exact hbw5.drew | exact hbw5.drewN _
end Go.Proofs.YtbiojnljihgpoaaGreatDoor
namespace Rf
def numW (ns : List Int) (v : Int) : Int := if v ∈ ns then (ns.idxOf v : Nat) + 1 else 0
theorem idx_ne {l : List Int} {x v : Int} (h : x ≠ v) : (x :: l).idxOf v = l.idxOf v + 1 := by
 rw [List.idxOf_cons, beq_eq_false_iff_ne.2 h]; rfl
theorem idxOf_new : ∀ {ns : List Int} {v : Int}, v ∉ ns → (ns ++ [v]).idxOf v = ns.length
 | [], v, _ => by simp
 | u :: ns, v, h => by
  have hne : u ≠ v := fun e => h (by simp [e])
  have := idxOf_new (ns := ns) (v := v) (fun e => h (List.mem_cons_of_mem _ e))
  rw [List.cons_append, idx_ne hne, this]
  rfl
theorem idxOf_old : ∀ {ns : List Int} {u v : Int}, u ∈ ns → (ns ++ [v]).idxOf u = ns.idxOf u
 | [], _, _, h => by cases h
 | x :: ns, u, v, h => by
  by_cases hx : x = u
  ·subst hx; simp
  ·have hm : u ∈ ns := by
    rcases List.mem_cons.1 h with rfl | h
    ·exact absurd rfl hx
    ·exact h
   rw [List.cons_append, idx_ne hx, idx_ne hx, idxOf_old hm]
theorem idxOf_le : ∀ (ns : List Int) (v : Int), ns.idxOf v ≤ ns.length
 | [], _ => by simp
 | x :: ns, v => by
  by_cases hx : x = v
  ·subst hx; simp
  ·rw [idx_ne hx]; have := idxOf_le ns v; simp; omega
theorem numW_new {ns : List Int} {v : Int} (h : v ∉ ns) : numW (ns ++ [v]) v = (ns.length : Int) + 1 := by
 unfold numW
 rw [if_pos (by simp), idxOf_new h]
theorem numW_old {ns : List Int} {u v : Int} (h : u ≠ v) : numW (ns ++ [v]) u = numW ns u := by
 unfold numW
 by_cases hu : u ∈ ns
 ·rw [if_pos (by simp [hu]), if_pos hu, idxOf_old hu]
 ·rw [if_neg (by simp [hu, h]), if_neg hu]
end Rf
namespace Go.Proofs.YtbiojnljihgpoaaGreatDoor
open Go.RowKit
structure NumAt (w : World) (nb g past : Nat) (ns : List Int) : Prop where
 n : w.heap[nb]? = some (.cells #[.slice (some ⟨g, 0, none⟩) past past, .int .i64 (ns.length : Nat)] 156 (0, 0))
 r : ∃ cur : Array Value, w.heap[g]? = some (.cells cur 3 (0, 0)) ∧ cur.size = past ∧ ∀ v, v < past → cur[v]? = some (.int .i64 (Rf.numW ns v))
 ne : g ≠ nb
 small : past ≤ 1000000
set_option maxHeartbeats 1000000 in
theorem pnumber_any (w : World) (nb g past : Nat) (ns : List Int) (v : Nat) (h : NumAt w nb g past ns) (hv : v < past) (hl : ns.length ≤ 1000000000) :
  Calls Tryz.prog 130 #[.pointer (some ⟨nb, 0, none⟩), .int .i64 (v : Int)] w fun r w' => r = .returned (.int .i64 ((Rf.numV ns v).idxOf (v : Int) : Nat)) ∧ NumAt w' nb g past (Rf.numV ns v) ∧ Kept (fun k => k = nb ∨ k = g) w w' := by
 obtain ⟨hn, ⟨cur, hr, hcs, hcv⟩, hne, hs⟩ := h
 have k0 := blk_cell hn 0
 have k1 := blk_cell hn 1
 have kf := blk_frozen hn
 have kl := blk_lt hn
 have gf := blk_frozen hr
 have gl := blk_lt hr
 simp at k0 k1
 have gv : w.cell? ⟨g, v, none⟩ = some (.int .i64 (Rf.numW ns v)) := by rw [blk_cell hr]; exact hcv v hv
 have hne' : nb ≠ g := Ne.symm hne
 have hneF : ¬ nb = g := hne'
 have hneG : ¬ g = nb := hne
 have Hn : Hid _ := hn
 have Hr : Hid _ := hr
 have Hcv : Hid _ := hcv
 have hvp : (v : Int) < past := by omega
 clear hn hr hcv
 by_cases hm : (v : Int) ∈ ns
 ·have HV : Hid (Rf.numV ns v = ns) := by unfold Hid Rf.numV; rw [if_pos hm]
  have hW : Rf.numW ns v = (ns.idxOf (v : Int) : Nat) + 1 := by unfold Rf.numW; rw [if_pos hm]
  have hil := Rf.idxOf_le ns v
  rw [hW] at gv
  clear hm hW
  obtain ⟨ix, hix⟩ : ∃ ix, Hid (ix = ns.idxOf (v : Int)) := ⟨_, rfl⟩
  rw [← hix.out] at gv hil
  have hz : (((ix : Nat) : Int) + 1 == 0) = false := beq_eq_false_iff_ne.2 (by omega)
  go_enter Tryz.func130, Tryz.ntmps130
  go_wp2_with fail
  go_ret
  refine ⟨ret_int (by rw [HV.out]; rw [hix.out]), by rw [HV.out]; exact ⟨Hn.out, ⟨cur, Hr.out, hcs, Hcv.out⟩, hne, hs⟩, Kept.refl _ _⟩
 ·have HV : Hid (Rf.numV ns v = ns ++ [(v : Int)]) := by unfold Hid Rf.numV; rw [if_neg hm]
  have hW : Rf.numW ns v = 0 := by unfold Rf.numW; rw [if_neg hm]
  have Hm : Hid _ := hm
  rw [hW] at gv
  clear hW hm
  go_enter Tryz.func130, Tryz.ntmps130
  go_wp2_with fail
  go_region
  all_goals go_wp2_with fail
  all_goals
   go_ret
   refine ⟨ret_int (by rw [HV.out, Rf.idxOf_new Hm.out] <;> omega), ?_, ?_⟩
   ·rw [HV.out]
    refine ⟨?_, ⟨cur.setIfInBounds v (.int .i64 ((ns.length : Int) + 1)), ?_, by simpa using hcs, fun u hu => ?_⟩, hne, hs⟩
    ·have h1 := blk_set Hn.out 1 (.int .i64 ((ns.length : Int) + 1))
     have h2 : ∀ (X : World) u, (X.setCell ⟨g, v, none⟩ u).heap[nb]? = X.heap[nb]? := fun X u => Below.heap_setCell _ _ _ _ hneF
     have h3 : (((ns ++ [(v : Int)]).length : Nat) : Int) = (ns.length : Int) + 1 := by simp
     rw [h3]
     exact (h2 _ _).trans h1
    ·have h2 : ∀ u, (w.setCell ⟨nb, 1, none⟩ u).heap[g]? = w.heap[g]? := fun u => Below.heap_setCell _ _ _ _ hneG
     exact blk_set ((h2 _).trans Hr.out) v _
    ·by_cases huv : u = v
     ·subst huv
      rw [Rf.numW_new Hm.out, Array.getElem?_setIfInBounds_self_of_lt (by omega)]
     ·rw [Rf.numW_old (by omega), Array.getElem?_setIfInBounds_ne (Ne.symm huv)]
      exact Hcv.out u hu
   ·exact (((Kept.refl _ w).setCell (p := ⟨nb, 1, none⟩) (Or.inr (Or.inl rfl)) _).setCell (p := ⟨g, v, none⟩) (Or.inr (Or.inr rfl)) _).drew
end Go.Proofs.YtbiojnljihgpoaaGreatDoor
namespace Rf
theorem renT_snoc : ∀ (t : List Part) (ns : List Int) (p : Part), renT ns (t ++ [p]) = ((renT ns t).1 ++ [renP (renT ns t).2 p], stepV (renT ns t).2 p)
 | [], ns, p => rfl
 | q :: t, ns, p => by
  rw [List.cons_append, renT, renT_snoc t (stepV ns q) p, renT]
  rfl
theorem numV_len (ns : List Int) (v : Int) : (numV ns v).length ≤ ns.length + 1 := by
 unfold numV; split
 ·omega
 ·simp
theorem stepV_len (ns : List Int) (p : Part) : (stepV ns p).length ≤ ns.length + 1 := by
 unfold stepV; split
 ·exact numV_len _ _
 ·omega
theorem renT_len : ∀ (t : List Part) (ns : List Int), (renT ns t).1.length = t.length ∧ (renT ns t).2.length ≤ ns.length + t.length
 | [], ns => by simp [renT]
 | q :: t, ns => by
  have h1 := renT_len t (stepV ns q)
  have h2 := stepV_len ns q
  rw [renT]
  simp only [List.length_cons]
  omega
end Rf
namespace Go.Proofs.YtbiojnljihgpoaaGreatDoor
open Go.RowKit
theorem NumAt.types {w : World} {nb g past : Nat} {ns : List Int} (h : NumAt w nb g past ns) : ∀ k cs, w.heap[k]? = some (.cells cs 101 (0, 0)) → ¬ (k = nb ∨ k = g) := by
 intro k cs hc he
 rcases he with rfl | rfl
 ·rw [h.n] at hc; injection hc with h1; injection h1 with _ h2; exact absurd h2 (by decide)
 ·obtain ⟨cur, hr, _⟩ := h.r
  rw [hr] at hc; injection hc with h1; injection h1 with _ h2; exact absurd h2 (by decide)
theorem NumAt.typesT {w : World} {nb g past : Nat} {ns : List Int} (h : NumAt w nb g past ns) : ∀ k cs, w.heap[k]? = some (.cells cs 56 (0, 0)) → ¬ (k = nb ∨ k = g) := by
 intro k cs hc he
 rcases he with rfl | rfl
 ·rw [h.n] at hc; injection hc with h1; injection h1 with _ h2; exact absurd h2 (by decide)
 ·obtain ⟨cur, hr, _⟩ := h.r
  rw [hr] at hc; injection hc with h1; injection h1 with _ h2; exact absurd h2 (by decide)
theorem NumAt.lt {w : World} {nb g past : Nat} {ns : List Int} (h : NumAt w nb g past ns) : nb < w.heap.size ∧ g < w.heap.size := by
 obtain ⟨cur, hr, _⟩ := h.r
 exact ⟨blk_lt h.n, blk_lt hr⟩
theorem NumAt.kept {M : Nat → Prop} {w w' : World} {nb g past : Nat} {ns : List Int} (h : NumAt w nb g past ns) (hk : Kept M w w') (h1 : ¬ M nb) (h2 : ¬ M g) : NumAt w' nb g past ns := by
 obtain ⟨cur, hr, h3⟩ := h.r
 exact ⟨(hk.block nb (blk_lt h.n) h1).trans h.n, ⟨cur, (hk.block g (blk_lt hr) h2).trans hr, h3⟩, h.ne, h.small⟩
theorem NumAt.below {w w' : World} {nb g past : Nat} {ns : List Int} (h : NumAt w nb g past ns) (hb : Below w.heap.size w w') : NumAt w' nb g past ns := h.kept (Kept.of_below hb (fun _ => False)) (fun e => e) (fun e => e)
set_option maxHeartbeats 2000000 in
set_option maxRecDepth 100000 in
theorem prenumber_any (w : World) (nb g past : Nat) (ns : List Int) (a : Option Addr) (n c : Nat) (ps : List Rf.Part) (hN : NumAt w nb g past ns) (hS : Seen w 101 partCells (.slice a n c) ps) (hl : ps.length ≤ 100000) (hv : ∀ p ∈ ps, p.kind = 1 → 0 ≤ p.value ∧ p.value < past) (hns : ns.length ≤ 900000000) :
  Calls Tryz.prog 118 #[.pointer (some ⟨nb, 0, none⟩), .slice a n c] w fun r w' => ∃ (a3 : Option Addr) (n3 c3 : Nat), r = .returned (.slice a3 n3 c3) ∧ Seen w' 101 partCells (.slice a3 n3 c3) (Rf.renT ns ps).1 ∧ NumAt w' nb g past (Rf.renT ns ps).2 ∧ Kept (fun k => k = nb ∨ k = g) w w' := by
 have hn : n = ps.length := hS.len
 subst hn
 have HH : Hid _ := hS
 have HV : Hid _ := hv
 have HN : Hid _ := hN
 obtain ⟨hnl, hgl0⟩ := hN.lt
 clear hS hv hN
 go_enter Tryz.func118, Tryz.ntmps118
 go_wp2_with fail
 go_loopw [5, 6, 12] (fun cv rv iv wr => ∃ (k : Nat) (b : Bool), k ≤ ps.length ∧ iv = .int .i64 k ∧ cv = .bool b ∧ Hid (b = false → (Rf.renT ns (ps.take k)).1 = ps.take k) ∧ RowIs wr w.heap.size 101 4 partCells rv (Rf.renT ns (ps.take k)).1 ∧ NumAt wr nb g past (Rf.renT ns (ps.take k)).2 ∧ Kept (fun k => k = nb ∨ k = g) w wr) (fun _ _ iv _ => ps.length - (intOf iv).toNat)
 case atStart => exact ⟨0, false, by omega, rfl, rfl, fun _ => rfl, RowIs.nil _ _ _ _ _, HN.out, Kept.refl _ _⟩
 case round =>
  obtain ⟨k, b, hk, rfl, rfl, hb, hrow, hN1, hkp⟩ := hrel
  have hsz := hkp.size
  obtain ⟨a4, c4, hv4⟩ := row_slice hrow
  subst hv4
  have hlen := Rf.renT_len (ps.take k) ns
  have htl : (ps.take k).length ≤ k := by rw [List.length_take]; omega
  by_cases hlt : k < ps.length
  ·obtain ⟨gp, off, rfl⟩ := HH.out.pos (by omega)
   have hgl := HH.out.lt
   have hmem : ps[k] ∈ ps := List.getElem_mem hlt
   obtain ⟨e0, e1, e2, e3⟩ := Seen.parts (HH.out.kept hkp HN.out.types) k ps[k] (by simp [hlt])
   have hpv := HV.out _ hmem
   have htk : ps.take (k + 1) = ps.take k ++ [ps[k]] := List.take_succ_eq_append_getElem hlt
   have hsn : Hid (Rf.renT ns (ps.take (k + 1)) = ((Rf.renT ns (ps.take k)).1 ++ [Rf.renP (Rf.renT ns (ps.take k)).2 ps[k]], Rf.stepV (Rf.renT ns (ps.take k)).2 ps[k])) := by unfold Hid; rw [htk, Rf.renT_snoc]
   have Htk : Hid _ := htk
   clear hmem htk
   generalize ps[k] = p at *
   have hgl' : gp < wr.heap.size := by omega
   have hlt' : (k : Int) < ps.length := by omega
   obtain ⟨acc, hacc⟩ : ∃ acc, Hid (acc = (Rf.renT ns (ps.take k)).1) := ⟨_, rfl⟩
   obtain ⟨nn, hnn⟩ : ∃ nn, Hid (nn = (Rf.renT ns (ps.take k)).2) := ⟨_, rfl⟩
   rw [← hacc.out] at hrow hlen hsn hb
   rw [← hnn.out] at hlen hN1 hsn
   rw [← hacc.out]
   have hla : acc.length ≤ 100000 := by omega
   have hnl2 : nn.length ≤ 900100000 := by omega
   clear hlen
   obtain ⟨pk, pn, pv, pa⟩ := p
   simp only at e0 e1 e2 e3 hpv
   cases k1 : (pk == 1)
   ·have hst : Rf.renP nn ⟨pk, pn, pv, pa⟩ = ⟨pk, pn, pv, pa⟩ ∧ Rf.stepV nn ⟨pk, pn, pv, pa⟩ = nn := by unfold Rf.renP Rf.stepV; rw [if_neg (beq_eq_false_iff_ne.1 k1), if_neg (beq_eq_false_iff_ne.1 k1)]; exact ⟨rfl, rfl⟩
    rw [hst.1, hst.2] at hsn
    clear hst hpv
    go_wp2_with (at_builtin; refine wpList_app Tryz.elemPart partCells partCells_len partCells_one _ rfl (.tmp 32) (.tmp 34) rfl w.heap.size (.slice a4 acc.length c4) acc rfl ((hrow.alloc _).alloc _) ⟨_, 0, none⟩ 1 ⟨pk, pn, pv, pa⟩ rfl (cell_four_at _ _ (by simp) _ _ _ _ _) (by omega) (by simp; omega) ?_; intro gA capA w3 hrow3 hgr3 hnb3)
    go_roundw
    case rel =>
     refine ⟨k + 1, b, by omega, by go_num, rfl, ?_, by rw [hsn.out]; exact hrow3, ?_, ?_⟩
     ·intro hf; rw [hsn.out, Htk.out]; show acc ++ _ = _; rw [hb.out hf]
     ·rw [hsn.out]
      exact ((hN1.below (by repeat(first|exact bel0 _ _|refine bel1 ?_ (by simp<;>omega) _|refine bel2 ?_|refine bel3 ?_ _|refine bel4 ?_ (by simp<;>omega) _)) : NumAt ((wr.alloc _).alloc _) nb g past nn)).kept (M := fun k => (Value.slice a4 acc.length c4).ownBlock = some k) ⟨hgr3.os, hgr3.tape, hgr3.output, hgr3.size, fun j hj hr => hgr3.block j hj (fun e => hr e.symm)⟩ (fun e => by have := (hrow.lt _ e).1; omega) (fun e => by have := (hrow.lt _ e).1; omega)
     ·exact ((hkp.alloc _).alloc _).grown hgr3 (fun j e => .inl (hrow.lt j e).1)
    case measure => simp [intOf]; omega
   ·obtain ⟨v0, v1⟩ := hpv (eq_of_beq k1)
    obtain ⟨v, rfl⟩ := Int.eq_ofNat_of_zero_le v0
    have hvp : v < past := by omega
    have hst : Rf.renP nn ⟨pk, pn, (v : Int), pa⟩ = ⟨pk, pn, ((Rf.numV nn v).idxOf (v : Int) : Nat), pa⟩ ∧ Rf.stepV nn ⟨pk, pn, (v : Int), pa⟩ = Rf.numV nn v := by unfold Rf.renP Rf.stepV; rw [if_pos (eq_of_beq k1), if_pos (eq_of_beq k1)]; exact ⟨rfl, rfl⟩
    rw [hst.1, hst.2] at hsn
    have hil := Rf.idxOf_le (Rf.numV nn v) v
    have hil2 := Rf.numV_len nn v
    obtain ⟨ix, hix⟩ : ∃ ix, Hid (ix = (Rf.numV nn v).idxOf (v : Int)) := ⟨_, rfl⟩
    rw [← hix.out] at hsn hil
    have hixb : (ix : Int) ≤ 900100001 := by omega
    have hpb : ¬ (wr.heap.size = nb ∨ wr.heap.size = g) := by omega
    have hrne : (Value.slice a4 acc.length c4).ownBlock ≠ some wr.heap.size := fun e => by have := (hrow.lt _ e).2; omega
    have Hrne : Hid _ := hrne
    have Hrk : Hid (∀ j, (Value.slice a4 acc.length c4).ownBlock = some j → ¬ (j = nb ∨ j = g)) := fun j e he => by have := (hrow.lt j e).1; rcases he with rfl | rfl <;> omega
    clear hst hpv v0 v1 hil hil2 hrne
    cases b
    all_goals
     go_wp2_with (first
      | (go_at_call 130; refine (pnumber_any _ nb g past nn v (hN1.below (by repeat(first|exact bel0 _ _|refine bel1 ?_ (by simp<;>omega) _|refine bel2 ?_|refine bel3 ?_ _|refine bel4 ?_ (by simp<;>omega) _))) hvp (by omega)).mono ?_; rintro r w2 ⟨rfl, hN2, hk2⟩; rw [← hix.out]; have hz2 := hk2.size; simp at hz2; have hP2 := (hk2.block wr.heap.size (by simp) hpb).trans (blk_new _ _); have p0 := blk_cell hP2 0; have p1 := blk_cell hP2 1; have p2 := blk_cell hP2 2; have p3 := blk_cell hP2 3; have pf := blk_frozen hP2; have pl := blk_lt hP2; simp at p0 p1 p2 p3; have hrow2 := ((hrow.alloc _).keptBy hk2 Hrk.out).setCell ⟨wr.heap.size, 2, none⟩ (.int .i64 ix) Hrne.out)
      | (at_builtin; refine wpList_app Tryz.elemPart partCells partCells_len partCells_one _ rfl (.tmp 32) (.tmp 34) rfl w.heap.size (.slice a4 acc.length c4) acc rfl (hrow2.alloc _) ⟨_, 0, none⟩ 1 ⟨pk, pn, (ix : Int), pa⟩ rfl (cell_four_at _ _ (by simp) _ _ _ _ _) (by omega) (by simp; omega) ?_; intro gA capA w3 hrow3 hgr3 hnb3))
    ·go_roundw
     case rel =>
      refine ⟨k + 1, ((ix : Int) != (v : Int)), by omega, by go_num, rfl, ?_, by rw [hsn.out]; exact hrow3, ?_, (((((hkp.alloc _).trans hk2 (fun _ _ h => h)).setCell (p := ⟨wr.heap.size, 2, none⟩) (Or.inl hsz) _).alloc _).grown hgr3 (fun j e => .inl (hrow.lt j e).1))⟩
      ·intro hf
       have h9 : (ix : Int) = v := by simpa using hf
       rw [hsn.out, Htk.out]
       show acc ++ _ = _
       rw [hb.out (by trivial), h9]
      ·rw [hsn.out]
       exact (hN2.kept (M := fun k => k = wr.heap.size ∨ (Value.slice a4 acc.length c4).ownBlock = some k) ((((Kept.refl _ w2).setCell (p := ⟨wr.heap.size, 2, none⟩) (Or.inr (Or.inl rfl)) _).alloc _).grown hgr3 (fun j e => .inr (.inr e))) (fun e => by rcases e with e | e; omega; have := (hrow.lt _ e).1; omega) (fun e => by rcases e with e | e; omega; have := (hrow.lt _ e).1; omega))
     case measure => simp [intOf]; omega
    ·go_roundw
     case rel =>
      refine ⟨k + 1, true, by omega, by go_num, rfl, (fun hf => by cases hf), by rw [hsn.out]; exact hrow3, ?_, (((((hkp.alloc _).trans hk2 (fun _ _ h => h)).setCell (p := ⟨wr.heap.size, 2, none⟩) (Or.inl hsz) _).alloc _).grown hgr3 (fun j e => .inl (hrow.lt j e).1))⟩
      rw [hsn.out]
      exact (hN2.kept (M := fun k => k = wr.heap.size ∨ (Value.slice a4 acc.length c4).ownBlock = some k) ((((Kept.refl _ w2).setCell (p := ⟨wr.heap.size, 2, none⟩) (Or.inr (Or.inl rfl)) _).alloc _).grown hgr3 (fun j e => .inr (.inr e))) (fun e => by rcases e with e | e; omega; have := (hrow.lt _ e).1; omega) (fun e => by rcases e with e | e; omega; have := (hrow.lt _ e).1; omega))
     case measure => simp [intOf]; omega
  ·obtain rfl : k = ps.length := by omega
   cases b
   ·have hend : (Rf.renT ns ps).1 = ps := by have h9 := hb.out rfl; rw [List.take_length] at h9; exact h9
    have Hend : Hid _ := hend
    rw [List.take_length] at hN1
    clear hend hlen htl
    go_wp2_with fail
    go_ret
    exact ⟨_, _, _, rfl, by rw [Hend.out]; exact HH.out.kept hkp HN.out.types, hN1, hkp⟩
   ·rw [List.take_length] at hN1
    clear hlen htl
    go_wp2_with fail
    go_ret
    exact ⟨_, _, _, rfl, by have h9 := hrow.seen; simp only [List.take_length] at h9 ⊢; exact h9, hN1, hkp⟩
end Go.Proofs.YtbiojnljihgpoaaGreatDoor
