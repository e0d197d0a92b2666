/- The program's terms (term: Top, Arg; play: number, numbers, isNamed): the plain functions' answers. -/
import Derived.Test.YtpdikdnffehmkaaGreatDoorYbd
import Derived.Test.YtpdikdnffehmkaaGreatDoorYai
import Derived.Test.YtpdikdnffehmkaaGreatDoorYaz
namespace Go.Proofs.YtpdikdnffehmkaaGreatDoor
open Go.RowKit
theorem cells4 {w : World} {b : Nat} {p : Rf.Part} (h : w.heap[b]? = some (.cells #[.int .i64 p.kind, .string p.name, .int .i64 p.value, .int .i64 p.args] 117 (0, 0))) : w.cell? ⟨b, 0, none⟩ = some (.int .i64 p.kind) ∧ w.cell? ⟨b, 1, none⟩ = some (.string p.name) ∧ w.cell? ⟨b, 2, none⟩ = some (.int .i64 p.value) ∧ w.cell? ⟨b, 3, none⟩ = some (.int .i64 p.args) ∧ b < w.heap.size := ⟨blk_cell h 0, blk_cell h 1, blk_cell h 2, blk_cell h 3, blk_lt h⟩
theorem Seen.dropIf {α : Type} {w : World} {e : TypeId} {C : α → List Value} {size : Nat} {g off n cap : Nat} {xs : List α} (h : Seen w e C (.slice (some ⟨g, off, none⟩) n cap) xs) (hC : ∀ x, (C x).length = size) (k : Nat) (hk : k ≤ xs.length) : Seen w e C (.slice (if cap = k then some ⟨g, off, none⟩ else some ⟨g, off + k * size, none⟩) (xs.length - k) (cap - k)) (xs.drop k) := by
  split
  · rename_i hc
    have := h.dropEnd k hc
    rw [show cap - k = 0 by omega]; exact this
  · exact h.drop hC k hk
set_option maxHeartbeats 400000 in
theorem ptopA_any (a : Option Addr) (n c : Nat) (ps : List Rf.Part) (w : World) (h : Seen w 117 partCells (.slice a n c) ps) :
    Calls Tryz.prog 121 #[.slice a n c] w fun r w' => r = .returned (.agg #[.int .i64 (Rf.topP ps).kind, .string (Rf.topP ps).name, .int .i64 (Rf.topP ps).value, .int .i64 (Rf.topP ps).args]) ∧ Below w.heap.size w w' := by
  cases ps with
  | nil =>
    have hn : n = 0 := h.len
    subst hn
    clear h
    go_enter Tryz.func121, Tryz.ntmps121
    go_wp2
    refine bodyPost_ret (v := .agg #[.int .i64 0, .string ⟨#[]⟩, .int .i64 0, .int .i64 0]) (by simp [results, Tryz.results121, go_sem, *]) rfl ?_
    exact ⟨rfl, (by repeat (first | exact Below.refl _ _ | refine Below.setCell ?_ (by simp <;> omega) _ | refine Below.drew ?_ | refine Below.drewN ?_ _ | refine Below.alloc ?_ (by simp <;> omega) _))⟩
  | cons p rest =>
    obtain ⟨g, off, rfl⟩ := h.pos (by simp)
    exact ptop_any g off n c p rest w h
set_option maxHeartbeats 400000 in
theorem pnumber_kind (p : Rf.Part) (w : World) :
    Calls Tryz.prog 208 #[.agg #[.int .i64 p.kind, .string p.name, .int .i64 p.value, .int .i64 p.args]] w fun r w' => r = .returned (.int .i64 (Rf.numberK p)) ∧ Below w.heap.size w w' := by
  have HK : Hid (Rf.numberK p = if p.kind = 1 then 9 else if p.kind = 2 then 0 else 10) := rfl
  by_cases h1 : p.kind = 1
  · have hv : Hid (Rf.numberK p = 9) := by unfold Hid; rw [HK.out, if_pos h1]
    go_enter Tryz.func208, Tryz.ntmps208
    go_wp2
    go_ret
    exact ⟨ret_int hv.out.symm, (by repeat (first | exact Below.refl _ _ | refine Below.setCell ?_ (by simp <;> omega) _ | refine Below.drew ?_ | refine Below.drewN ?_ _ | refine Below.alloc ?_ (by simp <;> omega) _))⟩
  · have h1' : (p.kind == 1) = false := beq_eq_false_iff_ne.2 h1
    by_cases h2 : p.kind = 2
    · have hv : Hid (Rf.numberK p = 0) := by unfold Hid; rw [HK.out, if_neg h1, if_pos h2]
      go_enter Tryz.func208, Tryz.ntmps208
      go_wp2
      go_ret
      exact ⟨ret_int hv.out.symm, (by repeat (first | exact Below.refl _ _ | refine Below.setCell ?_ (by simp <;> omega) _ | refine Below.drew ?_ | refine Below.drewN ?_ _ | refine Below.alloc ?_ (by simp <;> omega) _))⟩
    · have h2' : (p.kind == 2) = false := beq_eq_false_iff_ne.2 h2
      have hv : Hid (Rf.numberK p = 10) := by unfold Hid; rw [HK.out, if_neg h1, if_neg h2]
      clear h1 h2
      go_enter Tryz.func208, Tryz.ntmps208
      go_wp2
      go_ret
      exact ⟨ret_int hv.out.symm, (by repeat (first | exact Below.refl _ _ | refine Below.setCell ?_ (by simp <;> omega) _ | refine Below.drew ?_ | refine Below.drewN ?_ _ | refine Below.alloc ?_ (by simp <;> omega) _))⟩
set_option maxHeartbeats 400000 in
theorem pisNamed_any (s : ByteArray) (w : World) :
    Calls Tryz.prog 61 #[.string s] w fun r w' => r = .returned (.bool (Rf.isNamedB s)) ∧ w' = w := by
  by_cases h0 : 0 < s.size
  · have hv : Hid (Rf.isNamedB s = ((s[0].toNat : Int) != 95)) := by
      unfold Hid Rf.isNamedB
      rw [Rf.byteAt_eq s 0 h0]
      generalize Rf.byteAt s 0 = x
      simp only [h0, decide_true, Bool.true_and]
      by_cases hx : x = 95
      · subst hx; rfl
      · rw [decide_eq_true hx]; exact (bne_iff_ne.2 hx).symm
    go_enter Tryz.func61, Tryz.ntmps61
    go_wp2
    go_ret
    exact ⟨ret_bool hv.out.symm, rfl⟩
  · have hv : Hid (Rf.isNamedB s = false) := by unfold Hid Rf.isNamedB; simp [h0]
    go_enter Tryz.func61, Tryz.ntmps61
    go_wp2
    go_ret
    exact ⟨ret_bool hv.out.symm, rfl⟩
set_option maxHeartbeats 1000000 in
theorem parg_any (a : Option Addr) (n c i : Nat) (ps : List Rf.Part) (w : World) (h : Seen w 117 partCells (.slice a n c) ps) (h4 : Rf.ArgsOk ps) (hl : ps.length ≤ 400) (hi : i ≤ 10) :
    Calls Tryz.prog 158 #[.slice a n c, .int .i64 (i : Nat)] w fun r w' => ∃ a3 n3 c3, r = .returned (.slice a3 n3 c3) ∧ Seen w' 117 partCells (.slice a3 n3 c3) (Rf.argT ps i) ∧ Below w.heap.size w w' := by
  cases ps with
  | nil =>
    have hn : n = 0 := h.len
    subst hn
    have hv : Hid (Rf.argT [] i = []) := rfl
    clear h
    go_enter Tryz.func158, Tryz.ntmps158
    go_wp2
    go_ret
    exact ⟨_, _, _, rfl, by rw [hv.out]; exact Seen.nil, Below.refl _ _⟩
  | cons p t =>
    obtain ⟨g, off, rfl⟩ := h.pos (by simp)
    have hn : n = t.length + 1 := h.len
    subst hn
    have hcap := h.cap
    have hv : Hid (Rf.argT (p :: t) i = Rf.argN i t) := rfl
    have H : Hid _ := h
    have H4 : Hid (Rf.ArgsOk t) := fun x hx => h4 x (List.mem_cons_of_mem _ hx)
    simp only [List.length_cons] at hl hcap
    clear h h4
    go_enter Tryz.func158, Tryz.ntmps158
    have hstart : ∀ (a3 : Option Addr) (n3 c3 : Nat), Seen w 117 partCells (.slice a3 n3 c3) t → ∃ (k : Nat) (rs : List Rf.Part) (ar : Option Addr) (nr cr : Nat), k ≤ i ∧ (.int .i64 (0 : Int) : Value) = .int .i64 (k : Nat) ∧ (.slice a3 n3 c3 : Value) = .slice ar nr cr ∧ Seen w 117 partCells (.slice ar nr cr) rs ∧ Rf.ArgsOk rs ∧ rs.length ≤ 400 ∧ Hid (Rf.argN i t = Rf.argN (i - k) rs) ∧ Below w.heap.size w w := fun a3 n3 c3 h3 => ⟨0, t, a3, n3, c3, Nat.zero_le _, rfl, rfl, h3, H4.out, by omega, rfl, Below.refl _ _⟩
    have HD1 : Hid (c = 1 → Seen w 117 partCells (.slice (some ⟨g, off, none⟩) t.length 0) t) := fun hc => by have h9 := H.out.dropEnd 1 hc; simpa using h9
    have HD2 : Hid (Seen w 117 partCells (.slice (some ⟨g, off + 4, none⟩) t.length (c - 1)) t) := by unfold Hid; have h9 := H.out.drop partCells_len 1 (by simp); simpa using h9
    have HSt : Hid _ := hstart
    clear hstart
    go_wp2_with fail
    all_goals
      go_loopw [5, 6] (fun rv iv wr => ∃ (k : Nat) (rs : List Rf.Part) (ar : Option Addr) (nr cr : Nat), k ≤ i ∧ iv = .int .i64 (k : Nat) ∧ rv = .slice ar nr cr ∧ Seen wr 117 partCells (.slice ar nr cr) rs ∧ Rf.ArgsOk rs ∧ rs.length ≤ 400 ∧ Hid (Rf.argN i t = Rf.argN (i - k) rs) ∧ Below w.heap.size w wr) (fun _ iv _ => i - (intOf iv).toNat)
      case atStart => first | exact HSt.out _ _ _ (HD1.out ‹_›) | exact HSt.out _ _ _ HD2.out
      case round =>
        obtain ⟨k, rs, ar, nr, cr, hk, rfl, rfl, hS, hA, hrl, hinv, hbr⟩ := hrel
        have hnr : nr = rs.length := hS.len
        subst hnr
        have hsz := hbr.size
        have hld := Rf.lead_le rs
        have hcr := hS.cap
        have HS : Hid _ := hS
        have HA : Hid _ := hA
        by_cases hlt : k < i
        · have hlt' : (k : Int) < (i : Nat) := by omega
          rw [show i - k = (i - (k + 1)) + 1 by omega, Rf.argN] at hinv
          rcases hS.shape with ⟨hv1, rfl⟩ | ⟨g1, o1, c1, hv1, hg1, _, _⟩
          · injection hv1 with e1 e2 e3
            subst e1; subst e3
            clear hS hA
            go_wp2_with (go_at_call 189; refine (plead_any _ none 0 0 [] HS.out HA.out (by simp)).mono ?_; rintro r w2 ⟨rfl, hb2⟩)
            go_roundw
            case rel => exact ⟨k + 1, [], none, 0, 0, by omega, by go_num, rfl, Seen.nil, HA.out, by simp, hinv, hbr.trans (hb2.mono hsz)⟩
            case measure => simp [intOf]; omega
          · injection hv1 with e1 e2 e3
            subst e1; subst e3
            obtain ⟨L, hL⟩ : ∃ L, Hid (Rf.leadT rs = L) := ⟨_, rfl⟩
            rw [hL.out] at hld hinv
            clear hS hA
            have HDb : Hid (∀ w2, Below wr.heap.size wr w2 → Seen w2 117 partCells (.slice (if cr = L then some ⟨g1, o1, none⟩ else some ⟨g1, o1 + L * 4, none⟩) (rs.length - L) (cr - L)) (rs.drop L)) := fun w2 hb => Seen.dropIf (HS.out.below hb) partCells_len L hld
            have HAd : Hid (Rf.ArgsOk (rs.drop L)) := fun x hx => HA.out x (List.mem_of_mem_drop hx)
            have hdl : (rs.drop L).length ≤ 400 := by rw [List.length_drop]; omega
            have hdl2 : Hid ((rs.drop L).length = rs.length - L) := List.length_drop
            go_wp2_with (go_at_call 189; refine (plead_any _ (some ⟨g1, o1, none⟩) _ cr rs HS.out HA.out (by omega)).mono ?_; rintro r w2 ⟨rfl, hb2⟩; rw [hL.out])
            all_goals
              go_roundw
              case rel => exact ⟨k + 1, rs.drop L, _, _, _, by omega, by go_num, rfl, HDb.out _ hb2, HAd.out, hdl, hinv, hbr.trans (hb2.mono hsz)⟩
              case measure => simp [intOf]; omega
        · obtain rfl : k = i := by omega
          rw [Nat.sub_self, Rf.argN] at hinv
          rcases hS.shape with ⟨hv1, rfl⟩ | ⟨g1, o1, c1, hv1, hg1, _, _⟩
          · injection hv1 with e1 e2 e3
            subst e1; subst e3
            clear hS hA
            go_wp2_with (go_at_call 189; refine (plead_any _ none 0 0 [] HS.out HA.out (by simp)).mono ?_; rintro r w2 ⟨rfl, hb2⟩)
            go_ret
            refine ⟨_, _, _, rfl, ?_, hbr.trans (hb2.mono hsz)⟩
            rw [hv.out, hinv.out]; exact Seen.nil
          · injection hv1 with e1 e2 e3
            subst e1; subst e3
            obtain ⟨L, hL⟩ : ∃ L, Hid (Rf.leadT rs = L) := ⟨_, rfl⟩
            rw [hL.out] at hld hinv
            clear hS hA
            go_wp2_with (go_at_call 189; refine (plead_any _ (some ⟨g1, o1, none⟩) _ cr rs HS.out HA.out (by omega)).mono ?_; rintro r w2 ⟨rfl, hb2⟩; rw [hL.out])
            go_ret
            refine ⟨_, _, _, rfl, ?_, hbr.trans (hb2.mono hsz)⟩
            rw [hv.out, hinv.out]
            exact (HS.out.below hb2).take L hld
theorem parg0_any (a : Option Addr) (n c : Nat) (ps : List Rf.Part) (w : World) (h : Seen w 117 partCells (.slice a n c) ps) (h4 : Rf.ArgsOk ps) (hl : ps.length ≤ 400) : Calls Tryz.prog 158 #[.slice a n c, .int .i64 0] w fun r w' => ∃ a3 n3 c3, r = .returned (.slice a3 n3 c3) ∧ Seen w' 117 partCells (.slice a3 n3 c3) (Rf.argT ps 0) ∧ Below w.heap.size w w' := parg_any a n c 0 ps w h h4 hl (by omega)
theorem parg1_any (a : Option Addr) (n c : Nat) (ps : List Rf.Part) (w : World) (h : Seen w 117 partCells (.slice a n c) ps) (h4 : Rf.ArgsOk ps) (hl : ps.length ≤ 400) : Calls Tryz.prog 158 #[.slice a n c, .int .i64 1] w fun r w' => ∃ a3 n3 c3, r = .returned (.slice a3 n3 c3) ∧ Seen w' 117 partCells (.slice a3 n3 c3) (Rf.argT ps 1) ∧ Below w.heap.size w w' := parg_any a n c 1 ps w h h4 hl (by omega)
theorem parg2_any (a : Option Addr) (n c : Nat) (ps : List Rf.Part) (w : World) (h : Seen w 117 partCells (.slice a n c) ps) (h4 : Rf.ArgsOk ps) (hl : ps.length ≤ 400) : Calls Tryz.prog 158 #[.slice a n c, .int .i64 2] w fun r w' => ∃ a3 n3 c3, r = .returned (.slice a3 n3 c3) ∧ Seen w' 117 partCells (.slice a3 n3 c3) (Rf.argT ps 2) ∧ Below w.heap.size w w' := parg_any a n c 2 ps w h h4 hl (by omega)
set_option maxHeartbeats 600000 in
set_option maxRecDepth 100000 in
theorem pnumbers_any (a : Option Addr) (n c : Nat) (ps : List Rf.Part) (w : World) (h : Seen w 117 partCells (.slice a n c) ps) (h4 : Rf.ArgsOk ps) (hl : ps.length ≤ 400) :
    Calls Tryz.prog 190 #[.slice a n c] w fun r w' => ∃ x y, r = .returned (.tuple #[.int .i64 x, .int .i64 y, .int .i64 (Rf.numbersK ps)]) ∧ (Rf.numbersK ps = 0 → x = Rf.num0 ps ∧ y = Rf.num1 ps) ∧ Below w.heap.size w w' := by
  have H : Hid _ := h
  have H4 : Hid (Rf.ArgsOk ps) := h4
  obtain ⟨K0, e0⟩ : ∃ K, Hid (Rf.numberK (Rf.topP (Rf.argT ps 0)) = K) := ⟨_, rfl⟩
  obtain ⟨K1, e1⟩ : ∃ K, Hid (Rf.numberK (Rf.topP (Rf.argT ps 1)) = K) := ⟨_, rfl⟩
  have HK : Hid (Rf.numbersK ps = if K0 = 0 then K1 else K0) := by unfold Hid Rf.numbersK; rw [e0.out, e1.out]
  clear h h4
  by_cases h0 : K0 = 0
  · subst h0
    by_cases h1 : K1 = 0
    · subst h1
      go_enter Tryz.func190, Tryz.ntmps190
      go_wp2_with (first
        | (go_at_call 158; first
          | (have hm := hb2; refine (parg1_any a n c ps _ (hSw.out.below (by repeat (first | exact Below.refl _ _ | refine Below.setCell ?_ (by simp <;> omega) _ | refine Below.drew ?_ | refine Below.drewN ?_ _ | refine Below.alloc ?_ (by simp <;> omega) _))) H4.out hl).mono ?_; rintro r w3 ⟨a3, n3, c3, rfl, hS3, hb3⟩; have hbw3 : Below w.heap.size w w3 := hbw2.trans (Below.trans ((Below.refl _ w2).alloc hz2 _) (hb3.mono (by rw [World.size_alloc]; omega))))
          | (refine (parg0_any a n c ps _ H.out H4.out hl).mono ?_; rintro r w1 ⟨a1, n1, c1, rfl, hS1, hb1⟩))
        | (go_at_call 121; first
          | (refine (ptopA_any a3 n3 c3 _ _ hS3).mono ?_; rintro r w4 ⟨rfl, hb4⟩; have hbw4 : Below w.heap.size w w4 := hbw3.trans (hb4.mono hbw3.size); have hz4 := hbw4.size; have B0 := (hb4.block w2.heap.size (by have := hb3.size; rw [World.size_alloc] at this; omega)).trans ((hb3.block w2.heap.size (by rw [World.size_alloc]; omega)).trans (blk_new w2 _)); obtain ⟨c0, c1', c2, c3', l0⟩ := cells4 B0; obtain ⟨p1, hp1⟩ : ∃ p, Hid (Rf.topP (Rf.argT ps 1) = p) := ⟨_, rfl⟩; rw [hp1.out])
          | (refine (ptopA_any a1 n1 c1 _ _ hS1).mono ?_; rintro r w2 ⟨rfl, hb2⟩; have hbw2 : Below w.heap.size w w2 := hb1.trans (hb2.mono hb1.size); have hz2 := hbw2.size; have hSw : Hid _ := H.out.below hbw2; obtain ⟨p0, hp0⟩ : ∃ p, Hid (Rf.topP (Rf.argT ps 0) = p) := ⟨_, rfl⟩; rw [hp0.out]))
        | (go_at_call 208; first
          | (have hm := hb5; refine (pnumber_kind p1 _).mono ?_; rintro r w6 ⟨rfl, hb6⟩; have hbw6 : Below w.heap.size w w6 := hbw5.trans (hb6.mono hbw5.size); have D0 := (hb6.block w2.heap.size l5).trans C0; have D1 := (hb6.block w4.heap.size l6).trans C1; obtain ⟨q0, q1, q2, q3, l7⟩ := cells4 D0; obtain ⟨r0, r1, r2, r3, l8⟩ := cells4 D1; rw [← hp1.out, e1.out])
          | (refine (pnumber_kind p0 _).mono ?_; rintro r w5 ⟨rfl, hb5⟩; have hbw5 : Below w.heap.size w w5 := hbw4.trans (Below.trans ((Below.refl _ w4).alloc hz4 _) (hb5.mono (by rw [World.size_alloc]; omega))); have C0 := (hb5.block w2.heap.size (by rw [World.size_alloc]; omega)).trans (blk_alloc B0 _); have C1 := (hb5.block w4.heap.size (by rw [World.size_alloc]; omega)).trans (blk_new w4 _); obtain ⟨d0, d1, d2, d3, l5⟩ := cells4 C0; obtain ⟨f0, f1, f2, f3, l6⟩ := cells4 C1; rw [← hp0.out, e0.out])))
      go_quiet (fail)
      go_wp2_with fail
      go_ret3
      have hN : Rf.numbersK ps = 0 := by have h9 := HK.out; simpa using h9
      refine ⟨p0.value, p1.value, by rw [hN]; rfl, fun _ => ⟨by rw [← hp0.out]; rfl, by rw [← hp1.out]; rfl⟩, ?_⟩
      first | exact hbw6 | exact hbw6.drew | exact hbw6.drewN _
    · have h1' : (K1 == 0) = false := beq_eq_false_iff_ne.2 h1
      go_enter Tryz.func190, Tryz.ntmps190
      go_wp2_with (first
        | (go_at_call 158; first
          | (have hm := hb2; refine (parg1_any a n c ps _ (hSw.out.below (by repeat (first | exact Below.refl _ _ | refine Below.setCell ?_ (by simp <;> omega) _ | refine Below.drew ?_ | refine Below.drewN ?_ _ | refine Below.alloc ?_ (by simp <;> omega) _))) H4.out hl).mono ?_; rintro r w3 ⟨a3, n3, c3, rfl, hS3, hb3⟩; have hbw3 : Below w.heap.size w w3 := hbw2.trans (Below.trans ((Below.refl _ w2).alloc hz2 _) (hb3.mono (by rw [World.size_alloc]; omega))))
          | (refine (parg0_any a n c ps _ H.out H4.out hl).mono ?_; rintro r w1 ⟨a1, n1, c1, rfl, hS1, hb1⟩))
        | (go_at_call 121; first
          | (refine (ptopA_any a3 n3 c3 _ _ hS3).mono ?_; rintro r w4 ⟨rfl, hb4⟩; have hbw4 : Below w.heap.size w w4 := hbw3.trans (hb4.mono hbw3.size); have hz4 := hbw4.size; have B0 := (hb4.block w2.heap.size (by have := hb3.size; rw [World.size_alloc] at this; omega)).trans ((hb3.block w2.heap.size (by rw [World.size_alloc]; omega)).trans (blk_new w2 _)); obtain ⟨c0, c1', c2, c3', l0⟩ := cells4 B0; obtain ⟨p1, hp1⟩ : ∃ p, Hid (Rf.topP (Rf.argT ps 1) = p) := ⟨_, rfl⟩; rw [hp1.out])
          | (refine (ptopA_any a1 n1 c1 _ _ hS1).mono ?_; rintro r w2 ⟨rfl, hb2⟩; have hbw2 : Below w.heap.size w w2 := hb1.trans (hb2.mono hb1.size); have hz2 := hbw2.size; have hSw : Hid _ := H.out.below hbw2; obtain ⟨p0, hp0⟩ : ∃ p, Hid (Rf.topP (Rf.argT ps 0) = p) := ⟨_, rfl⟩; rw [hp0.out]))
        | (go_at_call 208; first
          | (have hm := hb5; refine (pnumber_kind p1 _).mono ?_; rintro r w6 ⟨rfl, hb6⟩; have hbw6 : Below w.heap.size w w6 := hbw5.trans (hb6.mono hbw5.size); have D0 := (hb6.block w2.heap.size l5).trans C0; have D1 := (hb6.block w4.heap.size l6).trans C1; obtain ⟨q0, q1, q2, q3, l7⟩ := cells4 D0; obtain ⟨r0, r1, r2, r3, l8⟩ := cells4 D1; rw [← hp1.out, e1.out])
          | (refine (pnumber_kind p0 _).mono ?_; rintro r w5 ⟨rfl, hb5⟩; have hbw5 : Below w.heap.size w w5 := hbw4.trans (Below.trans ((Below.refl _ w4).alloc hz4 _) (hb5.mono (by rw [World.size_alloc]; omega))); have C0 := (hb5.block w2.heap.size (by rw [World.size_alloc]; omega)).trans (blk_alloc B0 _); have C1 := (hb5.block w4.heap.size (by rw [World.size_alloc]; omega)).trans (blk_new w4 _); obtain ⟨d0, d1, d2, d3, l5⟩ := cells4 C0; obtain ⟨f0, f1, f2, f3, l6⟩ := cells4 C1; rw [← hp0.out, e0.out])))
      go_ret3
      have hN : Rf.numbersK ps = K1 := by have h9 := HK.out; simpa using h9
      refine ⟨0, 0, by rw [hN]; rfl, fun e => absurd (hN.symm.trans e) h1, ?_⟩
      first | exact hbw6 | exact hbw6.drew | exact hbw6.drewN _
  · have h0' : (K0 == 0) = false := beq_eq_false_iff_ne.2 h0
    go_enter Tryz.func190, Tryz.ntmps190
    go_wp2_with (first
      | (go_at_call 158; first
        | (have hm := hb2; refine (parg1_any a n c ps _ (hSw.out.below (by repeat (first | exact Below.refl _ _ | refine Below.setCell ?_ (by simp <;> omega) _ | refine Below.drew ?_ | refine Below.drewN ?_ _ | refine Below.alloc ?_ (by simp <;> omega) _))) H4.out hl).mono ?_; rintro r w3 ⟨a3, n3, c3, rfl, hS3, hb3⟩; have hbw3 : Below w.heap.size w w3 := hbw2.trans (Below.trans ((Below.refl _ w2).alloc hz2 _) (hb3.mono (by rw [World.size_alloc]; omega))))
        | (refine (parg0_any a n c ps _ H.out H4.out hl).mono ?_; rintro r w1 ⟨a1, n1, c1, rfl, hS1, hb1⟩))
      | (go_at_call 121; first
        | (refine (ptopA_any a3 n3 c3 _ _ hS3).mono ?_; rintro r w4 ⟨rfl, hb4⟩; have hbw4 : Below w.heap.size w w4 := hbw3.trans (hb4.mono hbw3.size); have hz4 := hbw4.size; have B0 := (hb4.block w2.heap.size (by have := hb3.size; rw [World.size_alloc] at this; omega)).trans ((hb3.block w2.heap.size (by rw [World.size_alloc]; omega)).trans (blk_new w2 _)); obtain ⟨c0, c1', c2, c3', l0⟩ := cells4 B0; obtain ⟨p1, hp1⟩ : ∃ p, Hid (Rf.topP (Rf.argT ps 1) = p) := ⟨_, rfl⟩; rw [hp1.out])
        | (refine (ptopA_any a1 n1 c1 _ _ hS1).mono ?_; rintro r w2 ⟨rfl, hb2⟩; have hbw2 : Below w.heap.size w w2 := hb1.trans (hb2.mono hb1.size); have hz2 := hbw2.size; have hSw : Hid _ := H.out.below hbw2; obtain ⟨p0, hp0⟩ : ∃ p, Hid (Rf.topP (Rf.argT ps 0) = p) := ⟨_, rfl⟩; rw [hp0.out]))
      | (go_at_call 208; first
        | (have hm := hb5; refine (pnumber_kind p1 _).mono ?_; rintro r w6 ⟨rfl, hb6⟩; have hbw6 : Below w.heap.size w w6 := hbw5.trans (hb6.mono hbw5.size); have D0 := (hb6.block w2.heap.size l5).trans C0; have D1 := (hb6.block w4.heap.size l6).trans C1; obtain ⟨q0, q1, q2, q3, l7⟩ := cells4 D0; obtain ⟨r0, r1, r2, r3, l8⟩ := cells4 D1; rw [← hp1.out, e1.out])
        | (refine (pnumber_kind p0 _).mono ?_; rintro r w5 ⟨rfl, hb5⟩; have hbw5 : Below w.heap.size w w5 := hbw4.trans (Below.trans ((Below.refl _ w4).alloc hz4 _) (hb5.mono (by rw [World.size_alloc]; omega))); have C0 := (hb5.block w2.heap.size (by rw [World.size_alloc]; omega)).trans (blk_alloc B0 _); have C1 := (hb5.block w4.heap.size (by rw [World.size_alloc]; omega)).trans (blk_new w4 _); obtain ⟨d0, d1, d2, d3, l5⟩ := cells4 C0; obtain ⟨f0, f1, f2, f3, l6⟩ := cells4 C1; rw [← hp0.out, e0.out])))
    go_ret3
    have hN : Rf.numbersK ps = K0 := by have h9 := HK.out; rw [if_neg h0] at h9; exact h9
    refine ⟨0, 0, by rw [hN]; rfl, fun e => absurd (hN.symm.trans e) h0, ?_⟩
    first | exact hbw5 | exact hbw5.drew | exact hbw5.drewN _
end Go.Proofs.YtpdikdnffehmkaaGreatDoor
/- The program's numbering (term: number): variables numbered by where they first stand. -/
namespace Rf
def numW (ns : List Int) (v : Int) : Int := if v ∈ ns then (ns.idxOf v : Nat) + 1 else 0
theorem idx_ne {l : List Int} {x v : Int} (h : x ≠ v) : (x :: l).idxOf v = l.idxOf v + 1 := by
  rw [List.idxOf_cons, beq_eq_false_iff_ne.2 h]; rfl
theorem idxOf_new : ∀ {ns : List Int} {v : Int}, v ∉ ns → (ns ++ [v]).idxOf v = ns.length
  | [], v, _ => by simp
  | u :: ns, v, h => by
    have hne : u ≠ v := fun e => h (by simp [e])
    have := idxOf_new (ns := ns) (v := v) (fun e => h (List.mem_cons_of_mem _ e))
    rw [List.cons_append, idx_ne hne, this]
    rfl
theorem idxOf_old : ∀ {ns : List Int} {u v : Int}, u ∈ ns → (ns ++ [v]).idxOf u = ns.idxOf u
  | [], _, _, h => by cases h
  | x :: ns, u, v, h => by
    by_cases hx : x = u
    · subst hx; simp
    · have hm : u ∈ ns := by
        rcases List.mem_cons.1 h with rfl | h
        · exact absurd rfl hx
        · exact h
      rw [List.cons_append, idx_ne hx, idx_ne hx, idxOf_old hm]
theorem idxOf_le : ∀ (ns : List Int) (v : Int), ns.idxOf v ≤ ns.length
  | [], _ => by simp
  | x :: ns, v => by
    by_cases hx : x = v
    · subst hx; simp
    · rw [idx_ne hx]; have := idxOf_le ns v; simp; omega
theorem numW_new {ns : List Int} {v : Int} (h : v ∉ ns) : numW (ns ++ [v]) v = (ns.length : Int) + 1 := by
  unfold numW
  rw [if_pos (by simp), idxOf_new h]
theorem numW_old {ns : List Int} {u v : Int} (h : u ≠ v) : numW (ns ++ [v]) u = numW ns u := by
  unfold numW
  by_cases hu : u ∈ ns
  · rw [if_pos (by simp [hu]), if_pos hu, idxOf_old hu]
  · rw [if_neg (by simp [hu, h]), if_neg hu]
end Rf
namespace Go.Proofs.YtpdikdnffehmkaaGreatDoor
open Go.RowKit
/-- Block nb holds a numbering, block g its numbers, for variables below past; ns: those that have one, in order. -/
structure NumAt (w : World) (nb g past : Nat) (ns : List Int) : Prop where
  n : w.heap[nb]? = some (.cells #[.slice (some ⟨g, 0, none⟩) past past, .int .i64 (ns.length : Nat)] 236 (0, 0))
  r : ∃ cur : Array Value, w.heap[g]? = some (.cells cur 3 (0, 0)) ∧ cur.size = past ∧ ∀ v, v < past → cur[v]? = some (.int .i64 (Rf.numW ns v))
  ne : g ≠ nb
  small : past ≤ 1000000
set_option maxHeartbeats 1000000 in
theorem pnumber_any (w : World) (nb g past : Nat) (ns : List Int) (v : Nat) (h : NumAt w nb g past ns) (hv : v < past) (hl : ns.length ≤ 1000000000) :
    Calls Tryz.prog 191 #[.pointer (some ⟨nb, 0, none⟩), .int .i64 (v : Int)] w fun r w' => r = .returned (.int .i64 ((Rf.numV ns v).idxOf (v : Int) : Nat)) ∧ NumAt w' nb g past (Rf.numV ns v) ∧ Kept (fun k => k = nb ∨ k = g) w w' := by
  obtain ⟨hn, ⟨cur, hr, hcs, hcv⟩, hne, hs⟩ := h
  have k0 := blk_cell hn 0
  have k1 := blk_cell hn 1
  have kf := blk_frozen hn
  have kl := blk_lt hn
  have gf := blk_frozen hr
  have gl := blk_lt hr
  simp at k0 k1
  have gv : w.cell? ⟨g, v, none⟩ = some (.int .i64 (Rf.numW ns v)) := by rw [blk_cell hr]; exact hcv v hv
  have hne' : nb ≠ g := Ne.symm hne
  have hneF : ¬ nb = g := hne'
  have hneG : ¬ g = nb := hne
  have Hn : Hid _ := hn
  have Hr : Hid _ := hr
  have Hcv : Hid _ := hcv
  have hvp : (v : Int) < past := by omega
  clear hn hr hcv
  by_cases hm : (v : Int) ∈ ns
  · have HV : Hid (Rf.numV ns v = ns) := by unfold Hid Rf.numV; rw [if_pos hm]
    have hW : Rf.numW ns v = (ns.idxOf (v : Int) : Nat) + 1 := by unfold Rf.numW; rw [if_pos hm]
    have hil := Rf.idxOf_le ns v
    rw [hW] at gv
    clear hm hW
    obtain ⟨ix, hix⟩ : ∃ ix, Hid (ix = ns.idxOf (v : Int)) := ⟨_, rfl⟩
    rw [← hix.out] at gv hil
    have hz : (((ix : Nat) : Int) + 1 == 0) = false := beq_eq_false_iff_ne.2 (by omega)
    go_enter Tryz.func191, Tryz.ntmps191
    go_wp2_with fail
    go_ret
    refine ⟨ret_int (by rw [HV.out]; rw [hix.out]), by rw [HV.out]; exact ⟨Hn.out, ⟨cur, Hr.out, hcs, Hcv.out⟩, hne, hs⟩, Kept.refl _ _⟩
  · have HV : Hid (Rf.numV ns v = ns ++ [(v : Int)]) := by unfold Hid Rf.numV; rw [if_neg hm]
    have hW : Rf.numW ns v = 0 := by unfold Rf.numW; rw [if_neg hm]
    have Hm : Hid _ := hm
    rw [hW] at gv
    clear hW hm
    go_enter Tryz.func191, Tryz.ntmps191
    go_wp2_with fail
    go_region
    all_goals go_wp2_with fail
    all_goals
      go_ret
      refine ⟨ret_int (by rw [HV.out, Rf.idxOf_new Hm.out] <;> omega), ?_, ?_⟩
      · rw [HV.out]
        refine ⟨?_, ⟨cur.setIfInBounds v (.int .i64 ((ns.length : Int) + 1)), ?_, by simpa using hcs, fun u hu => ?_⟩, hne, hs⟩
        · have h1 := blk_set Hn.out 1 (.int .i64 ((ns.length : Int) + 1))
          have h2 : ∀ (X : World) u, (X.setCell ⟨g, v, none⟩ u).heap[nb]? = X.heap[nb]? := fun X u => Below.heap_setCell _ _ _ _ hneF
          have h3 : (((ns ++ [(v : Int)]).length : Nat) : Int) = (ns.length : Int) + 1 := by simp
          rw [h3]
          exact (h2 _ _).trans h1
        · have h2 : ∀ u, (w.setCell ⟨nb, 1, none⟩ u).heap[g]? = w.heap[g]? := fun u => Below.heap_setCell _ _ _ _ hneG
          exact blk_set ((h2 _).trans Hr.out) v _
        · by_cases huv : u = v
          · subst huv
            rw [Rf.numW_new Hm.out, Array.getElem?_setIfInBounds_self_of_lt (by omega)]
          · rw [Rf.numW_old (by omega), Array.getElem?_setIfInBounds_ne (Ne.symm huv)]
            exact Hcv.out u hu
      · exact (((Kept.refl _ w).setCell (p := ⟨nb, 1, none⟩) (Or.inr (Or.inl rfl)) _).setCell (p := ⟨g, v, none⟩) (Or.inr (Or.inr rfl)) _).drew
end Go.Proofs.YtpdikdnffehmkaaGreatDoor
