/- The program's question (play: not): the plain function's answers. -/
import Derived.Test.YtpdikdnffehmkaaGreatDoorYbh
namespace Go.Proofs.YtpdikdnffehmkaaGreatDoor
open Go.RowKit
variable {nm : Value}
set_option maxHeartbeats 1000000 in
set_option maxRecDepth 100000 in
theorem pnot_any (w : World) (q : Nat) (rb : Option Nat) (names : List ByteArray) (cf : Rf.Cf) (a1 : Option Addr) (n1 c1 : Nat) (A : List Rf.Part) (h : QAt nm w q rb names cf) (hA : Seen w 117 partCells (.slice a1 n1 c1) A) (hne : cf.now.goals ≠ []) (hl20 : cf.chs.length ≤ 20) :
    Calls Tryz.prog 161 #[.pointer (some ⟨q, 0, none⟩), .slice a1 n1 c1] w fun r w' => r = .returned (.int .i64 (Rf.notP cf A).1) ∧ (∃ rb', QAt nm w' q rb' names (Rf.notP cf A).2 ∧ Nb w rb rb') ∧ Kept (May q rb) w w' := by
  obtain ⟨vg, vt, fr, vC, hQ⟩ := h.ex
  obtain ⟨k0, k1, k2, k3, k4, kf, kl⟩ := hQ.b.facts
  obtain ⟨ag, cg, rfl⟩ := hQ.s.g.slice
  obtain ⟨g, off, rfl, hgl, _, hp1, hp2⟩ := hQ.s.g.pos hne
  obtain ⟨ta, tc, rfl⟩ := hQ.s.t.slice
  obtain ⟨ca, cc, rfl⟩ := hQ.r.slice
  have HQ : Hid _ := hQ
  have HA : Hid _ := hA
  have Hne : Hid _ := hne
  obtain ⟨K, hK⟩ : ∃ K, Hid ((Rf.topP A).kind = K) := ⟨_, rfl⟩
  have HN : Hid (Rf.notP cf A = if (if K = 1 then 9 else if K = 2 then 10 else 0 : Int) = 0 then (if 20 ≤ cf.chs.length then (6, cf) else (0, ⟨⟨[A, Rf.cutT cf.chs.length, Rf.failT], cf.now.terms, cf.now.fresh⟩, ⟨⟨cf.now.goals.tail, cf.now.terms, cf.now.fresh⟩, []⟩ :: cf.chs⟩)) else ((if K = 1 then 9 else if K = 2 then 10 else 0 : Int), cf)) := by unfold Hid Rf.notP Rf.notK; rw [hK.out]
  clear h hQ hA hne
  have hfd : ∀ w : World, _ := fun w => part_kind K (Rf.topP A).name (Rf.topP A).value (Rf.topP A).args w
  by_cases h1 : K = 1
  · subst h1
    have HN0 : Hid (Rf.notP cf A = (9, cf)) := HN.out
    clear HN
    go_enter Tryz.func161, Tryz.ntmps161
    go_wp2_with (go_at_call 121; refine (ptopA_any a1 n1 c1 A _ HA.out).mono ?_; rintro r w1 ⟨rfl, hb1⟩; rw [hK.out])
    go_ret
    rw [HN0.out]
    exact ⟨rfl, ⟨rb, (HQ.out.below hb1).at, .inl rfl⟩, Kept.of_below hb1 _⟩
  by_cases h2 : K = 2
  · subst h2
    have HN0 : Hid (Rf.notP cf A = (10, cf)) := HN.out
    clear HN
    go_enter Tryz.func161, Tryz.ntmps161
    go_wp2_with (go_at_call 121; refine (ptopA_any a1 n1 c1 A _ HA.out).mono ?_; rintro r w1 ⟨rfl, hb1⟩; rw [hK.out])
    go_ret
    rw [HN0.out]
    exact ⟨rfl, ⟨rb, (HQ.out.below hb1).at, .inl rfl⟩, Kept.of_below hb1 _⟩
  have h1' : (K == 1) = false := beq_eq_false_iff_ne.2 h1
  have h2' : (K == 2) = false := beq_eq_false_iff_ne.2 h2
  have HN1 : Hid (Rf.notP cf A = if 20 ≤ cf.chs.length then (6, cf) else (0, ⟨⟨[A, Rf.cutT cf.chs.length, Rf.failT], cf.now.terms, cf.now.fresh⟩, ⟨⟨cf.now.goals.tail, cf.now.terms, cf.now.fresh⟩, []⟩ :: cf.chs⟩)) := by unfold Hid; rw [HN.out, if_neg h1, if_neg h2, if_pos rfl]
  clear HN
  by_cases h20 : 20 ≤ cf.chs.length
  · have HN0 : Hid (Rf.notP cf A = (6, cf)) := by unfold Hid; rw [HN1.out, if_pos h20]
    have h20' : (20 : Int) ≤ cf.chs.length := by omega
    clear HN1
    go_enter Tryz.func161, Tryz.ntmps161
    go_wp2_with (go_at_call 121; refine (ptopA_any a1 n1 c1 A _ HA.out).mono ?_; rintro r w1 ⟨rfl, hb1⟩; rw [hK.out]; obtain ⟨l0, l1, l2, l3, l4, lf, ll⟩ := (HQ.out.below hb1).b.facts)
    go_ret
    rw [HN0.out]
    exact ⟨rfl, ⟨rb, (HQ.out.below hb1).at, .inl rfl⟩, Kept.of_below hb1 _⟩
  · have HN0 : Hid (Rf.notP cf A = (0, ⟨⟨[A, Rf.cutT cf.chs.length, Rf.failT], cf.now.terms, cf.now.fresh⟩, ⟨⟨cf.now.goals.tail, cf.now.terms, cf.now.fresh⟩, []⟩ :: cf.chs⟩)) := by unfold Hid; rw [HN1.out, if_neg h20]
    have h20' : ¬ (20 : Int) ≤ cf.chs.length := by omega
    clear HN1
    go_enter Tryz.func161, Tryz.ntmps161
    obtain ⟨acc, hr, hac, ham⟩ := HQ.out.r.ex
    have hal : acc.length = cf.chs.length := by have := congrArg List.length ham; simpa using this
    have HR : Hid _ := hr
    have HAC : Hid _ := hac
    have HAM : Hid _ := ham
    clear hr hac ham
    go_wp2_with (go_at_call 121; refine (ptopA_any a1 n1 c1 A _ HA.out).mono ?_; rintro r w1 ⟨rfl, hb1⟩; rw [hK.out]; obtain ⟨l0, l1, l2, l3, l4, lf, ll⟩ := (HQ.out.below hb1).b.facts; have HQ1 : Hid _ := HQ.out.below hb1)
    all_goals
      have HRb : Hid (∀ X, Below w1.heap.size w1 X → RowIs X 0 124 4 chCells (.slice ca cf.chs.length cc) (acc.map (·.1))) := fun X hX => (HR.out.below hb1).below hX
      have HAb : Hid (∀ y ∈ acc, ∀ X, Below w1.heap.size w1 X → ChIs X y.1 y.2) := fun y hy X hX => ((HAC.out y hy).below hb1).below hX
      have HAk : Hid (∀ X, Below w1.heap.size w1 X → Seen X 117 partCells (.slice a1 n1 c1) A) := fun X hX => (HA.out.below hb1).below hX
      have HTt : Hid (∀ X, Below w1.heap.size w1 X → SeenTs X (.slice ta cf.now.terms.length tc) cf.now.terms) := fun X hX => HQ1.out.s.t.below hX
      have HQb : Hid (∀ X, Below w1.heap.size w1 X → QIs X q rb nm (.slice (some ⟨g, off, none⟩) cf.now.goals.length cg) (.slice ta cf.now.terms.length tc) fr (.slice ca cf.chs.length cc) names cf) := fun X hX => HQ1.out.below hX
    · have HT1 : Hid (∀ X, Below w1.heap.size w1 X → SeenTs X (.slice (some ⟨g, off, none⟩) (cf.now.goals.length - 1) 0) cf.now.goals.tail) := fun X hX => ((HQ1.out.s.g.tail1 ‹_›) : SeenTs w1 (.slice (some ⟨g, off, none⟩) (cf.now.goals.length - 1) 0) cf.now.goals.tail).below hX
      go_region_law (refine step_app Tryz.elemCh chCells chCells_len chCells_one rfl (.tmp 35) (.tmp 38) rfl 0 (.slice ca cf.chs.length cc) (acc.map (·.1)) rfl (HRb.out _ (by repeat (first | exact Below.refl _ _ | refine Below.setCell ?_ (by simp <;> omega) _ | refine Below.drew ?_ | refine Below.drewN ?_ _ | refine Below.alloc ?_ (by simp <;> omega) _))) ⟨_, 0, none⟩ 1 ⟨⟨some ⟨g, off, none⟩, cf.now.goals.length - 1, 0⟩, ⟨ta, cf.now.terms.length, tc⟩, fr, ⟨none, 0, 0⟩⟩ rfl (cell_four_at _ _ (by simp) _ _ _ _ _) (by rw [List.length_map, hal]; omega) (Nat.zero_le _) ?_; intro gA capA w3 hrow3 hgr3 hnb3; rw [List.length_map, hal] at hrow3; obtain ⟨r1, r2, r3⟩ := QIs.push (HQb.out _ (by repeat (first | exact Below.refl _ _ | refine Below.setCell ?_ (by simp <;> omega) _ | refine Below.drew ?_ | refine Below.drewN ?_ _ | refine Below.alloc ?_ (by simp <;> omega) _))) (fun y hy => HAb.out y hy _ (by repeat (first | exact Below.refl _ _ | refine Below.setCell ?_ (by simp <;> omega) _ | refine Below.drew ?_ | refine Below.drewN ?_ _ | refine Below.alloc ?_ (by simp <;> omega) _))) HAM.out (c := ⟨⟨cf.now.goals.tail, cf.now.terms, cf.now.fresh⟩, []⟩) ⟨⟨HT1.out _ (by repeat (first | exact Below.refl _ _ | refine Below.setCell ?_ (by simp <;> omega) _ | refine Below.drew ?_ | refine Below.drewN ?_ _ | refine Below.alloc ?_ (by simp <;> omega) _)), HTt.out _ (by repeat (first | exact Below.refl _ _ | refine Below.setCell ?_ (by simp <;> omega) _ | refine Below.drew ?_ | refine Below.drewN ?_ _ | refine Below.alloc ?_ (by simp <;> omega) _)), HQ.out.s.f⟩, Seen.nil⟩ hrow3 hgr3; obtain ⟨m0, m1, m2, m3, m4, mf, ml⟩ := r3.facts; have HR1 : Hid _ := r1; have HR2 : Hid _ := r2; clear r1 r2 r3)
      all_goals
        generalize w3.setCell ⟨q, 4, none⟩ (.slice (some ⟨gA, 0, none⟩) (cf.chs.length + 1) capA) = w4 at *
        clear m0 m1 m2 m3 m4 mf ml l0 l1 l2 l3 l4 lf
        obtain ⟨m0, m1, m2, m3, m4, mf, ml⟩ := HR1.out.b.facts
        have hbX : Below w4.heap.size w4 (((w4.alloc (.cells #[.int .i64 4, .string ⟨#[]⟩, .int .i64 cf.chs.length, .int .i64 0] 117)).alloc (.cells #[.int .i64 3, .string ⟨#[102, 97, 105, 108]⟩, .int .i64 0, .int .i64 0] 117)).alloc (.cells #[.slice a1 n1 c1, .slice (some ⟨w4.heap.size, 0, none⟩) 1 1, .slice (some ⟨w4.heap.size + 1, 0, none⟩) 1 1] 83)) := (by repeat (first | exact Below.refl _ _ | refine Below.setCell ?_ (by simp <;> omega) _ | refine Below.drew ?_ | refine Below.drewN ?_ _ | refine Below.alloc ?_ (by simp <;> omega) _))
        have hQX := HR1.out.below hbX
        have hX3 : Seen (((w4.alloc (.cells #[.int .i64 4, .string ⟨#[]⟩, .int .i64 cf.chs.length, .int .i64 0] 117)).alloc (.cells #[.int .i64 3, .string ⟨#[102, 97, 105, 108]⟩, .int .i64 0, .int .i64 0] 117)).alloc (.cells #[.slice a1 n1 c1, .slice (some ⟨w4.heap.size, 0, none⟩) 1 1, .slice (some ⟨w4.heap.size + 1, 0, none⟩) 1 1] 83)) 83 slCells (.slice (some ⟨w4.heap.size + 1 + 1, 0, none⟩) 3 3) [⟨a1, n1, c1⟩, ⟨some ⟨w4.heap.size, 0, none⟩, 1, 1⟩, ⟨some ⟨w4.heap.size + 1, 0, none⟩, 1, 1⟩] := Seen.three (x := ⟨a1, n1, c1⟩) (y := ⟨some ⟨w4.heap.size, 0, none⟩, 1, 1⟩) (z := ⟨some ⟨w4.heap.size + 1, 0, none⟩, 1, 1⟩) (blk_at _ _ _ (by simp))
        have hY1 : Seen (((w4.alloc (.cells #[.int .i64 4, .string ⟨#[]⟩, .int .i64 cf.chs.length, .int .i64 0] 117)).alloc (.cells #[.int .i64 3, .string ⟨#[102, 97, 105, 108]⟩, .int .i64 0, .int .i64 0] 117)).alloc (.cells #[.slice a1 n1 c1, .slice (some ⟨w4.heap.size, 0, none⟩) 1 1, .slice (some ⟨w4.heap.size + 1, 0, none⟩) 1 1] 83)) 117 partCells (.slice (some ⟨w4.heap.size, 0, none⟩) 1 1) (Rf.cutT cf.chs.length) := Seen.one (p := ⟨4, ⟨#[]⟩, cf.chs.length, 0⟩) (blk_alloc (blk_alloc (blk_new w4 _) _) _)
        have hY2 : Seen (((w4.alloc (.cells #[.int .i64 4, .string ⟨#[]⟩, .int .i64 cf.chs.length, .int .i64 0] 117)).alloc (.cells #[.int .i64 3, .string ⟨#[102, 97, 105, 108]⟩, .int .i64 0, .int .i64 0] 117)).alloc (.cells #[.slice a1 n1 c1, .slice (some ⟨w4.heap.size, 0, none⟩) 1 1, .slice (some ⟨w4.heap.size + 1, 0, none⟩) 1 1] 83)) 117 partCells (.slice (some ⟨w4.heap.size + 1, 0, none⟩) 1 1) Rf.failT := Seen.one (p := ⟨3, Rf.failB, 0, 0⟩) (blk_alloc (blk_at _ _ _ (by simp)) _)
        have hA1 : Seen (((w4.alloc (.cells #[.int .i64 4, .string ⟨#[]⟩, .int .i64 cf.chs.length, .int .i64 0] 117)).alloc (.cells #[.int .i64 3, .string ⟨#[102, 97, 105, 108]⟩, .int .i64 0, .int .i64 0] 117)).alloc (.cells #[.slice a1 n1 c1, .slice (some ⟨w4.heap.size, 0, none⟩) 1 1, .slice (some ⟨w4.heap.size + 1, 0, none⟩) 1 1] 83)) 117 partCells (.slice a1 n1 c1) A := Seen.below (Seen.kept (HAk.out _ (by repeat (first | exact Below.refl _ _ | refine Below.setCell ?_ (by simp <;> omega) _ | refine Below.drew ?_ | refine Below.drewN ?_ _ | refine Below.alloc ?_ (by simp <;> omega) _))) HR2.out (HQb.out _ (by repeat (first | exact Below.refl _ _ | refine Below.setCell ?_ (by simp <;> omega) _ | refine Below.drew ?_ | refine Below.drewN ?_ _ | refine Below.alloc ?_ (by simp <;> omega) _))).free.p) hbX
        have hXf := fun i => (World.frozen?_of_block (a := ⟨q, i, none⟩) (hbX.block q ml)).trans (mf i)
        have hXc := hQX.b.facts.2.1
        have HX3 : Hid _ := hX3
        have HY1 : Hid _ := hY1
        have HY2 : Hid _ := hY2
        have HA1 : Hid _ := hA1
        have HQX : Hid _ := hQX
        have HbX : Hid _ := hbX
        clear hX3 hY1 hY2 hA1 hQX hbX
        go_wp2_with fail
        go_ret
        rw [HN0.out]
        have hs := StIs.mk (S := ⟨[A, Rf.cutT cf.chs.length, Rf.failT], cf.now.terms, cf.now.fresh⟩) (SeenTs.mk ⟨[(⟨a1, n1, c1⟩, A), (⟨some ⟨w4.heap.size, 0, none⟩, 1, 1⟩, Rf.cutT cf.chs.length), (⟨some ⟨w4.heap.size + 1, 0, none⟩, 1, 1⟩, Rf.failT)], HX3.out, (fun y hy => by
          simp only [List.mem_cons, List.not_mem_nil, or_false] at hy
          rcases hy with rfl | rfl | rfl
          · exact HA1.out
          · exact HY1.out
          · exact HY2.out), rfl⟩) HQX.out.s.t HQX.out.s.f
        refine ⟨rfl, ⟨some gA, (QIs.now HQX.out (kept_one _ _) (blk_set HQX.out.b 1 _) hs).at, ?_⟩, ?_⟩
        · have hz1 := hb1.size
          rcases hnb3 with e | ⟨k, e, hk⟩
          · exact .inl (e.trans HQ.out.o)
          · exact .inr ⟨k, e, by simp at hk; omega⟩
        · exact (((Kept.of_below (hb1.trans (Below.mono ((by repeat (first | exact Below.refl _ _ | refine Below.setCell ?_ (by simp <;> omega) _ | refine Below.drew ?_ | refine Below.drewN ?_ _ | refine Below.alloc ?_ (by simp <;> omega) _)) : Below w1.heap.size w1 _) hb1.size)) (May q rb)).trans HR2.out (fun _ _ h => h)).trans (Kept.of_below HbX.out (May q rb)) (fun _ _ h => h)).setCell (p := ⟨q, 1, none⟩) (.inr (.inl rfl)) _
    · have HT1 : Hid (∀ X, Below w1.heap.size w1 X → SeenTs X (.slice (some ⟨g, off + 1, none⟩) (cf.now.goals.length - 1) (cg - 1)) cf.now.goals.tail) := fun X hX => ((HQ1.out.s.g.tail2 Hne.out) : SeenTs w1 (.slice (some ⟨g, off + 1, none⟩) (cf.now.goals.length - 1) (cg - 1)) cf.now.goals.tail).below hX
      go_region_law (refine step_app Tryz.elemCh chCells chCells_len chCells_one rfl (.tmp 35) (.tmp 38) rfl 0 (.slice ca cf.chs.length cc) (acc.map (·.1)) rfl (HRb.out _ (by repeat (first | exact Below.refl _ _ | refine Below.setCell ?_ (by simp <;> omega) _ | refine Below.drew ?_ | refine Below.drewN ?_ _ | refine Below.alloc ?_ (by simp <;> omega) _))) ⟨_, 0, none⟩ 1 ⟨⟨some ⟨g, off + 1, none⟩, cf.now.goals.length - 1, cg - 1⟩, ⟨ta, cf.now.terms.length, tc⟩, fr, ⟨none, 0, 0⟩⟩ rfl (cell_four_at _ _ (by simp) _ _ _ _ _) (by rw [List.length_map, hal]; omega) (Nat.zero_le _) ?_; intro gA capA w3 hrow3 hgr3 hnb3; rw [List.length_map, hal] at hrow3; obtain ⟨r1, r2, r3⟩ := QIs.push (HQb.out _ (by repeat (first | exact Below.refl _ _ | refine Below.setCell ?_ (by simp <;> omega) _ | refine Below.drew ?_ | refine Below.drewN ?_ _ | refine Below.alloc ?_ (by simp <;> omega) _))) (fun y hy => HAb.out y hy _ (by repeat (first | exact Below.refl _ _ | refine Below.setCell ?_ (by simp <;> omega) _ | refine Below.drew ?_ | refine Below.drewN ?_ _ | refine Below.alloc ?_ (by simp <;> omega) _))) HAM.out (c := ⟨⟨cf.now.goals.tail, cf.now.terms, cf.now.fresh⟩, []⟩) ⟨⟨HT1.out _ (by repeat (first | exact Below.refl _ _ | refine Below.setCell ?_ (by simp <;> omega) _ | refine Below.drew ?_ | refine Below.drewN ?_ _ | refine Below.alloc ?_ (by simp <;> omega) _)), HTt.out _ (by repeat (first | exact Below.refl _ _ | refine Below.setCell ?_ (by simp <;> omega) _ | refine Below.drew ?_ | refine Below.drewN ?_ _ | refine Below.alloc ?_ (by simp <;> omega) _)), HQ.out.s.f⟩, Seen.nil⟩ hrow3 hgr3; obtain ⟨m0, m1, m2, m3, m4, mf, ml⟩ := r3.facts; have HR1 : Hid _ := r1; have HR2 : Hid _ := r2; clear r1 r2 r3)
      all_goals
        generalize w3.setCell ⟨q, 4, none⟩ (.slice (some ⟨gA, 0, none⟩) (cf.chs.length + 1) capA) = w4 at *
        clear m0 m1 m2 m3 m4 mf ml l0 l1 l2 l3 l4 lf
        obtain ⟨m0, m1, m2, m3, m4, mf, ml⟩ := HR1.out.b.facts
        have hbX : Below w4.heap.size w4 (((w4.alloc (.cells #[.int .i64 4, .string ⟨#[]⟩, .int .i64 cf.chs.length, .int .i64 0] 117)).alloc (.cells #[.int .i64 3, .string ⟨#[102, 97, 105, 108]⟩, .int .i64 0, .int .i64 0] 117)).alloc (.cells #[.slice a1 n1 c1, .slice (some ⟨w4.heap.size, 0, none⟩) 1 1, .slice (some ⟨w4.heap.size + 1, 0, none⟩) 1 1] 83)) := (by repeat (first | exact Below.refl _ _ | refine Below.setCell ?_ (by simp <;> omega) _ | refine Below.drew ?_ | refine Below.drewN ?_ _ | refine Below.alloc ?_ (by simp <;> omega) _))
        have hQX := HR1.out.below hbX
        have hX3 : Seen (((w4.alloc (.cells #[.int .i64 4, .string ⟨#[]⟩, .int .i64 cf.chs.length, .int .i64 0] 117)).alloc (.cells #[.int .i64 3, .string ⟨#[102, 97, 105, 108]⟩, .int .i64 0, .int .i64 0] 117)).alloc (.cells #[.slice a1 n1 c1, .slice (some ⟨w4.heap.size, 0, none⟩) 1 1, .slice (some ⟨w4.heap.size + 1, 0, none⟩) 1 1] 83)) 83 slCells (.slice (some ⟨w4.heap.size + 1 + 1, 0, none⟩) 3 3) [⟨a1, n1, c1⟩, ⟨some ⟨w4.heap.size, 0, none⟩, 1, 1⟩, ⟨some ⟨w4.heap.size + 1, 0, none⟩, 1, 1⟩] := Seen.three (x := ⟨a1, n1, c1⟩) (y := ⟨some ⟨w4.heap.size, 0, none⟩, 1, 1⟩) (z := ⟨some ⟨w4.heap.size + 1, 0, none⟩, 1, 1⟩) (blk_at _ _ _ (by simp))
        have hY1 : Seen (((w4.alloc (.cells #[.int .i64 4, .string ⟨#[]⟩, .int .i64 cf.chs.length, .int .i64 0] 117)).alloc (.cells #[.int .i64 3, .string ⟨#[102, 97, 105, 108]⟩, .int .i64 0, .int .i64 0] 117)).alloc (.cells #[.slice a1 n1 c1, .slice (some ⟨w4.heap.size, 0, none⟩) 1 1, .slice (some ⟨w4.heap.size + 1, 0, none⟩) 1 1] 83)) 117 partCells (.slice (some ⟨w4.heap.size, 0, none⟩) 1 1) (Rf.cutT cf.chs.length) := Seen.one (p := ⟨4, ⟨#[]⟩, cf.chs.length, 0⟩) (blk_alloc (blk_alloc (blk_new w4 _) _) _)
        have hY2 : Seen (((w4.alloc (.cells #[.int .i64 4, .string ⟨#[]⟩, .int .i64 cf.chs.length, .int .i64 0] 117)).alloc (.cells #[.int .i64 3, .string ⟨#[102, 97, 105, 108]⟩, .int .i64 0, .int .i64 0] 117)).alloc (.cells #[.slice a1 n1 c1, .slice (some ⟨w4.heap.size, 0, none⟩) 1 1, .slice (some ⟨w4.heap.size + 1, 0, none⟩) 1 1] 83)) 117 partCells (.slice (some ⟨w4.heap.size + 1, 0, none⟩) 1 1) Rf.failT := Seen.one (p := ⟨3, Rf.failB, 0, 0⟩) (blk_alloc (blk_at _ _ _ (by simp)) _)
        have hA1 : Seen (((w4.alloc (.cells #[.int .i64 4, .string ⟨#[]⟩, .int .i64 cf.chs.length, .int .i64 0] 117)).alloc (.cells #[.int .i64 3, .string ⟨#[102, 97, 105, 108]⟩, .int .i64 0, .int .i64 0] 117)).alloc (.cells #[.slice a1 n1 c1, .slice (some ⟨w4.heap.size, 0, none⟩) 1 1, .slice (some ⟨w4.heap.size + 1, 0, none⟩) 1 1] 83)) 117 partCells (.slice a1 n1 c1) A := Seen.below (Seen.kept (HAk.out _ (by repeat (first | exact Below.refl _ _ | refine Below.setCell ?_ (by simp <;> omega) _ | refine Below.drew ?_ | refine Below.drewN ?_ _ | refine Below.alloc ?_ (by simp <;> omega) _))) HR2.out (HQb.out _ (by repeat (first | exact Below.refl _ _ | refine Below.setCell ?_ (by simp <;> omega) _ | refine Below.drew ?_ | refine Below.drewN ?_ _ | refine Below.alloc ?_ (by simp <;> omega) _))).free.p) hbX
        have hXf := fun i => (World.frozen?_of_block (a := ⟨q, i, none⟩) (hbX.block q ml)).trans (mf i)
        have hXc := hQX.b.facts.2.1
        have HX3 : Hid _ := hX3
        have HY1 : Hid _ := hY1
        have HY2 : Hid _ := hY2
        have HA1 : Hid _ := hA1
        have HQX : Hid _ := hQX
        have HbX : Hid _ := hbX
        clear hX3 hY1 hY2 hA1 hQX hbX
        go_wp2_with fail
        go_ret
        rw [HN0.out]
        have hs := StIs.mk (S := ⟨[A, Rf.cutT cf.chs.length, Rf.failT], cf.now.terms, cf.now.fresh⟩) (SeenTs.mk ⟨[(⟨a1, n1, c1⟩, A), (⟨some ⟨w4.heap.size, 0, none⟩, 1, 1⟩, Rf.cutT cf.chs.length), (⟨some ⟨w4.heap.size + 1, 0, none⟩, 1, 1⟩, Rf.failT)], HX3.out, (fun y hy => by
          simp only [List.mem_cons, List.not_mem_nil, or_false] at hy
          rcases hy with rfl | rfl | rfl
          · exact HA1.out
          · exact HY1.out
          · exact HY2.out), rfl⟩) HQX.out.s.t HQX.out.s.f
        refine ⟨rfl, ⟨some gA, (QIs.now HQX.out (kept_one _ _) (blk_set HQX.out.b 1 _) hs).at, ?_⟩, ?_⟩
        · have hz1 := hb1.size
          rcases hnb3 with e | ⟨k, e, hk⟩
          · exact .inl (e.trans HQ.out.o)
          · exact .inr ⟨k, e, by simp at hk; omega⟩
        · exact (((Kept.of_below (hb1.trans (Below.mono ((by repeat (first | exact Below.refl _ _ | refine Below.setCell ?_ (by simp <;> omega) _ | refine Below.drew ?_ | refine Below.drewN ?_ _ | refine Below.alloc ?_ (by simp <;> omega) _)) : Below w1.heap.size w1 _) hb1.size)) (May q rb)).trans HR2.out (fun _ _ h => h)).trans (Kept.of_below HbX.out (May q rb)) (fun _ _ h => h)).setCell (p := ⟨q, 1, none⟩) (.inr (.inl rfl)) _
end Go.Proofs.YtpdikdnffehmkaaGreatDoor
/- The program's question (play: builtIn): the plain function's answers. -/
namespace Go.Proofs.YtpdikdnffehmkaaGreatDoor
open Go.RowKit
variable {nm : Value}
theorem isName (s : ByteArray) (l : List UInt8) : (s.toList == l) = true ↔ s = ⟨l.toArray⟩ := by
  rw [← dec_str]; simp
set_option maxHeartbeats 1000000 in
set_option maxRecDepth 100000 in
theorem pbuilt_any (w : World) (q : Nat) (rb : Option Nat) (names : List ByteArray) (cf : Rf.Cf) (a1 : Option Addr) (n1 c1 : Nat) (A : List Rf.Part) (N : Nat) (F : Int) (h : QAt nm w q rb names cf) (hA : Seen w 117 partCells (.slice a1 n1 c1) A) (hG : Rf.StG N F cf.now) (hN : N ≤ 9000) (hne : cf.now.goals ≠ []) (hAl : A.length ≤ 400) (hAG : ∀ p ∈ A, Rf.PartG cf.now.fresh p) (hl20 : cf.chs.length ≤ 20) :
    Calls Tryz.prog 123 #[.pointer (some ⟨q, 0, none⟩), .slice a1 n1 c1] w fun r w' => r = .returned (.int .i64 (Rf.builtP cf A).1) ∧ (∃ rb', QAt nm w' q rb' names (Rf.builtP cf A).2 ∧ Nb w rb rb') ∧ Kept (May q rb) w w' := by
  have HQ : Hid _ := h
  have HA : Hid _ := hA
  have HAG : Hid (∀ p ∈ A, Rf.PartG cf.now.fresh p) := hAG
  have HA4 : Hid (Rf.ArgsOk A) := fun p hp => (hAG p hp).1
  have HG : Hid _ := hG
  have Hne : Hid _ := hne
  obtain ⟨p, hp⟩ : ∃ p, Hid (Rf.topP A = p) := ⟨_, rfl⟩
  clear h hA hne hAG hG
  by_cases h4 : p.kind = 4
  · have HB0 : Hid (Rf.builtP cf A = Rf.meetP ⟨cf.now, Rf.dropC cf.chs p.value⟩) := by unfold Hid Rf.builtP; rw [hp.out, if_pos h4]
    go_enter Tryz.func123, Tryz.ntmps123
    go_wp2_with (first
      | (go_at_call 121; refine (ptopA_any a1 n1 c1 A _ HA.out).mono ?_; rintro r w1 ⟨rfl, hb1⟩; rw [hp.out]; have hz1 := hb1.size)
      | (go_at_call 119; refine (pdropTo_any _ q rb names cf p.value (HQ.out.below (hb1.alloc hz1 _)) hl20).mono ?_; rintro r w2 ⟨rfl, hQ2, hk2⟩)
      | (go_at_call 156; refine (pmeet_any _ q rb names _ hQ2 Hne.out).mono ?_; rintro r w3 ⟨rfl, hQ3, hk3⟩))
    go_ret
    rw [HB0.out]
    exact ⟨rfl, ⟨rb, hQ3, .inl rfl⟩, ((Kept.of_below (hb1.alloc hz1 _) (May q rb)).trans hk2 (fun _ _ h => h)).trans hk3 (fun _ _ h => h)⟩
  · have h4' : (p.kind == 4) = false := beq_eq_false_iff_ne.2 h4
    have b1 : (p.name.toList == [116, 114, 117, 101]) = true ↔ p.name = Rf.trueB := isName p.name [116, 114, 117, 101]
    have b2 : (p.name.toList == [101, 113]) = true ↔ p.name = Rf.eqB := isName p.name [101, 113]
    have b3 : (p.name.toList == [108, 101, 115, 115]) = true ↔ p.name = Rf.lessB := isName p.name [108, 101, 115, 115]
    have b4 : (p.name.toList == [112, 108, 117, 115]) = true ↔ p.name = Rf.plusB := isName p.name [112, 108, 117, 115]
    have b5 : (p.name.toList == [110, 111, 116]) = true ↔ p.name = Rf.notB := isName p.name [110, 111, 116]
    have HBP : Hid (Rf.builtP cf A = if p.name = Rf.trueB then Rf.meetP cf else if p.name = Rf.eqB then Rf.equalP cf (Rf.argT A 0) (Rf.argT A 1) else if p.name = Rf.lessB then Rf.lessP cf A else if p.name = Rf.plusB then Rf.plusP cf A else if p.name = Rf.notB then Rf.notP cf (Rf.argT A 0) else (-1, cf)) := by unfold Hid Rf.builtP; rw [hp.out, if_neg h4]
    cases e1 : (p.name.toList == [116, 114, 117, 101])
    · rw [e1] at b1
      cases e2 : (p.name.toList == [101, 113])
      · rw [e2] at b2
        cases e3 : (p.name.toList == [108, 101, 115, 115])
        · rw [e3] at b3
          cases e4 : (p.name.toList == [112, 108, 117, 115])
          · rw [e4] at b4
            cases e5 : (p.name.toList == [110, 111, 116])
            · rw [e5] at b5
              have HB0 : Hid (Rf.builtP cf A = (-1, cf)) := by unfold Hid; rw [HBP.out, if_neg (fun e => by have := b1.2 e; cases this), if_neg (fun e => by have := b2.2 e; cases this), if_neg (fun e => by have := b3.2 e; cases this), if_neg (fun e => by have := b4.2 e; cases this), if_neg (fun e => by have := b5.2 e; cases this)]
              clear HBP b1 b2 b3 b4 b5
              go_enter Tryz.func123, Tryz.ntmps123
              go_wp2_with (go_at_call 121; refine (ptopA_any a1 n1 c1 A _ HA.out).mono ?_; rintro r w1 ⟨rfl, hb1⟩; rw [hp.out]; have hz1 := hb1.size)
              go_ret
              rw [HB0.out]
              exact ⟨rfl, ⟨rb, HQ.out.below (hb1.alloc hz1 _), .inl rfl⟩, Kept.of_below (hb1.alloc hz1 _) _⟩
            · rw [e5] at b5
              have HB0 : Hid (Rf.builtP cf A = Rf.notP cf (Rf.argT A 0)) := by unfold Hid; rw [HBP.out, if_neg (fun e => by have := b1.2 e; cases this), if_neg (fun e => by have := b2.2 e; cases this), if_neg (fun e => by have := b3.2 e; cases this), if_neg (fun e => by have := b4.2 e; cases this), if_pos (b5.1 rfl)]
              clear HBP b1 b2 b3 b4 b5
              go_enter Tryz.func123, Tryz.ntmps123
              go_wp2_with (first
                | (go_at_call 121; refine (ptopA_any a1 n1 c1 A _ HA.out).mono ?_; rintro r w1 ⟨rfl, hb1⟩; rw [hp.out]; have hz1 := hb1.size)
                | (go_at_call 158; refine (parg0_any a1 n1 c1 A _ (HA.out.below (hb1.alloc hz1 _)) HA4.out hAl).mono ?_; rintro r w2 ⟨a3, n3, c3, rfl, hS2, hb2⟩; have hbw2 : Below w.heap.size w w2 := (hb1.alloc hz1 _).trans (hb2.mono (by rw [World.size_alloc]; omega)))
                | (go_at_call 161; refine (pnot_any _ q rb names cf a3 n3 c3 (Rf.argT A 0) (HQ.out.below hbw2) hS2 Hne.out hl20).mono ?_; rintro r w3 ⟨rfl, ⟨rb', hQ3, hnb⟩, hk3⟩))
              go_ret
              rw [HB0.out]
              exact ⟨rfl, ⟨rb', hQ3, by
                rcases hnb with e | ⟨k, e, hk⟩
                · exact .inl e
                · exact .inr ⟨k, e, by have := hbw2.size; omega⟩⟩, (Kept.of_below hbw2 _).trans hk3 (fun _ _ h => h)⟩
          · rw [e4] at b4
            have HB0 : Hid (Rf.builtP cf A = Rf.plusP cf A) := by unfold Hid; rw [HBP.out, if_neg (fun e => by have := b1.2 e; cases this), if_neg (fun e => by have := b2.2 e; cases this), if_neg (fun e => by have := b3.2 e; cases this), if_pos (b4.1 rfl)]
            clear HBP b1 b2 b3 b4 b5
            go_enter Tryz.func123, Tryz.ntmps123
            go_wp2_with (first
              | (go_at_call 121; refine (ptopA_any a1 n1 c1 A _ HA.out).mono ?_; rintro r w1 ⟨rfl, hb1⟩; rw [hp.out]; have hz1 := hb1.size)
              | (go_at_call 160; refine (pplus_any _ q rb names cf a1 n1 c1 A N F (HQ.out.below (hb1.alloc hz1 _)) (HA.out.below (hb1.alloc hz1 _)) HG.out hN Hne.out hAl HAG.out).mono ?_; rintro r w3 ⟨rfl, hQ3, hk3⟩))
            go_ret
            rw [HB0.out]
            exact ⟨rfl, ⟨rb, hQ3, .inl rfl⟩, (Kept.of_below (hb1.alloc hz1 _) _).trans hk3 (fun _ _ h => h)⟩
        · rw [e3] at b3
          have HB0 : Hid (Rf.builtP cf A = Rf.lessP cf A) := by unfold Hid; rw [HBP.out, if_neg (fun e => by have := b1.2 e; cases this), if_neg (fun e => by have := b2.2 e; cases this), if_pos (b3.1 rfl)]
          clear HBP b1 b2 b3 b4 b5
          go_enter Tryz.func123, Tryz.ntmps123
          go_wp2_with (first
            | (go_at_call 121; refine (ptopA_any a1 n1 c1 A _ HA.out).mono ?_; rintro r w1 ⟨rfl, hb1⟩; rw [hp.out]; have hz1 := hb1.size)
            | (go_at_call 159; refine (pless_any _ q rb names cf a1 n1 c1 A (HQ.out.below (hb1.alloc hz1 _)) (HA.out.below (hb1.alloc hz1 _)) Hne.out hAl HA4.out).mono ?_; rintro r w3 ⟨rfl, hQ3, hk3⟩))
          go_ret
          rw [HB0.out]
          exact ⟨rfl, ⟨rb, hQ3, .inl rfl⟩, (Kept.of_below (hb1.alloc hz1 _) _).trans hk3 (fun _ _ h => h)⟩
      · rw [e2] at b2
        have HB0 : Hid (Rf.builtP cf A = Rf.equalP cf (Rf.argT A 0) (Rf.argT A 1)) := by unfold Hid; rw [HBP.out, if_neg (fun e => by have := b1.2 e; cases this), if_pos (b2.1 rfl)]
        clear HBP b1 b2 b3 b4 b5
        go_enter Tryz.func123, Tryz.ntmps123
        go_wp2_with (first
          | (go_at_call 121; refine (ptopA_any a1 n1 c1 A _ HA.out).mono ?_; rintro r w1 ⟨rfl, hb1⟩; rw [hp.out]; have hz1 := hb1.size)
          | (go_at_call 158; first
            | (refine (parg1_any a1 n1 c1 A _ (HA.out.below hbw2) HA4.out hAl).mono ?_; rintro r w4 ⟨a4, n4, c4, rfl, hS4, hb4⟩; have hbw4 : Below w.heap.size w w4 := hbw2.trans (hb4.mono hbw2.size); have hS3 := Seen.below hS2 hb4)
            | (refine (parg0_any a1 n1 c1 A _ (HA.out.below (hb1.alloc hz1 _)) HA4.out hAl).mono ?_; rintro r w2 ⟨a3, n3, c3, rfl, hS2, hb2⟩; have hbw2 : Below w.heap.size w w2 := (hb1.alloc hz1 _).trans (hb2.mono (by rw [World.size_alloc]; omega))))
          | (go_at_call 157; refine (pequal_any _ q rb names cf a3 n3 c3 (Rf.argT A 0) a4 n4 c4 (Rf.argT A 1) N F (HQ.out.below hbw4) hS3 hS4 HG.out hN Hne.out (Nat.le_trans (Rf.argT_sub A 0).1 hAl) (Nat.le_trans (Rf.argT_sub A 1).1 hAl) (argsOk_arg HA4.out 0) (argsOk_arg HA4.out 1)).mono ?_; rintro r w5 ⟨rfl, hQ5, hk5⟩))
        go_ret
        rw [HB0.out]
        exact ⟨rfl, ⟨rb, hQ5, .inl rfl⟩, (Kept.of_below hbw4 _).trans hk5 (fun _ _ h => h)⟩
    · rw [e1] at b1
      have HB0 : Hid (Rf.builtP cf A = Rf.meetP cf) := by unfold Hid; rw [HBP.out, if_pos (b1.1 rfl)]
      clear HBP b1 b2 b3 b4 b5
      go_enter Tryz.func123, Tryz.ntmps123
      go_wp2_with (first
        | (go_at_call 121; refine (ptopA_any a1 n1 c1 A _ HA.out).mono ?_; rintro r w1 ⟨rfl, hb1⟩; rw [hp.out]; have hz1 := hb1.size)
        | (go_at_call 156; refine (pmeet_any _ q rb names cf (HQ.out.below (hb1.alloc hz1 _)) Hne.out).mono ?_; rintro r w3 ⟨rfl, hQ3, hk3⟩))
      go_ret
      rw [HB0.out]
      exact ⟨rfl, ⟨rb, hQ3, .inl rfl⟩, (Kept.of_below (hb1.alloc hz1 _) _).trans hk3 (fun _ _ h => h)⟩
end Go.Proofs.YtpdikdnffehmkaaGreatDoor
