
import Derived.Test.YtbiojnljihgpoaaGreatDoorZaz
import Derived.Test.YtbiojnljihgpoaaGreatDoorZay
namespace Go.Proofs.YtbiojnljihgpoaaGreatDoor
open Go.RowKit
variable {nm : Value}
set_option maxHeartbeats 1000000 in
set_option maxRecDepth 100000 in
theorem pnot_any (w : World) (q : Nat) (rb : Option Nat) (names : List ByteArray) (cf : Rf.Cf) (a1 : Option Addr) (n1 c1 : Nat) (A : List Rf.Part) (h : QAt nm w q rb names cf) (hA : Seen w 101 partCells (.slice a1 n1 c1) A) (hne : cf.now.goals ≠ []) (hl20 : cf.chs.length <= 20) :
  Calls Tryz.prog 115 #[.pointer (some ⟨q, 0, none⟩), .slice a1 n1 c1] w fun r w' => r = .returned (.int .i64 (Rf.notP cf A).1) /\ (∃ rb', QAt nm w' q rb' names (Rf.notP cf A).2 /\ Nb w rb rb') /\ Kept (May q rb) w w' := by
 obtain ⟨vg, vt, fr, vC, hQ⟩ := h.ex
 obtain ⟨k0, k1, k2, k3, k4, kf, kl⟩ := hQ.b.facts
 obtain ⟨ag, cg, rfl⟩ := hQ.s.g.slice
 obtain ⟨g, off, rfl, hgl, _, hp1, hp2⟩ := hQ.s.g.pos hne
 obtain ⟨ta, tc, rfl⟩ := hQ.s.t.slice
 obtain ⟨ca, cc, rfl⟩ := hQ.r.slice
 have HQ : Hid _ := hQ
 have HA : Hid _ := hA
 have Hne : Hid _ := hne
 obtain ⟨K, hK⟩ : ∃ K, Hid ((Rf.topP A).kind = K) := ⟨_, rfl⟩
 have HN : Hid (Rf.notP cf A = if (if K = 1 then 9 else if K = 2 then 10 else 0 : Int) = 0 then (if 20 <= cf.chs.length then (6, cf) else (0, ⟨⟨[A, Rf.cutT cf.chs.length, Rf.failT], cf.now.terms, cf.now.fresh⟩, ⟨⟨cf.now.goals.tail, cf.now.terms, cf.now.fresh⟩, []⟩ :: cf.chs⟩)) else ((if K = 1 then 9 else if K = 2 then 10 else 0 : Int), cf)) := by unfold Hid Rf.notP Rf.notK; rw [hK.out]
 clear h hQ hA hne
 have hfd : ∀ w : World, _ := fun w => part_kind K (Rf.topP A).name (Rf.topP A).value (Rf.topP A).args w
 by_cases h1 : K = 1
 ·subst h1
  have HN0 : Hid (Rf.notP cf A = (9, cf)) := HN.out
  clear HN
  go_enter Tryz.func115, Tryz.ntmps115
  go_wp2_with (go_at_call 71; refine (ptopA_any a1 n1 c1 A _ HA.out).mono ?_; rintro r w1 ⟨rfl, hb1⟩; rw [hK.out])
  go_ret
  rw [HN0.out]
  exact ⟨rfl, ⟨rb, (HQ.out.below hb1).at, .inl rfl⟩, Kept.of_below hb1 _⟩
 by_cases h2 : K = 2
 ·subst h2
  have HN0 : Hid (Rf.notP cf A = (10, cf)) := HN.out
  clear HN
  go_enter Tryz.func115, Tryz.ntmps115
  go_wp2_with (go_at_call 71; refine (ptopA_any a1 n1 c1 A _ HA.out).mono ?_; rintro r w1 ⟨rfl, hb1⟩; rw [hK.out])
  go_ret
  rw [HN0.out]
  exact ⟨rfl, ⟨rb, (HQ.out.below hb1).at, .inl rfl⟩, Kept.of_below hb1 _⟩
 have h1' : (K == 1) = false := beq_eq_false_iff_ne.2 h1
 have h2' : (K == 2) = false := beq_eq_false_iff_ne.2 h2
 have HN1 : Hid (Rf.notP cf A = if 20 <= cf.chs.length then (6, cf) else (0, ⟨⟨[A, Rf.cutT cf.chs.length, Rf.failT], cf.now.terms, cf.now.fresh⟩, ⟨⟨cf.now.goals.tail, cf.now.terms, cf.now.fresh⟩, []⟩ :: cf.chs⟩)) := by unfold Hid; rw [HN.out, if_neg h1, if_neg h2, if_pos rfl]
 clear HN
 by_cases h20 : 20 <= cf.chs.length
 ·have HN0 : Hid (Rf.notP cf A = (6, cf)) := by unfold Hid; rw [HN1.out, if_pos h20]
  have h20' : (20 : Int) <= cf.chs.length := by omega
  clear HN1
  go_enter Tryz.func115, Tryz.ntmps115
  go_wp2_with (go_at_call 71; refine (ptopA_any a1 n1 c1 A _ HA.out).mono ?_; rintro r w1 ⟨rfl, hb1⟩; rw [hK.out]; obtain ⟨l0, l1, l2, l3, l4, lf, ll⟩ := (HQ.out.below hb1).b.facts)
  go_ret
  rw [HN0.out]
  exact ⟨rfl, ⟨rb, (HQ.out.below hb1).at, .inl rfl⟩, Kept.of_below hb1 _⟩
 ·have HN0 : Hid (Rf.notP cf A = (0, ⟨⟨[A, Rf.cutT cf.chs.length, Rf.failT], cf.now.terms, cf.now.fresh⟩, ⟨⟨cf.now.goals.tail, cf.now.terms, cf.now.fresh⟩, []⟩ :: cf.chs⟩)) := by unfold Hid; rw [HN1.out, if_neg h20]
  have h20' : ¬ (20 : Int) <= cf.chs.length := by omega
  clear HN1
  go_enter Tryz.func115, Tryz.ntmps115
  obtain ⟨acc, hr, hac, ham⟩ := HQ.out.r.ex
  have hal : acc.length = cf.chs.length := by have := congrArg List.length ham; simpa using this
  have HR : Hid _ := hr
  have HAC : Hid _ := hac
  have HAM : Hid _ := ham
  clear hr hac ham
  go_wp2_with (go_at_call 71; refine (ptopA_any a1 n1 c1 A _ HA.out).mono ?_; rintro r w1 ⟨rfl, hb1⟩; rw [hK.out]; obtain ⟨l0, l1, l2, l3, l4, lf, ll⟩ := (HQ.out.below hb1).b.facts; have HQ1 : Hid _ := HQ.out.below hb1)
  all_goals
   have HRb : Hid (∀ X, Below w1.heap.size w1 X -> RowIs X 0 79 4 chCells (.slice ca cf.chs.length cc) (acc.map (·.1))) := fun X hX => (HR.out.below hb1).below hX
   have HAb : Hid (∀ y ∈ acc, ∀ X, Below w1.heap.size w1 X -> ChIs X y.1 y.2) := fun y hy X hX => ((HAC.out y hy).below hb1).below hX
   have HAk : Hid (∀ X, Below w1.heap.size w1 X -> Seen X 101 partCells (.slice a1 n1 c1) A) := fun X hX => (HA.out.below hb1).below hX
   have HTt : Hid (∀ X, Below w1.heap.size w1 X -> SeenTs X (.slice ta cf.now.terms.length tc) cf.now.terms) := fun X hX => HQ1.out.s.t.below hX
   have HQb : Hid (∀ X, Below w1.heap.size w1 X -> QIs X q rb nm (.slice (some ⟨g, off, none⟩) cf.now.goals.length cg) (.slice ta cf.now.terms.length tc) fr (.slice ca cf.chs.length cc) names cf) := fun X hX => HQ1.out.below hX
  ·have HT1 : Hid (∀ X, Below w1.heap.size w1 X -> SeenTs X (.slice (some ⟨g, off, none⟩) (cf.now.goals.length - 1) 0) cf.now.goals.tail) := fun X hX => ((HQ1.out.s.g.tail1 ‹_›) : SeenTs w1 (.slice (some ⟨g, off, none⟩) (cf.now.goals.length - 1) 0) cf.now.goals.tail).below hX
   go_region_law (refine step_app Tryz.elemCh chCells chCells_len chCells_one rfl (.tmp 35) (.tmp 38) rfl 0 (.slice ca cf.chs.length cc) (acc.map (·.1)) rfl (HRb.out _ (by repeat(first|exact bl0 _ _|refine bl1 ?_ (by simp<;>omega) _|refine bl2 ?_|refine bl3 ?_ _|refine bl4 ?_ (by simp<;>omega) _))) ⟨_, 0, none⟩ 1 ⟨⟨some ⟨g, off, none⟩, cf.now.goals.length - 1, 0⟩, ⟨ta, cf.now.terms.length, tc⟩, fr, ⟨none, 0, 0⟩⟩ rfl (cell_four_at _ _ (by simp) _ _ _ _ _) (by rw [List.length_map, hal]; omega) (Nat.zero_le _) ?_; intro gA capA w3 hrow3 hgr3 hnb3; rw [List.length_map, hal] at hrow3; obtain ⟨r1, r2, r3⟩ := QIs.push (HQb.out _ (by repeat(first|exact bl0 _ _|refine bl1 ?_ (by simp<;>omega) _|refine bl2 ?_|refine bl3 ?_ _|refine bl4 ?_ (by simp<;>omega) _))) (fun y hy => HAb.out y hy _ (by repeat(first|exact bl0 _ _|refine bl1 ?_ (by simp<;>omega) _|refine bl2 ?_|refine bl3 ?_ _|refine bl4 ?_ (by simp<;>omega) _))) HAM.out (c := ⟨⟨cf.now.goals.tail, cf.now.terms, cf.now.fresh⟩, []⟩) ⟨⟨HT1.out _ (by repeat(first|exact bl0 _ _|refine bl1 ?_ (by simp<;>omega) _|refine bl2 ?_|refine bl3 ?_ _|refine bl4 ?_ (by simp<;>omega) _)), HTt.out _ (by repeat(first|exact bl0 _ _|refine bl1 ?_ (by simp<;>omega) _|refine bl2 ?_|refine bl3 ?_ _|refine bl4 ?_ (by simp<;>omega) _)), HQ.out.s.f⟩, Seen.nil⟩ hrow3 hgr3; obtain ⟨m0, m1, m2, m3, m4, mf, ml⟩ := r3.facts; have HR1 : Hid _ := r1; have HR2 : Hid _ := r2; clear r1 r2 r3)
   all_goals
    generalize w3.setCell ⟨q, 4, none⟩ (.slice (some ⟨gA, 0, none⟩) (cf.chs.length + 1) capA) = w4 at *
    clear m0 m1 m2 m3 m4 mf ml l0 l1 l2 l3 l4 lf
    obtain ⟨m0, m1, m2, m3, m4, mf, ml⟩ := HR1.out.b.facts
    have hbX : Below w4.heap.size w4 (((w4.alloc (.cells #[.int .i64 4, .string ⟨#[]⟩, .int .i64 cf.chs.length, .int .i64 0] 101)).alloc (.cells #[.int .i64 3, .string ⟨#[102, 97, 105, 108]⟩, .int .i64 0, .int .i64 0] 101)).alloc (.cells #[.slice a1 n1 c1, .slice (some ⟨w4.heap.size, 0, none⟩) 1 1, .slice (some ⟨w4.heap.size + 1, 0, none⟩) 1 1] 56)) := (by repeat(first|exact bl0 _ _|refine bl1 ?_ (by simp<;>omega) _|refine bl2 ?_|refine bl3 ?_ _|refine bl4 ?_ (by simp<;>omega) _))
    have hQX := HR1.out.below hbX
    have hX3 : Seen (((w4.alloc (.cells #[.int .i64 4, .string ⟨#[]⟩, .int .i64 cf.chs.length, .int .i64 0] 101)).alloc (.cells #[.int .i64 3, .string ⟨#[102, 97, 105, 108]⟩, .int .i64 0, .int .i64 0] 101)).alloc (.cells #[.slice a1 n1 c1, .slice (some ⟨w4.heap.size, 0, none⟩) 1 1, .slice (some ⟨w4.heap.size + 1, 0, none⟩) 1 1] 56)) 56 slCells (.slice (some ⟨w4.heap.size + 1 + 1, 0, none⟩) 3 3) [⟨a1, n1, c1⟩, ⟨some ⟨w4.heap.size, 0, none⟩, 1, 1⟩, ⟨some ⟨w4.heap.size + 1, 0, none⟩, 1, 1⟩] := Seen.three (x := ⟨a1, n1, c1⟩) (y := ⟨some ⟨w4.heap.size, 0, none⟩, 1, 1⟩) (z := ⟨some ⟨w4.heap.size + 1, 0, none⟩, 1, 1⟩) (blk_at _ _ _ (by simp))
    have hY1 : Seen (((w4.alloc (.cells #[.int .i64 4, .string ⟨#[]⟩, .int .i64 cf.chs.length, .int .i64 0] 101)).alloc (.cells #[.int .i64 3, .string ⟨#[102, 97, 105, 108]⟩, .int .i64 0, .int .i64 0] 101)).alloc (.cells #[.slice a1 n1 c1, .slice (some ⟨w4.heap.size, 0, none⟩) 1 1, .slice (some ⟨w4.heap.size + 1, 0, none⟩) 1 1] 56)) 101 partCells (.slice (some ⟨w4.heap.size, 0, none⟩) 1 1) (Rf.cutT cf.chs.length) := Seen.one (p := ⟨4, ⟨#[]⟩, cf.chs.length, 0⟩) (blk_alloc (blk_alloc (blk_new w4 _) _) _)
    have hY2 : Seen (((w4.alloc (.cells #[.int .i64 4, .string ⟨#[]⟩, .int .i64 cf.chs.length, .int .i64 0] 101)).alloc (.cells #[.int .i64 3, .string ⟨#[102, 97, 105, 108]⟩, .int .i64 0, .int .i64 0] 101)).alloc (.cells #[.slice a1 n1 c1, .slice (some ⟨w4.heap.size, 0, none⟩) 1 1, .slice (some ⟨w4.heap.size + 1, 0, none⟩) 1 1] 56)) 101 partCells (.slice (some ⟨w4.heap.size + 1, 0, none⟩) 1 1) Rf.failT := Seen.one (p := ⟨3, Rf.failB, 0, 0⟩) (blk_alloc (blk_at _ _ _ (by simp)) _)
    have hA1 : Seen (((w4.alloc (.cells #[.int .i64 4, .string ⟨#[]⟩, .int .i64 cf.chs.length, .int .i64 0] 101)).alloc (.cells #[.int .i64 3, .string ⟨#[102, 97, 105, 108]⟩, .int .i64 0, .int .i64 0] 101)).alloc (.cells #[.slice a1 n1 c1, .slice (some ⟨w4.heap.size, 0, none⟩) 1 1, .slice (some ⟨w4.heap.size + 1, 0, none⟩) 1 1] 56)) 101 partCells (.slice a1 n1 c1) A := Seen.below (Seen.kept (HAk.out _ (by repeat(first|exact bl0 _ _|refine bl1 ?_ (by simp<;>omega) _|refine bl2 ?_|refine bl3 ?_ _|refine bl4 ?_ (by simp<;>omega) _))) HR2.out (HQb.out _ (by repeat(first|exact bl0 _ _|refine bl1 ?_ (by simp<;>omega) _|refine bl2 ?_|refine bl3 ?_ _|refine bl4 ?_ (by simp<;>omega) _))).free.p) hbX
    have hXf := fun i => (World.frozen?_of_block (a := ⟨q, i, none⟩) (hbX.block q ml)).trans (mf i)
    have hXc := hQX.b.facts.2.1
    have HX3 : Hid _ := hX3
    have HY1 : Hid _ := hY1
    have HY2 : Hid _ := hY2
    have HA1 : Hid _ := hA1
    have HQX : Hid _ := hQX
    have HbX : Hid _ := hbX
    clear hX3 hY1 hY2 hA1 hQX hbX
    go_wp2_with fail
    go_ret
    rw [HN0.out]
    have hs := StIs.mk (S := ⟨[A, Rf.cutT cf.chs.length, Rf.failT], cf.now.terms, cf.now.fresh⟩) (SeenTs.mk ⟨[(⟨a1, n1, c1⟩, A), (⟨some ⟨w4.heap.size, 0, none⟩, 1, 1⟩, Rf.cutT cf.chs.length), (⟨some ⟨w4.heap.size + 1, 0, none⟩, 1, 1⟩, Rf.failT)], HX3.out, (fun y hy => by
     simp only [List.mem_cons, List.not_mem_nil, or_false] at hy
     rcases hy with rfl | rfl | rfl
     ·exact HA1.out
     ·exact HY1.out
     ·exact HY2.out), rfl⟩) HQX.out.s.t HQX.out.s.f
    refine ⟨rfl, ⟨some gA, (QIs.now HQX.out (kept_one _ _) (blk_set HQX.out.b 1 _) hs).at, ?_⟩, ?_⟩
    ·have hz1 := hb1.size
     rcases hnb3 with e | ⟨k, e, hk⟩
     ·exact .inl (e.trans HQ.out.o)
     ·exact .inr ⟨k, e, by simp at hk; omega⟩
    ·exact (((Kept.of_below (hb1.trans (Below.mono ((by repeat(first|exact bl0 _ _|refine bl1 ?_ (by simp<;>omega) _|refine bl2 ?_|refine bl3 ?_ _|refine bl4 ?_ (by simp<;>omega) _)) : Below w1.heap.size w1 _) hb1.size)) (May q rb)).trans HR2.out (fun _ _ h => h)).trans (Kept.of_below HbX.out (May q rb)) (fun _ _ h => h)).setCell (p := ⟨q, 1, none⟩) (.inr (.inl rfl)) _
  ·have HT1 : Hid (∀ X, Below w1.heap.size w1 X -> SeenTs X (.slice (some ⟨g, off + 1, none⟩) (cf.now.goals.length - 1) (cg - 1)) cf.now.goals.tail) := fun X hX => ((HQ1.out.s.g.tail2 Hne.out) : SeenTs w1 (.slice (some ⟨g, off + 1, none⟩) (cf.now.goals.length - 1) (cg - 1)) cf.now.goals.tail).below hX
   go_region_law (refine step_app Tryz.elemCh chCells chCells_len chCells_one rfl (.tmp 35) (.tmp 38) rfl 0 (.slice ca cf.chs.length cc) (acc.map (·.1)) rfl (HRb.out _ (by repeat(first|exact bl0 _ _|refine bl1 ?_ (by simp<;>omega) _|refine bl2 ?_|refine bl3 ?_ _|refine bl4 ?_ (by simp<;>omega) _))) ⟨_, 0, none⟩ 1 ⟨⟨some ⟨g, off + 1, none⟩, cf.now.goals.length - 1, cg - 1⟩, ⟨ta, cf.now.terms.length, tc⟩, fr, ⟨none, 0, 0⟩⟩ rfl (cell_four_at _ _ (by simp) _ _ _ _ _) (by rw [List.length_map, hal]; omega) (Nat.zero_le _) ?_; intro gA capA w3 hrow3 hgr3 hnb3; rw [List.length_map, hal] at hrow3; obtain ⟨r1, r2, r3⟩ := QIs.push (HQb.out _ (by repeat(first|exact bl0 _ _|refine bl1 ?_ (by simp<;>omega) _|refine bl2 ?_|refine bl3 ?_ _|refine bl4 ?_ (by simp<;>omega) _))) (fun y hy => HAb.out y hy _ (by repeat(first|exact bl0 _ _|refine bl1 ?_ (by simp<;>omega) _|refine bl2 ?_|refine bl3 ?_ _|refine bl4 ?_ (by simp<;>omega) _))) HAM.out (c := ⟨⟨cf.now.goals.tail, cf.now.terms, cf.now.fresh⟩, []⟩) ⟨⟨HT1.out _ (by repeat(first|exact bl0 _ _|refine bl1 ?_ (by simp<;>omega) _|refine bl2 ?_|refine bl3 ?_ _|refine bl4 ?_ (by simp<;>omega) _)), HTt.out _ (by repeat(first|exact bl0 _ _|refine bl1 ?_ (by simp<;>omega) _|refine bl2 ?_|refine bl3 ?_ _|refine bl4 ?_ (by simp<;>omega) _)), HQ.out.s.f⟩, Seen.nil⟩ hrow3 hgr3; obtain ⟨m0, m1, m2, m3, m4, mf, ml⟩ := r3.facts; have HR1 : Hid _ := r1; have HR2 : Hid _ := r2; clear r1 r2 r3)
   all_goals
    generalize w3.setCell ⟨q, 4, none⟩ (.slice (some ⟨gA, 0, none⟩) (cf.chs.length + 1) capA) = w4 at *
    clear m0 m1 m2 m3 m4 mf ml l0 l1 l2 l3 l4 lf
    obtain ⟨m0, m1, m2, m3, m4, mf, ml⟩ := HR1.out.b.facts
    have hbX : Below w4.heap.size w4 (((w4.alloc (.cells #[.int .i64 4, .string ⟨#[]⟩, .int .i64 cf.chs.length, .int .i64 0] 101)).alloc (.cells #[.int .i64 3, .string ⟨#[102, 97, 105, 108]⟩, .int .i64 0, .int .i64 0] 101)).alloc (.cells #[.slice a1 n1 c1, .slice (some ⟨w4.heap.size, 0, none⟩) 1 1, .slice (some ⟨w4.heap.size + 1, 0, none⟩) 1 1] 56)) := (by repeat(first|exact bl0 _ _|refine bl1 ?_ (by simp<;>omega) _|refine bl2 ?_|refine bl3 ?_ _|refine bl4 ?_ (by simp<;>omega) _))
    have hQX := HR1.out.below hbX
    have hX3 : Seen (((w4.alloc (.cells #[.int .i64 4, .string ⟨#[]⟩, .int .i64 cf.chs.length, .int .i64 0] 101)).alloc (.cells #[.int .i64 3, .string ⟨#[102, 97, 105, 108]⟩, .int .i64 0, .int .i64 0] 101)).alloc (.cells #[.slice a1 n1 c1, .slice (some ⟨w4.heap.size, 0, none⟩) 1 1, .slice (some ⟨w4.heap.size + 1, 0, none⟩) 1 1] 56)) 56 slCells (.slice (some ⟨w4.heap.size + 1 + 1, 0, none⟩) 3 3) [⟨a1, n1, c1⟩, ⟨some ⟨w4.heap.size, 0, none⟩, 1, 1⟩, ⟨some ⟨w4.heap.size + 1, 0, none⟩, 1, 1⟩] := Seen.three (x := ⟨a1, n1, c1⟩) (y := ⟨some ⟨w4.heap.size, 0, none⟩, 1, 1⟩) (z := ⟨some ⟨w4.heap.size + 1, 0, none⟩, 1, 1⟩) (blk_at _ _ _ (by simp))
    have hY1 : Seen (((w4.alloc (.cells #[.int .i64 4, .string ⟨#[]⟩, .int .i64 cf.chs.length, .int .i64 0] 101)).alloc (.cells #[.int .i64 3, .string ⟨#[102, 97, 105, 108]⟩, .int .i64 0, .int .i64 0] 101)).alloc (.cells #[.slice a1 n1 c1, .slice (some ⟨w4.heap.size, 0, none⟩) 1 1, .slice (some ⟨w4.heap.size + 1, 0, none⟩) 1 1] 56)) 101 partCells (.slice (some ⟨w4.heap.size, 0, none⟩) 1 1) (Rf.cutT cf.chs.length) := Seen.one (p := ⟨4, ⟨#[]⟩, cf.chs.length, 0⟩) (blk_alloc (blk_alloc (blk_new w4 _) _) _)
    have hY2 : Seen (((w4.alloc (.cells #[.int .i64 4, .string ⟨#[]⟩, .int .i64 cf.chs.length, .int .i64 0] 101)).alloc (.cells #[.int .i64 3, .string ⟨#[102, 97, 105, 108]⟩, .int .i64 0, .int .i64 0] 101)).alloc (.cells #[.slice a1 n1 c1, .slice (some ⟨w4.heap.size, 0, none⟩) 1 1, .slice (some ⟨w4.heap.size + 1, 0, none⟩) 1 1] 56)) 101 partCells (.slice (some ⟨w4.heap.size + 1, 0, none⟩) 1 1) Rf.failT := Seen.one (p := ⟨3, Rf.failB, 0, 0⟩) (blk_alloc (blk_at _ _ _ (by simp)) _)
    have hA1 : Seen (((w4.alloc (.cells #[.int .i64 4, .string ⟨#[]⟩, .int .i64 cf.chs.length, .int .i64 0] 101)).alloc (.cells #[.int .i64 3, .string ⟨#[102, 97, 105, 108]⟩, .int .i64 0, .int .i64 0] 101)).alloc (.cells #[.slice a1 n1 c1, .slice (some ⟨w4.heap.size, 0, none⟩) 1 1, .slice (some ⟨w4.heap.size + 1, 0, none⟩) 1 1] 56)) 101 partCells (.slice a1 n1 c1) A := Seen.below (Seen.kept (HAk.out _ (by repeat(first|exact bl0 _ _|refine bl1 ?_ (by simp<;>omega) _|refine bl2 ?_|refine bl3 ?_ _|refine bl4 ?_ (by simp<;>omega) _))) HR2.out (HQb.out _ (by repeat(first|exact bl0 _ _|refine bl1 ?_ (by simp<;>omega) _|refine bl2 ?_|refine bl3 ?_ _|refine bl4 ?_ (by simp<;>omega) _))).free.p) hbX
    have hXf := fun i => (World.frozen?_of_block (a := ⟨q, i, none⟩) (hbX.block q ml)).trans (mf i)
    have hXc := hQX.b.facts.2.1
    have HX3 : Hid _ := hX3
    have HY1 : Hid _ := hY1
    have HY2 : Hid _ := hY2
    have HA1 : Hid _ := hA1
    have HQX : Hid _ := hQX
    have HbX : Hid _ := hbX
    clear hX3 hY1 hY2 hA1 hQX hbX
    go_wp2_with fail
    go_ret
    rw [HN0.out]
    have hs := StIs.mk (S := ⟨[A, Rf.cutT cf.chs.length, Rf.failT], cf.now.terms, cf.now.fresh⟩) (SeenTs.mk ⟨[(⟨a1, n1, c1⟩, A), (⟨some ⟨w4.heap.size, 0, none⟩, 1, 1⟩, Rf.cutT cf.chs.length), (⟨some ⟨w4.heap.size + 1, 0, none⟩, 1, 1⟩, Rf.failT)], HX3.out, (fun y hy => by
     simp only [List.mem_cons, List.not_mem_nil, or_false] at hy
     rcases hy with rfl | rfl | rfl
     ·exact HA1.out
     ·exact HY1.out
     ·exact HY2.out), rfl⟩) HQX.out.s.t HQX.out.s.f
    refine ⟨rfl, ⟨some gA, (QIs.now HQX.out (kept_one _ _) (blk_set HQX.out.b 1 _) hs).at, ?_⟩, ?_⟩
    ·have hz1 := hb1.size
     rcases hnb3 with e | ⟨k, e, hk⟩
     ·exact .inl (e.trans HQ.out.o)
     ·exact .inr ⟨k, e, by simp at hk; omega⟩
    ·exact (((Kept.of_below (hb1.trans (Below.mono ((by repeat(first|exact bl0 _ _|refine bl1 ?_ (by simp<;>omega) _|refine bl2 ?_|refine bl3 ?_ _|refine bl4 ?_ (by simp<;>omega) _)) : Below w1.heap.size w1 _) hb1.size)) (May q rb)).trans HR2.out (fun _ _ h => h)).trans (Kept.of_below HbX.out (May q rb)) (fun _ _ h => h)).setCell (p := ⟨q, 1, none⟩) (.inr (.inl rfl)) _
end Go.Proofs.YtbiojnljihgpoaaGreatDoor
namespace Rf
theorem nameGoal_3 {x : List Part × Ldr} (h : ((topP x.1).kind != 3) = false) : nameGoal x = x := by
 unfold nameGoal
 rw [if_pos (by simpa using h)]
theorem nameGoal_no {x : List Part × Ldr} (h : ((topP x.1).kind != 3) = true) : nameGoal x = (x.1, ⟨refuse, x.2.fresh, x.2.height⟩) := by
 unfold nameGoal
 rw [if_neg (by simpa using h)]
end Rf
namespace Go.Proofs.YtbiojnljihgpoaaGreatDoor
open Go.RowKit
theorem LdAt.height {w : World} {lb b : Nat} {L : Rf.Ldr} (h : LdAt w lb b L) (m : Nat) : LdAt (w.setCell ⟨lb, 2, none⟩ (.int .i64 m)) lb b ⟨L.r, L.fresh, m⟩ := by
 have := blk_set h.l 2 (.int .i64 (m : Int))
 exact ⟨by simpa [LdB] using this, h.r.kept ((Kept.refl (fun k => k = lb) w).setCell (p := ⟨lb, 2, none⟩) (.inr rfl) _) (fun e => h.ne e.symm), h.ok⟩
set_option maxHeartbeats 1000000 in
set_option maxRecDepth 100000 in
theorem pgoalL_any (w : World) (lb b : Nat) (L : Rf.Ldr) (h : LdAt w lb b L) (hf : L.fresh <= 900000000) (hh : L.height <= 900000000) :
  Calls Tryz.prog 99 #[.pointer (some ⟨lb, 0, none⟩)] w fun x w' => ∃ a n c, x = .returned (.slice a n c) /\ Seen w' 101 partCells (.slice a n c) (Rf.goalL L).1 /\ LdAt w' lb b (Rf.goalL L).2 /\ Kept (LdM lb b) w w' := by
 obtain ⟨q0, q1, q2, qf, ql⟩ := h.l.facts
 have H : Hid _ := h
 have hn0 := Rf.numL_le (L.height + 1) L.r
 obtain ⟨n, hn⟩ : ∃ n, Hid (n = (Rf.numL (L.height + 1) L.r).1) := ⟨_, rfl⟩
 obtain ⟨R, hR⟩ : ∃ R, Hid (R = (Rf.numL (L.height + 1) L.r).2) := ⟨_, rfl⟩
 have HO : Hid (Rf.RdrOk R) := by unfold Hid; rw [hR.out]; exact Rf.numL_ok _ _
 rw [<- hn.out] at hn0
 obtain ⟨M, hM⟩ : ∃ M, Hid (M = L.height + 1) := ⟨_, rfl⟩
 have hMb : M <= 900000001 := by have := hM.out; omega
 have hwr : IntKind.i64.wrap (M : Int) = (M : Int) := wrap_in (by omega) (by omega)
 have hcs : (L.height : Int) + 1 = (M : Int) := by rw [hM.out]; omega
 have hN : Hid (Rf.goalL L = if 0 < n then (Rf.cutT ((n - 1 : Nat) : Int), ⟨R, L.fresh, n - 1⟩) else Rf.nameGoal (Rf.termL 202 1 [] ⟨R, L.fresh, L.height⟩)) := by unfold Hid Rf.goalL; rw [<- hn.out, <- hR.out]
 clear h
 by_cases c0 : 0 < n
 ·rw [if_pos c0] at hN
  obtain ⟨m, hm⟩ : ∃ m : Nat, Hid (n - 1 = m) := ⟨_, rfl⟩
  rw [hm.out] at hN
  have hm1 : (n : Int) - 1 = (m : Int) := by have := hm.out; omega
  have c0i : (0 : Int) < n := by omega
  go_enter Tryz.func99, Tryz.ntmps99
  go_wp2_with fail
  go_region_with (go_at_call 40; refine (pnumL_any _ b L.r M (H.out.r.below (by repeat(first|exact bl0 _ _|refine bl1 ?_ (by simp<;>omega) _|refine bl2 ?_|refine bl3 ?_ _|refine bl4 ?_ (by simp<;>omega) _))) H.out.ok (by omega)).mono ?_; rintro x w1 ⟨hx1, hR1, hk1⟩; rw [hM.out] at hx1 hR1; rw [<- hn.out] at hx1; subst hx1; rw [<- hR.out] at hR1)
  all_goals
   have HL1 : Hid _ := LdAt.go (H.out.below (by repeat(first|exact bl0 _ _|refine bl1 ?_ (by simp<;>omega) _|refine bl2 ?_|refine bl3 ?_ _|refine bl4 ?_ (by simp<;>omega) _))) hk1 hR1 HO.out
   obtain ⟨p0, p1, p2, pf, pl⟩ := HL1.out.l.facts
   simp only at p0 p1 p2
   have HK1 : Hid (Kept (LdM lb b) w w1) := Kept.trans (M' := LdM lb b) (by repeat'(first|exact kep0 _ _|refine kep1 ?_ ?_ _|refine kep2 ?_|refine kep3 ?_ _|refine kep4 ?_ _|exact Or.inr rfl|exact Or.inr (Or.inl rfl)|(refine Or.inl ?_;simp;done)|(refine Or.inl ?_;simp;omega))) (LdM.of hk1) (fun _ _ e => e)
   clear hk1 hwr hcs
   go_wp2_with fail
   go_ret
   rw [hN.out]
   have e1 := LdAt.height HL1.out m
   have e2 : LdAt ((w1.setCell ⟨lb, 2, none⟩ (.int .i64 m)).alloc (.cells #[.int .i64 4, .string ⟨#[]⟩, .int .i64 m, .int .i64 0] 101)) lb b ⟨R, L.fresh, m⟩ := e1.below (by repeat(first|exact bl0 _ _|refine bl1 ?_ (by simp<;>omega) _|refine bl2 ?_|refine bl3 ?_ _|refine bl4 ?_ (by simp<;>omega) _))
   exact ⟨_, _, _, rfl, Seen.one (p := ⟨4, ⟨#[]⟩, m, 0⟩) (blk_at _ _ _ (by simp)), e2, (HK1.out.setCell (p := ⟨lb, 2, none⟩) (.inr (.inr rfl)) _).alloc _⟩
 ·rw [if_neg c0] at hN
  obtain ⟨T, hT⟩ : ∃ T, Hid (T = Rf.termL 202 1 [] ⟨R, L.fresh, L.height⟩) := ⟨_, rfl⟩
  rw [<- hT.out] at hN
  have hn00 : n = 0 := by omega
  subst hn00
  have hfd : ∀ w : World, _ := fun w => part_kind (Rf.topP T.1).kind (Rf.topP T.1).name (Rf.topP T.1).value (Rf.topP T.1).args w
  cases hk3 : ((Rf.topP T.1).kind != 3)
  ·rw [Rf.nameGoal_3 hk3] at hN
   go_enter Tryz.func99, Tryz.ntmps99
   go_wp2_with fail
   go_region_with (go_at_call 40; refine (pnumL_any _ b L.r M (H.out.r.below (by repeat(first|exact bl0 _ _|refine bl1 ?_ (by simp<;>omega) _|refine bl2 ?_|refine bl3 ?_ _|refine bl4 ?_ (by simp<;>omega) _))) H.out.ok (by omega)).mono ?_; rintro x w1 ⟨hx1, hR1, hk1⟩; rw [hM.out] at hx1 hR1; rw [<- hn.out] at hx1; subst hx1; rw [<- hR.out] at hR1)
   all_goals
    have HL1 : Hid _ := LdAt.go (H.out.below (by repeat(first|exact bl0 _ _|refine bl1 ?_ (by simp<;>omega) _|refine bl2 ?_|refine bl3 ?_ _|refine bl4 ?_ (by simp<;>omega) _))) hk1 hR1 HO.out
    have HK1 : Hid (Kept (LdM lb b) w w1) := Kept.trans (M' := LdM lb b) (by repeat'(first|exact kep0 _ _|refine kep1 ?_ ?_ _|refine kep2 ?_|refine kep3 ?_ _|refine kep4 ?_ _|exact Or.inr rfl|exact Or.inr (Or.inl rfl)|(refine Or.inl ?_;simp;done)|(refine Or.inl ?_;simp;omega))) (LdM.of hk1) (fun _ _ e => e)
    clear hk1 hwr hcs
    go_wp2_with (first
     | (go_at_call 71; refine (ptopA_any ta tn tc T.1 _ HS2.out).mono ?_; rintro x w3 ⟨rfl, hb3⟩; have HL3 : Hid _ := HL2.out.below hb3; have HS3 : Hid _ := HS2.out.below hb3; have HK3 : Hid (Kept (LdM lb b) w w3) := HK2.out.trans (Kept.of_below hb3 (LdM lb b)) (fun _ _ e => e); obtain ⟨r0, r1, r2, rf, rl⟩ := HL3.out.l.facts; clear hb3)
     | (go_at_call 100; refine (ptermL_any _ lb b _ HL1.out hf).mono ?_; rintro x w2 ⟨ta, tn, tc, rfl, hS2, hL2, hk2⟩; rw [<- hT.out] at hS2 hL2; have HL2 : Hid _ := hL2; have HS2 : Hid _ := hS2; have HK2 : Hid (Kept (LdM lb b) w w2) := HK1.out.trans hk2 (fun _ _ e => e); clear hL2 hS2 hk2))
    go_ret
    rw [hN.out]
    exact ⟨_, _, _, rfl, HS3.out, HL3.out, HK3.out⟩
  ·rw [Rf.nameGoal_no hk3] at hN
   go_enter Tryz.func99, Tryz.ntmps99
   go_wp2_with fail
   go_region_with (go_at_call 40; refine (pnumL_any _ b L.r M (H.out.r.below (by repeat(first|exact bl0 _ _|refine bl1 ?_ (by simp<;>omega) _|refine bl2 ?_|refine bl3 ?_ _|refine bl4 ?_ (by simp<;>omega) _))) H.out.ok (by omega)).mono ?_; rintro x w1 ⟨hx1, hR1, hk1⟩; rw [hM.out] at hx1 hR1; rw [<- hn.out] at hx1; subst hx1; rw [<- hR.out] at hR1)
   all_goals
    have HL1 : Hid _ := LdAt.go (H.out.below (by repeat(first|exact bl0 _ _|refine bl1 ?_ (by simp<;>omega) _|refine bl2 ?_|refine bl3 ?_ _|refine bl4 ?_ (by simp<;>omega) _))) hk1 hR1 HO.out
    have HK1 : Hid (Kept (LdM lb b) w w1) := Kept.trans (M' := LdM lb b) (by repeat'(first|exact kep0 _ _|refine kep1 ?_ ?_ _|refine kep2 ?_|refine kep3 ?_ _|refine kep4 ?_ _|exact Or.inr rfl|exact Or.inr (Or.inl rfl)|(refine Or.inl ?_;simp;done)|(refine Or.inl ?_;simp;omega))) (LdM.of hk1) (fun _ _ e => e)
    clear hk1 hwr hcs
    go_wp2_with (first
     | (go_at_call 57; refine (prefuse_any _ b T.2.r HL3.out.r).mono ?_; rintro x w4 ⟨rfl, hR4, hk4⟩; have HL4 : Hid _ := LdAt.go HL3.out hk4 hR4 Rf.refuse_ok; have HK4 : Hid (Kept (LdM lb b) w w4) := HK3.out.trans (LdM.of hk4) (fun _ _ e => e); have HS4 : Hid _ := HS3.out.kept (LdM.of (lb := lb) hk4) (LdM.free HL3.out).p; clear hk4 hR4)
     | (go_at_call 71; refine (ptopA_any ta tn tc T.1 _ HS2.out).mono ?_; rintro x w3 ⟨rfl, hb3⟩; have HL3 : Hid _ := HL2.out.below hb3; have HS3 : Hid _ := HS2.out.below hb3; have HK3 : Hid (Kept (LdM lb b) w w3) := HK2.out.trans (Kept.of_below hb3 (LdM lb b)) (fun _ _ e => e); obtain ⟨r0, r1, r2, rf, rl⟩ := HL3.out.l.facts; clear hb3)
     | (go_at_call 100; refine (ptermL_any _ lb b _ HL1.out hf).mono ?_; rintro x w2 ⟨ta, tn, tc, rfl, hS2, hL2, hk2⟩; rw [<- hT.out] at hS2 hL2; have HL2 : Hid _ := hL2; have HS2 : Hid _ := hS2; have HK2 : Hid (Kept (LdM lb b) w w2) := HK1.out.trans hk2 (fun _ _ e => e); clear hL2 hS2 hk2))
    go_ret
    rw [hN.out]
    exact ⟨_, _, _, rfl, HS4.out, HL4.out, HK4.out⟩
end Go.Proofs.YtbiojnljihgpoaaGreatDoor
namespace Rf
theorem termsL_succ {n : Nat} {a : List (List Part)} {L : Ldr} (T : List Part × Ldr) (hT : T = termL 202 1 [] L) : termsL (n + 1) a L = termsL n (a ++ [T.1]) T.2 := by rw [termsL, hT]
theorem termsL_big {a : List (List Part)} {L : Ldr} (h : 200 < sizeT a) : termsL 0 a L = (a, ⟨refuse, L.fresh, L.height⟩) := by rw [termsL, if_pos h]
theorem termsL_end {a : List (List Part)} {L : Ldr} (h : ¬ 200 < sizeT a) : termsL 0 a L = (a, L) := by rw [termsL, if_neg h]
theorem goalsL_wrong {n : Nat} {a : List (List Part)} {L : Ldr} (h : L.r.wrong = true) : goalsL n a L = (a, L) := by
 cases n with
 | zero => rfl
 | succ n => rw [goalsL, if_pos h]
theorem goalsL_go {n : Nat} {a : List (List Part)} {L : Ldr} (h : L.r.wrong = false) : goalsL (n + 1) a L = goalsL n (a ++ [(goalL L).1]) (goalL L).2 := by rw [goalsL, if_neg (by rw [h]; decide)]
end Rf
namespace Go.Proofs.YtbiojnljihgpoaaGreatDoor
open Go.RowKit
theorem TermsAt.keptM {base : Nat} {M : Nat -> Prop} {w w' : World} {v : Value} {acc : List (SlV × List Rf.Part)} (h : TermsAt base w v acc) (hk : Kept M w w') (hf : Free w M) (hv : ∀ k, v.ownBlock = some k -> ¬ M k) : TermsAt base w' v acc := ⟨h.row.keptBy hk hv, fun q hq => (h.each q hq).kept hk hf.p⟩
set_option maxHeartbeats 1000000 in
set_option maxRecDepth 100000 in
theorem ptermsL_any (w : World) (lb b : Nat) (L : Rf.Ldr) (n : Nat) (h : LdAt w lb b L) (hf : L.fresh <= 800000000) (hn : n <= 16) :
  Calls Tryz.prog 75 #[.pointer (some ⟨lb, 0, none⟩), .int .i64 n] w fun x w' => ∃ v, x = .returned v /\ SeenTs w' v (Rf.termsL n [] L).1 /\ LdAt w' lb b (Rf.termsL n [] L).2 /\ Kept (LdM lb b) w w' := by
 have hll := blk_lt h.l
 have hbl := blk_lt h.r
 have H : Hid _ := h
 clear h
 go_enter Tryz.func75, Tryz.ntmps75
 go_wp2_with fail
 go_loopg [5, 6, 7] (n + 1) (fun M sv tv iv wr => ∃ (k s : Nat) (acc : List (SlV × List Rf.Part)) (K : Rf.Ldr), k <= n /\ M = n + 1 - k /\ iv = .int .i64 k /\ sv = .int .i64 s /\ s <= 201 * k /\ Hid (s = Rf.sizeT (acc.map (·.2))) /\ acc.length = k /\ TermsAt w.heap.size wr tv acc /\ LdAt wr lb b K /\ K.fresh <= L.fresh + 201 * k /\ Kept (LdM lb b) w wr /\ Hid (Rf.termsL (n - k) (acc.map (·.2)) K = Rf.termsL n [] L))
 case atStart => exact ⟨0, 0, [], L, by omega, by omega, rfl, rfl, by omega, rfl, rfl, TermsAt.nil _ _, H.out, by omega, Kept.refl _ _, rfl⟩
 case round =>
  obtain ⟨k, s, acc, K, hk, rfl, rfl, rfl, hs, hsE, hkl, hT, hL, hfr, hkp, hE⟩ := hrel
  subst hkl
  have hsz := hkp.size
  obtain ⟨a4, c4, hv4⟩ := row_slice hT.row
  rw [List.length_map] at hv4
  subst hv4
  obtain ⟨q0, q1, q2, qf, ql⟩ := hL.l.facts
  have HL : Hid _ := hL
  have HT : Hid _ := hT
  clear hL hT
  by_cases hlt : acc.length < n
  ·obtain ⟨t1, t2, t3, t4, t5, t6, t7⟩ := Rf.term1 K HL.out.ok
   obtain ⟨T, hT⟩ : ∃ T, Hid (T = Rf.termL 202 1 [] K) := ⟨_, rfl⟩
   have hT1 : T.1.length <= 201 := by rw [hT.out]; exact t1.len
   have hTf : T.2.fresh <= L.fresh + 201 * (acc.length + 1) := by rw [hT.out]; omega
   have hE2 : Hid (Rf.termsL (n - (acc.length + 1)) (acc.map (·.2) ++ [T.1]) T.2 = Rf.termsL n [] L) := by
    unfold Hid
    rw [<- hE.out, show n - acc.length = n - (acc.length + 1) + 1 by omega, Rf.termsL_succ T hT.out]
   have hlt' : (acc.length : Int) < n := by omega
   clear t1 t2 t3 t4 t5 t6 t7
   go_wp2_with (first
    | (go_at_call 100; refine (ptermL_any _ lb b K HL.out (by omega)).mono ?_; rintro x w2 ⟨ta, tn, tc, rfl, hS2, hL2, hk2⟩; rw [<- hT.out] at hS2 hL2; have htn : tn = T.1.length := hS2.len; subst htn; have HL2 : Hid _ := hL2; have HS2 : Hid _ := hS2; have HT2 : Hid _ := HT.out.keptM hk2 (LdM.free HL.out) (fun j e => by have h9 := (HT.out.row.lt j e).1; intro e2; rcases e2 with e2 | e2 <;> omega); have HK2 : Hid (Kept (LdM lb b) w w2) := hkp.trans hk2 (fun _ _ e => e); have hz2 := HK2.out.size; clear hL2 hk2 hS2)
    | (at_builtin; refine wpList_app Tryz.elemTerms slCells slCells_len slCells_one _ rfl (.tmp 20) (.tmp 22) rfl w.heap.size (.slice a4 acc.length c4) (acc.map (·.1)) rfl (HT2.out.row.alloc _) ⟨_, 0, none⟩ 1 ⟨ta, T.1.length, tc⟩ rfl (cell_one_at _ _ (by simp) _ _) (by rw [List.length_map]; omega) (by simp; omega) ?_; intro gA capA w3 hrow3 hgr3 hnb3; rw [List.length_map] at hrow3; have HT3 : Hid _ := TermsAt.app (x := ⟨ta, T.1.length, tc⟩) (HT2.out.below (by repeat(first|exact bl0 _ _|refine bl1 ?_ (by simp<;>omega) _|refine bl2 ?_|refine bl3 ?_ _|refine bl4 ?_ (by simp<;>omega) _))) (Seen.alloc HS2.out _) hgr3 hrow3; have HL3 : Hid _ := ((HL2.out.below (by repeat(first|exact bl0 _ _|refine bl1 ?_ (by simp<;>omega) _|refine bl2 ?_|refine bl3 ?_ _|refine bl4 ?_ (by simp<;>omega) _)) : LdAt (w2.alloc _) lb b _)).kept (M := fun k => (Value.slice a4 acc.length c4).ownBlock = some k) ⟨hgr3.os, hgr3.tape, hgr3.output, hgr3.size, fun j hj hr => hgr3.block j hj (fun e => hr e.symm)⟩ (fun e => by have := (HT2.out.row.lt _ e).1; omega) (fun e => by have := (HT2.out.row.lt _ e).1; omega); have HK3 : Hid (Kept (LdM lb b) w w3) := (HK2.out.alloc _).grown hgr3 (fun j e => .inl (HT2.out.row.lt j e).1); clear hgr3 hnb3 hrow3))
   go_roundg (n - acc.length)
   case measure => omega
   case rel => exact ⟨acc.length + 1, s + T.1.length, acc ++ [(⟨ta, T.1.length, tc⟩, T.1)], T.2, by omega, by omega, by go_num, by go_num, by omega, by unfold Hid; rw [List.map_append]; show _ = Rf.sizeT (_ ++ [T.1]); rw [Rf.sizeT_snoc, <- hsE.out], by simp, HT3.out, HL3.out, hTf, HK3.out, by unfold Hid; rw [List.map_append]; exact hE2.out⟩
  ·have hz : n - acc.length = 0 := by omega
   have hE3 := hE.out
   rw [hz] at hE3
   have HE3 : Hid _ := hE3
   have hlt' : ¬ ((acc.length : Int) < n) := by omega
   clear hE3 hz
   by_cases hbig : 200 < s
   ·have hS : Hid (Rf.termsL n [] L = (acc.map (·.2), ⟨Rf.refuse, K.fresh, K.height⟩)) := by unfold Hid; rw [<- HE3.out, Rf.termsL_big (by rw [<- hsE.out]; exact hbig)]
    have hbi : (200 : Int) < s := by omega
    go_wp2_with (go_at_call 57; refine (prefuse_any _ b K.r HL.out.r).mono ?_; rintro x w4 ⟨rfl, hR4, hk4⟩; have HL4 : Hid _ := LdAt.go HL.out hk4 hR4 Rf.refuse_ok; have HK4 : Hid (Kept (LdM lb b) w w4) := hkp.trans (LdM.of hk4) (fun _ _ e => e); have HT4 : Hid _ := HT.out.keptM (LdM.of (lb := lb) hk4) (LdM.free HL.out) (fun j e => by have h9 := (HT.out.row.lt j e).1; intro e2; rcases e2 with e2 | e2 <;> omega); clear hk4 hR4)
    go_ret
    rw [hS.out]
    exact ⟨_, rfl, HT4.out.seen, HL4.out, HK4.out⟩
   ·have hS : Hid (Rf.termsL n [] L = (acc.map (·.2), K)) := by unfold Hid; rw [<- HE3.out, Rf.termsL_end (by rw [<- hsE.out]; exact hbig)]
    have hbi : ¬ ((200 : Int) < s) := by omega
    go_wp2_with fail
    go_ret
    rw [hS.out]
    exact ⟨_, rfl, HT.out.seen, HL.out, hkp⟩
end Go.Proofs.YtbiojnljihgpoaaGreatDoor
namespace Go.Proofs.YtbiojnljihgpoaaGreatDoor
open Go.RowKit
set_option maxHeartbeats 1000000 in
set_option maxRecDepth 100000 in
theorem pgoalsL_any (w : World) (lb b : Nat) (L : Rf.Ldr) (h : LdAt w lb b L) (hf : L.fresh <= 100000000) (hh : L.height <= 100000000) :
  Calls Tryz.prog 74 #[.pointer (some ⟨lb, 0, none⟩)] w fun x w' => ∃ v, x = .returned v /\ SeenTs w' v (Rf.allGoalsL L).1 /\ LdAt w' lb b (Rf.allGoalsL L).2 /\ Kept (LdM lb b) w w' := by
 have hll := blk_lt h.l
 have hbl := blk_lt h.r
 obtain ⟨q0, q1, q2, qf, _⟩ := h.l.facts
 have H : Hid _ := h
 have hn0 := Rf.numL_le 1000 L.r
 obtain ⟨n, hn⟩ : ∃ n, Hid (n = (Rf.numL 1000 L.r).1) := ⟨_, rfl⟩
 obtain ⟨R, hR⟩ : ∃ R, Hid (R = (Rf.numL 1000 L.r).2) := ⟨_, rfl⟩
 have HO : Hid (Rf.RdrOk R) := by unfold Hid; rw [hR.out]; exact Rf.numL_ok _ _
 rw [<- hn.out] at hn0
 have hA : Hid (Rf.allGoalsL L = Rf.goalsL n [] ⟨if n = 0 then Rf.refuse else R, L.fresh, L.height⟩) := by unfold Hid Rf.allGoalsL Rf.headL; rw [<- hn.out, <- hR.out]
 clear h
 by_cases c0 : n = 0
 ·rw [if_pos c0] at hA
  subst c0
  go_enter Tryz.func74, Tryz.ntmps74
  go_wp2_with (first
   | (go_at_call 57; refine (prefuse_any _ b R HL1.out.r).mono ?_; rintro x w2 ⟨rfl, hR2, hk2⟩; have HL2 : Hid _ := LdAt.go HL1.out hk2 hR2 Rf.refuse_ok; have HK2 : Hid (Kept (LdM lb b) w w2) := HK1.out.trans (LdM.of hk2) (fun _ _ e => e); clear hk2 hR2)
   | (go_at_call 40; refine (pnumL_any _ b L.r 1000 H.out.r H.out.ok (by omega)).mono ?_; rintro x w1 ⟨hx1, hR1, hk1⟩; rw [<- hn.out] at hx1; subst hx1; rw [<- hR.out] at hR1; have HL1 : Hid _ := LdAt.go H.out hk1 hR1 HO.out; have HK1 : Hid (Kept (LdM lb b) w w1) := LdM.of hk1; obtain ⟨p0, p1, p2, pf, pl⟩ := HL1.out.l.facts; simp only at p0 p1 p2; clear hk1))
  go_loopg [4, 5] 1 (fun M tv iv wr => M = 1 /\ wr = w2 /\ iv = .int .i64 0 /\ tv = .slice none 0 0)
  case atStart => exact ⟨rfl, rfl, rfl, rfl⟩
  case round =>
   obtain ⟨rfl, rfl, rfl, rfl⟩ := hrel
   go_wp2_with fail
   go_ret
   rw [hA.out]
   exact ⟨_, rfl, ⟨[], Seen.nil, (fun q hq => by cases hq), rfl⟩, HL2.out, HK2.out⟩
 ·rw [if_neg c0] at hA
  have c0i : ((n : Int) == 0) = false := beq_eq_false_iff_ne.2 (by omega)
  go_enter Tryz.func74, Tryz.ntmps74
  go_wp2_with (go_at_call 40; refine (pnumL_any _ b L.r 1000 H.out.r H.out.ok (by omega)).mono ?_; rintro x w1 ⟨hx1, hR1, hk1⟩; rw [<- hn.out] at hx1; subst hx1; rw [<- hR.out] at hR1; have HL1 : Hid _ := LdAt.go H.out hk1 hR1 HO.out; have HK1 : Hid (Kept (LdM lb b) w w1) := LdM.of hk1; obtain ⟨p0, p1, p2, pf, pl⟩ := HL1.out.l.facts; simp only at p0 p1 p2; clear hk1)
  go_loopg [4, 5] (n + 1) (fun M tv iv wr => ∃ (k : Nat) (acc : List (SlV × List Rf.Part)) (K : Rf.Ldr), k <= n /\ M = n + 1 - k /\ iv = .int .i64 k /\ acc.length = k /\ TermsAt w.heap.size wr tv acc /\ LdAt wr lb b K /\ K.fresh <= L.fresh + 201 * k /\ K.height <= L.height /\ Kept (LdM lb b) w wr /\ Hid (Rf.goalsL (n - k) (acc.map (·.2)) K = Rf.allGoalsL L))
  case atStart => exact ⟨0, [], ⟨R, L.fresh, L.height⟩, by omega, by omega, rfl, rfl, TermsAt.nil _ _, HL1.out, by show L.fresh <= _; omega, Nat.le_refl _, HK1.out, hA.out.symm⟩
  case round =>
   obtain ⟨k, acc, K, hk, rfl, rfl, hkl, hT, hL, hfr, hhr, hkp, hE⟩ := hrel
   subst hkl
   have hsz := hkp.size
   obtain ⟨a4, c4, hv4⟩ := row_slice hT.row
   rw [List.length_map] at hv4
   subst hv4
   clear p0 p1 p2 pf pl q0 q1 q2 qf
   obtain ⟨q0, q1, q2, qf, ql⟩ := hL.l.facts
   have HL : Hid _ := hL
   have HT : Hid _ := hT
   clear hL hT
   by_cases hlt : acc.length < n
   ·have hlt' : (acc.length : Int) < n := by omega
    cases hw : K.r.wrong
    ·obtain ⟨t1, t2, t3, t4, t5, t6⟩ := Rf.goalL_facts K HL.out.ok
     obtain ⟨T, hT⟩ : ∃ T, Hid (T = Rf.goalL K) := ⟨_, rfl⟩
     have hTf : T.2.fresh <= L.fresh + 201 * (acc.length + 1) := by rw [hT.out]; omega
     have hTh : T.2.height <= L.height := by rw [hT.out]; omega
     have hE2 : Hid (Rf.goalsL (n - (acc.length + 1)) (acc.map (·.2) ++ [T.1]) T.2 = Rf.allGoalsL L) := by
      unfold Hid
      rw [<- hE.out, show n - acc.length = n - (acc.length + 1) + 1 by omega, Rf.goalsL_go hw, hT.out]
     have HWF : Hid (K.r.wrong = false) := hw
     clear t1 t2 t3 t4 t5 t6 hw
     go_wp2_with (first
      | (go_at_call 42; refine (pwrong_any _ b K.r HL.out.r).mono ?_; rintro x w9 ⟨hx1, hw1⟩; rw [HWF.out] at hx1; subst hx1; subst w9)
      | (go_at_call 99; refine (pgoalL_any _ lb b K HL.out (by omega) (by omega)).mono ?_; rintro x w2 ⟨ta, tn, tc, rfl, hS2, hL2, hk2⟩; rw [<- hT.out] at hS2 hL2; have HL2 : Hid _ := hL2; have HS2 : Hid _ := hS2; have HT2 : Hid _ := HT.out.keptM hk2 (LdM.free HL.out) (fun j e => by have h9 := (HT.out.row.lt j e).1; intro e2; rcases e2 with e2 | e2 <;> omega); have HK2 : Hid (Kept (LdM lb b) w w2) := hkp.trans hk2 (fun _ _ e => e); have hz2 := HK2.out.size; clear hL2 hk2 hS2)
      | (at_builtin; refine wpList_app Tryz.elemTerms slCells slCells_len slCells_one _ rfl (.tmp 34) (.tmp 36) rfl w.heap.size (.slice a4 acc.length c4) (acc.map (·.1)) rfl (HT2.out.row.alloc _) ⟨_, 0, none⟩ 1 ⟨ta, tn, tc⟩ rfl (cell_one_at _ _ (by simp) _ _) (by rw [List.length_map]; omega) (by simp; omega) ?_; intro gA capA w3 hrow3 hgr3 hnb3; rw [List.length_map] at hrow3; have HT3 : Hid _ := TermsAt.app (x := ⟨ta, tn, tc⟩) (HT2.out.below (by repeat(first|exact bl0 _ _|refine bl1 ?_ (by simp<;>omega) _|refine bl2 ?_|refine bl3 ?_ _|refine bl4 ?_ (by simp<;>omega) _))) (Seen.alloc HS2.out _) hgr3 hrow3; have HL3 : Hid _ := ((HL2.out.below (by repeat(first|exact bl0 _ _|refine bl1 ?_ (by simp<;>omega) _|refine bl2 ?_|refine bl3 ?_ _|refine bl4 ?_ (by simp<;>omega) _)) : LdAt (w2.alloc _) lb b _)).kept (M := fun k => (Value.slice a4 acc.length c4).ownBlock = some k) ⟨hgr3.os, hgr3.tape, hgr3.output, hgr3.size, fun j hj hr => hgr3.block j hj (fun e => hr e.symm)⟩ (fun e => by have := (HT2.out.row.lt _ e).1; omega) (fun e => by have := (HT2.out.row.lt _ e).1; omega); have HK3 : Hid (Kept (LdM lb b) w w3) := (HK2.out.alloc _).grown hgr3 (fun j e => .inl (HT2.out.row.lt j e).1); clear hgr3 hnb3 hrow3))
     go_roundg (n - acc.length)
     case measure => omega
     case rel => exact ⟨acc.length + 1, acc ++ [(⟨ta, tn, tc⟩, T.1)], T.2, by omega, by omega, by go_num, by simp, HT3.out, HL3.out, hTf, hTh, HK3.out, by unfold Hid; rw [List.map_append]; exact hE2.out⟩
    ·have hS : Hid (Rf.allGoalsL L = (acc.map (·.2), K)) := by unfold Hid; rw [<- hE.out, Rf.goalsL_wrong hw]
     have HWF : Hid (K.r.wrong = true) := hw
     clear hw
     go_wp2_with (go_at_call 42; refine (pwrong_any _ b K.r HL.out.r).mono ?_; rintro x w9 ⟨hx1, hw1⟩; rw [HWF.out] at hx1; subst hx1; subst w9)
     go_ret
     rw [hS.out]
     exact ⟨_, rfl, HT.out.seen, HL.out, hkp⟩
   ·have hS : Hid (Rf.allGoalsL L = (acc.map (·.2), K)) := by unfold Hid; rw [<- hE.out, show n - acc.length = 0 by omega]; rfl
    have hlt' : ¬ ((acc.length : Int) < n) := by omega
    go_wp2_with fail
    go_ret
    rw [hS.out]
    exact ⟨_, rfl, HT.out.seen, HL.out, hkp⟩
end Go.Proofs.YtbiojnljihgpoaaGreatDoor
