
import Derived.Test.YtbiojnljihgpoaaGreatDoorZat
import Derived.Test.YtbiojnljihgpoaaGreatDoorZbc
namespace Go.Proofs.YtbiojnljihgpoaaGreatDoor
open Go.RowKit
set_option maxHeartbeats 2000000 in
set_option maxRecDepth 100000 in
theorem pwrittenS_any (b : Bool) (w : World) (a : Option Addr) (n c : Nat) (ps : List Rf.Part) (h : Seen w 101 partCells (.slice a n c) ps) (hg : ∀ x ∈ ps, Rf.GoodW b x) (h4 : ∀ x ∈ ps, 0 <= x.args /\ x.args <= 4) (hl : ps.length <= 100000) (hT : Tab w) :
  Calls Tryz.prog 53 #[.slice a n c, .bool b] w fun r w' => r = .returned (.string (Rf.txtW b ps)) /\ Below w.heap.size w w' := by
 have hn : n = ps.length := h.len
 subst hn
 have HH : Hid _ := h
 have Hg : Hid _ := hg
 have H4 : Hid _ := h4
 have HT : Hid _ := hT
 have hts := Rf.txtW_size b ps hg
 clear h hg h4 hT
 go_enter Tryz.func53, Tryz.ntmps53
 go_wp2_with fail
 go_loopg [5, 6, 12] (ps.length + 1) (fun m sv ov iv wr => ∃ k : Nat, k <= ps.length /\ m = ps.length + 1 - k /\ iv = .int .i64 k /\ TxSt b w ps k sv ov wr)
 case atStart => exact ⟨0, by omega, rfl, rfl, ⟨#[]⟩, [], rfl, RowIs.nil _ _ _ _ _, Below.refl _ _, (fun x hx => by simp at hx), by simp, by unfold Hid Rf.txtW; rw [List.drop_zero, Rf.emp_app]⟩
 case round =>
  obtain ⟨k, hk, rfl, rfl, s, st, rfl, hrow, hbr, hst, hstl, hinv⟩ := hrel
  obtain ⟨a4, c4, hv4⟩ := row_slice hrow
  rw [List.length_reverse] at hv4
  subst hv4
  have hsz := hbr.size
  have hss : s.size <= 2400000 := by
   have h9 := congrArg ByteArray.size hinv.out
   rw [ByteArray.size_append] at h9
   omega
  by_cases hlt : k < ps.length
  ·obtain ⟨gv, ov, rfl⟩ := HH.out.pos (by omega)
   have hgvl := HH.out.lt
   have hgvl' : gv < wr.heap.size := by omega
   have hmem : ps[k] ∈ ps := List.getElem_mem hlt
   obtain ⟨c0, c1, c2, c3⟩ := Seen.parts (HH.out.below hbr) k ps[k] (by simp [hlt])
   have hgd := Hg.out _ hmem
   have ha4 := H4.out _ hmem
   have hdrop : ps.drop k = ps[k] :: ps.drop (k + 1) := List.drop_eq_getElem_cons hlt
   rw [hdrop] at hinv
   clear hmem hdrop
   generalize ps[k] = p at *
   have hwz := Rf.wordW_size b p hgd
   have Hgd : Hid _ := hgd
   clear hgd
   have hlt' : (k : Int) < ps.length := by omega
   have Hnc : Hid (natCells p.args.toNat = [.int .i64 p.args]) := by unfold Hid natCells; rw [Int.toNat_of_nonneg ha4.1]
   by_cases hargs : 0 < p.args
   ·have hinv2 : Hid (s ++ Rf.wordW b p ++ ⟨#[40]⟩ ++ Rf.textW b (ps.drop (k + 1)) (p.args.toNat :: st) = Rf.txtW b ps) := by
     have h9 := hinv.out
     rw [Rf.textW, if_pos hargs] at h9
     unfold Hid
     rw [<- h9]
     simp only [ByteArray.append_assoc]
    go_wp2_with (first
     | (go_at_call 70; refine (word_part b p _ Hgd.out (Tab.below HT.out (hbr.alloc hsz _))).mono ?_; rintro r w1 ⟨rfl, hb1⟩; have hs1 := hb1.size; have hX1 := (hb1.block wr.heap.size (by simp)).trans (blk_new _ _); have x3 : w1.cell? ⟨wr.heap.size, 3, none⟩ = some (.int .i64 p.args) := blk_cell hX1 3; have hbw1 : Below w.heap.size w w1 := (hbr.alloc hsz _).trans (hb1.mono (by simp; omega)); have hsw1 := hbw1.size; have hrow1 := (hrow.alloc (.cells #[.int .i64 p.kind, .string p.name, .int .i64 p.value, .int .i64 p.args] 101)).below hb1)
     | (at_builtin; refine wpList_app Tryz.elemInt natCells natCells_len natCells_one _ rfl (.tmp 26) (.tmp 29) rfl w.heap.size _ st.reverse rfl (hrow1.alloc _) ⟨_, 0, none⟩ 1 p.args.toNat rfl (fun j v hj => cell_one_at _ _ rfl _ _ j v (by rw [<- Hnc.out]; exact hj)) ?_ ?_ ?_; rw [List.length_reverse]; omega; (rw [World.size_alloc]; omega); intro gA capA w3 hrow3 hgr3 hnb3; rw [List.length_reverse] at hrow3))
    go_roundg (ps.length - k)
    case measure => omega
    case rel =>
     refine ⟨k + 1, by omega, by omega, by go_num, _, p.args.toNat :: st, rfl, ?_, ?_, ?_, by simp; omega, hinv2⟩
     ·rw [List.reverse_cons]; exact hrow3
     ·exact (hbw1.alloc hsw1 _).grown hgr3 (by rw [World.size_alloc]; omega) (fun j e => (hrow.lt j e).1)
     ·intro x hx
      rcases List.mem_cons.1 hx with rfl | hx
      ·omega
      ·exact hst x hx
   ·have hinv2 : Hid ((s ++ Rf.wordW b p) ++ ((Rf.closeP st).1 ++ Rf.textW b (ps.drop (k + 1)) (Rf.closeP st).2) = Rf.txtW b ps) := by
     have h9 := hinv.out
     rw [Rf.textW, if_neg hargs] at h9
     unfold Hid
     rw [<- h9]
     simp only [ByteArray.append_assoc]
    have hnarg : p.args <= 0 := by omega
    have harg0 : decide (0 < p.args) = false := by simpa using hnarg
    obtain ⟨wo, rfl⟩ : ∃ wo : World, wo = wr := ⟨_, rfl⟩
    go_wp2_with (go_at_call 70; refine (word_part b p _ Hgd.out (Tab.below HT.out (hbr.alloc hsz _))).mono ?_; rintro r w1 ⟨rfl, hb1⟩; have hs1 := hb1.size; have hX1 := (hb1.block wo.heap.size (by simp)).trans (blk_new _ _); have x3 : w1.cell? ⟨wo.heap.size, 3, none⟩ = some (.int .i64 p.args) := blk_cell hX1 3; have hbw1 : Below w.heap.size w w1 := (hbr.alloc hsz _).trans (hb1.mono (by simp; omega)); have hsw1 := hbw1.size; have hrow1 := (hrow.alloc (.cells #[.int .i64 p.kind, .string p.name, .int .i64 p.value, .int .i64 p.args] 101)).below hb1)
    have hsw1' := hsw1
    clear hX1 x3 hinv
    go_loopg [5, 6] (st.length + 1) (fun m sv ov wi => ∃ (s2 : ByteArray) (st2 : List Nat), m = st2.length + 1 /\ sv = .string s2 /\ RowIs wi w.heap.size 3 1 natCells ov st2.reverse /\ Below w.heap.size w wi /\ (∀ x ∈ st2, 1 <= x /\ x <= 4) /\ st2.length <= k /\ Hid (s2 ++ ((Rf.closeP st2).1 ++ Rf.textW b (ps.drop (k + 1)) (Rf.closeP st2).2) = Rf.txtW b ps))
    case atStart => exact ⟨_, st, rfl, rfl, hrow1, hbw1, hst, hstl, hinv2⟩
    case round =>
     obtain ⟨s2, st2, rfl, rfl, hrow2, hbw2, hst2, hstl2, hinv3⟩ := hrel
     have hss2 : s2.size <= 2400000 := by
      have h9 := congrArg ByteArray.size hinv3.out
      rw [ByteArray.size_append] at h9
      omega
     clear hrow1 hrow hinv2
     cases st2 with
     | nil =>
      obtain ⟨a5, c5, hv5⟩ := row_slice hrow2
      rw [List.reverse_nil, List.length_nil] at hv5
      subst hv5
      go_wp2_with fail
      go_roundg (ps.length - k)
      case measure => omega
      case rel => exact ⟨k + 1, by omega, by omega, by go_num, _, [], rfl, hrow2, hbw2, hst2, by simp, by have h9 := hinv3.out; rw [Rf.closeP, Rf.emp_app] at h9; exact h9⟩
     | cons x st3 =>
      rw [List.reverse_cons] at hrow2
      obtain ⟨gO, c5, hv5, _, hgO, hc5, hcm5⟩ := hrow2.shape.resolve_left (fun e => by have := congrArg List.length e.2; simp at this)
      rw [List.length_append, List.length_reverse, List.length_cons, List.length_nil] at hv5 hc5
      subst hv5
      have hcl := hrow2.cells natCells_len st3.length x (by simp) 0 _ rfl
      simp only [Nat.mul_one, Nat.add_zero] at hcl
      have hfz := row_frozen hrow2
      have hx14 := hst2 x (by simp)
      have hst3l : (st3.length : Int) <= 100000 := by simp only [List.length_cons] at hstl2; omega
      have hst3c : (st3.length : Int) + 1 <= (c5 : Int) := by omega
      have hst3 : ∀ y ∈ st3, 1 <= y /\ y <= 4 := fun y hy => hst2 y (List.mem_cons_of_mem _ hy)
      have hset : ∀ y : Nat, (y : Int) = (x : Int) - 1 -> RowIs (wr.setCell ⟨gO, st3.length, none⟩ (.int .i64 ((x : Int) - 1))) w.heap.size 3 1 natCells (.slice (some ⟨gO, 0, none⟩) (st3.length + 1) c5) (st3.reverse ++ [y]) := by
       intro y hy
       have h9 := row_setLast (x' := y) (u := .int .i64 ((x : Int) - 1)) natCells_len hrow2 (by unfold natCells; rw [hy])
       rw [List.length_reverse] at h9
       exact h9
      have Hset : Hid _ := hset
      have hgO2 := (hrow2.lt gO rfl).1
      have hbs : ∀ v, Below w.heap.size w (wr.setCell ⟨gO, st3.length, none⟩ v) := fun v => hbw2.setCell (p := ⟨gO, st3.length, none⟩) hgO2 v
      have Hbs : Hid _ := hbs
      clear hset hbs hst2
      by_cases hx1 : 1 < x
      ·have hinv4 : Hid (s2 ++ ⟨#[44]⟩ ++ Rf.textW b (ps.drop (k + 1)) ((x - 1) :: st3) = Rf.txtW b ps) := by
        have h9 := hinv3.out
        rw [Rf.closeP, if_pos hx1] at h9
        unfold Hid
        rw [<- h9, ByteArray.append_assoc]
       have hxi : (0 : Int) < (x : Int) - 1 := by omega
       go_wp2_with fail
       go_roundg (ps.length - k)
       case measure => omega
       case rel =>
        refine ⟨k + 1, by omega, by omega, by go_num, _, (x - 1) :: st3, rfl, ?_, Hbs.out _, ?_, ?_, hinv4⟩
        ·rw [List.reverse_cons]; exact Hset.out (x - 1) (by omega)
        ·intro y hy
         rcases List.mem_cons.1 hy with rfl | hy
         ·omega
         ·exact hst3 y hy
        ·simp only [List.length_cons] at hstl2 ⊢; omega
      ·obtain rfl : x = 1 := by omega
       have hinv4 : Hid ((s2 ++ ⟨#[41]⟩) ++ ((Rf.closeP st3).1 ++ Rf.textW b (ps.drop (k + 1)) (Rf.closeP st3).2) = Rf.txtW b ps) := by
        have h9 := hinv3.out
        rw [Rf.closeP, if_neg hx1] at h9
        unfold Hid
        rw [<- h9]
        simp only [ByteArray.append_assoc]
       go_wp2_with fail
       go_roundg (st3.length + 1)
       case measure => simp
       case rel =>
        refine ⟨_, st3, rfl, rfl, row_pop natCells_len (Hset.out 0 (by simp)), Hbs.out _, hst3, ?_, hinv4⟩
        simp only [List.length_cons] at hstl2; omega
  ·obtain rfl : k = ps.length := by omega
   have hend : Hid (s = Rf.txtW b ps) := by
    have h9 := hinv.out
    rw [List.drop_length, Rf.textW, Rf.app_emp] at h9
    exact h9
   go_wp2_with fail
   go_ret
   exact ⟨ret_str hend.out, hbr⟩
set_option maxHeartbeats 400000 in
theorem answerS_any (w : World) (a : Option Addr) (n c : Nat) (ps : List Rf.Part) (h : Seen w 101 partCells (.slice a n c) ps) (hg : ∀ x ∈ ps, Rf.GoodA x) (h4 : ∀ x ∈ ps, 0 <= x.args /\ x.args <= 4) (hl : ps.length <= 100000) (hT : Tab w) :
  Calls Tryz.prog 95 #[.slice a n c] w fun r w' => r = .returned (.string (Rf.txtA ps)) /\ Below w.heap.size w w' := by
 have H : Hid _ := h
 have Hg : Hid _ := hg
 have H4 : Hid _ := h4
 have HT : Hid _ := hT
 clear h hg h4 hT
 go_enter Tryz.func95, Tryz.ntmps95
 go_wp2_with (go_at_call 53; refine (pwrittenS_any false _ a n c ps H.out Hg.out H4.out hl HT.out).mono ?_; rintro r w1 ⟨rfl, hb1⟩)
 go_ret
 exact ⟨rfl, hb1⟩
end Go.Proofs.YtbiojnljihgpoaaGreatDoor
namespace Go.Proofs.YtbiojnljihgpoaaGreatDoor
open Go.RowKit
theorem SeenTs.take {w : World} {g off n c : Nat} {ts : List (List Rf.Part)} (h : SeenTs w (.slice (some ⟨g, off, none⟩) n c) ts) (k : Nat) (hk : k <= ts.length) : SeenTs w (.slice (some ⟨g, off, none⟩) k c) (ts.take k) := by
 obtain ⟨acc, h1, h2, rfl⟩ := h.ex
 refine ⟨acc.take k, ?_, fun q hq => h2 q (List.mem_of_mem_take hq), by rw [List.map_take]⟩
 rw [List.map_take]
 exact h1.take k (by rw [List.length_map] at hk ⊢; exact hk)
theorem SeenTs.drop1 {w : World} {g off n c : Nat} {ts : List (List Rf.Part)} (h : SeenTs w (.slice (some ⟨g, off, none⟩) n c) ts) (k : Nat) (hc : c = k) : SeenTs w (.slice (some ⟨g, off, none⟩) (ts.length - k) 0) (ts.drop k) := by
 obtain ⟨acc, h1, h2, rfl⟩ := h.ex
 refine ⟨acc.drop k, ?_, fun q hq => h2 q (List.mem_of_mem_drop hq), by rw [List.map_drop]⟩
 have h3 := h1.dropEnd k hc
 rw [List.length_map] at h3
 rw [List.length_map, List.map_drop]; exact h3
theorem SeenTs.drop2 {w : World} {g off n c : Nat} {ts : List (List Rf.Part)} (h : SeenTs w (.slice (some ⟨g, off, none⟩) n c) ts) (k : Nat) (hk : k <= ts.length) : SeenTs w (.slice (some ⟨g, off + k, none⟩) (ts.length - k) (c - k)) (ts.drop k) := by
 obtain ⟨acc, h1, h2, rfl⟩ := h.ex
 refine ⟨acc.drop k, ?_, fun q hq => h2 q (List.mem_of_mem_drop hq), by rw [List.map_drop]⟩
 rw [List.length_map] at hk
 have h3 := h1.drop slCells_len k (by rw [List.length_map]; exact hk)
 rw [List.length_map, Nat.mul_one] at h3
 rw [List.length_map, List.map_drop]; exact h3
set_option maxHeartbeats 1000000 in
set_option maxRecDepth 100000 in
theorem prenumbered_any (w : World) (vg vt : Value) (fr : Int) (S : Rf.St) (N : Nat) (F : Int) (hS : StIs w vg vt fr S) (hG : Rf.StG N F S) (hN : N <= 9000) (hF : F <= 1000000) (hne : S.goals ≠ []) :
  Calls Tryz.prog 96 #[.agg #[vg, vt, .int .i64 fr]] w fun r w' => ∃ a3 n3 c3 a4 n4 c4, r = .returned (.agg #[.slice a3 n3 c3, .slice a4 n4 c4, .int .i64 (Rf.renS S).fresh]) /\ StIs w' (.slice a3 n3 c3) (.slice a4 n4 c4) (Rf.renS S).fresh (Rf.renS S) /\ Below w.heap.size w w' := by
 obtain ⟨sa, sc, rfl⟩ := hS.g.slice
 obtain ⟨ta, tc, rfl⟩ := hS.t.slice
 have hgl : S.goals.length <= 9000 := Nat.le_trans hG.gl hN
 have htl := hG.tl
 have HS : Hid _ := hS
 have hf1 := hG.f1
 have H4 : Hid (∀ t ∈ S.goals ++ S.terms, t.length <= 400) := fun t ht => by
  rcases List.mem_append.1 ht with ht | ht
  ·exact (hG.g t ht).1
  ·exact (hG.t t ht).1
 have HV : Hid (∀ t ∈ S.goals ++ S.terms, ∀ p ∈ t, p.kind = 1 -> 0 <= p.value /\ p.value < 1000000) := fun t ht p hp hk => by
  rcases List.mem_append.1 ht with ht | ht
  ·have := ((hG.g t ht).2 p hp).2.1 hk; omega
  ·have := ((hG.t t ht).2 p hp).2.1 hk; omega
 have hg1 : 1 <= S.goals.length := by
  cases hgc : S.goals with
  | nil => exact absurd hgc hne
  | cons => simp
 have HRl : Hid ((Rf.renTs [] (S.goals ++ S.terms)).1.length = S.goals.length + S.terms.length) := by unfold Hid; rw [(Rf.renTs_of (S.goals ++ S.terms) []).1, List.length_append]
 have HRS : Hid (Rf.renS S = ⟨(Rf.renTs [] (S.goals ++ S.terms)).1.take S.goals.length, (Rf.renTs [] (S.goals ++ S.terms)).1.drop S.goals.length, (Rf.renTs [] (S.goals ++ S.terms)).2.length⟩) := rfl
 clear hS hG hne
 obtain ⟨RR, hRR⟩ : ∃ RR, Hid (Rf.renTs [] (S.goals ++ S.terms) = RR) := ⟨_, rfl⟩
 rw [hRR.out] at HRl HRS
 obtain ⟨ra, rn⟩ := RR
 simp only at HRl HRS
 go_enter Tryz.func96, Tryz.ntmps96
 go_wp2_with (first
  | (go_at_call 65; refine (pjoined_any _ (.slice sa S.goals.length sc) (.slice ta S.terms.length tc) S.goals S.terms (HS.out.g.below (by repeat(first|exact bl0 _ _|refine bl1 ?_ (by simp<;>omega) _|refine bl2 ?_|refine bl3 ?_ _|refine bl4 ?_ (by simp<;>omega) _))) (HS.out.t.below (by repeat(first|exact bl0 _ _|refine bl1 ?_ (by simp<;>omega) _|refine bl2 ?_|refine bl3 ?_ _|refine bl4 ?_ (by simp<;>omega) _))) (by omega) (by omega)).mono ?_; rintro r w1 ⟨a1, n1, c1, rfl, hJ1, hb1⟩)
  | (go_at_call 94; refine (pRenumber_any _ (.slice a1 n1 c1) (S.goals ++ S.terms) hJ1 (by rw [List.length_append]; omega) H4.out HV.out).mono ?_; rintro r w2 ⟨a2, n2, c2, rfl, hR2, hb2⟩; rw [hRR.out] at hR2 ⊢; simp only at hR2; obtain ⟨g2, o2, rfl, hgl2, hn2, hn1, hnc⟩ := hR2.pos (by intro e; have h9 := HRl.out; rw [e] at h9; simp at h9; omega); subst hn2; have hbw1 : Below w.heap.size w w1 := Below.trans ((by repeat(first|exact bl0 _ _|refine bl1 ?_ (by simp<;>omega) _|refine bl2 ?_|refine bl3 ?_ _|refine bl4 ?_ (by simp<;>omega) _)) : Below w.heap.size w ((w.alloc _).alloc _)) (hb1.mono (by simp only [World.size_alloc]; omega)); have hbw2 : Below w.heap.size w w2 := hbw1.trans (hb2.mono hbw1.size); have hz1 := hb1.size; simp only [World.size_alloc] at hz1; have hz2 := hb2.size; have P0 := (hb2.block w.heap.size (by omega)).trans ((hb1.block w.heap.size (by simp only [World.size_alloc]; omega)).trans (blk_alloc (blk_new w _) _)); have P1 := (hb2.block (w.heap.size + 1) (by omega)).trans ((hb1.block (w.heap.size + 1) (by simp only [World.size_alloc]; omega)).trans (blk_at (w.alloc _) _ (w.heap.size + 1) (by simp))); have s0 := blk_cell P0 0; have s1 := blk_cell P0 1; have s2 := blk_cell P0 2; have u0 := blk_cell P1 0; have u1 := blk_cell P1 1; have u2 := blk_cell P1 2; have uf := blk_frozen P1; have ul := blk_lt P1; have sl := blk_lt P0; simp at s0 s1 s2 u0 u1 u2; have HR2 : Hid _ := hR2; have HP1 : Hid _ := P1; clear P0 P1 hR2))
 have hra := HRl.out
 have hle : S.goals.length <= ra.length := by omega
 have hnc1 : ra.length <= c2 := hnc
 have hsub : ra.length - S.goals.length = S.terms.length := by omega
 have HTk : Hid _ := HR2.out.take S.goals.length hle
 have HDr1 : Hid (c2 = S.goals.length -> SeenTs w2 (.slice (some ⟨g2, o2, none⟩) (ra.length - S.goals.length) 0) (ra.drop S.goals.length)) := fun e => HR2.out.drop1 S.goals.length e
 have HDr2 : Hid _ := HR2.out.drop2 S.goals.length hle
 have hlec : S.goals.length <= c2 := by omega
 by_cases hcc : c2 = S.goals.length
 ·go_region
  all_goals
   go_wp2_with fail
   refine bodyPost_ret (v := .agg #[.slice (some ⟨g2, o2, none⟩) S.goals.length c2, .slice (some ⟨g2, o2, none⟩) (ra.length - S.goals.length) 0, .int .i64 (rn.length : Nat)]) (by simp [results, Tryz.results96, go_sem, *]) rfl ?_
   rw [HRS.out]
   refine ⟨_, _, _, _, _, _, rfl, ⟨?_, ?_, rfl⟩, ?_⟩
   ·exact (SeenTs.set3 HTk.out HP1.out (by decide) (by decide)).below (Below.refl _ _).drew
   ·exact (SeenTs.set3 (HDr1.out hcc) HP1.out (by decide) (by decide)).below (Below.refl _ _).drew
   ·exact (((hbw2.setCell (p := ⟨_, 0, none⟩) (by simp) _).setCell (p := ⟨_, 1, none⟩) (by simp) _).setCell (p := ⟨_, 2, none⟩) (by simp) _).drew
 ·go_region
  all_goals
   go_wp2_with fail
   refine bodyPost_ret (v := .agg #[.slice (some ⟨g2, o2, none⟩) S.goals.length c2, .slice (some ⟨g2, o2 + S.goals.length, none⟩) (ra.length - S.goals.length) (c2 - S.goals.length), .int .i64 (rn.length : Nat)]) (by simp [results, Tryz.results96, go_sem, *]) rfl ?_
   rw [HRS.out]
   refine ⟨_, _, _, _, _, _, rfl, ⟨?_, ?_, rfl⟩, ?_⟩
   ·exact (SeenTs.set3 HTk.out HP1.out (by decide) (by decide)).below (Below.refl _ _).drew
   ·exact (SeenTs.set3 HDr2.out HP1.out (by decide) (by decide)).below (Below.refl _ _).drew
   ·exact (((hbw2.setCell (p := ⟨_, 0, none⟩) (by simp) _).setCell (p := ⟨_, 1, none⟩) (by simp) _).setCell (p := ⟨_, 2, none⟩) (by simp) _).drew
theorem sizeT_take {ts : List (List Rf.Part)} {k : Nat} (h : k < ts.length) : Rf.sizeT (ts.take (k + 1)) = Rf.sizeT (ts.take k) + ts[k].length := by
 rw [List.take_succ_eq_append_getElem h, Rf.sizeT_app]
 simp [Rf.sizeT]
theorem sizeT_bd {ts : List (List Rf.Part)} (h : ∀ t ∈ ts, t.length <= 400) : Rf.sizeT ts <= ts.length * 400 := by
 induction ts with
 | nil => simp [Rf.sizeT]
 | cons t ts ih =>
  have h1 := ih (fun u hu => h u (List.mem_cons_of_mem _ hu))
  have h2 := h t (by simp)
  rw [Rf.sizeT, List.length_cons]; omega
set_option maxHeartbeats 1000000 in
set_option maxRecDepth 100000 in
theorem psizeS_any (w : World) (vg vt : Value) (fr : Int) (S : Rf.St) (N : Nat) (F : Int) (hS : StIs w vg vt fr S) (hG : Rf.StG N F S) (hN : N <= 9000) :
  Calls Tryz.prog 50 #[.agg #[vg, vt, .int .i64 fr]] w fun r w' => r = .returned (.int .i64 (Rf.sizeS S : Nat)) /\ Below w.heap.size w w' := by
 obtain ⟨sa, sc, rfl⟩ := hS.g.slice
 obtain ⟨ta, tc, rfl⟩ := hS.t.slice
 have hgl : S.goals.length <= 9000 := Nat.le_trans hG.gl hN
 have htl := hG.tl
 have HS : Hid _ := hS
 have H4 : Hid (∀ t ∈ S.goals ++ S.terms, t.length <= 400) := fun t ht => by
  rcases List.mem_append.1 ht with ht | ht
  ·exact (hG.g t ht).1
  ·exact (hG.t t ht).1
 have HV : Hid (Rf.sizeS S = Rf.sizeT (S.goals ++ S.terms)) := rfl
 clear hS hG
 go_enter Tryz.func50, Tryz.ntmps50
 go_wp2_with (go_at_call 65; refine (pjoined_any _ (.slice sa S.goals.length sc) (.slice ta S.terms.length tc) S.goals S.terms (HS.out.g.below (by repeat(first|exact bl0 _ _|refine bl1 ?_ (by simp<;>omega) _|refine bl2 ?_|refine bl3 ?_ _|refine bl4 ?_ (by simp<;>omega) _))) (HS.out.t.below (by repeat(first|exact bl0 _ _|refine bl1 ?_ (by simp<;>omega) _|refine bl2 ?_|refine bl3 ?_ _|refine bl4 ?_ (by simp<;>omega) _))) (by omega) (by omega)).mono ?_; rintro r w1 ⟨a1, n1, c1, rfl, hJ1, hb1⟩; obtain ⟨acc, hT, hE, hts⟩ := hJ1.ex; have hn1 : n1 = acc.length := by { have h9 := hT.len; rw [List.length_map] at h9; exact h9 }; subst hn1; have hbw1 : Below w.heap.size w w1 := Below.trans ((Below.refl _ w).alloc (Nat.le_refl _) _) (hb1.mono (by rw [World.size_alloc]; omega)); have HTT : Hid _ := hT; have HEE : Hid _ := hE; have Hts : Hid _ := hts; clear hJ1 hT hE hts)
 have hal : acc.length = S.goals.length + S.terms.length := by have h9 := congrArg List.length Hts.out; rw [List.length_append, List.length_map] at h9; exact h9.symm
 have hbd : ∀ k, Rf.sizeT ((acc.map (·.2)).take k) <= 10000000 := fun k => by
  have h9 := sizeT_bd (ts := (acc.map (·.2)).take k) (fun t ht => H4.out t (by rw [Hts.out]; exact List.mem_of_mem_take ht))
  have h8 : ((acc.map (·.2)).take k).length * 400 <= 9016 * 400 := Nat.mul_le_mul_right _ (by rw [List.length_take, List.length_map]; omega)
  omega
 have Hbd : Hid _ := hbd
 clear hbd
 go_loopw [3, 12] (fun sv iv wr => ∃ k : Nat, k <= acc.length /\ iv = .int .i64 (k : Nat) /\ sv = .int .i64 (Rf.sizeT ((acc.map (·.2)).take k) : Nat) /\ Below w1.heap.size w1 wr) (fun _ iv _ => acc.length - (intOf iv).toNat)
 case atStart => exact ⟨0, Nat.zero_le _, rfl, rfl, Below.refl _ _⟩
 case round =>
  obtain ⟨k, hk, rfl, rfl, hbr⟩ := hrel
  have hsz := hbr.size
  by_cases hlt : k < acc.length
  ·obtain ⟨g, off, rfl⟩ := HTT.out.pos (by simp; omega)
   have hgl1 := HTT.out.lt
   have hcell := Seen.termAt (HTT.out.below hbr) k acc[k].1 (by simp [hlt])
   have hS := HEE.out acc[k] (List.getElem_mem hlt)
   have hql := hS.len
   have hq4 : acc[k].2.length <= 400 := H4.out _ (by rw [Hts.out]; exact List.mem_map_of_mem (List.getElem_mem hlt))
   have hst : Hid (Rf.sizeT ((acc.map (·.2)).take (k + 1)) = Rf.sizeT ((acc.map (·.2)).take k) + acc[k].2.length) := by
    unfold Hid
    rw [sizeT_take (by rw [List.length_map]; exact hlt), List.getElem_map]
   clear hS
   generalize acc[k] = y at *
   obtain ⟨⟨qa, qn, qc⟩, qp⟩ := y
   simp only at hcell hql hq4 hst
   subst hql
   have hb1' := Hbd.out k
   obtain ⟨z, hz⟩ : ∃ z, Hid (Rf.sizeT ((acc.map (·.2)).take k) = z) := ⟨_, rfl⟩
   rw [hz.out] at hst hb1' ⊢
   have hgl' : g < wr.heap.size := by omega
   have hlt' : (k : Int) < acc.length := by omega
   go_wp2_with fail
   go_roundw
   case rel => exact ⟨k + 1, by omega, by go_num, by rw [hst.out]; go_num, hbr⟩
   case measure => simp [intOf]; omega
  ·obtain rfl : k = acc.length := by omega
   have HVV : Hid (Rf.sizeT ((acc.map (·.2)).take acc.length) = Rf.sizeS S) := by
    unfold Hid
    rw [HV.out, Hts.out, List.take_of_length_le (by rw [List.length_map]; exact Nat.le_refl _)]
   rw [HVV.out]
   go_wp2_with fail
   go_ret
   exact ⟨rfl, hbw1.trans (hbr.mono hbw1.size)⟩
end Go.Proofs.YtbiojnljihgpoaaGreatDoor
namespace Rf
def tailQ : Bool -> List (ByteArray × List Part) -> ByteArray
 | _, [] => ⟨#[]⟩
 | b, x :: l => (if b = true then ⟨#[44, 32]⟩ else ⟨#[]⟩) ++ (lineQ x ++ tailQ true l)
theorem tailQ_true : ∀ l : List (ByteArray × List Part), tailQ true l = if l = [] then ⟨#[]⟩ else ⟨#[44, 32]⟩ ++ joinQ l
 | [] => rfl
 | x :: l => by rw [tailQ, if_pos rfl, if_neg (by simp), joinQ, tailQ_true l]
theorem tailQ_false (l : List (ByteArray × List Part)) : tailQ false l = joinQ l := by
 cases l with
 | nil => rfl
 | cons x l => rw [tailQ, if_neg (by simp), emp_app, joinQ, tailQ_true]
theorem joinQ_size (B : Nat) : ∀ (l : List (ByteArray × List Part)), (∀ x ∈ l, (lineQ x).size <= B) -> (joinQ l).size <= l.length * (B + 2)
 | [], _ => Nat.zero_le _
 | x :: l, h => by
  have h1 := joinQ_size B l (fun y hy => h y (List.mem_cons_of_mem _ hy))
  have h2 := h x (by simp)
  rw [joinQ, ByteArray.size_append, List.length_cons, Nat.add_mul]
  split
  ·have : (⟨#[]⟩ : ByteArray).size = 0 := rfl
   omega
  ·rw [ByteArray.size_append]
   have : (⟨#[44, 32]⟩ : ByteArray).size = 2 := rfl
   omega
end Rf
namespace Go.Proofs.YtbiojnljihgpoaaGreatDoor
open Go.RowKit
variable {nm : Value}
theorem Seen.strAt' {w : World} {g off n c : Nat} {xs : List ByteArray} (h : Seen w 9 strCells (.slice (some ⟨g, off, none⟩) n c) xs) (k : Nat) (x : ByteArray) (hx : xs[k]? = some x) : w.cell? ⟨g, off + k, none⟩ = some (.string x) := by
 have := h.cells strCells_len k x hx 0 _ rfl
 rw [Nat.mul_one, Nat.add_zero] at this
 exact this
set_option maxHeartbeats 1000000 in
set_option maxRecDepth 100000 in
theorem ptext_any (w : World) (q : Nat) (rb : Option Nat) (names : List ByteArray) (cf : Rf.Cf) (N : Nat) (F : Int) (h : QAt nm w q rb names cf) (hG : Rf.StG N F cf.now) (hF : F <= 1000000) (hnl : cf.now.terms.length = names.length) (hnz : ∀ x ∈ names, x.size <= 12) (hT : Tab w) :
  Calls Tryz.prog 68 #[.pointer (some ⟨q, 0, none⟩)] w fun r w' => r = .returned (.string (Rf.textQ names cf.now.terms)) /\ Below w.heap.size w w' := by
 obtain ⟨vg, vt, fr, vC, hQ⟩ := h.ex
 obtain ⟨k0, k1, k2, k3, k4, kf, kl⟩ := hQ.b.facts
 obtain ⟨na, nc, rfl⟩ := hQ.n.slice
 obtain ⟨ta, tc, rfl⟩ := hQ.s.t.slice
 have HQ : Hid _ := hQ
 have HT : Hid _ := hT
 have HZ : Hid _ := hnz
 have htl := hG.tl
 have hf1 := hG.f1
 have H4 : Hid (∀ t ∈ cf.now.terms, t.length <= 400) := fun t ht => (hG.t t ht).1
 have HV : Hid (∀ t ∈ cf.now.terms, ∀ p ∈ t, p.kind = 1 -> 0 <= p.value /\ p.value < 1000000) := fun t ht p hp hk => by have := ((hG.t t ht).2 p hp).2.1 hk; omega
 by_cases hn0 : names = []
 ·have HX : Hid (Rf.textQ names cf.now.terms = ⟨#[121, 101, 115]⟩) := by unfold Hid Rf.textQ; rw [if_pos hn0]; rfl
  have hz : names.length = 0 := by rw [hn0]; rfl
  rw [hz] at k0
  clear h hQ hG hT hnz
  go_enter Tryz.func68, Tryz.ntmps68
  go_wp2_with fail
  go_ret
  exact ⟨ret_str HX.out.symm, Below.refl _ _⟩
 ·have HX : Hid (Rf.textQ names cf.now.terms = Rf.joinQ (names.zip (Rf.renTs [] cf.now.terms).1)) := by unfold Hid Rf.textQ; rw [if_neg hn0]
  have hz : 1 <= names.length := by
   cases hnc : names with
   | nil => exact absurd hnc hn0
   | cons => simp
  have hzz : ((names.length : Int) == 0) = false := by rw [beq_eq_false_iff_ne]; omega
  obtain ⟨ng, no, rfl⟩ := hQ.n.pos hz
  have hngl := hQ.n.lt
  have HRl : Hid ((Rf.renTs [] cf.now.terms).1.length = names.length) := by unfold Hid; rw [(Rf.renTs_of cf.now.terms []).1, hnl]
  have HRe := (Rf.renTs_of cf.now.terms []).2
  have HRc := Rf.renTs_count cf.now.terms [] (fun t ht => (hG.t t ht).1)
  have HRg : Hid (∀ u ∈ (Rf.renTs [] cf.now.terms).1, u.length <= 400 /\ (∀ p ∈ u, Rf.GoodA p) /\ (∀ p ∈ u, 0 <= p.args /\ p.args <= 4)) := fun u hu => by
   obtain ⟨i, hi⟩ := List.getElem?_of_mem hu
   obtain ⟨t, e1, e2, e3, _⟩ := HRe i u hi
   have htm := hG.t t (List.mem_of_getElem? e1)
   have hc2 : cf.now.terms.length * 400 <= 16 * 400 := Nat.mul_le_mul_right _ htl
   simp only [List.length_nil] at HRc
   refine ⟨by rw [e2]; exact htm.1, fun p hp => ?_, fun p hp => ?_⟩
   ·obtain ⟨y, hy, hr⟩ := e3 p hp
    have hpg := hr.good (htm.2 y hy)
    exact ⟨fun k => by have := hpg.2.1 k; omega, hpg.2.2.1, hpg.2.2.2⟩
   ·obtain ⟨y, hy, hr⟩ := e3 p hp
    exact (hr.good (htm.2 y hy)).1
  have hn16 : names.length <= 16 := by omega
  clear h hG hT hnz hn0 HRe HRc hnl
  obtain ⟨RR, hRR⟩ : ∃ RR, Hid (Rf.renTs [] cf.now.terms = RR) := ⟨_, rfl⟩
  rw [hRR.out] at HX HRl HRg
  obtain ⟨ra, rn⟩ := RR
  simp only at HX HRl HRg
  have hJ : (Rf.joinQ (names.zip ra)).size <= 160000 := by
   have h9 := Rf.joinQ_size 9615 (names.zip ra) (fun x hx => by
    obtain ⟨h1, h2⟩ := List.of_mem_zip hx
    have h3 := HZ.out _ h1
    obtain ⟨h4, h5, _⟩ := HRg.out _ h2
    have h6 := Rf.txtW_size false x.2 h5
    have h7 : (Rf.txtA x.2).size <= 24 * x.2.length := h6
    unfold Rf.lineQ
    rw [ByteArray.size_append, ByteArray.size_append]
    have : (⟨#[32, 61, 32]⟩ : ByteArray).size = 3 := rfl
    omega)
   have h8 : (names.zip ra).length * (9615 + 2) <= 16 * (9615 + 2) := Nat.mul_le_mul_right _ (by rw [List.length_zip]; have := HRl.out; omega)
   omega
  go_enter Tryz.func68, Tryz.ntmps68
  go_wp2_with (go_at_call 94; refine (pRenumber_any _ (.slice ta cf.now.terms.length tc) cf.now.terms HQ.out.s.t (by omega) H4.out HV.out).mono ?_; rintro r w1 ⟨a1, n1, c1, rfl, hR1, hb1⟩; rw [hRR.out] at hR1 ⊢; simp only at hR1; obtain ⟨g1, o1, rfl, hgl1, hn1, _, _⟩ := hR1.pos (by intro e; have h9 := HRl.out; rw [e] at h9; simp at h9; omega); subst hn1; have HR1 : Hid _ := hR1; clear hR1)
  obtain ⟨acc, hT1, hE1, hts⟩ := HR1.out.ex
  have hal : acc.length = names.length := by have h9 := congrArg List.length hts; rw [List.length_map] at h9; rw [<- h9]; exact HRl.out
  have hral : ra.length = names.length := HRl.out
  have HT1 : Hid _ := hT1
  have HE1 : Hid _ := hE1
  have Hts : Hid _ := hts
  clear hT1 hE1 hts
  rw [hral]
  have H00 : Hid ((⟨#[]⟩ : ByteArray) ++ Rf.tailQ (decide (0 < 0)) ((names.zip ra).drop 0) = Rf.joinQ (names.zip ra)) := by unfold Hid; rw [List.drop_zero, Rf.emp_app, show decide (0 < 0) = false from rfl, Rf.tailQ_false]
  go_loopw [5, 25] (fun sv iv wr => ∃ (k : Nat) (s : ByteArray), k <= names.length /\ iv = .int .i64 (k : Nat) /\ sv = .string s /\ s.size <= 160000 /\ Hid (s ++ Rf.tailQ (decide (0 < k)) ((names.zip ra).drop k) = Rf.joinQ (names.zip ra)) /\ Below w1.heap.size w1 wr) (fun _ iv _ => names.length - (intOf iv).toNat)
  case atStart => exact ⟨0, ⟨#[]⟩, Nat.zero_le _, rfl, rfl, Nat.zero_le _, H00, Below.refl _ _⟩
  case round =>
   obtain ⟨k, s, hk, rfl, rfl, hss, hinv, hbr⟩ := hrel
   clear H00
   have hsz := hbr.size
   have hbw : Below w.heap.size w wr := hb1.trans (hbr.mono hb1.size)
   by_cases hlt : k < names.length
   ·have hzl : k < (names.zip ra).length := by rw [List.length_zip]; omega
    have hlt2 : k < acc.length := by omega
    have hgl1' := HT1.out.lt
    have hcell := Seen.termAt (HT1.out.below hbr) k acc[k].1 (by simp [hlt2])
    have hS := HE1.out acc[k] (List.getElem_mem hlt2)
    have hrk : ra[k]'(by omega) = acc[k].2 := by
     have h9 := Hts.out
     have h8 : ra[k]? = (acc.map (·.2))[k]? := by rw [h9]
     rw [List.getElem?_eq_getElem (by omega), List.getElem?_map, List.getElem?_eq_getElem hlt2] at h8
     simpa using h8
    have hGA := HRg.out (acc[k].2) (by rw [<- hrk]; exact List.getElem_mem _)
    have hdrop : (names.zip ra).drop k = (names[k], acc[k].2) :: (names.zip ra).drop (k + 1) := by
     rw [List.drop_eq_getElem_cons hzl, List.getElem_zip, hrk]
    have hnc := Seen.strAt' (HQ.out.n.below hbw) k names[k] (by simp [hlt])
    have hnz := HZ.out names[k] (List.getElem_mem hlt)
    rw [hdrop, Rf.tailQ] at hinv
    generalize names[k] = nk at *
    generalize acc[k] = y at *
    obtain ⟨⟨qa, qn, qc⟩, qp⟩ := y
    simp only at hcell hS hGA hinv
    have htz : (Rf.txtA qp).size <= 9600 := by have h9 := Rf.txtW_size false qp hGA.2.1; have h8 : (Rf.txtA qp).size <= 24 * qp.length := h9; have := hGA.1; omega
    have HS : Hid (Seen wr 101 partCells (.slice qa qn qc) qp) := Seen.below hS hbr
    have Hg : Hid _ := hGA
    have HTr : Hid (Tab wr) := Tab.below HT.out hbw
    have HQr : Hid _ := HQ.out.below hbw
    obtain ⟨m0, m1, m2, m3, m4, mf, ml⟩ := HQr.out.b.facts
    have hlt' : (k : Int) < names.length := by omega
    have hg1' : g1 < wr.heap.size := by omega
    have hng' : ng < wr.heap.size := by have := hbw.size; omega
    have Hln : Hid (Rf.lineQ (nk, qp) = nk ++ ⟨#[32, 61, 32]⟩ ++ Rf.txtA qp) := rfl
    clear hS hGA hdrop hrk
    by_cases h0 : 0 < k
    ·have h0' : (0 : Int) < k := by omega
     have hinv2 : Hid ((s ++ ⟨#[44, 32]⟩ ++ (nk ++ ⟨#[32, 61, 32]⟩ ++ Rf.txtA qp)) ++ Rf.tailQ (decide (0 < k + 1)) ((names.zip ra).drop (k + 1)) = Rf.joinQ (names.zip ra)) := by
      unfold Hid
      rw [<- hinv.out, if_pos (by simpa using h0), Hln.out, show decide (0 < k + 1) = true by simp]
      simp only [ByteArray.append_assoc]
     have hs2 : (s ++ ⟨#[44, 32]⟩ ++ (nk ++ ⟨#[32, 61, 32]⟩ ++ Rf.txtA qp)).size <= 160000 := by
      have h9 := congrArg ByteArray.size hinv2.out
      rw [ByteArray.size_append] at h9
      omega
     go_wp2_with fail
     go_region_with (go_at_call 95; refine (answerS_any _ qa qn qc qp (HS.out.below (by repeat(first|exact bl0 _ _|refine bl1 ?_ (by simp<;>omega) _|refine bl2 ?_|refine bl3 ?_ _|refine bl4 ?_ (by simp<;>omega) _))) Hg.out.2.1 Hg.out.2.2 (by have := Hg.out.1; omega) (Tab.below HTr.out (by repeat(first|exact bl0 _ _|refine bl1 ?_ (by simp<;>omega) _|refine bl2 ?_|refine bl3 ?_ _|refine bl4 ?_ (by simp<;>omega) _)))).mono ?_; rintro r w2 ⟨rfl, hb2⟩; have hbw2 : Below wr.heap.size wr w2 := Below.trans (Below.refl _ wr).drew hb2; obtain ⟨l0, l1, l2, l3, l4, lf, ll⟩ := (HQr.out.below hbw2).b.facts; have hnc2 := (hbw2.cell (p := ⟨ng, no + k, none⟩) hng').trans hnc; have hng2 : ng < w2.heap.size := by have := hbw2.size; omega)
     all_goals
      go_wp2_with fail
      go_roundw
      case rel => exact ⟨k + 1, _, by omega, by go_num, rfl, hs2, hinv2, hbr.trans (hbw2.mono hsz)⟩
      case measure => simp [intOf]; omega
    ·obtain rfl : k = 0 := by omega
     have hinv2 : Hid ((s ++ (nk ++ ⟨#[32, 61, 32]⟩ ++ Rf.txtA qp)) ++ Rf.tailQ (decide (0 < 0 + 1)) ((names.zip ra).drop (0 + 1)) = Rf.joinQ (names.zip ra)) := by
      unfold Hid
      rw [<- hinv.out, if_neg (by simp), Hln.out, show decide (0 < 0 + 1) = true by simp, Rf.emp_app]
      simp only [ByteArray.append_assoc]
     have hs2 : (s ++ (nk ++ ⟨#[32, 61, 32]⟩ ++ Rf.txtA qp)).size <= 160000 := by
      have h9 := congrArg ByteArray.size hinv2.out
      rw [ByteArray.size_append] at h9
      omega
     simp only [Nat.add_zero] at hcell hnc
     go_wp2_with fail
     go_region_with (go_at_call 95; refine (answerS_any _ qa qn qc qp (HS.out.below (by repeat(first|exact bl0 _ _|refine bl1 ?_ (by simp<;>omega) _|refine bl2 ?_|refine bl3 ?_ _|refine bl4 ?_ (by simp<;>omega) _))) Hg.out.2.1 Hg.out.2.2 (by have := Hg.out.1; omega) (Tab.below HTr.out (by repeat(first|exact bl0 _ _|refine bl1 ?_ (by simp<;>omega) _|refine bl2 ?_|refine bl3 ?_ _|refine bl4 ?_ (by simp<;>omega) _)))).mono ?_; rintro r w2 ⟨rfl, hb2⟩; have hbw2 : Below wr.heap.size wr w2 := Below.trans (Below.refl _ wr).drew hb2; obtain ⟨l0, l1, l2, l3, l4, lf, ll⟩ := (HQr.out.below hbw2).b.facts; have hnc2 := (hbw2.cell (p := ⟨ng, no, none⟩) hng').trans hnc; have hng2 : ng < w2.heap.size := by have := hbw2.size; omega)
     all_goals
      go_wp2_with fail
      go_roundw
      case rel => exact ⟨0 + 1, _, by omega, by go_num, rfl, hs2, hinv2, hbr.trans (hbw2.mono hsz)⟩
      case measure => simp [intOf]; omega
   ·obtain rfl : k = names.length := by omega
    have hend : Hid (s = Rf.joinQ (names.zip ra)) := by
     unfold Hid
     have h9 := hinv.out
     rw [List.drop_of_length_le (by rw [List.length_zip]; omega), Rf.tailQ, Rf.app_emp] at h9
     exact h9
    go_wp2_with fail
    go_ret
    exact ⟨ret_str (by rw [HX.out, hend.out]), hbw⟩
end Go.Proofs.YtbiojnljihgpoaaGreatDoor
