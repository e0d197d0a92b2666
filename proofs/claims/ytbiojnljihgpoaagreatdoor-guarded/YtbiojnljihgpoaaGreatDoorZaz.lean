
import Derived.Test.YtbiojnljihgpoaaGreatDoorZay
namespace Rf
theorem matchN_snoc (S : St) (c : Cl) : ∀ (i : Nat) (cs : List Cl), matchN S i (cs ++ [c]) = matchN S i cs ++ (if matchB S c = true then [i + cs.length] else [])
 | _, [] => by simp [matchN]
 | i, d :: cs => by
  rw [List.cons_append, matchN, matchN, matchN_snoc S c (i + 1) cs, List.length_cons, List.append_assoc, show i + 1 + cs.length = i + (cs.length + 1) by omega]
end Rf
namespace Go.Proofs.YtbiojnljihgpoaaGreatDoor
open Go.RowKit
variable {nm : Value}
theorem QIs.now3 {w : World} {q : Nat} {rb : Option Nat} {vN vg vt vC vg' vt' : Value} {fr fr' : Int} {names : List ByteArray} {cf : Rf.Cf} {S : Rf.St} (h : QIs w q rb vN vg vt fr vC names cf) (hs : StIs w vg' vt' fr' S) : QIs (((w.setCell ⟨q, 1, none⟩ vg').setCell ⟨q, 2, none⟩ vt').setCell ⟨q, 3, none⟩ (.int .i64 fr')) q rb vN vg' vt' fr' vC names ⟨S, cf.chs⟩ /\ Kept (May q rb) w (((w.setCell ⟨q, 1, none⟩ vg').setCell ⟨q, 2, none⟩ vt').setCell ⟨q, 3, none⟩ (.int .i64 fr')) := by
 refine ⟨QIs.now h ((((Kept.refl (fun k => k = q) w).setCell (p := ⟨q, 1, none⟩) (.inr rfl) _).setCell (p := ⟨q, 2, none⟩) (.inr rfl) _).setCell (p := ⟨q, 3, none⟩) (.inr rfl) _) (blk_set (blk_set (blk_set h.b 1 _) 2 _) 3 _) hs, (((Kept.refl _ w).setCell (p := ⟨q, 1, none⟩) (.inr (.inl rfl)) _).setCell (p := ⟨q, 2, none⟩) (.inr (.inl rfl)) _).setCell (p := ⟨q, 3, none⟩) (.inr (.inl rfl)) _⟩
set_option maxHeartbeats 1000000 in
set_option maxRecDepth 100000 in
theorem puse_any (w : World) (q : Nat) (rb : Option Nat) (names : List ByteArray) (cf : Rf.Cf) (vg vt : Value) (fr : Int) (S : Rf.St) (hx bx : SlV) (c : Rf.Cl) (ht : Int) (N : Nat) (F : Int) (h : QAt nm w q rb names cf) (hS : StIs w vg vt fr S) (hG : Rf.StG N F S) (hN : N <= 9000) (hF : F <= 1000000) (hne : S.goals ≠ []) (hC : SeenCl w hx bx c) (hc : Rf.ClG c) :
  Calls Tryz.prog 90 #[.pointer (some ⟨q, 0, none⟩), .agg #[vg, vt, .int .i64 fr], .agg #[.slice hx.a hx.n hx.c, .slice bx.a bx.n bx.c], .int .i64 ht] w fun r w' => r = .returned (.int .i64 (Rf.useP cf S c ht).1) /\ QAt nm w' q rb names (Rf.useP cf S c ht).2 /\ Kept (May q rb) w w' := by
 obtain ⟨ug, ut, ur, vC, hQ⟩ := h.ex
 have HQ : Hid _ := hQ
 have HW : Hid _ := fun w' => @pwith_any w' vg vt fr ht S hx bx c N
 have HS : Hid _ := hS
 have HO : Hid _ := StG.ok hG hF
 have HC : Hid _ := hC
 have HCG : Hid _ := ClG.ok hc
 have Hne : Hid _ := hne
 obtain ⟨sa, sc, rfl⟩ := hS.g.slice
 obtain ⟨ta, tc, rfl⟩ := hS.t.slice
 clear h hQ hS hG hC hc hne
 obtain ⟨o, ho⟩ : ∃ o, Hid ((Rf.withS S c ht).1 = o) := ⟨_, rfl⟩
 have HU : Hid (Rf.useP cf S c ht = (o, if o = 0 then ⟨(Rf.withS S c ht).2, cf.chs⟩ else cf)) := by unfold Hid Rf.useP; rw [ho.out]
 by_cases h0 : o = 0
 ·subst h0
  have HU0 : Hid (Rf.useP cf S c ht = (0, ⟨(Rf.withS S c ht).2, cf.chs⟩)) := HU.out
  clear HU
  go_enter Tryz.func90, Tryz.ntmps90
  go_wp2_with (go_at_call 101; refine (pwith_any _ (.slice sa S.goals.length sc) (.slice ta S.terms.length tc) fr ht S hx bx c N (HS.out.below (by repeat(first|exact bl0 _ _|refine bl1 ?_ (by simp<;>omega) _|refine bl2 ?_|refine bl3 ?_ _|refine bl4 ?_ (by simp<;>omega) _))) HO.out hN Hne.out (HC.out.below (by repeat(first|exact bl0 _ _|refine bl1 ?_ (by simp<;>omega) _|refine bl2 ?_|refine bl3 ?_ _|refine bl4 ?_ (by simp<;>omega) _))) HCG.out).mono ?_; rintro r w1 ⟨a3, n3, c3, a4, n4, c4, fr', rfl, hS1, hb1⟩; rw [ho.out]; have hbw : Below w.heap.size w w1 := Below.trans ((by repeat(first|exact bl0 _ _|refine bl1 ?_ (by simp<;>omega) _|refine bl2 ?_|refine bl3 ?_ _|refine bl4 ?_ (by simp<;>omega) _)) : Below w.heap.size w ((w.alloc _).alloc _)) (hb1.mono (by simp only [World.size_alloc]; omega)); have hz := hbw.size; have hQ1 := HQ.out.below hbw; obtain ⟨k0, k1, k2, k3, k4, kf, kl⟩ := hQ1.b.facts)
  go_ret
  rw [HU0.out]
  obtain ⟨r1, r2⟩ := QIs.now3 hQ1 hS1
  refine ⟨rfl, (r1.below ((Below.refl _ _).alloc (Nat.le_refl _) _)).at, ?_⟩
  exact ((Kept.of_below hbw _).trans r2 (fun _ _ h => h)).alloc _
 ·have h0' : (o == 0) = false := beq_eq_false_iff_ne.2 h0
  go_enter Tryz.func90, Tryz.ntmps90
  go_wp2_with (go_at_call 101; refine (pwith_any _ (.slice sa S.goals.length sc) (.slice ta S.terms.length tc) fr ht S hx bx c N (HS.out.below (by repeat(first|exact bl0 _ _|refine bl1 ?_ (by simp<;>omega) _|refine bl2 ?_|refine bl3 ?_ _|refine bl4 ?_ (by simp<;>omega) _))) HO.out hN Hne.out (HC.out.below (by repeat(first|exact bl0 _ _|refine bl1 ?_ (by simp<;>omega) _|refine bl2 ?_|refine bl3 ?_ _|refine bl4 ?_ (by simp<;>omega) _))) HCG.out).mono ?_; rintro r w1 ⟨a3, n3, c3, a4, n4, c4, fr', rfl, hS1, hb1⟩; rw [ho.out]; have hbw : Below w.heap.size w w1 := Below.trans ((by repeat(first|exact bl0 _ _|refine bl1 ?_ (by simp<;>omega) _|refine bl2 ?_|refine bl3 ?_ _|refine bl4 ?_ (by simp<;>omega) _)) : Below w.heap.size w ((w.alloc _).alloc _)) (hb1.mono (by simp only [World.size_alloc]; omega)); have hz := hbw.size; have hQ1 := HQ.out.below hbw; obtain ⟨k0, k1, k2, k3, k4, kf, kl⟩ := hQ1.b.facts)
  go_ret
  rw [HU.out, if_neg h0]
  refine ⟨rfl, ?_, ?_⟩
  ·exact (hQ1.below (by repeat(first|exact bl0 _ _|refine bl1 ?_ (by simp<;>omega) _|refine bl2 ?_|refine bl3 ?_ _|refine bl4 ?_ (by simp<;>omega) _))).at
  ·exact Kept.of_below (hbw.trans ((Below.refl _ w1).alloc hz _)) _
theorem SeenTs.first {w : World} {g off n c : Nat} {ts : List (List Rf.Part)} (h : SeenTs w (.slice (some ⟨g, off, none⟩) n c) ts) (hne : ts ≠ []) : ∃ x : SlV, w.cell? ⟨g, off, none⟩ = some (.slice x.a x.n x.c) /\ Seen w 101 partCells (.slice x.a x.n x.c) (ts.headD []) := by
 obtain ⟨acc, h1, h2, rfl⟩ := h.ex
 cases acc with
 | nil => exact absurd rfl hne
 | cons y acc => exact ⟨y.1, by simpa using Seen.termAt h1 0 y.1 (by simp), h2 y (by simp)⟩
theorem Seen.natAt {w : World} {g off n c : Nat} {xs : List Nat} (h : Seen w 3 natCells (.slice (some ⟨g, off, none⟩) n c) xs) (k : Nat) (x : Nat) (hx : xs[k]? = some x) : w.cell? ⟨g, off + k, none⟩ = some (.int .i64 (x : Nat)) := by
 have := h.cells natCells_len k x hx 0 _ rfl
 simpa using this
theorem SeenCls.at {w : World} {a : Option Addr} {n c : Nat} {cls : List Rf.Cl} (h : SeenCls w (.slice a n c) cls) (k : Nat) (hk : k < cls.length) : ∃ (g off : Nat) (x : PClV), a = some ⟨g, off, none⟩ /\ g < w.heap.size /\ n = cls.length /\ SeenCl w x.h x.b (cls.getD k Rf.noCl) /\ w.cell? ⟨g, off + k * 2, none⟩ = some (.slice x.h.a x.h.n x.h.c) /\ w.cell? ⟨g, off + k * 2 + 1, none⟩ = some (.slice x.b.a x.b.n x.b.c) := by
 obtain ⟨acc, h1, h2, rfl⟩ := h.ex
 rw [List.length_map] at hk
 obtain ⟨g, off, rfl⟩ := h1.pos (by rw [List.length_map]; omega)
 have hx : (acc.map (·.1))[k]? = some acc[k].1 := by simp [hk]
 have c0 := h1.cells pclCells_len k _ hx 0 _ rfl
 have c1 := h1.cells pclCells_len k _ hx 1 _ rfl
 refine ⟨g, off, acc[k].1, rfl, h1.lt, ?_, ?_, ?_, ?_⟩
 ·have := h1.len; rw [List.length_map] at this ⊢; exact this
 ·have h3 := h2 acc[k] (List.getElem_mem hk)
  rw [List.getD_eq_getElem?_getD, List.getElem?_map, List.getElem?_eq_getElem hk]
  exact h3
 ·simpa using c0
 ·rw [Nat.add_assoc]; exact c1
end Go.Proofs.YtbiojnljihgpoaaGreatDoor
namespace Go.Proofs.YtbiojnljihgpoaaGreatDoor
open Go.RowKit
set_option maxHeartbeats 1000000 in
set_option maxRecDepth 100000 in
theorem pmatching_any (w : World) (vg vt : Value) (fr : Int) (S : Rf.St) (vc : Value) (cls : List Rf.Cl) (N : Nat) (F : Int) (hS : StIs w vg vt fr S) (hG : Rf.StG N F S) (hN : N <= 9000) (hF : F <= 1000000) (hne : S.goals ≠ []) (hC : SeenCls w vc cls) (hc : Rf.ClsG cls) (hl : cls.length <= 30) :
  Calls Tryz.prog 76 #[.agg #[vg, vt, .int .i64 fr], vc] w fun r w' => ∃ a3 n3 c3, r = .returned (.tuple #[.slice a3 n3 c3, .bool (Rf.knownP S cls)]) /\ Seen w' 3 natCells (.slice a3 n3 c3) (Rf.matchN S 0 cls) /\ Below w.heap.size w w' := by
 obtain ⟨sa, sc, rfl⟩ := hS.g.slice
 obtain ⟨ta, tc, rfl⟩ := hS.t.slice
 obtain ⟨ca, cc, rfl⟩ := hC.slice
 obtain ⟨g0, o0, rfl, hgl0, _, hp1, hp2⟩ := hS.g.pos hne
 obtain ⟨⟨xa, xn, xc⟩, hx, hX⟩ := hS.g.first hne
 simp only at hx hX
 have HX : Hid (Seen w 101 partCells (.slice xa xn xc) (Rf.goalP S)) := hX
 obtain ⟨p0, hp0⟩ : ∃ p, Hid (Rf.topP (Rf.goalP S) = p) := ⟨_, rfl⟩
 have HS : Hid _ := hS
 have HO : Hid _ := StG.ok hG hF
 have HC : Hid _ := hC
 have HG : Hid (Rf.ClsG cls) := hc
 have Hne : Hid _ := hne
 clear hS hG hC hc hne hX
 go_enter Tryz.func76, Tryz.ntmps76
 go_wp2_with (go_at_call 71; refine (ptopA_any xa xn xc _ _ (HX.out.below (by repeat(first|exact bl0 _ _|refine bl1 ?_ (by simp<;>omega) _|refine bl2 ?_|refine bl3 ?_ _|refine bl4 ?_ (by simp<;>omega) _)))).mono ?_; rintro r w1 ⟨rfl, hb1⟩; rw [hp0.out])
 have hbw1 : Below w.heap.size w w1 := Below.trans ((Below.refl _ w).alloc (Nat.le_refl _) _) (hb1.mono (by rw [World.size_alloc]; omega))
 have hz1 : w.heap.size + 1 <= w1.heap.size := by have := hb1.size; rw [World.size_alloc] at this; exact this
 have HB0 : Hid (w1.heap[w.heap.size]? = _) := (hb1.block w.heap.size (by rw [World.size_alloc]; omega)).trans (blk_new w _)
 go_loopw [7, 8, 20] (fun kv mv iv wr => ∃ (k : Nat) (ms : List Nat), k <= cls.length /\ iv = .int .i64 (k : Nat) /\ kv = .bool (Rf.knownP S (cls.take k)) /\ ms.length <= k /\ RowIs wr (w1.heap.size + 1) 3 1 natCells mv ms /\ Hid (Rf.matchN S 0 (cls.take k) = ms) /\ Below (w1.heap.size + 1) (w1.alloc (.cells #[.int .i64 p0.kind, .string p0.name, .int .i64 p0.value, .int .i64 p0.args] 101)) wr) (fun _ _ iv _ => cls.length - (intOf iv).toNat)
 case atStart => exact ⟨0, [], Nat.zero_le _, rfl, rfl, Nat.le_refl _, RowIs.nil _ _ _ _ _, rfl, Below.refl _ _⟩
 case round =>
  obtain ⟨k, ms, hk, rfl, rfl, hms, hR, hinv, hbr⟩ := hrel
  have hsz := hbr.size
  rw [World.size_alloc] at hsz
  have hbwr : Below w.heap.size w wr := hbw1.trans (Below.trans ((Below.refl _ w1).alloc (by omega) _) (hbr.mono (by omega)))
  obtain ⟨am, cm, hv⟩ := row_slice hR
  subst hv
  by_cases hlt : k < cls.length
  ·obtain ⟨gc, oc, xx, rfl, hgl, _, hCl, hc0, hc1⟩ := (HC.out.below hbwr).at k hlt
   have hgc := HG.out.at hlt
   have htk : cls.take (k + 1) = cls.take k ++ [cls.getD k Rf.noCl] := by
    rw [List.take_succ_eq_append_getElem hlt, List.getD_eq_getElem?_getD, List.getElem?_eq_getElem hlt]; rfl
   obtain ⟨cl, hcl⟩ : ∃ cl, Hid (cls.getD k Rf.noCl = cl) := ⟨_, rfl⟩
   rw [hcl.out] at hCl hgc htk
   have HCl : Hid _ := hCl
   have HGc : Hid _ := hgc
   have Htk : Hid _ := htk
   obtain ⟨⟨ha, hn, hc⟩, ⟨ba, bn, bc⟩⟩ := xx
   simp only at hc0 hc1
   have hlt' : (k : Int) < cls.length := by omega
   have P1 : wr.heap[w1.heap.size]? = _ := (hbr.block w1.heap.size (by omega)).trans (blk_new w1 _)
   obtain ⟨q0, q1, q2, q3, ql⟩ := cells4 P1
   have P2 : wr.heap[w.heap.size]? = _ := (hbr.block w.heap.size (by omega)).trans (blk_alloc HB0.out _)
   have s0 := blk_cell P2 0
   have s1 := blk_cell P2 1
   have s2 := blk_cell P2 2
   have sl := blk_lt P2
   simp at s0 s1 s2
   have HP1 : Hid _ := P1
   have HP2 : Hid _ := P2
   clear hCl hgc htk P1 P2
   have hmk : Hid (Rf.matchN S 0 (cls.take (k + 1)) = ms ++ (if Rf.matchB S cl = true then [k] else [])) := by
    unfold Hid
    rw [Htk.out, Rf.matchN_snoc, hinv.out, List.length_take, show 0 + min k cls.length = k by omega]
   have hkk : Hid (Rf.knownP S (cls.take (k + 1)) = (Rf.knownP S (cls.take k) || Rf.hasPred S cl)) := by
    unfold Hid Rf.knownP
    rw [Htk.out, List.any_append]; simp
   have HGc2 : Hid (ClGood cl) := ClG.ok HGc.out
   by_cases hp : Rf.topP cl.head = p0
   ·have hpr : Rf.hasPred S cl = true := by unfold Rf.hasPred; rw [hp0.out, hp]; exact Rf.samePart_iff.2 rfl
    obtain ⟨o, ho⟩ : ∃ o, Hid ((Rf.withS S cl 0).1 = o) := ⟨_, rfl⟩
    have hmb : Hid (Rf.matchB S cl = decide (o ≠ -1)) := by unfold Hid Rf.matchB; rw [hpr, ho.out]; rfl
    have hkt : Hid (Rf.knownP S (cls.take (k + 1)) = true) := by unfold Hid; rw [hkk.out, hpr]; simp
    clear hpr
    by_cases ho1 : o = -1
    ·subst ho1
     have hm2 : Hid (Rf.matchN S 0 (cls.take (k + 1)) = ms) := by unfold Hid; rw [hmk.out, hmb.out]; simp
     clear hmk hmb
     go_wp2_with fail
     go_region_with (go_at_call 71; refine (ptopA_any ha hn hc _ _ (HCl.out.head.below (by repeat(first|exact bl0 _ _|refine bl1 ?_ (by simp<;>omega) _|refine bl2 ?_|refine bl3 ?_ _|refine bl4 ?_ (by simp<;>omega) _)))).mono ?_; rintro r w2 ⟨rfl, hb2⟩; rw [hp]; have P1' : w2.heap[w1.heap.size]? = _ := (hb2.block w1.heap.size (by simp; omega)).trans (blk_alloc HP1.out _); obtain ⟨y0, y1, y2, y3, yl⟩ := cells4 P1'; have P2' : w2.heap[w.heap.size]? = _ := (hb2.block w.heap.size (by simp; omega)).trans (blk_alloc HP2.out _); have t0 := blk_cell P2' 0; have t1 := blk_cell P2' 1; have t2 := blk_cell P2' 2; simp at t0 t1 t2; have P3' : w2.heap[wr.heap.size]? = _ := (hb2.block wr.heap.size (by simp)).trans (blk_new wr _); have z0 := blk_cell P3' 0; have z1 := blk_cell P3' 1; simp at z0 z1; have zl := blk_lt P3'; have hbw2 : Below wr.heap.size wr w2 := Below.trans ((Below.refl _ wr).alloc (Nat.le_refl _) _).drew (hb2.mono (by simp)); clear P1' P2' P3')
     all_goals
      go_wp2_with (go_at_call 101; refine (pwith_any _ (.slice (some ⟨g0, o0, none⟩) S.goals.length sc) (.slice ta S.terms.length tc) fr 0 S ⟨ha, hn, hc⟩ ⟨ba, bn, bc⟩ cl N (HS.out.below (hbwr.trans (hbw2.mono hbwr.size))) HO.out hN Hne.out (HCl.out.below hbw2) HGc2.out).mono ?_; rintro r w3 ⟨a3, n3, c3, a4, n4, c4, fr', rfl, hS3, hb3⟩; rw [ho.out]; have hbw3 : Below wr.heap.size wr w3 := hbw2.trans (hb3.mono hbw2.size); have hz3 := hbw3.size; have hR3 := hR.below hbw3)
      go_roundw
      case rel => exact ⟨k + 1, ms, by omega, by go_num, by rw [hkt.out], by omega, hR3.below ((Below.refl _ w3).alloc (Nat.le_refl _) _), hm2, hbr.trans (Below.mono (hbw3.alloc hz3 _) (by omega))⟩
      case measure => simp [intOf]; omega
    ·have ho1' : (o != -1) = true := bne_iff_ne.2 ho1
     have hm2 : Hid (Rf.matchN S 0 (cls.take (k + 1)) = ms ++ [k]) := by unfold Hid; rw [hmk.out, hmb.out]; simp [ho1]
     clear hmk hmb
     go_wp2_with fail
     go_region_with (go_at_call 71; refine (ptopA_any ha hn hc _ _ (HCl.out.head.below (by repeat(first|exact bl0 _ _|refine bl1 ?_ (by simp<;>omega) _|refine bl2 ?_|refine bl3 ?_ _|refine bl4 ?_ (by simp<;>omega) _)))).mono ?_; rintro r w2 ⟨rfl, hb2⟩; rw [hp]; have P1' : w2.heap[w1.heap.size]? = _ := (hb2.block w1.heap.size (by simp; omega)).trans (blk_alloc HP1.out _); obtain ⟨y0, y1, y2, y3, yl⟩ := cells4 P1'; have P2' : w2.heap[w.heap.size]? = _ := (hb2.block w.heap.size (by simp; omega)).trans (blk_alloc HP2.out _); have t0 := blk_cell P2' 0; have t1 := blk_cell P2' 1; have t2 := blk_cell P2' 2; simp at t0 t1 t2; have P3' : w2.heap[wr.heap.size]? = _ := (hb2.block wr.heap.size (by simp)).trans (blk_new wr _); have z0 := blk_cell P3' 0; have z1 := blk_cell P3' 1; simp at z0 z1; have zl := blk_lt P3'; have hbw2 : Below wr.heap.size wr w2 := Below.trans ((Below.refl _ wr).alloc (Nat.le_refl _) _).drew (hb2.mono (by simp)); clear P1' P2' P3')
     all_goals
      go_wp2_with (first
       | (go_at_call 101; refine (pwith_any _ (.slice (some ⟨g0, o0, none⟩) S.goals.length sc) (.slice ta S.terms.length tc) fr 0 S ⟨ha, hn, hc⟩ ⟨ba, bn, bc⟩ cl N (HS.out.below (hbwr.trans (hbw2.mono hbwr.size))) HO.out hN Hne.out (HCl.out.below hbw2) HGc2.out).mono ?_; rintro r w3 ⟨a3, n3, c3, a4, n4, c4, fr', rfl, hS3, hb3⟩; rw [ho.out]; have hbw3 : Below wr.heap.size wr w3 := hbw2.trans (hb3.mono hbw2.size); have hz3 := hbw3.size; have hR3 := hR.below hbw3)
       | (at_builtin; refine wpList_app Tryz.elemInt natCells natCells_len natCells_one _ rfl (.tmp 38) (.tmp 40) rfl (w1.heap.size + 1) (.slice am ms.length cm) ms rfl ((hR3.alloc _).alloc _) ⟨_, 0, none⟩ 1 k rfl (cell_one_at _ (w3.heap.size + 1) (by simp) _ _) (by omega) (by simp only [World.size_alloc]; omega) ?_; intro gA capA w4 hrow4 hgr4 hnb4))
      go_roundw
      case rel =>
       refine ⟨k + 1, ms ++ [k], by omega, by go_num, by rw [hkt.out], by simp; omega, hrow4, hm2, ?_⟩
       exact (hbr.trans (((hbw3.mono (by omega : w1.heap.size + 1 <= wr.heap.size)).alloc (by omega) _).alloc (by simp only [World.size_alloc]; omega) _)).grown hgr4 (by simp only [World.size_alloc]; omega) (fun j e => (hR.lt j e).1)
      case measure => simp [intOf]; omega
   ·have hpr : Rf.hasPred S cl = false := by
     cases hh : Rf.hasPred S cl with
     | false => rfl
     | true => unfold Rf.hasPred at hh; rw [hp0.out] at hh; exact absurd (Rf.samePart_iff.1 hh) hp
    have hm2 : Hid (Rf.matchN S 0 (cls.take (k + 1)) = ms) := by unfold Hid; rw [hmk.out]; unfold Rf.matchB; rw [hpr]; simp
    have hkt : Hid (Rf.knownP S (cls.take (k + 1)) = Rf.knownP S (cls.take k)) := by unfold Hid; rw [hkk.out, hpr]; simp
    have Hp : Hid _ := hp
    clear hmk hp hpr
    obtain ⟨p1, hp1⟩ : ∃ p, Hid (Rf.topP cl.head = p) := ⟨_, rfl⟩
    have hdif : (¬ p1.kind = p0.kind) \/ (p1.kind = p0.kind /\ ¬ p1.name.toList = p0.name.toList) \/ (p1.kind = p0.kind /\ p1.name.toList = p0.name.toList /\ ¬ p1.value = p0.value) \/ (p1.kind = p0.kind /\ p1.name.toList = p0.name.toList /\ p1.value = p0.value /\ ¬ p1.args = p0.args) := by
     by_cases e1 : p1.kind = p0.kind
     ·by_cases e2 : p1.name.toList = p0.name.toList
      ·by_cases e3 : p1.value = p0.value
       ·by_cases e4 : p1.args = p0.args
        ·exfalso; refine Hp.out ?_; rw [hp1.out]; exact Rf.part_ext e1 e2 e3 e4
        ·exact .inr (.inr (.inr ⟨e1, e2, e3, e4⟩))
       ·exact .inr (.inr (.inl ⟨e1, e2, e3⟩))
      ·exact .inr (.inl ⟨e1, e2⟩)
     ·exact .inl e1
    rcases hdif with e1 | ⟨e1, e2⟩ | ⟨e1, e2, e3⟩ | ⟨e1, e2, e3, e4⟩
    all_goals
     go_wp2_with fail
     go_region_with (go_at_call 71; refine (ptopA_any ha hn hc _ _ (HCl.out.head.below (by repeat(first|exact bl0 _ _|refine bl1 ?_ (by simp<;>omega) _|refine bl2 ?_|refine bl3 ?_ _|refine bl4 ?_ (by simp<;>omega) _)))).mono ?_; rintro r w2 ⟨rfl, hb2⟩; rw [hp1.out]; have P1' : w2.heap[w1.heap.size]? = _ := (hb2.block w1.heap.size (by simp; omega)).trans (blk_alloc HP1.out _); obtain ⟨y0, y1, y2, y3, yl⟩ := cells4 P1'; have P2' : w2.heap[w.heap.size]? = _ := (hb2.block w.heap.size (by simp; omega)).trans (blk_alloc HP2.out _); have t0 := blk_cell P2' 0; have t1 := blk_cell P2' 1; have t2 := blk_cell P2' 2; simp at t0 t1 t2; have P3' : w2.heap[wr.heap.size]? = _ := (hb2.block wr.heap.size (by simp)).trans (blk_new wr _); have z0 := blk_cell P3' 0; have z1 := blk_cell P3' 1; simp at z0 z1; have zl := blk_lt P3'; have hbw2 : Below wr.heap.size wr w2 := Below.trans ((Below.refl _ wr).alloc (Nat.le_refl _) _).drew (hb2.mono (by simp)); clear P1' P2' P3')
     all_goals
      go_wp2_with fail
      go_roundw
      case rel => exact ⟨k + 1, ms, by omega, by go_num, by rw [hkt.out], by omega, hR.below hbw2, hm2, hbr.trans (hbw2.mono (by omega))⟩
      case measure => simp [intOf]; omega
  ·obtain rfl : k = cls.length := by omega
   rw [List.take_length] at hinv ⊢
   go_wp2_with fail
   go_ret2
   exact ⟨_, _, _, rfl, by rw [hinv.out]; exact hR.seen, hbwr⟩
end Go.Proofs.YtbiojnljihgpoaaGreatDoor
namespace Go.Proofs.YtbiojnljihgpoaaGreatDoor
open Go.RowKit
variable {nm : Value}
theorem equalE_good {N : Nat} {F : Int} {cf : Rf.Cf} {a b : List Rf.Part} (h : Rf.StG N F cf.now) (hN : N <= 9000) (ha : a.length <= 400) (hb : b.length <= 400) (ha4 : Rf.ArgsOk a) (hb4 : Rf.ArgsOk b) : EqGood (Rf.equalE cf a b) := by
 refine ⟨⟨ha, hb, ⟨by simp [Rf.equalE], by intro t ht; cases ht⟩, ⟨?_, ?_⟩, ⟨?_, ?_⟩⟩, ha4, hb4⟩
 ·have := h.gl; simp only [Rf.equalE, List.length_tail]; omega
 ·intro t ht; exact (h.g t (List.mem_of_mem_tail ht)).1
 ·have := h.tl; simp only [Rf.equalE]; omega
 ·intro t ht; exact (h.t t ht).1
set_option maxHeartbeats 1000000 in
set_option maxRecDepth 100000 in
theorem pequal_any (w : World) (q : Nat) (rb : Option Nat) (names : List ByteArray) (cf : Rf.Cf) (a1 : Option Addr) (n1 c1 : Nat) (A : List Rf.Part) (a2 : Option Addr) (n2 c2 : Nat) (B : List Rf.Part) (N : Nat) (F : Int) (h : QAt nm w q rb names cf) (hA : Seen w 101 partCells (.slice a1 n1 c1) A) (hB : Seen w 101 partCells (.slice a2 n2 c2) B) (hG : Rf.StG N F cf.now) (hN : N <= 9000) (hne : cf.now.goals ≠ []) (hAl : A.length <= 400) (hBl : B.length <= 400) (hA4 : Rf.ArgsOk A) (hB4 : Rf.ArgsOk B) :
  Calls Tryz.prog 111 #[.pointer (some ⟨q, 0, none⟩), .slice a1 n1 c1, .slice a2 n2 c2] w fun r w' => r = .returned (.int .i64 (Rf.equalP cf A B).1) /\ QAt nm w' q rb names (Rf.equalP cf A B).2 /\ Kept (May q rb) w w' := by
 obtain ⟨vg, vt, fr, vC, hQ⟩ := h.ex
 obtain ⟨k0, k1, k2, k3, k4, kf, kl⟩ := hQ.b.facts
 obtain ⟨ag, cg, rfl⟩ := hQ.s.g.slice
 obtain ⟨g, off, rfl, hgl, _, hp1, hp2⟩ := hQ.s.g.pos hne
 obtain ⟨ta, tc, rfl⟩ := hQ.s.t.slice
 have HQ : Hid _ := hQ
 have HA : Hid _ := hA
 have HB : Hid _ := hB
 have HG : Hid _ := equalE_good hG hN hAl hBl hA4 hB4
 have Hne : Hid _ := hne
 clear h hQ hA hB hG hne hA4 hB4
 go_enter Tryz.func111, Tryz.ntmps111
 go_wp2_with fail
 have Ht1 : Hid (cg = 1 -> SeenTs w (.slice (some ⟨g, off, none⟩) (cf.now.goals.length - 1) 0) cf.now.goals.tail) := fun hc => HQ.out.s.g.tail1 hc
 have Ht2 : Hid (SeenTs w (.slice (some ⟨g, off + 1, none⟩) (cf.now.goals.length - 1) (cg - 1)) cf.now.goals.tail) := HQ.out.s.g.tail2 Hne.out
 go_cut [7] from 9 to 38 (fun pv wx => ∃ (e : Nat) (vr : Value), pv = .pointer (some ⟨e, 0, none⟩) /\ w.heap.size <= e /\ EqB wx e (.slice a1 n1 c1) (.slice a2 n2 c2) (.slice none 0 0) vr (.slice ta cf.now.terms.length tc) /\ SeenTs wx vr cf.now.goals.tail /\ Below w.heap.size w wx)
 case first =>
  by_cases hcc : cg = 1
  ·go_region
   go_wp2_with fail
   go_meet
   exact ⟨_, _, rfl, by omega, blk_at _ _ _ (by simp), (Ht1.out hcc).below (by repeat(first|exact bl0 _ _|refine bl1 ?_ (by simp<;>omega) _|refine bl2 ?_|refine bl3 ?_ _|refine bl4 ?_ (by simp<;>omega) _)), (by repeat(first|exact bl0 _ _|refine bl1 ?_ (by simp<;>omega) _|refine bl2 ?_|refine bl3 ?_ _|refine bl4 ?_ (by simp<;>omega) _))⟩
  ·go_region
   go_wp2_with fail
   go_meet
   exact ⟨_, _, rfl, by omega, blk_at _ _ _ (by simp), Ht2.out.below (by repeat(first|exact bl0 _ _|refine bl1 ?_ (by simp<;>omega) _|refine bl2 ?_|refine bl3 ?_ _|refine bl4 ?_ (by simp<;>omega) _)), (by repeat(first|exact bl0 _ _|refine bl1 ?_ (by simp<;>omega) _|refine bl2 ?_|refine bl3 ?_ _|refine bl4 ?_ (by simp<;>omega) _))⟩
 case rest =>
  obtain ⟨e, vr, rfl, he, hEB, hvr, hbc⟩ := hcut
  have hE : EqIs wc (.slice a1 n1 c1) (.slice a2 n2 c2) (.slice none 0 0) vr (.slice ta cf.now.terms.length tc) (Rf.equalE cf A B) := ⟨HA.out.below hbc, HB.out.below hbc, SeenTs.nil _, hvr, HQ.out.s.t.below hbc⟩
  have HE : Hid (EqAt wc e (Rf.equalE cf A B)) := ⟨_, _, _, _, _, hEB, hE⟩
  have hQc := HQ.out.below hbc
  have HQc : Hid _ := hQc
  have hqe : ¬ q = e := by omega
  have hUE : Hid (Rf.equalP cf A B = ((Rf.solveE (Rf.equalE cf A B)).1, if (Rf.solveE (Rf.equalE cf A B)).1 = 0 then ⟨⟨(Rf.solveE (Rf.equalE cf A B)).2.behind, (Rf.solveE (Rf.equalE cf A B)).2.terms, cf.now.fresh⟩, cf.chs⟩ else cf)) := rfl
  obtain ⟨o, ho⟩ : ∃ o, Hid ((Rf.solveE (Rf.equalE cf A B)).1 = o) := ⟨_, rfl⟩
  rw [ho.out] at hUE
  clear hE hEB hvr hQc Ht1 Ht2 k0 k1 k2 k3 k4 kf
  by_cases h0 : o = 0
  ·subst h0
   have hU0 : Hid (Rf.equalP cf A B = (0, ⟨⟨(Rf.solveE (Rf.equalE cf A B)).2.behind, (Rf.solveE (Rf.equalE cf A B)).2.terms, cf.now.fresh⟩, cf.chs⟩)) := hUE.out
   clear hUE
   go_wp2_with (go_at_call 121; refine (psolve_any _ e _ HE.out HG.out).mono ?_; rintro r w2 ⟨rfl, hk2, hA2⟩; obtain ⟨vf, vs, vb, vh, vt, hB2, hE2⟩ := (hA2 ho.out).ex; obtain ⟨a6, c6, rfl⟩ := hE2.h.slice; obtain ⟨a7, c7, rfl⟩ := hE2.t.slice; obtain ⟨l0, l1, l2, l3, l4, lf, ll⟩ := hB2.facts; have hbe : Below w.heap.size w w2 := hbc.trans (hk2.below hbc.size (fun k hk e => by omega)); have hQ2 := HQ.out.below hbe; obtain ⟨m0, m1, m2, m3, m4, mf, ml⟩ := hQ2.b.facts; rw [ho.out])
   go_ret
   rw [hU0.out]
   have hs2 : StIs w2 (.slice a6 _ c6) (.slice a7 _ c7) fr ⟨(Rf.solveE (Rf.equalE cf A B)).2.behind, (Rf.solveE (Rf.equalE cf A B)).2.terms, cf.now.fresh⟩ := ⟨hE2.h, hE2.t, HQ.out.s.f⟩
   refine ⟨rfl, (QIs.now hQ2 (((Kept.refl (fun k => k = q) w2).setCell (p := ⟨q, 1, none⟩) (.inr rfl) _).setCell (p := ⟨q, 2, none⟩) (.inr rfl) _) (blk_set (blk_set hQ2.b 1 _) 2 _) hs2).at, ?_⟩
   exact ((Kept.of_below hbe (May q rb)).trans (((Kept.refl (May q rb) w2).setCell (p := ⟨q, 1, none⟩) (.inr (.inl rfl)) _).setCell (p := ⟨q, 2, none⟩) (.inr (.inl rfl)) _) (fun _ _ h => h))
  ·have h0' : (o == 0) = false := beq_eq_false_iff_ne.2 h0
   go_wp2_with (go_at_call 121; refine (psolve_any _ e _ HE.out HG.out).mono ?_; rintro r w2 ⟨rfl, hk2, hA2⟩; rw [ho.out])
   go_ret
   rw [hUE.out, if_neg h0]
   have hbe : Below w.heap.size w w2 := hbc.trans (hk2.below hbc.size (fun k hk e => by omega))
   exact ⟨rfl, (HQ.out.below hbe).at, Kept.of_below hbe _⟩
set_option maxHeartbeats 1000000 in
set_option maxRecDepth 100000 in
theorem pless_any (w : World) (q : Nat) (rb : Option Nat) (names : List ByteArray) (cf : Rf.Cf) (a1 : Option Addr) (n1 c1 : Nat) (A : List Rf.Part) (h : QAt nm w q rb names cf) (hA : Seen w 101 partCells (.slice a1 n1 c1) A) (hne : cf.now.goals ≠ []) (hAl : A.length <= 400) (hA4 : Rf.ArgsOk A) :
  Calls Tryz.prog 113 #[.pointer (some ⟨q, 0, none⟩), .slice a1 n1 c1] w fun r w' => r = .returned (.int .i64 (Rf.lessP cf A).1) /\ QAt nm w' q rb names (Rf.lessP cf A).2 /\ Kept (May q rb) w w' := by
 have HQ : Hid _ := h
 have HA : Hid _ := hA
 have HA4 : Hid (Rf.ArgsOk A) := hA4
 have Hne : Hid _ := hne
 obtain ⟨o, ho⟩ : ∃ o, Hid (Rf.numbersK A = o) := ⟨_, rfl⟩
 have HL : Hid (Rf.lessP cf A = if o = 0 then (if Rf.num0 A < Rf.num1 A then Rf.meetP cf else (-1, cf)) else (o, cf)) := by unfold Hid Rf.lessP; rw [ho.out]
 clear h hA hne hA4
 by_cases h0 : o = 0
 ·subst h0
  by_cases hlt : Rf.num0 A < Rf.num1 A
  ·have HL0 : Hid (Rf.lessP cf A = Rf.meetP cf) := by unfold Hid; rw [HL.out, if_pos rfl, if_pos hlt]
   have hge : ¬ Rf.num1 A <= Rf.num0 A := by omega
   clear HL
   go_enter Tryz.func113, Tryz.ntmps113
   go_wp2_with (first
    | (go_at_call 129; refine (pnumbers_any a1 n1 c1 A _ HA.out HA4.out hAl).mono ?_; rintro r w1 ⟨x, y, rfl, hxy, hb1⟩; obtain ⟨rfl, rfl⟩ := hxy ho.out; rw [ho.out])
    | (go_at_call 110; refine (pmeet_any _ q rb names cf (HQ.out.below hb1) Hne.out).mono ?_; rintro r w2 ⟨rfl, hQ2, hk2⟩))
   go_ret
   rw [HL0.out]
   exact ⟨rfl, hQ2, (Kept.of_below hb1 _).trans hk2 (fun _ _ h => h)⟩
  ·have HL0 : Hid (Rf.lessP cf A = (-1, cf)) := by unfold Hid; rw [HL.out, if_pos rfl, if_neg hlt]
   have hge : Rf.num1 A <= Rf.num0 A := by omega
   clear HL
   go_enter Tryz.func113, Tryz.ntmps113
   go_wp2_with (go_at_call 129; refine (pnumbers_any a1 n1 c1 A _ HA.out HA4.out hAl).mono ?_; rintro r w1 ⟨x, y, rfl, hxy, hb1⟩; obtain ⟨rfl, rfl⟩ := hxy ho.out; rw [ho.out])
   go_ret
   rw [HL0.out]
   exact ⟨rfl, HQ.out.below hb1, Kept.of_below hb1 _⟩
 ·have h0' : (o != 0) = true := bne_iff_ne.2 h0
  go_enter Tryz.func113, Tryz.ntmps113
  go_wp2_with (go_at_call 129; refine (pnumbers_any a1 n1 c1 A _ HA.out HA4.out hAl).mono ?_; rintro r w1 ⟨x, y, rfl, hxy, hb1⟩; rw [ho.out])
  go_ret
  rw [HL.out, if_neg h0]
  exact ⟨rfl, HQ.out.below hb1, Kept.of_below hb1 _⟩
end Go.Proofs.YtbiojnljihgpoaaGreatDoor
namespace Rf
theorem num_bd {f : Int} {A : List Part} (h : ∀ p ∈ A, PartG f p) (i : Nat) (hk : numberK (topP (argT A i)) = 0) : -999999999 <= (topP (argT A i)).value /\ (topP (argT A i)).value <= 999999999 := by
 have h2 : (topP (argT A i)).kind = 2 := by
  unfold numberK at hk
  split at hk
  ·cases hk
  ·split at hk
   ·assumption
   ·cases hk
 cases ha : argT A i with
 | nil => rw [ha] at h2; exact absurd h2 (by decide)
 | cons p t =>
  rw [ha] at h2
  have hm := (argT_sub A i).2 p (by rw [ha]; simp)
  exact (h p hm).2.2.1 h2
theorem nums_bd {f : Int} {A : List Part} (h : ∀ p ∈ A, PartG f p) (hk : numbersK A = 0) : (-999999999 <= num0 A /\ num0 A <= 999999999) /\ (-999999999 <= num1 A /\ num1 A <= 999999999) := by
 have h0 : numberK (topP (argT A 0)) = 0 := by
  unfold numbersK at hk
  split at hk
  ·assumption
  ·exact hk
 have h1 : numberK (topP (argT A 1)) = 0 := by
  unfold numbersK at hk
  rw [if_pos h0] at hk; exact hk
 exact ⟨num_bd h 0 h0, num_bd h 1 h1⟩
end Rf
namespace Go.Proofs.YtbiojnljihgpoaaGreatDoor
open Go.RowKit
variable {nm : Value}
theorem argsOk_arg {A : List Rf.Part} (h : Rf.ArgsOk A) (i : Nat) : Rf.ArgsOk (Rf.argT A i) := fun p hp => h p ((Rf.argT_sub A i).2 p hp)
theorem Seen.one {w : World} {N : Nat} {p : Rf.Part} (h : w.heap[N]? = some (.cells #[.int .i64 p.kind, .string p.name, .int .i64 p.value, .int .i64 p.args] 101 (0, 0))) : Seen w 101 partCells (.slice (some ⟨N, 0, none⟩) 1 1) [p] := (row_new (C := partCells) (x := p) (base := 0) (size := 4) h rfl rfl (Nat.zero_le _)).seen
set_option maxHeartbeats 1000000 in
set_option maxRecDepth 100000 in
theorem pplus_any (w : World) (q : Nat) (rb : Option Nat) (names : List ByteArray) (cf : Rf.Cf) (a1 : Option Addr) (n1 c1 : Nat) (A : List Rf.Part) (N : Nat) (F : Int) (h : QAt nm w q rb names cf) (hA : Seen w 101 partCells (.slice a1 n1 c1) A) (hG : Rf.StG N F cf.now) (hN : N <= 9000) (hne : cf.now.goals ≠ []) (hAl : A.length <= 400) (hAG : ∀ p ∈ A, Rf.PartG cf.now.fresh p) :
  Calls Tryz.prog 114 #[.pointer (some ⟨q, 0, none⟩), .slice a1 n1 c1] w fun r w' => r = .returned (.int .i64 (Rf.plusP cf A).1) /\ QAt nm w' q rb names (Rf.plusP cf A).2 /\ Kept (May q rb) w w' := by
 have HQ : Hid _ := h
 have HA : Hid _ := hA
 have HA4 : Hid (Rf.ArgsOk A) := fun p hp => (hAG p hp).1
 have HG : Hid _ := hG
 have Hne : Hid _ := hne
 obtain ⟨o, ho⟩ : ∃ o, Hid (Rf.numbersK A = o) := ⟨_, rfl⟩
 have HL : Hid (Rf.plusP cf A = if o = 0 then (if Rf.num0 A + Rf.num1 A < -999999999 \/ 999999999 < Rf.num0 A + Rf.num1 A then (11, cf) else Rf.equalP cf (Rf.numT (Rf.num0 A + Rf.num1 A)) (Rf.argT A 2)) else (o, cf)) := by unfold Hid Rf.plusP; rw [ho.out]
 have HB : Hid (o = 0 -> (-999999999 <= Rf.num0 A /\ Rf.num0 A <= 999999999) /\ (-999999999 <= Rf.num1 A /\ Rf.num1 A <= 999999999)) := fun e => Rf.nums_bd hAG (ho.out.trans e)
 clear h hA hne hAG hG
 by_cases h0 : o = 0
 ·subst h0
  obtain ⟨⟨b1, b2⟩, ⟨b3, b4⟩⟩ := HB.out rfl
  obtain ⟨n0, hn0⟩ : ∃ n, Hid (Rf.num0 A = n) := ⟨_, rfl⟩
  obtain ⟨m0, hm0⟩ : ∃ n, Hid (Rf.num1 A = n) := ⟨_, rfl⟩
  have HL1 : Hid (Rf.plusP cf A = if n0 + m0 < -999999999 \/ 999999999 < n0 + m0 then (11, cf) else Rf.equalP cf (Rf.numT (n0 + m0)) (Rf.argT A 2)) := by unfold Hid; rw [HL.out, if_pos rfl, hn0.out, hm0.out]
  rw [hn0.out] at b1 b2
  rw [hm0.out] at b3 b4
  clear HL HB
  by_cases hr : n0 + m0 < -999999999 \/ 999999999 < n0 + m0
  ·have HL0 : Hid (Rf.plusP cf A = (11, cf)) := by unfold Hid; rw [HL1.out, if_pos hr]
   clear HL1
   rcases hr with hr | hr
   ·go_enter Tryz.func114, Tryz.ntmps114
    go_wp2_with (go_at_call 129; refine (pnumbers_any a1 n1 c1 A _ HA.out HA4.out hAl).mono ?_; rintro r w1 ⟨x, y, rfl, hxy, hb1⟩; obtain ⟨rfl, rfl⟩ := hxy ho.out; rw [ho.out, hn0.out, hm0.out])
    go_ret
    rw [HL0.out]
    exact ⟨rfl, HQ.out.below hb1, Kept.of_below hb1 _⟩
   ·have hr2 : ¬ n0 + m0 < -999999999 := by omega
    go_enter Tryz.func114, Tryz.ntmps114
    go_wp2_with (go_at_call 129; refine (pnumbers_any a1 n1 c1 A _ HA.out HA4.out hAl).mono ?_; rintro r w1 ⟨x, y, rfl, hxy, hb1⟩; obtain ⟨rfl, rfl⟩ := hxy ho.out; rw [ho.out, hn0.out, hm0.out])
    go_ret
    rw [HL0.out]
    exact ⟨rfl, HQ.out.below hb1, Kept.of_below hb1 _⟩
  ·have HL0 : Hid (Rf.plusP cf A = Rf.equalP cf (Rf.numT (n0 + m0)) (Rf.argT A 2)) := by unfold Hid; rw [HL1.out, if_neg hr]
   have hr1 : ¬ n0 + m0 < -999999999 := by omega
   have hr2 : ¬ 999999999 < n0 + m0 := by omega
   clear HL1 hr
   go_enter Tryz.func114, Tryz.ntmps114
   go_wp2_with (first
    | (go_at_call 129; refine (pnumbers_any a1 n1 c1 A _ HA.out HA4.out hAl).mono ?_; rintro r w1 ⟨x, y, rfl, hxy, hb1⟩; obtain ⟨rfl, rfl⟩ := hxy ho.out; rw [ho.out, hn0.out, hm0.out]; have hz1 := hb1.size)
    | (go_at_call 112; refine (parg2_any a1 n1 c1 A _ (HA.out.below (hb1.alloc hz1 _)) HA4.out hAl).mono ?_; rintro r w2 ⟨a3, n3, c3, rfl, hS2, hb2⟩; have hbw2 : Below w.heap.size w w2 := (hb1.alloc hz1 _).trans (hb2.mono (by rw [World.size_alloc]; omega)); have hn : Seen w2 101 partCells (.slice (some ⟨w1.heap.size, 0, none⟩) 1 1) (Rf.numT (n0 + m0)) := Seen.one (p := ⟨2, ⟨#[]⟩, n0 + m0, 0⟩) ((hb2.block w1.heap.size (by rw [World.size_alloc]; omega)).trans (blk_new w1 _)))
    | (go_at_call 111; refine (pequal_any _ q rb names cf _ _ _ (Rf.numT (n0 + m0)) a3 n3 c3 (Rf.argT A 2) N F (HQ.out.below hbw2) hn hS2 HG.out hN Hne.out (by simp [Rf.numT]) (Nat.le_trans (Rf.argT_sub A 2).1 hAl) (fun p hp => by simp [Rf.numT] at hp; subst hp; simp) (argsOk_arg HA4.out 2)).mono ?_; rintro r w3 ⟨rfl, hQ3, hk3⟩))
   go_ret
   rw [HL0.out]
   exact ⟨rfl, hQ3, (Kept.of_below hbw2 _).trans hk3 (fun _ _ h => h)⟩
 ·have h0' : (o != 0) = true := bne_iff_ne.2 h0
  go_enter Tryz.func114, Tryz.ntmps114
  go_wp2_with (go_at_call 129; refine (pnumbers_any a1 n1 c1 A _ HA.out HA4.out hAl).mono ?_; rintro r w1 ⟨x, y, rfl, hxy, hb1⟩; rw [ho.out])
  go_ret
  rw [HL.out, if_neg h0]
  exact ⟨rfl, HQ.out.below hb1, Kept.of_below hb1 _⟩
theorem QIs.push {W w3 : World} {q : Nat} {rb : Option Nat} {vN vg vt vC : Value} {fr : Int} {names : List ByteArray} {cf : Rf.Cf} (hQ : QIs W q rb vN vg vt fr vC names cf) {acc : List (ChV × Rf.Ch)} (hacc : ∀ y ∈ acc, ChIs W y.1 y.2) (hm : acc.map (·.2) = cf.chs.reverse) {x : ChV} {c : Rf.Ch} (hx : ChIs W x c) {g n cap : Nat} (hrow : RowIs w3 0 79 4 chCells (.slice (some ⟨g, 0, none⟩) n cap) (acc.map (·.1) ++ [x])) (hgr : W.grownBy w3 vC.ownBlock) :
  QIs (w3.setCell ⟨q, 4, none⟩ (.slice (some ⟨g, 0, none⟩) n cap)) q (some g) vN vg vt fr (.slice (some ⟨g, 0, none⟩) n cap) names ⟨cf.now, c :: cf.chs⟩ /\ Kept (May q rb) W (w3.setCell ⟨q, 4, none⟩ (.slice (some ⟨g, 0, none⟩) n cap)) /\ QB w3 q vN vg vt fr vC := by
 have hk3 : Kept (May q rb) W w3 := (Kept.refl _ W).grown hgr (fun k e => .inr (.inr (by rw [<- hQ.o, e])))
 have hk := hk3.setCell (p := ⟨q, 4, none⟩) (.inr (.inl rfl)) (.slice (some ⟨g, 0, none⟩) n cap)
 have hqb : QB w3 q vN vg vt fr vC := (hgr.block q (blk_lt hQ.b) (fun e => hQ.rq (by rw [<- hQ.o, e]))).trans hQ.b
 have hgq : ¬ g = q := by
  intro e
  obtain ⟨cs', hc'⟩ := hrow.typed g rfl
  rw [e] at hc'
  unfold QB at hqb
  rw [hqb] at hc'
  injection hc' with h3; injection h3 with _ h4
  exact absurd h4 (by decide)
 refine ⟨⟨blk_set hqb 4 _, Seen.kept hQ.n hk hQ.free.s, hQ.s.kept hk hQ.free, ?_, rfl⟩, hk, hqb⟩
 refine ⟨acc ++ [(x, c)], ?_, fun y hy => ?_, by rw [List.map_append, hm, List.reverse_cons]; rfl⟩
 ·rw [List.map_append]
  exact hrow.setCell _ _ (fun e => hgq (by injection e))
 ·rcases List.mem_append.1 hy with hy | hy
  ·exact (hacc y hy).kept hk hQ.free
  ·simp at hy; subst hy; exact hx.kept hk hQ.free
theorem Seen.three {w : World} {N : Nat} {x y z : SlV} (h : w.heap[N]? = some (.cells #[.slice x.a x.n x.c, .slice y.a y.n y.c, .slice z.a z.n z.c] 56 (0, 0))) : Seen w 56 slCells (.slice (some ⟨N, 0, none⟩) 3 3) [x, y, z] := by
 refine ⟨.inr ⟨N, 0, 3, _, rfl, h, by simp, by unfold maxLen; omega, fun j u hu => ?_⟩⟩
 rw [Nat.zero_add]
 match j, hu with
 | 0, hu => simpa [slCells, slv] using hu
 | 1, hu => simpa [slCells, slv] using hu
 | 2, hu => simpa [slCells, slv] using hu
 | (j + 3), hu => simp [slCells] at hu
theorem part_kind (k : Int) (s : ByteArray) (v a : Int) (w : World) : (Instr.field 101 (.agg #[.int .i64 k, .string s, .int .i64 v, .int .i64 a]) 0).run Tryz.prog w = .ok (.int .i64 k) w := by kernel_rfl
end Go.Proofs.YtbiojnljihgpoaaGreatDoor
