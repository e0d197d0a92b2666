
import Derived.Test.YtbiojnljihgpoaaGreatDoorZbd
namespace Go
open Go.RowKit
theorem flat_set {α : Type} {size : Nat} {C : α -> List Value} (hC : ∀ x, (C x).length = size) {x x' : α} {j : Nat} {u : Value} (hj : j < size) (hx : C x' = (C x).set j u) : ∀ (xs : List α) (i : Nat), xs[i]? = some x -> (xs.flatMap C).set (i * size + j) u = (xs.set i x').flatMap C
 | [], i, h => by simp at h
 | y :: ys, 0, h => by
  simp at h; subst h
  rw [List.flatMap_cons, List.set_cons_zero, List.flatMap_cons, hx, Nat.zero_mul, Nat.zero_add, List.set_append_left _ _ (by rw [hC]; exact hj)]
 | y :: ys, i + 1, h => by
  have ih := flat_set hC hj hx ys i (by simpa using h)
  rw [List.flatMap_cons, List.set_cons_succ, List.flatMap_cons, List.set_append_right _ _ (by rw [hC, Nat.add_mul]; omega), hC]
  rw [show (i + 1) * size + j - size = i * size + j by rw [Nat.add_mul]; omega, ih]
theorem row_setAt {α : Type} {w : World} {base : Nat} {e : TypeId} {size : Nat} {C : α -> List Value} (hC : ∀ x, (C x).length = size) {g n cap : Nat} {xs : List α} {x x' : α} {j i : Nat} {u : Value} (h : RowIs w base e size C (.slice (some ⟨g, 0, none⟩) n cap) xs) (hi : xs[i]? = some x) (hj : j < size) (hx : C x' = (C x).set j u) : RowIs (w.setCell ⟨g, i * size + j, none⟩ u) base e size C (.slice (some ⟨g, 0, none⟩) n cap) (xs.set i x') := by
 rcases h.own.2 with ⟨h1, _⟩ | ⟨g', cap', cur, h1, h2, h3, h4, h5, h6, h7⟩
 ·cases h1
 ·obtain ⟨rfl, hn, rfl⟩ : g = g' /\ n = xs.length /\ cap = cap' := by injection h1 with a1 a2 a3; injection a1 with a1; injection a1 with a1; exact ⟨a1, a2, a3⟩
  subst hn
  refine ⟨by rw [flatMap_len C hC], .inr ⟨g, cap, cur.setIfInBounds (i * size + j) u, by rw [List.length_set], h2, ?_, by rw [List.length_set]; exact h4, h5, by simpa using h6, ?_⟩⟩
  ·simp [World.setCell, Array.getElem?_modify, h3]
  ·rw [Array.toList_setIfInBounds, List.take_set, List.length_set, h7]
   exact flat_set hC hj hx xs i hi
end Go
namespace Rf
def midC (m : List Ch) (i : Nat) : List Ch := (m.take i).map renC ++ m.drop i
theorem midC_zero (m : List Ch) : midC m 0 = m := by unfold midC; simp
theorem midC_end (m : List Ch) : midC m m.length = m.map renC := by unfold midC; simp
theorem midC_at (m : List Ch) (i : Nat) (c : Ch) (h : m[i]? = some c) : (midC m i)[i]? = some c := by
 have hi := (List.getElem?_eq_some_iff.1 h).1
 unfold midC
 rw [List.getElem?_append_right (by simp; omega), List.length_map, List.length_take, show i - min i m.length = 0 by omega, List.getElem?_drop, Nat.add_zero]
 exact h
theorem midC_step (m : List Ch) (i : Nat) (c : Ch) (h : m[i]? = some c) : (midC m i).set i (renC c) = midC m (i + 1) := by
 have hi := (List.getElem?_eq_some_iff.1 h)
 obtain ⟨hl, he⟩ := hi
 unfold midC
 rw [List.set_append_right _ _ (by simp; omega), List.length_map, List.length_take, show i - min i m.length = 0 by omega, List.drop_eq_getElem_cons hl, List.set_cons_zero, List.take_succ_eq_append_getElem hl, List.map_append, List.append_assoc, he]
 rfl
end Rf
namespace Go.Proofs.YtbiojnljihgpoaaGreatDoor
open Go.RowKit
variable {nm : Value}
theorem Free.g {w : World} {g : Nat} {cs : Array Value} (h : w.heap[g]? = some (.cells cs 79 (0, 0))) : Free w (fun k => k = g) := by
 have key : ∀ t : TypeId, t ≠ 79 -> ∀ k cs', w.heap[k]? = some (.cells cs' t (0, 0)) -> ¬ k = g := by
  intro t ht k cs' hc e
  subst e
  rw [h] at hc
  injection hc with h3; injection h3 with _ h4
  exact ht h4.symm
 exact ⟨key _ (by decide), key _ (by decide), key _ (by decide), key _ (by decide), key _ (by decide)⟩
theorem susp_step {w : World} {q g n0 cc i : Nat} {acc : List (ChV × Rf.Ch)} {x : ChV} {c : Rf.Ch} {vN vg vt : Value} {fr : Int} {a3 a4 : Option Addr} {n3 c3 n4 c4 : Nat} {fr' : Int} (hrow : RowIs w 0 79 4 chCells (.slice (some ⟨g, 0, none⟩) n0 cc) (acc.map (·.1))) (hacc : ∀ y ∈ acc, ChIs w y.1 y.2) (hai : acc[i]? = some (x, c)) (hs : StIs w (.slice a3 n3 c3) (.slice a4 n4 c4) fr' (Rf.renS c.st)) (hqb : QB w q vN vg vt fr (.slice (some ⟨g, 0, none⟩) n0 cc)) (hgq : ¬ g = q) :
  ∃ acc' : List (ChV × Rf.Ch), RowIs (((w.setCell ⟨g, i * 4, none⟩ (.slice a3 n3 c3)).setCell ⟨g, i * 4 + 1, none⟩ (.slice a4 n4 c4)).setCell ⟨g, i * 4 + 2, none⟩ (.int .i64 fr')) 0 79 4 chCells (.slice (some ⟨g, 0, none⟩) n0 cc) (acc'.map (·.1)) /\ (∀ y ∈ acc', ChIs (((w.setCell ⟨g, i * 4, none⟩ (.slice a3 n3 c3)).setCell ⟨g, i * 4 + 1, none⟩ (.slice a4 n4 c4)).setCell ⟨g, i * 4 + 2, none⟩ (.int .i64 fr')) y.1 y.2) /\ acc'.map (·.2) = (acc.map (·.2)).set i (Rf.renC c) /\ QB (((w.setCell ⟨g, i * 4, none⟩ (.slice a3 n3 c3)).setCell ⟨g, i * 4 + 1, none⟩ (.slice a4 n4 c4)).setCell ⟨g, i * 4 + 2, none⟩ (.int .i64 fr')) q vN vg vt fr (.slice (some ⟨g, 0, none⟩) n0 cc) /\ Kept (fun k => k = g) w (((w.setCell ⟨g, i * 4, none⟩ (.slice a3 n3 c3)).setCell ⟨g, i * 4 + 1, none⟩ (.slice a4 n4 c4)).setCell ⟨g, i * 4 + 2, none⟩ (.int .i64 fr')) := by
 obtain ⟨cs', hc'⟩ := hrow.typed g rfl
 have hF := Free.g hc'
 have hk : Kept (fun k => k = g) w (((w.setCell ⟨g, i * 4, none⟩ (.slice a3 n3 c3)).setCell ⟨g, i * 4 + 1, none⟩ (.slice a4 n4 c4)).setCell ⟨g, i * 4 + 2, none⟩ (.int .i64 fr')) := (((Kept.refl (fun k => k = g) w).setCell (p := ⟨g, _, none⟩) (.inr rfl) _).setCell (p := ⟨g, _, none⟩) (.inr rfl) _).setCell (p := ⟨g, _, none⟩) (.inr rfl) _
 have hx0 : (acc.map (·.1))[i]? = some x := by rw [List.getElem?_map, hai]; rfl
 have hil : i < (acc.map (·.1)).length := (List.getElem?_eq_some_iff.1 hx0).1
 have r1 := row_setAt (x' := ⟨⟨a3, n3, c3⟩, x.t, x.f, x.c⟩) (u := .slice a3 n3 c3) chCells_len hrow hx0 (show 0 < 4 by omega) rfl
 rw [Nat.add_zero] at r1
 have r2 := row_setAt (x := ⟨⟨a3, n3, c3⟩, x.t, x.f, x.c⟩) (x' := ⟨⟨a3, n3, c3⟩, ⟨a4, n4, c4⟩, x.f, x.c⟩) (u := .slice a4 n4 c4) chCells_len r1 (List.getElem?_set_self hil) (show 1 < 4 by omega) rfl
 have r3 := row_setAt (x := ⟨⟨a3, n3, c3⟩, ⟨a4, n4, c4⟩, x.f, x.c⟩) (x' := ⟨⟨a3, n3, c3⟩, ⟨a4, n4, c4⟩, fr', x.c⟩) (u := .int .i64 fr') chCells_len r2 (List.getElem?_set_self (by rw [List.length_set]; exact hil)) (show 2 < 4 by omega) rfl
 rw [List.set_set, List.set_set] at r3
 refine ⟨acc.set i (⟨⟨a3, n3, c3⟩, ⟨a4, n4, c4⟩, fr', x.c⟩, Rf.renC c), by rw [List.map_set]; exact r3, fun y hy => ?_, by rw [List.map_set], (hk.block q (blk_lt hqb) (fun e => hgq e.symm)).trans hqb, hk⟩
 rcases List.mem_or_eq_of_mem_set hy with hy | rfl
 ·exact (hacc y hy).kept hk hF
 ·have hc0 := hacc _ (List.mem_of_getElem? hai)
  exact ⟨hs.kept hk hF, Seen.kept hc0.cl hk hF.i⟩
set_option maxHeartbeats 1000000 in
set_option maxRecDepth 100000 in
theorem psuspend_any (w : World) (q : Nat) (rb : Option Nat) (names : List ByteArray) (cf : Rf.Cf) (N : Nat) (F : Int) (h : QAt nm w q rb names cf) (hG : ∀ c ∈ cf.chs, Rf.StG N F c.st /\ c.st.goals ≠ []) (hN : N <= 9000) (hF : F <= 1000000) (hl20 : cf.chs.length <= 20) :
  Calls Tryz.prog 69 #[.pointer (some ⟨q, 0, none⟩)] w fun r w' => r = .returned (.tuple #[]) /\ QAt nm w' q rb names ⟨Rf.stNone, cf.chs.map Rf.renC⟩ /\ Kept (May q rb) w w' := by
 obtain ⟨vg, vt, fr, vC, hQ⟩ := h.ex
 obtain ⟨k0, k1, k2, k3, k4, kf, kl⟩ := hQ.b.facts
 obtain ⟨ca, cc, rfl⟩ := hQ.r.slice
 have HQ : Hid _ := hQ
 have HG : Hid (∀ c ∈ cf.chs.reverse, Rf.StG N F c.st /\ c.st.goals ≠ []) := fun c hc => hG c (List.mem_reverse.1 hc)
 have hml : cf.chs.reverse.length = cf.chs.length := List.length_reverse
 have Hml : Hid _ := hml
 have hrq := hQ.rq
 clear h hQ hG hml
 obtain ⟨n0, hn0⟩ : ∃ n, Hid (cf.chs.length = n) := ⟨_, rfl⟩
 rw [hn0.out] at k4 hl20
 go_enter Tryz.func69, Tryz.ntmps69
 go_wp2_with fail
 obtain ⟨w0, hw0⟩ : ∃ w0 : World, Hid (w0 = ((w.setCell ⟨q, 1, none⟩ (.slice none 0 0)).setCell ⟨q, 2, none⟩ (.slice none 0 0)).setCell ⟨q, 3, none⟩ (.int .i64 0)) := ⟨_, rfl⟩
 obtain ⟨r1, r2⟩ := QIs.now3 (fr' := 0) (S := Rf.stNone) HQ.out ⟨SeenTs.nil w, SeenTs.nil w, rfl⟩
 rw [<- hw0.out] at r1 r2 ⊢
 have HR1 : Hid _ := r1
 have HR2 : Hid _ := r2
 clear r1 r2
 go_loopw [13] (fun iv wr => ∃ (i : Nat) (acc : List (ChV × Rf.Ch)), i <= n0 /\ iv = .int .i64 (i : Nat) /\ RowIs wr 0 79 4 chCells (.slice ca n0 cc) (acc.map (·.1)) /\ (∀ y ∈ acc, ChIs wr y.1 y.2) /\ Hid (acc.map (·.2) = Rf.midC cf.chs.reverse i) /\ QB wr q nm (.slice none 0 0) (.slice none 0 0) 0 (.slice ca n0 cc) /\ Kept (May q rb) w0 wr) (fun iv _ => n0 - (intOf iv).toNat)
 case atStart =>
  obtain ⟨acc, a1, a2, a3⟩ := HR1.out.r.ex
  have hb := HR1.out.b
  rw [hn0.out] at a1 hb
  exact ⟨0, acc, Nat.zero_le _, rfl, a1, a2, by unfold Hid; rw [a3, Rf.midC_zero], hb, Kept.refl _ _⟩
 case round =>
  obtain ⟨i, acc, hi, rfl, hrow, hacc, hinv, hqb, hk⟩ := hrel
  have hal : acc.length = n0 := by
   have h9 := congrArg List.length hinv.out
   unfold Rf.midC at h9
   simp only [List.length_map, List.length_append, List.length_take, List.length_drop, List.length_reverse, hn0.out] at h9
   omega
  obtain ⟨m0, m1, m2, m3, m4, mf, ml⟩ := QB.facts hqb
  by_cases hlt : i < n0
  ·obtain ⟨g, rfl⟩ : ∃ g, ca = some ⟨g, 0, none⟩ := by
    rcases hrow.shape with ⟨e1, e2⟩ | ⟨g, cap, e1, _⟩
    ·have : acc = [] := by simpa using e2
     rw [this] at hal; simp at hal; omega
    ·injection e1 with e1; exact ⟨g, e1⟩
   have hlt2 : i < acc.length := by omega
   have hc : cf.chs.reverse[i]? = some acc[i].2 := by
    obtain ⟨c, hc⟩ : ∃ c, cf.chs.reverse[i]? = some c := ⟨cf.chs.reverse[i]'(by rw [Hml.out, hn0.out]; exact hlt), List.getElem?_eq_getElem _⟩
    have h9 := Rf.midC_at _ _ _ hc
    rw [<- hinv.out, List.getElem?_map, List.getElem?_eq_getElem hlt2] at h9
    rw [hc]; exact h9.symm
   have hst := Rf.midC_step _ _ _ hc
   have hgd := HG.out _ (List.mem_of_getElem? hc)
   have hx := hacc acc[i] (List.getElem_mem hlt2)
   have hcs : ∀ (j : Nat) (u : Value), (chCells acc[i].1)[j]? = some u -> wr.cell? ⟨g, 0 + (i * 4 + j), none⟩ = some u := fun j u hu => hrow.seen.cells chCells_len i acc[i].1 (by simp [hlt2]) j u hu
   have hai : acc[i]? = some acc[i] := List.getElem?_eq_getElem hlt2
   generalize acc[i] = y at *
   obtain ⟨⟨⟨xga, xgn, xgc⟩, ⟨xta, xtn, xtc⟩, xf, ⟨xca, xcn, xcc⟩⟩, c⟩ := y
   simp only at hst hgd hx hcs hc
   have x0 := hcs 0 _ rfl
   have x1 := hcs 1 _ rfl
   have x2 := hcs 2 _ rfl
   have x3 := hcs 3 _ rfl
   have hfz := fun j => row_frozen hrow j
   have hgl := (hrow.lt g rfl).2
   have hqg : ¬ g = q := by
    intro e
    obtain ⟨cs', hc'⟩ := hrow.typed g rfl
    rw [e] at hc'
    unfold QB at hqb
    rw [hqb] at hc'
    injection hc' with h3; injection h3 with _ h4
    exact absurd h4 (by decide)
   have hlt' : (i : Int) < n0 := by omega
   simp only [Nat.zero_add, Nat.add_zero] at x0 x1 x2 x3
   have Hst : Hid _ := hst
   have Hgd : Hid _ := hgd
   have HXs : Hid _ := hx
   have HRow : Hid _ := hrow
   have HAcc : Hid _ := hacc
   have Hqb : Hid (QB wr q nm (.slice none 0 0) (.slice none 0 0) 0 (.slice (some ⟨g, 0, none⟩) n0 cc)) := hqb
   have Hai : Hid _ := hai
   clear hst hgd hx hcs hrow hacc hqb hai hc
   go_wp2_with fail
   go_region_with (go_at_call 96; refine (prenumbered_any _ (.slice xga xgn xgc) (.slice xta xtn xtc) xf c.st N F (HXs.out.st.below (by repeat(first|exact bl0 _ _|refine bl1 ?_ (by simp<;>omega) _|refine bl2 ?_|refine bl3 ?_ _|refine bl4 ?_ (by simp<;>omega) _))) Hgd.out.1 hN hF Hgd.out.2).mono ?_; rintro r w2 ⟨a3, n3, c3, a4, n4, c4, rfl, hS2, hb2⟩; have hbw2 : Below wr.heap.size wr w2 := Below.trans ((Below.refl _ wr).alloc (Nat.le_refl _) _).drew (hb2.mono (by simp)); have hqb2 : QB w2 q nm (.slice none 0 0) (.slice none 0 0) 0 (.slice (some ⟨g, 0, none⟩) n0 cc) := (hbw2.block q ml).trans Hqb.out; obtain ⟨l0, l1, l2, l3, l4, lf, ll⟩ := QB.facts hqb2; have hrow2 := HRow.out.below hbw2; have z0 := (hbw2.cell (p := ⟨g, i * 4, none⟩) hgl).trans x0; have z1 := (hbw2.cell (p := ⟨g, i * 4 + 1, none⟩) hgl).trans x1; have z2 := (hbw2.cell (p := ⟨g, i * 4 + 2, none⟩) hgl).trans x2; have zf := fun j => row_frozen hrow2 j; have hgl2 : g < w2.heap.size := by { have := hbw2.size; omega }; have HS2 : Hid _ := hS2; have HB2 : Hid _ := hbw2; have HRow2 : Hid _ := hrow2; have HQB2 : Hid _ := hqb2; clear hS2 hbw2 hrow2 hqb2)
   all_goals
    go_wp2_with fail
    obtain ⟨acc', b1, b2, b3, b4, b5⟩ := susp_step HRow2.out (fun y hy => (HAcc.out y hy).below HB2.out) Hai.out HS2.out HQB2.out hqg
    have hrb : rb = some g := HQ.out.o.symm
    go_roundw
    case rel => exact ⟨i + 1, acc', by omega, by go_num, b1, b2, by unfold Hid; rw [b3, hinv.out, Hst.out], b4, (hk.trans (Kept.of_below HB2.out (May q rb)) (fun _ _ h => h)).trans b5 (fun k _ e => .inr (by rw [hrb, e]))⟩
    case measure => simp [intOf]; omega
  ·obtain rfl : i = n0 := by omega
   have hfin : Hid (acc.map (·.2) = (cf.chs.map Rf.renC).reverse) := by
    unfold Hid
    have h9 := hinv.out
    rw [show i = cf.chs.reverse.length by rw [Hml.out, hn0.out], Rf.midC_end] at h9
    rw [h9, List.map_reverse]
   go_wp2_with fail
   go_end0
   refine ⟨rfl, ?_, HR2.out.trans hk (fun _ _ h => h)⟩
   have h1 := HR1.out
   rw [hn0.out] at h1
   exact (QIs.turn (cf' := ⟨Rf.stNone, cf.chs.map Rf.renC⟩) h1 hk hqb ⟨SeenTs.nil _, SeenTs.nil _, rfl⟩ ⟨acc, hrow, hacc, hfin.out⟩ h1.o).at
end Go.Proofs.YtbiojnljihgpoaaGreatDoor
namespace Rf
def repOf (names : List ByteArray) (R : Int × Cf) : Rep := if R.1 = 1 then ⟨1, textQ names R.2.now.terms, 0, 0⟩ else repK R.1
def cfOf (R : Int × Cf) : Cf := if R.1 = 1 then ⟨stNone, R.2.chs.map renC⟩ else R.2
structure AnsOk (names : List ByteArray) (cf : Cf) : Prop where
 now : StG 9000 1000000 cf.now
 tl : cf.now.terms.length = names.length
 nz : ∀ x ∈ names, x.size <= 12
 ch : ∀ c ∈ cf.chs, StG 9000 1000000 c.st /\ c.st.goals ≠ []
 cl : cf.chs.length <= 20
end Rf
namespace Go.Proofs.YtbiojnljihgpoaaGreatDoor
open Go.RowKit
variable {nm : Value}
def repV (r : Rf.Rep) : Value := .agg #[.int .i64 r.kind, .string r.text, .int .i64 r.code, .int .i64 r.place]
theorem ret_rep {k1 c1 p1 : Int} {t1 : ByteArray} {r : Rf.Rep} (h : r = ⟨k1, t1, c1, p1⟩) : Ending.returned (.agg #[.int .i64 k1, .string t1, .int .i64 c1, .int .i64 p1]) = .returned (repV r) := by subst h; rfl
theorem QAt.keptL {w w' : World} {q : Nat} {rb : Option Nat} {names : List ByteArray} {cf : Rf.Cf} {L : Nat} {cs : Array Value} {t : TypeId} (h : QAt nm w q rb names cf) (hL : w.heap[L]? = some (.cells cs t (0, 0))) (ht : t ≠ 101 /\ t ≠ 56 /\ t ≠ 3 /\ t ≠ 9 /\ t ≠ 59 /\ t ≠ 76 /\ t ≠ 79) (hk : Kept (fun k => k = L) w w') : QAt nm w' q rb names cf := by
 obtain ⟨_, _, _, _, hq⟩ := h.ex
 have key : ∀ t' : TypeId, t ≠ t' -> ∀ k cs', w.heap[k]? = some (.cells cs' t' (0, 0)) -> ¬ k = L := by
  intro t' ht k cs' hc e
  subst e
  rw [hL] at hc
  injection hc with h3; injection h3 with _ h4
  exact ht h4
 refine (hq.keptM hk ⟨key _ ht.1, key _ ht.2.1, key _ ht.2.2.1, key _ ht.2.2.2.1, key _ ht.2.2.2.2.1⟩ (key _ ht.2.2.2.2.2.1 q _ hq.b) (fun k e => ?_)).at
 obtain ⟨acc, hr, _⟩ := hq.r.ex
 obtain ⟨cs', hc'⟩ := hr.typed k (hq.o.trans e)
 exact key _ ht.2.2.2.2.2.2 k cs' hc'
theorem kept4 (w : World) (L : Nat) (u0 u1 u2 u3 : Value) : Kept (fun k => k = L) w ((((w.setCell ⟨L, 0, none⟩ u0).setCell ⟨L, 1, none⟩ u1).setCell ⟨L, 2, none⟩ u2).setCell ⟨L, 3, none⟩ u3) := ((((Kept.refl (fun k => k = L) w).setCell (p := ⟨L, 0, none⟩) (.inr rfl) _).setCell (p := ⟨L, 1, none⟩) (.inr rfl) _).setCell (p := ⟨L, 2, none⟩) (.inr rfl) _).setCell (p := ⟨L, 3, none⟩) (.inr rfl) _
set_option maxHeartbeats 1000000 in
set_option maxRecDepth 100000 in
theorem preply_any (w : World) (q : Nat) (rb : Option Nat) (names : List ByteArray) (R : Int × Rf.Cf) (h : QAt nm w q rb names R.2) (hA : R.1 = 1 -> Rf.AnsOk names R.2) (hT : Tab w) :
  Calls Tryz.prog 52 #[.pointer (some ⟨q, 0, none⟩), .int .i64 R.1] w fun r w' => r = .returned (repV (Rf.repOf names R)) /\ QAt nm w' q rb names (Rf.cfOf R) /\ Kept (May q rb) w w' := by
 obtain ⟨k, cf⟩ := R
 simp only at h hA
 have HQ : Hid _ := h
 have HT : Hid (Tab w) := hT
 by_cases h1 : k = 1
 ·subst h1
  have HA : Hid _ := hA rfl
  have HX1 : Hid (Rf.repOf names (1, cf) = ⟨1, Rf.textQ names cf.now.terms, 0, 0⟩) := rfl
  have HX2 : Hid (Rf.cfOf (1, cf) = ⟨Rf.stNone, cf.chs.map Rf.renC⟩) := rfl
  clear h hA hT
  go_enter Tryz.func52, Tryz.ntmps52
  go_wp2_with (first
   | (go_at_call 68; refine (ptext_any _ q rb names cf 9000 1000000 (HQ.out.below (by repeat(first|exact bl0 _ _|refine bl1 ?_ (by simp<;>omega) _|refine bl2 ?_|refine bl3 ?_ _|refine bl4 ?_ (by simp<;>omega) _))) HA.out.now (by omega) HA.out.tl HA.out.nz (Tab.below HT.out (by repeat(first|exact bl0 _ _|refine bl1 ?_ (by simp<;>omega) _|refine bl2 ?_|refine bl3 ?_ _|refine bl4 ?_ (by simp<;>omega) _)))).mono ?_; rintro r w1 ⟨rfl, hb1⟩; have hbw1 : Below w.heap.size w w1 := Below.trans ((Below.refl _ w).alloc (Nat.le_refl _) _) (hb1.mono (by rw [World.size_alloc]; omega)); have P1 := (hb1.block w.heap.size (by rw [World.size_alloc]; omega)).trans (blk_new w _); have hz1 := hbw1.size)
   | (go_at_call 69; refine (psuspend_any _ q rb names cf 9000 1000000 (HQ.out.below hbw1) HA.out.ch (by omega) (by omega) HA.out.cl).mono ?_; rintro r w2 ⟨rfl, hQ2, hk2⟩; have hnL : ¬ May q rb w.heap.size := (by obtain ⟨_, _, _, _, hqi⟩ := HQ.out.ex; rintro (e | e); (have := blk_lt hqi.b; omega); (obtain ⟨acc, hr, _⟩ := hqi.r.ex; have := (hr.lt _ (hqi.o.trans e.symm)).2; omega)); have P2 := (hk2.block w.heap.size (blk_lt P1) hnL).trans P1; have s0 := blk_cell P2 0; have s1 := blk_cell P2 1; have s2 := blk_cell P2 2; have s3 := blk_cell P2 3; have sf := blk_frozen P2; have sl := blk_lt P2; simp at s0 s1 s2 s3; have HP2 : Hid _ := P2; have HQ2 : Hid _ := hQ2; clear P1 P2 hQ2))
  refine bodyPost_ret (v := .agg #[.int .i64 1, .string (Rf.textQ names cf.now.terms), .int .i64 0, .int .i64 0]) (by simp [results, Tryz.results52, go_sem, *]) rfl ?_
  rw [HX2.out]
  refine ⟨ret_rep HX1.out, HQ2.out.keptL HP2.out (by decide) (kept4 _ _ _ _ _ _), ?_⟩
  exact ((Kept.of_below hbw1 (May q rb)).trans hk2 (fun _ _ h => h)).trans (kept4 _ _ _ _ _ _) (fun i hi e => absurd hi (by omega))
 ·have h1' : (k != 1) = true := bne_iff_ne.2 h1
  have HX1 : Hid (Rf.repOf names (k, cf) = ⟨k, ⟨#[]⟩, 0, 0⟩) := by unfold Hid Rf.repOf; rw [if_neg h1]; rfl
  have HX2 : Hid (Rf.cfOf (k, cf) = cf) := by unfold Hid Rf.cfOf; rw [if_neg h1]
  clear h hA hT
  go_enter Tryz.func52, Tryz.ntmps52
  go_wp2_with fail
  refine bodyPost_ret (v := .agg #[.int .i64 k, .string ⟨#[]⟩, .int .i64 0, .int .i64 0]) (by simp [results, Tryz.results52, go_sem, *]) rfl ?_
  rw [HX2.out]
  exact ⟨ret_rep HX1.out, HQ.out.below (by repeat(first|exact bl0 _ _|refine bl1 ?_ (by simp<;>omega) _|refine bl2 ?_|refine bl3 ?_ _|refine bl4 ?_ (by simp<;>omega) _)), Kept.of_below (by repeat(first|exact bl0 _ _|refine bl1 ?_ (by simp<;>omega) _|refine bl2 ?_|refine bl3 ?_ _|refine bl4 ?_ (by simp<;>omega) _)) _⟩
theorem not_may {w : World} {q : Nat} {rb : Option Nat} {names : List ByteArray} {cf : Rf.Cf} (h : QAt nm w q rb names cf) : ¬ May q rb w.heap.size := by
 obtain ⟨_, _, _, _, hqi⟩ := h.ex
 rintro (e | e)
 ·have := blk_lt hqi.b; omega
 ·obtain ⟨acc, hr, _⟩ := hqi.r.ex
  have := (hr.lt _ (hqi.o.trans e.symm)).2
  omega
theorem not_may' {w w0 : World} {q : Nat} {rb rb' : Option Nat} {names : List ByteArray} {cf : Rf.Cf} (h : QAt nm w q rb names cf) (hn : Nb w0 rb rb') (hs : w.heap.size < w0.heap.size) : ¬ May q rb' w.heap.size := by
 have h1 := not_may h
 rintro (e | e)
 ·exact h1 (.inl e)
 ·rcases hn with e2 | ⟨k, e2, hk⟩
  ·exact h1 (.inr (e.trans e2))
  ·rw [e2] at e; injection e with e; omega
theorem ansOk {cls : List Rf.Cl} {names : List ByteArray} (hg : Rf.ClsG cls) (hk : Rf.ClsK cls) (hz : ∀ x ∈ names, x.size <= 12) {lim : Nat} (hl : lim <= 1000) {r : Int × Rf.Cf} (h : Rf.Kep cls names.length 0 r) (h1 : (Rf.playN cls lim r).1 = 1) : Rf.AnsOk names (Rf.playN cls lim r).2 := by
 obtain ⟨t', o, a1, a2, a3⟩ := Rf.playN_ind (P := Rf.Kep cls names.length) (fun _ _ h => Rf.kep_again hg hk h) (fun _ _ h hne => Rf.kep_take hg hk h hne) lim 0 r h
 have han := Rf.play_answer hk lim 0 r h.inv (by omega) h.out h1
 have ho : o = 0 := by
  rcases a3 with ⟨e1, e2⟩ | ⟨e1, _⟩
  ·have := a2.out
   unfold Rf.OutK at this
   simp only at this
   omega
  ·exact e1
 refine ⟨a2.cf.now.mono (by omega) (by omega), a2.tm.1 ho, hz, fun c hc => ?_, a2.cf.len⟩
 obtain ⟨n1, n2, n3, g, gs, hgs, _⟩ := han.2 c hc
 exact ⟨(a2.cf.chs c hc).1.mono (by omega) (by omega), by rw [hgs]; simp⟩
def TabB (B : Nat) (w : World) : Prop := Lib.TabBelow Tryz.prog B w "internal/strconv.uint64pow10" .u64 Lib.pow10Tab
theorem TabB.tab {B : Nat} {w : World} (h : TabB B w) : Tab w := Lib.TabBelow.here h
theorem TabB.on {B : Nat} {w w' : World} (h : TabB B w) (hb : Below B w w') : TabB B w' := Lib.TabBelow.on h hb
theorem TabB.kept {B q : Nat} {rb : Option Nat} {w w' : World} (h : TabB B w) (hk : Kept (May q rb) w w') (hB : B <= w.heap.size) (hq : B <= q) (hr : ∀ k, rb = some k -> B <= k) : TabB B w' := h.on (hk.below hB (fun k hkB hm => by
 rcases hm with rfl | hm
 ·omega
 ·have := hr k hm.symm; omega))
set_option maxHeartbeats 1000000 in
set_option maxRecDepth 100000 in
theorem pnext_any (w : World) (B q : Nat) (rb : Option Nat) (names : List ByteArray) (cf : Rf.Cf) (vc : Value) (cls : List Rf.Cl) (lim : Nat) (h : QAt nm w q rb names cf) (hC : SeenCls w vc cls) (hK : Rf.Kep cls names.length 0 (-1, cf)) (hcg : Rf.ClsG cls) (hck : Rf.ClsK cls) (hl30 : cls.length <= 30) (hlim : lim <= 1000) (hz : ∀ x ∈ names, x.size <= 12) (hB : B <= w.heap.size) (hqB : B <= q) (hrB : ∀ k, rb = some k -> B <= k) (hT : TabB B w) :
  Calls Tryz.prog 33 #[.pointer (some ⟨q, 0, none⟩), vc, .int .i64 (lim : Nat)] w fun r w' => r = .returned (repV (Rf.repOf names (Rf.playN cls lim (-1, cf)))) /\ (∃ rb', QAt nm w' q rb' names (Rf.cfOf (Rf.playN cls lim (-1, cf))) /\ Nb w rb rb') /\ Kept (May q rb) w w' := by
 have HQ : Hid _ := h
 have HC : Hid _ := hC
 have HK : Hid _ := hK
 have HCG : Hid (Rf.ClsG cls) := hcg
 have HCK : Hid (Rf.ClsK cls) := hck
 have HZ : Hid _ := hz
 have HT : Hid (TabB B w) := hT
 have HrB : Hid _ := hrB
 have HA : Hid _ := fun h1 => ansOk (lim := lim) hcg hck hz hlim hK h1
 obtain ⟨cla, clc, rfl⟩ := hC.slice
 clear h hC hK hcg hck hz hT hrB
 obtain ⟨R, hR⟩ : ∃ R, Hid (Rf.playN cls lim (-1, cf) = R) := ⟨_, rfl⟩
 rw [hR.out] at HA ⊢
 obtain ⟨⟨rk, rt, rc, rpp⟩, hRp⟩ : ∃ rp, Hid (Rf.repOf names R = rp) := ⟨_, rfl⟩
 rw [hRp.out]
 go_enter Tryz.func33, Tryz.ntmps33
 go_wp2_with (first
  | (go_at_call 51; refine (pplay_any _ q rb names cf (.slice cla cls.length clc) cls lim names.length (-1) (HQ.out.below ((Below.refl _ w).alloc (Nat.le_refl _) _)) (HC.out.below ((Below.refl _ w).alloc (Nat.le_refl _) _)) HK.out HCG.out HCK.out hl30 hlim).mono ?_; rintro r w1 ⟨rfl, ⟨rb1, hQ1, hN1⟩, hk1⟩; rw [hR.out] at hQ1 ⊢; have HK1 : Hid (Kept (May q rb) w w1) := (Kept.of_below ((Below.refl _ w).alloc (Nat.le_refl _) _) (May q rb)).trans hk1 (fun _ _ h => h); have hN1' : Nb w rb rb1 := Nb.up hN1 (by rw [World.size_alloc]; omega); have hz1 := HK1.out.size; have HT1 : Hid (Tab w1) := (HT.out.kept HK1.out hB hqB HrB.out).tab ; have P1 := (hk1.block w.heap.size (by rw [World.size_alloc]; omega) (not_may HQ.out)).trans (blk_new w _))
  | (go_at_call 52; refine (preply_any _ q rb1 names R hQ1 HA.out HT1.out).mono ?_; rintro r w2 ⟨rfl, hQ2, hk2⟩; rw [hRp.out]; simp only [repV]; have P2 := (hk2.block w.heap.size (blk_lt P1) (not_may' HQ.out hN1 (by rw [World.size_alloc]; omega))).trans P1; have s0 := blk_cell P2 0; have s1 := blk_cell P2 1; have s2 := blk_cell P2 2; have s3 := blk_cell P2 3; have sf := blk_frozen P2; have sl := blk_lt P2; simp at s0 s1 s2 s3))
 refine bodyPost_ret (v := .agg #[.int .i64 rk, .string rt, .int .i64 rc, .int .i64 rpp]) (by simp [results, Tryz.results33, go_sem, *]) rfl ?_
 refine ⟨rfl, ⟨rb1, hQ2.keptL P2 (by decide) (kept4 _ _ _ _ _ _), hN1'⟩, ?_⟩
 exact (kept_nb HK1.out hN1' hk2).trans (kept4 _ _ _ _ _ _) (fun i hi e => absurd hi (by omega))
end Go.Proofs.YtbiojnljihgpoaaGreatDoor
namespace Rf
def firstR (cls : List Cl) (lim : Nat) (cf : Cf) : Int × Cf := if 200 < sizeS cf.now then (7, cf) else playN cls lim (0, cf)
theorem namedFrom_snoc : ∀ (ns : List ByteArray) (i : Nat) (n : ByteArray), namedFrom i (ns ++ [n]) = namedFrom i ns ++ (if isNamedB n = true then [(n, i + ns.length)] else [])
 | [], i, n => by simp [namedFrom]
 | m :: ns, i, n => by
  rw [List.cons_append, namedFrom, namedFrom_snoc ns (i + 1) n, namedFrom, List.length_cons, List.append_assoc, show i + 1 + ns.length = i + (ns.length + 1) by omega]
end Rf
namespace Go.Proofs.YtbiojnljihgpoaaGreatDoor
open Go.RowKit
variable {nm : Value}
set_option maxHeartbeats 1000000 in
set_option maxRecDepth 100000 in
theorem pfirst_any (w : World) (B q : Nat) (rb : Option Nat) (names : List ByteArray) (cf : Rf.Cf) (vc : Value) (cls : List Rf.Cl) (lim : Nat) (h : QAt nm w q rb names cf) (hC : SeenCls w vc cls) (hK : Rf.Kep cls names.length 0 (0, cf)) (hcg : Rf.ClsG cls) (hck : Rf.ClsK cls) (hl30 : cls.length <= 30) (hlim : lim <= 1000) (hz : ∀ x ∈ names, x.size <= 12) (hB : B <= w.heap.size) (hqB : B <= q) (hrB : ∀ k, rb = some k -> B <= k) (hT : TabB B w) :
  Calls Tryz.prog 32 #[.pointer (some ⟨q, 0, none⟩), vc, .int .i64 (lim : Nat)] w fun r w' => r = .returned (repV (Rf.repOf names (Rf.firstR cls lim cf))) /\ (∃ rb', QAt nm w' q rb' names (Rf.cfOf (Rf.firstR cls lim cf)) /\ Nb w rb rb') /\ Kept (May q rb) w w' := by
 have HQ : Hid _ := h
 have HC : Hid _ := hC
 have HK : Hid _ := hK
 have HCG : Hid (Rf.ClsG cls) := hcg
 have HCK : Hid (Rf.ClsK cls) := hck
 have HZ : Hid _ := hz
 have HT : Hid (TabB B w) := hT
 have HrB : Hid _ := hrB
 have HA : Hid _ := fun h1 => ansOk (lim := lim) hcg hck hz hlim hK h1
 obtain ⟨cla, clc, rfl⟩ := hC.slice
 obtain ⟨vg, vt, fr, vC, hqi⟩ := h.ex
 obtain ⟨k0, k1, k2, k3, k4, kf, kl⟩ := hqi.b.facts
 obtain ⟨ga, gc, rfl⟩ := hqi.s.g.slice
 obtain ⟨ta, tc, rfl⟩ := hqi.s.t.slice
 have Hqi : Hid _ := hqi
 have hSG := hK.cf.now
 have HSG : Hid _ := hSG
 clear h hC hK hcg hck hz hT hrB hqi hSG
 obtain ⟨z, hzz⟩ : ∃ z, Hid (Rf.sizeS cf.now = z) := ⟨_, rfl⟩
 by_cases h2 : 200 < z
 ·have HX : Hid (Rf.firstR cls lim cf = (7, cf)) := by unfold Hid Rf.firstR; rw [hzz.out, if_pos h2]
  have h2' : (200 : Int) < z := by omega
  rw [HX.out]
  go_enter Tryz.func32, Tryz.ntmps32
  go_wp2_with (go_at_call 50; refine (psizeS_any _ (.slice ga cf.now.goals.length gc) (.slice ta cf.now.terms.length tc) fr cf.now _ _ (Hqi.out.s.below (by repeat(first|exact bl0 _ _|refine bl1 ?_ (by simp<;>omega) _|refine bl2 ?_|refine bl3 ?_ _|refine bl4 ?_ (by simp<;>omega) _))) HSG.out (by omega)).mono ?_; rintro r w0 ⟨rfl, hb0⟩; rw [hzz.out]; have hbs : Below w.heap.size w w0 := Below.trans ((Below.refl _ w).alloc (Nat.le_refl _) _) (hb0.mono (by rw [World.size_alloc]; omega)); have P0 := (hb0.block w.heap.size (by rw [World.size_alloc]; omega)).trans (blk_new w _); have s0 := blk_cell P0 0; have s1 := blk_cell P0 1; have s2 := blk_cell P0 2; have s3 := blk_cell P0 3; have sf := blk_frozen P0; have sl := blk_lt P0; simp at s0 s1 s2 s3)
  refine bodyPost_ret (v := .agg #[.int .i64 7, .string ⟨#[]⟩, .int .i64 0, .int .i64 0]) (by simp [results, Tryz.results32, go_sem, *]) rfl ?_
  exact ⟨rfl, ⟨rb, (HQ.out.below hbs).keptL P0 (by decide) (kept4 _ _ _ _ _ _), .inl rfl⟩, (Kept.of_below hbs (May q rb)).trans (kept4 _ _ _ _ _ _) (fun i hi e => absurd hi (by omega))⟩
 ·have HX : Hid (Rf.firstR cls lim cf = Rf.playN cls lim (0, cf)) := by unfold Hid Rf.firstR; rw [hzz.out, if_neg h2]
  have h2' : ¬ (200 : Int) < z := by omega
  rw [HX.out]
  obtain ⟨R, hR⟩ : ∃ R, Hid (Rf.playN cls lim (0, cf) = R) := ⟨_, rfl⟩
  rw [hR.out] at HA ⊢
  obtain ⟨⟨rk, rt, rc, rpp⟩, hRp⟩ : ∃ rp, Hid (Rf.repOf names R = rp) := ⟨_, rfl⟩
  rw [hRp.out]
  go_enter Tryz.func32, Tryz.ntmps32
  go_wp2_with (first
   | (go_at_call 50; refine (psizeS_any _ (.slice ga cf.now.goals.length gc) (.slice ta cf.now.terms.length tc) fr cf.now _ _ (Hqi.out.s.below (by repeat(first|exact bl0 _ _|refine bl1 ?_ (by simp<;>omega) _|refine bl2 ?_|refine bl3 ?_ _|refine bl4 ?_ (by simp<;>omega) _))) HSG.out (by omega)).mono ?_; rintro r w0 ⟨rfl, hb0⟩; rw [hzz.out]; have hbs : Below w.heap.size w w0 := Below.trans ((Below.refl _ w).alloc (Nat.le_refl _) _) (hb0.mono (by rw [World.size_alloc]; omega)); have P0 := (hb0.block w.heap.size (by rw [World.size_alloc]; omega)).trans (blk_new w _))
   | (go_at_call 51; refine (pplay_any _ q rb names cf (.slice cla cls.length clc) cls lim names.length 0 (HQ.out.below hbs) (HC.out.below hbs) HK.out HCG.out HCK.out hl30 hlim).mono ?_; rintro r w1 ⟨rfl, ⟨rb1, hQ1, hN1⟩, hk1⟩; rw [hR.out] at hQ1 ⊢; have HK1 : Hid (Kept (May q rb) w w1) := (Kept.of_below hbs (May q rb)).trans hk1 (fun _ _ h => h); have hN1' : Nb w rb rb1 := Nb.up hN1 hbs.size; have hz1 := HK1.out.size; have HT1 : Hid (Tab w1) := (HT.out.kept HK1.out hB hqB HrB.out).tab ; have P1 := (hk1.block w.heap.size (by have := hbs.size; exact blk_lt P0) (not_may HQ.out)).trans P0)
   | (go_at_call 52; refine (preply_any _ q rb1 names R hQ1 HA.out HT1.out).mono ?_; rintro r w2 ⟨rfl, hQ2, hk2⟩; rw [hRp.out]; simp only [repV]; have P2 := (hk2.block w.heap.size (blk_lt P1) (not_may' HQ.out hN1 (blk_lt P0))).trans P1; have s0 := blk_cell P2 0; have s1 := blk_cell P2 1; have s2 := blk_cell P2 2; have s3 := blk_cell P2 3; have sf := blk_frozen P2; have sl := blk_lt P2; simp at s0 s1 s2 s3))
  refine bodyPost_ret (v := .agg #[.int .i64 rk, .string rt, .int .i64 rc, .int .i64 rpp]) (by simp [results, Tryz.results32, go_sem, *]) rfl ?_
  refine ⟨rfl, ⟨rb1, hQ2.keptL P2 (by decide) (kept4 _ _ _ _ _ _), hN1'⟩, ?_⟩
  exact (kept_nb HK1.out hN1' hk2).trans (kept4 _ _ _ _ _ _) (fun i hi e => absurd hi (by omega))
end Go.Proofs.YtbiojnljihgpoaaGreatDoor
namespace Go.Proofs.YtbiojnljihgpoaaGreatDoor
open Go.RowKit
def NmB (v : Value) (g : Nat) : Prop := ∃ off n c, v = .slice (some ⟨g, off, none⟩) n c
structure BeSt (w wr : World) (b : Nat) (vg : Value) (fr : Int) (vN vt : Value) (ns : List ByteArray) (acc : List (SlV × List Rf.Part)) : Prop where
 o : QB wr b vN vg vt fr (.slice none 0 0)
 n : RowIs wr (b + 1) 9 1 strCells vN ns
 t : TermsAt (b + 1) wr vt acc
 b : Below w.heap.size w wr
theorem BeSt.below {w wr w2 : World} {b : Nat} {vg vN vt : Value} {fr : Int} {ns : List ByteArray} {acc : List (SlV × List Rf.Part)} (h : BeSt w wr b vg fr vN vt ns acc) (hb : Below wr.heap.size wr w2) : BeSt w w2 b vg fr vN vt ns acc :=
 ⟨(hb.block b (blk_lt h.o)).trans h.o, h.n.below hb, h.t.below hb, h.b.trans (hb.mono h.b.size)⟩
theorem BeSt.apart {w wr : World} {b : Nat} {vg vN vt : Value} {fr : Int} {ns : List ByteArray} {acc : List (SlV × List Rf.Part)} (h : BeSt w wr b vg fr vN vt ns acc) : ∀ k, vN.ownBlock = some k -> vt.ownBlock = some k -> False := fun k e1 e2 => by
 obtain ⟨c1, h1⟩ := h.n.typed k e1
 obtain ⟨c2, h2⟩ := h.t.row.typed k e2
 rw [h1] at h2
 injection h2 with h2; injection h2 with _ h2
 exact absurd h2 (by decide)
theorem BeSt.name {w wr w3 : World} {b : Nat} {vg vN vN' vt : Value} {fr : Int} {ns : List ByteArray} {x : ByteArray} {acc : List (SlV × List Rf.Part)} (h : BeSt w wr b vg fr vN vt ns acc) (hO : w.heap.size <= b) (hg : wr.grownBy w3 vN.ownBlock) (hr : RowIs w3 (b + 1) 9 1 strCells vN' (ns ++ [x])) :
  QB w3 b vN vg vt fr (.slice none 0 0) /\ BeSt w (w3.setCell ⟨b, 0, none⟩ vN') b vg fr vN' vt (ns ++ [x]) acc := by
 have hbl : ∀ k, vN.ownBlock = some k -> b + 1 <= k := fun k e => (h.n.lt k e).1
 have ho : w3.heap[b]? = _ := (hg.block b (blk_lt h.o) (fun e => by have := hbl b e.symm; omega)).trans h.o
 have hk : Kept (fun k => vN.ownBlock = some k) wr w3 := (Kept.refl _ wr).grown hg (fun k e => .inr e)
 have nt : ∀ cs (t : TypeId), t ≠ 76 -> w3.heap[b]? ≠ some (.cells cs t (0, 0)) := fun cs t hne e => by
  rw [ho] at e; injection e with e; injection e with _ e; exact hne e.symm
 have hT : RowIs w3 (b + 1) 56 1 slCells vt (acc.map (·.1)) := h.t.row.keptBy hk (fun k e1 e2 => h.apart k e2 e1)
 refine ⟨ho, blk_set ho 0 _, hr.setCell ⟨b, 0, none⟩ _ (fun e => ?_), ⟨hT.setCell ⟨b, 0, none⟩ _ (fun e => ?_), fun q hq => ((h.t.each q hq).grownT h.n (by decide) hg).setCell _ _ (fun cs => nt cs _ (by decide))⟩, (h.b.grown hg h.b.size (fun k e => by have := hbl k e; omega)).setCell (p := ⟨b, 0, none⟩) hO _⟩
 ·have := (hr.lt _ e).1; simp at this; omega
 ·have := (hT.lt _ e).1; simp at this; omega
theorem BeSt.term {w wr w3 : World} {b : Nat} {vg vN vt vt' : Value} {fr : Int} {ns : List ByteArray} {acc : List (SlV × List Rf.Part)} {x : SlV} {ps : List Rf.Part} (h : BeSt w wr b vg fr vN vt ns acc) (hO : w.heap.size <= b) (hx : Seen wr 101 partCells (.slice x.a x.n x.c) ps) (hg : wr.grownBy w3 vt.ownBlock) (hr : RowIs w3 (b + 1) 56 1 slCells vt' (acc.map (·.1) ++ [x])) :
  QB w3 b vN vg vt fr (.slice none 0 0) /\ BeSt w (w3.setCell ⟨b, 2, none⟩ vt') b vg fr vN vt' ns (acc ++ [(x, ps)]) := by
 have hbl : ∀ k, vt.ownBlock = some k -> b + 1 <= k := fun k e => (h.t.row.lt k e).1
 have ho : w3.heap[b]? = _ := (hg.block b (blk_lt h.o) (fun e => by have := hbl b e.symm; omega)).trans h.o
 have hk : Kept (fun k => vt.ownBlock = some k) wr w3 := (Kept.refl _ wr).grown hg (fun k e => .inr e)
 have nt : ∀ cs (t : TypeId), t ≠ 76 -> w3.heap[b]? ≠ some (.cells cs t (0, 0)) := fun cs t hne e => by
  rw [ho] at e; injection e with e; injection e with _ e; exact hne e.symm
 have hT := TermsAt.app h.t hx hg hr
 have hN : RowIs w3 (b + 1) 9 1 strCells vN ns := h.n.keptBy hk (fun k e1 e2 => h.apart k e1 e2)
 refine ⟨ho, blk_set ho 2 _, hN.setCell ⟨b, 2, none⟩ _ (fun e => ?_), ⟨hT.row.setCell ⟨b, 2, none⟩ _ (fun e => ?_), fun q hq => (hT.each q hq).setCell _ _ (fun cs => nt cs _ (by decide))⟩, (h.b.grown hg h.b.size (fun k e => by have := hbl k e; omega)).setCell (p := ⟨b, 2, none⟩) hO _⟩
 ·have := (hN.lt _ e).1; simp at this; omega
 ·have := (hT.row.lt _ e).1; simp at this; omega
set_option maxHeartbeats 1000000 in
set_option maxRecDepth 100000 in
theorem pbegin_any (w : World) (vg : Value) (gs : List (List Rf.Part)) (vN : Value) (ns : List ByteArray) (hG : SeenTs w vg gs) (hN : Seen w 9 strCells vN ns) (hl : ns.length <= 16) :
  Calls Tryz.prog 31 #[vg, vN] w fun r w' => ∃ q nm, r = .returned (.pointer (some ⟨q, 0, none⟩)) /\ w.heap.size <= q /\ QAt nm w' q none (Rf.beginN ns) (Rf.beginC gs ns) /\ (∀ g, NmB nm g -> w.heap.size <= g) /\ Below w.heap.size w w' := by
 obtain ⟨ga, gc, rfl⟩ := hG.slice
 obtain ⟨na, nc, rfl⟩ := hN.slice
 have HG : Hid _ := hG
 have HN : Hid _ := hN
 clear hG hN
 obtain ⟨n0, hn0⟩ : ∃ n, Hid (ns.length = n) := ⟨_, rfl⟩
 rw [hn0.out] at hl ⊢
 go_enter Tryz.func31, Tryz.ntmps31
 go_wp2_with fail
 have hst : BeSt w (w.alloc (.cells #[.slice none 0 0, .slice ga gs.length gc, .slice none 0 0, .int .i64 n0, .slice none 0 0] 76)) w.heap.size (.slice ga gs.length gc) n0 (.slice none 0 0) (.slice none 0 0) [] [] := ⟨blk_new _ _, RowIs.nil _ _ _ _ _, ⟨RowIs.nil _ _ _ _ _, fun q hq => by cases hq⟩, (Below.refl _ w).alloc (Nat.le_refl _) _⟩
 have HST : Hid _ := hst
 clear hst
 go_loopw [16] (fun iv wr => ∃ (i : Nat) (vN vt : Value) (acc : List (SlV × List Rf.Part)), i <= n0 /\ iv = .int .i64 (i : Nat) /\ BeSt w wr w.heap.size (.slice ga gs.length gc) n0 vN vt (Rf.beginN (ns.take i)) acc /\ Hid (acc.map (·.2) = Rf.beginT (ns.take i))) (fun iv _ => n0 - (intOf iv).toNat)
 case atStart =>
  exact ⟨0, _, _, [], Nat.zero_le _, rfl, HST.out, rfl⟩
 case round =>
  obtain ⟨i, vN, vt, acc, hi, rfl, hS, hinv⟩ := hrel
  obtain ⟨m0, m1, m2, m3, m4, mf, ml⟩ := QB.facts hS.o
  obtain ⟨nl, hnl⟩ : ∃ nl, Hid (Rf.beginN (ns.take i) = nl) := ⟨_, rfl⟩
  rw [hnl.out] at hS
  have hll : nl.length <= 16 := by
   have h9 := Rf.namedFrom_len 0 (ns.take i)
   rw [<- hnl.out]; unfold Rf.beginN
   rw [List.length_map]; rw [List.length_take, hn0.out] at h9; omega
  have hal : acc.length <= 16 := by
   have h9 := Rf.namedFrom_len 0 (ns.take i)
   have h8 := congrArg List.length hinv.out
   unfold Rf.beginT at h8
   rw [List.length_map, List.length_map] at h8; rw [List.length_take, hn0.out] at h9; omega
  have HS : Hid _ := hS
  obtain ⟨an, cn, rfl⟩ := row_slice hS.n
  obtain ⟨at_, ct, rfl⟩ := row_slice hS.t.row
  clear hS
  by_cases hlt : i < n0
  ·have hlt' : (i : Int) < n0 := by omega
   have hil : i < ns.length := by rw [hn0.out]; exact hlt
   obtain ⟨g, off, rfl⟩ := HN.out.pos (by omega)
   have hcell : ∀ x, ns[i]? = some x -> wr.cell? ⟨g, off + i, none⟩ = some (.string x) := fun x hx => Seen.strAt' (HN.out.below HS.out.b) i x hx
   have hgl := (HN.out.below HS.out.b).lt
   obtain ⟨x, hx⟩ : ∃ x, ns[i]? = some x := ⟨_, List.getElem?_eq_getElem hil⟩
   have hc := hcell x hx
   have htk : ns.take (i + 1) = ns.take i ++ [x] := by rw [List.take_add_one, hx]; rfl
   have hsn := Rf.namedFrom_snoc (ns.take i) 0 x
   rw [<- htk, List.length_take, Nat.min_eq_left (by omega), Nat.zero_add] at hsn
   have HTK : Hid _ := htk
   have HSN : Hid _ := hsn
   have HX : Hid _ := hx
   clear hcell hil hx htk hsn
   cases hb : Rf.isNamedB x
   ·have HB : Hid _ := hb
    go_wp2_with (go_at_call 49; refine (pisNamed_any x _).mono ?_; rintro r w1 ⟨rfl, rfl⟩; rw [HB.out])
    go_roundw
    case rel =>
     refine ⟨i + 1, .slice an nl.length cn, .slice at_ (acc.map (·.1)).length ct, acc, by omega, by go_num, ?_, ?_⟩
     ·have h9 : Rf.beginN (ns.take (i + 1)) = nl := by unfold Rf.beginN; rw [HSN.out, HB.out, <- hnl.out]; simp [Rf.beginN]
      rw [h9]; exact HS.out
     ·unfold Hid Rf.beginT; rw [HSN.out, HB.out, hinv.out]; simp [Rf.beginT]
    case measure => simp [intOf]; omega
   ·have HB : Hid _ := hb
    rw [List.length_map] at HS m2
    go_wp2_with (first
     | (at_builtin; refine wpList_app Tryz.elemTerms slCells slCells_len slCells_one _ rfl (.tmp 38) (.tmp 42) rfl (w.heap.size + 1) (.slice at_ acc.length ct) (acc.map (·.1)) rfl (hA3.t.row) ⟨_, 0, none⟩ 1 ⟨some ⟨_, 0, none⟩, 1, 1⟩ rfl (cell_one_at _ _ (by simp) _ _) (by rw [List.length_map]; omega) (by simp; omega) ?_; intro gT capT w4 hrow4 hgr4 hnb4; have hA4 := BeSt.term (x := ⟨some ⟨_, 0, none⟩, 1, 1⟩) (ps := Rf.varP i) hA3 (Nat.le_refl _) hP hgr4 hrow4; obtain ⟨r0, r1, r2, r3, r4, rf, rb⟩ := QB.facts hA4.1)
     | (at_builtin; refine wpList_app Tryz.elemStr strCells strCells_len strCells_one _ rfl (.tmp 27) (.tmp 29) rfl (w.heap.size + 1) (.slice an nl.length cn) nl rfl (HS.out.n.alloc _) ⟨_, 0, none⟩ 1 x rfl (cell_one_at _ _ (by simp) _ _) (by omega) (by simp; omega) ?_; intro gN capN w3 hrow3 hgr3 hnb3; have hA2 := BeSt.name (HS.out.below ((Below.refl _ _).alloc (Nat.le_refl _) _)) (Nat.le_refl _) hgr3 hrow3; obtain ⟨q0, q1, q2, q3, q4, qf, qb⟩ := QB.facts hA2.1; have hA3 := (hA2.2.below ((Below.refl _ _).alloc (Nat.le_refl _) (.cells #[.int .i64 1, .string ⟨#[]⟩, .int .i64 i, .int .i64 0] 101))).below ((Below.refl _ _).alloc (Nat.le_refl _) (.cells #[.slice (some ⟨w3.heap.size, 0, none⟩) 1 1] 56)); have hP : Seen _ 101 partCells (.slice (some ⟨w3.heap.size, 0, none⟩) 1 1) (Rf.varP i) := Seen.one (p := ⟨1, ⟨#[]⟩, i, 0⟩) (blk_alloc (blk_at (w3.setCell ⟨w.heap.size, 0, none⟩ (.slice (some ⟨gN, 0, none⟩) (nl.length + 1) capN)) _ w3.heap.size (by simp)) (.cells #[.slice (some ⟨w3.heap.size, 0, none⟩) 1 1] 56)))
     | (go_at_call 49; refine (pisNamed_any x _).mono ?_; rintro r w1 ⟨rfl, rfl⟩; rw [HB.out]))
    go_roundw
    case rel =>
     refine ⟨i + 1, .slice (some ⟨gN, 0, none⟩) (nl.length + 1) capN, .slice (some ⟨gT, 0, none⟩) (acc.length + 1) capT, acc ++ [(⟨some ⟨w3.heap.size, 0, none⟩, 1, 1⟩, Rf.varP i)], by omega, by go_num, ?_, ?_⟩
     ·have h9 : Rf.beginN (ns.take (i + 1)) = nl ++ [x] := by unfold Rf.beginN; rw [HSN.out, HB.out, <- hnl.out]; simp [Rf.beginN]
      have h8 := hA4.2
      rw [List.length_map] at h8
      rw [h9]; exact h8
     ·unfold Hid Rf.beginT; rw [HSN.out, HB.out, List.map_append, hinv.out]; simp [Rf.beginT]
    case measure => simp [intOf]; omega
  ·have hlt' : ¬ (i : Int) < n0 := by omega
   have hend : i = n0 := by omega
   go_wp2_with fail
   go_ret
   have h7 : ns.take i = ns := by rw [hend, <- hn0.out, List.take_length]
   have h8 := hinv.out
   have h9 := hnl.out
   rw [h7] at h8 h9
   have h6 := HS.out
   refine ⟨w.heap.size, rfl, Nat.le_refl _, _, ⟨_, _, _, _, h6.o, ?_, ⟨?_, ?_, ?_⟩, ⟨[], RowIs.nil _ _ _ _ _, (fun y hy => absurd hy (by simp)), rfl⟩, rfl⟩, ?_, h6.b⟩
   ·rw [h9]; exact h6.n.seen
   ·exact HG.out.below h6.b
   ·exact ⟨acc, h6.t.row.seen, h6.t.each, h8.symm⟩
   ·show (n0 : Int) = ((ns.length : Nat) : Int); rw [hn0.out]
   ·rintro g ⟨off, m, c9, e9⟩
    have h5 := (h6.n.lt g (by rw [e9]; rfl)).1
    omega
end Go.Proofs.YtbiojnljihgpoaaGreatDoor
