
import Derived.Test.YtbiojnljihgpoaaGreatDoorZbf
import Derived.Test.YtbiojnljihgpoaaGreatDoorZah
import Derived.Test.YtbiojnljihgpoaaGreatDoorZbj
import Derived.Test.YtbiojnljihgpoaaGreatDoorRows
import Derived.ProofKit
import Derived.OpenShut
import Derived.Deep.Slices
import Derived.Deep.DeepHandedRow
import Derived.Deep.DeepWitnessRowRef
import Derived.Lib.LaidTab
import Derived.Lib.AppendIntMem
import Derived.SizedLaws
import Derived.ReadAgain
import Derived.LaidMore
import Derived.LaidHandle
import Derived.Stop.LaidErr
namespace Go.Proofs.YtbiojnljihgpoaaGreatDoor
open Go.RowKit
set_option maxHeartbeats 400000 in
theorem kpick_any (c n : Int) (w : World) (h1 : -9223372036854775808 <= c) (h2 : c <= 9223372036854775807) (hn : 1 <= n) (hn2 : n <= 9223372036854775807) :
  Calls Tryz.prog 13 #[.int .i64 c, .int .i64 n] w fun r w' => r = .returned (.int .i64 (Rf.pickK c n)) /\ w' = w := by
 have hn0 : (n == 0) = false := beq_eq_false_iff_ne.2 (by omega)
 have hnm : (n == -1) = false := beq_eq_false_iff_ne.2 (by omega)
 by_cases hc : c < 0
 ·have hP : Hid ((Rf.pickK c n : Int) = -((c + 1).tmod n)) := by
   unfold Hid Rf.pickK
   have h4 := Int.tmod_nonneg (a := -(c + 1)) n (by omega)
   rw [if_pos hc, Int.toNat_of_nonneg h4, Int.neg_tmod]
  go_enter Tryz.func13, Tryz.ntmps13
  go_wp2
  go_ret
  exact ⟨ret_int hP.out.symm, rfl⟩
 ·have hP : Hid ((Rf.pickK c n : Int) = c % n) := by
   unfold Hid Rf.pickK
   have h4 := Int.tmod_nonneg (a := c) n (by omega)
   rw [if_neg hc, Int.toNat_of_nonneg h4, Int.tmod_eq_emod_of_nonneg (by omega)]
  go_enter Tryz.func13, Tryz.ntmps13
  go_wp2
  go_ret
  exact ⟨ret_int hP.out.symm, rfl⟩
set_option maxHeartbeats 400000 in
theorem ktold_any (t : ByteArray) (w : World) :
  Calls Tryz.prog 18 #[.agg #[.int .i64 1, .string t, .int .i64 0, .int .i64 0], .string t] w fun r w' => r = .returned (.bool true) /\ Below w.heap.size w w' := by
 go_enter Tryz.func18, Tryz.ntmps18
 go_wp2
 go_ret
 exact ⟨rfl, (by repeat(first|exact bl0 _ _|refine bl1 ?_ (by simp<;>omega) _|refine bl2 ?_|refine bl3 ?_ _|refine bl4 ?_ (by simp<;>omega) _))⟩
set_option maxHeartbeats 400000 in
theorem konly_any (k : Int) (w : World) :
  Calls Tryz.prog 19 #[.agg #[.int .i64 k, .string ⟨#[]⟩, .int .i64 0, .int .i64 0], .int .i64 k] w fun r w' => r = .returned (.bool true) /\ Below w.heap.size w w' := by
 go_enter Tryz.func19, Tryz.ntmps19
 go_wp2
 go_ret
 exact ⟨rfl, (by repeat(first|exact bl0 _ _|refine bl1 ?_ (by simp<;>omega) _|refine bl2 ?_|refine bl3 ?_ _|refine bl4 ?_ (by simp<;>omega) _))⟩
end Go.Proofs.YtbiojnljihgpoaaGreatDoor
namespace Go.Proofs.YtbiojnljihgpoaaGreatDoor
open Go.RowKit
theorem cell_below {w w' : World} (hb : Below w.heap.size w w') {g i : Nat} (hg : g < w.heap.size) : w'.cell? ⟨g, i, none⟩ = w.cell? ⟨g, i, none⟩ := by
 simp only [World.cell?, hb.block g hg]
end Go.Proofs.YtbiojnljihgpoaaGreatDoor
namespace Go.Proofs.YtbiojnljihgpoaaGreatDoor
open Go.RowKit
set_option maxHeartbeats 1000000 in
theorem kbegun_any (B lim : Nat) (s : ByteArray) (new : List Rf.Cl) (w : World) (h1 : 1 <= lim) (h2 : lim <= 1000) (hm : s.size <= maxLen) (hr : Rf.readS s = .ok new) (h30 : new.length <= 30) (hB : B <= w.heap.size) :
  Calls Tryz.prog 14 #[.int .i64 lim, .string s] w fun r w' => ∃ x, r = .returned (.pointer (some ⟨x, 0, none⟩)) /\ SeIn B (fun k => w.heap.size <= k /\ k < w'.heap.size) w' x ⟨lim, new, none⟩ /\ Below w.heap.size w w' := by
 have HC : Hid _ := Rf.consult_new (lim := lim) hr h30
 clear hr
 go_enter Tryz.func14, Tryz.ntmps14
 go_wp2_with (first
  | (go_at_call 28; refine (pconsult_in B _ w1 _ _ s hm hS1 (Nat.le_trans hB hb1.size)).mono ?_; rintro r w2 ⟨hr2, hD2⟩; rw [HC.out] at hr2 hD2; subst hr2)
  | (go_at_call 20; refine (pnew_in B w lim h1 h2 hB).mono ?_; rintro r w1 ⟨rfl, hS1, hb1⟩))
 go_ret
 have hz := hb1.size
 have hz2 := hD2.size
 refine ⟨w.heap.size, rfl, hD2.1.mono (fun k e => ?_) (fun k e => by omega) (fun k e => e.2), hb1.trans (hD2.2.below hz (fun k hk e => by omega))⟩
 rcases e with e | e
 ·omega
 ·omega
end Go.Proofs.YtbiojnljihgpoaaGreatDoor
namespace Go.Proofs.YtbiojnljihgpoaaGreatDoor
open Go.RowKit
def MovesAt (w : World) (v : Value) (l : List Rf.MoveV) : Prop :=
 (l = [] /\ ∃ a c, v = .slice a 0 c) \/
 ∃ sb so c, v = .slice (some ⟨sb, so, none⟩) l.length c /\ sb < w.heap.size /\ ∀ i x, l[i]? = some x -> w.cell? ⟨sb, so + i * 2, none⟩ = some (.int .i64 x.kd) /\ w.cell? ⟨sb, so + i * 2 + 1, none⟩ = some (.string x.s)
theorem MovesAt.on {B : Nat} {w w' : World} {v : Value} {l : List Rf.MoveV} (h : MovesAt w v l) (hb : Below B w w') (hB : w.heap.size <= B) : MovesAt w' v l := by
 rcases h with h | ⟨sb, so, c, h1, h2, h3⟩
 ·exact .inl h
 ·have hb' : Below w.heap.size w w' := hb.mono hB
  exact .inr ⟨sb, so, c, h1, Nat.lt_of_lt_of_le h2 hb'.size, fun i x hx => ⟨(cell_below hb' h2).trans (h3 i x hx).1, (cell_below hb' h2).trans (h3 i x hx).2⟩⟩
theorem MovesAt.len {w : World} {a : Option Addr} {n c : Nat} {l : List Rf.MoveV} (h : MovesAt w (.slice a n c) l) : n = l.length := by
 rcases h with ⟨rfl, _, _, h1⟩ | ⟨sb, so, c, h1, _⟩
 ·injection h1
 ·injection h1
theorem MovesAt.slice {w : World} {v : Value} {l : List Rf.MoveV} (h : MovesAt w v l) : ∃ a c, v = .slice a l.length c := by
 rcases h with ⟨rfl, a, c, h1⟩ | ⟨sb, so, c, h1, _⟩
 ·exact ⟨a, c, h1⟩
 ·exact ⟨_, _, h1⟩
theorem MovesAt.pos {w : World} {a : Option Addr} {n c : Nat} {l : List Rf.MoveV} (h : MovesAt w (.slice a n c) l) (hp : 1 <= l.length) : ∃ g off, a = some ⟨g, off, none⟩ := by
 rcases h with ⟨rfl, _⟩ | ⟨sb, so, c, h1, _⟩
 ·simp at hp
 ·injection h1 with h1; exact ⟨sb, so, h1⟩
theorem MovesAt.at {w : World} {g off n c : Nat} {l : List Rf.MoveV} (h : MovesAt w (.slice (some ⟨g, off, none⟩) n c) l) (hp : 1 <= l.length) : g < w.heap.size /\ ∀ i x, l[i]? = some x -> w.cell? ⟨g, off + i * 2, none⟩ = some (.int .i64 x.kd) /\ w.cell? ⟨g, off + i * 2 + 1, none⟩ = some (.string x.s) := by
 rcases h with ⟨rfl, _⟩ | ⟨sb, so, c, h1, h2, h3⟩
 ·simp at hp
 ·injection h1 with h1 _ _; injection h1 with h1; injection h1 with h1 h4; subst h1 h4; exact ⟨h2, h3⟩
end Go.Proofs.YtbiojnljihgpoaaGreatDoor
namespace Go.Proofs.YtbiojnljihgpoaaGreatDoor
open Go.ChangeShapes Go.WideShapes Go.ChangeAt Go.RowKit Go.Deep
theorem Tryz.kids : Kids Tryz.prog (· < Tryz.prog.types.size) := kids_rows (by kernel_rfl) (by kernel_rfl)
theorem Tryz.full : ∀ t e, t < Tryz.prog.types.size -> Tryz.prog.underlying t = some (.slice e) -> 0 < Tryz.prog.cellsOf e := slices_full_of Tryz.prog (by kernel_rfl)
theorem Tryz.cellsInt : Tryz.prog.cellsOf 3 = 1 := by kernel_rfl
theorem Tryz.cellsStr : Tryz.prog.cellsOf 9 = 1 := by kernel_rfl
theorem i64_wf {n : Int} (h : (Lit.int .i64 n).wf = true) : -9223372036854775808 <= n /\ n <= 9223372036854775807 := bounds_i64 h
theorem cell_lt {w : World} {p : Addr} {u : Value} (h : w.cell? p = some u) : p.block < w.heap.size := by
 unfold World.cell? at h
 cases hb : w.heap[p.block]? with
 | none => simp [hb] at h
 | some o => exact (Array.getElem?_eq_some_iff.1 hb).1
theorem Tryz.own : ownKnob Tryz.prog.godebug = none := by kernel_rfl
theorem Tryz.gTab : Tryz.prog.globalNamed "internal/strconv.uint64pow10" = some 0 := by kernel_rfl
theorem Tryz.gTabType : (Tryz.prog.globals[0]?).map (·.type) = some 162 := by kernel_rfl
theorem Tryz.cellsTab : Tryz.prog.cellsOf 162 = 20 := by kernel_rfl
theorem Tryz.cellsU64 : Tryz.prog.cellsOf 148 = 1 := by kernel_rfl
section
variable {H : Type} {enc : TypeId × Value -> H}
theorem again {W W' : World} {v : Value} {d : DataW H} {p : List MemPlace} {t : TypeId} (ht : t < Tryz.prog.types.size) (h0 : DataW.Trod enc Tryz.prog W 0 (fun _ => true) true t v d p) (hB : Below W.heap.size W W') (hlt : ∀ x ∈ p, x.block < W.heap.size) : DataW.Trod enc Tryz.prog W' 0 (fun b => decide (b < W.heap.size)) true t v d p := by
 have h9 : DataW.Trod enc Tryz.prog W' 0 (fun _ => true) true t v d p := by
  obtain ⟨n, hn⟩ := h0
  exact ⟨n, DataW.trod_carry n _ _ _ hn (fun x hx => hB.same (hlt x hx))⟩
 exact DataW.Trod.respare (spare' := fun b => decide (b < W.heap.size)) Tryz.kids Tryz.full ht h9 (fun x hx => by simpa using hlt x hx)
end
end Go.Proofs.YtbiojnljihgpoaaGreatDoor
namespace Go.Proofs.YtbiojnljihgpoaaGreatDoor
open Go.ChangeShapes Go.WideShapes Go.ChangeAt Go.RowKit Go.Deep
section
variable {H : Type} {enc : TypeId × Value -> H} {P : Program} {W : World} {sp : Nat -> Bool} {held : Bool} {base b0 : Nat} {t : TypeId}
theorem open_str {v : Value} {d : DataW H} {p : List MemPlace} (ht : P.underlying t = some .string) (hval : Value.okWide P W .any b0 t v) (hd : DataW.Trod enc P W base sp held t v d p) :
  ∃ s : ByteArray, v = .string s /\ d = .lit (.string s.data.toList) /\ p = [] /\ s.size <= maxLen := by
 obtain ⟨s, rfl⟩ := okWide_string ht hval
 obtain ⟨fuel, hf⟩ := hd
 obtain ⟨s', h, hx, hs⟩ := DataW.trod_string ht hf
 simp [Value.cells] at h
 subst h
 simp only [Prod.mk.injEq] at hx
 exact ⟨s, rfl, hx.1, hx.2, hs⟩
end
end Go.Proofs.YtbiojnljihgpoaaGreatDoor
namespace Go.Proofs.YtbiojnljihgpoaaGreatDoor
open Go.ChangeShapes Go.WideShapes Go.ChangeAt Go.RowKit Go.Deep
theorem Tryz.cellsMove : Tryz.prog.cellsOf 65 = 2 := by kernel_rfl
theorem Tryz.bytesMove : Tryz.prog.bytesOf 65 = 24 := by kernel_rfl
theorem Tryz.fieldsMove : ∃ f0 f1 : Field, Tryz.prog.underlying 65 = some (.struct #[f0, f1]) /\ (f0.type = 3 /\ f0.offset = 0) /\ (f1.type = 9 /\ f1.offset = 1) :=
 ⟨_, _, Tryz.underlying65, ⟨rfl, rfl⟩, ⟨rfl, rfl⟩⟩
section
variable {H : Type} {enc : TypeId × Value -> H}
set_option maxRecDepth 100000 in
theorem open_move {W : World} {sp : Nat -> Bool} {hd : Bool} {n : Nat} {cs : List Value} {y : DataW H × List MemPlace} (h : DataW.trod enc Tryz.prog W 0 sp hd n 65 cs = some y) : ∃ x : Rf.MoveV, cs = [.int .i64 x.kd, .string x.s] /\ x.s.size <= maxLen := by
 obtain ⟨f0, f1, hu, ⟨t0, o0⟩, ⟨t1, o1⟩⟩ := Tryz.fieldsMove
 obtain ⟨xs, k, _, _, hlen, hxl, hf⟩ := DataW.trod_struct hu h
 rw [Tryz.cellsMove] at hlen
 match xs, hxl, cs, hlen with
 | [y0, y1], _, [v0, v1], _ =>
  have g0 := hf 0 f0 rfl
  have g1 := hf 1 f1 rfl
  rw [t0, o0, Tryz.cellsInt] at g0
  rw [t1, o1, Tryz.cellsStr] at g1
  simp only [List.drop_zero, List.drop_succ_cons, List.take_succ_cons, List.take_zero, List.getElem?_cons_zero, List.getElem?_cons_succ] at g0 g1
  obtain ⟨n0, e0, _, _⟩ := DataW.trod_int Tryz.underlying3 g0
  obtain ⟨s, e1, _, hs⟩ := DataW.trod_string Tryz.underlying9 g1
  simp only [List.cons.injEq, and_true] at e0 e1
  subst e0 e1
  exact ⟨⟨n0, s⟩, rfl, hs⟩
theorem open_moves {W : World} {v : Value} {d : DataW H} {p : List MemPlace} (hd : DataW.Trod enc Tryz.prog W 0 (fun _ => true) true 22 v d p) (hok : ∃ a len cap, v = .slice a len cap)
  (hsz : ∀ elems spare, d = .slice elems spare -> (elems.length + spare.length) * 24 <= reachBytes) :
  ∃ l, MovesAt W v l /\ (∀ x ∈ l, x.s.size <= maxLen) /\ l.length * 24 <= 140737488355328 := by
 obtain ⟨a0, len0, cap0, rfl⟩ := hok
 obtain ⟨n, hn⟩ := hd
 have hn' : DataW.trod enc Tryz.prog W 0 (fun _ => true) true n 22 [.slice a0 len0 cap0] = some (d, p) := hn
 rcases open_slice Tryz.underlying22 hn' with ⟨hc, hx⟩ | ⟨a, len, cap, m, k, D, Pl, hc, _, hl, hm, hmm, hx, hall⟩
 ·simp only [List.cons.injEq, and_true] at hc
  exact ⟨[], .inl ⟨rfl, none, 0, hc⟩, by simp, by decide⟩
 ·simp only [List.cons.injEq, and_true] at hc
  simp only [if_true] at hmm
  subst hmm
  simp only [Prod.mk.injEq] at hx
  have hsz' := hsz _ _ hx.1
  simp only [List.length_map, List.length_range, reachBytes] at hsz'
  rw [Tryz.cellsMove] at hall
  have each : ∀ i, i < m -> ∃ x : Rf.MoveV, x.s.size <= maxLen /\ W.cell? (a.add (i * 2)) = some (.int .i64 x.kd) /\ W.cell? (a.add (i * 2 + 1)) = some (.string x.s) := fun i hi => by
   obtain ⟨cs, h1, h2⟩ := hall i hi
   obtain ⟨x, rfl, hxok⟩ := open_move h2
   obtain ⟨_, hlen, hcell⟩ := World.cells?_some h1
   refine ⟨x, hxok, ?_, ?_⟩
   ·have := hcell 0 (by omega)
    rw [add_add, Nat.add_zero] at this
    exact this
   ·have := hcell 1 (by omega)
    rw [add_add] at this
    exact this
  have : Inhabited Rf.MoveV := ⟨⟨0, ⟨#[]⟩⟩⟩
  obtain ⟨X, hX⟩ := choose_lt each
  by_cases h0 : len = 0
  ·subst h0
   exact ⟨[], .inl ⟨rfl, some a, m, hc⟩, by simp, by decide⟩
  ·obtain ⟨sb, so, spot⟩ := a
   have h00 := (hX 0 (by omega)).2.1
   have hspot : spot = none := by simpa [Addr.add] using World.cell?_spot h00
   subst hspot
   refine ⟨(List.range len).map X, .inr ⟨sb, so, m, ?_, ?_, fun i x hi => ?_⟩, fun x hx => ?_, ?_⟩
   ·rw [hc, List.length_map, List.length_range]
   ·have h9 : W.cell? ⟨sb, so, none⟩ = some (.int .i64 (X 0).kd) := by simpa [Addr.add] using h00
    exact cell_lt h9
   ·rw [List.getElem?_map] at hi
    obtain ⟨i', hi', rfl⟩ := Option.map_eq_some_iff.1 hi
    have hil := (List.getElem?_eq_some_iff.1 hi').1
    rw [List.length_range] at hil
    rw [List.getElem?_range hil] at hi'
    obtain rfl := Option.some.inj hi'
    obtain ⟨_, t0, t1⟩ := hX i (by omega)
    rw [Addr.add_lit] at t0 t1
    exact ⟨t0, by rw [Nat.add_assoc]; exact t1⟩
   ·obtain ⟨i, hi, rfl⟩ := List.mem_map.1 hx
    exact (hX i (by have := List.mem_range.1 hi; omega)).1
   ·rw [List.length_map, List.length_range]
    omega
end
end Go.Proofs.YtbiojnljihgpoaaGreatDoor
