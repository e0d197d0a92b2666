/- The law over a whole script (promptlaw: upTo, Consults): each step of the kinds New, Consult, Listing answers as the document does. -/
import Derived.Test.YthdmbbfaphipkaaGreatDoorYay
import Derived.Deep.LoopGhost
import Derived.Test.YthdmbbfaphipkaaGreatDoorRows
import Derived.ProofKit
import Derived.OpenShut
import Derived.Deep.Slices
import Derived.Deep.DeepHandedRow
import Derived.Deep.DeepWitnessRowRef
import Derived.Lib.LaidTab
import Derived.Lib.AppendIntMem
import Derived.SizedLaws
import Derived.ReadAgain
import Derived.LaidMore
import Derived.LaidHandle
import Derived.Stop.LaidErr
import Derived.Test.YthdmbbfaphipkaaGreatDoorCards
import Derived.Test.YthdmbbfaphipkaaGreatDoorTie
namespace Go.Proofs.YthdmbbfaphipkaaGreatDoor
open Go.RowKit
def kindAt : Nat → Int
  | 0 => 1
  | 1 => 2
  | _ => 6
/-- Is the kind among the first k of those that are played? -/
def inP (kd : Int) : Nat → Bool
  | 0 => false
  | k + 1 => inP kd k || kd == kindAt k
theorem inP_3 {kd : Int} (h : inP kd 3 = true) : kd = 1 ∨ kd = 2 ∨ kd = 6 := by
  simp only [inP, kindAt, Bool.false_or, Bool.or_eq_true, beq_iff_eq] at h
  omega
theorem lstep_any (base b : Nat) (L : List Ss) (x : StepV) (w : World) (hk : inP x.kd 3 = true) (hx : StepOk x) (hW : WlAt base w b L) (hL : (L.length + 1) * 8 ≤ 140737488355328) (hT : Tab w) :
    Calls Tryz.prog 6 #[.pointer (some ⟨b, 0, none⟩), .agg #[.int .i64 x.kd, .int .i64 x.a, .int .i64 x.b, .int .i64 x.c, .int .i64 x.d, .string x.s]] w fun r w' => MadePost base b L w r w' := by
  obtain ⟨kd, x1, x2, x3, x4, s⟩ := x
  obtain ⟨⟨h1, h2⟩, h3⟩ := hx
  rcases inP_3 hk with e | e | e
  · simp only at e; subst e
    exact lstep_1 base b L x1 x2 x3 x4 s w hW hL
  · simp only at e; subst e
    exact lstep_26 2 (.inl rfl) base b L x1 x2 x3 x4 s w hW hL h1 h2 hT (fun w => nothing_2 x1 x2 x3 x4 s w) (fun G z cls w h hlt _ => plays_2 G z cls x1 x2 x3 x4 s w h hlt h3)
  · simp only at e; subst e
    exact lstep_26 6 (.inr rfl) base b L x1 x2 x3 x4 s w hW hL h1 h2 hT (fun w => nothing_6 x1 x2 x3 x4 s w) (fun G z cls w h _ hT => plays_6 G z cls x1 x2 x3 x4 s w h hT)
set_option maxHeartbeats 2000000 in
set_option maxRecDepth 100000 in
theorem upTo_any (w : World) (v : Value) (l : List StepV) (kb : Nat) (hS : ScrAt w v l) (hok : ∀ x ∈ l, StepOk x) (hn : (l.length + 2) * 8 ≤ 140737488355328) (hkl : kb < w.heap.size) (hK : ∀ k, k < 3 → w.cell? ⟨kb, k, none⟩ = some (.int .i64 (kindAt k))) (hT : Tab w) :
    Calls Tryz.prog 4 #[v, .slice (some ⟨kb, 0, none⟩) 3 3] w fun r w' => r = .returned (.bool true) ∧ Below w.heap.size w w' := by
  have hnl : (l.length : Int) ≤ 17592186044414 := by omega
  obtain ⟨va, vc, hv⟩ : ∃ a c, v = .slice a l.length c := by
    rcases hS with ⟨rfl, a, c, e⟩ | ⟨sb, so, c, e, _⟩
    · exact ⟨a, c, e⟩
    · exact ⟨_, c, e⟩
  subst hv
  have HS : Hid _ := hS
  have Hok : Hid _ := hok
  have HK : Hid _ := hK
  have HT : Hid _ := hT
  clear hS hok hK hT
  have hB0 : WlB (w.alloc (.cells #[.slice none 0 0, .slice none 0 0] 30)) w.heap.size (.slice none 0 0) := blk_new _ _
  have hW0 : WlAt w.heap.size (w.alloc (.cells #[.slice none 0 0, .slice none 0 0] 30)) w.heap.size [] :=
    ⟨⟨_, hB0, RowIs.nil _ _ _ _ _, fun k e => by simp [Value.ownBlock] at e⟩, Nat.le_refl _, fun s hs => by simp at hs, fun i j s t hi => by simp at hi⟩
  have HW0 : Hid _ := hW0
  clear hW0 hB0
  go_enter Tryz.func4, Tryz.ntmps4
  go_wp2_with (go_at_call 5; refine (made_any w.heap.size w.heap.size [] 1 _ HW0.out (by decide)).mono ?_; rintro r w1 ⟨rfl, hb1, L1, hW1, hL1⟩; have HW1 : Hid _ := hW1; clear hW1; have hb01 : Below w.heap.size w w1 := ((Below.refl _ w).alloc (Nat.le_refl _) _).trans hb1)
  go_loopg [7, 8, 9, 10] (l.length + 1) (fun m iv _ _ _ wr => ∃ i : Nat, i ≤ l.length ∧ m = l.length + 1 - i ∧ iv = .int .i64 i ∧ ∃ L, Hid (WlAt w.heap.size wr w.heap.size L) ∧ L.length ≤ i + 1 ∧ Below w.heap.size w wr)
  case atStart => exact ⟨0, by omega, rfl, rfl, L1, HW1, by simpa using hL1, hb01⟩
  case round =>
    obtain ⟨i, hi, rfl, rfl, L, HW, hLl, hbr⟩ := hrel
    clear HW1 hb01 hb1
    by_cases hlt : i < l.length
    · obtain ⟨sb, so, c, e, hsbl, hcells⟩ := HS.out.resolve_left (fun e => by rw [e.1] at hlt; simp at hlt)
      injection e with e1 _ e3
      subst e1; subst e3
      have hmem : l[i] ∈ l := List.getElem_mem hlt
      have hxok := Hok.out _ hmem
      have hcs := hcells i l[i] (by simp [hlt])
      clear hmem hcells
      generalize l[i] = x at *
      have Hxok : Hid _ := hxok
      clear hxok
      have hlt' : (i : Int) < l.length := by omega
      obtain ⟨wo, rfl⟩ : ∃ wo : World, wo = wr := ⟨_, rfl⟩
      go_wp2_with fail
      go_loopg [8, 9] 4 (fun m bv kv wi => ∃ k : Nat, k ≤ 3 ∧ m = 4 - k ∧ kv = .int .i64 k ∧ bv = .bool (inP x.kd k) ∧ Hid (WlAt w.heap.size wi w.heap.size L) ∧ Below w.heap.size w wi)
      case atStart => exact ⟨0, by omega, rfl, rfl, rfl, HW, hbr⟩
      case round =>
        obtain ⟨k, hk, rfl, rfl, rfl, HWi, hbi⟩ := hrel
        clear HW hbr
        have hcc : ∀ j u, (stepCells x)[j]? = some u → wr.cell? ⟨sb, so + i * 6 + j, none⟩ = some u := fun j u hj => (hbi.cell (p := ⟨sb, so + i * 6 + j, none⟩) hsbl).trans (hcs j u hj)
        have c0 : wr.cell? ⟨sb, so + i * 6, none⟩ = some (.int .i64 x.kd) := hcc 0 _ rfl
        by_cases hk3 : k < 3
        · have cK : wr.cell? ⟨kb, k, none⟩ = some (.int .i64 (kindAt k)) := (hbi.cell (p := ⟨kb, k, none⟩) hkl).trans (HK.out k hk3)
          have hk3' : (k : Int) < 3 := by omega
          have Hin : Hid (inP x.kd (k + 1) = (inP x.kd k || x.kd == kindAt k)) := rfl
          have Hkd : Hid (∀ n, WlAt w.heap.size (wr.drewN n) w.heap.size L ∧ Below w.heap.size w (wr.drewN n)) := fun n => ⟨wl_kept HWi.out ((Kept.refl (fun _ => False) wr).drewN n) (fun _ _ _ e => e), hbi.drewN n⟩
          clear hcc
          cases hin : inP x.kd k
          · rw [hin] at Hin
            go_wp2_with fail
            go_quiet (fail)
            go_wp2_with fail
            go_roundg (3 - k)
            case measure => omega
            case rel => exact ⟨k + 1, by omega, by omega, by go_num, by rw [Hin.out]; rfl, (Hkd.out _).1, (Hkd.out _).2⟩
          · rw [hin] at Hin
            go_wp2_with fail
            go_quiet (fail)
            go_wp2_with fail
            go_roundg (3 - k)
            case measure => omega
            case rel => exact ⟨k + 1, by omega, by omega, by go_num, by rw [Hin.out]; rfl, (Hkd.out _).1, (Hkd.out _).2⟩
        · obtain rfl : k = 3 := by omega
          have c1 : wr.cell? ⟨sb, so + i * 6 + 1, none⟩ = some (.int .i64 x.a) := hcc 1 _ rfl
          have c2 : wr.cell? ⟨sb, so + i * 6 + 2, none⟩ = some (.int .i64 x.b) := hcc 2 _ rfl
          have c3 : wr.cell? ⟨sb, so + i * 6 + 3, none⟩ = some (.int .i64 x.c) := hcc 3 _ rfl
          have c4 : wr.cell? ⟨sb, so + i * 6 + 4, none⟩ = some (.int .i64 x.d) := hcc 4 _ rfl
          have c5 : wr.cell? ⟨sb, so + i * 6 + 5, none⟩ = some (.string x.s) := hcc 5 _ rfl
          clear hcc
          cases hin : inP x.kd 3
          · go_wp2_with fail
            go_roundg (l.length - i)
            case measure => omega
            case rel => exact ⟨i + 1, by omega, by omega, by go_num, L, HWi, by omega, hbi⟩
          · have Hin : Hid _ := hin
            go_wp2_with (go_at_call 6; refine (lstep_any w.heap.size w.heap.size L x _ Hin.out Hxok.out HWi.out (by omega) (Tab.below HT.out hbi)).mono ?_; rintro r w2 ⟨rfl, hb2, L2, hW2, hL2⟩)
            go_roundg (l.length - i)
            case measure => omega
            case rel => exact ⟨i + 1, by omega, by omega, by go_num, L2, hW2, by omega, hbi.trans hb2⟩
    · obtain rfl : i = l.length := by omega
      go_wp2_with fail
      go_ret
      exact ⟨rfl, hbr⟩
set_option maxHeartbeats 1000000 in
theorem consults_any (w : World) (v : Value) (l : List StepV) (hS : ScrAt w v l) (hok : ∀ x ∈ l, StepOk x) (hn : (l.length + 2) * 8 ≤ 140737488355328) (hT : Tab w) :
    Calls Tryz.prog 3 #[v] w fun r w' => r = .returned (.bool true) ∧ Below w.heap.size w w' := by
  have hb0 : Below w.heap.size w (w.alloc (.cells #[.int .i64 1, .int .i64 2, .int .i64 6] 3)) := (Below.refl _ w).alloc (Nat.le_refl _) _
  have hS' : ScrAt (w.alloc (.cells #[.int .i64 1, .int .i64 2, .int .i64 6] 3)) v l := by
    rcases hS with h | ⟨sb, so, c, h1, h2, h3⟩
    · exact .inl h
    · exact .inr ⟨sb, so, c, h1, by simp; omega, fun i x hi j u hu => (hb0.cell (p := ⟨sb, so + i * 6 + j, none⟩) h2).trans (h3 i x hi j u hu)⟩
  have hK : ∀ k, k < 3 → (w.alloc (.cells #[.int .i64 1, .int .i64 2, .int .i64 6] 3)).cell? ⟨w.heap.size, k, none⟩ = some (.int .i64 (kindAt k)) := by
    intro k hk
    rw [blk_cell (blk_new w _) k]
    match k, hk with
    | 0, _ => rfl
    | 1, _ => rfl
    | 2, _ => rfl
  have HS : Hid _ := hS'
  have HK : Hid _ := hK
  have Hok : Hid _ := hok
  have HT : Hid _ := Tab.below hT hb0
  clear hS hS' hK hok hT
  go_enter Tryz.func3, Tryz.ntmps3
  go_wp2_with (go_at_call 4; refine (upTo_any _ v l w.heap.size HS.out Hok.out hn (by simp) HK.out HT.out).mono ?_; rintro r w1 ⟨rfl, hb1⟩)
  go_ret
  exact ⟨rfl, hb0.trans (hb1.mono (by simp))⟩
end Go.Proofs.YthdmbbfaphipkaaGreatDoor
/- From the law's walk to the given row: the script that the argument holds, the argument read again behind the call, the table of powers out of the row's list, a start that fits. -/
namespace Go.Proofs.YthdmbbfaphipkaaGreatDoor
open Go.ChangeShapes Go.WideShapes Go.ChangeAt Go.RowKit Go.Deep
theorem Tryz.kids : Kids Tryz.prog (· < Tryz.prog.types.size) := kids_rows (by kernel_rfl) (by kernel_rfl)
theorem Tryz.full : ∀ t e, t < Tryz.prog.types.size → Tryz.prog.underlying t = some (.slice e) → 0 < Tryz.prog.cellsOf e := slices_full_of Tryz.prog (by kernel_rfl)
theorem Tryz.cellsStep : Tryz.prog.cellsOf 33 = 6 := by kernel_rfl
theorem Tryz.bytesStep : Tryz.prog.bytesOf 33 = 56 := by kernel_rfl
theorem Tryz.cellsInt : Tryz.prog.cellsOf 3 = 1 := by kernel_rfl
theorem Tryz.cellsStr : Tryz.prog.cellsOf 9 = 1 := by kernel_rfl
theorem Tryz.fieldsStep : ∃ f0 f1 f2 f3 f4 f5 : Field, Tryz.prog.underlying 33 = some (.struct #[f0, f1, f2, f3, f4, f5]) ∧
    (f0.type = 3 ∧ f0.offset = 0) ∧ (f1.type = 3 ∧ f1.offset = 1) ∧ (f2.type = 3 ∧ f2.offset = 2) ∧ (f3.type = 3 ∧ f3.offset = 3) ∧ (f4.type = 3 ∧ f4.offset = 4) ∧ (f5.type = 9 ∧ f5.offset = 5) :=
  ⟨_, _, _, _, _, _, Tryz.underlying33, ⟨rfl, rfl⟩, ⟨rfl, rfl⟩, ⟨rfl, rfl⟩, ⟨rfl, rfl⟩, ⟨rfl, rfl⟩, ⟨rfl, rfl⟩⟩
theorem i64_wf {n : Int} (h : (Lit.int .i64 n).wf = true) : -9223372036854775808 ≤ n ∧ n ≤ 9223372036854775807 := bounds_i64 h
theorem cell_lt {w : World} {p : Addr} {u : Value} (h : w.cell? p = some u) : p.block < w.heap.size := by
  unfold World.cell? at h
  cases hb : w.heap[p.block]? with
  | none => simp [hb] at h
  | some o => exact (Array.getElem?_eq_some_iff.1 hb).1
section
variable {H : Type} {enc : TypeId × Value → H}
set_option maxRecDepth 100000 in
theorem open_step {W : World} {sp : Nat → Bool} {hd : Bool} {n : Nat} {cs : List Value} {y : DataW H × List MemPlace} (h : DataW.trod enc Tryz.prog W 0 sp hd n 33 cs = some y) : ∃ x : StepV, cs = stepCells x ∧ StepOk x := by
  obtain ⟨f0, f1, f2, f3, f4, f5, hu, ⟨t0, o0⟩, ⟨t1, o1⟩, ⟨t2, o2⟩, ⟨t3, o3⟩, ⟨t4, o4⟩, ⟨t5, o5⟩⟩ := Tryz.fieldsStep
  obtain ⟨xs, k, _, _, hlen, hxl, hf⟩ := DataW.trod_struct hu h
  rw [Tryz.cellsStep] at hlen
  match xs, hxl, cs, hlen with
  | [y0, y1, y2, y3, y4, y5], _, [v0, v1, v2, v3, v4, v5], _ =>
    have g0 := hf 0 f0 rfl
    have g1 := hf 1 f1 rfl
    have g2 := hf 2 f2 rfl
    have g3 := hf 3 f3 rfl
    have g4 := hf 4 f4 rfl
    have g5 := hf 5 f5 rfl
    rw [t0, o0, Tryz.cellsInt] at g0
    rw [t1, o1, Tryz.cellsInt] at g1
    rw [t2, o2, Tryz.cellsInt] at g2
    rw [t3, o3, Tryz.cellsInt] at g3
    rw [t4, o4, Tryz.cellsInt] at g4
    rw [t5, o5, Tryz.cellsStr] at g5
    simp only [List.drop_zero, List.drop_succ_cons, List.take_succ_cons, List.take_zero, List.getElem?_cons_zero, List.getElem?_cons_succ] at g0 g1 g2 g3 g4 g5
    obtain ⟨n0, e0, _, _⟩ := DataW.trod_int Tryz.underlying3 g0
    obtain ⟨n1, e1, _, wf1⟩ := DataW.trod_int Tryz.underlying3 g1
    obtain ⟨n2, e2, _, _⟩ := DataW.trod_int Tryz.underlying3 g2
    obtain ⟨n3, e3, _, _⟩ := DataW.trod_int Tryz.underlying3 g3
    obtain ⟨n4, e4, _, _⟩ := DataW.trod_int Tryz.underlying3 g4
    obtain ⟨s, e5, _, hs⟩ := DataW.trod_string Tryz.underlying9 g5
    simp only [List.cons.injEq, and_true] at e0 e1 e2 e3 e4 e5
    subst e0 e1 e2 e3 e4 e5
    exact ⟨⟨n0, n1, n2, n3, n4, s⟩, rfl, i64_wf wf1, hs⟩
theorem open_script {W : World} {v : Value} {d : DataW H} {p : List MemPlace} (hd : DataW.Trod enc Tryz.prog W 0 (fun _ => true) true 22 v d p) (hok : ∃ a len cap, v = .slice a len cap)
    (hsz : ∀ elems spare, d = .slice elems spare → (elems.length + spare.length) * 56 ≤ reachBytes) :
    ∃ l, ScrAt W v l ∧ (∀ x ∈ l, StepOk x) ∧ (l.length + 2) * 8 ≤ 140737488355328 := by
  obtain ⟨a0, len0, cap0, rfl⟩ := hok
  obtain ⟨n, hn⟩ := hd
  have hn' : DataW.trod enc Tryz.prog W 0 (fun _ => true) true n 22 [.slice a0 len0 cap0] = some (d, p) := hn
  rcases open_slice Tryz.underlying22 hn' with ⟨hc, hx⟩ | ⟨a, len, cap, m, k, D, Pl, hc, _, hl, hm, hmm, hx, hall⟩
  · simp only [List.cons.injEq, and_true] at hc
    exact ⟨[], .inl ⟨rfl, none, 0, hc⟩, by simp, by decide⟩
  · simp only [List.cons.injEq, and_true] at hc
    simp only [if_true] at hmm
    subst hmm
    simp only [Prod.mk.injEq] at hx
    have hsz' := hsz _ _ hx.1
    simp only [List.length_map, List.length_range, reachBytes] at hsz'
    rw [Tryz.cellsStep] at hall
    have each : ∀ i, i < m → ∃ x : StepV, StepOk x ∧ ∀ j u, (stepCells x)[j]? = some u → W.cell? (a.add (i * 6 + j)) = some u := fun i hi => by
      obtain ⟨cs, h1, h2⟩ := hall i hi
      obtain ⟨x, rfl, hxok⟩ := open_step h2
      obtain ⟨_, hlen, hcell⟩ := World.cells?_some h1
      refine ⟨x, hxok, fun j u hj => ?_⟩
      have hj6 : j < 6 := (List.getElem?_eq_some_iff.1 hj).1
      have := hcell j hj6
      rw [add_add, hj] at this
      exact this
    have : Inhabited StepV := ⟨⟨0, 0, 0, 0, 0, ⟨#[]⟩⟩⟩
    obtain ⟨X, hX⟩ := choose_lt each
    by_cases h0 : len = 0
    · subst h0
      exact ⟨[], .inl ⟨rfl, some a, m, hc⟩, by simp, by decide⟩
    · obtain ⟨sb, so, spot⟩ := a
      have h00 := (hX 0 (by omega)).2 0 _ rfl
      have hspot : spot = none := by simpa [Addr.add] using World.cell?_spot h00
      subst hspot
      refine ⟨(List.range len).map X, .inr ⟨sb, so, m, ?_, ?_, fun i x hi j u hu => ?_⟩, fun x hx => ?_, ?_⟩
      · rw [hc, List.length_map, List.length_range]
      · have h9 : W.cell? ⟨sb, so, none⟩ = some (.int .i64 (X 0).kd) := by simpa [Addr.add] using h00
        exact cell_lt h9
      · rw [List.getElem?_map] at hi
        obtain ⟨i', hi', rfl⟩ := Option.map_eq_some_iff.1 hi
        have hil := (List.getElem?_eq_some_iff.1 hi').1
        rw [List.length_range] at hil
        rw [List.getElem?_range hil] at hi'
        obtain rfl := Option.some.inj hi'
        have := (hX i (by omega)).2 j u hu
        rw [Addr.add_lit] at this
        rw [Nat.add_assoc]
        exact this
      · obtain ⟨i, hi, rfl⟩ := List.mem_map.1 hx
        exact (hX i (by have := List.mem_range.1 hi; omega)).1
      · rw [List.length_map, List.length_range]
        omega
end
/-- What the walk has to give. -/
def WalkAt : Prop := ∀ (W : World) (v : Value) (l : List StepV), ScrAt W v l → (∀ x ∈ l, StepOk x) → (l.length + 2) * 8 ≤ 140737488355328 → Lib.TabIs Tryz.prog W "internal/strconv.uint64pow10" .u64 Lib.pow10Tab →
    Calls Tryz.prog 3 #[v] W fun e W' => e = .returned (.bool true) ∧ Below W.heap.size W W'
theorem Tryz.own : ownKnob Tryz.prog.godebug = none := by kernel_rfl
theorem Tryz.gTab : Tryz.prog.globalNamed "internal/strconv.uint64pow10" = some 0 := by kernel_rfl
theorem Tryz.gTabType : (Tryz.prog.globals[0]?).map (·.type) = some 265 := by kernel_rfl
theorem Tryz.cellsTab : Tryz.prog.cellsOf 265 = 20 := by kernel_rfl
theorem Tryz.cellsU64 : Tryz.prog.cellsOf 248 = 1 := by kernel_rfl
theorem laidMetH_plain {W : World} (h : laidMetH Tryz.prog Rows.consultsRow.laid W) : laidMet Tryz.prog Rows.consultsRow.laid W := by
  rw [MakeChecks.laidMetH_plain _ _ _ (by kernel_rfl)] at h
  exact h
theorem table {W : World} (h : laidMetH Tryz.prog Rows.consultsRow.laid W) : Lib.TabIs Tryz.prog W "internal/strconv.uint64pow10" .u64 Lib.pow10Tab :=
  Lib.tabIs_of_head Tryz.gTab Tryz.gTabType Tryz.underlying265 Tryz.underlying248 Tryz.cellsU64 Tryz.cellsTab (laidMet.tail (laidMet.tail (laidMetH_plain h)))
section
variable {H : Type} {enc : TypeId × Value → H}
set_option maxRecDepth 100000 in
/-- What the walk gives, for every argument and every world that holds the table. -/
theorem contract (hw : WalkAt) (W : World) (base : Nat) (args : Array Value) (ds gs : List (DataW H)) (before : List MemPlace)
    (hval : ∀ (j : Nat) t v, Tryz.f3.params[j]? = some t → args[j]? = some v → Value.okWide Tryz.prog W .any base t v)
    (hW : DataW.Whole enc Tryz.prog Tryz.f3.params.toList Rows.consultsSpec.vars false W args.toList ds gs before)
    (hsz : (DataW.weightsEach Tryz.prog (Tryz.f3.params.toList ++ (OpenSpec.ofChange Rows.consultsSpec).bare.plain.varTypes Tryz.prog) (ds ++ gs)).all (· ≤ reachBytes) = true)
    (hL : laidMetH Tryz.prog Rows.consultsRow.laid W) :
    Calls Tryz.prog 3 args W fun e W' => ∃ v, e = .returned v ∧ Rows.consultsSpec.post enc Tryz.prog Tryz.f3 false true false false W args v W' := by
  have hW' := hW
  obtain ⟨p, q, hA0, hV, rfl, hfz, hnd⟩ := hW
  have hA : DataW.TrodAll enc Tryz.prog W 0 (fun _ => true) true Tryz.f3.params.toList args.toList ds p := hA0
  have hA1 := hA
  rw [Tryz.params3] at hA hval hsz
  obtain ⟨v0, vs0, d0, ds0, p0, q0, hargs, rfl, rfl, h0, r0⟩ := trodAll_cons hA
  obtain ⟨rfl, rfl, rfl⟩ := trodAll_nil r0
  obtain rfl : args = #[v0] := by cases args; simp_all
  obtain ⟨rfl, rfl⟩ := trodVars_none hV
  clear hA0
  obtain ⟨l, hS, hok, hn⟩ := open_script h0 (okWide_slice Tryz.underlying22 (hval 0 22 v0 rfl rfl)) (fun elems spare e => by
    subst e
    have := sized_slice hsz (j := 0) (t := 22) (e := 33) rfl rfl Tryz.underlying22
    rw [Tryz.bytesStep] at this
    exact this)
  refine (hw W v0 l hS hok hn (table hL)).mono fun e W' ⟨he, hB⟩ => ?_
  subst he
  have hlt : ∀ x ∈ p0 ++ [] ++ [], x.block < W.heap.size := fun x hx => hW'.lt x hx
  refine ⟨_, rfl, [d0], [], _, [], p0, [], hW', ?_, ?_, ?_, hB.frame _, fun h => by cases h⟩
  · exact trodAll_cons_mk (shut_bool Tryz.underlying4 true) trodAll_mk0
  · have h9 : DataW.Trod enc Tryz.prog W' 0 (fun _ => true) true 22 v0 d0 p0 := by
      obtain ⟨n, hn⟩ := h0
      exact ⟨n, DataW.trod_carry n _ _ _ hn (fun x hx => hB.same (hlt x (by simp [hx])))⟩
    have h10 := DataW.Trod.respare (spare' := fun b => decide (b < W.heap.size)) Tryz.kids Tryz.full (by show (_ : Nat) < _; exact of_decide_eq_true (by kernel_rfl)) h9 (fun x hx => by simpa using hlt x (by simp [hx]))
    have h11 := trodAll_cons_mk h10 trodAll_mk0
    rw [List.append_nil] at h11
    exact h11
  · rfl
end
end Go.Proofs.YthdmbbfaphipkaaGreatDoor
/- The given card of Consults, out of the law's walk. -/
namespace Go.Proofs.YthdmbbfaphipkaaGreatDoor
open Go.ChangeShapes Go.WideShapes Go.ChangeAt Go.RowKit Go.Deep
theorem laid_met (os : Os) : laidMet Tryz.prog Rows.consultsRow.laid ((World.doorLaid Tryz.prog 400 os).forCall (fun _ _ => 0) ⟨#[], #[.slice none 0 0], []⟩).memory :=
  laidMet_of_run' 8 (by kernel_rfl) (by kernel_rfl)
theorem reads (os : Os) {H : Type} (enc : TypeId × Value → H) : ∃ places, DataW.whole enc Tryz.prog ((World.doorLaid Tryz.prog 400 os).forCall (fun _ _ => 0) ⟨#[], #[.slice none 0 0], []⟩).memory Tryz.f3.params.toList Rows.consultsSpec.vars false #[Value.slice none 0 0].toList 8 = some ([.nil], [], places) :=
  ⟨[], by kernel_rfl⟩
set_option maxRecDepth 100000 in
theorem lifted (hw : WalkAt) (os : Os) (started : os.Started) (H : Type) (enc : TypeId × Value → H) (F : Stop.Interp) :
    ReturnsInHanded {} Tryz.checked os 3 .any ((OpenSpec.ofChange Rows.consultsSpec).preRow enc Tryz.prog Tryz.f3 Rows.consultsRow.domain false Rows.consultsRow.laid) (((OpenSpec.ofChange Rows.consultsSpec).at F).post enc Tryz.prog Tryz.f3 false true false false) := by
  obtain ⟨places, hx⟩ := reads os enc
  refine returnsInHanded_of_row (C := Tryz.checked) (s := OpenSpec.ofChange Rows.consultsSpec) Tryz.own started (by kernel_rfl) Tryz.func3
    (witness_row_atRef (enc := enc) (C := Tryz.checked) false (World.doorLaid Tryz.prog 400 os) #[.slice none 0 0] rfl (by kernel_rfl) (by kernel_rfl) (by kernel_rfl)
      (OpenSpec.preRow_of_cond 8 hx (by kernel_rfl) (fun k hk => by cases hk) (by kernel_rfl) (laid_met os))) ?_
  intro W base args ds gs before hval hW _ _ hsz hL _ _
  exact contract hw W base args ds gs before hval hW hsz hL
theorem said (hw : WalkAt) : Rows.ConsultsSaid :=
  OpenClaim.holds_of_cond 3 Tryz.f3 rfl rfl rfl rfl rfl rfl rfl ⟨rfl, rfl, rfl, rfl, rfl⟩ rfl rfl rfl rfl rfl (by kernel_rfl) Tryz.func3 (by kernel_rfl)
    (of_decide_eq_true (by kernel_rfl)) (by unfold Func.isWrapper; first | (rw [if_pos (by decide +kernel)]; kernel_rfl) | (rw [if_neg (by decide +kernel)]; exact ⟨rfl, rfl⟩))
    (fun os started H enc _ F => by rw [OpenClaim.pre_eq_preRow]; exact lifted hw os started H enc F)
theorem plain (f : FuncId) (fn : Func) (hf : Tryz.pinned.checked.prog.funcNamed "prompt/promptlaw.Consults" = some f) (hfn : Tryz.pinned.checked.prog.funcs[f]? = some fn) :
    true = Tryz.pinned.checked.prog.looks [] ∧ ∀ (j : Nat) t, fn.params[j]? = some t → Tryz.pinned.checked.prog.wantsStandIn t = false := by
  obtain rfl : f = 3 := Option.some.inj ((show Tryz.prog.funcNamed "prompt/promptlaw.Consults" = some 3 by kernel_rfl).symm.trans hf) |>.symm
  obtain rfl : fn = Tryz.f3 := (Option.some.inj (Tryz.func3.symm.trans hfn)).symm
  refine ⟨by kernel_rfl, fun j t ht => ?_⟩
  rw [Tryz.params3] at ht
  obtain rfl : t = 22 := by simpa using Array.mem_of_getElem? ht
  exact (show Tryz.prog.wantsStandIn 22 = false by kernel_rfl)
theorem card_of (hw : WalkAt) : Rows.ConsultsCardSaid :=
  Claim7.holds_tied_plain_at .later [] _ _ _ _ (said hw) (fun _ h => by cases h) (by kernel_rfl) (fun _ h => by cases h) consults_row_tie rfl ⟨rfl, rfl⟩ (by kernel_rfl) rfl plain (by kernel_rfl)
end Go.Proofs.YthdmbbfaphipkaaGreatDoor
