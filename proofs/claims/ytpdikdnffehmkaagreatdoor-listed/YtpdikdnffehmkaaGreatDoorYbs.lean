/- From a statement's walk to its given row: arguments out of the row's data, the table of powers, the arguments read again. -/
import Derived.Test.YtpdikdnffehmkaaGreatDoorRows
import Derived.Test.YtpdikdnffehmkaaGreatDoorYbr
import Derived.ProofKit
import Derived.OpenShut
import Derived.Deep.Slices
import Derived.Deep.DeepHandedRow
import Derived.Deep.DeepWitnessRowRef
import Derived.Lib.LaidTab
import Derived.Lib.AppendIntMem
import Derived.SizedLaws
import Derived.ReadAgain
import Derived.LaidMore
import Derived.LaidHandle
import Derived.Stop.LaidErr
namespace Go.Proofs.YtpdikdnffehmkaaGreatDoor
open Go.ChangeShapes Go.WideShapes Go.ChangeAt Go.RowKit Go.Deep
theorem Tryz.kids : Kids Tryz.prog (· < Tryz.prog.types.size) := kids_rows (by kernel_rfl) (by kernel_rfl)
theorem Tryz.full : ∀ t e, t < Tryz.prog.types.size → Tryz.prog.underlying t = some (.slice e) → 0 < Tryz.prog.cellsOf e := slices_full_of Tryz.prog (by kernel_rfl)
theorem Tryz.cellsInt : Tryz.prog.cellsOf 3 = 1 := by kernel_rfl
theorem Tryz.bytesInt : Tryz.prog.bytesOf 3 = 8 := by kernel_rfl
theorem Tryz.cellsStr : Tryz.prog.cellsOf 9 = 1 := by kernel_rfl
theorem i64_wf {n : Int} (h : (Lit.int .i64 n).wf = true) : -9223372036854775808 ≤ n ∧ n ≤ 9223372036854775807 := bounds_i64 h
theorem cell_lt {w : World} {p : Addr} {u : Value} (h : w.cell? p = some u) : p.block < w.heap.size := by
  unfold World.cell? at h
  cases hb : w.heap[p.block]? with
  | none => simp [hb] at h
  | some o => exact (Array.getElem?_eq_some_iff.1 hb).1
theorem Tryz.own : ownKnob Tryz.prog.godebug = none := by kernel_rfl
theorem Tryz.gTab : Tryz.prog.globalNamed "internal/strconv.uint64pow10" = some 0 := by kernel_rfl
theorem Tryz.gTabType : (Tryz.prog.globals[0]?).map (·.type) = some 239 := by kernel_rfl
theorem Tryz.cellsTab : Tryz.prog.cellsOf 239 = 20 := by kernel_rfl
theorem Tryz.cellsU64 : Tryz.prog.cellsOf 198 = 1 := by kernel_rfl
section
variable {H : Type} {enc : TypeId × Value → H}
theorem open_ints {W : World} {v : Value} {d : DataW H} {p : List MemPlace} (hd : DataW.Trod enc Tryz.prog W 0 (fun _ => true) true 24 v d p) (hok : ∃ a len cap, v = .slice a len cap)
    (hsz : ∀ elems spare, d = .slice elems spare → (elems.length + spare.length) * 8 ≤ reachBytes) :
    ∃ l, IntsAt W v l ∧ (∀ x ∈ l, -9223372036854775808 ≤ x ∧ x ≤ 9223372036854775807) ∧ l.length * 8 ≤ 140737488355328 := by
  obtain ⟨a0, len0, cap0, rfl⟩ := hok
  obtain ⟨n, hn⟩ := hd
  have hn' : DataW.trod enc Tryz.prog W 0 (fun _ => true) true n 24 [.slice a0 len0 cap0] = some (d, p) := hn
  rcases open_slice Tryz.underlying24 hn' with ⟨hc, hx⟩ | ⟨a, len, cap, m, k, D, Pl, hc, _, hl, hm, hmm, hx, hall⟩
  · simp only [List.cons.injEq, and_true] at hc
    exact ⟨[], .inl ⟨rfl, none, 0, hc⟩, by simp, by decide⟩
  · simp only [List.cons.injEq, and_true] at hc
    simp only [if_true] at hmm
    subst hmm
    simp only [Prod.mk.injEq] at hx
    have hsz' := hsz _ _ hx.1
    simp only [List.length_map, List.length_range, reachBytes] at hsz'
    rw [Tryz.cellsInt] at hall
    have each : ∀ i, i < m → ∃ x : Int, (-9223372036854775808 ≤ x ∧ x ≤ 9223372036854775807) ∧ W.cell? (a.add (i * 1)) = some (.int .i64 x) := fun i hi => by
      obtain ⟨cs, h1, h2⟩ := hall i hi
      obtain ⟨x, rfl, _, wf⟩ := DataW.trod_int Tryz.underlying3 h2
      obtain ⟨_, hlen, hcell⟩ := World.cells?_some h1
      refine ⟨x, i64_wf wf, ?_⟩
      have := hcell 0 (by omega)
      rw [add_add, Nat.add_zero] at this
      exact this
    have : Inhabited Int := ⟨0⟩
    obtain ⟨X, hX⟩ := choose_lt each
    by_cases h0 : len = 0
    · subst h0
      exact ⟨[], .inl ⟨rfl, some a, m, hc⟩, by simp, by decide⟩
    · obtain ⟨sb, so, spot⟩ := a
      have h00 := (hX 0 (by omega)).2
      have hspot : spot = none := by simpa [Addr.add] using World.cell?_spot h00
      subst hspot
      refine ⟨(List.range len).map X, .inr ⟨sb, so, m, ?_, ?_, fun i x hi => ?_⟩, fun x hx => ?_, ?_⟩
      · rw [hc, List.length_map, List.length_range]
      · have h9 : W.cell? ⟨sb, so, none⟩ = some (.int .i64 (X 0)) := by simpa [Addr.add] using h00
        exact cell_lt h9
      · rw [List.getElem?_map] at hi
        obtain ⟨i', hi', rfl⟩ := Option.map_eq_some_iff.1 hi
        have hil := (List.getElem?_eq_some_iff.1 hi').1
        rw [List.length_range] at hil
        rw [List.getElem?_range hil] at hi'
        obtain rfl := Option.some.inj hi'
        have := (hX i (by omega)).2
        rw [Addr.add_lit, Nat.mul_one] at this
        exact this
      · obtain ⟨i, hi, rfl⟩ := List.mem_map.1 hx
        exact (hX i (by have := List.mem_range.1 hi; omega)).1
      · rw [List.length_map, List.length_range]
        omega
/-- An argument reads behind the call as it did. -/
theorem again {W W' : World} {v : Value} {d : DataW H} {p : List MemPlace} {t : TypeId} (ht : t < Tryz.prog.types.size) (h0 : DataW.Trod enc Tryz.prog W 0 (fun _ => true) true t v d p) (hB : Below W.heap.size W W') (hlt : ∀ x ∈ p, x.block < W.heap.size) : DataW.Trod enc Tryz.prog W' 0 (fun b => decide (b < W.heap.size)) true t v d p := by
  have h9 : DataW.Trod enc Tryz.prog W' 0 (fun _ => true) true t v d p := by
    obtain ⟨n, hn⟩ := h0
    exact ⟨n, DataW.trod_carry n _ _ _ hn (fun x hx => hB.same (hlt x hx))⟩
  exact DataW.Trod.respare (spare' := fun b => decide (b < W.heap.size)) Tryz.kids Tryz.full ht h9 (fun x hx => by simpa using hlt x hx)
end
end Go.Proofs.YtpdikdnffehmkaaGreatDoor
