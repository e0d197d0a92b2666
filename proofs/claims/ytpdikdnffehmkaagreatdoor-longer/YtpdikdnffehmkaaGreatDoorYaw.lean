/- The statements' small functions (promptkeep: facts, same, lines). -/
import Derived.Test.YtpdikdnffehmkaaGreatDoorYav
import Derived.Test.YtpdikdnffehmkaaGreatDoorRows
import Derived.ProofKit
import Derived.OpenShut
import Derived.Deep.Slices
import Derived.Deep.DeepHandedRow
import Derived.Deep.DeepWitnessRowRef
import Derived.Lib.LaidTab
import Derived.Lib.AppendIntMem
import Derived.SizedLaws
import Derived.ReadAgain
import Derived.LaidMore
import Derived.LaidHandle
import Derived.Stop.LaidErr
namespace Go.Proofs.YtpdikdnffehmkaaGreatDoor
open Go.RowKit
theorem Seen.strAt {w : World} {g off n c : Nat} {xs : List ByteArray} (h : Seen w 9 strCells (.slice (some ⟨g, off, none⟩) n c) xs) (k : Nat) (x : ByteArray) (hx : xs[k]? = some x) : w.cell? ⟨g, off + k, none⟩ = some (.string x) := by
  have := h.cells strCells_len k x hx 0 _ rfl
  rw [Nat.mul_one, Nat.add_zero] at this
  exact this
/-- A row of numbers in memory, as a statement gets it. -/
def IntsAt (w : World) (v : Value) (l : List Int) : Prop :=
  (l = [] ∧ ∃ a c, v = .slice a 0 c) ∨
  ∃ sb so c, v = .slice (some ⟨sb, so, none⟩) l.length c ∧ sb < w.heap.size ∧ ∀ i x, l[i]? = some x → w.cell? ⟨sb, so + i, none⟩ = some (.int .i64 x)
theorem cell_below {w w' : World} (hb : Below w.heap.size w w') {g i : Nat} (hg : g < w.heap.size) : w'.cell? ⟨g, i, none⟩ = w.cell? ⟨g, i, none⟩ := by
  simp only [World.cell?, hb.block g hg]
theorem IntsAt.below {w w' : World} {v : Value} {l : List Int} (h : IntsAt w v l) (hb : Below w.heap.size w w') : IntsAt w' v l := by
  rcases h with h | ⟨sb, so, c, h1, h2, h3⟩
  · exact .inl h
  · exact .inr ⟨sb, so, c, h1, Nat.lt_of_lt_of_le h2 hb.size, fun i x hx => (cell_below hb h2).trans (h3 i x hx)⟩
theorem IntsAt.len {w : World} {a : Option Addr} {n c : Nat} {l : List Int} (h : IntsAt w (.slice a n c) l) : n = l.length := by
  rcases h with ⟨rfl, _, _, h1⟩ | ⟨sb, so, c, h1, _⟩
  · injection h1
  · injection h1
theorem IntsAt.slice {w : World} {v : Value} {l : List Int} (h : IntsAt w v l) : ∃ a c, v = .slice a l.length c := by
  rcases h with ⟨rfl, a, c, h1⟩ | ⟨sb, so, c, h1, _⟩
  · exact ⟨a, c, h1⟩
  · exact ⟨_, _, h1⟩
theorem IntsAt.pos {w : World} {a : Option Addr} {n c : Nat} {l : List Int} (h : IntsAt w (.slice a n c) l) (hp : 1 ≤ l.length) : ∃ g off, a = some ⟨g, off, none⟩ := by
  rcases h with ⟨rfl, _⟩ | ⟨sb, so, c, h1, _⟩
  · simp at hp
  · injection h1 with h1; exact ⟨sb, so, h1⟩
theorem IntsAt.at {w : World} {g off n c : Nat} {l : List Int} (h : IntsAt w (.slice (some ⟨g, off, none⟩) n c) l) (hp : 1 ≤ l.length) : g < w.heap.size ∧ ∀ i x, l[i]? = some x → w.cell? ⟨g, off + i, none⟩ = some (.int .i64 x) := by
  rcases h with ⟨rfl, _⟩ | ⟨sb, so, c, h1, h2, h3⟩
  · simp at hp
  · injection h1 with h1 _ _; injection h1 with h1; injection h1 with h1 h4; subst h1 h4; exact ⟨h2, h3⟩
set_option maxHeartbeats 1000000 in
set_option maxRecDepth 100000 in
theorem kfacts_any (nm : ByteArray) (a : Option Addr) (n c : Nat) (xs : List Int) (most : Nat) (w : World) (h : IntsAt w (.slice a n c) xs) (hml : xs.length ≤ 9223372036854775807) (hx : ∀ x ∈ xs, -9223372036854775808 ≤ x ∧ x ≤ 9223372036854775807) (hnm : nm.size ≤ 1) (hm : most ≤ 30) (hT : Tab w) :
    Calls Tryz.prog 15 #[.string nm, .slice a n c, .int .i64 most] w fun r w' => ∃ a2 c2, r = .returned (.tuple #[.string (Rf.factsB nm (xs.take most)), .slice a2 (xs.take most).length c2]) ∧ Seen w' 9 strCells (.slice a2 (xs.take most).length c2) ((xs.take most).map Rf.constB) ∧ Below w.heap.size w w' := by
  obtain rfl : n = xs.length := h.len
  have HH : Hid (IntsAt w (.slice a xs.length c) xs) := h
  have HX : Hid _ := hx
  have HT : Hid (Tab w) := hT
  clear h hx hT
  go_enter Tryz.func15, Tryz.ntmps15
  go_wp2_with fail
  go_loopw [8, 9, 10] (fun sv nv iv wr => ∃ k : Nat, k ≤ xs.length ∧ k ≤ most ∧ iv = .int .i64 k ∧ sv = .string (Rf.factsB nm (xs.take k)) ∧ RowIs wr w.heap.size 9 1 strCells nv ((xs.take k).map Rf.constB) ∧ Below w.heap.size w wr) (fun _ _ iv _ => most - (intOf iv).toNat)
  case atStart => exact ⟨0, by omega, by omega, rfl, rfl, RowIs.nil _ _ _ _ _, Below.refl _ _⟩
  case round =>
    obtain ⟨k, hk, hk2, rfl, rfl, hrow, hbr⟩ := hrel
    have hsz := hbr.size
    obtain ⟨a4, c4, hv4⟩ := row_slice hrow
    have hlk : ((xs.take k).map Rf.constB).length = k := by rw [List.length_map, List.length_take]; omega
    rw [hlk] at hv4
    subst hv4
    have Hlk : Hid _ := hlk
    clear hlk
    have hfs := Rf.factsB_size nm hnm (xs.take k)
    have hfs1 : (Rf.factsB nm (xs.take k)).size ≤ 1200 := by
      have : (xs.take k).length ≤ 30 := by rw [List.length_take]; omega
      omega
    clear hfs
    by_cases hlt : k < xs.length
    · by_cases hltm : k < most
      · obtain ⟨g, off, rfl⟩ := IntsAt.pos HH.out (by omega)
        have hgl := (IntsAt.at HH.out (by omega)).1
        have hcell := (IntsAt.at (IntsAt.below HH.out hbr) (by omega)).2 k xs[k] (by simp [hlt])
        have hxr := HX.out _ (List.getElem_mem hlt)
        have htk : xs.take (k + 1) = xs.take k ++ [xs[k]] := List.take_succ_eq_append_getElem hlt
        have Htk : Hid _ := htk
        clear htk
        generalize xs[k] = x at *
        have hcs := Rf.constB_size x
        have hgl' : g < wr.heap.size := by omega
        have hlt' : (k : Int) < xs.length := by omega
        have hltm' : (k : Int) < most := by omega
        have z1 : (Rf.factsB nm (xs.take k) ++ nm).size ≤ 1212 := by rw [ByteArray.size_append]; omega
        have z2 : (Rf.factsB nm (xs.take k) ++ nm ++ ⟨#[40]⟩).size ≤ 1213 := by rw [ByteArray.size_append]; have : (⟨#[40]⟩ : ByteArray).size = 1 := rfl; omega
        have z3 : (Rf.factsB nm (xs.take k) ++ nm ++ ⟨#[40]⟩ ++ Rf.constB x).size ≤ 1235 := by rw [ByteArray.size_append]; omega
        go_wp2_with (first
          | (go_at_call 33; refine (kconst_any x _ hxr.1 hxr.2 (Tab.below HT.out hbr)).mono ?_; rintro r w2 ⟨rfl, hb2⟩; have hbw2 : Below w.heap.size w w2 := hbr.trans (hb2.mono hsz); have hsw2 := hbw2.size; have hrow2 := hrow.below hb2)
          | (at_builtin; refine wpList_app Tryz.elemStr strCells strCells_len strCells_one _ rfl (.tmp 35) (.tmp 37) rfl w.heap.size (.slice a4 k c4) _ rfl (hrow2.alloc _) ⟨_, 0, none⟩ 1 (Rf.constB x) rfl (cell_one_at _ _ rfl _ _) (by rw [Hlk.out]; omega) (by rw [World.size_alloc]; omega) ?_; intro gA capA w3 hrow3 hgr3 hnb3; rw [Hlk.out] at hrow3))
        go_roundw
        case rel =>
          refine ⟨k + 1, by omega, by omega, by go_num, ?_, ?_, (hbw2.alloc hsw2 _).grown hgr3 (by rw [World.size_alloc]; omega) (fun j e => (hrow.lt j e).1)⟩
          · rw [Htk.out, Rf.factsB_snoc]
            unfold Rf.factB Rf.factT
            rw [Rf.factsB_step]
          · rw [Htk.out, List.map_append]; exact hrow3
        case measure => simp [intOf]; omega
      · obtain rfl : k = most := by omega
        have hd : decide ((k : Int) < (k : Int)) = false := decide_eq_false (by omega)
        have hlt' : (k : Int) < xs.length := by omega
        go_wp2_with fail
        go_ret2
        have hlm : (xs.take k).length = k := by rw [List.length_take]; omega
        rw [hlm]
        exact ⟨a4, c4, rfl, hrow.seen, hbr⟩
    · obtain rfl : k = xs.length := by omega
      have hd : decide ((xs.length : Int) < (xs.length : Int)) = false := decide_eq_false (by omega)
      go_wp2_with fail
      go_ret2
      have e1 : xs.take xs.length = xs := List.take_length
      have e2 : xs.take most = xs := List.take_of_length_le (by omega)
      rw [e1] at hrow ⊢
      rw [e2]
      exact ⟨a4, c4, rfl, hrow.seen, hbr⟩
end Go.Proofs.YtpdikdnffehmkaaGreatDoor
/- The statements' begun: a session with clauses. -/
namespace Go.Proofs.YtpdikdnffehmkaaGreatDoor
open Go.RowKit
set_option maxHeartbeats 1000000 in
theorem kbegun_any (B lim : Nat) (s : ByteArray) (new : List Rf.Cl) (w : World) (h1 : 1 ≤ lim) (h2 : lim ≤ 1000) (hm : s.size ≤ maxLen) (hr : Rf.readS s = .ok new) (h30 : new.length ≤ 30) (hB : B ≤ w.heap.size) :
    Calls Tryz.prog 16 #[.int .i64 lim, .string s] w fun r w' => ∃ x, r = .returned (.pointer (some ⟨x, 0, none⟩)) ∧ SeIn B (fun k => w.heap.size ≤ k ∧ k < w'.heap.size) w' x ⟨lim, new, none⟩ ∧ Below w.heap.size w w' := by
  have HC : Hid _ := Rf.consult_new (lim := lim) hr h30
  clear hr
  go_enter Tryz.func16, Tryz.ntmps16
  go_wp2_with (first
    | (go_at_call 25; refine (pconsult_in B _ w1 _ _ s hm hS1 (Nat.le_trans hB hb1.size)).mono ?_; rintro r w2 ⟨hr2, hD2⟩; rw [HC.out] at hr2 hD2; subst hr2)
    | (go_at_call 24; refine (pnew_in B w lim h1 h2 hB).mono ?_; rintro r w1 ⟨rfl, hS1, hb1⟩))
  go_ret
  have hz := hb1.size
  have hz2 := hD2.size
  refine ⟨w.heap.size, rfl, hD2.1.mono (fun k e => ?_) (fun k e => by omega) (fun k e => e.2), hb1.trans (hD2.2.below hz (fun k hk e => by omega))⟩
  rcases e with e | e
  · omega
  · omega
end Go.Proofs.YtpdikdnffehmkaaGreatDoor
/- From a statement's walk to its given row: arguments out of the row's data, the table of powers, the arguments read again. -/
namespace Go.Proofs.YtpdikdnffehmkaaGreatDoor
open Go.ChangeShapes Go.WideShapes Go.ChangeAt Go.RowKit Go.Deep
theorem Tryz.kids : Kids Tryz.prog (· < Tryz.prog.types.size) := kids_rows (by kernel_rfl) (by kernel_rfl)
theorem Tryz.full : ∀ t e, t < Tryz.prog.types.size → Tryz.prog.underlying t = some (.slice e) → 0 < Tryz.prog.cellsOf e := slices_full_of Tryz.prog (by kernel_rfl)
theorem Tryz.cellsInt : Tryz.prog.cellsOf 3 = 1 := by kernel_rfl
theorem Tryz.bytesInt : Tryz.prog.bytesOf 3 = 8 := by kernel_rfl
theorem Tryz.cellsStr : Tryz.prog.cellsOf 9 = 1 := by kernel_rfl
theorem i64_wf {n : Int} (h : (Lit.int .i64 n).wf = true) : -9223372036854775808 ≤ n ∧ n ≤ 9223372036854775807 := bounds_i64 h
theorem cell_lt {w : World} {p : Addr} {u : Value} (h : w.cell? p = some u) : p.block < w.heap.size := by
  unfold World.cell? at h
  cases hb : w.heap[p.block]? with
  | none => simp [hb] at h
  | some o => exact (Array.getElem?_eq_some_iff.1 hb).1
theorem Tryz.own : ownKnob Tryz.prog.godebug = none := by kernel_rfl
theorem Tryz.gTab : Tryz.prog.globalNamed "internal/strconv.uint64pow10" = some 0 := by kernel_rfl
theorem Tryz.gTabType : (Tryz.prog.globals[0]?).map (·.type) = some 239 := by kernel_rfl
theorem Tryz.cellsTab : Tryz.prog.cellsOf 239 = 20 := by kernel_rfl
theorem Tryz.cellsU64 : Tryz.prog.cellsOf 198 = 1 := by kernel_rfl
section
variable {H : Type} {enc : TypeId × Value → H}
theorem open_ints {W : World} {v : Value} {d : DataW H} {p : List MemPlace} (hd : DataW.Trod enc Tryz.prog W 0 (fun _ => true) true 24 v d p) (hok : ∃ a len cap, v = .slice a len cap)
    (hsz : ∀ elems spare, d = .slice elems spare → (elems.length + spare.length) * 8 ≤ reachBytes) :
    ∃ l, IntsAt W v l ∧ (∀ x ∈ l, -9223372036854775808 ≤ x ∧ x ≤ 9223372036854775807) ∧ l.length * 8 ≤ 140737488355328 := by
  obtain ⟨a0, len0, cap0, rfl⟩ := hok
  obtain ⟨n, hn⟩ := hd
  have hn' : DataW.trod enc Tryz.prog W 0 (fun _ => true) true n 24 [.slice a0 len0 cap0] = some (d, p) := hn
  rcases open_slice Tryz.underlying24 hn' with ⟨hc, hx⟩ | ⟨a, len, cap, m, k, D, Pl, hc, _, hl, hm, hmm, hx, hall⟩
  · simp only [List.cons.injEq, and_true] at hc
    exact ⟨[], .inl ⟨rfl, none, 0, hc⟩, by simp, by decide⟩
  · simp only [List.cons.injEq, and_true] at hc
    simp only [if_true] at hmm
    subst hmm
    simp only [Prod.mk.injEq] at hx
    have hsz' := hsz _ _ hx.1
    simp only [List.length_map, List.length_range, reachBytes] at hsz'
    rw [Tryz.cellsInt] at hall
    have each : ∀ i, i < m → ∃ x : Int, (-9223372036854775808 ≤ x ∧ x ≤ 9223372036854775807) ∧ W.cell? (a.add (i * 1)) = some (.int .i64 x) := fun i hi => by
      obtain ⟨cs, h1, h2⟩ := hall i hi
      obtain ⟨x, rfl, _, wf⟩ := DataW.trod_int Tryz.underlying3 h2
      obtain ⟨_, hlen, hcell⟩ := World.cells?_some h1
      refine ⟨x, i64_wf wf, ?_⟩
      have := hcell 0 (by omega)
      rw [add_add, Nat.add_zero] at this
      exact this
    have : Inhabited Int := ⟨0⟩
    obtain ⟨X, hX⟩ := choose_lt each
    by_cases h0 : len = 0
    · subst h0
      exact ⟨[], .inl ⟨rfl, some a, m, hc⟩, by simp, by decide⟩
    · obtain ⟨sb, so, spot⟩ := a
      have h00 := (hX 0 (by omega)).2
      have hspot : spot = none := by simpa [Addr.add] using World.cell?_spot h00
      subst hspot
      refine ⟨(List.range len).map X, .inr ⟨sb, so, m, ?_, ?_, fun i x hi => ?_⟩, fun x hx => ?_, ?_⟩
      · rw [hc, List.length_map, List.length_range]
      · have h9 : W.cell? ⟨sb, so, none⟩ = some (.int .i64 (X 0)) := by simpa [Addr.add] using h00
        exact cell_lt h9
      · rw [List.getElem?_map] at hi
        obtain ⟨i', hi', rfl⟩ := Option.map_eq_some_iff.1 hi
        have hil := (List.getElem?_eq_some_iff.1 hi').1
        rw [List.length_range] at hil
        rw [List.getElem?_range hil] at hi'
        obtain rfl := Option.some.inj hi'
        have := (hX i (by omega)).2
        rw [Addr.add_lit, Nat.mul_one] at this
        exact this
      · obtain ⟨i, hi, rfl⟩ := List.mem_map.1 hx
        exact (hX i (by have := List.mem_range.1 hi; omega)).1
      · rw [List.length_map, List.length_range]
        omega
/-- An argument reads behind the call as it did. -/
theorem again {W W' : World} {v : Value} {d : DataW H} {p : List MemPlace} {t : TypeId} (ht : t < Tryz.prog.types.size) (h0 : DataW.Trod enc Tryz.prog W 0 (fun _ => true) true t v d p) (hB : Below W.heap.size W W') (hlt : ∀ x ∈ p, x.block < W.heap.size) : DataW.Trod enc Tryz.prog W' 0 (fun b => decide (b < W.heap.size)) true t v d p := by
  have h9 : DataW.Trod enc Tryz.prog W' 0 (fun _ => true) true t v d p := by
    obtain ⟨n, hn⟩ := h0
    exact ⟨n, DataW.trod_carry n _ _ _ hn (fun x hx => hB.same (hlt x hx))⟩
  exact DataW.Trod.respare (spare' := fun b => decide (b < W.heap.size)) Tryz.kids Tryz.full ht h9 (fun x hx => by simpa using hlt x hx)
end
end Go.Proofs.YtpdikdnffehmkaaGreatDoor
