
import Derived.Test.YtbiojnljihgpoaaGreatDoorYbl
import Derived.Test.YtbiojnljihgpoaaGreatDoorCards
import Derived.Test.YtbiojnljihgpoaaGreatDoorTie
namespace Go.Proofs.YtbiojnljihgpoaaGreatDoor
open Go.ChangeShapes Go.WideShapes Go.ChangeAt Go.RowKit Go.Deep
def RefusedWalk : Prop := ∀ (W : World) (n0 : Int) (v1 : Value) (l1 : List Rf.MoveV) (s2 : ByteArray) (v3 : Value) (l3 : List Rf.MoveV), -9223372036854775808 ≤ n0 → n0 ≤ 9223372036854775807 → MovesAt W v1 l1 → (∀ x ∈ l1, x.s.size ≤ maxLen) → l1.length * 24 ≤ 140737488355328 → s2.size ≤ maxLen → MovesAt W v3 l3 → (∀ x ∈ l3, x.s.size ≤ maxLen) → l3.length * 24 ≤ 140737488355328 → Lib.TabIs Tryz.prog W "internal/strconv.uint64pow10" .u64 Lib.pow10Tab →
  Calls Tryz.prog 4 #[.int .i64 n0, v1, .string s2, v3] W fun e W' => e = .returned (.bool true) ∧ Below W.heap.size W W'
namespace RefusedC
theorem table {W : World} (h : laidMetH Tryz.prog Rows.refusedRow.laid W) : Lib.TabIs Tryz.prog W "internal/strconv.uint64pow10" .u64 Lib.pow10Tab := by
 have h' : laidMet Tryz.prog Rows.refusedRow.laid W := by
  rw [MakeChecks.laidMetH_plain _ _ _ (by kernel_rfl)] at h
  exact h
 exact Lib.tabIs_of_head Tryz.gTab Tryz.gTabType Tryz.underlying162 Tryz.underlying148 Tryz.cellsU64 Tryz.cellsTab (laidMet.tail (laidMet.tail h'))
section
variable {H : Type} {enc : TypeId × Value → H}
set_option maxRecDepth 100000 in
theorem contract (hw : RefusedWalk) (W : World) (base : Nat) (args : Array Value) (ds gs : List (DataW H)) (before : List MemPlace)
  (hval : ∀ (j : Nat) t v, Tryz.f4.params[j]? = some t → args[j]? = some v → Value.okWide Tryz.prog W .any base t v)
  (hW : DataW.Whole enc Tryz.prog Tryz.f4.params.toList Rows.refusedSpec.vars false W args.toList ds gs before)
  (hsz : (DataW.weightsEach Tryz.prog (Tryz.f4.params.toList ++ (OpenSpec.ofChange Rows.refusedSpec).bare.plain.varTypes Tryz.prog) (ds ++ gs)).all (· ≤ reachBytes) = true)
  (hL : laidMetH Tryz.prog Rows.refusedRow.laid W) :
  Calls Tryz.prog 4 args W fun e W' => ∃ v, e = .returned v ∧ Rows.refusedSpec.post enc Tryz.prog Tryz.f4 false true false false W args v W' := by
 have hW' := hW
 obtain ⟨p, q, hA0, hV, rfl, hfz, hnd⟩ := hW
 have hA : DataW.TrodAll enc Tryz.prog W 0 (fun _ => true) true Tryz.f4.params.toList args.toList ds p := hA0
 rw [Tryz.params4] at hA hval hsz
 obtain ⟨v0, vs0, d0, ds0, p0, q0, hargs, rfl, rfl, h0, r0⟩ := trodAll_cons hA
 obtain ⟨v1, vs1, d1, ds1, p1, q1, rfl, rfl, rfl, h1, r1⟩ := trodAll_cons r0
 obtain ⟨v2, vs2, d2, ds2, p2, q2, rfl, rfl, rfl, h2, r2⟩ := trodAll_cons r1
 obtain ⟨v3, vs3, d3, ds3, p3, q3, rfl, rfl, rfl, h3, r3⟩ := trodAll_cons r2
 obtain ⟨rfl, rfl, rfl⟩ := trodAll_nil r3
 obtain rfl : args = #[v0, v1, v2, v3] := by cases args; simp_all
 obtain ⟨rfl, rfl⟩ := trodVars_none hV
 clear hA0
 have hv0 := hval 0 3 v0 rfl rfl
 obtain ⟨n0, rfl, rfl, rfl, hwf0⟩ := open_int Tryz.underlying3 hv0 h0
 have hn0 := i64_wf hwf0
 obtain ⟨l1, hS1, hok1, hn1⟩ := open_moves h1 (okWide_slice Tryz.underlying22 (hval 1 22 v1 rfl rfl)) (fun elems spare e => by
  subst e
  have := sized_slice hsz (j := 1) (t := 22) (e := 65) rfl rfl Tryz.underlying22
  rw [Tryz.bytesMove] at this
  exact this)
 have hv2 := hval 2 9 v2 rfl rfl
 obtain ⟨s2, rfl, rfl, rfl, hs2⟩ := open_str Tryz.underlying9 hv2 h2
 obtain ⟨l3, hS3, hok3, hn3⟩ := open_moves h3 (okWide_slice Tryz.underlying22 (hval 3 22 v3 rfl rfl)) (fun elems spare e => by
  subst e
  have := sized_slice hsz (j := 3) (t := 22) (e := 65) rfl rfl Tryz.underlying22
  rw [Tryz.bytesMove] at this
  exact this)
 refine (hw W n0 v1 l1 s2 v3 l3 hn0.1 hn0.2 hS1 hok1 hn1 hs2 hS3 hok3 hn3 (table hL)).mono fun e W' ⟨he, hB⟩ => ?_
 subst he
 have hlt : ∀ x ∈ ([] : List MemPlace) ++ (p1 ++ (([] : List MemPlace) ++ (p3 ++ []))) ++ [], x.block < W.heap.size := fun x hx => hW'.lt x hx
 refine ⟨_, rfl, [.lit (.int .i64 n0), d1, .lit (.string s2.data.toList), d3], [], _, [], ([] : List MemPlace) ++ (p1 ++ (([] : List MemPlace) ++ (p3 ++ []))), [], hW', ?_, ?_, ?_, hB.frame _, fun h => by cases h⟩
 ·exact trodAll_cons_mk (shut_bool Tryz.underlying4 true) trodAll_mk0
 ·exact (trodAll_cons_mk (again (of_decide_eq_true (by kernel_rfl)) h0 hB (fun x hx => by simp at hx)) (trodAll_cons_mk (again (of_decide_eq_true (by kernel_rfl)) h1 hB (fun x hx => hlt x (by simp [hx]))) (trodAll_cons_mk (again (of_decide_eq_true (by kernel_rfl)) h2 hB (fun x hx => by simp at hx)) (trodAll_cons_mk (again (of_decide_eq_true (by kernel_rfl)) h3 hB (fun x hx => hlt x (by simp [hx]))) trodAll_mk0))))
 ·rfl
end
theorem laid_met (os : Os) : laidMet Tryz.prog Rows.refusedRow.laid ((World.doorLaid Tryz.prog 400 os).forCall (fun _ _ => 0) ⟨#[], #[.int .i64 0, .slice none 0 0, .string ⟨#[]⟩, .slice none 0 0], []⟩).memory :=
 laidMet_of_run' 8 (by kernel_rfl) (by kernel_rfl)
theorem reads (os : Os) {H : Type} (enc : TypeId × Value → H) : ∃ places, DataW.whole enc Tryz.prog ((World.doorLaid Tryz.prog 400 os).forCall (fun _ _ => 0) ⟨#[], #[.int .i64 0, .slice none 0 0, .string ⟨#[]⟩, .slice none 0 0], []⟩).memory Tryz.f4.params.toList Rows.refusedSpec.vars false #[Value.int .i64 0, .slice none 0 0, .string ⟨#[]⟩, .slice none 0 0].toList 8 = some ([.lit (.int .i64 0), .nil, .lit (.string []), .nil], [], places) :=
 ⟨[], by kernel_rfl⟩
set_option maxRecDepth 100000 in
theorem lifted (hw : RefusedWalk) (os : Os) (started : os.Started) (H : Type) (enc : TypeId × Value → H) (F : Stop.Interp) :
  ReturnsInHanded {} Tryz.checked os 4 .any ((OpenSpec.ofChange Rows.refusedSpec).preRow enc Tryz.prog Tryz.f4 Rows.refusedRow.domain false Rows.refusedRow.laid) (((OpenSpec.ofChange Rows.refusedSpec).at F).post enc Tryz.prog Tryz.f4 false true false false) := by
 obtain ⟨places, hx⟩ := reads os enc
 refine returnsInHanded_of_row (C := Tryz.checked) (s := OpenSpec.ofChange Rows.refusedSpec) Tryz.own started (by kernel_rfl) Tryz.func4
  (witness_row_atRef (enc := enc) (C := Tryz.checked) false (World.doorLaid Tryz.prog 400 os) #[.int .i64 0, .slice none 0 0, .string ⟨#[]⟩, .slice none 0 0] rfl (by kernel_rfl) (by kernel_rfl) (by kernel_rfl)
   (OpenSpec.preRow_of_cond 8 hx (by kernel_rfl) (fun k hk => by cases hk) (by kernel_rfl) (laid_met os))) ?_
 intro W base args ds gs before hval hW _ _ hsz hL _ _
 exact contract hw W base args ds gs before hval hW hsz hL
theorem said (hw : RefusedWalk) : Rows.RefusedSaid :=
 OpenClaim.holds_of_cond 4 Tryz.f4 rfl rfl rfl rfl rfl rfl rfl ⟨rfl, rfl, rfl, rfl, rfl⟩ rfl rfl rfl rfl rfl (by kernel_rfl) Tryz.func4 (by kernel_rfl)
  (of_decide_eq_true (by kernel_rfl)) (by unfold Func.isWrapper; first | (rw [if_pos (by decide +kernel)]; kernel_rfl) | (rw [if_neg (by decide +kernel)]; exact ⟨rfl, rfl⟩))
  (fun os started H enc _ F => by rw [OpenClaim.pre_eq_preRow]; exact lifted hw os started H enc F)
theorem plain (f : FuncId) (fn : Func) (hf : Tryz.pinned.checked.prog.funcNamed "prompt/promptkeep.Refused" = some f) (hfn : Tryz.pinned.checked.prog.funcs[f]? = some fn) :
  false = Tryz.pinned.checked.prog.looks [] ∧ ∀ (j : Nat) t, fn.params[j]? = some t → Tryz.pinned.checked.prog.wantsStandIn t = false := by
 obtain rfl : f = 4 := Option.some.inj ((show Tryz.prog.funcNamed "prompt/promptkeep.Refused" = some 4 by kernel_rfl).symm.trans hf) |>.symm
 obtain rfl : fn = Tryz.f4 := (Option.some.inj (Tryz.func4.symm.trans hfn)).symm
 refine ⟨by kernel_rfl, fun j t ht => ?_⟩
 rw [Tryz.params4] at ht
 have hm := Array.mem_of_getElem? ht
 have hm2 : t ∈ ([3, 22, 9, 22] : List TypeId) := by simpa using hm
 have key : ∀ t ∈ ([3, 22, 9, 22] : List TypeId), Tryz.prog.wantsStandIn t = false := fun t h => by
  simp only [List.mem_cons, List.not_mem_nil, or_false] at h
  rcases h with rfl | rfl | rfl | rfl <;> kernel_rfl
 exact key t hm2
theorem card_of (hw : RefusedWalk) : Rows.RefusedCardSaid :=
 Claim7.holds_tied_plain_at .later [] _ _ _ _ (said hw) (fun _ h => by cases h) (by kernel_rfl) (fun _ h => by cases h) refused_row_tie rfl ⟨rfl, rfl⟩ (by kernel_rfl) rfl plain (by kernel_rfl)
end RefusedC
end Go.Proofs.YtbiojnljihgpoaaGreatDoor
