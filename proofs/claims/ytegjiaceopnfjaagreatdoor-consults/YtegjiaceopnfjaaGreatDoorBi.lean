/- The law's step (promptlaw: step), at the kinds New, Consult, Listing. -/
import Derived.Test.YtegjiaceopnfjaaGreatDoorBh
import Derived.WalkKit
import Derived.Deep.LoopGhost
namespace Go.Proofs.YtegjiaceopnfjaaGreatDoor
open Go.RowKit
theorem wl_kept {base : Nat} {w w' : World} {b : Nat} {L : List Ss} {M : Nat → Prop} (h : WlAt base w b L) (hk : Kept M w w') (hM : ∀ k, base ≤ k → k < w.heap.size → ¬ M k) : WlAt base w' b L := by
  obtain ⟨v, hB, hrow, hv⟩ := h.ex
  have hsz := hk.size
  refine ⟨⟨v, (hk.block b (blk_lt hB) (hM b h.bb (blk_lt hB))).trans hB, hrow.keptBy hk (fun k e => hM k (hv k e).1 (hrow.lt k e).2), hv⟩, h.bb, fun s hs => ?_, h.apart⟩
  obtain ⟨h1, h2⟩ := h.ss s hs
  exact ⟨ss_kept h1 hk (fun k hl e => hM k (h2 k e).1 hl), fun k e => ⟨(h2 k e).1, by have := (h2 k e).2.1; omega, (h2 k e).2.2⟩⟩
theorem wl_size {base : Nat} {w : World} {b : Nat} {L : List Ss} (h : WlAt base w b L) : base ≤ w.heap.size := by
  obtain ⟨v, hB, _⟩ := h.ex
  have := blk_lt hB
  have := h.bb
  omega
theorem made_post {base b : Nat} {L : List Ss} {w wa w' : World} {r : Ending} (hb : Below base w wa) (h : MadePost base b L wa r w') : MadePost base b L w r w' :=
  ⟨h.1, hb.trans h.2.1, h.2.2⟩
set_option maxHeartbeats 1000000 in
theorem lstep_1 (base b : Nat) (L : List Ss) (x1 x2 x3 x4 : Int) (s : ByteArray) (w : World) (hW : WlAt base w b L) (hL : (L.length + 1) * 8 ≤ 140737488355328) :
    Calls Tryz.prog 6 #[.pointer (some ⟨b, 0, none⟩), .agg #[.int .i64 1, .int .i64 x1, .int .i64 x2, .int .i64 x3, .int .i64 x4, .string s]] w fun r w' => MadePost base b L w r w' := by
  have HW : Hid _ := hW
  have hbs := wl_size hW
  clear hW
  go_enter Tryz.func6, Tryz.ntmps6
  go_wp2_with (go_at_call 5; refine (made_any base b L x2 _ (wl_kept HW.out ((Kept.refl (fun _ => False) w).alloc _) (fun _ _ _ e => e)) hL).mono ?_; rintro r w1 hpost; have hr := hpost.1; subst hr)
  go_ret
  exact made_post ((Below.refl base w).alloc hbs _) hpost
/-- What a step of the other kinds needs of its two callees. -/
def NothingAt (kd x1 x2 x3 x4 : Int) (s : ByteArray) : Prop := ∀ w : World, Calls Tryz.prog 10 #[.agg #[.int .i64 kd, .int .i64 x1, .int .i64 x2, .int .i64 x3, .int .i64 x4, .string s]] w fun r w' => r = .returned (.bool true) ∧ Below w.heap.size w w'
def PlaysAt (kd x1 x2 x3 x4 : Int) (s : ByteArray) : Prop := ∀ (G : Nat → Prop) (z : Nat) (cls : List Rf.Cl) (w : World), SsAt G w z cls → (∀ k, G k → k < w.heap.size) → Tab w →
    Calls Tryz.prog 14 #[.pointer (some ⟨z, 0, none⟩), .agg #[.int .i64 kd, .int .i64 x1, .int .i64 x2, .int .i64 x3, .int .i64 x4, .string s]] w fun r w' => PlaysPost G z w r w'
set_option maxHeartbeats 2000000 in
set_option maxRecDepth 100000 in
theorem lstep_26 (kd : Int) (hkd : kd = 2 ∨ kd = 6) (base b : Nat) (L : List Ss) (x1 x2 x3 x4 : Int) (s : ByteArray) (w : World) (hW : WlAt base w b L) (hL : (L.length + 1) * 8 ≤ 140737488355328) (h1 : -9223372036854775808 ≤ x1) (h2 : x1 ≤ 9223372036854775807) (hT : Tab w)
    (hN : NothingAt kd x1 x2 x3 x4 s) (hP : PlaysAt kd x1 x2 x3 x4 s) :
    Calls Tryz.prog 6 #[.pointer (some ⟨b, 0, none⟩), .agg #[.int .i64 kd, .int .i64 x1, .int .i64 x2, .int .i64 x3, .int .i64 x4, .string s]] w fun r w' => MadePost base b L w r w' := by
  obtain ⟨v, hB, hrow, hv⟩ := hW.ex
  obtain ⟨a, c, he⟩ := row_slice hrow
  rw [List.length_map] at he
  subst he
  have hbs := wl_size hW
  have hbl := blk_lt hB
  have k0 : w.cell? ⟨b, 0, none⟩ = some (.slice a L.length c) := blk_cell hB 0
  have HW : Hid _ := hW
  have HN : Hid _ := hN
  have HP : Hid _ := hP
  have HT : Hid _ := hT
  have Hrow : Hid _ := hrow
  have d1 : (kd == 1) = false := by rcases hkd with rfl | rfl <;> rfl
  have d7 : (kd == 7) = false := by rcases hkd with rfl | rfl <;> rfl
  have d8 : (kd == 8) = false := by rcases hkd with rfl | rfl <;> rfl
  have d9 : (kd == 9) = false := by rcases hkd with rfl | rfl <;> rfl
  have d10 : (kd == 10) = false := by rcases hkd with rfl | rfl <;> rfl
  have d11 : (kd == 11) = false := by rcases hkd with rfl | rfl <;> rfl
  have d12 : (kd == 12) = false := by rcases hkd with rfl | rfl <;> rfl
  have hln : (L.length : Int) ≤ 17592186044415 := by omega
  clear hW hN hP hT hB hrow hv hkd
  go_enter Tryz.func6, Tryz.ntmps6
  go_wp2_with fail
  go_quiet ((go_at_call 9; exact Calls.quiet_of_same (pick_any x1 ((L.length : Int) + 1) _ h1 h2 (by omega) (by omega))))
  have hpk := pickP_lt (c := x1) (n := (L.length : Int) + 1) (by omega)
  generalize pickP x1 ((L.length : Int) + 1) = k at *
  have hka : Kept (fun _ => False) w ((w.alloc (.cells #[.int .i64 kd, .int .i64 x1, .int .i64 x2, .int .i64 x3, .int .i64 x4, .string s] 33)).drewN nq) := ((Kept.refl (fun _ => False) w).alloc _).drewN _
  have hba : Below w.heap.size w ((w.alloc (.cells #[.int .i64 kd, .int .i64 x1, .int .i64 x2, .int .i64 x3, .int .i64 x4, .string s] 33)).drewN nq) := ((Below.refl _ w).alloc (Nat.le_refl _) _).drewN _
  have Hka : Hid _ := hka
  have Hba : Hid _ := hba
  clear hka hba
  by_cases hkl : k = L.length
  · subst hkl
    go_wp2_with (go_at_call 10; refine (HN.out _).mono ?_; rintro r w1 ⟨rfl, hb1⟩)
    go_ret
    have hk1 : Kept (fun _ => False) w w1 := Hka.out.trans (Kept.of_below hb1 (fun _ => False)) (fun _ _ e => e)
    exact ⟨rfl, hk1.below hbs (fun _ _ e => e), L, wl_kept HW.out hk1 (fun _ _ _ e => e), by omega⟩
  · have hlt : k < L.length := by omega
    have hne : ((k : Int) == (L.length : Int)) = false := beq_eq_false_iff_ne.2 (by omega)
    have hlt' : (k : Int) < L.length := by omega
    obtain ⟨g, rfl⟩ : ∃ g, a = some ⟨g, 0, none⟩ := by
      rcases Hrow.out.shape with ⟨_, hnil⟩ | ⟨gv, cv, e, _⟩
      · have h7 := congrArg List.length hnil
        rw [List.length_map, List.length_nil] at h7
        omega
      · injection e with e1 _ _; exact ⟨gv, e1⟩
    have hgl : g < w.heap.size := (Hrow.out.lt g rfl).2
    have hcell := Hrow.out.cells ptrC_len k L[k].z (by simp [hlt]) 0 _ rfl
    simp only [Nat.mul_one, Nat.add_zero] at hcell
    have hmem : L[k] ∈ L := List.getElem_mem hlt
    have hi : Hid (L[k]? = some L[k]) := by unfold Hid; simp [hlt]
    generalize L[k] = se at *
    obtain ⟨hss, hG⟩ := HW.out.ss se hmem
    have Hss : Hid _ := ss_kept hss Hka.out (fun _ _ _ e => e)
    have HG : Hid (∀ j, se.G j → j < ((w.alloc (.cells #[.int .i64 kd, .int .i64 x1, .int .i64 x2, .int .i64 x3, .int .i64 x4, .string s] 33)).drewN nq).heap.size) := fun j e => Nat.lt_of_lt_of_le (hG j e).2.1 Hka.out.size
    clear hss hG hmem hkl
    go_wp2_with (go_at_call 14; refine (HP.out se.G se.z se.cls _ Hss.out HG.out (Tab.below HT.out Hba.out)).mono ?_; rintro r w1 ⟨rfl, hk1, cls1, hs1⟩)
    go_ret
    obtain ⟨L', hL1, hL2, hL3⟩ := wl_turn (wl_kept HW.out Hka.out (fun _ _ _ e => e)) hi.out hk1 hs1
    exact ⟨rfl, (Hka.out.below hbs (fun _ _ e => e)).trans hL3, L', hL1, by omega⟩
end Go.Proofs.YtegjiaceopnfjaaGreatDoor
/- A script as the law gets it: a row of steps in memory. -/
namespace Go.Proofs.YtegjiaceopnfjaaGreatDoor
open Go.RowKit
/-- A script's step. -/
structure StepV where
  kd : Int
  a : Int
  b : Int
  c : Int
  d : Int
  s : ByteArray
def stepCells (x : StepV) : List Value := [.int .i64 x.kd, .int .i64 x.a, .int .i64 x.b, .int .i64 x.c, .int .i64 x.d, .string x.s]
def StepOk (x : StepV) : Prop := (-9223372036854775808 ≤ x.a ∧ x.a ≤ 9223372036854775807) ∧ x.s.size ≤ maxLen
/-- The script in memory. -/
def ScrAt (w : World) (v : Value) (l : List StepV) : Prop :=
  (l = [] ∧ ∃ a c, v = .slice a 0 c) ∨
  ∃ sb so c, v = .slice (some ⟨sb, so, none⟩) l.length c ∧ sb < w.heap.size ∧ ∀ i x, l[i]? = some x → ∀ j u, (stepCells x)[j]? = some u → w.cell? ⟨sb, so + i * 6 + j, none⟩ = some u
end Go.Proofs.YtegjiaceopnfjaaGreatDoor
/- The law over a whole script (promptlaw: upTo, Consults): each step of the kinds New, Consult, Listing answers as the document does. -/
namespace Go.Proofs.YtegjiaceopnfjaaGreatDoor
open Go.RowKit
def kindAt : Nat → Int
  | 0 => 1
  | 1 => 2
  | _ => 6
/-- Is the kind among the first k of those that are played? -/
def inP (kd : Int) : Nat → Bool
  | 0 => false
  | k + 1 => inP kd k || kd == kindAt k
theorem inP_3 {kd : Int} (h : inP kd 3 = true) : kd = 1 ∨ kd = 2 ∨ kd = 6 := by
  simp only [inP, kindAt, Bool.false_or, Bool.or_eq_true, beq_iff_eq] at h
  omega
theorem lstep_any (base b : Nat) (L : List Ss) (x : StepV) (w : World) (hk : inP x.kd 3 = true) (hx : StepOk x) (hW : WlAt base w b L) (hL : (L.length + 1) * 8 ≤ 140737488355328) (hT : Tab w) :
    Calls Tryz.prog 6 #[.pointer (some ⟨b, 0, none⟩), .agg #[.int .i64 x.kd, .int .i64 x.a, .int .i64 x.b, .int .i64 x.c, .int .i64 x.d, .string x.s]] w fun r w' => MadePost base b L w r w' := by
  obtain ⟨kd, x1, x2, x3, x4, s⟩ := x
  obtain ⟨⟨h1, h2⟩, h3⟩ := hx
  rcases inP_3 hk with e | e | e
  · simp only at e; subst e
    exact lstep_1 base b L x1 x2 x3 x4 s w hW hL
  · simp only at e; subst e
    exact lstep_26 2 (.inl rfl) base b L x1 x2 x3 x4 s w hW hL h1 h2 hT (fun w => nothing_2 x1 x2 x3 x4 s w) (fun G z cls w h hlt _ => plays_2 G z cls x1 x2 x3 x4 s w h hlt h3)
  · simp only at e; subst e
    exact lstep_26 6 (.inr rfl) base b L x1 x2 x3 x4 s w hW hL h1 h2 hT (fun w => nothing_6 x1 x2 x3 x4 s w) (fun G z cls w h _ hT => plays_6 G z cls x1 x2 x3 x4 s w h hT)
set_option maxHeartbeats 2000000 in
set_option maxRecDepth 100000 in
theorem upTo_any (w : World) (v : Value) (l : List StepV) (kb : Nat) (hS : ScrAt w v l) (hok : ∀ x ∈ l, StepOk x) (hn : (l.length + 2) * 8 ≤ 140737488355328) (hkl : kb < w.heap.size) (hK : ∀ k, k < 3 → w.cell? ⟨kb, k, none⟩ = some (.int .i64 (kindAt k))) (hT : Tab w) :
    Calls Tryz.prog 4 #[v, .slice (some ⟨kb, 0, none⟩) 3 3] w fun r w' => r = .returned (.bool true) ∧ Below w.heap.size w w' := by
  have hnl : (l.length : Int) ≤ 17592186044414 := by omega
  obtain ⟨va, vc, hv⟩ : ∃ a c, v = .slice a l.length c := by
    rcases hS with ⟨rfl, a, c, e⟩ | ⟨sb, so, c, e, _⟩
    · exact ⟨a, c, e⟩
    · exact ⟨_, c, e⟩
  subst hv
  have HS : Hid _ := hS
  have Hok : Hid _ := hok
  have HK : Hid _ := hK
  have HT : Hid _ := hT
  clear hS hok hK hT
  have hB0 : WlB (w.alloc (.cells #[.slice none 0 0, .slice none 0 0] 30)) w.heap.size (.slice none 0 0) := blk_new _ _
  have hW0 : WlAt w.heap.size (w.alloc (.cells #[.slice none 0 0, .slice none 0 0] 30)) w.heap.size [] :=
    ⟨⟨_, hB0, RowIs.nil _ _ _ _ _, fun k e => by simp [Value.ownBlock] at e⟩, Nat.le_refl _, fun s hs => by simp at hs, fun i j s t hi => by simp at hi⟩
  have HW0 : Hid _ := hW0
  clear hW0 hB0
  go_enter Tryz.func4, Tryz.ntmps4
  go_wp2_with (go_at_call 5; refine (made_any w.heap.size w.heap.size [] 1 _ HW0.out (by decide)).mono ?_; rintro r w1 ⟨rfl, hb1, L1, hW1, hL1⟩; have HW1 : Hid _ := hW1; clear hW1; have hb01 : Below w.heap.size w w1 := ((Below.refl _ w).alloc (Nat.le_refl _) _).trans hb1)
  go_loopg [7, 8, 9, 10] (l.length + 1) (fun m iv _ _ _ wr => ∃ i : Nat, i ≤ l.length ∧ m = l.length + 1 - i ∧ iv = .int .i64 i ∧ ∃ L, Hid (WlAt w.heap.size wr w.heap.size L) ∧ L.length ≤ i + 1 ∧ Below w.heap.size w wr)
  case atStart => exact ⟨0, by omega, rfl, rfl, L1, HW1, by simpa using hL1, hb01⟩
  case round =>
    obtain ⟨i, hi, rfl, rfl, L, HW, hLl, hbr⟩ := hrel
    clear HW1 hb01 hb1
    by_cases hlt : i < l.length
    · obtain ⟨sb, so, c, e, hsbl, hcells⟩ := HS.out.resolve_left (fun e => by rw [e.1] at hlt; simp at hlt)
      injection e with e1 _ e3
      subst e1; subst e3
      have hmem : l[i] ∈ l := List.getElem_mem hlt
      have hxok := Hok.out _ hmem
      have hcs := hcells i l[i] (by simp [hlt])
      clear hmem hcells
      generalize l[i] = x at *
      have Hxok : Hid _ := hxok
      clear hxok
      have hlt' : (i : Int) < l.length := by omega
      obtain ⟨wo, rfl⟩ : ∃ wo : World, wo = wr := ⟨_, rfl⟩
      go_wp2_with fail
      go_loopg [8, 9] 4 (fun m bv kv wi => ∃ k : Nat, k ≤ 3 ∧ m = 4 - k ∧ kv = .int .i64 k ∧ bv = .bool (inP x.kd k) ∧ Hid (WlAt w.heap.size wi w.heap.size L) ∧ Below w.heap.size w wi)
      case atStart => exact ⟨0, by omega, rfl, rfl, rfl, HW, hbr⟩
      case round =>
        obtain ⟨k, hk, rfl, rfl, rfl, HWi, hbi⟩ := hrel
        clear HW hbr
        have hcc : ∀ j u, (stepCells x)[j]? = some u → wr.cell? ⟨sb, so + i * 6 + j, none⟩ = some u := fun j u hj => (hbi.cell (p := ⟨sb, so + i * 6 + j, none⟩) hsbl).trans (hcs j u hj)
        have c0 : wr.cell? ⟨sb, so + i * 6, none⟩ = some (.int .i64 x.kd) := hcc 0 _ rfl
        by_cases hk3 : k < 3
        · have cK : wr.cell? ⟨kb, k, none⟩ = some (.int .i64 (kindAt k)) := (hbi.cell (p := ⟨kb, k, none⟩) hkl).trans (HK.out k hk3)
          have hk3' : (k : Int) < 3 := by omega
          have Hin : Hid (inP x.kd (k + 1) = (inP x.kd k || x.kd == kindAt k)) := rfl
          have Hkd : Hid (∀ n, WlAt w.heap.size (wr.drewN n) w.heap.size L ∧ Below w.heap.size w (wr.drewN n)) := fun n => ⟨wl_kept HWi.out ((Kept.refl (fun _ => False) wr).drewN n) (fun _ _ _ e => e), hbi.drewN n⟩
          clear hcc
          cases hin : inP x.kd k
          · rw [hin] at Hin
            go_wp2_with fail
            go_quiet (fail)
            go_wp2_with fail
            go_roundg (3 - k)
            case measure => omega
            case rel => exact ⟨k + 1, by omega, by omega, by go_num, by rw [Hin.out]; rfl, (Hkd.out _).1, (Hkd.out _).2⟩
          · rw [hin] at Hin
            go_wp2_with fail
            go_quiet (fail)
            go_wp2_with fail
            go_roundg (3 - k)
            case measure => omega
            case rel => exact ⟨k + 1, by omega, by omega, by go_num, by rw [Hin.out]; rfl, (Hkd.out _).1, (Hkd.out _).2⟩
        · obtain rfl : k = 3 := by omega
          have c1 : wr.cell? ⟨sb, so + i * 6 + 1, none⟩ = some (.int .i64 x.a) := hcc 1 _ rfl
          have c2 : wr.cell? ⟨sb, so + i * 6 + 2, none⟩ = some (.int .i64 x.b) := hcc 2 _ rfl
          have c3 : wr.cell? ⟨sb, so + i * 6 + 3, none⟩ = some (.int .i64 x.c) := hcc 3 _ rfl
          have c4 : wr.cell? ⟨sb, so + i * 6 + 4, none⟩ = some (.int .i64 x.d) := hcc 4 _ rfl
          have c5 : wr.cell? ⟨sb, so + i * 6 + 5, none⟩ = some (.string x.s) := hcc 5 _ rfl
          clear hcc
          cases hin : inP x.kd 3
          · go_wp2_with fail
            go_roundg (l.length - i)
            case measure => omega
            case rel => exact ⟨i + 1, by omega, by omega, by go_num, L, HWi, by omega, hbi⟩
          · have Hin : Hid _ := hin
            go_wp2_with (go_at_call 6; refine (lstep_any w.heap.size w.heap.size L x _ Hin.out Hxok.out HWi.out (by omega) (Tab.below HT.out hbi)).mono ?_; rintro r w2 ⟨rfl, hb2, L2, hW2, hL2⟩)
            go_roundg (l.length - i)
            case measure => omega
            case rel => exact ⟨i + 1, by omega, by omega, by go_num, L2, hW2, by omega, hbi.trans hb2⟩
    · obtain rfl : i = l.length := by omega
      go_wp2_with fail
      go_ret
      exact ⟨rfl, hbr⟩
set_option maxHeartbeats 1000000 in
theorem consults_any (w : World) (v : Value) (l : List StepV) (hS : ScrAt w v l) (hok : ∀ x ∈ l, StepOk x) (hn : (l.length + 2) * 8 ≤ 140737488355328) (hT : Tab w) :
    Calls Tryz.prog 3 #[v] w fun r w' => r = .returned (.bool true) ∧ Below w.heap.size w w' := by
  have hb0 : Below w.heap.size w (w.alloc (.cells #[.int .i64 1, .int .i64 2, .int .i64 6] 3)) := (Below.refl _ w).alloc (Nat.le_refl _) _
  have hS' : ScrAt (w.alloc (.cells #[.int .i64 1, .int .i64 2, .int .i64 6] 3)) v l := by
    rcases hS with h | ⟨sb, so, c, h1, h2, h3⟩
    · exact .inl h
    · exact .inr ⟨sb, so, c, h1, by simp; omega, fun i x hi j u hu => (hb0.cell (p := ⟨sb, so + i * 6 + j, none⟩) h2).trans (h3 i x hi j u hu)⟩
  have hK : ∀ k, k < 3 → (w.alloc (.cells #[.int .i64 1, .int .i64 2, .int .i64 6] 3)).cell? ⟨w.heap.size, k, none⟩ = some (.int .i64 (kindAt k)) := by
    intro k hk
    rw [blk_cell (blk_new w _) k]
    match k, hk with
    | 0, _ => rfl
    | 1, _ => rfl
    | 2, _ => rfl
  have HS : Hid _ := hS'
  have HK : Hid _ := hK
  have Hok : Hid _ := hok
  have HT : Hid _ := Tab.below hT hb0
  clear hS hS' hK hok hT
  go_enter Tryz.func3, Tryz.ntmps3
  go_wp2_with (go_at_call 4; refine (upTo_any _ v l w.heap.size HS.out Hok.out hn (by simp) HK.out HT.out).mono ?_; rintro r w1 ⟨rfl, hb1⟩)
  go_ret
  exact ⟨rfl, hb0.trans (hb1.mono (by simp))⟩
end Go.Proofs.YtegjiaceopnfjaaGreatDoor
