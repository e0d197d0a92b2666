/- What the document's reading does at a text (promptref: Clauses): the plain function's answer, in new memory. -/
import Derived.Test.YthdmbbfaphipkaaGreatDoorYau
import Derived.Deep.LoopGhost
import Derived.Test.YthdmbbfaphipkaaGreatDoorYaa
import Derived.Laws.BytesArg
import Derived.Test.YthdmbbfaphipkaaGreatDoorYab
import Derived.Lib.AppendIntMem
namespace Go.Proofs.YthdmbbfaphipkaaGreatDoor
open Go.RowKit
def ClsSt (w : World) (b g f : Nat) (want : Except (Int × Nat) (List Rf.Cl)) (m : Nat) (v : Value) (wr : World) : Prop :=
  Below w.heap.size w wr ∧ w.heap.size ≤ b ∧
  ((∃ acc l1 ns1 nb1, l1.length < m ∧ m + acc.length ≤ 402 ∧ Rd wr b g nb1 l1 ns1 ∧ l1.length ≤ f ∧ (∀ x, nb1 = some x → w.heap.size ≤ x) ∧ ClsAt (Fb w wr b nb1) wr v acc ∧ v.ownBlock ≠ some g ∧ Hid (want = Rf.clausesS f m (acc.map (·.2)) l1)) ∨
   (∃ (e : Int) (q : Nat), m = 0 ∧ RdE wr b e q ∧ Hid (want = .error (e, q))))
theorem ClsAt.below {w w1 : World} {F F' : Nat → Prop} {v : Value} {acc : List (ClV × Rf.Cl)} (h : ClsAt F w v acc) (hb : Below w.heap.size w w1) (o : Obj) (hF : ∀ k, F k → F' k) : ClsAt F' (w1.alloc o) v acc :=
  ⟨(h.row.below hb).alloc o, fun k e => hF k (h.rowF k e), fun q hq => ⟨(h.cls q hq).1.keptBy ((Kept.of_below hb (fun _ => False)).alloc o) (fun k _ hk => ⟨fun e => e, hF k hk.1, hk.2⟩), (h.cls q hq).2⟩, h.none⟩
theorem ClsAt.mono {w : World} {F F' : Nat → Prop} {v : Value} {acc : List (ClV × Rf.Cl)} (h : ClsAt F w v acc) (hF : ∀ k, F k → F' k) : ClsAt F' w v acc :=
  ⟨h.row, fun k e => hF k (h.rowF k e), fun q hq => ⟨(h.cls q hq).1.keptBy (Kept.refl (fun _ => False) _) (fun k _ hk => ⟨fun e => e, hF k hk.1, hk.2⟩), (h.cls q hq).2⟩, h.none⟩
theorem cls_ok {w w2 w3 w4 : World} {b g : Nat} {o1 o2 : Obj} {nb1 nb3 : Option Nat} {v : Value} {acc : List (ClV × Rf.Cl)} {x : ClV} {cl : Rf.Cl} {l l3 : List Rf.Tok} {ns ns3 : List ByteArray} {gA n capA : Nat}
    (hs : w.heap.size ≤ w2.heap.size) (hR2 : Rd w2 b g nb1 l ns) (hA : ClsAt (Fb w w2 b nb1) w2 v acc) (hK3 : Kept (May b nb1) w2 w3) (hR3 : Rd w3 b g nb3 l3 ns3) (hn3 : ∀ y, nb3 = some y → w2.heap.size ≤ y)
    (hC : ClAt (New w2 w3 nb3) w3 x.p (.slice x.a x.n x.c) cl) (hk : x.k = cl.vars) (hgr : ((w3.alloc o1).alloc o2).grownBy w4 v.ownBlock) (hn : Nb ((w3.alloc o1).alloc o2) v.ownBlock (some gA))
    (hr : RowIs w4 0 114 3 clCells (.slice (some ⟨gA, 0, none⟩) n capA) ((acc.map (·.1)) ++ [x])) (hvg : v.ownBlock ≠ some g) :
    ClsAt (Fb w w4 b nb3) w4 (.slice (some ⟨gA, 0, none⟩) n capA) (acc ++ [(x, cl)]) ∧ Rd w4 b g nb3 l3 ns3 := by
  have hb2 := hR2.lt.1
  have hb3 := hR3.lt.1
  have hs3 := hK3.size
  have hs4 : w3.heap.size + 2 ≤ w4.heap.size := by have := hgr.size; simpa using this
  have hk4 : Kept (fun k => v.ownBlock = some k) w3 w4 := ((((Kept.refl (fun k => v.ownBlock = some k) w3).alloc o1).alloc o2).grown hgr (fun k e => .inr e))
  have hgl : gA < w4.heap.size := (hr.lt gA rfl).2
  have hvl : ∀ k, v.ownBlock = some k → k < w2.heap.size := fun k e => (hA.rowF k e).2.1
  have hgn : w.heap.size ≤ gA ∧ nb3 ≠ some gA ∧ gA ≠ b := by
    rcases hn with e | ⟨k, e, hk⟩
    · have := hA.rowF gA e.symm
      exact ⟨this.1, fun e2 => by have := hn3 gA e2; have := hvl gA e.symm; omega, this.2.2.2⟩
    · have := Option.some.inj e
      simp at hk
      exact ⟨by omega, fun e2 => by have := (hR3.lt.2.2.1 gA e2).1; omega, by omega⟩
  refine ⟨⟨by rw [List.map_append]; exact hr, fun k e => ?_, fun q hq => ?_, fun e => by simp at e⟩, hR3.keptBy hk4 (fun e => (hA.rowF b e).2.2.2 rfl) hvg (fun k e e2 => by have := hn3 k e; have := hvl k e2; omega)⟩
  · obtain rfl := Option.some.inj e
    exact ⟨hgn.1, hgl, hgn.2.1, hgn.2.2⟩
  · have hown : ∀ k, k < w3.heap.size → v.ownBlock ≠ some k → (Value.slice (some ⟨gA, 0, none⟩) n capA).ownBlock ≠ some k := fun k hk h e => hn.ne h (by simp; omega) e
    rcases List.mem_append.1 hq with hq | hq
    · refine ⟨((hA.cls q hq).1.keptBy hK3 (F' := fun k => Fb w w3 b nb3 k ∧ v.ownBlock ≠ some k) (fun k hk1 hF => ?_)).keptBy hk4 (fun k hk1 hF => ?_), (hA.cls q hq).2⟩
      · obtain ⟨⟨f1, f2, f3, f4⟩, f5⟩ := hF
        exact ⟨fun e => by rcases e with e | e; exact f4 e; exact f3 e.symm, ⟨f1, by omega, fun e => by have := hn3 k e; omega, f4⟩, f5⟩
      · obtain ⟨⟨f1, f2, f3, f4⟩, f5⟩ := hF
        exact ⟨f5, ⟨f1, by omega, f3, f4⟩, hown k hk1 f5⟩
    · simp at hq; subst hq
      refine ⟨hC.keptBy hk4 (fun k hk1 hF => ?_), hk⟩
      obtain ⟨f1, f2, f3⟩ := hF
      have hv : v.ownBlock ≠ some k := fun e => by have := hvl k e; omega
      exact ⟨hv, ⟨by omega, by omega, f3, by omega⟩, hown k hk1 hv⟩
/-- What reading a text of clauses leaves. -/
def ClausesPost (w : World) (res : Except (Int × Nat) (List Rf.Cl)) (r : Ending) (w' : World) : Prop :=
  Below w.heap.size w w' ∧
  (match res with
   | .ok cls => ∃ v acc, r = .returned (.tuple #[v, .int .i64 0, .int .i64 0]) ∧ ClsAt (fun k => w.heap.size ≤ k ∧ k < w'.heap.size) w' v acc ∧ cls = acc.map (·.2)
   | .error (e, q) => r = .returned (.tuple #[.slice none 0 0, .int .i64 e, .int .i64 q]) ∧ e ≠ 0)
set_option maxHeartbeats 400000 in
theorem clauses_long (s : ByteArray) (w : World) (hs : 400 < s.size) (hm : s.size ≤ maxLen) :
    Calls Tryz.prog 42 #[.string s] w fun r w' => ClausesPost w (Rf.readS s) r w' := by
  have hS : Hid (Rf.readS s = .error (1, 0)) := by unfold Hid Rf.readS; rw [if_pos hs]
  unfold maxLen at hm
  go_enter Tryz.func42, Tryz.ntmps42
  go_wp2
  go_ret3
  rw [hS.out]
  exact ⟨Below.refl _ _, rfl, by decide⟩
set_option maxHeartbeats 1000000 in
set_option maxRecDepth 100000 in
theorem clauses_short (s : ByteArray) (w : World) (hs : s.size ≤ 400) :
    Calls Tryz.prog 42 #[.string s] w fun r w' => ClausesPost w (Rf.readS s) r w' := by
  have hS : Hid (Rf.readS s = Rf.clausesS (Rf.tokens s).length ((Rf.tokens s).length + 1) [] (Rf.tokens s)) := by unfold Hid Rf.readS; rw [if_neg (by omega)]
  have hlen : (Rf.tokens s).length ≤ 401 := by have := Rf.toks_len s s.size 0; unfold Rf.tokens; omega
  have hend : Rf.Ended (Rf.tokens s) := Rf.toks_ended s _ _
  generalize hL : Rf.tokens s = L at *
  have HL : Hid _ := hL
  clear hL
  generalize Rf.readS s = want at *
  have Hend : Hid _ := hend
  clear hend
  go_enter Tryz.func42, Tryz.ntmps42
  go_wp2_with (go_at_call 66; refine (tokens_any s _ hs).mono ?_; rintro r w1 ⟨vT, rfl, hrow, hb1⟩; rw [HL.out] at hrow; obtain ⟨gT, capT, rfl, hgT, hgl, hcT, hcm⟩ := hrow.shape.resolve_left (fun x => Hend.out.ne x.2))
  generalize hbb : w1.heap.size = b
  have Hb : Hid _ := hbb
  clear hbb
  have hs1 := hb1.size
  have hgb : Hid (gT < b) := by have := Hb.out; unfold Hid; omega
  have hwb : Hid (w.heap.size ≤ b) := by have := Hb.out; unfold Hid; omega
  go_loopg [6, 7, 8] (L.length + 1) (fun m v _ _ wr => ClsSt w b gT L.length want m v wr)
  case atStart =>
    refine ⟨hb1.alloc (by omega) _, hwb.out, .inl ⟨[], L, [], none, by omega, by simp; omega, ⟨capT, 0, .slice none 0 0, L, blk_at _ _ _ Hb.out.symm, rfl, Hend.out, hlen, RowIs.alloc ⟨ownsRow_base hrow.own (fun _ _ => Nat.zero_le _)⟩ _, RowIs.nil _ _ _ _ _, rfl, by have := hgb.out; omega, by simp, by simp, by simp⟩, Nat.le_refl _, (fun x e => by cases e), ⟨RowIs.nil _ _ _ _ _, (fun k e => by simp [Value.ownBlock] at e), (fun q hq => by simp at hq), fun _ => rfl⟩, by simp [Value.ownBlock], hS⟩⟩
  case round =>
    have Hrow : Hid _ := hrow
    clear hrow
    obtain ⟨hbr, _, hst⟩ := hrel
    rcases hst with ⟨acc, l1, ns1, nb1, hm1, hm2, hR, hlf, hnn, hA, hvg, hwant⟩ | ⟨e, q, rfl, hE, hwant⟩
    · obtain ⟨t, l, rfl⟩ : ∃ t l, l1 = t :: l := by
        cases l1 with
        | nil => exact absurd rfl hR.ended.ne
        | cons t l => exact ⟨t, l, rfl⟩
      obtain ⟨m', rfl⟩ : ∃ m', gk = m' + 1 := ⟨gk - 1, by omega⟩
      obtain ⟨yL, yI, ya, yn, yc, hBr⟩ := hR.err
      obtain ⟨y0, y1, y2, y3, y4, yf, yb⟩ := hBr.facts
      clear hBr
      have hszr := hbr.size
      cases ht0 : (t.k == 0)
      · have e0 : t.k ≠ 0 := beq_eq_false_iff_ne.1 ht0
        cases hres : Rf.clauseS L.length (t :: l) with
        | error x =>
          obtain ⟨e, q⟩ := x
          have hwe : Hid (want = .error (e, q)) := by unfold Hid; rw [hwant.out, Rf.clausesS, if_neg e0, hres]
          have HR : Hid _ := hres
          clear hres e0
          go_wp2_with (first
            | (go_at_call 67; refine (now_any b gT nb1 t l ns1 _ hR).mono ?_; rintro r w2 ⟨rfl, hb2⟩; have hR2 := (hR.below hb2).alloc (.cells #[.int .u8 t.k, .int .i64 t.at_, .string t.s, .int .i64 t.e] 149); have hA2 : ClsAt (Fb w (w2.alloc (.cells #[.int .u8 t.k, .int .i64 t.at_, .string t.s, .int .i64 t.e] 149)) b nb1) (w2.alloc (.cells #[.int .u8 t.k, .int .i64 t.at_, .string t.s, .int .i64 t.e] 149)) u6 acc := hA.below hb2 _ (fun k hk => ⟨hk.1, by have := hb2.size; have := hk.2.1; simp; omega, hk.2.2⟩))
            | (go_at_call 68; refine (clause_any L.length b gT nb1 (t :: l) ns1 _ hR2 hlf).mono ?_; rintro r w3 ⟨p, a, n, c, kk, rfl, hK3, hm⟩; rw [HR.out] at hm; have hs3 := hK3.size; have hA3row := hA2.row.keptBy hK3 (fun k e e2 => by rcases e2 with e2 | e2; exact (hA2.rowF k e).2.2.2 e2; exact (hA2.rowF k e).2.2.1 e2.symm))
            | (at_builtin; refine wpList_app Tryz.elemClause clCells clCells_len clCells_one _ rfl (.tmp 29) (.tmp 31) rfl 0 _ (acc.map (·.1)) rfl ((hA3row.alloc _).alloc _) ⟨_, 0, none⟩ 1 (⟨p, a, n, c, kk⟩ : ClV) rfl (cell_three_at _ _ (by simp) _ _ _ _) (by simp; omega) (Nat.zero_le _) ?_; intro gA capA w4 hrow4 hgr4 hnb4; rw [List.length_map] at hrow4))
          go_roundg 0
          case measure => omega
          case rel =>
            have hs2 := hb2.size
            have hs2' : w.heap.size ≤ (w2.alloc (.cells #[.int .u8 t.k, .int .i64 t.at_, .string t.s, .int .i64 t.e] 149)).heap.size := by simp; omega
            have hB3 : Below w.heap.size w w3 := ((hbr.trans (hb2.mono hszr)).alloc (by omega) _).trans (hK3.below hs2' (fun k hk e => by
              rcases e with e | e
              · have := hwb.out; omega
              · have := hnn k e.symm; omega))
            have hB4 : Below w.heap.size w w4 := ((hB3.alloc hB3.size _).alloc (by have := hB3.size; simp; omega) _).grown hgr4 (by have := hB3.size; simp; omega) (fun k e => (hA2.rowF k e).1)
            refine ⟨hB4, hwb.out, .inr ⟨e, q, rfl, RdE.keptBy hm ((((Kept.refl (fun k => u6.ownBlock = some k) w3).alloc _).alloc _).grown hgr4 (fun k e => .inr e)) (fun e => (hA2.rowF b e).2.2.2 rfl), hwe⟩⟩
        | ok x =>
          obtain ⟨cl, l'⟩ := x
          have hlen' := Rf.clauseS_len hres
          have hwe : Hid (want = Rf.clausesS L.length m' (acc.map (·.2) ++ [cl]) l') := by unfold Hid; rw [hwant.out, Rf.clausesS, if_neg e0, hres]
          have HR : Hid _ := hres
          clear hres e0
          go_wp2_with (first
            | (go_at_call 67; refine (now_any b gT nb1 t l ns1 _ hR).mono ?_; rintro r w2 ⟨rfl, hb2⟩; have hR2 := (hR.below hb2).alloc (.cells #[.int .u8 t.k, .int .i64 t.at_, .string t.s, .int .i64 t.e] 149); have hA2 : ClsAt (Fb w (w2.alloc (.cells #[.int .u8 t.k, .int .i64 t.at_, .string t.s, .int .i64 t.e] 149)) b nb1) (w2.alloc (.cells #[.int .u8 t.k, .int .i64 t.at_, .string t.s, .int .i64 t.e] 149)) u6 acc := hA.below hb2 _ (fun k hk => ⟨hk.1, by have := hb2.size; have := hk.2.1; simp; omega, hk.2.2⟩))
            | (go_at_call 68; refine (clause_any L.length b gT nb1 (t :: l) ns1 _ hR2 hlf).mono ?_; rintro r w3 ⟨p, a, n, c, kk, rfl, hK3, hm⟩; rw [HR.out] at hm; have hs3 := hK3.size; have hA3row := hA2.row.keptBy hK3 (fun k e e2 => by rcases e2 with e2 | e2; exact (hA2.rowF k e).2.2.2 e2; exact (hA2.rowF k e).2.2.1 e2.symm); obtain ⟨nb3, ns3, hR3, hn3, hC3, hk3⟩ := hm; have Hk3 : Hid _ := hk3; clear hk3)
            | (at_builtin; refine wpList_app Tryz.elemClause clCells clCells_len clCells_one _ rfl (.tmp 29) (.tmp 31) rfl 0 _ (acc.map (·.1)) rfl ((hA3row.alloc _).alloc _) ⟨_, 0, none⟩ 1 (⟨p, a, n, c, kk⟩ : ClV) rfl (cell_three_at _ _ (by simp) _ _ _ _) (by simp; omega) (Nat.zero_le _) ?_; intro gA capA w4 hrow4 hgr4 hnb4; rw [List.length_map] at hrow4))
          go_roundg m'
          case measure => omega
          case rel =>
            have hs2 := hb2.size
            have hs2' : w.heap.size ≤ (w2.alloc (.cells #[.int .u8 t.k, .int .i64 t.at_, .string t.s, .int .i64 t.e] 149)).heap.size := by simp; omega
            have hB3 : Below w.heap.size w w3 := ((hbr.trans (hb2.mono hszr)).alloc (by omega) _).trans (hK3.below hs2' (fun k hk e => by
              rcases e with e | e
              · have := hwb.out; omega
              · have := hnn k e.symm; omega))
            have hB4 : Below w.heap.size w w4 := ((hB3.alloc hB3.size _).alloc (by have := hB3.size; simp; omega) _).grown hgr4 (by have := hB3.size; simp; omega) (fun k e => (hA2.rowF k e).1)
            obtain ⟨hA4, hR4⟩ := cls_ok hs2' hR2 hA2 hK3 hR3 hn3 hC3 Hk3.out hgr4 hnb4 hrow4 hvg
            refine ⟨hB4, hwb.out, .inl ⟨acc ++ [(⟨p, a, n, c, kk⟩, cl)], l', ns3, nb3, ?_, ?_, hR4, ?_, fun x e => ?_, hA4, ?_, ?_⟩⟩
            · simp only [List.length_cons] at hlen' hm1; omega
            · simp; omega
            · simp only [List.length_cons] at hlen' hlf; omega
            · have := hn3 x e; omega
            · exact hnb4.ne hvg (by have := hgb.out; have := hR3.lt.1; simp; omega)
            · have h9 := hwe.out
              simp only [List.map_append, List.map_cons, List.map_nil]
              exact h9
      · have hwe : Hid (want = .ok (acc.map (·.2))) := by unfold Hid; rw [hwant.out, Rf.clausesS, if_pos (eq_of_beq ht0)]
        go_wp2_with (go_at_call 67; refine (now_any b gT nb1 t l ns1 _ hR).mono ?_; rintro r w2 ⟨rfl, hb2⟩; have hR2 := (hR.below hb2).alloc (.cells #[.int .u8 t.k, .int .i64 t.at_, .string t.s, .int .i64 t.e] 149); have hA2 : ClsAt (Fb w (w2.alloc (.cells #[.int .u8 t.k, .int .i64 t.at_, .string t.s, .int .i64 t.e] 149)) b nb1) (w2.alloc (.cells #[.int .u8 t.k, .int .i64 t.at_, .string t.s, .int .i64 t.e] 149)) u6 acc := hA.below hb2 _ (fun k hk => ⟨hk.1, by have := hb2.size; have := hk.2.1; simp; omega, hk.2.2⟩))
        go_ret3
        rw [hwe.out]
        exact ⟨(hbr.trans (hb2.mono hszr)).alloc (by have := hb2.size; omega) _, _, acc, rfl, hA2.mono (fun k hk => ⟨hk.1, hk.2.1⟩), rfl⟩
    · obtain ⟨yL, yI, ya, yn, yc, hBr, hne⟩ := hE.ex
      obtain ⟨y0, y1, y2, y3, y4, yf, yb⟩ := hBr.facts
      have he0 : (e == 0) = false := beq_eq_false_iff_ne.2 hne
      clear hBr
      go_wp2_with fail
      go_region
      go_wp2_with fail
      go_ret3
      rw [hwant.out]
      exact ⟨hbr.drew, rfl, hne⟩
theorem clauses_any (s : ByteArray) (w : World) (hm : s.size ≤ maxLen) :
    Calls Tryz.prog 42 #[.string s] w fun r w' => ClausesPost w (Rf.readS s) r w' := by
  by_cases h : 400 < s.size
  · exact clauses_long s w h hm
  · exact clauses_short s w (by omega)
end Go.Proofs.YthdmbbfaphipkaaGreatDoor
/- How the document writes terms (promptref: letters, Written). -/
namespace Go.Proofs.YthdmbbfaphipkaaGreatDoor
open Go.RowKit
def lettersL (k : Nat) : List ByteArray := (List.range k).map (fun (i : Nat) => Rf.letterOf (i : Int))
theorem lettersL_succ (k : Nat) : lettersL (k + 1) = lettersL k ++ [Rf.letterOf k] := by simp [lettersL, List.range_succ]
theorem conv_one (c : Int) (w : World) : (convert 88 9 (.slice (some ⟨w.heap.size, 0, none⟩) 1 1)).run Tryz.prog (w.alloc (.cells #[.int .u8 c] 5)) = .ok (.string (strOfNums [c])) (w.alloc (.cells #[.int .u8 c] 5)) :=
  run_convert_bytes_arg (P := Tryz.prog) _ 88 5 Tryz.underlying88 Tryz.underlying5 w.heap.size 0 1 1 [c] rfl (fun i hi => by
    obtain rfl : i = 0 := by omega
    simp) 9 Tryz.underlying9
theorem str_letter (k : Nat) (h : k < 16) : strOfNums [65 + (k : Int)] = Rf.letterOf k := by
  unfold Rf.letterOf strOfNums
  have e : (65 + (k : Int)).toNat = 65 + k := by omega
  have e2 : (k : Int).toNat = k := by omega
  rw [if_pos (by omega), e2]
  simp only [List.map_cons, List.map_nil, e]
set_option maxHeartbeats 1000000 in
set_option maxRecDepth 100000 in
theorem letters_any (w : World) :
    Calls Tryz.prog 77 #[] w fun r w' => ∃ v, r = .returned v ∧ RowIs w' w.heap.size 9 1 strCells v (lettersL 16) ∧ Below w.heap.size w w' := by
  go_enter Tryz.func77, Tryz.ntmps77
  go_wp2_with fail
  go_loopg [1, 2] 17 (fun m v c wr => ∃ k : Nat, k ≤ 16 ∧ m = 17 - k ∧ c = .int .u8 (65 + k : Int) ∧ RowIs wr w.heap.size 9 1 strCells v (lettersL k) ∧ Below w.heap.size w wr)
  case atStart => exact ⟨0, by omega, rfl, rfl, RowIs.nil _ _ _ _ _, Below.refl _ _⟩
  case round =>
    obtain ⟨k, hk, rfl, rfl, hrow, hb⟩ := hrel
    have hsz := hb.size
    by_cases h16 : k < 16
    · have hcv := conv_one (65 + (k : Int)) wr
      have HL : Hid _ := str_letter k h16
      go_wp2_with (at_builtin; refine wpList_app Tryz.elemStr strCells strCells_len strCells_one _ rfl (.tmp 7) (.tmp 11) rfl w.heap.size _ (lettersL k) rfl ((hrow.alloc _).alloc _) ⟨_, 0, none⟩ 1 (strOfNums [65 + (k : Int)]) rfl (cell_one_at _ _ (by simp) _ _) (by simp [lettersL]; omega) (by simp; omega) ?_; intro g cap w2 hrow2 hgr2 _)
      go_roundg (16 - k)
      case measure => omega
      case rel =>
        refine ⟨k + 1, by omega, by omega, ?_, ?_, ?_⟩
        · go_num
        · rw [lettersL_succ, ← HL.out]; exact hrow2
        · exact ((hb.alloc (by omega) _).alloc (by simp; omega) _).grown hgr2 (by simp; omega) (fun j e => (hrow.lt j e).1)
    · obtain rfl : k = 16 := by omega
      go_wp2_with fail
      go_ret
      exact ⟨_, rfl, hrow, hb⟩
end Go.Proofs.YthdmbbfaphipkaaGreatDoor
/- How the document writes a term (promptref: Written): the plain function's text. -/
namespace Go.Proofs.YthdmbbfaphipkaaGreatDoor
open Go.RowKit
theorem TermAt.wf {F : Nat → Prop} {w : World} : ∀ {d p : Nat} {ps : List Rf.Part}, TermAt F w d p ps → Rf.Wf d ps
  | 0, _, _, h => h.elim
  | d + 1, p, ps, h => by
    rcases h.2 with ⟨i, _, e⟩ | ⟨n, _, e⟩ | ⟨s, _, e⟩ | ⟨s, v, qs, _, _, _, h1, _, h2, e⟩
    · exact .inl ⟨_, e, rfl⟩
    · exact .inl ⟨_, e, rfl⟩
    · exact .inl ⟨_, e, rfl⟩
    · refine .inr ⟨s, qs.map (·.2), by simpa using h1, fun q hq => ?_, by rw [e]; simp⟩
      obtain ⟨x, hx, rfl⟩ := List.mem_map.1 hq
      exact TermAt.wf (h2 x hx)
theorem lettersL_at (i : Nat) (h : i < 16) : (lettersL 16)[i]? = some (Rf.letterOf i) := by
  simp [lettersL, h]
def WrIH (d : Nat) : Prop := ∀ (F : Nat → Prop) (w : World) (p : Nat) (ps : List Rf.Part) (g n cap base : Nat), TermAt F w d p ps → (∀ x ∈ ps, Rf.Good x) → ps.length ≤ 100000 → RowIs w base 9 1 strCells (.slice (some ⟨g, 0, none⟩) n cap) (lettersL 16) → n = 16 → Tab w →
  Calls Tryz.prog 78 #[.pointer (some ⟨p, 0, none⟩), .slice (some ⟨g, 0, none⟩) n cap] w fun r w' => r = .returned (.string (Rf.txt ps)) ∧ Below w.heap.size w w'
set_option maxHeartbeats 1000000 in
theorem written_step (d : Nat) (IH : WrIH d) : WrIH (d + 1) := by
  intro F w p ps g n cap base h hgood hlen hrow hn hT
  subst hn
  have HI : Hid _ := IH
  clear IH
  rcases h.2 with ⟨i, hb, e⟩ | ⟨v, hb, e⟩ | ⟨s, hb, e⟩ | ⟨s, v, qs, hb, hrq, _, h1, h4, hq, e⟩
  · obtain ⟨hi0, hi1⟩ := (hgood ⟨1, ⟨#[]⟩, i, 0⟩ (by rw [e]; simp)).1 rfl
    have hx : Hid (Rf.txt ps = Rf.letterOf i) := by unfold Hid; rw [e]; simp [Rf.txt, Rf.textP, Rf.closeP, Rf.wordP, Rf.app_emp]
    have a0 : 0 ≤ i := hi0
    have a1 : i < 16 := hi1
    clear hi0 hi1
    obtain ⟨j, rfl⟩ := Int.eq_ofNat_of_zero_le a0
    have hc := hrow.cells strCells_len j _ (lettersL_at j (by omega)) 0 _ rfl
    simp only [Nat.mul_one, Nat.add_zero] at hc
    have k0 : w.cell? ⟨p, 0, none⟩ = some (.int .u8 118) := blk_cell hb 0
    have k1 : w.cell? ⟨p, 1, none⟩ = some (.int .i64 (j : Int)) := blk_cell hb 1
    clear hb e hgood hrow hT h
    go_enter Tryz.func78, Tryz.ntmps78
    go_wp2_with fail
    go_ret
    exact ⟨ret_str hx.out.symm, Below.refl _ _⟩
  · obtain ⟨hi0, hi1⟩ := (hgood ⟨2, ⟨#[]⟩, v, 0⟩ (by rw [e]; simp)).2.1 rfl
    have a0 : -999999999 ≤ v := hi0
    have a1 : v ≤ 999999999 := hi1
    clear hi0 hi1
    have hx : Hid (Rf.txt ps = Rf.itoaB v) := by unfold Hid; rw [e]; simp [Rf.txt, Rf.textP, Rf.closeP, Rf.wordP, Rf.app_emp]
    have k0 : w.cell? ⟨p, 0, none⟩ = some (.int .u8 110) := blk_cell hb 0
    have k1 : w.cell? ⟨p, 1, none⟩ = some (.int .i64 v) := blk_cell hb 1
    have HT : Hid _ := hT
    clear hb e hgood hrow hT h
    go_enter Tryz.func78, Tryz.ntmps78
    go_wp2_with (go_at_call 107; refine (Tryz.strconv_Itoa v (by omega) (by omega) _ HT.out).mono ?_; rintro r w1 ⟨rfl, k, os, hw1⟩)
    go_ret
    exact ⟨ret_str hx.out.symm, grow_below _ _ _⟩
  · have hx : Hid (Rf.txt ps = s) := by unfold Hid; rw [e]; simp [Rf.txt, Rf.textP, Rf.closeP, Rf.wordP, Rf.app_emp]
    have k0 : w.cell? ⟨p, 0, none⟩ = some (.int .u8 97) := blk_cell hb 0
    have k1 : w.cell? ⟨p, 2, none⟩ = some (.string s) := blk_cell hb 2
    clear hb e hgood hrow hT h
    go_enter Tryz.func78, Tryz.ntmps78
    go_wp2_with fail
    go_ret
    exact ⟨ret_str hx.out.symm, Below.refl _ _⟩
  · obtain ⟨gq, capq, rfl, _⟩ : ∃ gq capq, v = .slice (some ⟨gq, 0, none⟩) qs.length capq ∧ True := by
      rcases hrq.shape with ⟨_, hnil⟩ | ⟨gq, cq, e, _⟩
      · have := congrArg List.length hnil; rw [List.length_map, List.length_nil] at this; omega
      · rw [List.length_map] at e; exact ⟨gq, cq, e, trivial⟩
    have hwf : ∀ q ∈ qs.map (·.2), Rf.Wf d q := fun q hq' => by
      obtain ⟨x, hx, rfl⟩ := List.mem_map.1 hq'
      exact (hq x hx).wf
    have hx : Hid (Rf.txt ps = Rf.accW s (qs.map (·.2)) qs.length ++ ⟨#[41]⟩) := by
      have h9 := Rf.txt_comp d s (qs.map (·.2)) (by simpa using h1) hwf
      have h8 := Rf.accW_end s (qs.map (·.2)) (by simpa using h1)
      rw [List.length_map] at h9 h8
      unfold Hid; rw [e, h9, h8]
    have hgq : ∀ q ∈ qs, ∀ x ∈ q.2, Rf.Good x := fun q hq' x hx' => hgood x (by rw [e]; exact List.mem_cons_of_mem _ (List.mem_flatten.2 ⟨q.2, List.mem_map_of_mem hq', hx'⟩))
    have Hgq : Hid _ := hgq
    have hql : ∀ q ∈ qs, q.2.length ≤ 100000 := fun q hq' => by
      have h5 : q.2.length ≤ (qs.map (·.2)).flatten.length := (List.sublist_flatten_of_mem (List.mem_map_of_mem hq')).length_le
      rw [e] at hlen
      simp only [List.length_cons] at hlen
      omega
    have Hql : Hid _ := hql
    have hss : s.size ≤ 12 := (hgood ⟨3, s, 0, qs.length⟩ (by rw [e]; simp)).2.2
    have hsz : ∀ k, k ≤ qs.length → (Rf.accW s (qs.map (·.2)) k).size ≤ 12 + 4 * 2300001 := fun k hk => by
      have h5 := Rf.accW_size s (qs.map (·.2)) 2300000 (fun q hq' => by
        obtain ⟨x, hx', rfl⟩ := List.mem_map.1 hq'
        have := Rf.txt_size x.2 (hgq x hx')
        have := hql x hx'
        omega) k (by simpa using hk)
      have h6 : k * (2300000 + 1) ≤ 4 * (2300000 + 1) := Nat.mul_le_mul_right _ (by omega)
      omega
    have Hsz : Hid _ := hsz
    clear hql hsz
    have Hq : Hid _ := hq
    have Hrow : Hid _ := hrow
    have HT : Hid _ := hT
    have Hb : Hid _ := hb
    have Hrq : Hid _ := hrq
    have k0 : w.cell? ⟨p, 0, none⟩ = some (.int .u8 99) := blk_cell hb 0
    have k2 : w.cell? ⟨p, 2, none⟩ = some (.string s) := blk_cell hb 2
    clear hwf hgq hgood e hq hrow hT hb hrq h hlen
    go_enter Tryz.func78, Tryz.ntmps78
    go_wp2_with fail
    go_loopw [5, 6, 7] (fun sv iv _ wr => ∃ k : Nat, k ≤ qs.length ∧ iv = .int .i64 k ∧ sv = .string (Rf.accW s (qs.map (·.2)) k) ∧ Below w.heap.size w wr) (fun _ iv _ _ => qs.length - (intOf iv).toNat)
    case atStart => exact ⟨0, by omega, rfl, rfl, Below.refl _ _⟩
    case round =>
      obtain ⟨k, hk, rfl, rfl, hbr⟩ := hrel
      have hB : TmB wr p 99 0 s (.slice (some ⟨gq, 0, none⟩) qs.length capq) := (hbr.block p (blk_lt Hb.out)).trans Hb.out
      have y3 : wr.cell? ⟨p, 3, none⟩ = some (.slice (some ⟨gq, 0, none⟩) qs.length capq) := blk_cell hB 3
      clear k0 k2 hB
      by_cases hlt : k < qs.length
      · have hcell := (Hrq.out.below hbr).cells ptrCells_len k qs[k].1 (by simp [hlt]) 0 _ rfl
        simp only [Nat.mul_one, Nat.add_zero] at hcell
        have hmem : qs[k] ∈ qs := List.getElem_mem hlt
        have hTq := TermAt.keptBy (F' := F) (Kept.of_below hbr (fun _ => False)) (fun _ _ hF => ⟨fun e => e, hF⟩) (Hq.out _ hmem)
        have hgd := Hgq.out _ hmem
        have hld := Hql.out _ hmem
        have ht1 := Rf.txt_size _ hgd
        have ht2 : (Rf.txt qs[k].2).size ≤ 2300000 := by omega
        have ht3 := Hsz.out k (by omega)
        clear ht1
        have hg2 : (qs.map (·.2)).getD k [] = qs[k].2 := by simp [hlt]
        have hacc : Hid (Rf.accW s (qs.map (·.2)) (k + 1) = if k = 0 then (s ++ ⟨#[40]⟩) ++ Rf.txt qs[k].2 else (Rf.accW s (qs.map (·.2)) k ++ ⟨#[44]⟩) ++ Rf.txt qs[k].2) := by
          unfold Hid; rw [Rf.accW]
          split
          · rename_i h0; subst h0; rw [hg2]
          · rw [hg2]
        clear hg2
        have HTq : Hid _ := hTq
        have Hgd : Hid _ := hgd
        clear hTq hgd hmem
        generalize qs[k] = q at *
        have hz40 : (⟨#[40]⟩ : ByteArray).size = 1 := rfl
        have hz44 : (⟨#[44]⟩ : ByteArray).size = 1 := rfl
        have ht4 : (Rf.accW s (qs.map (·.2)) k ++ ⟨#[44]⟩).size ≤ 13 + 4 * 2300001 := by rw [ByteArray.size_append]; omega
        have ht5 : (s ++ ⟨#[40]⟩).size ≤ 13 := by rw [ByteArray.size_append]; omega
        by_cases hk0 : k = 0
        · subst hk0
          go_wp2_with (go_at_call 78; refine (HI.out F _ q.1 q.2 g 16 cap base HTq.out Hgd.out hld (Hrow.out.below hbr) rfl (Tab.below HT.out hbr)).mono ?_; rintro r w2 ⟨rfl, hb2⟩)
          go_roundw
          case rel => exact ⟨1, by omega, rfl, by rw [hacc.out]; simp [Rf.accW], hbr.trans (hb2.mono hbr.size)⟩
          case measure => simp [intOf]; omega
        · have hkb : ((k : Int) == 0) = false := by rw [beq_eq_false_iff_ne]; omega
          go_wp2_with (go_at_call 78; refine (HI.out F _ q.1 q.2 g 16 cap base HTq.out Hgd.out hld (Hrow.out.below hbr) rfl (Tab.below HT.out hbr)).mono ?_; rintro r w2 ⟨rfl, hb2⟩)
          go_roundw
          case rel => exact ⟨k + 1, by omega, by go_num, by rw [hacc.out, if_neg hk0], hbr.trans (hb2.mono hbr.size)⟩
          case measure => simp [intOf]; omega
      · obtain rfl : k = qs.length := by omega
        have ht3 := Hsz.out _ (Nat.le_refl _)
        have hz41 : (⟨#[41]⟩ : ByteArray).size = 1 := rfl
        go_wp2_with fail
        go_ret
        exact ⟨ret_str hx.out.symm, hbr⟩
theorem written_any : ∀ d, WrIH d
  | 0 => fun _ _ _ _ _ _ _ _ h _ => h.elim
  | d + 1 => written_step d (written_any d)
end Go.Proofs.YthdmbbfaphipkaaGreatDoor
/- How the document writes a clause (promptref: Line): the plain function's line. -/
namespace Go.Proofs.YthdmbbfaphipkaaGreatDoor
open Go.RowKit
set_option maxHeartbeats 1000000 in
set_option maxRecDepth 100000 in
theorem line_any (F : Nat → Prop) (w : World) (p : Nat) (a : Option Addr) (n c : Nat) (kk : Int) (cl : Rf.Cl) (h : ClAt F w p (.slice a n c) cl) (hg : GoodC cl) (hT : Tab w) :
    Calls Tryz.prog 48 #[.agg #[.pointer (some ⟨p, 0, none⟩), .slice a n c, .int .i64 kk]] w fun r w' => r = .returned (.string (Rf.lineP cl)) ∧ Below w.heap.size w w' := by
  obtain ⟨⟨d, hh⟩, acc, hrow, _, hgl, hbody, h8⟩ := h
  obtain ⟨g1, g2, g3⟩ := hg
  have hx : Hid (Rf.lineP cl = Rf.accL (Rf.txt cl.head) (acc.map (·.2)) acc.length ++ ⟨#[46, 10]⟩) := by unfold Hid Rf.lineP; rw [hbody, List.length_map]
  have hq : ∀ q ∈ acc, (∀ x ∈ q.2, Rf.Good x) ∧ q.2.length ≤ 100000 := fun q hq => g3 q.2 (by rw [hbody]; exact List.mem_map_of_mem hq)
  have hhs : (Rf.txt cl.head).size ≤ 2300000 := by have := Rf.txt_size cl.head g1; omega
  have hsz : ∀ k, k ≤ acc.length → (Rf.accL (Rf.txt cl.head) (acc.map (·.2)) k).size ≤ 2300000 + 8 * 2300002 := fun k hk => by
    have h5 := Rf.accL_size (Rf.txt cl.head) (acc.map (·.2)) 2300000 (fun q hq' => by
      obtain ⟨x, hx', rfl⟩ := List.mem_map.1 hq'
      have := Rf.txt_size x.2 (hq x hx').1
      have := (hq x hx').2
      omega) k (by simpa using hk)
    have h6 : k * (2300000 + 2) ≤ 8 * (2300000 + 2) := Nat.mul_le_mul_right _ (by omega)
    omega
  have hn : n = acc.length := by
    rcases hrow.shape with ⟨e, hnil⟩ | ⟨gv, cv, e, _⟩
    · have h7 := congrArg List.length hnil
      rw [List.length_map, List.length_nil] at h7
      injection e with _ e2 _
      omega
    · rw [List.length_map] at e
      injection e
  subst hn
  have Hsz : Hid _ := hsz
  have Hq : Hid _ := hq
  have Hrow : Hid _ := hrow
  have Hh : Hid _ := hh
  have Hgl : Hid _ := hgl
  have HT : Hid _ := hT
  have G1 : Hid _ := g1
  clear hsz hq hrow hh hgl hT hbody g1 g3
  generalize Rf.lineP cl = LP at *
  generalize cl.head = hd at *
  go_enter Tryz.func48, Tryz.ntmps48
  go_wp2_with (first
    | (go_at_call 77; refine (letters_any _).mono ?_; rintro r w1 ⟨vl, rfl, hl, hb1⟩; obtain ⟨gl, cl', rfl, _⟩ := hl.shape.resolve_left (fun x => by have := congrArg List.length x.2; simp [lettersL] at this); have hs1 : w.heap.size + 1 ≤ w1.heap.size := (by have := hb1.size; simpa using this); have hb1' : Below w.heap.size w w1 := ((Below.refl _ w).alloc (Nat.le_refl _) _).trans (hb1.mono (by simp)); have hX1 := (hb1.block w.heap.size (by simp)).trans (blk_new _ _); have x0 : w1.cell? ⟨w.heap.size, 0, none⟩ = some (.pointer (some ⟨p, 0, none⟩)) := blk_cell hX1 0; have x1 : w1.cell? ⟨w.heap.size, 1, none⟩ = some (.slice a acc.length c) := blk_cell hX1 1)
    | (go_at_call 78; refine (written_any d F _ p hd gl _ cl' _ (TermAt.keptBy (F' := F) (Kept.of_below hb1' (fun _ => False)) (fun _ _ hF => ⟨fun e => e, hF⟩) Hh.out) G1.out g2 hl (by simp [lettersL]) (Tab.below HT.out hb1')).mono ?_; rintro r w2 ⟨rfl, hb2⟩))
  have hb12 := hb1'.size
  go_loopw [4, 5, 6] (fun sv iv _ wr => ∃ k : Nat, k ≤ acc.length ∧ iv = .int .i64 k ∧ sv = .string (Rf.accL (Rf.txt hd) (acc.map (·.2)) k) ∧ Below w1.heap.size w1 wr) (fun _ iv _ _ => acc.length - (intOf iv).toNat)
  case atStart => exact ⟨0, by omega, rfl, rfl, hb2⟩
  case round =>
    obtain ⟨k, hk, rfl, rfl, hbr⟩ := hrel
    have hXr := (hbr.block w.heap.size (by omega)).trans hX1
    have y1 : wr.cell? ⟨w.heap.size, 1, none⟩ = some (.slice a acc.length c) := blk_cell hXr 1
    have hbw : Below w.heap.size w wr := hb1'.trans (hbr.mono hb12)
    clear x0 x1 hXr
    by_cases hlt : k < acc.length
    · obtain ⟨gv, rfl⟩ : ∃ gv, a = some ⟨gv, 0, none⟩ := by
        rcases Hrow.out.shape with ⟨_, hnil⟩ | ⟨gv, cv, e, _⟩
        · have h7 := congrArg List.length hnil
          rw [List.length_map, List.length_nil] at h7
          omega
        · injection e with e1 _ _; exact ⟨gv, e1⟩
      have hmem : acc[k] ∈ acc := List.getElem_mem hlt
      have hcell := (Hrow.out.below hbw).cells goalCells_len k acc[k].1 (by simp [hlt]) 0 _ rfl
      simp only [Nat.add_zero] at hcell
      have hgo := (Hgl.out _ hmem).keptBy (F' := F) (Kept.of_below hbw (fun _ => False)) (fun _ _ hF => ⟨fun e => e, hF⟩)
      have hgd := (Hq.out _ hmem).1
      have hld := (Hq.out _ hmem).2
      have ht1 := Rf.txt_size _ hgd
      have ht2 : (Rf.txt acc[k].2).size ≤ 2300000 := by omega
      have ht3 := Hsz.out k (by omega)
      clear ht1
      have hg2 : (acc.map (·.2)).getD k [] = acc[k].2 := by simp [hlt]
      have hacc : Hid (Rf.accL (Rf.txt hd) (acc.map (·.2)) (k + 1) = if k = 0 then (Rf.txt hd ++ ⟨#[58, 45]⟩) ++ Rf.txt acc[k].2 else (Rf.accL (Rf.txt hd) (acc.map (·.2)) k ++ ⟨#[44]⟩) ++ Rf.txt acc[k].2) := by
        unfold Hid; rw [Rf.accL]
        split
        · rename_i h0; subst h0; rw [hg2]
        · rw [hg2]
      clear hg2 hmem
      have Hgd : Hid _ := hgd
      clear hgd
      generalize acc[k] = q at *
      obtain ⟨qx, qp⟩ := q
      simp only at hcell hgo ht2 hacc Hgd hld
      have hz40 : (⟨#[58, 45]⟩ : ByteArray).size = 2 := rfl
      have hz44 : (⟨#[44]⟩ : ByteArray).size = 1 := rfl
      have ht4 : (Rf.accL (Rf.txt hd) (acc.map (·.2)) k ++ ⟨#[44]⟩).size ≤ 2300001 + 8 * 2300002 := by rw [ByteArray.size_append]; omega
      have ht5 : (Rf.accL (Rf.txt hd) (acc.map (·.2)) k ++ ⟨#[58, 45]⟩).size ≤ 2300002 + 8 * 2300002 := by rw [ByteArray.size_append]; omega
      have hz33 : (⟨#[33]⟩ : ByteArray).size = 1 := rfl
      rcases hgo with ⟨e, e2⟩ | ⟨qq, e, ⟨d2, hTq⟩, _⟩
      · injection e with e
        subst e
        have htx : Hid (Rf.txt qp = ⟨#[33]⟩) := by unfold Hid; rw [e2]; simp [Rf.txt, Rf.textP, Rf.closeP, Rf.wordP, Rf.app_emp]
        clear e2
        by_cases hk0 : k = 0
        · subst hk0
          go_wp2_with fail
          go_roundw
          case rel => exact ⟨1, by omega, rfl, by rw [hacc.out, htx.out]; simp [Rf.accL], hbr⟩
          case measure => simp [intOf]; omega
        · have hkb : ((k : Int) == 0) = false := by rw [beq_eq_false_iff_ne]; omega
          go_wp2_with fail
          go_roundw
          case rel => exact ⟨k + 1, by omega, by go_num, by rw [hacc.out, if_neg hk0, htx.out], hbr⟩
          case measure => simp [intOf]; omega
      · injection e with e
        subst e
        have HTq : Hid _ := hTq
        clear hTq
        by_cases hk0 : k = 0
        · subst hk0
          go_wp2_with (go_at_call 78; refine (written_any d2 F _ qq qp gl _ cl' _ HTq.out Hgd.out hld (hl.below hbr) (by simp [lettersL]) (Tab.below HT.out hbw)).mono ?_; rintro r w3 ⟨rfl, hb3⟩)
          go_roundw
          case rel => exact ⟨1, by omega, rfl, by rw [hacc.out]; simp [Rf.accL], hbr.trans (hb3.mono hbr.size)⟩
          case measure => simp [intOf]; omega
        · have hkb : ((k : Int) == 0) = false := by rw [beq_eq_false_iff_ne]; omega
          go_wp2_with (go_at_call 78; refine (written_any d2 F _ qq qp gl _ cl' _ HTq.out Hgd.out hld (hl.below hbr) (by simp [lettersL]) (Tab.below HT.out hbw)).mono ?_; rintro r w3 ⟨rfl, hb3⟩)
          go_roundw
          case rel => exact ⟨k + 1, by omega, by go_num, by rw [hacc.out, if_neg hk0], hbr.trans (hb3.mono hbr.size)⟩
          case measure => simp [intOf]; omega
    · obtain rfl : k = acc.length := by omega
      have ht3 := Hsz.out _ (Nat.le_refl _)
      have hz46 : (⟨#[46, 10]⟩ : ByteArray).size = 2 := rfl
      go_wp2_with fail
      go_ret
      exact ⟨ret_str hx.out.symm, hbw⟩
end Go.Proofs.YthdmbbfaphipkaaGreatDoor
