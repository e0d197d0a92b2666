
import Derived.Test.YtbiojnljihgpoaaGreatDoorZam
import Derived.Test.YtbiojnljihgpoaaGreatDoorZal
import Derived.Lib.AppendStr
import Derived.Laws.IdiomStrings
import Derived.Deep.CutRange
namespace Go.Proofs.YtbiojnljihgpoaaGreatDoor
open Go.RowKit
def byteCells (b : UInt8) : List Value := [.int .u8 b.toNat]
theorem byteCells_len (s : UInt8) : (byteCells s).length = 1 := rfl
theorem byteCells_one (s : UInt8) : ∀ u ∈ byteCells s, u.oneCell' = true := by intro u hu; simp [byteCells] at hu; subst hu; rfl
theorem Tryz.elemByte : ElemOk Tryz.prog 47 5 1 1 (.int .u8 0) := ⟨Tryz.underlying47, by kernel_rfl, rfl, by decide, by decide⟩
def WrB (w : World) (b : Nat) (v : Value) : Prop := w.heap[b]? = some (.cells #[v] 49 (0, 0))
structure WrAt (B : Nat) (w : World) (b : Nat) (l : List UInt8) : Prop where
 ex : ∃ v, WrB w b v /\ RowIs w B 5 1 byteCells v l
 lo : B <= b
theorem WrB.ne {w : World} {b B : Nat} {v : Value} {l : List UInt8} (h : WrB w b v) (hr : RowIs w B 5 1 byteCells v l) : v.ownBlock ≠ some b := by
 intro e
 obtain ⟨cs, hc⟩ := hr.typed b e
 unfold WrB at h
 rw [h] at hc
 injection hc with h1; injection h1 with _ h2
 exact absurd h2 (by decide)
def WrT (w : World) (k : Nat) : Prop := ∃ cs, w.heap[k]? = some (.cells cs 49 (0, 0)) \/ w.heap[k]? = some (.cells cs 5 (0, 0))
structure Wk (B : Nat) (w w' : World) : Prop where
 k : Kept (fun k => B <= k /\ WrT w k) w w'
theorem Wk.refl (B : Nat) (w : World) : Wk B w w := ⟨Kept.refl _ _⟩
theorem Wk.trans {B : Nat} {a b c : World} (h : Wk B a b) (h2 : Wk B b c) : Wk B a c := by
 refine ⟨h.k.trans h2.k (fun i hi hm => ?_)⟩
 by_cases hM : B <= i /\ WrT a i
 ·exact hM
 ·obtain ⟨cs, hc⟩ := hm.2
  rw [h.k.block i hi hM] at hc
  exact ⟨hm.1, cs, hc⟩
theorem Wk.of {B : Nat} {w w' : World} (h : Below w.heap.size w w') : Wk B w w' := ⟨Kept.of_below h _⟩
theorem Wk.below {B : Nat} {w w' : World} (h : Wk B w w') (hB : B <= w.heap.size) : Below B w w' := h.k.below hB (fun k hk e => by omega)
theorem Wk.size {B : Nat} {w w' : World} (h : Wk B w w') : w.heap.size <= w'.heap.size := h.k.size
theorem Wk.blk {B : Nat} {w w' : World} (h : Wk B w w') {k : Nat} {cs : Array Value} {t : TypeId} (hc : w.heap[k]? = some (.cells cs t (0, 0))) (h1 : t ≠ 49) (h2 : t ≠ 5) : w'.heap[k]? = some (.cells cs t (0, 0)) := by
 refine (h.k.block k (blk_lt hc) ?_).trans hc
 rintro ⟨_, cs', e | e⟩
 ·rw [e] at hc; injection hc with h3; injection h3 with _ h4; exact h1 h4.symm
 ·rw [e] at hc; injection hc with h3; injection h3 with _ h4; exact h2 h4.symm
theorem WrAt.below {B : Nat} {w w' : World} {b : Nat} {l : List UInt8} (h : WrAt B w b l) (hb : Below w.heap.size w w') : WrAt B w' b l := by
 obtain ⟨v, h1, h2⟩ := h.ex
 exact ⟨⟨v, (hb.block b (blk_lt h1)).trans h1, h2.below hb⟩, h.lo⟩
theorem WrAt.size {B : Nat} {w : World} {b : Nat} {l : List UInt8} (h : WrAt B w b l) : B <= w.heap.size := by
 obtain ⟨v, h1, _⟩ := h.ex
 have := blk_lt h1
 have := h.lo
 omega
theorem WrAt.told {B : Nat} {w w2 w3 : World} {b : Nat} {v v' : Value} {l l' : List UInt8} (h1 : WrB w b v) (h2 : RowIs w B 5 1 byteCells v l) (hB : B <= b) (hb : Below w.heap.size w w2) (hg : w2.grownBy w3 v.ownBlock) (hr : RowIs w3 B 5 1 byteCells v' l') : WrAt B (w3.setCell ⟨b, 0, none⟩ v') b l' /\ Wk B w (w3.setCell ⟨b, 0, none⟩ v') := by
 have hne := h1.ne h2
 have hlt := blk_lt h1
 have hs := hb.size
 have e3 : w3.heap[b]? = some (.cells #[v] 49 (0, 0)) := ((hg.block b (by omega) (fun e => hne e.symm)).trans (hb.block b hlt)).trans h1
 have e4 := blk_set e3 0 v'
 have e3' : WrB w3 b v := e3
 have hv' : v'.ownBlock ≠ some b := by
  intro e
  obtain ⟨cs, hc⟩ := hr.typed b e
  rw [e3] at hc
  injection hc with h1; injection h1 with _ h2
  exact absurd h2 (by decide)
 refine ⟨⟨⟨v', by unfold WrB; simpa using e4, hr.setCell ⟨b, 0, none⟩ v' hv'⟩, hB⟩, ?_⟩
 have k1 : Kept (fun k => B <= k /\ WrT w k) w w3 := (Kept.of_below hb (fun k => B <= k /\ WrT w k)).grown hg (fun k e => .inr ⟨(h2.lt k e).1, by
  obtain ⟨cs, hc⟩ := h2.typed k e
  exact ⟨cs, .inr hc⟩⟩)
 exact ⟨k1.setCell (p := ⟨b, 0, none⟩) (.inr ⟨hB, _, .inl h1⟩) v'⟩
theorem WrAt.blk {B : Nat} {w w2 w3 : World} {b : Nat} {v : Value} {l : List UInt8} (h1 : WrB w b v) (h2 : RowIs w B 5 1 byteCells v l) (hb : Below w.heap.size w w2) (hg : w2.grownBy w3 v.ownBlock) : w3.heap[b]? = some (.cells #[v] 49 (0, 0)) := by
 have hne := h1.ne h2
 have hlt := blk_lt h1
 have hs := hb.size
 exact ((hg.block b (by omega) (fun e => hne e.symm)).trans (hb.block b hlt)).trans h1
theorem brow_any {B : Nat} {w : World} {v : Value} {l : List UInt8} (h : RowIs w B 5 1 byteCells v l) : ∃ a n c, v = .slice a n c := by
 rcases h.shape with ⟨rfl, rfl⟩ | ⟨g, cap, rfl, _⟩
 ·exact ⟨none, 0, 0, rfl⟩
 ·exact ⟨_, _, _, rfl⟩
theorem brow_slice {B : Nat} {w : World} {v : Value} {l : List UInt8} (h : RowIs w B 5 1 byteCells v l) : ∃ a c, v = .slice a l.length c := by
 rcases h.shape with ⟨rfl, rfl⟩ | ⟨g, cap, rfl, _⟩
 ·exact ⟨none, 0, rfl⟩
 ·exact ⟨_, _, rfl⟩
set_option maxHeartbeats 1000000 in
set_option maxRecDepth 100000 in
theorem wnumber_any (B : Nat) (w : World) (b : Nat) (l : List UInt8) (n : Nat) (h : WrAt B w b l) (hn : n < 1000000000000) (hl : l.length <= 100000000000) :
  Calls Tryz.prog 21 #[.pointer (some ⟨b, 0, none⟩), .int .i64 n] w fun r w' => r = .returned (.tuple #[]) /\ WrAt B w' b (l ++ Rf.numB n) /\ Wk B w w' := by
 have HW : Hid _ := h
 clear h
 go_enter Tryz.func21, Tryz.ntmps21
 go_wp2_with fail
 go_loopw [1] (fun iv wr => ∃ (v f : Nat) (l' : List UInt8), iv = .int .i64 v /\ 1 <= f /\ Hid (v < 128 ^ f) /\ v < 1000000000000 /\ l'.length + f <= l.length + 10 /\ Hid (l' ++ Rf.numF f v = l ++ Rf.numB n) /\ WrAt B wr b l' /\ Wk B w wr) (fun iv _ => (intOf iv).toNat)
 case atStart => exact ⟨n, 10, l, rfl, by omega, Nat.lt_trans hn (by decide), hn, by omega, rfl, HW.out, Wk.refl _ _⟩
 case round =>
  obtain ⟨v, f, l', rfl, hf, hvf, hv, hlen, hE, hW, hbel⟩ := hrel
  obtain ⟨x, h1, h2⟩ := hW.ex
  have hlo := hW.lo
  have q0 := blk_cell h1 0
  have qf := blk_frozen h1
  have ql := blk_lt h1
  simp at q0
  have H1 : Hid _ := h1
  have H2 : Hid _ := h2
  have H2b : Hid (∀ X, Below wr.heap.size wr X -> RowIs X B 5 1 byteCells x l') := fun X hX => H2.out.below hX
  have HB : Hid (WrB wr b x) := h1
  have hBs : B <= wr.heap.size := by omega
  clear h1 h2 hW H1
  by_cases h128 : 128 <= v
  ·have hb8 : Hid (byteCells (UInt8.ofNat (v % 128 + 128)) = [.int .u8 ((v : Int) % 128 + 128)]) := by
    unfold Hid byteCells
    rw [Rf.byte_low (by omega)]
    simp
   go_wp2_with (at_builtin; refine wpList_app Tryz.elemByte byteCells byteCells_len byteCells_one _ rfl (.tmp 10) (.tmp 15) rfl B x l' rfl (H2b.out _ (by repeat(first|exact bl0 _ _|refine bl1 ?_ (by simp<;>omega) _|refine bl2 ?_|refine bl3 ?_ _|refine bl4 ?_ (by simp<;>omega) _))) ⟨_, 0, none⟩ 1 (UInt8.ofNat (v % 128 + 128)) rfl (by rw [hb8.out]; exact cell_one_at _ _ (by simp) _ _) (by omega) (by simp; omega) ?_; intro gA capA w3 hrow3 hgr3 hnb3; have hT := WrAt.told HB.out H2.out hlo (by repeat(first|exact bl0 _ _|refine bl1 ?_ (by simp<;>omega) _|refine bl2 ?_|refine bl3 ?_ _|refine bl4 ?_ (by simp<;>omega) _)) hgr3 hrow3; have e3 := WrAt.blk HB.out H2.out (by repeat(first|exact bl0 _ _|refine bl1 ?_ (by simp<;>omega) _|refine bl2 ?_|refine bl3 ?_ _|refine bl4 ?_ (by simp<;>omega) _)) hgr3; have HT : Hid _ := hT; have q3 := blk_cell e3 0; have qf3 := blk_frozen e3; have ql3 := blk_lt e3; have Hb3 : Hid _ := hgr3; clear hT e3 hgr3)
   go_roundw
   case rel =>
    obtain ⟨f', rfl⟩ : ∃ f', f = f' + 1 := ⟨f - 1, by omega⟩
    have hvf2 := hvf.out
    rw [Nat.pow_succ] at hvf2
    have hE2 := hE.out
    rw [Rf.numF, if_pos h128] at hE2
    refine ⟨v / 128, f', l' ++ [UInt8.ofNat (v % 128 + 128)], by simp, ?_, ?_, by omega, by simp; omega, ?_, HT.out.1, hbel.trans HT.out.2⟩
    ·cases f' with
     | zero => simp at hvf2; omega
     | succ => omega
    ·show v / 128 < 128 ^ f'
     omega
    ·show l' ++ [_] ++ _ = _
     rw [List.append_assoc, <- hE2]; rfl
   case measure => simp [intOf]; omega
  ·have hb8 : Hid (byteCells (UInt8.ofNat v) = [.int .u8 (v : Int)]) := by
    unfold Hid byteCells
    rw [Rf.byte_low (by omega)]
   go_wp2_with (at_builtin; refine wpList_app Tryz.elemByte byteCells byteCells_len byteCells_one _ rfl (.tmp 25) (.tmp 28) rfl B x l' rfl (H2b.out _ (by repeat(first|exact bl0 _ _|refine bl1 ?_ (by simp<;>omega) _|refine bl2 ?_|refine bl3 ?_ _|refine bl4 ?_ (by simp<;>omega) _))) ⟨_, 0, none⟩ 1 (UInt8.ofNat v) rfl (by rw [hb8.out]; exact cell_one_at _ _ (by simp) _ _) (by omega) (by simp; omega) ?_; intro gA capA w3 hrow3 hgr3 hnb3; have hT := WrAt.told HB.out H2.out hlo (by repeat(first|exact bl0 _ _|refine bl1 ?_ (by simp<;>omega) _|refine bl2 ?_|refine bl3 ?_ _|refine bl4 ?_ (by simp<;>omega) _)) hgr3 hrow3; have e3 := WrAt.blk HB.out H2.out (by repeat(first|exact bl0 _ _|refine bl1 ?_ (by simp<;>omega) _|refine bl2 ?_|refine bl3 ?_ _|refine bl4 ?_ (by simp<;>omega) _)) hgr3; have HT : Hid _ := hT; have q3 := blk_cell e3 0; have qf3 := blk_frozen e3; have ql3 := blk_lt e3; have Hb3 : Hid _ := hgr3; clear hT e3 hgr3)
   go_end0
   obtain ⟨f', rfl⟩ : ∃ f', f = f' + 1 := ⟨f - 1, by omega⟩
   have hE2 := hE.out
   rw [Rf.numF, if_neg h128] at hE2
   rw [<- hE2]
   exact ⟨rfl, HT.out.1, hbel.trans HT.out.2⟩
theorem str_flat (s : ByteArray) : Lib.strCells s = (Rf.bs s).flatMap byteCells := by
 unfold Lib.strCells Rf.bs byteCells
 generalize s.data.toList = l
 induction l with
 | nil => rfl
 | cons b l ih => rw [List.map_cons, ih, List.flatMap_cons]; rfl
theorem wpList_str {B : Nat} (w : World) {ops : Array Oper} {rest : List Oper} {o : Oper} {a : Act} {Q : Exit -> Act -> World -> Prop} (hgd : o.guard = none) (sl x : Operand)
  (ho : o.op = .call { callee := .builtin .append, args := #[sl, x], argTypes := #[47, 9] }) (v : Value) (l : List UInt8) (hs : a.eval sl = v) (hown : RowIs w B 5 1 byteCells v l) (s : ByteArray) (hx : a.eval x = .string s) (hb : l.length + s.size <= 140737488355328) (hB : B <= w.heap.size)
  (h : ∀ v' w', RowIs w' B 5 1 byteCells v' (l ++ Rf.bs s) -> w.grownBy w' v.ownBlock -> wpList Tryz.prog ops Q rest (a.put o.dst v') w') : wpList Tryz.prog ops Q (o :: rest) a w := by
 obtain ⟨e1, e2, e3, e4, e5⟩ := Tryz.elemByte
 obtain ⟨i, hi, hz, hsz, hby⟩ := info_parts e2
 refine Lib.wpList_append_own_string w hgd sl x _ _ ho B 5 i e1 Tryz.underlying9 hi hz hsz hby v l.length (l.flatMap byteCells) hs hown.own s hx (by unfold maxLen; omega) hb hB ?_
 intro v' w' h1 h2 _
 refine h v' w' ⟨?_⟩ h2
 rw [List.length_append, Rf.bs_len, List.flatMap_append, <- str_flat]
 exact h1
set_option maxHeartbeats 1000000 in
set_option maxRecDepth 100000 in
theorem wword_any (B : Nat) (w : World) (b : Nat) (l : List UInt8) (s : ByteArray) (h : WrAt B w b l) (hs : s.size <= 1000000000) (hl : l.length <= 90000000000) :
  Calls Tryz.prog 22 #[.pointer (some ⟨b, 0, none⟩), .string s] w fun r w' => r = .returned (.tuple #[]) /\ WrAt B w' b (l ++ Rf.wordB s) /\ Wk B w w' := by
 have HW : Hid _ := h
 have hnl := Rf.numB_len s.size
 have hE : Hid (l ++ Rf.wordB s = l ++ Rf.numB s.size ++ Rf.bs s) := by unfold Hid Rf.wordB; rw [List.append_assoc]
 clear h
 go_enter Tryz.func22, Tryz.ntmps22
 go_wp2_with (first
  | (go_at_call 21; refine (wnumber_any B _ b l s.size HW.out (by omega) (by omega)).mono ?_; rintro r w1 ⟨rfl, hW1, hb1⟩; obtain ⟨x, h1, h2⟩ := hW1.ex; have hlo := hW1.lo; have q0 := blk_cell h1 0; have qf := blk_frozen h1; have ql := blk_lt h1; have H2 : Hid _ := h2; have HB : Hid (WrB w1 b x) := h1; have hBs : B <= w1.heap.size := (by omega); have hll : (l ++ Rf.numB s.size).length <= 90000000010 := (by rw [List.length_append]; omega); clear h1 h2 hW1)
  | (at_builtin; refine wpList_str _ rfl (.tmp 12) (.tmp 13) rfl x (l ++ Rf.numB s.size) rfl H2.out s rfl (by omega) hBs ?_; intro v3 w3 hrow3 hgr3; obtain ⟨a3, n3, c3, hv3⟩ := brow_any hrow3; subst hv3; have hT := WrAt.told HB.out H2.out hlo (Below.refl _ _) hgr3 hrow3; have e3 := WrAt.blk HB.out H2.out (Below.refl _ _) hgr3; have HT : Hid _ := hT; have q3 := blk_cell e3 0; have qf3 := blk_frozen e3; have ql3 := blk_lt e3; clear hT e3 hgr3))
 go_end0
 rw [hE.out]
 exact ⟨rfl, HT.out.1, hb1.trans HT.out.2⟩
theorem conv_four (a b c d : Int) (w : World) : (convert 47 9 (.slice (some ⟨w.heap.size, 0, none⟩) 4 4)).run Tryz.prog (w.alloc (.cells #[.int .u8 a, .int .u8 b, .int .u8 c, .int .u8 d] 5)) = .ok (.string (strOfNums [a, b, c, d])) (w.alloc (.cells #[.int .u8 a, .int .u8 b, .int .u8 c, .int .u8 d] 5)) :=
 run_convert_bytes_arg (P := Tryz.prog) _ 47 5 Tryz.underlying47 Tryz.underlying5 w.heap.size 0 4 4 [a, b, c, d] rfl (fun i hi => by
  have : i = 0 \/ i = 1 \/ i = 2 \/ i = 3 := by omega
  rcases this with rfl | rfl | rfl | rfl <;> simp) 9 Tryz.underlying9
theorem byte_eq {a b : UInt8} (h : a.toNat = b.toNat) : a = b := UInt8.toNat_inj.1 h
theorem shr_byte (n k : Nat) (h : n < 4294967296) (hk : k < 32) : UInt8.ofNat (n / 2 ^ k % 256) = (UInt32.ofNat n >>> UInt32.ofNat k).toUInt8 := by
 apply byte_eq
 rw [UInt8.toNat_ofNat', UInt32.toNat_toUInt8, UInt32.toNat_shiftRight, UInt32.toNat_ofNat', UInt32.toNat_ofNat', Nat.mod_eq_of_lt (b := 2 ^ 32) (by omega), Nat.mod_eq_of_lt (b := 2 ^ 32) (by omega), Nat.mod_eq_of_lt hk, Nat.shiftRight_eq_div_pow]
 omega
theorem four_str (n : Nat) (h : n < 4294967296) : strOfNums [(n : Int) % 256, (n : Int) / 256 % 256, (n : Int) / 65536 % 256, (n : Int) / 16777216] = ⟨(Rf.fourB (UInt32.ofNat n)).toArray⟩ := by
 have e0 : UInt8.ofNat ((n : Int) % 256).toNat = (UInt32.ofNat n).toUInt8 := by
  apply byte_eq
  rw [UInt8.toNat_ofNat', UInt32.toNat_toUInt8, UInt32.toNat_ofNat']
  omega
 have e1 : UInt8.ofNat ((n : Int) / 256 % 256).toNat = (UInt32.ofNat n >>> 8).toUInt8 := by
  have := shr_byte n 8 h (by omega)
  have e : ((n : Int) / 256 % 256).toNat = n / 2 ^ 8 % 256 := by omega
  rw [e, this]; rfl
 have e2 : UInt8.ofNat ((n : Int) / 65536 % 256).toNat = (UInt32.ofNat n >>> 16).toUInt8 := by
  have := shr_byte n 16 h (by omega)
  have e : ((n : Int) / 65536 % 256).toNat = n / 2 ^ 16 % 256 := by omega
  rw [e, this]; rfl
 have e3 : UInt8.ofNat ((n : Int) / 16777216).toNat = (UInt32.ofNat n >>> 24).toUInt8 := by
  have := shr_byte n 24 h (by omega)
  have e : ((n : Int) / 16777216).toNat = n / 2 ^ 24 % 256 := by omega
  rw [e, this]; rfl
 unfold strOfNums Rf.fourB
 simp only [List.map_cons, List.map_nil, e0, e1, e2, e3]
set_option maxHeartbeats 1000000 in
theorem pfour_any (n : Nat) (w : World) (h : n < 4294967296) :
  Calls Tryz.prog 36 #[.int .u32 n] w fun r w' => r = .returned (.string ⟨(Rf.fourB (UInt32.ofNat n)).toArray⟩) /\ Below w.heap.size w w' := by
 have hcv := conv_four
 have HF : Hid _ := four_str n h
 go_enter Tryz.func36, Tryz.ntmps36
 go_wp2_with fail
 go_ret
 exact ⟨ret_str HF.out, (by repeat(first|exact bl0 _ _|refine bl1 ?_ (by simp<;>omega) _|refine bl2 ?_|refine bl3 ?_ _|refine bl4 ?_ (by simp<;>omega) _))⟩
theorem bits_xor32 (x y : Nat) : bits .xor .u32 (x : Int) (y : Int) = ((UInt32.ofNat x ^^^ UInt32.ofNat y).toNat : Int) := by
 have e : (UInt32.ofNat x ^^^ UInt32.ofNat y).toNat = (BitVec.ofNat 32 x ^^^ BitVec.ofNat 32 y).toNat := rfl
 have hl := (BitVec.ofNat 32 x ^^^ BitVec.ofNat 32 y).isLt
 rw [e]
 show IntKind.u32.wrap ((BitVec.ofInt 32 (x : Int) ^^^ BitVec.ofInt 32 (y : Int)).toNat : Int) = _
 rw [BitVec.ofInt_natCast, BitVec.ofInt_natCast]
 show ((BitVec.ofNat 32 x ^^^ BitVec.ofNat 32 y).toNat : Int) % 4294967296 = _
 omega
theorem bits_and32 (x y : Nat) : bits .and .u32 (x : Int) (y : Int) = ((UInt32.ofNat x &&& UInt32.ofNat y).toNat : Int) := by
 have e : (UInt32.ofNat x &&& UInt32.ofNat y).toNat = (BitVec.ofNat 32 x &&& BitVec.ofNat 32 y).toNat := rfl
 have hl := (BitVec.ofNat 32 x &&& BitVec.ofNat 32 y).isLt
 rw [e]
 show IntKind.u32.wrap ((BitVec.ofInt 32 (x : Int) &&& BitVec.ofInt 32 (y : Int)).toNat : Int) = _
 rw [BitVec.ofInt_natCast, BitVec.ofInt_natCast]
 show ((BitVec.ofNat 32 x &&& BitVec.ofNat 32 y).toNat : Int) % 4294967296 = _
 omega
theorem crc_step (y : Nat) (hy : y < 4294967296) : bits .xor .u32 ((y : Int) / 2) (bits .and .u32 (y : Int) 1 * 3988292384 % 4294967296) = ((Rf.crcBit (UInt32.ofNat y)).toNat : Int) := by
 have e1 : bits .and .u32 (y : Int) 1 = ((UInt32.ofNat y &&& 1).toNat : Int) := bits_and32 y 1
 have e2 : ((UInt32.ofNat y &&& 1).toNat : Int) * 3988292384 % 4294967296 = (((UInt32.ofNat y &&& 1) * 0xEDB88320).toNat : Int) := by
  rw [UInt32.toNat_mul]
  have : (0xEDB88320 : UInt32).toNat = 3988292384 := rfl
  rw [this]
  omega
 have e3 : (y : Int) / 2 = ((y / 2 : Nat) : Int) := by omega
 have e4 : UInt32.ofNat (y / 2) = UInt32.ofNat y >>> 1 := by
  apply UInt32.toNat_inj.1
  rw [UInt32.toNat_shiftRight, UInt32.toNat_ofNat', UInt32.toNat_ofNat', Nat.mod_eq_of_lt (b := 2 ^ 32) (by omega), Nat.mod_eq_of_lt (b := 2 ^ 32) (by omega), Nat.shiftRight_eq_div_pow]
  rfl
 rw [e1, e2, e3, bits_xor32, e4, UInt32.ofNat_toNat]
 rfl
theorem not32 (x : Nat) : bits .xor .u32 IntKind.u32.max (x : Int) = ((~~~ (UInt32.ofNat x)).toNat : Int) := by
 have e : bits .xor .u32 IntKind.u32.max (x : Int) = ((UInt32.ofNat 4294967295 ^^^ UInt32.ofNat x).toNat : Int) := bits_xor32 4294967295 x
 rw [e]
 have e2 : (UInt32.ofNat 4294967295 ^^^ UInt32.ofNat x).toNat = (BitVec.allOnes 32 ^^^ BitVec.ofNat 32 x).toNat := rfl
 have e3 : (~~~ (UInt32.ofNat x)).toNat = (~~~ (BitVec.ofNat 32 x)).toNat := rfl
 rw [e2, e3, BitVec.allOnes_xor]
set_option maxHeartbeats 1000000 in
theorem psum_any (s : ByteArray) (w : World) (hm : s.size <= maxLen) :
  Calls Tryz.prog 37 #[.string s] w fun r w' => r = .returned (.int .u32 ((Rf.sumB (Rf.bs s)).toNat : Int)) /\ w' = w := by
 have hm2 : s.size <= 9223372036854775807 := by have := hm; unfold maxLen at this; omega
 clear hm
 go_enter Tryz.func37, Tryz.ntmps37
 go_wp2_with fail
 go_loopg [3, 4] (s.size + 1) (fun m rv iv wr => wr = w /\ ∃ k : Nat, k <= s.size /\ m = s.size + 1 - k /\ iv = .int .i64 k /\ ∃ x : Nat, x < 4294967296 /\ rv = .int .u32 x /\ Hid (UInt32.ofNat x = Rf.crcRest (~~~ 0) ((Rf.bs s).take k)))
 case atStart => exact ⟨rfl, 0, by omega, by omega, rfl, 4294967295, by omega, rfl, rfl⟩
 case round =>
  obtain ⟨rfl, k, hk, rfl, rfl, x, hx, rfl, hE⟩ := hrel
  by_cases hlt : k < s.size
  ·have hb8 : (s[k]'hlt).toNat < 256 := UInt8.toNat_lt _
   go_wp2_with fail
   go_loopg [3, 5] 9 (fun m rv jv wi => wi = wr /\ ∃ j : Nat, j <= 8 /\ m = 9 - j /\ jv = .int .i64 j /\ ∃ y : Nat, y < 4294967296 /\ rv = .int .u32 y /\ Hid (Rf.crcBits (8 - j) (UInt32.ofNat y) = Rf.crcByte (UInt32.ofNat x) (s[k]'hlt)))
   case atStart =>
    refine ⟨rfl, 0, by omega, by omega, rfl, (UInt32.ofNat x ^^^ UInt32.ofNat (s[k]'hlt).toNat).toNat, UInt32.toNat_lt _, ?_, ?_⟩
    ·rw [<- bits_xor32]
    ·show Rf.crcBits 8 _ = Rf.crcBits 8 _
     rw [UInt32.ofNat_toNat]
     congr 2
     apply UInt32.toNat_inj.1
     rw [UInt32.toNat_ofNat', UInt8.toNat_toUInt32]
     omega
   case round =>
    obtain ⟨rfl, j, hj, rfl, rfl, y, hy, rfl, hY⟩ := hrel
    by_cases hj8 : j < 8
    ·have hcs : Hid _ := crc_step y hy
     have hj9 : (j : Int) < 8 := by omega
     go_wp2_with fail
     go_roundg (8 - j)
     case measure => omega
     case rel =>
      refine ⟨rfl, j + 1, by omega, by omega, by go_num, (Rf.crcBit (UInt32.ofNat y)).toNat, UInt32.toNat_lt _, by rw [hcs.out], ?_⟩
      show Rf.crcBits _ _ = _
      rw [UInt32.ofNat_toNat, <- hY.out]
      have e : 8 - j = 8 - (j + 1) + 1 := by omega
      rw [e]
      rfl
    ·have hj9 : ¬ (j : Int) < 8 := by omega
     obtain rfl : j = 8 := by omega
     go_wp2_with fail
     go_roundg (s.size - k)
     case measure => omega
     case rel =>
      refine ⟨rfl, k + 1, by omega, by omega, by go_num, y, hy, rfl, ?_⟩
      have e1 := hY.out
      have e2 : (Rf.bs s).take (k + 1) = (Rf.bs s).take k ++ [s[k]'hlt] := List.take_succ_eq_append_getElem (l := Rf.bs s) (by rw [Rf.bs_len]; exact hlt)
      show UInt32.ofNat y = _
      rw [e2]
      unfold Rf.crcRest
      rw [List.foldl_append]
      have e3 := hE.out
      unfold Rf.crcRest at e3
      rw [<- e3]
      exact e1
  ·obtain rfl : k = s.size := by omega
   have hn := not32 x
   have HN : Hid (bits BinOp.xor IntKind.u32 IntKind.u32.max (x : Int) = ((Rf.sumB (Rf.bs s)).toNat : Int)) := by
    unfold Hid Rf.sumB
    rw [hn, hE.out, <- Rf.bs_len, List.take_length]
   clear hn
   go_wp2_with fail
   go_ret
   exact ⟨ret_int HN.out, rfl⟩
def strOf (l : List UInt8) : ByteArray := ⟨l.toArray⟩
theorem strOf_bs (s : ByteArray) : strOf (Rf.bs s) = s := by cases s; simp [strOf, Rf.bs]
theorem bs_strOf (l : List UInt8) : Rf.bs (strOf l) = l := by simp [strOf, Rf.bs]
theorem strOf_size (l : List UInt8) : (strOf l).size = l.length := by rw [<- Rf.bs_len, bs_strOf]
theorem strOf_app (a b : List UInt8) : strOf a ++ strOf b = strOf (a ++ b) := by
 apply Rf.bs_inj
 rw [Rf.bs_app, bs_strOf, bs_strOf, bs_strOf]
theorem conv_row {B : Nat} {w : World} {v : Value} {l : List UInt8} (h : RowIs w B 5 1 byteCells v l) : (convert 47 9 v).run Tryz.prog w = .ok (.string (strOf l)) w := by
 rcases h.shape with ⟨rfl, rfl⟩ | ⟨g, cap, rfl, _⟩
 ·exact run_convert_bytes_nil (P := Tryz.prog) w 47 5 Tryz.underlying47 Tryz.underlying5 0 0 9 Tryz.underlying9
 ·refine run_convert_bytes_back (P := Tryz.prog) w 47 9 5 ⟨g, 0, none⟩ cap l Tryz.underlying47 Tryz.underlying5 Tryz.underlying9 ?_
  intro j hj
  have := h.cells byteCells_len j l[j] (by simp [hj]) 0 (.int .u8 l[j].toNat) rfl
  rw [Addr.add_lit]
  simpa using this
theorem fourR (n : Nat) (w : World) (h : n < 4294967296) :
  Calls Tryz.prog 36 #[.int .u32 n] w fun r w' => ∃ f4 : ByteArray, r = .returned (.string f4) /\ f4.size <= 4 /\ Hid (f4 = strOf (Rf.fourB (UInt32.ofNat n))) /\ Below w.heap.size w w' :=
 (pfour_any n w h).mono (fun _ _ ⟨e, hb⟩ => ⟨_, e, by show (strOf _).size <= 4; rw [strOf_size]; exact Nat.le_refl _, rfl, hb⟩)
theorem sumR (s : ByteArray) (w : World) (hm : s.size <= maxLen) :
  Calls Tryz.prog 37 #[.string s] w fun r w' => ∃ x : Nat, r = .returned (.int .u32 x) /\ x < 4294967296 /\ Hid (UInt32.ofNat x = Rf.sumB (Rf.bs s)) /\ w' = w :=
 (psum_any s w hm).mono (fun _ _ ⟨e, hb⟩ => ⟨_, e, UInt32.toNat_lt _, UInt32.ofNat_toNat, hb⟩)
set_option maxHeartbeats 1000000 in
set_option maxRecDepth 100000 in
theorem wimage_any (B : Nat) (w : World) (b : Nat) (l : List UInt8) (h : WrAt B w b l) (hl : l.length <= 4000000000) :
  Calls Tryz.prog 25 #[.pointer (some ⟨b, 0, none⟩)] w fun r w' => r = .returned (.string (strOf (Rf.imgB l))) /\ Below w.heap.size w w' := by
 obtain ⟨v, h1, h2⟩ := h.ex
 obtain ⟨a, c, rfl⟩ := brow_slice h2
 have q0 := blk_cell h1 0
 have qf := blk_frozen h1
 have ql := blk_lt h1
 simp at q0
 have H1 : Hid _ := h1
 have H2 : Hid _ := h2
 clear h h1 h2
 obtain ⟨tl, htl⟩ : ∃ tl, Hid (tl = strOf l) := ⟨_, rfl⟩
 have hts : tl.size <= 4000000000 := by rw [htl.out, strOf_size]; omega
 go_enter Tryz.func25, Tryz.ntmps25
 go_wp2_with (first
  | (have hf4' := hf5; fail)
  | (have hx' := hx4; go_at_call 36; refine (fourR x4 _ hx4).mono ?_; rintro r w3 ⟨f5, rfl, hf5, hF5, hb3⟩)
  | (have hf4' := hf4; go_at_call 37; refine (sumR _ _ (by unfold maxLen; rw [ByteArray.size_append]; omega)).mono ?_; rintro r w2 ⟨x4, rfl, hx4, hX4, hw2⟩; subst w2)
  | (go_at_call 36; refine (fourR (l.length + 8) _ (by omega)).mono ?_; rintro r w1 ⟨f4, rfl, hf4, hF4, hb1⟩; have hcv := conv_row (H2.out.below hb1); rw [<- htl.out] at hcv; have q1 := blk_cell ((hb1.block b ql).trans H1.out) 0; have q1f := blk_frozen ((hb1.block b ql).trans H1.out); simp at q1))
 go_ret
 have hE : f4 ++ tl ++ f5 = strOf (Rf.imgB l) := by
  rw [hF5.out, hX4.out, hF4.out, htl.out, strOf_app, bs_strOf, strOf_app]
  rfl
 have hs1 := hb1.size
 exact ⟨ret_str hE, hb1.trans (hb3.mono hs1)⟩
def RdB (w : World) (b : Nat) (r : Rf.Rdr) : Prop := w.heap[b]? = some (.cells #[.string (strOf r.rest), .bool r.wrong] 109 (0, 0))
theorem open_short {b : List UInt8} (h : b.length < 8) : Rf.openL b = Rf.refuse := by unfold Rf.openL; rw [if_pos (.inl h)]
theorem cut_str (s : ByteArray) (a b : Nat) : s.extract a b = strOf (((Rf.bs s).drop a).take (b - a)) := by
 apply Rf.ext_list
 rw [Rf.extract_list]
 exact (bs_strOf _).symm
theorem strOf_inj {a b : List UInt8} (h : strOf a = strOf b) : a = b := by rw [<- bs_strOf a, h, bs_strOf]
theorem strOf_dec (a b : List UInt8) : (!decide (strOf a = strOf b)) = decide (a ≠ b) := by
 by_cases h : a = b
 ·subst h; simp
 ·rw [decide_eq_false (fun e => h (strOf_inj e)), decide_eq_true h]; rfl
theorem open1 (s : ByteArray) (ln : Nat) (h : ln = s.size % 4294967296) : (!decide (s.extract 0 4 = strOf (Rf.fourB (UInt32.ofNat ln)))) = decide ((Rf.bs s).take 4 ≠ Rf.fourB (UInt32.ofNat s.size)) := by
 have e : UInt32.ofNat ln = UInt32.ofNat s.size := by
  apply UInt32.toNat_inj.1
  rw [UInt32.toNat_ofNat', UInt32.toNat_ofNat', h]
  omega
 rw [cut_str, e, strOf_dec]
 rfl
theorem open2 (s : ByteArray) (m : Nat) : (!decide (s.extract m s.size = strOf (Rf.fourB (Rf.sumB (Rf.bs (s.extract 0 m)))))) = decide ((Rf.bs s).drop m ≠ Rf.fourB (Rf.sumB ((Rf.bs s).take m))) := by
 have e1 : Rf.bs (s.extract 0 m) = (Rf.bs s).take m := by rw [cut_str, bs_strOf, List.drop_zero, Nat.sub_zero]
 have e2 : ((Rf.bs s).drop m).take (s.size - m) = (Rf.bs s).drop m := List.take_of_length_le (by rw [List.length_drop, Rf.bs_len]; exact Nat.le_refl _)
 rw [e1, cut_str, e2, strOf_dec]
set_option maxHeartbeats 4000000 in
set_option maxRecDepth 100000 in
theorem popen_any (s : ByteArray) (w : World) (hm : s.size <= maxLen) :
  Calls Tryz.prog 38 #[.string s] w fun r w' => ∃ b, r = .returned (.pointer (some ⟨b, 0, none⟩)) /\ RdB w' b (Rf.openL (Rf.bs s)) /\ w.heap.size <= b /\ Below w.heap.size w w' := by
 have hm2 : s.size <= 9223372036854775807 := by have := hm; unfold maxLen at this; omega
 by_cases h8 : s.size < 8
 ·have hO : Hid (Rf.openL (Rf.bs s) = Rf.refuse) := open_short (by rw [Rf.bs_len]; exact h8)
  have hg : ((s.size : Int) - 4 < 4) := by omega
  go_enter Tryz.func38, Tryz.ntmps38
  go_wp2_with fail
  go_quiet (fail)
  go_wp2_with fail
  go_ret
  rw [hO.out]
  exact ⟨_, rfl, blk_new (w.drewN nq) _, Nat.le_refl _, ((Below.refl _ w).drewN nq).alloc (Nat.le_refl _) _⟩
 ·obtain ⟨ln, hln⟩ : ∃ ln : Nat, Hid (ln = s.size % 4294967296) := ⟨_, rfl⟩
  have hln3 : ln < 4294967296 := by have := hln.out; omega
  obtain ⟨m, hm4⟩ : ∃ m : Nat, (s.size : Int) - 4 = (m : Int) := ⟨s.size - 4, by omega⟩
  have h4 : (4 : Int) <= s.size := by omega
  have hwr : IntKind.u32.wrap (s.size : Int) = (ln : Int) := by have := hln.out; show (s.size : Int) % 4294967296 = _; omega
  have hg : decide ((m : Int) < 4) = false := decide_eq_false (by omega)
  have hml : (m : Int) <= s.size := by omega
  have hm0 : (4 : Int) <= m := by omega
  have HM : Hid (m = s.size - 4) := by show m = _; omega
  obtain ⟨c1, hc1⟩ : ∃ c1, Hid (c1 = decide ((Rf.bs s).take 4 ≠ Rf.fourB (UInt32.ofNat s.size))) := ⟨_, rfl⟩
  obtain ⟨c2, hc2⟩ : ∃ c2, Hid (c2 = decide ((Rf.bs s).drop (s.size - 4) ≠ Rf.fourB (Rf.sumB ((Rf.bs s).take (s.size - 4))))) := ⟨_, rfl⟩
  have hO : Hid (Rf.openL (Rf.bs s) = if c1 = true then Rf.refuse else if c2 = true then Rf.refuse else ⟨((Rf.bs s).take (s.size - 4)).drop 4, false⟩) := by
   unfold Hid Rf.openL
   rw [Rf.bs_len, hc1.out, hc2.out]
   simp only [decide_eq_true_eq]
   by_cases h1 : (Rf.bs s).take 4 ≠ Rf.fourB (UInt32.ofNat s.size)
   ·rw [if_pos (.inr h1), if_pos h1]
   ·rw [if_neg (fun e => by rcases e with e | e; exact h8 e; exact h1 e), if_neg h1]
  go_enter Tryz.func38, Tryz.ntmps38
  go_wp2_with fail
  go_cut [17] from 7 to 17 (fun b wx => b = .bool c1 /\ Below w.heap.size w wx)
  case first =>
   go_region_with (go_at_call 36; refine (fourR ln _ hln3).mono ?_; rintro r w1 ⟨f4, rfl, hf4, hF4, hb1⟩)
   all_goals
    go_wp2_with fail
    go_meet
    refine ⟨?_, ((Below.refl _ w).drew).trans hb1⟩
    rw [beq_toList, hF4.out, hc1.out, <- open1 s ln hln.out]
  case rest =>
   obtain ⟨rfl, hbx⟩ := hcut
   cases c1
   ·go_wp2_with fail
    go_cut [28] from 20 to 28 (fun b wx => b = .bool c2 /\ Below w.heap.size w wx)
    case first =>
     go_region_with (first
      | (have hx' := hx4; go_at_call 36; refine (fourR x4 _ hx4).mono ?_; rintro r w1 ⟨f4, rfl, hf4, hF4, hb1⟩)
      | (go_at_call 37; refine (sumR _ _ (by unfold maxLen at *; rw [ByteArray.size_extract]; omega)).mono ?_; rintro r w2 ⟨x4, rfl, hx4, hX4, hw2⟩; subst w2))
     all_goals
      go_wp2_with fail
      go_meet
      refine ⟨?_, hbx.trans ((((Below.refl _ wc).drew).trans hb1).mono hbx.size)⟩
      rw [beq_toList, hF4.out, hX4.out, hc2.out, <- HM.out, <- open2 s m]
    case rest =>
     obtain ⟨rfl, hby⟩ := hcut
     cases c2
     ·go_wp2_with fail
      go_ret
      rw [hO.out]
      refine ⟨_, rfl, ?_, hby.size, hby.alloc hby.size _⟩
      have e : s.extract 4 m = strOf (((Rf.bs s).take (s.size - 4)).drop 4) := by rw [cut_str, <- HM.out, List.drop_take]
      rw [e]
      exact blk_new wc _
     ·go_wp2_with fail
      go_ret
      rw [hO.out]
      exact ⟨_, rfl, blk_new wc _, hby.size, hby.alloc hby.size _⟩
   ·go_wp2_with fail
    go_ret
    rw [hO.out]
    exact ⟨_, rfl, blk_new wc _, hbx.size, hbx.alloc hbx.size _⟩
end Go.Proofs.YtbiojnljihgpoaaGreatDoor
namespace Rf
theorem numR_big {most v s : Nat} {d : UInt8} {l : List UInt8} (h : (most - v) / s < d.toNat % 128) : numR most (d :: l) v s = (0, refuse) := by rw [numR, if_pos h]
theorem numR_end {most v s : Nat} {d : UInt8} {l : List UInt8} (h : ¬ (most - v) / s < d.toNat % 128) (h2 : d.toNat < 128) : numR most (d :: l) v s = (v + d.toNat % 128 * s, ⟨l, false⟩) := by rw [numR, if_neg h, if_pos h2]
theorem numR_out {most v s : Nat} {d : UInt8} {l : List UInt8} (h : ¬ (most - v) / s < d.toNat % 128) (h2 : ¬ d.toNat < 128) (h3 : most / 128 < s) : numR most (d :: l) v s = (0, refuse) := by rw [numR, if_neg h, if_neg h2, if_pos h3]
theorem numR_go {most v s : Nat} {d : UInt8} {l : List UInt8} (h : ¬ (most - v) / s < d.toNat % 128) (h2 : ¬ d.toNat < 128) (h3 : ¬ most / 128 < s) : numR most (d :: l) v s = numR most l (v + d.toNat % 128 * s) (s * 128) := by rw [numR, if_neg h, if_neg h2, if_neg h3]
end Rf
namespace Go.Proofs.YtbiojnljihgpoaaGreatDoor
open Go.RowKit
theorem RdB.facts {w : World} {b : Nat} {r : Rf.Rdr} (h : RdB w b r) : w.cell? ⟨b, 0, none⟩ = some (.string (strOf r.rest)) /\ w.cell? ⟨b, 1, none⟩ = some (.bool r.wrong) /\ (∀ i, w.frozen? ⟨b, i, none⟩ = false) /\ b < w.heap.size :=
 ⟨blk_cell h 0, blk_cell h 1, blk_frozen h, blk_lt h⟩
theorem RdB.kept {M : Nat -> Prop} {w w' : World} {b : Nat} {r : Rf.Rdr} (h : RdB w b r) (hk : Kept M w w') (hb : ¬ M b) : RdB w' b r := (hk.block b (blk_lt h) hb).trans h
theorem RdB.below {w w' : World} {b : Nat} {r : Rf.Rdr} (h : RdB w b r) (hb : Below w.heap.size w w') : RdB w' b r := (hb.block b (blk_lt h)).trans h
theorem RdB.rest {w : World} {b : Nat} {r : Rf.Rdr} (h : RdB w b r) (l : List UInt8) : RdB (w.setCell ⟨b, 0, none⟩ (.string (strOf l))) b ⟨l, r.wrong⟩ := by
 have := blk_set h 0 (.string (strOf l))
 unfold RdB
 simpa using this
theorem RdB.refuse {w : World} {b : Nat} {r : Rf.Rdr} (h : RdB w b r) : RdB ((w.setCell ⟨b, 0, none⟩ (.string ⟨#[]⟩)).setCell ⟨b, 1, none⟩ (.bool true)) b Rf.refuse := by
 have := blk_set (blk_set h 0 (.string ⟨#[]⟩)) 1 (.bool true)
 simp only [List.setIfInBounds_toArray, List.set_cons_succ, List.set_cons_zero] at this
 exact this
set_option maxHeartbeats 400000 in
theorem prefuse_any (w : World) (b : Nat) (r : Rf.Rdr) (h : RdB w b r) :
  Calls Tryz.prog 57 #[.pointer (some ⟨b, 0, none⟩)] w fun x w' => x = .returned (.tuple #[]) /\ RdB w' b Rf.refuse /\ Kept (fun k => k = b) w w' := by
 have HR : Hid _ := h.refuse
 obtain ⟨q0, q1, qf, ql⟩ := h.facts
 clear h
 go_enter Tryz.func57, Tryz.ntmps57
 go_wp2_with fail
 go_end0
 exact ⟨rfl, HR.out, ((Kept.refl (fun k => k = b) w).setCell (p := ⟨b, 0, none⟩) (.inr rfl) _).setCell (p := ⟨b, 1, none⟩) (.inr rfl) _⟩
set_option maxHeartbeats 400000 in
theorem pwrong_any (w : World) (b : Nat) (r : Rf.Rdr) (h : RdB w b r) :
  Calls Tryz.prog 42 #[.pointer (some ⟨b, 0, none⟩)] w fun x w' => x = .returned (.bool r.wrong) /\ w' = w := by
 obtain ⟨q0, q1, qf, ql⟩ := h.facts
 clear h
 go_enter Tryz.func42, Tryz.ntmps42
 go_wp2_with fail
 go_ret
 exact ⟨rfl, rfl⟩
theorem str_first (d : UInt8) (l : List UInt8) (h : 0 < (strOf (d :: l)).size) : ((strOf (d :: l))[0]'h).toNat = d.toNat := rfl
theorem str_tail (d : UInt8) (l : List UInt8) : (strOf (d :: l)).extract 1 (strOf (d :: l)).size = strOf l := by
 rw [cut_str, bs_strOf, strOf_size]
 simp
set_option maxHeartbeats 2000000 in
set_option maxRecDepth 100000 in
theorem pnumL_any (w : World) (b : Nat) (r : Rf.Rdr) (most : Nat) (h : RdB w b r) (hr : Rf.RdrOk r) (hm : most <= 4000000000) :
  Calls Tryz.prog 40 #[.pointer (some ⟨b, 0, none⟩), .int .i64 most] w fun x w' => x = .returned (.int .i64 ((Rf.numL most r).1 : Int)) /\ RdB w' b (Rf.numL most r).2 /\ Kept (fun k => k = b) w w' := by
 have HR : Hid _ := h
 have HO : Hid (Rf.RdrOk r) := hr
 clear h hr
 go_enter Tryz.func40, Tryz.ntmps40
 go_wp2_with fail
 go_loopg [5, 6] (r.rest.length + 1) (fun m vv sv wr => ∃ (v sc : Nat) (l : List UInt8) (g : Bool), vv = .int .i64 v /\ sv = .int .i64 sc /\ m = l.length + 1 /\ v <= most /\ 1 <= sc /\ sc <= 4000000000 /\ Hid (g = true -> l = []) /\ RdB wr b ⟨l, g⟩ /\ Kept (fun k => k = b) w wr /\ Hid (Rf.numR most l v sc = Rf.numL most r))
 case atStart => exact ⟨0, 1, r.rest, r.wrong, rfl, rfl, rfl, Nat.zero_le _, Nat.le_refl _, by omega, HO.out, HR.out, Kept.refl _ _, (Rf.numL_eq HO.out).symm⟩
 case round =>
  obtain ⟨v, sc, l, g, rfl, rfl, rfl, hv, hs1, hs2, hg, hR, hk, hE⟩ := hrel
  have H : Hid _ := hR
  obtain ⟨q0, q1, qf, ql⟩ := hR.facts
  simp only at q0 q1
  clear hR
  cases l with
  | nil =>
   have e0 : strOf [] = ⟨#[]⟩ := rfl
   rw [e0] at q0
   go_wp2_with (go_at_call 57; refine (prefuse_any _ b _ H.out).mono ?_; rintro x w1 ⟨rfl, hR1, hk1⟩)
   go_ret
   rw [<- hE.out]
   exact ⟨rfl, hR1, hk.trans hk1 (fun _ _ e => e)⟩
  | cons d l =>
   have hgf : g = false := by
    cases g
    ·rfl
    ·exact absurd (hg.out rfl) (by simp)
   subst hgf
   have HR1 : Hid (RdB (wr.setCell ⟨b, 0, none⟩ (.string (strOf l))) b ⟨l, false⟩) := RdB.rest (r := ⟨d :: l, false⟩) H.out l
   have HK1 : Hid (Kept (fun k => k = b) w (wr.setCell ⟨b, 0, none⟩ (.string (strOf l)))) := hk.setCell (p := ⟨b, 0, none⟩) (.inr rfl) _
   have hd8 : d.toNat < 256 := UInt8.toNat_lt _
   have hsz : 0 < (strOf (d :: l)).size := by rw [strOf_size]; simp
   have hsi : (0 : Int) < (strOf (d :: l)).size := by omega
   have hs1i : (1 : Int) <= (strOf (d :: l)).size := by omega
   have hfi := str_first d l
   have htl := str_tail d l
   obtain ⟨q, hq⟩ : ∃ q : Nat, Hid (q = d.toNat % 128) := ⟨_, rfl⟩
   have hqi : (d.toNat : Int) % 128 = (q : Int) := by have := hq.out; omega
   have hqn : q < 128 := by have := hq.out; omega
   obtain ⟨t, ht⟩ : ∃ t : Nat, Hid (t = (most - v) / sc) := ⟨_, rfl⟩
   have hti : ((most : Int) - v) / sc = (t : Int) := by
    rw [ht.out, Int.natCast_ediv]
    congr 1
    omega
   obtain ⟨p, hp⟩ : ∃ p : Nat, Hid (p = q * sc) := ⟨_, rfl⟩
   have hpi : (q : Int) * sc = (p : Int) := by rw [hp.out]; simp
   generalize hS : strOf (d :: l) = S at *
   have HS : Hid _ := hS
   clear hS
   by_cases c1 : t < q
   ·have hN : Hid (Rf.numL most r = (0, Rf.refuse)) := by unfold Hid; rw [<- hE.out]; exact Rf.numR_big (by rw [<- ht.out, <- hq.out]; exact c1)
    have c1i : (t : Int) < q := by omega
    go_wp2_with (go_at_call 57; refine (prefuse_any _ b _ HR1.out).mono ?_; rintro x w1 ⟨rfl, hR1, hk1⟩)
    go_ret
    rw [hN.out]
    exact ⟨rfl, hR1, HK1.out.trans hk1 (fun _ _ e => e)⟩
   ·have hple : v + p <= most := by
     have h1 : q <= (most - v) / sc := by have := ht.out; omega
     have h2 := (Nat.le_div_iff_mul_le (by omega)).1 h1
     have := hp.out
     omega
    have c1i : ¬ ((t : Int) < q) := by omega
    have hn1 : Hid (¬ (most - v) / sc < d.toNat % 128) := by unfold Hid; rw [<- ht.out, <- hq.out]; exact c1
    by_cases c2 : d.toNat < 128
    ·have hN : Hid (Rf.numL most r = (v + p, ⟨l, false⟩)) := by unfold Hid; rw [<- hE.out, Rf.numR_end hn1.out c2, <- hq.out, <- hp.out]
     have c2i : (d.toNat : Int) < 128 := by omega
     go_wp2_with fail
     go_ret
     rw [hN.out]
     exact ⟨by go_num, HR1.out, HK1.out⟩
    ·have c2i : ¬ ((d.toNat : Int) < 128) := by omega
     by_cases c3 : most / 128 < sc
     ·have hN : Hid (Rf.numL most r = (0, Rf.refuse)) := by unfold Hid; rw [<- hE.out, Rf.numR_out hn1.out c2 c3]
      have c3i : (most : Int) / 128 < sc := by omega
      go_wp2_with (go_at_call 57; refine (prefuse_any _ b _ HR1.out).mono ?_; rintro x w1 ⟨rfl, hR1, hk1⟩)
      go_ret
      rw [hN.out]
      exact ⟨rfl, hR1, HK1.out.trans hk1 (fun _ _ e => e)⟩
     ·have hN : Hid (Rf.numR most l (v + p) (sc * 128) = Rf.numL most r) := by unfold Hid; rw [<- hE.out, Rf.numR_go hn1.out c2 c3, <- hq.out, <- hp.out]
      have c3i : ¬ ((most : Int) / 128 < sc) := by omega
      go_wp2_with fail
      go_roundg (l.length + 1)
      case measure => simp
      case rel => exact ⟨v + p, sc * 128, l, false, by go_num, by go_num, rfl, hple, by omega, by omega, (fun e => by cases e), HR1.out, HK1.out, hN⟩
end Go.Proofs.YtbiojnljihgpoaaGreatDoor
