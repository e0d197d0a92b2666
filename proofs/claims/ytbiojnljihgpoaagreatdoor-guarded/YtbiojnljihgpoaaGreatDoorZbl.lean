
import Derived.Test.YtbiojnljihgpoaaGreatDoorZak
import Derived.Test.YtbiojnljihgpoaaGreatDoorZal
namespace Rf
def polyV : BitVec 32 := 0xEDB88320#32
def cB (x : BitVec 32) : BitVec 32 := (x >>> 1) ^^^ (if x.getLsbD 0 = true then polyV else 0#32)
theorem cB_xor (a b : BitVec 32) : cB (a ^^^ b) = cB a ^^^ cB b := by
 unfold cB
 rw [BitVec.ushiftRight_xor_distrib, BitVec.getLsbD_xor]
 cases a.getLsbD 0 <;> cases b.getLsbD 0
 ·simp
 ·simp [BitVec.xor_assoc]
 ·simp only [Bool.xor_false, if_true, BitVec.xor_zero, Bool.false_eq_true, if_false]
  rw [BitVec.xor_assoc, BitVec.xor_comm (b >>> 1), <- BitVec.xor_assoc]
 ·simp only [Bool.xor_true, Bool.not_true, Bool.false_eq_true, if_false, if_true, BitVec.xor_zero]
  rw [BitVec.xor_comm (b >>> 1), BitVec.xor_assoc, <- BitVec.xor_assoc polyV, BitVec.xor_self, BitVec.zero_xor]
theorem cB_low {x : BitVec 32} (h : (cB x).getLsbD 31 = false) : x.getLsbD 0 = false /\ cB x = x >>> 1 := by
 unfold cB at h ⊢
 cases hx : x.getLsbD 0 with
 | false => exact ⟨rfl, by simp⟩
 | true =>
  rw [hx, if_pos rfl, BitVec.getLsbD_xor, BitVec.getLsbD_ushiftRight] at h
  have h1 : x.getLsbD (1 + 31) = false := BitVec.getLsbD_of_ge x _ (by omega)
  have h2 : polyV.getLsbD 31 = true := by decide
  rw [h1, h2] at h
  cases h
theorem crcBit_V (r : UInt32) : (crcBit r).toBitVec = cB r.toBitVec := by
 unfold crcBit cB
 rw [UInt32.toBitVec_xor, UInt32.toBitVec_shiftRight, UInt32.toBitVec_mul, UInt32.toBitVec_and]
 have e : r.toBitVec &&& (1 : UInt32).toBitVec = BitVec.setWidth 32 (BitVec.ofBool (r.toBitVec.getLsbD 0)) := BitVec.and_one_eq_setWidth_ofBool_getLsbD
 rw [e]
 cases r.toBitVec.getLsbD 0
 ·rfl
 ·rfl
def bitV (d : Bool) : BitVec 32 := if d = true then 1#32 else 0#32
def feed : BitVec 32 -> List Bool -> BitVec 32
 | x, [] => x
 | x, d :: ds => feed (cB (x ^^^ bitV d)) ds
def valB : List Bool -> Nat
 | [] => 0
 | d :: ds => d.toNat + 2 * valB ds
theorem valB_lt : ∀ (ds : List Bool), valB ds < 2 ^ ds.length
 | [] => by simp [valB]
 | d :: ds => by
  have := valB_lt ds
  rw [valB, List.length_cons, Nat.pow_succ]
  cases d <;> simp <;> omega
theorem xor_odd (v : Nat) : (2 * v) ^^^ 1 = 2 * v + 1 := by
 apply Nat.eq_of_testBit_eq
 intro i
 cases i with
 | zero =>
  rw [Nat.testBit_xor, Nat.testBit_zero, Nat.testBit_zero, Nat.testBit_zero]
  have e1 : 2 * v % 2 = 0 := by omega
  have e2 : (2 * v + 1) % 2 = 1 := by omega
  rw [e1, e2]
  rfl
 | succ i =>
  rw [Nat.testBit_xor, Nat.testBit_succ, Nat.testBit_succ, Nat.testBit_succ]
  have e1 : 2 * v / 2 = v := by omega
  have e2 : (2 * v + 1) / 2 = v := by omega
  have e3 : 1 / 2 = 0 := rfl
  rw [e1, e2, e3, Nat.zero_testBit, Bool.xor_false]
theorem feed_zero : ∀ (ds : List Bool) (x : BitVec 32), ds.length <= 32 -> feed x ds = 0#32 -> x.toNat = valB ds
 | [], x, _, h => by
  have : x = 0#32 := h
  rw [this]; rfl
 | d :: ds, x, hl, h => by
  rw [List.length_cons] at hl
  have ih := feed_zero ds (cB (x ^^^ bitV d)) (by omega) h
  obtain ⟨y, hy⟩ : ∃ y, x ^^^ bitV d = y := ⟨_, rfl⟩
  rw [hy] at ih
  have hv := valB_lt ds
  have hp : 2 ^ ds.length <= 2 ^ 31 := Nat.pow_le_pow_right (by omega) (by omega)
  have h31 : (cB y).getLsbD 31 = false := by
   show (cB y).toNat.testBit 31 = false
   rw [ih]
   exact Nat.testBit_lt_two_pow (by omega)
  obtain ⟨h0, h1⟩ := cB_low h31
  rw [h1, BitVec.toNat_ushiftRight, Nat.shiftRight_eq_div_pow] at ih
  have hm : y.toNat % 2 = 0 := by
   have : y.toNat.testBit 0 = false := h0
   rw [Nat.testBit_zero] at this
   simp at this
   omega
  have hy2 : y.toNat = 2 * valB ds := by omega
  have hx : x = y ^^^ bitV d := by rw [<- hy, BitVec.xor_assoc, BitVec.xor_self, BitVec.xor_zero]
  rw [hx, BitVec.toNat_xor, hy2, valB]
  cases d with
  | false =>
   show 2 * valB ds ^^^ 0 = 0 + 2 * valB ds
   rw [Nat.xor_zero, Nat.zero_add]
  | true =>
   show 2 * valB ds ^^^ 1 = 1 + 2 * valB ds
   rw [xor_odd, Nat.add_comm]
theorem valB_zero : ∀ {ds : List Bool}, valB ds = 0 -> ∀ d ∈ ds, d = false
 | [], _, _, h => by cases h
 | e :: ds, h, d, hd => by
  rw [valB] at h
  rcases List.mem_cons.1 hd with rfl | hd
  ·cases d with
   | false => rfl
   | true => simp at h
  ·exact valB_zero (by omega) d hd
theorem feed_none {ds : List Bool} (hl : ds.length <= 32) (h : feed 0#32 ds = 0#32) : ∀ d ∈ ds, d = false := valB_zero (feed_zero ds _ hl h).symm
theorem cB_zero {x : BitVec 32} (h : cB x = 0#32) : x = 0#32 := by
 have := feed_zero [false] x (by simp) (by show cB (x ^^^ 0#32) = 0#32; rw [BitVec.xor_zero]; exact h)
 exact BitVec.eq_of_toNat_eq this
def cBs : Nat -> BitVec 32 -> BitVec 32
 | 0, x => x
 | n + 1, x => cBs n (cB x)
def bitsOf : Nat -> BitVec 32 -> List Bool
 | 0, _ => []
 | n + 1, b => b.getLsbD 0 :: bitsOf n (b >>> 1)
theorem bit_shift (d : Bool) : bitV d >>> 1 = 0#32 := by cases d <;> rfl
theorem bit_low (d : Bool) : (bitV d).getLsbD 0 = d := by cases d <;> rfl
theorem cBs_feed : ∀ (n : Nat) (r b : BitVec 32), b.toNat < 2 ^ n -> cBs n (r ^^^ b) = feed r (bitsOf n b)
 | 0, r, b, h => by
  have : b = 0#32 := BitVec.eq_of_toNat_eq (by rw [Nat.pow_zero] at h; show b.toNat = 0; omega)
  rw [this, BitVec.xor_zero]
  rfl
 | n + 1, r, b, h => by
  obtain ⟨d, hd⟩ : ∃ d, b.getLsbD 0 = d := ⟨_, rfl⟩
  obtain ⟨y, hy⟩ : ∃ y, b ^^^ bitV d = y := ⟨_, rfl⟩
  have hb : b = bitV d ^^^ y := by rw [<- hy, BitVec.xor_comm b, <- BitVec.xor_assoc, BitVec.xor_self, BitVec.zero_xor]
  have hy0 : y.getLsbD 0 = false := by rw [<- hy, BitVec.getLsbD_xor, hd, bit_low, Bool.xor_self]
  have hcy : cB y = b >>> 1 := by
   unfold cB
   rw [hy0, if_neg (by decide), BitVec.xor_zero, <- hy, BitVec.ushiftRight_xor_distrib, bit_shift, BitVec.xor_zero]
  have hlt : (b >>> 1).toNat < 2 ^ n := by
   rw [BitVec.toNat_ushiftRight, Nat.shiftRight_eq_div_pow]
   rw [Nat.pow_succ] at h
   omega
  show cBs n (cB (r ^^^ b)) = feed (cB (r ^^^ bitV (b.getLsbD 0))) (bitsOf n (b >>> 1))
  rw [<- cBs_feed n (cB (r ^^^ bitV (b.getLsbD 0))) (b >>> 1) hlt, hd]
  congr 1
  have e : r ^^^ b = (r ^^^ bitV d) ^^^ y := by
   rw [BitVec.xor_assoc, <- hb]
  rw [e, cB_xor, hcy]
theorem crcBits_V : ∀ (n : Nat) (r : UInt32), (crcBits n r).toBitVec = cBs n r.toBitVec
 | 0, _ => rfl
 | n + 1, r => by
  show (crcBits n (crcBit r)).toBitVec = cBs n (cB r.toBitVec)
  rw [crcBits_V n, crcBit_V]
def byteBits (b : UInt8) : List Bool := bitsOf 8 b.toUInt32.toBitVec
theorem crcByte_V (r : UInt32) (b : UInt8) : (crcByte r b).toBitVec = feed r.toBitVec (byteBits b) := by
 unfold crcByte byteBits
 rw [crcBits_V, UInt32.toBitVec_xor]
 exact cBs_feed 8 _ _ (by
  have : b.toUInt32.toNat < 256 := by rw [UInt8.toNat_toUInt32]; exact b.toNat_lt
  exact this)
theorem feed_app : ∀ (x : BitVec 32) (a b : List Bool), feed x (a ++ b) = feed (feed x a) b
 | _, [], _ => rfl
 | x, d :: a, b => feed_app (cB (x ^^^ bitV d)) a b
theorem crcRest_V : ∀ (l : List UInt8) (r : UInt32), (crcRest r l).toBitVec = feed r.toBitVec (l.flatMap byteBits)
 | [], _ => rfl
 | b :: l, r => by
  show (crcRest (crcByte r b) l).toBitVec = _
  rw [crcRest_V l, crcByte_V, List.flatMap_cons, feed_app]
theorem bitV_xor (a b : Bool) : bitV (a ^^ b) = bitV a ^^^ bitV b := by cases a <;> cases b <;> rfl
def diffB : List Bool -> List Bool -> List Bool
 | a :: as, b :: bs => (a ^^ b) :: diffB as bs
 | _, _ => []
theorem feed_diff : ∀ (a b : List Bool) (x y : BitVec 32), a.length = b.length -> feed x a ^^^ feed y b = feed (x ^^^ y) (diffB a b)
 | [], [], _, _, _ => rfl
 | a :: as, b :: bs, x, y, h => by
  have h' : as.length = bs.length := by simpa using h
  show feed (cB (x ^^^ bitV a)) as ^^^ feed (cB (y ^^^ bitV b)) bs = feed (cB ((x ^^^ y) ^^^ bitV (a ^^ b))) (diffB as bs)
  rw [feed_diff as bs _ _ h', <- cB_xor, bitV_xor]
  have e : (x ^^^ bitV a) ^^^ (y ^^^ bitV b) = (x ^^^ y) ^^^ (bitV a ^^^ bitV b) := by
   rw [BitVec.xor_assoc, BitVec.xor_assoc, <- BitVec.xor_assoc (bitV a), BitVec.xor_comm (bitV a) y, BitVec.xor_assoc y]
  rw [e]
 | [], _ :: _, _, _, h => by simp at h
 | _ :: _, [], _, _, h => by simp at h
theorem feed_falses : ∀ (n : Nat) (x : BitVec 32), feed x (List.replicate n false) = 0#32 -> x = 0#32
 | 0, _, h => h
 | n + 1, x, h => by
  have h' : feed (cB (x ^^^ 0#32)) (List.replicate n false) = 0#32 := h
  rw [BitVec.xor_zero] at h'
  exact cB_zero (feed_falses n _ h')
theorem feed_still : ∀ (n : Nat), feed 0#32 (List.replicate n false) = 0#32
 | 0 => rfl
 | n + 1 => by
  show feed (cB (0#32 ^^^ 0#32)) (List.replicate n false) = 0#32
  have : cB (0#32 ^^^ 0#32) = 0#32 := by decide
  rw [this]; exact feed_still n
theorem window_none {m n : Nat} {ds : List Bool} (hl : ds.length <= 32) (h : feed 0#32 (List.replicate m false ++ (ds ++ List.replicate n false)) = 0#32) : ∀ d ∈ ds, d = false := by
 rw [feed_app, feed_still, feed_app] at h
 exact feed_none hl (feed_falses n _ h)
theorem claB_len : ∀ (cls : List Cl), (∀ c ∈ cls, (lineL c).size <= 400) -> (claB cls).length <= 410 * cls.length
 | [], _ => Nat.le_refl _
 | c :: cls, h => by
  have h1 := wordB_len (lineL c)
  have h0 := h c (by simp)
  have h2 := claB_len cls (fun d hd => h d (by simp [hd]))
  have e : claB (c :: cls) = wordB (lineL c) ++ claB cls := rfl
  rw [e, List.length_append, List.length_cons]; omega
theorem SeW.len {S : Se} (h : SeW S) : (saveS S).length <= 300000000 := by
 unfold saveS
 rw [img_len]
 have h1 := claB_len S.cls h.ls
 have h2 := h.ok.cl
 have h3 := numB_len S.cls.length
 unfold sesB
 rw [List.length_append, List.length_append]
 cases hq : S.q with
 | none =>
  have h4 := numB_len 0
  show _ + (_ + (numB 0).length) + 8 <= _
  omega
 | some q =>
  have h4 := numB_len 1
  have h5 := quB_len (h.ok.q q hq)
  show _ + (_ + (numB 1 ++ quB q).length) + 8 <= _
  rw [List.length_append]
  omega
theorem SeW.load {S T : Se} (h : SeW S) (hl : T.lim = S.lim) : loadS T (saveS S) = (true, S) := by
 rw [load_save h.v T, hl]
theorem moved_lim (l : List MoveV) {S : Se} (h : SeW S) : (movedS S l).2.lim = S.lim := (moved_ls l S h.ls).2
theorem bitsOf_eq : ∀ (n : Nat) (b : BitVec 32), bitsOf n b = (List.range n).map (fun i => b.getLsbD i)
 | 0, _ => rfl
 | n + 1, b => by
  rw [bitsOf, bitsOf_eq n, List.range_succ_eq_map, List.map_cons, List.map_map]
  congr 1
  apply List.map_congr_left
  intro i _
  rw [BitVec.getLsbD_ushiftRight, Nat.add_comm]
  rfl
theorem byteBits_eq (b : UInt8) : byteBits b = (List.range 8).map (fun i => b.toNat.testBit i) := by
 unfold byteBits
 rw [bitsOf_eq]
 apply List.map_congr_left
 intro i _
 rw [<- BitVec.testBit_toNat]
 congr 1
theorem byteBits_len (b : UInt8) : (byteBits b).length = 8 := by rw [byteBits_eq]; simp
def bitsL (l : List UInt8) : List Bool := l.flatMap byteBits
theorem bitsL_len : ∀ (l : List UInt8), (bitsL l).length = 8 * l.length
 | [] => rfl
 | b :: l => by
  have e : bitsL (b :: l) = byteBits b ++ bitsL l := rfl
  rw [e, List.length_append, byteBits_len, bitsL_len l, List.length_cons]; omega
theorem bitsL_get : ∀ (l : List UInt8) (j : Nat), (bitsL l)[j]? = (l[j / 8]?).map (fun b => b.toNat.testBit (j % 8))
 | [], j => by simp [bitsL]
 | b :: l, j => by
  have e : bitsL (b :: l) = byteBits b ++ bitsL l := rfl
  rw [e]
  by_cases hj : j < 8
  ·rw [List.getElem?_append_left (by rw [byteBits_len]; exact hj), byteBits_eq, List.getElem?_map, List.getElem?_range hj]
   have h1 : j / 8 = 0 := by omega
   have h2 : j % 8 = j := by omega
   rw [h1, h2]
   rfl
  ·rw [List.getElem?_append_right (by rw [byteBits_len]; omega), byteBits_len, bitsL_get l]
   have h1 : j / 8 = (j - 8) / 8 + 1 := by omega
   have h2 : j % 8 = (j - 8) % 8 := by omega
   rw [h1, h2]
   rfl
theorem shr_bit (v : UInt32) (q k : Nat) (hq : q < 4) (hk : k < 8) : ((v >>> UInt32.ofNat (8 * q)).toUInt8).toNat.testBit k = v.toNat.testBit (8 * q + k) := by
 rw [UInt32.toNat_toUInt8, UInt32.toNat_shiftRight, UInt32.toNat_ofNat', Nat.mod_eq_of_lt (b := 2 ^ 32) (by omega), Nat.mod_eq_of_lt (b := 32) (by omega), Nat.testBit_mod_two_pow, Nat.testBit_shiftRight]
 simp [hk]
theorem four_bits (v : UInt32) : bitsL (fourB v) = bitsOf 32 v.toBitVec := by
 apply List.ext_getElem?
 intro j
 rw [bitsL_get, bitsOf_eq, List.getElem?_map]
 by_cases hj : j < 32
 ·rw [List.getElem?_range hj]
  have hv : v.toBitVec.getLsbD j = v.toNat.testBit j := by rw [<- BitVec.testBit_toNat]; rfl
  show _ = some (v.toBitVec.getLsbD j)
  rw [hv]
  have h4 : j / 8 = 0 \/ j / 8 = 1 \/ j / 8 = 2 \/ j / 8 = 3 := by omega
  rcases h4 with h | h | h | h
  ·have := shr_bit v 0 (j % 8) (by omega) (by omega)
   rw [h]
   show some ((v.toUInt8).toNat.testBit (j % 8)) = _
   have e : v >>> UInt32.ofNat (8 * 0) = v := by apply UInt32.toNat_inj.1; rw [UInt32.toNat_shiftRight]; rfl
   rw [e] at this
   rw [this]; congr 2; omega
  ·have := shr_bit v 1 (j % 8) (by omega) (by omega)
   rw [h]
   show some (((v >>> 8).toUInt8).toNat.testBit (j % 8)) = _
   rw [show (8 : UInt32) = UInt32.ofNat (8 * 1) from rfl, this]; congr 2; omega
  ·have := shr_bit v 2 (j % 8) (by omega) (by omega)
   rw [h]
   show some (((v >>> 16).toUInt8).toNat.testBit (j % 8)) = _
   rw [show (16 : UInt32) = UInt32.ofNat (8 * 2) from rfl, this]; congr 2; omega
  ·have := shr_bit v 3 (j % 8) (by omega) (by omega)
   rw [h]
   show some (((v >>> 24).toUInt8).toNat.testBit (j % 8)) = _
   rw [show (24 : UInt32) = UInt32.ofNat (8 * 3) from rfl, this]; congr 2; omega
 ·have h1 : (fourB v)[j / 8]? = none := List.getElem?_eq_none (by rw [four_len]; omega)
  have h2 : (List.range 32)[j]? = none := List.getElem?_eq_none (by rw [List.length_range]; omega)
  rw [h1, h2]; rfl
def SumOk (l : List UInt8) : Prop := l.drop (l.length - 4) = fourB (sumB (l.take (l.length - 4)))
theorem xor_all (r : BitVec 32) : r ^^^ ~~~r = BitVec.allOnes 32 := by
 apply BitVec.eq_of_getLsbD_eq
 intro i hi
 rw [BitVec.getLsbD_xor, BitVec.getLsbD_not, BitVec.getLsbD_allOnes]
 cases r.getLsbD i <;> simp [hi]
theorem residue {l : List UInt8} (h : SumOk l) : feed (~~~ (0 : UInt32)).toBitVec (bitsL l) = cBs 32 (BitVec.allOnes 32) := by
 have e : l = l.take (l.length - 4) ++ fourB (sumB (l.take (l.length - 4))) := by
  have h1 := List.take_append_drop (l.length - 4) l
  have h2 : l.drop (l.length - 4) = fourB (sumB (l.take (l.length - 4))) := h
  rw [h2] at h1
  exact h1.symm
 have e2 : bitsL l = bitsL (l.take (l.length - 4)) ++ bitsL (fourB (sumB (l.take (l.length - 4)))) := by
  have : bitsL (l.take (l.length - 4) ++ fourB (sumB (l.take (l.length - 4)))) = _ := List.flatMap_append
  rw [<- e] at this
  exact this
 generalize l.take (l.length - 4) = A at *
 rw [e2, feed_app, four_bits]
 have h3 : feed (~~~ (0 : UInt32)).toBitVec (bitsL A) = (crcRest (~~~ 0) A).toBitVec := (crcRest_V A _).symm
 rw [h3]
 have h4 : (sumB A).toBitVec = ~~~ (crcRest (~~~ 0) A).toBitVec := rfl
 rw [h4, <- cBs_feed 32 _ _ (BitVec.isLt _), xor_all]
theorem diff_get : ∀ (a b : List Bool) (j : Nat), a.length = b.length -> (diffB a b)[j]? = match a[j]?, b[j]? with
  | some x, some y => some (x ^^ y)
  | _, _ => none
 | [], [], _, _ => by simp [diffB]
 | x :: as, y :: bs, j, h => by
  cases j with
  | zero => rfl
  | succ j =>
   have := diff_get as bs j (by simpa using h)
   simpa [diffB] using this
 | [], _ :: _, _, h => by simp at h
 | _ :: _, [], _, h => by simp at h
theorem all_false {l : List Bool} (h : ∀ (j : Nat) d, l[j]? = some d -> d = false) : l = List.replicate l.length false := by
 apply List.ext_getElem?
 intro j
 by_cases hj : j < l.length
 ·rw [List.getElem?_replicate, if_pos hj, List.getElem?_eq_getElem hj, h j l[j] (List.getElem?_eq_getElem hj)]
 ·rw [List.getElem?_eq_none (by omega), List.getElem?_eq_none (by simp; omega)]
theorem xor_same {x y : Bool} (h : (x ^^ y) = false) : x = y := by cases x <;> cases y <;> simp_all
theorem bits_inj {l l' : List UInt8} (hl : l'.length = l.length) (h : bitsL l' = bitsL l) : l' = l := by
 apply List.ext_getElem hl
 intro i h1 h2
 apply UInt8.toNat_inj.1
 apply Nat.eq_of_testBit_eq
 intro k
 by_cases hk : k < 8
 ·have h3 := bitsL_get l' (8 * i + k)
  have h4 := bitsL_get l (8 * i + k)
  rw [h, h4] at h3
  have e1 : (8 * i + k) / 8 = i := by omega
  have e2 : (8 * i + k) % 8 = k := by omega
  rw [e1, e2, List.getElem?_eq_getElem h1, List.getElem?_eq_getElem h2] at h3
  injection h3 with h3
  exact h3.symm
 ·have a1 : l'[i].toNat < 2 ^ k := Nat.lt_of_lt_of_le (UInt8.toNat_lt _) (Nat.pow_le_pow_right (by omega) (by omega : 8 <= k))
  have a2 : l[i].toNat < 2 ^ k := Nat.lt_of_lt_of_le (UInt8.toNat_lt _) (Nat.pow_le_pow_right (by omega) (by omega : 8 <= k))
  rw [Nat.testBit_lt_two_pow a1, Nat.testBit_lt_two_pow a2]
structure Win (p : Nat) (l l' : List UInt8) : Prop where
 len : l'.length = l.length
 bits : ∀ j, (j < p \/ p + 32 <= j) -> (bitsL l')[j]? = (bitsL l)[j]?
theorem turn_same {l l' : List UInt8} {p : Nat} (hw : Win p l l') (h : SumOk l) (h' : SumOk l') : l' = l := by
 have hlen : (bitsL l).length = (bitsL l').length := by rw [bitsL_len, bitsL_len, hw.len]
 have hf : feed 0#32 (diffB (bitsL l) (bitsL l')) = 0#32 := by
  have := feed_diff (bitsL l) (bitsL l') (~~~ (0 : UInt32)).toBitVec (~~~ (0 : UInt32)).toBitVec hlen
  rw [residue h, residue h', BitVec.xor_self, BitVec.xor_self] at this
  exact this.symm
 have hout : ∀ (j : Nat) d, (j < p \/ p + 32 <= j) -> (diffB (bitsL l) (bitsL l'))[j]? = some d -> d = false := by
  intro j d hj hd
  rw [diff_get _ _ _ hlen, hw.bits j hj] at hd
  cases hx : (bitsL l)[j]? with
  | none => rw [hx] at hd; cases hd
  | some x =>
   rw [hx] at hd
   injection hd with hd
   rw [<- hd]; cases x <;> rfl
 generalize hD : diffB (bitsL l) (bitsL l') = D at *
 have hsplit : D = D.take p ++ ((D.drop p).take 32 ++ (D.drop p).drop 32) := by rw [List.take_append_drop, List.take_append_drop]
 have h1 : D.take p = List.replicate (D.take p).length false := all_false (fun j d hd => by
  rw [List.getElem?_take] at hd
  split at hd
  ·rename_i hj; exact hout j d (.inl hj) hd
  ·cases hd)
 have h2 : (D.drop p).drop 32 = List.replicate ((D.drop p).drop 32).length false := all_false (fun j d hd => by
  rw [List.getElem?_drop, List.getElem?_drop] at hd
  exact hout _ d (.inr (by omega)) hd)
 rw [hsplit, h1, h2] at hf
 have hwin := window_none (by rw [List.length_take]; omega) hf
 apply bits_inj hw.len
 apply List.ext_getElem?
 intro j
 by_cases hin : j < p \/ p + 32 <= j
 ·exact hw.bits j hin
 ·cases hx : (bitsL l)[j]? with
  | none => rw [List.getElem?_eq_none (by rw [List.getElem?_eq_none_iff] at hx; omega)]
  | some x =>
   have hjl : j < (bitsL l').length := by rw [<- hlen]; exact (List.getElem?_eq_some_iff.1 hx).1
   have hy := List.getElem?_eq_getElem hjl
   have hd : D[j]? = some (x ^^ (bitsL l')[j]) := by rw [<- hD, diff_get _ _ _ hlen, hx, hy]
   have hm : (x ^^ (bitsL l')[j]) ∈ (D.drop p).take 32 := by
    apply List.mem_of_getElem? (i := j - p)
    rw [List.getElem?_take, if_pos (by omega), List.getElem?_drop, show p + (j - p) = j by omega]
    exact hd
   have := xor_same (hwin _ hm)
   rw [hy, <- this]
theorem img_sum (t : List UInt8) : SumOk (imgB t) := by
 have hl := img_len t
 have hh := head_len t
 unfold SumOk
 have e2 : (imgB t).take ((imgB t).length - 4) = headB4 t := by
  rw [hl]
  unfold imgB
  exact List.take_left' (by rw [hh]; omega)
 have e3 : (imgB t).drop ((imgB t).length - 4) = fourB (sumB (headB4 t)) := by
  rw [hl]
  unfold imgB
  exact List.drop_left' (by rw [hh]; omega)
 rw [e2, e3]
theorem img_head (t : List UInt8) : (imgB t).take 4 = fourB (UInt32.ofNat (imgB t).length) := by
 rw [img_len]
 unfold imgB headB4
 rw [List.append_assoc]
 exact List.take_left' rfl
theorem four_inj {a c : Nat} (ha : a < 4294967296) (hc : c < 4294967296) (h : fourB (UInt32.ofNat a) = fourB (UInt32.ofNat c)) : a = c := by
 have h1 : bitsOf 32 (UInt32.ofNat a).toBitVec = bitsOf 32 (UInt32.ofNat c).toBitVec := by rw [<- four_bits, <- four_bits, h]
 rw [bitsOf_eq, bitsOf_eq] at h1
 have h2 : (UInt32.ofNat a).toBitVec = (UInt32.ofNat c).toBitVec := by
  apply BitVec.eq_of_getLsbD_eq
  intro i hi
  have h3 := congrArg (fun l => l[i]?) h1
  simp only [List.getElem?_map, List.getElem?_range hi, Option.map_some] at h3
  injection h3
 have h3 : (UInt32.ofNat a).toNat = (UInt32.ofNat c).toNat := congrArg BitVec.toNat h2
 rw [UInt32.toNat_ofNat', UInt32.toNat_ofNat'] at h3
 omega
theorem cla_each {P : Cl -> Prop} (hP : ∀ (W : ByteArray) (out : List Cl), readS W = .ok out -> ∀ c ∈ out, P c) : ∀ (n : Nat) (a : List Cl) (r : Rdr), (∀ c ∈ a, P c) -> ∀ c ∈ (claL n a r).1, P c
 | 0, _, _, h => h
 | n + 1, a, r, h => by
  rw [claL]
  split
  ·rename_i c hc
   refine cla_each hP n _ _ (fun d hd => ?_)
   rcases List.mem_append.1 hd with hd | hd
   ·exact h d hd
   ·rw [List.mem_singleton] at hd
    subst hd
    cases hr : readS (wordL 400 r).1 with
    | error e => rw [hr] at hc; cases hc
    | ok out =>
     rw [hr] at hc
     match out, hr, hc with
     | [x], hr, hc => injection hc with hc; subst hc; exact hP _ _ hr x (by simp)
     | [], _, hc => cases hc
     | _ :: _ :: _, _, hc => cases hc
  ·intro d hd; cases hd
theorem ses_open {r : Rdr} (h : (sesL r).2.wrong = false) : r.wrong = false := by
 rw [sesL_eq] at h
 obtain ⟨c1, c2, c3, c4⟩ := claP_facts r
 have h2 : (askedL (claP r).1 (numL 1 (claP r).2)).2.wrong = false := h
 unfold askedL at h2
 split at h2
 ·exact c3 (numL_wrong ((quL_facts _ _ (numL_ok _ _) (fun c hc => (c4 c hc).1)).2.2 h2).1)
 ·exact c3 (numL_wrong h2)
theorem open_facts {b : List UInt8} (h : (openL b).wrong = false) : 8 <= b.length /\ b.take 4 = fourB (UInt32.ofNat b.length) /\ SumOk b := by
 unfold openL at h
 split at h
 ·cases h
 ·rename_i h1
  split at h
  ·cases h
  ·rename_i h2
   refine ⟨by omega, Classical.byContradiction (fun e => h1 (.inr e)), Classical.byContradiction (fun e => h2 e)⟩
theorem ses_len {cls : List Cl} {q : Option Qs} (ht : TellOk cls q) (hl : ∀ c ∈ cls, (lineL c).size <= 400) : (sesB ⟨0, cls, q⟩).length <= 299999000 := by
 have h1 := claB_len cls hl
 have h2 := ht.cl
 have h3 := numB_len cls.length
 unfold sesB
 rw [List.length_append, List.length_append]
 cases q with
 | none =>
  have h4 := numB_len 0
  show (numB cls.length).length + ((claB cls).length + (numB 0).length) <= _
  omega
 | some q =>
  have h4 := numB_len 1
  have h5 := quB_len (ht.q q rfl).1
  show (numB cls.length).length + ((claB cls).length + (numB 1 ++ quB q).length) <= _
  rw [List.length_append]
  omega
theorem load_facts {b : List UInt8} (h : loadB b = true) : b.length < 4294967296 /\ 8 <= b.length /\ b.take 4 = fourB (UInt32.ofNat b.length) /\ SumOk b := by
 unfold loadB at h
 rw [Bool.and_eq_true] at h
 have hw : (readImg b).2.wrong = false := eq_of_beq h.1
 have hb := of_decide_eq_true h.2
 have hte := readImg_tell hw
 have hls : ∀ c ∈ (readImg b).1.1, (lineL c).size <= 400 := cla_each (fun W out hr => line_size hr) _ _ _ (fun c hc => by cases hc)
 have hlen := ses_len hte hls
 have hl : b.length = (sesB ⟨0, (readImg b).1.1, (readImg b).1.2⟩).length + 8 := by
  have := congrArg List.length hb
  rw [img_len] at this
  exact this.symm
 obtain ⟨o1, o2, o3⟩ := open_facts (ses_open hw)
 exact ⟨by omega, o1, o2, o3⟩
theorem not_cut {S : Se} (h : SeW S) {k : Nat} (hk : k < (saveS S).length) : loadB ((saveS S).take k) = false := by
 cases hL : loadB ((saveS S).take k) with
 | false => rfl
 | true =>
  obtain ⟨f1, f2, f3, _⟩ := load_facts hL
  have hl := h.len
  have e : ((saveS S).take k).length = k := by rw [List.length_take]; omega
  rw [e] at f1 f2 f3
  rw [List.take_take, Nat.min_eq_left (by omega)] at f3
  have hh : (saveS S).take 4 = fourB (UInt32.ofNat (saveS S).length) := img_head (sesB S)
  rw [hh] at f3
  have := four_inj (by omega) f1 f3
  omega
theorem not_tail {S : Se} (h : SeW S) {t : List UInt8} (ht : t ≠ []) : loadB (saveS S ++ t) = false := by
 cases hL : loadB (saveS S ++ t) with
 | false => rfl
 | true =>
  obtain ⟨f1, f2, f3, _⟩ := load_facts hL
  have hl := h.len
  have hh : (saveS S).take 4 = fourB (UInt32.ofNat (saveS S).length) := img_head (sesB S)
  have h8 : 8 <= (saveS S).length := by unfold saveS; rw [img_len]; omega
  rw [List.take_append_of_le_length (by omega), hh] at f3
  have := four_inj (by omega) f1 f3
  rw [List.length_append] at this
  have h0 : t.length = 0 := by omega
  exact absurd (List.eq_nil_of_length_eq_zero h0) ht
theorem not_turn {S : Se} {p : Nat} {b : List UInt8} (hw : Win p (saveS S) b) (hne : b ≠ saveS S) : loadB b = false := by
 cases hL : loadB b with
 | false => rfl
 | true =>
  obtain ⟨_, _, _, f4⟩ := load_facts hL
  exact absurd (turn_same hw (img_sum _) f4) hne
theorem Win.step {p k : Nat} {l l' : List UInt8} (h : Win p l l') (hk : k < 32) {i : Nat} (hi : i < l'.length) (e : i = (p + k) / 8) {b : UInt8} (hb : ∀ j, j ≠ (p + k) % 8 -> b.toNat.testBit j = l'[i].toNat.testBit j) : Win p l (l'.set i b) := by
 refine ⟨by rw [List.length_set]; exact h.len, fun j hj => ?_⟩
 rw [<- h.bits j hj, bitsL_get, bitsL_get, List.getElem?_set]
 split
 ·rename_i hji
  rw [<- hji, List.getElem?_eq_getElem hi]
  exact congrArg some (hb (j % 8) (by omega))
 ·rfl
theorem Win.refl (p : Nat) (l : List UInt8) : Win p l l := ⟨rfl, fun _ _ => rfl⟩
end Rf
