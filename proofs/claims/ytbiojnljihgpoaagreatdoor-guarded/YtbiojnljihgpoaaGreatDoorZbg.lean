
import Derived.Test.YtbiojnljihgpoaaGreatDoorZbe
import Derived.Test.YtbiojnljihgpoaaGreatDoorZbf
import Derived.Test.YtbiojnljihgpoaaGreatDoorZbb
namespace Go.Proofs.YtbiojnljihgpoaaGreatDoor
open Go.RowKit
variable {nm : Value}
def MayO : Option (Nat × Option Nat) -> Nat -> Prop
 | none, _ => False
 | some (q, rb), k => May q rb k
def QuAt (nm : Value) (w : World) (vQ : Value) : Option (Nat × Option Nat) -> Option Rf.Qs -> Prop
 | none, none => vQ = .pointer none
 | some (q, rb), some Q => vQ = .pointer (some ⟨q, 0, none⟩) /\ QAt nm w q rb Q.names ⟨Rf.stNone, Q.chs⟩
 | _, _ => False
structure SeAt (F : Nat -> Prop) (w : World) (x : Nat) (oq : Option (Nat × Option Nat)) (nm : Value) (S : Rf.Se) : Prop where
 ok : Rf.SeOk S
 ex : ∃ vC vQ, PsB w x S.lim vC vQ /\ PCls30 F w vC S.cls /\ QuAt nm w vQ oq S.q
 apart : ¬ F x
 bd : ∀ k, F k -> k < w.heap.size
 sep : ∀ k, MayO oq k -> ¬ F k
theorem PCls30.seen {F : Nat -> Prop} {w : World} {v : Value} {cls : List Rf.Cl} (h : PCls30 F w v cls) : SeenCls w v cls := by
 obtain ⟨acc, hA, hc, _⟩ := h.ex
 refine ⟨acc, hA.row.seen, fun x hx => ?_, hc⟩
 obtain ⟨h1, ac, h2, _, h4, h5, _⟩ := hA.cls x hx
 exact ⟨h1.1.seen, ac, h2.seen, fun q hq => (h4 q hq).1.seen, h5⟩
theorem PCls30.len {F : Nat -> Prop} {w : World} {v : Value} {cls : List Rf.Cl} (h : PCls30 F w v cls) : cls.length <= 30 := by
 obtain ⟨acc, _, hc, hl⟩ := h.ex
 rw [hc, List.length_map]; exact hl
theorem PCls30.kept {F M : Nat -> Prop} {w w' : World} {v : Value} {cls : List Rf.Cl} (h : PCls30 F w v cls) (hk : Kept M w w') (hM : ∀ k, k < w.heap.size -> F k -> ¬ M k) : PCls30 F w' v cls := by
 obtain ⟨acc, hA, hc, hl⟩ := h.ex
 exact ⟨⟨acc, hA.weak hk hM (fun _ e => e), hc, hl⟩, h.good⟩
theorem PsB.facts {w : World} {x : Nat} {lim : Int} {vC vQ : Value} (h : PsB w x lim vC vQ) : w.cell? ⟨x, 0, none⟩ = some (.int .i64 lim) /\ w.cell? ⟨x, 1, none⟩ = some vC /\ w.cell? ⟨x, 2, none⟩ = some vQ /\ (∀ i, w.frozen? ⟨x, i, none⟩ = false) /\ x < w.heap.size :=
 ⟨blk_cell h 0, blk_cell h 1, blk_cell h 2, blk_frozen h, blk_lt h⟩
theorem PsB.notMay {w : World} {x : Nat} {lim : Int} {vC vQ : Value} (h : PsB w x lim vC vQ) {q : Nat} {rb : Option Nat} {names : List ByteArray} {cf : Rf.Cf} (hQ : QAt nm w q rb names cf) : ¬ May q rb x := by
 obtain ⟨_, _, _, _, hqi⟩ := hQ.ex
 exact hqi.types (by decide) (by decide) x _ h
theorem repOf_reply (S : Rf.Se) (names : List ByteArray) (r : Int × Rf.Cf) : (Rf.replyS S names r).1 = Rf.repOf names r := by
 unfold Rf.replyS Rf.repOf; split <;> rfl
theorem callNext (vals : Array Value) (w : World) : (callFunc 33 vals).run Tryz.prog w = .ok (.enter 33 vals) w := by
 simp [callFunc, Tryz.func33, Tryz.f33]
def SePost (F : Nat -> Prop) (w : World) (x : Nat) (oq : Option (Nat × Option Nat)) (nm : Value) (P : Rf.Rep × Rf.Se) (r : Ending) (w' : World) : Prop :=
 r = .returned (repV P.1) /\ (∃ oq' nm', SeAt F w' x oq' nm' P.2 /\ (∀ k, MayO oq' k -> MayO oq k \/ w.heap.size <= k) /\ ∀ g, NmB nm' g -> NmB nm g \/ w.heap.size <= g) /\ Kept (fun k => k = x \/ MayO oq k) w w'
theorem se_yes {nm' : Value} {F : Nat -> Prop} {w Wf : World} {x q : Nat} {rb : Option Nat} {oq : Option (Nat × Option Nat)} {S : Rf.Se} {Q : Rf.Qs} {vC : Value} (h : SeAt F w x oq nm S) (hC : PCls30 F w vC S.cls) (hP : PsB Wf x S.lim vC (.pointer (some ⟨q, 0, none⟩))) (hO : Rf.SeOk ⟨S.lim, S.cls, some Q⟩) (hQ : QAt nm' Wf q rb Q.names ⟨Rf.stNone, Q.chs⟩) (hM : ∀ k, May q rb k -> MayO oq k \/ w.heap.size <= k) (hN : ∀ g, NmB nm' g -> NmB nm g \/ w.heap.size <= g) (hk : Kept (fun k => k = x \/ MayO oq k) w Wf) :
  ∃ oq' nm', SeAt F Wf x oq' nm' ⟨S.lim, S.cls, some Q⟩ /\ (∀ k, MayO oq' k -> MayO oq k \/ w.heap.size <= k) /\ ∀ g, NmB nm' g -> NmB nm g \/ w.heap.size <= g := by
 refine ⟨some (q, rb), nm', ⟨hO, ⟨vC, _, hP, hC.kept hk (fun k _ hF hm => ?_), rfl, hQ⟩, h.apart, fun k hF => Nat.lt_of_lt_of_le (h.bd k hF) hk.size, fun k hm hF => ?_⟩, hM, hN⟩
 ·rcases hm with rfl | hm
  ·exact h.apart hF
  ·exact h.sep k hm hF
 ·rcases hM k hm with h1 | h1
  ·exact h.sep k h1 hF
  ·have := h.bd k hF; omega
theorem nmb_none {g : Nat} (h : NmB (.pointer none) g) : False := by
 obtain ⟨_, _, _, e⟩ := h
 cases e
theorem se_no {F : Nat -> Prop} {w Wf : World} {x : Nat} {oq : Option (Nat × Option Nat)} {S : Rf.Se} {vC : Value} (h : SeAt F w x oq nm S) (hC : PCls30 F w vC S.cls) (hP : PsB Wf x S.lim vC (.pointer none)) (hk : Kept (fun k => k = x \/ MayO oq k) w Wf) :
  ∃ oq' nm', SeAt F Wf x oq' nm' ⟨S.lim, S.cls, none⟩ /\ (∀ k, MayO oq' k -> MayO oq k \/ w.heap.size <= k) /\ ∀ g, NmB nm' g -> NmB nm g \/ w.heap.size <= g := by
 refine ⟨none, .pointer none, ⟨Rf.stop_ok h.ok, ⟨vC, _, hP, hC.kept hk (fun k _ hF hm => ?_), rfl⟩, h.apart, fun k hF => Nat.lt_of_lt_of_le (h.bd k hF) hk.size, fun k hm => hm.elim⟩, fun k hm => hm.elim, fun g hg => (nmb_none hg).elim⟩
 rcases hm with rfl | hm
 ·exact h.apart hF
 ·exact h.sep k hm hF
theorem may_lt {w : World} {q k : Nat} {rb : Option Nat} {names : List ByteArray} {cf : Rf.Cf} (h : QAt nm w q rb names cf) (hm : May q rb k) : k < w.heap.size := by
 obtain ⟨_, _, _, _, hqi⟩ := h.ex
 rcases hm with e | e
 ·have := blk_lt hqi.b; omega
 ·obtain ⟨acc, hr, _⟩ := hqi.r.ex
  exact (hr.lt _ (hqi.o.trans e.symm)).2
theorem repOf_kind (names : List ByteArray) (R : Int × Rf.Cf) : (Rf.repOf names R).kind = R.1 := by
 unfold Rf.repOf; split
 ·rename_i h; exact h.symm
 ·rfl
theorem fin_yes {F : Nat -> Prop} {w Wf : World} {x q : Nat} {rb rb1 : Option Nat} {S : Rf.Se} {names : List ByteArray} {R : Int × Rf.Cf} {vC : Value} {rp : Rf.Rep} (h : SeAt F w x (some (q, rb)) nm S) (hC : PCls30 F w vC S.cls) (hP : PsB w x S.lim vC (.pointer (some ⟨q, 0, none⟩))) (hx : ¬ May q rb x) (hrp : Rf.repOf names R = rp) (h1 : R.1 = 1) (hO : Rf.SeOk (Rf.replyS S names R).2) (hQ : QAt nm Wf q rb1 names (Rf.cfOf R)) (hN : Nb w rb rb1) (hk : Kept (May q rb) w Wf) :
  SePost F w x (some (q, rb)) nm (Rf.replyS S names R) (.returned (repV rp)) Wf := by
 have e1 : (Rf.replyS S names R).2 = ⟨S.lim, S.cls, some ⟨names, R.2.chs.map Rf.renC⟩⟩ := by unfold Rf.replyS; rw [if_pos h1]
 have e2 : Rf.cfOf R = ⟨Rf.stNone, R.2.chs.map Rf.renC⟩ := by unfold Rf.cfOf; rw [if_pos h1]
 rw [e1] at hO
 rw [e2] at hQ
 have hk' : Kept (fun k => k = x \/ MayO (some (q, rb)) k) w Wf := hk.mono (fun _ _ e => .inr e)
 refine ⟨by rw [repOf_reply, hrp], ?_, hk'⟩
 rw [e1]
 refine se_yes (Q := ⟨names, R.2.chs.map Rf.renC⟩) h hC ((hk.block x (blk_lt hP) hx).trans hP) hO hQ (fun k hm => ?_) (fun g hg => .inl hg) hk'
 rcases hm with e | e
 ·exact .inl (.inl e)
 ·rcases hN with e2 | ⟨j, e2, hj⟩
  ·exact .inl (.inr (e.trans e2))
  ·rw [e2] at e; injection e with e; exact .inr (by omega)
theorem fin_no {F : Nat -> Prop} {w Wf : World} {x : Nat} {oq : Option (Nat × Option Nat)} {S : Rf.Se} {names : List ByteArray} {R : Int × Rf.Cf} {vC : Value} {rp : Rf.Rep} (h : SeAt F w x oq nm S) (hC : PCls30 F w vC S.cls) (hP : PsB Wf x S.lim vC (.pointer none)) (hrp : Rf.repOf names R = rp) (h1 : R.1 ≠ 1) (hk : Kept (fun k => k = x \/ MayO oq k) w Wf) :
  SePost F w x oq nm (Rf.replyS S names R) (.returned (repV rp)) Wf := by
 have e1 : (Rf.replyS S names R).2 = ⟨S.lim, S.cls, none⟩ := by unfold Rf.replyS; rw [if_neg h1]
 refine ⟨by rw [repOf_reply, hrp], ?_, hk⟩
 rw [e1]
 exact se_no h hC hP hk
end Go.Proofs.YtbiojnljihgpoaaGreatDoor
namespace Rf
theorem any_snoc (ns : List ByteArray) (W : ByteArray) (k : Nat) (h : k < ns.length) : (ns.take (k + 1)).any (fun n => decide (n = W)) = ((ns.take k).any (fun n => decide (n = W)) || decide (ns[k] = W)) := by
 rw [List.take_succ_eq_append_getElem h, List.any_append]; simp
theorem any_hit (ns : List ByteArray) (W : ByteArray) (k : Nat) (h : k < ns.length) (e : ns[k] = W) : ns.any (fun n => decide (n = W)) = true := List.any_eq_true.2 ⟨ns[k], List.getElem_mem h, by simpa using e⟩
theorem namesL_no {n : Nat} {a : List ByteArray} {r : Rdr} (h : ¬ (isTokB (wordL 12 r).1 118 = true /\ isNamedB (wordL 12 r).1 = true /\ a.any (fun n => decide (n = (wordL 12 r).1)) = false)) : namesL (n + 1) a r = ([], refuse) := by rw [namesL, if_neg h]
theorem namesL_yes {n : Nat} {a : List ByteArray} {r : Rdr} (h : isTokB (wordL 12 r).1 118 = true /\ isNamedB (wordL 12 r).1 = true /\ a.any (fun n => decide (n = (wordL 12 r).1)) = false) : namesL (n + 1) a r = namesL n (a ++ [(wordL 12 r).1]) (wordL 12 r).2 := by rw [namesL, if_pos h]
end Rf
namespace Go.Proofs.YtbiojnljihgpoaaGreatDoor
open Go.RowKit
set_option maxHeartbeats 1000000 in
set_option maxRecDepth 100000 in
theorem pisAmong_any (w : World) (a : Option Addr) (n c : Nat) (ns : List ByteArray) (W : ByteArray) (h : Seen w 9 strCells (.slice a n c) ns) (hl : ns.length <= 1000) :
  Calls Tryz.prog 73 #[.slice a n c, .string W] w fun r w' => r = .returned (.bool (ns.any (fun n => decide (n = W)))) /\ w' = w := by
 have hn : n = ns.length := h.len
 subst hn
 have H : Hid _ := h
 clear h
 go_enter Tryz.func73, Tryz.ntmps73
 go_wp2_with fail
 go_loopg [9] (ns.length + 1) (fun m iv wr => wr = w /\ ∃ k : Nat, k <= ns.length /\ m = ns.length + 1 - k /\ iv = .int .i64 k /\ Hid ((ns.take k).any (fun n => decide (n = W)) = false))
 case atStart => exact ⟨rfl, 0, by omega, by omega, rfl, rfl⟩
 case round =>
  obtain ⟨hw, k, hk, rfl, rfl, hE⟩ := hrel
  subst hw
  by_cases hlt : k < ns.length
  ·obtain ⟨gp, off, rfl⟩ := H.out.pos (by omega)
   have hgl := H.out.lt
   have e0 := H.out.cells strCells_len k ns[k] (by simp [hlt]) 0 _ rfl
   rw [Nat.mul_one, Nat.add_zero] at e0
   have hlt' : (k : Int) < ns.length := by omega
   have hS : Hid _ := Rf.any_snoc ns W k hlt
   have hB := beq_toList ns[k] W
   by_cases hc : ns[k] = W
   ·have hT : Hid _ := Rf.any_hit ns W k hlt hc
    rw [decide_eq_true hc] at hB
    generalize ns[k] = y at *
    clear hc
    go_wp2_with fail
    go_ret
    rw [hT.out]
    exact ⟨rfl, rfl⟩
   ·have hF : Hid ((ns.take (k + 1)).any (fun n => decide (n = W)) = false) := by unfold Hid; rw [hS.out, hE.out, decide_eq_false hc]; rfl
    rw [decide_eq_false hc] at hB
    clear hS
    generalize ns[k] = y at *
    clear hc
    go_wp2_with fail
    go_roundg (ns.length - k)
    case measure => omega
    case rel => exact ⟨rfl, k + 1, by omega, by omega, by go_num, hF⟩
  ·obtain rfl : k = ns.length := by omega
   have hE2 := hE.out
   rw [List.take_length] at hE2
   have HE2 : Hid _ := hE2
   clear hE2
   go_wp2_with fail
   go_ret
   rw [HE2.out]
   exact ⟨rfl, rfl⟩
set_option maxHeartbeats 1000000 in
set_option maxRecDepth 100000 in
theorem ploadNames_any (w : World) (b : Nat) (r : Rf.Rdr) (h : RdB w b r) (ho : Rf.RdrOk r) :
  Calls Tryz.prog 58 #[.pointer (some ⟨b, 0, none⟩)] w fun x w' => ∃ v, x = .returned v /\ Seen w' 9 strCells v (Rf.namesL (Rf.numL 16 r).1 [] (Rf.numL 16 r).2).1 /\ RdB w' b (Rf.namesL (Rf.numL 16 r).1 [] (Rf.numL 16 r).2).2 /\ Kept (fun k => k = b) w w' /\ ∀ g, NmB v g -> w.heap.size <= g := by
 have hbl := blk_lt h
 have H : Hid (RdB w b r) := h
 have HO : Hid (Rf.RdrOk r) := ho
 have hn0 := Rf.numL_le 16 r
 have hO0 := Rf.numL_ok 16 r
 obtain ⟨n, hn⟩ : ∃ n, Hid (n = (Rf.numL 16 r).1) := ⟨_, rfl⟩
 obtain ⟨Q, hQ⟩ : ∃ Q, Hid (Q = (Rf.numL 16 r).2) := ⟨_, rfl⟩
 rw [<- hn.out] at hn0
 rw [<- hQ.out] at hO0
 rw [<- hn.out, <- hQ.out]
 have HOQ : Hid (Rf.RdrOk Q) := hO0
 clear h ho hO0
 go_enter Tryz.func58, Tryz.ntmps58
 go_wp2_with (go_at_call 40; refine (pnumL_any _ b r 16 H.out HO.out (by omega)).mono ?_; rintro x w0 ⟨hx0, hR0, hk0⟩; rw [<- hn.out] at hx0; subst hx0; rw [<- hQ.out] at hR0; have HR0 : Hid (RdB w0 b Q) := hR0; have HK0 : Hid _ := hk0; clear hR0 hk0)
 go_loopg [4, 5] (n + 1) (fun M nv iv wr => ∃ (k : Nat) (acc : List ByteArray) (R : Rf.Rdr), k <= n /\ M = n + 1 - k /\ iv = .int .i64 k /\ acc.length = k /\ RowIs wr w.heap.size 9 1 strCells nv acc /\ RdB wr b R /\ Hid (Rf.RdrOk R) /\ Kept (fun k => k = b) w wr /\ Hid (Rf.namesL (n - k) acc R = Rf.namesL n [] Q))
 case atStart => exact ⟨0, [], Q, by omega, by omega, rfl, rfl, RowIs.nil _ _ _ _ _, HR0.out, HOQ, HK0.out, rfl⟩
 case round =>
  obtain ⟨k, acc, R, hk, rfl, rfl, hkl, hA, hRk, HOk, hkp, hE⟩ := hrel
  subst hkl
  have hsz := hkp.size
  obtain ⟨a4, c4, hv4⟩ := row_slice hA
  subst hv4
  have HA : Hid _ := hA
  have HRk : Hid (RdB wr b R) := hRk
  clear hA hRk
  by_cases hlt : acc.length < n
  ·have hlt' : (acc.length : Int) < n := by omega
   have hW12 := Rf.wordL_size 12 R
   have hOW : Rf.RdrOk (Rf.wordL 12 R).2 := Rf.wordL_ok
   have hNoG := @Rf.namesL_no (n - (acc.length + 1)) acc R
   have hYesG := @Rf.namesL_yes (n - (acc.length + 1)) acc R
   rw [show n - (acc.length + 1) + 1 = n - acc.length by omega, hE.out] at hNoG hYesG
   obtain ⟨W, hW⟩ : ∃ W, Hid (W = (Rf.wordL 12 R).1) := ⟨_, rfl⟩
   obtain ⟨R2, hR2⟩ : ∃ R2, Hid (R2 = (Rf.wordL 12 R).2) := ⟨_, rfl⟩
   rw [<- hW.out] at hW12 hNoG hYesG
   rw [<- hR2.out] at hOW hYesG
   have HOW : Hid (Rf.RdrOk R2) := hOW
   have HNo : Hid _ := hNoG
   have HYes : Hid _ := hYesG
   clear hNoG hYesG hOW
   cases c1 : Rf.isTokB W 118
   ·have HC1 : Hid _ := c1
    have hNo : Hid (Rf.namesL n [] Q = ([], Rf.refuse)) := HNo.out (fun e => by rw [c1] at e; cases e.1)
    clear c1
    go_wp2_with (first
     | (go_at_call 57; refine (prefuse_any _ b R2 HR2b.out).mono ?_; rintro x w5 ⟨rfl, hR5, hk5⟩; have HR5 : Hid (RdB w5 b Rf.refuse) := hR5; have HK5 : Hid (Kept (fun k => k = b) w w5) := HK2.out.trans hk5 (fun _ _ e => e); clear hk5 hR5)
     | (go_at_call 72; refine (pisVar_any W _ (by omega)).mono ?_; rintro x w2 ⟨hx2, hb2⟩; rw [HC1.out] at hx2; subst hx2; have HR2b : Hid (RdB w2 b R2) := RdB.below HR1.out hb2; have HK2 : Hid (Kept (fun k => k = b) w w2) := HK1.out.trans (Kept.of_below hb2 (fun k => k = b)) (fun _ _ e => e); have HA2 : Hid _ := HA1.out.below hb2; have hz2 := HK2.out.size; clear hb2)
     | (go_at_call 56; refine (pwordL_any _ b R 12 HRk.out HOk.out (by omega)).mono ?_; rintro x w1 ⟨hx1, hR1, hk1⟩; rw [<- hW.out] at hx1; subst hx1; rw [<- hR2.out] at hR1; have HR1 : Hid (RdB w1 b R2) := hR1; have HK1 : Hid (Kept (fun k => k = b) w w1) := hkp.trans hk1 (fun _ _ e => e); have HA1 : Hid _ := HA.out.keptBy hk1 (fun j e => by have h9 := (HA.out.lt j e).1; intro e2; omega); have hz1 := HK1.out.size; clear hk1 hR1))
    go_ret
    rw [hNo.out]
    exact ⟨_, rfl, Seen.nil, HR5.out, HK5.out, fun g hg => by obtain ⟨_, _, _, e⟩ := hg; cases e⟩
   ·cases c2 : Rf.isNamedB W
    ·have HC1 : Hid _ := c1
     have HC2 : Hid _ := c2
     have hNo : Hid (Rf.namesL n [] Q = ([], Rf.refuse)) := HNo.out (fun e => by rw [c2] at e; cases e.2.1)
     clear c1 c2
     go_wp2_with (first
      | (go_at_call 57; refine (prefuse_any _ b R2 HR2b.out).mono ?_; rintro x w5 ⟨rfl, hR5, hk5⟩; have HR5 : Hid (RdB w5 b Rf.refuse) := hR5; have HK5 : Hid (Kept (fun k => k = b) w w5) := HK2.out.trans hk5 (fun _ _ e => e); clear hk5 hR5)
      | (go_at_call 49; refine (pisNamed_any W _).mono ?_; rintro x w9 ⟨hx9, hw9⟩; rw [HC2.out] at hx9; subst hx9; subst w9)
      | (go_at_call 72; refine (pisVar_any W _ (by omega)).mono ?_; rintro x w2 ⟨hx2, hb2⟩; rw [HC1.out] at hx2; subst hx2; have HR2b : Hid (RdB w2 b R2) := RdB.below HR1.out hb2; have HK2 : Hid (Kept (fun k => k = b) w w2) := HK1.out.trans (Kept.of_below hb2 (fun k => k = b)) (fun _ _ e => e); have HA2 : Hid _ := HA1.out.below hb2; have hz2 := HK2.out.size; clear hb2)
      | (go_at_call 56; refine (pwordL_any _ b R 12 HRk.out HOk.out (by omega)).mono ?_; rintro x w1 ⟨hx1, hR1, hk1⟩; rw [<- hW.out] at hx1; subst hx1; rw [<- hR2.out] at hR1; have HR1 : Hid (RdB w1 b R2) := hR1; have HK1 : Hid (Kept (fun k => k = b) w w1) := hkp.trans hk1 (fun _ _ e => e); have HA1 : Hid _ := HA.out.keptBy hk1 (fun j e => by have h9 := (HA.out.lt j e).1; intro e2; omega); have hz1 := HK1.out.size; clear hk1 hR1))
     go_ret
     rw [hNo.out]
     exact ⟨_, rfl, Seen.nil, HR5.out, HK5.out, fun g hg => by obtain ⟨_, _, _, e⟩ := hg; cases e⟩
    ·cases c3 : acc.any (fun n => decide (n = W))
     ·have HC1 : Hid _ := c1
      have HC2 : Hid _ := c2
      have HC3 : Hid _ := c3
      have hYes : Hid (Rf.namesL n [] Q = Rf.namesL (n - (acc.length + 1)) (acc ++ [W]) R2) := HYes.out ⟨c1, c2, c3⟩
      clear c1 c2 c3
      go_wp2_with (first
       | (go_at_call 73; refine (pisAmong_any _ _ _ _ acc W HA2.out.seen (by omega)).mono ?_; rintro x w9 ⟨hx9, hw9⟩; rw [HC3.out] at hx9; subst hx9; subst w9)
       | (go_at_call 49; refine (pisNamed_any W _).mono ?_; rintro x w9 ⟨hx9, hw9⟩; rw [HC2.out] at hx9; subst hx9; subst w9)
       | (go_at_call 72; refine (pisVar_any W _ (by omega)).mono ?_; rintro x w2 ⟨hx2, hb2⟩; rw [HC1.out] at hx2; subst hx2; have HR2b : Hid (RdB w2 b R2) := RdB.below HR1.out hb2; have HK2 : Hid (Kept (fun k => k = b) w w2) := HK1.out.trans (Kept.of_below hb2 (fun k => k = b)) (fun _ _ e => e); have HA2 : Hid _ := HA1.out.below hb2; have hz2 := HK2.out.size; clear hb2)
       | (go_at_call 56; refine (pwordL_any _ b R 12 HRk.out HOk.out (by omega)).mono ?_; rintro x w1 ⟨hx1, hR1, hk1⟩; rw [<- hW.out] at hx1; subst hx1; rw [<- hR2.out] at hR1; have HR1 : Hid (RdB w1 b R2) := hR1; have HK1 : Hid (Kept (fun k => k = b) w w1) := hkp.trans hk1 (fun _ _ e => e); have HA1 : Hid _ := HA.out.keptBy hk1 (fun j e => by have h9 := (HA.out.lt j e).1; intro e2; omega); have hz1 := HK1.out.size; clear hk1 hR1)
       | (at_builtin; refine wpList_app Tryz.elemStr strCells strCells_len strCells_one _ rfl (.tmp 31) (.tmp 33) rfl w.heap.size (.slice a4 acc.length c4) acc rfl (HA2.out.alloc _) ⟨_, 0, none⟩ 1 W rfl (cell_one_at _ _ (by simp) _ _) (by omega) (by simp; omega) ?_; intro gA capA w3 hrow3 hgr3 hnb3; have HA3 : Hid _ := hrow3; have HK3 : Hid (Kept (fun k => k = b) w w3) := (HK2.out.alloc _).grown hgr3 (fun j e => .inl (HA2.out.lt j e).1); have HR3 : Hid (RdB w3 b R2) := (hgr3.block b (by simp; omega) (fun e => by have := (HA2.out.lt b e.symm).1; omega)).trans (RdB.below HR2b.out (by repeat(first|exact bl0 _ _|refine bl1 ?_ (by simp<;>omega) _|refine bl2 ?_|refine bl3 ?_ _|refine bl4 ?_ (by simp<;>omega) _))); clear hgr3 hnb3 hrow3))
      go_roundg (n - acc.length)
      case measure => omega
      case rel => exact ⟨acc.length + 1, acc ++ [W], R2, by omega, by omega, by go_num, by simp, HA3.out, HR3.out, HOW, HK3.out, hYes.out.symm⟩
     ·have HC1 : Hid _ := c1
      have HC2 : Hid _ := c2
      have HC3 : Hid _ := c3
      have hNo : Hid (Rf.namesL n [] Q = ([], Rf.refuse)) := HNo.out (fun e => by rw [c3] at e; cases e.2.2)
      clear c1 c2 c3
      go_wp2_with (first
       | (go_at_call 57; refine (prefuse_any _ b R2 HR2b.out).mono ?_; rintro x w5 ⟨rfl, hR5, hk5⟩; have HR5 : Hid (RdB w5 b Rf.refuse) := hR5; have HK5 : Hid (Kept (fun k => k = b) w w5) := HK2.out.trans hk5 (fun _ _ e => e); clear hk5 hR5)
       | (go_at_call 73; refine (pisAmong_any _ _ _ _ acc W HA2.out.seen (by omega)).mono ?_; rintro x w9 ⟨hx9, hw9⟩; rw [HC3.out] at hx9; subst hx9; subst w9)
       | (go_at_call 49; refine (pisNamed_any W _).mono ?_; rintro x w9 ⟨hx9, hw9⟩; rw [HC2.out] at hx9; subst hx9; subst w9)
       | (go_at_call 72; refine (pisVar_any W _ (by omega)).mono ?_; rintro x w2 ⟨hx2, hb2⟩; rw [HC1.out] at hx2; subst hx2; have HR2b : Hid (RdB w2 b R2) := RdB.below HR1.out hb2; have HK2 : Hid (Kept (fun k => k = b) w w2) := HK1.out.trans (Kept.of_below hb2 (fun k => k = b)) (fun _ _ e => e); have HA2 : Hid _ := HA1.out.below hb2; have hz2 := HK2.out.size; clear hb2)
       | (go_at_call 56; refine (pwordL_any _ b R 12 HRk.out HOk.out (by omega)).mono ?_; rintro x w1 ⟨hx1, hR1, hk1⟩; rw [<- hW.out] at hx1; subst hx1; rw [<- hR2.out] at hR1; have HR1 : Hid (RdB w1 b R2) := hR1; have HK1 : Hid (Kept (fun k => k = b) w w1) := hkp.trans hk1 (fun _ _ e => e); have HA1 : Hid _ := HA.out.keptBy hk1 (fun j e => by have h9 := (HA.out.lt j e).1; intro e2; omega); have hz1 := HK1.out.size; clear hk1 hR1))
      go_ret
      rw [hNo.out]
      exact ⟨_, rfl, Seen.nil, HR5.out, HK5.out, fun g hg => by obtain ⟨_, _, _, e⟩ := hg; cases e⟩
  ·have hS : Hid (Rf.namesL n [] Q = (acc, R)) := by unfold Hid; rw [<- hE.out, show n - acc.length = 0 by omega]; rfl
   have hlt' : ¬ ((acc.length : Int) < n) := by omega
   go_wp2_with fail
   go_ret
   rw [hS.out]
   exact ⟨_, rfl, HA.out.seen, HRk.out, hkp, fun g hg => by obtain ⟨_, _, _, e⟩ := hg; injection e with e1 _ _; subst e1; exact (HA.out.lt g rfl).1⟩
end Go.Proofs.YtbiojnljihgpoaaGreatDoor
namespace Rf
theorem chsL_wrong {n : Nat} {cls : List Cl} {m i : Nat} {a : List Ch} {r : Rdr} (h : r.wrong = true) : chsL n cls m i a r = (a, r) := by
 cases m with
 | zero => rfl
 | succ m => rw [chsL, if_pos h]
theorem chsL_go {n : Nat} {cls : List Cl} {m i : Nat} {a : List Ch} {r : Rdr} (h : r.wrong = false) : chsL n cls (m + 1) i a r = chsL n cls m (i + 1) ((chL n cls i r).1 :: a) (chL n cls i r).2 := by rw [chsL, if_neg (by rw [h]; decide)]
end Rf
namespace Go.Proofs.YtbiojnljihgpoaaGreatDoor
open Go.RowKit
theorem Free.rd {w : World} {b : Nat} {r : Rf.Rdr} (h : RdB w b r) : Free w (fun k => k = b) := by
 have key : ∀ t : TypeId, t ≠ 109 -> ∀ k cs', w.heap[k]? = some (.cells cs' t (0, 0)) -> ¬ k = b := by
  intro t ht k cs' hc e
  subst e
  unfold RdB at h
  rw [h] at hc
  injection hc with h3; injection h3 with _ h4
  exact ht h4.symm
 exact ⟨key _ (by decide), key _ (by decide), key _ (by decide), key _ (by decide), key _ (by decide)⟩
theorem noSt_is (w : World) : StIs w (.slice none 0 0) (.slice none 0 0) 0 Rf.stNone := ⟨⟨[], Seen.nil, (fun q hq => by cases hq), rfl⟩, ⟨[], Seen.nil, (fun q hq => by cases hq), rfl⟩, rfl⟩
theorem noChs_at (w : World) : ChsAt w (.slice none 0 0) [] := ⟨[], RowIs.nil _ _ _ _ _, (fun x hx => by cases hx), rfl⟩
set_option maxHeartbeats 1000000 in
set_option maxRecDepth 100000 in
theorem pLoad_any (w : World) (b : Nat) (r : Rf.Rdr) (vc : Value) (cls : List Rf.Cl) (h : RdB w b r) (ho : Rf.RdrOk r) (hC : SeenCls w vc cls) (hCG : Rf.ClsG cls) (hCR : ∀ c ∈ cls, Rf.ClR c) (hcl : cls.length <= 30) :
  Calls Tryz.prog 41 #[.pointer (some ⟨b, 0, none⟩), vc] w fun x w' => ∃ q rb nm, x = .returned (.pointer (some ⟨q, 0, none⟩)) /\ QAt nm w' q rb (Rf.quL cls r).1.names ⟨Rf.stNone, (Rf.quL cls r).1.chs⟩ /\ RdB w' b (Rf.quL cls r).2 /\ Kept (fun k => k = b) w w' /\ w.heap.size <= q /\ (∀ k, rb = some k -> w.heap.size <= k) /\ ∀ g, NmB nm g -> w.heap.size <= g := by
 have hbl := blk_lt h
 have H : Hid (RdB w b r) := h
 have HO : Hid (Rf.RdrOk r) := ho
 obtain ⟨ca, cc, hvc⟩ := hC.slice
 subst hvc
 have HC : Hid _ := hC
 have HCG : Hid (Rf.ClsG cls) := hCG
 have HCR : Hid _ := hCR
 have HF : Hid _ := Free.rd h
 have hQE : Rf.quL cls r = (⟨(Rf.namesL (Rf.numL 16 r).1 [] (Rf.numL 16 r).2).1, (Rf.chsL (Rf.namesL (Rf.numL 16 r).1 [] (Rf.numL 16 r).2).1.length cls (Rf.numL 20 (Rf.namesL (Rf.numL 16 r).1 [] (Rf.numL 16 r).2).2).1 0 [] (Rf.numL 20 (Rf.namesL (Rf.numL 16 r).1 [] (Rf.numL 16 r).2).2).2).1⟩, (Rf.chsL (Rf.namesL (Rf.numL 16 r).1 [] (Rf.numL 16 r).2).1.length cls (Rf.numL 20 (Rf.namesL (Rf.numL 16 r).1 [] (Rf.numL 16 r).2).2).1 0 [] (Rf.numL 20 (Rf.namesL (Rf.numL 16 r).1 [] (Rf.numL 16 r).2).2).2).2) := rfl
 obtain ⟨f1, f2, f3, f4⟩ := Rf.namesL_facts (Rf.numL 16 r).1 [] (Rf.numL 16 r).2 (Rf.numL_ok _ _) (fun W hW => by cases hW)
 have h16 := Rf.numL_le 16 r
 obtain ⟨N, hN⟩ : ∃ N, Hid (N = Rf.namesL (Rf.numL 16 r).1 [] (Rf.numL 16 r).2) := ⟨_, rfl⟩
 rw [<- hN.out] at hQE f1 f3
 have hNl : N.1.length <= 16 := by simp at f3; omega
 have HON : Hid (Rf.RdrOk N.2) := f1
 have hn20 := Rf.numL_le 20 N.2
 obtain ⟨n, hn⟩ : ∃ n, Hid (n = (Rf.numL 20 N.2).1) := ⟨_, rfl⟩
 obtain ⟨Q, hQ⟩ : ∃ Q, Hid (Q = (Rf.numL 20 N.2).2) := ⟨_, rfl⟩
 have HOQ : Hid (Rf.RdrOk Q) := by unfold Hid; rw [hQ.out]; exact Rf.numL_ok _ _
 rw [<- hn.out, <- hQ.out] at hQE
 rw [<- hn.out] at hn20
 obtain ⟨Z, hZ⟩ : ∃ Z, Hid (Z = Rf.chsL N.1.length cls n 0 [] Q) := ⟨_, rfl⟩
 rw [<- hZ.out] at hQE
 have HQE : Hid _ := hQE
 clear h ho hC hCG hCR hQE f1 f2 f3 f4 h16
 go_enter Tryz.func41, Tryz.ntmps41
 go_wp2_with (first
  | (go_at_call 40; refine (pnumL_any _ b N.2 20 (RdB.below HR1.out (by repeat(first|exact bl0 _ _|refine bl1 ?_ (by simp<;>omega) _|refine bl2 ?_|refine bl3 ?_ _|refine bl4 ?_ (by simp<;>omega) _))) HON.out (by omega)).mono ?_; rintro x w3 ⟨hx3, hR3, hk3⟩; rw [<- hn.out] at hx3; subst hx3; rw [<- hQ.out] at hR3; have HR3 : Hid (RdB w3 b Q) := hR3; have HK3 : Hid (Kept (fun k => k = b) w w3) := (HK1.out.alloc _).trans hk3 (fun _ _ e => e); have HQ3 : Hid (QIs w3 w1.heap.size none (.slice na N.1.length nc) (.slice none 0 0) (.slice none 0 0) 0 (.slice none 0 0) N.1 ⟨Rf.stNone, []⟩) := ⟨(hk3.block w1.heap.size (by simp) (by omega)).trans (blk_new _ _), Seen.kept (Seen.alloc HS1.out _) hk3 (Free.rd (RdB.below HR1.out (by repeat(first|exact bl0 _ _|refine bl1 ?_ (by simp<;>omega) _|refine bl2 ?_|refine bl3 ?_ _|refine bl4 ?_ (by simp<;>omega) _)))).s, noSt_is _, noChs_at _, rfl⟩; clear hk3 hR3)
  | (go_at_call 58; refine (ploadNames_any _ b r H.out HO.out).mono ?_; rintro x w1 ⟨nv, rfl, hS1, hR1, hk1, hnm⟩; rw [<- hN.out] at hS1 hR1; obtain ⟨na, nc, hnv⟩ := hS1.slice; subst hnv; have HS1 : Hid _ := hS1; have HR1 : Hid (RdB w1 b N.2) := hR1; have HK1 : Hid (Kept (fun k => k = b) w w1) := hk1; have HNM : Hid _ := hnm; have hz1 := hk1.size; clear hS1 hR1 hk1 hnm))
 go_loopg [7] (n + 1) (fun M iv wr => ∃ (k : Nat) (chs : List Rf.Ch) (R : Rf.Rdr) (rb : Option Nat) (vC : Value), k <= n /\ M = n + 1 - k /\ iv = .int .i64 k /\ chs.length = k /\ QIs wr w1.heap.size rb (.slice na N.1.length nc) (.slice none 0 0) (.slice none 0 0) 0 vC N.1 ⟨Rf.stNone, chs⟩ /\ Hid (∀ j, rb = some j -> w.heap.size <= j) /\ RdB wr b R /\ Hid (Rf.RdrOk R) /\ Kept (fun k => k = b) w wr /\ Hid (Rf.chsL N.1.length cls (n - k) k chs R = Z))
 case atStart => exact ⟨0, [], Q, none, .slice none 0 0, by omega, by omega, rfl, rfl, HQ3.out, (fun j e => by cases e), HR3.out, HOQ, HK3.out, hZ.out.symm⟩
 case round =>
  obtain ⟨k, chs, R, rb, vC, hk, rfl, rfl, hkl, hQk, hrb, hRk, HOk, hkp, hE⟩ := hrel
  subst hkl
  have hsz := hkp.size
  have HQ : Hid _ := hQk
  have HR : Hid (RdB wr b R) := hRk
  obtain ⟨acc, hr, hac, ham⟩ := hQk.r.ex
  have hal : Hid (acc.length = chs.length) := by unfold Hid; have := congrArg List.length ham; simpa using this
  obtain ⟨va, vcap, hvC⟩ := row_slice hr
  rw [List.length_map, hal.out] at hvC
  subst hvC
  have hql := blk_lt hQk.b
  have hrl : Hid (∀ j, rb = some j -> j < wr.heap.size) := fun j e => (hr.lt j (hQk.o.trans e)).2
  obtain ⟨q0, q1, q2, q3, q4, qf, _⟩ := hQk.b.facts
  have HRow : Hid _ := hr
  have HAC : Hid _ := hac
  have HAM : Hid _ := ham
  clear hQk hRk hr hac ham
  by_cases hlt : chs.length < n
  ·have hlt' : (chs.length : Int) < n := by omega
   cases hw : R.wrong
   ·have hE2 : Hid (Rf.chsL N.1.length cls (n - (chs.length + 1)) (chs.length + 1) ((Rf.chL N.1.length cls chs.length R).1 :: chs) (Rf.chL N.1.length cls chs.length R).2 = Z) := by
     unfold Hid
     rw [<- hE.out, show n - chs.length = n - (chs.length + 1) + 1 by omega, Rf.chsL_go hw]
    have hOC := (Rf.chL_facts N.1.length cls chs.length R HOk.out (by omega) HCR.out).1
    obtain ⟨c, hce⟩ : ∃ c, Hid (c = (Rf.chL N.1.length cls chs.length R).1) := ⟨_, rfl⟩
    obtain ⟨R', hre⟩ : ∃ R', Hid (R' = (Rf.chL N.1.length cls chs.length R).2) := ⟨_, rfl⟩
    rw [<- hce.out, <- hre.out] at hE2
    rw [<- hre.out] at hOC
    have HOC : Hid (Rf.RdrOk R') := hOC
    have HWF : Hid (R.wrong = false) := hw
    have HL : Hid (LdAt (wr.alloc (.cells #[.pointer (some ⟨b, 0, none⟩), .int .i64 0, .int .i64 (chs.length : Int)] 112)) wr.heap.size b ⟨R, 0, chs.length⟩) := ⟨blk_new _ _, RdB.below HR.out (by repeat(first|exact bl0 _ _|refine bl1 ?_ (by simp<;>omega) _|refine bl2 ?_|refine bl3 ?_ _|refine bl4 ?_ (by simp<;>omega) _)), HOk.out⟩
    clear hw hOC
    go_wp2_with (first
     | (go_at_call 42; refine (pwrong_any _ b R HR.out).mono ?_; rintro x w9 ⟨hx9, hw9⟩; rw [HWF.out] at hx9; subst hx9; subst w9)
     | (go_at_call 59; refine (pchL_any _ wr.heap.size b chs.length N.1.length R (.slice ca cls.length cc) cls HL.out (by omega) (by omega) ((HC.out.kept hkp HF.out).below (by repeat(first|exact bl0 _ _|refine bl1 ?_ (by simp<;>omega) _|refine bl2 ?_|refine bl3 ?_ _|refine bl4 ?_ (by simp<;>omega) _))) HCG.out hcl).mono ?_; rintro x w4 ⟨⟨⟨ya, yn, yc⟩, ⟨za, zn, zc⟩, yf, ⟨xa, xn, xc⟩⟩, rfl, hI4, hR4, hk4⟩; rw [<- hce.out] at hI4; rw [<- hre.out] at hR4; simp only; have HI4 : Hid _ := hI4; have HR4 : Hid (RdB w4 b R') := hR4; have HQ4 : Hid _ := (HQ.out.below ((by repeat(first|exact bl0 _ _|refine bl1 ?_ (by simp<;>omega) _|refine bl2 ?_|refine bl3 ?_ _|refine bl4 ?_ (by simp<;>omega) _)) : Below wr.heap.size wr (wr.alloc _))).keptM hk4 (LdM.free HL.out) (fun e => by rcases e with e | e <;> omega) (fun j e => by have := hrb.out j e; have := hrl.out j e; intro e2; rcases e2 with e2 | e2 <;> omega); have HK4 : Hid (Kept (fun k => k = b) w w4) := (hkp.alloc _).trans hk4 (fun i hi e => by rcases e with e | e; exact e; omega); have hz4 := HK4.out.size; have hz4w := hk4.size; simp at hz4w; obtain ⟨m0, m1, m2, m3, m4, mf, ml⟩ := HQ4.out.b.facts; clear hI4 hR4 hk4))
    obtain ⟨acc2, hr2, hac2, ham2⟩ := HQ4.out.r.ex
    have hal2 : Hid (acc2.length = chs.length) := by unfold Hid; have := congrArg List.length ham2; simpa using this
    have HRb : Hid (∀ X, Below w4.heap.size w4 X -> RowIs X 0 79 4 chCells (.slice va chs.length vcap) (acc2.map (·.1))) := fun X hX => hr2.below hX
    have HAb : Hid (∀ y ∈ acc2, ∀ X, Below w4.heap.size w4 X -> ChIs X y.1 y.2) := fun y hy X hX => (hac2 y hy).below hX
    have HAM2 : Hid _ := ham2
    have HQb : Hid (∀ X, Below w4.heap.size w4 X -> QIs X w1.heap.size rb (.slice na N.1.length nc) (.slice none 0 0) (.slice none 0 0) 0 (.slice va chs.length vcap) N.1 ⟨Rf.stNone, chs⟩) := fun X hX => HQ4.out.below hX
    have HIb : Hid (∀ X, Below w4.heap.size w4 X -> ChIs X ⟨⟨ya, yn, yc⟩, ⟨za, zn, zc⟩, yf, ⟨xa, xn, xc⟩⟩ c) := fun X hX => HI4.out.below hX
    clear hr2 hac2 ham2 HRow HAC HAM hal
    go_region_law (refine step_app Tryz.elemCh chCells chCells_len chCells_one rfl (.tmp 40) (.tmp 42) rfl 0 (.slice va chs.length vcap) (acc2.map (·.1)) rfl (HRb.out _ (by repeat(first|exact bl0 _ _|refine bl1 ?_ (by simp<;>omega) _|refine bl2 ?_|refine bl3 ?_ _|refine bl4 ?_ (by simp<;>omega) _))) ⟨_, 0, none⟩ 1 ⟨⟨ya, yn, yc⟩, ⟨za, zn, zc⟩, yf, ⟨xa, xn, xc⟩⟩ rfl (cell_four_at _ _ (by simp) _ _ _ _ _) (by rw [List.length_map, hal2.out]; omega) (Nat.zero_le _) ?_; intro gA capA w5 hrow5 hgr5 hnb5; rw [List.length_map] at hrow5; obtain ⟨r1, r2, r3⟩ := QIs.push (HQb.out _ (by repeat(first|exact bl0 _ _|refine bl1 ?_ (by simp<;>omega) _|refine bl2 ?_|refine bl3 ?_ _|refine bl4 ?_ (by simp<;>omega) _))) (fun y hy => HAb.out y hy _ (by repeat(first|exact bl0 _ _|refine bl1 ?_ (by simp<;>omega) _|refine bl2 ?_|refine bl3 ?_ _|refine bl4 ?_ (by simp<;>omega) _))) HAM2.out (c := c) (HIb.out _ (by repeat(first|exact bl0 _ _|refine bl1 ?_ (by simp<;>omega) _|refine bl2 ?_|refine bl3 ?_ _|refine bl4 ?_ (by simp<;>omega) _))) hrow5 hgr5; obtain ⟨s0, s1, s2, s3, s4, sf, sl⟩ := r3.facts; have HR1 : Hid _ := r1; have HR2 : Hid (Kept (May w1.heap.size rb) w4 (w5.setCell ⟨w1.heap.size, 4, none⟩ (.slice (some ⟨gA, 0, none⟩) (acc2.length + 1) capA))) := (Kept.of_below ((by repeat(first|exact bl0 _ _|refine bl1 ?_ (by simp<;>omega) _|refine bl2 ?_|refine bl3 ?_ _|refine bl4 ?_ (by simp<;>omega) _)) : Below w4.heap.size w4 _) (May w1.heap.size rb)).trans r2 (fun _ _ h => h); have hNB : Hid (∀ j, some gA = some j -> w.heap.size <= j) := (fun j e => by { injection e with e; subst e; rcases hnb5 with e | ⟨j, e, hj⟩; exact hrb.out gA (by rw [<- HQ4.out.o]; exact e.symm); injection e with e; subst e; simp at hj; omega }); clear r1 r2 r3)
    all_goals
     have HRf : Hid (RdB (w5.setCell ⟨w1.heap.size, 4, none⟩ (.slice (some ⟨gA, 0, none⟩) (acc2.length + 1) capA)) b R') := RdB.kept HR4.out HR2.out (fun e => by rcases e with e | e; omega; have := hrb.out b e.symm; omega)
     have HKf : Hid (Kept (fun k => k = b) w (w5.setCell ⟨w1.heap.size, 4, none⟩ (.slice (some ⟨gA, 0, none⟩) (acc2.length + 1) capA))) := HK4.out.trans HR2.out (fun i hi e => by rcases e with e | e; omega; have := hrb.out i e.symm; omega)
     generalize w5.setCell ⟨w1.heap.size, 4, none⟩ (.slice (some ⟨gA, 0, none⟩) (acc2.length + 1) capA) = w6 at *
     clear s0 s1 s2 s3 s4 sf sl m0 m1 m2 m3 m4 mf ml q0 q1 q2 q3 q4 qf
     go_wp2_with fail
     go_roundg (n - chs.length)
     case measure => omega
     case rel => exact ⟨chs.length + 1, c :: chs, R', some gA, _, by omega, by omega, by go_num, by simp, HR1.out, hNB, HRf.out, HOC, HKf.out, hE2⟩
   ·have hS : Hid (Z = (chs, R)) := by unfold Hid; rw [<- hE.out, Rf.chsL_wrong hw]
    have HWF : Hid (R.wrong = true) := hw
    clear hw
    go_wp2_with (go_at_call 42; refine (pwrong_any _ b R HR.out).mono ?_; rintro x w9 ⟨hx9, hw9⟩; rw [HWF.out] at hx9; subst hx9; subst w9)
    go_ret
    rw [HQE.out, hS.out]
    exact ⟨w1.heap.size, rb, .slice na N.1.length nc, rfl, HQ.out.at, HR.out, hkp, by omega, hrb.out, HNM.out⟩
  ·have hS : Hid (Z = (chs, R)) := by unfold Hid; rw [<- hE.out, show n - chs.length = 0 by omega]; rfl
   have hlt' : ¬ ((chs.length : Int) < n) := by omega
   go_wp2_with fail
   go_ret
   rw [HQE.out, hS.out]
   exact ⟨w1.heap.size, rfl, rb, .slice na N.1.length nc, HQ.out.at, HR.out, hkp, by omega, hrb.out, HNM.out⟩
end Go.Proofs.YtbiojnljihgpoaaGreatDoor
namespace Rf
theorem claL_no {n : Nat} {a : List Cl} {r : Rdr} (h : oneCl (readS (wordL 400 r).1) = none) : claL (n + 1) a r = ([], refuse) := by rw [claL, h]
theorem claL_yes {n : Nat} {a : List Cl} {r : Rdr} {c : Cl} (h : oneCl (readS (wordL 400 r).1) = some c) : claL (n + 1) a r = claL n (a ++ [c]) (wordL 400 r).2 := by rw [claL, h]
end Rf
namespace Go.Proofs.YtbiojnljihgpoaaGreatDoor
open Go.RowKit
set_option maxHeartbeats 1000000 in
set_option maxRecDepth 100000 in
theorem ploadCl_any (w : World) (b : Nat) (r : Rf.Rdr) (h : RdB w b r) (ho : Rf.RdrOk r) :
  Calls Tryz.prog 39 #[.pointer (some ⟨b, 0, none⟩)] w fun x w' => ∃ v acc, x = .returned v /\ PClsAt (fun k => w.heap.size <= k /\ k < w'.heap.size) w' v acc /\ (Rf.claP r).1 = acc.map (·.2) /\ RdB w' b (Rf.claP r).2 /\ Kept (fun k => k = b) w w' := by
 have hbl := blk_lt h
 have H : Hid (RdB w b r) := h
 have HO : Hid (Rf.RdrOk r) := ho
 have hn0 := Rf.numL_le 30 r
 have hO0 := Rf.numL_ok 30 r
 have hPE : Rf.claP r = Rf.claL (Rf.numL 30 r).1 [] (Rf.numL 30 r).2 := rfl
 obtain ⟨n, hn⟩ : ∃ n, Hid (n = (Rf.numL 30 r).1) := ⟨_, rfl⟩
 obtain ⟨Q, hQ⟩ : ∃ Q, Hid (Q = (Rf.numL 30 r).2) := ⟨_, rfl⟩
 rw [<- hn.out] at hn0
 rw [<- hQ.out] at hO0
 rw [<- hn.out, <- hQ.out] at hPE
 obtain ⟨P, hP⟩ : ∃ P, Hid (P = Rf.claP r) := ⟨_, rfl⟩
 rw [<- hP.out] at hPE ⊢
 have HPE : Hid _ := hPE
 have HOQ : Hid (Rf.RdrOk Q) := hO0
 clear h ho hO0 hPE
 go_enter Tryz.func39, Tryz.ntmps39
 go_wp2_with (go_at_call 40; refine (pnumL_any _ b r 30 H.out HO.out (by omega)).mono ?_; rintro x w0 ⟨hx0, hR0, hk0⟩; rw [<- hn.out] at hx0; subst hx0; rw [<- hQ.out] at hR0; have HR0 : Hid (RdB w0 b Q) := hR0; have HK0 : Hid _ := hk0; clear hR0 hk0)
 go_loopg [4, 5] (n + 1) (fun M cv iv wr => ∃ (k : Nat) (acc : List (PClV × Rf.Cl)) (R : Rf.Rdr), k <= n /\ M = n + 1 - k /\ iv = .int .i64 k /\ acc.length = k /\ PClsAt (fun k => w.heap.size <= k /\ k < wr.heap.size) wr cv acc /\ RdB wr b R /\ Hid (Rf.RdrOk R) /\ Kept (fun k => k = b) w wr /\ Hid (Rf.claL (n - k) (acc.map (·.2)) R = P))
 case atStart => exact ⟨0, [], Q, by omega, by omega, rfl, rfl, ⟨RowIs.nil _ _ _ _ _, (fun k e => by cases e), (fun q hq => by cases hq), fun _ => rfl⟩, HR0.out, HOQ, HK0.out, HPE.out.symm⟩
 case round =>
  obtain ⟨k, acc, R, hk, rfl, rfl, hkl, hA, hRk, HOk, hkp, hE⟩ := hrel
  subst hkl
  have hsz := hkp.size
  obtain ⟨a4, c4, hv4⟩ := row_slice hA.row
  rw [List.length_map] at hv4
  subst hv4
  have HA : Hid _ := hA
  have HRk : Hid (RdB wr b R) := hRk
  clear hA hRk
  by_cases hlt : acc.length < n
  ·have hlt' : (acc.length : Int) < n := by omega
   have hW4 := Rf.wordL_size 400 R
   have hOW : Rf.RdrOk (Rf.wordL 400 R).2 := Rf.wordL_ok
   have hNoG := @Rf.claL_no (n - (acc.length + 1)) (acc.map (·.2)) R
   have hYesG := @Rf.claL_yes (n - (acc.length + 1)) (acc.map (·.2)) R
   rw [show n - (acc.length + 1) + 1 = n - acc.length by omega, hE.out] at hNoG hYesG
   obtain ⟨W, hW⟩ : ∃ W, Hid (W = (Rf.wordL 400 R).1) := ⟨_, rfl⟩
   obtain ⟨R2, hR2⟩ : ∃ R2, Hid (R2 = (Rf.wordL 400 R).2) := ⟨_, rfl⟩
   rw [<- hW.out] at hW4 hNoG hYesG
   rw [<- hR2.out] at hOW hYesG
   have HOW : Hid (Rf.RdrOk R2) := hOW
   clear hOW
   cases hr : Rf.readS W with
   | error y =>
    obtain ⟨e, q⟩ := y
    have HRd : Hid _ := hr
    have hNo : Hid (P = ([], Rf.refuse)) := hNoG (by rw [hr]; rfl)
    clear hNoG hYesG hr
    go_wp2_with (first
     | (go_at_call 57; refine (prefuse_any _ b R2 HR2b.out).mono ?_; rintro x w5 ⟨rfl, hR5, hk5⟩; have HR5 : Hid (RdB w5 b Rf.refuse) := hR5; have HK5 : Hid (Kept (fun k => k = b) w w5) := HK2.out.trans hk5 (fun _ _ e => e); clear hk5 hR5)
     | (go_at_call 45; refine (pclauses_any W _ (by unfold maxLen; omega)).mono ?_; rintro x w2 ⟨hb2, hP⟩; rw [HRd.out] at hP; obtain ⟨rfl, hne⟩ := hP; have he : (e != 0) = true := (by rw [bne_iff_ne]; exact hne); have HR2b : Hid (RdB w2 b R2) := RdB.below HR1.out hb2; have HK2 : Hid (Kept (fun k => k = b) w w2) := HK1.out.trans (Kept.of_below hb2 (fun k => k = b)) (fun _ _ e => e); clear hb2 hne)
     | (go_at_call 56; refine (pwordL_any _ b R 400 HRk.out HOk.out (by omega)).mono ?_; rintro x w1 ⟨hx1, hR1, hk1⟩; rw [<- hW.out] at hx1; subst hx1; rw [<- hR2.out] at hR1; have HR1 : Hid (RdB w1 b R2) := hR1; have HK1 : Hid (Kept (fun k => k = b) w w1) := hkp.trans hk1 (fun _ _ e => e); have HA1 : Hid (PClsAt (fun k => w.heap.size <= k /\ k < w1.heap.size) w1 (.slice a4 acc.length c4) acc) := HA.out.weak hk1 (fun k _ hF e => by omega) (fun k hF => ⟨hF.1, by have := hk1.size; omega⟩); have hz1 := HK1.out.size; clear hk1 hR1))
    go_ret
    rw [hNo.out]
    exact ⟨_, [], rfl, ⟨RowIs.nil _ _ _ _ _, (fun k e => by cases e), (fun q hq => by cases hq), fun _ => rfl⟩, rfl, HR5.out, HK5.out⟩
   | ok new =>
    by_cases h1 : new.length = 1
    ·obtain ⟨c, rfl⟩ := List.length_eq_one_iff.1 h1
     have HRd : Hid _ := hr
     have hYes : Hid (P = Rf.claL (n - (acc.length + 1)) (acc.map (·.2) ++ [c]) R2) := hYesG (by rw [hr]; rfl)
     clear hNoG hYesG hr h1
     go_wp2_with (first
      | (go_at_call 45; refine (pclauses_any W _ (by unfold maxLen; omega)).mono ?_; rintro x w2 ⟨hb2, hP⟩; rw [HRd.out] at hP; obtain ⟨v1, acc1, rfl, hA2, hnew⟩ := hP; obtain ⟨a5, c5, hv5⟩ := row_slice hA2.row; rw [List.length_map] at hv5; subst hv5; have Hnew : Hid _ := hnew; have hln0 := congrArg List.length hnew; rw [List.length_map] at hln0; have hln := hln0.symm; clear hln0; have hl1 : acc1.length = 1 := hln; obtain ⟨g5, ha5⟩ : ∃ g5, a5 = some ⟨g5, 0, none⟩ := (by rcases hA2.row.shape with ⟨e, e2⟩ | ⟨g5, cap, e, _⟩; (rw [List.map_eq_nil_iff] at e2; rw [e2] at hl1; cases hl1); (injection e with e1 _ _; exact ⟨g5, e1⟩)); subst ha5; have hl1i : ((acc1.length : Int) != 1) = false := (by rw [hl1]; rfl); have Hl1 : Hid _ := hl1; clear hl1; have HA2 : Hid _ := hA2; have HR2b : Hid (RdB w2 b R2) := RdB.below HR1.out hb2; have HK2 : Hid (Kept (fun k => k = b) w w2) := HK1.out.trans (Kept.of_below hb2 (fun k => k = b)) (fun _ _ e => e); have HB2 : Hid _ := hb2; have hz2 := hb2.size; clear hb2 hA2 hnew hln)
      | (go_at_call 56; refine (pwordL_any _ b R 400 HRk.out HOk.out (by omega)).mono ?_; rintro x w1 ⟨hx1, hR1, hk1⟩; rw [<- hW.out] at hx1; subst hx1; rw [<- hR2.out] at hR1; have HR1 : Hid (RdB w1 b R2) := hR1; have HK1 : Hid (Kept (fun k => k = b) w w1) := hkp.trans hk1 (fun _ _ e => e); have HA1 : Hid (PClsAt (fun k => w.heap.size <= k /\ k < w1.heap.size) w1 (.slice a4 acc.length c4) acc) := HA.out.weak hk1 (fun k _ hF e => by omega) (fun k hF => ⟨hF.1, by have := hk1.size; omega⟩); have hz1 := HK1.out.size; clear hk1 hR1)
      | (at_builtin; refine wpList_apps Tryz.elemPCl pclCells pclCells_len pclCells_one _ rfl (.tmp 34) (.tmp 35) rfl 0 (.slice a4 acc.length c4) (acc.map (·.1)) rfl (HA1.out.row.below HB2.out) ⟨g5, 0, none⟩ c5 (acc1.map (·.1)) (by rw [List.length_map, Hl1.out]; omega) (by rw [List.length_map]; rfl) (HA2.out.row.own.cells rfl) (by rw [List.length_map, List.length_map, Hl1.out]; omega) (Nat.zero_le _) ?_; intro gA capA w3 hrow3 hgr3 hnb3; rw [List.length_map, List.length_map] at hrow3; have HJ : Hid _ := pcls_join (x := b) HA1.out HA2.out ((Kept.of_below HB2.out _).grown hgr3 (fun k e => .inr (.inr e))) ((Kept.refl _ w2).grown hgr3 (fun k e => .inr (.inr e))) HB2.out.size (fun e => by omega) (by omega) hrow3 (fun k e => by injection e with e; subst e; rcases hnb3 with e | ⟨j, e, hj⟩; exact .inl e.symm; injection e with e; subst e; exact .inr hj) (fun e => by have h9 := Hl1.out; rw [(List.append_eq_nil_iff.1 e).2] at h9; cases h9); have HK3 : Hid (Kept (fun k => k = b) w w3) := HK2.out.grown hgr3 (fun k e => .inl (HA1.out.rowF k e).1); have HR3 : Hid (RdB w3 b R2) := (hgr3.block b (by omega) (fun e => by have := (HA1.out.rowF b e.symm).1; omega)).trans HR2b.out; have hz3 := HK3.out.size; have hz32 := hgr3.size; clear hgr3 hnb3 hrow3))
     go_roundg (n - acc.length)
     case measure => omega
     case rel =>
      refine ⟨acc.length + 1, acc ++ acc1, R2, by omega, by omega, by go_num, by rw [List.length_append, Hl1.out], HJ.out.mono (fun k e => by rcases e with e | e <;> omega), HR3.out, HOW, HK3.out, ?_⟩
      unfold Hid
      rw [List.map_append, <- Hnew.out]
      exact hYes.out.symm
    ·have HRd : Hid _ := hr
     have hNo : Hid (P = ([], Rf.refuse)) := hNoG (by
      rw [hr]
      match new, h1 with
      | [], _ => rfl
      | [x], h1 => exact absurd rfl h1
      | _ :: _ :: _, _ => rfl)
     clear hNoG hYesG hr
     go_wp2_with (first
      | (go_at_call 57; refine (prefuse_any _ b R2 HR2b.out).mono ?_; rintro x w5 ⟨rfl, hR5, hk5⟩; have HR5 : Hid (RdB w5 b Rf.refuse) := hR5; have HK5 : Hid (Kept (fun k => k = b) w w5) := HK2.out.trans hk5 (fun _ _ e => e); clear hk5 hR5)
      | (go_at_call 45; refine (pclauses_any W _ (by unfold maxLen; omega)).mono ?_; rintro x w2 ⟨hb2, hP⟩; rw [HRd.out] at hP; obtain ⟨v1, acc1, rfl, hA2, hnew⟩ := hP; obtain ⟨a5, c5, hv5⟩ := row_slice hA2.row; rw [List.length_map] at hv5; subst hv5; have HA2 : Hid _ := hA2; have Hnew : Hid _ := hnew; have hln0 := congrArg List.length hnew; rw [List.length_map] at hln0; have hln := hln0.symm; clear hln0; have hl1i : ((acc1.length : Int) != 1) = true := (by rw [hln, bne_iff_ne]; omega); have HR2b : Hid (RdB w2 b R2) := RdB.below HR1.out hb2; have HK2 : Hid (Kept (fun k => k = b) w w2) := HK1.out.trans (Kept.of_below hb2 (fun k => k = b)) (fun _ _ e => e); have HB2 : Hid _ := hb2; have hz2 := hb2.size; clear hb2 hA2 hnew hln)
      | (go_at_call 56; refine (pwordL_any _ b R 400 HRk.out HOk.out (by omega)).mono ?_; rintro x w1 ⟨hx1, hR1, hk1⟩; rw [<- hW.out] at hx1; subst hx1; rw [<- hR2.out] at hR1; have HR1 : Hid (RdB w1 b R2) := hR1; have HK1 : Hid (Kept (fun k => k = b) w w1) := hkp.trans hk1 (fun _ _ e => e); have HA1 : Hid (PClsAt (fun k => w.heap.size <= k /\ k < w1.heap.size) w1 (.slice a4 acc.length c4) acc) := HA.out.weak hk1 (fun k _ hF e => by omega) (fun k hF => ⟨hF.1, by have := hk1.size; omega⟩); have hz1 := HK1.out.size; clear hk1 hR1))
     go_ret
     rw [hNo.out]
     exact ⟨_, [], rfl, ⟨RowIs.nil _ _ _ _ _, (fun k e => by cases e), (fun q hq => by cases hq), fun _ => rfl⟩, rfl, HR5.out, HK5.out⟩
  ·have hS : Hid (P = (acc.map (·.2), R)) := by unfold Hid; rw [<- hE.out, show n - acc.length = 0 by omega]; rfl
   have hlt' : ¬ ((acc.length : Int) < n) := by omega
   go_wp2_with fail
   go_ret
   rw [hS.out]
   exact ⟨_, rfl, acc, HA.out, rfl, HRk.out, hkp⟩
end Go.Proofs.YtbiojnljihgpoaaGreatDoor
