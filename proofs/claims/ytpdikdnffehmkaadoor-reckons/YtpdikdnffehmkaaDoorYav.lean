/- The program's session: Ask at a question. -/
import Derived.Test.YtpdikdnffehmkaaDoorYau
import Derived.Test.YtpdikdnffehmkaaDoorYah
import Derived.Test.YtpdikdnffehmkaaDoorRows
import Derived.ProofKit
import Derived.OpenShut
import Derived.Deep.Slices
import Derived.Deep.DeepHandedRow
import Derived.Deep.DeepWitnessRowRef
import Derived.Lib.LaidTab
import Derived.Lib.AppendIntMem
import Derived.SizedLaws
import Derived.ReadAgain
import Derived.LaidMore
import Derived.LaidHandle
import Derived.Stop.LaidErr
namespace Go.Proofs.YtpdikdnffehmkaaDoor
open Go.RowKit
theorem callFirst (vals : Array Value) (w : World) : (callFunc 17 vals).run Tryd.prog w = .ok (.enter 17 vals) w := by
  simp [callFunc, Tryd.func17, Tryd.f17]
theorem first_same (S : Rf.Se) (gs : List (List Rf.Part)) (ns : List ByteArray) : Rf.firstS S gs ns = Rf.firstR S.cls S.lim (Rf.beginC gs ns) := rfl
theorem Free.blk {w : World} {g : Nat} {cs : Array Value} {t : TypeId} (h : w.heap[g]? = some (.cells cs t (0, 0))) (ht : t ≠ 65 ∧ t ≠ 67 ∧ t ≠ 3 ∧ t ≠ 9 ∧ t ≠ 72) : Free w (fun k => k = g) := by
  have key : ∀ t' : TypeId, t ≠ t' → ∀ k cs', w.heap[k]? = some (.cells cs' t' (0, 0)) → ¬ k = g := by
    intro t' ht k cs' hc e
    subst e
    rw [h] at hc
    injection hc with h3; injection h3 with _ h4
    exact ht h4
  exact ⟨key _ ht.1, key _ ht.2.1, key _ ht.2.2.1, key _ ht.2.2.2.1, key _ ht.2.2.2.2⟩
theorem fin_ask {F : Nat → Prop} {w Wf : World} {x q : Nat} {rb1 : Option Nat} {oq : Option (Nat × Option Nat)} {S : Rf.Se} {names : List ByteArray} {R : Int × Rf.Cf} {vC : Value} {rp : Rf.Rep} (h : SeAt F w x oq S) (hC : PCls30 F w vC S.cls) (hP : PsB Wf x S.lim vC (.pointer (some ⟨q, 0, none⟩))) (hrp : Rf.repOf names R = rp) (h1 : R.1 = 1) (hO : Rf.SeOk (Rf.replyS S names R).2) (hQ : QAt Wf q rb1 names (Rf.cfOf R)) (hM : ∀ k, May q rb1 k → MayO oq k ∨ w.heap.size ≤ k) (hk : Kept (fun k => k = x ∨ MayO oq k) w Wf) :
    SePost F w x oq (Rf.replyS S names R) (.returned (repV rp)) Wf := by
  have e1 : (Rf.replyS S names R).2 = ⟨S.lim, S.cls, some ⟨names, R.2.chs.map Rf.renC⟩⟩ := by unfold Rf.replyS; rw [if_pos h1]
  have e2 : Rf.cfOf R = ⟨Rf.stNone, R.2.chs.map Rf.renC⟩ := by unfold Rf.cfOf; rw [if_pos h1]
  rw [e1] at hO
  rw [e2] at hQ
  refine ⟨by rw [repOf_reply, hrp], ?_, hk⟩
  rw [e1]
  exact se_yes (Q := ⟨names, R.2.chs.map Rf.renC⟩) h hC hP hO hQ hM hk
theorem ask_ok {S : Rf.Se} (hS : Rf.SeOk S) {s : ByteArray} {gs : List (List Rf.Part)} {ns : List ByteArray} (hr : Rf.questS s = .ok (gs, ns)) (hz : ∀ y ∈ Rf.beginN ns, y.size ≤ 12) : Rf.SeOk (Rf.replyS S (Rf.beginN ns) (Rf.firstR S.cls S.lim (Rf.beginC gs ns))).2 := by
  obtain ⟨h16, hkep⟩ := Rf.begin_kep (S := S) (Rf.questS_read hr) (Rf.questS_good hr)
  have hl : (Rf.beginN ns).length ≤ 16 := by
    have := Rf.namedFrom_len 0 ns
    unfold Rf.beginN; rw [List.length_map]; omega
  unfold Rf.firstR
  split
  · unfold Rf.replyS; rw [if_neg (by simp)]; exact Rf.stop_ok hS
  · exact Rf.reply_ok hS hl hz hkep
set_option maxHeartbeats 4000000 in
set_option maxRecDepth 100000 in
theorem pask_go (F : Nat → Prop) (w : World) (B x : Nat) (oq : Option (Nat × Option Nat)) (S : Rf.Se) (s : ByteArray) (hm : s.size ≤ maxLen) (h : SeAt F w x oq S) (hB : B ≤ w.heap.size) (hxB : B ≤ x) (hT : TabB B w) (gs : List (List Rf.Part)) (ns : List ByteArray) (hr : Rf.questS s = .ok (gs, ns)) (hz : ∀ y ∈ Rf.beginN ns, y.size ≤ 12) :
    Calls Tryd.prog 7 #[.pointer (some ⟨x, 0, none⟩), .string s] w fun r w' => SePost F w x oq (Rf.replyS S (Rf.beginN ns) (Rf.firstR S.cls S.lim (Rf.beginC gs ns))) r w' := by
  obtain ⟨vC, vQ, hPB, hCl, hQu⟩ := h.ex
  obtain ⟨k0, k1, k2, kf, kl⟩ := hPB.facts
  have hkep := (Rf.begin_kep (S := S) (Rf.questS_read hr) (Rf.questS_good hr)).2
  have HS : Hid _ := h
  have HP : Hid (PsB w x S.lim vC vQ) := hPB
  have HCl : Hid _ := hCl
  have HR : Hid _ := hr
  have HO : Hid (Rf.SeOk (Rf.replyS S (Rf.beginN ns) (Rf.firstR S.cls S.lim (Rf.beginC gs ns))).2) := ask_ok h.ok hr hz
  have HNx : Hid (∀ W q, QAt W q none (Rf.beginN ns) (Rf.beginC gs ns) → SeenCls W vC S.cls → B ≤ W.heap.size → B ≤ q → TabB B W → Calls Tryd.prog 17 #[.pointer (some ⟨q, 0, none⟩), vC, .int .i64 (S.lim : Nat)] W fun r w' => r = .returned (repV (Rf.repOf (Rf.beginN ns) (Rf.firstR S.cls S.lim (Rf.beginC gs ns)))) ∧ (∃ rb', QAt w' q rb' (Rf.beginN ns) (Rf.cfOf (Rf.firstR S.cls S.lim (Rf.beginC gs ns))) ∧ Nb W none rb') ∧ Kept (May q none) W w') := fun W q hQ hC hBW hq hTW => pfirst_any W B q none _ _ vC S.cls S.lim hQ hC hkep h.ok.g h.ok.k hCl.len h.ok.l2 hz hBW hq (fun _ e => by cases e) hTW
  obtain ⟨cla, clc, rfl⟩ := hCl.seen.slice
  clear h hPB hCl hQu hr hkep hz
  obtain ⟨R, hR⟩ : ∃ R, Hid (Rf.firstR S.cls S.lim (Rf.beginC gs ns) = R) := ⟨_, rfl⟩
  rw [hR.out] at HNx HO ⊢
  obtain ⟨⟨rk, rt, rc, rpp⟩, hRp⟩ : ∃ rp, Hid (Rf.repOf (Rf.beginN ns) R = rp) := ⟨_, rfl⟩
  obtain ⟨L, hL⟩ : ∃ L, Hid (S.lim = L) := ⟨_, rfl⟩
  obtain ⟨nc, hnc⟩ : ∃ n, Hid (S.cls.length = n) := ⟨_, rfl⟩
  rw [hRp.out, hL.out, hnc.out] at HNx
  rw [hL.out] at k0
  rw [hnc.out] at k1
  go_enter Tryd.func7, Tryd.ntmps7
  go_wp2_with (first
    | (go_at_call 16; refine (pbegin_any _ _ gs _ ns hgs hns hnl).mono ?_; rintro r w3 ⟨q, rfl, hq3, hQ3, hb3⟩; have hz3 := hb3.size)
    | (go_at_call 15; refine (pquest_any s _ hm).mono ?_; rintro r w2 ⟨hb2, hP2⟩; rw [HR.out] at hP2; obtain ⟨a1, n1, c1, a2, n2, c2, hv, hgs, hns, hgl, hnl⟩ := hP2; subst hv; have hz2 := hb2.size)
    | (go_at_call 14; refine (pstop_any x _ ⟨_, _, _, blk_alloc HP.out _⟩).mono ?_; rintro r w1 ⟨rfl, h1⟩; subst h1))
  have hbz : Kept (fun k => k = x) w w2 := (((Kept.refl (fun k => k = x) w).setCell (p := ⟨x, 2, none⟩) (.inr rfl) _).alloc _).trans (Kept.of_below hb2 (fun _ => False)) (fun _ _ e => absurd e id)
  have hk3 : Kept (fun k => k = x) w w3 := hbz.trans (Kept.of_below hb3 (fun _ => False)) (fun _ _ e => absurd e id)
  have hz1 : w.heap.size + 1 ≤ w2.heap.size := by simpa using hz2
  have PX2 := (hb2.block x (by simp; omega)).trans (blk_alloc (blk_set HP.out 2 (.pointer none)) (.cells #[.int .i64 0, .string ⟨#[]⟩, .int .i64 0, .int .i64 0] 28))
  have PX3 : PsB w3 x S.lim (.slice cla S.cls.length clc) (.pointer none) := (hb3.block x (by omega)).trans PX2
  have PR2 := (hb2.block w.heap.size (by simp)).trans (blk_at (w.setCell ⟨x, 2, none⟩ (.pointer none)) (.cells #[.int .i64 0, .string ⟨#[]⟩, .int .i64 0, .int .i64 0] 28) _ (by simp))
  have PR3 : w3.heap[w.heap.size]? = some (.cells #[.int .i64 0, .string ⟨#[]⟩, .int .i64 0, .int .i64 0] 28) := (hb3.block w.heap.size (by omega)).trans PR2
  have HC3 : Hid (SeenCls w3 (.slice cla S.cls.length clc) S.cls) := HCl.out.seen.kept hk3 (Free.blk HP.out (by decide))
  have HT3 : Hid (TabB B w3) := hT.on (hk3.below hB (fun k hk e => by omega))
  obtain ⟨m0, m1, m2, mf, ml⟩ := PX3.facts
  rw [hL.out] at m0
  rw [hnc.out] at m1
  have HX3 : Hid _ := PX3
  have HR3 : Hid _ := PR3
  have HQ3 : Hid _ := hQ3
  have HK3 : Hid _ := hk3
  have hBq : B ≤ q := by omega
  have hB3 : B ≤ w3.heap.size := by omega
  have HN3 : Hid (∀ W, Below w3.heap.size w3 W → Calls Tryd.prog 17 #[.pointer (some ⟨q, 0, none⟩), .slice cla nc clc, .int .i64 (L : Nat)] W fun r w' => r = .returned (repV ⟨rk, rt, rc, rpp⟩) ∧ (∃ rb', QAt w' q rb' (Rf.beginN ns) (Rf.cfOf R) ∧ Nb W none rb') ∧ Kept (May q none) W w') := fun W hb => HNx.out W q (hQ3.below hb) (by rw [← hnc.out]; exact HC3.out.below hb) (Nat.le_trans hB3 hb.size) hBq (HT3.out.on (hb.mono hB3))
  clear hbz PX2 PX3 PR2 PR3 hQ3 hk3 hgs hns hb2 hb3 k0 k1 k2 kf HNx hT
  have hq4 : q < w3.heap.size := may_lt HQ3.out (.inl rfl)
  have hqn : Hid (∀ i, i < w.heap.size → May q none i → i = x ∨ MayO oq i) := fun i hi e => by
    rcases e with e | e
    · omega
    · cases e
  have hnm : Hid (∀ k, k ≠ q → ¬ May q none k) := fun k hk hm => by
    rcases hm with e | e
    · exact hk e
    · cases e
  have hrk : R.1 = rk := by rw [← repOf_kind (Rf.beginN ns) R, hRp.out]
  by_cases h1 : rk = 1
  · subst h1
    go_region_law (first
      | (refine step_call3 rfl 17 (.tmp 31) (.tmp 35) (.tmp 39) _ rfl (.pointer (some ⟨q, 0, none⟩)) (.slice cla nc clc) (.int .i64 L) rfl rfl rfl (fun _ => callFirst _ _) (HN3.out _ (by repeat (first | exact Below.refl _ _ | refine Below.setCell ?_ (by simp <;> omega) _ | refine Below.drew ?_ | refine Below.drewN ?_ _ | refine Below.alloc ?_ (by simp <;> omega) _))) ?_; rintro r w4 ⟨rfl, ⟨rb1, hQ4, hN4⟩, hk4⟩; refine ⟨_, rfl, ?_⟩; simp only [repV]; have hz4 := hk4.size; have P2 : w4.heap[w3.heap.size]? = some (.cells #[.int .i64 0, .string ⟨#[]⟩, .int .i64 0, .int .i64 0] 28) := (hk4.block w3.heap.size (by simp <;> omega) (hnm.out _ (by omega))).trans (blk_new w3 _); have P1 : w4.heap[w.heap.size]? = some (.cells #[.int .i64 0, .string ⟨#[]⟩, .int .i64 0, .int .i64 0] 28) := (hk4.block w.heap.size (by simp <;> omega) (hnm.out _ (by omega))).trans (blk_alloc HR3.out _); have PX : PsB w4 x S.lim (.slice cla S.cls.length clc) (.pointer none) := (hk4.block x (by simp <;> omega) (hnm.out x (by omega))).trans (blk_alloc HX3.out _); have s0 := blk_cell P1 0; have s1 := blk_cell P1 1; have s2 := blk_cell P1 2; have s3 := blk_cell P1 3; have sf := blk_frozen P1; have sl := blk_lt P1; simp at s0 s1 s2 s3; obtain ⟨x0, x1, x2, xf, xl⟩ := PsB.facts PX; have t0 := blk_cell P2 0; have t1 := blk_cell P2 1; have t2 := blk_cell P2 2; have t3 := blk_cell P2 3; have tf := blk_frozen P2; have tl := blk_lt P2; simp at t0 t1 t2 t3)
      | (refine step_call3 rfl 17 (.tmp 31) (.tmp 35) (.tmp 39) _ rfl (.pointer (some ⟨q, 0, none⟩)) (.slice cla nc clc) (.int .i64 L) rfl rfl rfl (fun _ => callFirst _ _) (HN3.out _ (by repeat (first | exact Below.refl _ _ | refine Below.setCell ?_ (by simp <;> omega) _ | refine Below.drew ?_ | refine Below.drewN ?_ _ | refine Below.alloc ?_ (by simp <;> omega) _))) ?_; rintro r w4 ⟨rfl, ⟨rb1, hQ4, hN4⟩, hk4⟩; refine ⟨_, rfl, ?_⟩; simp only [repV]; have hz4 := hk4.size; have P1 : w4.heap[w.heap.size]? = some (.cells #[.int .i64 0, .string ⟨#[]⟩, .int .i64 0, .int .i64 0] 28) := (hk4.block w.heap.size (by simp <;> omega) (hnm.out _ (by omega))).trans HR3.out; have PX : PsB w4 x S.lim (.slice cla S.cls.length clc) (.pointer none) := (hk4.block x (by simp <;> omega) (hnm.out x (by omega))).trans HX3.out; have s0 := blk_cell P1 0; have s1 := blk_cell P1 1; have s2 := blk_cell P1 2; have s3 := blk_cell P1 3; have sf := blk_frozen P1; have sl := blk_lt P1; simp at s0 s1 s2 s3; obtain ⟨x0, x1, x2, xf, xl⟩ := PsB.facts PX))
    all_goals go_wp2_with fail
    all_goals
      refine bodyPost_ret (v := .agg #[.int .i64 1, .string rt, .int .i64 rc, .int .i64 rpp]) (by simp [results, Tryd.results7, go_sem, *]) rfl ?_
      have hk40 : Kept (fun k => k = x ∨ MayO oq k) w w4 := ((HK3.out.mono (fun _ _ e => .inl e)).trans (Kept.of_below (w' := _) (by repeat (first | exact Below.refl _ _ | refine Below.setCell ?_ (by simp <;> omega) _ | refine Below.drew ?_ | refine Below.drewN ?_ _ | refine Below.alloc ?_ (by simp <;> omega) _)) (fun _ => False)) (fun _ _ e => absurd e id)).trans hk4 (fun i hi e => hqn.out i hi e)
      refine fin_ask (q := q) (rb1 := rb1) HS.out HCl.out ?_ hRp.out hrk HO.out ?_ (fun k hm => ?_) ?_
      · first
          | (have h9 := P2; have P3 := blk_set (((kept4 w4 w3.heap.size (.int .i64 1) (.string rt) (.int .i64 rc) (.int .i64 rpp)).block x (blk_lt PX) (by omega)).trans PX) 2 (.pointer (some ⟨q, 0, none⟩)); exact ((kept4 _ w.heap.size _ _ _ _).block x (blk_lt P3) (by omega)).trans P3)
          | (have P3 := blk_set PX 2 (.pointer (some ⟨q, 0, none⟩)); exact blk_alloc (((kept4 _ w.heap.size _ _ _ _).block x (blk_lt P3) (by omega)).trans P3) _)
      · first
          | (have h9 := P2; have PXb := ((kept4 w4 w3.heap.size (.int .i64 1) (.string rt) (.int .i64 rc) (.int .i64 rpp)).block x (blk_lt PX) (by omega)).trans PX; have P1b := ((kept4 w4 w3.heap.size (.int .i64 1) (.string rt) (.int .i64 rc) (.int .i64 rpp)).block w.heap.size (blk_lt P1) (by omega)).trans P1; have kx := Kept.setCell (p := ⟨x, 2, none⟩) (Kept.refl (fun k => k = x) ((((w4.setCell ⟨w3.heap.size, 0, none⟩ (.int .i64 1)).setCell ⟨w3.heap.size, 1, none⟩ (.string rt)).setCell ⟨w3.heap.size, 2, none⟩ (.int .i64 rc)).setCell ⟨w3.heap.size, 3, none⟩ (.int .i64 rpp))) (.inr rfl) (.pointer (some ⟨q, 0, none⟩)); exact ((hQ4.keptL P2 (by decide) (kept4 _ _ _ _ _ _)).keptL PXb (by decide) kx).keptL ((kx.block w.heap.size (blk_lt P1b) (by omega)).trans P1b) (by decide) (kept4 _ _ _ _ _ _))
          | (have kx := Kept.setCell (p := ⟨x, 2, none⟩) (Kept.refl (fun k => k = x) w4) (.inr rfl) (.pointer (some ⟨q, 0, none⟩)); exact ((hQ4.keptL PX (by decide) kx).keptL ((kx.block w.heap.size (blk_lt P1) (by omega)).trans P1) (by decide) (kept4 _ _ _ _ _ _)).below ((Below.refl _ _).alloc (Nat.le_refl _) _))
      · rcases hm with e | e
        · exact .inr (by omega)
        · rcases hN4 with e2 | ⟨j, e2, hj⟩
          · rw [e2] at e; cases e
          · rw [e2] at e; injection e with e; simp at hj; exact .inr (by omega)
      · first
          | (have h9 := P2; exact ((hk40.trans (kept4 _ w3.heap.size _ _ _ _) (fun i hi e => absurd hi (by omega))).setCell (p := ⟨x, 2, none⟩) (.inr (.inl rfl)) _).trans (kept4 _ w.heap.size _ _ _ _) (fun i hi e => absurd hi (by omega)))
          | exact ((hk40.setCell (p := ⟨x, 2, none⟩) (.inr (.inl rfl)) _).trans (kept4 _ w.heap.size _ _ _ _) (fun i hi e => absurd hi (by omega))).alloc _
  · have h1' : ¬ R.1 = 1 := fun e => h1 (hrk.symm.trans e)
    clear hrk
    go_region_law (first
      | (refine step_call3 rfl 17 (.tmp 31) (.tmp 35) (.tmp 39) _ rfl (.pointer (some ⟨q, 0, none⟩)) (.slice cla nc clc) (.int .i64 L) rfl rfl rfl (fun _ => callFirst _ _) (HN3.out _ (by repeat (first | exact Below.refl _ _ | refine Below.setCell ?_ (by simp <;> omega) _ | refine Below.drew ?_ | refine Below.drewN ?_ _ | refine Below.alloc ?_ (by simp <;> omega) _))) ?_; rintro r w4 ⟨rfl, ⟨rb1, hQ4, hN4⟩, hk4⟩; refine ⟨_, rfl, ?_⟩; simp only [repV]; have hz4 := hk4.size; have P2 : w4.heap[w3.heap.size]? = some (.cells #[.int .i64 0, .string ⟨#[]⟩, .int .i64 0, .int .i64 0] 28) := (hk4.block w3.heap.size (by simp <;> omega) (hnm.out _ (by omega))).trans (blk_new w3 _); have P1 : w4.heap[w.heap.size]? = some (.cells #[.int .i64 0, .string ⟨#[]⟩, .int .i64 0, .int .i64 0] 28) := (hk4.block w.heap.size (by simp <;> omega) (hnm.out _ (by omega))).trans (blk_alloc HR3.out _); have PX : PsB w4 x S.lim (.slice cla S.cls.length clc) (.pointer none) := (hk4.block x (by simp <;> omega) (hnm.out x (by omega))).trans (blk_alloc HX3.out _); have s0 := blk_cell P1 0; have s1 := blk_cell P1 1; have s2 := blk_cell P1 2; have s3 := blk_cell P1 3; have sf := blk_frozen P1; have sl := blk_lt P1; simp at s0 s1 s2 s3; obtain ⟨x0, x1, x2, xf, xl⟩ := PsB.facts PX; have t0 := blk_cell P2 0; have t1 := blk_cell P2 1; have t2 := blk_cell P2 2; have t3 := blk_cell P2 3; have tf := blk_frozen P2; have tl := blk_lt P2; simp at t0 t1 t2 t3)
      | (refine step_call3 rfl 17 (.tmp 31) (.tmp 35) (.tmp 39) _ rfl (.pointer (some ⟨q, 0, none⟩)) (.slice cla nc clc) (.int .i64 L) rfl rfl rfl (fun _ => callFirst _ _) (HN3.out _ (by repeat (first | exact Below.refl _ _ | refine Below.setCell ?_ (by simp <;> omega) _ | refine Below.drew ?_ | refine Below.drewN ?_ _ | refine Below.alloc ?_ (by simp <;> omega) _))) ?_; rintro r w4 ⟨rfl, ⟨rb1, hQ4, hN4⟩, hk4⟩; refine ⟨_, rfl, ?_⟩; simp only [repV]; have hz4 := hk4.size; have P1 : w4.heap[w.heap.size]? = some (.cells #[.int .i64 0, .string ⟨#[]⟩, .int .i64 0, .int .i64 0] 28) := (hk4.block w.heap.size (by simp <;> omega) (hnm.out _ (by omega))).trans HR3.out; have PX : PsB w4 x S.lim (.slice cla S.cls.length clc) (.pointer none) := (hk4.block x (by simp <;> omega) (hnm.out x (by omega))).trans HX3.out; have s0 := blk_cell P1 0; have s1 := blk_cell P1 1; have s2 := blk_cell P1 2; have s3 := blk_cell P1 3; have sf := blk_frozen P1; have sl := blk_lt P1; simp at s0 s1 s2 s3; obtain ⟨x0, x1, x2, xf, xl⟩ := PsB.facts PX))
    all_goals go_wp2_with fail
    all_goals
      refine bodyPost_ret (v := .agg #[.int .i64 rk, .string rt, .int .i64 rc, .int .i64 rpp]) (by simp [results, Tryd.results7, go_sem, *]) rfl ?_
      have hk40 : Kept (fun k => k = x ∨ MayO oq k) w w4 := ((HK3.out.mono (fun _ _ e => .inl e)).trans (Kept.of_below (w' := _) (by repeat (first | exact Below.refl _ _ | refine Below.setCell ?_ (by simp <;> omega) _ | refine Below.drew ?_ | refine Below.drewN ?_ _ | refine Below.alloc ?_ (by simp <;> omega) _)) (fun _ => False)) (fun _ _ e => absurd e id)).trans hk4 (fun i hi e => hqn.out i hi e)
      refine fin_no (vC := .slice cla S.cls.length clc) HS.out HCl.out ?_ hRp.out h1' ?_
      · first
          | (have h9 := P2; have P3 := ((kept4 w4 w3.heap.size (.int .i64 rk) (.string rt) (.int .i64 rc) (.int .i64 rpp)).block x (blk_lt PX) (by omega)).trans PX; exact ((kept4 _ w.heap.size _ _ _ _).block x (blk_lt P3) (by omega)).trans P3)
          | exact blk_alloc (((kept4 _ w.heap.size _ _ _ _).block x (blk_lt PX) (by omega)).trans PX) _
      · first
          | (have h9 := P2; exact (hk40.trans (kept4 _ w3.heap.size _ _ _ _) (fun i hi e => absurd hi (by omega))).trans (kept4 _ w.heap.size _ _ _ _) (fun i hi e => absurd hi (by omega)))
          | exact (hk40.trans (kept4 _ w.heap.size _ _ _ _) (fun i hi e => absurd hi (by omega))).alloc _
end Go.Proofs.YtpdikdnffehmkaaDoor
/- The program's session, in memory, with all that it owns; what each call leaves of it, and of the others. -/
namespace Go.Proofs.YtpdikdnffehmkaaDoor
open Go.RowKit
/-- A block of a kind that turns: a session, a question, a row of choices, a row of clauses. -/
def Turn (w : World) (k : Nat) : Prop := ∃ cs t, w.heap[k]? = some (.cells cs t (0, 0)) ∧ (t = 47 ∨ t = 62 ∨ t = 104 ∨ t = 72)
/-- A block that holds no part of a term, no term, no number and no name: no row that is only read. -/
def Mut (w : World) (k : Nat) : Prop := ∃ cs t, w.heap[k]? = some (.cells cs t (0, 0)) ∧ t ≠ 65 ∧ t ≠ 67 ∧ t ≠ 3 ∧ t ≠ 9
theorem Turn.mut {w : World} {k : Nat} (h : Turn w k) : Mut w k := by
  obtain ⟨cs, t, hc, ht⟩ := h
  refine ⟨cs, t, hc, ?_⟩
  rcases ht with e | e | e | e <;> (subst e; decide)
theorem Mut.not {w : World} {k : Nat} {cs : Array Value} {t : TypeId} (h : w.heap[k]? = some (.cells cs t (0, 0))) (ht : t = 65 ∨ t = 67 ∨ t = 3 ∨ t = 9) : ¬ Mut w k := by
  rintro ⟨cs', t', hc, h1, h2, h3, h4⟩
  rw [h] at hc
  injection hc with h5; injection h5 with _ h6
  subst h6
  rcases ht with e | e | e | e
  · exact h1 e
  · exact h2 e
  · exact h3 e
  · exact h4 e
/-- A block of another type does not turn. -/
theorem Turn.not {w : World} {k : Nat} {cs : Array Value} {t : TypeId} (h : w.heap[k]? = some (.cells cs t (0, 0))) (h1 : t ≠ 47) (h2 : t ≠ 62) (h3 : t ≠ 104) (h4 : t ≠ 72) : ¬ Turn w k := by
  rintro ⟨cs', t', hc, ht⟩
  rw [h] at hc
  injection hc with h5; injection h5 with _ h6
  subst h6
  rcases ht with e | e | e | e
  · exact h1 e
  · exact h2 e
  · exact h3 e
  · exact h4 e
/-- Block x holds the session S; all that it owns lies among G, from B on. -/
structure SeIn (B : Nat) (G : Nat → Prop) (w : World) (x : Nat) (S : Rf.Se) : Prop where
  ex : ∃ F oq, SeAt F w x oq S ∧ G x ∧ (∀ k, F k → G k) ∧ (∀ k, MayO oq k → G k)
  lo : ∀ k, G k → B ≤ k
  hi : ∀ k, G k → k < w.heap.size
def Grow (G : Nat → Prop) (w w' : World) (k : Nat) : Prop := G k ∨ (w.heap.size ≤ k ∧ k < w'.heap.size)
/-- What a call leaves of a session. -/
def SeDone (B : Nat) (G : Nat → Prop) (w : World) (x : Nat) (S : Rf.Se) (w' : World) : Prop :=
  SeIn B (Grow G w w') w' x S ∧ Kept (fun k => G k ∧ Turn w k) w w'
theorem SeIn.ok {B : Nat} {G : Nat → Prop} {w : World} {x : Nat} {S : Rf.Se} (h : SeIn B G w x S) : Rf.SeOk S := by
  obtain ⟨_, _, h1, _⟩ := h.ex
  exact h1.ok
theorem SeIn.x {B : Nat} {G : Nat → Prop} {w : World} {x : Nat} {S : Rf.Se} (h : SeIn B G w x S) : G x := by
  obtain ⟨_, _, _, h2, _⟩ := h.ex
  exact h2
theorem SeIn.mono {B : Nat} {G G' : Nat → Prop} {w : World} {x : Nat} {S : Rf.Se} (h : SeIn B G w x S) (hG : ∀ k, G k → G' k) (hl : ∀ k, G' k → B ≤ k) (hh : ∀ k, G' k → k < w.heap.size) : SeIn B G' w x S := by
  obtain ⟨F, oq, h1, h2, h3, h4⟩ := h.ex
  exact ⟨⟨F, oq, h1, hG _ h2, fun k e => hG k (h3 k e), fun k e => hG k (h4 k e)⟩, hl, hh⟩
theorem QuAt.turn {w : World} {vQ : Value} {oq : Option (Nat × Option Nat)} {Q : Option Rf.Qs} (h : QuAt w vQ oq Q) : ∀ k, MayO oq k → Turn w k := by
  intro k hk
  cases oq with
  | none => exact hk.elim
  | some p =>
    obtain ⟨q, rb⟩ := p
    cases Q with
    | none => exact h.elim
    | some Q =>
      obtain ⟨_, hQ⟩ := h
      obtain ⟨_, _, _, _, _, hi⟩ := hQ.ex
      rcases hk with e | e
      · subst e; exact ⟨_, _, hi.b, .inr (.inl rfl)⟩
      · obtain ⟨acc, hr, _⟩ := hi.r.ex
        obtain ⟨cs, hc⟩ := hr.typed k (hi.o.trans e.symm)
        exact ⟨cs, _, hc, .inr (.inr (.inl rfl))⟩
theorem PsB.turn {w : World} {x : Nat} {lim : Int} {vC vQ : Value} (h : PsB w x lim vC vQ) : Turn w x := ⟨_, _, h, .inl rfl⟩
/-- A question is kept by what turns elsewhere. -/
theorem QAt.keptG {w w' : World} {M : Nat → Prop} {q : Nat} {rb : Option Nat} {names : List ByteArray} {cf : Rf.Cf} (h : QAt w q rb names cf) (hk : Kept M w w') (hM : ∀ k, M k → Mut w k) (hq : ∀ k, May q rb k → ¬ M k) : QAt w' q rb names cf := by
  obtain ⟨vN, vg, vt, fr, vC, hi⟩ := h.ex
  have kp : ∀ k cs, w.heap[k]? = some (.cells cs 65 (0, 0)) → ¬ M k := fun k cs hc hm => Mut.not hc (.inl rfl) (hM k hm)
  have kt : ∀ k cs, w.heap[k]? = some (.cells cs 67 (0, 0)) → ¬ M k := fun k cs hc hm => Mut.not hc (.inr (.inl rfl)) (hM k hm)
  have ki : ∀ k cs, w.heap[k]? = some (.cells cs 3 (0, 0)) → ¬ M k := fun k cs hc hm => Mut.not hc (.inr (.inr (.inl rfl))) (hM k hm)
  have ks : ∀ k cs, w.heap[k]? = some (.cells cs 9 (0, 0)) → ¬ M k := fun k cs hc hm => Mut.not hc (.inr (.inr (.inr rfl))) (hM k hm)
  have hst : ∀ {vg vt : Value} {fr : Int} {S : Rf.St}, StIs w vg vt fr S → StIs w' vg vt fr S := fun h => ⟨h.g.keptM hk kp kt, h.t.keptM hk kp kt, h.f⟩
  obtain ⟨acc, h1, h2, h3⟩ := hi.r.ex
  exact ⟨vN, vg, vt, fr, vC, (hk.block q (blk_lt hi.b) (hq q (.inl rfl))).trans hi.b, Seen.kept hi.n hk ks, hst hi.s, ⟨acc, h1.keptBy hk (fun k e => hq k (.inr (hi.o.symm.trans e).symm)), fun x hx => ⟨hst (h2 x hx).st, Seen.kept (h2 x hx).cl hk ki⟩, h3⟩, hi.o⟩
/-- A session is kept by what others do. -/
theorem SeIn.kept {B : Nat} {G M : Nat → Prop} {w w' : World} {x : Nat} {S : Rf.Se} (h : SeIn B G w x S) (hk : Kept M w w') (hM : ∀ k, M k → Mut w k) (hG : ∀ k, G k → ¬ M k) : SeIn B G w' x S := by
  obtain ⟨F, oq, h1, h2, h3, h4⟩ := h.ex
  obtain ⟨vC, vQ, e1, e2, e3⟩ := h1.ex
  refine ⟨⟨F, oq, ⟨h1.ok, ⟨vC, vQ, (hk.block x (blk_lt e1) (hG x h2)).trans e1, e2.kept hk (fun k _ hF => hG k (h3 k hF)), ?_⟩, h1.apart, fun k hF => Nat.lt_of_lt_of_le (h1.bd k hF) hk.size, h1.sep⟩, h2, h3, h4⟩, h.lo, fun k e => Nat.lt_of_lt_of_le (h.hi k e) hk.size⟩
  cases oq with
  | none =>
    cases hQ : S.q with
    | none => rw [hQ] at e3; exact e3
    | some Q => rw [hQ] at e3; exact e3.elim
  | some p =>
    obtain ⟨q, rb⟩ := p
    cases hQ : S.q with
    | none => rw [hQ] at e3; exact e3.elim
    | some Q =>
      rw [hQ] at e3
      exact ⟨e3.1, e3.2.keptG hk hM (fun k hm => hG k (h4 k hm))⟩
theorem SeIn.below {B : Nat} {G : Nat → Prop} {w w' : World} {x : Nat} {S : Rf.Se} (h : SeIn B G w x S) (hb : Below w.heap.size w w') : SeIn B G w' x S := h.kept (Kept.of_below hb (fun _ => False)) (fun _ e => e.elim) (fun _ _ e => e)
theorem SeIn.drewN {B : Nat} {G : Nat → Prop} {w : World} {x : Nat} {S : Rf.Se} (h : SeIn B G w x S) (n : Nat) : SeIn B G (w.drewN n) x S := h.below ((Below.refl _ _).drewN n)
/-- The tables are kept. -/
theorem SeDone.tab {B : Nat} {G : Nat → Prop} {w w' : World} {x : Nat} {S : Rf.Se} (h : SeDone B G w x S w') (hB : B ≤ w.heap.size) (hT : TabB B w) : TabB B w' :=
  hT.on (h.2.below hB (fun k hk e => by have := h.1.lo k (.inl e.1); omega))
theorem SeDone.size {B : Nat} {G : Nat → Prop} {w w' : World} {x : Nat} {S : Rf.Se} (h : SeDone B G w x S w') : w.heap.size ≤ w'.heap.size := h.2.size
theorem SeDone.below {B : Nat} {G : Nat → Prop} {w w' : World} {x : Nat} {S : Rf.Se} (h : SeDone B G w x S w') (hB : B ≤ w.heap.size) : Below B w w' :=
  h.2.below hB (fun k hk e => by have := h.1.lo k (.inl e.1); omega)
/-- From what a call says to what is owned. -/
theorem SePost.done {B : Nat} {G F : Nat → Prop} {w w' : World} {x : Nat} {oq : Option (Nat × Option Nat)} {S : Rf.Se} {P : Rf.Rep × Rf.Se} {r : Ending} (h : SePost F w x oq P r w') (h1 : SeAt F w x oq S) (hS : SeIn B G w x S) (h3 : ∀ k, F k → G k) (h4 : ∀ k, MayO oq k → G k) (hB : B ≤ w.heap.size) : r = .returned (repV P.1) ∧ SeDone B G w x P.2 w' := by
  obtain ⟨e1, ⟨oq', e2, e3⟩, e4⟩ := h
  obtain ⟨_, _, t1, _, t3⟩ := h1.ex
  have hsz := e4.size
  refine ⟨e1, ⟨⟨F, oq', e2, .inl hS.x, fun k hF => .inl (h3 k hF), fun k hm => ?_⟩, fun k hk => ?_, fun k hk => ?_⟩, e4.mono (fun k _ e => ?_)⟩
  · rcases e3 k hm with e | e
    · exact .inl (h4 k e)
    · obtain ⟨_, _, _, _, u3⟩ := e2.ex
      obtain ⟨cs, t, hc, _⟩ := u3.turn k hm
      exact .inr ⟨e, blk_lt hc⟩
  · rcases hk with hk | hk
    · exact hS.lo k hk
    · omega
  · rcases hk with hk | hk
    · have := hS.hi k hk; omega
    · exact hk.2
  · rcases e with e | e
    · subst e; exact ⟨hS.x, t1.turn⟩
    · exact ⟨h4 k e, t3.turn k e⟩
theorem pask_in (B : Nat) (G : Nat → Prop) (w : World) (x : Nat) (S : Rf.Se) (s : ByteArray) (hm : s.size ≤ maxLen) (h : SeIn B G w x S) (hB : B ≤ w.heap.size) (hT : TabB B w) :
    Calls Tryd.prog 7 #[.pointer (some ⟨x, 0, none⟩), .string s] w fun r w' => r = .returned (repV (Rf.askS S s).1) ∧ SeDone B G w x (Rf.askS S s).2 w' := by
  obtain ⟨F, oq, h1, h2, h3, h4⟩ := h.ex
  cases hr : Rf.questS s with
  | error e =>
    have e0 : Rf.askS S s = (⟨4, ⟨#[]⟩, e.1, e.2⟩, ⟨S.lim, S.cls, none⟩) := by unfold Rf.askS; rw [hr]
    rw [e0]
    exact (pask_bad F w x oq S s hm h1 e.1 e.2 hr).mono (fun r w' hp => hp.done h1 h h3 h4 hB)
  | ok y =>
    obtain ⟨gs, ns⟩ := y
    have e0 : Rf.askS S s = Rf.replyS S (Rf.beginN ns) (Rf.firstR S.cls S.lim (Rf.beginC gs ns)) := by unfold Rf.askS; rw [hr]; rfl
    rw [e0]
    exact (pask_go F w B x oq S s hm h1 hB (h.lo x h2) hT gs ns hr (Rf.questS_nz hr)).mono (fun r w' hp => hp.done h1 h h3 h4 hB)
theorem pstop_in (B : Nat) (G : Nat → Prop) (w : World) (x : Nat) (S : Rf.Se) (h : SeIn B G w x S) :
    Calls Tryd.prog 14 #[.pointer (some ⟨x, 0, none⟩)] w fun r w' => r = .returned (.tuple #[]) ∧ SeDone B G w x (Rf.stopS S) w' := by
  obtain ⟨F, oq, h1, h2, h3, h4⟩ := h.ex
  obtain ⟨vC, vQ, t1, t2, t3⟩ := h1.ex
  refine (pstop_any x w ⟨_, _, _, t1⟩).mono ?_
  rintro r w' ⟨e1, rfl⟩
  have hk : Kept (fun k => k = x) w (w.setCell ⟨x, 2, none⟩ (.pointer none)) := Kept.setCell (p := ⟨x, 2, none⟩) (Kept.refl (fun k => k = x) w) (Or.inr rfl) _
  have hsz := hk.size
  refine ⟨e1, ⟨⟨F, none, ⟨Rf.stop_ok h1.ok, ⟨vC, _, blk_set t1 2 _, t2.kept hk (fun k _ hF e => h1.apart (e ▸ hF)), rfl⟩, h1.apart, fun k hF => Nat.lt_of_lt_of_le (h1.bd k hF) hsz, fun k e => e.elim⟩, .inl h2, fun k e => .inl (h3 k e), fun k e => e.elim⟩, fun k e => ?_, fun k e => ?_⟩, hk.mono (fun k _ e => by subst e; exact ⟨h2, t1.turn⟩)⟩
  · rcases e with e | e
    · exact h.lo k e
    · have : (w.setCell ⟨x, 2, none⟩ (.pointer none)).heap.size = w.heap.size := by simp
      omega
  · rcases e with e | e
    · have := h.hi k e; omega
    · exact e.2
theorem consultP_same (cls : List Rf.Cl) (s : ByteArray) : consultP cls s = Rf.consultC cls s := rfl
theorem pconsult_in (B : Nat) (G : Nat → Prop) (w : World) (x : Nat) (S : Rf.Se) (s : ByteArray) (hm : s.size ≤ maxLen) (h : SeIn B G w x S) (hB : B ≤ w.heap.size) :
    Calls Tryd.prog 12 #[.pointer (some ⟨x, 0, none⟩), .string s] w fun r w' => r = .returned (.tuple #[.int .i64 (Rf.consultS S s).1.1, .int .i64 (Rf.consultS S s).1.2]) ∧ SeDone B G w x (Rf.consultS S s).2 w' := by
  obtain ⟨F, oq, h1, h2, h3, h4⟩ := h.ex
  obtain ⟨vC, vQ, t1, t2, t3⟩ := h1.ex
  refine (pconsult_L F w x S.lim vQ S.cls s ⟨⟨vC, t1, t2⟩, h1.apart⟩ hm (good_read s)).mono ?_
  rintro r w' ⟨e1, hk, e3⟩
  have hsz := hk.size
  obtain ⟨vC', u1, u2⟩ := e3.ex
  refine ⟨e1, ⟨⟨_, none, ⟨Rf.consult_ok h1.ok s, ⟨vC', _, u1, u2, rfl⟩, e3.apart, fun k hF => ?_, fun k e => e.elim⟩, .inl h2, fun k e => ?_, fun k e => e.elim⟩, fun k e => ?_, fun k e => ?_⟩, hk.mono (fun k _ e => ?_)⟩
  · rcases hF with hF | hF
    · have := h1.bd k hF; omega
    · exact hF.2
  · rcases e with e | e
    · exact .inl (h3 k e)
    · exact .inr e
  · rcases e with e | e
    · exact h.lo k e
    · omega
  · rcases e with e | e
    · have := h.hi k e; omega
    · exact e.2
  · rcases e with e | ⟨e, cs, hc⟩
    · subst e; exact ⟨h2, t1.turn⟩
    · exact ⟨h3 k e, cs, _, hc, .inr (.inr (.inr rfl))⟩
theorem new_ok {lim : Nat} (h : 1 ≤ lim) (h' : lim ≤ 1000) : Rf.SeOk ⟨lim, [], none⟩ := ⟨h, h', by simp, fun c hc => by simp at hc, fun q hq => by cases hq⟩
theorem pnew_in (B : Nat) (w : World) (lim : Nat) (h : 1 ≤ lim) (h' : lim ≤ 1000) (hB : B ≤ w.heap.size) :
    Calls Tryd.prog 11 #[.int .i64 lim] w fun r w' => r = .returned (.tuple #[.pointer (some ⟨w.heap.size, 0, none⟩), .int .i64 0]) ∧ SeIn B (fun k => w.heap.size ≤ k ∧ k < w'.heap.size) w' w.heap.size ⟨lim, [], none⟩ ∧ Below w.heap.size w w' := by
  refine (pnew_ok lim w (by omega) (by omega)).mono ?_
  rintro r w' ⟨e1, hb, hs, hP⟩
  refine ⟨e1, ⟨⟨fun _ => False, none, ⟨new_ok h h', ⟨_, _, hP, ⟨⟨[], ⟨RowIs.nil _ _ _ _ _, (fun k e => by cases e), (fun q hq => by simp at hq), fun _ => rfl⟩, rfl, by simp⟩, fun c hc => by simp at hc⟩, rfl⟩, fun e => e, fun k e => e.elim, fun k e => e.elim⟩, ⟨Nat.le_refl _, by omega⟩, fun k e => e.elim, fun k e => e.elim⟩, fun k e => by omega, fun k e => e.2⟩, hb⟩
/-- A reply in memory. -/
def RB (w : World) (L : Nat) (R : Rf.Rep) : Prop := w.heap[L]? = some (.cells #[.int .i64 R.kind, .string R.text, .int .i64 R.code, .int .i64 R.place] 28 (0, 0))
/-- Another session's call keeps it. -/
theorem SeDone.other {B : Nat} {G G2 : Nat → Prop} {w w' : World} {x y : Nat} {S T : Rf.Se} (h : SeDone B G w x S w') (h2 : SeIn B G2 w y T) (hG : ∀ k, G2 k → ¬ G k) : SeIn B G2 w' y T := h2.kept h.2 (fun _ e => e.2.mut) (fun k e e2 => hG k e e2.1)
theorem SeDone.rb {B : Nat} {G : Nat → Prop} {w w' : World} {x L : Nat} {S : Rf.Se} {cs : Array Value} (h : SeDone B G w x S w') (hL : w.heap[L]? = some (.cells cs 28 (0, 0))) : w'.heap[L]? = some (.cells cs 28 (0, 0)) :=
  (h.2.block L (blk_lt hL) (fun e => Turn.not hL (by decide) (by decide) (by decide) (by decide) e.2)).trans hL
theorem rb_set {w : World} {L : Nat} {R : Rf.Rep} (hL : RB w L R) (R' : Rf.Rep) : RB ((((w.setCell ⟨L, 0, none⟩ (.int .i64 R'.kind)).setCell ⟨L, 1, none⟩ (.string R'.text)).setCell ⟨L, 2, none⟩ (.int .i64 R'.code)).setCell ⟨L, 3, none⟩ (.int .i64 R'.place)) L R' :=
  blk_set (blk_set (blk_set (blk_set hL 0 _) 1 _) 2 _) 3 _
theorem SeIn.set {B : Nat} {G : Nat → Prop} {w : World} {x L : Nat} {S : Rf.Se} {cs : Array Value} (h : SeIn B G w x S) (hL : w.heap[L]? = some (.cells cs 28 (0, 0))) (hG : ¬ G L) (a b c d : Value) : SeIn B G ((((w.setCell ⟨L, 0, none⟩ a).setCell ⟨L, 1, none⟩ b).setCell ⟨L, 2, none⟩ c).setCell ⟨L, 3, none⟩ d) x S :=
  h.kept (kept4 w L a b c d) (fun k e => by subst e; exact ⟨cs, _, hL, by decide⟩) (fun k e e2 => hG (e2 ▸ e))
end Go.Proofs.YtpdikdnffehmkaaDoor
/- The statements' small functions (promptkeep: pick, constant, told, only, high, facts). -/
namespace Go.Proofs.YtpdikdnffehmkaaDoor
open Go.RowKit
set_option maxHeartbeats 400000 in
theorem kpick_any (c n : Int) (w : World) (h1 : -9223372036854775808 ≤ c) (h2 : c ≤ 9223372036854775807) (hn : 1 ≤ n) (hn2 : n ≤ 9223372036854775807) :
    Calls Tryd.prog 10 #[.int .i64 c, .int .i64 n] w fun r w' => r = .returned (.int .i64 (Rf.pickK c n)) ∧ w' = w := by
  have hn0 : (n == 0) = false := beq_eq_false_iff_ne.2 (by omega)
  have hnm : (n == -1) = false := beq_eq_false_iff_ne.2 (by omega)
  by_cases hc : c < 0
  · have hP : Hid ((Rf.pickK c n : Int) = -((c + 1).tmod n)) := by
      unfold Hid Rf.pickK
      have h4 := Int.tmod_nonneg (a := -(c + 1)) n (by omega)
      rw [if_pos hc, Int.toNat_of_nonneg h4, Int.neg_tmod]
    go_enter Tryd.func10, Tryd.ntmps10
    go_wp2
    go_ret
    exact ⟨ret_int hP.out.symm, rfl⟩
  · have hP : Hid ((Rf.pickK c n : Int) = c % n) := by
      unfold Hid Rf.pickK
      have h4 := Int.tmod_nonneg (a := c) n (by omega)
      rw [if_neg hc, Int.toNat_of_nonneg h4, Int.tmod_eq_emod_of_nonneg (by omega)]
    go_enter Tryd.func10, Tryd.ntmps10
    go_wp2
    go_ret
    exact ⟨ret_int hP.out.symm, rfl⟩
theorem itoa_size (v : Int) (h0 : -1000000000 ≤ v) (h1 : v ≤ 1000000000) : (Rf.itoaB v).size ≤ 21 ∧ (⟨(Lib.itoa v).toArray⟩ : ByteArray).size ≤ 21 ∧ (Lib.itoa v).length ≤ 21 := by
  have := Go.Lib.itoa_length_le v (by omega) (by omega)
  refine ⟨by unfold Rf.itoaB; simpa [ByteArray.size] using this, by simpa [ByteArray.size] using this, this⟩
set_option maxHeartbeats 400000 in
theorem ktold_any (t : ByteArray) (w : World) :
    Calls Tryd.prog 8 #[.agg #[.int .i64 1, .string t, .int .i64 0, .int .i64 0], .string t] w fun r w' => r = .returned (.bool true) ∧ Below w.heap.size w w' := by
  go_enter Tryd.func8, Tryd.ntmps8
  go_wp2
  go_ret
  exact ⟨rfl, (by repeat (first | exact Below.refl _ _ | refine Below.setCell ?_ (by simp <;> omega) _ | refine Below.drew ?_ | refine Below.drewN ?_ _ | refine Below.alloc ?_ (by simp <;> omega) _))⟩
set_option maxHeartbeats 400000 in
theorem konly_any (k : Int) (w : World) :
    Calls Tryd.prog 9 #[.agg #[.int .i64 k, .string ⟨#[]⟩, .int .i64 0, .int .i64 0], .int .i64 k] w fun r w' => r = .returned (.bool true) ∧ Below w.heap.size w w' := by
  go_enter Tryd.func9, Tryd.ntmps9
  go_wp2
  go_ret
  exact ⟨rfl, (by repeat (first | exact Below.refl _ _ | refine Below.setCell ?_ (by simp <;> omega) _ | refine Below.drew ?_ | refine Below.drewN ?_ _ | refine Below.alloc ?_ (by simp <;> omega) _))⟩
end Go.Proofs.YtpdikdnffehmkaaDoor
/- The statements' small functions (promptkeep: facts, same, lines). -/
namespace Go.Proofs.YtpdikdnffehmkaaDoor
open Go.RowKit
theorem Seen.strAt {w : World} {g off n c : Nat} {xs : List ByteArray} (h : Seen w 9 strCells (.slice (some ⟨g, off, none⟩) n c) xs) (k : Nat) (x : ByteArray) (hx : xs[k]? = some x) : w.cell? ⟨g, off + k, none⟩ = some (.string x) := by
  have := h.cells strCells_len k x hx 0 _ rfl
  rw [Nat.mul_one, Nat.add_zero] at this
  exact this
/-- A row of numbers in memory, as a statement gets it. -/
def IntsAt (w : World) (v : Value) (l : List Int) : Prop :=
  (l = [] ∧ ∃ a c, v = .slice a 0 c) ∨
  ∃ sb so c, v = .slice (some ⟨sb, so, none⟩) l.length c ∧ sb < w.heap.size ∧ ∀ i x, l[i]? = some x → w.cell? ⟨sb, so + i, none⟩ = some (.int .i64 x)
theorem cell_below {w w' : World} (hb : Below w.heap.size w w') {g i : Nat} (hg : g < w.heap.size) : w'.cell? ⟨g, i, none⟩ = w.cell? ⟨g, i, none⟩ := by
  simp only [World.cell?, hb.block g hg]
theorem IntsAt.below {w w' : World} {v : Value} {l : List Int} (h : IntsAt w v l) (hb : Below w.heap.size w w') : IntsAt w' v l := by
  rcases h with h | ⟨sb, so, c, h1, h2, h3⟩
  · exact .inl h
  · exact .inr ⟨sb, so, c, h1, Nat.lt_of_lt_of_le h2 hb.size, fun i x hx => (cell_below hb h2).trans (h3 i x hx)⟩
theorem IntsAt.len {w : World} {a : Option Addr} {n c : Nat} {l : List Int} (h : IntsAt w (.slice a n c) l) : n = l.length := by
  rcases h with ⟨rfl, _, _, h1⟩ | ⟨sb, so, c, h1, _⟩
  · injection h1
  · injection h1
theorem IntsAt.slice {w : World} {v : Value} {l : List Int} (h : IntsAt w v l) : ∃ a c, v = .slice a l.length c := by
  rcases h with ⟨rfl, a, c, h1⟩ | ⟨sb, so, c, h1, _⟩
  · exact ⟨a, c, h1⟩
  · exact ⟨_, _, h1⟩
theorem IntsAt.pos {w : World} {a : Option Addr} {n c : Nat} {l : List Int} (h : IntsAt w (.slice a n c) l) (hp : 1 ≤ l.length) : ∃ g off, a = some ⟨g, off, none⟩ := by
  rcases h with ⟨rfl, _⟩ | ⟨sb, so, c, h1, _⟩
  · simp at hp
  · injection h1 with h1; exact ⟨sb, so, h1⟩
theorem IntsAt.at {w : World} {g off n c : Nat} {l : List Int} (h : IntsAt w (.slice (some ⟨g, off, none⟩) n c) l) (hp : 1 ≤ l.length) : g < w.heap.size ∧ ∀ i x, l[i]? = some x → w.cell? ⟨g, off + i, none⟩ = some (.int .i64 x) := by
  rcases h with ⟨rfl, _⟩ | ⟨sb, so, c, h1, h2, h3⟩
  · simp at hp
  · injection h1 with h1 _ _; injection h1 with h1; injection h1 with h1 h4; subst h1 h4; exact ⟨h2, h3⟩
end Go.Proofs.YtpdikdnffehmkaaDoor
/- The statements' begun: a session with clauses. -/
namespace Go.Proofs.YtpdikdnffehmkaaDoor
open Go.RowKit
set_option maxHeartbeats 1000000 in
theorem kbegun_any (B lim : Nat) (s : ByteArray) (new : List Rf.Cl) (w : World) (h1 : 1 ≤ lim) (h2 : lim ≤ 1000) (hm : s.size ≤ maxLen) (hr : Rf.readS s = .ok new) (h30 : new.length ≤ 30) (hB : B ≤ w.heap.size) :
    Calls Tryd.prog 5 #[.int .i64 lim, .string s] w fun r w' => ∃ x, r = .returned (.pointer (some ⟨x, 0, none⟩)) ∧ SeIn B (fun k => w.heap.size ≤ k ∧ k < w'.heap.size) w' x ⟨lim, new, none⟩ ∧ Below w.heap.size w w' := by
  have HC : Hid _ := Rf.consult_new (lim := lim) hr h30
  clear hr
  go_enter Tryd.func5, Tryd.ntmps5
  go_wp2_with (first
    | (go_at_call 12; refine (pconsult_in B _ w1 _ _ s hm hS1 (Nat.le_trans hB hb1.size)).mono ?_; rintro r w2 ⟨hr2, hD2⟩; rw [HC.out] at hr2 hD2; subst hr2)
    | (go_at_call 11; refine (pnew_in B w lim h1 h2 hB).mono ?_; rintro r w1 ⟨rfl, hS1, hb1⟩))
  go_ret
  have hz := hb1.size
  have hz2 := hD2.size
  refine ⟨w.heap.size, rfl, hD2.1.mono (fun k e => ?_) (fun k e => by omega) (fun k e => e.2), hb1.trans (hD2.2.below hz (fun k hk e => by omega))⟩
  rcases e with e | e
  · omega
  · omega
end Go.Proofs.YtpdikdnffehmkaaDoor
/- From a statement's walk to its given row: arguments out of the row's data, the table of powers, the arguments read again. -/
namespace Go.Proofs.YtpdikdnffehmkaaDoor
open Go.ChangeShapes Go.WideShapes Go.ChangeAt Go.RowKit Go.Deep
theorem Tryd.kids : Kids Tryd.prog (· < Tryd.prog.types.size) := kids_rows (by kernel_rfl) (by kernel_rfl)
theorem Tryd.full : ∀ t e, t < Tryd.prog.types.size → Tryd.prog.underlying t = some (.slice e) → 0 < Tryd.prog.cellsOf e := slices_full_of Tryd.prog (by kernel_rfl)
theorem Tryd.cellsInt : Tryd.prog.cellsOf 3 = 1 := by kernel_rfl
theorem Tryd.bytesInt : Tryd.prog.bytesOf 3 = 8 := by kernel_rfl
theorem Tryd.cellsStr : Tryd.prog.cellsOf 9 = 1 := by kernel_rfl
theorem i64_wf {n : Int} (h : (Lit.int .i64 n).wf = true) : -9223372036854775808 ≤ n ∧ n ≤ 9223372036854775807 := bounds_i64 h
theorem cell_lt {w : World} {p : Addr} {u : Value} (h : w.cell? p = some u) : p.block < w.heap.size := by
  unfold World.cell? at h
  cases hb : w.heap[p.block]? with
  | none => simp [hb] at h
  | some o => exact (Array.getElem?_eq_some_iff.1 hb).1
theorem Tryd.own : ownKnob Tryd.prog.godebug = none := by kernel_rfl
theorem Tryd.gTab : Tryd.prog.globalNamed "internal/strconv.uint64pow10" = some 0 := by kernel_rfl
theorem Tryd.gTabType : (Tryd.prog.globals[0]?).map (·.type) = some 91 := by kernel_rfl
theorem Tryd.cellsTab : Tryd.prog.cellsOf 91 = 20 := by kernel_rfl
theorem Tryd.cellsU64 : Tryd.prog.cellsOf 76 = 1 := by kernel_rfl
section
variable {H : Type} {enc : TypeId × Value → H}
theorem open_ints {W : World} {v : Value} {d : DataW H} {p : List MemPlace} (hd : DataW.Trod enc Tryd.prog W 0 (fun _ => true) true 102 v d p) (hok : ∃ a len cap, v = .slice a len cap)
    (hsz : ∀ elems spare, d = .slice elems spare → (elems.length + spare.length) * 8 ≤ reachBytes) :
    ∃ l, IntsAt W v l ∧ (∀ x ∈ l, -9223372036854775808 ≤ x ∧ x ≤ 9223372036854775807) ∧ l.length * 8 ≤ 140737488355328 := by
  obtain ⟨a0, len0, cap0, rfl⟩ := hok
  obtain ⟨n, hn⟩ := hd
  have hn' : DataW.trod enc Tryd.prog W 0 (fun _ => true) true n 102 [.slice a0 len0 cap0] = some (d, p) := hn
  rcases open_slice Tryd.underlying102 hn' with ⟨hc, hx⟩ | ⟨a, len, cap, m, k, D, Pl, hc, _, hl, hm, hmm, hx, hall⟩
  · simp only [List.cons.injEq, and_true] at hc
    exact ⟨[], .inl ⟨rfl, none, 0, hc⟩, by simp, by decide⟩
  · simp only [List.cons.injEq, and_true] at hc
    simp only [if_true] at hmm
    subst hmm
    simp only [Prod.mk.injEq] at hx
    have hsz' := hsz _ _ hx.1
    simp only [List.length_map, List.length_range, reachBytes] at hsz'
    rw [Tryd.cellsInt] at hall
    have each : ∀ i, i < m → ∃ x : Int, (-9223372036854775808 ≤ x ∧ x ≤ 9223372036854775807) ∧ W.cell? (a.add (i * 1)) = some (.int .i64 x) := fun i hi => by
      obtain ⟨cs, h1, h2⟩ := hall i hi
      obtain ⟨x, rfl, _, wf⟩ := DataW.trod_int Tryd.underlying3 h2
      obtain ⟨_, hlen, hcell⟩ := World.cells?_some h1
      refine ⟨x, i64_wf wf, ?_⟩
      have := hcell 0 (by omega)
      rw [add_add, Nat.add_zero] at this
      exact this
    have : Inhabited Int := ⟨0⟩
    obtain ⟨X, hX⟩ := choose_lt each
    by_cases h0 : len = 0
    · subst h0
      exact ⟨[], .inl ⟨rfl, some a, m, hc⟩, by simp, by decide⟩
    · obtain ⟨sb, so, spot⟩ := a
      have h00 := (hX 0 (by omega)).2
      have hspot : spot = none := by simpa [Addr.add] using World.cell?_spot h00
      subst hspot
      refine ⟨(List.range len).map X, .inr ⟨sb, so, m, ?_, ?_, fun i x hi => ?_⟩, fun x hx => ?_, ?_⟩
      · rw [hc, List.length_map, List.length_range]
      · have h9 : W.cell? ⟨sb, so, none⟩ = some (.int .i64 (X 0)) := by simpa [Addr.add] using h00
        exact cell_lt h9
      · rw [List.getElem?_map] at hi
        obtain ⟨i', hi', rfl⟩ := Option.map_eq_some_iff.1 hi
        have hil := (List.getElem?_eq_some_iff.1 hi').1
        rw [List.length_range] at hil
        rw [List.getElem?_range hil] at hi'
        obtain rfl := Option.some.inj hi'
        have := (hX i (by omega)).2
        rw [Addr.add_lit, Nat.mul_one] at this
        exact this
      · obtain ⟨i, hi, rfl⟩ := List.mem_map.1 hx
        exact (hX i (by have := List.mem_range.1 hi; omega)).1
      · rw [List.length_map, List.length_range]
        omega
/-- An argument reads behind the call as it did. -/
theorem again {W W' : World} {v : Value} {d : DataW H} {p : List MemPlace} {t : TypeId} (ht : t < Tryd.prog.types.size) (h0 : DataW.Trod enc Tryd.prog W 0 (fun _ => true) true t v d p) (hB : Below W.heap.size W W') (hlt : ∀ x ∈ p, x.block < W.heap.size) : DataW.Trod enc Tryd.prog W' 0 (fun b => decide (b < W.heap.size)) true t v d p := by
  have h9 : DataW.Trod enc Tryd.prog W' 0 (fun _ => true) true t v d p := by
    obtain ⟨n, hn⟩ := h0
    exact ⟨n, DataW.trod_carry n _ _ _ hn (fun x hx => hB.same (hlt x hx))⟩
  exact DataW.Trod.respare (spare' := fun b => decide (b < W.heap.size)) Tryd.kids Tryd.full ht h9 (fun x hx => by simpa using hlt x hx)
end
end Go.Proofs.YtpdikdnffehmkaaDoor
