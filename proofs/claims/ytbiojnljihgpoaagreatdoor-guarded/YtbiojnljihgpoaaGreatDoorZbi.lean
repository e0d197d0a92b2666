
import Derived.Test.YtbiojnljihgpoaaGreatDoorZbg
namespace Go.Proofs.YtbiojnljihgpoaaGreatDoor
open Go.RowKit
variable {nm : Value}
set_option maxHeartbeats 4000000 in
set_option maxRecDepth 100000 in
theorem pmore_some (F : Nat -> Prop) (w : World) (B x q : Nat) (rb : Option Nat) (S : Rf.Se) (Q : Rf.Qs) (hSQ : S.q = some Q) (h : SeAt F w x (some (q, rb)) nm S) (hB : B <= w.heap.size) (hqB : B <= q) (hrB : ∀ k, rb = some k -> B <= k) (hT : TabB B w) :
  Calls Tryz.prog 16 #[.pointer (some ⟨x, 0, none⟩)] w fun r w' => SePost F w x (some (q, rb)) nm (Rf.replyS S Q.names (Rf.playN S.cls S.lim (-1, ⟨Rf.stNone, Q.chs⟩))) r w' := by
 obtain ⟨vC, vQ, hPB, hCl, hQu⟩ := h.ex
 rw [hSQ] at hQu
 obtain ⟨rfl, hQA⟩ := hQu
 obtain ⟨k0, k1, k2, kf, kl⟩ := hPB.facts
 have hq := h.ok.q Q hSQ
 have hL2 := h.ok.l2
 have HS : Hid _ := h
 have HP : Hid _ := hPB
 have HQ : Hid _ := hQA
 have HCl : Hid _ := hCl
 have HT : Hid (TabB B w) := hT
 have HrB : Hid _ := hrB
 have HKp : Hid _ := Rf.next_kep h.ok hq
 have HO : Hid (Rf.SeOk (Rf.replyS S Q.names (Rf.playN S.cls S.lim (-1, ⟨Rf.stNone, Q.chs⟩))).2) := Rf.reply_ok h.ok hq.nl hq.nz (Rf.next_kep h.ok hq)
 have HZ : Hid _ := hq.nz
 have HG : Hid (Rf.ClsG S.cls) := h.ok.g
 have HKc : Hid (Rf.ClsK S.cls) := h.ok.k
 have hl30 := hCl.len
 obtain ⟨cla, clc, rfl⟩ := hCl.seen.slice
 have HNx : Hid (∀ W, Below w.heap.size w W -> Calls Tryz.prog 33 #[.pointer (some ⟨q, 0, none⟩), .slice cla S.cls.length clc, .int .i64 (S.lim : Nat)] W fun r w' => r = .returned (repV (Rf.repOf Q.names (Rf.playN S.cls S.lim (-1, ⟨Rf.stNone, Q.chs⟩)))) /\ (∃ rb', QAt nm w' q rb' Q.names (Rf.cfOf (Rf.playN S.cls S.lim (-1, ⟨Rf.stNone, Q.chs⟩))) /\ Nb W rb rb') /\ Kept (May q rb) W w') := fun W hb => pnext_any W B q rb Q.names _ _ S.cls S.lim (hQA.below hb) (hCl.seen.below hb) (Rf.next_kep h.ok hq) h.ok.g h.ok.k hl30 hL2 hq.nz (Nat.le_trans hB hb.size) hqB hrB (hT.on (hb.mono hB))
 have hnx : Hid (¬ May q rb x) := hPB.notMay hQA
 clear h hPB hCl hQA hq hT hrB hSQ
 obtain ⟨R, hR⟩ : ∃ R, Hid (Rf.playN S.cls S.lim (-1, ⟨Rf.stNone, Q.chs⟩) = R) := ⟨_, rfl⟩
 rw [hR.out] at HO HNx ⊢
 obtain ⟨⟨rk, rt, rc, rpp⟩, hRp⟩ : ∃ rp, Hid (Rf.repOf Q.names R = rp) := ⟨_, rfl⟩
 obtain ⟨L, hL⟩ : ∃ L, Hid (S.lim = L) := ⟨_, rfl⟩
 obtain ⟨nc, hnc⟩ : ∃ n, Hid (S.cls.length = n) := ⟨_, rfl⟩
 rw [hRp.out, hL.out, hnc.out] at HNx
 rw [hL.out] at k0 hL2
 rw [hnc.out] at k1 hl30
 have hrk : R.1 = rk := by rw [<- repOf_kind Q.names R, hRp.out]
 have hPn : Hid (∀ k, w.heap.size <= k -> ¬ May q rb k) := fun k hk hm => by have := may_lt HQ.out hm; omega
 clear HZ HG HKc HKp HT HrB
 by_cases h1 : rk = 1
 ·subst h1
  go_enter Tryz.func16, Tryz.ntmps16
  go_wp2_with fail
  go_region_law (first
   | (refine step_call3 rfl 33 (.tmp 17) (.tmp 21) (.tmp 25) _ rfl (.pointer (some ⟨q, 0, none⟩)) (.slice cla nc clc) (.int .i64 L) rfl rfl rfl (fun _ => callNext _ _) (HNx.out _ (by repeat(first|exact bl0 _ _|refine bl1 ?_ (by simp<;>omega) _|refine bl2 ?_|refine bl3 ?_ _|refine bl4 ?_ (by simp<;>omega) _))) ?_; rintro r w1 ⟨rfl, ⟨rb1, hQ1, hN1⟩, hk1⟩; refine ⟨_, rfl, ?_⟩; simp only [repV]; have hz1 := hk1.size; have P2 : w1.heap[w.heap.size + 1]? = some (.cells #[.int .i64 0, .string ⟨#[]⟩, .int .i64 0, .int .i64 0] 39) := (hk1.block (w.heap.size + 1) (by simp <;> omega) (hPn.out _ (by omega))).trans (blk_at (w.alloc (.cells #[.int .i64 0, .string ⟨#[]⟩, .int .i64 0, .int .i64 0] 39)) _ _ (by simp)); have P1 : w1.heap[w.heap.size]? = some (.cells #[.int .i64 0, .string ⟨#[]⟩, .int .i64 0, .int .i64 0] 39) := (hk1.block w.heap.size (by simp <;> omega) (hPn.out _ (Nat.le_refl _))).trans (blk_alloc (blk_new w _) _); have s0 := blk_cell P1 0; have s1 := blk_cell P1 1; have s2 := blk_cell P1 2; have s3 := blk_cell P1 3; have sf := blk_frozen P1; have sl := blk_lt P1; simp at s0 s1 s2 s3; have t0 := blk_cell P2 0; have t1 := blk_cell P2 1; have t2 := blk_cell P2 2; have t3 := blk_cell P2 3; have tf := blk_frozen P2; have tl := blk_lt P2; simp at t0 t1 t2 t3)
   | (refine step_call3 rfl 33 (.tmp 17) (.tmp 21) (.tmp 25) _ rfl (.pointer (some ⟨q, 0, none⟩)) (.slice cla nc clc) (.int .i64 L) rfl rfl rfl (fun _ => callNext _ _) (HNx.out _ (by repeat(first|exact bl0 _ _|refine bl1 ?_ (by simp<;>omega) _|refine bl2 ?_|refine bl3 ?_ _|refine bl4 ?_ (by simp<;>omega) _))) ?_; rintro r w1 ⟨rfl, ⟨rb1, hQ1, hN1⟩, hk1⟩; refine ⟨_, rfl, ?_⟩; simp only [repV]; have hz1 := hk1.size; have P1 : w1.heap[w.heap.size]? = some (.cells #[.int .i64 0, .string ⟨#[]⟩, .int .i64 0, .int .i64 0] 39) := (hk1.block w.heap.size (by simp <;> omega) (hPn.out _ (Nat.le_refl _))).trans (blk_new w _); have s0 := blk_cell P1 0; have s1 := blk_cell P1 1; have s2 := blk_cell P1 2; have s3 := blk_cell P1 3; have sf := blk_frozen P1; have sl := blk_lt P1; simp at s0 s1 s2 s3))
  all_goals go_wp2_with fail
  all_goals
   refine bodyPost_ret (v := .agg #[.int .i64 1, .string rt, .int .i64 rc, .int .i64 rpp]) (by simp [results, Tryz.results16, go_sem, *]) rfl ?_
   have hk0 : Kept (May q rb) w w1 := (Kept.of_below (w' := _) (by repeat(first|exact bl0 _ _|refine bl1 ?_ (by simp<;>omega) _|refine bl2 ?_|refine bl3 ?_ _|refine bl4 ?_ (by simp<;>omega) _)) (May q rb)).trans hk1 (fun _ _ e => e)
   have hN0 : Nb w rb rb1 := Nb.up hN1 (by simp <;> omega)
   refine fin_yes (rb1 := rb1) HS.out HCl.out HP.out hnx.out hRp.out hrk HO.out ?_ hN0 ?_
   ·first
     | (have h9 := P2; exact (hQ1.keptL P2 (by decide) (kept4 _ _ _ _ _ _)).keptL (((kept4 _ _ _ _ _ _).block w.heap.size (blk_lt P1) (by omega)).trans P1) (by decide) (kept4 _ _ _ _ _ _))
     | exact (hQ1.keptL P1 (by decide) (kept4 _ _ _ _ _ _)).below ((Below.refl _ _).alloc (Nat.le_refl _) _)
   ·first
     | (have h9 := P2; exact (hk0.trans (kept4 _ (w.heap.size + 1) _ _ _ _) (fun i hi e => absurd hi (by omega))).trans (kept4 _ w.heap.size _ _ _ _) (fun i hi e => absurd hi (by omega)))
     | exact (hk0.trans (kept4 _ w.heap.size _ _ _ _) (fun i hi e => absurd hi (by omega))).alloc _
 ·have h1' : ¬ R.1 = 1 := fun e => h1 (hrk.symm.trans e)
  clear hrk
  go_enter Tryz.func16, Tryz.ntmps16
  go_wp2_with fail
  go_region_law (first
   | (refine step_call3 rfl 33 (.tmp 17) (.tmp 21) (.tmp 25) _ rfl (.pointer (some ⟨q, 0, none⟩)) (.slice cla nc clc) (.int .i64 L) rfl rfl rfl (fun _ => callNext _ _) (HNx.out _ (by repeat(first|exact bl0 _ _|refine bl1 ?_ (by simp<;>omega) _|refine bl2 ?_|refine bl3 ?_ _|refine bl4 ?_ (by simp<;>omega) _))) ?_; rintro r w1 ⟨rfl, ⟨rb1, hQ1, hN1⟩, hk1⟩; refine ⟨_, rfl, ?_⟩; simp only [repV]; have hz1 := hk1.size; have P2 : w1.heap[w.heap.size + 1]? = some (.cells #[.int .i64 0, .string ⟨#[]⟩, .int .i64 0, .int .i64 0] 39) := (hk1.block (w.heap.size + 1) (by simp <;> omega) (hPn.out _ (by omega))).trans (blk_at (w.alloc (.cells #[.int .i64 0, .string ⟨#[]⟩, .int .i64 0, .int .i64 0] 39)) _ _ (by simp)); have P1 : w1.heap[w.heap.size]? = some (.cells #[.int .i64 0, .string ⟨#[]⟩, .int .i64 0, .int .i64 0] 39) := (hk1.block w.heap.size (by simp <;> omega) (hPn.out _ (Nat.le_refl _))).trans (blk_alloc (blk_new w _) _); have s0 := blk_cell P1 0; have s1 := blk_cell P1 1; have s2 := blk_cell P1 2; have s3 := blk_cell P1 3; have sf := blk_frozen P1; have sl := blk_lt P1; simp at s0 s1 s2 s3; have PX : PsB w1 x S.lim (.slice cla S.cls.length clc) (.pointer (some ⟨q, 0, none⟩)) := (hk1.block x (by simp <;> omega) hnx.out).trans (blk_alloc (blk_alloc HP.out _) _); have t0 := blk_cell P2 0; have t1 := blk_cell P2 1; have t2 := blk_cell P2 2; have t3 := blk_cell P2 3; have tf := blk_frozen P2; have tl := blk_lt P2; simp at t0 t1 t2 t3)
   | (refine step_call3 rfl 33 (.tmp 17) (.tmp 21) (.tmp 25) _ rfl (.pointer (some ⟨q, 0, none⟩)) (.slice cla nc clc) (.int .i64 L) rfl rfl rfl (fun _ => callNext _ _) (HNx.out _ (by repeat(first|exact bl0 _ _|refine bl1 ?_ (by simp<;>omega) _|refine bl2 ?_|refine bl3 ?_ _|refine bl4 ?_ (by simp<;>omega) _))) ?_; rintro r w1 ⟨rfl, ⟨rb1, hQ1, hN1⟩, hk1⟩; refine ⟨_, rfl, ?_⟩; simp only [repV]; have hz1 := hk1.size; have P1 : w1.heap[w.heap.size]? = some (.cells #[.int .i64 0, .string ⟨#[]⟩, .int .i64 0, .int .i64 0] 39) := (hk1.block w.heap.size (by simp <;> omega) (hPn.out _ (Nat.le_refl _))).trans (blk_new w _); have s0 := blk_cell P1 0; have s1 := blk_cell P1 1; have s2 := blk_cell P1 2; have s3 := blk_cell P1 3; have sf := blk_frozen P1; have sl := blk_lt P1; simp at s0 s1 s2 s3; have PX : PsB w1 x S.lim (.slice cla S.cls.length clc) (.pointer (some ⟨q, 0, none⟩)) := (hk1.block x (by simp <;> omega) hnx.out).trans (blk_alloc HP.out _)))
  all_goals go_wp2_with (go_at_call 29; refine (pstop_any x _ ⟨S.lim, .slice cla S.cls.length clc, .pointer (some ⟨q, 0, none⟩), by first | (have h9 := P2; exact ((kept4 _ _ _ _ _ _).block x (blk_lt PX) (by omega)).trans PX) | exact blk_alloc PX _⟩).mono ?_; rintro r w2 ⟨rfl, h2⟩; subst h2)
  all_goals
   refine bodyPost_ret (v := .agg #[.int .i64 rk, .string rt, .int .i64 rc, .int .i64 rpp]) (by simp [results, Tryz.results16, go_sem, *]) rfl ?_
   have hk0 : Kept (May q rb) w w1 := (Kept.of_below (w' := _) (by repeat(first|exact bl0 _ _|refine bl1 ?_ (by simp<;>omega) _|refine bl2 ?_|refine bl3 ?_ _|refine bl4 ?_ (by simp<;>omega) _)) (May q rb)).trans hk1 (fun _ _ e => e)
   have hk2 : Kept (fun k => k = x \/ MayO (some (q, rb)) k) w w1 := hk0.mono (fun _ _ e => .inr e)
   refine fin_no (vC := .slice cla S.cls.length clc) HS.out HCl.out ?_ hRp.out h1' ?_
   ·first
     | (have h9 := P2; have P3 := blk_set (((kept4 w1 (w.heap.size + 1) (.int .i64 rk) (.string rt) (.int .i64 rc) (.int .i64 rpp)).block x (blk_lt PX) (by omega)).trans PX) 2 (.pointer none); exact ((kept4 _ w.heap.size _ _ _ _).block x (blk_lt P3) (by omega)).trans P3)
     | (have P3 := blk_set (blk_alloc PX (.cells #[.int .i64 rk, .string rt, .int .i64 rc, .int .i64 rpp] 39)) 2 (.pointer none); exact ((kept4 _ w.heap.size _ _ _ _).block x (blk_lt P3) (by omega)).trans P3)
   ·first
     | (have h9 := P2; exact ((hk2.trans (kept4 _ (w.heap.size + 1) _ _ _ _) (fun i hi e => absurd hi (by omega))).setCell (p := ⟨x, 2, none⟩) (.inr (.inl rfl)) _).trans (kept4 _ w.heap.size _ _ _ _) (fun i hi e => absurd hi (by omega)))
     | exact ((hk2.alloc _).setCell (p := ⟨x, 2, none⟩) (.inr (.inl rfl)) _).trans (kept4 _ w.heap.size _ _ _ _) (fun i hi e => absurd hi (by omega))
end Go.Proofs.YtbiojnljihgpoaaGreatDoor
namespace Go.Proofs.YtbiojnljihgpoaaGreatDoor
open Go.RowKit
variable {nm : Value}
set_option maxHeartbeats 1000000 in
theorem pmore_none (F : Nat -> Prop) (w : World) (x : Nat) (oq : Option (Nat × Option Nat)) (S : Rf.Se) (hSQ : S.q = none) (h : SeAt F w x oq nm S) :
  Calls Tryz.prog 16 #[.pointer (some ⟨x, 0, none⟩)] w fun r w' => r = .returned (repV (Rf.repK 3)) /\ Below w.heap.size w w' := by
 obtain ⟨vC, vQ, hPB, hCl, hQu⟩ := h.ex
 rw [hSQ] at hQu
 have hQ : vQ = .pointer none := by
  cases oq with
  | none => exact hQu
  | some _ => exact hQu.elim
 subst hQ
 obtain ⟨k0, k1, k2, kf, kl⟩ := hPB.facts
 clear h hPB hCl hQu hSQ
 go_enter Tryz.func16, Tryz.ntmps16
 go_wp2_with fail
 refine bodyPost_ret (v := .agg #[.int .i64 3, .string ⟨#[]⟩, .int .i64 0, .int .i64 0]) (by simp [results, Tryz.results16, go_sem, *]) rfl ?_
 exact ⟨rfl, (by repeat(first|exact bl0 _ _|refine bl1 ?_ (by simp<;>omega) _|refine bl2 ?_|refine bl3 ?_ _|refine bl4 ?_ (by simp<;>omega) _))⟩
end Go.Proofs.YtbiojnljihgpoaaGreatDoor
namespace Go.Proofs.YtbiojnljihgpoaaGreatDoor
open Go.RowKit
variable {nm : Value}
set_option maxHeartbeats 1000000 in
set_option maxRecDepth 100000 in
theorem pask_bad (F : Nat -> Prop) (w : World) (x : Nat) (oq : Option (Nat × Option Nat)) (S : Rf.Se) (s : ByteArray) (hm : s.size <= maxLen) (h : SeAt F w x oq nm S) (e : Int) (p : Nat) (hr : Rf.questS s = .error (e, p)) :
  Calls Tryz.prog 15 #[.pointer (some ⟨x, 0, none⟩), .string s] w fun r w' => SePost F w x oq nm (⟨4, ⟨#[]⟩, e, p⟩, ⟨S.lim, S.cls, none⟩) r w' := by
 obtain ⟨vC, vQ, hPB, hCl, hQu⟩ := h.ex
 obtain ⟨k0, k1, k2, kf, kl⟩ := hPB.facts
 have HS : Hid _ := h
 have HP : Hid (PsB w x S.lim vC vQ) := hPB
 have HCl : Hid _ := hCl
 have HR : Hid _ := hr
 clear h hPB hCl hQu hr
 go_enter Tryz.func15, Tryz.ntmps15
 go_wp2_with (first
  | (go_at_call 30; refine (pquest_any s _ hm).mono ?_; rintro r w2 ⟨hb2, hP2⟩; rw [HR.out] at hP2; obtain ⟨hv, hne⟩ := hP2; subst hv; have hz2 := hb2.size; have PR : w2.heap[w.heap.size]? = some (.cells #[.int .i64 0, .string ⟨#[]⟩, .int .i64 0, .int .i64 0] 39) := (hb2.block w.heap.size (by simp)).trans (by first | exact PW | exact blk_at _ _ _ (by simp)); have s0 := blk_cell PR 0; have s1 := blk_cell PR 1; have s2 := blk_cell PR 2; have s3 := blk_cell PR 3; have sf := blk_frozen PR; have sl := blk_lt PR; simp at s0 s1 s2 s3)
  | (go_at_call 29; refine (pstop_any x _ ⟨_, _, _, blk_alloc HP.out _⟩).mono ?_; rintro r w1 ⟨rfl, h1⟩; subst h1; have PW := ((Kept.setCell (p := ⟨x, 2, none⟩) (Kept.refl (fun k => k = x) (w.alloc (.cells #[.int .i64 0, .string ⟨#[]⟩, .int .i64 0, .int .i64 0] 39))) (.inr rfl) (.pointer none)).block w.heap.size (by simp) (by omega)).trans (blk_new w _)))
 refine bodyPost_ret (v := .agg #[.int .i64 4, .string ⟨#[]⟩, .int .i64 e, .int .i64 p]) (by simp [results, Tryz.results15, go_sem, *]) rfl ?_
 have hk1 : Kept (fun k => k = x \/ MayO oq k) w w2 := ((((Kept.refl _ w).setCell (p := ⟨x, 2, none⟩) (.inr (.inl rfl)) _).alloc _).trans (Kept.of_below hb2 (fun _ => False)) (fun _ _ e => absurd e id))
 have P3 := (hb2.block x (by simp; omega)).trans (blk_alloc (blk_set HP.out 2 (.pointer none)) _)
 refine ⟨rfl, se_no (vC := vC) HS.out HCl.out ?_ ?_, ?_⟩
 ·exact ((kept4 _ w.heap.size _ _ _ _).block x (blk_lt P3) (by omega)).trans P3
 ·exact hk1.trans (kept4 _ w.heap.size _ _ _ _) (fun i hi e => absurd hi (by omega))
 ·exact hk1.trans (kept4 _ w.heap.size _ _ _ _) (fun i hi e => absurd hi (by omega))
end Go.Proofs.YtbiojnljihgpoaaGreatDoor
namespace Go.Proofs.YtbiojnljihgpoaaGreatDoor
open Go.RowKit
variable {nm : Value}
theorem callFirst (vals : Array Value) (w : World) : (callFunc 32 vals).run Tryz.prog w = .ok (.enter 32 vals) w := by
 simp [callFunc, Tryz.func32, Tryz.f32]
theorem Free.blk {w : World} {g : Nat} {cs : Array Value} {t : TypeId} (h : w.heap[g]? = some (.cells cs t (0, 0))) (ht : t ≠ 101 /\ t ≠ 56 /\ t ≠ 3 /\ t ≠ 9 /\ t ≠ 59) : Free w (fun k => k = g) := by
 have key : ∀ t' : TypeId, t ≠ t' -> ∀ k cs', w.heap[k]? = some (.cells cs' t' (0, 0)) -> ¬ k = g := by
  intro t' ht k cs' hc e
  subst e
  rw [h] at hc
  injection hc with h3; injection h3 with _ h4
  exact ht h4
 exact ⟨key _ ht.1, key _ ht.2.1, key _ ht.2.2.1, key _ ht.2.2.2.1, key _ ht.2.2.2.2⟩
theorem fin_ask {nm' : Value} {F : Nat -> Prop} {w Wf : World} {x q : Nat} {rb1 : Option Nat} {oq : Option (Nat × Option Nat)} {S : Rf.Se} {names : List ByteArray} {R : Int × Rf.Cf} {vC : Value} {rp : Rf.Rep} (h : SeAt F w x oq nm S) (hC : PCls30 F w vC S.cls) (hP : PsB Wf x S.lim vC (.pointer (some ⟨q, 0, none⟩))) (hrp : Rf.repOf names R = rp) (h1 : R.1 = 1) (hO : Rf.SeOk (Rf.replyS S names R).2) (hQ : QAt nm' Wf q rb1 names (Rf.cfOf R)) (hM : ∀ k, May q rb1 k -> MayO oq k \/ w.heap.size <= k) (hN : ∀ g, NmB nm' g -> NmB nm g \/ w.heap.size <= g) (hk : Kept (fun k => k = x \/ MayO oq k) w Wf) :
  SePost F w x oq nm (Rf.replyS S names R) (.returned (repV rp)) Wf := by
 have e1 : (Rf.replyS S names R).2 = ⟨S.lim, S.cls, some ⟨names, R.2.chs.map Rf.renC⟩⟩ := by unfold Rf.replyS; rw [if_pos h1]
 have e2 : Rf.cfOf R = ⟨Rf.stNone, R.2.chs.map Rf.renC⟩ := by unfold Rf.cfOf; rw [if_pos h1]
 rw [e1] at hO
 rw [e2] at hQ
 refine ⟨by rw [repOf_reply, hrp], ?_, hk⟩
 rw [e1]
 exact se_yes (Q := ⟨names, R.2.chs.map Rf.renC⟩) h hC hP hO hQ hM hN hk
theorem ask_ok {S : Rf.Se} (hS : Rf.SeOk S) {s : ByteArray} {gs : List (List Rf.Part)} {ns : List ByteArray} (hr : Rf.questS s = .ok (gs, ns)) (hz : ∀ y ∈ Rf.beginN ns, y.size <= 12) : Rf.SeOk (Rf.replyS S (Rf.beginN ns) (Rf.firstR S.cls S.lim (Rf.beginC gs ns))).2 := by
 obtain ⟨h16, hkep⟩ := Rf.begin_kep (S := S) (Rf.questS_read hr) (Rf.questS_good hr)
 have hl : (Rf.beginN ns).length <= 16 := by
  have := Rf.namedFrom_len 0 ns
  unfold Rf.beginN; rw [List.length_map]; omega
 unfold Rf.firstR
 split
 ·unfold Rf.replyS; rw [if_neg (by simp)]; exact Rf.stop_ok hS
 ·exact Rf.reply_ok hS hl hz hkep
set_option maxHeartbeats 4000000 in
set_option maxRecDepth 100000 in
theorem pask_go (F : Nat -> Prop) (w : World) (B x : Nat) (oq : Option (Nat × Option Nat)) (S : Rf.Se) (s : ByteArray) (hm : s.size <= maxLen) (h : SeAt F w x oq nm S) (hB : B <= w.heap.size) (hxB : B <= x) (hT : TabB B w) (gs : List (List Rf.Part)) (ns : List ByteArray) (hr : Rf.questS s = .ok (gs, ns)) (hz : ∀ y ∈ Rf.beginN ns, y.size <= 12) :
  Calls Tryz.prog 15 #[.pointer (some ⟨x, 0, none⟩), .string s] w fun r w' => SePost F w x oq nm (Rf.replyS S (Rf.beginN ns) (Rf.firstR S.cls S.lim (Rf.beginC gs ns))) r w' := by
 obtain ⟨vC, vQ, hPB, hCl, hQu⟩ := h.ex
 obtain ⟨k0, k1, k2, kf, kl⟩ := hPB.facts
 have hkep := (Rf.begin_kep (S := S) (Rf.questS_read hr) (Rf.questS_good hr)).2
 have HS : Hid _ := h
 have HP : Hid (PsB w x S.lim vC vQ) := hPB
 have HCl : Hid _ := hCl
 have HR : Hid _ := hr
 have HO : Hid (Rf.SeOk (Rf.replyS S (Rf.beginN ns) (Rf.firstR S.cls S.lim (Rf.beginC gs ns))).2) := ask_ok h.ok hr hz
 have HNx : Hid (∀ W q m9, QAt m9 W q none (Rf.beginN ns) (Rf.beginC gs ns) -> SeenCls W vC S.cls -> B <= W.heap.size -> B <= q -> TabB B W -> Calls Tryz.prog 32 #[.pointer (some ⟨q, 0, none⟩), vC, .int .i64 (S.lim : Nat)] W fun r w' => r = .returned (repV (Rf.repOf (Rf.beginN ns) (Rf.firstR S.cls S.lim (Rf.beginC gs ns)))) /\ (∃ rb', QAt m9 w' q rb' (Rf.beginN ns) (Rf.cfOf (Rf.firstR S.cls S.lim (Rf.beginC gs ns))) /\ Nb W none rb') /\ Kept (May q none) W w') := fun W q m9 hQ hC hBW hq hTW => pfirst_any W B q none _ _ vC S.cls S.lim hQ hC hkep h.ok.g h.ok.k hCl.len h.ok.l2 hz hBW hq (fun _ e => by cases e) hTW
 obtain ⟨cla, clc, rfl⟩ := hCl.seen.slice
 clear h hPB hCl hQu hr hkep hz
 obtain ⟨R, hR⟩ : ∃ R, Hid (Rf.firstR S.cls S.lim (Rf.beginC gs ns) = R) := ⟨_, rfl⟩
 rw [hR.out] at HNx HO ⊢
 obtain ⟨⟨rk, rt, rc, rpp⟩, hRp⟩ : ∃ rp, Hid (Rf.repOf (Rf.beginN ns) R = rp) := ⟨_, rfl⟩
 obtain ⟨L, hL⟩ : ∃ L, Hid (S.lim = L) := ⟨_, rfl⟩
 obtain ⟨nc, hnc⟩ : ∃ n, Hid (S.cls.length = n) := ⟨_, rfl⟩
 rw [hRp.out, hL.out, hnc.out] at HNx
 rw [hL.out] at k0
 rw [hnc.out] at k1
 go_enter Tryz.func15, Tryz.ntmps15
 go_wp2_with (first
  | (go_at_call 31; refine (pbegin_any _ _ gs _ ns hgs hns hnl).mono ?_; rintro r w3 ⟨q, n9, rfl, hq3, hQ3, hn3, hb3⟩; have hz3 := hb3.size)
  | (go_at_call 30; refine (pquest_any s _ hm).mono ?_; rintro r w2 ⟨hb2, hP2⟩; rw [HR.out] at hP2; obtain ⟨a1, n1, c1, a2, n2, c2, hv, hgs, hns, hgl, hnl⟩ := hP2; subst hv; have hz2 := hb2.size)
  | (go_at_call 29; refine (pstop_any x _ ⟨_, _, _, blk_alloc HP.out _⟩).mono ?_; rintro r w1 ⟨rfl, h1⟩; subst h1))
 have hbz : Kept (fun k => k = x) w w2 := (((Kept.refl (fun k => k = x) w).setCell (p := ⟨x, 2, none⟩) (.inr rfl) _).alloc _).trans (Kept.of_below hb2 (fun _ => False)) (fun _ _ e => absurd e id)
 have hk3 : Kept (fun k => k = x) w w3 := hbz.trans (Kept.of_below hb3 (fun _ => False)) (fun _ _ e => absurd e id)
 have hz1 : w.heap.size + 1 <= w2.heap.size := by simpa using hz2
 have PX2 := (hb2.block x (by simp; omega)).trans (blk_alloc (blk_set HP.out 2 (.pointer none)) (.cells #[.int .i64 0, .string ⟨#[]⟩, .int .i64 0, .int .i64 0] 39))
 have PX3 : PsB w3 x S.lim (.slice cla S.cls.length clc) (.pointer none) := (hb3.block x (by omega)).trans PX2
 have PR2 := (hb2.block w.heap.size (by simp)).trans (blk_at (w.setCell ⟨x, 2, none⟩ (.pointer none)) (.cells #[.int .i64 0, .string ⟨#[]⟩, .int .i64 0, .int .i64 0] 39) _ (by simp))
 have PR3 : w3.heap[w.heap.size]? = some (.cells #[.int .i64 0, .string ⟨#[]⟩, .int .i64 0, .int .i64 0] 39) := (hb3.block w.heap.size (by omega)).trans PR2
 have HC3 : Hid (SeenCls w3 (.slice cla S.cls.length clc) S.cls) := HCl.out.seen.kept hk3 (Free.blk HP.out (by decide))
 have HT3 : Hid (TabB B w3) := hT.on (hk3.below hB (fun k hk e => by omega))
 obtain ⟨m0, m1, m2, mf, ml⟩ := PX3.facts
 rw [hL.out] at m0
 rw [hnc.out] at m1
 have HX3 : Hid _ := PX3
 have HR3 : Hid _ := PR3
 have HQ3 : Hid _ := hQ3
 have HK3 : Hid _ := hk3
 have hBq : B <= q := by omega
 have hB3 : B <= w3.heap.size := by omega
 have HN3 : Hid (∀ W, Below w3.heap.size w3 W -> Calls Tryz.prog 32 #[.pointer (some ⟨q, 0, none⟩), .slice cla nc clc, .int .i64 (L : Nat)] W fun r w' => r = .returned (repV ⟨rk, rt, rc, rpp⟩) /\ (∃ rb', QAt n9 w' q rb' (Rf.beginN ns) (Rf.cfOf R) /\ Nb W none rb') /\ Kept (May q none) W w') := fun W hb => HNx.out W q n9 (hQ3.below hb) (by rw [<- hnc.out]; exact HC3.out.below hb) (Nat.le_trans hB3 hb.size) hBq (HT3.out.on (hb.mono hB3))
 have HN9 : Hid (∀ g, NmB n9 g -> w.heap.size <= g) := fun g hg => by have := hn3 g hg; omega
 clear hbz PX2 PX3 PR2 PR3 hQ3 hk3 hgs hns hb2 hb3 hn3 k0 k1 k2 kf HNx hT
 have hq4 : q < w3.heap.size := may_lt HQ3.out (.inl rfl)
 have hqn : Hid (∀ i, i < w.heap.size -> May q none i -> i = x \/ MayO oq i) := fun i hi e => by
  rcases e with e | e
  ·omega
  ·cases e
 have hnm : Hid (∀ k, k ≠ q -> ¬ May q none k) := fun k hk hm => by
  rcases hm with e | e
  ·exact hk e
  ·cases e
 have hrk : R.1 = rk := by rw [<- repOf_kind (Rf.beginN ns) R, hRp.out]
 by_cases h1 : rk = 1
 ·subst h1
  go_region_law (first
   | (refine step_call3 rfl 32 (.tmp 31) (.tmp 35) (.tmp 39) _ rfl (.pointer (some ⟨q, 0, none⟩)) (.slice cla nc clc) (.int .i64 L) rfl rfl rfl (fun _ => callFirst _ _) (HN3.out _ (by repeat(first|exact bl0 _ _|refine bl1 ?_ (by simp<;>omega) _|refine bl2 ?_|refine bl3 ?_ _|refine bl4 ?_ (by simp<;>omega) _))) ?_; rintro r w4 ⟨rfl, ⟨rb1, hQ4, hN4⟩, hk4⟩; refine ⟨_, rfl, ?_⟩; simp only [repV]; have hz4 := hk4.size; have P2 : w4.heap[w3.heap.size]? = some (.cells #[.int .i64 0, .string ⟨#[]⟩, .int .i64 0, .int .i64 0] 39) := (hk4.block w3.heap.size (by simp <;> omega) (hnm.out _ (by omega))).trans (blk_new w3 _); have P1 : w4.heap[w.heap.size]? = some (.cells #[.int .i64 0, .string ⟨#[]⟩, .int .i64 0, .int .i64 0] 39) := (hk4.block w.heap.size (by simp <;> omega) (hnm.out _ (by omega))).trans (blk_alloc HR3.out _); have PX : PsB w4 x S.lim (.slice cla S.cls.length clc) (.pointer none) := (hk4.block x (by simp <;> omega) (hnm.out x (by omega))).trans (blk_alloc HX3.out _); have s0 := blk_cell P1 0; have s1 := blk_cell P1 1; have s2 := blk_cell P1 2; have s3 := blk_cell P1 3; have sf := blk_frozen P1; have sl := blk_lt P1; simp at s0 s1 s2 s3; obtain ⟨x0, x1, x2, xf, xl⟩ := PsB.facts PX; have t0 := blk_cell P2 0; have t1 := blk_cell P2 1; have t2 := blk_cell P2 2; have t3 := blk_cell P2 3; have tf := blk_frozen P2; have tl := blk_lt P2; simp at t0 t1 t2 t3)
   | (refine step_call3 rfl 32 (.tmp 31) (.tmp 35) (.tmp 39) _ rfl (.pointer (some ⟨q, 0, none⟩)) (.slice cla nc clc) (.int .i64 L) rfl rfl rfl (fun _ => callFirst _ _) (HN3.out _ (by repeat(first|exact bl0 _ _|refine bl1 ?_ (by simp<;>omega) _|refine bl2 ?_|refine bl3 ?_ _|refine bl4 ?_ (by simp<;>omega) _))) ?_; rintro r w4 ⟨rfl, ⟨rb1, hQ4, hN4⟩, hk4⟩; refine ⟨_, rfl, ?_⟩; simp only [repV]; have hz4 := hk4.size; have P1 : w4.heap[w.heap.size]? = some (.cells #[.int .i64 0, .string ⟨#[]⟩, .int .i64 0, .int .i64 0] 39) := (hk4.block w.heap.size (by simp <;> omega) (hnm.out _ (by omega))).trans HR3.out; have PX : PsB w4 x S.lim (.slice cla S.cls.length clc) (.pointer none) := (hk4.block x (by simp <;> omega) (hnm.out x (by omega))).trans HX3.out; have s0 := blk_cell P1 0; have s1 := blk_cell P1 1; have s2 := blk_cell P1 2; have s3 := blk_cell P1 3; have sf := blk_frozen P1; have sl := blk_lt P1; simp at s0 s1 s2 s3; obtain ⟨x0, x1, x2, xf, xl⟩ := PsB.facts PX))
  all_goals go_wp2_with fail
  all_goals
   refine bodyPost_ret (v := .agg #[.int .i64 1, .string rt, .int .i64 rc, .int .i64 rpp]) (by simp [results, Tryz.results15, go_sem, *]) rfl ?_
   have hk40 : Kept (fun k => k = x \/ MayO oq k) w w4 := ((HK3.out.mono (fun _ _ e => .inl e)).trans (Kept.of_below (w' := _) (by repeat(first|exact bl0 _ _|refine bl1 ?_ (by simp<;>omega) _|refine bl2 ?_|refine bl3 ?_ _|refine bl4 ?_ (by simp<;>omega) _)) (fun _ => False)) (fun _ _ e => absurd e id)).trans hk4 (fun i hi e => hqn.out i hi e)
   refine fin_ask (q := q) (rb1 := rb1) HS.out HCl.out ?_ hRp.out hrk HO.out ?_ (fun k hm => ?_) (fun g hg => .inr (HN9.out g hg)) ?_
   ·first
     | (have h9 := P2; have P3 := blk_set (((kept4 w4 w3.heap.size (.int .i64 1) (.string rt) (.int .i64 rc) (.int .i64 rpp)).block x (blk_lt PX) (by omega)).trans PX) 2 (.pointer (some ⟨q, 0, none⟩)); exact ((kept4 _ w.heap.size _ _ _ _).block x (blk_lt P3) (by omega)).trans P3)
     | (have P3 := blk_set PX 2 (.pointer (some ⟨q, 0, none⟩)); exact blk_alloc (((kept4 _ w.heap.size _ _ _ _).block x (blk_lt P3) (by omega)).trans P3) _)
   ·first
     | (have h9 := P2; have PXb := ((kept4 w4 w3.heap.size (.int .i64 1) (.string rt) (.int .i64 rc) (.int .i64 rpp)).block x (blk_lt PX) (by omega)).trans PX; have P1b := ((kept4 w4 w3.heap.size (.int .i64 1) (.string rt) (.int .i64 rc) (.int .i64 rpp)).block w.heap.size (blk_lt P1) (by omega)).trans P1; have kx := Kept.setCell (p := ⟨x, 2, none⟩) (Kept.refl (fun k => k = x) ((((w4.setCell ⟨w3.heap.size, 0, none⟩ (.int .i64 1)).setCell ⟨w3.heap.size, 1, none⟩ (.string rt)).setCell ⟨w3.heap.size, 2, none⟩ (.int .i64 rc)).setCell ⟨w3.heap.size, 3, none⟩ (.int .i64 rpp))) (.inr rfl) (.pointer (some ⟨q, 0, none⟩)); exact ((hQ4.keptL P2 (by decide) (kept4 _ _ _ _ _ _)).keptL PXb (by decide) kx).keptL ((kx.block w.heap.size (blk_lt P1b) (by omega)).trans P1b) (by decide) (kept4 _ _ _ _ _ _))
     | (have kx := Kept.setCell (p := ⟨x, 2, none⟩) (Kept.refl (fun k => k = x) w4) (.inr rfl) (.pointer (some ⟨q, 0, none⟩)); exact ((hQ4.keptL PX (by decide) kx).keptL ((kx.block w.heap.size (blk_lt P1) (by omega)).trans P1) (by decide) (kept4 _ _ _ _ _ _)).below ((Below.refl _ _).alloc (Nat.le_refl _) _))
   ·rcases hm with e | e
    ·exact .inr (by omega)
    ·rcases hN4 with e2 | ⟨j, e2, hj⟩
     ·rw [e2] at e; cases e
     ·rw [e2] at e; injection e with e; simp at hj; exact .inr (by omega)
   ·first
     | (have h9 := P2; exact ((hk40.trans (kept4 _ w3.heap.size _ _ _ _) (fun i hi e => absurd hi (by omega))).setCell (p := ⟨x, 2, none⟩) (.inr (.inl rfl)) _).trans (kept4 _ w.heap.size _ _ _ _) (fun i hi e => absurd hi (by omega)))
     | exact ((hk40.setCell (p := ⟨x, 2, none⟩) (.inr (.inl rfl)) _).trans (kept4 _ w.heap.size _ _ _ _) (fun i hi e => absurd hi (by omega))).alloc _
 ·have h1' : ¬ R.1 = 1 := fun e => h1 (hrk.symm.trans e)
  clear hrk
  go_region_law (first
   | (refine step_call3 rfl 32 (.tmp 31) (.tmp 35) (.tmp 39) _ rfl (.pointer (some ⟨q, 0, none⟩)) (.slice cla nc clc) (.int .i64 L) rfl rfl rfl (fun _ => callFirst _ _) (HN3.out _ (by repeat(first|exact bl0 _ _|refine bl1 ?_ (by simp<;>omega) _|refine bl2 ?_|refine bl3 ?_ _|refine bl4 ?_ (by simp<;>omega) _))) ?_; rintro r w4 ⟨rfl, ⟨rb1, hQ4, hN4⟩, hk4⟩; refine ⟨_, rfl, ?_⟩; simp only [repV]; have hz4 := hk4.size; have P2 : w4.heap[w3.heap.size]? = some (.cells #[.int .i64 0, .string ⟨#[]⟩, .int .i64 0, .int .i64 0] 39) := (hk4.block w3.heap.size (by simp <;> omega) (hnm.out _ (by omega))).trans (blk_new w3 _); have P1 : w4.heap[w.heap.size]? = some (.cells #[.int .i64 0, .string ⟨#[]⟩, .int .i64 0, .int .i64 0] 39) := (hk4.block w.heap.size (by simp <;> omega) (hnm.out _ (by omega))).trans (blk_alloc HR3.out _); have PX : PsB w4 x S.lim (.slice cla S.cls.length clc) (.pointer none) := (hk4.block x (by simp <;> omega) (hnm.out x (by omega))).trans (blk_alloc HX3.out _); have s0 := blk_cell P1 0; have s1 := blk_cell P1 1; have s2 := blk_cell P1 2; have s3 := blk_cell P1 3; have sf := blk_frozen P1; have sl := blk_lt P1; simp at s0 s1 s2 s3; obtain ⟨x0, x1, x2, xf, xl⟩ := PsB.facts PX; have t0 := blk_cell P2 0; have t1 := blk_cell P2 1; have t2 := blk_cell P2 2; have t3 := blk_cell P2 3; have tf := blk_frozen P2; have tl := blk_lt P2; simp at t0 t1 t2 t3)
   | (refine step_call3 rfl 32 (.tmp 31) (.tmp 35) (.tmp 39) _ rfl (.pointer (some ⟨q, 0, none⟩)) (.slice cla nc clc) (.int .i64 L) rfl rfl rfl (fun _ => callFirst _ _) (HN3.out _ (by repeat(first|exact bl0 _ _|refine bl1 ?_ (by simp<;>omega) _|refine bl2 ?_|refine bl3 ?_ _|refine bl4 ?_ (by simp<;>omega) _))) ?_; rintro r w4 ⟨rfl, ⟨rb1, hQ4, hN4⟩, hk4⟩; refine ⟨_, rfl, ?_⟩; simp only [repV]; have hz4 := hk4.size; have P1 : w4.heap[w.heap.size]? = some (.cells #[.int .i64 0, .string ⟨#[]⟩, .int .i64 0, .int .i64 0] 39) := (hk4.block w.heap.size (by simp <;> omega) (hnm.out _ (by omega))).trans HR3.out; have PX : PsB w4 x S.lim (.slice cla S.cls.length clc) (.pointer none) := (hk4.block x (by simp <;> omega) (hnm.out x (by omega))).trans HX3.out; have s0 := blk_cell P1 0; have s1 := blk_cell P1 1; have s2 := blk_cell P1 2; have s3 := blk_cell P1 3; have sf := blk_frozen P1; have sl := blk_lt P1; simp at s0 s1 s2 s3; obtain ⟨x0, x1, x2, xf, xl⟩ := PsB.facts PX))
  all_goals go_wp2_with fail
  all_goals
   refine bodyPost_ret (v := .agg #[.int .i64 rk, .string rt, .int .i64 rc, .int .i64 rpp]) (by simp [results, Tryz.results15, go_sem, *]) rfl ?_
   have hk40 : Kept (fun k => k = x \/ MayO oq k) w w4 := ((HK3.out.mono (fun _ _ e => .inl e)).trans (Kept.of_below (w' := _) (by repeat(first|exact bl0 _ _|refine bl1 ?_ (by simp<;>omega) _|refine bl2 ?_|refine bl3 ?_ _|refine bl4 ?_ (by simp<;>omega) _)) (fun _ => False)) (fun _ _ e => absurd e id)).trans hk4 (fun i hi e => hqn.out i hi e)
   refine fin_no (vC := .slice cla S.cls.length clc) HS.out HCl.out ?_ hRp.out h1' ?_
   ·first
     | (have h9 := P2; have P3 := ((kept4 w4 w3.heap.size (.int .i64 rk) (.string rt) (.int .i64 rc) (.int .i64 rpp)).block x (blk_lt PX) (by omega)).trans PX; exact ((kept4 _ w.heap.size _ _ _ _).block x (blk_lt P3) (by omega)).trans P3)
     | exact blk_alloc (((kept4 _ w.heap.size _ _ _ _).block x (blk_lt PX) (by omega)).trans PX) _
   ·first
     | (have h9 := P2; exact (hk40.trans (kept4 _ w3.heap.size _ _ _ _) (fun i hi e => absurd hi (by omega))).trans (kept4 _ w.heap.size _ _ _ _) (fun i hi e => absurd hi (by omega)))
     | exact (hk40.trans (kept4 _ w.heap.size _ _ _ _) (fun i hi e => absurd hi (by omega))).alloc _
end Go.Proofs.YtbiojnljihgpoaaGreatDoor
