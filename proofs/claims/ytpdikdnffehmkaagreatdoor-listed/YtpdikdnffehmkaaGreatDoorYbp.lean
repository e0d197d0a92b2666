/- The program's session with its question, in memory. -/
import Derived.Test.YtpdikdnffehmkaaGreatDoorYbn
import Derived.Test.YtpdikdnffehmkaaGreatDoorYbo
namespace Go.Proofs.YtpdikdnffehmkaaGreatDoor
open Go.RowKit
variable {nm : Value}
/-- The blocks of a question that turn. -/
def MayO : Option (Nat × Option Nat) → Nat → Prop
  | none, _ => False
  | some (q, rb), k => May q rb k
def QuAt (nm : Value) (w : World) (vQ : Value) : Option (Nat × Option Nat) → Option Rf.Qs → Prop
  | none, none => vQ = .pointer none
  | some (q, rb), some Q => vQ = .pointer (some ⟨q, 0, none⟩) ∧ QAt nm w q rb Q.names ⟨Rf.stNone, Q.chs⟩
  | _, _ => False
/-- Block x holds the session S; its clauses lie among F, its question at oq. -/
structure SeAt (F : Nat → Prop) (w : World) (x : Nat) (oq : Option (Nat × Option Nat)) (nm : Value) (S : Rf.Se) : Prop where
  ok : Rf.SeOk S
  ex : ∃ vC vQ, PsB w x S.lim vC vQ ∧ PCls30 F w vC S.cls ∧ QuAt nm w vQ oq S.q
  apart : ¬ F x
  bd : ∀ k, F k → k < w.heap.size
  sep : ∀ k, MayO oq k → ¬ F k
theorem PCls30.seen {F : Nat → Prop} {w : World} {v : Value} {cls : List Rf.Cl} (h : PCls30 F w v cls) : SeenCls w v cls := by
  obtain ⟨acc, hA, hc, _⟩ := h.ex
  refine ⟨acc, hA.row.seen, fun x hx => ?_, hc⟩
  obtain ⟨h1, ac, h2, _, h4, h5, _⟩ := hA.cls x hx
  exact ⟨h1.1.seen, ac, h2.seen, fun q hq => (h4 q hq).1.seen, h5⟩
theorem PCls30.len {F : Nat → Prop} {w : World} {v : Value} {cls : List Rf.Cl} (h : PCls30 F w v cls) : cls.length ≤ 30 := by
  obtain ⟨acc, _, hc, hl⟩ := h.ex
  rw [hc, List.length_map]; exact hl
theorem PCls30.kept {F M : Nat → Prop} {w w' : World} {v : Value} {cls : List Rf.Cl} (h : PCls30 F w v cls) (hk : Kept M w w') (hM : ∀ k, k < w.heap.size → F k → ¬ M k) : PCls30 F w' v cls := by
  obtain ⟨acc, hA, hc, hl⟩ := h.ex
  exact ⟨⟨acc, hA.weak hk hM (fun _ e => e), hc, hl⟩, h.good⟩
theorem PsB.facts {w : World} {x : Nat} {lim : Int} {vC vQ : Value} (h : PsB w x lim vC vQ) : w.cell? ⟨x, 0, none⟩ = some (.int .i64 lim) ∧ w.cell? ⟨x, 1, none⟩ = some vC ∧ w.cell? ⟨x, 2, none⟩ = some vQ ∧ (∀ i, w.frozen? ⟨x, i, none⟩ = false) ∧ x < w.heap.size :=
  ⟨blk_cell h 0, blk_cell h 1, blk_cell h 2, blk_frozen h, blk_lt h⟩
theorem PsB.notMay {w : World} {x : Nat} {lim : Int} {vC vQ : Value} (h : PsB w x lim vC vQ) {q : Nat} {rb : Option Nat} {names : List ByteArray} {cf : Rf.Cf} (hQ : QAt nm w q rb names cf) : ¬ May q rb x := by
  obtain ⟨_, _, _, _, hqi⟩ := hQ.ex
  exact hqi.types (by decide) (by decide) x _ h
theorem repOf_reply (S : Rf.Se) (names : List ByteArray) (r : Int × Rf.Cf) : (Rf.replyS S names r).1 = Rf.repOf names r := by
  unfold Rf.replyS Rf.repOf; split <;> rfl
theorem SeOk.clsG {S : Rf.Se} (h : Rf.SeOk S) : Rf.ClsG S.cls := fun c hc => (h.cls c hc).2.2
theorem seOk_g {S : Rf.Se} (h : Rf.SeOk S) : Rf.ClsG S.cls ∧ Rf.ClsK S.cls := ⟨h.g, h.k⟩
theorem callNext (vals : Array Value) (w : World) : (callFunc 41 vals).run Tryz.prog w = .ok (.enter 41 vals) w := by
  simp [callFunc, Tryz.func41, Tryz.f41]
/-- What a call leaves of a session. -/
def SePost (F : Nat → Prop) (w : World) (x : Nat) (oq : Option (Nat × Option Nat)) (nm : Value) (P : Rf.Rep × Rf.Se) (r : Ending) (w' : World) : Prop :=
  r = .returned (repV P.1) ∧ (∃ oq' nm', SeAt F w' x oq' nm' P.2 ∧ (∀ k, MayO oq' k → MayO oq k ∨ w.heap.size ≤ k) ∧ ∀ g, NmB nm' g → NmB nm g ∨ w.heap.size ≤ g) ∧ Kept (fun k => k = x ∨ MayO oq k) w w'
theorem se_yes {nm' : Value} {F : Nat → Prop} {w Wf : World} {x q : Nat} {rb : Option Nat} {oq : Option (Nat × Option Nat)} {S : Rf.Se} {Q : Rf.Qs} {vC : Value} (h : SeAt F w x oq nm S) (hC : PCls30 F w vC S.cls) (hP : PsB Wf x S.lim vC (.pointer (some ⟨q, 0, none⟩))) (hO : Rf.SeOk ⟨S.lim, S.cls, some Q⟩) (hQ : QAt nm' Wf q rb Q.names ⟨Rf.stNone, Q.chs⟩) (hM : ∀ k, May q rb k → MayO oq k ∨ w.heap.size ≤ k) (hN : ∀ g, NmB nm' g → NmB nm g ∨ w.heap.size ≤ g) (hk : Kept (fun k => k = x ∨ MayO oq k) w Wf) :
    ∃ oq' nm', SeAt F Wf x oq' nm' ⟨S.lim, S.cls, some Q⟩ ∧ (∀ k, MayO oq' k → MayO oq k ∨ w.heap.size ≤ k) ∧ ∀ g, NmB nm' g → NmB nm g ∨ w.heap.size ≤ g := by
  refine ⟨some (q, rb), nm', ⟨hO, ⟨vC, _, hP, hC.kept hk (fun k _ hF hm => ?_), rfl, hQ⟩, h.apart, fun k hF => Nat.lt_of_lt_of_le (h.bd k hF) hk.size, fun k hm hF => ?_⟩, hM, hN⟩
  · rcases hm with rfl | hm
    · exact h.apart hF
    · exact h.sep k hm hF
  · rcases hM k hm with h1 | h1
    · exact h.sep k h1 hF
    · have := h.bd k hF; omega
theorem nmb_none {g : Nat} (h : NmB (.pointer none) g) : False := by
  obtain ⟨_, _, _, e⟩ := h
  cases e
theorem se_no {F : Nat → Prop} {w Wf : World} {x : Nat} {oq : Option (Nat × Option Nat)} {S : Rf.Se} {vC : Value} (h : SeAt F w x oq nm S) (hC : PCls30 F w vC S.cls) (hP : PsB Wf x S.lim vC (.pointer none)) (hk : Kept (fun k => k = x ∨ MayO oq k) w Wf) :
    ∃ oq' nm', SeAt F Wf x oq' nm' ⟨S.lim, S.cls, none⟩ ∧ (∀ k, MayO oq' k → MayO oq k ∨ w.heap.size ≤ k) ∧ ∀ g, NmB nm' g → NmB nm g ∨ w.heap.size ≤ g := by
  refine ⟨none, .pointer none, ⟨Rf.stop_ok h.ok, ⟨vC, _, hP, hC.kept hk (fun k _ hF hm => ?_), rfl⟩, h.apart, fun k hF => Nat.lt_of_lt_of_le (h.bd k hF) hk.size, fun k hm => hm.elim⟩, fun k hm => hm.elim, fun g hg => (nmb_none hg).elim⟩
  rcases hm with rfl | hm
  · exact h.apart hF
  · exact h.sep k hm hF
theorem may_lt {w : World} {q k : Nat} {rb : Option Nat} {names : List ByteArray} {cf : Rf.Cf} (h : QAt nm w q rb names cf) (hm : May q rb k) : k < w.heap.size := by
  obtain ⟨_, _, _, _, hqi⟩ := h.ex
  rcases hm with e | e
  · have := blk_lt hqi.b; omega
  · obtain ⟨acc, hr, _⟩ := hqi.r.ex
    exact (hr.lt _ (hqi.o.trans e.symm)).2
theorem repOf_kind (names : List ByteArray) (R : Int × Rf.Cf) : (Rf.repOf names R).kind = R.1 := by
  unfold Rf.repOf; split
  · rename_i h; exact h.symm
  · rfl
theorem fin_yes {F : Nat → Prop} {w Wf : World} {x q : Nat} {rb rb1 : Option Nat} {S : Rf.Se} {names : List ByteArray} {R : Int × Rf.Cf} {vC : Value} {rp : Rf.Rep} (h : SeAt F w x (some (q, rb)) nm S) (hC : PCls30 F w vC S.cls) (hP : PsB w x S.lim vC (.pointer (some ⟨q, 0, none⟩))) (hx : ¬ May q rb x) (hrp : Rf.repOf names R = rp) (h1 : R.1 = 1) (hO : Rf.SeOk (Rf.replyS S names R).2) (hQ : QAt nm Wf q rb1 names (Rf.cfOf R)) (hN : Nb w rb rb1) (hk : Kept (May q rb) w Wf) :
    SePost F w x (some (q, rb)) nm (Rf.replyS S names R) (.returned (repV rp)) Wf := by
  have e1 : (Rf.replyS S names R).2 = ⟨S.lim, S.cls, some ⟨names, R.2.chs.map Rf.renC⟩⟩ := by unfold Rf.replyS; rw [if_pos h1]
  have e2 : Rf.cfOf R = ⟨Rf.stNone, R.2.chs.map Rf.renC⟩ := by unfold Rf.cfOf; rw [if_pos h1]
  rw [e1] at hO
  rw [e2] at hQ
  have hk' : Kept (fun k => k = x ∨ MayO (some (q, rb)) k) w Wf := hk.mono (fun _ _ e => .inr e)
  refine ⟨by rw [repOf_reply, hrp], ?_, hk'⟩
  rw [e1]
  refine se_yes (Q := ⟨names, R.2.chs.map Rf.renC⟩) h hC ((hk.block x (blk_lt hP) hx).trans hP) hO hQ (fun k hm => ?_) (fun g hg => .inl hg) hk'
  rcases hm with e | e
  · exact .inl (.inl e)
  · rcases hN with e2 | ⟨j, e2, hj⟩
    · exact .inl (.inr (e.trans e2))
    · rw [e2] at e; injection e with e; exact .inr (by omega)
theorem fin_no {F : Nat → Prop} {w Wf : World} {x : Nat} {oq : Option (Nat × Option Nat)} {S : Rf.Se} {names : List ByteArray} {R : Int × Rf.Cf} {vC : Value} {rp : Rf.Rep} (h : SeAt F w x oq nm S) (hC : PCls30 F w vC S.cls) (hP : PsB Wf x S.lim vC (.pointer none)) (hrp : Rf.repOf names R = rp) (h1 : R.1 ≠ 1) (hk : Kept (fun k => k = x ∨ MayO oq k) w Wf) :
    SePost F w x oq nm (Rf.replyS S names R) (.returned (repV rp)) Wf := by
  have e1 : (Rf.replyS S names R).2 = ⟨S.lim, S.cls, none⟩ := by unfold Rf.replyS; rw [if_neg h1]
  refine ⟨by rw [repOf_reply, hrp], ?_, hk⟩
  rw [e1]
  exact se_no h hC hP hk
end Go.Proofs.YtpdikdnffehmkaaGreatDoor
/- The program's session: More. -/
namespace Go.Proofs.YtpdikdnffehmkaaGreatDoor
open Go.RowKit
variable {nm : Value}
set_option maxHeartbeats 4000000 in
set_option maxRecDepth 100000 in
theorem pmore_some (F : Nat → Prop) (w : World) (B x q : Nat) (rb : Option Nat) (S : Rf.Se) (Q : Rf.Qs) (hSQ : S.q = some Q) (h : SeAt F w x (some (q, rb)) nm S) (hB : B ≤ w.heap.size) (hqB : B ≤ q) (hrB : ∀ k, rb = some k → B ≤ k) (hT : TabB B w) :
    Calls Tryz.prog 20 #[.pointer (some ⟨x, 0, none⟩)] w fun r w' => SePost F w x (some (q, rb)) nm (Rf.replyS S Q.names (Rf.playN S.cls S.lim (-1, ⟨Rf.stNone, Q.chs⟩))) r w' := by
  obtain ⟨vC, vQ, hPB, hCl, hQu⟩ := h.ex
  rw [hSQ] at hQu
  obtain ⟨rfl, hQA⟩ := hQu
  obtain ⟨k0, k1, k2, kf, kl⟩ := hPB.facts
  have hq := h.ok.q Q hSQ
  have hL2 := h.ok.l2
  have HS : Hid _ := h
  have HP : Hid _ := hPB
  have HQ : Hid _ := hQA
  have HCl : Hid _ := hCl
  have HT : Hid (TabB B w) := hT
  have HrB : Hid _ := hrB
  have HKp : Hid _ := Rf.next_kep h.ok hq
  have HO : Hid (Rf.SeOk (Rf.replyS S Q.names (Rf.playN S.cls S.lim (-1, ⟨Rf.stNone, Q.chs⟩))).2) := Rf.reply_ok h.ok hq.nl hq.nz (Rf.next_kep h.ok hq)
  have HZ : Hid _ := hq.nz
  have HG : Hid (Rf.ClsG S.cls) := h.ok.g
  have HKc : Hid (Rf.ClsK S.cls) := h.ok.k
  have hl30 := hCl.len
  obtain ⟨cla, clc, rfl⟩ := hCl.seen.slice
  have HNx : Hid (∀ W, Below w.heap.size w W → Calls Tryz.prog 41 #[.pointer (some ⟨q, 0, none⟩), .slice cla S.cls.length clc, .int .i64 (S.lim : Nat)] W fun r w' => r = .returned (repV (Rf.repOf Q.names (Rf.playN S.cls S.lim (-1, ⟨Rf.stNone, Q.chs⟩)))) ∧ (∃ rb', QAt nm w' q rb' Q.names (Rf.cfOf (Rf.playN S.cls S.lim (-1, ⟨Rf.stNone, Q.chs⟩))) ∧ Nb W rb rb') ∧ Kept (May q rb) W w') := fun W hb => pnext_any W B q rb Q.names _ _ S.cls S.lim (hQA.below hb) (hCl.seen.below hb) (Rf.next_kep h.ok hq) h.ok.g h.ok.k hl30 hL2 hq.nz (Nat.le_trans hB hb.size) hqB hrB (hT.on (hb.mono hB))
  have hnx : Hid (¬ May q rb x) := hPB.notMay hQA
  clear h hPB hCl hQA hq hT hrB hSQ
  obtain ⟨R, hR⟩ : ∃ R, Hid (Rf.playN S.cls S.lim (-1, ⟨Rf.stNone, Q.chs⟩) = R) := ⟨_, rfl⟩
  rw [hR.out] at HO HNx ⊢
  obtain ⟨⟨rk, rt, rc, rpp⟩, hRp⟩ : ∃ rp, Hid (Rf.repOf Q.names R = rp) := ⟨_, rfl⟩
  obtain ⟨L, hL⟩ : ∃ L, Hid (S.lim = L) := ⟨_, rfl⟩
  obtain ⟨nc, hnc⟩ : ∃ n, Hid (S.cls.length = n) := ⟨_, rfl⟩
  rw [hRp.out, hL.out, hnc.out] at HNx
  rw [hL.out] at k0 hL2
  rw [hnc.out] at k1 hl30
  have hrk : R.1 = rk := by rw [← repOf_kind Q.names R, hRp.out]
  have hPn : Hid (∀ k, w.heap.size ≤ k → ¬ May q rb k) := fun k hk hm => by have := may_lt HQ.out hm; omega
  clear HZ HG HKc HKp HT HrB
  by_cases h1 : rk = 1
  · subst h1
    go_enter Tryz.func20, Tryz.ntmps20
    go_wp2_with fail
    go_region_law (first
      | (refine step_call3 rfl 41 (.tmp 17) (.tmp 21) (.tmp 25) _ rfl (.pointer (some ⟨q, 0, none⟩)) (.slice cla nc clc) (.int .i64 L) rfl rfl rfl (fun _ => callNext _ _) (HNx.out _ (by repeat (first | exact Below.refl _ _ | refine Below.setCell ?_ (by simp <;> omega) _ | refine Below.drew ?_ | refine Below.drewN ?_ _ | refine Below.alloc ?_ (by simp <;> omega) _))) ?_; rintro r w1 ⟨rfl, ⟨rb1, hQ1, hN1⟩, hk1⟩; refine ⟨_, rfl, ?_⟩; simp only [repV]; have hz1 := hk1.size; have P2 : w1.heap[w.heap.size + 1]? = some (.cells #[.int .i64 0, .string ⟨#[]⟩, .int .i64 0, .int .i64 0] 33) := (hk1.block (w.heap.size + 1) (by simp <;> omega) (hPn.out _ (by omega))).trans (blk_at (w.alloc (.cells #[.int .i64 0, .string ⟨#[]⟩, .int .i64 0, .int .i64 0] 33)) _ _ (by simp)); have P1 : w1.heap[w.heap.size]? = some (.cells #[.int .i64 0, .string ⟨#[]⟩, .int .i64 0, .int .i64 0] 33) := (hk1.block w.heap.size (by simp <;> omega) (hPn.out _ (Nat.le_refl _))).trans (blk_alloc (blk_new w _) _); have s0 := blk_cell P1 0; have s1 := blk_cell P1 1; have s2 := blk_cell P1 2; have s3 := blk_cell P1 3; have sf := blk_frozen P1; have sl := blk_lt P1; simp at s0 s1 s2 s3; have t0 := blk_cell P2 0; have t1 := blk_cell P2 1; have t2 := blk_cell P2 2; have t3 := blk_cell P2 3; have tf := blk_frozen P2; have tl := blk_lt P2; simp at t0 t1 t2 t3)
      | (refine step_call3 rfl 41 (.tmp 17) (.tmp 21) (.tmp 25) _ rfl (.pointer (some ⟨q, 0, none⟩)) (.slice cla nc clc) (.int .i64 L) rfl rfl rfl (fun _ => callNext _ _) (HNx.out _ (by repeat (first | exact Below.refl _ _ | refine Below.setCell ?_ (by simp <;> omega) _ | refine Below.drew ?_ | refine Below.drewN ?_ _ | refine Below.alloc ?_ (by simp <;> omega) _))) ?_; rintro r w1 ⟨rfl, ⟨rb1, hQ1, hN1⟩, hk1⟩; refine ⟨_, rfl, ?_⟩; simp only [repV]; have hz1 := hk1.size; have P1 : w1.heap[w.heap.size]? = some (.cells #[.int .i64 0, .string ⟨#[]⟩, .int .i64 0, .int .i64 0] 33) := (hk1.block w.heap.size (by simp <;> omega) (hPn.out _ (Nat.le_refl _))).trans (blk_new w _); have s0 := blk_cell P1 0; have s1 := blk_cell P1 1; have s2 := blk_cell P1 2; have s3 := blk_cell P1 3; have sf := blk_frozen P1; have sl := blk_lt P1; simp at s0 s1 s2 s3))
    all_goals go_wp2_with fail
    all_goals
      refine bodyPost_ret (v := .agg #[.int .i64 1, .string rt, .int .i64 rc, .int .i64 rpp]) (by simp [results, Tryz.results20, go_sem, *]) rfl ?_
      have hk0 : Kept (May q rb) w w1 := (Kept.of_below (w' := _) (by repeat (first | exact Below.refl _ _ | refine Below.setCell ?_ (by simp <;> omega) _ | refine Below.drew ?_ | refine Below.drewN ?_ _ | refine Below.alloc ?_ (by simp <;> omega) _)) (May q rb)).trans hk1 (fun _ _ e => e)
      have hN0 : Nb w rb rb1 := Nb.up hN1 (by simp <;> omega)
      refine fin_yes (rb1 := rb1) HS.out HCl.out HP.out hnx.out hRp.out hrk HO.out ?_ hN0 ?_
      · first
          | (have h9 := P2; exact (hQ1.keptL P2 (by decide) (kept4 _ _ _ _ _ _)).keptL (((kept4 _ _ _ _ _ _).block w.heap.size (blk_lt P1) (by omega)).trans P1) (by decide) (kept4 _ _ _ _ _ _))
          | exact (hQ1.keptL P1 (by decide) (kept4 _ _ _ _ _ _)).below ((Below.refl _ _).alloc (Nat.le_refl _) _)
      · first
          | (have h9 := P2; exact (hk0.trans (kept4 _ (w.heap.size + 1) _ _ _ _) (fun i hi e => absurd hi (by omega))).trans (kept4 _ w.heap.size _ _ _ _) (fun i hi e => absurd hi (by omega)))
          | exact (hk0.trans (kept4 _ w.heap.size _ _ _ _) (fun i hi e => absurd hi (by omega))).alloc _
  · have h1' : ¬ R.1 = 1 := fun e => h1 (hrk.symm.trans e)
    clear hrk
    go_enter Tryz.func20, Tryz.ntmps20
    go_wp2_with fail
    go_region_law (first
      | (refine step_call3 rfl 41 (.tmp 17) (.tmp 21) (.tmp 25) _ rfl (.pointer (some ⟨q, 0, none⟩)) (.slice cla nc clc) (.int .i64 L) rfl rfl rfl (fun _ => callNext _ _) (HNx.out _ (by repeat (first | exact Below.refl _ _ | refine Below.setCell ?_ (by simp <;> omega) _ | refine Below.drew ?_ | refine Below.drewN ?_ _ | refine Below.alloc ?_ (by simp <;> omega) _))) ?_; rintro r w1 ⟨rfl, ⟨rb1, hQ1, hN1⟩, hk1⟩; refine ⟨_, rfl, ?_⟩; simp only [repV]; have hz1 := hk1.size; have P2 : w1.heap[w.heap.size + 1]? = some (.cells #[.int .i64 0, .string ⟨#[]⟩, .int .i64 0, .int .i64 0] 33) := (hk1.block (w.heap.size + 1) (by simp <;> omega) (hPn.out _ (by omega))).trans (blk_at (w.alloc (.cells #[.int .i64 0, .string ⟨#[]⟩, .int .i64 0, .int .i64 0] 33)) _ _ (by simp)); have P1 : w1.heap[w.heap.size]? = some (.cells #[.int .i64 0, .string ⟨#[]⟩, .int .i64 0, .int .i64 0] 33) := (hk1.block w.heap.size (by simp <;> omega) (hPn.out _ (Nat.le_refl _))).trans (blk_alloc (blk_new w _) _); have s0 := blk_cell P1 0; have s1 := blk_cell P1 1; have s2 := blk_cell P1 2; have s3 := blk_cell P1 3; have sf := blk_frozen P1; have sl := blk_lt P1; simp at s0 s1 s2 s3; have PX : PsB w1 x S.lim (.slice cla S.cls.length clc) (.pointer (some ⟨q, 0, none⟩)) := (hk1.block x (by simp <;> omega) hnx.out).trans (blk_alloc (blk_alloc HP.out _) _); have t0 := blk_cell P2 0; have t1 := blk_cell P2 1; have t2 := blk_cell P2 2; have t3 := blk_cell P2 3; have tf := blk_frozen P2; have tl := blk_lt P2; simp at t0 t1 t2 t3)
      | (refine step_call3 rfl 41 (.tmp 17) (.tmp 21) (.tmp 25) _ rfl (.pointer (some ⟨q, 0, none⟩)) (.slice cla nc clc) (.int .i64 L) rfl rfl rfl (fun _ => callNext _ _) (HNx.out _ (by repeat (first | exact Below.refl _ _ | refine Below.setCell ?_ (by simp <;> omega) _ | refine Below.drew ?_ | refine Below.drewN ?_ _ | refine Below.alloc ?_ (by simp <;> omega) _))) ?_; rintro r w1 ⟨rfl, ⟨rb1, hQ1, hN1⟩, hk1⟩; refine ⟨_, rfl, ?_⟩; simp only [repV]; have hz1 := hk1.size; have P1 : w1.heap[w.heap.size]? = some (.cells #[.int .i64 0, .string ⟨#[]⟩, .int .i64 0, .int .i64 0] 33) := (hk1.block w.heap.size (by simp <;> omega) (hPn.out _ (Nat.le_refl _))).trans (blk_new w _); have s0 := blk_cell P1 0; have s1 := blk_cell P1 1; have s2 := blk_cell P1 2; have s3 := blk_cell P1 3; have sf := blk_frozen P1; have sl := blk_lt P1; simp at s0 s1 s2 s3; have PX : PsB w1 x S.lim (.slice cla S.cls.length clc) (.pointer (some ⟨q, 0, none⟩)) := (hk1.block x (by simp <;> omega) hnx.out).trans (blk_alloc HP.out _)))
    all_goals go_wp2_with (go_at_call 29; refine (pstop_any x _ ⟨S.lim, .slice cla S.cls.length clc, .pointer (some ⟨q, 0, none⟩), by first | (have h9 := P2; exact ((kept4 _ _ _ _ _ _).block x (blk_lt PX) (by omega)).trans PX) | exact blk_alloc PX _⟩).mono ?_; rintro r w2 ⟨rfl, h2⟩; subst h2)
    all_goals
      refine bodyPost_ret (v := .agg #[.int .i64 rk, .string rt, .int .i64 rc, .int .i64 rpp]) (by simp [results, Tryz.results20, go_sem, *]) rfl ?_
      have hk0 : Kept (May q rb) w w1 := (Kept.of_below (w' := _) (by repeat (first | exact Below.refl _ _ | refine Below.setCell ?_ (by simp <;> omega) _ | refine Below.drew ?_ | refine Below.drewN ?_ _ | refine Below.alloc ?_ (by simp <;> omega) _)) (May q rb)).trans hk1 (fun _ _ e => e)
      have hk2 : Kept (fun k => k = x ∨ MayO (some (q, rb)) k) w w1 := hk0.mono (fun _ _ e => .inr e)
      refine fin_no (vC := .slice cla S.cls.length clc) HS.out HCl.out ?_ hRp.out h1' ?_
      · first
          | (have h9 := P2; have P3 := blk_set (((kept4 w1 (w.heap.size + 1) (.int .i64 rk) (.string rt) (.int .i64 rc) (.int .i64 rpp)).block x (blk_lt PX) (by omega)).trans PX) 2 (.pointer none); exact ((kept4 _ w.heap.size _ _ _ _).block x (blk_lt P3) (by omega)).trans P3)
          | (have P3 := blk_set (blk_alloc PX (.cells #[.int .i64 rk, .string rt, .int .i64 rc, .int .i64 rpp] 33)) 2 (.pointer none); exact ((kept4 _ w.heap.size _ _ _ _).block x (blk_lt P3) (by omega)).trans P3)
      · first
          | (have h9 := P2; exact ((hk2.trans (kept4 _ (w.heap.size + 1) _ _ _ _) (fun i hi e => absurd hi (by omega))).setCell (p := ⟨x, 2, none⟩) (.inr (.inl rfl)) _).trans (kept4 _ w.heap.size _ _ _ _) (fun i hi e => absurd hi (by omega)))
          | exact ((hk2.alloc _).setCell (p := ⟨x, 2, none⟩) (.inr (.inl rfl)) _).trans (kept4 _ w.heap.size _ _ _ _) (fun i hi e => absurd hi (by omega))
end Go.Proofs.YtpdikdnffehmkaaGreatDoor
/- The program's session: More without a question, Stop. -/
namespace Go.Proofs.YtpdikdnffehmkaaGreatDoor
open Go.RowKit
variable {nm : Value}
set_option maxHeartbeats 1000000 in
theorem pmore_none (F : Nat → Prop) (w : World) (x : Nat) (oq : Option (Nat × Option Nat)) (S : Rf.Se) (hSQ : S.q = none) (h : SeAt F w x oq nm S) :
    Calls Tryz.prog 20 #[.pointer (some ⟨x, 0, none⟩)] w fun r w' => r = .returned (repV (Rf.repK 3)) ∧ Below w.heap.size w w' := by
  obtain ⟨vC, vQ, hPB, hCl, hQu⟩ := h.ex
  rw [hSQ] at hQu
  have hQ : vQ = .pointer none := by
    cases oq with
    | none => exact hQu
    | some _ => exact hQu.elim
  subst hQ
  obtain ⟨k0, k1, k2, kf, kl⟩ := hPB.facts
  clear h hPB hCl hQu hSQ
  go_enter Tryz.func20, Tryz.ntmps20
  go_wp2_with fail
  refine bodyPost_ret (v := .agg #[.int .i64 3, .string ⟨#[]⟩, .int .i64 0, .int .i64 0]) (by simp [results, Tryz.results20, go_sem, *]) rfl ?_
  exact ⟨rfl, (by repeat (first | exact Below.refl _ _ | refine Below.setCell ?_ (by simp <;> omega) _ | refine Below.drew ?_ | refine Below.drewN ?_ _ | refine Below.alloc ?_ (by simp <;> omega) _))⟩
end Go.Proofs.YtpdikdnffehmkaaGreatDoor
/- The program's session: Ask at a text that is no question. -/
namespace Go.Proofs.YtpdikdnffehmkaaGreatDoor
open Go.RowKit
variable {nm : Value}
set_option maxHeartbeats 1000000 in
set_option maxRecDepth 100000 in
theorem pask_bad (F : Nat → Prop) (w : World) (x : Nat) (oq : Option (Nat × Option Nat)) (S : Rf.Se) (s : ByteArray) (hm : s.size ≤ maxLen) (h : SeAt F w x oq nm S) (e : Int) (p : Nat) (hr : Rf.questS s = .error (e, p)) :
    Calls Tryz.prog 17 #[.pointer (some ⟨x, 0, none⟩), .string s] w fun r w' => SePost F w x oq nm (⟨4, ⟨#[]⟩, e, p⟩, ⟨S.lim, S.cls, none⟩) r w' := by
  obtain ⟨vC, vQ, hPB, hCl, hQu⟩ := h.ex
  obtain ⟨k0, k1, k2, kf, kl⟩ := hPB.facts
  have HS : Hid _ := h
  have HP : Hid (PsB w x S.lim vC vQ) := hPB
  have HCl : Hid _ := hCl
  have HR : Hid _ := hr
  clear h hPB hCl hQu hr
  go_enter Tryz.func17, Tryz.ntmps17
  go_wp2_with (first
    | (go_at_call 38; refine (pquest_any s _ hm).mono ?_; rintro r w2 ⟨hb2, hP2⟩; rw [HR.out] at hP2; obtain ⟨hv, hne⟩ := hP2; subst hv; have hz2 := hb2.size; have PR : w2.heap[w.heap.size]? = some (.cells #[.int .i64 0, .string ⟨#[]⟩, .int .i64 0, .int .i64 0] 33) := (hb2.block w.heap.size (by simp)).trans (by first | exact PW | exact blk_at _ _ _ (by simp)); have s0 := blk_cell PR 0; have s1 := blk_cell PR 1; have s2 := blk_cell PR 2; have s3 := blk_cell PR 3; have sf := blk_frozen PR; have sl := blk_lt PR; simp at s0 s1 s2 s3)
    | (go_at_call 29; refine (pstop_any x _ ⟨_, _, _, blk_alloc HP.out _⟩).mono ?_; rintro r w1 ⟨rfl, h1⟩; subst h1; have PW := ((Kept.setCell (p := ⟨x, 2, none⟩) (Kept.refl (fun k => k = x) (w.alloc (.cells #[.int .i64 0, .string ⟨#[]⟩, .int .i64 0, .int .i64 0] 33))) (.inr rfl) (.pointer none)).block w.heap.size (by simp) (by omega)).trans (blk_new w _)))
  refine bodyPost_ret (v := .agg #[.int .i64 4, .string ⟨#[]⟩, .int .i64 e, .int .i64 p]) (by simp [results, Tryz.results17, go_sem, *]) rfl ?_
  have hk1 : Kept (fun k => k = x ∨ MayO oq k) w w2 := ((((Kept.refl _ w).setCell (p := ⟨x, 2, none⟩) (.inr (.inl rfl)) _).alloc _).trans (Kept.of_below hb2 (fun _ => False)) (fun _ _ e => absurd e id))
  have P3 := (hb2.block x (by simp; omega)).trans (blk_alloc (blk_set HP.out 2 (.pointer none)) _)
  refine ⟨rfl, se_no (vC := vC) HS.out HCl.out ?_ ?_, ?_⟩
  · exact ((kept4 _ w.heap.size _ _ _ _).block x (blk_lt P3) (by omega)).trans P3
  · exact hk1.trans (kept4 _ w.heap.size _ _ _ _) (fun i hi e => absurd hi (by omega))
  · exact hk1.trans (kept4 _ w.heap.size _ _ _ _) (fun i hi e => absurd hi (by omega))
end Go.Proofs.YtpdikdnffehmkaaGreatDoor
