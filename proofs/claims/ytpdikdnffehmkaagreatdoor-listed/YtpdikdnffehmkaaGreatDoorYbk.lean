/- The program's question (play: take): the plain function's answers. -/
import Derived.Test.YtpdikdnffehmkaaGreatDoorYbj
import Derived.Deep.LoopGhost
import Derived.Test.YtpdikdnffehmkaaGreatDoorYay
namespace Go.Proofs.YtpdikdnffehmkaaGreatDoor
open Go.RowKit
variable {nm : Value}
theorem matchN_len (S : Rf.St) : ∀ (i : Nat) (cs : List Rf.Cl), (Rf.matchN S i cs).length ≤ cs.length
  | _, [] => by simp [Rf.matchN]
  | i, c :: cs => by
    have := matchN_len S (i + 1) cs
    rw [Rf.matchN, List.length_append, List.length_cons]
    split
    · simp only [List.length_cons, List.length_nil]; omega
    · simp only [List.length_nil]; omega
set_option maxHeartbeats 1000000 in
theorem pbuiltInA_any (a : Option Addr) (n c : Nat) (A : List Rf.Part) (w : World) (h : Seen w 117 partCells (.slice a n c) A) :
    Calls Tryz.prog 122 #[.slice a n c] w fun r w' => r = .returned (.bool ((Rf.topP A).kind == 3 && Rf.builtInB (Rf.topP A).name (Rf.topP A).args)) ∧ Below w.heap.size w w' := by
  by_cases h3 : (Rf.topP A).kind = 3
  · cases A with
    | nil => exact absurd h3 (by decide)
    | cons p rest =>
      obtain ⟨g, off, rfl⟩ := h.pos (by simp)
      have h3' : p.kind = 3 := h3
      have hb : ((Rf.topP (p :: rest)).kind == 3) = true := by rw [h3]; rfl
      rw [hb, Bool.true_and]
      exact pbuiltIn_any g off n c p rest w h h3'
  · have hb : ((Rf.topP A).kind == 3) = false := beq_eq_false_iff_ne.2 h3
    have hb' : ((Rf.topP A).kind != 3) = true := bne_iff_ne.2 h3
    have HV : Hid (((Rf.topP A).kind == 3 && Rf.builtInB (Rf.topP A).name (Rf.topP A).args) = false) := by unfold Hid; rw [hb]; rfl
    have H : Hid _ := h
    obtain ⟨p, hp⟩ : ∃ p, Hid (Rf.topP A = p) := ⟨_, rfl⟩
    rw [hp.out] at hb hb'
    clear h h3
    go_enter Tryz.func122, Tryz.ntmps122
    go_wp2_with (go_at_call 121; refine (ptopA_any a n c A _ H.out).mono ?_; rintro r w1 ⟨rfl, hb1⟩; rw [hp.out]; have hs1 := hb1.size)
    go_ret
    exact ⟨ret_bool HV.out.symm, hb1.alloc hs1 _⟩
set_option maxHeartbeats 2000000 in
set_option maxRecDepth 100000 in
theorem ptake_any (w : World) (q : Nat) (rb : Option Nat) (names : List ByteArray) (cf : Rf.Cf) (vc : Value) (cls : List Rf.Cl) (N : Nat) (F : Int) (h : QAt nm w q rb names cf) (hC : SeenCls w vc cls) (hG : Rf.StG N F cf.now) (hN : N ≤ 9000) (hF : F ≤ 1000000) (hne : cf.now.goals ≠ []) (hcg : Rf.ClsG cls) (hl20 : cf.chs.length ≤ 20) (hl30 : cls.length ≤ 30) :
    Calls Tryz.prog 89 #[.pointer (some ⟨q, 0, none⟩), vc] w fun r w' => r = .returned (.int .i64 (Rf.takeP cls cf).1) ∧ (∃ rb', QAt nm w' q rb' names (Rf.takeP cls cf).2 ∧ Nb w rb rb') ∧ Kept (May q rb) w w' := by
  obtain ⟨vg, vt, fr, vC, hQ⟩ := h.ex
  obtain ⟨k0, k1, k2, k3, k4, kf, kl⟩ := hQ.b.facts
  obtain ⟨ag, cg, rfl⟩ := hQ.s.g.slice
  obtain ⟨g, off, rfl, hgl, _, hp1, hp2⟩ := hQ.s.g.pos hne
  obtain ⟨ta, tc, rfl⟩ := hQ.s.t.slice
  obtain ⟨cla, clc, rfl⟩ := hC.slice
  obtain ⟨⟨xa, xn, xc⟩, hx, hX⟩ := hQ.s.g.first hne
  simp only at hx hX
  have hgt := Rf.goalP_tm hG hne
  have HX : Hid (Seen w 117 partCells (.slice xa xn xc) (Rf.goalP cf.now)) := hX
  have HQ : Hid _ := hQ
  have HQA : Hid _ := h
  have HC : Hid _ := hC
  have HG : Hid _ := hG
  have Hne : Hid _ := hne
  have HCG : Hid (Rf.ClsG cls) := hcg
  have HGT : Hid _ := hgt
  have HU : Hid (Rf.takeP cls cf = if Rf.isBuilt (Rf.goalP cf.now) = true then Rf.builtP cf (Rf.goalP cf.now) else if Rf.knownP cf.now cls = true then Rf.chooseP cls cf (Rf.matchN cf.now 0 cls) else (12, cf)) := rfl
  obtain ⟨A, hA⟩ : ∃ A, Hid (Rf.goalP cf.now = A) := ⟨_, rfl⟩
  rw [hA.out] at HX HGT HU
  obtain ⟨p, hp⟩ : ∃ p, Hid (Rf.topP A = p) := ⟨_, rfl⟩
  have HIB : Hid (Rf.isBuilt A = (p.kind == 4 || (p.kind == 3 && Rf.builtInB p.name p.args))) := by unfold Hid Rf.isBuilt; rw [hp.out]
  clear h hQ hC hG hne hcg hX hgt
  by_cases h4 : p.kind = 4
  · have h4' : (p.kind == 4) = true := by rw [h4]; rfl
    have HU0 : Hid (Rf.takeP cls cf = Rf.builtP cf A) := by unfold Hid; rw [HU.out, HIB.out, h4']; rfl
    clear HU HIB
    go_enter Tryz.func89, Tryz.ntmps89
    go_wp2_with (first
      | (go_at_call 121; refine (ptopA_any xa xn xc A _ HX.out).mono ?_; rintro r w1 ⟨rfl, hb1⟩; rw [hp.out]; have hz1 := hb1.size)
      | (go_at_call 123; refine (pbuilt_any _ q rb names cf xa xn xc A N F (HQA.out.below (hb1.alloc hz1 _)) (HX.out.below (hb1.alloc hz1 _)) HG.out hN Hne.out HGT.out.1 HGT.out.2 hl20).mono ?_; rintro r w2 ⟨rfl, ⟨rb', hQ2, hnb⟩, hk2⟩))
    go_ret
    rw [HU0.out]
    exact ⟨rfl, ⟨rb', hQ2, Nb.up hnb (by rw [World.size_alloc]; omega)⟩, (Kept.of_below (hb1.alloc hz1 _) (May q rb)).trans hk2 (fun _ _ h => h)⟩
  · have h4' : (p.kind == 4) = false := beq_eq_false_iff_ne.2 h4
    cases hbi : (p.kind == 3 && Rf.builtInB p.name p.args)
    · have HU1 : Hid (Rf.takeP cls cf = if Rf.knownP cf.now cls = true then Rf.chooseP cls cf (Rf.matchN cf.now 0 cls) else (12, cf)) := by unfold Hid; rw [HU.out, HIB.out, hbi, h4']; simp
      clear HU HIB
      obtain ⟨kn, hkn⟩ : ∃ kn, Hid (Rf.knownP cf.now cls = kn) := ⟨_, rfl⟩
      have hml : (Rf.matchN cf.now 0 cls).length ≤ 30 := Nat.le_trans (matchN_len cf.now 0 cls) hl30
      cases kn
      · have HU0 : Hid (Rf.takeP cls cf = (12, cf)) := by unfold Hid; rw [HU1.out, hkn.out]; rfl
        clear HU1
        go_enter Tryz.func89, Tryz.ntmps89
        go_wp2_with (first
          | (go_at_call 121; refine (ptopA_any xa xn xc A _ HX.out).mono ?_; rintro r w1 ⟨rfl, hb1⟩; rw [hp.out]; have hz1 := hb1.size)
          | (go_at_call 122; refine (pbuiltInA_any xa xn xc A _ (HX.out.below (hb1.alloc hz1 _))).mono ?_; rintro r w2 ⟨rfl, hb2⟩; rw [hp.out, hbi]; have hbw2 : Below w.heap.size w w2 := (hb1.alloc hz1 _).trans (hb2.mono (by rw [World.size_alloc]; omega)); have hz2 := hbw2.size; obtain ⟨l0, l1, l2, l3, l4, lf, ll⟩ := (HQ.out.below hbw2).b.facts)
          | (go_at_call 124; refine (pmatching_any _ (.slice (some ⟨g, off, none⟩) cf.now.goals.length cg) (.slice ta cf.now.terms.length tc) fr cf.now (.slice cla cls.length clc) cls N F (HQ.out.s.below hbw2) HG.out hN hF Hne.out (HC.out.below hbw2) HCG.out hl30).mono ?_; rintro r w3 ⟨a3, n3, c3, rfl, hM3, hb3⟩; rw [hkn.out]; have hbw3 : Below w.heap.size w w3 := hbw2.trans (hb3.mono hz2); have hz3 := hbw3.size))
        go_ret
        rw [HU0.out]
        exact ⟨rfl, ⟨rb, HQA.out.below hbw3, .inl rfl⟩, Kept.of_below hbw3 _⟩
      · have HU0 : Hid (Rf.takeP cls cf = Rf.chooseP cls cf (Rf.matchN cf.now 0 cls)) := by unfold Hid; rw [HU1.out, hkn.out]; rfl
        clear HU1
        go_enter Tryz.func89, Tryz.ntmps89
        go_wp2_with (first
          | (go_at_call 121; refine (ptopA_any xa xn xc A _ HX.out).mono ?_; rintro r w1 ⟨rfl, hb1⟩; rw [hp.out]; have hz1 := hb1.size)
          | (go_at_call 122; refine (pbuiltInA_any xa xn xc A _ (HX.out.below (hb1.alloc hz1 _))).mono ?_; rintro r w2 ⟨rfl, hb2⟩; rw [hp.out, hbi]; have hbw2 : Below w.heap.size w w2 := (hb1.alloc hz1 _).trans (hb2.mono (by rw [World.size_alloc]; omega)); have hz2 := hbw2.size; obtain ⟨l0, l1, l2, l3, l4, lf, ll⟩ := (HQ.out.below hbw2).b.facts)
          | (go_at_call 124; refine (pmatching_any _ (.slice (some ⟨g, off, none⟩) cf.now.goals.length cg) (.slice ta cf.now.terms.length tc) fr cf.now (.slice cla cls.length clc) cls N F (HQ.out.s.below hbw2) HG.out hN hF Hne.out (HC.out.below hbw2) HCG.out hl30).mono ?_; rintro r w3 ⟨a3, n3, c3, rfl, hM3, hb3⟩; rw [hkn.out]; have hbw3 : Below w.heap.size w w3 := hbw2.trans (hb3.mono hz2); have hz3 := hbw3.size)
          | (go_at_call 125; refine (pchoose_any _ q rb names cf (.slice cla cls.length clc) cls a3 n3 c3 (Rf.matchN cf.now 0 cls) N F (HQA.out.below hbw3) (HC.out.below hbw3) hM3 HG.out hN hF Hne.out HCG.out (fun j hj => by have := Rf.matchN_lt cf.now 0 cls j hj; omega) hl20 hml).mono ?_; rintro r w4 ⟨rfl, ⟨rb', hQ4, hnb⟩, hk4⟩))
        go_ret
        rw [HU0.out]
        exact ⟨rfl, ⟨rb', hQ4, Nb.up hnb hz3⟩, (Kept.of_below hbw3 (May q rb)).trans hk4 (fun _ _ h => h)⟩
    · have HU0 : Hid (Rf.takeP cls cf = Rf.builtP cf A) := by unfold Hid; rw [HU.out, HIB.out, hbi]; simp
      clear HU HIB
      go_enter Tryz.func89, Tryz.ntmps89
      go_wp2_with (first
        | (go_at_call 121; refine (ptopA_any xa xn xc A _ HX.out).mono ?_; rintro r w1 ⟨rfl, hb1⟩; rw [hp.out]; have hz1 := hb1.size)
        | (go_at_call 122; refine (pbuiltInA_any xa xn xc A _ (HX.out.below (hb1.alloc hz1 _))).mono ?_; rintro r w2 ⟨rfl, hb2⟩; rw [hp.out, hbi]; have hbw2 : Below w.heap.size w w2 := (hb1.alloc hz1 _).trans (hb2.mono (by rw [World.size_alloc]; omega)); have hz2 := hbw2.size; obtain ⟨l0, l1, l2, l3, l4, lf, ll⟩ := (HQ.out.below hbw2).b.facts)
        | (go_at_call 123; refine (pbuilt_any _ q rb names cf xa xn xc A N F (HQA.out.below hbw2) (HX.out.below hbw2) HG.out hN Hne.out HGT.out.1 HGT.out.2 hl20).mono ?_; rintro r w3 ⟨rfl, ⟨rb', hQ3, hnb⟩, hk3⟩))
      go_ret
      rw [HU0.out]
      exact ⟨rfl, ⟨rb', hQ3, Nb.up hnb hz2⟩, (Kept.of_below hbw2 (May q rb)).trans hk3 (fun _ _ h => h)⟩
end Go.Proofs.YtpdikdnffehmkaaGreatDoor
/- The program's question (play: play): the plain function's answers. -/
namespace Go.Proofs.YtpdikdnffehmkaaGreatDoor
open Go.RowKit
variable {nm : Value}
theorem kept_nb {w w1 w2 : World} {q : Nat} {rb rb' : Option Nat} (h : Kept (May q rb) w w1) (hn : Nb w rb rb') (k : Kept (May q rb') w1 w2) : Kept (May q rb) w w2 :=
  h.trans k (fun i hi hm => by
    rcases hm with rfl | hm
    · exact .inl rfl
    · rcases hn with e | ⟨j, e, hj⟩
      · exact .inr (by rw [← e]; exact hm)
      · rw [e] at hm; injection hm with hm; omega)
theorem nb_trans {w w1 : World} {rb rb' rb'' : Option Nat} (h : Nb w rb rb') (k : Nb w1 rb' rb'') (hs : w.heap.size ≤ w1.heap.size) : Nb w rb rb'' := Nb.trans h k hs
/-- A question that is played: between two steps. -/
structure PlAt (w : World) (cls : List Rf.Cl) (n q : Nat) (rb : Option Nat) (names : List ByteArray) (t : Nat) (r : Int × Rf.Cf) (wr : World) : Prop where
  ex : ∃ rb', QAt nm wr q rb' names r.2 ∧ Nb w rb rb'
  kept : Kept (May q rb) w wr
  kep : Rf.Kep cls n t r
set_option maxHeartbeats 2000000 in
set_option maxRecDepth 100000 in
theorem pplay_any (w : World) (q : Nat) (rb : Option Nat) (names : List ByteArray) (cf : Rf.Cf) (vc : Value) (cls : List Rf.Cl) (lim n : Nat) (o : Int) (h : QAt nm w q rb names cf) (hC : SeenCls w vc cls) (hK : Rf.Kep cls n 0 (o, cf)) (hcg : Rf.ClsG cls) (hck : Rf.ClsK cls) (hl30 : cls.length ≤ 30) (hlim : lim ≤ 1000) :
    Calls Tryz.prog 63 #[.pointer (some ⟨q, 0, none⟩), vc, .int .i64 (lim : Nat), .int .i64 o] w fun r w' => r = .returned (.int .i64 (Rf.playN cls lim (o, cf)).1) ∧ (∃ rb', QAt nm w' q rb' names (Rf.playN cls lim (o, cf)).2 ∧ Nb w rb rb') ∧ Kept (May q rb) w w' := by
  have HF : Hid (Free w (May q rb)) := by obtain ⟨_, _, _, _, hQ⟩ := h.ex; exact hQ.free
  have HC : Hid _ := hC
  have HQ : Hid _ := h
  have HK : Hid _ := hK
  have HCG : Hid (Rf.ClsG cls) := hcg
  have HCK : Hid (Rf.ClsK cls) := hck
  obtain ⟨cla, clc, rfl⟩ := hC.slice
  clear h hC hK hcg hck
  obtain ⟨R, hR⟩ : ∃ R, Hid (Rf.playN cls lim (o, cf) = R) := ⟨_, rfl⟩
  rw [hR.out]
  go_enter Tryz.func63, Tryz.ntmps63
  go_wp2_with fail
  go_loopg [3, 9] (lim + 1) (fun m ov tv wr => ∃ (t : Nat) (r : Int × Rf.Cf), t ≤ lim ∧ m = lim + 1 - t ∧ tv = .int .i64 (t : Nat) ∧ ov = .int .i64 r.1 ∧ PlAt w cls n q rb names t r wr ∧ Hid (Rf.playN cls (lim - t) r = R))
  case atStart => exact ⟨0, (o, cf), Nat.zero_le _, rfl, rfl, rfl, ⟨⟨rb, HQ.out, .inl rfl⟩, Kept.refl _ _, HK.out⟩, by unfold Hid; exact hR.out⟩
  case round =>
    obtain ⟨t, r, ht, rfl, rfl, rfl, hP, hres⟩ := hrel
    obtain ⟨wo, rfl⟩ : ∃ wo : World, wo = wr := ⟨_, rfl⟩
    have hset := Rf.playN_eq cls (lim - t) r
    rw [hres.out] at hset
    have Hset : Hid _ := hset
    have HP : Hid _ := hP
    clear hset hP hres
    go_wp2_with fail
    go_loopg [3] (Rf.leftC r.2.chs + 1) (fun m ov wi => ∃ (r' : Int × Rf.Cf), ov = .int .i64 r'.1 ∧ (r'.1 = -1 → Rf.leftC r'.2.chs + 1 ≤ m) ∧ PlAt w cls n q rb names t r' wi ∧ Hid (Rf.settle cls r = Rf.settle cls r'))
    case atStart => exact ⟨r, rfl, fun _ => Nat.le_refl _, HP.out, rfl⟩
    case round =>
      obtain ⟨r', rfl, hm, hP, hs⟩ := hrel
      obtain ⟨o1, cf1⟩ := r'
      simp only at hm
      have hg1 := hP.kep.cf
      obtain ⟨⟨rb1, hQ1, hN1⟩, hk1, hkep⟩ := hP
      simp only at hQ1 hg1
      have hz1 := hk1.size
      have HQ1 : Hid _ := hQ1
      have HN1 : Hid _ := hN1
      have HKep : Hid _ := hkep
      have Hg1 : Hid _ := hg1
      have HC1 : Hid _ := HC.out.kept hk1 HF.out
      clear hQ1 hN1 hkep hg1
      by_cases h1 : o1 = -1
      · subst h1
        have hm := hm rfl
        obtain ⟨m', rfl⟩ : ∃ m', gk = m' + 1 := ⟨gk - 1, by omega⟩
        have Hs2 : Hid (Rf.settle cls r = Rf.settle cls (Rf.againP cls cf1)) := by unfold Hid; rw [hs.out, Rf.settle_fail]
        have Hle : Hid ((Rf.againP cls cf1).1 = -1 → Rf.leftC (Rf.againP cls cf1).2.chs + 1 ≤ m') := fun e => by
          by_cases hc : cf1.chs = []
          · rw [Rf.again_none hc] at e; simp at e
          · have := Rf.again_left (cs := cls) hc; omega
        clear hs
        go_wp2_with (go_at_call 88; refine (pagain_any _ q rb1 names cf1 (.slice cla cls.length clc) cls 1000 406400 t HQ1.out HC1.out Hg1.out (by omega) (by omega) HCG.out).mono ?_; rintro rr w2 ⟨rfl, ⟨rb2, hQ2, hN2⟩, hk2⟩)
        go_roundg m'
        case measure => omega
        case rel => exact ⟨Rf.againP cls cf1, rfl, Hle.out, ⟨⟨rb2, hQ2, nb_trans HN1.out hN2 hz1⟩, kept_nb hk1 HN1.out hk2, Rf.kep_again HCG.out HCK.out HKep.out⟩, Hs2⟩
      · have h1' : (o1 == -1) = false := beq_eq_false_iff_ne.2 h1
        have hsr : Rf.settle cls r = (o1, cf1) := by rw [hs.out]; exact Rf.settle_ok h1
        have Hs3 := Hset
        rw [hsr] at Hs3
        clear hs hm hsr Hset
        by_cases h0 : o1 = 0
        · subst h0
          have Hs4 : Hid (R = if cf1.now.goals = [] then (1, cf1) else match lim - t with
            | 0 => (5, cf1)
            | m + 1 => Rf.playN cls m (Rf.takeP cls cf1)) := by unfold Hid; rw [Hs3.out]; rfl
          clear Hs3
          obtain ⟨vg, vt, fr, vC, hqi⟩ := HQ1.out.ex
          obtain ⟨m0, m1, m2, m3, m4, mf, ml⟩ := hqi.b.facts
          obtain ⟨ga, gc, rfl⟩ := hqi.s.g.slice
          clear hqi
          by_cases hg : cf1.now.goals = []
          · have HR0 : Hid (R = (1, cf1)) := by unfold Hid; rw [Hs4.out, if_pos hg]
            have hgl : cf1.now.goals.length = 0 := by rw [hg]; rfl
            rw [hgl] at m1
            clear Hs4 hg hgl
            go_wp2_with fail
            go_ret
            rw [HR0.out]
            exact ⟨rfl, ⟨rb1, HQ1.out, HN1.out⟩, hk1⟩
          · have hgl : 1 ≤ cf1.now.goals.length := by
              cases hgc : cf1.now.goals with
              | nil => exact absurd hgc hg
              | cons => simp
            by_cases htl : t < lim
            · obtain ⟨d, hd⟩ : ∃ d, lim - t = d + 1 := ⟨lim - t - 1, by omega⟩
              have HR0 : Hid (Rf.playN cls (lim - (t + 1)) (Rf.takeP cls cf1) = R) := by unfold Hid; rw [Hs4.out, if_neg hg, hd, show lim - (t + 1) = d by omega]
              have Hgne : Hid _ := hg
              have htl' : ¬ ((lim : Int) ≤ t) := by omega
              have hglz : ((cf1.now.goals.length : Int) == 0) = false := by rw [beq_eq_false_iff_ne]; omega
              clear Hs4 hg
              go_wp2_with (go_at_call 89; refine (ptake_any _ q rb1 names cf1 (.slice cla cls.length clc) cls (1000 + 7 * (t + 1)) (406400 + 16 * (t + 1)) HQ1.out HC1.out Hg1.out.now (by omega) (by omega) Hgne.out HCG.out Hg1.out.len hl30).mono ?_; rintro rr w2 ⟨rfl, ⟨rb2, hQ2, hN2⟩, hk2⟩)
              go_roundg (lim + 1 - (t + 1))
              case measure => omega
              case rel => exact ⟨t + 1, Rf.takeP cls cf1, by omega, rfl, by go_num, rfl, ⟨⟨rb2, hQ2, nb_trans HN1.out hN2 hz1⟩, kept_nb hk1 HN1.out hk2, Rf.kep_take HCG.out HCK.out HKep.out Hgne.out⟩, HR0⟩
            · have hd : lim - t = 0 := by omega
              have HR0 : Hid (R = (5, cf1)) := by unfold Hid; rw [Hs4.out, if_neg hg, hd]
              have htl' : (lim : Int) ≤ t := by omega
              have hglz : ((cf1.now.goals.length : Int) == 0) = false := by rw [beq_eq_false_iff_ne]; omega
              clear Hs4 hg
              go_wp2_with fail
              go_ret
              rw [HR0.out]
              exact ⟨rfl, ⟨rb1, HQ1.out, HN1.out⟩, hk1⟩
        · have h0' : (o1 != 0) = true := bne_iff_ne.2 h0
          have HR0 : Hid (R = (o1, cf1)) := by unfold Hid; rw [Hs3.out, if_pos h0]
          clear Hs3
          go_wp2_with fail
          go_ret
          rw [HR0.out]
          exact ⟨rfl, ⟨rb1, HQ1.out, HN1.out⟩, hk1⟩
end Go.Proofs.YtpdikdnffehmkaaGreatDoor
/- The program's writer over a term that is only read (term: written, Answer). -/
namespace Go.Proofs.YtpdikdnffehmkaaGreatDoor
open Go.RowKit
set_option maxHeartbeats 2000000 in
set_option maxRecDepth 100000 in
theorem pwrittenS_any (b : Bool) (w : World) (a : Option Addr) (n c : Nat) (ps : List Rf.Part) (h : Seen w 117 partCells (.slice a n c) ps) (hg : ∀ x ∈ ps, Rf.GoodW b x) (h4 : ∀ x ∈ ps, 0 ≤ x.args ∧ x.args ≤ 4) (hl : ps.length ≤ 100000) (hT : Tab w) :
    Calls Tryz.prog 93 #[.slice a n c, .bool b] w fun r w' => r = .returned (.string (Rf.txtW b ps)) ∧ Below w.heap.size w w' := by
  have hn : n = ps.length := h.len
  subst hn
  have HH : Hid _ := h
  have Hg : Hid _ := hg
  have H4 : Hid _ := h4
  have HT : Hid _ := hT
  have hts := Rf.txtW_size b ps hg
  clear h hg h4 hT
  go_enter Tryz.func93, Tryz.ntmps93
  go_wp2_with fail
  go_loopg [5, 6, 12] (ps.length + 1) (fun m sv ov iv wr => ∃ k : Nat, k ≤ ps.length ∧ m = ps.length + 1 - k ∧ iv = .int .i64 k ∧ TxSt b w ps k sv ov wr)
  case atStart => exact ⟨0, by omega, rfl, rfl, ⟨#[]⟩, [], rfl, RowIs.nil _ _ _ _ _, Below.refl _ _, (fun x hx => by simp at hx), by simp, by unfold Hid Rf.txtW; rw [List.drop_zero, Rf.emp_app]⟩
  case round =>
    obtain ⟨k, hk, rfl, rfl, s, st, rfl, hrow, hbr, hst, hstl, hinv⟩ := hrel
    obtain ⟨a4, c4, hv4⟩ := row_slice hrow
    rw [List.length_reverse] at hv4
    subst hv4
    have hsz := hbr.size
    have hss : s.size ≤ 2400000 := by
      have h9 := congrArg ByteArray.size hinv.out
      rw [ByteArray.size_append] at h9
      omega
    by_cases hlt : k < ps.length
    · obtain ⟨gv, ov, rfl⟩ := HH.out.pos (by omega)
      have hgvl := HH.out.lt
      have hgvl' : gv < wr.heap.size := by omega
      have hmem : ps[k] ∈ ps := List.getElem_mem hlt
      obtain ⟨c0, c1, c2, c3⟩ := Seen.parts (HH.out.below hbr) k ps[k] (by simp [hlt])
      have hgd := Hg.out _ hmem
      have ha4 := H4.out _ hmem
      have hdrop : ps.drop k = ps[k] :: ps.drop (k + 1) := List.drop_eq_getElem_cons hlt
      rw [hdrop] at hinv
      clear hmem hdrop
      generalize ps[k] = p at *
      have hwz := Rf.wordW_size b p hgd
      have Hgd : Hid _ := hgd
      clear hgd
      have hlt' : (k : Int) < ps.length := by omega
      have Hnc : Hid (natCells p.args.toNat = [.int .i64 p.args]) := by unfold Hid natCells; rw [Int.toNat_of_nonneg ha4.1]
      by_cases hargs : 0 < p.args
      · have hinv2 : Hid (s ++ Rf.wordW b p ++ ⟨#[40]⟩ ++ Rf.textW b (ps.drop (k + 1)) (p.args.toNat :: st) = Rf.txtW b ps) := by
          have h9 := hinv.out
          rw [Rf.textW, if_pos hargs] at h9
          unfold Hid
          rw [← h9]
          simp only [ByteArray.append_assoc]
        go_wp2_with (first
          | (go_at_call 129; refine (word_part b p _ Hgd.out (Tab.below HT.out (hbr.alloc hsz _))).mono ?_; rintro r w1 ⟨rfl, hb1⟩; have hs1 := hb1.size; have hX1 := (hb1.block wr.heap.size (by simp)).trans (blk_new _ _); have x3 : w1.cell? ⟨wr.heap.size, 3, none⟩ = some (.int .i64 p.args) := blk_cell hX1 3; have hbw1 : Below w.heap.size w w1 := (hbr.alloc hsz _).trans (hb1.mono (by simp; omega)); have hsw1 := hbw1.size; have hrow1 := (hrow.alloc (.cells #[.int .i64 p.kind, .string p.name, .int .i64 p.value, .int .i64 p.args] 117)).below hb1)
          | (at_builtin; refine wpList_app Tryz.elemInt natCells natCells_len natCells_one _ rfl (.tmp 26) (.tmp 29) rfl w.heap.size _ st.reverse rfl (hrow1.alloc _) ⟨_, 0, none⟩ 1 p.args.toNat rfl (fun j v hj => cell_one_at _ _ rfl _ _ j v (by rw [← Hnc.out]; exact hj)) ?_ ?_ ?_; rw [List.length_reverse]; omega; (rw [World.size_alloc]; omega); intro gA capA w3 hrow3 hgr3 hnb3; rw [List.length_reverse] at hrow3))
        go_roundg (ps.length - k)
        case measure => omega
        case rel =>
          refine ⟨k + 1, by omega, by omega, by go_num, _, p.args.toNat :: st, rfl, ?_, ?_, ?_, by simp; omega, hinv2⟩
          · rw [List.reverse_cons]; exact hrow3
          · exact (hbw1.alloc hsw1 _).grown hgr3 (by rw [World.size_alloc]; omega) (fun j e => (hrow.lt j e).1)
          · intro x hx
            rcases List.mem_cons.1 hx with rfl | hx
            · omega
            · exact hst x hx
      · have hinv2 : Hid ((s ++ Rf.wordW b p) ++ ((Rf.closeP st).1 ++ Rf.textW b (ps.drop (k + 1)) (Rf.closeP st).2) = Rf.txtW b ps) := by
          have h9 := hinv.out
          rw [Rf.textW, if_neg hargs] at h9
          unfold Hid
          rw [← h9]
          simp only [ByteArray.append_assoc]
        have hnarg : p.args ≤ 0 := by omega
        have harg0 : decide (0 < p.args) = false := by simpa using hnarg
        obtain ⟨wo, rfl⟩ : ∃ wo : World, wo = wr := ⟨_, rfl⟩
        go_wp2_with (go_at_call 129; refine (word_part b p _ Hgd.out (Tab.below HT.out (hbr.alloc hsz _))).mono ?_; rintro r w1 ⟨rfl, hb1⟩; have hs1 := hb1.size; have hX1 := (hb1.block wo.heap.size (by simp)).trans (blk_new _ _); have x3 : w1.cell? ⟨wo.heap.size, 3, none⟩ = some (.int .i64 p.args) := blk_cell hX1 3; have hbw1 : Below w.heap.size w w1 := (hbr.alloc hsz _).trans (hb1.mono (by simp; omega)); have hsw1 := hbw1.size; have hrow1 := (hrow.alloc (.cells #[.int .i64 p.kind, .string p.name, .int .i64 p.value, .int .i64 p.args] 117)).below hb1)
        have hsw1' := hsw1
        clear hX1 x3 hinv
        go_loopg [5, 6] (st.length + 1) (fun m sv ov wi => ∃ (s2 : ByteArray) (st2 : List Nat), m = st2.length + 1 ∧ sv = .string s2 ∧ RowIs wi w.heap.size 3 1 natCells ov st2.reverse ∧ Below w.heap.size w wi ∧ (∀ x ∈ st2, 1 ≤ x ∧ x ≤ 4) ∧ st2.length ≤ k ∧ Hid (s2 ++ ((Rf.closeP st2).1 ++ Rf.textW b (ps.drop (k + 1)) (Rf.closeP st2).2) = Rf.txtW b ps))
        case atStart => exact ⟨_, st, rfl, rfl, hrow1, hbw1, hst, hstl, hinv2⟩
        case round =>
          obtain ⟨s2, st2, rfl, rfl, hrow2, hbw2, hst2, hstl2, hinv3⟩ := hrel
          have hss2 : s2.size ≤ 2400000 := by
            have h9 := congrArg ByteArray.size hinv3.out
            rw [ByteArray.size_append] at h9
            omega
          clear hrow1 hrow hinv2
          cases st2 with
          | nil =>
            obtain ⟨a5, c5, hv5⟩ := row_slice hrow2
            rw [List.reverse_nil, List.length_nil] at hv5
            subst hv5
            go_wp2_with fail
            go_roundg (ps.length - k)
            case measure => omega
            case rel => exact ⟨k + 1, by omega, by omega, by go_num, _, [], rfl, hrow2, hbw2, hst2, by simp, by have h9 := hinv3.out; rw [Rf.closeP, Rf.emp_app] at h9; exact h9⟩
          | cons x st3 =>
            rw [List.reverse_cons] at hrow2
            obtain ⟨gO, c5, hv5, _, hgO, hc5, hcm5⟩ := hrow2.shape.resolve_left (fun e => by have := congrArg List.length e.2; simp at this)
            rw [List.length_append, List.length_reverse, List.length_cons, List.length_nil] at hv5 hc5
            subst hv5
            have hcl := hrow2.cells natCells_len st3.length x (by simp) 0 _ rfl
            simp only [Nat.mul_one, Nat.add_zero] at hcl
            have hfz := row_frozen hrow2
            have hx14 := hst2 x (by simp)
            have hst3l : (st3.length : Int) ≤ 100000 := by simp only [List.length_cons] at hstl2; omega
            have hst3c : (st3.length : Int) + 1 ≤ (c5 : Int) := by omega
            have hst3 : ∀ y ∈ st3, 1 ≤ y ∧ y ≤ 4 := fun y hy => hst2 y (List.mem_cons_of_mem _ hy)
            have hset : ∀ y : Nat, (y : Int) = (x : Int) - 1 → RowIs (wr.setCell ⟨gO, st3.length, none⟩ (.int .i64 ((x : Int) - 1))) w.heap.size 3 1 natCells (.slice (some ⟨gO, 0, none⟩) (st3.length + 1) c5) (st3.reverse ++ [y]) := by
              intro y hy
              have h9 := row_setLast (x' := y) (u := .int .i64 ((x : Int) - 1)) natCells_len hrow2 (by unfold natCells; rw [hy])
              rw [List.length_reverse] at h9
              exact h9
            have Hset : Hid _ := hset
            have hgO2 := (hrow2.lt gO rfl).1
            have hbs : ∀ v, Below w.heap.size w (wr.setCell ⟨gO, st3.length, none⟩ v) := fun v => hbw2.setCell (p := ⟨gO, st3.length, none⟩) hgO2 v
            have Hbs : Hid _ := hbs
            clear hset hbs hst2
            by_cases hx1 : 1 < x
            · have hinv4 : Hid (s2 ++ ⟨#[44]⟩ ++ Rf.textW b (ps.drop (k + 1)) ((x - 1) :: st3) = Rf.txtW b ps) := by
                have h9 := hinv3.out
                rw [Rf.closeP, if_pos hx1] at h9
                unfold Hid
                rw [← h9, ByteArray.append_assoc]
              have hxi : (0 : Int) < (x : Int) - 1 := by omega
              go_wp2_with fail
              go_roundg (ps.length - k)
              case measure => omega
              case rel =>
                refine ⟨k + 1, by omega, by omega, by go_num, _, (x - 1) :: st3, rfl, ?_, Hbs.out _, ?_, ?_, hinv4⟩
                · rw [List.reverse_cons]; exact Hset.out (x - 1) (by omega)
                · intro y hy
                  rcases List.mem_cons.1 hy with rfl | hy
                  · omega
                  · exact hst3 y hy
                · simp only [List.length_cons] at hstl2 ⊢; omega
            · obtain rfl : x = 1 := by omega
              have hinv4 : Hid ((s2 ++ ⟨#[41]⟩) ++ ((Rf.closeP st3).1 ++ Rf.textW b (ps.drop (k + 1)) (Rf.closeP st3).2) = Rf.txtW b ps) := by
                have h9 := hinv3.out
                rw [Rf.closeP, if_neg hx1] at h9
                unfold Hid
                rw [← h9]
                simp only [ByteArray.append_assoc]
              go_wp2_with fail
              go_roundg (st3.length + 1)
              case measure => simp
              case rel =>
                refine ⟨_, st3, rfl, rfl, row_pop natCells_len (Hset.out 0 (by simp)), Hbs.out _, hst3, ?_, hinv4⟩
                simp only [List.length_cons] at hstl2; omega
    · obtain rfl : k = ps.length := by omega
      have hend : Hid (s = Rf.txtW b ps) := by
        have h9 := hinv.out
        rw [List.drop_length, Rf.textW, Rf.app_emp] at h9
        exact h9
      go_wp2_with fail
      go_ret
      exact ⟨ret_str hend.out, hbr⟩
set_option maxHeartbeats 400000 in
theorem answerS_any (w : World) (a : Option Addr) (n c : Nat) (ps : List Rf.Part) (h : Seen w 117 partCells (.slice a n c) ps) (hg : ∀ x ∈ ps, Rf.GoodA x) (h4 : ∀ x ∈ ps, 0 ≤ x.args ∧ x.args ≤ 4) (hl : ps.length ≤ 100000) (hT : Tab w) :
    Calls Tryz.prog 127 #[.slice a n c] w fun r w' => r = .returned (.string (Rf.txtA ps)) ∧ Below w.heap.size w w' := by
  have H : Hid _ := h
  have Hg : Hid _ := hg
  have H4 : Hid _ := h4
  have HT : Hid _ := hT
  clear h hg h4 hT
  go_enter Tryz.func127, Tryz.ntmps127
  go_wp2_with (go_at_call 93; refine (pwrittenS_any false _ a n c ps H.out Hg.out H4.out hl HT.out).mono ?_; rintro r w1 ⟨rfl, hb1⟩)
  go_ret
  exact ⟨rfl, hb1⟩
end Go.Proofs.YtpdikdnffehmkaaGreatDoor
