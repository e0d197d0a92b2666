/- The program's answers (play: text): the plain function's answers. -/
import Derived.Test.YtpdikdnffehmkaaDoorYas
import Derived.Test.YtpdikdnffehmkaaDoorYam
import Derived.Test.YtpdikdnffehmkaaDoorYab
namespace Rf
def tailQ : Bool → List (ByteArray × List Part) → ByteArray
  | _, [] => ⟨#[]⟩
  | b, x :: l => (if b = true then ⟨#[44, 32]⟩ else ⟨#[]⟩) ++ (lineQ x ++ tailQ true l)
theorem tailQ_true : ∀ l : List (ByteArray × List Part), tailQ true l = if l = [] then ⟨#[]⟩ else ⟨#[44, 32]⟩ ++ joinQ l
  | [] => rfl
  | x :: l => by rw [tailQ, if_pos rfl, if_neg (by simp), joinQ, tailQ_true l]
theorem tailQ_false (l : List (ByteArray × List Part)) : tailQ false l = joinQ l := by
  cases l with
  | nil => rfl
  | cons x l => rw [tailQ, if_neg (by simp), emp_app, joinQ, tailQ_true]
theorem joinQ_size (B : Nat) : ∀ (l : List (ByteArray × List Part)), (∀ x ∈ l, (lineQ x).size ≤ B) → (joinQ l).size ≤ l.length * (B + 2)
  | [], _ => Nat.zero_le _
  | x :: l, h => by
    have h1 := joinQ_size B l (fun y hy => h y (List.mem_cons_of_mem _ hy))
    have h2 := h x (by simp)
    rw [joinQ, ByteArray.size_append, List.length_cons, Nat.add_mul]
    split
    · have : (⟨#[]⟩ : ByteArray).size = 0 := rfl
      omega
    · rw [ByteArray.size_append]
      have : (⟨#[44, 32]⟩ : ByteArray).size = 2 := rfl
      omega
end Rf
namespace Go.Proofs.YtpdikdnffehmkaaDoor
open Go.RowKit
theorem Seen.strAt' {w : World} {g off n c : Nat} {xs : List ByteArray} (h : Seen w 9 strCells (.slice (some ⟨g, off, none⟩) n c) xs) (k : Nat) (x : ByteArray) (hx : xs[k]? = some x) : w.cell? ⟨g, off + k, none⟩ = some (.string x) := by
  have := h.cells strCells_len k x hx 0 _ rfl
  rw [Nat.mul_one, Nat.add_zero] at this
  exact this
set_option maxHeartbeats 1000000 in
set_option maxRecDepth 100000 in
theorem ptext_any (w : World) (q : Nat) (rb : Option Nat) (names : List ByteArray) (cf : Rf.Cf) (N : Nat) (F : Int) (h : QAt w q rb names cf) (hG : Rf.StG N F cf.now) (hF : F ≤ 1000000) (hnl : cf.now.terms.length = names.length) (hnz : ∀ x ∈ names, x.size ≤ 12) (hT : Tab w) :
    Calls Tryd.prog 38 #[.pointer (some ⟨q, 0, none⟩)] w fun r w' => r = .returned (.string (Rf.textQ names cf.now.terms)) ∧ Below w.heap.size w w' := by
  obtain ⟨vN, vg, vt, fr, vC, hQ⟩ := h.ex
  obtain ⟨k0, k1, k2, k3, k4, kf, kl⟩ := hQ.b.facts
  obtain ⟨na, nc, rfl⟩ := hQ.n.slice
  obtain ⟨ta, tc, rfl⟩ := hQ.s.t.slice
  have HQ : Hid _ := hQ
  have HT : Hid _ := hT
  have HZ : Hid _ := hnz
  have htl := hG.tl
  have hf1 := hG.f1
  have H4 : Hid (∀ t ∈ cf.now.terms, t.length ≤ 400) := fun t ht => (hG.t t ht).1
  have HV : Hid (∀ t ∈ cf.now.terms, ∀ p ∈ t, p.kind = 1 → 0 ≤ p.value ∧ p.value < 1000000) := fun t ht p hp hk => by have := ((hG.t t ht).2 p hp).2.1 hk; omega
  by_cases hn0 : names = []
  · have HX : Hid (Rf.textQ names cf.now.terms = ⟨#[121, 101, 115]⟩) := by unfold Hid Rf.textQ; rw [if_pos hn0]; rfl
    have hz : names.length = 0 := by rw [hn0]; rfl
    rw [hz] at k0
    clear h hQ hG hT hnz
    go_enter Tryd.func38, Tryd.ntmps38
    go_wp2_with fail
    go_ret
    exact ⟨ret_str HX.out.symm, Below.refl _ _⟩
  · have HX : Hid (Rf.textQ names cf.now.terms = Rf.joinQ (names.zip (Rf.renTs [] cf.now.terms).1)) := by unfold Hid Rf.textQ; rw [if_neg hn0]
    have hz : 1 ≤ names.length := by
      cases hnc : names with
      | nil => exact absurd hnc hn0
      | cons => simp
    have hzz : ((names.length : Int) == 0) = false := by rw [beq_eq_false_iff_ne]; omega
    obtain ⟨ng, no, rfl⟩ := hQ.n.pos hz
    have hngl := hQ.n.lt
    have HRl : Hid ((Rf.renTs [] cf.now.terms).1.length = names.length) := by unfold Hid; rw [(Rf.renTs_of cf.now.terms []).1, hnl]
    have HRe := (Rf.renTs_of cf.now.terms []).2
    have HRc := Rf.renTs_count cf.now.terms [] (fun t ht => (hG.t t ht).1)
    have HRg : Hid (∀ u ∈ (Rf.renTs [] cf.now.terms).1, u.length ≤ 400 ∧ (∀ p ∈ u, Rf.GoodA p) ∧ (∀ p ∈ u, 0 ≤ p.args ∧ p.args ≤ 4)) := fun u hu => by
      obtain ⟨i, hi⟩ := List.getElem?_of_mem hu
      obtain ⟨t, e1, e2, e3, _⟩ := HRe i u hi
      have htm := hG.t t (List.mem_of_getElem? e1)
      have hc2 : cf.now.terms.length * 400 ≤ 16 * 400 := Nat.mul_le_mul_right _ htl
      simp only [List.length_nil] at HRc
      refine ⟨by rw [e2]; exact htm.1, fun p hp => ?_, fun p hp => ?_⟩
      · obtain ⟨y, hy, hr⟩ := e3 p hp
        have hpg := hr.good (htm.2 y hy)
        exact ⟨fun k => by have := hpg.2.1 k; omega, hpg.2.2.1, hpg.2.2.2⟩
      · obtain ⟨y, hy, hr⟩ := e3 p hp
        exact (hr.good (htm.2 y hy)).1
    have hn16 : names.length ≤ 16 := by omega
    clear h hG hT hnz hn0 HRe HRc hnl
    obtain ⟨RR, hRR⟩ : ∃ RR, Hid (Rf.renTs [] cf.now.terms = RR) := ⟨_, rfl⟩
    rw [hRR.out] at HX HRl HRg
    obtain ⟨ra, rn⟩ := RR
    simp only at HX HRl HRg
    have hJ : (Rf.joinQ (names.zip ra)).size ≤ 160000 := by
      have h9 := Rf.joinQ_size 9615 (names.zip ra) (fun x hx => by
        obtain ⟨h1, h2⟩ := List.of_mem_zip hx
        have h3 := HZ.out _ h1
        obtain ⟨h4, h5, _⟩ := HRg.out _ h2
        have h6 := Rf.txtW_size false x.2 h5
        have h7 : (Rf.txtA x.2).size ≤ 24 * x.2.length := h6
        unfold Rf.lineQ
        rw [ByteArray.size_append, ByteArray.size_append]
        have : (⟨#[32, 61, 32]⟩ : ByteArray).size = 3 := rfl
        omega)
      have h8 : (names.zip ra).length * (9615 + 2) ≤ 16 * (9615 + 2) := Nat.mul_le_mul_right _ (by rw [List.length_zip]; have := HRl.out; omega)
      omega
    go_enter Tryd.func38, Tryd.ntmps38
    go_wp2_with (go_at_call 63; refine (pRenumber_any _ (.slice ta cf.now.terms.length tc) cf.now.terms HQ.out.s.t (by omega) H4.out HV.out).mono ?_; rintro r w1 ⟨a1, n1, c1, rfl, hR1, hb1⟩; rw [hRR.out] at hR1 ⊢; simp only at hR1; obtain ⟨g1, o1, rfl, hgl1, hn1, _, _⟩ := hR1.pos (by intro e; have h9 := HRl.out; rw [e] at h9; simp at h9; omega); subst hn1; have HR1 : Hid _ := hR1; clear hR1)
    obtain ⟨acc, hT1, hE1, hts⟩ := HR1.out.ex
    have hal : acc.length = names.length := by have h9 := congrArg List.length hts; rw [List.length_map] at h9; rw [← h9]; exact HRl.out
    have hral : ra.length = names.length := HRl.out
    have HT1 : Hid _ := hT1
    have HE1 : Hid _ := hE1
    have Hts : Hid _ := hts
    clear hT1 hE1 hts
    rw [hral]
    have H00 : Hid ((⟨#[]⟩ : ByteArray) ++ Rf.tailQ (decide (0 < 0)) ((names.zip ra).drop 0) = Rf.joinQ (names.zip ra)) := by unfold Hid; rw [List.drop_zero, Rf.emp_app, show decide (0 < 0) = false from rfl, Rf.tailQ_false]
    go_loopw [5, 25] (fun sv iv wr => ∃ (k : Nat) (s : ByteArray), k ≤ names.length ∧ iv = .int .i64 (k : Nat) ∧ sv = .string s ∧ s.size ≤ 160000 ∧ Hid (s ++ Rf.tailQ (decide (0 < k)) ((names.zip ra).drop k) = Rf.joinQ (names.zip ra)) ∧ Below w1.heap.size w1 wr) (fun _ iv _ => names.length - (intOf iv).toNat)
    case atStart => exact ⟨0, ⟨#[]⟩, Nat.zero_le _, rfl, rfl, Nat.zero_le _, H00, Below.refl _ _⟩
    case round =>
      obtain ⟨k, s, hk, rfl, rfl, hss, hinv, hbr⟩ := hrel
      clear H00
      have hsz := hbr.size
      have hbw : Below w.heap.size w wr := hb1.trans (hbr.mono hb1.size)
      by_cases hlt : k < names.length
      · have hzl : k < (names.zip ra).length := by rw [List.length_zip]; omega
        have hlt2 : k < acc.length := by omega
        have hgl1' := HT1.out.lt
        have hcell := Seen.termAt (HT1.out.below hbr) k acc[k].1 (by simp [hlt2])
        have hS := HE1.out acc[k] (List.getElem_mem hlt2)
        have hrk : ra[k]'(by omega) = acc[k].2 := by
          have h9 := Hts.out
          have h8 : ra[k]? = (acc.map (·.2))[k]? := by rw [h9]
          rw [List.getElem?_eq_getElem (by omega), List.getElem?_map, List.getElem?_eq_getElem hlt2] at h8
          simpa using h8
        have hGA := HRg.out (acc[k].2) (by rw [← hrk]; exact List.getElem_mem _)
        have hdrop : (names.zip ra).drop k = (names[k], acc[k].2) :: (names.zip ra).drop (k + 1) := by
          rw [List.drop_eq_getElem_cons hzl, List.getElem_zip, hrk]
        have hnc := Seen.strAt' (HQ.out.n.below hbw) k names[k] (by simp [hlt])
        have hnz := HZ.out names[k] (List.getElem_mem hlt)
        rw [hdrop, Rf.tailQ] at hinv
        generalize names[k] = nk at *
        generalize acc[k] = y at *
        obtain ⟨⟨qa, qn, qc⟩, qp⟩ := y
        simp only at hcell hS hGA hinv
        have htz : (Rf.txtA qp).size ≤ 9600 := by have h9 := Rf.txtW_size false qp hGA.2.1; have h8 : (Rf.txtA qp).size ≤ 24 * qp.length := h9; have := hGA.1; omega
        have HS : Hid (Seen wr 65 partCells (.slice qa qn qc) qp) := Seen.below hS hbr
        have Hg : Hid _ := hGA
        have HTr : Hid (Tab wr) := Tab.below HT.out hbw
        have HQr : Hid _ := HQ.out.below hbw
        obtain ⟨m0, m1, m2, m3, m4, mf, ml⟩ := HQr.out.b.facts
        have hlt' : (k : Int) < names.length := by omega
        have hg1' : g1 < wr.heap.size := by omega
        have hng' : ng < wr.heap.size := by have := hbw.size; omega
        have Hln : Hid (Rf.lineQ (nk, qp) = nk ++ ⟨#[32, 61, 32]⟩ ++ Rf.txtA qp) := rfl
        clear hS hGA hdrop hrk
        by_cases h0 : 0 < k
        · have h0' : (0 : Int) < k := by omega
          have hinv2 : Hid ((s ++ ⟨#[44, 32]⟩ ++ (nk ++ ⟨#[32, 61, 32]⟩ ++ Rf.txtA qp)) ++ Rf.tailQ (decide (0 < k + 1)) ((names.zip ra).drop (k + 1)) = Rf.joinQ (names.zip ra)) := by
            unfold Hid
            rw [← hinv.out, if_pos (by simpa using h0), Hln.out, show decide (0 < k + 1) = true by simp]
            simp only [ByteArray.append_assoc]
          have hs2 : (s ++ ⟨#[44, 32]⟩ ++ (nk ++ ⟨#[32, 61, 32]⟩ ++ Rf.txtA qp)).size ≤ 160000 := by
            have h9 := congrArg ByteArray.size hinv2.out
            rw [ByteArray.size_append] at h9
            omega
          go_wp2_with fail
          go_region_with (go_at_call 64; refine (answerS_any _ qa qn qc qp (HS.out.below (by repeat (first | exact Below.refl _ _ | refine Below.setCell ?_ (by simp <;> omega) _ | refine Below.drew ?_ | refine Below.drewN ?_ _ | refine Below.alloc ?_ (by simp <;> omega) _))) Hg.out.2.1 Hg.out.2.2 (by have := Hg.out.1; omega) (Tab.below HTr.out (by repeat (first | exact Below.refl _ _ | refine Below.setCell ?_ (by simp <;> omega) _ | refine Below.drew ?_ | refine Below.drewN ?_ _ | refine Below.alloc ?_ (by simp <;> omega) _)))).mono ?_; rintro r w2 ⟨rfl, hb2⟩; have hbw2 : Below wr.heap.size wr w2 := Below.trans (Below.refl _ wr).drew hb2; obtain ⟨l0, l1, l2, l3, l4, lf, ll⟩ := (HQr.out.below hbw2).b.facts; have hnc2 := (hbw2.cell (p := ⟨ng, no + k, none⟩) hng').trans hnc; have hng2 : ng < w2.heap.size := by have := hbw2.size; omega)
          all_goals
            go_wp2_with fail
            go_roundw
            case rel => exact ⟨k + 1, _, by omega, by go_num, rfl, hs2, hinv2, hbr.trans (hbw2.mono hsz)⟩
            case measure => simp [intOf]; omega
        · obtain rfl : k = 0 := by omega
          have hinv2 : Hid ((s ++ (nk ++ ⟨#[32, 61, 32]⟩ ++ Rf.txtA qp)) ++ Rf.tailQ (decide (0 < 0 + 1)) ((names.zip ra).drop (0 + 1)) = Rf.joinQ (names.zip ra)) := by
            unfold Hid
            rw [← hinv.out, if_neg (by simp), Hln.out, show decide (0 < 0 + 1) = true by simp, Rf.emp_app]
            simp only [ByteArray.append_assoc]
          have hs2 : (s ++ (nk ++ ⟨#[32, 61, 32]⟩ ++ Rf.txtA qp)).size ≤ 160000 := by
            have h9 := congrArg ByteArray.size hinv2.out
            rw [ByteArray.size_append] at h9
            omega
          simp only [Nat.add_zero] at hcell hnc
          go_wp2_with fail
          go_region_with (go_at_call 64; refine (answerS_any _ qa qn qc qp (HS.out.below (by repeat (first | exact Below.refl _ _ | refine Below.setCell ?_ (by simp <;> omega) _ | refine Below.drew ?_ | refine Below.drewN ?_ _ | refine Below.alloc ?_ (by simp <;> omega) _))) Hg.out.2.1 Hg.out.2.2 (by have := Hg.out.1; omega) (Tab.below HTr.out (by repeat (first | exact Below.refl _ _ | refine Below.setCell ?_ (by simp <;> omega) _ | refine Below.drew ?_ | refine Below.drewN ?_ _ | refine Below.alloc ?_ (by simp <;> omega) _)))).mono ?_; rintro r w2 ⟨rfl, hb2⟩; have hbw2 : Below wr.heap.size wr w2 := Below.trans (Below.refl _ wr).drew hb2; obtain ⟨l0, l1, l2, l3, l4, lf, ll⟩ := (HQr.out.below hbw2).b.facts; have hnc2 := (hbw2.cell (p := ⟨ng, no, none⟩) hng').trans hnc; have hng2 : ng < w2.heap.size := by have := hbw2.size; omega)
          all_goals
            go_wp2_with fail
            go_roundw
            case rel => exact ⟨0 + 1, _, by omega, by go_num, rfl, hs2, hinv2, hbr.trans (hbw2.mono hsz)⟩
            case measure => simp [intOf]; omega
      · obtain rfl : k = names.length := by omega
        have hend : Hid (s = Rf.joinQ (names.zip ra)) := by
          unfold Hid
          have h9 := hinv.out
          rw [List.drop_of_length_le (by rw [List.length_zip]; omega), Rf.tailQ, Rf.app_emp] at h9
          exact h9
        go_wp2_with fail
        go_ret
        exact ⟨ret_str (by rw [HX.out, hend.out]), hbw⟩
end Go.Proofs.YtpdikdnffehmkaaDoor
/- The program's question (play: suspend): the plain function's answers. -/
namespace Go
open Go.RowKit
theorem flat_set {α : Type} {size : Nat} {C : α → List Value} (hC : ∀ x, (C x).length = size) {x x' : α} {j : Nat} {u : Value} (hj : j < size) (hx : C x' = (C x).set j u) : ∀ (xs : List α) (i : Nat), xs[i]? = some x → (xs.flatMap C).set (i * size + j) u = (xs.set i x').flatMap C
  | [], i, h => by simp at h
  | y :: ys, 0, h => by
    simp at h; subst h
    rw [List.flatMap_cons, List.set_cons_zero, List.flatMap_cons, hx, Nat.zero_mul, Nat.zero_add, List.set_append_left _ _ (by rw [hC]; exact hj)]
  | y :: ys, i + 1, h => by
    have ih := flat_set hC hj hx ys i (by simpa using h)
    rw [List.flatMap_cons, List.set_cons_succ, List.flatMap_cons, List.set_append_right _ _ (by rw [hC, Nat.add_mul]; omega), hC]
    rw [show (i + 1) * size + j - size = i * size + j by rw [Nat.add_mul]; omega, ih]
theorem row_setAt {α : Type} {w : World} {base : Nat} {e : TypeId} {size : Nat} {C : α → List Value} (hC : ∀ x, (C x).length = size) {g n cap : Nat} {xs : List α} {x x' : α} {j i : Nat} {u : Value} (h : RowIs w base e size C (.slice (some ⟨g, 0, none⟩) n cap) xs) (hi : xs[i]? = some x) (hj : j < size) (hx : C x' = (C x).set j u) : RowIs (w.setCell ⟨g, i * size + j, none⟩ u) base e size C (.slice (some ⟨g, 0, none⟩) n cap) (xs.set i x') := by
  rcases h.own.2 with ⟨h1, _⟩ | ⟨g', cap', cur, h1, h2, h3, h4, h5, h6, h7⟩
  · cases h1
  · obtain ⟨rfl, hn, rfl⟩ : g = g' ∧ n = xs.length ∧ cap = cap' := by injection h1 with a1 a2 a3; injection a1 with a1; injection a1 with a1; exact ⟨a1, a2, a3⟩
    subst hn
    refine ⟨by rw [flatMap_len C hC], .inr ⟨g, cap, cur.setIfInBounds (i * size + j) u, by rw [List.length_set], h2, ?_, by rw [List.length_set]; exact h4, h5, by simpa using h6, ?_⟩⟩
    · simp [World.setCell, Array.getElem?_modify, h3]
    · rw [Array.toList_setIfInBounds, List.take_set, List.length_set, h7]
      exact flat_set hC hj hx xs i hi
end Go
namespace Rf
def midC (m : List Ch) (i : Nat) : List Ch := (m.take i).map renC ++ m.drop i
theorem midC_zero (m : List Ch) : midC m 0 = m := by unfold midC; simp
theorem midC_end (m : List Ch) : midC m m.length = m.map renC := by unfold midC; simp
theorem midC_at (m : List Ch) (i : Nat) (c : Ch) (h : m[i]? = some c) : (midC m i)[i]? = some c := by
  have hi := (List.getElem?_eq_some_iff.1 h).1
  unfold midC
  rw [List.getElem?_append_right (by simp; omega), List.length_map, List.length_take, show i - min i m.length = 0 by omega, List.getElem?_drop, Nat.add_zero]
  exact h
theorem midC_step (m : List Ch) (i : Nat) (c : Ch) (h : m[i]? = some c) : (midC m i).set i (renC c) = midC m (i + 1) := by
  have hi := (List.getElem?_eq_some_iff.1 h)
  obtain ⟨hl, he⟩ := hi
  unfold midC
  rw [List.set_append_right _ _ (by simp; omega), List.length_map, List.length_take, show i - min i m.length = 0 by omega, List.drop_eq_getElem_cons hl, List.set_cons_zero, List.take_succ_eq_append_getElem hl, List.map_append, List.append_assoc, he]
  rfl
end Rf
namespace Go.Proofs.YtpdikdnffehmkaaDoor
open Go.RowKit
theorem Free.g {w : World} {g : Nat} {cs : Array Value} (h : w.heap[g]? = some (.cells cs 104 (0, 0))) : Free w (fun k => k = g) := by
  have key : ∀ t : TypeId, t ≠ 104 → ∀ k cs', w.heap[k]? = some (.cells cs' t (0, 0)) → ¬ k = g := by
    intro t ht k cs' hc e
    subst e
    rw [h] at hc
    injection hc with h3; injection h3 with _ h4
    exact ht h4.symm
  exact ⟨key _ (by decide), key _ (by decide), key _ (by decide), key _ (by decide), key _ (by decide)⟩
/-- A choice's state is written anew in its row. -/
theorem susp_step {w : World} {q g n0 cc i : Nat} {acc : List (ChV × Rf.Ch)} {x : ChV} {c : Rf.Ch} {vN vg vt : Value} {fr : Int} {a3 a4 : Option Addr} {n3 c3 n4 c4 : Nat} {fr' : Int} (hrow : RowIs w 0 104 4 chCells (.slice (some ⟨g, 0, none⟩) n0 cc) (acc.map (·.1))) (hacc : ∀ y ∈ acc, ChIs w y.1 y.2) (hai : acc[i]? = some (x, c)) (hs : StIs w (.slice a3 n3 c3) (.slice a4 n4 c4) fr' (Rf.renS c.st)) (hqb : QB w q vN vg vt fr (.slice (some ⟨g, 0, none⟩) n0 cc)) (hgq : ¬ g = q) :
    ∃ acc' : List (ChV × Rf.Ch), RowIs (((w.setCell ⟨g, i * 4, none⟩ (.slice a3 n3 c3)).setCell ⟨g, i * 4 + 1, none⟩ (.slice a4 n4 c4)).setCell ⟨g, i * 4 + 2, none⟩ (.int .i64 fr')) 0 104 4 chCells (.slice (some ⟨g, 0, none⟩) n0 cc) (acc'.map (·.1)) ∧ (∀ y ∈ acc', ChIs (((w.setCell ⟨g, i * 4, none⟩ (.slice a3 n3 c3)).setCell ⟨g, i * 4 + 1, none⟩ (.slice a4 n4 c4)).setCell ⟨g, i * 4 + 2, none⟩ (.int .i64 fr')) y.1 y.2) ∧ acc'.map (·.2) = (acc.map (·.2)).set i (Rf.renC c) ∧ QB (((w.setCell ⟨g, i * 4, none⟩ (.slice a3 n3 c3)).setCell ⟨g, i * 4 + 1, none⟩ (.slice a4 n4 c4)).setCell ⟨g, i * 4 + 2, none⟩ (.int .i64 fr')) q vN vg vt fr (.slice (some ⟨g, 0, none⟩) n0 cc) ∧ Kept (fun k => k = g) w (((w.setCell ⟨g, i * 4, none⟩ (.slice a3 n3 c3)).setCell ⟨g, i * 4 + 1, none⟩ (.slice a4 n4 c4)).setCell ⟨g, i * 4 + 2, none⟩ (.int .i64 fr')) := by
  obtain ⟨cs', hc'⟩ := hrow.typed g rfl
  have hF := Free.g hc'
  have hk : Kept (fun k => k = g) w (((w.setCell ⟨g, i * 4, none⟩ (.slice a3 n3 c3)).setCell ⟨g, i * 4 + 1, none⟩ (.slice a4 n4 c4)).setCell ⟨g, i * 4 + 2, none⟩ (.int .i64 fr')) := (((Kept.refl (fun k => k = g) w).setCell (p := ⟨g, _, none⟩) (.inr rfl) _).setCell (p := ⟨g, _, none⟩) (.inr rfl) _).setCell (p := ⟨g, _, none⟩) (.inr rfl) _
  have hx0 : (acc.map (·.1))[i]? = some x := by rw [List.getElem?_map, hai]; rfl
  have hil : i < (acc.map (·.1)).length := (List.getElem?_eq_some_iff.1 hx0).1
  have r1 := row_setAt (x' := ⟨⟨a3, n3, c3⟩, x.t, x.f, x.c⟩) (u := .slice a3 n3 c3) chCells_len hrow hx0 (show 0 < 4 by omega) rfl
  rw [Nat.add_zero] at r1
  have r2 := row_setAt (x := ⟨⟨a3, n3, c3⟩, x.t, x.f, x.c⟩) (x' := ⟨⟨a3, n3, c3⟩, ⟨a4, n4, c4⟩, x.f, x.c⟩) (u := .slice a4 n4 c4) chCells_len r1 (List.getElem?_set_self hil) (show 1 < 4 by omega) rfl
  have r3 := row_setAt (x := ⟨⟨a3, n3, c3⟩, ⟨a4, n4, c4⟩, x.f, x.c⟩) (x' := ⟨⟨a3, n3, c3⟩, ⟨a4, n4, c4⟩, fr', x.c⟩) (u := .int .i64 fr') chCells_len r2 (List.getElem?_set_self (by rw [List.length_set]; exact hil)) (show 2 < 4 by omega) rfl
  rw [List.set_set, List.set_set] at r3
  refine ⟨acc.set i (⟨⟨a3, n3, c3⟩, ⟨a4, n4, c4⟩, fr', x.c⟩, Rf.renC c), by rw [List.map_set]; exact r3, fun y hy => ?_, by rw [List.map_set], (hk.block q (blk_lt hqb) (fun e => hgq e.symm)).trans hqb, hk⟩
  rcases List.mem_or_eq_of_mem_set hy with hy | rfl
  · exact (hacc y hy).kept hk hF
  · have hc0 := hacc _ (List.mem_of_getElem? hai)
    exact ⟨hs.kept hk hF, Seen.kept hc0.cl hk hF.i⟩
set_option maxHeartbeats 1000000 in
set_option maxRecDepth 100000 in
theorem psuspend_any (w : World) (q : Nat) (rb : Option Nat) (names : List ByteArray) (cf : Rf.Cf) (N : Nat) (F : Int) (h : QAt w q rb names cf) (hG : ∀ c ∈ cf.chs, Rf.StG N F c.st ∧ c.st.goals ≠ []) (hN : N ≤ 9000) (hF : F ≤ 1000000) (hl20 : cf.chs.length ≤ 20) :
    Calls Tryd.prog 39 #[.pointer (some ⟨q, 0, none⟩)] w fun r w' => r = .returned (.tuple #[]) ∧ QAt w' q rb names ⟨Rf.stNone, cf.chs.map Rf.renC⟩ ∧ Kept (May q rb) w w' := by
  obtain ⟨vN, vg, vt, fr, vC, hQ⟩ := h.ex
  obtain ⟨k0, k1, k2, k3, k4, kf, kl⟩ := hQ.b.facts
  obtain ⟨ca, cc, rfl⟩ := hQ.r.slice
  have HQ : Hid _ := hQ
  have HG : Hid (∀ c ∈ cf.chs.reverse, Rf.StG N F c.st ∧ c.st.goals ≠ []) := fun c hc => hG c (List.mem_reverse.1 hc)
  have hml : cf.chs.reverse.length = cf.chs.length := List.length_reverse
  have Hml : Hid _ := hml
  have hrq := hQ.rq
  clear h hQ hG hml
  obtain ⟨n0, hn0⟩ : ∃ n, Hid (cf.chs.length = n) := ⟨_, rfl⟩
  rw [hn0.out] at k4 hl20
  go_enter Tryd.func39, Tryd.ntmps39
  go_wp2_with fail
  obtain ⟨w0, hw0⟩ : ∃ w0 : World, Hid (w0 = ((w.setCell ⟨q, 1, none⟩ (.slice none 0 0)).setCell ⟨q, 2, none⟩ (.slice none 0 0)).setCell ⟨q, 3, none⟩ (.int .i64 0)) := ⟨_, rfl⟩
  obtain ⟨r1, r2⟩ := QIs.now3 (fr' := 0) (S := Rf.stNone) HQ.out ⟨SeenTs.nil w, SeenTs.nil w, rfl⟩
  rw [← hw0.out] at r1 r2 ⊢
  have HR1 : Hid _ := r1
  have HR2 : Hid _ := r2
  clear r1 r2
  go_loopw [13] (fun iv wr => ∃ (i : Nat) (acc : List (ChV × Rf.Ch)), i ≤ n0 ∧ iv = .int .i64 (i : Nat) ∧ RowIs wr 0 104 4 chCells (.slice ca n0 cc) (acc.map (·.1)) ∧ (∀ y ∈ acc, ChIs wr y.1 y.2) ∧ Hid (acc.map (·.2) = Rf.midC cf.chs.reverse i) ∧ QB wr q vN (.slice none 0 0) (.slice none 0 0) 0 (.slice ca n0 cc) ∧ Kept (May q rb) w0 wr) (fun iv _ => n0 - (intOf iv).toNat)
  case atStart =>
    obtain ⟨acc, a1, a2, a3⟩ := HR1.out.r.ex
    have hb := HR1.out.b
    rw [hn0.out] at a1 hb
    exact ⟨0, acc, Nat.zero_le _, rfl, a1, a2, by unfold Hid; rw [a3, Rf.midC_zero], hb, Kept.refl _ _⟩
  case round =>
    obtain ⟨i, acc, hi, rfl, hrow, hacc, hinv, hqb, hk⟩ := hrel
    have hal : acc.length = n0 := by
      have h9 := congrArg List.length hinv.out
      unfold Rf.midC at h9
      simp only [List.length_map, List.length_append, List.length_take, List.length_drop, List.length_reverse, hn0.out] at h9
      omega
    obtain ⟨m0, m1, m2, m3, m4, mf, ml⟩ := QB.facts hqb
    by_cases hlt : i < n0
    · obtain ⟨g, rfl⟩ : ∃ g, ca = some ⟨g, 0, none⟩ := by
        rcases hrow.shape with ⟨e1, e2⟩ | ⟨g, cap, e1, _⟩
        · have : acc = [] := by simpa using e2
          rw [this] at hal; simp at hal; omega
        · injection e1 with e1; exact ⟨g, e1⟩
      have hlt2 : i < acc.length := by omega
      have hc : cf.chs.reverse[i]? = some acc[i].2 := by
        obtain ⟨c, hc⟩ : ∃ c, cf.chs.reverse[i]? = some c := ⟨cf.chs.reverse[i]'(by rw [Hml.out, hn0.out]; exact hlt), List.getElem?_eq_getElem _⟩
        have h9 := Rf.midC_at _ _ _ hc
        rw [← hinv.out, List.getElem?_map, List.getElem?_eq_getElem hlt2] at h9
        rw [hc]; exact h9.symm
      have hst := Rf.midC_step _ _ _ hc
      have hgd := HG.out _ (List.mem_of_getElem? hc)
      have hx := hacc acc[i] (List.getElem_mem hlt2)
      have hcs : ∀ (j : Nat) (u : Value), (chCells acc[i].1)[j]? = some u → wr.cell? ⟨g, 0 + (i * 4 + j), none⟩ = some u := fun j u hu => hrow.seen.cells chCells_len i acc[i].1 (by simp [hlt2]) j u hu
      have hai : acc[i]? = some acc[i] := List.getElem?_eq_getElem hlt2
      generalize acc[i] = y at *
      obtain ⟨⟨⟨xga, xgn, xgc⟩, ⟨xta, xtn, xtc⟩, xf, ⟨xca, xcn, xcc⟩⟩, c⟩ := y
      simp only at hst hgd hx hcs hc
      have x0 := hcs 0 _ rfl
      have x1 := hcs 1 _ rfl
      have x2 := hcs 2 _ rfl
      have x3 := hcs 3 _ rfl
      have hfz := fun j => row_frozen hrow j
      have hgl := (hrow.lt g rfl).2
      have hqg : ¬ g = q := by
        intro e
        obtain ⟨cs', hc'⟩ := hrow.typed g rfl
        rw [e] at hc'
        unfold QB at hqb
        rw [hqb] at hc'
        injection hc' with h3; injection h3 with _ h4
        exact absurd h4 (by decide)
      have hlt' : (i : Int) < n0 := by omega
      simp only [Nat.zero_add, Nat.add_zero] at x0 x1 x2 x3
      have Hst : Hid _ := hst
      have Hgd : Hid _ := hgd
      have HXs : Hid _ := hx
      have HRow : Hid _ := hrow
      have HAcc : Hid _ := hacc
      have Hqb : Hid (QB wr q vN (.slice none 0 0) (.slice none 0 0) 0 (.slice (some ⟨g, 0, none⟩) n0 cc)) := hqb
      have Hai : Hid _ := hai
      clear hst hgd hx hcs hrow hacc hqb hai hc
      go_wp2_with fail
      go_region_with (go_at_call 65; refine (prenumbered_any _ (.slice xga xgn xgc) (.slice xta xtn xtc) xf c.st N F (HXs.out.st.below (by repeat (first | exact Below.refl _ _ | refine Below.setCell ?_ (by simp <;> omega) _ | refine Below.drew ?_ | refine Below.drewN ?_ _ | refine Below.alloc ?_ (by simp <;> omega) _))) Hgd.out.1 hN hF Hgd.out.2).mono ?_; rintro r w2 ⟨a3, n3, c3, a4, n4, c4, rfl, hS2, hb2⟩; have hbw2 : Below wr.heap.size wr w2 := Below.trans ((Below.refl _ wr).alloc (Nat.le_refl _) _).drew (hb2.mono (by simp)); have hqb2 : QB w2 q vN (.slice none 0 0) (.slice none 0 0) 0 (.slice (some ⟨g, 0, none⟩) n0 cc) := (hbw2.block q ml).trans Hqb.out; obtain ⟨l0, l1, l2, l3, l4, lf, ll⟩ := QB.facts hqb2; have hrow2 := HRow.out.below hbw2; have z0 := (hbw2.cell (p := ⟨g, i * 4, none⟩) hgl).trans x0; have z1 := (hbw2.cell (p := ⟨g, i * 4 + 1, none⟩) hgl).trans x1; have z2 := (hbw2.cell (p := ⟨g, i * 4 + 2, none⟩) hgl).trans x2; have zf := fun j => row_frozen hrow2 j; have hgl2 : g < w2.heap.size := by { have := hbw2.size; omega }; have HS2 : Hid _ := hS2; have HB2 : Hid _ := hbw2; have HRow2 : Hid _ := hrow2; have HQB2 : Hid _ := hqb2; clear hS2 hbw2 hrow2 hqb2)
      all_goals
        go_wp2_with fail
        obtain ⟨acc', b1, b2, b3, b4, b5⟩ := susp_step HRow2.out (fun y hy => (HAcc.out y hy).below HB2.out) Hai.out HS2.out HQB2.out hqg
        have hrb : rb = some g := HQ.out.o.symm
        go_roundw
        case rel => exact ⟨i + 1, acc', by omega, by go_num, b1, b2, by unfold Hid; rw [b3, hinv.out, Hst.out], b4, (hk.trans (Kept.of_below HB2.out (May q rb)) (fun _ _ h => h)).trans b5 (fun k _ e => .inr (by rw [hrb, e]))⟩
        case measure => simp [intOf]; omega
    · obtain rfl : i = n0 := by omega
      have hfin : Hid (acc.map (·.2) = (cf.chs.map Rf.renC).reverse) := by
        unfold Hid
        have h9 := hinv.out
        rw [show i = cf.chs.reverse.length by rw [Hml.out, hn0.out], Rf.midC_end] at h9
        rw [h9, List.map_reverse]
      go_wp2_with fail
      go_end0
      refine ⟨rfl, ?_, HR2.out.trans hk (fun _ _ h => h)⟩
      have h1 := HR1.out
      rw [hn0.out] at h1
      exact (QIs.turn (cf' := ⟨Rf.stNone, cf.chs.map Rf.renC⟩) h1 hk hqb ⟨SeenTs.nil _, SeenTs.nil _, rfl⟩ ⟨acc, hrow, hacc, hfin.out⟩ h1.o).at
end Go.Proofs.YtpdikdnffehmkaaDoor
/- The program's question (play: reply, First, Next): the plain functions' answers. -/
namespace Rf
def repOf (names : List ByteArray) (R : Int × Cf) : Rep := if R.1 = 1 then ⟨1, textQ names R.2.now.terms, 0, 0⟩ else repK R.1
def cfOf (R : Int × Cf) : Cf := if R.1 = 1 then ⟨stNone, R.2.chs.map renC⟩ else R.2
/-- What is asked ahead of an answer's text. -/
structure AnsOk (names : List ByteArray) (cf : Cf) : Prop where
  now : StG 9000 1000000 cf.now
  tl : cf.now.terms.length = names.length
  nz : ∀ x ∈ names, x.size ≤ 12
  ch : ∀ c ∈ cf.chs, StG 9000 1000000 c.st ∧ c.st.goals ≠ []
  cl : cf.chs.length ≤ 20
end Rf
namespace Go.Proofs.YtpdikdnffehmkaaDoor
open Go.RowKit
def repV (r : Rf.Rep) : Value := .agg #[.int .i64 r.kind, .string r.text, .int .i64 r.code, .int .i64 r.place]
theorem ret_rep {k1 c1 p1 : Int} {t1 : ByteArray} {r : Rf.Rep} (h : r = ⟨k1, t1, c1, p1⟩) : Ending.returned (.agg #[.int .i64 k1, .string t1, .int .i64 c1, .int .i64 p1]) = .returned (repV r) := by subst h; rfl
/-- A question is kept by writes into a block of a type that it has none of. -/
theorem QAt.keptL {w w' : World} {q : Nat} {rb : Option Nat} {names : List ByteArray} {cf : Rf.Cf} {L : Nat} {cs : Array Value} {t : TypeId} (h : QAt w q rb names cf) (hL : w.heap[L]? = some (.cells cs t (0, 0))) (ht : t ≠ 65 ∧ t ≠ 67 ∧ t ≠ 3 ∧ t ≠ 9 ∧ t ≠ 72 ∧ t ≠ 62 ∧ t ≠ 104) (hk : Kept (fun k => k = L) w w') : QAt w' q rb names cf := by
  obtain ⟨_, _, _, _, _, hq⟩ := h.ex
  have key : ∀ t' : TypeId, t ≠ t' → ∀ k cs', w.heap[k]? = some (.cells cs' t' (0, 0)) → ¬ k = L := by
    intro t' ht k cs' hc e
    subst e
    rw [hL] at hc
    injection hc with h3; injection h3 with _ h4
    exact ht h4
  refine (hq.keptM hk ⟨key _ ht.1, key _ ht.2.1, key _ ht.2.2.1, key _ ht.2.2.2.1, key _ ht.2.2.2.2.1⟩ (key _ ht.2.2.2.2.2.1 q _ hq.b) (fun k e => ?_)).at
  obtain ⟨acc, hr, _⟩ := hq.r.ex
  obtain ⟨cs', hc'⟩ := hr.typed k (hq.o.trans e)
  exact key _ ht.2.2.2.2.2.2 k cs' hc'
theorem kept4 (w : World) (L : Nat) (u0 u1 u2 u3 : Value) : Kept (fun k => k = L) w ((((w.setCell ⟨L, 0, none⟩ u0).setCell ⟨L, 1, none⟩ u1).setCell ⟨L, 2, none⟩ u2).setCell ⟨L, 3, none⟩ u3) := ((((Kept.refl (fun k => k = L) w).setCell (p := ⟨L, 0, none⟩) (.inr rfl) _).setCell (p := ⟨L, 1, none⟩) (.inr rfl) _).setCell (p := ⟨L, 2, none⟩) (.inr rfl) _).setCell (p := ⟨L, 3, none⟩) (.inr rfl) _
set_option maxHeartbeats 1000000 in
set_option maxRecDepth 100000 in
theorem preply_any (w : World) (q : Nat) (rb : Option Nat) (names : List ByteArray) (R : Int × Rf.Cf) (h : QAt w q rb names R.2) (hA : R.1 = 1 → Rf.AnsOk names R.2) (hT : Tab w) :
    Calls Tryd.prog 26 #[.pointer (some ⟨q, 0, none⟩), .int .i64 R.1] w fun r w' => r = .returned (repV (Rf.repOf names R)) ∧ QAt w' q rb names (Rf.cfOf R) ∧ Kept (May q rb) w w' := by
  obtain ⟨k, cf⟩ := R
  simp only at h hA
  have HQ : Hid _ := h
  have HT : Hid (Tab w) := hT
  by_cases h1 : k = 1
  · subst h1
    have HA : Hid _ := hA rfl
    have HX1 : Hid (Rf.repOf names (1, cf) = ⟨1, Rf.textQ names cf.now.terms, 0, 0⟩) := rfl
    have HX2 : Hid (Rf.cfOf (1, cf) = ⟨Rf.stNone, cf.chs.map Rf.renC⟩) := rfl
    clear h hA hT
    go_enter Tryd.func26, Tryd.ntmps26
    go_wp2_with (first
      | (go_at_call 38; refine (ptext_any _ q rb names cf 9000 1000000 (HQ.out.below (by repeat (first | exact Below.refl _ _ | refine Below.setCell ?_ (by simp <;> omega) _ | refine Below.drew ?_ | refine Below.drewN ?_ _ | refine Below.alloc ?_ (by simp <;> omega) _))) HA.out.now (by omega) HA.out.tl HA.out.nz (Tab.below HT.out (by repeat (first | exact Below.refl _ _ | refine Below.setCell ?_ (by simp <;> omega) _ | refine Below.drew ?_ | refine Below.drewN ?_ _ | refine Below.alloc ?_ (by simp <;> omega) _)))).mono ?_; rintro r w1 ⟨rfl, hb1⟩; have hbw1 : Below w.heap.size w w1 := Below.trans ((Below.refl _ w).alloc (Nat.le_refl _) _) (hb1.mono (by rw [World.size_alloc]; omega)); have P1 := (hb1.block w.heap.size (by rw [World.size_alloc]; omega)).trans (blk_new w _); have hz1 := hbw1.size)
      | (go_at_call 39; refine (psuspend_any _ q rb names cf 9000 1000000 (HQ.out.below hbw1) HA.out.ch (by omega) (by omega) HA.out.cl).mono ?_; rintro r w2 ⟨rfl, hQ2, hk2⟩; have hnL : ¬ May q rb w.heap.size := (by obtain ⟨_, _, _, _, _, hqi⟩ := HQ.out.ex; rintro (e | e); (have := blk_lt hqi.b; omega); (obtain ⟨acc, hr, _⟩ := hqi.r.ex; have := (hr.lt _ (hqi.o.trans e.symm)).2; omega)); have P2 := (hk2.block w.heap.size (blk_lt P1) hnL).trans P1; have s0 := blk_cell P2 0; have s1 := blk_cell P2 1; have s2 := blk_cell P2 2; have s3 := blk_cell P2 3; have sf := blk_frozen P2; have sl := blk_lt P2; simp at s0 s1 s2 s3; have HP2 : Hid _ := P2; have HQ2 : Hid _ := hQ2; clear P1 P2 hQ2))
    refine bodyPost_ret (v := .agg #[.int .i64 1, .string (Rf.textQ names cf.now.terms), .int .i64 0, .int .i64 0]) (by simp [results, Tryd.results26, go_sem, *]) rfl ?_
    rw [HX2.out]
    refine ⟨ret_rep HX1.out, HQ2.out.keptL HP2.out (by decide) (kept4 _ _ _ _ _ _), ?_⟩
    exact ((Kept.of_below hbw1 (May q rb)).trans hk2 (fun _ _ h => h)).trans (kept4 _ _ _ _ _ _) (fun i hi e => absurd hi (by omega))
  · have h1' : (k != 1) = true := bne_iff_ne.2 h1
    have HX1 : Hid (Rf.repOf names (k, cf) = ⟨k, ⟨#[]⟩, 0, 0⟩) := by unfold Hid Rf.repOf; rw [if_neg h1]; rfl
    have HX2 : Hid (Rf.cfOf (k, cf) = cf) := by unfold Hid Rf.cfOf; rw [if_neg h1]
    clear h hA hT
    go_enter Tryd.func26, Tryd.ntmps26
    go_wp2_with fail
    refine bodyPost_ret (v := .agg #[.int .i64 k, .string ⟨#[]⟩, .int .i64 0, .int .i64 0]) (by simp [results, Tryd.results26, go_sem, *]) rfl ?_
    rw [HX2.out]
    exact ⟨ret_rep HX1.out, HQ.out.below (by repeat (first | exact Below.refl _ _ | refine Below.setCell ?_ (by simp <;> omega) _ | refine Below.drew ?_ | refine Below.drewN ?_ _ | refine Below.alloc ?_ (by simp <;> omega) _)), Kept.of_below (by repeat (first | exact Below.refl _ _ | refine Below.setCell ?_ (by simp <;> omega) _ | refine Below.drew ?_ | refine Below.drewN ?_ _ | refine Below.alloc ?_ (by simp <;> omega) _)) _⟩
theorem not_may {w : World} {q : Nat} {rb : Option Nat} {names : List ByteArray} {cf : Rf.Cf} (h : QAt w q rb names cf) : ¬ May q rb w.heap.size := by
  obtain ⟨_, _, _, _, _, hqi⟩ := h.ex
  rintro (e | e)
  · have := blk_lt hqi.b; omega
  · obtain ⟨acc, hr, _⟩ := hqi.r.ex
    have := (hr.lt _ (hqi.o.trans e.symm)).2
    omega
theorem not_may' {w w0 : World} {q : Nat} {rb rb' : Option Nat} {names : List ByteArray} {cf : Rf.Cf} (h : QAt w q rb names cf) (hn : Nb w0 rb rb') (hs : w.heap.size < w0.heap.size) : ¬ May q rb' w.heap.size := by
  have h1 := not_may h
  rintro (e | e)
  · exact h1 (.inl e)
  · rcases hn with e2 | ⟨k, e2, hk⟩
    · exact h1 (.inr (e.trans e2))
    · rw [e2] at e; injection e with e; omega
/-- What is kept while it is played is enough for an answer. -/
theorem ansOk {cls : List Rf.Cl} {names : List ByteArray} (hg : Rf.ClsG cls) (hk : Rf.ClsK cls) (hz : ∀ x ∈ names, x.size ≤ 12) {lim : Nat} (hl : lim ≤ 1000) {r : Int × Rf.Cf} (h : Rf.Kep cls names.length 0 r) (h1 : (Rf.playN cls lim r).1 = 1) : Rf.AnsOk names (Rf.playN cls lim r).2 := by
  obtain ⟨t', o, a1, a2, a3⟩ := Rf.playN_ind (P := Rf.Kep cls names.length) (fun _ _ h => Rf.kep_again hg hk h) (fun _ _ h hne => Rf.kep_take hg hk h hne) lim 0 r h
  have han := Rf.play_answer hk lim 0 r h.inv (by omega) h.out h1
  have ho : o = 0 := by
    rcases a3 with ⟨e1, e2⟩ | ⟨e1, _⟩
    · have := a2.out
      unfold Rf.OutK at this
      simp only at this
      omega
    · exact e1
  refine ⟨a2.cf.now.mono (by omega) (by omega), a2.tm.1 ho, hz, fun c hc => ?_, a2.cf.len⟩
  obtain ⟨n1, n2, n3, g, gs, hgs, _⟩ := han.2 c hc
  exact ⟨(a2.cf.chs c hc).1.mono (by omega) (by omega), by rw [hgs]; simp⟩
def TabB (B : Nat) (w : World) : Prop := Lib.TabBelow Tryd.prog B w "internal/strconv.uint64pow10" .u64 Lib.pow10Tab
theorem TabB.tab {B : Nat} {w : World} (h : TabB B w) : Tab w := Lib.TabBelow.here h
theorem TabB.on {B : Nat} {w w' : World} (h : TabB B w) (hb : Below B w w') : TabB B w' := Lib.TabBelow.on h hb
theorem TabB.kept {B q : Nat} {rb : Option Nat} {w w' : World} (h : TabB B w) (hk : Kept (May q rb) w w') (hB : B ≤ w.heap.size) (hq : B ≤ q) (hr : ∀ k, rb = some k → B ≤ k) : TabB B w' := h.on (hk.below hB (fun k hkB hm => by
  rcases hm with rfl | hm
  · omega
  · have := hr k hm.symm; omega))
end Go.Proofs.YtpdikdnffehmkaaDoor
/- The program's question (play: First, Begin): the plain functions' answers. -/
namespace Rf
def firstR (cls : List Cl) (lim : Nat) (cf : Cf) : Int × Cf := if 200 < sizeS cf.now then (7, cf) else playN cls lim (0, cf)
theorem namedFrom_snoc : ∀ (ns : List ByteArray) (i : Nat) (n : ByteArray), namedFrom i (ns ++ [n]) = namedFrom i ns ++ (if isNamedB n = true then [(n, i + ns.length)] else [])
  | [], i, n => by simp [namedFrom]
  | m :: ns, i, n => by
    rw [List.cons_append, namedFrom, namedFrom_snoc ns (i + 1) n, namedFrom, List.length_cons, List.append_assoc, show i + 1 + ns.length = i + (ns.length + 1) by omega]
end Rf
namespace Go.Proofs.YtpdikdnffehmkaaDoor
open Go.RowKit
set_option maxHeartbeats 1000000 in
set_option maxRecDepth 100000 in
theorem pfirst_any (w : World) (B q : Nat) (rb : Option Nat) (names : List ByteArray) (cf : Rf.Cf) (vc : Value) (cls : List Rf.Cl) (lim : Nat) (h : QAt w q rb names cf) (hC : SeenCls w vc cls) (hK : Rf.Kep cls names.length 0 (0, cf)) (hcg : Rf.ClsG cls) (hck : Rf.ClsK cls) (hl30 : cls.length ≤ 30) (hlim : lim ≤ 1000) (hz : ∀ x ∈ names, x.size ≤ 12) (hB : B ≤ w.heap.size) (hqB : B ≤ q) (hrB : ∀ k, rb = some k → B ≤ k) (hT : TabB B w) :
    Calls Tryd.prog 17 #[.pointer (some ⟨q, 0, none⟩), vc, .int .i64 (lim : Nat)] w fun r w' => r = .returned (repV (Rf.repOf names (Rf.firstR cls lim cf))) ∧ (∃ rb', QAt w' q rb' names (Rf.cfOf (Rf.firstR cls lim cf)) ∧ Nb w rb rb') ∧ Kept (May q rb) w w' := by
  have HQ : Hid _ := h
  have HC : Hid _ := hC
  have HK : Hid _ := hK
  have HCG : Hid (Rf.ClsG cls) := hcg
  have HCK : Hid (Rf.ClsK cls) := hck
  have HZ : Hid _ := hz
  have HT : Hid (TabB B w) := hT
  have HrB : Hid _ := hrB
  have HA : Hid _ := fun h1 => ansOk (lim := lim) hcg hck hz hlim hK h1
  obtain ⟨cla, clc, rfl⟩ := hC.slice
  obtain ⟨vN, vg, vt, fr, vC, hqi⟩ := h.ex
  obtain ⟨k0, k1, k2, k3, k4, kf, kl⟩ := hqi.b.facts
  obtain ⟨ga, gc, rfl⟩ := hqi.s.g.slice
  obtain ⟨ta, tc, rfl⟩ := hqi.s.t.slice
  have Hqi : Hid _ := hqi
  have hSG := hK.cf.now
  have HSG : Hid _ := hSG
  clear h hC hK hcg hck hz hT hrB hqi hSG
  obtain ⟨z, hzz⟩ : ∃ z, Hid (Rf.sizeS cf.now = z) := ⟨_, rfl⟩
  by_cases h2 : 200 < z
  · have HX : Hid (Rf.firstR cls lim cf = (7, cf)) := by unfold Hid Rf.firstR; rw [hzz.out, if_pos h2]
    have h2' : (200 : Int) < z := by omega
    rw [HX.out]
    go_enter Tryd.func17, Tryd.ntmps17
    go_wp2_with (go_at_call 24; refine (psizeS_any _ (.slice ga cf.now.goals.length gc) (.slice ta cf.now.terms.length tc) fr cf.now _ _ (Hqi.out.s.below (by repeat (first | exact Below.refl _ _ | refine Below.setCell ?_ (by simp <;> omega) _ | refine Below.drew ?_ | refine Below.drewN ?_ _ | refine Below.alloc ?_ (by simp <;> omega) _))) HSG.out (by omega)).mono ?_; rintro r w0 ⟨rfl, hb0⟩; rw [hzz.out]; have hbs : Below w.heap.size w w0 := Below.trans ((Below.refl _ w).alloc (Nat.le_refl _) _) (hb0.mono (by rw [World.size_alloc]; omega)); have P0 := (hb0.block w.heap.size (by rw [World.size_alloc]; omega)).trans (blk_new w _); have s0 := blk_cell P0 0; have s1 := blk_cell P0 1; have s2 := blk_cell P0 2; have s3 := blk_cell P0 3; have sf := blk_frozen P0; have sl := blk_lt P0; simp at s0 s1 s2 s3)
    refine bodyPost_ret (v := .agg #[.int .i64 7, .string ⟨#[]⟩, .int .i64 0, .int .i64 0]) (by simp [results, Tryd.results17, go_sem, *]) rfl ?_
    exact ⟨rfl, ⟨rb, (HQ.out.below hbs).keptL P0 (by decide) (kept4 _ _ _ _ _ _), .inl rfl⟩, (Kept.of_below hbs (May q rb)).trans (kept4 _ _ _ _ _ _) (fun i hi e => absurd hi (by omega))⟩
  · have HX : Hid (Rf.firstR cls lim cf = Rf.playN cls lim (0, cf)) := by unfold Hid Rf.firstR; rw [hzz.out, if_neg h2]
    have h2' : ¬ (200 : Int) < z := by omega
    rw [HX.out]
    obtain ⟨R, hR⟩ : ∃ R, Hid (Rf.playN cls lim (0, cf) = R) := ⟨_, rfl⟩
    rw [hR.out] at HA ⊢
    obtain ⟨⟨rk, rt, rc, rpp⟩, hRp⟩ : ∃ rp, Hid (Rf.repOf names R = rp) := ⟨_, rfl⟩
    rw [hRp.out]
    go_enter Tryd.func17, Tryd.ntmps17
    go_wp2_with (first
      | (go_at_call 24; refine (psizeS_any _ (.slice ga cf.now.goals.length gc) (.slice ta cf.now.terms.length tc) fr cf.now _ _ (Hqi.out.s.below (by repeat (first | exact Below.refl _ _ | refine Below.setCell ?_ (by simp <;> omega) _ | refine Below.drew ?_ | refine Below.drewN ?_ _ | refine Below.alloc ?_ (by simp <;> omega) _))) HSG.out (by omega)).mono ?_; rintro r w0 ⟨rfl, hb0⟩; rw [hzz.out]; have hbs : Below w.heap.size w w0 := Below.trans ((Below.refl _ w).alloc (Nat.le_refl _) _) (hb0.mono (by rw [World.size_alloc]; omega)); have P0 := (hb0.block w.heap.size (by rw [World.size_alloc]; omega)).trans (blk_new w _))
      | (go_at_call 25; refine (pplay_any _ q rb names cf (.slice cla cls.length clc) cls lim names.length 0 (HQ.out.below hbs) (HC.out.below hbs) HK.out HCG.out HCK.out hl30 hlim).mono ?_; rintro r w1 ⟨rfl, ⟨rb1, hQ1, hN1⟩, hk1⟩; rw [hR.out] at hQ1 ⊢; have HK1 : Hid (Kept (May q rb) w w1) := (Kept.of_below hbs (May q rb)).trans hk1 (fun _ _ h => h); have hN1' : Nb w rb rb1 := Nb.up hN1 hbs.size; have hz1 := HK1.out.size; have HT1 : Hid (Tab w1) := (HT.out.kept HK1.out hB hqB HrB.out).tab ; have P1 := (hk1.block w.heap.size (by have := hbs.size; exact blk_lt P0) (not_may HQ.out)).trans P0)
      | (go_at_call 26; refine (preply_any _ q rb1 names R hQ1 HA.out HT1.out).mono ?_; rintro r w2 ⟨rfl, hQ2, hk2⟩; rw [hRp.out]; simp only [repV]; have P2 := (hk2.block w.heap.size (blk_lt P1) (not_may' HQ.out hN1 (blk_lt P0))).trans P1; have s0 := blk_cell P2 0; have s1 := blk_cell P2 1; have s2 := blk_cell P2 2; have s3 := blk_cell P2 3; have sf := blk_frozen P2; have sl := blk_lt P2; simp at s0 s1 s2 s3))
    refine bodyPost_ret (v := .agg #[.int .i64 rk, .string rt, .int .i64 rc, .int .i64 rpp]) (by simp [results, Tryd.results17, go_sem, *]) rfl ?_
    refine ⟨rfl, ⟨rb1, hQ2.keptL P2 (by decide) (kept4 _ _ _ _ _ _), hN1'⟩, ?_⟩
    exact (kept_nb HK1.out hN1' hk2).trans (kept4 _ _ _ _ _ _) (fun i hi e => absurd hi (by omega))
end Go.Proofs.YtpdikdnffehmkaaDoor
/- The program's question (play: Begin): the plain function's answers. -/
namespace Go.Proofs.YtpdikdnffehmkaaDoor
open Go.RowKit
structure BeSt (w wr : World) (b : Nat) (vg : Value) (fr : Int) (vN vt : Value) (ns : List ByteArray) (acc : List (SlV × List Rf.Part)) : Prop where
  o : QB wr b vN vg vt fr (.slice none 0 0)
  n : RowIs wr (b + 1) 9 1 strCells vN ns
  t : TermsAt (b + 1) wr vt acc
  b : Below w.heap.size w wr
theorem BeSt.below {w wr w2 : World} {b : Nat} {vg vN vt : Value} {fr : Int} {ns : List ByteArray} {acc : List (SlV × List Rf.Part)} (h : BeSt w wr b vg fr vN vt ns acc) (hb : Below wr.heap.size wr w2) : BeSt w w2 b vg fr vN vt ns acc :=
  ⟨(hb.block b (blk_lt h.o)).trans h.o, h.n.below hb, h.t.below hb, h.b.trans (hb.mono h.b.size)⟩
theorem BeSt.apart {w wr : World} {b : Nat} {vg vN vt : Value} {fr : Int} {ns : List ByteArray} {acc : List (SlV × List Rf.Part)} (h : BeSt w wr b vg fr vN vt ns acc) : ∀ k, vN.ownBlock = some k → vt.ownBlock = some k → False := fun k e1 e2 => by
  obtain ⟨c1, h1⟩ := h.n.typed k e1
  obtain ⟨c2, h2⟩ := h.t.row.typed k e2
  rw [h1] at h2
  injection h2 with h2; injection h2 with _ h2
  exact absurd h2 (by decide)
theorem BeSt.name {w wr w3 : World} {b : Nat} {vg vN vN' vt : Value} {fr : Int} {ns : List ByteArray} {x : ByteArray} {acc : List (SlV × List Rf.Part)} (h : BeSt w wr b vg fr vN vt ns acc) (hO : w.heap.size ≤ b) (hg : wr.grownBy w3 vN.ownBlock) (hr : RowIs w3 (b + 1) 9 1 strCells vN' (ns ++ [x])) :
    QB w3 b vN vg vt fr (.slice none 0 0) ∧ BeSt w (w3.setCell ⟨b, 0, none⟩ vN') b vg fr vN' vt (ns ++ [x]) acc := by
  have hbl : ∀ k, vN.ownBlock = some k → b + 1 ≤ k := fun k e => (h.n.lt k e).1
  have ho : w3.heap[b]? = _ := (hg.block b (blk_lt h.o) (fun e => by have := hbl b e.symm; omega)).trans h.o
  have hk : Kept (fun k => vN.ownBlock = some k) wr w3 := (Kept.refl _ wr).grown hg (fun k e => .inr e)
  have nt : ∀ cs (t : TypeId), t ≠ 62 → w3.heap[b]? ≠ some (.cells cs t (0, 0)) := fun cs t hne e => by
    rw [ho] at e; injection e with e; injection e with _ e; exact hne e.symm
  have hT : RowIs w3 (b + 1) 67 1 slCells vt (acc.map (·.1)) := h.t.row.keptBy hk (fun k e1 e2 => h.apart k e2 e1)
  refine ⟨ho, blk_set ho 0 _, hr.setCell ⟨b, 0, none⟩ _ (fun e => ?_), ⟨hT.setCell ⟨b, 0, none⟩ _ (fun e => ?_), fun q hq => ((h.t.each q hq).grownT h.n (by decide) hg).setCell _ _ (fun cs => nt cs _ (by decide))⟩, (h.b.grown hg h.b.size (fun k e => by have := hbl k e; omega)).setCell (p := ⟨b, 0, none⟩) hO _⟩
  · have := (hr.lt _ e).1; simp at this; omega
  · have := (hT.lt _ e).1; simp at this; omega
theorem BeSt.term {w wr w3 : World} {b : Nat} {vg vN vt vt' : Value} {fr : Int} {ns : List ByteArray} {acc : List (SlV × List Rf.Part)} {x : SlV} {ps : List Rf.Part} (h : BeSt w wr b vg fr vN vt ns acc) (hO : w.heap.size ≤ b) (hx : Seen wr 65 partCells (.slice x.a x.n x.c) ps) (hg : wr.grownBy w3 vt.ownBlock) (hr : RowIs w3 (b + 1) 67 1 slCells vt' (acc.map (·.1) ++ [x])) :
    QB w3 b vN vg vt fr (.slice none 0 0) ∧ BeSt w (w3.setCell ⟨b, 2, none⟩ vt') b vg fr vN vt' ns (acc ++ [(x, ps)]) := by
  have hbl : ∀ k, vt.ownBlock = some k → b + 1 ≤ k := fun k e => (h.t.row.lt k e).1
  have ho : w3.heap[b]? = _ := (hg.block b (blk_lt h.o) (fun e => by have := hbl b e.symm; omega)).trans h.o
  have hk : Kept (fun k => vt.ownBlock = some k) wr w3 := (Kept.refl _ wr).grown hg (fun k e => .inr e)
  have nt : ∀ cs (t : TypeId), t ≠ 62 → w3.heap[b]? ≠ some (.cells cs t (0, 0)) := fun cs t hne e => by
    rw [ho] at e; injection e with e; injection e with _ e; exact hne e.symm
  have hT := TermsAt.app h.t hx hg hr
  have hN : RowIs w3 (b + 1) 9 1 strCells vN ns := h.n.keptBy hk (fun k e1 e2 => h.apart k e1 e2)
  refine ⟨ho, blk_set ho 2 _, hN.setCell ⟨b, 2, none⟩ _ (fun e => ?_), ⟨hT.row.setCell ⟨b, 2, none⟩ _ (fun e => ?_), fun q hq => (hT.each q hq).setCell _ _ (fun cs => nt cs _ (by decide))⟩, (h.b.grown hg h.b.size (fun k e => by have := hbl k e; omega)).setCell (p := ⟨b, 2, none⟩) hO _⟩
  · have := (hN.lt _ e).1; simp at this; omega
  · have := (hT.row.lt _ e).1; simp at this; omega
set_option maxHeartbeats 1000000 in
set_option maxRecDepth 100000 in
theorem pbegin_any (w : World) (vg : Value) (gs : List (List Rf.Part)) (vN : Value) (ns : List ByteArray) (hG : SeenTs w vg gs) (hN : Seen w 9 strCells vN ns) (hl : ns.length ≤ 16) :
    Calls Tryd.prog 16 #[vg, vN] w fun r w' => ∃ q, r = .returned (.pointer (some ⟨q, 0, none⟩)) ∧ w.heap.size ≤ q ∧ QAt w' q none (Rf.beginN ns) (Rf.beginC gs ns) ∧ Below w.heap.size w w' := by
  obtain ⟨ga, gc, rfl⟩ := hG.slice
  obtain ⟨na, nc, rfl⟩ := hN.slice
  have HG : Hid _ := hG
  have HN : Hid _ := hN
  clear hG hN
  obtain ⟨n0, hn0⟩ : ∃ n, Hid (ns.length = n) := ⟨_, rfl⟩
  rw [hn0.out] at hl ⊢
  go_enter Tryd.func16, Tryd.ntmps16
  go_wp2_with fail
  have hst : BeSt w (w.alloc (.cells #[.slice none 0 0, .slice ga gs.length gc, .slice none 0 0, .int .i64 n0, .slice none 0 0] 62)) w.heap.size (.slice ga gs.length gc) n0 (.slice none 0 0) (.slice none 0 0) [] [] := ⟨blk_new _ _, RowIs.nil _ _ _ _ _, ⟨RowIs.nil _ _ _ _ _, fun q hq => by cases hq⟩, (Below.refl _ w).alloc (Nat.le_refl _) _⟩
  have HST : Hid _ := hst
  clear hst
  go_loopw [16] (fun iv wr => ∃ (i : Nat) (vN vt : Value) (acc : List (SlV × List Rf.Part)), i ≤ n0 ∧ iv = .int .i64 (i : Nat) ∧ BeSt w wr w.heap.size (.slice ga gs.length gc) n0 vN vt (Rf.beginN (ns.take i)) acc ∧ Hid (acc.map (·.2) = Rf.beginT (ns.take i))) (fun iv _ => n0 - (intOf iv).toNat)
  case atStart =>
    exact ⟨0, _, _, [], Nat.zero_le _, rfl, HST.out, rfl⟩
  case round =>
    obtain ⟨i, vN, vt, acc, hi, rfl, hS, hinv⟩ := hrel
    obtain ⟨m0, m1, m2, m3, m4, mf, ml⟩ := QB.facts hS.o
    obtain ⟨nl, hnl⟩ : ∃ nl, Hid (Rf.beginN (ns.take i) = nl) := ⟨_, rfl⟩
    rw [hnl.out] at hS
    have hll : nl.length ≤ 16 := by
      have h9 := Rf.namedFrom_len 0 (ns.take i)
      rw [← hnl.out]; unfold Rf.beginN
      rw [List.length_map]; rw [List.length_take, hn0.out] at h9; omega
    have hal : acc.length ≤ 16 := by
      have h9 := Rf.namedFrom_len 0 (ns.take i)
      have h8 := congrArg List.length hinv.out
      unfold Rf.beginT at h8
      rw [List.length_map, List.length_map] at h8; rw [List.length_take, hn0.out] at h9; omega
    have HS : Hid _ := hS
    obtain ⟨an, cn, rfl⟩ := row_slice hS.n
    obtain ⟨at_, ct, rfl⟩ := row_slice hS.t.row
    clear hS
    by_cases hlt : i < n0
    · have hlt' : (i : Int) < n0 := by omega
      have hil : i < ns.length := by rw [hn0.out]; exact hlt
      obtain ⟨g, off, rfl⟩ := HN.out.pos (by omega)
      have hcell : ∀ x, ns[i]? = some x → wr.cell? ⟨g, off + i, none⟩ = some (.string x) := fun x hx => Seen.strAt' (HN.out.below HS.out.b) i x hx
      have hgl := (HN.out.below HS.out.b).lt
      obtain ⟨x, hx⟩ : ∃ x, ns[i]? = some x := ⟨_, List.getElem?_eq_getElem hil⟩
      have hc := hcell x hx
      have htk : ns.take (i + 1) = ns.take i ++ [x] := by rw [List.take_add_one, hx]; rfl
      have hsn := Rf.namedFrom_snoc (ns.take i) 0 x
      rw [← htk, List.length_take, Nat.min_eq_left (by omega), Nat.zero_add] at hsn
      have HTK : Hid _ := htk
      have HSN : Hid _ := hsn
      have HX : Hid _ := hx
      clear hcell hil hx htk hsn
      cases hb : Rf.isNamedB x
      · have HB : Hid _ := hb
        go_wp2_with (go_at_call 23; refine (pisNamed_any x _).mono ?_; rintro r w1 ⟨rfl, rfl⟩; rw [HB.out])
        go_roundw
        case rel =>
          refine ⟨i + 1, .slice an nl.length cn, .slice at_ (acc.map (·.1)).length ct, acc, by omega, by go_num, ?_, ?_⟩
          · have h9 : Rf.beginN (ns.take (i + 1)) = nl := by unfold Rf.beginN; rw [HSN.out, HB.out, ← hnl.out]; simp [Rf.beginN]
            rw [h9]; exact HS.out
          · unfold Hid Rf.beginT; rw [HSN.out, HB.out, hinv.out]; simp [Rf.beginT]
        case measure => simp [intOf]; omega
      · have HB : Hid _ := hb
        rw [List.length_map] at HS m2
        go_wp2_with (first
          | (at_builtin; refine wpList_app Tryd.elemTerms slCells slCells_len slCells_one _ rfl (.tmp 38) (.tmp 42) rfl (w.heap.size + 1) (.slice at_ acc.length ct) (acc.map (·.1)) rfl (hA3.t.row) ⟨_, 0, none⟩ 1 ⟨some ⟨_, 0, none⟩, 1, 1⟩ rfl (cell_one_at _ _ (by simp) _ _) (by rw [List.length_map]; omega) (by simp; omega) ?_; intro gT capT w4 hrow4 hgr4 hnb4; have hA4 := BeSt.term (x := ⟨some ⟨_, 0, none⟩, 1, 1⟩) (ps := Rf.varP i) hA3 (Nat.le_refl _) hP hgr4 hrow4; obtain ⟨r0, r1, r2, r3, r4, rf, rb⟩ := QB.facts hA4.1)
          | (at_builtin; refine wpList_app Tryd.elemStr strCells strCells_len strCells_one _ rfl (.tmp 27) (.tmp 29) rfl (w.heap.size + 1) (.slice an nl.length cn) nl rfl (HS.out.n.alloc _) ⟨_, 0, none⟩ 1 x rfl (cell_one_at _ _ (by simp) _ _) (by omega) (by simp; omega) ?_; intro gN capN w3 hrow3 hgr3 hnb3; have hA2 := BeSt.name (HS.out.below ((Below.refl _ _).alloc (Nat.le_refl _) _)) (Nat.le_refl _) hgr3 hrow3; obtain ⟨q0, q1, q2, q3, q4, qf, qb⟩ := QB.facts hA2.1; have hA3 := (hA2.2.below ((Below.refl _ _).alloc (Nat.le_refl _) (.cells #[.int .i64 1, .string ⟨#[]⟩, .int .i64 i, .int .i64 0] 65))).below ((Below.refl _ _).alloc (Nat.le_refl _) (.cells #[.slice (some ⟨w3.heap.size, 0, none⟩) 1 1] 67)); have hP : Seen _ 65 partCells (.slice (some ⟨w3.heap.size, 0, none⟩) 1 1) (Rf.varP i) := Seen.one (p := ⟨1, ⟨#[]⟩, i, 0⟩) (blk_alloc (blk_at (w3.setCell ⟨w.heap.size, 0, none⟩ (.slice (some ⟨gN, 0, none⟩) (nl.length + 1) capN)) _ w3.heap.size (by simp)) (.cells #[.slice (some ⟨w3.heap.size, 0, none⟩) 1 1] 67)))
          | (go_at_call 23; refine (pisNamed_any x _).mono ?_; rintro r w1 ⟨rfl, rfl⟩; rw [HB.out]))
        go_roundw
        case rel =>
          refine ⟨i + 1, .slice (some ⟨gN, 0, none⟩) (nl.length + 1) capN, .slice (some ⟨gT, 0, none⟩) (acc.length + 1) capT, acc ++ [(⟨some ⟨w3.heap.size, 0, none⟩, 1, 1⟩, Rf.varP i)], by omega, by go_num, ?_, ?_⟩
          · have h9 : Rf.beginN (ns.take (i + 1)) = nl ++ [x] := by unfold Rf.beginN; rw [HSN.out, HB.out, ← hnl.out]; simp [Rf.beginN]
            have h8 := hA4.2
            rw [List.length_map] at h8
            rw [h9]; exact h8
          · unfold Hid Rf.beginT; rw [HSN.out, HB.out, List.map_append, hinv.out]; simp [Rf.beginT]
        case measure => simp [intOf]; omega
    · have hlt' : ¬ (i : Int) < n0 := by omega
      have hend : i = n0 := by omega
      go_wp2_with fail
      go_ret
      have h7 : ns.take i = ns := by rw [hend, ← hn0.out, List.take_length]
      have h8 := hinv.out
      have h9 := hnl.out
      rw [h7] at h8 h9
      have h6 := HS.out
      refine ⟨w.heap.size, rfl, Nat.le_refl _, ⟨_, _, _, _, _, h6.o, ?_, ⟨?_, ?_, ?_⟩, ⟨[], RowIs.nil _ _ _ _ _, (fun y hy => absurd hy (by simp)), rfl⟩, rfl⟩, h6.b⟩
      · rw [h9]; exact h6.n.seen
      · exact HG.out.below h6.b
      · exact ⟨acc, h6.t.row.seen, h6.t.each, h8.symm⟩
      · show (n0 : Int) = ((ns.length : Nat) : Int); rw [hn0.out]
end Go.Proofs.YtpdikdnffehmkaaDoor
/- How the program writes a clause (term: Clause.Text). -/
namespace Go.Proofs.YtpdikdnffehmkaaDoor
open Go.RowKit
def lineQ (c : Rf.Cl) : ByteArray := Rf.accL (Rf.txt c.head) c.body c.body.length ++ ⟨#[46]⟩
theorem lineQ_P (c : Rf.Cl) : lineQ c ++ ⟨#[10]⟩ = Rf.lineP c := by
  unfold lineQ Rf.lineP
  rw [ByteArray.append_assoc]
  rfl
end Go.Proofs.YtpdikdnffehmkaaDoor
/- The program's session (prompt: New, Stop, Listing, Consult): how it lies in memory, and the plain functions' answers. -/
namespace Go.Proofs.YtpdikdnffehmkaaDoor
open Go.RowKit
/-- Block x holds a session of the program's: its limit, its clauses' row vC, its question vQ. -/
def PsB (w : World) (x : Nat) (lim : Int) (vC vQ : Value) : Prop :=
  w.heap[x]? = some (.cells #[.int .i64 lim, vC, vQ] 47 (0, 0))
/-- A row of at most 30 good clauses. -/
structure PCls30 (F : Nat → Prop) (w : World) (v : Value) (cls : List Rf.Cl) : Prop where
  ex : ∃ acc, PClsAt F w v acc ∧ cls = acc.map (·.2) ∧ acc.length ≤ 30
  good : ∀ c ∈ cls, GoodC c ∧ Rf.ArgCl c
/-- A session of the program's: block x, not among F, where its clauses lie. -/
structure PsAt (F : Nat → Prop) (w : World) (x : Nat) (cls : List Rf.Cl) : Prop where
  ex : ∃ lim vC vQ, PsB w x lim vC vQ ∧ PCls30 F w vC cls
  apart : ¬ F x
theorem lineQ_size (c : Rf.Cl) : (lineQ c).size + 1 = (Rf.lineP c).size := by
  rw [← lineQ_P, ByteArray.size_append]; rfl
set_option maxHeartbeats 400000 in
theorem pnew_bad (lim : Int) (w : World) (h : lim < 1 ∨ 1000 < lim) :
    Calls Tryd.prog 11 #[.int .i64 lim] w fun r w' => r = .returned (.tuple #[.pointer none, .int .i64 7]) ∧ w' = w := by
  rcases h with h | h
  · go_enter Tryd.func11, Tryd.ntmps11
    go_wp2
    go_ret2
    exact ⟨rfl, rfl⟩
  · have h1 : 1 ≤ lim := by omega
    go_enter Tryd.func11, Tryd.ntmps11
    go_wp2
    go_ret2
    exact ⟨rfl, rfl⟩
set_option maxHeartbeats 400000 in
theorem pnew_ok (lim : Int) (w : World) (h : 1 ≤ lim) (h' : lim ≤ 1000) :
    Calls Tryd.prog 11 #[.int .i64 lim] w fun r w' => r = .returned (.tuple #[.pointer (some ⟨w.heap.size, 0, none⟩), .int .i64 0]) ∧ Below w.heap.size w w' ∧ w'.heap.size = w.heap.size + 1 ∧
      PsB w' w.heap.size lim (.slice none 0 0) (.pointer none) := by
  go_enter Tryd.func11, Tryd.ntmps11
  go_wp2
  go_ret2
  exact ⟨rfl, (Below.refl _ _).alloc (Nat.le_refl _) _, by simp, blk_new _ _⟩
set_option maxHeartbeats 400000 in
theorem pstop_nil (w : World) : Calls Tryd.prog 14 #[.pointer none] w fun r w' => r = .returned (.tuple #[]) ∧ w' = w := by
  go_enter Tryd.func14, Tryd.ntmps14
  go_wp2
  go_end0
  exact ⟨rfl, rfl⟩
set_option maxHeartbeats 400000 in
theorem pstop_any (x : Nat) (w : World) (h : ∃ lim vC vQ, PsB w x lim vC vQ) : Calls Tryd.prog 14 #[.pointer (some ⟨x, 0, none⟩)] w fun r w' => r = .returned (.tuple #[]) ∧ w' = w.setCell ⟨x, 2, none⟩ (.pointer none) := by
  obtain ⟨lim, vC, vQ, hB⟩ := h
  have k2 : w.cell? ⟨x, 2, none⟩ = some vQ := blk_cell hB 2
  have kf := blk_frozen hB
  have hxl := blk_lt hB
  clear hB
  go_enter Tryd.func14, Tryd.ntmps14
  go_wp2
  go_end0
  exact ⟨rfl, rfl⟩
set_option maxHeartbeats 400000 in
theorem pconsult_nil (s : ByteArray) (w : World) : Calls Tryd.prog 12 #[.pointer none, .string s] w fun r w' => r = .returned (.tuple #[.int .i64 7, .int .i64 0]) ∧ w' = w := by
  go_enter Tryd.func12, Tryd.ntmps12
  go_wp2
  go_ret2
  exact ⟨rfl, rfl⟩
end Go.Proofs.YtpdikdnffehmkaaDoor
