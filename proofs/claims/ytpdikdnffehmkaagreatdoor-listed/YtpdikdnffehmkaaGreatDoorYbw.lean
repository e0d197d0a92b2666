/- The statements' session, same, lines. -/
import Derived.Test.YtpdikdnffehmkaaGreatDoorYbv
import Derived.Deep.RegionHeld2
import Derived.Test.YtpdikdnffehmkaaGreatDoorYbu
import Derived.Test.YtpdikdnffehmkaaGreatDoorYbs
import Derived.Test.YtpdikdnffehmkaaGreatDoorCards
import Derived.Test.YtpdikdnffehmkaaGreatDoorTie
namespace Go.Proofs.YtpdikdnffehmkaaGreatDoor
open Go.RowKit
set_option maxHeartbeats 1000000 in
set_option maxRecDepth 100000 in
theorem ksession_any (w : World) (p : Int) (a : Option Addr) (n c : Nat) (l : List Rf.MoveV) (hp : -9223372036854775808 ≤ p) (hp' : p ≤ 9223372036854775807) (hM : MovesAt w (.slice a n c) l) (hok : ∀ m ∈ l, m.s.size ≤ maxLen) (hl : l.length * 24 ≤ 140737488355328) (hMB : ∀ g off, 1 ≤ l.length → a = some ⟨g, off, none⟩ → g < w.heap.size) (hT : TabB w.heap.size w) :
    Calls Tryz.prog 26 #[.int .i64 p, .slice a n c] w fun r w' => ∃ x, r = .returned (.pointer (some ⟨x, 0, none⟩)) ∧ SeIn w.heap.size (fun k => w.heap.size ≤ k ∧ k < w'.heap.size) w' x (Rf.movedS ⟨(1 + (Rf.pickK p 1000 : Int)).toNat, [], none⟩ l).2 ∧ Below w.heap.size w w' := by
  have HM : Hid (MovesAt w (.slice a n c) l) := hM
  have HO : Hid _ := hok
  have HT : Hid (TabB w.heap.size w) := hT
  have HB : Hid (∀ g off, 1 ≤ l.length → a = some ⟨g, off, none⟩ → g < w.heap.size) := hMB
  obtain ⟨b, hb⟩ : ∃ b, Hid (Rf.pickK p 1000 = b) := ⟨_, rfl⟩
  have hb2 : b < 1000 := by have := Rf.pickK_lt (c := p) (n := 1000) (by omega); rw [hb.out] at this; omega
  rw [hb.out]
  clear hM hok hT hMB
  go_enter Tryz.func26, Tryz.ntmps26
  go_wp2_with (first
    | (go_at_call 30; refine (kmoved_any w.heap.size _ w1 w.heap.size _ a n c l (MovesAt.on HM.out hb1 (Nat.le_refl _)) HO.out hl hS1 hb1.size HB.out (TabB.on HT.out hb1)).mono ?_; rintro r w2 ⟨a2, c2, rfl, hR2, hD2⟩)
    | (go_at_call 24; refine (pnew_int w.heap.size w _ (by omega) (by omega) (Nat.le_refl _)).mono ?_; rintro r w1 ⟨rfl, hS1, hb1⟩)
    | (go_at_call 21; refine (kpick_any p 1000 _ hp hp' (by omega) (by omega)).mono ?_; rintro r w0 ⟨hr0, hw0⟩; rw [hb.out] at hr0; subst hr0; subst w0))
  go_ret
  have hz1 := hb1.size
  have hz2 := hD2.size
  refine ⟨w.heap.size, rfl, hD2.1.mono (fun k e => ?_) (fun k e => e.1) (fun k e => e.2), hb1.trans (hD2.below hz1)⟩
  rcases e with e | e
  · omega
  · omega
set_option maxHeartbeats 1000000 in
theorem ksame_any (a1 : Option Addr) (n1 c1 : Nat) (a2 : Option Addr) (n2 c2 : Nat) (xs : List ByteArray) (w : World) (h1 : Seen w 9 strCells (.slice a1 n1 c1) xs) (h2 : Seen w 9 strCells (.slice a2 n2 c2) xs) :
    Calls Tryz.prog 31 #[.slice a1 n1 c1, .slice a2 n2 c2] w fun r w' => r = .returned (.bool true) ∧ Below w.heap.size w w' := by
  obtain rfl : n1 = xs.length := h1.len
  obtain rfl : n2 = xs.length := h2.len
  have hcp := h1.cap
  have hml : xs.length ≤ 9223372036854775807 := by unfold maxLen at hcp; omega
  have H1 : Hid _ := h1
  have H2 : Hid _ := h2
  clear h1 h2 hcp
  go_enter Tryz.func31, Tryz.ntmps31
  go_wp2_with fail
  go_loopw [5] (fun iv wr => ∃ k : Nat, k ≤ xs.length ∧ iv = .int .i64 k ∧ Below w.heap.size w wr) (fun iv _ => xs.length - (intOf iv).toNat)
  case atStart => exact ⟨0, by omega, rfl, Below.refl _ _⟩
  case round =>
    obtain ⟨k, hk, rfl, hbr⟩ := hrel
    have hsz := hbr.size
    by_cases hlt : k < xs.length
    · obtain ⟨g1, o1, rfl⟩ := H1.out.pos (by omega)
      obtain ⟨g2, o2, rfl⟩ := H2.out.pos (by omega)
      have e1 := Seen.strAt (H1.out.below hbr) k xs[k] (by simp [hlt])
      have e2 := Seen.strAt (H2.out.below hbr) k xs[k] (by simp [hlt])
      generalize xs[k] = x at *
      have hlt' : (k : Int) < xs.length := by omega
      go_wp2_with fail
      go_quiet (fail)
      go_wp2_with fail
      go_roundw
      case rel => exact ⟨k + 1, by omega, by go_num, hbr.drewN _⟩
      case measure => simp [intOf]; omega
    · obtain rfl : k = xs.length := by omega
      go_wp2_with fail
      go_ret
      exact ⟨rfl, hbr⟩
end Go.Proofs.YtpdikdnffehmkaaGreatDoor
/- The statements' lines. -/
namespace Go.Proofs.YtpdikdnffehmkaaGreatDoor
open Go.RowKit
set_option maxHeartbeats 1000000 in
set_option maxRecDepth 100000 in
theorem klines_any (s : ByteArray) (w : World) (hs : s.size ≤ 1000000000) :
    Calls Tryz.prog 28 #[.string s] w fun r w' => ∃ a2 n2 c2, r = .returned (.slice a2 n2 c2) ∧ Seen w' 9 strCells (.slice a2 n2 c2) (Rf.linesR s s.size 0) ∧ Below w.heap.size w w' := by
  go_enter Tryz.func28, Tryz.ntmps28
  go_wp2_with fail
  go_loopw [3, 4, 5] (fun lv fv iv wr => ∃ (k f : Nat) (acc : List ByteArray), k ≤ s.size ∧ f ≤ k ∧ acc.length ≤ k ∧ iv = .int .i64 k ∧ fv = .int .i64 f ∧ RowIs wr w.heap.size 9 1 strCells lv acc ∧ Hid (Rf.linesR s s.size 0 = acc ++ Rf.linesR s (s.size - k) f) ∧ Below w.heap.size w wr) (fun _ _ iv _ => s.size - (intOf iv).toNat)
  case atStart => exact ⟨0, 0, [], by omega, by omega, by simp, rfl, rfl, RowIs.nil _ _ _ _ _, rfl, Below.refl _ _⟩
  case round =>
    obtain ⟨k, f, acc, hk, hf, hac, rfl, rfl, hrow, hinv, hbr⟩ := hrel
    have hsz := hbr.size
    obtain ⟨a4, c4, hv4⟩ := row_slice hrow
    subst hv4
    by_cases hlt : k < s.size
    · have hb := Rf.byteAt_eq s k hlt
      have hsk : s.size - k = (s.size - (k + 1)) + 1 := by omega
      rw [hsk, Rf.linesR, show s.size - (s.size - (k + 1) + 1) = k by omega] at hinv
      have hlt' : (k : Int) < s.size := by omega
      by_cases h10 : Rf.byteAt s k = 10
      · rw [if_pos h10] at hinv
        have hb10 : ((s[k].toNat : Int) == 10) = true := beq_iff_eq.2 (by omega)
        have hfk : (f : Int) ≤ k := by omega
        clear hb h10 hsk
        go_wp2_with (at_builtin; refine wpList_app Tryz.elemStr strCells strCells_len strCells_one _ rfl (.tmp 16) (.tmp 21) rfl w.heap.size (.slice a4 acc.length c4) acc rfl (hrow.alloc _) ⟨_, 0, none⟩ 1 (s.extract f k) rfl (cell_one_at _ _ rfl _ _) (by omega) (by rw [World.size_alloc]; omega) ?_; intro gA capA w3 hrow3 hgr3 hnb3)
        go_roundw
        case rel => exact ⟨k + 1, k + 1, acc ++ [s.extract f k], by omega, by omega, by simp; omega, by go_num, by go_num, hrow3, by unfold Hid; rw [hinv.out]; simp, (hbr.alloc hsz _).grown hgr3 (by rw [World.size_alloc]; omega) (fun j e => (hrow.lt j e).1)⟩
        case measure => simp [intOf]; omega
      · rw [if_neg h10] at hinv
        have hb10 : ((s[k].toNat : Int) == 10) = false := beq_eq_false_iff_ne.2 (by omega)
        clear hb h10 hsk
        go_wp2_with fail
        go_roundw
        case rel => exact ⟨k + 1, f, acc, by omega, by omega, by omega, by go_num, rfl, hrow, hinv, hbr⟩
        case measure => simp [intOf]; omega
    · obtain rfl : k = s.size := by omega
      go_wp2_with fail
      go_ret
      refine ⟨a4, _, c4, rfl, ?_, hbr⟩
      rw [hinv.out, Nat.sub_self, Rf.linesR, List.append_nil]
      exact hrow.seen
end Go.Proofs.YtpdikdnffehmkaaGreatDoor
/- Listed: what is listed, consulted line by line, gives the same listing and the same answers; walked. -/
namespace Go.Proofs.YtpdikdnffehmkaaGreatDoor
open Go.RowKit
namespace ListedW
theorem seen_done {B : Nat} {G : Nat → Prop} {w w' : World} {x : Nat} {S : Rf.Se} {v : Value} {xs : List ByteArray} (h : Seen w 9 strCells v xs) (hD : SeDone B G w x S w') : Seen w' 9 strCells v xs := Seen.kept h hD.2 (fun k cs hc e => Turn.not hc (by decide) (by decide) (by decide) (by decide) e.2)
set_option maxHeartbeats 4000000 in
set_option maxRecDepth 100000 in
theorem listed_any (W : World) (p : Int) (a : Option Addr) (n c : Nat) (l : List Rf.MoveV) (a' : Option Addr) (n' c' : Nat) (l' : List Rf.MoveV) (hp : -9223372036854775808 ≤ p) (hp' : p ≤ 9223372036854775807) (hM : MovesAt W (.slice a n c) l) (hok : ∀ m ∈ l, m.s.size ≤ maxLen) (hl : l.length * 24 ≤ 140737488355328) (hM' : MovesAt W (.slice a' n' c') l') (hok' : ∀ m ∈ l', m.s.size ≤ maxLen) (hl' : l'.length * 24 ≤ 140737488355328) (hT : Tab W) :
    Calls Tryz.prog 8 #[.int .i64 p, .slice a n c, .slice a' n' c'] W fun r w' => r = .returned (.bool true) ∧ Below W.heap.size W w' := by
  obtain rfl : n = l.length := hM.len
  obtain rfl : n' = l'.length := hM'.len
  have HM : Hid (MovesAt W (.slice a l.length c) l) := hM
  have HM' : Hid (MovesAt W (.slice a' l'.length c') l') := hM'
  have HO : Hid (∀ m ∈ l, m.s.size ≤ maxLen) := hok
  have HO' : Hid (∀ m ∈ l', m.s.size ≤ maxLen) := hok'
  have HT : Hid (Tab W) := hT
  obtain ⟨lim, hlim⟩ : ∃ m, Hid ((1 + (Rf.pickK p 1000 : Int)).toNat = m) := ⟨_, rfl⟩
  obtain ⟨S, hS⟩ : ∃ S, Hid ((Rf.movedS ⟨lim, [], none⟩ l).2 = S) := ⟨_, rfl⟩
  have hLs := Rf.moved_ls l ⟨lim, [], none⟩ (fun c hc => by simp at hc)
  rw [hS.out] at hLs
  obtain ⟨hL1, hL2⟩ := hLs
  have HLs : Hid (Rf.LsOk S) := hL1
  have HLm : Hid (S.lim = lim) := hL2
  have HMW : Hid (∀ g off, 1 ≤ l.length → a = some ⟨g, off, none⟩ → g < W.heap.size) := fun g off h1 e => by subst e; exact (hM.at h1).1
  have HMW' : Hid (∀ g off, 1 ≤ l'.length → a' = some ⟨g, off, none⟩ → g < W.heap.size) := fun g off h1 e => by subst e; exact (hM'.at h1).1
  have HNil : Hid (∀ w : World, MovesAt w (.slice none 0 0) []) := fun w => .inl ⟨rfl, none, 0, rfl⟩
  clear hM hM' hok hok' hT hL1 hL2
  go_enter Tryz.func8, Tryz.ntmps8
  go_wp2_with (first
    | (go_at_call 28; refine (klines_any _ _ (by have := Rf.listS_size hOk.cls HLs.out hOk.cl; omega)).mono ?_; rintro r w5 ⟨a5, n5, c5, rfl, hR5, hb5⟩; rw [Rf.list_lines hOk.cls] at hR5)
    | (go_at_call 27; refine (plisting_in w1.heap.size _ w3 x _ hx3 (TabB.on HT1.out hB3)).mono ?_; rintro r w4 ⟨hr4, hb4⟩; rw [listS_eq] at hr4; subst hr4; have hB4 := hB3.trans (hb4.mono hB3.size))
    | (go_at_call 26; have h9 := hx2; refine (ksession_any w2 p none 0 0 [] hp hp' (HNil.out _) (fun m hm => by simp at hm) (by simp) (fun g off h1 e => by cases e) (tab_here (TabB.tab (TabB.on HT1.out hb2)))).mono ?_; rintro r w3 ⟨y, rfl, hy3', hb3⟩; rw [hlim.out] at hy3'; have hy3 := hy3'.lower hz2; have hz3 := hb3.size; have hB3 := hb2.trans (hb3.mono hz2); have hx3 := hx2.below hb3)
    | (go_at_call 26; refine (ksession_any w1 p a l.length c l hp hp' (MovesAt.on HM.out hb1 (Nat.le_refl _)) HO.out hl (fun g off h1 e => by have := HMW.out g off h1 e; omega) HT1.out).mono ?_; rintro r w2 ⟨x, rfl, hx2, hb2⟩; rw [hlim.out, hS.out] at hx2; have hz2 := hb2.size; have hOk := hx2.ok)
    | (go_at_call 23; refine (kworks_any W HT.out).mono ?_; rintro r w1 ⟨rfl, hb1⟩; have HT1 : Hid (TabB w1.heap.size w1) := tab_here (Tab.below HT.out hb1); have hz1 := hb1.size))
  obtain rfl : n5 = S.cls.length := by have := hR5.len; rw [List.length_map] at this; exact this
  have HB1 : Hid (Below W.heap.size W w1) := hb1
  have HOk : Hid (Rf.SeOk S) := hOk
  have hB5 := hB4.trans (hb5.mono hB4.size)
  have HB5 : Hid (Below w1.heap.size w1 w5) := hB5
  have HR5 : Hid (Seen w5 9 strCells (.slice a5 S.cls.length c5) (S.cls.map Rf.lineL)) := hR5
  have Hx5 : Hid (SeIn w1.heap.size (fun k => w1.heap.size ≤ k ∧ k < w2.heap.size) w5 x S) := (hx3.below hb4).below hb5
  have Hy5 : Hid (SeIn w1.heap.size (fun k => w2.heap.size ≤ k ∧ k < w3.heap.size) w5 y ⟨lim, [], none⟩) := (hy3.below hb4).below hb5
  have h30 : S.cls.length ≤ 30 := hOk.cl
  have hLz : Hid ((Rf.listS S.cls).size ≤ 13000) := Rf.listS_size hOk.cls HLs.out hOk.cl
  obtain ⟨nc, hnc⟩ : ∃ n, Hid (S.cls.length = n) := ⟨_, rfl⟩
  rw [hnc.out] at HR5 h30
  clear hR5 hb1 hb2 hb3 hb4 hb5 hB3 hB4 hB5 hx2 hx3 hy3 hy3' hOk
  rw [hnc.out]
  go_loopw [12, 13, 14] (fun iv _ _ wr => ∃ i : Nat, i ≤ nc ∧ iv = .int .i64 i ∧ (∃ Gx Gy, SeIn w1.heap.size Gx wr x S ∧ SeIn w1.heap.size Gy wr y ⟨lim, S.cls.take i, none⟩ ∧ ∀ k, Gx k → ¬ Gy k) ∧ Seen wr 9 strCells (.slice a5 nc c5) (S.cls.map Rf.lineL) ∧ Below w1.heap.size w1 wr) (fun iv _ _ _ => nc - (intOf iv).toNat)
  case atStart => exact ⟨0, by omega, rfl, ⟨_, _, Hx5.out, Hy5.out, fun k e e2 => by omega⟩, HR5.out, HB5.out⟩
  case round =>
    obtain ⟨i, hi, rfl, ⟨Gx, Gy, hx, hy, hd⟩, hR, hbr⟩ := hrel
    have hsz := hbr.size
    have Hx : Hid _ := hx
    have Hy : Hid _ := hy
    have HR : Hid (Seen wr 9 strCells (.slice a5 nc c5) (S.cls.map Rf.lineL)) := hR
    have HBR : Hid _ := hbr
    by_cases hlt : i < nc
    · obtain ⟨g5, o5, rfl⟩ := Seen.pos hR (by rw [List.length_map, hnc.out]; omega)
      have hic : i < S.cls.length := by rw [hnc.out]; exact hlt
      have hq := Seen.strAt hR i (Rf.lineL S.cls[i]) (by rw [List.getElem?_map, List.getElem?_eq_getElem hic]; rfl)
      have hgl := hR.lt
      have hCo := Rf.consult_line (lim := lim) HOk.out.cls HLs.out HOk.out.cl hic
      have hls := HLs.out _ (List.getElem_mem hic)
      obtain ⟨tx, htx⟩ : ∃ tx, Rf.lineL S.cls[i] = tx := ⟨_, rfl⟩
      rw [htx] at hq hCo hls
      have HCo : Hid (Rf.consultS ⟨lim, S.cls.take i, none⟩ tx = ((0, 0), ⟨lim, S.cls.take (i + 1), none⟩)) := hCo
      have hmx : tx.size ≤ maxLen := by unfold maxLen; omega
      have hlt' : (i : Int) < nc := by omega
      clear hx hy hR hbr hCo htx hic hls
      go_wp2_with (go_at_call 25; refine (pconsult_in w1.heap.size Gy wr y _ tx hmx Hy.out hsz).mono ?_; rintro r w6 ⟨hr6, hD6⟩; rw [HCo.out] at hr6 hD6; subst hr6; simp only [])
      go_roundw
      case rel => exact ⟨i + 1, by omega, by go_num, ⟨Gx, _, hD6.other Hx.out hd, hD6.1, fun k e e2 => by rcases e2 with e2 | e2; exact hd k e e2; have := Hx.out.hi k e; omega⟩, seen_done HR.out hD6, HBR.out.trans (hD6.below hsz)⟩
      case measure => simp [intOf]; omega
    · obtain rfl : i = nc := by omega
      have htk : S.cls.take i = S.cls := List.take_of_length_le (by rw [hnc.out]; exact Nat.le_refl _)
      rw [htk] at Hy
      have HMat' : Hid (∀ X, Below w1.heap.size w1 X → MovesAt X (.slice a' l'.length c') l') := fun X hX => MovesAt.on HM'.out (HB1.out.trans (hX.mono hz1)) (Nat.le_refl _)
      have HMB' : Hid (∀ g off, 1 ≤ l'.length → a' = some ⟨g, off, none⟩ → g < w1.heap.size) := fun g off h1 e => by have := HMW'.out g off h1 e; omega
      have HSt : Hid (Rf.stopS S = ⟨lim, S.cls, none⟩) := by unfold Hid Rf.stopS; rw [HLm.out]
      clear hx hy hR hbr htk
      go_wp2_with (first
        | (go_at_call 31; refine (ksame_any _ _ _ _ _ _ (Rf.movedS ⟨lim, S.cls, none⟩ l').1 _ (seen_done hR8 hD9) hR9).mono ?_; rintro r w10 ⟨rfl, hb10⟩)
        | (go_at_call 30; have h9 := hD8; refine (kmoved_any w1.heap.size Gy w8 y _ a' l'.length c' l' (HMat'.out _ hB8) HO'.out hl' hy8 hB8.size HMB'.out (TabB.on HT1.out hB8)).mono ?_; rintro r w9 ⟨a9, c9, rfl, hR9, hD9⟩; have hB9 := hB8.trans (hD9.below hB8.size))
        | (go_at_call 30; refine (kmoved_any w1.heap.size _ w7 x _ a' l'.length c' l' (HMat'.out _ hB7) HO'.out hl' hx7 hB7.size HMB'.out (TabB.on HT1.out hB7)).mono ?_; rintro r w8 ⟨a8, c8, rfl, hR8, hD8⟩; have hB8 := hB7.trans (hD8.below hB7.size); have hy8 := hD8.other hy7 (fun k e e2 => (by rcases e2 with e2 | e2; exact hd k e2 e; have := hy6.hi k e; omega)))
        | (go_at_call 29; refine (pstop_in w1.heap.size Gx w6 x _ hx6).mono ?_; rintro r w7 ⟨rfl, hD7⟩; rw [HSt.out] at hD7; have hx7 := hD7.1; have hB7 := hB6.trans (hD7.below hB6.size); have hy7 := hD7.other hy6 (fun k e e2 => hd k e2 e))
        | (go_at_call 27; refine (plisting_in w1.heap.size _ wr y _ Hy.out (TabB.on HT1.out HBR.out)).mono ?_; rintro r w6 ⟨hr6, hb6⟩; rw [listS_eq] at hr6; subst hr6; have hB6 := HBR.out.trans (hb6.mono hsz); have hx6 := Hx.out.below hb6; have hy6 := Hy.out.below hb6))
      go_ret
      exact ⟨rfl, HB1.out.trans ((hB9.trans (hb10.mono hB9.size)).mono hz1)⟩
end ListedW
end Go.Proofs.YtpdikdnffehmkaaGreatDoor
/- Moves out of a row's data. -/
namespace Go.Proofs.YtpdikdnffehmkaaGreatDoor
open Go.ChangeShapes Go.WideShapes Go.ChangeAt Go.RowKit Go.Deep
theorem Tryz.cellsMove : Tryz.prog.cellsOf 58 = 2 := by kernel_rfl
theorem Tryz.bytesMove : Tryz.prog.bytesOf 58 = 24 := by kernel_rfl
theorem Tryz.fieldsMove : ∃ f0 f1 : Field, Tryz.prog.underlying 58 = some (.struct #[f0, f1]) ∧ (f0.type = 3 ∧ f0.offset = 0) ∧ (f1.type = 9 ∧ f1.offset = 1) :=
  ⟨_, _, Tryz.underlying58, ⟨rfl, rfl⟩, ⟨rfl, rfl⟩⟩
section
variable {H : Type} {enc : TypeId × Value → H}
set_option maxRecDepth 100000 in
theorem open_move {W : World} {sp : Nat → Bool} {hd : Bool} {n : Nat} {cs : List Value} {y : DataW H × List MemPlace} (h : DataW.trod enc Tryz.prog W 0 sp hd n 58 cs = some y) : ∃ x : Rf.MoveV, cs = [.int .i64 x.kd, .string x.s] ∧ x.s.size ≤ maxLen := by
  obtain ⟨f0, f1, hu, ⟨t0, o0⟩, ⟨t1, o1⟩⟩ := Tryz.fieldsMove
  obtain ⟨xs, k, _, _, hlen, hxl, hf⟩ := DataW.trod_struct hu h
  rw [Tryz.cellsMove] at hlen
  match xs, hxl, cs, hlen with
  | [y0, y1], _, [v0, v1], _ =>
    have g0 := hf 0 f0 rfl
    have g1 := hf 1 f1 rfl
    rw [t0, o0, Tryz.cellsInt] at g0
    rw [t1, o1, Tryz.cellsStr] at g1
    simp only [List.drop_zero, List.drop_succ_cons, List.take_succ_cons, List.take_zero, List.getElem?_cons_zero, List.getElem?_cons_succ] at g0 g1
    obtain ⟨n0, e0, _, _⟩ := DataW.trod_int Tryz.underlying3 g0
    obtain ⟨s, e1, _, hs⟩ := DataW.trod_string Tryz.underlying9 g1
    simp only [List.cons.injEq, and_true] at e0 e1
    subst e0 e1
    exact ⟨⟨n0, s⟩, rfl, hs⟩
theorem open_moves {W : World} {v : Value} {d : DataW H} {p : List MemPlace} (hd : DataW.Trod enc Tryz.prog W 0 (fun _ => true) true 49 v d p) (hok : ∃ a len cap, v = .slice a len cap)
    (hsz : ∀ elems spare, d = .slice elems spare → (elems.length + spare.length) * 24 ≤ reachBytes) :
    ∃ l, MovesAt W v l ∧ (∀ x ∈ l, x.s.size ≤ maxLen) ∧ l.length * 24 ≤ 140737488355328 := by
  obtain ⟨a0, len0, cap0, rfl⟩ := hok
  obtain ⟨n, hn⟩ := hd
  have hn' : DataW.trod enc Tryz.prog W 0 (fun _ => true) true n 49 [.slice a0 len0 cap0] = some (d, p) := hn
  rcases open_slice Tryz.underlying49 hn' with ⟨hc, hx⟩ | ⟨a, len, cap, m, k, D, Pl, hc, _, hl, hm, hmm, hx, hall⟩
  · simp only [List.cons.injEq, and_true] at hc
    exact ⟨[], .inl ⟨rfl, none, 0, hc⟩, by simp, by decide⟩
  · simp only [List.cons.injEq, and_true] at hc
    simp only [if_true] at hmm
    subst hmm
    simp only [Prod.mk.injEq] at hx
    have hsz' := hsz _ _ hx.1
    simp only [List.length_map, List.length_range, reachBytes] at hsz'
    rw [Tryz.cellsMove] at hall
    have each : ∀ i, i < m → ∃ x : Rf.MoveV, x.s.size ≤ maxLen ∧ W.cell? (a.add (i * 2)) = some (.int .i64 x.kd) ∧ W.cell? (a.add (i * 2 + 1)) = some (.string x.s) := fun i hi => by
      obtain ⟨cs, h1, h2⟩ := hall i hi
      obtain ⟨x, rfl, hxok⟩ := open_move h2
      obtain ⟨_, hlen, hcell⟩ := World.cells?_some h1
      refine ⟨x, hxok, ?_, ?_⟩
      · have := hcell 0 (by omega)
        rw [add_add, Nat.add_zero] at this
        exact this
      · have := hcell 1 (by omega)
        rw [add_add] at this
        exact this
    have : Inhabited Rf.MoveV := ⟨⟨0, ⟨#[]⟩⟩⟩
    obtain ⟨X, hX⟩ := choose_lt each
    by_cases h0 : len = 0
    · subst h0
      exact ⟨[], .inl ⟨rfl, some a, m, hc⟩, by simp, by decide⟩
    · obtain ⟨sb, so, spot⟩ := a
      have h00 := (hX 0 (by omega)).2.1
      have hspot : spot = none := by simpa [Addr.add] using World.cell?_spot h00
      subst hspot
      refine ⟨(List.range len).map X, .inr ⟨sb, so, m, ?_, ?_, fun i x hi => ?_⟩, fun x hx => ?_, ?_⟩
      · rw [hc, List.length_map, List.length_range]
      · have h9 : W.cell? ⟨sb, so, none⟩ = some (.int .i64 (X 0).kd) := by simpa [Addr.add] using h00
        exact cell_lt h9
      · rw [List.getElem?_map] at hi
        obtain ⟨i', hi', rfl⟩ := Option.map_eq_some_iff.1 hi
        have hil := (List.getElem?_eq_some_iff.1 hi').1
        rw [List.length_range] at hil
        rw [List.getElem?_range hil] at hi'
        obtain rfl := Option.some.inj hi'
        obtain ⟨_, t0, t1⟩ := hX i (by omega)
        rw [Addr.add_lit] at t0 t1
        exact ⟨t0, by rw [Nat.add_assoc]; exact t1⟩
      · obtain ⟨i, hi, rfl⟩ := List.mem_map.1 hx
        exact (hX i (by have := List.mem_range.1 hi; omega)).1
      · rw [List.length_map, List.length_range]
        omega
end
end Go.Proofs.YtpdikdnffehmkaaGreatDoor
/- The given card of Listed, out of its walk. -/
namespace Go.Proofs.YtpdikdnffehmkaaGreatDoor
open Go.ChangeShapes Go.WideShapes Go.ChangeAt Go.RowKit Go.Deep
/-- What the walk has to give. -/
def ListedWalk : Prop := ∀ (W : World) (n0 : Int) (v1 : Value) (l1 : List Rf.MoveV) (v2 : Value) (l2 : List Rf.MoveV), -9223372036854775808 ≤ n0 → n0 ≤ 9223372036854775807 → MovesAt W v1 l1 → (∀ x ∈ l1, x.s.size ≤ maxLen) → l1.length * 24 ≤ 140737488355328 → MovesAt W v2 l2 → (∀ x ∈ l2, x.s.size ≤ maxLen) → l2.length * 24 ≤ 140737488355328 → Lib.TabIs Tryz.prog W "internal/strconv.uint64pow10" .u64 Lib.pow10Tab →
    Calls Tryz.prog 8 #[.int .i64 n0, v1, v2] W fun e W' => e = .returned (.bool true) ∧ Below W.heap.size W W'
namespace ListedC
theorem table {W : World} (h : laidMetH Tryz.prog Rows.listedRow.laid W) : Lib.TabIs Tryz.prog W "internal/strconv.uint64pow10" .u64 Lib.pow10Tab := by
  have h' : laidMet Tryz.prog Rows.listedRow.laid W := by
    rw [MakeChecks.laidMetH_plain _ _ _ (by kernel_rfl)] at h
    exact h
  exact Lib.tabIs_of_head Tryz.gTab Tryz.gTabType Tryz.underlying239 Tryz.underlying198 Tryz.cellsU64 Tryz.cellsTab (laidMet.tail (laidMet.tail h'))
section
variable {H : Type} {enc : TypeId × Value → H}
set_option maxRecDepth 100000 in
/-- What the walk gives, for every argument and every world that holds the table. -/
theorem contract (hw : ListedWalk) (W : World) (base : Nat) (args : Array Value) (ds gs : List (DataW H)) (before : List MemPlace)
    (hval : ∀ (j : Nat) t v, Tryz.f8.params[j]? = some t → args[j]? = some v → Value.okWide Tryz.prog W .any base t v)
    (hW : DataW.Whole enc Tryz.prog Tryz.f8.params.toList Rows.listedSpec.vars false W args.toList ds gs before)
    (hsz : (DataW.weightsEach Tryz.prog (Tryz.f8.params.toList ++ (OpenSpec.ofChange Rows.listedSpec).bare.plain.varTypes Tryz.prog) (ds ++ gs)).all (· ≤ reachBytes) = true)
    (hL : laidMetH Tryz.prog Rows.listedRow.laid W) :
    Calls Tryz.prog 8 args W fun e W' => ∃ v, e = .returned v ∧ Rows.listedSpec.post enc Tryz.prog Tryz.f8 false true false false W args v W' := by
  have hW' := hW
  obtain ⟨p, q, hA0, hV, rfl, hfz, hnd⟩ := hW
  have hA : DataW.TrodAll enc Tryz.prog W 0 (fun _ => true) true Tryz.f8.params.toList args.toList ds p := hA0
  rw [Tryz.params8] at hA hval hsz
  obtain ⟨v0, vs0, d0, ds0, p0, q0, hargs, rfl, rfl, h0, r0⟩ := trodAll_cons hA
  obtain ⟨v1, vs1, d1, ds1, p1, q1, rfl, rfl, rfl, h1, r1⟩ := trodAll_cons r0
  obtain ⟨v2, vs2, d2, ds2, p2, q2, rfl, rfl, rfl, h2, r2⟩ := trodAll_cons r1
  obtain ⟨rfl, rfl, rfl⟩ := trodAll_nil r2
  obtain rfl : args = #[v0, v1, v2] := by cases args; simp_all
  obtain ⟨rfl, rfl⟩ := trodVars_none hV
  clear hA0
  have hv0 := hval 0 3 v0 rfl rfl
  obtain ⟨n0, rfl, rfl, rfl, hwf0⟩ := open_int Tryz.underlying3 hv0 h0
  have hn0 := i64_wf hwf0
  obtain ⟨l1, hS1, hok1, hn1⟩ := open_moves h1 (okWide_slice Tryz.underlying49 (hval 1 49 v1 rfl rfl)) (fun elems spare e => by
    subst e
    have := sized_slice hsz (j := 1) (t := 49) (e := 58) rfl rfl Tryz.underlying49
    rw [Tryz.bytesMove] at this
    exact this)
  obtain ⟨l2, hS2, hok2, hn2⟩ := open_moves h2 (okWide_slice Tryz.underlying49 (hval 2 49 v2 rfl rfl)) (fun elems spare e => by
    subst e
    have := sized_slice hsz (j := 2) (t := 49) (e := 58) rfl rfl Tryz.underlying49
    rw [Tryz.bytesMove] at this
    exact this)
  refine (hw W n0 v1 l1 v2 l2 hn0.1 hn0.2 hS1 hok1 hn1 hS2 hok2 hn2 (table hL)).mono fun e W' ⟨he, hB⟩ => ?_
  subst he
  have hlt : ∀ x ∈ ([] : List MemPlace) ++ (p1 ++ (p2 ++ [])) ++ [], x.block < W.heap.size := fun x hx => hW'.lt x hx
  refine ⟨_, rfl, [.lit (.int .i64 n0), d1, d2], [], _, [], ([] : List MemPlace) ++ (p1 ++ (p2 ++ [])), [], hW', ?_, ?_, ?_, hB.frame _, fun h => by cases h⟩
  · exact trodAll_cons_mk (shut_bool Tryz.underlying4 true) trodAll_mk0
  · exact (trodAll_cons_mk (again (of_decide_eq_true (by kernel_rfl)) h0 hB (fun x hx => by simp at hx)) (trodAll_cons_mk (again (of_decide_eq_true (by kernel_rfl)) h1 hB (fun x hx => hlt x (by simp [hx]))) (trodAll_cons_mk (again (of_decide_eq_true (by kernel_rfl)) h2 hB (fun x hx => hlt x (by simp [hx]))) trodAll_mk0)))
  · rfl
end
theorem laid_met (os : Os) : laidMet Tryz.prog Rows.listedRow.laid ((World.doorLaid Tryz.prog 400 os).forCall (fun _ _ => 0) ⟨#[], #[.int .i64 0, .slice none 0 0, .slice none 0 0], []⟩).memory :=
  laidMet_of_run' 8 (by kernel_rfl) (by kernel_rfl)
theorem reads (os : Os) {H : Type} (enc : TypeId × Value → H) : ∃ places, DataW.whole enc Tryz.prog ((World.doorLaid Tryz.prog 400 os).forCall (fun _ _ => 0) ⟨#[], #[.int .i64 0, .slice none 0 0, .slice none 0 0], []⟩).memory Tryz.f8.params.toList Rows.listedSpec.vars false #[Value.int .i64 0, .slice none 0 0, .slice none 0 0].toList 8 = some ([.lit (.int .i64 0), .nil, .nil], [], places) :=
  ⟨[], by kernel_rfl⟩
set_option maxRecDepth 100000 in
theorem lifted (hw : ListedWalk) (os : Os) (started : os.Started) (H : Type) (enc : TypeId × Value → H) (F : Stop.Interp) :
    ReturnsInHanded {} Tryz.checked os 8 .any ((OpenSpec.ofChange Rows.listedSpec).preRow enc Tryz.prog Tryz.f8 Rows.listedRow.domain false Rows.listedRow.laid) (((OpenSpec.ofChange Rows.listedSpec).at F).post enc Tryz.prog Tryz.f8 false true false false) := by
  obtain ⟨places, hx⟩ := reads os enc
  refine returnsInHanded_of_row (C := Tryz.checked) (s := OpenSpec.ofChange Rows.listedSpec) Tryz.own started (by kernel_rfl) Tryz.func8
    (witness_row_atRef (enc := enc) (C := Tryz.checked) false (World.doorLaid Tryz.prog 400 os) #[.int .i64 0, .slice none 0 0, .slice none 0 0] rfl (by kernel_rfl) (by kernel_rfl) (by kernel_rfl)
      (OpenSpec.preRow_of_cond 8 hx (by kernel_rfl) (fun k hk => by cases hk) (by kernel_rfl) (laid_met os))) ?_
  intro W base args ds gs before hval hW _ _ hsz hL _ _
  exact contract hw W base args ds gs before hval hW hsz hL
theorem said (hw : ListedWalk) : Rows.ListedSaid :=
  OpenClaim.holds_of_cond 8 Tryz.f8 rfl rfl rfl rfl rfl rfl rfl ⟨rfl, rfl, rfl, rfl, rfl⟩ rfl rfl rfl rfl rfl (by kernel_rfl) Tryz.func8 (by kernel_rfl)
    (of_decide_eq_true (by kernel_rfl)) (by unfold Func.isWrapper; first | (rw [if_pos (by decide +kernel)]; kernel_rfl) | (rw [if_neg (by decide +kernel)]; exact ⟨rfl, rfl⟩))
    (fun os started H enc _ F => by rw [OpenClaim.pre_eq_preRow]; exact lifted hw os started H enc F)
theorem plain (f : FuncId) (fn : Func) (hf : Tryz.pinned.checked.prog.funcNamed "prompt/promptkeep.Listed" = some f) (hfn : Tryz.pinned.checked.prog.funcs[f]? = some fn) :
    true = Tryz.pinned.checked.prog.looks [] ∧ ∀ (j : Nat) t, fn.params[j]? = some t → Tryz.pinned.checked.prog.wantsStandIn t = false := by
  obtain rfl : f = 8 := Option.some.inj ((show Tryz.prog.funcNamed "prompt/promptkeep.Listed" = some 8 by kernel_rfl).symm.trans hf) |>.symm
  obtain rfl : fn = Tryz.f8 := (Option.some.inj (Tryz.func8.symm.trans hfn)).symm
  refine ⟨by kernel_rfl, fun j t ht => ?_⟩
  rw [Tryz.params8] at ht
  have hm := Array.mem_of_getElem? ht
  have hm2 : t ∈ ([3, 49, 49] : List TypeId) := by simpa using hm
  have key : ∀ t ∈ ([3, 49, 49] : List TypeId), Tryz.prog.wantsStandIn t = false := fun t h => by
    simp only [List.mem_cons, List.not_mem_nil, or_false] at h
    rcases h with rfl | rfl | rfl <;> kernel_rfl
  exact key t hm2
theorem card_of (hw : ListedWalk) : Rows.ListedCardSaid :=
  Claim7.holds_tied_plain_at .later [] _ _ _ _ (said hw) (fun _ h => by cases h) (by kernel_rfl) (fun _ h => by cases h) listed_row_tie rfl ⟨rfl, rfl⟩ (by kernel_rfl) rfl plain (by kernel_rfl)
end ListedC
end Go.Proofs.YtpdikdnffehmkaaGreatDoor
