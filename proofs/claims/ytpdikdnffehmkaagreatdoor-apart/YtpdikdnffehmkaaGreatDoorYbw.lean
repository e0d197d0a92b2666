/- The statements' session, same, lines. -/
import Derived.Test.YtpdikdnffehmkaaGreatDoorYbv
import Derived.Deep.RegionHeld2
import Derived.Test.YtpdikdnffehmkaaGreatDoorYbs
namespace Go.Proofs.YtpdikdnffehmkaaGreatDoor
open Go.RowKit
set_option maxHeartbeats 1000000 in
set_option maxRecDepth 100000 in
theorem ksession_any (w : World) (p : Int) (a : Option Addr) (n c : Nat) (l : List Rf.MoveV) (hp : -9223372036854775808 ≤ p) (hp' : p ≤ 9223372036854775807) (hM : MovesAt w (.slice a n c) l) (hok : ∀ m ∈ l, m.s.size ≤ maxLen) (hl : l.length * 24 ≤ 140737488355328) (hMB : ∀ g off, 1 ≤ l.length → a = some ⟨g, off, none⟩ → g < w.heap.size) (hT : TabB w.heap.size w) :
    Calls Tryz.prog 26 #[.int .i64 p, .slice a n c] w fun r w' => ∃ x, r = .returned (.pointer (some ⟨x, 0, none⟩)) ∧ SeIn w.heap.size (fun k => w.heap.size ≤ k ∧ k < w'.heap.size) w' x (Rf.movedS ⟨(1 + (Rf.pickK p 1000 : Int)).toNat, [], none⟩ l).2 ∧ Below w.heap.size w w' := by
  have HM : Hid (MovesAt w (.slice a n c) l) := hM
  have HO : Hid _ := hok
  have HT : Hid (TabB w.heap.size w) := hT
  have HB : Hid (∀ g off, 1 ≤ l.length → a = some ⟨g, off, none⟩ → g < w.heap.size) := hMB
  obtain ⟨b, hb⟩ : ∃ b, Hid (Rf.pickK p 1000 = b) := ⟨_, rfl⟩
  have hb2 : b < 1000 := by have := Rf.pickK_lt (c := p) (n := 1000) (by omega); rw [hb.out] at this; omega
  rw [hb.out]
  clear hM hok hT hMB
  go_enter Tryz.func26, Tryz.ntmps26
  go_wp2_with (first
    | (go_at_call 30; refine (kmoved_any w.heap.size _ w1 w.heap.size _ a n c l (MovesAt.on HM.out hb1 (Nat.le_refl _)) HO.out hl hS1 hb1.size HB.out (TabB.on HT.out hb1)).mono ?_; rintro r w2 ⟨a2, c2, rfl, hR2, hD2⟩)
    | (go_at_call 24; refine (pnew_int w.heap.size w _ (by omega) (by omega) (Nat.le_refl _)).mono ?_; rintro r w1 ⟨rfl, hS1, hb1⟩)
    | (go_at_call 21; refine (kpick_any p 1000 _ hp hp' (by omega) (by omega)).mono ?_; rintro r w0 ⟨hr0, hw0⟩; rw [hb.out] at hr0; subst hr0; subst w0))
  go_ret
  have hz1 := hb1.size
  have hz2 := hD2.size
  refine ⟨w.heap.size, rfl, hD2.1.mono (fun k e => ?_) (fun k e => e.1) (fun k e => e.2), hb1.trans (hD2.below hz1)⟩
  rcases e with e | e
  · omega
  · omega
set_option maxHeartbeats 1000000 in
theorem ksame_any (a1 : Option Addr) (n1 c1 : Nat) (a2 : Option Addr) (n2 c2 : Nat) (xs : List ByteArray) (w : World) (h1 : Seen w 9 strCells (.slice a1 n1 c1) xs) (h2 : Seen w 9 strCells (.slice a2 n2 c2) xs) :
    Calls Tryz.prog 31 #[.slice a1 n1 c1, .slice a2 n2 c2] w fun r w' => r = .returned (.bool true) ∧ Below w.heap.size w w' := by
  obtain rfl : n1 = xs.length := h1.len
  obtain rfl : n2 = xs.length := h2.len
  have hcp := h1.cap
  have hml : xs.length ≤ 9223372036854775807 := by unfold maxLen at hcp; omega
  have H1 : Hid _ := h1
  have H2 : Hid _ := h2
  clear h1 h2 hcp
  go_enter Tryz.func31, Tryz.ntmps31
  go_wp2_with fail
  go_loopw [5] (fun iv wr => ∃ k : Nat, k ≤ xs.length ∧ iv = .int .i64 k ∧ Below w.heap.size w wr) (fun iv _ => xs.length - (intOf iv).toNat)
  case atStart => exact ⟨0, by omega, rfl, Below.refl _ _⟩
  case round =>
    obtain ⟨k, hk, rfl, hbr⟩ := hrel
    have hsz := hbr.size
    by_cases hlt : k < xs.length
    · obtain ⟨g1, o1, rfl⟩ := H1.out.pos (by omega)
      obtain ⟨g2, o2, rfl⟩ := H2.out.pos (by omega)
      have e1 := Seen.strAt (H1.out.below hbr) k xs[k] (by simp [hlt])
      have e2 := Seen.strAt (H2.out.below hbr) k xs[k] (by simp [hlt])
      generalize xs[k] = x at *
      have hlt' : (k : Int) < xs.length := by omega
      go_wp2_with fail
      go_quiet (fail)
      go_wp2_with fail
      go_roundw
      case rel => exact ⟨k + 1, by omega, by go_num, hbr.drewN _⟩
      case measure => simp [intOf]; omega
    · obtain rfl : k = xs.length := by omega
      go_wp2_with fail
      go_ret
      exact ⟨rfl, hbr⟩
end Go.Proofs.YtpdikdnffehmkaaGreatDoor
/- Apart: two sessions that are used by turns, in memory. -/
namespace Go.Proofs.YtpdikdnffehmkaaGreatDoor
open Go.RowKit
namespace ApartW
/-- Three sessions and two rows of answers, all apart. -/
structure ApSt (B : Nat) (w : World) (x y z : Nat) (S T U : Rf.Se) (av bv : Value) (ra9 bs : List ByteArray) : Prop where
  ex : ∃ Gx Gy Gz, SeIn B Gx w x S ∧ SeIn B Gy w y T ∧ SeIn B Gz w z U ∧ (∀ k, Gx k → ¬ Gy k) ∧ (∀ k, Gx k → ¬ Gz k) ∧ (∀ k, Gy k → ¬ Gz k) ∧ (∀ j, av.ownBlock = some j → ¬ Gx j ∧ ¬ Gy j ∧ ¬ Gz j) ∧ (∀ j, bv.ownBlock = some j → ¬ Gx j ∧ ¬ Gy j ∧ ¬ Gz j)
  ra : RowIs w B 9 1 strCells av ra9
  rb : RowIs w B 9 1 strCells bv bs
  ap : ∀ j, av.ownBlock = some j → bv.ownBlock ≠ some j
theorem ApSt.swap {B : Nat} {w : World} {x y z : Nat} {S T U : Rf.Se} {av bv : Value} {ra9 bs : List ByteArray} (h : ApSt B w x y z S T U av bv ra9 bs) : ApSt B w y x z T S U bv av bs ra9 := by
  obtain ⟨Gx, Gy, Gz, h1, h2, h3, d1, d2, d3, o1, o2⟩ := h.ex
  exact ⟨⟨Gy, Gx, Gz, h2, h1, h3, fun k e e2 => d1 k e2 e, d3, d2, fun j e => ⟨(o2 j e).2.1, (o2 j e).1, (o2 j e).2.2⟩, fun j e => ⟨(o1 j e).2.1, (o1 j e).1, (o1 j e).2.2⟩⟩, h.rb, h.ra, fun j e e2 => h.ap j e2 e⟩
/-- A move of the first session, and what it answers behind its row. -/
theorem ApSt.step {B : Nat} {w : World} {x y z : Nat} {T U S' : Rf.Se} {av bv : Value} {ra9 bs : List ByteArray} {Gx Gy Gz : Nat → Prop} {w2 w3 : World} {s : ByteArray} {gA capA : Nat}
    (h2 : SeIn B Gy w y T) (h3 : SeIn B Gz w z U) (d1 : ∀ k, Gx k → ¬ Gy k) (d2 : ∀ k, Gx k → ¬ Gz k) (d3 : ∀ k, Gy k → ¬ Gz k) (o1 : ∀ j, av.ownBlock = some j → ¬ Gx j ∧ ¬ Gy j ∧ ¬ Gz j) (o2 : ∀ j, bv.ownBlock = some j → ¬ Gx j ∧ ¬ Gy j ∧ ¬ Gz j) (ra : RowIs w B 9 1 strCells av ra9) (rb : RowIs w B 9 1 strCells bv bs) (ap : ∀ j, av.ownBlock = some j → bv.ownBlock ≠ some j)
    (hB : B ≤ w.heap.size) (hD : SeDone B Gx w x S' w2) (hrow3 : RowIs w3 B 9 1 strCells (.slice (some ⟨gA, 0, none⟩) (ra9.length + 1) capA) (ra9 ++ [s])) (hgr3 : (w2.alloc (.cells #[.string s] 9)).grownBy w3 av.ownBlock) (hnb3 : Nb (w2.alloc (.cells #[.string s] 9)) av.ownBlock (some gA)) :
    ApSt B w3 x y z S' T U (.slice (some ⟨gA, 0, none⟩) (ra9.length + 1) capA) bv (ra9 ++ [s]) bs ∧ Below B w w3 := by
  have hz2 := hD.size
  have hba : Below w2.heap.size w2 (w2.alloc (.cells #[.string s] 9)) := (Below.refl _ _).alloc (Nat.le_refl _) _
  have ra2 := (ra.keptBy hD.2 (fun j e e2 => (o1 j e).1 e2.1)).alloc (.cells #[.string s] 9)
  have rb2 := (rb.keptBy hD.2 (fun j e e2 => (o2 j e).1 e2.1)).alloc (.cells #[.string s] 9)
  have hks : Kept (fun j => av.ownBlock = some j) (w2.alloc (.cells #[.string s] 9)) w3 := (Kept.refl _ _).grown hgr3 (fun j e => .inr e)
  have hmut : ∀ j, av.ownBlock = some j → Mut (w2.alloc (.cells #[.string s] 9)) j := fun j e => by
    obtain ⟨cs, hc⟩ := ra2.typed j e
    exact ⟨cs, _, hc, by decide⟩
  have n1 : ∀ j, av.ownBlock = some j → ¬ Grow Gx w w2 j := fun j e e2 => by
    rcases e2 with e2 | e2
    · exact (o1 j e).1 e2
    · have := (ra.lt j e).2; omega
  have n2 : ∀ j, bv.ownBlock = some j → ¬ Grow Gx w w2 j := fun j e e2 => by
    rcases e2 with e2 | e2
    · exact (o2 j e).1 e2
    · have := (rb.lt j e).2; omega
  have hx3 := (hD.1.below hba).kept hks hmut (fun j e e2 => n1 j e2 e)
  have hy3 := ((hD.other h2 (fun k e e2 => d1 k e2 e)).below hba).kept hks hmut (fun j e e2 => (o1 j e2).2.1 e)
  have hz3 := ((hD.other h3 (fun k e e2 => d2 k e2 e)).below hba).kept hks hmut (fun j e e2 => (o1 j e2).2.2 e)
  have hnew : ∀ j, (Value.slice (some ⟨gA, 0, none⟩) (ra9.length + 1) capA).ownBlock = some j → av.ownBlock = some j ∨ w2.heap.size + 1 ≤ j := fun j e => by
    rcases hnb3 with e3 | ⟨k3, e3, hk3⟩
    · exact .inl (by rw [← e3]; exact e)
    · have h5 : gA = j := Option.some.inj e
      have h6 := Option.some.inj e3
      rw [World.size_alloc] at hk3
      exact .inr (by omega)
  refine ⟨⟨⟨Grow Gx w w2, Gy, Gz, hx3, hy3, hz3, grow_dis d1 h2.hi, grow_dis d2 h3.hi, d3, fun j e => ?_, fun j e => ⟨n2 j e, (o2 j e).2⟩⟩, hrow3, rb2.keptBy hks (fun j e e2 => ap j e2 e), fun j e e2 => ?_⟩, ?_⟩
  · rcases hnew j e with h | h
    · exact ⟨n1 j h, (o1 j h).2⟩
    · refine ⟨fun e2 => ?_, fun e2 => ?_, fun e2 => ?_⟩
      · have := hD.1.hi j e2; omega
      · have := h2.hi j e2; omega
      · have := h3.hi j e2; omega
  · rcases hnew j e with h | h
    · exact ap j h e2
    · have := (rb.lt j e2).2; omega
  · exact ((hD.below hB).alloc (Nat.le_trans hB hz2) _ |>.trans (hks.below (by rw [World.size_alloc]; omega) (fun j hj e => by have := (ra.lt j e).1; omega)))
end ApartW
end Go.Proofs.YtpdikdnffehmkaaGreatDoor
/- Apart: two sessions that are used by turns answer as each would alone, walked. -/
namespace Go.Proofs.YtpdikdnffehmkaaGreatDoor
open Go.RowKit
namespace ApartW
theorem seen_done {B : Nat} {G : Nat → Prop} {w w' : World} {x : Nat} {S : Rf.Se} {v : Value} {xs : List ByteArray} (h : Seen w 9 strCells v xs) (hD : SeDone B G w x S w') : Seen w' 9 strCells v xs := Seen.kept h hD.2 (fun k cs hc e => Turn.not hc (by decide) (by decide) (by decide) (by decide) e.2)
theorem take_over {l : List Rf.MoveV} {i : Nat} (h : l.length ≤ i) : l.take i = l := List.take_of_length_le h
theorem mv_len (S : Rf.Se) (l : List Rf.MoveV) {i : Nat} (h : i ≤ l.length) : (Rf.movedS S (l.take i)).1.length = i := by rw [Rf.movedS_len, List.length_take]; omega
set_option maxHeartbeats 4000000 in
set_option maxRecDepth 100000 in
theorem apart_any (W : World) (p : Int) (a : Option Addr) (n c : Nat) (l : List Rf.MoveV) (a' : Option Addr) (n' c' : Nat) (l' : List Rf.MoveV) (hp : -9223372036854775808 ≤ p) (hp' : p ≤ 9223372036854775807) (hM : MovesAt W (.slice a n c) l) (hok : ∀ m ∈ l, m.s.size ≤ maxLen) (hl : l.length * 24 ≤ 140737488355328) (hM' : MovesAt W (.slice a' n' c') l') (hok' : ∀ m ∈ l', m.s.size ≤ maxLen) (hl' : l'.length * 24 ≤ 140737488355328) (hT : Tab W) :
    Calls Tryz.prog 9 #[.int .i64 p, .slice a n c, .slice a' n' c'] W fun r w' => r = .returned (.bool true) ∧ Below W.heap.size W w' := by
  obtain rfl : n = l.length := hM.len
  obtain rfl : n' = l'.length := hM'.len
  have HM : Hid (MovesAt W (.slice a l.length c) l) := hM
  have HM' : Hid (MovesAt W (.slice a' l'.length c') l') := hM'
  have HO : Hid (∀ m ∈ l, m.s.size ≤ maxLen) := hok
  have HO' : Hid (∀ m ∈ l', m.s.size ≤ maxLen) := hok'
  have HT : Hid (Tab W) := hT
  have hml : l.length ≤ 9223372036854775807 := by omega
  have hml' : l'.length ≤ 9223372036854775807 := by omega
  obtain ⟨S0, hS0⟩ : ∃ S, Hid ((⟨(1 + (Rf.pickK p 1000 : Int)).toNat, [], none⟩ : Rf.Se) = S) := ⟨_, rfl⟩
  have HMW : Hid (∀ g off, 1 ≤ l.length → a = some ⟨g, off, none⟩ → g < W.heap.size) := fun g off h1 e => by subst e; exact (hM.at h1).1
  have HMW' : Hid (∀ g off, 1 ≤ l'.length → a' = some ⟨g, off, none⟩ → g < W.heap.size) := fun g off h1 e => by subst e; exact (hM'.at h1).1
  have HNil : Hid (∀ w : World, MovesAt w (.slice none 0 0) []) := fun w => .inl ⟨rfl, none, 0, rfl⟩
  clear hM hM' hok hok' hT
  go_enter Tryz.func9, Tryz.ntmps9
  go_wp2_with (first
    | (go_at_call 26; have h9 := hy3; refine (ksession_any w3 p none 0 0 [] hp hp' (HNil.out _) (fun m hm => by simp at hm) (by simp) (fun g off h1 e => by cases e) (tab_here (TabB.tab (TabB.on HT1.out hB3)))).mono ?_; rintro r w4 ⟨z, rfl, hz4', hb4⟩; rw [hS0.out] at hz4'; have hz4 := hb4.size; have hB4 := hB3.trans (hb4.mono hzB3))
    | (go_at_call 26; have h9 := hx2; refine (ksession_any w2 p none 0 0 [] hp hp' (HNil.out _) (fun m hm => by simp at hm) (by simp) (fun g off h1 e => by cases e) (tab_here (TabB.tab (TabB.on HT1.out hb2)))).mono ?_; rintro r w3 ⟨y, rfl, hy3, hb3⟩; rw [hS0.out] at hy3; have hz3 := hb3.size; have hB3 := hb2.trans (hb3.mono hb2.size); have hzB3 := hB3.size)
    | (go_at_call 26; refine (ksession_any w1 p none 0 0 [] hp hp' (HNil.out _) (fun m hm => by simp at hm) (by simp) (fun g off h1 e => by cases e) HT1.out).mono ?_; rintro r w2 ⟨x, rfl, hx2, hb2⟩; rw [hS0.out] at hx2; have hz2 := hb2.size)
    | (go_at_call 23; refine (kworks_any W HT.out).mono ?_; rintro r w1 ⟨rfl, hb1⟩; have HT1 : Hid (TabB w1.heap.size w1) := tab_here (Tab.below HT.out hb1); have hz1 := hb1.size))
  have hSt : ApSt w1.heap.size w4 x y z S0 S0 S0 (.slice none 0 0) (.slice none 0 0) [] [] := by
    refine ⟨⟨_, _, _, (hx2.below hb3).below hb4, (hy3.below hb4).lower hz2, hz4'.lower (by omega), fun k e e2 => by omega, fun k e e2 => by omega, fun k e e2 => by omega, fun j e => (by cases e), fun j e => (by cases e)⟩, RowIs.nil _ _ _ _ _, RowIs.nil _ _ _ _ _, fun j e => by cases e⟩
  have HSt : Hid _ := hSt
  have HB1 : Hid (Below W.heap.size W w1) := hb1
  have HB4 : Hid (Below w1.heap.size w1 w4) := hB4
  clear hSt hb1 hB4 hB3 hb2 hb3 hb4 hx2 hy3 hz4'
  obtain ⟨M, hMx⟩ : ∃ M, M = max l.length l'.length := ⟨_, rfl⟩
  have hM1 : l.length ≤ M := by omega
  have hM2 : l'.length ≤ M := by omega
  have hM3 : M ≤ l.length ∨ M ≤ l'.length := by omega
  clear hMx
  go_loopw [11, 12, 13, 14, 15] (fun av bv iv _ _ wr => ∃ i : Nat, i ≤ M ∧ iv = .int .i64 i ∧ ApSt w1.heap.size wr x y z (Rf.movedS S0 (l.take i)).2 (Rf.movedS S0 (l'.take i)).2 S0 av bv (Rf.movedS S0 (l.take i)).1 (Rf.movedS S0 (l'.take i)).1 ∧ Below w1.heap.size w1 wr) (fun _ _ iv _ _ _ => M - (intOf iv).toNat)
  case atStart => exact ⟨0, by omega, rfl, HSt.out, HB4.out⟩
  case round =>
    obtain ⟨i, hi, rfl, hA, hbr⟩ := hrel
    have hsz := hbr.size
    obtain ⟨Gx, Gy, Gz, hx, hy, hz, d1, d2, d3, o1, o2⟩ := hA.ex
    have ra := hA.ra
    have rb := hA.rb
    have rap := hA.ap
    obtain ⟨a4, c4, hv4⟩ := row_slice ra
    obtain ⟨b4, e4, hv5⟩ := row_slice rb
    obtain ⟨na, hna⟩ : ∃ n, (Rf.movedS S0 (l.take i)).1.length = n := ⟨_, rfl⟩
    obtain ⟨nb, hnb⟩ : ∃ n, (Rf.movedS S0 (l'.take i)).1.length = n := ⟨_, rfl⟩
    rw [hna] at hv4
    rw [hnb] at hv5
    subst hv4 hv5
    have Hna : Hid _ := hna
    have Hnb : Hid _ := hnb
    clear hna hnb
    have HA : Hid _ := hA
    have Hx : Hid _ := hx
    have Hy : Hid _ := hy
    have Hz : Hid _ := hz
    have Hd1 : Hid (∀ k, Gx k → ¬ Gy k) := d1
    have Hd2 : Hid (∀ k, Gx k → ¬ Gz k) := d2
    have Hd3 : Hid (∀ k, Gy k → ¬ Gz k) := d3
    have Ho1 : Hid _ := o1
    have Ho2 : Hid _ := o2
    have Hra : Hid _ := ra
    have Hrb : Hid _ := rb
    have Hap : Hid _ := rap
    have HBR : Hid _ := hbr
    have HTr : Hid (TabB w1.heap.size wr) := TabB.on HT1.out hbr
    clear hx hy hz d1 d2 d3 o1 o2 ra rb rap hbr hA
    by_cases hlt : i < l.length
    · have hlt' : (i : Int) < l.length := by omega
      obtain ⟨g, off, rfl⟩ := MovesAt.pos HM.out (by omega)
      have hgB := HMW.out g off (by omega) rfl
      have hgB1 : g < w1.heap.size := by have := HB1.out.size; omega
      obtain ⟨c0, c1⟩ := (MovesAt.at HM.out (by omega)).2 i l[i] (by simp [hlt])
      have q0 := ((cell_on HBR.out (i := off + i * 2) hgB1).trans (cell_on HB1.out (i := off + i * 2) hgB)).trans c0
      have q1 := ((cell_on HBR.out (i := off + i * 2 + 1) hgB1).trans (cell_on HB1.out (i := off + i * 2 + 1) hgB)).trans c1
      have hms := HO.out _ (List.getElem_mem hlt)
      have hmv := Rf.movedS_snoc S0 (l.take i) l[i]
      rw [← take_snoc hlt] at hmv
      have Hmv : Hid _ := hmv
      have hnai : i = na := by rw [← Hna.out]; exact (mv_len S0 l (by omega)).symm
      subst hnai
      clear c0 c1 hmv
      obtain ⟨⟨kd, sx⟩, hm9⟩ : ∃ m9, l[i] = m9 := ⟨_, rfl⟩
      rw [hm9] at q0 q1 hms Hmv
      clear hm9
      simp only at q0 q1 hms
      have hgw : g < wr.heap.size := by omega
      by_cases hlt2 : i < l'.length
      · have hlt2' : (i : Int) < l'.length := by omega
        obtain ⟨g2, off2, rfl⟩ := MovesAt.pos HM'.out (by omega)
        have hgC := HMW'.out g2 off2 (by omega) rfl
        have hgC1 : g2 < w1.heap.size := by have := HB1.out.size; omega
        obtain ⟨c0, c1⟩ := (MovesAt.at HM'.out (by omega)).2 i l'[i] (by simp [hlt2])
        have hms2 := HO'.out _ (List.getElem_mem hlt2)
        have hmv2 := Rf.movedS_snoc S0 (l'.take i) l'[i]
        rw [← take_snoc hlt2] at hmv2
        have Hmv2 : Hid _ := hmv2
        have hnbi : i = nb := by rw [← Hnb.out]; exact (mv_len S0 l' (by omega)).symm
        subst hnbi
        have Q0 : Hid (∀ X, Below w1.heap.size w1 X → X.cell? ⟨g2, off2 + i * 2, none⟩ = some (.int .i64 l'[i].kd)) := fun X hX => ((cell_on hX (i := off2 + i * 2) hgC1).trans (cell_on HB1.out (i := off2 + i * 2) hgC)).trans c0
        have Q1 : Hid (∀ X, Below w1.heap.size w1 X → X.cell? ⟨g2, off2 + i * 2 + 1, none⟩ = some (.string l'[i].s)) := fun X hX => ((cell_on hX (i := off2 + i * 2 + 1) hgC1).trans (cell_on HB1.out (i := off2 + i * 2 + 1) hgC)).trans c1
        clear c0 c1 hmv2
        obtain ⟨⟨kd2, sx2⟩, hm9⟩ : ∃ m9, l'[i] = m9 := ⟨_, rfl⟩
        rw [hm9] at Q0 Q1 hms2 Hmv2
        clear hm9
        simp only at Q0 Q1 hms2
        go_wp2_with (first
          | (at_builtin; have h9 := hrow5; refine wpList_app Tryz.elemStr strCells strCells_len strCells_one _ rfl (.tmp 81) (.tmp 83) rfl w1.heap.size (.slice b4 i e4) _ rfl (hrow5.alloc _) ⟨_, 0, none⟩ 1 (Rf.moveS (Rf.movedS S0 (l'.take i)).2 ⟨kd2, sx2⟩).1 rfl (cell_one_at _ _ rfl _ _) (by rw [Hnb.out]; omega) (by rw [World.size_alloc]; omega) ?_; intro gB capB w6 hrow6 hgr6 hnb6)
          | (go_at_call 32; have h9 := hst; refine (kmove_any w1.heap.size Hy3 w3 y _ kd2 sx2 hms2 sy3 hBw3 (TabB.on HT1.out hB3)).mono ?_; rintro r w5 ⟨hr5, hD5⟩; subst hr5; have hz5 := hD5.size; have hrow5 := hst.1.rb.keptBy hD5.2 (fun j e e2 => (oy2 j e).1 e2.1))
          | (at_builtin; refine wpList_app Tryz.elemStr strCells strCells_len strCells_one _ rfl (.tmp 67) (.tmp 69) rfl w1.heap.size (.slice a4 i c4) _ rfl (hrow2.alloc _) ⟨_, 0, none⟩ 1 (Rf.moveS (Rf.movedS S0 (l.take i)).2 ⟨kd, sx⟩).1 rfl (cell_one_at _ _ rfl _ _) (by rw [Hna.out]; omega) (by rw [World.size_alloc]; omega) ?_; intro gA capA w3 hrow3 hgr3 hnb3; have hst := ApSt.step Hy.out Hz.out Hd1.out Hd2.out Hd3.out Ho1.out Ho2.out Hra.out Hrb.out Hap.out hsz hD2 hrow3 hgr3 hnb3; have hB3 : Below w1.heap.size w1 w3 := HBR.out.trans hst.2; have hBw3 := hB3.size; have t0 := Q0.out w3 hB3; have t1 := Q1.out w3 hB3; have hgw2 : g2 < w3.heap.size := (by omega); obtain ⟨Hy3, Hx3, Hz3, sy3, sx3, sz3, dd1, dd2, dd3, oy2, oy1⟩ := hst.1.swap.ex)
          | (go_at_call 32; refine (kmove_any w1.heap.size Gx wr x _ kd sx hms Hx.out hsz HTr.out).mono ?_; rintro r w2 ⟨hr2, hD2⟩; subst hr2; have hz2' := hD2.size; have hrow2 := Hra.out.keptBy hD2.2 (fun j e e2 => (Ho1.out j e).1 e2.1)))
        have hst6 := ApSt.step sx3 sz3 dd1 dd2 dd3 oy2 oy1 hst.1.rb hst.1.ra (fun j e e2 => hst.1.ap j e2 e) hBw3 hD5 hrow6 hgr6 hnb6
        go_roundw
        case rel =>
          refine ⟨i + 1, by omega, by go_num, ?_, hB3.trans hst6.2⟩
          rw [Hmv.out, Hmv2.out]
          exact hst6.1.swap
        case measure => simp [intOf]; omega
      · have hlt2' : ¬ (i : Int) < l'.length := by omega
        have htk2 : l'.take (i + 1) = l'.take i := by rw [take_over (by omega), take_over (by omega)]
        have Htk2 : Hid _ := htk2
        clear htk2
        go_wp2_with (first
          | (at_builtin; refine wpList_app Tryz.elemStr strCells strCells_len strCells_one _ rfl (.tmp 67) (.tmp 69) rfl w1.heap.size (.slice a4 i c4) _ rfl (hrow2.alloc _) ⟨_, 0, none⟩ 1 (Rf.moveS (Rf.movedS S0 (l.take i)).2 ⟨kd, sx⟩).1 rfl (cell_one_at _ _ rfl _ _) (by rw [Hna.out]; omega) (by rw [World.size_alloc]; omega) ?_; intro gA capA w3 hrow3 hgr3 hnb3; have hst := ApSt.step Hy.out Hz.out Hd1.out Hd2.out Hd3.out Ho1.out Ho2.out Hra.out Hrb.out Hap.out hsz hD2 hrow3 hgr3 hnb3)
          | (go_at_call 32; refine (kmove_any w1.heap.size Gx wr x _ kd sx hms Hx.out hsz HTr.out).mono ?_; rintro r w2 ⟨hr2, hD2⟩; subst hr2; have hz2' := hD2.size; have hrow2 := Hra.out.keptBy hD2.2 (fun j e e2 => (Ho1.out j e).1 e2.1)))
        go_roundw
        case rel =>
          refine ⟨i + 1, by omega, by go_num, ?_, HBR.out.trans hst.2⟩
          rw [Hmv.out, Htk2.out]
          exact hst.1
        case measure => simp [intOf]; omega
    · have hlt' : ¬ (i : Int) < l.length := by omega
      by_cases hlt2 : i < l'.length
      · have hlt2' : (i : Int) < l'.length := by omega
        have htk : l.take (i + 1) = l.take i := by rw [take_over (by omega), take_over (by omega)]
        have Htk : Hid _ := htk
        clear htk
        obtain ⟨g2, off2, rfl⟩ := MovesAt.pos HM'.out (by omega)
        have hgC := HMW'.out g2 off2 (by omega) rfl
        have hgC1 : g2 < w1.heap.size := by have := HB1.out.size; omega
        obtain ⟨c0, c1⟩ := (MovesAt.at HM'.out (by omega)).2 i l'[i] (by simp [hlt2])
        have q0 := ((cell_on HBR.out (i := off2 + i * 2) hgC1).trans (cell_on HB1.out (i := off2 + i * 2) hgC)).trans c0
        have q1 := ((cell_on HBR.out (i := off2 + i * 2 + 1) hgC1).trans (cell_on HB1.out (i := off2 + i * 2 + 1) hgC)).trans c1
        have hms2 := HO'.out _ (List.getElem_mem hlt2)
        have hmv2 := Rf.movedS_snoc S0 (l'.take i) l'[i]
        rw [← take_snoc hlt2] at hmv2
        have Hmv2 : Hid _ := hmv2
        have hnbi : i = nb := by rw [← Hnb.out]; exact (mv_len S0 l' (by omega)).symm
        subst hnbi
        clear c0 c1 hmv2
        obtain ⟨⟨kd2, sx2⟩, hm9⟩ : ∃ m9, l'[i] = m9 := ⟨_, rfl⟩
        rw [hm9] at q0 q1 hms2 Hmv2
        clear hm9
        simp only at q0 q1 hms2
        have hgw2 : g2 < wr.heap.size := by omega
        go_wp2_with (first
          | (at_builtin; refine wpList_app Tryz.elemStr strCells strCells_len strCells_one _ rfl (.tmp 81) (.tmp 83) rfl w1.heap.size (.slice b4 i e4) _ rfl (hrow5.alloc _) ⟨_, 0, none⟩ 1 (Rf.moveS (Rf.movedS S0 (l'.take i)).2 ⟨kd2, sx2⟩).1 rfl (cell_one_at _ _ rfl _ _) (by rw [Hnb.out]; omega) (by rw [World.size_alloc]; omega) ?_; intro gB capB w6 hrow6 hgr6 hnb6)
          | (go_at_call 32; refine (kmove_any w1.heap.size Gy wr y _ kd2 sx2 hms2 Hy.out hsz HTr.out).mono ?_; rintro r w5 ⟨hr5, hD5⟩; subst hr5; have hz5 := hD5.size; have hrow5 := Hrb.out.keptBy hD5.2 (fun j e e2 => (Ho2.out j e).2.1 e2.1)))
        have hst6 := ApSt.step Hx.out Hz.out (fun k e e2 => Hd1.out k e2 e) Hd3.out Hd2.out (fun j e => ⟨(Ho2.out j e).2.1, (Ho2.out j e).1, (Ho2.out j e).2.2⟩) (fun j e => ⟨(Ho1.out j e).2.1, (Ho1.out j e).1, (Ho1.out j e).2.2⟩) Hrb.out Hra.out (fun j e e2 => Hap.out j e2 e) hsz hD5 hrow6 hgr6 hnb6
        go_roundw
        case rel =>
          refine ⟨i + 1, by omega, by go_num, ?_, HBR.out.trans hst6.2⟩
          rw [Hmv2.out, Htk.out]
          exact hst6.1.swap
        case measure => simp [intOf]; omega
      · have hlt2' : ¬ (i : Int) < l'.length := by omega
        have ht1 : l.take i = l := take_over (by omega)
        have ht2 : l'.take i = l' := take_over (by omega)
        rw [ht1] at HA Hra Hna Hx
        rw [ht2] at HA Hrb Hnb Hy
        clear ht1 ht2
        have HMat : Hid (∀ X, Below w1.heap.size w1 X → MovesAt X (.slice a l.length c) l) := fun X hX => MovesAt.on HM.out (HB1.out.trans (hX.mono hz1)) (Nat.le_refl _)
        have HMat' : Hid (∀ X, Below w1.heap.size w1 X → MovesAt X (.slice a' l'.length c') l') := fun X hX => MovesAt.on HM'.out (HB1.out.trans (hX.mono hz1)) (Nat.le_refl _)
        have HMB : Hid (∀ N, w1.heap.size ≤ N → ∀ g off, 1 ≤ l.length → a = some ⟨g, off, none⟩ → g < N) := fun N hN g off h1 e => by have := HMW.out g off h1 e; omega
        have HMB' : Hid (∀ N, w1.heap.size ≤ N → ∀ g off, 1 ≤ l'.length → a' = some ⟨g, off, none⟩ → g < N) := fun N hN g off h1 e => by have := HMW'.out g off h1 e; omega
        have sa : Hid (Seen wr 9 strCells (.slice a4 na c4) (Rf.movedS S0 l).1) := Hra.out.seen
        have sb : Hid (Seen wr 9 strCells (.slice b4 nb e4) (Rf.movedS S0 l').1) := Hrb.out.seen
        go_wp2_with (first
          | (go_at_call 31; have h9 := hD13; refine (ksame_any _ _ _ _ _ _ (Rf.movedS S0 l').1 _ sb13 hR13).mono ?_; rintro r w14 ⟨rfl, hb14⟩)
          | (go_at_call 30; have h9 := hv12; refine (kmoved_any w1.heap.size _ w12 v S0 a' l'.length c' l' (HMat'.out _ hB12) HO'.out hl' hv12 hB12.size (HMB'.out _ (Nat.le_refl _)) (TabB.on HT1.out hB12)).mono ?_; rintro r w13 ⟨a3, c3, rfl, hR13, hD13⟩; have sb13 := seen_done sb12 hD13; have hB13 := hB12.trans (hD13.below hB12.size))
          | (go_at_call 26; have h9 := hb11; refine (ksession_any w11 p none 0 0 [] hp hp' (HNil.out _) (fun m hm => by simp at hm) (by simp) (fun g off h1 e => by cases e) (tab_here (TabB.tab (TabB.on HT1.out hB11)))).mono ?_; rintro r w12 ⟨v, rfl, hv12', hb12⟩; rw [hS0.out] at hv12'; have hv12 := hv12'.lower hB11.size; have hB12 := hB11.trans (hb12.mono hB11.size); have sb12 := sb11.below hb12)
          | (go_at_call 31; refine (ksame_any _ _ _ _ _ _ (Rf.movedS S0 l).1 _ sa10 sc10).mono ?_; rintro r w11 ⟨rfl, hb11⟩; have hB11 := hB10.trans (hb11.mono hB10.size); have sb11 := sb10.below hb11)
          | (go_at_call 27; have h9 := hb9; refine (plisting_in w1.heap.size _ w9 u _ hu9 (TabB.on HT1.out hB9)).mono ?_; rintro r w10 ⟨rfl, hb10⟩; have hB10 := hB9.trans (hb10.mono hB9.size); have sa10 := sa9.below hb10; have sb10 := sb9.below hb10; have sc10 := sc9.below hb10)
          | (go_at_call 27; refine (plisting_in w1.heap.size _ w8 y _ hy8 (TabB.on HT1.out hB8)).mono ?_; rintro r w9 ⟨rfl, hb9⟩; have hB9 := hB8.trans (hb9.mono hB8.size); have sa9 := sa8.below hb9; have sb9 := sb8.below hb9; have sc9 := sc8.below hb9; have hu9 := hD8.1.below hb9)
          | (go_at_call 29; have h9 := hD7; refine (pstop_in w1.heap.size _ w7 u _ hu7).mono ?_; rintro r w8 ⟨rfl, hD8⟩; have hB8 := hB7.trans (hD8.below hB7.size); have sa8 := seen_done sa7 hD8; have sb8 := seen_done sb7 hD8; have sc8 := seen_done sc7 hD8; have hy8 := hD8.other hD7.1 (fun k e e2 => (by rcases e with e | e; exact dyu k e e2; omega)))
          | (go_at_call 29; refine (pstop_in w1.heap.size Gy w6 y _ hy6).mono ?_; rintro r w7 ⟨rfl, hD7⟩; have hB7 := hB6.trans (hD7.below hB6.size); have sa7 := seen_done sa6 hD7; have sb7 := seen_done sb6 hD7; have sc7 := seen_done sc6 hD7; have hu7 := hD7.other hu6 (fun k e e2 => dyu k e2 e))
          | (go_at_call 26; refine (ksession_any w5 p a' l'.length c' l' hp hp' (HMat'.out _ hB5) HO'.out hl' (HMB'.out _ hB5.size) (tab_here (TabB.tab (TabB.on HT1.out hB5)))).mono ?_; rintro r w6 ⟨u, rfl, hu6', hb6⟩; rw [hS0.out] at hu6'; have hu6 := hu6'.lower hB5.size; have hB6 := hB5.trans (hb6.mono hB5.size); have sa6 := sa5.below hb6; have sb6 := sb5.below hb6; have sc6 := hR5.below hb6; have hy6 := hy5.below hb6; have dyu : ∀ k, Gy k → ¬ (w5.heap.size ≤ k ∧ k < w6.heap.size) := (fun k e e2 => by have := Hy.out.hi k e; omega))
          | (go_at_call 30; refine (kmoved_any w1.heap.size Gz wr z S0 a l.length c l (HMat.out _ HBR.out) HO.out hl Hz.out hsz (HMB.out _ (Nat.le_refl _)) HTr.out).mono ?_; rintro r w5 ⟨a2, c2, rfl, hR5, hD5⟩; have hB5 := HBR.out.trans (hD5.below hsz); have sa5 := seen_done sa.out hD5; have sb5 := seen_done sb.out hD5; have hz5 := hD5.size; have hy5 := hD5.other Hy.out Hd3.out))
        go_ret
        exact ⟨rfl, HB1.out.trans ((hB13.trans (hb14.mono hB13.size)).mono hz1)⟩
end ApartW
end Go.Proofs.YtpdikdnffehmkaaGreatDoor
/- Moves out of a row's data. -/
namespace Go.Proofs.YtpdikdnffehmkaaGreatDoor
open Go.ChangeShapes Go.WideShapes Go.ChangeAt Go.RowKit Go.Deep
theorem Tryz.cellsMove : Tryz.prog.cellsOf 58 = 2 := by kernel_rfl
theorem Tryz.bytesMove : Tryz.prog.bytesOf 58 = 24 := by kernel_rfl
theorem Tryz.fieldsMove : ∃ f0 f1 : Field, Tryz.prog.underlying 58 = some (.struct #[f0, f1]) ∧ (f0.type = 3 ∧ f0.offset = 0) ∧ (f1.type = 9 ∧ f1.offset = 1) :=
  ⟨_, _, Tryz.underlying58, ⟨rfl, rfl⟩, ⟨rfl, rfl⟩⟩
section
variable {H : Type} {enc : TypeId × Value → H}
set_option maxRecDepth 100000 in
theorem open_move {W : World} {sp : Nat → Bool} {hd : Bool} {n : Nat} {cs : List Value} {y : DataW H × List MemPlace} (h : DataW.trod enc Tryz.prog W 0 sp hd n 58 cs = some y) : ∃ x : Rf.MoveV, cs = [.int .i64 x.kd, .string x.s] ∧ x.s.size ≤ maxLen := by
  obtain ⟨f0, f1, hu, ⟨t0, o0⟩, ⟨t1, o1⟩⟩ := Tryz.fieldsMove
  obtain ⟨xs, k, _, _, hlen, hxl, hf⟩ := DataW.trod_struct hu h
  rw [Tryz.cellsMove] at hlen
  match xs, hxl, cs, hlen with
  | [y0, y1], _, [v0, v1], _ =>
    have g0 := hf 0 f0 rfl
    have g1 := hf 1 f1 rfl
    rw [t0, o0, Tryz.cellsInt] at g0
    rw [t1, o1, Tryz.cellsStr] at g1
    simp only [List.drop_zero, List.drop_succ_cons, List.take_succ_cons, List.take_zero, List.getElem?_cons_zero, List.getElem?_cons_succ] at g0 g1
    obtain ⟨n0, e0, _, _⟩ := DataW.trod_int Tryz.underlying3 g0
    obtain ⟨s, e1, _, hs⟩ := DataW.trod_string Tryz.underlying9 g1
    simp only [List.cons.injEq, and_true] at e0 e1
    subst e0 e1
    exact ⟨⟨n0, s⟩, rfl, hs⟩
theorem open_moves {W : World} {v : Value} {d : DataW H} {p : List MemPlace} (hd : DataW.Trod enc Tryz.prog W 0 (fun _ => true) true 49 v d p) (hok : ∃ a len cap, v = .slice a len cap)
    (hsz : ∀ elems spare, d = .slice elems spare → (elems.length + spare.length) * 24 ≤ reachBytes) :
    ∃ l, MovesAt W v l ∧ (∀ x ∈ l, x.s.size ≤ maxLen) ∧ l.length * 24 ≤ 140737488355328 := by
  obtain ⟨a0, len0, cap0, rfl⟩ := hok
  obtain ⟨n, hn⟩ := hd
  have hn' : DataW.trod enc Tryz.prog W 0 (fun _ => true) true n 49 [.slice a0 len0 cap0] = some (d, p) := hn
  rcases open_slice Tryz.underlying49 hn' with ⟨hc, hx⟩ | ⟨a, len, cap, m, k, D, Pl, hc, _, hl, hm, hmm, hx, hall⟩
  · simp only [List.cons.injEq, and_true] at hc
    exact ⟨[], .inl ⟨rfl, none, 0, hc⟩, by simp, by decide⟩
  · simp only [List.cons.injEq, and_true] at hc
    simp only [if_true] at hmm
    subst hmm
    simp only [Prod.mk.injEq] at hx
    have hsz' := hsz _ _ hx.1
    simp only [List.length_map, List.length_range, reachBytes] at hsz'
    rw [Tryz.cellsMove] at hall
    have each : ∀ i, i < m → ∃ x : Rf.MoveV, x.s.size ≤ maxLen ∧ W.cell? (a.add (i * 2)) = some (.int .i64 x.kd) ∧ W.cell? (a.add (i * 2 + 1)) = some (.string x.s) := fun i hi => by
      obtain ⟨cs, h1, h2⟩ := hall i hi
      obtain ⟨x, rfl, hxok⟩ := open_move h2
      obtain ⟨_, hlen, hcell⟩ := World.cells?_some h1
      refine ⟨x, hxok, ?_, ?_⟩
      · have := hcell 0 (by omega)
        rw [add_add, Nat.add_zero] at this
        exact this
      · have := hcell 1 (by omega)
        rw [add_add] at this
        exact this
    have : Inhabited Rf.MoveV := ⟨⟨0, ⟨#[]⟩⟩⟩
    obtain ⟨X, hX⟩ := choose_lt each
    by_cases h0 : len = 0
    · subst h0
      exact ⟨[], .inl ⟨rfl, some a, m, hc⟩, by simp, by decide⟩
    · obtain ⟨sb, so, spot⟩ := a
      have h00 := (hX 0 (by omega)).2.1
      have hspot : spot = none := by simpa [Addr.add] using World.cell?_spot h00
      subst hspot
      refine ⟨(List.range len).map X, .inr ⟨sb, so, m, ?_, ?_, fun i x hi => ?_⟩, fun x hx => ?_, ?_⟩
      · rw [hc, List.length_map, List.length_range]
      · have h9 : W.cell? ⟨sb, so, none⟩ = some (.int .i64 (X 0).kd) := by simpa [Addr.add] using h00
        exact cell_lt h9
      · rw [List.getElem?_map] at hi
        obtain ⟨i', hi', rfl⟩ := Option.map_eq_some_iff.1 hi
        have hil := (List.getElem?_eq_some_iff.1 hi').1
        rw [List.length_range] at hil
        rw [List.getElem?_range hil] at hi'
        obtain rfl := Option.some.inj hi'
        obtain ⟨_, t0, t1⟩ := hX i (by omega)
        rw [Addr.add_lit] at t0 t1
        exact ⟨t0, by rw [Nat.add_assoc]; exact t1⟩
      · obtain ⟨i, hi, rfl⟩ := List.mem_map.1 hx
        exact (hX i (by have := List.mem_range.1 hi; omega)).1
      · rw [List.length_map, List.length_range]
        omega
end
end Go.Proofs.YtpdikdnffehmkaaGreatDoor
