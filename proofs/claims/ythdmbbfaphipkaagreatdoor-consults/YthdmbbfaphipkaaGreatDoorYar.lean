/- What the document's reading does at a name and its arguments (promptref: compound), given that it reads terms as the plain function does. -/
import Derived.Test.YthdmbbfaphipkaaGreatDoorYaq
import Derived.Deep.LoopGhost
namespace Go.Proofs.YthdmbbfaphipkaaGreatDoor
open Go.RowKit
def TermIH (f : Nat) : Prop := ∀ (b g : Nat) (nb : Option Nat) (l : List Rf.Tok) (ns : List ByteArray) (w : World), Rd w b g nb l ns → l.length ≤ f →
  Calls Tryz.prog 96 #[.pointer (some ⟨b, 0, none⟩)] w fun r w' => TermPost w b g nb (Rf.termS f l ns) r w'
set_option maxHeartbeats 1000000 in
theorem compound_name (b g : Nat) (nb : Option Nat) (u : Rf.Tok) (l : List Rf.Tok) (ns : List ByteArray) (s : ByteArray) (w : World) (h : Rd w b g nb (u :: l) ns) (hu : (u.k != 40) = true) :
    Calls Tryz.prog 138 #[.pointer (some ⟨b, 0, none⟩), .string s] w fun r w' => TermPost w b g nb (.ok ([⟨3, s, 0, 0⟩], u :: l, ns)) r w' := by
  have H : Hid _ := h
  clear h
  go_enter Tryz.func138, Tryz.ntmps138
  go_wp2_with (first
    | (go_at_call 67; refine (now_any b g nb u l ns _ H.out).mono ?_; rintro e w1 ⟨rfl, hb1⟩))
  go_ret
  have hs1 := hb1.size
  have hR := ((H.out.below hb1).alloc (.cells #[.int .u8 u.k, .int .i64 u.at_, .string u.s, .int .i64 u.e] 149))
  refine ⟨_, rfl, by omega, ⟨_, _, _, _, _, _, blk_at _ _ _ (by simp)⟩, ((Kept.of_below hb1 _).alloc _).alloc _, nb, hR.alloc _, .inl rfl, 1, ⟨by omega, by simp, fun e => ?_⟩, .inr (.inr (.inl ⟨s, blk_at _ _ _ (by simp), rfl⟩))⟩
  have := (hR.lt.2.2.1 _ e).1
  simp at this
theorem nameS_err {rd : List Rf.Tok → List ByteArray → Except (Int × Nat) (List (List Rf.Part) × List Rf.Tok × List ByteArray)} (t : Rf.Tok) {u : Rf.Tok} {l : List Rf.Tok} {ns : List ByteArray} (hu : u.k = 40) :
    Hid (∀ e, rd l ns = .error e → Rf.nameS rd t (u :: l) ns = .error e) := by
  intro e h; simp only [Rf.nameS]; rw [if_pos hu, h]
theorem nameS_ok {rd : List Rf.Tok → List ByteArray → Except (Int × Nat) (List (List Rf.Part) × List Rf.Tok × List ByteArray)} (t : Rf.Tok) {u : Rf.Tok} {l : List Rf.Tok} {ns : List ByteArray} (hu : u.k = 40) :
    Hid (∀ a l2 ns2, rd l ns = .ok (a, l2, ns2) → Rf.nameS rd t (u :: l) ns = .ok (⟨3, t.s, 0, a.length⟩ :: a.flatten, l2, ns2)) := by
  intro a l2 ns2 h; simp only [Rf.nameS]; rw [if_pos hu, h]
/-- A compound in the making, at the loop's head: m rounds at most are to come. -/
def CompSt (w : World) (b g : Nat) (nb : Option Nat) (X : Nat) (s : ByteArray) (f : Nat) (want : Except (Int × Nat) (List (List Rf.Part) × List Rf.Tok × List ByteArray)) (m : Nat) (wr : World) : Prop :=
  Kept (May b nb) w wr ∧ AnyTm wr X ∧ w.heap.size ≤ X ∧
  ((∃ k acc l1 ns1 nb1 vA, m = k + 1 ∧ k < 4 ∧ k + 1 + acc.length = 4 ∧ Rd wr b g nb1 l1 ns1 ∧ Nb w nb nb1 ∧ l1.length ≤ f ∧ Args w wr nb1 X s vA acc ∧ Hid (want = Rf.argsS (Rf.termS f) (k + 1) (acc.map (·.2)) l1 ns1)) ∨
   (∃ (e : Int) (q : Nat), m = 0 ∧ RdE wr b e q ∧ Hid (want = .error (e, q))))
theorem MayA.none {w wr : World} {nb : Option Nat} {X : Nat} {s : ByteArray} {vA : Value} {acc : List (Nat × List Rf.Part)} (h : Args w wr nb X s vA acc) : ∀ k, k < w.heap.size → ¬ MayA X vA k := by
  intro k hk hm
  rcases hm with e | e
  · have := h.new; omega
  · have := (h.rowNew k e).1; omega
theorem Rd.pushed {w w1 w2 : World} {b g : Nat} {o : Obj} {nb : Option Nat} {X : Nat} {s : ByteArray} {vA v2 : Value} {acc : List (Nat × List Rf.Part)} {l : List Rf.Tok} {ns : List ByteArray} (hR : Rd w1 b g nb l ns) (hA : Args w w1 nb X s vA acc) (hb : b < w.heap.size) (hg : g < w.heap.size)
    (hgr : (w1.alloc o).grownBy w2 vA.ownBlock) : Rd (w2.setCell ⟨X, 3, none⟩ v2) b g nb l ns :=
  hR.keptBy (kept_push hgr) (MayA.none hA b hb) (MayA.none hA g hg) (fun k e hm => by
    rcases hm with rfl | hm
    · exact hA.names e
    · exact (hA.rowNew k hm).2.2 e)
theorem comp_ok {w wr w2 w3 : World} {b g : Nat} {o : Obj} {nb1 nb2 : Option Nat} {X : Nat} {s : ByteArray} {vA : Value} {acc : List (Nat × List Rf.Part)} {p : Nat} {ps : List Rf.Part} {l : List Rf.Tok} {ns : List ByteArray} {gA n capA : Nat}
    (hs : w.heap.size ≤ wr.heap.size) (hA : Args w wr nb1 X s vA acc) (hA2 : Args w w2 nb2 X s vA acc) (hT2 : IsTerm (New wr w2 nb2) w2 p ps) (hR2 : Rd w2 b g nb2 l ns) (hb : b < w.heap.size) (hg : g < w.heap.size)
    (hgr : (w2.alloc o).grownBy w3 vA.ownBlock) (hn : Nb (w2.alloc o) vA.ownBlock (some gA)) (hr : RowIs w3 0 100 1 ptrCells (.slice (some ⟨gA, 0, none⟩) n capA) ((acc.map (·.1)) ++ [p])) :
    Args w (w3.setCell ⟨X, 3, none⟩ (.slice (some ⟨gA, 0, none⟩) n capA)) nb2 X s (.slice (some ⟨gA, 0, none⟩) n capA) (acc ++ [(p, ps)]) ∧ Rd (w3.setCell ⟨X, 3, none⟩ (.slice (some ⟨gA, 0, none⟩) n capA)) b g nb2 l ns := by
  have hX := blk_lt hA.blk
  refine ⟨hA2.push (hT2.keptBy (Kept.refl (fun _ => False) _) (fun k _ hF => ⟨fun e => e, ⟨by have := hF.1; omega, hF.2.1, hF.2.2⟩, fun e => ?_, fun e => ?_⟩)) (fun k e => (hR2.lt.2.2.1 k e).1) hgr hn hr, hR2.pushed hA2 hb hg hgr⟩
  · have := (hA.rowNew k e).2.1; have := hF.1; omega
  · have := hF.1; omega
theorem tm_grown {w w' : World} {p : Nat} {k n : Int} {s : ByteArray} {v : Value} {row : Option Nat} (hg : w.grownBy w' row) (h : TmB w p k n s v) (hn : row ≠ some p) : TmB w' p k n s v :=
  (hg.block p (blk_lt h) (fun e => hn e.symm)).trans h
set_option maxHeartbeats 1000000 in
set_option maxRecDepth 100000 in
theorem compound_args (f : Nat) (IH : TermIH f) (b g : Nat) (nb : Option Nat) (u : Rf.Tok) (l : List Rf.Tok) (ns : List ByteArray) (t : Rf.Tok) (w : World) (h : Rd w b g nb (u :: l) ns) (hu : (u.k != 40) = false) (hl : l.length ≤ f) :
    Calls Tryz.prog 138 #[.pointer (some ⟨b, 0, none⟩), .string t.s] w fun r w' => TermPost w b g nb (Rf.nameS (Rf.argsS (Rf.termS f) 4 []) t (u :: l) ns) r w' := by
  have hk40 : u.k = 40 := by simpa using hu
  have H : Hid _ := h
  have HI : Hid _ := IH
  have H0 : Hid (u.k ≠ 0) := by unfold Hid; omega
  have H63 : Hid (u.k ≠ 63) := by unfold Hid; omega
  have Hw := nameS_err (rd := Rf.argsS (Rf.termS f) 4 []) t (l := l) (ns := ns) hk40
  have Hv := nameS_ok (rd := Rf.argsS (Rf.termS f) 4 []) t (l := l) (ns := ns) hk40
  obtain ⟨hbl, hgl, _⟩ := h.lt
  clear h IH hk40
  go_enter Tryz.func138, Tryz.ntmps138
  go_wp2_with (first
    | (go_at_call 67; refine (now_any b g nb u l ns _ H.out).mono ?_; rintro e w1 ⟨rfl, hb1⟩; obtain ⟨vL, vN, I, hB, hI, hN⟩ := (H.out.below hb1).next H0.out H63.out; obtain ⟨q0, q1, q2, q3, q4, qf, qb⟩ := hB.facts))
  have hs1 := hb1.size
  generalize hX : w1.heap.size + 1 = X
  have HX : Hid _ := hX
  clear hX
  go_loopg [7, 8] 4 (fun m _ _ wr => CompSt w b g nb X t.s f (Rf.argsS (Rf.termS f) 4 [] l ns) m wr)
  case atStart =>
    have hxs : w.heap.size ≤ X := by have := HX.out; omega
    have hblk : TmB (((w1.setCell ⟨b, 1, none⟩ (.int .i64 ((I : Int) + 1))).alloc (.cells #[.int .u8 u.k, .int .i64 u.at_, .string u.s, .int .i64 u.e] 149)).alloc (.cells #[.int .u8 99, .int .i64 0, .string t.s, .slice none 0 0] 102)) X 99 0 t.s (.slice none 0 0) := blk_at _ _ _ (by rw [← HX.out]; simp)
    refine ⟨(((Kept.of_below hb1 (May b nb)).setCell (p := ⟨b, 1, none⟩) (.inr (.inl rfl)) _).alloc _).alloc _, ⟨_, _, _, _, _, _, hblk⟩, hxs, .inl ⟨3, [], l, ns, nb, .slice none 0 0, rfl, by omega, rfl, (hN.alloc _).alloc _, .inl rfl, hl, ?_, rfl⟩⟩
    refine ⟨hblk, hxs, fun e => ?_, by simp [Value.ownBlock], RowIs.nil _ _ _ _ _, fun k e => by simp [Value.ownBlock] at e, fun q hq => by simp at hq⟩
    have := (hN.lt.2.2.1 _ e).1
    have := HX.out
    simp at *
    omega
  case round =>
    obtain ⟨hKr, hAny, hXn, hst⟩ := hrel
    rcases hst with ⟨k, acc, l1, ns1, nb1, vA, rfl, hk4, hka, hR, hNb, hl1, hA, hwant⟩ | ⟨e, q, rfl, hE, hwant⟩
    · cases hres : Rf.termS f l1 ns1 with
      | error x =>
        obtain ⟨e, q⟩ := x
        have HR : Hid _ := hres
        clear hres
        obtain ⟨vL', I', a', n', c', hBr⟩ := hR.err
        obtain ⟨y0, y1, y2, y3, y4, yf, yb⟩ := hBr.facts
        clear hBr q0 q1 q2 q3 q4 qf
        go_wp2_with (first
          | (go_at_call 96; refine (HI.out b g nb1 l1 ns1 _ hR hl1).mono ?_; rintro r w2 ⟨p, rfl, hp, _, hK2, hm⟩; have hA2 := hA.over hbl hK2 (.inl rfl); rw [HR.out] at hm; obtain ⟨vL2, I2, a2, n2, c2, hB2, hE2⟩ := RdE.ex hm; have x3 : w2.cell? ⟨X, 3, none⟩ = some vA := blk_cell hA2.blk 3; have xf := blk_frozen hA2.blk; have xl := blk_lt hA2.blk)
          | (at_builtin; refine wpList_app Tryz.elemPtr ptrCells ptrCells_len ptrCells_one _ rfl (.tmp 38) (.tmp 40) rfl 0 _ (acc.map (·.1)) rfl (hA2.row.alloc _) ⟨_, 0, none⟩ 1 p rfl (cell_one_at _ _ rfl _ _) (by simp; omega) (Nat.zero_le _) ?_; intro gA capA w3 hrow3 hgr3 hnb3; rw [List.length_map] at hrow3; have hT3 := tm_grown hgr3 (blk_alloc hA2.blk _) hA2.apart; have hbA : vA.ownBlock ≠ some b := (fun e => by have := (hA2.rowNew b e).1; omega); have hB3 := RdB.grown hgr3 (blk_alloc hB2 _) hbA; obtain ⟨z0, z1, z2, z3, z4, zf, zb⟩ := hB3.facts; have t3 : w3.cell? ⟨X, 3, none⟩ = some vA := blk_cell hT3 3; have tf := blk_frozen hT3; have hbX : b ≠ X := (by omega); have he0 : (e == 0) = false := beq_eq_false_iff_ne.2 hE2))
        go_ret
        have hwe : Rf.argsS (Rf.termS f) 4 [] l ns = .error (e, q) := by rw [hwant.out, Rf.argsS, HR.out]
        rw [Hw.out _ hwe]
        exact ⟨X, rfl, hXn, ⟨_, _, _, _, _, _, blk_set hT3 3 _⟩, ((hKr.trans hK2 (May.of hNb)).trans (kept_push hgr3) (fun k hk hm => absurd hm (MayA.none hA2 k hk))), ⟨_, _, _, _, _, (Below.heap_setCell _ _ _ _ hbX).trans hB3, hE2⟩⟩
      | ok x =>
        obtain ⟨ps, l2, ns2⟩ := x
        have HR : Hid _ := hres
        have hlen2 := Rf.termS_len f l1 ns1 ps l2 ns2 hres
        clear hres
        obtain ⟨vL', I', a', n', c', hBr⟩ := hR.err
        obtain ⟨y0, y1, y2, y3, y4, yf, yb⟩ := hBr.facts
        clear hBr q0 q1 q2 q3 q4 qf
        cases l2 with
        | nil =>
          go_wp2_with (go_at_call 96; refine (HI.out b g nb1 l1 ns1 _ hR hl1).mono ?_; rintro r w2 ⟨p, rfl, hp, _, hK2, hm⟩; rw [HR.out] at hm; obtain ⟨nb2, hR2, hn2, hT2⟩ := hm; exact absurd rfl hR2.ended.ne)
        | cons tk l3 =>
          cases h63 : (tk.k == 63)
          · cases h44 : (tk.k == 44)
            · have e44 : tk.k ≠ 44 := beq_eq_false_iff_ne.1 h44
              cases h41 : (tk.k != 41)
              · have e41 : tk.k = 41 := by simpa using h41
                have H0' : Hid (tk.k ≠ 0) := by unfold Hid; omega
                have hwe : Hid (Rf.argsS (Rf.termS f) 4 [] l ns = .ok (acc.map (·.2) ++ [ps], l3, ns2)) := by
                  unfold Hid; rw [hwant.out, Rf.argsS, HR.out]; simp only []; rw [if_neg e44, if_pos e41]
                clear e44 e41
                go_wp2_with (first
                  | (go_at_call 96; refine (HI.out b g nb1 l1 ns1 _ hR hl1).mono ?_; rintro r w2 ⟨p, rfl, hp, _, hK2, hm⟩; rw [HR.out] at hm; obtain ⟨nb2, hR2, hn2, hT2⟩ := hm; have hA2 := hA.over hbl hK2 hn2; obtain ⟨vL2, I2, a2, n2, c2, hB2⟩ := hR2.err; have x3 : w2.cell? ⟨X, 3, none⟩ = some vA := blk_cell hA2.blk 3; have xf := blk_frozen hA2.blk; have xl := blk_lt hA2.blk)
                  | (at_builtin; refine wpList_app Tryz.elemPtr ptrCells ptrCells_len ptrCells_one _ rfl (.tmp 38) (.tmp 40) rfl 0 _ (acc.map (·.1)) rfl (hA2.row.alloc _) ⟨_, 0, none⟩ 1 p rfl (cell_one_at _ _ rfl _ _) (by simp; omega) (Nat.zero_le _) ?_; intro gA capA w3 hrow3 hgr3 hnb3; rw [List.length_map] at hrow3; have hT3 := tm_grown hgr3 (blk_alloc hA2.blk _) hA2.apart; have hbA : vA.ownBlock ≠ some b := (fun e => by have := (hA2.rowNew b e).1; omega); have hB3 := RdB.grown hgr3 (blk_alloc hB2 _) hbA; obtain ⟨z0, z1, z2, z3, z4, zf, zb⟩ := hB3.facts; have t3 : w3.cell? ⟨X, 3, none⟩ = some vA := blk_cell hT3 3; have tf := blk_frozen hT3; have hbX : b ≠ X := (by omega); obtain ⟨hA4, hR4⟩ := comp_ok hKr.size hA hA2 hT2 hR2 hbl hgl hgr3 hnb3 hrow3)
                  | (go_at_call 99; refine (is_no b g nb2 tk l3 ns2 44 _ hR4 h63).mono ?_; rintro r w5 ⟨rfl, hb5⟩; have hR5 := hR4.below hb5; obtain ⟨vL5, vN5, I5, hB5, hI5, hN5⟩ := hR5.next H0'.out (beq_eq_false_iff_ne.1 h63); obtain ⟨v0, v1, v2, v3, v4, vf, vb⟩ := hB5.facts; have hT5 := (hb5.block X (blk_lt hA4.blk)).trans hA4.blk; have s3 : w5.cell? ⟨X, 3, none⟩ = some (.slice (some ⟨gA, 0, none⟩) (acc.length + 1) capA) := blk_cell hT5 3; have sl := blk_lt hT5)
                  | (go_at_call 70; refine (must_ok b g nb2 tk l3 ns2 41 _ hR5 h41 H0'.out (beq_eq_false_iff_ne.1 h63)).mono ?_; rintro r w6 ⟨rfl, hR6, hK6⟩))
                go_ret
                rw [Hv.out _ _ _ hwe.out]
                have hA6 := hA4.over hbl ((Kept.of_below hb5 (May b nb2)).trans hK6 (fun _ _ e => Or.inl e)) (.inl rfl)
                have hd6 := hA6.done (by simp) (by simp; omega)
                refine ⟨X, rfl, hXn, ⟨_, _, _, _, _, _, hA6.blk⟩, (((hKr.trans hK2 (May.of hNb)).trans (kept_push hgr3) (fun k hk hm => absurd hm (MayA.none hA2 k hk))).trans (Kept.of_below hb5 (May b nb)) (fun _ _ e => e)).trans hK6 (fun _ _ e => Or.inl e), nb2, hR6, hNb.trans hn2 hKr.size, ?_⟩
                simpa using hd6
              · have e41 : tk.k ≠ 41 := by simpa using h41
                have hwe : Hid (Rf.argsS (Rf.termS f) 4 [] l ns = .error (Rf.errOf tk 2)) := by
                  unfold Hid; rw [hwant.out, Rf.argsS, HR.out]; simp only []; rw [if_neg e44, if_neg e41]
                clear e44 e41
                go_wp2_with (first
                  | (go_at_call 96; refine (HI.out b g nb1 l1 ns1 _ hR hl1).mono ?_; rintro r w2 ⟨p, rfl, hp, _, hK2, hm⟩; rw [HR.out] at hm; obtain ⟨nb2, hR2, hn2, hT2⟩ := hm; have hA2 := hA.over hbl hK2 hn2; obtain ⟨vL2, I2, a2, n2, c2, hB2⟩ := hR2.err; have x3 : w2.cell? ⟨X, 3, none⟩ = some vA := blk_cell hA2.blk 3; have xf := blk_frozen hA2.blk; have xl := blk_lt hA2.blk)
                  | (at_builtin; refine wpList_app Tryz.elemPtr ptrCells ptrCells_len ptrCells_one _ rfl (.tmp 38) (.tmp 40) rfl 0 _ (acc.map (·.1)) rfl (hA2.row.alloc _) ⟨_, 0, none⟩ 1 p rfl (cell_one_at _ _ rfl _ _) (by simp; omega) (Nat.zero_le _) ?_; intro gA capA w3 hrow3 hgr3 hnb3; rw [List.length_map] at hrow3; have hT3 := tm_grown hgr3 (blk_alloc hA2.blk _) hA2.apart; have hbA : vA.ownBlock ≠ some b := (fun e => by have := (hA2.rowNew b e).1; omega); have hB3 := RdB.grown hgr3 (blk_alloc hB2 _) hbA; obtain ⟨z0, z1, z2, z3, z4, zf, zb⟩ := hB3.facts; have t3 : w3.cell? ⟨X, 3, none⟩ = some vA := blk_cell hT3 3; have tf := blk_frozen hT3; have hbX : b ≠ X := (by omega); obtain ⟨hA4, hR4⟩ := comp_ok hKr.size hA hA2 hT2 hR2 hbl hgl hgr3 hnb3 hrow3)
                  | (go_at_call 99; refine (is_no b g nb2 tk l3 ns2 44 _ hR4 h63).mono ?_; rintro r w5 ⟨rfl, hb5⟩; have hR5 := hR4.below hb5; obtain ⟨vL5, I5, a5, n5, c5, hB5⟩ := hR5.err; obtain ⟨v0, v1, v2, v3, v4, vf, vb⟩ := hB5.facts)
                  | (go_at_call 70; refine (must_bad b g nb2 tk l3 ns2 41 _ hR5 h41).mono ?_; rintro r w6 ⟨rfl, hE6, hK6⟩))
                go_ret
                rw [Hw.out _ hwe.out]
                have hA6 := hA4.over hbl ((Kept.of_below hb5 (May b nb2)).trans hK6 (fun _ _ e => Or.inl e)) (.inl rfl)
                exact ⟨X, rfl, hXn, ⟨_, _, _, _, _, _, hA6.blk⟩, (((hKr.trans hK2 (May.of hNb)).trans (kept_push hgr3) (fun k hk hm => absurd hm (MayA.none hA2 k hk))).trans (Kept.of_below hb5 (May b nb)) (fun _ _ e => e)).trans hK6 (fun _ _ e => Or.inl e), hE6⟩
            · have e44 : tk.k = 44 := eq_of_beq h44
              have H0' : Hid (tk.k ≠ 0) := by unfold Hid; omega
              by_cases hk0 : k = 0
              · have hwe : Hid (Rf.argsS (Rf.termS f) 4 [] l ns = .error (3, tk.at_)) := by
                  unfold Hid; rw [hwant.out, Rf.argsS, HR.out]; simp only []; rw [if_pos e44, if_pos (by simp; omega)]
                have HE : Hid _ := errOf_no tk 3 h63
                have h4 : ((acc.length : Int) + 1 == 4) = true := by rw [beq_iff_eq]; omega
                clear e44
                go_wp2_with (first
                  | (go_at_call 96; refine (HI.out b g nb1 l1 ns1 _ hR hl1).mono ?_; rintro r w2 ⟨p, rfl, hp, _, hK2, hm⟩; rw [HR.out] at hm; obtain ⟨nb2, hR2, hn2, hT2⟩ := hm; have hA2 := hA.over hbl hK2 hn2; obtain ⟨vL2, I2, a2, n2, c2, hB2⟩ := hR2.err; have x3 : w2.cell? ⟨X, 3, none⟩ = some vA := blk_cell hA2.blk 3; have xf := blk_frozen hA2.blk; have xl := blk_lt hA2.blk)
                  | (at_builtin; refine wpList_app Tryz.elemPtr ptrCells ptrCells_len ptrCells_one _ rfl (.tmp 38) (.tmp 40) rfl 0 _ (acc.map (·.1)) rfl (hA2.row.alloc _) ⟨_, 0, none⟩ 1 p rfl (cell_one_at _ _ rfl _ _) (by simp; omega) (Nat.zero_le _) ?_; intro gA capA w3 hrow3 hgr3 hnb3; rw [List.length_map] at hrow3; have hT3 := tm_grown hgr3 (blk_alloc hA2.blk _) hA2.apart; have hbA : vA.ownBlock ≠ some b := (fun e => by have := (hA2.rowNew b e).1; omega); have hB3 := RdB.grown hgr3 (blk_alloc hB2 _) hbA; obtain ⟨z0, z1, z2, z3, z4, zf, zb⟩ := hB3.facts; have t3 : w3.cell? ⟨X, 3, none⟩ = some vA := blk_cell hT3 3; have tf := blk_frozen hT3; have hbX : b ≠ X := (by omega); obtain ⟨hA4, hR4⟩ := comp_ok hKr.size hA hA2 hT2 hR2 hbl hgl hgr3 hnb3 hrow3)
                  | (go_at_call 99; refine (is_no b g nb2 tk l3 ns2 44 _ hR4 h63).mono ?_; rintro r w5 ⟨rfl, hb5⟩; have hR5 := hR4.below hb5; obtain ⟨vL5, vN5, I5, hB5, hI5, hN5⟩ := hR5.next H0'.out (beq_eq_false_iff_ne.1 h63); obtain ⟨v0, v1, v2, v3, v4, vf, vb⟩ := hB5.facts; have hT5 := (hb5.block X (blk_lt hA4.blk)).trans hA4.blk; have s3 : w5.cell? ⟨X, 3, none⟩ = some (.slice (some ⟨gA, 0, none⟩) (acc.length + 1) capA) := blk_cell hT5 3; have sl := blk_lt hT5)
                  | (go_at_call 67; refine (now_any b g nb2 tk l3 ns2 _ hR5).mono ?_; rintro r w6 ⟨rfl, hb6⟩)
                  | (go_at_call 98; refine (bad_rd b g nb2 (tk :: l3) ns2 tk 3 _ (hR5.below hb6) (by rw [HE.out]; show (3 : Int) ≠ 0; decide)).mono ?_; rintro r w7 ⟨rfl, hE7, hK7⟩; rw [HE.out] at hE7; obtain ⟨vL7, I7, a7, n7, c7, hB7, hne7⟩ := hE7.ex; obtain ⟨r0, r1, r2, r3, r4, rf, rb⟩ := hB7.facts))
                go_roundg 0
                case measure => omega
                case rel =>
                  have hK47 : Kept (May b nb2) _ w7 := (((Kept.of_below hb5 (May b nb2)).trans (Kept.of_below hb6 (May b nb2)) (fun _ _ e => e)).trans hK7 (fun _ _ e => Or.inl e))
                  have hA7 := hA4.over hbl hK47 (.inl rfl)
                  refine ⟨(((((hKr.trans hK2 (May.of hNb)).trans (kept_push hgr3) (fun k hk hm => absurd hm (MayA.none hA2 k hk))).trans (Kept.of_below hb5 (May b nb)) (fun _ _ e => e)).trans (Kept.of_below hb6 (May b nb)) (fun _ _ e => e)).trans hK7 (fun _ _ e => Or.inl e)).setCell (p := ⟨b, 1, none⟩) (.inr (.inl rfl)) _, ⟨_, _, _, _, _, _, (Below.heap_setCell _ _ _ _ (fun e => hbX e.symm)).trans hA7.blk⟩, hXn, .inr ⟨3, tk.at_, rfl, ⟨_, _, _, _, _, blk_set hB7 1 _, by decide⟩, hwe⟩⟩
              · have hwe : Hid (Rf.argsS (Rf.termS f) 4 [] l ns = Rf.argsS (Rf.termS f) (k - 1 + 1) ((acc ++ [((0 : Nat), ps)]).map (fun q => q.2)) l3 ns2) := by
                  unfold Hid; rw [hwant.out, Rf.argsS, HR.out]; simp only []; rw [if_pos e44, if_neg (by simp; omega), show k - 1 + 1 = k by omega, List.map_append]; rfl
                have h4 : ((acc.length : Int) + 1 == 4) = false := by rw [beq_eq_false_iff_ne]; omega
                clear e44
                go_wp2_with (first
                  | (go_at_call 96; refine (HI.out b g nb1 l1 ns1 _ hR hl1).mono ?_; rintro r w2 ⟨p, rfl, hp, _, hK2, hm⟩; rw [HR.out] at hm; obtain ⟨nb2, hR2, hn2, hT2⟩ := hm; have hA2 := hA.over hbl hK2 hn2; obtain ⟨vL2, I2, a2, n2, c2, hB2⟩ := hR2.err; have x3 : w2.cell? ⟨X, 3, none⟩ = some vA := blk_cell hA2.blk 3; have xf := blk_frozen hA2.blk; have xl := blk_lt hA2.blk)
                  | (at_builtin; refine wpList_app Tryz.elemPtr ptrCells ptrCells_len ptrCells_one _ rfl (.tmp 38) (.tmp 40) rfl 0 _ (acc.map (·.1)) rfl (hA2.row.alloc _) ⟨_, 0, none⟩ 1 p rfl (cell_one_at _ _ rfl _ _) (by simp; omega) (Nat.zero_le _) ?_; intro gA capA w3 hrow3 hgr3 hnb3; rw [List.length_map] at hrow3; have hT3 := tm_grown hgr3 (blk_alloc hA2.blk _) hA2.apart; have hbA : vA.ownBlock ≠ some b := (fun e => by have := (hA2.rowNew b e).1; omega); have hB3 := RdB.grown hgr3 (blk_alloc hB2 _) hbA; obtain ⟨z0, z1, z2, z3, z4, zf, zb⟩ := hB3.facts; have t3 : w3.cell? ⟨X, 3, none⟩ = some vA := blk_cell hT3 3; have tf := blk_frozen hT3; have hbX : b ≠ X := (by omega); obtain ⟨hA4, hR4⟩ := comp_ok hKr.size hA hA2 hT2 hR2 hbl hgl hgr3 hnb3 hrow3)
                  | (go_at_call 99; refine (is_no b g nb2 tk l3 ns2 44 _ hR4 h63).mono ?_; rintro r w5 ⟨rfl, hb5⟩; have hR5 := hR4.below hb5; obtain ⟨vL5, vN5, I5, hB5, hI5, hN5⟩ := hR5.next H0'.out (beq_eq_false_iff_ne.1 h63); obtain ⟨v0, v1, v2, v3, v4, vf, vb⟩ := hB5.facts; have hT5 := (hb5.block X (blk_lt hA4.blk)).trans hA4.blk; have s3 : w5.cell? ⟨X, 3, none⟩ = some (.slice (some ⟨gA, 0, none⟩) (acc.length + 1) capA) := blk_cell hT5 3; have sl := blk_lt hT5))
                go_roundg k
                case measure => omega
                case rel =>
                  have hK45 : Kept (May b nb2) _ (w5.setCell ⟨b, 1, none⟩ (.int .i64 ((I5 : Int) + 1))) := (Kept.of_below hb5 (May b nb2)).setCell (p := ⟨b, 1, none⟩) (.inr (.inl rfl)) _
                  have hA5 := hA4.over hbl hK45 (.inl rfl)
                  refine ⟨(((hKr.trans hK2 (May.of hNb)).trans (kept_push hgr3) (fun k hk hm => absurd hm (MayA.none hA2 k hk))).trans (Kept.of_below hb5 (May b nb)) (fun _ _ e => e)).setCell (p := ⟨b, 1, none⟩) (.inr (.inl rfl)) _, ⟨_, _, _, _, _, _, hA5.blk⟩, hXn, .inl ⟨k - 1, acc ++ [(p, ps)], l3, ns2, nb2, _, by omega, by omega, by simp; omega, hN5, hNb.trans hn2 hKr.size, by simp at hlen2; omega, hA5, ?_⟩⟩
                  have h9 := hwe.out
                  simp only [List.map_append, List.map_cons, List.map_nil] at h9 ⊢
                  exact h9
          · have hwe : Hid (Rf.argsS (Rf.termS f) 4 [] l ns = .error (tk.e, tk.at_)) := by
              have e63 : tk.k = 63 := eq_of_beq h63
              unfold Hid; rw [hwant.out, Rf.argsS, HR.out]; simp only []; rw [if_neg (by omega), if_neg (by omega), errOf_yes _ _ h63]
            go_wp2_with (first
              | (go_at_call 96; refine (HI.out b g nb1 l1 ns1 _ hR hl1).mono ?_; rintro r w2 ⟨p, rfl, hp, _, hK2, hm⟩; rw [HR.out] at hm; obtain ⟨nb2, hR2, hn2, hT2⟩ := hm; have hA2 := hA.over hbl hK2 hn2; obtain ⟨vL2, I2, a2, n2, c2, hB2⟩ := hR2.err; have x3 : w2.cell? ⟨X, 3, none⟩ = some vA := blk_cell hA2.blk 3; have xf := blk_frozen hA2.blk; have xl := blk_lt hA2.blk)
              | (at_builtin; refine wpList_app Tryz.elemPtr ptrCells ptrCells_len ptrCells_one _ rfl (.tmp 38) (.tmp 40) rfl 0 _ (acc.map (·.1)) rfl (hA2.row.alloc _) ⟨_, 0, none⟩ 1 p rfl (cell_one_at _ _ rfl _ _) (by simp; omega) (Nat.zero_le _) ?_; intro gA capA w3 hrow3 hgr3 hnb3; rw [List.length_map] at hrow3; have hT3 := tm_grown hgr3 (blk_alloc hA2.blk _) hA2.apart; have hbA : vA.ownBlock ≠ some b := (fun e => by have := (hA2.rowNew b e).1; omega); have hB3 := RdB.grown hgr3 (blk_alloc hB2 _) hbA; obtain ⟨z0, z1, z2, z3, z4, zf, zb⟩ := hB3.facts; have t3 : w3.cell? ⟨X, 3, none⟩ = some vA := blk_cell hT3 3; have tf := blk_frozen hT3; have hbX : b ≠ X := (by omega); obtain ⟨hA4, hR4⟩ := comp_ok hKr.size hA hA2 hT2 hR2 hbl hgl hgr3 hnb3 hrow3)
              | (go_at_call 99; refine (is_bad b g nb2 tk l3 ns2 44 _ hR4 h63).mono ?_; rintro r w5 ⟨rfl, hE5, hK5⟩; obtain ⟨vL5, I5, a5, n5, c5, hB5, hE5'⟩ := hE5.ex; obtain ⟨v0, v1, v2, v3, v4, vf, vb⟩ := hB5.facts; have he0 : (tk.e == 0) = false := beq_eq_false_iff_ne.2 hE5'))
            go_ret
            rw [Hw.out _ hwe.out]
            have hA5 := hA4.over hbl (hK5.mono (M' := May b nb2) (fun _ _ e => Or.inl e)) (.inl rfl)
            exact ⟨X, rfl, hXn, ⟨_, _, _, _, _, _, hA5.blk⟩, ((hKr.trans hK2 (May.of hNb)).trans (kept_push hgr3) (fun k hk hm => absurd hm (MayA.none hA2 k hk))).trans hK5 (fun _ _ e => Or.inl e), hE5⟩
    · obtain ⟨vL', I', a', n', c', hBr, hne⟩ := hE.ex
      obtain ⟨y0, y1, y2, y3, y4, yf, yb⟩ := hBr.facts
      have he0 : (e == 0) = false := beq_eq_false_iff_ne.2 hne
      clear hBr q0 q1 q2 q3 q4 qf
      go_wp2_with fail
      go_ret
      rw [Hw.out _ hwant.out]
      exact ⟨X, rfl, hXn, hAny, hKr, hE⟩
end Go.Proofs.YthdmbbfaphipkaaGreatDoor
/- What the document's reading does at a term (promptref: Term, compound): it reads just what the plain function reads, for every list of tokens. -/
namespace Go.Proofs.YthdmbbfaphipkaaGreatDoor
open Go.RowKit
theorem TermPost.lift {w wa w' : World} {b g : Nat} {nb : Option Nat} {res : Except (Int × Nat) (List Rf.Part × List Rf.Tok × List ByteArray)} {r : Ending} (h : TermPost wa b g nb res r w') (hk : Kept (May b nb) w wa) : TermPost w b g nb res r w' := by
  obtain ⟨p, e, h1, h2, h3, h4⟩ := h
  have hs := hk.size
  refine ⟨p, e, by omega, h2, hk.trans h3 (fun _ _ x => x), ?_⟩
  cases res with
  | error x => exact h4
  | ok x =>
    obtain ⟨nb', a1, a2, a3⟩ := h4
    exact ⟨nb', a1, Nb.trans (.inl rfl) a2 hs, a3.keptBy (Kept.refl (fun _ => False) _) (fun k _ hF => ⟨fun x => x, by have := hF.1; omega, hF.2.1, hF.2.2⟩)⟩
set_option maxHeartbeats 1000000 in
theorem term_step (f : Nat) (IH : TermIH f) : TermIH (f + 1) := by
  intro b g nb l0 ns w h hl0
  obtain ⟨t, l, rfl⟩ : ∃ t l, l0 = t :: l := by
    cases l0 with
    | nil => exact absurd rfl h.ended.ne
    | cons t l => exact ⟨t, l, rfl⟩
  have hl : l.length ≤ f := by simp at hl0; omega
  have hfine := h.ended.fine
  have H : Hid _ := h
  have HI : Hid _ := IH
  have Hf : Hid _ := hfine
  obtain ⟨hbl, hgl, _⟩ := h.lt
  clear h IH hl0 hfine
  cases c118 : (t.k == 118)
  · cases c110 : (t.k == 110)
    · cases c97 : (t.k == 97)
      · have hS : Hid (Rf.termS (f + 1) (t :: l) ns = .error (Rf.errOf t 2)) := by
          unfold Hid; rw [Rf.termS, if_neg (beq_eq_false_iff_ne.1 c118), if_neg (beq_eq_false_iff_ne.1 c110), if_neg (beq_eq_false_iff_ne.1 c97)]
        have HE : Hid _ := errOf_ne H.out.ended (e := 2) (by decide)
        go_enter Tryz.func96, Tryz.ntmps96
        go_wp2_with (first
          | (go_at_call 67; refine (now_any b g nb t l ns _ H.out).mono ?_; rintro e w1 ⟨rfl, hb1⟩)
          | (go_at_call 98; refine (bad_rd b g nb (t :: l) ns t 2 _ ((H.out.below hb1).alloc _) HE.out).mono ?_; rintro e w2 ⟨rfl, hE, hK⟩))
        go_ret
        rw [hS.out]
        have hs1 := hb1.size
        have hs2 := hK.size
        simp only [World.size_alloc] at hs2
        exact ⟨_, rfl, by omega, ⟨_, _, _, _, _, _, blk_at _ _ _ rfl⟩, (((Kept.of_below hb1 (May b nb)).alloc _).trans hK (fun _ _ e => Or.inl e)).alloc _, hE.below ((Below.refl _ _).alloc (Nat.le_refl _) _)⟩
      · have e97 : t.k = 97 := eq_of_beq c97
        have H0 : Hid (t.k ≠ 0) := by unfold Hid; omega
        have H63 : Hid (t.k ≠ 63) := by unfold Hid; omega
        have hS : Hid (Rf.termS (f + 1) (t :: l) ns = Rf.nameS (Rf.argsS (Rf.termS f) 4 []) t l ns) := by
          unfold Hid; rw [Rf.termS, if_neg (beq_eq_false_iff_ne.1 c118), if_neg (beq_eq_false_iff_ne.1 c110), if_pos e97]
        have hen := H.out.ended.tail H0.out H63.out
        clear e97
        cases l with
        | nil => exact absurd rfl hen.ne
        | cons u l' =>
          have Hen : Hid _ := hen
          clear hen
          have hl' : l'.length ≤ f := by simp at hl; omega
          cases hu : (u.k != 40)
          · go_enter Tryz.func96, Tryz.ntmps96
            go_wp2_with (first
              | (go_at_call 67; refine (now_any b g nb t (u :: l') ns _ H.out).mono ?_; rintro e w1 ⟨rfl, hb1⟩; obtain ⟨vL, vN, I, hB, hI, hN⟩ := (H.out.below hb1).next H0.out H63.out; obtain ⟨q0, q1, q2, q3, q4, qf, qb⟩ := hB.facts)
              | (go_at_call 138; refine (compound_args f HI.out b g nb u l' ns t _ (hN.alloc _) hu hl').mono ?_; rintro r w2 ⟨p, rfl, hP⟩))
            go_ret
            rw [hS.out]
            exact TermPost.lift ⟨p, rfl, hP⟩ (((Kept.of_below hb1 (May b nb)).setCell (p := ⟨b, 1, none⟩) (.inr (.inl rfl)) _).alloc _)
          · have hn : Hid (Rf.nameS (Rf.argsS (Rf.termS f) 4 []) t (u :: l') ns = .ok ([⟨3, t.s, 0, 0⟩], u :: l', ns)) := by
              unfold Hid; simp only [Rf.nameS]; rw [if_neg (by simpa using hu)]
            go_enter Tryz.func96, Tryz.ntmps96
            go_wp2_with (first
              | (go_at_call 67; refine (now_any b g nb t (u :: l') ns _ H.out).mono ?_; rintro e w1 ⟨rfl, hb1⟩; obtain ⟨vL, vN, I, hB, hI, hN⟩ := (H.out.below hb1).next H0.out H63.out; obtain ⟨q0, q1, q2, q3, q4, qf, qb⟩ := hB.facts)
              | (go_at_call 138; refine (compound_name b g nb u l' ns t.s _ (hN.alloc _) hu).mono ?_; rintro r w2 ⟨p, rfl, hP⟩))
            go_ret
            rw [hS.out, hn.out]
            exact TermPost.lift ⟨p, rfl, hP⟩ (((Kept.of_below hb1 (May b nb)).setCell (p := ⟨b, 1, none⟩) (.inr (.inl rfl)) _).alloc _)
    · have e110 : t.k = 110 := eq_of_beq c110
      have H0 : Hid (t.k ≠ 0) := by unfold Hid; omega
      have H63 : Hid (t.k ≠ 63) := by unfold Hid; omega
      have hS : Hid (Rf.termS (f + 1) (t :: l) ns = .ok ([⟨2, ⟨#[]⟩, Rf.numVal t.s, 0⟩], l, ns)) := by
        unfold Hid; rw [Rf.termS, if_neg (beq_eq_false_iff_ne.1 c118), if_pos e110]
      obtain ⟨hsz, v, hv, _⟩ := Hf.out.1 e110
      have Hv : Hid _ := hv
      clear e110 hv
      go_enter Tryz.func96, Tryz.ntmps96
      go_wp2_with (first
        | (go_at_call 67; refine (now_any b g nb t l ns _ H.out).mono ?_; rintro e w1 ⟨rfl, hb1⟩; obtain ⟨vL, vN, I, hB, hI, hN⟩ := (H.out.below hb1).next H0.out H63.out; obtain ⟨q0, q1, q2, q3, q4, qf, qb⟩ := hB.facts)
        | (go_at_call 137; refine (number_any t.s v _ hsz Hv.out).mono ?_; rintro r w2 ⟨rfl, hb2⟩))
      go_ret
      rw [hS.out]
      have hs1 := hb1.size
      have hs2 := hb2.size
      simp at hs2
      have hR2 := (hN.alloc (.cells #[.int .u8 t.k, .int .i64 t.at_, .string t.s, .int .i64 t.e] 149)).below hb2
      refine ⟨_, rfl, by omega, ⟨_, _, _, _, _, _, blk_at _ _ _ rfl⟩, ((((Kept.of_below hb1 (May b nb)).setCell (p := ⟨b, 1, none⟩) (.inr (.inl rfl)) _).alloc _).trans (Kept.of_below hb2 (May b nb)) (fun _ _ e => e)).alloc _, nb, hR2.alloc _, .inl rfl, 1, ⟨by omega, by simp, fun e => ?_⟩, .inr (.inl ⟨_, blk_at _ _ _ rfl, rfl⟩)⟩
      have := (hR2.lt.2.2.1 _ e).1
      omega
  · have e118 : t.k = 118 := eq_of_beq c118
    have H0 : Hid (t.k ≠ 0) := by unfold Hid; omega
    have H63 : Hid (t.k ≠ 63) := by unfold Hid; omega
    have hS : Hid (Rf.termS (f + 1) (t :: l) ns = Rf.varT t l ns) := by
      unfold Hid; rw [Rf.termS, if_pos e118]
    clear e118
    go_enter Tryz.func96, Tryz.ntmps96
    go_wp2_with (first
      | (go_at_call 67; refine (now_any b g nb t l ns _ H.out).mono ?_; rintro e w1 ⟨rfl, hb1⟩; obtain ⟨vL, vN, I, hB, hI, hN⟩ := (H.out.below hb1).next H0.out H63.out; obtain ⟨q0, q1, q2, q3, q4, qf, qb⟩ := hB.facts)
      | (go_at_call 136; refine (variable_any b g nb t l ns _ (hN.alloc _) (beq_eq_false_iff_ne.2 H63.out)).mono ?_; rintro r w2 ⟨p, rfl, hP⟩))
    go_ret
    rw [hS.out]
    exact TermPost.lift ⟨p, rfl, hP⟩ (((Kept.of_below hb1 (May b nb)).setCell (p := ⟨b, 1, none⟩) (.inr (.inl rfl)) _).alloc _)
theorem term_any : ∀ f, TermIH f
  | 0 => fun b g nb l ns w h hl => absurd (List.eq_nil_of_length_eq_zero (by omega)) h.ended.ne
  | f + 1 => term_step f (term_any f)
end Go.Proofs.YthdmbbfaphipkaaGreatDoor
/- What the document's reading does at a goal and asks of a head (promptref: BuiltIn, Goal). -/
namespace Go.Proofs.YthdmbbfaphipkaaGreatDoor
open Go.RowKit
set_option maxHeartbeats 1000000 in
theorem builtIn_any (p : Nat) (k n : Int) (s : ByteArray) (a : Option Addr) (len c : Nat) (w : World) (h : TmB w p k n s (.slice a len c)) :
    Calls Tryz.prog 97 #[.pointer (some ⟨p, 0, none⟩)] w fun r w' => r = .returned (.bool (Rf.builtInB s len)) ∧ w' = w := by
  have x2 : w.cell? ⟨p, 2, none⟩ = some (.string s) := blk_cell h 2
  have x3 : w.cell? ⟨p, 3, none⟩ = some (.slice a len c) := blk_cell h 3
  clear h
  have hB : Hid _ := builtInB_eq s len
  rcases (show len = 0 ∨ len = 1 ∨ len = 2 ∨ len = 3 ∨ 4 ≤ len by omega) with rfl | rfl | rfl | rfl | h4
  all_goals
    go_enter Tryz.func97, Tryz.ntmps97
    go_wp2
  all_goals
    go_ret
    refine ⟨ret_bool ?_, rfl⟩
    rw [hB.out]
    clear hB x2 x3
  all_goals
    unfold builtInC
    first | (simp [*]; done) | (simp; done) | (simp [*]; omega)
/-- What a goal's value tells: a cut, or a term that begins with a name. -/
def IsGoal (F : Nat → Prop) (w : World) (gv : Value) (ps : List Rf.Part) : Prop :=
  (gv = .pointer none ∧ ps = [⟨4, ⟨#[]⟩, 0, 0⟩]) ∨ ∃ p, gv = .pointer (some ⟨p, 0, none⟩) ∧ IsTerm F w p ps ∧ (ps.head?.map (·.kind)) = some 3
def GoalPost (w : World) (b g : Nat) (nb : Option Nat) (res : Except (Int × Nat) (List Rf.Part × List Rf.Tok × List ByteArray)) (r : Ending) (w' : World) : Prop :=
  ∃ x : Option Addr, r = .returned (.agg #[.pointer x, .int .i64 0]) ∧ Kept (May b nb) w w' ∧
  (match res with
   | .ok (ps, l', ns') => ∃ nb', Rd w' b g nb' l' ns' ∧ Nb w nb nb' ∧ IsGoal (New w w' nb') w' (.pointer x) ps
   | .error (e, q) => RdE w' b e q)
theorem IsTerm.kind {F : Nat → Prop} {w : World} {p : Nat} {ps : List Rf.Part} (h : IsTerm F w p ps) :
    ∃ k n s a l c, TmB w p k n s (.slice a l c) ∧ ((((k == 118) = true ∨ ((k == 118) = false ∧ (k == 110) = true)) ∧ (ps.head?.map (·.kind)) ≠ some 3 ∧ (∃ y, ps = [y])) ∨ ((k == 118) = false ∧ (k == 110) = false ∧ (ps.head?.map (·.kind)) = some 3 ∧ (∃ rest, ps = ⟨3, s, 0, l⟩ :: rest))) := by
  obtain ⟨d, h⟩ := h
  cases d with
  | zero => exact h.elim
  | succ d =>
    rcases h.2 with ⟨i, h1, e⟩ | ⟨n, h1, e⟩ | ⟨s, h1, e⟩ | ⟨s, v, qs, h1, h2, _, h3, _, _, e⟩
    · exact ⟨_, _, _, _, _, _, h1, .inl ⟨.inl rfl, by rw [e]; simp, _, e⟩⟩
    · exact ⟨_, _, _, _, _, _, h1, .inl ⟨.inr ⟨rfl, rfl⟩, by rw [e]; simp, _, e⟩⟩
    · exact ⟨_, _, _, _, _, _, h1, .inr ⟨rfl, rfl, by rw [e]; simp, _, e⟩⟩
    · rcases h2.shape with ⟨rfl, hn⟩ | ⟨gq, cq, rfl, _⟩
      · have := congrArg List.length hn; rw [List.length_map, List.length_nil] at this; omega
      · rw [List.length_map] at h1
        exact ⟨_, _, _, _, _, _, h1, .inr ⟨rfl, rfl, by rw [e]; simp, _, e⟩⟩
theorem termS_tok {f : Nat} {t : Rf.Tok} {l : List Rf.Tok} {ns : List ByteArray} {x : List Rf.Part × List Rf.Tok × List ByteArray} (h : Rf.termS f (t :: l) ns = .ok x) : (t.k == 63) = false := by
  rw [beq_eq_false_iff_ne]
  intro e
  cases f with
  | zero => cases h
  | succ f =>
    rw [Rf.termS, if_neg (by omega), if_neg (by omega), if_neg (by omega)] at h
    cases h
end Go.Proofs.YthdmbbfaphipkaaGreatDoor
