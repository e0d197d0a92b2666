/- The law's step on one session (promptlaw: plays), at Consult and at Listing: the program's answer is the document's. -/
import Derived.Test.YtegjiaceopnfjaaGreatDoorBg
namespace Go.Proofs.YtegjiaceopnfjaaGreatDoor
open Go.RowKit
def PlaysPost (G : Nat → Prop) (z : Nat) (w : World) (r : Ending) (w' : World) : Prop :=
  r = .returned (.bool true) ∧ Kept G w w' ∧ ∃ cls', SsAt (fun k => G k ∨ (w.heap.size ≤ k ∧ k < w'.heap.size)) w' z cls'
theorem plays_ok {G Fp Fd : Nat → Prop} {w wb w1 wc w2 : World} {z x y : Nat} {lim : Int} {cls' : List Rf.Cl} (hI : SsIn G Fp Fd z x y) (hlt : ∀ k, G k → k < w.heap.size)
    (hk0 : Kept (fun k => k = z) w wb) (hs0 : w.heap.size ≤ wb.heap.size) (hB : SsB wb z x y lim ⟨#[]⟩)
    (hk1 : Kept (fun k => k = x ∨ Fp k) wb w1) (hP1 : PsAt (fun k => Fp k ∨ (wb.heap.size ≤ k ∧ k < w1.heap.size)) w1 x cls')
    (hkc : Kept (fun _ => False) w1 wc) (hk2 : Kept (fun k => k = y) wc w2) (hR2 : RsAt (fun k => Fd k ∨ (wc.heap.size ≤ k ∧ k < w2.heap.size)) w2 y cls') :
    Kept G w w2 ∧ ∃ cls', SsAt (fun k => G k ∨ (w.heap.size ≤ k ∧ k < w2.heap.size)) w2 z cls' := by
  have hz := hlt z hI.gz
  have hx := hlt x hI.gx
  have hy := hlt y hI.gy
  have s1 := hk1.size
  have sc := hkc.size
  have s2 := hk2.size
  have hkb2 : Kept (fun k => k = y ∨ k = x ∨ Fp k) wb w2 := ((hk1.mono (fun _ _ e => .inr e)).trans hkc (fun _ _ e => False.elim e)).trans hk2 (fun _ _ e => .inl e)
  have hk12 : Kept (fun k => k = y) w1 w2 := (hkc.mono (fun _ _ e => False.elim e)).trans hk2 (fun _ _ e => e)
  refine ⟨(hk0.mono (fun k _ e => e ▸ hI.gz)).trans hkb2 (fun k _ e => ?_), cls', ⟨x, y, lim, ⟨#[]⟩, _, _, (hkb2.block z (by omega) (fun e => ?_)).trans hB, ps_kept hP1 hk12 (fun k hl e e2 => ?_), hR2, ⟨.inl hI.gz, .inl hI.gx, .inl hI.gy, fun k e => ?_, fun k e => ?_, hI.xz, hI.yz, hI.xy, fun e => ?_, fun e => ?_, fun e => ?_, fun e => ?_, fun k e e2 => ?_⟩⟩⟩
  · rcases e with rfl | rfl | e
    · exact hI.gy
    · exact hI.gx
    · exact hI.gp k e
  · rcases e with e | e | e
    · exact hI.yz e.symm
    · exact hI.xz e.symm
    · exact hI.pz e
  · subst e2
    rcases e with e | e | e
    · exact hI.xy e.symm
    · exact hI.py e
    · omega
  · rcases e with e | e
    · exact .inl (hI.gp k e)
    · exact .inr ⟨by omega, by omega⟩
  · rcases e with e | e
    · exact .inl (hI.gd k e)
    · exact .inr ⟨by omega, by omega⟩
  · rcases e with e | e
    · exact hI.pz e
    · omega
  · rcases e with e | e
    · exact hI.py e
    · omega
  · rcases e with e | e
    · exact hI.dz e
    · omega
  · rcases e with e | e
    · exact hI.dx e
    · omega
  · rcases e with e | e
    · rcases e2 with e2 | e2
      · exact hI.pd k e e2
      · have := hlt k (hI.gp k e); omega
    · rcases e2 with e2 | e2
      · have := hlt k (hI.gd k e2); omega
      · omega
set_option maxHeartbeats 2000000 in
theorem plays_2 (G : Nat → Prop) (z : Nat) (cls : List Rf.Cl) (a b c d : Int) (s : ByteArray) (w : World) (h : SsAt G w z cls) (hlt : ∀ k, G k → k < w.heap.size) (hm : s.size ≤ maxLen) :
    Calls Tryz.prog 14 #[.pointer (some ⟨z, 0, none⟩), .agg #[.int .i64 2, .int .i64 a, .int .i64 b, .int .i64 c, .int .i64 d, .string s]] w fun r w' => PlaysPost G z w r w' := by
  obtain ⟨x, y, lim, fr, Fp, Fd, hB, hP, hR, hI⟩ := h.ex
  have hz := blk_lt hB
  have hxl := hlt x hI.gx
  have hyl := hlt y hI.gy
  have k0 : w.cell? ⟨z, 0, none⟩ = some (.pointer (some ⟨x, 0, none⟩)) := blk_cell hB 0
  have k1 : w.cell? ⟨z, 1, none⟩ = some (.pointer (some ⟨y, 0, none⟩)) := blk_cell hB 1
  have k3 : w.cell? ⟨z, 3, none⟩ = some (.string fr) := blk_cell hB 3
  have kf := blk_frozen hB
  have HB : Hid _ := hB
  have HP : Hid _ := hP
  have HR : Hid _ := hR
  have HI : Hid _ := hI
  have Hlt : Hid _ := hlt
  clear hB hP hR hI h hlt
  go_enter Tryz.func14, Tryz.ntmps14
  go_wp2_with fail
  have hkb : Kept (fun k => k = z) w ((w.setCell ⟨z, 3, none⟩ (.string ⟨#[]⟩)).alloc (.cells #[.int .i64 2, .int .i64 a, .int .i64 b, .int .i64 c, .int .i64 d, .string s] 33)) := ((Kept.refl (fun k => k = z) w).setCell (p := ⟨z, 3, none⟩) (.inr rfl) _).alloc _
  have hBb : SsB ((w.setCell ⟨z, 3, none⟩ (.string ⟨#[]⟩)).alloc (.cells #[.int .i64 2, .int .i64 a, .int .i64 b, .int .i64 c, .int .i64 d, .string s] 33)) z x y lim ⟨#[]⟩ := blk_alloc (blk_set HB.out 3 _) _
  have hOb : ((w.setCell ⟨z, 3, none⟩ (.string ⟨#[]⟩)).alloc (.cells #[.int .i64 2, .int .i64 a, .int .i64 b, .int .i64 c, .int .i64 d, .string s] 33)).heap[w.heap.size]? = some (.cells #[.int .i64 2, .int .i64 a, .int .i64 b, .int .i64 c, .int .i64 d, .string s] 33 (0, 0)) := blk_at _ _ _ (by simp [World.setCell])
  have hsb : ((w.setCell ⟨z, 3, none⟩ (.string ⟨#[]⟩)).alloc (.cells #[.int .i64 2, .int .i64 a, .int .i64 b, .int .i64 c, .int .i64 d, .string s] 33)).heap.size = w.heap.size + 1 := by simp [World.setCell]
  generalize (w.setCell ⟨z, 3, none⟩ (.string ⟨#[]⟩)).alloc (.cells #[.int .i64 2, .int .i64 a, .int .i64 b, .int .i64 c, .int .i64 d, .string s] 33) = wb at *
  have hPb : Hid (PsAt Fp wb x cls) := ps_kept HP.out hkb (fun k _ e e2 => by subst e2; rcases e with e | e; exact HI.out.xz e.symm; exact HI.out.pz e)
  have hRb : Hid (RsAt Fd wb y cls) := rs_kept HR.out hkb (fun k _ e e2 => by subst e2; rcases e with e | e; exact HI.out.yz e.symm; exact HI.out.dz e)
  have b0 : wb.cell? ⟨z, 0, none⟩ = some (.pointer (some ⟨x, 0, none⟩)) := blk_cell hBb 0
  have b1 : wb.cell? ⟨z, 1, none⟩ = some (.pointer (some ⟨y, 0, none⟩)) := blk_cell hBb 1
  have b5 : wb.cell? ⟨w.heap.size, 5, none⟩ = some (.string s) := blk_cell hOb 5
  have HBb : Hid _ := hBb
  have HOb : Hid _ := hOb
  clear k0 k1 k3 kf hBb hOb
  go_region_with (go_at_call 15; refine (pconsult_any Fp _ x cls s (by first | exact hPb.out | exact ps_kept hPb.out ((Kept.refl (fun _ => False) wb).drewN _) (fun _ _ _ e => e) | exact ps_kept hPb.out ((Kept.refl (fun _ => False) wb).drew) (fun _ _ _ e => e)) hm (good_read s)).mono ?_; rintro r w1 ⟨rfl, hk1, hP1⟩)
  all_goals
    have hk1' : Kept (fun k => k = x ∨ Fp k) wb w1 := (Kept.drew (Kept.refl _ wb)).trans hk1 (fun _ _ e => e)
    have hs1 := hk1'.size
    have hR1 : Hid (RsAt Fd w1 y cls) := rs_kept hRb.out hk1' (fun k _ e e2 => by
      rcases e with e | e
      · subst e
        rcases e2 with e2 | e2
        · exact HI.out.xy e2.symm
        · exact HI.out.py e2
      · rcases e2 with e2 | e2
        · subst e2; exact HI.out.dx e
        · exact HI.out.pd k e2 e)
    have hB1 : SsB w1 z x y lim ⟨#[]⟩ := (hk1'.block z (by omega) (fun e2 => by
      rcases e2 with e2 | e2
      · exact HI.out.xz e2.symm
      · exact HI.out.pz e2)).trans HBb.out
    have hO1 := (hk1'.block w.heap.size (by omega) (fun e2 => by
      rcases e2 with e2 | e2
      · omega
      · have := Hlt.out _ (HI.out.gp _ e2); omega)).trans HOb.out
    have c1 : w1.cell? ⟨z, 1, none⟩ = some (.pointer (some ⟨y, 0, none⟩)) := blk_cell hB1 1
    have c5 : w1.cell? ⟨w.heap.size, 5, none⟩ = some (.string s) := blk_cell hO1 5
    clear b0 b1 b5 hB1 hO1
    go_wp2_with fail
    go_region_with (go_at_call 26; refine (consult_any Fd _ y cls s (by first | exact hR1.out | exact rs_kept hR1.out ((Kept.refl (fun _ => False) w1).drew) (fun _ _ _ e => e)) hm (fun new e => ⟨(good_read s new e).1, fun x hx => ((good_read s new e).2 x hx).1⟩)).mono ?_; rintro r w2 ⟨rfl, hk2, hR2⟩)
    all_goals
      go_wp2_with fail
      go_ret
      exact ⟨rfl, plays_ok HI.out Hlt.out hkb (by omega) HBb.out hk1' hP1 ((Kept.refl (fun _ => False) w1).drew) hk2 hR2⟩
end Go.Proofs.YtegjiaceopnfjaaGreatDoor
/- The law's step on one session (promptlaw: plays), at Listing. -/
namespace Go.Proofs.YtegjiaceopnfjaaGreatDoor
open Go.RowKit
theorem ss_mono {G G' : Nat → Prop} {w : World} {z : Nat} {cls : List Rf.Cl} (h : SsAt G w z cls) (hG : ∀ k, G k → G' k) : SsAt G' w z cls := by
  obtain ⟨x, y, lim, fr, Fp, Fd, hB, hP, hR, hI⟩ := h.ex
  exact ⟨x, y, lim, fr, Fp, Fd, hB, hP, hR, ⟨hG _ hI.gz, hG _ hI.gx, hG _ hI.gy, fun k e => hG k (hI.gp k e), fun k e => hG k (hI.gd k e), hI.xz, hI.yz, hI.xy, hI.pz, hI.py, hI.dz, hI.dx, hI.pd⟩⟩
theorem plisting_at (F : Nat → Prop) (w : World) (x : Nat) (cls : List Rf.Cl) (h : PsAt F w x cls) (hT : Tab w) :
    Calls Tryz.prog 19 #[.pointer (some ⟨x, 0, none⟩)] w fun r w' => r = .returned (.string (listingP cls)) ∧ Below w.heap.size w w' := by
  obtain ⟨⟨lim, vC, hB, hC⟩, _⟩ := h
  exact plisting_any F w x lim vC cls hB hC hT
theorem rlisting_at (F : Nat → Prop) (w : World) (y : Nat) (cls : List Rf.Cl) (h : RsAt F w y cls) (hT : Tab w) :
    Calls Tryz.prog 29 #[.pointer (some ⟨y, 0, none⟩)] w fun r w' => r = .returned (.string (listingP cls)) ∧ Below w.heap.size w w' := by
  obtain ⟨⟨vC, lim, live, vN, vG, vT, vH, fr, hB, hC⟩, _⟩ := h
  exact listing_any F w y vC lim live vN vG vT vH fr cls hB hC hT
set_option maxHeartbeats 2000000 in
theorem plays_6 (G : Nat → Prop) (z : Nat) (cls : List Rf.Cl) (a b c d : Int) (s : ByteArray) (w : World) (h : SsAt G w z cls) (hT : Tab w) :
    Calls Tryz.prog 14 #[.pointer (some ⟨z, 0, none⟩), .agg #[.int .i64 6, .int .i64 a, .int .i64 b, .int .i64 c, .int .i64 d, .string s]] w fun r w' => PlaysPost G z w r w' := by
  have HH : Hid _ := h
  obtain ⟨x, y, lim, fr, Fp, Fd, hB, hP, hR, hI⟩ := h.ex
  have hz := blk_lt hB
  have k0 : w.cell? ⟨z, 0, none⟩ = some (.pointer (some ⟨x, 0, none⟩)) := blk_cell hB 0
  have k1 : w.cell? ⟨z, 1, none⟩ = some (.pointer (some ⟨y, 0, none⟩)) := blk_cell hB 1
  have HP : Hid _ := hP
  have HR : Hid _ := hR
  have HT : Hid _ := hT
  clear hB hP hR h hT hI
  go_enter Tryz.func14, Tryz.ntmps14
  go_wp2_with (first
    | (go_at_call 19; refine (plisting_at Fp _ x cls (ps_kept HP.out ((Kept.refl (fun _ => False) w).alloc _) (fun _ _ _ e => e)) (Tab.below HT.out ((Below.refl _ w).alloc (Nat.le_refl _) _))).mono ?_; rintro r w1 ⟨rfl, hb1⟩; have hb01 : Below w.heap.size w w1 := ((Below.refl _ w).alloc (Nat.le_refl _) _).trans (hb1.mono (by simp)); have hc1 : w1.cell? ⟨z, 1, none⟩ = some (.pointer (some ⟨y, 0, none⟩)) := (hb01.cell (p := ⟨z, 1, none⟩) hz).trans k1)
    | (go_at_call 29; refine (rlisting_at Fd _ y cls (rs_kept HR.out (Kept.of_below hb01 (fun _ => False)) (fun _ _ _ e => e)) (Tab.below HT.out hb01)).mono ?_; rintro r w2 ⟨rfl, hb2⟩))
  go_ret
  have hb02 : Below w.heap.size w w2 := hb01.trans (hb2.mono hb01.size)
  have hk : Kept (fun _ => False) w w2 := Kept.of_below hb02 _
  exact ⟨rfl, hk.mono (fun _ _ e => False.elim e), cls, ss_mono (ss_kept HH.out hk (fun _ _ _ e => e)) (fun _ e => .inl e)⟩
end Go.Proofs.YtegjiaceopnfjaaGreatDoor
