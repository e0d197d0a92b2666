/- The law's small steps (promptlaw: pick, nothing, made). -/
import Derived.Test.YthdmbbfaphipkaaGreatDoorYax
import Derived.WalkKit
namespace Go.Proofs.YthdmbbfaphipkaaGreatDoor
open Go.RowKit
def pickP (c n : Int) : Nat := ((if c < 0 then -(c + 1) else c).tmod n).toNat
theorem pickP_lt {c n : Int} (hn : 1 ≤ n) : (pickP c n : Int) < n := by
  unfold pickP
  have h3 : 0 ≤ (if c < 0 then -(c + 1) else c) := by split <;> omega
  have h4 := Int.tmod_nonneg (a := if c < 0 then -(c + 1) else c) n h3
  have h5 := Int.tmod_lt_of_pos (if c < 0 then -(c + 1) else c) (b := n) (by omega)
  omega
set_option maxHeartbeats 400000 in
theorem pick_any (c n : Int) (w : World) (h1 : -9223372036854775808 ≤ c) (h2 : c ≤ 9223372036854775807) (hn : 1 ≤ n) (hn2 : n ≤ 9223372036854775807) :
    Calls Tryz.prog 9 #[.int .i64 c, .int .i64 n] w fun r w' => r = .returned (.int .i64 (pickP c n)) ∧ w' = w := by
  have hn0 : (n == 0) = false := beq_eq_false_iff_ne.2 (by omega)
  have hnm : (n == -1) = false := beq_eq_false_iff_ne.2 (by omega)
  by_cases hc : c < 0
  · have hP : Hid ((pickP c n : Int) = -((c + 1).tmod n)) := by
      unfold Hid pickP
      have h4 := Int.tmod_nonneg (a := -(c + 1)) n (by omega)
      rw [if_pos hc, Int.toNat_of_nonneg h4, Int.neg_tmod]
    go_enter Tryz.func9, Tryz.ntmps9
    go_wp2
    go_ret
    exact ⟨ret_int hP.out.symm, rfl⟩
  · have hP : Hid ((pickP c n : Int) = c % n) := by
      unfold Hid pickP
      have h4 := Int.tmod_nonneg (a := c) n (by omega)
      rw [if_neg hc, Int.toNat_of_nonneg h4, Int.tmod_eq_emod_of_nonneg (by omega)]
    go_enter Tryz.func9, Tryz.ntmps9
    go_wp2
    go_ret
    exact ⟨ret_int hP.out.symm, rfl⟩
set_option maxHeartbeats 1000000 in
theorem nothing_2 (a b c d : Int) (s : ByteArray) (w : World) :
    Calls Tryz.prog 10 #[.agg #[.int .i64 2, .int .i64 a, .int .i64 b, .int .i64 c, .int .i64 d, .string s]] w fun r w' => r = .returned (.bool true) ∧ Below w.heap.size w w' := by
  go_enter Tryz.func10, Tryz.ntmps10
  go_wp2_with (go_at_call 15; refine (pconsult_nil _ _).mono ?_; rintro r w1 ⟨rfl, rfl⟩)
  go_ret
  exact ⟨rfl, (by repeat (first | exact Below.refl _ _ | refine Below.setCell ?_ (by simp <;> omega) _ | refine Below.drew ?_ | refine Below.drewN ?_ _ | refine Below.alloc ?_ (by simp <;> omega) _))⟩
set_option maxHeartbeats 1000000 in
theorem nothing_6 (a b c d : Int) (s : ByteArray) (w : World) :
    Calls Tryz.prog 10 #[.agg #[.int .i64 6, .int .i64 a, .int .i64 b, .int .i64 c, .int .i64 d, .string s]] w fun r w' => r = .returned (.bool true) ∧ Below w.heap.size w w' := by
  go_enter Tryz.func10, Tryz.ntmps10
  go_wp2_with (go_at_call 19; refine (plisting_nil _).mono ?_; rintro r w1 ⟨rfl, rfl⟩)
  go_ret
  exact ⟨rfl, (by repeat (first | exact Below.refl _ _ | refine Below.setCell ?_ (by simp <;> omega) _ | refine Below.drew ?_ | refine Below.drewN ?_ _ | refine Below.alloc ?_ (by simp <;> omega) _))⟩
def MadePost (base : Nat) (b : Nat) (L : List Ss) (w : World) (r : Ending) (w' : World) : Prop :=
  r = .returned (.bool true) ∧ Below base w w' ∧ ∃ L', WlAt base w' b L' ∧ L'.length ≤ L.length + 1
set_option maxHeartbeats 1000000 in
theorem made_bad (base b : Nat) (L : List Ss) (lim : Int) (w : World) (hW : WlAt base w b L) (h : lim < 1 ∨ 1000 < lim) :
    Calls Tryz.prog 5 #[.pointer (some ⟨b, 0, none⟩), .int .i64 lim] w fun r w' => MadePost base b L w r w' := by
  have HW : Hid _ := hW
  have H : Hid _ := h
  clear hW h
  go_enter Tryz.func5, Tryz.ntmps5
  go_wp2_with (first
    | (go_at_call 7; refine (pnew_bad lim _ H.out).mono ?_; rintro r w1 ⟨rfl, rfl⟩)
    | (go_at_call 8; refine (new_bad lim _ H.out).mono ?_; rintro r w1 ⟨rfl, rfl⟩))
  go_ret
  exact ⟨rfl, Below.refl _ _, L, HW.out, by omega⟩
theorem wl_made {base b : Nat} {L : List Ss} {lim : Int} {w w2 w5 : World} {v : Value} {cs : Array Value} {e : TypeId} {g n cap : Nat} (h : WlAt base w b L) (hB : WlB w b v) (hrow : RowIs w 0 42 1 ptrC v (L.map (·.z))) (hv : ∀ k, v.ownBlock = some k → base ≤ k ∧ k ≠ b ∧ ∀ s ∈ L, ¬ s.G k)
    (hs2 : w2.heap.size = w.heap.size + 2) (hb2 : Below w.heap.size w w2) (hx : PsB w2 w.heap.size lim (.slice none 0 0) (.pointer none)) (hy : RsB w2 (w.heap.size + 1) (.slice none 0 0) lim false (.slice none 0 0) (.slice none 0 0) (.slice none 0 0) (.slice none 0 0) 0)
    (hgr : ((w2.alloc (.cells #[.pointer (some ⟨w.heap.size, 0, none⟩), .pointer (some ⟨w.heap.size + 1, 0, none⟩), .int .i64 lim, .string ⟨#[]⟩] 44)).alloc (.cells cs e)).grownBy w5 v.ownBlock)
    (hnb : Nb ((w2.alloc (.cells #[.pointer (some ⟨w.heap.size, 0, none⟩), .pointer (some ⟨w.heap.size + 1, 0, none⟩), .int .i64 lim, .string ⟨#[]⟩] 44)).alloc (.cells cs e)) v.ownBlock (some g))
    (hr : RowIs w5 0 42 1 ptrC (.slice (some ⟨g, 0, none⟩) n cap) (L.map (·.z) ++ [w.heap.size + 2])) :
    Below base w (w5.setCell ⟨b, 0, none⟩ (.slice (some ⟨g, 0, none⟩) n cap)) ∧ ∃ L', WlAt base (w5.setCell ⟨b, 0, none⟩ (.slice (some ⟨g, 0, none⟩) n cap)) b L' ∧ L'.length ≤ L.length + 1 := by
  have hbl := blk_lt hB
  have hbb := h.bb
  have hvl : ∀ k, v.ownBlock = some k → k < w.heap.size := fun k e => (hrow.lt k e).2
  have hs5 := hgr.size
  have hs5' : w.heap.size + 4 ≤ w5.heap.size := by simp at hs5; omega
  have hk4 : Kept (fun k => k = b ∨ v.ownBlock = some k) w w5 := ((((Kept.of_below hb2 (fun k => k = b ∨ v.ownBlock = some k)).alloc _).alloc _).grown hgr (fun k e => .inr (.inr e)))
  have hk : Kept (fun k => k = b ∨ v.ownBlock = some k) w (w5.setCell ⟨b, 0, none⟩ (.slice (some ⟨g, 0, none⟩) n cap)) := hk4.setCell (p := ⟨b, 0, none⟩) (.inr (.inl rfl)) _
  have hg : g ≠ b ∧ base ≤ g ∧ (∀ s ∈ L, ¬ s.G g) ∧ (v.ownBlock = some g ∨ w.heap.size + 4 ≤ g) := by
    rcases hnb with e | ⟨k, e, hk9⟩
    · have := hv g e.symm
      exact ⟨this.2.1, this.1, this.2.2, .inl e.symm⟩
    · have := Option.some.inj e
      simp at hk9
      exact ⟨by omega, by omega, fun s hs e2 => by have := ((h.ss s hs).2 g e2).2.1; omega, .inr (by omega)⟩
  have hbase : base ≤ w.heap.size := by omega
  have hB5 : WlB (w5.setCell ⟨b, 0, none⟩ (.slice (some ⟨g, 0, none⟩) n cap)) b (.slice (some ⟨g, 0, none⟩) n cap) := by
    have h9 : WlB w5 b v := (hgr.block b (by simp; omega) (fun e => (hv b e.symm).2.1 rfl)).trans (blk_alloc (blk_alloc ((hb2.block b hbl).trans hB) _) _)
    exact blk_set h9 0 _
  have hn : ∀ k, k < w.heap.size + 4 → w.heap.size ≤ k → ∀ o, ((w2.alloc (.cells #[.pointer (some ⟨w.heap.size, 0, none⟩), .pointer (some ⟨w.heap.size + 1, 0, none⟩), .int .i64 lim, .string ⟨#[]⟩] 44)).alloc (.cells cs e)).heap[k]? = some o → (w5.setCell ⟨b, 0, none⟩ (.slice (some ⟨g, 0, none⟩) n cap)).heap[k]? = some o := by
    intro k h1 h2 o ho
    have h3 : (w5.setCell ⟨b, 0, none⟩ (.slice (some ⟨g, 0, none⟩) n cap)).heap[k]? = w5.heap[k]? := Below.heap_setCell _ _ _ _ (by simp; omega)
    rw [h3]
    exact (hgr.block k (by simp; omega) (fun e => by have := hvl k e.symm; omega)).trans ho
  have hsz5 : (w5.setCell ⟨b, 0, none⟩ (.slice (some ⟨g, 0, none⟩) n cap)).heap.size = w5.heap.size := by simp [World.setCell]
  have hnew : SsAt (fun k => w.heap.size ≤ k ∧ k < w.heap.size + 3) (w5.setCell ⟨b, 0, none⟩ (.slice (some ⟨g, 0, none⟩) n cap)) (w.heap.size + 2) [] := by
    have hz1 : SsB (w5.setCell ⟨b, 0, none⟩ (.slice (some ⟨g, 0, none⟩) n cap)) (w.heap.size + 2) w.heap.size (w.heap.size + 1) lim ⟨#[]⟩ := hn _ (by omega) (by omega) _ (blk_alloc (blk_at _ _ _ (by omega)) _)
    have hx1 : PsB (w5.setCell ⟨b, 0, none⟩ (.slice (some ⟨g, 0, none⟩) n cap)) w.heap.size lim (.slice none 0 0) (.pointer none) := hn _ (by omega) (by omega) _ (blk_alloc (blk_alloc hx _) _)
    have hy1 : RsB (w5.setCell ⟨b, 0, none⟩ (.slice (some ⟨g, 0, none⟩) n cap)) (w.heap.size + 1) (.slice none 0 0) lim false (.slice none 0 0) (.slice none 0 0) (.slice none 0 0) (.slice none 0 0) 0 := hn _ (by omega) (by omega) _ (blk_alloc (blk_alloc hy _) _)
    have hPA : PsAt (fun _ => False) (w5.setCell ⟨b, 0, none⟩ (.slice (some ⟨g, 0, none⟩) n cap)) w.heap.size [] := ⟨⟨lim, _, _, hx1, ⟨[], ⟨RowIs.nil _ _ _ _ _, (fun k e => by simp [Value.ownBlock] at e), (fun q hq => by simp at hq), fun _ => rfl⟩, rfl, by simp⟩, (fun c hc => by simp at hc)⟩, fun e => e⟩
    have hRA : RsAt (fun _ => False) (w5.setCell ⟨b, 0, none⟩ (.slice (some ⟨g, 0, none⟩) n cap)) (w.heap.size + 1) [] := ⟨⟨_, lim, false, _, _, _, _, 0, hy1, ⟨[], ⟨RowIs.nil _ _ _ _ _, (fun k e => by simp [Value.ownBlock] at e), (fun q hq => by simp at hq), fun _ => rfl⟩, rfl, by simp⟩, (fun c hc => by simp at hc)⟩, fun e => e⟩
    exact ⟨_, _, lim, _, _, _, hz1, hPA, hRA, ⟨⟨by omega, by omega⟩, ⟨by omega, by omega⟩, ⟨by omega, by omega⟩, (fun k e => False.elim e), (fun k e => False.elim e), by omega, by omega, by omega, (fun e => e), (fun e => e), (fun e => e), (fun e => e), (fun k e => False.elim e)⟩⟩
  refine ⟨hk.below hbase (fun k hkb e => ?_), L ++ [⟨w.heap.size + 2, fun k => w.heap.size ≤ k ∧ k < w.heap.size + 3, []⟩], ⟨⟨_, hB5, ?_, fun k e => ?_⟩, hbb, fun s hs => ?_, ?_⟩, by simp⟩
  · rcases e with e | e
    · omega
    · have := (hv k e).1; omega
  · rw [List.map_append]
    exact hr.setCell ⟨b, 0, none⟩ _ (fun e => hg.1 (Option.some.inj e))
  · obtain rfl : g = k := Option.some.inj e
    refine ⟨hg.2.1, hg.1, fun s hs => ?_⟩
    rcases List.mem_append.1 hs with hs | hs
    · exact hg.2.2.1 s hs
    · simp at hs; subst hs
      intro e2
      rcases hg.2.2.2 with e3 | e3
      · have := hvl g e3; have := e2.1; omega
      · have := e2.2; omega
  · rcases List.mem_append.1 hs with hs | hs
    · obtain ⟨h1, h2⟩ := h.ss s hs
      refine ⟨ss_kept h1 hk (fun k hl e e2 => ?_), fun k e => ⟨(h2 k e).1, ?_, (h2 k e).2.2⟩⟩
      · rcases e2 with e2 | e2
        · exact (h2 k e).2.2 e2
        · exact (hv k e2).2.2 s hs e
      · have := (h2 k e).2.1; have := hk.size; omega
    · simp at hs; subst hs
      refine ⟨hnew, fun k e => ⟨?_, ?_, ?_⟩⟩
      · have := e.1; omega
      · have := e.2; omega
      · have := e.1; omega
  · intro i j s t hi hj hne k
    have hltG : ∀ (j : Nat) (t : Ss), L[j]? = some t → ∀ k, t.G k → k < w.heap.size := fun j t ht k e => ((h.ss t (List.mem_of_getElem? ht)).2 k e).2.1
    rw [List.getElem?_append] at hi hj
    split at hi
    · split at hj
      · exact h.apart i j s t hi hj hne k
      · have h7 := List.mem_of_getElem? hj
        simp at h7; subst h7
        intro e e2
        have := hltG i s hi k e; have := e2.1; omega
    · have h6 := List.mem_of_getElem? hi
      simp at h6; subst h6
      split at hj
      · intro e e2
        have := hltG j t hj k e2; have := e.1; omega
      · have h7 := (List.getElem?_eq_some_iff.1 hi).1
        have h8 := (List.getElem?_eq_some_iff.1 hj).1
        simp at h7 h8
        omega
set_option maxHeartbeats 1000000 in
theorem made_ok (base b : Nat) (L : List Ss) (lim : Int) (w : World) (hW : WlAt base w b L) (h1 : 1 ≤ lim) (h2 : lim ≤ 1000) (hL : (L.length + 1) * 8 ≤ 140737488355328) :
    Calls Tryz.prog 5 #[.pointer (some ⟨b, 0, none⟩), .int .i64 lim] w fun r w' => MadePost base b L w r w' := by
  obtain ⟨v, hB, hrow, hv⟩ := hW.ex
  obtain ⟨a, c, he⟩ := row_slice hrow
  rw [List.length_map] at he
  subst he
  have hbl := blk_lt hB
  have HW : Hid _ := hW
  have Hrow : Hid _ := hrow
  have HB : Hid _ := hB
  have Hv : Hid _ := hv
  clear hW hrow hB hv
  go_enter Tryz.func5, Tryz.ntmps5
  go_wp2_with (first
    | (go_at_call 7; refine (pnew_ok lim _ h1 h2).mono ?_; rintro r w1 ⟨rfl, hb1, hz1, hx1⟩)
    | (go_at_call 8; refine (new_ok lim _ h1 h2).mono ?_; rintro r w2 ⟨rfl, hb2, hz2, hy2⟩; have hb12 : Below w.heap.size w w2 := hb1.trans (hb2.mono hb1.size); have hB2 : WlB w2 b _ := (hb12.block b hbl).trans HB.out; have q0 : w2.cell? ⟨b, 0, none⟩ = some (.slice a L.length c) := blk_cell hB2 0; have qf := blk_frozen hB2; have hr2 := Hrow.out.below hb12)
    | (at_builtin; (refine wpList_app Tryz.elemSs ptrC ptrC_len ptrC_one _ rfl (.tmp 37) (.tmp 43) rfl 0 (.slice a L.length c) (L.map (·.z)) rfl ((hr2.alloc _).alloc _) ⟨_, 0, none⟩ 1 (w.heap.size + 1 + 1) rfl (cell_one_at _ _ (by simp [hz1, hz2]) _ _) (by simpa using hL) (Nat.zero_le _) ?_; intro g cap w5 hrow5 hgr5 hnb5; rw [List.length_map] at hrow5; have hB5 : WlB w5 b _ := (hgr5.block b (by simp; have := hb12.size; omega) (fun e => (Hv.out b e.symm).2.1 rfl)).trans (blk_alloc (blk_alloc hB2 _) _); have q5 : w5.cell? ⟨b, 0, none⟩ = some (.slice a L.length c) := blk_cell hB5 0; have qf5 := blk_frozen hB5)))
  go_ret
  have hs2 : w2.heap.size = w.heap.size + 2 := by omega
  refine ⟨rfl, ?_⟩
  rw [hz1] at hy2
  have hx2 : PsB w2 w.heap.size lim (.slice none 0 0) (.pointer none) := (hb2.block _ (by omega)).trans hx1
  exact wl_made HW.out HB.out Hrow.out Hv.out hs2 hb12 hx2 hy2 hgr5 hnb5 hrow5
theorem made_any (base b : Nat) (L : List Ss) (lim : Int) (w : World) (hW : WlAt base w b L) (hL : (L.length + 1) * 8 ≤ 140737488355328) :
    Calls Tryz.prog 5 #[.pointer (some ⟨b, 0, none⟩), .int .i64 lim] w fun r w' => MadePost base b L w r w' := by
  by_cases h : lim < 1 ∨ 1000 < lim
  · exact made_bad base b L lim w hW h
  · exact made_ok base b L lim w hW (by omega) (by omega) hL
end Go.Proofs.YthdmbbfaphipkaaGreatDoor
/- The law's step on one session (promptlaw: plays), at Consult and at Listing: the program's answer is the document's. -/
namespace Go.Proofs.YthdmbbfaphipkaaGreatDoor
open Go.RowKit
def PlaysPost (G : Nat → Prop) (z : Nat) (w : World) (r : Ending) (w' : World) : Prop :=
  r = .returned (.bool true) ∧ Kept G w w' ∧ ∃ cls', SsAt (fun k => G k ∨ (w.heap.size ≤ k ∧ k < w'.heap.size)) w' z cls'
theorem plays_ok {G Fp Fd : Nat → Prop} {w wb w1 wc w2 : World} {z x y : Nat} {lim : Int} {cls' : List Rf.Cl} (hI : SsIn G Fp Fd z x y) (hlt : ∀ k, G k → k < w.heap.size)
    (hk0 : Kept (fun k => k = z) w wb) (hs0 : w.heap.size ≤ wb.heap.size) (hB : SsB wb z x y lim ⟨#[]⟩)
    (hk1 : Kept (fun k => k = x ∨ Fp k) wb w1) (hP1 : PsAt (fun k => Fp k ∨ (wb.heap.size ≤ k ∧ k < w1.heap.size)) w1 x cls')
    (hkc : Kept (fun _ => False) w1 wc) (hk2 : Kept (fun k => k = y) wc w2) (hR2 : RsAt (fun k => Fd k ∨ (wc.heap.size ≤ k ∧ k < w2.heap.size)) w2 y cls') :
    Kept G w w2 ∧ ∃ cls', SsAt (fun k => G k ∨ (w.heap.size ≤ k ∧ k < w2.heap.size)) w2 z cls' := by
  have hz := hlt z hI.gz
  have hx := hlt x hI.gx
  have hy := hlt y hI.gy
  have s1 := hk1.size
  have sc := hkc.size
  have s2 := hk2.size
  have hkb2 : Kept (fun k => k = y ∨ k = x ∨ Fp k) wb w2 := ((hk1.mono (fun _ _ e => .inr e)).trans hkc (fun _ _ e => False.elim e)).trans hk2 (fun _ _ e => .inl e)
  have hk12 : Kept (fun k => k = y) w1 w2 := (hkc.mono (fun _ _ e => False.elim e)).trans hk2 (fun _ _ e => e)
  refine ⟨(hk0.mono (fun k _ e => e ▸ hI.gz)).trans hkb2 (fun k _ e => ?_), cls', ⟨x, y, lim, ⟨#[]⟩, _, _, (hkb2.block z (by omega) (fun e => ?_)).trans hB, ps_kept hP1 hk12 (fun k hl e e2 => ?_), hR2, ⟨.inl hI.gz, .inl hI.gx, .inl hI.gy, fun k e => ?_, fun k e => ?_, hI.xz, hI.yz, hI.xy, fun e => ?_, fun e => ?_, fun e => ?_, fun e => ?_, fun k e e2 => ?_⟩⟩⟩
  · rcases e with rfl | rfl | e
    · exact hI.gy
    · exact hI.gx
    · exact hI.gp k e
  · rcases e with e | e | e
    · exact hI.yz e.symm
    · exact hI.xz e.symm
    · exact hI.pz e
  · subst e2
    rcases e with e | e | e
    · exact hI.xy e.symm
    · exact hI.py e
    · omega
  · rcases e with e | e
    · exact .inl (hI.gp k e)
    · exact .inr ⟨by omega, by omega⟩
  · rcases e with e | e
    · exact .inl (hI.gd k e)
    · exact .inr ⟨by omega, by omega⟩
  · rcases e with e | e
    · exact hI.pz e
    · omega
  · rcases e with e | e
    · exact hI.py e
    · omega
  · rcases e with e | e
    · exact hI.dz e
    · omega
  · rcases e with e | e
    · exact hI.dx e
    · omega
  · rcases e with e | e
    · rcases e2 with e2 | e2
      · exact hI.pd k e e2
      · have := hlt k (hI.gp k e); omega
    · rcases e2 with e2 | e2
      · have := hlt k (hI.gd k e2); omega
      · omega
set_option maxHeartbeats 2000000 in
theorem plays_2 (G : Nat → Prop) (z : Nat) (cls : List Rf.Cl) (a b c d : Int) (s : ByteArray) (w : World) (h : SsAt G w z cls) (hlt : ∀ k, G k → k < w.heap.size) (hm : s.size ≤ maxLen) :
    Calls Tryz.prog 14 #[.pointer (some ⟨z, 0, none⟩), .agg #[.int .i64 2, .int .i64 a, .int .i64 b, .int .i64 c, .int .i64 d, .string s]] w fun r w' => PlaysPost G z w r w' := by
  obtain ⟨x, y, lim, fr, Fp, Fd, hB, hP, hR, hI⟩ := h.ex
  have hz := blk_lt hB
  have hxl := hlt x hI.gx
  have hyl := hlt y hI.gy
  have k0 : w.cell? ⟨z, 0, none⟩ = some (.pointer (some ⟨x, 0, none⟩)) := blk_cell hB 0
  have k1 : w.cell? ⟨z, 1, none⟩ = some (.pointer (some ⟨y, 0, none⟩)) := blk_cell hB 1
  have k3 : w.cell? ⟨z, 3, none⟩ = some (.string fr) := blk_cell hB 3
  have kf := blk_frozen hB
  have HB : Hid _ := hB
  have HP : Hid _ := hP
  have HR : Hid _ := hR
  have HI : Hid _ := hI
  have Hlt : Hid _ := hlt
  clear hB hP hR hI h hlt
  go_enter Tryz.func14, Tryz.ntmps14
  go_wp2_with fail
  have hkb : Kept (fun k => k = z) w ((w.setCell ⟨z, 3, none⟩ (.string ⟨#[]⟩)).alloc (.cells #[.int .i64 2, .int .i64 a, .int .i64 b, .int .i64 c, .int .i64 d, .string s] 33)) := ((Kept.refl (fun k => k = z) w).setCell (p := ⟨z, 3, none⟩) (.inr rfl) _).alloc _
  have hBb : SsB ((w.setCell ⟨z, 3, none⟩ (.string ⟨#[]⟩)).alloc (.cells #[.int .i64 2, .int .i64 a, .int .i64 b, .int .i64 c, .int .i64 d, .string s] 33)) z x y lim ⟨#[]⟩ := blk_alloc (blk_set HB.out 3 _) _
  have hOb : ((w.setCell ⟨z, 3, none⟩ (.string ⟨#[]⟩)).alloc (.cells #[.int .i64 2, .int .i64 a, .int .i64 b, .int .i64 c, .int .i64 d, .string s] 33)).heap[w.heap.size]? = some (.cells #[.int .i64 2, .int .i64 a, .int .i64 b, .int .i64 c, .int .i64 d, .string s] 33 (0, 0)) := blk_at _ _ _ (by simp [World.setCell])
  have hsb : ((w.setCell ⟨z, 3, none⟩ (.string ⟨#[]⟩)).alloc (.cells #[.int .i64 2, .int .i64 a, .int .i64 b, .int .i64 c, .int .i64 d, .string s] 33)).heap.size = w.heap.size + 1 := by simp [World.setCell]
  generalize (w.setCell ⟨z, 3, none⟩ (.string ⟨#[]⟩)).alloc (.cells #[.int .i64 2, .int .i64 a, .int .i64 b, .int .i64 c, .int .i64 d, .string s] 33) = wb at *
  have hPb : Hid (PsAt Fp wb x cls) := ps_kept HP.out hkb (fun k _ e e2 => by subst e2; rcases e with e | e; exact HI.out.xz e.symm; exact HI.out.pz e)
  have hRb : Hid (RsAt Fd wb y cls) := rs_kept HR.out hkb (fun k _ e e2 => by subst e2; rcases e with e | e; exact HI.out.yz e.symm; exact HI.out.dz e)
  have b0 : wb.cell? ⟨z, 0, none⟩ = some (.pointer (some ⟨x, 0, none⟩)) := blk_cell hBb 0
  have b1 : wb.cell? ⟨z, 1, none⟩ = some (.pointer (some ⟨y, 0, none⟩)) := blk_cell hBb 1
  have b5 : wb.cell? ⟨w.heap.size, 5, none⟩ = some (.string s) := blk_cell hOb 5
  have HBb : Hid _ := hBb
  have HOb : Hid _ := hOb
  clear k0 k1 k3 kf hBb hOb
  go_region_with (go_at_call 15; refine (pconsult_any Fp _ x cls s (by first | exact hPb.out | exact ps_kept hPb.out ((Kept.refl (fun _ => False) wb).drewN _) (fun _ _ _ e => e) | exact ps_kept hPb.out ((Kept.refl (fun _ => False) wb).drew) (fun _ _ _ e => e)) hm (good_read s)).mono ?_; rintro r w1 ⟨rfl, hk1, hP1⟩)
  all_goals
    have hk1' : Kept (fun k => k = x ∨ Fp k) wb w1 := (Kept.drew (Kept.refl _ wb)).trans hk1 (fun _ _ e => e)
    have hs1 := hk1'.size
    have hR1 : Hid (RsAt Fd w1 y cls) := rs_kept hRb.out hk1' (fun k _ e e2 => by
      rcases e with e | e
      · subst e
        rcases e2 with e2 | e2
        · exact HI.out.xy e2.symm
        · exact HI.out.py e2
      · rcases e2 with e2 | e2
        · subst e2; exact HI.out.dx e
        · exact HI.out.pd k e2 e)
    have hB1 : SsB w1 z x y lim ⟨#[]⟩ := (hk1'.block z (by omega) (fun e2 => by
      rcases e2 with e2 | e2
      · exact HI.out.xz e2.symm
      · exact HI.out.pz e2)).trans HBb.out
    have hO1 := (hk1'.block w.heap.size (by omega) (fun e2 => by
      rcases e2 with e2 | e2
      · omega
      · have := Hlt.out _ (HI.out.gp _ e2); omega)).trans HOb.out
    have c1 : w1.cell? ⟨z, 1, none⟩ = some (.pointer (some ⟨y, 0, none⟩)) := blk_cell hB1 1
    have c5 : w1.cell? ⟨w.heap.size, 5, none⟩ = some (.string s) := blk_cell hO1 5
    clear b0 b1 b5 hB1 hO1
    go_wp2_with fail
    go_region_with (go_at_call 26; refine (consult_any Fd _ y cls s (by first | exact hR1.out | exact rs_kept hR1.out ((Kept.refl (fun _ => False) w1).drew) (fun _ _ _ e => e)) hm (fun new e => ⟨(good_read s new e).1, fun x hx => ((good_read s new e).2 x hx).1⟩)).mono ?_; rintro r w2 ⟨rfl, hk2, hR2⟩)
    all_goals
      go_wp2_with fail
      go_ret
      exact ⟨rfl, plays_ok HI.out Hlt.out hkb (by omega) HBb.out hk1' hP1 ((Kept.refl (fun _ => False) w1).drew) hk2 hR2⟩
end Go.Proofs.YthdmbbfaphipkaaGreatDoor
/- The law's step on one session (promptlaw: plays), at Listing. -/
namespace Go.Proofs.YthdmbbfaphipkaaGreatDoor
open Go.RowKit
theorem ss_mono {G G' : Nat → Prop} {w : World} {z : Nat} {cls : List Rf.Cl} (h : SsAt G w z cls) (hG : ∀ k, G k → G' k) : SsAt G' w z cls := by
  obtain ⟨x, y, lim, fr, Fp, Fd, hB, hP, hR, hI⟩ := h.ex
  exact ⟨x, y, lim, fr, Fp, Fd, hB, hP, hR, ⟨hG _ hI.gz, hG _ hI.gx, hG _ hI.gy, fun k e => hG k (hI.gp k e), fun k e => hG k (hI.gd k e), hI.xz, hI.yz, hI.xy, hI.pz, hI.py, hI.dz, hI.dx, hI.pd⟩⟩
theorem plisting_at (F : Nat → Prop) (w : World) (x : Nat) (cls : List Rf.Cl) (h : PsAt F w x cls) (hT : Tab w) :
    Calls Tryz.prog 19 #[.pointer (some ⟨x, 0, none⟩)] w fun r w' => r = .returned (.string (listingP cls)) ∧ Below w.heap.size w w' := by
  obtain ⟨⟨lim, vC, vQ, hB, hC⟩, _⟩ := h
  exact plisting_any F w x lim vC vQ cls hB hC hT
theorem rlisting_at (F : Nat → Prop) (w : World) (y : Nat) (cls : List Rf.Cl) (h : RsAt F w y cls) (hT : Tab w) :
    Calls Tryz.prog 29 #[.pointer (some ⟨y, 0, none⟩)] w fun r w' => r = .returned (.string (listingP cls)) ∧ Below w.heap.size w w' := by
  obtain ⟨⟨vC, lim, live, vN, vG, vT, vH, fr, hB, hC⟩, _⟩ := h
  exact listing_any F w y vC lim live vN vG vT vH fr cls hB hC hT
set_option maxHeartbeats 2000000 in
theorem plays_6 (G : Nat → Prop) (z : Nat) (cls : List Rf.Cl) (a b c d : Int) (s : ByteArray) (w : World) (h : SsAt G w z cls) (hT : Tab w) :
    Calls Tryz.prog 14 #[.pointer (some ⟨z, 0, none⟩), .agg #[.int .i64 6, .int .i64 a, .int .i64 b, .int .i64 c, .int .i64 d, .string s]] w fun r w' => PlaysPost G z w r w' := by
  have HH : Hid _ := h
  obtain ⟨x, y, lim, fr, Fp, Fd, hB, hP, hR, hI⟩ := h.ex
  have hz := blk_lt hB
  have k0 : w.cell? ⟨z, 0, none⟩ = some (.pointer (some ⟨x, 0, none⟩)) := blk_cell hB 0
  have k1 : w.cell? ⟨z, 1, none⟩ = some (.pointer (some ⟨y, 0, none⟩)) := blk_cell hB 1
  have HP : Hid _ := hP
  have HR : Hid _ := hR
  have HT : Hid _ := hT
  clear hB hP hR h hT hI
  go_enter Tryz.func14, Tryz.ntmps14
  go_wp2_with (first
    | (go_at_call 19; refine (plisting_at Fp _ x cls (ps_kept HP.out ((Kept.refl (fun _ => False) w).alloc _) (fun _ _ _ e => e)) (Tab.below HT.out ((Below.refl _ w).alloc (Nat.le_refl _) _))).mono ?_; rintro r w1 ⟨rfl, hb1⟩; have hb01 : Below w.heap.size w w1 := ((Below.refl _ w).alloc (Nat.le_refl _) _).trans (hb1.mono (by simp)); have hc1 : w1.cell? ⟨z, 1, none⟩ = some (.pointer (some ⟨y, 0, none⟩)) := (hb01.cell (p := ⟨z, 1, none⟩) hz).trans k1)
    | (go_at_call 29; refine (rlisting_at Fd _ y cls (rs_kept HR.out (Kept.of_below hb01 (fun _ => False)) (fun _ _ _ e => e)) (Tab.below HT.out hb01)).mono ?_; rintro r w2 ⟨rfl, hb2⟩))
  go_ret
  have hb02 : Below w.heap.size w w2 := hb01.trans (hb2.mono hb01.size)
  have hk : Kept (fun _ => False) w w2 := Kept.of_below hb02 _
  exact ⟨rfl, hk.mono (fun _ _ e => False.elim e), cls, ss_mono (ss_kept HH.out hk (fun _ _ _ e => e)) (fun _ e => .inl e)⟩
end Go.Proofs.YthdmbbfaphipkaaGreatDoor
/- The law's step (promptlaw: step), at the kinds New, Consult, Listing. -/
namespace Go.Proofs.YthdmbbfaphipkaaGreatDoor
open Go.RowKit
theorem wl_kept {base : Nat} {w w' : World} {b : Nat} {L : List Ss} {M : Nat → Prop} (h : WlAt base w b L) (hk : Kept M w w') (hM : ∀ k, base ≤ k → k < w.heap.size → ¬ M k) : WlAt base w' b L := by
  obtain ⟨v, hB, hrow, hv⟩ := h.ex
  have hsz := hk.size
  refine ⟨⟨v, (hk.block b (blk_lt hB) (hM b h.bb (blk_lt hB))).trans hB, hrow.keptBy hk (fun k e => hM k (hv k e).1 (hrow.lt k e).2), hv⟩, h.bb, fun s hs => ?_, h.apart⟩
  obtain ⟨h1, h2⟩ := h.ss s hs
  exact ⟨ss_kept h1 hk (fun k hl e => hM k (h2 k e).1 hl), fun k e => ⟨(h2 k e).1, by have := (h2 k e).2.1; omega, (h2 k e).2.2⟩⟩
theorem wl_size {base : Nat} {w : World} {b : Nat} {L : List Ss} (h : WlAt base w b L) : base ≤ w.heap.size := by
  obtain ⟨v, hB, _⟩ := h.ex
  have := blk_lt hB
  have := h.bb
  omega
theorem made_post {base b : Nat} {L : List Ss} {w wa w' : World} {r : Ending} (hb : Below base w wa) (h : MadePost base b L wa r w') : MadePost base b L w r w' :=
  ⟨h.1, hb.trans h.2.1, h.2.2⟩
set_option maxHeartbeats 1000000 in
theorem lstep_1 (base b : Nat) (L : List Ss) (x1 x2 x3 x4 : Int) (s : ByteArray) (w : World) (hW : WlAt base w b L) (hL : (L.length + 1) * 8 ≤ 140737488355328) :
    Calls Tryz.prog 6 #[.pointer (some ⟨b, 0, none⟩), .agg #[.int .i64 1, .int .i64 x1, .int .i64 x2, .int .i64 x3, .int .i64 x4, .string s]] w fun r w' => MadePost base b L w r w' := by
  have HW : Hid _ := hW
  have hbs := wl_size hW
  clear hW
  go_enter Tryz.func6, Tryz.ntmps6
  go_wp2_with (go_at_call 5; refine (made_any base b L x2 _ (wl_kept HW.out ((Kept.refl (fun _ => False) w).alloc _) (fun _ _ _ e => e)) hL).mono ?_; rintro r w1 hpost; have hr := hpost.1; subst hr)
  go_ret
  exact made_post ((Below.refl base w).alloc hbs _) hpost
/-- What a step of the other kinds needs of its two callees. -/
def NothingAt (kd x1 x2 x3 x4 : Int) (s : ByteArray) : Prop := ∀ w : World, Calls Tryz.prog 10 #[.agg #[.int .i64 kd, .int .i64 x1, .int .i64 x2, .int .i64 x3, .int .i64 x4, .string s]] w fun r w' => r = .returned (.bool true) ∧ Below w.heap.size w w'
def PlaysAt (kd x1 x2 x3 x4 : Int) (s : ByteArray) : Prop := ∀ (G : Nat → Prop) (z : Nat) (cls : List Rf.Cl) (w : World), SsAt G w z cls → (∀ k, G k → k < w.heap.size) → Tab w →
    Calls Tryz.prog 14 #[.pointer (some ⟨z, 0, none⟩), .agg #[.int .i64 kd, .int .i64 x1, .int .i64 x2, .int .i64 x3, .int .i64 x4, .string s]] w fun r w' => PlaysPost G z w r w'
set_option maxHeartbeats 2000000 in
set_option maxRecDepth 100000 in
theorem lstep_26 (kd : Int) (hkd : kd = 2 ∨ kd = 6) (base b : Nat) (L : List Ss) (x1 x2 x3 x4 : Int) (s : ByteArray) (w : World) (hW : WlAt base w b L) (hL : (L.length + 1) * 8 ≤ 140737488355328) (h1 : -9223372036854775808 ≤ x1) (h2 : x1 ≤ 9223372036854775807) (hT : Tab w)
    (hN : NothingAt kd x1 x2 x3 x4 s) (hP : PlaysAt kd x1 x2 x3 x4 s) :
    Calls Tryz.prog 6 #[.pointer (some ⟨b, 0, none⟩), .agg #[.int .i64 kd, .int .i64 x1, .int .i64 x2, .int .i64 x3, .int .i64 x4, .string s]] w fun r w' => MadePost base b L w r w' := by
  obtain ⟨v, hB, hrow, hv⟩ := hW.ex
  obtain ⟨a, c, he⟩ := row_slice hrow
  rw [List.length_map] at he
  subst he
  have hbs := wl_size hW
  have hbl := blk_lt hB
  have k0 : w.cell? ⟨b, 0, none⟩ = some (.slice a L.length c) := blk_cell hB 0
  have HW : Hid _ := hW
  have HN : Hid _ := hN
  have HP : Hid _ := hP
  have HT : Hid _ := hT
  have Hrow : Hid _ := hrow
  have d1 : (kd == 1) = false := by rcases hkd with rfl | rfl <;> rfl
  have d7 : (kd == 7) = false := by rcases hkd with rfl | rfl <;> rfl
  have d8 : (kd == 8) = false := by rcases hkd with rfl | rfl <;> rfl
  have d9 : (kd == 9) = false := by rcases hkd with rfl | rfl <;> rfl
  have d10 : (kd == 10) = false := by rcases hkd with rfl | rfl <;> rfl
  have d11 : (kd == 11) = false := by rcases hkd with rfl | rfl <;> rfl
  have d12 : (kd == 12) = false := by rcases hkd with rfl | rfl <;> rfl
  have hln : (L.length : Int) ≤ 17592186044415 := by omega
  clear hW hN hP hT hB hrow hv hkd
  go_enter Tryz.func6, Tryz.ntmps6
  go_wp2_with fail
  go_quiet ((go_at_call 9; exact Calls.quiet_of_same (pick_any x1 ((L.length : Int) + 1) _ h1 h2 (by omega) (by omega))))
  have hpk := pickP_lt (c := x1) (n := (L.length : Int) + 1) (by omega)
  generalize pickP x1 ((L.length : Int) + 1) = k at *
  have hka : Kept (fun _ => False) w ((w.alloc (.cells #[.int .i64 kd, .int .i64 x1, .int .i64 x2, .int .i64 x3, .int .i64 x4, .string s] 33)).drewN nq) := ((Kept.refl (fun _ => False) w).alloc _).drewN _
  have hba : Below w.heap.size w ((w.alloc (.cells #[.int .i64 kd, .int .i64 x1, .int .i64 x2, .int .i64 x3, .int .i64 x4, .string s] 33)).drewN nq) := ((Below.refl _ w).alloc (Nat.le_refl _) _).drewN _
  have Hka : Hid _ := hka
  have Hba : Hid _ := hba
  clear hka hba
  by_cases hkl : k = L.length
  · subst hkl
    go_wp2_with (go_at_call 10; refine (HN.out _).mono ?_; rintro r w1 ⟨rfl, hb1⟩)
    go_ret
    have hk1 : Kept (fun _ => False) w w1 := Hka.out.trans (Kept.of_below hb1 (fun _ => False)) (fun _ _ e => e)
    exact ⟨rfl, hk1.below hbs (fun _ _ e => e), L, wl_kept HW.out hk1 (fun _ _ _ e => e), by omega⟩
  · have hlt : k < L.length := by omega
    have hne : ((k : Int) == (L.length : Int)) = false := beq_eq_false_iff_ne.2 (by omega)
    have hlt' : (k : Int) < L.length := by omega
    obtain ⟨g, rfl⟩ : ∃ g, a = some ⟨g, 0, none⟩ := by
      rcases Hrow.out.shape with ⟨_, hnil⟩ | ⟨gv, cv, e, _⟩
      · have h7 := congrArg List.length hnil
        rw [List.length_map, List.length_nil] at h7
        omega
      · injection e with e1 _ _; exact ⟨gv, e1⟩
    have hgl : g < w.heap.size := (Hrow.out.lt g rfl).2
    have hcell := Hrow.out.cells ptrC_len k L[k].z (by simp [hlt]) 0 _ rfl
    simp only [Nat.mul_one, Nat.add_zero] at hcell
    have hmem : L[k] ∈ L := List.getElem_mem hlt
    have hi : Hid (L[k]? = some L[k]) := by unfold Hid; simp [hlt]
    generalize L[k] = se at *
    obtain ⟨hss, hG⟩ := HW.out.ss se hmem
    have Hss : Hid _ := ss_kept hss Hka.out (fun _ _ _ e => e)
    have HG : Hid (∀ j, se.G j → j < ((w.alloc (.cells #[.int .i64 kd, .int .i64 x1, .int .i64 x2, .int .i64 x3, .int .i64 x4, .string s] 33)).drewN nq).heap.size) := fun j e => Nat.lt_of_lt_of_le (hG j e).2.1 Hka.out.size
    clear hss hG hmem hkl
    go_wp2_with (go_at_call 14; refine (HP.out se.G se.z se.cls _ Hss.out HG.out (Tab.below HT.out Hba.out)).mono ?_; rintro r w1 ⟨rfl, hk1, cls1, hs1⟩)
    go_ret
    obtain ⟨L', hL1, hL2, hL3⟩ := wl_turn (wl_kept HW.out Hka.out (fun _ _ _ e => e)) hi.out hk1 hs1
    exact ⟨rfl, (Hka.out.below hbs (fun _ _ e => e)).trans hL3, L', hL1, by omega⟩
end Go.Proofs.YthdmbbfaphipkaaGreatDoor
/- A script as the law gets it: a row of steps in memory. -/
namespace Go.Proofs.YthdmbbfaphipkaaGreatDoor
open Go.RowKit
/-- A script's step. -/
structure StepV where
  kd : Int
  a : Int
  b : Int
  c : Int
  d : Int
  s : ByteArray
def stepCells (x : StepV) : List Value := [.int .i64 x.kd, .int .i64 x.a, .int .i64 x.b, .int .i64 x.c, .int .i64 x.d, .string x.s]
def StepOk (x : StepV) : Prop := (-9223372036854775808 ≤ x.a ∧ x.a ≤ 9223372036854775807) ∧ x.s.size ≤ maxLen
/-- The script in memory. -/
def ScrAt (w : World) (v : Value) (l : List StepV) : Prop :=
  (l = [] ∧ ∃ a c, v = .slice a 0 c) ∨
  ∃ sb so c, v = .slice (some ⟨sb, so, none⟩) l.length c ∧ sb < w.heap.size ∧ ∀ i x, l[i]? = some x → ∀ j u, (stepCells x)[j]? = some u → w.cell? ⟨sb, so + i * 6 + j, none⟩ = some u
end Go.Proofs.YthdmbbfaphipkaaGreatDoor
