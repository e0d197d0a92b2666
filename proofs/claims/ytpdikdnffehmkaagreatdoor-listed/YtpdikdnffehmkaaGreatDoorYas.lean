/- What the program's reader does at a name (read: named). -/
import Derived.Test.YtpdikdnffehmkaaGreatDoorYar
namespace Go.Proofs.YtpdikdnffehmkaaGreatDoor
open Go.RowKit
/-- The kind of the token at hand. -/
theorem Pr.kind {w : World} {r : Nat} {text : ByteArray} {nb : Option Nat} {t : Rf.Tok} {l : List Rf.Tok} {ns : List ByteArray} (h : Pr w r text nb (t :: l) ns) : w.cell? ⟨r, 1, none⟩ = some (.int .i64 (Rf.kindOf t.k)) ∧ (∃ s, w.cell? ⟨r, 0, none⟩ = some (.string s)) ∧ r < w.heap.size := by
  obtain ⟨K, f, to, C, vN, hB, ht, _⟩ := h.toks
  obtain ⟨q0, q1, q2, q3, q4, q5, q6, q7, qf, ql⟩ := hB.facts
  rw [← ht.1]
  exact ⟨q1, ⟨_, q0⟩, ql⟩
set_option maxHeartbeats 1000000 in
set_option maxRecDepth 100000 in
theorem named_name (r : Nat) (text : ByteArray) (nb : Option Nat) (t u : Rf.Tok) (l : List Rf.Tok) (ns : List ByteArray) (w : World) (h : Pr w r text nb (t :: u :: l) ns) (hk : t.k = 97) (hu : (Rf.kindOf u.k != 5) = true) :
    Calls Tryz.prog 154 #[.pointer (some ⟨r, 0, none⟩)] w fun x w' => PTermPost w r text nb (.ok ([⟨3, t.s, 0, 0⟩], u :: l, ns)) x w' := by
  have H0 : Hid (t.k ≠ 0) := by unfold Hid; omega
  have H63 : Hid (t.k ≠ 63) := by unfold Hid; omega
  have H : Hid _ := h
  clear h hk
  go_enter Tryz.func154, Tryz.ntmps154
  go_wp2_with (first
    | (go_at_call 152; refine (word_any _ r text nb t (u :: l) ns H.out H0.out H63.out).mono ?_; rintro e w1 ⟨rfl, hb1⟩)
    | (go_at_call 58; refine (step_any _ r text nb t (u :: l) ns ((H.out.below hb1).alloc _) H0.out H63.out).mono ?_; rintro e w2 ⟨rfl, hP2, hK2⟩; obtain ⟨q1, ⟨_, q0⟩, ql⟩ := hP2.kind))
  refine bodyPost_ret (v := .tuple #[.slice (some ⟨w1.heap.size, 0, none⟩) 1 1, .bool true]) (by simp [results, Tryz.results154, go_sem]) rfl ?_
  obtain ⟨hrl, hnl, hnr⟩ := H.out.lt
  have hs1 := hb1.size
  have hN : w2.heap[w1.heap.size]? = some (.cells #[.int .i64 3, .string t.s, .int .i64 0, .int .i64 0] 117 (0, 0)) := (hK2.block w1.heap.size (by simp) (fun e => by omega)).trans (blk_new _ _)
  exact ⟨((Kept.of_below hb1 (May r nb)).alloc _).trans hK2 (fun _ _ e => Or.inl e), _, _, _, nb, rfl, hP2, .inl rfl, row_new hN rfl rfl (by omega), fun e => by have := hnl _ e; omega⟩
/-- The loop's state: the arguments acc are read, u is the parenthesis or the comma at hand. -/
def NamedSt (w : World) (r : Nat) (text : ByteArray) (nb : Option Nat) (s : ByteArray) (f : Nat) (want : Except (Int × Nat) (List (List Rf.Part) × List Rf.Tok × List ByteArray)) (m : Nat) (v : Value) (wr : World) : Prop :=
  Kept (May r nb) w wr ∧ ∃ (k : Nat) (acc : List (List Rf.Part)) (u : Rf.Tok) (l1 : List Rf.Tok) (ns1 : List ByteArray) (nb1 : Option Nat) (g n c : Nat), m = k + 1 ∧ k + 1 + acc.length = 4 ∧ v = .slice (some ⟨g, 0, none⟩) n c ∧ Pr wr r text nb1 (u :: l1) ns1 ∧ (u.k = 40 ∨ u.k = 44) ∧ Nb w nb nb1 ∧ l1.length ≤ f ∧
    PTerm wr w.heap.size (.slice (some ⟨g, 0, none⟩) n c) (⟨3, s, 0, acc.length⟩ :: acc.flatten) ∧ nb1 ≠ some g ∧ Hid (n = acc.flatten.length + 1) ∧ 1 ≤ n ∧ n ≤ 1 + 402 * acc.length ∧ Hid (want = Rf.argsS (Rf.termS f) (k + 1) acc l1 ns1)
theorem PTerm.lt {w : World} {base g n c : Nat} {ps : List Rf.Part} (h : PTerm w base (.slice (some ⟨g, 0, none⟩) n c) ps) : base ≤ g ∧ g < w.heap.size := RowIs.lt h g rfl
theorem PTerm.keptBy {M : Nat → Prop} {w w' : World} {base g n c : Nat} {ps : List Rf.Part} (h : PTerm w base (.slice (some ⟨g, 0, none⟩) n c) ps) (hk : Kept M w w') (hn : ¬ M g) : PTerm w' base (.slice (some ⟨g, 0, none⟩) n c) ps :=
  RowIs.keptBy h hk (fun k e => by cases e; exact hn)
theorem PTerm.over {wr w3 w4 : World} {base r g n c : Nat} {nb1 : Option Nat} {ps : List Rf.Part} (h : PTerm wr base (.slice (some ⟨g, 0, none⟩) n c) ps) (hr : r < base) (hng : nb1 ≠ some g) (h3 : Kept (fun k => k = r) wr w3) (h4 : Kept (May r nb1) w3 w4) : PTerm w4 base (.slice (some ⟨g, 0, none⟩) n c) ps := by
  have := h.lt
  exact (h.keptBy h3 (by omega)).keptBy h4 (fun x => by rcases x with x | x; omega; exact hng x.symm)
theorem kept_grown {w w' : World} {row : Option Nat} (h : w.grownBy w' row) : Kept (fun k => row = some k) w w' := (Kept.refl _ w).grown h (fun _ e => Or.inr e)
/-- What stands behind an append to the parts. -/
theorem push_arg {w4 w5 : World} {base r g n c g5 : Nat} {text : ByteArray} {nb4 : Option Nat} {l : List Rf.Tok} {ns : List ByteArray} {ps : List Rf.Part} (hP : Pr w4 r text nb4 l ns) (hT : PTerm w4 base (.slice (some ⟨g, 0, none⟩) n c) ps) (hr : r < base) (hng : nb4 ≠ some g)
    (hgr : w4.grownBy w5 (Value.slice (some ⟨g, 0, none⟩) n c).ownBlock) (hnb : Nb w4 (Value.slice (some ⟨g, 0, none⟩) n c).ownBlock (some g5)) : ¬ g5 = r ∧ ¬ r = g5 ∧ base ≤ g5 ∧ nb4 ≠ some g5 ∧ Pr w5 r text nb4 l ns := by
  have h1 := hT.lt
  have h2 := hP.lt
  have hg5 : base ≤ g5 ∧ (g5 = g ∨ w4.heap.size ≤ g5) := by
    rcases hnb with e | ⟨k, e, hk⟩
    · have := Option.some.inj e; simp at this; exact ⟨by omega, .inl this⟩
    · have := Option.some.inj e; exact ⟨by omega, .inr (by omega)⟩
  refine ⟨by omega, by omega, hg5.1, fun e => ?_, hP.keptBy (kept_grown hgr) (fun e => ?_) (fun k e x => ?_)⟩
  · rcases hg5.2 with x | x
    · exact hng (by rw [e, x])
    · have := h2.2.1 _ e; omega
  · have := Option.some.inj e; simp at this; omega
  · exact hng (by rw [e]; exact x.symm)
theorem push_row {w5 : World} {base g5 n5 c5 : Nat} {s : ByteArray} {acc : List (List Rf.Part)} {ps : List Rf.Part} (h : RowIs w5 base 117 4 partCells (.slice (some ⟨g5, 0, none⟩) n5 c5) ((⟨3, s, 0, acc.length⟩ :: acc.flatten) ++ ps)) :
    PTerm (w5.setCell ⟨g5, 3, none⟩ (.int .i64 ((acc.length : Int) + 1))) base (.slice (some ⟨g5, 0, none⟩) n5 c5) (⟨3, s, 0, ((acc ++ [ps]).length : Nat)⟩ :: (acc ++ [ps]).flatten) := by
  have e : (acc ++ [ps]).flatten = acc.flatten ++ ps := by simp
  rw [e]
  refine row_setHead (x := ⟨3, s, 0, acc.length⟩) h 3 _ (by simp [partCells]) ?_
  simp [partCells]
theorem Pr.setOther {w : World} {r g i : Nat} {text : ByteArray} {nb : Option Nat} {l : List Rf.Tok} {ns : List ByteArray} (h : Pr w r text nb l ns) (v : Value) (hr : ¬ r = g) (hn : nb ≠ some g) : Pr (w.setCell ⟨g, i, none⟩ v) r text nb l ns :=
  h.keptBy ((Kept.refl (fun k => k = g) w).setCell (p := ⟨g, i, none⟩) (Or.inr rfl) v) hr (fun k e x => hn (by rw [e, x]))
theorem pnameS_err {rd} {t u : Rf.Tok} {l : List Rf.Tok} {ns : List ByteArray} {e : Int × Nat} (hu : u.k = 40) (h : rd l ns = .error e) : Rf.nameS rd t (u :: l) ns = .error e := by simp only [Rf.nameS]; rw [if_pos hu, h]
theorem pnameS_ok {rd} {t u : Rf.Tok} {l : List Rf.Tok} {ns : List ByteArray} {a1 : List (List Rf.Part)} {l2 : List Rf.Tok} {ns2 : List ByteArray} (hu : u.k = 40) (h : rd l ns = .ok (a1, l2, ns2)) : Rf.nameS rd t (u :: l) ns = .ok (⟨3, t.s, 0, a1.length⟩ :: a1.flatten, l2, ns2) := by simp only [Rf.nameS]; rw [if_pos hu, h]
set_option maxHeartbeats 2000000 in
set_option maxRecDepth 100000 in
theorem named_args (f : Nat) (IH : PTermIH f) (r : Nat) (text : ByteArray) (nb : Option Nat) (t u : Rf.Tok) (l : List Rf.Tok) (ns : List ByteArray) (w : World) (h : Pr w r text nb (t :: u :: l) ns) (hk : t.k = 97) (hu : u.k = 40) (hl : l.length ≤ f) :
    Calls Tryz.prog 154 #[.pointer (some ⟨r, 0, none⟩)] w fun x w' => PTermPost w r text nb (Rf.nameS (Rf.argsS (Rf.termS f) 4 []) t (u :: l) ns) x w' := by
  have H0 : Hid (t.k ≠ 0) := by unfold Hid; omega
  have H63 : Hid (t.k ≠ 63) := by unfold Hid; omega
  have HU : Hid _ := hu
  have hu5 : (Rf.kindOf u.k != 5) = false := by rw [hu]; decide
  have H : Hid _ := h
  have HI : Hid _ := IH
  obtain ⟨hrl, hnl, hnr⟩ := h.lt
  clear h hk hu IH
  go_enter Tryz.func154, Tryz.ntmps154
  go_wp2_with (first
    | (go_at_call 152; refine (word_any _ r text nb t (u :: l) ns H.out H0.out H63.out).mono ?_; rintro e w1 ⟨rfl, hb1⟩)
    | (go_at_call 58; refine (step_any _ r text nb t (u :: l) ns ((H.out.below hb1).alloc _) H0.out H63.out).mono ?_; rintro e w2 ⟨rfl, hP2, hK2⟩; obtain ⟨q1, ⟨_, q0⟩, ql⟩ := hP2.kind))
  have hs1 := hb1.size
  have hN : w2.heap[w1.heap.size]? = some (.cells #[.int .i64 3, .string t.s, .int .i64 0, .int .i64 0] 117 (0, 0)) := (hK2.block w1.heap.size (by simp) (fun e => by omega)).trans (blk_new _ _)
  have HN : Hid _ := hN
  clear hN q0 q1
  go_loopg [4] 4 (fun m v wr => NamedSt w r text nb t.s f (Rf.argsS (Rf.termS f) 4 [] l ns) m v wr)
  case atStart => exact ⟨((Kept.of_below hb1 (May r nb)).alloc _).trans hK2 (fun _ _ e => Or.inl e), 3, [], u, l, ns, nb, _, _, _, rfl, rfl, rfl, hP2, .inl HU.out, .inl rfl, hl, row_new HN.out rfl rfl (by omega), fun e => by have := hnl _ e; omega, rfl, by omega, by omega, rfl⟩
  case round =>
    obtain ⟨hKr, k, acc, u1, l1, ns1, nb1, g, n, c, rfl, hk4, rfl, hP, hu1, hNb, hl1, hT, hng, hn, hn1, hn2, hwant⟩ := hrel
    have H10 : Hid (u1.k ≠ 0) := by unfold Hid; omega
    have H163 : Hid (u1.k ≠ 63) := by unfold Hid; omega
    have HT : Hid _ := hT
    have HP : Hid _ := hP
    clear hT hP hu1
    have hrw := hKr.size
    cases hres : Rf.termS f l1 ns1 with
    | error x =>
      obtain ⟨e, q⟩ := x
      have HR : Hid _ := hres
      clear hres
      go_wp2_with (first
        | (go_at_call 58; refine (step_any _ r text nb1 u1 l1 ns1 HP.out H10.out H163.out).mono ?_; rintro e w3 ⟨rfl, hP3, hK3⟩)
        | (go_at_call 118; refine (HI.out r text nb1 l1 ns1 _ hP3 hl1).mono ?_; rintro x w4 ⟨hK4, hm⟩; rw [HR.out] at hm; obtain ⟨rfl, hE4⟩ := hm))
      refine bodyPost_ret (v := .tuple #[.slice none 0 0, .bool false]) (by simp [results, Tryz.results154, go_sem]) rfl ?_
      rw [pnameS_err HU.out (show Rf.argsS (Rf.termS f) 4 [] l ns = .error (e, q) by rw [hwant.out, Rf.argsS, HR.out])]
      exact ⟨(hKr.trans hK3 (fun _ _ e => Or.inl e)).trans hK4 (May.of hNb), rfl, hE4⟩
    | ok x =>
      obtain ⟨ps, l2, ns2⟩ := x
      have HR : Hid _ := hres
      clear hres
      have hgood := Rf.termS_good f l1 ns1 ps l2 ns2 (HP.out.ended.tail H10.out H163.out) HP.out.n16 HR.out
      have hpos := Rf.termS_pos HR.out
      have hlen := HP.out.len
      obtain ⟨_, _, hsum, hen2⟩ := hgood
      have HS : Hid _ := hsum
      have hps : ps.length ≤ 402 := by simp at hlen; omega
      clear hsum hlen
      cases l2 with
      | nil => exact absurd rfl hen2.ne
      | cons u2 l3 =>
        have hl3 : l3.length ≤ f := by have := HS.out; simp at this; omega
        have Hen : Hid _ := hen2
        clear hen2
        have hcar : (acc.length : Int) ≤ 3 := by omega
        have HNb4 : ∀ w3 nb4, Nb w3 nb1 nb4 → wr.heap.size ≤ w3.heap.size → Nb w nb nb4 := fun w3 nb4 h1 h2 => Nb.trans hNb h1 (by omega)
        cases c6 : (Rf.kindOf u2.k == 6)
        · have Hn41 : Hid (u2.k ≠ 41) := Rf.kindOf_n6 c6
          cases c7 : (Rf.kindOf u2.k != 7)
          · have H44 : Hid (u2.k = 44) := Rf.kindOf_7 c7
            by_cases hk0 : k = 0
            · subst hk0
              have hcar4 : (acc.length : Int) + 1 = 4 := by omega
              have HW : Hid (Rf.argsS (Rf.termS f) 4 [] l ns = .error (3, u2.at_)) := by
                unfold Hid; rw [hwant.out, Rf.argsS, HR.out]; simp only []; rw [if_pos H44.out, if_pos (by omega)]
              have HX : Hid (Rf.errOf u2 3 = (3, u2.at_)) := errOf_no u2 3 (by rw [H44.out]; decide)
              go_wp2_with (first
              | (go_at_call 58; refine (step_any _ r text nb1 u1 l1 ns1 HP.out H10.out H163.out).mono ?_; rintro e w3 ⟨rfl, hP3, hK3⟩)
              | (go_at_call 118; refine (HI.out r text nb1 l1 ns1 _ hP3 hl1).mono ?_; rintro x w4 ⟨hK4, hm⟩; rw [HR.out] at hm; obtain ⟨g4, n4, c4, nb4, rfl, hP4, hNb4, hT4, hng4⟩ := hm; have hs3 := hK3.size; have hs4 := hK4.size; have hgl := PTerm.lt HT.out; have hT34 := PTerm.over HT.out hrl hng hK3 hK4)
              | (at_builtin; refine wpList_appsN Tryz.elemPart partCells partCells_len partCells_one _ rfl (.tmp 29) (.tmp 30) rfl w.heap.size _ (⟨3, t.s, 0, acc.length⟩ :: acc.flatten) rfl hT34 g4 n4 c4 ps hpos rfl hT4 ?_ ?_ ?_; have := hn.out; simp only [List.length_cons]; omega; omega; intro g5 n5 c5 w5 hn5 hn51 hrow5 hgr5 hnb5; obtain ⟨hg5r, hrg5, hg5b, hg5n, hP5⟩ := push_arg hP4 hT34 hrl (hNb4.ne hng (by omega)) hgr5 hnb5; obtain ⟨k1, ⟨_, k0⟩, kl⟩ := hP5.kind; have a3 := RowIs.cells partCells_len hrow5 0 _ rfl 3 _ rfl; have af := row_frozen hrow5; have hg5l := (RowIs.lt hrow5 g5 rfl).2; have hR5 : Hid _ := push_row hrow5; clear hrow5)
              | (go_at_call 86; refine (refuse_any _ r text nb4 u2 l3 ns2 3 (hP5.setOther _ hrg5 hg5n) (by decide)).mono ?_; rintro e w7 ⟨rfl, hE7, hK7⟩; rw [HX.out] at hE7))
              refine bodyPost_ret (v := .tuple #[.slice none 0 0, .bool false]) (by simp [results, Tryz.results154, go_sem]) rfl ?_
              rw [pnameS_err HU.out HW.out]
              exact ⟨(((((hKr.trans hK3 (fun _ _ e => Or.inl e)).trans hK4 (May.of hNb)).grown hgr5 (fun k e => Or.inl (by have := Option.some.inj e; simp at this; omega))).setCell (p := ⟨g5, 3, none⟩) (Or.inl hg5b) _)).trans hK7 (fun _ _ e => Or.inl e), rfl, hE7⟩
            · have hcar4 : (acc.length : Int) + 1 < 4 := by omega
              have HW : Hid (Rf.argsS (Rf.termS f) 4 [] l ns = Rf.argsS (Rf.termS f) k (acc ++ [ps]) l3 ns2) := by
                unfold Hid; rw [hwant.out, Rf.argsS, HR.out]; simp only []; rw [if_pos H44.out, if_neg (by omega)]
              go_wp2_with (first
              | (go_at_call 58; refine (step_any _ r text nb1 u1 l1 ns1 HP.out H10.out H163.out).mono ?_; rintro e w3 ⟨rfl, hP3, hK3⟩)
              | (go_at_call 118; refine (HI.out r text nb1 l1 ns1 _ hP3 hl1).mono ?_; rintro x w4 ⟨hK4, hm⟩; rw [HR.out] at hm; obtain ⟨g4, n4, c4, nb4, rfl, hP4, hNb4, hT4, hng4⟩ := hm; have hs3 := hK3.size; have hs4 := hK4.size; have hgl := PTerm.lt HT.out; have hT34 := PTerm.over HT.out hrl hng hK3 hK4)
              | (at_builtin; refine wpList_appsN Tryz.elemPart partCells partCells_len partCells_one _ rfl (.tmp 29) (.tmp 30) rfl w.heap.size _ (⟨3, t.s, 0, acc.length⟩ :: acc.flatten) rfl hT34 g4 n4 c4 ps hpos rfl hT4 ?_ ?_ ?_; have := hn.out; simp only [List.length_cons]; omega; omega; intro g5 n5 c5 w5 hn5 hn51 hrow5 hgr5 hnb5; obtain ⟨hg5r, hrg5, hg5b, hg5n, hP5⟩ := push_arg hP4 hT34 hrl (hNb4.ne hng (by omega)) hgr5 hnb5; obtain ⟨k1, ⟨_, k0⟩, kl⟩ := hP5.kind; have a3 := RowIs.cells partCells_len hrow5 0 _ rfl 3 _ rfl; have af := row_frozen hrow5; have hg5l := (RowIs.lt hrow5 g5 rfl).2; have hR5 : Hid _ := push_row hrow5; clear hrow5))
              go_roundg k
              case measure => omega
              case rel =>
                have hn9 := hn.out
                have hn5' := hn5.out
                simp only [List.length_cons] at hn5'
                refine ⟨(((((hKr.trans hK3 (fun _ _ e => Or.inl e)).trans hK4 (May.of hNb)).grown hgr5 (fun k e => Or.inl (by have := Option.some.inj e; simp at this; omega))).setCell (p := ⟨g5, 3, none⟩) (Or.inl hg5b) _)), k - 1, acc ++ [ps], u2, l3, ns2, nb4, g5, n5, c5, by omega, by simp; omega, rfl, hP5.setOther _ hrg5 hg5n, .inr H44.out, HNb4 _ _ hNb4 hs3, hl3, hR5.out, hg5n, ?_, by omega, ?_, ?_⟩
                · show n5 = (acc ++ [ps]).flatten.length + 1
                  rw [List.flatten_append, List.length_append]; simp only [List.flatten_cons, List.flatten_nil, List.append_nil]; omega
                · rw [List.length_append]; simp only [List.length_cons, List.length_nil]; omega
                · show _ = Rf.argsS (Rf.termS f) (k - 1 + 1) (acc ++ [ps]) l3 ns2
                  rw [show k - 1 + 1 = k by omega]; exact HW.out
          · have H44 : Hid (u2.k ≠ 44) := Rf.kindOf_n7 c7
            have HW : Hid (Rf.argsS (Rf.termS f) 4 [] l ns = .error (Rf.errOf u2 2)) := by
              unfold Hid; rw [hwant.out, Rf.argsS, HR.out]; simp only []; rw [if_neg H44.out, if_neg Hn41.out]
            go_wp2_with (first
              | (go_at_call 58; refine (step_any _ r text nb1 u1 l1 ns1 HP.out H10.out H163.out).mono ?_; rintro e w3 ⟨rfl, hP3, hK3⟩)
              | (go_at_call 118; refine (HI.out r text nb1 l1 ns1 _ hP3 hl1).mono ?_; rintro x w4 ⟨hK4, hm⟩; rw [HR.out] at hm; obtain ⟨g4, n4, c4, nb4, rfl, hP4, hNb4, hT4, hng4⟩ := hm; have hs3 := hK3.size; have hs4 := hK4.size; have hgl := PTerm.lt HT.out; have hT34 := PTerm.over HT.out hrl hng hK3 hK4)
              | (at_builtin; refine wpList_appsN Tryz.elemPart partCells partCells_len partCells_one _ rfl (.tmp 29) (.tmp 30) rfl w.heap.size _ (⟨3, t.s, 0, acc.length⟩ :: acc.flatten) rfl hT34 g4 n4 c4 ps hpos rfl hT4 ?_ ?_ ?_; have := hn.out; simp only [List.length_cons]; omega; omega; intro g5 n5 c5 w5 hn5 hn51 hrow5 hgr5 hnb5; obtain ⟨hg5r, hrg5, hg5b, hg5n, hP5⟩ := push_arg hP4 hT34 hrl (hNb4.ne hng (by omega)) hgr5 hnb5; obtain ⟨k1, ⟨_, k0⟩, kl⟩ := hP5.kind; have a3 := RowIs.cells partCells_len hrow5 0 _ rfl 3 _ rfl; have af := row_frozen hrow5; have hg5l := (RowIs.lt hrow5 g5 rfl).2; have hR5 : Hid _ := push_row hrow5; clear hrow5)
              | (go_at_call 86; refine (refuse_any _ r text nb4 u2 l3 ns2 2 (hP5.setOther _ hrg5 hg5n) (by decide)).mono ?_; rintro e w7 ⟨rfl, hE7, hK7⟩))
            refine bodyPost_ret (v := .tuple #[.slice none 0 0, .bool false]) (by simp [results, Tryz.results154, go_sem]) rfl ?_
            rw [pnameS_err HU.out HW.out]
            exact ⟨(((((hKr.trans hK3 (fun _ _ e => Or.inl e)).trans hK4 (May.of hNb)).grown hgr5 (fun k e => Or.inl (by have := Option.some.inj e; simp at this; omega))).setCell (p := ⟨g5, 3, none⟩) (Or.inl hg5b) _)).trans hK7 (fun _ _ e => Or.inl e), rfl, hE7⟩
        · have H41 : Hid (u2.k = 41) := Rf.kindOf_6 c6
          have H20 : Hid (u2.k ≠ 0) := by unfold Hid; rw [H41.out]; decide
          have H263 : Hid (u2.k ≠ 63) := by unfold Hid; rw [H41.out]; decide
          have HW : Hid (Rf.argsS (Rf.termS f) 4 [] l ns = .ok (acc ++ [ps], l3, ns2)) := by
            unfold Hid; rw [hwant.out, Rf.argsS, HR.out]; simp only []; rw [if_neg (by rw [H41.out]; decide), if_pos H41.out]
          go_wp2_with (first
              | (go_at_call 58; refine (step_any _ r text nb1 u1 l1 ns1 HP.out H10.out H163.out).mono ?_; rintro e w3 ⟨rfl, hP3, hK3⟩)
              | (go_at_call 118; refine (HI.out r text nb1 l1 ns1 _ hP3 hl1).mono ?_; rintro x w4 ⟨hK4, hm⟩; rw [HR.out] at hm; obtain ⟨g4, n4, c4, nb4, rfl, hP4, hNb4, hT4, hng4⟩ := hm; have hs3 := hK3.size; have hs4 := hK4.size; have hgl := PTerm.lt HT.out; have hT34 := PTerm.over HT.out hrl hng hK3 hK4)
              | (at_builtin; refine wpList_appsN Tryz.elemPart partCells partCells_len partCells_one _ rfl (.tmp 29) (.tmp 30) rfl w.heap.size _ (⟨3, t.s, 0, acc.length⟩ :: acc.flatten) rfl hT34 g4 n4 c4 ps hpos rfl hT4 ?_ ?_ ?_; have := hn.out; simp only [List.length_cons]; omega; omega; intro g5 n5 c5 w5 hn5 hn51 hrow5 hgr5 hnb5; obtain ⟨hg5r, hrg5, hg5b, hg5n, hP5⟩ := push_arg hP4 hT34 hrl (hNb4.ne hng (by omega)) hgr5 hnb5; obtain ⟨k1, ⟨_, k0⟩, kl⟩ := hP5.kind; have a3 := RowIs.cells partCells_len hrow5 0 _ rfl 3 _ rfl; have af := row_frozen hrow5; have hg5l := (RowIs.lt hrow5 g5 rfl).2; have hR5 : Hid _ := push_row hrow5; clear hrow5)
              | (go_at_call 58; refine (step_any _ r text nb4 u2 l3 ns2 (hP5.setOther _ hrg5 hg5n) H20.out H263.out).mono ?_; rintro e w7 ⟨rfl, hP7, hK7⟩))
          refine bodyPost_ret (v := .tuple #[.slice (some ⟨g5, 0, none⟩) n5 c5, .bool true]) (by simp [results, Tryz.results154, go_sem]) rfl ?_
          rw [pnameS_ok HU.out HW.out]
          exact ⟨(((((hKr.trans hK3 (fun _ _ e => Or.inl e)).trans hK4 (May.of hNb)).grown hgr5 (fun k e => Or.inl (by have := Option.some.inj e; simp at this; omega))).setCell (p := ⟨g5, 3, none⟩) (Or.inl hg5b) _)).trans hK7 (fun _ _ e => Or.inl e), g5, n5, c5, nb4, rfl, hP7, HNb4 _ _ hNb4 hs3, PTerm.keptBy hR5.out hK7 hg5r, hg5n⟩
end Go.Proofs.YtpdikdnffehmkaaGreatDoor
/- What the program's reader does at a term (read: term): it reads just what the plain function reads. -/
namespace Rf
theorem kindOf_is3 {k : Int} (h : (k == 118) = false) : (kindOf k == 3) = false := by
  rw [beq_eq_false_iff_ne] at *
  unfold kindOf; repeat' split
  all_goals omega
theorem kindOf_is4 {k : Int} (h : (k == 110) = false) : (kindOf k == 4) = false := by
  rw [beq_eq_false_iff_ne] at *
  unfold kindOf; repeat' split
  all_goals omega
theorem kindOf_is2 {k : Int} (h : (k == 97) = false) : (kindOf k == 2) = false := by
  rw [beq_eq_false_iff_ne] at *
  unfold kindOf; repeat' split
  all_goals omega
theorem kindOf_is5 {k : Int} (h : k ≠ 40) : (kindOf k != 5) = true := by
  rw [bne_iff_ne]
  unfold kindOf; repeat' split
  all_goals omega
end Rf
namespace Go.Proofs.YtpdikdnffehmkaaGreatDoor
open Go.RowKit
theorem PTermPost.lift {w wa w' : World} {r : Nat} {text : ByteArray} {nb : Option Nat} {res : Except (Int × Nat) (List Rf.Part × List Rf.Tok × List ByteArray)} {x : Ending} (h : PTermPost wa r text nb res x w') (hk : Kept (May r nb) w wa) : PTermPost w r text nb res x w' := by
  obtain ⟨h3, h4⟩ := h
  have hs := hk.size
  refine ⟨hk.trans h3 (fun _ _ x => x), ?_⟩
  cases res with
  | error x => exact h4
  | ok x =>
    obtain ⟨g, n, c, nb', a0, a1, a2, a3, a4⟩ := h4
    exact ⟨g, n, c, nb', a0, a1, Nb.trans (.inl rfl) a2 hs, ⟨ownsRow_base a3.own (fun k e => by have := (RowIs.lt a3 k e).1; omega)⟩, a4⟩
theorem PTermPost.tuple {w w' : World} {r : Nat} {text : ByteArray} {nb : Option Nat} {res : Except (Int × Nat) (List Rf.Part × List Rf.Tok × List ByteArray)} {x : Ending} (h : PTermPost w r text nb res x w') : ∃ a n c b, x = .returned (.tuple #[.slice a n c, .bool b]) := by
  obtain ⟨_, h⟩ := h
  cases res with
  | error x => exact ⟨_, _, _, _, h.1⟩
  | ok x => obtain ⟨g, n, c, nb', a0, _⟩ := h; exact ⟨_, _, _, _, a0⟩
set_option maxHeartbeats 1000000 in
set_option maxRecDepth 100000 in
theorem pterm_step (f : Nat) (IH : PTermIH f) : PTermIH (f + 1) := by
  intro r text nb l0 ns w h hl0
  obtain ⟨t, l, rfl⟩ : ∃ t l, l0 = t :: l := by
    cases l0 with
    | nil => exact absurd rfl h.ended.ne
    | cons t l => exact ⟨t, l, rfl⟩
  have hl : l.length ≤ f := by simp at hl0; omega
  have H : Hid _ := h
  have HI : Hid _ := IH
  obtain ⟨hrl, hnl, hnr⟩ := h.lt
  obtain ⟨q1, ⟨_, q0⟩, ql⟩ := h.kind
  clear h IH hl0
  cases c118 : (t.k == 118)
  · cases c110 : (t.k == 110)
    · cases c97 : (t.k == 97)
      · have hS : Hid (Rf.termS (f + 1) (t :: l) ns = .error (Rf.errOf t 2)) := by
          unfold Hid; rw [Rf.termS, if_neg (beq_eq_false_iff_ne.1 c118), if_neg (beq_eq_false_iff_ne.1 c110), if_neg (beq_eq_false_iff_ne.1 c97)]
        have k3 := Rf.kindOf_is3 c118
        have k4 := Rf.kindOf_is4 c110
        have k2 := Rf.kindOf_is2 c97
        go_enter Tryz.func118, Tryz.ntmps118
        go_wp2_with (go_at_call 86; refine (refuse_any _ r text nb t l ns 2 H.out (by decide)).mono ?_; rintro e w7 ⟨rfl, hE7, hK7⟩)
        refine bodyPost_ret (v := .tuple #[.slice none 0 0, .bool false]) (by simp [results, Tryz.results118, go_sem]) rfl ?_
        rw [hS.out]
        exact ⟨hK7.mono (fun _ _ e => Or.inl e), rfl, hE7⟩
      · have e97 : t.k = 97 := eq_of_beq c97
        have hS : Hid (Rf.termS (f + 1) (t :: l) ns = Rf.nameS (Rf.argsS (Rf.termS f) 4 []) t l ns) := by
          unfold Hid; rw [Rf.termS, if_neg (beq_eq_false_iff_ne.1 c118), if_neg (beq_eq_false_iff_ne.1 c110), if_pos e97]
        have hen := H.out.ended.tail (by omega) (by omega)
        have hq : Rf.kindOf t.k = 2 := by rw [e97]; rfl
        rw [hq] at q1
        have H97 : Hid _ := e97
        clear e97 hq c97 c110 c118
        cases l with
        | nil => exact absurd rfl hen.ne
        | cons u l' =>
          clear hen
          have hl' : l'.length ≤ f := by simp at hl; omega
          by_cases hu : u.k = 40
          · go_enter Tryz.func118, Tryz.ntmps118
            go_wp2_with (go_at_call 154; refine (named_args f HI.out r text nb t u l' ns _ H.out H97.out hu hl').mono ?_; intro x w2 hP; obtain ⟨a, n, c, b, rfl⟩ := hP.tuple)
            refine bodyPost_ret (v := .tuple #[.slice a n c, .bool b]) (by simp [results, Tryz.results118, go_sem]) rfl ?_
            rw [hS.out]
            exact hP
          · have hn : Hid (Rf.nameS (Rf.argsS (Rf.termS f) 4 []) t (u :: l') ns = .ok ([⟨3, t.s, 0, 0⟩], u :: l', ns)) := by
              unfold Hid; simp only [Rf.nameS]; rw [if_neg hu]
            have hu5 := Rf.kindOf_is5 hu
            go_enter Tryz.func118, Tryz.ntmps118
            go_wp2_with (go_at_call 154; refine (named_name r text nb t u l' ns _ H.out H97.out hu5).mono ?_; intro x w2 hP; obtain ⟨a, n, c, b, rfl⟩ := hP.tuple)
            refine bodyPost_ret (v := .tuple #[.slice a n c, .bool b]) (by simp [results, Tryz.results118, go_sem]) rfl ?_
            rw [hS.out, hn.out]
            exact hP
    · have e110 : t.k = 110 := eq_of_beq c110
      have H0 : Hid (t.k ≠ 0) := by unfold Hid; omega
      have H63 : Hid (t.k ≠ 63) := by unfold Hid; omega
      have hS : Hid (Rf.termS (f + 1) (t :: l) ns = .ok ([⟨2, ⟨#[]⟩, Rf.numVal t.s, 0⟩], l, ns)) := by
        unfold Hid; rw [Rf.termS, if_neg (beq_eq_false_iff_ne.1 c118), if_pos e110]
      have hq : Rf.kindOf t.k = 4 := by rw [e110]; rfl
      rw [hq] at q1
      have H110 : Hid _ := e110
      clear e110 hq c110 c118
      go_enter Tryz.func118, Tryz.ntmps118
      go_wp2_with (first
        | (go_at_call 153; refine (value_any _ r text nb t l ns H.out H110.out).mono ?_; rintro x w1 ⟨rfl, hb1⟩)
        | (go_at_call 58; refine (step_any _ r text nb t l ns (H.out.below hb1) H0.out H63.out).mono ?_; rintro e w2 ⟨rfl, hP2, hK2⟩))
      refine bodyPost_ret (v := .tuple #[.slice (some ⟨w2.heap.size, 0, none⟩) 1 1, .bool true]) (by simp [results, Tryz.results118, go_sem]) rfl ?_
      rw [hS.out]
      have hs1 := hb1.size
      have hs2 := hK2.size
      exact ⟨((Kept.of_below hb1 (May r nb)).trans hK2 (fun _ _ e => Or.inl e)).alloc _, _, _, _, nb, rfl, hP2.alloc _, .inl rfl, row_new (blk_new _ _) rfl rfl (by omega), fun e => by have := hnl _ e; omega⟩
  · have e118 : t.k = 118 := eq_of_beq c118
    have H0 : Hid (t.k ≠ 0) := by unfold Hid; omega
    have H63 : Hid (t.k ≠ 63) := by unfold Hid; omega
    have hS : Hid (Rf.termS (f + 1) (t :: l) ns = Rf.varT t l ns) := by
      unfold Hid; rw [Rf.termS, if_pos e118]
    have hq : Rf.kindOf t.k = 3 := by rw [e118]; rfl
    rw [hq] at q1
    have H118 : Hid _ := e118
    clear e118 hq c118
    cases hv : Rf.varS t ns with
    | error x =>
      obtain ⟨e, q⟩ := x
      have HV : Hid _ := hv
      clear hv
      have hT : Hid (Rf.varT t l ns = .error (e, q)) := by unfold Hid Rf.varT; rw [HV.out]
      go_enter Tryz.func118, Tryz.ntmps118
      go_wp2_with (go_at_call 117; refine (which_any _ r text nb t l ns H.out H118.out).mono ?_; rintro x w1 ⟨hK1, hm⟩; rw [HV.out] at hm; obtain ⟨rfl, hE1⟩ := hm)
      refine bodyPost_ret (v := .tuple #[.slice none 0 0, .bool false]) (by simp [results, Tryz.results118, go_sem]) rfl ?_
      rw [hS.out, hT.out]
      exact ⟨hK1, rfl, hE1⟩
    | ok x =>
      obtain ⟨i, ns'⟩ := x
      have HV : Hid _ := hv
      clear hv
      have hT : Hid (Rf.varT t l ns = .ok ([⟨1, ⟨#[]⟩, i, 0⟩], l, ns')) := by unfold Hid Rf.varT; rw [HV.out]
      go_enter Tryz.func118, Tryz.ntmps118
      go_wp2_with (first
        | (go_at_call 117; refine (which_any _ r text nb t l ns H.out H118.out).mono ?_; rintro x w1 ⟨hK1, hm⟩; rw [HV.out] at hm; obtain ⟨rfl, hi16, nb1, hP1, hNb1⟩ := hm)
        | (go_at_call 58; refine (step_any _ r text nb1 t l ns' hP1 H0.out H63.out).mono ?_; rintro e w2 ⟨rfl, hP2, hK2⟩))
      refine bodyPost_ret (v := .tuple #[.slice (some ⟨w2.heap.size, 0, none⟩) 1 1, .bool true]) (by simp [results, Tryz.results118, go_sem]) rfl ?_
      rw [hS.out, hT.out]
      have hs1 := hK1.size
      have hs2 := hK2.size
      exact ⟨(hK1.trans hK2 (fun _ _ e => Or.inl e)).alloc _, _, _, _, nb1, rfl, hP2.alloc _, hNb1, row_new (blk_new _ _) rfl rfl (by omega), fun e => by have := hP2.lt.2.1 _ e; omega⟩
theorem pterm_any : ∀ f, PTermIH f
  | 0 => fun r text nb l ns w h hl => absurd (List.eq_nil_of_length_eq_zero (by omega)) h.ended.ne
  | f + 1 => pterm_step f (pterm_any f)
end Go.Proofs.YtpdikdnffehmkaaGreatDoor
