/- What the program's reader takes from the token at hand (read: word, value). -/
import Derived.Test.YtpdikdnffehmkaaGreatDoorYaq
import Derived.Laws.IdiomStrings
namespace Go.Proofs.YtpdikdnffehmkaaGreatDoor
open Go.RowKit
theorem Pr.text {w : World} {r : Nat} {text : ByteArray} {nb : Option Nat} {t : Rf.Tok} {l : List Rf.Tok} {ns : List ByteArray} (h : Pr w r text nb (t :: l) ns) (h0 : t.k ≠ 0) (h63 : t.k ≠ 63) :
    ∃ K C vN, PrB w r text K t.at_ (t.at_ + t.s.size : Nat) C vN 0 0 ∧ text.size ≤ 400 ∧ t.at_ + t.s.size ≤ text.size ∧ t.at_ < text.size ∧ text.extract t.at_ (t.at_ + t.s.size) = t.s ∧ t = Rf.tokenAt text t.at_ := by
  obtain ⟨K, f, to, C, vN, hB, ht, hr, he, hs, hrow, hnb, hr', h16⟩ := h.toks
  obtain ⟨⟨_, hfit⟩, hlt, htok⟩ := hr h0 h63
  have hto : to = ((t.at_ + t.s.size : Nat) : Int) := by rw [ht.2.2.2 h63]; omega
  have hf : f = t.at_ := ht.2.1
  subst hto; subst hf
  refine ⟨K, C, vN, hB, hs, hfit, hlt, ?_, htok⟩
  have := Rf.tokenAt_text text t.at_ hlt (by rw [← htok]; exact h63)
  rwa [← htok] at this
def cvCap (w : World) (s : ByteArray) : Nat := grownCap w s.size 0 5
def cvObj (w : World) (s : ByteArray) : Obj := .cells (bytesRow s (cvCap w s)) 5 ((bytesRow s (cvCap w s)).size, (bytesRow s (cvCap w s)).size + 1)
theorem cv_there (w : World) (s : ByteArray) : (convert 9 88 (.string s)).run Tryz.prog w = .ok (.slice (some ⟨w.heap.size, 0, none⟩) s.size (cvCap w s)) (w.drew.alloc (cvObj w s)) :=
  run_bytes_of_string w _ _ _ s Tryz.underlying9 Tryz.underlying88 Tryz.underlying5
theorem cv_back (w w0 : World) (s : ByteArray) (N c : Nat) (hN : w.heap[N]? = some (cvObj w0 s)) : (convert 88 9 (.slice (some ⟨N, 0, none⟩) s.size c)).run Tryz.prog w = .ok (.string s) w := by
  have h := run_convert_bytes_back (P := Tryz.prog) w 88 9 5 ⟨N, 0, none⟩ c s.data.toList Tryz.underlying88 Tryz.underlying5 Tryz.underlying9 ?_
  · simpa using h
  · intro j hj
    have hj' : j < s.size := by simpa using hj
    rw [Addr.add_lit, Nat.zero_add]
    unfold cvObj at hN
    simp only [World.cell?, hN]
    show (bytesRow s (cvCap w0 s))[j]? = _
    unfold bytesRow
    rw [Array.getElem?_append_left (by simpa using hj')]
    rw [Array.getElem?_map, Array.getElem?_eq_getElem (by simpa using hj')]
    simp
set_option maxHeartbeats 1000000 in
set_option maxRecDepth 100000 in
theorem word_any (w : World) (r : Nat) (text : ByteArray) (nb : Option Nat) (t : Rf.Tok) (l : List Rf.Tok) (ns : List ByteArray) (h : Pr w r text nb (t :: l) ns) (h0 : t.k ≠ 0) (h63 : t.k ≠ 63) :
    Calls Tryz.prog 152 #[.pointer (some ⟨r, 0, none⟩)] w fun x w' => x = .returned (.string t.s) ∧ Below w.heap.size w w' := by
  obtain ⟨K, C, vN, hB, hs, hfit, hlt, htx, _⟩ := h.text h0 h63
  obtain ⟨q0, q1, q2, q3, q4, q5, q6, q7, qf, ql⟩ := hB.facts
  clear hB h h0 h63
  generalize hb : t.at_ + t.s.size = b at *
  have hab : t.at_ ≤ b := by omega
  clear hb
  generalize t.at_ = a at *
  generalize hX : t.s = X at *
  have HX : Hid _ := htx
  clear htx hX
  have k1 := cv_there
  have hba : (text.extract a b).size = b - a := by rw [ByteArray.size_extract]; omega
  have k2 : ∀ (w w0 : World) (c : Nat), (convert 88 9 (.slice (some ⟨w.heap.size, 0, none⟩) (b - a) c)).run Tryz.prog (w.alloc (cvObj w0 (text.extract a b))).drew.drew = .ok (.string X) (w.alloc (cvObj w0 (text.extract a b))).drew.drew := by
    intro w w0 c
    have := cv_back (w.alloc (cvObj w0 (text.extract a b))).drew.drew w0 (text.extract a b) w.heap.size c (blk_new _ _)
    rw [hba] at this
    rw [this, HX.out]
  clear hba
  go_enter Tryz.func152, Tryz.ntmps152
  go_wp2
  go_region
  all_goals
    go_wp2
    go_ret
    exact ⟨rfl, (by repeat (first | exact Below.refl _ _ | refine Below.setCell ?_ (by simp <;> omega) _ | refine Below.drew ?_ | refine Below.drewN ?_ _ | refine Below.alloc ?_ (by simp <;> omega) _))⟩
set_option maxHeartbeats 1000000 in
theorem value_any (w : World) (r : Nat) (text : ByteArray) (nb : Option Nat) (t : Rf.Tok) (l : List Rf.Tok) (ns : List ByteArray) (h : Pr w r text nb (t :: l) ns) (hk : t.k = 110) :
    Calls Tryz.prog 153 #[.pointer (some ⟨r, 0, none⟩)] w fun x w' => x = .returned (.int .i64 (Rf.numVal t.s)) ∧ Below w.heap.size w w' := by
  obtain ⟨K, C, vN, hB, hs, hfit, hlt, htx, htok⟩ := h.text (by omega) (by omega)
  obtain ⟨q0, q1, q2, q3, q4, q5, q6, q7, qf, ql⟩ := hB.facts
  have hV : Hid (Rf.numVal t.s = Rf.signV (text[t.at_].toNat : Int) (Rf.vOf t.s.data.toList)) := by
    have h9 := Rf.numVal_tok text t.at_ (by rw [← htok]; exact hk)
    rw [← htok] at h9
    unfold Hid
    rw [h9, ← Rf.byteAt_eq text t.at_ hlt]
  have hsz : t.s.size ≤ 10 := (h.ended.fine.1 hk).1
  have hby : ∀ j, (hj : j < t.s.data.toList.length) → ∃ h' : t.at_ + j < text.size, t.s.data.toList[j] = text[t.at_ + j] := by
    intro j hj
    have hj' : j < t.s.size := by simpa using hj
    refine ⟨by omega, ?_⟩
    have := congrArg (fun b : ByteArray => b.data.toList[j]?) htx
    simp only [Rf.extract_list] at this
    rw [List.getElem?_eq_getElem hj, List.getElem?_take, if_pos (by omega), List.getElem?_drop, List.getElem?_eq_getElem (by simp; omega)] at this
    exact (Option.some.inj this).symm
  have hlen : t.s.data.toList.length = t.s.size := by simp
  generalize hL : t.s.data.toList = L at *
  have HB : Hid _ := hby
  clear htx hB h hby htok hL
  go_enter Tryz.func153, Tryz.ntmps153
  go_wp2_with fail
  go_loop [3, 4] (fun v i => ∃ j : Nat, j ≤ t.s.size ∧ i = .int .i64 ((t.at_ : Int) + j) ∧ v = .int .i64 (Rf.vOf (L.take j))) (fun _ i => t.at_ + t.s.size - (intOf i).toNat)
  case atStart => exact ⟨0, by omega, by go_num, rfl⟩
  case round =>
    obtain ⟨j, hj, rfl, rfl⟩ := hrel
    have hbd : Rf.vOf (L.take j) + 1 ≤ 10 ^ 10 := Rf.vOf_bd _ 10 (by simp; omega)
    by_cases hlt2 : j < t.s.size
    · obtain ⟨hx, hc⟩ := HB.out j (by omega)
      have hS : Hid _ := Rf.vOf_succ L j (by omega)
      rw [hc] at hS
      clear hc
      have hdig : Rf.digitB (text[t.at_ + j].toNat : Int) = true → 48 ≤ (text[t.at_ + j].toNat : Int) ∧ (text[t.at_ + j].toNat : Int) ≤ 57 := by unfold Rf.digitB; simp
      have hidx : ((t.at_ : Int) + (j : Int)).toNat = t.at_ + j := by omega
      cases hd : Rf.digitB (text[t.at_ + j].toNat : Int)
      · have hS2 : Hid (Rf.vOf (L.take (j + 1)) = Rf.vOf (L.take j)) := by have := hS.out; unfold Rf.digAdd at this; rw [if_neg (by rw [hd]; decide)] at this; exact this
        go_wp2_with (first | (go_at_call 113; refine (isDigit_any _ _).mono ?_; rintro e w1 ⟨rfl, rfl⟩))
        go_round
        case rel => exact ⟨j + 1, by omega, by go_num, by rw [hS2.out]⟩
        case measure => simp [intOf]; omega
      · have hS2 : Hid (Rf.vOf (L.take (j + 1)) = Rf.vOf (L.take j) * 10 + (text[t.at_ + j].toNat - 48)) := by have := hS.out; unfold Rf.digAdd at this; rw [if_pos hd] at this; exact this
        obtain ⟨hd1, hd2⟩ := hdig hd
        go_wp2_with (first | (go_at_call 113; refine (isDigit_any _ _).mono ?_; rintro e w1 ⟨rfl, rfl⟩))
        go_round
        case rel => exact ⟨j + 1, by omega, by go_num, by rw [hS2.out]; congr 1; omega⟩
        case measure => simp [intOf]; omega
    · have hje : j = t.s.size := by omega
      subst hje
      have hte : L.take t.s.size = L := List.take_of_length_le (by omega)
      cases hneg : ((text[t.at_].toNat : Int) == 45)
      · have hV2 : Hid (Rf.numVal t.s = (Rf.vOf (L.take t.s.size) : Int)) := by rw [hte]; unfold Hid; rw [hV.out]; unfold Rf.signV; rw [if_neg (beq_eq_false_iff_ne.1 hneg)]
        clear hV hte
        go_wp2
        go_quiet (fail)
        go_wp2
        go_ret
        exact ⟨ret_int hV2.out.symm, (by repeat (first | exact Below.refl _ _ | refine Below.setCell ?_ (by simp <;> omega) _ | refine Below.drew ?_ | refine Below.drewN ?_ _ | refine Below.alloc ?_ (by simp <;> omega) _))⟩
      · have hV2 : Hid (Rf.numVal t.s = -(Rf.vOf (L.take t.s.size) : Int)) := by rw [hte]; unfold Hid; rw [hV.out]; unfold Rf.signV; rw [if_pos (eq_of_beq hneg)]
        clear hV hte
        go_wp2
        go_quiet (fail)
        go_wp2
        go_ret
        exact ⟨ret_int hV2.out.symm, (by repeat (first | exact Below.refl _ _ | refine Below.setCell ?_ (by simp <;> omega) _ | refine Below.drew ?_ | refine Below.drewN ?_ _ | refine Below.alloc ?_ (by simp <;> omega) _))⟩
end Go.Proofs.YtpdikdnffehmkaaGreatDoor
/- What the program's reader does at a variable (read: which). -/
namespace Go.Proofs.YtpdikdnffehmkaaGreatDoor
open Go.RowKit
theorem Pr.keptBy {M : Nat → Prop} {w w' : World} {r : Nat} {text : ByteArray} {nb : Option Nat} {l : List Rf.Tok} {ns : List ByteArray} (h : Pr w r text nb l ns) (hk : Kept M w w') (hr : ¬ M r) (hn : ∀ k, nb = some k → ¬ M k) : Pr w' r text nb l ns := by
  obtain ⟨K, f, to, C, vN, hB, hat, he, hs, hrow, hnb, hr', h16⟩ := h.ex
  exact ⟨K, f, to, C, vN, (hk.block r (blk_lt hB) hr).trans hB, hat, he, hs, hrow.keptBy hk (fun k e => hn k (by rw [← hnb, e])), hnb, hr', h16⟩
theorem Pr.below {w w' : World} {r : Nat} {text : ByteArray} {nb : Option Nat} {l : List Rf.Tok} {ns : List ByteArray} (h : Pr w r text nb l ns) (hb : Below w.heap.size w w') : Pr w' r text nb l ns := h.keptBy (Kept.of_below hb (fun _ => False)) (fun x => x) (fun _ _ x => x)
theorem Pr.alloc {w : World} {r : Nat} {text : ByteArray} {nb : Option Nat} {l : List Rf.Tok} {ns : List ByteArray} (h : Pr w r text nb l ns) (o : Obj) : Pr (w.alloc o) r text nb l ns := h.below ((Below.refl _ _).alloc (Nat.le_refl _) _)
theorem Pr.drewN {w : World} {r : Nat} {text : ByteArray} {nb : Option Nat} {l : List Rf.Tok} {ns : List ByteArray} (h : Pr w r text nb l ns) (n : Nat) : Pr (w.drewN n) r text nb l ns := h.below ((Below.refl _ _).drewN n)
theorem Pr.drew {w : World} {r : Nat} {text : ByteArray} {nb : Option Nat} {l : List Rf.Tok} {ns : List ByteArray} (h : Pr w r text nb l ns) : Pr w.drew r text nb l ns := h.below ((Below.refl _ _).drew)
theorem Pr.lt {w : World} {r : Nat} {text : ByteArray} {nb : Option Nat} {l : List Rf.Tok} {ns : List ByteArray} (h : Pr w r text nb l ns) : r < w.heap.size ∧ (∀ k, nb = some k → k < w.heap.size) ∧ nb ≠ some r := by
  obtain ⟨K, f, to, C, vN, hB, hat, he, hs, hrow, hnb, hr', h16⟩ := h.ex
  exact ⟨blk_lt hB, fun k e => (hrow.lt k (by rw [hnb, e])).2, hr'⟩
theorem PrE.keptBy {M : Nat → Prop} {w w' : World} {r : Nat} {E P : Int} (h : PrE w r E P) (hk : Kept M w w') (hr : ¬ M r) : PrE w' r E P := by
  obtain ⟨text, K, f, to, C, a, n, c, hB, hE⟩ := h.ex
  exact ⟨text, K, f, to, C, a, n, c, (hk.block r (blk_lt hB) hr).trans hB, hE⟩
theorem PrE.below {w w' : World} {r : Nat} {E P : Int} (h : PrE w r E P) (hb : Below w.heap.size w w') : PrE w' r E P := h.keptBy (Kept.of_below hb (fun _ => False)) (fun x => x)
theorem row_slice {α : Type} {w : World} {base : Nat} {e : TypeId} {size : Nat} {C : α → List Value} {v : Value} {xs : List α} (h : RowIs w base e size C v xs) : ∃ a c, v = .slice a xs.length c := by
  rcases h.shape with ⟨rfl, rfl⟩ | ⟨g, c, rfl, _⟩
  · exact ⟨_, _, rfl⟩
  · exact ⟨_, _, rfl⟩
theorem PrB.grown {w w' : World} {r : Nat} {text : ByteArray} {K f to C : Int} {vN : Value} {E P : Int} {row : Option Nat} (hg : w.grownBy w' row) (h : PrB w r text K f to C vN E P) (hn : row ≠ some r) : PrB w' r text K f to C vN E P :=
  (hg.block r (blk_lt h) (fun e => hn e.symm)).trans h
/-- What which leaves. -/
def WhichPost (w : World) (r : Nat) (text : ByteArray) (nb : Option Nat) (l : List Rf.Tok) (res : Except (Int × Nat) (Nat × List ByteArray)) (x : Ending) (w' : World) : Prop :=
  Kept (May r nb) w w' ∧
  (match res with
   | .ok (i, ns') => x = .returned (.tuple #[.int .i64 (i : Int), .bool true]) ∧ i < 16 ∧ ∃ nb', Pr w' r text nb' l ns' ∧ Nb w nb nb'
   | .error (e, q) => x = .returned (.tuple #[.int .i64 0, .bool false]) ∧ PrE w' r e q)
set_option maxHeartbeats 1000000 in
set_option maxRecDepth 100000 in
theorem which_any (w : World) (r : Nat) (text : ByteArray) (nb : Option Nat) (t : Rf.Tok) (l : List Rf.Tok) (ns : List ByteArray) (h : Pr w r text nb (t :: l) ns) (hk : t.k = 118) :
    Calls Tryz.prog 117 #[.pointer (some ⟨r, 0, none⟩)] w fun x w' => WhichPost w r text nb (t :: l) (Rf.varS t ns) x w' := by
  have H0 : Hid (t.k ≠ 0) := by unfold Hid; omega
  have H63 : Hid (t.k ≠ 63) := by unfold Hid; omega
  have HK : Hid _ := hk
  have H : Hid _ := h
  clear h hk
  go_enter Tryz.func117, Tryz.ntmps117
  go_wp2_with (go_at_call 152; refine (word_any _ r text nb t l ns H.out H0.out H63.out).mono ?_; rintro e w1 ⟨rfl, hb1⟩; obtain ⟨K, f, to, C, vN, hB, ht, hr, he, hs, hrow, hnb, hr', h16⟩ := (H.out.below hb1).toks; obtain ⟨a, c, rfl⟩ := row_slice hrow; obtain ⟨q0, q1, q2, q3, q4, q5, q6, q7, qf, ql⟩ := hB.facts)
  have hs1 := hb1.size
  have HT : Hid _ := ht
  have HB : Hid _ := hB
  have HE : Hid _ := he
  have HR : Hid _ := hr
  have Hnb : Hid _ := hnb
  clear ht hB he hr hnb
  go_loop [14] (fun i => ∃ k : Nat, i = .int .i64 k ∧ k ≤ ns.length ∧ Hid (∀ j, j < k → Miss t ns j)) (fun i => ns.length - (intOf i).toNat)
  case atStart => exact ⟨0, rfl, by omega, fun j hj => by omega⟩
  case round =>
    obtain ⟨k, rfl, hkl, hM⟩ := hrel
    by_cases hlt : k < ns.length
    · rcases hrow.shape with ⟨_, hnil⟩ | ⟨gn, capn, hsl, _, hgn, hcapn, hcapm⟩
      · rw [hnil] at hlt; simp at hlt
      · obtain ⟨rfl, rfl⟩ : a = some ⟨gn, 0, none⟩ ∧ c = capn := by injection hsl with e1 e2 e3; exact ⟨e1, e3⟩
        clear hsl
        obtain ⟨sk, hsk⟩ : ∃ sk, ns[k]? = some sk := ⟨ns[k], by simp [hlt]⟩
        have hcell := hrow.cells strCells_len k sk hsk 0 _ rfl
        simp only [Nat.mul_one, Nat.add_zero] at hcell
        have Hsk : Hid _ := hsk
        clear hsk
        have hlt' : (k : Int) < ns.length := by omega
        have e1 : (t.s.toList == [95]) = decide (t.s = Rf.under) := by
          rw [← beq_toList t.s Rf.under]; simp [Rf.under, ByteArray.toList_eq]
        have e2 : (sk.toList == t.s.toList) = decide (sk = t.s) := beq_toList sk t.s
        by_cases hs : sk = t.s
        · rw [decide_eq_true hs] at e2
          have Hs : Hid _ := hs
          clear hs
          by_cases hu : t.s = Rf.under
          · rw [decide_eq_true hu] at e1
            have Hu : Hid _ := hu
            clear hu
            go_wp2_with fail
            go_round
            case rel => exact ⟨k + 1, by go_num, by omega, Miss.step hM.out (.inl Hu.out)⟩
            case measure => simp [intOf]; omega
          · rw [decide_eq_false hu] at e1
            have Hu : Hid _ := hu
            clear hu
            go_wp2_with fail
            refine bodyPost_ret (v := .tuple #[.int .i64 k, .bool true]) (by simp [results, Tryz.results117, go_sem]) rfl ?_
            refine ⟨Kept.of_below hb1 _, ?_⟩
            unfold Rf.varS
            rw [look_some Hu.out (by rw [← Hs.out]; exact Hsk.out) hM.out]
            exact ⟨rfl, by omega, nb, H.out.below hb1, .inl rfl⟩
        · rw [decide_eq_false hs] at e2
          have Hs : Hid _ := hs
          clear hs
          go_wp2_with fail
          go_round
          case rel => exact ⟨k + 1, by go_num, by omega, Miss.step hM.out (.inr (by rw [Hsk.out]; exact fun e => Hs.out (Option.some.inj e)))⟩
          case measure => simp [intOf]; omega
    · obtain rfl : k = ns.length := by omega
      have HL : Hid _ := look_none hM.out
      by_cases h16' : ns.length = 16
      · have HV : Hid (Rf.varS t ns = .error (3, t.at_)) := by unfold Hid Rf.varS; rw [HL.out]; simp only []; rw [if_pos h16']
        go_wp2_with (go_at_call 86; refine (refuse_any _ r text nb t l ns 3 (H.out.below hb1) (by decide)).mono ?_; rintro e w2 ⟨rfl, hE2, hK2⟩; have hEx : Rf.errOf t 3 = (3, t.at_) := errOf_no t 3 (beq_eq_false_iff_ne.2 H63.out); rw [hEx] at hE2; clear hEx)
        refine bodyPost_ret (v := .tuple #[.int .i64 0, .bool false]) (by simp [results, Tryz.results117, go_sem]) rfl ?_
        rw [HV.out]
        exact ⟨(Kept.of_below hb1 _).trans hK2 (fun _ _ e => Or.inl e), rfl, hE2⟩
      · have HV : Hid (Rf.varS t ns = .ok (ns.length, ns ++ [t.s])) := by unfold Hid Rf.varS; rw [HL.out]; simp only []; rw [if_neg h16']
        have hne : (Value.slice a ns.length c).ownBlock ≠ some r := by rw [Hnb.out]; exact hr'
        go_wp2_with (at_builtin; refine wpList_app Tryz.elemStr strCells strCells_len strCells_one _ rfl (.tmp 40) (.tmp 42) rfl 0 _ ns rfl (hrow.alloc _) ⟨_, 0, none⟩ 1 t.s rfl (cell_one_at _ _ rfl _ _) (by omega) (Nat.zero_le _) ?_; intro gN capN w3 hrow3 hgr3 hnb3; have hB3 := PrB.grown hgr3 (blk_alloc HB.out _) hne; obtain ⟨z0, z1, z2, z3, z4, z5, z6, z7, zf, zl⟩ := hB3.facts)
        have hgb : gN ≠ r := fun e => hnb3.ne hne (by simp; omega) (by rw [e])
        refine bodyPost_ret (v := .tuple #[.int .i64 (ns.length : Int), .bool true]) (by simp [results, Tryz.results117, go_sem]) rfl ?_
        rw [HV.out]
        refine ⟨?_, rfl, by omega, some gN, ⟨_, _, _, _, _, blk_set hB3 5 _, ⟨t, l, rfl, HT.out, HR.out, fun e => absurd e H0.out⟩, HE.out, hs, hrow3.setCell _ _ (fun e => hgb (Option.some.inj e)), rfl, fun e => hgb (Option.some.inj e), by simp; omega⟩, ?_⟩
        · exact (((Kept.of_below hb1 (May r nb)).alloc _).grown hgr3 (fun k e => Or.inr (Or.inr (e.symm.trans Hnb.out)))).setCell (p := ⟨r, 5, none⟩) (Or.inr (Or.inl rfl)) _
        · have h9 : Nb (w1.alloc (Obj.cells #[Value.string t.s] 9)) (Value.slice a ns.length c).ownBlock (some gN) := hnb3
          rw [Hnb.out] at h9
          exact Nb.trans (.inl rfl) h9 (by simp; omega)
end Go.Proofs.YtpdikdnffehmkaaGreatDoor
/- The program's terms (term.Term) in memory: rows of parts; what reading one leaves. -/
namespace Go
open Go.RowKit
/-- One cell of a row's first element turned. -/
theorem row_setHead {α : Type} {w : World} {base : Nat} {e : TypeId} {size : Nat} {C : α → List Value} {g n cap : Nat} {x x' : α} {xs : List α} (h : RowIs w base e size C (.slice (some ⟨g, 0, none⟩) n cap) (x :: xs)) (j : Nat) (u : Value) (hj : j < (C x).length) (hx : C x' = (C x).set j u) :
    RowIs (w.setCell ⟨g, j, none⟩ u) base e size C (.slice (some ⟨g, 0, none⟩) n cap) (x' :: xs) := by
  obtain ⟨hl, h2⟩ := h.own
  rcases h2 with ⟨h2, _⟩ | ⟨g', cap', cur, e1, h3, h4, h5, h6, h7, h8⟩
  · cases h2
  · obtain ⟨rfl, rfl, rfl⟩ : g = g' ∧ n = (x :: xs).length ∧ cap = cap' := by injection e1 with a1 a2 a3; injection a1 with a1; injection a1 with a1; exact ⟨a1, a2, a3⟩
    refine ⟨?_, .inr ⟨g, cap, cur.setIfInBounds j u, rfl, h3, ?_, h5, h6, by simpa using h7, ?_⟩⟩
    · rw [List.flatMap_cons, List.length_append, hx, List.length_set]
      rw [List.flatMap_cons, List.length_append] at hl
      simpa using hl
    · simp [World.setCell, Array.getElem?_modify, h4]
    · rw [Array.toList_setIfInBounds, List.take_set]
      have hlen : ((x' :: xs).length) = (x :: xs).length := rfl
      rw [hlen, h8, List.flatMap_cons, List.flatMap_cons, List.set_append_left _ _ hj, hx]
/-- A row of one element that was just laid. -/
theorem row_new {α : Type} {w : World} {base : Nat} {e : TypeId} {size : Nat} {C : α → List Value} {x : α} {cs : Array Value} {N : Nat} (hN : w.heap[N]? = some (.cells cs e (0, 0))) (hcs : cs.toList = C x) (hs : (C x).length = size) (hb : base ≤ N) : RowIs w base e size C (.slice (some ⟨N, 0, none⟩) 1 1) [x] := by
  refine ⟨by simp [hs], .inr ⟨N, 1, cs, rfl, hb, hN, by simp, by unfold maxLen; omega, ?_, ?_⟩⟩
  · rw [← Array.length_toList, hcs, hs]; omega
  · rw [hcs, one_flat, List.take_of_length_le (by rw [hs]; simp)]
theorem row_frozen {α : Type} {w : World} {base : Nat} {e : TypeId} {size : Nat} {C : α → List Value} {g n cap : Nat} {xs : List α} (h : RowIs w base e size C (.slice (some ⟨g, 0, none⟩) n cap) xs) (i : Nat) : w.frozen? ⟨g, i, none⟩ = false := by
  obtain ⟨hl, h2⟩ := h.own
  rcases h2 with ⟨h2, _⟩ | ⟨g', cap', cur, e1, h3, h4, h5, h6, h7, h8⟩
  · cases h2
  · obtain rfl : g = g' := by injection e1 with a1 a2 a3; injection a1 with a1; injection a1
    simp [World.frozen?, h4]
theorem row_len {α : Type} {w : World} {base : Nat} {e : TypeId} {size : Nat} {C : α → List Value} {a : Option Addr} {n cap : Nat} {xs : List α} (h : RowIs w base e size C (.slice a n cap) xs) : n = xs.length := by
  rcases h.shape with ⟨h', rfl⟩ | ⟨g, c, h', _⟩
  · injection h'
  · injection h'
theorem wpList_appsN {P : Program} {α : Type} {t e : TypeId} {size bytes : Nat} {z : Value} (hE : ElemOk P t e size bytes z) (C : α → List Value) (hC : ∀ x, (C x).length = size) (h1 : ∀ x, ∀ u ∈ C x, u.oneCell' = true)
    (w : World) {ops : Array Oper} {rest : List Oper} {o : Oper} {a : Act} {Q : Exit → Act → World → Prop} (hgd : o.guard = none) (s x : Operand)
    (ho : o.op = .call { callee := .builtin .append, args := #[s, x], argTypes := #[t, t] }) (base : Nat) (v : Value) (xs : List α) (hs : a.eval s = v) (hown : RowIs w base e size C v xs)
    (g2 n2 c2 : Nat) (ys : List α) (hy : 1 ≤ ys.length) (hx : a.eval x = .slice (some ⟨g2, 0, none⟩) n2 c2) {base2 : Nat} (hys : RowIs w base2 e size C (.slice (some ⟨g2, 0, none⟩) n2 c2) ys)
    (hb : (xs.length + ys.length) * bytes ≤ 140737488355328) (hbase : base ≤ w.heap.size)
    (h : ∀ g n cap w', Hid (n = xs.length + ys.length) → 1 ≤ n → RowIs w' base e size C (.slice (some ⟨g, 0, none⟩) n cap) (xs ++ ys) → w.grownBy w' v.ownBlock → Nb w v.ownBlock (some g) →
      wpList P ops Q rest (a.put o.dst (.slice (some ⟨g, 0, none⟩) n cap)) w') : wpList P ops Q (o :: rest) a w := by
  obtain rfl := row_len hys
  exact wpList_apps hE C hC h1 w hgd s x ho base v xs hs hown ⟨g2, 0, none⟩ c2 ys hy hx (hys.own.cells rfl) hb hbase (fun g cap w' k1 k2 k3 => h g _ cap w' rfl (by omega) k1 k2 k3)
end Go
namespace Rf
theorem termS_pos : ∀ {f : Nat} {l : List Tok} {ns : List ByteArray} {p : List Part} {l1 : List Tok} {ns1 : List ByteArray}, termS f l ns = .ok (p, l1, ns1) → 1 ≤ p.length
  | 0, _, _, _, _, _, e => by simp [termS] at e
  | _ + 1, [], _, _, _, _, e => by simp [termS] at e
  | f + 1, t :: l, ns, p, l1, ns1, e => by
    rw [termS] at e
    split at e
    · unfold varT at e
      split at e
      · cases e
      · simp only [Except.ok.injEq, Prod.mk.injEq] at e; obtain ⟨rfl, _⟩ := e; simp
    · split at e
      · simp only [Except.ok.injEq, Prod.mk.injEq] at e; obtain ⟨rfl, _⟩ := e; simp
      · split at e
        · cases l with
          | nil => cases e
          | cons u l' =>
            simp only [nameS] at e
            split at e
            · cases ha : argsS (termS f) 4 [] l' ns with
              | error x => rw [ha] at e; cases e
              | ok x =>
                rw [ha] at e
                simp only [Except.ok.injEq, Prod.mk.injEq] at e
                obtain ⟨rfl, _⟩ := e
                simp
            · simp only [Except.ok.injEq, Prod.mk.injEq] at e; obtain ⟨rfl, _⟩ := e; simp
        · cases e
theorem kindOf_6 {k : Int} : (kindOf k == 6) = true → k = 41 := by
  unfold kindOf; repeat' split
  all_goals (intro h; first | omega | (simp at h))
theorem kindOf_n6 {k : Int} : (kindOf k == 6) = false → k ≠ 41 := by rintro h rfl; exact absurd h (by decide)
theorem kindOf_7 {k : Int} : (kindOf k != 7) = false → k = 44 := by
  unfold kindOf; repeat' split
  all_goals (intro h; first | omega | (simp at h))
theorem kindOf_n7 {k : Int} : (kindOf k != 7) = true → k ≠ 44 := by rintro h rfl; exact absurd h (by decide)
end Rf
namespace Go.Proofs.YtpdikdnffehmkaaGreatDoor
open Go.RowKit
theorem Pr.len {w : World} {r : Nat} {text : ByteArray} {nb : Option Nat} {l : List Rf.Tok} {ns : List ByteArray} (h : Pr w r text nb l ns) : l.length ≤ 402 := by
  cases l with
  | nil => simp
  | cons t l =>
    obtain ⟨K, f, to, C, vN, hB, ht, hr, he, hs, hrow, hnb, hr', h16⟩ := h.toks
    cases l with
    | nil => simp
    | cons u l =>
      obtain ⟨⟨e, _⟩, _⟩ := hr he.1.1.1 he.1.1.2
      have := Rf.toks_len text (text.size - (t.at_ + t.s.size)) (t.at_ + t.s.size)
      rw [e]
      unfold Rf.rest
      simp
      omega
theorem Pr.n16 {w : World} {r : Nat} {text : ByteArray} {nb : Option Nat} {l : List Rf.Tok} {ns : List ByteArray} (h : Pr w r text nb l ns) : ns.length ≤ 16 := by
  obtain ⟨K, f, to, C, vN, hB, hat, he, hs, hrow, hnb, hr', h16⟩ := h.ex
  exact h16
def partCells (p : Rf.Part) : List Value := [.int .i64 p.kind, .string p.name, .int .i64 p.value, .int .i64 p.args]
theorem partCells_len (s : Rf.Part) : (partCells s).length = 4 := rfl
theorem partCells_one (s : Rf.Part) : ∀ u ∈ partCells s, u.oneCell' = true := by
  intro u hu
  simp only [partCells, List.mem_cons, List.not_mem_nil, or_false] at hu
  rcases hu with rfl | rfl | rfl | rfl <;> rfl
theorem Tryz.elemPart : ElemOk Tryz.prog 83 117 4 40 (.agg #[.int .i64 0, .string ⟨#[]⟩, .int .i64 0, .int .i64 0]) := ⟨Tryz.underlying83, by kernel_rfl, rfl, by decide, by decide⟩
/-- v is a term's row of parts, from block base on. -/
def PTerm (w : World) (base : Nat) (v : Value) (ps : List Rf.Part) : Prop := RowIs w base 117 4 partCells v ps
def PTermPost (w : World) (r : Nat) (text : ByteArray) (nb : Option Nat) (res : Except (Int × Nat) (List Rf.Part × List Rf.Tok × List ByteArray)) (x : Ending) (w' : World) : Prop :=
  Kept (May r nb) w w' ∧
  (match res with
   | .ok (ps, l', ns') => ∃ (g n c : Nat) (nb' : Option Nat), x = .returned (.tuple #[.slice (some ⟨g, 0, none⟩) n c, .bool true]) ∧ Pr w' r text nb' l' ns' ∧ Nb w nb nb' ∧ PTerm w' w.heap.size (.slice (some ⟨g, 0, none⟩) n c) ps ∧ nb' ≠ some g
   | .error (e, q) => x = .returned (.tuple #[.slice none 0 0, .bool false]) ∧ PrE w' r e q)
def PTermIH (f : Nat) : Prop := ∀ (r : Nat) (text : ByteArray) (nb : Option Nat) (l : List Rf.Tok) (ns : List ByteArray) (w : World), Pr w r text nb l ns → l.length ≤ f →
  Calls Tryz.prog 118 #[.pointer (some ⟨r, 0, none⟩)] w fun x w' => PTermPost w r text nb (Rf.termS f l ns) x w'
end Go.Proofs.YtpdikdnffehmkaaGreatDoor
