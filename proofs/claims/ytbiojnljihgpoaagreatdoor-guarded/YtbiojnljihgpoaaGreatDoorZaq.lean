
import Derived.Test.YtbiojnljihgpoaaGreatDoorZap
namespace Rf
theorem kind_2 {k : Int} (h : kindOf k = 2) : k = 97 := by
 unfold kindOf at h
 split at h
 ·omega
 split at h
 ·omega
 split at h
 ·assumption
 exfalso
 (repeat' split at h) <;> omega
theorem kind_3 {k : Int} (h : kindOf k = 3) : k = 118 := by
 unfold kindOf at h
 split at h
 ·omega
 split at h
 ·omega
 split at h
 ·omega
 split at h
 ·assumption
 exfalso
 (repeat' split at h) <;> omega
theorem kind_eq {k q : Int} (hq : q = 97 \/ q = 118) (h : kindOf k = kindOf q) : k = q := by
 rcases hq with rfl | rfl
 ·exact kind_2 h
 ·exact kind_3 h
theorem tok_no {s : ByteArray} {q : Int} (h : (nextTok s 0).k ≠ q) : isTokB s q = false := decide_eq_false (fun e => h e.1)
theorem tok_at {s : ByteArray} {q : Int} (h : ¬ (nextTok s 0).at_ = 0) : isTokB s q = false := decide_eq_false (fun e => h e.2.1)
end Rf
namespace Go.Proofs.YtbiojnljihgpoaaGreatDoor
open Go.RowKit
theorem tok_is {s : ByteArray} {q K f z C : Int} (hq : q = 97 \/ q = 118) (h : Rf.TokIs (Rf.nextTok s 0) K f z C) (hK : K = Rf.kindOf q) (hf : f = 0) : decide (z = (s.size : Int)) = Rf.isTokB s q := by
 obtain ⟨h1, h2, _, h4⟩ := h
 have hk : (Rf.nextTok s 0).k = q := Rf.kind_eq hq (h1.symm.trans hK)
 have h5 := h4 (by rw [hk]; rcases hq with rfl | rfl <;> decide)
 have h6 : (Rf.nextTok s 0).at_ = 0 := by rw [hf] at h2; omega
 unfold Rf.isTokB
 rw [hk, h6]
 by_cases hs : (Rf.nextTok s 0).s.size = s.size
 ·rw [decide_eq_true (by rw [h5, h6, hs]; simp), decide_eq_true ⟨rfl, rfl, hs⟩]
 ·rw [decide_eq_false (by rw [h5, h6]; intro e; apply hs; omega), decide_eq_false (fun e => hs e.2.2)]
set_option maxHeartbeats 2000000 in
theorem pisTok_any (s : ByteArray) (q : Int) (w : World) (hs : s.size <= 400) (hq : q = 97 \/ q = 118) :
  Calls Tryz.prog 98 #[.string s, .int .i64 (Rf.kindOf q)] w fun r w' => r = .returned (.bool (Rf.isTokB s q)) /\ Below w.heap.size w w' := by
 obtain ⟨Q, hQ⟩ : ∃ Q, Hid (Q = Rf.kindOf q) := ⟨_, rfl⟩
 rw [<- hQ.out]
 by_cases hk : (Rf.nextTok s 0).k = q
 ·by_cases ha : (Rf.nextTok s 0).at_ = 0
  ·go_enter Tryz.func98, Tryz.ntmps98
   go_wp2_with (go_at_call 62; refine (scan_any s 0 _ hs (Nat.zero_le _)).mono ?_; rintro r w1 ⟨K, f, z, C, rfl, hT, hb1⟩; have HT : Hid (Rf.TokIs (Rf.nextTok s 0) K f z C) := hT; have hK : K = Q := (by rw [hQ.out, <- hk]; exact hT.1); subst hK; have hf0 : f = 0 := (by rw [hT.2.1, ha]; rfl); subst hf0; clear hT)
   go_ret
   exact ⟨ret_bool (tok_is hq HT.out hQ.out rfl), hb1.alloc hb1.size _⟩
  ·have HN : Hid _ := Rf.tok_at (q := q) ha
   go_enter Tryz.func98, Tryz.ntmps98
   go_wp2_with (go_at_call 62; refine (scan_any s 0 _ hs (Nat.zero_le _)).mono ?_; rintro r w1 ⟨K, f, z, C, rfl, hT, hb1⟩; have HT : Hid (Rf.TokIs (Rf.nextTok s 0) K f z C) := hT; have hK : K = Q := (by rw [hQ.out, <- hk]; exact hT.1); subst hK; have hf0 : (f == 0) = false := beq_eq_false_iff_ne.2 (by rw [hT.2.1]; omega); clear hT)
   go_ret
   rw [HN.out]
   exact ⟨rfl, hb1.alloc hb1.size _⟩
 ·have HN : Hid _ := Rf.tok_no (q := q) hk
  go_enter Tryz.func98, Tryz.ntmps98
  go_wp2_with (go_at_call 62; refine (scan_any s 0 _ hs (Nat.zero_le _)).mono ?_; rintro r w1 ⟨K, f, z, C, rfl, hT, hb1⟩; have HT : Hid (Rf.TokIs (Rf.nextTok s 0) K f z C) := hT; have hKQ : (K == Q) = false := beq_eq_false_iff_ne.2 (by rw [hT.1, hQ.out]; exact fun e => hk (Rf.kind_eq hq e)); clear hT)
  go_ret
  rw [HN.out]
  exact ⟨rfl, hb1.alloc hb1.size _⟩
set_option maxHeartbeats 400000 in
theorem pisName_any (s : ByteArray) (w : World) (hs : s.size <= 400) :
  Calls Tryz.prog 132 #[.string s] w fun r w' => r = .returned (.bool (Rf.isTokB s 97)) /\ Below w.heap.size w w' := by
 go_enter Tryz.func132, Tryz.ntmps132
 go_wp2_with (go_at_call 98; refine (pisTok_any s 97 _ hs (.inl rfl)).mono ?_; rintro r w1 ⟨rfl, hb1⟩)
 go_ret
 exact ⟨rfl, hb1⟩
set_option maxHeartbeats 400000 in
theorem pisVar_any (s : ByteArray) (w : World) (hs : s.size <= 400) :
  Calls Tryz.prog 72 #[.string s] w fun r w' => r = .returned (.bool (Rf.isTokB s 118)) /\ Below w.heap.size w w' := by
 go_enter Tryz.func72, Tryz.ntmps72
 go_wp2_with (go_at_call 98; refine (pisTok_any s 118 _ hs (.inr rfl)).mono ?_; rintro r w1 ⟨rfl, hb1⟩)
 go_ret
 exact ⟨rfl, hb1⟩
theorem Pr.keptBy {M : Nat -> Prop} {w w' : World} {r : Nat} {text : ByteArray} {nb : Option Nat} {l : List Rf.Tok} {ns : List ByteArray} (h : Pr w r text nb l ns) (hk : Kept M w w') (hr : ¬ M r) (hn : ∀ k, nb = some k -> ¬ M k) : Pr w' r text nb l ns := by
 obtain ⟨K, f, toE, C, vN, hB, hat, he, hs, hrow, hnb, hr', h16⟩ := h.ex
 exact ⟨K, f, toE, C, vN, (hk.block r (blk_lt hB) hr).trans hB, hat, he, hs, hrow.keptBy hk (fun k e => hn k (by rw [<- hnb, e])), hnb, hr', h16⟩
theorem Pr.below {w w' : World} {r : Nat} {text : ByteArray} {nb : Option Nat} {l : List Rf.Tok} {ns : List ByteArray} (h : Pr w r text nb l ns) (hb : Below w.heap.size w w') : Pr w' r text nb l ns := h.keptBy (Kept.of_below hb (fun _ => False)) (fun x => x) (fun _ _ x => x)
theorem Pr.alloc {w : World} {r : Nat} {text : ByteArray} {nb : Option Nat} {l : List Rf.Tok} {ns : List ByteArray} (h : Pr w r text nb l ns) (o : Obj) : Pr (w.alloc o) r text nb l ns := h.below ((Below.refl _ _).alloc (Nat.le_refl _) _)
theorem Pr.lt {w : World} {r : Nat} {text : ByteArray} {nb : Option Nat} {l : List Rf.Tok} {ns : List ByteArray} (h : Pr w r text nb l ns) : r < w.heap.size /\ (∀ k, nb = some k -> k < w.heap.size) /\ nb ≠ some r := by
 obtain ⟨K, f, toE, C, vN, hB, hat, he, hs, hrow, hnb, hr', h16⟩ := h.ex
 exact ⟨blk_lt hB, fun k e => (hrow.lt k (by rw [hnb, e])).2, hr'⟩
theorem PrE.keptBy {M : Nat -> Prop} {w w' : World} {r : Nat} {E P : Int} (h : PrE w r E P) (hk : Kept M w w') (hr : ¬ M r) : PrE w' r E P := by
 obtain ⟨text, K, f, toE, C, a, n, c, hB, hE⟩ := h.ex
 exact ⟨text, K, f, toE, C, a, n, c, (hk.block r (blk_lt hB) hr).trans hB, hE⟩
theorem row_slice {α : Type} {w : World} {base : Nat} {e : TypeId} {size : Nat} {C : α -> List Value} {v : Value} {xs : List α} (h : RowIs w base e size C v xs) : ∃ a c, v = .slice a xs.length c := by
 rcases h.shape with ⟨rfl, rfl⟩ | ⟨g, c, rfl, _⟩
 ·exact ⟨_, _, rfl⟩
 ·exact ⟨_, _, rfl⟩
theorem PrB.grown {w w' : World} {r : Nat} {text : ByteArray} {K f toE C : Int} {vN : Value} {E P : Int} {row : Option Nat} (hg : w.grownBy w' row) (h : PrB w r text K f toE C vN E P) (hn : row ≠ some r) : PrB w' r text K f toE C vN E P :=
 (hg.block r (blk_lt h) (fun e => hn e.symm)).trans h
def WhichPost (w : World) (r : Nat) (text : ByteArray) (nb : Option Nat) (l : List Rf.Tok) (res : Except (Int × Nat) (Nat × List ByteArray)) (x : Ending) (w' : World) : Prop :=
  Kept (May r nb) w w' /\
  (match res with
   | .ok (i, ns') => x = .returned (.tuple #[.int .i64 (i : Int), .bool true]) /\ i < 16 /\ ∃ nb', Pr w' r text nb' l ns' /\ Nb w nb nb'
   | .error (e, q) => x = .returned (.tuple #[.int .i64 0, .bool false]) /\ PrE w' r e q)
set_option maxHeartbeats 1000000 in
set_option maxRecDepth 100000 in
theorem which_any (w : World) (r : Nat) (text : ByteArray) (nb : Option Nat) (t : Rf.Tok) (l : List Rf.Tok) (ns : List ByteArray) (h : Pr w r text nb (t :: l) ns) (hk : t.k = 118) :
  Calls Tryz.prog 87 #[.pointer (some ⟨r, 0, none⟩)] w fun x w' => WhichPost w r text nb (t :: l) (Rf.varS t ns) x w' := by
 have H0 : Hid (t.k ≠ 0) := by unfold Hid; omega
 have H63 : Hid (t.k ≠ 63) := by unfold Hid; omega
 have HK : Hid _ := hk
 have H : Hid _ := h
 clear h hk
 go_enter Tryz.func87, Tryz.ntmps87
 go_wp2_with (go_at_call 107; refine (word_any _ r text nb t l ns H.out H0.out H63.out).mono ?_; rintro e w1 ⟨rfl, hb1⟩; obtain ⟨K, f, toE, C, vN, hB, ht, hr, he, hs, hrow, hnb, hr', h16⟩ := (H.out.below hb1).toks; obtain ⟨a, c, rfl⟩ := row_slice hrow; obtain ⟨q0, q1, q2, q3, q4, q5, q6, q7, qf, ql⟩ := hB.facts)
 have hs1 := hb1.size
 have HT : Hid _ := ht
 have HB : Hid _ := hB
 have HE : Hid _ := he
 have HR : Hid _ := hr
 have Hnb : Hid _ := hnb
 clear ht hB he hr hnb
 go_loop [14] (fun i => ∃ k : Nat, i = .int .i64 k /\ k <= ns.length /\ Hid (∀ j, j < k -> Miss t ns j)) (fun i => ns.length - (intOf i).toNat)
 case atStart => exact ⟨0, rfl, by omega, fun j hj => by omega⟩
 case round =>
  obtain ⟨k, rfl, hkl, hM⟩ := hrel
  by_cases hlt : k < ns.length
  ·rcases hrow.shape with ⟨_, hnil⟩ | ⟨gn, capn, hsl, _, hgn, hcapn, hcapm⟩
   ·rw [hnil] at hlt; simp at hlt
   ·obtain ⟨rfl, rfl⟩ : a = some ⟨gn, 0, none⟩ /\ c = capn := by injection hsl with e1 e2 e3; exact ⟨e1, e3⟩
    clear hsl
    obtain ⟨sk, hsk⟩ : ∃ sk, ns[k]? = some sk := ⟨ns[k], by simp [hlt]⟩
    have hcell := hrow.cells strCells_len k sk hsk 0 _ rfl
    simp only [Nat.mul_one, Nat.add_zero] at hcell
    have Hsk : Hid _ := hsk
    clear hsk
    have hlt' : (k : Int) < ns.length := by omega
    have e1 : (t.s.toList == [95]) = decide (t.s = Rf.under) := by
     rw [<- beq_toList t.s Rf.under]; simp [Rf.under, ByteArray.toList_eq]
    have e2 : (sk.toList == t.s.toList) = decide (sk = t.s) := beq_toList sk t.s
    by_cases hs : sk = t.s
    ·rw [decide_eq_true hs] at e2
     have Hs : Hid _ := hs
     clear hs
     by_cases hu : t.s = Rf.under
     ·rw [decide_eq_true hu] at e1
      have Hu : Hid _ := hu
      clear hu
      go_wp2_with fail
      go_round
      case rel => exact ⟨k + 1, by go_num, by omega, Miss.step hM.out (.inl Hu.out)⟩
      case measure => simp [intOf]; omega
     ·rw [decide_eq_false hu] at e1
      have Hu : Hid _ := hu
      clear hu
      go_wp2_with fail
      refine bodyPost_ret (v := .tuple #[.int .i64 k, .bool true]) (by simp [results, Tryz.results87, go_sem]) rfl ?_
      refine ⟨Kept.of_below hb1 _, ?_⟩
      unfold Rf.varS
      rw [look_some Hu.out (by rw [<- Hs.out]; exact Hsk.out) hM.out]
      exact ⟨rfl, by omega, nb, H.out.below hb1, .inl rfl⟩
    ·rw [decide_eq_false hs] at e2
     have Hs : Hid _ := hs
     clear hs
     go_wp2_with fail
     go_round
     case rel => exact ⟨k + 1, by go_num, by omega, Miss.step hM.out (.inr (by rw [Hsk.out]; exact fun e => Hs.out (Option.some.inj e)))⟩
     case measure => simp [intOf]; omega
  ·obtain rfl : k = ns.length := by omega
   have HL : Hid _ := look_none hM.out
   by_cases h16' : ns.length = 16
   ·have HV : Hid (Rf.varS t ns = .error (3, t.at_)) := by unfold Hid Rf.varS; rw [HL.out]; simp only []; rw [if_pos h16']
    go_wp2_with (go_at_call 64; refine (refuse_any _ r text nb t l ns 3 (H.out.below hb1) (by decide)).mono ?_; rintro e w2 ⟨rfl, hE2, hK2⟩; have hEx : Rf.errOf t 3 = (3, t.at_) := errOf_no t 3 (beq_eq_false_iff_ne.2 H63.out); rw [hEx] at hE2; clear hEx)
    refine bodyPost_ret (v := .tuple #[.int .i64 0, .bool false]) (by simp [results, Tryz.results87, go_sem]) rfl ?_
    rw [HV.out]
    exact ⟨(Kept.of_below hb1 _).trans hK2 (fun _ _ e => Or.inl e), rfl, hE2⟩
   ·have HV : Hid (Rf.varS t ns = .ok (ns.length, ns ++ [t.s])) := by unfold Hid Rf.varS; rw [HL.out]; simp only []; rw [if_neg h16']
    have hne : (Value.slice a ns.length c).ownBlock ≠ some r := by rw [Hnb.out]; exact hr'
    go_wp2_with (at_builtin; refine wpList_app Tryz.elemStr strCells strCells_len strCells_one _ rfl (.tmp 40) (.tmp 42) rfl 0 _ ns rfl (hrow.alloc _) ⟨_, 0, none⟩ 1 t.s rfl (cell_one_at _ _ rfl _ _) (by omega) (Nat.zero_le _) ?_; intro gN capN w3 hrow3 hgr3 hnb3; have hB3 := PrB.grown hgr3 (blk_alloc HB.out _) hne; obtain ⟨z0, z1, z2, z3, z4, z5, z6, z7, zf, zl⟩ := hB3.facts)
    have hgb : gN ≠ r := fun e => hnb3.ne hne (by simp; omega) (by rw [e])
    refine bodyPost_ret (v := .tuple #[.int .i64 (ns.length : Int), .bool true]) (by simp [results, Tryz.results87, go_sem]) rfl ?_
    rw [HV.out]
    refine ⟨?_, rfl, by omega, some gN, ⟨_, _, _, _, _, blk_set hB3 5 _, ⟨t, l, rfl, HT.out, HR.out, fun e => absurd e H0.out⟩, HE.out, hs, hrow3.setCell _ _ (fun e => hgb (Option.some.inj e)), rfl, fun e => hgb (Option.some.inj e), by simp; omega⟩, ?_⟩
    ·exact (((Kept.of_below hb1 (May r nb)).alloc _).grown hgr3 (fun k e => Or.inr (Or.inr (e.symm.trans Hnb.out)))).setCell (p := ⟨r, 5, none⟩) (Or.inr (Or.inl rfl)) _
    ·have h9 : Nb (w1.alloc (Obj.cells #[Value.string t.s] 9)) (Value.slice a ns.length c).ownBlock (some gN) := hnb3
     rw [Hnb.out] at h9
     exact Nb.trans (.inl rfl) h9 (by simp; omega)
end Go.Proofs.YtbiojnljihgpoaaGreatDoor
namespace Go
open Go.RowKit
theorem row_setHead {α : Type} {w : World} {base : Nat} {e : TypeId} {size : Nat} {C : α -> List Value} {g n cap : Nat} {x x' : α} {xs : List α} (h : RowIs w base e size C (.slice (some ⟨g, 0, none⟩) n cap) (x :: xs)) (j : Nat) (u : Value) (hj : j < (C x).length) (hx : C x' = (C x).set j u) :
  RowIs (w.setCell ⟨g, j, none⟩ u) base e size C (.slice (some ⟨g, 0, none⟩) n cap) (x' :: xs) := by
 obtain ⟨hl, h2⟩ := h.own
 rcases h2 with ⟨h2, _⟩ | ⟨g', cap', cur, e1, h3, h4, h5, h6, h7, h8⟩
 ·cases h2
 ·obtain ⟨rfl, rfl, rfl⟩ : g = g' /\ n = (x :: xs).length /\ cap = cap' := by injection e1 with a1 a2 a3; injection a1 with a1; injection a1 with a1; exact ⟨a1, a2, a3⟩
  refine ⟨?_, .inr ⟨g, cap, cur.setIfInBounds j u, rfl, h3, ?_, h5, h6, by simpa using h7, ?_⟩⟩
  ·rw [List.flatMap_cons, List.length_append, hx, List.length_set]
   rw [List.flatMap_cons, List.length_append] at hl
   simpa using hl
  ·simp [World.setCell, Array.getElem?_modify, h4]
  ·rw [Array.toList_setIfInBounds, List.take_set]
   have hlen : ((x' :: xs).length) = (x :: xs).length := rfl
   rw [hlen, h8, List.flatMap_cons, List.flatMap_cons, List.set_append_left _ _ hj, hx]
theorem row_new {α : Type} {w : World} {base : Nat} {e : TypeId} {size : Nat} {C : α -> List Value} {x : α} {cs : Array Value} {N : Nat} (hN : w.heap[N]? = some (.cells cs e (0, 0))) (hcs : cs.toList = C x) (hs : (C x).length = size) (hb : base <= N) : RowIs w base e size C (.slice (some ⟨N, 0, none⟩) 1 1) [x] := by
 refine ⟨by simp [hs], .inr ⟨N, 1, cs, rfl, hb, hN, by simp, by unfold maxLen; omega, ?_, ?_⟩⟩
 ·rw [<- Array.length_toList, hcs, hs]; omega
 ·rw [hcs, one_flat, List.take_of_length_le (by rw [hs]; simp)]
theorem row_frozen {α : Type} {w : World} {base : Nat} {e : TypeId} {size : Nat} {C : α -> List Value} {g n cap : Nat} {xs : List α} (h : RowIs w base e size C (.slice (some ⟨g, 0, none⟩) n cap) xs) (i : Nat) : w.frozen? ⟨g, i, none⟩ = false := by
 obtain ⟨hl, h2⟩ := h.own
 rcases h2 with ⟨h2, _⟩ | ⟨g', cap', cur, e1, h3, h4, h5, h6, h7, h8⟩
 ·cases h2
 ·obtain rfl : g = g' := by injection e1 with a1 a2 a3; injection a1 with a1; injection a1
  simp [World.frozen?, h4]
theorem row_len {α : Type} {w : World} {base : Nat} {e : TypeId} {size : Nat} {C : α -> List Value} {a : Option Addr} {n cap : Nat} {xs : List α} (h : RowIs w base e size C (.slice a n cap) xs) : n = xs.length := by
 rcases h.shape with ⟨h', rfl⟩ | ⟨g, c, h', _⟩
 ·injection h'
 ·injection h'
theorem wpList_appsN {P : Program} {α : Type} {t e : TypeId} {size bytes : Nat} {z : Value} (hE : ElemOk P t e size bytes z) (C : α -> List Value) (hC : ∀ x, (C x).length = size) (h1 : ∀ x, ∀ u ∈ C x, u.oneCell' = true)
  (w : World) {ops : Array Oper} {rest : List Oper} {o : Oper} {a : Act} {Q : Exit -> Act -> World -> Prop} (hgd : o.guard = none) (s x : Operand)
  (ho : o.op = .call { callee := .builtin .append, args := #[s, x], argTypes := #[t, t] }) (base : Nat) (v : Value) (xs : List α) (hs : a.eval s = v) (hown : RowIs w base e size C v xs)
  (g2 n2 c2 : Nat) (ys : List α) (hy : 1 <= ys.length) (hx : a.eval x = .slice (some ⟨g2, 0, none⟩) n2 c2) {base2 : Nat} (hys : RowIs w base2 e size C (.slice (some ⟨g2, 0, none⟩) n2 c2) ys)
  (hb : (xs.length + ys.length) * bytes <= 140737488355328) (hbase : base <= w.heap.size)
  (h : ∀ g n cap w', Hid (n = xs.length + ys.length) -> 1 <= n -> RowIs w' base e size C (.slice (some ⟨g, 0, none⟩) n cap) (xs ++ ys) -> w.grownBy w' v.ownBlock -> Nb w v.ownBlock (some g) ->
   wpList P ops Q rest (a.put o.dst (.slice (some ⟨g, 0, none⟩) n cap)) w') : wpList P ops Q (o :: rest) a w := by
 obtain rfl := row_len hys
 exact wpList_apps hE C hC h1 w hgd s x ho base v xs hs hown ⟨g2, 0, none⟩ c2 ys hy hx (hys.own.cells rfl) hb hbase (fun g cap w' k1 k2 k3 => h g _ cap w' rfl (by omega) k1 k2 k3)
end Go
namespace Rf
theorem termS_pos : ∀ {f : Nat} {l : List Tok} {ns : List ByteArray} {p : List Part} {l1 : List Tok} {ns1 : List ByteArray}, termS f l ns = .ok (p, l1, ns1) -> 1 <= p.length
 | 0, _, _, _, _, _, e => by simp [termS] at e
 | _ + 1, [], _, _, _, _, e => by simp [termS] at e
 | f + 1, t :: l, ns, p, l1, ns1, e => by
  rw [termS] at e
  split at e
  ·unfold varT at e
   split at e
   ·cases e
   ·simp only [Except.ok.injEq, Prod.mk.injEq] at e; obtain ⟨rfl, _⟩ := e; simp
  ·split at e
   ·simp only [Except.ok.injEq, Prod.mk.injEq] at e; obtain ⟨rfl, _⟩ := e; simp
   ·split at e
    ·cases l with
     | nil => cases e
     | cons u l' =>
      simp only [nameS] at e
      split at e
      ·cases ha : argsS (termS f) 4 [] l' ns with
       | error x => rw [ha] at e; cases e
       | ok x =>
        rw [ha] at e
        simp only [Except.ok.injEq, Prod.mk.injEq] at e
        obtain ⟨rfl, _⟩ := e
        simp
      ·simp only [Except.ok.injEq, Prod.mk.injEq] at e; obtain ⟨rfl, _⟩ := e; simp
    ·cases e
theorem kindOf_6 {k : Int} : (kindOf k == 6) = true -> k = 41 := by
 unfold kindOf; repeat' split
 all_goals (intro h; first | omega | (simp at h))
theorem kindOf_n6 {k : Int} : (kindOf k == 6) = false -> k ≠ 41 := by rintro h rfl; exact absurd h (by decide)
theorem kindOf_7 {k : Int} : (kindOf k != 7) = false -> k = 44 := by
 unfold kindOf; repeat' split
 all_goals (intro h; first | omega | (simp at h))
theorem kindOf_n7 {k : Int} : (kindOf k != 7) = true -> k ≠ 44 := by rintro h rfl; exact absurd h (by decide)
end Rf
namespace Go.Proofs.YtbiojnljihgpoaaGreatDoor
open Go.RowKit
theorem Pr.len {w : World} {r : Nat} {text : ByteArray} {nb : Option Nat} {l : List Rf.Tok} {ns : List ByteArray} (h : Pr w r text nb l ns) : l.length <= 402 := by
 cases l with
 | nil => simp
 | cons t l =>
  obtain ⟨K, f, toE, C, vN, hB, ht, hr, he, hs, hrow, hnb, hr', h16⟩ := h.toks
  cases l with
  | nil => simp
  | cons u l =>
   obtain ⟨⟨e, _⟩, _⟩ := hr he.1.1.1 he.1.1.2
   have := Rf.toks_len text (text.size - (t.at_ + t.s.size)) (t.at_ + t.s.size)
   rw [e]
   unfold Rf.rest
   simp
   omega
theorem Pr.n16 {w : World} {r : Nat} {text : ByteArray} {nb : Option Nat} {l : List Rf.Tok} {ns : List ByteArray} (h : Pr w r text nb l ns) : ns.length <= 16 := by
 obtain ⟨K, f, toE, C, vN, hB, hat, he, hs, hrow, hnb, hr', h16⟩ := h.ex
 exact h16
def partCells (p : Rf.Part) : List Value := [.int .i64 p.kind, .string p.name, .int .i64 p.value, .int .i64 p.args]
theorem partCells_len (s : Rf.Part) : (partCells s).length = 4 := rfl
theorem partCells_one (s : Rf.Part) : ∀ u ∈ partCells s, u.oneCell' = true := by
 intro u hu
 simp only [partCells, List.mem_cons, List.not_mem_nil, or_false] at hu
 rcases hu with rfl | rfl | rfl | rfl <;> rfl
theorem Tryz.elemPart : ElemOk Tryz.prog 56 101 4 40 (.agg #[.int .i64 0, .string ⟨#[]⟩, .int .i64 0, .int .i64 0]) := ⟨Tryz.underlying56, by kernel_rfl, rfl, by decide, by decide⟩
def PTerm (w : World) (base : Nat) (v : Value) (ps : List Rf.Part) : Prop := RowIs w base 101 4 partCells v ps
def PTermPost (w : World) (r : Nat) (text : ByteArray) (nb : Option Nat) (res : Except (Int × Nat) (List Rf.Part × List Rf.Tok × List ByteArray)) (x : Ending) (w' : World) : Prop :=
  Kept (May r nb) w w' /\
  (match res with
   | .ok (ps, l', ns') => ∃ (g n c : Nat) (nb' : Option Nat), x = .returned (.tuple #[.slice (some ⟨g, 0, none⟩) n c, .bool true]) /\ Pr w' r text nb' l' ns' /\ Nb w nb nb' /\ PTerm w' w.heap.size (.slice (some ⟨g, 0, none⟩) n c) ps /\ nb' ≠ some g
   | .error (e, q) => x = .returned (.tuple #[.slice none 0 0, .bool false]) /\ PrE w' r e q)
def PTermIH (f : Nat) : Prop := ∀ (r : Nat) (text : ByteArray) (nb : Option Nat) (l : List Rf.Tok) (ns : List ByteArray) (w : World), Pr w r text nb l ns -> l.length <= f ->
 Calls Tryz.prog 88 #[.pointer (some ⟨r, 0, none⟩)] w fun x w' => PTermPost w r text nb (Rf.termS f l ns) x w'
theorem Pr.kind {w : World} {r : Nat} {text : ByteArray} {nb : Option Nat} {t : Rf.Tok} {l : List Rf.Tok} {ns : List ByteArray} (h : Pr w r text nb (t :: l) ns) : w.cell? ⟨r, 1, none⟩ = some (.int .i64 (Rf.kindOf t.k)) /\ (∃ s, w.cell? ⟨r, 0, none⟩ = some (.string s)) /\ r < w.heap.size := by
 obtain ⟨K, f, toE, C, vN, hB, ht, _⟩ := h.toks
 obtain ⟨q0, q1, q2, q3, q4, q5, q6, q7, qf, ql⟩ := hB.facts
 rw [<- ht.1]
 exact ⟨q1, ⟨_, q0⟩, ql⟩
set_option maxHeartbeats 1000000 in
set_option maxRecDepth 100000 in
theorem named_name (r : Nat) (text : ByteArray) (nb : Option Nat) (t u : Rf.Tok) (l : List Rf.Tok) (ns : List ByteArray) (w : World) (h : Pr w r text nb (t :: u :: l) ns) (hk : t.k = 97) (hu : (Rf.kindOf u.k != 5) = true) :
  Calls Tryz.prog 109 #[.pointer (some ⟨r, 0, none⟩)] w fun x w' => PTermPost w r text nb (.ok ([⟨3, t.s, 0, 0⟩], u :: l, ns)) x w' := by
 have H0 : Hid (t.k ≠ 0) := by unfold Hid; omega
 have H63 : Hid (t.k ≠ 63) := by unfold Hid; omega
 have H : Hid _ := h
 clear h hk
 go_enter Tryz.func109, Tryz.ntmps109
 go_wp2_with (first
  | (go_at_call 107; refine (word_any _ r text nb t (u :: l) ns H.out H0.out H63.out).mono ?_; rintro e w1 ⟨rfl, hb1⟩)
  | (go_at_call 46; refine (step_any _ r text nb t (u :: l) ns ((H.out.below hb1).alloc _) H0.out H63.out).mono ?_; rintro e w2 ⟨rfl, hP2, hK2⟩; obtain ⟨q1, ⟨_, q0⟩, ql⟩ := hP2.kind))
 refine bodyPost_ret (v := .tuple #[.slice (some ⟨w1.heap.size, 0, none⟩) 1 1, .bool true]) (by simp [results, Tryz.results109, go_sem]) rfl ?_
 obtain ⟨hrl, hnl, hnr⟩ := H.out.lt
 have hs1 := hb1.size
 have hN : w2.heap[w1.heap.size]? = some (.cells #[.int .i64 3, .string t.s, .int .i64 0, .int .i64 0] 101 (0, 0)) := (hK2.block w1.heap.size (by simp) (fun e => by omega)).trans (blk_new _ _)
 exact ⟨((Kept.of_below hb1 (May r nb)).alloc _).trans hK2 (fun _ _ e => Or.inl e), _, _, _, nb, rfl, hP2, .inl rfl, row_new hN rfl rfl (by omega), fun e => by have := hnl _ e; omega⟩
def NamedSt (w : World) (r : Nat) (text : ByteArray) (nb : Option Nat) (s : ByteArray) (f : Nat) (want : Except (Int × Nat) (List (List Rf.Part) × List Rf.Tok × List ByteArray)) (m : Nat) (v : Value) (wr : World) : Prop :=
 Kept (May r nb) w wr /\ ∃ (k : Nat) (acc : List (List Rf.Part)) (u : Rf.Tok) (l1 : List Rf.Tok) (ns1 : List ByteArray) (nb1 : Option Nat) (g n c : Nat), m = k + 1 /\ k + 1 + acc.length = 4 /\ v = .slice (some ⟨g, 0, none⟩) n c /\ Pr wr r text nb1 (u :: l1) ns1 /\ (u.k = 40 \/ u.k = 44) /\ Nb w nb nb1 /\ l1.length <= f /\
  PTerm wr w.heap.size (.slice (some ⟨g, 0, none⟩) n c) (⟨3, s, 0, acc.length⟩ :: acc.flatten) /\ nb1 ≠ some g /\ Hid (n = acc.flatten.length + 1) /\ 1 <= n /\ n <= 1 + 402 * acc.length /\ Hid (want = Rf.argsS (Rf.termS f) (k + 1) acc l1 ns1)
theorem PTerm.lt {w : World} {base g n c : Nat} {ps : List Rf.Part} (h : PTerm w base (.slice (some ⟨g, 0, none⟩) n c) ps) : base <= g /\ g < w.heap.size := RowIs.lt h g rfl
theorem PTerm.keptBy {M : Nat -> Prop} {w w' : World} {base g n c : Nat} {ps : List Rf.Part} (h : PTerm w base (.slice (some ⟨g, 0, none⟩) n c) ps) (hk : Kept M w w') (hn : ¬ M g) : PTerm w' base (.slice (some ⟨g, 0, none⟩) n c) ps :=
 RowIs.keptBy h hk (fun k e => by cases e; exact hn)
theorem PTerm.over {wr w3 w4 : World} {base r g n c : Nat} {nb1 : Option Nat} {ps : List Rf.Part} (h : PTerm wr base (.slice (some ⟨g, 0, none⟩) n c) ps) (hr : r < base) (hng : nb1 ≠ some g) (h3 : Kept (fun k => k = r) wr w3) (h4 : Kept (May r nb1) w3 w4) : PTerm w4 base (.slice (some ⟨g, 0, none⟩) n c) ps := by
 have := h.lt
 exact (h.keptBy h3 (by omega)).keptBy h4 (fun x => by rcases x with x | x; omega; exact hng x.symm)
theorem kept_grown {w w' : World} {row : Option Nat} (h : w.grownBy w' row) : Kept (fun k => row = some k) w w' := (Kept.refl _ w).grown h (fun _ e => Or.inr e)
theorem push_arg {w4 w5 : World} {base r g n c g5 : Nat} {text : ByteArray} {nb4 : Option Nat} {l : List Rf.Tok} {ns : List ByteArray} {ps : List Rf.Part} (hP : Pr w4 r text nb4 l ns) (hT : PTerm w4 base (.slice (some ⟨g, 0, none⟩) n c) ps) (hr : r < base) (hng : nb4 ≠ some g)
  (hgr : w4.grownBy w5 (Value.slice (some ⟨g, 0, none⟩) n c).ownBlock) (hnb : Nb w4 (Value.slice (some ⟨g, 0, none⟩) n c).ownBlock (some g5)) : ¬ g5 = r /\ ¬ r = g5 /\ base <= g5 /\ nb4 ≠ some g5 /\ Pr w5 r text nb4 l ns := by
 have h1 := hT.lt
 have h2 := hP.lt
 have hg5 : base <= g5 /\ (g5 = g \/ w4.heap.size <= g5) := by
  rcases hnb with e | ⟨k, e, hk⟩
  ·have := Option.some.inj e; simp at this; exact ⟨by omega, .inl this⟩
  ·have := Option.some.inj e; exact ⟨by omega, .inr (by omega)⟩
 refine ⟨by omega, by omega, hg5.1, fun e => ?_, hP.keptBy (kept_grown hgr) (fun e => ?_) (fun k e x => ?_)⟩
 ·rcases hg5.2 with x | x
  ·exact hng (by rw [e, x])
  ·have := h2.2.1 _ e; omega
 ·have := Option.some.inj e; simp at this; omega
 ·exact hng (by rw [e]; exact x.symm)
theorem push_row {w5 : World} {base g5 n5 c5 : Nat} {s : ByteArray} {acc : List (List Rf.Part)} {ps : List Rf.Part} (h : RowIs w5 base 101 4 partCells (.slice (some ⟨g5, 0, none⟩) n5 c5) ((⟨3, s, 0, acc.length⟩ :: acc.flatten) ++ ps)) :
  PTerm (w5.setCell ⟨g5, 3, none⟩ (.int .i64 ((acc.length : Int) + 1))) base (.slice (some ⟨g5, 0, none⟩) n5 c5) (⟨3, s, 0, ((acc ++ [ps]).length : Nat)⟩ :: (acc ++ [ps]).flatten) := by
 have e : (acc ++ [ps]).flatten = acc.flatten ++ ps := by simp
 rw [e]
 refine row_setHead (x := ⟨3, s, 0, acc.length⟩) h 3 _ (by simp [partCells]) ?_
 simp [partCells]
theorem Pr.setOther {w : World} {r g i : Nat} {text : ByteArray} {nb : Option Nat} {l : List Rf.Tok} {ns : List ByteArray} (h : Pr w r text nb l ns) (v : Value) (hr : ¬ r = g) (hn : nb ≠ some g) : Pr (w.setCell ⟨g, i, none⟩ v) r text nb l ns :=
 h.keptBy ((Kept.refl (fun k => k = g) w).setCell (p := ⟨g, i, none⟩) (Or.inr rfl) v) hr (fun k e x => hn (by rw [e, x]))
theorem pnameS_err {rd} {t u : Rf.Tok} {l : List Rf.Tok} {ns : List ByteArray} {e : Int × Nat} (hu : u.k = 40) (h : rd l ns = .error e) : Rf.nameS rd t (u :: l) ns = .error e := by simp only [Rf.nameS]; rw [if_pos hu, h]
theorem pnameS_ok {rd} {t u : Rf.Tok} {l : List Rf.Tok} {ns : List ByteArray} {a1 : List (List Rf.Part)} {l2 : List Rf.Tok} {ns2 : List ByteArray} (hu : u.k = 40) (h : rd l ns = .ok (a1, l2, ns2)) : Rf.nameS rd t (u :: l) ns = .ok (⟨3, t.s, 0, a1.length⟩ :: a1.flatten, l2, ns2) := by simp only [Rf.nameS]; rw [if_pos hu, h]
set_option maxHeartbeats 2000000 in
set_option maxRecDepth 100000 in
theorem named_args (f : Nat) (IH : PTermIH f) (r : Nat) (text : ByteArray) (nb : Option Nat) (t u : Rf.Tok) (l : List Rf.Tok) (ns : List ByteArray) (w : World) (h : Pr w r text nb (t :: u :: l) ns) (hk : t.k = 97) (hu : u.k = 40) (hl : l.length <= f) :
  Calls Tryz.prog 109 #[.pointer (some ⟨r, 0, none⟩)] w fun x w' => PTermPost w r text nb (Rf.nameS (Rf.argsS (Rf.termS f) 4 []) t (u :: l) ns) x w' := by
 have H0 : Hid (t.k ≠ 0) := by unfold Hid; omega
 have H63 : Hid (t.k ≠ 63) := by unfold Hid; omega
 have HU : Hid _ := hu
 have hu5 : (Rf.kindOf u.k != 5) = false := by rw [hu]; decide
 have H : Hid _ := h
 have HI : Hid _ := IH
 obtain ⟨hrl, hnl, hnr⟩ := h.lt
 clear h hk hu IH
 go_enter Tryz.func109, Tryz.ntmps109
 go_wp2_with (first
  | (go_at_call 107; refine (word_any _ r text nb t (u :: l) ns H.out H0.out H63.out).mono ?_; rintro e w1 ⟨rfl, hb1⟩)
  | (go_at_call 46; refine (step_any _ r text nb t (u :: l) ns ((H.out.below hb1).alloc _) H0.out H63.out).mono ?_; rintro e w2 ⟨rfl, hP2, hK2⟩; obtain ⟨q1, ⟨_, q0⟩, ql⟩ := hP2.kind))
 have hs1 := hb1.size
 have hN : w2.heap[w1.heap.size]? = some (.cells #[.int .i64 3, .string t.s, .int .i64 0, .int .i64 0] 101 (0, 0)) := (hK2.block w1.heap.size (by simp) (fun e => by omega)).trans (blk_new _ _)
 have HN : Hid _ := hN
 clear hN q0 q1
 go_loopg [4] 4 (fun m v wr => NamedSt w r text nb t.s f (Rf.argsS (Rf.termS f) 4 [] l ns) m v wr)
 case atStart => exact ⟨((Kept.of_below hb1 (May r nb)).alloc _).trans hK2 (fun _ _ e => Or.inl e), 3, [], u, l, ns, nb, _, _, _, rfl, rfl, rfl, hP2, .inl HU.out, .inl rfl, hl, row_new HN.out rfl rfl (by omega), fun e => by have := hnl _ e; omega, rfl, by omega, by omega, rfl⟩
 case round =>
  obtain ⟨hKr, k, acc, u1, l1, ns1, nb1, g, n, c, rfl, hk4, rfl, hP, hu1, hNb, hl1, hT, hng, hn, hn1, hn2, hwant⟩ := hrel
  have H10 : Hid (u1.k ≠ 0) := by unfold Hid; omega
  have H163 : Hid (u1.k ≠ 63) := by unfold Hid; omega
  have HT : Hid _ := hT
  have HP : Hid _ := hP
  clear hT hP hu1
  have hrw := hKr.size
  cases hres : Rf.termS f l1 ns1 with
  | error x =>
   obtain ⟨e, q⟩ := x
   have HR : Hid _ := hres
   clear hres
   go_wp2_with (first
    | (go_at_call 46; refine (step_any _ r text nb1 u1 l1 ns1 HP.out H10.out H163.out).mono ?_; rintro e w3 ⟨rfl, hP3, hK3⟩)
    | (go_at_call 88; refine (HI.out r text nb1 l1 ns1 _ hP3 hl1).mono ?_; rintro x w4 ⟨hK4, hm⟩; rw [HR.out] at hm; obtain ⟨rfl, hE4⟩ := hm))
   refine bodyPost_ret (v := .tuple #[.slice none 0 0, .bool false]) (by simp [results, Tryz.results109, go_sem]) rfl ?_
   rw [pnameS_err HU.out (show Rf.argsS (Rf.termS f) 4 [] l ns = .error (e, q) by rw [hwant.out, Rf.argsS, HR.out])]
   exact ⟨(hKr.trans hK3 (fun _ _ e => Or.inl e)).trans hK4 (May.of hNb), rfl, hE4⟩
  | ok x =>
   obtain ⟨ps, l2, ns2⟩ := x
   have HR : Hid _ := hres
   clear hres
   have hgood := Rf.termS_good f l1 ns1 ps l2 ns2 (HP.out.ended.tail H10.out H163.out) HP.out.n16 HR.out
   have hpos := Rf.termS_pos HR.out
   have hlen := HP.out.len
   obtain ⟨_, _, hsum, hen2⟩ := hgood
   have HS : Hid _ := hsum
   have hps : ps.length <= 402 := by simp at hlen; omega
   clear hsum hlen
   cases l2 with
   | nil => exact absurd rfl hen2.ne
   | cons u2 l3 =>
    have hl3 : l3.length <= f := by have := HS.out; simp at this; omega
    have Hen : Hid _ := hen2
    clear hen2
    have hcar : (acc.length : Int) <= 3 := by omega
    have HNb4 : ∀ w3 nb4, Nb w3 nb1 nb4 -> wr.heap.size <= w3.heap.size -> Nb w nb nb4 := fun w3 nb4 h1 h2 => Nb.trans hNb h1 (by omega)
    cases c6 : (Rf.kindOf u2.k == 6)
    ·have Hn41 : Hid (u2.k ≠ 41) := Rf.kindOf_n6 c6
     cases c7 : (Rf.kindOf u2.k != 7)
     ·have H44 : Hid (u2.k = 44) := Rf.kindOf_7 c7
      by_cases hk0 : k = 0
      ·subst hk0
       have hcar4 : (acc.length : Int) + 1 = 4 := by omega
       have HW : Hid (Rf.argsS (Rf.termS f) 4 [] l ns = .error (3, u2.at_)) := by
        unfold Hid; rw [hwant.out, Rf.argsS, HR.out]; simp only []; rw [if_pos H44.out, if_pos (by omega)]
       have HX : Hid (Rf.errOf u2 3 = (3, u2.at_)) := errOf_no u2 3 (by rw [H44.out]; decide)
       go_wp2_with (first
       | (go_at_call 46; refine (step_any _ r text nb1 u1 l1 ns1 HP.out H10.out H163.out).mono ?_; rintro e w3 ⟨rfl, hP3, hK3⟩)
       | (go_at_call 88; refine (HI.out r text nb1 l1 ns1 _ hP3 hl1).mono ?_; rintro x w4 ⟨hK4, hm⟩; rw [HR.out] at hm; obtain ⟨g4, n4, c4, nb4, rfl, hP4, hNb4, hT4, hng4⟩ := hm; have hs3 := hK3.size; have hs4 := hK4.size; have hgl := PTerm.lt HT.out; have hT34 := PTerm.over HT.out hrl hng hK3 hK4)
       | (at_builtin; refine wpList_appsN Tryz.elemPart partCells partCells_len partCells_one _ rfl (.tmp 29) (.tmp 30) rfl w.heap.size _ (⟨3, t.s, 0, acc.length⟩ :: acc.flatten) rfl hT34 g4 n4 c4 ps hpos rfl hT4 ?_ ?_ ?_; have := hn.out; simp only [List.length_cons]; omega; omega; intro g5 n5 c5 w5 hn5 hn51 hrow5 hgr5 hnb5; obtain ⟨hg5r, hrg5, hg5b, hg5n, hP5⟩ := push_arg hP4 hT34 hrl (hNb4.ne hng (by omega)) hgr5 hnb5; obtain ⟨k1, ⟨_, k0⟩, kl⟩ := hP5.kind; have a3 := RowIs.cells partCells_len hrow5 0 _ rfl 3 _ rfl; have af := row_frozen hrow5; have hg5l := (RowIs.lt hrow5 g5 rfl).2; have hR5 : Hid _ := push_row hrow5; clear hrow5)
       | (go_at_call 64; refine (refuse_any _ r text nb4 u2 l3 ns2 3 (hP5.setOther _ hrg5 hg5n) (by decide)).mono ?_; rintro e w7 ⟨rfl, hE7, hK7⟩; rw [HX.out] at hE7))
       refine bodyPost_ret (v := .tuple #[.slice none 0 0, .bool false]) (by simp [results, Tryz.results109, go_sem]) rfl ?_
       rw [pnameS_err HU.out HW.out]
       exact ⟨(((((hKr.trans hK3 (fun _ _ e => Or.inl e)).trans hK4 (May.of hNb)).grown hgr5 (fun k e => Or.inl (by have := Option.some.inj e; simp at this; omega))).setCell (p := ⟨g5, 3, none⟩) (Or.inl hg5b) _)).trans hK7 (fun _ _ e => Or.inl e), rfl, hE7⟩
      ·have hcar4 : (acc.length : Int) + 1 < 4 := by omega
       have HW : Hid (Rf.argsS (Rf.termS f) 4 [] l ns = Rf.argsS (Rf.termS f) k (acc ++ [ps]) l3 ns2) := by
        unfold Hid; rw [hwant.out, Rf.argsS, HR.out]; simp only []; rw [if_pos H44.out, if_neg (by omega)]
       go_wp2_with (first
       | (go_at_call 46; refine (step_any _ r text nb1 u1 l1 ns1 HP.out H10.out H163.out).mono ?_; rintro e w3 ⟨rfl, hP3, hK3⟩)
       | (go_at_call 88; refine (HI.out r text nb1 l1 ns1 _ hP3 hl1).mono ?_; rintro x w4 ⟨hK4, hm⟩; rw [HR.out] at hm; obtain ⟨g4, n4, c4, nb4, rfl, hP4, hNb4, hT4, hng4⟩ := hm; have hs3 := hK3.size; have hs4 := hK4.size; have hgl := PTerm.lt HT.out; have hT34 := PTerm.over HT.out hrl hng hK3 hK4)
       | (at_builtin; refine wpList_appsN Tryz.elemPart partCells partCells_len partCells_one _ rfl (.tmp 29) (.tmp 30) rfl w.heap.size _ (⟨3, t.s, 0, acc.length⟩ :: acc.flatten) rfl hT34 g4 n4 c4 ps hpos rfl hT4 ?_ ?_ ?_; have := hn.out; simp only [List.length_cons]; omega; omega; intro g5 n5 c5 w5 hn5 hn51 hrow5 hgr5 hnb5; obtain ⟨hg5r, hrg5, hg5b, hg5n, hP5⟩ := push_arg hP4 hT34 hrl (hNb4.ne hng (by omega)) hgr5 hnb5; obtain ⟨k1, ⟨_, k0⟩, kl⟩ := hP5.kind; have a3 := RowIs.cells partCells_len hrow5 0 _ rfl 3 _ rfl; have af := row_frozen hrow5; have hg5l := (RowIs.lt hrow5 g5 rfl).2; have hR5 : Hid _ := push_row hrow5; clear hrow5))
       go_roundg k
       case measure => omega
       case rel =>
        have hn9 := hn.out
        have hn5' := hn5.out
        simp only [List.length_cons] at hn5'
        refine ⟨(((((hKr.trans hK3 (fun _ _ e => Or.inl e)).trans hK4 (May.of hNb)).grown hgr5 (fun k e => Or.inl (by have := Option.some.inj e; simp at this; omega))).setCell (p := ⟨g5, 3, none⟩) (Or.inl hg5b) _)), k - 1, acc ++ [ps], u2, l3, ns2, nb4, g5, n5, c5, by omega, by simp; omega, rfl, hP5.setOther _ hrg5 hg5n, .inr H44.out, HNb4 _ _ hNb4 hs3, hl3, hR5.out, hg5n, ?_, by omega, ?_, ?_⟩
        ·show n5 = (acc ++ [ps]).flatten.length + 1
         rw [List.flatten_append, List.length_append]; simp only [List.flatten_cons, List.flatten_nil, List.append_nil]; omega
        ·rw [List.length_append]; simp only [List.length_cons, List.length_nil]; omega
        ·show _ = Rf.argsS (Rf.termS f) (k - 1 + 1) (acc ++ [ps]) l3 ns2
         rw [show k - 1 + 1 = k by omega]; exact HW.out
     ·have H44 : Hid (u2.k ≠ 44) := Rf.kindOf_n7 c7
      have HW : Hid (Rf.argsS (Rf.termS f) 4 [] l ns = .error (Rf.errOf u2 2)) := by
       unfold Hid; rw [hwant.out, Rf.argsS, HR.out]; simp only []; rw [if_neg H44.out, if_neg Hn41.out]
      go_wp2_with (first
       | (go_at_call 46; refine (step_any _ r text nb1 u1 l1 ns1 HP.out H10.out H163.out).mono ?_; rintro e w3 ⟨rfl, hP3, hK3⟩)
       | (go_at_call 88; refine (HI.out r text nb1 l1 ns1 _ hP3 hl1).mono ?_; rintro x w4 ⟨hK4, hm⟩; rw [HR.out] at hm; obtain ⟨g4, n4, c4, nb4, rfl, hP4, hNb4, hT4, hng4⟩ := hm; have hs3 := hK3.size; have hs4 := hK4.size; have hgl := PTerm.lt HT.out; have hT34 := PTerm.over HT.out hrl hng hK3 hK4)
       | (at_builtin; refine wpList_appsN Tryz.elemPart partCells partCells_len partCells_one _ rfl (.tmp 29) (.tmp 30) rfl w.heap.size _ (⟨3, t.s, 0, acc.length⟩ :: acc.flatten) rfl hT34 g4 n4 c4 ps hpos rfl hT4 ?_ ?_ ?_; have := hn.out; simp only [List.length_cons]; omega; omega; intro g5 n5 c5 w5 hn5 hn51 hrow5 hgr5 hnb5; obtain ⟨hg5r, hrg5, hg5b, hg5n, hP5⟩ := push_arg hP4 hT34 hrl (hNb4.ne hng (by omega)) hgr5 hnb5; obtain ⟨k1, ⟨_, k0⟩, kl⟩ := hP5.kind; have a3 := RowIs.cells partCells_len hrow5 0 _ rfl 3 _ rfl; have af := row_frozen hrow5; have hg5l := (RowIs.lt hrow5 g5 rfl).2; have hR5 : Hid _ := push_row hrow5; clear hrow5)
       | (go_at_call 64; refine (refuse_any _ r text nb4 u2 l3 ns2 2 (hP5.setOther _ hrg5 hg5n) (by decide)).mono ?_; rintro e w7 ⟨rfl, hE7, hK7⟩))
      refine bodyPost_ret (v := .tuple #[.slice none 0 0, .bool false]) (by simp [results, Tryz.results109, go_sem]) rfl ?_
      rw [pnameS_err HU.out HW.out]
      exact ⟨(((((hKr.trans hK3 (fun _ _ e => Or.inl e)).trans hK4 (May.of hNb)).grown hgr5 (fun k e => Or.inl (by have := Option.some.inj e; simp at this; omega))).setCell (p := ⟨g5, 3, none⟩) (Or.inl hg5b) _)).trans hK7 (fun _ _ e => Or.inl e), rfl, hE7⟩
    ·have H41 : Hid (u2.k = 41) := Rf.kindOf_6 c6
     have H20 : Hid (u2.k ≠ 0) := by unfold Hid; rw [H41.out]; decide
     have H263 : Hid (u2.k ≠ 63) := by unfold Hid; rw [H41.out]; decide
     have HW : Hid (Rf.argsS (Rf.termS f) 4 [] l ns = .ok (acc ++ [ps], l3, ns2)) := by
      unfold Hid; rw [hwant.out, Rf.argsS, HR.out]; simp only []; rw [if_neg (by rw [H41.out]; decide), if_pos H41.out]
     go_wp2_with (first
       | (go_at_call 46; refine (step_any _ r text nb1 u1 l1 ns1 HP.out H10.out H163.out).mono ?_; rintro e w3 ⟨rfl, hP3, hK3⟩)
       | (go_at_call 88; refine (HI.out r text nb1 l1 ns1 _ hP3 hl1).mono ?_; rintro x w4 ⟨hK4, hm⟩; rw [HR.out] at hm; obtain ⟨g4, n4, c4, nb4, rfl, hP4, hNb4, hT4, hng4⟩ := hm; have hs3 := hK3.size; have hs4 := hK4.size; have hgl := PTerm.lt HT.out; have hT34 := PTerm.over HT.out hrl hng hK3 hK4)
       | (at_builtin; refine wpList_appsN Tryz.elemPart partCells partCells_len partCells_one _ rfl (.tmp 29) (.tmp 30) rfl w.heap.size _ (⟨3, t.s, 0, acc.length⟩ :: acc.flatten) rfl hT34 g4 n4 c4 ps hpos rfl hT4 ?_ ?_ ?_; have := hn.out; simp only [List.length_cons]; omega; omega; intro g5 n5 c5 w5 hn5 hn51 hrow5 hgr5 hnb5; obtain ⟨hg5r, hrg5, hg5b, hg5n, hP5⟩ := push_arg hP4 hT34 hrl (hNb4.ne hng (by omega)) hgr5 hnb5; obtain ⟨k1, ⟨_, k0⟩, kl⟩ := hP5.kind; have a3 := RowIs.cells partCells_len hrow5 0 _ rfl 3 _ rfl; have af := row_frozen hrow5; have hg5l := (RowIs.lt hrow5 g5 rfl).2; have hR5 : Hid _ := push_row hrow5; clear hrow5)
       | (go_at_call 46; refine (step_any _ r text nb4 u2 l3 ns2 (hP5.setOther _ hrg5 hg5n) H20.out H263.out).mono ?_; rintro e w7 ⟨rfl, hP7, hK7⟩))
     refine bodyPost_ret (v := .tuple #[.slice (some ⟨g5, 0, none⟩) n5 c5, .bool true]) (by simp [results, Tryz.results109, go_sem]) rfl ?_
     rw [pnameS_ok HU.out HW.out]
     exact ⟨(((((hKr.trans hK3 (fun _ _ e => Or.inl e)).trans hK4 (May.of hNb)).grown hgr5 (fun k e => Or.inl (by have := Option.some.inj e; simp at this; omega))).setCell (p := ⟨g5, 3, none⟩) (Or.inl hg5b) _)).trans hK7 (fun _ _ e => Or.inl e), g5, n5, c5, nb4, rfl, hP7, HNb4 _ _ hNb4 hs3, PTerm.keptBy hR5.out hK7 hg5r, hg5n⟩
end Go.Proofs.YtbiojnljihgpoaaGreatDoor
