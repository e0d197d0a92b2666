
import Derived.Test.YtbiojnljihgpoaaGreatDoorZaj
namespace Rf
theorem SeOk.v {S : Se} (h : SeOk S) (hL : LsOk S) : ∀ c ∈ S.cls, ClR c /\ c.vars <= 16 /\ (lineL c).size <= 400 := fun c hc => ⟨(h.cls c hc).1, (h.cls c hc).2.1, hL c hc⟩
theorem SeOk.q' {S : Se} (h : SeOk S) (hL : LsOk S) : ∀ c ∈ S.cls, ClQ c := fun c hc => clR_Q (h.cls c hc).1 (h.cls c hc).2.1 (hL c hc)
theorem SeOk.nn {S : Se} (h : SeOk S) (hL : LsOk S) : ∀ c ∈ S.cls, ClNn c /\ (topP c.head).kind ≠ 1 := by
 intro c hc
 have hG := (h.cls c hc).2.2
 refine ⟨⟨fun p hp hk => ((hG.hd.2 p hp).2.1 hk).1, fun t ht p hp hk => (((hG.bd t ht).2 p hp).2.1 hk).1⟩, ?_⟩
 rw [(h.q' hL c hc).top]; decide
structure NamesV (names : List ByteArray) : Prop where
 n16 : names.length <= 16
 ok : ∀ W ∈ names, VrOk W /\ isNamedB W = true
 nd : names.Nodup
theorem reply_V {S : Se} (hS : SeOk S) (hL : LsOk S) {names : List ByteArray} (hN : NamesV names) {r : Int × Cf} (h : Kep S.cls names.length 0 r) (hQ : PlQ S.cls r) : SeV (replyS S names (playN S.cls S.lim r)).2 := by
 unfold replyS
 split
 ·rename_i h1
  have hl := hS.l2
  obtain ⟨t', o, a1, a2, a3⟩ := playN_ind (P := Kep S.cls names.length) (fun _ _ h => kep_again hS.g hS.k h) (fun _ _ h hne => kep_take hS.g hS.k h hne) S.lim 0 r h
  have han := play_answer hS.k S.lim 0 r h.inv (by omega) h.out h1
  have hI := play_Q (hS.q' hL) S.lim hQ
  refine ⟨hS.cl, hS.v hL, fun q hq => ?_⟩
  simp only [Option.some.injEq] at hq
  subst hq
  refine ⟨hN.n16, hN.ok, hN.nd, by simp only [List.length_map]; exact a2.cf.len, ?_⟩
  refine ren_chs (hS.nn hL) hI (fun d hd => ?_)
  obtain ⟨n1, n2, n3, g, gs, n4, _⟩ := han.2 d hd
  exact ⟨n1, n2, by rw [n4]; simp, a2.tm.2 d hd, stG_vars (a2.cf.chs d hd).1⟩
 ·exact ⟨hS.cl, hS.v hL, fun q hq => by cases hq⟩
theorem more_V {S : Se} (hS : SeOk S) (hL : LsOk S) (hV : SeV S) : SeV (moreS S).2 := by
 unfold moreS
 split
 ·exact hV
 ·rename_i q hq
  have h := hS.q q hq
  have hv := hV.q q hq
  exact reply_V hS hL ⟨hv.n16, hv.names, hv.nd⟩ (next_kep hS h) ⟨chsV_I hv.chs, fun e => by simp at e⟩
theorem stop_V {S : Se} (hS : SeOk S) (hL : LsOk S) : SeV (stopS S) := ⟨hS.cl, hS.v hL, fun q hq => by cases hq⟩
def VrU (W : ByteArray) : Prop := W = under \/ VrOk W
def Nv (l : List Tok) : Prop := ∀ t ∈ l, t.k = 118 -> VrU t.s
structure NsW (ns : List ByteArray) : Prop where
 ok : ∀ y ∈ ns, VrU y
 nd : (ns.filter (fun y => decide (y ≠ under))).Nodup
theorem tokenAt_nv (s : ByteArray) (n : Nat) (hn : n < s.size) (h : (tokenAt s n).k = 118) : VrU (tokenAt s n).s := by
 unfold tokenAt at h ⊢
 have hnum : ∀ neg W, (numTok n neg W).k ≠ 118 := fun neg W => by unfold numTok; split <;> (try split) <;> simp [bad]
 split at h
 ·exact absurd h (hnum _ _)
 rename_i h1
 rw [if_neg h1]
 split at h
 ·exact absurd h (hnum _ _)
 rename_i h2
 rw [if_neg h2]
 split at h
 ·rename_i h3
  rw [if_pos h3]
  unfold wordTok at h ⊢
  split at h
  ·simp [bad] at h
  ·rename_i h4
   rw [if_neg h4]
   split at h
   ·simp at h
   ·rename_i h5
    rw [if_neg h5]
    show VrU (runS s false n)
    by_cases hu : runS s false n = under
    ·exact .inl hu
    have hl : 1 <= runLen s false n := by rw [runLen_yes s false n hn (by simp [okB, h3])]; omega
    have hsz : (bs (runS s false n)).length = runLen s false n := by rw [bs_len, runS_size]
    cases hb : bs (runS s false n) with
    | nil => rw [hb] at hsz; simp at hsz; omega
    | cons c W =>
     have hc : c = s[n] := by
      have h9 : bs (runS s false n) = (s.data.toList.drop n).take (runLen s false n) := by unfold bs runS; rw [extract_list, show n + runLen s false n - n = runLen s false n by omega]
      rw [hb, drop_cons s n hn] at h9
      obtain ⟨k, hk⟩ : ∃ k, runLen s false n = k + 1 := ⟨_, (Nat.sub_add_cancel hl).symm⟩
      rw [hk, List.take_succ_cons] at h9
      injection h9
     refine .inr ⟨⟨c, W, hb, ?_, ?_, ?_, ?_⟩, hu⟩
     ·rw [hc, byteAt_eq s n hn]; exact h5
     ·rw [hc, byteAt_eq s n hn]; simpa using h2
     ·intro x hx; rw [<- hb] at hx; exact run_letters s n x hx
     ·rw [<- hb, bs_len]; omega
 ·rename_i h3
  split at h
  ·rename_i h4
   simp only at h
   rw [h] at h4; exact absurd h4 (by decide)
  ·split at h
   ·simp at h
   ·simp [bad] at h
theorem toks_nv (s : ByteArray) : ∀ (f n : Nat), Nv (toks s f n)
 | 0, n => fun t ht h => by simp [toks] at ht; subst ht; simp [endTok] at h
 | f + 1, n => by
  rw [toks]
  split
  ·rename_i hlt
   split
   ·exact toks_nv s f _
   ·split
    ·intro t ht h; simp at ht; subst ht; exact tokenAt_nv s n hlt h
    ·intro t ht h
     rcases List.mem_cons.1 ht with rfl | ht
     ·exact tokenAt_nv s n hlt h
     ·exact toks_nv s f _ t ht h
  ·intro t ht h; simp at ht; subst ht; simp [endTok] at h
theorem varS_nv {t : Tok} {ns ns' : List ByteArray} {i : Nat} (h : varS t ns = .ok (i, ns')) (ht : VrU t.s) (hn : NsW ns) : NsW ns' := by
 unfold varS at h
 split at h
 ·simp only [Except.ok.injEq, Prod.mk.injEq] at h; obtain ⟨_, rfl⟩ := h; exact hn
 ·rename_i hlk
  split at h
  ·cases h
  ·simp only [Except.ok.injEq, Prod.mk.injEq] at h
   obtain ⟨_, rfl⟩ := h
   refine ⟨?_, ?_⟩
   ·intro y hy
    rcases List.mem_append.1 hy with hy | hy
    ·exact hn.ok y hy
    ·simp at hy; subst hy; exact ht
   ·rw [List.filter_append]
    by_cases hu : t.s = under
    ·have e : [t.s].filter (fun y => decide (y ≠ under)) = [] := by simp [hu]
     rw [e, List.append_nil]; exact hn.nd
    ·have e : [t.s].filter (fun y => decide (y ≠ under)) = [t.s] := by simp [hu]
     rw [e, List.nodup_append]
     refine ⟨hn.nd, by simp, ?_⟩
     intro a ha b hb
     simp at hb
     subst hb
     intro hab
     subst hab
     unfold lookS at hlk
     rw [if_neg hu, List.findIdx?_eq_none_iff] at hlk
     have := hlk t.s (List.mem_filter.1 ha).1
     simp at this
def ReadsV (rd : List Tok -> List ByteArray -> Except (Int × Nat) (List Part × List Tok × List ByteArray)) : Prop := ∀ l ns p l1 ns1, Nv l -> NsW ns -> rd l ns = .ok (p, l1, ns1) -> Nv l1 /\ NsW ns1
theorem Nv.tail {t : Tok} {l : List Tok} (h : Nv (t :: l)) : Nv l := fun u hu => h u (List.mem_cons_of_mem _ hu)
theorem argsS_nv (rd : List Tok -> List ByteArray -> Except (Int × Nat) (List Part × List Tok × List ByteArray)) (h : ReadsV rd) :
  ∀ (k : Nat) (acc : List (List Part)) (l : List Tok) (ns : List ByteArray) (a1 : List (List Part)) (l2 : List Tok) (ns2 : List ByteArray), Nv l -> NsW ns -> argsS rd k acc l ns = .ok (a1, l2, ns2) -> Nv l2 /\ NsW ns2
 | 0, _, _, _, _, _, _, _, _, e => by simp [argsS] at e
 | k + 1, acc, l, ns, a1, l2, ns2, hl, hn, e => by
  rw [argsS] at e
  cases hr : rd l ns with
  | error x => rw [hr] at e; cases e
  | ok x =>
   obtain ⟨p, l1, ns1⟩ := x
   obtain ⟨g1, g2⟩ := h l ns p l1 ns1 hl hn hr
   rw [hr] at e
   cases l1 with
   | nil => cases e
   | cons u l3 =>
    simp only at e
    split at e
    ·split at e
     ·cases e
     ·exact argsS_nv rd h k _ l3 ns1 a1 l2 ns2 g1.tail g2 e
    ·split at e
     ·simp only [Except.ok.injEq, Prod.mk.injEq] at e
      obtain ⟨rfl, rfl, rfl⟩ := e
      exact ⟨g1.tail, g2⟩
     ·cases e
theorem termS_nv : ∀ (f : Nat), ReadsV (termS f)
 | 0 => fun _ _ _ _ _ _ _ e => by simp [termS] at e
 | f + 1 => fun l ns p l1 ns1 h hn e => by
  cases l with
  | nil => simp [termS] at e
  | cons t l =>
  rw [termS] at e
  split at e
  ·rename_i h118
   unfold varT at e
   split at e
   ·cases e
   ·rename_i i ns' hv
    have hg := varS_nv hv (h t (by simp) h118) hn
    simp only [Except.ok.injEq, Prod.mk.injEq] at e
    obtain ⟨rfl, rfl, rfl⟩ := e
    exact ⟨h.tail, hg⟩
  ·split at e
   ·simp only [Except.ok.injEq, Prod.mk.injEq] at e
    obtain ⟨rfl, rfl, rfl⟩ := e
    exact ⟨h.tail, hn⟩
   ·split at e
    ·cases l with
     | nil => cases e
     | cons u l' =>
      simp only [nameS] at e
      split at e
      ·cases ha : argsS (termS f) 4 [] l' ns with
       | error x => rw [ha] at e; cases e
       | ok x =>
        obtain ⟨a1, l2, ns2⟩ := x
        rw [ha] at e
        simp only [Except.ok.injEq, Prod.mk.injEq] at e
        obtain ⟨rfl, rfl, rfl⟩ := e
        exact argsS_nv (termS f) (termS_nv f) 4 [] l' ns a1 l2 ns2 h.tail.tail hn ha
      ·simp only [Except.ok.injEq, Prod.mk.injEq] at e
       obtain ⟨rfl, rfl, rfl⟩ := e
       exact ⟨h.tail, hn⟩
    ·cases e
theorem goalS_nv (f : Nat) : ReadsV (goalS f) := fun l ns p l1 ns1 h hn e => by
 cases l with
 | nil => simp [goalS] at e
 | cons t l =>
  simp only [goalS] at e
  split at e
  ·simp only [Except.ok.injEq, Prod.mk.injEq] at e
   obtain ⟨rfl, rfl, rfl⟩ := e
   exact ⟨h.tail, hn⟩
  ·cases hr : termS f (t :: l) ns with
   | error x => rw [hr] at e; cases e
   | ok x =>
    obtain ⟨p', l', ns'⟩ := x
    rw [hr] at e
    simp only at e
    split at e
    ·simp only [Except.ok.injEq, Prod.mk.injEq] at e
     obtain ⟨rfl, rfl, rfl⟩ := e
     exact termS_nv f _ _ _ _ _ h hn hr
    ·cases e
theorem goalsP_nv (f : Nat) : ∀ (k : Nat) (acc : List (List Part)) (l : List Tok) (ns : List ByteArray) (a1 : List (List Part)) (l2 : List Tok) (ns2 : List ByteArray),
  Nv l -> NsW ns -> goalsP f k acc l ns = .ok (a1, l2, ns2) -> NsW ns2
 | 0, _, _, _, _, _, _, _, _, e => by simp [goalsP] at e
 | k + 1, acc, l, ns, a1, l2, ns2, hl, hn, e => by
  rw [goalsP] at e
  cases hr : goalS f l ns with
  | error x => rw [hr] at e; cases e
  | ok x =>
   obtain ⟨p, l1, ns1⟩ := x
   obtain ⟨g1, g2⟩ := goalS_nv f l ns p l1 ns1 hl hn hr
   rw [hr] at e
   cases l1 with
   | nil => cases e
   | cons u l3 =>
    simp only at e
    split at e
    ·split at e
     ·cases e
     ·exact goalsP_nv f k _ l3 ns1 a1 l2 ns2 g1.tail g2 e
    ·simp only [Except.ok.injEq, Prod.mk.injEq] at e
     obtain ⟨rfl, rfl, rfl⟩ := e
     exact g2
theorem questS_names {s : ByteArray} {gs : List (List Part)} {ns : List ByteArray} (h : questS s = .ok (gs, ns)) : NsW ns := by
 unfold questS at h
 split at h
 ·cases h
 ·unfold questP at h
  cases hr : goalsP (tokens s).length 8 [] (tokens s) [] with
  | error e => rw [hr] at h; cases h
  | ok x =>
   obtain ⟨g1, l1, n1⟩ := x
   have hz := goalsP_nv _ _ _ _ _ _ _ _ (toks_nv s _ _) ⟨(fun y hy => by simp at hy), by simp⟩ hr
   rw [hr] at h
   simp only at h
   split at h
   ·cases h
   ·split at h
    ·split at h
     ·cases h
     ·split at h
      ·simp only [Except.ok.injEq, Prod.mk.injEq] at h; obtain ⟨rfl, rfl⟩ := h
       exact hz
      ·cases h
    ·cases h
theorem named_filter : ∀ (i : Nat) (ns : List ByteArray), (namedFrom i ns).map (·.1) = ns.filter isNamedB
 | _, [] => rfl
 | i, n :: ns => by
  rw [namedFrom, List.map_append, named_filter (i + 1) ns, List.filter_cons]
  split <;> rfl
theorem under_not : isNamedB under = false := by decide
theorem begin_names {s : ByteArray} {gs : List (List Part)} {ns : List ByteArray} (h : questS s = .ok (gs, ns)) (h16 : ns.length <= 16) : NamesV (beginN ns) := by
 have hz := questS_names h
 have e : beginN ns = ns.filter isNamedB := named_filter 0 ns
 rw [e]
 refine ⟨Nat.le_trans (List.length_filter_le _ _) h16, fun W hW => ?_, ?_⟩
 ·obtain ⟨h1, h2⟩ := List.mem_filter.1 hW
  refine ⟨?_, h2⟩
  rcases hz.ok W h1 with hu | hv
  ·rw [hu, under_not] at h2; cases h2
  ·exact hv
 ·have e2 : ns.filter isNamedB = (ns.filter (fun y => decide (y ≠ under))).filter isNamedB := by
   rw [List.filter_filter]
   apply List.filter_congr
   intro y _
   by_cases hy : y = under
   ·rw [hy, under_not]; rfl
   ·simp [hy]
  rw [e2]
  exact hz.nd.filter _
theorem ask_V {S : Se} (hS : SeOk S) (hL : LsOk S) (text : ByteArray) : SeV (askS S text).2 := by
 have none_V : SeV ⟨S.lim, S.cls, none⟩ := stop_V hS hL
 unfold askS
 split
 ·exact none_V
 ·rename_i gs ns hq
  have hR := questS_read hq
  obtain ⟨h16, hK⟩ := begin_kep (S := S) hR (questS_good hq)
  unfold firstS
  split
  ·exact none_V
  ·rename_i hs
   exact reply_V hS hL (begin_names hq h16) hK (begin_Q hR hs)
structure SeW (S : Se) : Prop where
 ok : SeOk S
 ls : LsOk S
 v : SeV S
theorem consult_V {S : Se} (h : SeW S) (s : ByteArray) : SeV (consultS S s).2 := by
 have h1 := consult_ok h.ok s
 have h2 := move_ls h.ls ⟨1, s⟩
 have e : (moveS S ⟨1, s⟩).2 = (consultS S s).2 := rfl
 rw [e] at h2
 exact ⟨h1.cl, h1.v h2, fun q hq => by cases hq⟩
theorem move_V {S : Se} (h : SeW S) (m : MoveV) : SeV (moveS S m).2 := by
 unfold moveS
 split
 ·exact consult_V h _
 ·split
  ·exact ask_V h.ok h.ls _
  ·split
   ·exact more_V h.ok h.ls h.v
   ·split
    ·exact stop_V h.ok h.ls
    ·split
     ·exact h.v
     ·exact h.v
theorem none_ok {S : Se} (h : SeOk S) : SeOk ⟨S.lim, S.cls, none⟩ := ⟨h.l1, h.l2, h.cl, h.cls, fun q hq => by cases hq⟩
theorem ask_okP {S : Se} (hS : SeOk S) (text : ByteArray) : SeOk (askS S text).2 := by
 unfold askS
 split
 ·exact none_ok hS
 ·rename_i gs ns hq
  obtain ⟨h16, hK⟩ := begin_kep (S := S) (questS_read hq) (questS_good hq)
  have hN := begin_names hq h16
  unfold firstS
  split
  ·exact none_ok hS
  ·exact reply_ok hS hN.n16 (questS_nz hq) hK
theorem move_okP {S : Se} (h : SeOk S) (m : MoveV) : SeOk (moveS S m).2 := by
 unfold moveS
 split
 ·exact consult_ok h _
 ·split
  ·exact ask_okP h _
  ·split
   ·exact more_ok h
   ·split
    ·exact stop_ok h
    ·split
     ·exact h
     ·exact h
theorem move_W {S : Se} (h : SeW S) (m : MoveV) : SeW (moveS S m).2 := ⟨move_okP h.ok m, move_ls h.ls m, move_V h m⟩
theorem moved_W : ∀ (l : List MoveV) {S : Se}, SeW S -> SeW (movedS S l).2
 | [], _, h => h
 | m :: l, _, h => moved_W l (move_W h m)
theorem new_W {lim : Nat} (h1 : 1 <= lim) (h2 : lim <= 1000) : SeW ⟨lim, [], none⟩ :=
 ⟨⟨h1, h2, by simp, (fun c hc => by cases hc), fun q hq => by cases hq⟩, (fun c hc => by cases hc), ⟨by simp, (fun c hc => by cases hc), fun q hq => by cases hq⟩⟩
def RdrOk (r : Rdr) : Prop := r.wrong = true -> r.rest = []
theorem refuse_ok : RdrOk refuse := fun _ => rfl
theorem numR_facts (most : Nat) : ∀ (l : List UInt8) (v s : Nat), v <= most -> 1 <= s -> (numR most l v s).1 <= most /\ RdrOk (numR most l v s).2 /\ (numR most l v s).2.rest.length <= l.length
 | [], v, s, _, _ => ⟨Nat.zero_le _, fun _ => rfl, Nat.le_refl _⟩
 | d :: l, v, s, hv, hs => by
  rw [numR]
  split
  ·exact ⟨Nat.zero_le _, fun _ => rfl, Nat.zero_le _⟩
  ·rename_i h1
   have h2 : d.toNat % 128 * s <= most - v := (Nat.le_div_iff_mul_le (by omega)).1 (by omega)
   split
   ·refine ⟨by show v + d.toNat % 128 * s <= most; omega, (fun e => by cases e), ?_⟩
    show l.length <= (d :: l).length
    simp
   ·split
    ·exact ⟨Nat.zero_le _, fun _ => rfl, Nat.zero_le _⟩
    ·have := numR_facts most l (v + d.toNat % 128 * s) (s * 128) (by omega) (by omega)
     refine ⟨this.1, this.2.1, ?_⟩
     have h3 := this.2.2
     simp
     omega
theorem numL_eq {most : Nat} {r : Rdr} (h : RdrOk r) : numL most r = numR most r.rest 0 1 := by
 unfold numL
 split
 ·rename_i hw
  rw [h hw, numR]
 ·rfl
theorem numL_le (most : Nat) (r : Rdr) : (numL most r).1 <= most := by
 unfold numL
 split
 ·exact Nat.zero_le _
 ·exact (numR_facts most r.rest 0 1 (Nat.zero_le _) (Nat.le_refl _)).1
theorem numL_ok (most : Nat) (r : Rdr) : RdrOk (numL most r).2 := by
 unfold numL
 split
 ·exact refuse_ok
 ·exact (numR_facts most r.rest 0 1 (Nat.zero_le _) (Nat.le_refl _)).2.1
theorem numL_wrong {most : Nat} {r : Rdr} (h : (numL most r).2.wrong = false) : r.wrong = false := by
 unfold numL at h
 split at h
 ·cases h
 ·rename_i hw
  exact Bool.eq_false_iff.2 hw
theorem wordL_ok {most : Nat} {r : Rdr} : RdrOk (wordL most r).2 := by
 unfold wordL
 split
 ·exact refuse_ok
 ·intro hw
  have : (numL most r).2.rest = [] := numL_ok most r hw
  show ((numL most r).2.rest.drop _) = []
  rw [this]; simp
theorem wordL_size (most : Nat) (r : Rdr) : (wordL most r).1.size <= most := by
 unfold wordL
 split
 ·exact Nat.zero_le _
 ·have := numL_le most r
  show ((numL most r).2.rest.take _).toArray.size <= _
  rw [List.size_toArray, List.length_take]; omega
theorem wordL_wrong {most : Nat} {r : Rdr} (h : (wordL most r).2.wrong = false) : r.wrong = false := by
 unfold wordL at h
 split at h
 ·cases h
 ·exact numL_wrong h
def PartI (f : Nat) (p : Part) : Prop := PartG f p /\ p.kind ≠ 4
theorem PartI.mono {f f' : Nat} {p : Part} (h : PartI f p) (hf : f <= f') : PartI f' p := ⟨h.1.mono (by omega), h.2⟩
theorem varL_facts (L : Ldr) : (varL L).1 <= L.fresh /\ (varL L).1 < (varL L).2.fresh /\ L.fresh <= (varL L).2.fresh /\ (varL L).2.fresh <= L.fresh + 1 := by
 have h := numL_le L.fresh L.r
 unfold varL
 refine ⟨h, ?_, ?_, ?_⟩
 ·show (numL L.fresh L.r).1 < if (numL L.fresh L.r).1 = L.fresh then L.fresh + 1 else L.fresh
  split <;> omega
 ·show L.fresh <= if (numL L.fresh L.r).1 = L.fresh then L.fresh + 1 else L.fresh
  split <;> omega
 ·show (if (numL L.fresh L.r).1 = L.fresh then L.fresh + 1 else L.fresh) <= L.fresh + 1
  split <;> omega
theorem partL_facts (L : Ldr) : PartI (partL L).2.fresh (partL L).1 /\ L.fresh <= (partL L).2.fresh /\ (partL L).2.fresh <= L.fresh + 1 /\ RdrOk (partL L).2.r /\ ((partL L).2.r.wrong = false -> L.r.wrong = false) /\ (partL L).2.height = L.height := by
 have h6 := numL_le 6 L.r
 unfold partL
 split
 ·have h := varL_facts ⟨(numL 6 L.r).2, L.fresh, L.height⟩
  refine ⟨⟨⟨⟨Int.le_refl 0, by show (0 : Int) <= 4; omega⟩, fun _ => ⟨by show (0 : Int) <= ((varL _).1 : Nat); omega, ?_⟩, (fun e => by cases e), by show (0 : Nat) <= 12; omega⟩, by show (1 : Int) ≠ 4; decide⟩, h.2.2.1, h.2.2.2, numL_ok _ _, fun e => numL_wrong (numL_wrong e), rfl⟩
  show (((varL _).1 : Nat) : Int) < ((varL _).2.fresh : Nat)
  have := h.2.1
  omega
 ·split
  ·have h := numL_le 1999999998 (numL 6 L.r).2
   refine ⟨⟨⟨⟨Int.le_refl 0, by show (0 : Int) <= 4; omega⟩, (fun e => by cases e), (fun _ => ?_), by show (0 : Nat) <= 12; omega⟩, by show (2 : Int) ≠ 4; decide⟩, Nat.le_refl _, Nat.le_succ _, numL_ok _ _, fun e => numL_wrong (numL_wrong e), rfl⟩
   show -999999999 <= ((numL 1999999998 (numL 6 L.r).2).1 : Int) - 999999999 /\ ((numL 1999999998 (numL 6 L.r).2).1 : Int) - 999999999 <= 999999999
   omega
  ·rename_i h5 hh6
   refine ⟨⟨⟨⟨?_, ?_⟩, (fun e => by cases e), (fun e => by cases e), wordL_size 12 _⟩, by show (3 : Int) ≠ 4; decide⟩, Nat.le_refl _, Nat.le_succ _, ?_, fun e => ?_, rfl⟩
   ·show (0 : Int) <= ((numL 6 L.r).1 : Nat); omega
   ·show (((numL 6 L.r).1 : Nat) : Int) <= 4; omega
   ·show RdrOk (if isTokB (wordL 12 (numL 6 L.r).2).1 97 = true then (wordL 12 (numL 6 L.r).2).2 else refuse)
    split
    ·exact wordL_ok
    ·exact refuse_ok
   ·have e2 : (if isTokB (wordL 12 (numL 6 L.r).2).1 97 = true then (wordL 12 (numL 6 L.r).2).2 else refuse).wrong = false := e
    split at e2
    ·exact numL_wrong (wordL_wrong e2)
    ·cases e2
theorem over_facts (t : List Part) (L : Ldr) (h : RdrOk L.r) : RdrOk (over t L).r /\ (over t L).fresh = L.fresh /\ (over t L).height = L.height /\ ((over t L).r.wrong = false -> L.r.wrong = false /\ t.length <= 200) /\ (200 < t.length -> (over t L).r.wrong = true) := by
 unfold over
 split
 ·exact ⟨refuse_ok, rfl, rfl, fun e => (by cases e), fun _ => rfl⟩
 ·exact ⟨h, rfl, rfl, fun e => ⟨e, by omega⟩, fun e => absurd e (by assumption)⟩
theorem termL_facts : ∀ (f : Nat) (m : Int) (t : List Part) (L : Ldr), RdrOk L.r -> (∀ p ∈ t, PartI L.fresh p) -> (200 < t.length -> L.r.wrong = true) -> t.length <= 201 ->
  (∀ p ∈ (termL f m t L).1, PartI (termL f m t L).2.fresh p) /\ L.fresh <= (termL f m t L).2.fresh /\ (termL f m t L).2.fresh + t.length <= L.fresh + (termL f m t L).1.length /\ RdrOk (termL f m t L).2.r /\ (termL f m t L).1.length <= 201 /\ (200 < (termL f m t L).1.length -> (termL f m t L).2.r.wrong = true) /\ ((termL f m t L).2.r.wrong = false -> L.r.wrong = false) /\ (termL f m t L).2.height = L.height
 | 0, m, t, L, h, hp, hl, hl2 => ⟨hp, Nat.le_refl _, Nat.le_refl _, h, hl2, hl, fun e => e, rfl⟩
 | f + 1, m, t, L, h, hp, hl, hl2 => by
  rw [termL]
  split
  ·rename_i hc
   obtain ⟨p1, p2, p3, p4, p5, p6⟩ := partL_facts L
   obtain ⟨o1, o2, o3, o4, o5⟩ := over_facts (t ++ [(partL L).1]) (partL L).2 p4
   have ht : t.length <= 200 := by
    have : ¬ 200 < t.length := fun e => by have := hl e; rw [hc.2] at this; cases this
    omega
   have ih := termL_facts f (m + (partL L).1.args - 1) (t ++ [(partL L).1]) (over (t ++ [(partL L).1]) (partL L).2) o1 (fun p hq => by
    rw [o2]
    rcases List.mem_append.1 hq with hq | hq
    ·exact (hp p hq).mono p2
    ·rw [List.mem_singleton] at hq; subst hq; exact p1) o5 (by simp; omega)
   obtain ⟨i1, i2, i3, i4, i5, i6, i7, i8⟩ := ih
   rw [o2] at i2 i3
   rw [o3] at i8
   rw [List.length_append, List.length_singleton] at i3
   exact ⟨i1, by omega, by omega, i4, i5, i6, fun e => p5 (o4 (i7 e)).1, i8.trans p6⟩
  ·exact ⟨hp, Nat.le_refl _, Nat.le_refl _, h, hl2, hl, fun e => e, rfl⟩
structure TermI (f : Nat) (t : List Part) : Prop where
 parts : ∀ p ∈ t, PartI f p
 len : t.length <= 201
theorem TermI.mono {f f' : Nat} {t : List Part} (h : TermI f t) (hf : f <= f') : TermI f' t := ⟨fun p hp => (h.parts p hp).mono hf, h.len⟩
theorem TermI.tm {f : Nat} {t : List Part} (h : TermI f t) : TmG f t := ⟨by have := h.len; omega, fun p hp => (h.parts p hp).1⟩
theorem TermI.nocut {f : Nat} {t : List Part} (h : TermI f t) : NoCut t := fun p hp => (h.parts p hp).2
theorem term1 (L : Ldr) (h : RdrOk L.r) : TermI (termL 202 1 [] L).2.fresh (termL 202 1 [] L).1 /\ L.fresh <= (termL 202 1 [] L).2.fresh /\ (termL 202 1 [] L).2.fresh <= L.fresh + 201 /\ RdrOk (termL 202 1 [] L).2.r /\ ((termL 202 1 [] L).2.r.wrong = false -> L.r.wrong = false) /\ (termL 202 1 [] L).2.height = L.height /\ ((termL 202 1 [] L).2.r.wrong = false -> (termL 202 1 [] L).1.length <= 200) := by
 obtain ⟨i1, i2, i3, i4, i5, i6, i7, i8⟩ := termL_facts 202 1 [] L h (fun p hp => by cases hp) (fun e => by simp at e) (by simp)
 have e0 : ([] : List Part).length = 0 := rfl
 rw [e0] at i3
 exact ⟨⟨i1, i5⟩, i2, by omega, i4, i7, i8, fun e => by
  have : ¬ 200 < (termL 202 1 [] L).1.length := fun e2 => by have := i6 e2; rw [e] at this; cases this
  omega⟩
structure GoalI (f h : Nat) (g : List Part) : Prop where
 ok : (∃ v : Nat, v <= h /\ g = cutT v) \/ TermI f g
theorem GoalI.mono {f f' h h' : Nat} {g : List Part} (k : GoalI f h g) (hf : f <= f') (hh : h <= h') : GoalI f' h' g := by
 rcases k.ok with ⟨v, hv, e⟩ | k
 ·exact ⟨.inl ⟨v, by omega, e⟩⟩
 ·exact ⟨.inr (k.mono hf)⟩
theorem GoalI.tm {f h : Nat} {g : List Part} (k : GoalI f h g) : TmG f g := by
 rcases k.ok with ⟨v, _, rfl⟩ | k
 ·exact cut_tm f v
 ·exact k.tm
theorem GoalI.k {f h : Nat} {g : List Part} (k : GoalI f h g) : GoalK g := by
 rcases k.ok with ⟨v, _, rfl⟩ | k
 ·exact .inl ⟨_, rfl⟩
 ·exact .inr k.nocut
theorem goalL_facts (L : Ldr) (_h : RdrOk L.r) : GoalI (goalL L).2.fresh L.height (goalL L).1 /\ L.fresh <= (goalL L).2.fresh /\ (goalL L).2.fresh <= L.fresh + 201 /\ RdrOk (goalL L).2.r /\ ((goalL L).2.r.wrong = false -> L.r.wrong = false) /\ (goalL L).2.height <= L.height := by
 have hn := numL_le (L.height + 1) L.r
 unfold goalL
 split
 ·exact ⟨⟨.inl ⟨_, by omega, rfl⟩⟩, Nat.le_refl _, Nat.le_add_right _ _, numL_ok _ _, fun e => numL_wrong e, by show (numL (L.height + 1) L.r).1 - 1 <= L.height; omega⟩
 ·obtain ⟨t1, t2, t3, t4, t5, t6, t7⟩ := term1 ⟨(numL (L.height + 1) L.r).2, L.fresh, L.height⟩ (numL_ok _ _)
  unfold nameGoal
  split
  ·exact ⟨⟨.inr t1⟩, t2, t3, t4, fun e => numL_wrong (t5 e), Nat.le_of_eq t6⟩
  ·exact ⟨⟨.inr t1⟩, t2, t3, refuse_ok, fun e => (by cases e), Nat.le_of_eq t6⟩
theorem goalsL_facts : ∀ (n : Nat) (a : List (List Part)) (L : Ldr) (H : Nat), RdrOk L.r -> L.height <= H -> (∀ g ∈ a, GoalI L.fresh H g) ->
  (∀ g ∈ (goalsL n a L).1, GoalI (goalsL n a L).2.fresh H g) /\ L.fresh <= (goalsL n a L).2.fresh /\ (goalsL n a L).2.fresh <= L.fresh + 201 * n /\ RdrOk (goalsL n a L).2.r /\ (goalsL n a L).1.length <= a.length + n /\ ((goalsL n a L).2.r.wrong = false -> L.r.wrong = false /\ (goalsL n a L).1.length = a.length + n) /\ (goalsL n a L).2.height <= H
 | 0, a, L, H, h, hh, ha => ⟨ha, Nat.le_refl _, Nat.le_refl _, h, Nat.le_refl _, fun e => ⟨e, rfl⟩, hh⟩
 | n + 1, a, L, H, h, hh, ha => by
  rw [goalsL]
  split
  ·rename_i hw
   exact ⟨ha, Nat.le_refl _, Nat.le_add_right _ _, h, Nat.le_add_right _ _, (fun e => by rw [hw] at e; cases e), hh⟩
  ·obtain ⟨g1, g2, g3, g4, g5, g6⟩ := goalL_facts L h
   obtain ⟨i1, i2, i3, i4, i5, i6, i7⟩ := goalsL_facts n (a ++ [(goalL L).1]) (goalL L).2 H g4 (by omega) (fun g hg => by
    rcases List.mem_append.1 hg with hg | hg
    ·exact (ha g hg).mono g2 (Nat.le_refl _)
    ·rw [List.mem_singleton] at hg; subst hg; exact g1.mono (Nat.le_refl _) hh)
   rw [List.length_append, List.length_singleton] at i5 i6
   exact ⟨i1, by omega, by omega, i4, by omega, fun e => ⟨g5 (i6 e).1, by have := (i6 e).2; omega⟩, i7⟩
theorem termsL_facts : ∀ (n : Nat) (a : List (List Part)) (L : Ldr), RdrOk L.r -> (∀ t ∈ a, TermI L.fresh t) ->
  (∀ t ∈ (termsL n a L).1, TermI (termsL n a L).2.fresh t) /\ L.fresh <= (termsL n a L).2.fresh /\ (termsL n a L).2.fresh <= L.fresh + 201 * n /\ RdrOk (termsL n a L).2.r /\ (termsL n a L).1.length = a.length + n /\ ((termsL n a L).2.r.wrong = false -> L.r.wrong = false) /\ (termsL n a L).2.height = L.height
 | 0, a, L, h, ha => by
  rw [termsL]
  split
  ·exact ⟨ha, Nat.le_refl _, Nat.le_refl _, refuse_ok, rfl, fun e => (by cases e), rfl⟩
  ·exact ⟨ha, Nat.le_refl _, Nat.le_refl _, h, rfl, fun e => e, rfl⟩
 | n + 1, a, L, h, ha => by
  rw [termsL]
  obtain ⟨t1, t2, t3, t4, t5, t6, t7⟩ := term1 L h
  obtain ⟨i1, i2, i3, i4, i5, i6, i7⟩ := termsL_facts n (a ++ [(termL 202 1 [] L).1]) (termL 202 1 [] L).2 t4 (fun t ht => by
   rcases List.mem_append.1 ht with ht | ht
   ·exact (ha t ht).mono t2
   ·rw [List.mem_singleton] at ht; subst ht; exact t1)
  rw [List.length_append, List.length_singleton] at i5
  exact ⟨i1, by omega, by omega, i4, by omega, fun e => t5 (i6 e), i7.trans t6⟩
theorem headL_facts (L : Ldr) : (headL L).1 <= 1000 /\ RdrOk (headL L).2.r /\ (headL L).2.fresh = L.fresh /\ (headL L).2.height = L.height /\ ((headL L).2.r.wrong = false -> L.r.wrong = false /\ 1 <= (headL L).1) := by
 have h := numL_le 1000 L.r
 unfold headL
 refine ⟨h, ?_, rfl, rfl, fun e => ?_⟩
 ·show RdrOk (if _ then _ else _)
  split
  ·exact refuse_ok
  ·exact numL_ok _ _
 ·have e2 : (if (numL 1000 L.r).1 = 0 then refuse else (numL 1000 L.r).2).wrong = false := e
  split at e2
  ·cases e2
  ·exact ⟨numL_wrong e2, by show 1 <= (numL 1000 L.r).1; omega⟩
structure StI (n h : Nat) (S : St) : Prop where
 gl : S.goals.length <= 1000
 g : ∀ g ∈ S.goals, GoalI S.fresh.toNat h g
 tl : S.terms.length = n
 t : ∀ t ∈ S.terms, TermI S.fresh.toNat t
 f0 : 0 <= S.fresh
 f1 : S.fresh <= 250000
theorem StI.stg {n h : Nat} {S : St} (k : StI n h S) (hn : n <= 16) : StG 1000 406400 S := by
 have e : ((S.fresh.toNat : Nat) : Int) = S.fresh := Int.toNat_of_nonneg k.f0
 refine ⟨k.gl, by have := k.tl; omega, k.f0, by have := k.f1; omega, fun t ht => ?_, fun t ht => ?_⟩
 ·have := (k.g t ht).tm; rw [e] at this; exact this
 ·have := (k.t t ht).tm; rw [e] at this; exact this
def stL (n h : Nat) (r : Rdr) : St := ⟨(allGoalsL ⟨r, 0, h⟩).1, (termsL n [] (allGoalsL ⟨r, 0, h⟩).2).1, (termsL n [] (allGoalsL ⟨r, 0, h⟩).2).2.fresh⟩
def leftL (n h : Nat) (r : Rdr) : Nat × Rdr := numL 30 (termsL n [] (allGoalsL ⟨r, 0, h⟩).2).2.r
theorem chL_eq (n : Nat) (cls : List Cl) (h : Nat) (r : Rdr) : chL n cls h r = pickCh cls (stL n h r) (leftL n h r).1 (leftL n h r).2 := rfl
theorem allGoals_facts (r : Rdr) (h : Nat) (_hr : RdrOk r) : (∀ g ∈ (allGoalsL ⟨r, 0, h⟩).1, GoalI (allGoalsL ⟨r, 0, h⟩).2.fresh h g) /\ (allGoalsL ⟨r, 0, h⟩).2.fresh <= 201000 /\ RdrOk (allGoalsL ⟨r, 0, h⟩).2.r /\ (allGoalsL ⟨r, 0, h⟩).1.length <= 1000 /\ ((allGoalsL ⟨r, 0, h⟩).2.r.wrong = false -> r.wrong = false /\ 1 <= (allGoalsL ⟨r, 0, h⟩).1.length) /\ (allGoalsL ⟨r, 0, h⟩).2.height <= h := by
 obtain ⟨h1, h2, h3, h4, h5⟩ := headL_facts ⟨r, 0, h⟩
 unfold allGoalsL
 obtain ⟨i1, i2, i3, i4, i5, i6, i7⟩ := goalsL_facts (headL ⟨r, 0, h⟩).1 [] (headL ⟨r, 0, h⟩).2 h h2 (by rw [h4]; exact Nat.le_refl _) (fun g hg => by cases hg)
 have e0 : ([] : List (List Part)).length = 0 := rfl
 rw [h3] at i3
 rw [e0] at i5 i6
 have i3' : (goalsL (headL ⟨r, 0, h⟩).1 [] (headL ⟨r, 0, h⟩).2).2.fresh <= 0 + 201 * (headL ⟨r, 0, h⟩).1 := i3
 refine ⟨i1, by omega, i4, by omega, fun e => ⟨(h5 (i6 e).1).1, ?_⟩, i7⟩
 have := (i6 e).2
 have := (h5 (i6 e).1).2
 omega
theorem stL_facts (n h : Nat) (r : Rdr) (hr : RdrOk r) (hn : n <= 16) : StI n h (stL n h r) /\ RdrOk (leftL n h r).2 /\ (leftL n h r).1 <= 30 /\ ((leftL n h r).2.wrong = false -> r.wrong = false /\ (stL n h r).goals ≠ []) := by
 obtain ⟨g1, g2, g3, g4, g5, g6⟩ := allGoals_facts r h hr
 obtain ⟨t1, t2, t3, t4, t5, t6, t7⟩ := termsL_facts n [] (allGoalsL ⟨r, 0, h⟩).2 g3 (fun t ht => by cases ht)
 have e0 : ([] : List (List Part)).length = 0 := rfl
 rw [e0] at t5
 have eF : (stL n h r).fresh.toNat = (termsL n [] (allGoalsL ⟨r, 0, h⟩).2).2.fresh := rfl
 refine ⟨⟨g4, fun g hg => ?_, ?_, fun t ht => ?_, ?_, ?_⟩, numL_ok _ _, numL_le _ _, fun e => ?_⟩
 ·rw [eF]; exact (g1 g hg).mono t2 (Nat.le_refl _)
 ·show (termsL n [] (allGoalsL ⟨r, 0, h⟩).2).1.length = n; omega
 ·rw [eF]; exact t1 t ht
 ·show (0 : Int) <= ((termsL n [] (allGoalsL ⟨r, 0, h⟩).2).2.fresh : Nat); omega
 ·show (((termsL n [] (allGoalsL ⟨r, 0, h⟩).2).2.fresh : Nat) : Int) <= 250000; omega
 ·have h1 := g5 (t6 (numL_wrong e))
  refine ⟨h1.1, fun e2 => ?_⟩
  have h2 : (allGoalsL ⟨r, 0, h⟩).1 = [] := e2
  have h3 := h1.2
  rw [h2] at h3
  simp at h3
structure ChI (n m h : Nat) (c : Ch) : Prop where
 st : StI n h c.st
 cls : ∀ k ∈ c.cls, k < m
 left : c.cls ≠ []
 first : ∃ g gs, c.st.goals = g :: gs /\ NoCut g
theorem cut_match {S : St} {v : Int} {gs : List (List Part)} (hg : S.goals = cutT v :: gs) : ∀ (cls : List Cl) (i : Nat), (∀ c ∈ cls, (topP c.head).kind ≠ 4) -> matchN S i cls = []
 | [], _, _ => rfl
 | c :: cs, i, hc => by
  rw [matchN, cut_match hg cs (i + 1) (fun d hd => hc d (by simp [hd]))]
  have h4 := hc c (by simp)
  have hp : hasPred S c = false := by
   unfold hasPred goalP samePart
   rw [hg]
   have : ((topP c.head).kind == (topP ((cutT v :: gs).headD [])).kind) = false := beq_eq_false_iff_ne.2 h4
   rw [this]
   rfl
  have hm : matchB S c = false := by unfold matchB; rw [hp]; rfl
  rw [if_neg (by rw [hm]; decide)]
  rfl
theorem head_kind {c : Cl} (h : ClR c) : (topP c.head).kind ≠ 4 := by
 have hb := h.hb
 cases hc : c.head with
 | nil => show (0 : Int) ≠ 4; decide
 | cons p t =>
  have hp := h.hp p (by rw [hc]; simp)
  show p.kind ≠ 4
  unfold PartR at hp
  omega
theorem chL_facts (n : Nat) (cls : List Cl) (h : Nat) (r : Rdr) (hr : RdrOk r) (hn : n <= 16) (hc : ∀ c ∈ cls, ClR c) : RdrOk (chL n cls h r).2 /\ ((chL n cls h r).2.wrong = false -> r.wrong = false /\ ChI n cls.length h (chL n cls h r).1) := by
 obtain ⟨s1, s2, s3, s4⟩ := stL_facts n h r hr hn
 rw [chL_eq]
 unfold pickCh
 split
 ·rename_i hw
  exact ⟨s2, fun e => by rw [hw] at e; cases e⟩
 ·rename_i hw
  split
  ·exact ⟨refuse_ok, fun e => by cases e⟩
  ·rename_i hl
   obtain ⟨w1, w2⟩ := s4 (Bool.eq_false_iff.2 hw)
   refine ⟨s2, fun e => ⟨w1, s1, fun k hk => ?_, fun e2 => ?_, ?_⟩⟩
   ·have := (matchN_lt (stL n h r) 0 cls k (List.mem_of_mem_drop hk)).2
    omega
   ·have e3 := congrArg List.length e2
    rw [List.length_drop] at e3
    simp at e3
    omega
   ·cases hg : (stL n h r).goals with
    | nil => exact absurd hg w2
    | cons g gs =>
     refine ⟨g, gs, rfl, ?_⟩
     rcases (s1.g g (by rw [hg]; simp)).ok with ⟨v, _, e2⟩ | k
     ·exfalso
      rw [e2] at hg
      have := cut_match hg cls 0 (fun c hcc => head_kind (hc c hcc))
      rw [this] at hl
      simp at hl
     ·exact k.nocut
theorem namesL_facts : ∀ (n : Nat) (a : List ByteArray) (r : Rdr), RdrOk r -> (∀ W ∈ a, W.size <= 12) -> RdrOk (namesL n a r).2 /\ (∀ W ∈ (namesL n a r).1, W.size <= 12) /\ (namesL n a r).1.length <= a.length + n /\ ((namesL n a r).2.wrong = false -> r.wrong = false)
 | 0, a, r, h, ha => ⟨h, ha, Nat.le_refl _, fun e => e⟩
 | n + 1, a, r, h, ha => by
  rw [namesL]
  split
  ·obtain ⟨i1, i2, i3, i4⟩ := namesL_facts n (a ++ [(wordL 12 r).1]) (wordL 12 r).2 wordL_ok (fun W hW => by
    rcases List.mem_append.1 hW with hW | hW
    ·exact ha W hW
    ·rw [List.mem_singleton] at hW; subst hW; exact wordL_size 12 r)
   rw [List.length_append, List.length_singleton] at i3
   exact ⟨i1, i2, by omega, fun e => wordL_wrong (i4 e)⟩
  ·exact ⟨refuse_ok, (fun W hW => by cases hW), Nat.zero_le _, fun e => by cases e⟩
theorem chsL_facts (n : Nat) (cls : List Cl) (hn : n <= 16) (hc : ∀ c ∈ cls, ClR c) : ∀ (m i : Nat) (a : List Ch) (r : Rdr), RdrOk r -> RdrOk (chsL n cls m i a r).2 /\ (chsL n cls m i a r).1.length <= a.length + m /\ ((chsL n cls m i a r).2.wrong = false -> r.wrong = false /\ ((∀ c ∈ a, ChI n cls.length (i + m) c) -> ∀ c ∈ (chsL n cls m i a r).1, ChI n cls.length (i + m) c))
 | 0, i, a, r, h => ⟨h, Nat.le_refl _, fun e => ⟨e, fun k => k⟩⟩
 | m + 1, i, a, r, h => by
  rw [chsL]
  split
  ·rename_i hw
   exact ⟨h, Nat.le_add_right _ _, fun e => by rw [hw] at e; cases e⟩
  ·obtain ⟨c1, c2⟩ := chL_facts n cls i r h hn hc
   obtain ⟨i1, i2, i3⟩ := chsL_facts n cls hn hc m (i + 1) ((chL n cls i r).1 :: a) (chL n cls i r).2 c1
   rw [List.length_cons] at i2
   refine ⟨i1, by omega, fun e => ⟨(c2 (i3 e).1).1, fun k => ?_⟩⟩
   have h9 := (i3 e).2
   have e9 : i + 1 + m = i + (m + 1) := by omega
   rw [e9] at h9
   refine h9 (fun c hcc => ?_)
   rcases List.mem_cons.1 hcc with hcc | hcc
   ·subst hcc
    have k1 := (c2 (i3 e).1).2
    exact ⟨⟨k1.st.gl, fun g hg => (k1.st.g g hg).mono (Nat.le_refl _) (by omega), k1.st.tl, k1.st.t, k1.st.f0, k1.st.f1⟩, k1.cls, k1.left, k1.first⟩
   ·exact k c hcc
def CutsOk (q : Qs) : Prop := ∀ c ∈ q.chs, ∀ g ∈ c.st.goals, (topP g).kind = 4 -> 0 <= (topP g).value /\ (topP g).value <= 1000
theorem GoalI.cut {f h : Nat} {g : List Part} (k : GoalI f h g) (h4 : (topP g).kind = 4) : 0 <= (topP g).value /\ (topP g).value <= h := by
 rcases k.ok with ⟨v, hv, rfl⟩ | k
 ·show (0 : Int) <= v /\ (v : Int) <= h
  omega
 ·cases g with
  | nil => exact absurd h4 (by show (0 : Int) ≠ 4; decide)
  | cons p t => exact absurd h4 ((k.parts p (by simp)).2)
theorem quL_facts (cls : List Cl) (r : Rdr) (_hr : RdrOk r) (hc : ∀ c ∈ cls, ClR c) : RdrOk (quL cls r).2 /\ (quL cls r).1.names.length <= 16 /\ ((quL cls r).2.wrong = false -> r.wrong = false /\ QsOk cls.length (quL cls r).1 /\ CutsOk (quL cls r).1) := by
 have k1 := numL_le 16 r
 obtain ⟨n1, n2, n3, n4⟩ := namesL_facts (numL 16 r).1 [] (numL 16 r).2 (numL_ok _ _) (fun W hW => by cases hW)
 have e0 : ([] : List ByteArray).length = 0 := rfl
 rw [e0] at n3
 have k2 := numL_le 20 (namesL (numL 16 r).1 [] (numL 16 r).2).2
 obtain ⟨c1, c2, c3⟩ := chsL_facts (namesL (numL 16 r).1 [] (numL 16 r).2).1.length cls (by omega) hc (numL 20 (namesL (numL 16 r).1 [] (numL 16 r).2).2).1 0 [] (numL 20 (namesL (numL 16 r).1 [] (numL 16 r).2).2).2 (numL_ok _ _)
 have e1 : ([] : List Ch).length = 0 := rfl
 rw [e1] at c2
 refine ⟨c1, by show (namesL (numL 16 r).1 [] (numL 16 r).2).1.length <= 16; omega, fun e => ?_⟩
 obtain ⟨w1, w2⟩ := c3 e
 have w3 := w2 (fun c hcc => by cases hcc)
 refine ⟨numL_wrong (n4 (numL_wrong w1)), ⟨by show (namesL (numL 16 r).1 [] (numL 16 r).2).1.length <= 16; omega, n2, ?_, fun c hcc => ?_⟩, fun c hcc g hg h4 => ?_⟩
 ·show (chsL _ cls _ 0 [] _).1.length <= 20
  omega
 ·have k3 := w3 c hcc
  exact ⟨k3.st.stg (by omega), k3.st.tl, k3.cls, k3.left, fun g hg => (k3.st.g g hg).k, k3.first⟩
 ·have k3 := ((w3 c hcc).st.g g hg).cut h4
  omega
theorem claL_facts : ∀ (n : Nat) (a : List Cl) (r : Rdr), RdrOk r -> RdrOk (claL n a r).2 /\ (claL n a r).1.length <= a.length + n /\ ((claL n a r).2.wrong = false -> r.wrong = false) /\ ((∀ c ∈ a, ClR c /\ c.vars <= 16 /\ ClG c) -> ∀ c ∈ (claL n a r).1, ClR c /\ c.vars <= 16 /\ ClG c)
 | 0, a, r, h => ⟨h, Nat.le_refl _, fun e => e, fun k => k⟩
 | n + 1, a, r, h => by
  rw [claL]
  split
  ·rename_i c hc
   obtain ⟨i1, i2, i3, i4⟩ := claL_facts n (a ++ [c]) (wordL 400 r).2 wordL_ok
   rw [List.length_append, List.length_singleton] at i2
   refine ⟨i1, by omega, fun e => wordL_wrong (i3 e), fun k => i4 (fun d hd => ?_)⟩
   rcases List.mem_append.1 hd with hd | hd
   ·exact k d hd
   ·rw [List.mem_singleton] at hd
    subst hd
    cases hr : readS (wordL 400 r).1 with
    | error e => rw [hr] at hc; cases hc
    | ok out =>
     rw [hr] at hc
     match out, hr, hc with
     | [x], hr, hc => injection hc with hc; subst hc; exact readS_ok hr x (by simp)
     | [], _, hc => cases hc
     | _ :: _ :: _, _, hc => cases hc
  ·exact ⟨refuse_ok, Nat.zero_le _, (fun e => by cases e), fun _ d hd => by cases hd⟩
structure TellOk (cls : List Cl) (q : Option Qs) : Prop where
 cl : cls.length <= 30
 r : ∀ c ∈ cls, ClR c /\ c.vars <= 16 /\ ClG c
 q : ∀ q', q = some q' -> QsOk cls.length q' /\ CutsOk q'
def claP (r : Rdr) : List Cl × Rdr := claL (numL 30 r).1 [] (numL 30 r).2
theorem claP_facts (r : Rdr) : RdrOk (claP r).2 /\ (claP r).1.length <= 30 /\ ((claP r).2.wrong = false -> r.wrong = false) /\ ∀ c ∈ (claP r).1, ClR c /\ c.vars <= 16 /\ ClG c := by
 have k1 := numL_le 30 r
 obtain ⟨i1, i2, i3, i4⟩ := claL_facts (numL 30 r).1 [] (numL 30 r).2 (numL_ok _ _)
 have e0 : ([] : List Cl).length = 0 := rfl
 rw [e0] at i2
 exact ⟨i1, by unfold claP; omega, fun e => numL_wrong (i3 e), i4 (fun c hc => by cases hc)⟩
theorem sesL_eq (r : Rdr) : sesL r = (((claP r).1, (askedL (claP r).1 (numL 1 (claP r).2)).1), (askedL (claP r).1 (numL 1 (claP r).2)).2) := rfl
theorem sesL_facts (r : Rdr) (h : (sesL r).2.wrong = false) : TellOk (sesL r).1.1 (sesL r).1.2 := by
 obtain ⟨c1, c2, c3, c4⟩ := claP_facts r
 rw [sesL_eq] at h ⊢
 refine ⟨c2, c4, fun q' hq => ?_⟩
 unfold askedL at h hq
 split at h
 ·rename_i h1
  rw [if_pos h1] at hq
  have e : (quL (claP r).1 (numL 1 (claP r).2).2).1 = q' := by injection hq
  rw [<- e]
  exact ((quL_facts (claP r).1 (numL 1 (claP r).2).2 (numL_ok _ _) (fun c hc => (c4 c hc).1)).2.2 h).2
 ·rename_i h1
  rw [if_neg h1] at hq
  cases hq
theorem readImg_tell {b : List UInt8} (h : (readImg b).2.wrong = false) : TellOk (readImg b).1.1 (readImg b).1.2 := sesL_facts _ h
theorem TellOk.ok {cls : List Cl} {q : Option Qs} (h : TellOk cls q) {lim : Nat} (h1 : 1 <= lim) (h2 : lim <= 1000) : SeOk ⟨lim, cls, q⟩ := ⟨h1, h2, h.cl, h.r, fun q' hq => (h.q q' hq).1⟩
theorem goalsV_cut : ∀ (gs : List (List Part)) (h k : Nat), GoalsV gs h k -> ∀ g ∈ gs, (topP g).kind = 4 -> 0 <= (topP g).value /\ (topP g).value <= h
 | [], _, _, _, g, hg, _ => by cases hg
 | x :: gs, h, k, hv, g, hg, h4 => by
  rcases hv with ⟨v, hv, rfl, hr⟩ | ⟨h3, ht, hr⟩
  ·rcases List.mem_cons.1 hg with hg | hg
   ·subst hg
    show (0 : Int) <= v /\ (v : Int) <= h
    omega
   ·have := goalsV_cut gs v k hr g hg h4
    omega
  ·rcases List.mem_cons.1 hg with hg | hg
   ·subst hg
    rw [h3] at h4
    exact absurd h4 (by decide)
   ·exact goalsV_cut gs h _ hr g hg h4
theorem chsV_mem {cls : List Cl} {n : Nat} : ∀ (l : List Ch) (i : Nat), ChsV cls n i l -> ∀ c ∈ l, ∃ h, h <= i + l.length /\ ChV cls n h c
 | [], _, _, c, hc => by cases hc
 | x :: l, i, h, c, hc => by
  rw [List.length_cons]
  rcases List.mem_cons.1 hc with hc | hc
  ·subst hc; exact ⟨i, by omega, h.1⟩
  ·obtain ⟨j, hj, k⟩ := chsV_mem l (i + 1) h.2 c hc
   exact ⟨j, by omega, k⟩
theorem SeW.tell {S : Se} (h : SeW S) : TellOk S.cls S.q := by
 refine ⟨h.ok.cl, h.ok.cls, fun q hq => ⟨h.ok.q q hq, fun c hc g hg h4 => ?_⟩⟩
 have hv := h.v.q q hq
 obtain ⟨j, hj, k⟩ := chsV_mem _ _ hv.chs c (List.mem_reverse.2 hc)
 have := goalsV_cut _ _ _ k.goals g hg h4
 rw [List.length_reverse] at hj
 have := hv.c20
 omega
end Rf
