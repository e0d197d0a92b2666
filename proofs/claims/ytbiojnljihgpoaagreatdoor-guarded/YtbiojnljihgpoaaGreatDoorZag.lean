
import Derived.Test.YtbiojnljihgpoaaGreatDoorZaf
namespace Rf
theorem goalsP_of {f k : Nat} {acc : List (List Part)} {l : List Tok} {ns : List ByteArray} {a1 : List (List Part)} {l2 : List Tok} {ns2 : List ByteArray} (h : goalsS f k acc l ns = .ok (a1, l2, ns2)) : goalsP f k acc l ns = .ok (a1, l2, ns2) := by
 rw [goalsS_P] at h
 cases hr : goalsP f k acc l ns with
 | error e => rw [hr] at h; simp [noBad] at h
 | ok x =>
  obtain ⟨g, l1, n1⟩ := x
  rw [hr] at h
  cases l1 with
  | nil => exact h
  | cons u l3 =>
   simp only [noBad] at h
   split at h
   ·cases h
   ·exact h
theorem read_quest {ν : List ByteArray} (hν : Names ν) {gs : List (List Part)} (h1 : 1 <= gs.length) (h8 : gs.length <= 8) (hg : ∀ g ∈ gs, GoalOk ν g) (hn : NumTo 0 gs.flatten ν.length) {s : ByteArray} (hs : s = goalsT (wordN ν) gs ++ ⟨#[46]⟩) (h4 : s.size <= 400) : questS s = .ok (gs, ν) := by
 unfold questS
 rw [if_neg (by omega)]
 have h0 : tokens s = rest s 0 := rfl
 rw [h0]
 have hh : Has s 0 (bs (goalsT (wordN ν) gs) ++ [46]) [] := by
  unfold Has
  rw [hs]
  show bs (goalsT (wordN ν) gs ++ ⟨#[46]⟩) = _
  rw [bs_app]; simp [bs]
 obtain ⟨k1, k2⟩ := hh.app
 rw [bs_len, Nat.zero_add] at k2
 have hp := parse_goals hν (f := (rest s 0).length) s 46 (by decide) (by decide) (by decide) gs [] 8 0 0 ν.length [] h1 (by simpa using h8) h8 hg (Nat.zero_le _) (Nat.le_refl _) k1 hn
 rw [List.take_zero, List.nil_append, List.take_length, Nat.zero_add] at hp
 obtain ⟨x, hx⟩ := rest_mark k2 (by decide)
 have hsz : s.size = (goalsT (wordN ν) gs).size + 1 := by rw [hs, ByteArray.size_append]; rfl
 have he : rest s ((goalsT (wordN ν) gs).size + 1) = [endTok s] := by rw [<- hsz]; exact rest_end
 rw [he] at hx
 unfold questP
 rw [goalsP_of hp, hx]
 simp only []
 rw [if_pos (by decide), if_pos (show (endTok s).k = 0 from rfl)]
theorem play_longer {cs : List Cl} : ∀ (n m : Nat) (r : Int × Cf), n <= m -> (playN cs n r).1 ≠ 5 -> playN cs m r = playN cs n r := by
 intro n
 induction n with
 | zero =>
  intro m r _ h5
  rw [playN_eq] at h5 ⊢
  rw [playN_eq cs 0 r]
  split
  ·rfl
  ·rename_i h0
   rw [if_neg h0] at h5
   split
   ·rfl
   ·rename_i hg
    rw [if_neg hg] at h5
    exact absurd rfl h5
 | succ n ih =>
  intro m r hm h5
  obtain ⟨m, rfl⟩ : ∃ m', m = m' + 1 := ⟨m - 1, by omega⟩
  rw [playN_eq] at h5 ⊢
  rw [playN_eq cs (n + 1) r]
  split
  ·rfl
  ·rename_i h0
   rw [if_neg h0] at h5
   split
   ·rfl
   ·rename_i hg
    rw [if_neg hg] at h5
    exact ih m _ (by omega) h5
structure Lg (S T : Se) : Prop where
 l : S.lim <= T.lim
 c : S.cls = T.cls
 q : S.q = T.q
theorem reply_lg {S T : Se} (h : Lg S T) {names : List ByteArray} {r : Int × Cf} : (replyS S names r).1 = (replyS T names r).1 /\ Lg (replyS S names r).2 (replyS T names r).2 := by
 unfold replyS
 split
 ·exact ⟨rfl, h.l, h.c, rfl⟩
 ·exact ⟨rfl, h.l, h.c, rfl⟩
theorem reply_kind (S : Se) (names : List ByteArray) (r : Int × Cf) : (replyS S names r).1.kind = r.1 := by
 unfold replyS
 split
 ·rename_i h; exact h.symm
 ·rfl
theorem ask_lg {S T : Se} (h : Lg S T) (s : ByteArray) (h5 : (askS S s).1.kind ≠ 5) : (askS S s).1 = (askS T s).1 /\ Lg (askS S s).2 (askS T s).2 := by
 unfold askS at *
 split at h5
 ·exact ⟨rfl, h.l, h.c, rfl⟩
 ·rename_i gs ns _
  rw [reply_kind] at h5
  have hf : firstS T gs ns = firstS S gs ns := by
   unfold firstS at h5 ⊢
   split
   ·rfl
   ·rename_i hz
    rw [if_neg hz] at h5
    rw [<- h.c]
    exact play_longer _ _ _ h.l h5
  rw [hf]
  exact reply_lg h
theorem more_lg {S T : Se} (h : Lg S T) (h5 : (moreS S).1.kind ≠ 5) : (moreS S).1 = (moreS T).1 /\ Lg (moreS S).2 (moreS T).2 := by
 unfold moreS at *
 rw [<- h.q]
 split at h5
 ·exact ⟨rfl, h⟩
 ·rename_i q hq
  rw [reply_kind] at h5
  have hf : nextS T q = nextS S q := by
   unfold nextS at h5 ⊢
   rw [<- h.c]
   exact play_longer _ _ _ h.l h5
  rw [hf]
  exact reply_lg h
def letter1 (i : Nat) : ByteArray := ⟨#[UInt8.ofNat (65 + i)]⟩
def letters : List ByteArray := (List.range 16).map letter1
theorem letters_len : letters.length = 16 := by simp [letters]
theorem letters_at {i : Nat} (h : i < 16) : letters.getD i under = letter1 i := by
 unfold letters
 rw [List.getD_eq_getElem?_getD, List.getElem?_map, List.getElem?_range h]
 rfl
theorem letter_nat {i : Nat} (h : i < 16) : (UInt8.ofNat (65 + i)).toNat = 65 + i := by rw [UInt8.toNat_ofNat']; omega
theorem letters_names : Names letters := by
 refine ⟨?_, by rw [letters_len]; omega, fun W hW => ?_⟩
 ·unfold letters
  refine List.Pairwise.map _ ?_ (List.nodup_range.imp_of_mem (S := fun a b => a < 16 /\ b < 16 /\ a ≠ b) ?_)
  ·rintro a b ⟨ha, hb, hab⟩ e
   have e2 := congrArg bs e
   have e3 : UInt8.ofNat (65 + a) = UInt8.ofNat (65 + b) := by injection e2
   have e4 := congrArg UInt8.toNat e3
   rw [letter_nat ha, letter_nat hb] at e4
   omega
  ·intro a b ha hb hab
   exact ⟨List.mem_range.1 ha, List.mem_range.1 hb, hab⟩
 ·unfold letters at hW
  obtain ⟨i, hi, rfl⟩ := List.mem_map.1 hW
  have hi := List.mem_range.1 hi
  have hn := letter_nat hi
  refine ⟨⟨UInt8.ofNat (65 + i), [], rfl, ?_, ?_, ?_, by simp⟩, ?_⟩
  ·rw [hn]; omega
  ·rw [hn]; unfold digitB; simp; omega
  ·intro x hx
   obtain rfl := List.mem_singleton.1 hx
   rw [hn]; unfold letterB; simp; omega
  ·intro e
   have e2 := congrArg bs e
   have e3 : UInt8.ofNat (65 + i) = 95 := by injection e2
   have e4 := congrArg UInt8.toNat e3
   rw [hn] at e4
   have : (95 : UInt8).toNat = 95 := rfl
   omega
def wl : Part -> ByteArray := wordN letters
theorem wl_eq {n : Nat} {p : Part} (h : PartR n p) (hn : n <= 16) : wl p = wordP p := by
 unfold wl wordN wordP
 rcases h with ⟨h1, _, _, h4, h5⟩ | ⟨h1, _⟩ | ⟨h1, _⟩
 ·rw [if_pos h1, if_pos h1, letters_at (by omega)]
  unfold letterOf letter1
  rw [if_pos (by omega)]
 ·rw [if_neg (by omega), if_pos h1, if_neg (by omega)]
 ·rw [if_neg (by omega), if_neg (by omega), if_neg (by omega)]
  rw [if_neg (by omega)]
theorem textG_congr {wd wd' : Part -> ByteArray} : ∀ {ps : List Part} {st : List Nat}, (∀ p ∈ ps, wd p = wd' p) -> textG wd ps st = textG wd' ps st
 | [], _, _ => rfl
 | p :: ps, st, h => by
  have h' : ∀ q ∈ ps, wd q = wd' q := fun q hq => h q (List.mem_cons_of_mem _ hq)
  rw [textG, textG, h p (by simp), textG_congr h', textG_congr h']
theorem txtG_P (ps : List Part) : txtG wordP ps = txt ps := textG_P ps []
theorem txt_wl {n : Nat} {ps : List Part} (h : ∀ p ∈ ps, PartR n p) (hn : n <= 16) : txtG wl ps = txt ps := by
 rw [<- txtG_P]; exact textG_congr (fun p hp => wl_eq (h p hp) hn)
theorem txt_goal {n : Nat} {g : List Part} (h : GoalR n g) (hn : n <= 16) : txtG wl g = txt g := by
 rcases h with rfl | h
 ·rfl
 ·exact txt_wl h.2.1 hn
theorem goalsT_snoc (wd : Part -> ByteArray) (g : List Part) : ∀ (gs : List (List Part)), gs ≠ [] -> goalsT wd (gs ++ [g]) = goalsT wd gs ++ (⟨#[44]⟩ ++ txtG wd g)
 | [], h => absurd rfl h
 | [a], _ => rfl
 | a :: b :: l, _ => by
  show txtG wd a ++ (⟨#[44]⟩ ++ goalsT wd (b :: l ++ [g])) = txtG wd a ++ (⟨#[44]⟩ ++ goalsT wd (b :: l)) ++ (⟨#[44]⟩ ++ txtG wd g)
  rw [goalsT_snoc wd g (b :: l) (by simp)]
  simp only [ByteArray.append_assoc]
theorem accL_body (s : ByteArray) (gs : List (List Part)) (hg : ∀ g ∈ gs, txtG wl g = txt g) : ∀ i, i <= gs.length -> accL s gs i = s ++ bodyT wl (gs.take i)
 | 0, _ => by
  rw [accL, List.take_zero]; unfold bodyT; rw [if_pos rfl, app_emp]
 | i + 1, h => by
  have hi : i < gs.length := by omega
  have hget : gs.getD i [] = gs[i] := by rw [List.getD_eq_getElem?_getD, List.getElem?_eq_getElem hi]; rfl
  have htk := List.take_succ_eq_append_getElem hi
  have hgi := hg gs[i] (List.getElem_mem hi)
  rw [accL, htk]
  split
  ·rename_i h0
   subst h0
   rw [List.take_zero, List.nil_append]
   unfold bodyT
   rw [if_neg (by simp), hget, <- hgi]
   show _ = s ++ (⟨#[58, 45]⟩ ++ txtG wl gs[0])
   simp only [ByteArray.append_assoc]
  ·rename_i h0
   have hne : gs.take i ≠ [] := by
    intro e
    have := congrArg List.length e
    rw [List.length_take, List.length_nil] at this
    omega
   rw [accL_body s gs hg i (by omega), hget]
   unfold bodyT
   rw [if_neg hne, if_neg (by intro e9; have := congrArg List.length e9; rw [List.length_append] at this; simp at this), goalsT_snoc wl _ _ hne, hgi]
   simp only [ByteArray.append_assoc]
def lineL (c : Cl) : ByteArray := lineN letters c
theorem lineL_P {c : Cl} (h : ClR c) (hn : c.vars <= 16) : lineP c = lineL c ++ ⟨#[10]⟩ := by
 unfold lineP lineL lineN
 rw [accL_body _ _ (fun g hg => txt_goal (h.bg g hg) hn) _ (Nat.le_refl _), List.take_length, <- txt_wl h.hp hn]
 show _ = txtG wl c.head ++ (bodyT wl c.body ++ ⟨#[46]⟩) ++ ⟨#[10]⟩
 have e : (⟨#[46, 10]⟩ : ByteArray) = ⟨#[46]⟩ ++ ⟨#[10]⟩ := rfl
 rw [e]
 simp only [ByteArray.append_assoc]
theorem ClR.okN {c : Cl} (h : ClR c) (hn : c.vars <= 16) : ClOkN letters c := by
 refine ⟨letters_names, ⟨_, h.hw⟩, fun p hp => ?_, h.hb, fun g hg => ?_, h.bl, h.num, by rw [letters_len]; exact hn⟩
 ·exact (show PartR letters.length p from (h.hp p hp).mono (by rw [letters_len]; exact hn))
 ·rcases h.bg g hg with h1 | h1
  ·exact .inl h1
  ·exact .inr ⟨⟨_, h1.1⟩, fun p hp => (show PartR letters.length p from (h1.2.1 p hp).mono (by rw [letters_len]; exact hn)), h1.2.2⟩
theorem read_line {c : Cl} (h : ClR c) (hn : c.vars <= 16) (hs : (lineL c).size <= 400) : readS (lineL c) = .ok [c] := by
 have e : textsN [(letters, c)] = lineL c := by show lineN letters c ++ ⟨#[]⟩ = _; rw [app_emp]; rfl
 have := read_texts [(letters, c)] (fun x hx => by simp at hx; subst hx; exact h.okN hn) (by rw [e]; exact hs)
 rw [e] at this
 exact this
def wtT : List Tok -> Nat
 | [] => 0
 | t :: l => t.s.size + wtT l
def TokW (t : Tok) : Prop := (t.k = 118 -> 1 <= t.s.size) /\ (markB t.k = true -> 1 <= t.s.size) /\ (t.k = 58 -> 2 <= t.s.size) /\ (t.k = 110 -> (itoaB (numVal t.s)).size <= t.s.size)
def Wts (l : List Tok) : Prop := NmToks l /\ ∀ t ∈ l, TokW t
theorem joinG_size (wd : Part -> ByteArray) : ∀ (qs : List (List Part)) (q : List Part), (joinG wd (q :: qs)).size = (txtG wd q).size + 1 + (if qs = [] then 0 else (joinG wd qs).size)
 | [], q => by
  show (txtG wd q ++ ⟨#[41]⟩).size = _
  rw [ByteArray.size_append]; rfl
 | r :: qs, q => by
  show (txtG wd q ++ (⟨#[44]⟩ ++ joinG wd (r :: qs))).size = _
  rw [ByteArray.size_append, ByteArray.size_append, if_neg (by simp)]
  have : (⟨#[44]⟩ : ByteArray).size = 1 := rfl
  omega
def ReadsW (rd : List Tok -> List ByteArray -> Except (Int × Nat) (List Part × List Tok × List ByteArray)) : Prop := ∀ l ns p l1 ns1, Wts l -> ns1.length <= 16 -> rd l ns = .ok (p, l1, ns1) -> (txtG wl p).size + wtT l1 <= wtT l
theorem argsS_wt (rd : List Tok -> List ByteArray -> Except (Int × Nat) (List Part × List Tok × List ByteArray)) (h : ReadsT rd) (hw : ReadsW rd) :
  ∀ (k : Nat) (acc : List (List Part)) (l : List Tok) (ns : List ByteArray) (a1 : List (List Part)) (l2 : List Tok) (ns2 : List ByteArray), Wts l -> acc.length < 4 -> ns2.length <= 16 -> argsS rd k acc l ns = .ok (a1, l2, ns2) ->
  ∃ qs, a1 = acc ++ qs /\ 1 <= qs.length /\ (joinG wl qs).size + wtT l2 <= wtT l
 | 0, _, _, _, _, _, _, _, _, _, e => by simp [argsS] at e
 | k + 1, acc, l, ns, a1, l2, ns2, hl, ha, h16, e => by
  rw [argsS] at e
  cases hr : rd l ns with
  | error x => rw [hr] at e; cases e
  | ok x =>
   obtain ⟨p, l1, ns1⟩ := x
   have hp := h l ns p l1 ns1 hl.1 hr
   rw [hr] at e
   cases l1 with
   | nil => cases e
   | cons u l3 =>
    simp only at e
    have hu := hl.2 u (hp.sub u (by simp))
    split at e
    ·rename_i h44
     split at e
     ·cases e
     ·have hl3 : Wts l3 := ⟨fun t ht => hl.1 t (hp.sub t (List.mem_cons_of_mem _ ht)), fun t ht => hl.2 t (hp.sub t (List.mem_cons_of_mem _ ht))⟩
      have hac : (acc ++ [p]).length < 4 := by simp only [List.length_append, List.length_cons, List.length_nil]; omega
      obtain ⟨qs, e1, e2, e3⟩ := argsS_wt rd h hw k (acc ++ [p]) l3 ns1 a1 l2 ns2 hl3 hac h16 e
      obtain ⟨_, _, _, _, _, _, e6, _⟩ := argsS_read rd h k (acc ++ [p]) l3 ns1 a1 l2 ns2 hl3.1 hac e
      have h3 := hw l ns p (u :: l3) ns1 hl (Nat.le_trans e6.le h16) hr
      have hu1 := hu.2.1 (by rw [h44]; rfl)
      refine ⟨p :: qs, by rw [e1]; simp, by simp, ?_⟩
      rw [joinG_size, if_neg (by intro e9; rw [e9] at e2; simp at e2)]
      rw [wtT] at h3
      omega
    ·split at e
     ·rename_i h41
      simp only [Except.ok.injEq, Prod.mk.injEq] at e
      obtain ⟨rfl, rfl, rfl⟩ := e
      have h3 := hw l ns p (u :: l3) ns1 hl h16 hr
      have hu1 := hu.2.1 (by rw [h41]; rfl)
      refine ⟨[p], rfl, by simp, ?_⟩
      rw [joinG_size, if_pos rfl]
      rw [wtT] at h3
      omega
     ·cases e
theorem termS_wt : ∀ (f : Nat), ReadsW (termS f)
 | 0 => fun _ _ _ _ _ _ _ e => by simp [termS] at e
 | f + 1 => fun l ns p l1 ns1 hl h16 e => by
  cases l with
  | nil => simp [termS] at e
  | cons t l =>
   have ht := hl.2 t (by simp)
   rw [termS] at e
   split at e
   ·rename_i h118
    unfold varT at e
    split at e
    ·cases e
    ·rename_i i ns' hv
     simp only [Except.ok.injEq, Prod.mk.injEq] at e
     obtain ⟨rfl, rfl, rfl⟩ := e
     have hi : i < 16 := by rcases varS_num hv with ⟨h1, h2⟩ | ⟨h1, h2⟩ <;> (try rw [h2] at h16) <;> omega
     rw [txtG_one _ _ rfl]
     have : (wl ⟨1, ⟨#[]⟩, (i : Nat), 0⟩).size = 1 := by
      unfold wl wordN; rw [if_pos rfl]
      simp only [Int.toNat_natCast]
      rw [letters_at hi]; rfl
     rw [this, wtT]
     have := ht.1 h118
     omega
   ·split at e
    ·rename_i h110
     simp only [Except.ok.injEq, Prod.mk.injEq] at e
     obtain ⟨rfl, rfl, rfl⟩ := e
     rw [txtG_one _ _ rfl, wtT]
     have := ht.2.2.2 h110
     have e2 : wl ⟨2, ⟨#[]⟩, numVal t.s, 0⟩ = itoaB (numVal t.s) := by unfold wl wordN; rw [if_neg (by simp), if_pos rfl]
     rw [e2]; omega
    ·split at e
     ·rename_i h97
      cases l with
      | nil => cases e
      | cons u l' =>
       simp only [nameS] at e
       have hu := hl.2 u (by simp)
       split at e
       ·rename_i h40
        cases hr : argsS (termS f) 4 [] l' ns with
        | error x => rw [hr] at e; cases e
        | ok x =>
         obtain ⟨a1, l2, ns2⟩ := x
         rw [hr] at e
         simp only [Except.ok.injEq, Prod.mk.injEq] at e
         obtain ⟨rfl, rfl, rfl⟩ := e
         have hl' : Wts l' := ⟨fun v hv => hl.1 v (List.mem_cons_of_mem _ (List.mem_cons_of_mem _ hv)), fun v hv => hl.2 v (List.mem_cons_of_mem _ (List.mem_cons_of_mem _ hv))⟩
         obtain ⟨qs, e1, e2, e3⟩ := argsS_wt (termS f) (termS_read f) (termS_wt f) 4 [] l' ns a1 l2 ns2 hl' (by simp) h16 hr
         obtain ⟨qs', e1', _, _, e4, _, _, _⟩ := argsS_read (termS f) (termS_read f) 4 [] l' ns a1 l2 ns2 hl'.1 (by simp) hr
         rw [List.nil_append] at e1 e1'
         subst e1
         subst e1'
         rw [txtG_comp wl a1.flatten.length t.s a1 e2 (fun q hq => (e4 q hq).mono (flatten_mem_len hq)), ByteArray.size_append, ByteArray.size_append, wtT, wtT]
         have hu1 := hu.2.1 (by rw [h40]; rfl)
         have h1 : (⟨#[40]⟩ : ByteArray).size = 1 := rfl
         have h2 : wl ⟨3, t.s, 0, a1.length⟩ = t.s := by unfold wl wordN; rw [if_neg (by simp), if_neg (by simp), if_neg (by simp)]
         rw [h2]; omega
       ·simp only [Except.ok.injEq, Prod.mk.injEq] at e
        obtain ⟨rfl, rfl, rfl⟩ := e
        rw [txtG_one _ _ rfl, show wtT (t :: u :: l') = t.s.size + wtT (u :: l') from rfl]
        have h2 : wl ⟨3, t.s, 0, 0⟩ = t.s := by unfold wl wordN; rw [if_neg (by simp), if_neg (by simp), if_neg (by simp)]
        rw [h2]; omega
     ·cases e
theorem goalS_wt {f : Nat} {l : List Tok} {ns : List ByteArray} {p : List Part} {l1 : List Tok} {ns1 : List ByteArray} (hl : Wts l) (h16 : ns1.length <= 16) (e : goalS f l ns = .ok (p, l1, ns1)) : (txtG wl p).size + wtT l1 <= wtT l := by
 unfold goalS at e
 cases l with
 | nil => cases e
 | cons t l =>
  simp only at e
  split at e
  ·rename_i h33
   simp only [Except.ok.injEq, Prod.mk.injEq] at e
   obtain ⟨rfl, rfl, rfl⟩ := e
   have ht := (hl.2 t (by simp)).2.1 (by rw [h33]; rfl)
   have : (txtG wl [⟨4, ⟨#[]⟩, 0, 0⟩]).size = 1 := rfl
   rw [this, wtT]; omega
  ·cases hr : termS f (t :: l) ns with
   | error x => rw [hr] at e; cases e
   | ok x =>
    obtain ⟨q, l2, ns2⟩ := x
    rw [hr] at e
    simp only at e
    split at e
    ·simp only [Except.ok.injEq, Prod.mk.injEq] at e
     obtain ⟨rfl, rfl, rfl⟩ := e
     exact termS_wt f _ _ _ _ _ hl h16 hr
    ·cases e
theorem goalsT_size (wd : Part -> ByteArray) : ∀ (qs : List (List Part)) (q : List Part), (goalsT wd (q :: qs)).size = (txtG wd q).size + (if qs = [] then 0 else 1 + (goalsT wd qs).size)
 | [], q => by simp [goalsT]
 | r :: qs, q => by
  show (txtG wd q ++ (⟨#[44]⟩ ++ goalsT wd (r :: qs))).size = _
  rw [ByteArray.size_append, ByteArray.size_append, if_neg (by simp)]
  have : (⟨#[44]⟩ : ByteArray).size = 1 := rfl
  omega
theorem goalsS_wt (f : Nat) : ∀ (k : Nat) (acc : List (List Part)) (l : List Tok) (ns : List ByteArray) (a1 : List (List Part)) (l2 : List Tok) (ns2 : List ByteArray), Wts l -> acc.length < 8 -> ns2.length <= 16 -> goalsS f k acc l ns = .ok (a1, l2, ns2) ->
  ∃ qs, a1 = acc ++ qs /\ 1 <= qs.length /\ (goalsT wl qs).size + wtT l2 <= wtT l
 | 0, _, _, _, _, _, _, _, _, _, e => by simp [goalsS] at e
 | k + 1, acc, l, ns, a1, l2, ns2, hl, ha, h16, e => by
  rw [goalsS] at e
  cases hr : goalS f l ns with
  | error x => rw [hr] at e; cases e
  | ok x =>
   obtain ⟨p, l1, ns1⟩ := x
   obtain ⟨g1, g2, g3⟩ := goalS_read hl.1 hr
   rw [hr] at e
   cases l1 with
   | nil => cases e
   | cons u l3 =>
    simp only at e
    have hu := hl.2 u (g3 u (by simp))
    split at e
    ·rename_i h44
     split at e
     ·cases e
     ·have hl3 : Wts l3 := ⟨fun t ht => hl.1 t (g3 t (List.mem_cons_of_mem _ ht)), fun t ht => hl.2 t (g3 t (List.mem_cons_of_mem _ ht))⟩
      have hac : (acc ++ [p]).length < 8 := by simp only [List.length_append, List.length_cons, List.length_nil]; omega
      obtain ⟨qs, e1, e2, e3⟩ := goalsS_wt f k (acc ++ [p]) l3 ns1 a1 l2 ns2 hl3 hac h16 e
      obtain ⟨⟨_, _, _, _, e6⟩, _, _⟩ := goalsS_read f k (acc ++ [p]) l3 ns1 a1 l2 ns2 hl3.1 hac e
      have h3 := goalS_wt hl (Nat.le_trans e6.le h16) hr
      have hu1 := hu.2.1 (by rw [h44]; rfl)
      refine ⟨p :: qs, by rw [e1]; simp, by simp, ?_⟩
      rw [goalsT_size, if_neg (by intro e9; rw [e9] at e2; simp at e2)]
      rw [wtT] at h3
      omega
    ·split at e
     ·cases e
     ·simp only [Except.ok.injEq, Prod.mk.injEq] at e
      obtain ⟨rfl, rfl, rfl⟩ := e
      refine ⟨[p], rfl, by simp, ?_⟩
      rw [goalsT_size, if_pos rfl]
      exact goalS_wt hl h16 hr
theorem dotS_wt {c : List Part × List (List Part)} {l : List Tok} {ns : List ByteArray} {cl : Cl} {l1 : List Tok} (hl : Wts l) (h : dotS c l ns = .ok (cl, l1)) : 1 + wtT l1 <= wtT l := by
 unfold dotS at h
 split at h
 ·cases h
 ·rename_i u l2
  split at h
  ·rename_i h46
   simp only [Except.ok.injEq, Prod.mk.injEq] at h
   obtain ⟨rfl, rfl⟩ := h
   have := (hl.2 u (by simp)).2.1 (by rw [h46]; rfl)
   rw [wtT]; omega
  ·cases h
theorem clauseS_wt {f : Nat} {l : List Tok} {cl : Cl} {l1 : List Tok} (hl : Wts l) (h16 : cl.vars <= 16) (e : clauseS f l = .ok (cl, l1)) : (lineL cl).size + wtT l1 <= wtT l := by
 unfold clauseS at e
 cases l with
 | nil => cases e
 | cons t l =>
  simp only at e
  cases hr : termS f (t :: l) [] with
  | error x => rw [hr] at e; cases e
  | ok x =>
   obtain ⟨p, l2, ns1⟩ := x
   rw [hr] at e
   have hp := termS_read f _ _ _ _ _ hl.1 hr
   simp only at e
   split at e
   ·cases l2 with
    | nil => cases e
    | cons u l3 =>
     simp only at e
     have hu := hl.2 u (hp.sub u (by simp))
     split at e
     ·rename_i h58
      cases hg : goalsS f 8 [] l3 ns1 with
      | error x => rw [hg] at e; cases e
      | ok x =>
       obtain ⟨gs, l4, ns2⟩ := x
       rw [hg] at e
       have hl3 : Wts l3 := ⟨fun v hv => hl.1 v (hp.sub v (List.mem_cons_of_mem _ hv)), fun v hv => hl.2 v (hp.sub v (List.mem_cons_of_mem _ hv))⟩
       obtain ⟨⟨_, _, _, _, e4⟩, _, e6⟩ := goalsS_read f 8 [] l3 ns1 gs l4 ns2 hl3.1 (by simp) hg
       obtain ⟨rfl, _⟩ := dotS_eq e
       have hd := dotS_wt ⟨fun v hv => hl3.1 v (e6 v hv), fun v hv => hl3.2 v (e6 v hv)⟩ e
       simp only at h16
       obtain ⟨qs, e1, e2, e3⟩ := goalsS_wt f 8 [] l3 ns1 gs l4 ns2 hl3 (by simp) h16 hg
       rw [List.nil_append] at e1
       subst e1
       have h3 := termS_wt f _ _ _ _ _ hl (Nat.le_trans e4.le h16) hr
       have hu1 := hu.2.2.1 h58
       unfold lineL lineN bodyT
       rw [if_neg (by simp only []; intro e9; rw [e9] at e2; simp at e2), ByteArray.size_append, ByteArray.size_append, ByteArray.size_append]
       have a1 : (⟨#[58, 45]⟩ : ByteArray).size = 2 := rfl
       have a2 : (⟨#[46]⟩ : ByteArray).size = 1 := rfl
       have h3' : (txtG (wordN letters) p).size + wtT (u :: l3) <= wtT (t :: l) := h3
       have e3' : (goalsT (wordN letters) gs).size + wtT l4 <= wtT l3 := e3
       rw [wtT] at h3'
       simp only []
       omega
     ·obtain ⟨rfl, _⟩ := dotS_eq e
      simp only at h16
      have hd := dotS_wt ⟨fun v hv => hl.1 v (hp.sub v hv), fun v hv => hl.2 v (hp.sub v hv)⟩ e
      have h3 := termS_wt f _ _ _ _ _ hl h16 hr
      unfold lineL lineN bodyT
      rw [if_pos rfl, ByteArray.size_append, ByteArray.size_append]
      have a1 : (⟨#[]⟩ : ByteArray).size = 0 := rfl
      have a2 : (⟨#[46]⟩ : ByteArray).size = 1 := rfl
      have h3' : (txtG (wordN letters) p).size + wtT (u :: l3) <= wtT (t :: l) := h3
      simp only []
      omega
   ·cases e
theorem clausesS_wt (f : Nat) : ∀ (k : Nat) (acc : List Cl) (l : List Tok) (out : List Cl), Wts l -> clausesS f k acc l = .ok out -> (∀ c ∈ out, c.vars <= 16) -> ∀ c ∈ out, c ∈ acc \/ (lineL c).size <= wtT l
 | 0, _, _, _, _, e, _ => by simp [clausesS] at e
 | _ + 1, _, [], _, _, e, _ => by simp [clausesS] at e
 | k + 1, acc, t :: l, out, hl, e, h16 => by
  rw [clausesS] at e
  split at e
  ·simp only [Except.ok.injEq] at e; subst e; exact fun c hc => .inl hc
  ·cases hr : clauseS f (t :: l) with
   | error x => rw [hr] at e; cases e
   | ok x =>
    obtain ⟨d, l1⟩ := x
    rw [hr] at e
    obtain ⟨h1, h2⟩ := clauseS_read hl.1 hr
    have hl1 : Wts l1 := ⟨fun v hv => hl.1 v (h2 v hv), fun v hv => hl.2 v (h2 v hv)⟩
    have ih := clausesS_wt f k (acc ++ [d]) l1 out hl1 e h16
    have hdo : d ∈ out := by
     have key : ∀ (k : Nat) (acc : List Cl) (l : List Tok) (out : List Cl), clausesS f k acc l = .ok out -> ∀ c ∈ acc, c ∈ out := by
      intro k
      induction k with
      | zero => intro acc l out e; simp [clausesS] at e
      | succ k ih =>
       intro acc l out e c hc
       cases l with
       | nil => simp [clausesS] at e
       | cons t l =>
        rw [clausesS] at e
        split at e
        ·simp only [Except.ok.injEq] at e; subst e; exact hc
        ·cases hr : clauseS f (t :: l) with
         | error x => rw [hr] at e; cases e
         | ok x => rw [hr] at e; exact ih _ _ _ e c (List.mem_append_left _ hc)
     exact key k _ l1 out e d (by simp)
    have hw := clauseS_wt hl (h16 d hdo) hr
    intro c hc
    rcases ih c hc with h3 | h3
    ·rcases List.mem_append.1 h3 with h3 | h3
     ·exact .inl h3
     ·simp at h3; subst h3; exact .inr (by omega)
    ·exact .inr (by omega)
theorem decFrom_bd : ∀ (l : List UInt8) (acc m : Nat), Go.Lib.decFrom acc l = some m -> m < (acc + 1) * 10 ^ l.length
 | [], acc, m, h => by simp only [Go.Lib.decFrom, Option.some.injEq] at h; subst h; simp
 | b :: l, acc, m, h => by
  rw [Go.Lib.decFrom] at h
  cases hd : Go.Lib.digitVal b with
  | none => rw [hd] at h; cases h
  | some d =>
   rw [hd] at h
   have h1 := decFrom_bd l _ m h
   have hd10 : d < 10 := by
    unfold Go.Lib.digitVal at hd
    split at hd
    ·injection hd with hd; omega
    ·cases hd
   rw [List.length_cons, Nat.pow_succ]
   refine Nat.lt_of_lt_of_le h1 ?_
   rw [Nat.mul_comm (10 ^ l.length) 10, <- Nat.mul_assoc]
   exact Nat.mul_le_mul_right _ (by omega)
theorem digits_le : ∀ (k u : Nat), u < 10 ^ k -> 1 <= k -> (Go.Lib.decDigits u).length <= k
 | 0, _, _, h => by omega
 | k + 1, u, h, _ => by
  rw [Go.Lib.decDigits]
  split
  ·simp
  ·rename_i h10
   cases k with
   | zero => simp at h; omega
   | succ k =>
    have ih := digits_le (k + 1) (u / 10) (by rw [Nat.pow_succ] at h; omega) (by omega)
    rw [List.length_append]
    simp only [List.length_cons, List.length_nil]
    omega
theorem itoa_le {s : ByteArray} {v : Int} (h : Go.Lib.atoi s.data.toList = some v) : (itoaB (numVal s)).size <= s.size := by
 have hv : numVal s = v := by unfold numVal; rw [h]; rfl
 rw [hv]
 have hs : s.size = s.data.toList.length := by simp
 have hi : (itoaB v).size = (Go.Lib.itoa v).length := by unfold itoaB; simp [ByteArray.size]
 rw [hi, hs]
 have key : ∀ (l : List UInt8) (m : Nat), Go.Lib.decNat l = some m -> 1 <= l.length /\ (Go.Lib.decDigits m).length <= l.length := by
  intro l m hm
  unfold Go.Lib.decNat at hm
  split at hm
  ·cases hm
  ·rename_i he
   have h1 : 1 <= l.length := by cases l with | nil => simp at he | cons => simp
   have h2 := decFrom_bd l 0 m hm
   exact ⟨h1, digits_le l.length m (by simpa using h2) h1⟩
 cases hl : s.data.toList with
 | nil => rw [hl] at h; simp [Go.Lib.atoi] at h
 | cons b r =>
  rw [hl] at h
  simp only [Go.Lib.atoi] at h
  unfold Go.Lib.itoa
  split at h
  ·cases hd : Go.Lib.decNat r with
   | none => rw [hd] at h; cases h
   | some m =>
    rw [hd] at h
    simp only [Option.map_some, Option.some.injEq] at h
    obtain ⟨h1, h2⟩ := key r m hd
    subst h
    split
    ·simp only [List.length_cons, Int.natAbs_neg, Int.natAbs_natCast]; omega
    ·have : (-(m : Int)).toNat = 0 := by omega
     rw [this, Go.Lib.decDigits]
     simp
  ·split at h
   ·cases hd : Go.Lib.decNat r with
    | none => rw [hd] at h; cases h
    | some m =>
     rw [hd] at h
     simp only [Option.map_some, Option.some.injEq] at h
     obtain ⟨h1, h2⟩ := key r m hd
     subst h
     rw [if_neg (by omega)]
     simp only [List.length_cons, Int.toNat_natCast]; omega
   ·cases hd : Go.Lib.decNat (b :: r) with
    | none => rw [hd] at h; cases h
    | some m =>
     rw [hd] at h
     simp only [Option.map_some, Option.some.injEq] at h
     obtain ⟨h1, h2⟩ := key (b :: r) m hd
     subst h
     rw [if_neg (by omega)]
     simp only [Int.toNat_natCast]; omega
theorem tokenAt_size (s : ByteArray) (n : Nat) (hn : n < s.size) (h : (tokenAt s n).k ≠ 63) : n + (tokenAt s n).s.size <= s.size /\ TokW (tokenAt s n) := by
 have ht := tokenAt_text s n hn h
 have hf := tokenAt_fine s n
 have hsz : n + (tokenAt s n).s.size <= s.size := by
  have h1 := congrArg ByteArray.size ht
  rw [ByteArray.size_extract] at h1
  by_cases h0 : (tokenAt s n).s.size = 0
  ·omega
  ·omega
 refine ⟨hsz, ?_, ?_, ?_, fun h110 => ?_⟩
 ·intro h118
  unfold tokenAt at h118 ⊢
  have hnum : ∀ neg W, (numTok n neg W).k ≠ 118 := fun neg W => by unfold numTok; split <;> (try split) <;> simp [bad]
  split at h118
  ·exact absurd h118 (hnum _ _)
  rename_i h1
  rw [if_neg h1]
  split at h118
  ·exact absurd h118 (hnum _ _)
  rename_i h2
  rw [if_neg h2]
  split at h118
  ·rename_i h3
   rw [if_pos h3]
   have hl : 1 <= (runS s false n).size := by rw [runS_size, runLen_yes s false n hn (by simp [okB, h3])]; omega
   unfold wordTok at h118 ⊢
   split at h118
   ·simp [bad] at h118
   ·rename_i h4
    rw [if_neg h4]
    split at h118
    ·simp at h118
    ·rename_i h5
     rw [if_neg h5]; exact hl
  ·rename_i h3
   rw [if_neg h3]
   split at h118
   ·rename_i h4
    simp only at h118
    rw [h118] at h4; exact absurd h4 (by decide)
   ·split at h118
    ·simp at h118
    ·simp [bad] at h118
 ·intro hm
  unfold tokenAt at hm ⊢
  have hnum : ∀ neg W, markB (numTok n neg W).k = false := fun neg W => by unfold numTok; split <;> (try split) <;> simp [bad, markB]
  split at hm
  ·rw [hnum] at hm; cases hm
  rename_i h1
  rw [if_neg h1]
  split at hm
  ·rw [hnum] at hm; cases hm
  rename_i h2
  rw [if_neg h2]
  split at hm
  ·exfalso
   unfold wordTok at hm
   split at hm
   ·simp [bad, markB] at hm
   ·split at hm <;> simp [markB] at hm
  ·rename_i h3
   rw [if_neg h3]
   split at hm
   ·rename_i h4
    rw [if_pos h4]
    show 1 <= (s.extract n (n + 1)).size
    rw [ByteArray.size_extract]; omega
   ·rename_i h4
    rw [if_neg h4]
    split at hm
    ·rename_i h5
     rw [if_pos h5]; show 1 <= (⟨#[58, 45]⟩ : ByteArray).size; decide
    ·simp [bad, markB] at hm
 ·intro hm
  unfold tokenAt at hm ⊢
  have hnum : ∀ neg W, (numTok n neg W).k ≠ 58 := fun neg W => by unfold numTok; split <;> (try split) <;> simp [bad]
  split at hm
  ·exact absurd hm (hnum _ _)
  rename_i h1
  rw [if_neg h1]
  split at hm
  ·exact absurd hm (hnum _ _)
  rename_i h2
  rw [if_neg h2]
  split at hm
  ·exfalso
   unfold wordTok at hm
   split at hm
   ·simp [bad] at hm
   ·split at hm <;> simp at hm
  ·rename_i h3
   rw [if_neg h3]
   split at hm
   ·rename_i h4
    simp only at hm
    rw [hm] at h4; exact absurd h4 (by decide)
   ·rename_i h4
    rw [if_neg h4]
    split at hm
    ·rename_i h5
     rw [if_pos h5]; show 2 <= (⟨#[58, 45]⟩ : ByteArray).size; decide
    ·simp [bad] at hm
 ·obtain ⟨_, v, hv, _⟩ := hf.1 h110
  exact itoa_le hv
theorem toks_wt (s : ByteArray) : ∀ (f n : Nat), n <= s.size -> n + wtT (toks s f n) <= s.size /\ ∀ t ∈ toks s f n, TokW t
 | 0, n, h => by
  refine ⟨by show n + (0 + 0) <= s.size; omega, fun t ht => ?_⟩
  simp [toks] at ht; subst ht
  exact ⟨fun e => by simp [endTok] at e, fun e => by simp [endTok, markB] at e, fun e => by simp [endTok] at e, fun e => by simp [endTok] at e⟩
 | f + 1, n, h => by
  rw [toks]
  split
  ·rename_i hn
   split
   ·have := toks_wt s f (n + 1) (by omega)
    exact ⟨by omega, this.2⟩
   ·split
    ·rename_i h63
     have hb : wtT [tokenAt s n] = (tokenAt s n).s.size := by simp [wtT]
     have hz : (tokenAt s n).s.size = 0 := by
      unfold tokenAt at h63 ⊢
      have hnum : ∀ neg W, (numTok n neg W).k = 63 -> (numTok n neg W).s.size = 0 := fun neg W => by
       unfold numTok
       split
       ·intro _; rfl
       ·split
        ·intro _; rfl
        ·intro e; simp at e
      split at h63
      ·rename_i h1; rw [if_pos h1]; exact hnum _ _ h63
      rename_i h1
      rw [if_neg h1]
      split at h63
      ·rename_i h2; rw [if_pos h2]; exact hnum _ _ h63
      rename_i h2
      rw [if_neg h2]
      split at h63
      ·rename_i h3
       rw [if_pos h3]
       unfold wordTok at h63 ⊢
       split at h63
       ·rename_i h4; rw [if_pos h4]; rfl
       ·split at h63 <;> simp at h63
      ·rename_i h3
       rw [if_neg h3]
       split at h63
       ·rename_i h4
        simp only at h63
        rw [h63] at h4; exact absurd h4 (by decide)
       ·rename_i h4
        rw [if_neg h4]
        split at h63
        ·simp at h63
        ·rename_i h5
         rw [if_neg h5]; rfl
     refine ⟨by omega, fun t ht => ?_⟩
     simp at ht; subst ht
     exact ⟨fun e => by omega, fun e => by rw [h63] at e; simp [markB] at e, fun e => by omega, fun e => by omega⟩
    ·rename_i h63
     obtain ⟨h1, h2⟩ := tokenAt_size s n hn h63
     have := toks_wt s f (n + (tokenAt s n).s.size) h1
     refine ⟨by rw [wtT]; omega, fun t ht => ?_⟩
     rcases List.mem_cons.1 ht with rfl | ht
     ·exact h2
     ·exact this.2 t ht
  ·refine ⟨by show n + (0 + 0) <= s.size; omega, fun t ht => ?_⟩
   simp at ht; subst ht
   exact ⟨fun e => by simp [endTok] at e, fun e => by simp [endTok, markB] at e, fun e => by simp [endTok] at e, fun e => by simp [endTok] at e⟩
theorem line_size {s : ByteArray} {out : List Cl} (h : readS s = .ok out) : ∀ c ∈ out, (lineL c).size <= 400 := by
 intro c hc
 have hok := readS_ok h
 unfold readS at h
 split at h
 ·cases h
 ·rename_i h4
  have ht := toks_wt s s.size 0 (Nat.zero_le _)
  rcases clausesS_wt _ _ [] _ out ⟨toks_names s _ _, ht.2⟩ h (fun d hd => (hok d hd).2.1) c hc with h1 | h1
  ·cases h1
  ·have h2 : (lineL c).size <= wtT (toks s s.size 0) := h1
   omega
theorem solve_done {e : Eqn} (h : doneE e = true) : solveE e = (0, e) := by rw [solveE_step, if_pos h]
theorem solve_nil (s : List Part) (bo be te : List (List Part)) : solveE ⟨[], s, bo, be, te⟩ = (0, ⟨[], s, bo, be, te⟩) := solve_done rfl
theorem solve_same (p : Part) (f s : List Part) (bo be te : List (List Part)) : solveE ⟨p :: f, p :: s, bo, be, te⟩ = solveE ⟨f, s, bo, be, te⟩ := by
 have hs : stepE ⟨p :: f, p :: s, bo, be, te⟩ = (0, ⟨f, s, bo, be, te⟩) := by simp only [stepE]; rw [if_pos (samePart_iff.2 rfl)]
 rw [solveE_step, if_neg (by simp [doneE]), hs, if_pos rfl]
theorem solve_first {p q : Part} {f s x r : List Part} {bo be te : List (List Part)} (hne : p ≠ q) (h1 : p.kind = 1) (hx : q :: s = x ++ r) (hl : leadT (q :: s) = x.length) (hc : countV p.value x = 0) (hz : ((⟨f, r, bo, be, te⟩ : Eqn).put p.value x).size <= 200) : solveE ⟨p :: f, q :: s, bo, be, te⟩ = solveE ((⟨f, r, bo, be, te⟩ : Eqn).put p.value x) := by
 have ht : (q :: s).take (leadT (q :: s)) = x := by rw [hl, hx, List.take_left']; rfl
 have hd : (q :: s).drop (leadT (q :: s)) = r := by rw [hl, hx, List.drop_left']; rfl
 have hs : stepE ⟨p :: f, q :: s, bo, be, te⟩ = (0, (⟨f, r, bo, be, te⟩ : Eqn).put p.value x) := by
  simp only [stepE]; rw [if_neg (fun e => hne (samePart_iff.1 e)), if_pos h1, ht, hd]
  unfold putE
  rw [if_neg (by omega), if_neg (by omega)]
 rw [solveE_step, if_neg (by simp [doneE]), hs, if_pos rfl]
def nmP (s : ByteArray) (n : Int) : Part := ⟨3, s, 0, n⟩
def vrP (i : Int) : Part := ⟨1, ⟨#[]⟩, i, 0⟩
def fact1 (p c : ByteArray) : Cl := ⟨[nmP p 1, nmP c 0], [], 0⟩
theorem fact_past (p c : ByteArray) : pastC (fact1 p c) = 0 := rfl
theorem lead_one (p : Part) (t : List Part) (h : p.args = 0) : leadT (p :: t) = 1 := by unfold leadT; rw [leadN, if_pos (by omega)]
theorem with_fact_var (p c : ByteArray) (v : Int) (gs ts : List (List Part)) (fr h : Int) (hz : sizeT (gs.map (putV v [nmP c 0])) + sizeT (ts.map (putV v [nmP c 0])) <= 200) :
  withS ⟨[nmP p 1, vrP v] :: gs, ts, fr⟩ (fact1 p c) h = (0, ⟨gs.map (putV v [nmP c 0]), ts.map (putV v [nmP c 0]), fr⟩) := by
 have hE : withE ⟨[nmP p 1, vrP v] :: gs, ts, fr⟩ (fact1 p c) h = ⟨[nmP p 1, vrP v], [nmP p 1, nmP c 0], [], gs, ts⟩ := rfl
 have hs : solveE ⟨[nmP p 1, vrP v], [nmP p 1, nmP c 0], [], gs, ts⟩ = (0, ⟨[], [], [], gs.map (putV v [nmP c 0]), ts.map (putV v [nmP c 0])⟩) := by
  rw [solve_same, solve_first (p := vrP v) (q := nmP c 0) (f := []) (s := []) (x := [nmP c 0]) (r := []) (by simp [vrP, nmP]) rfl rfl (lead_one _ _ rfl) rfl]
  ·exact solve_nil _ _ _ _
  ·show 0 + 0 + 0 + sizeT (gs.map (putV v [nmP c 0])) + sizeT (ts.map (putV v [nmP c 0])) <= 200
   omega
 unfold withS
 rw [hE, hs, if_pos rfl, fact_past]
 simp
theorem matchN_all (S : St) : ∀ (i : Nat) (cs : List Cl), (∀ c ∈ cs, matchB S c = true) -> matchN S i cs = List.range' i cs.length
 | _, [], _ => rfl
 | i, c :: cs, h => by
  rw [matchN, if_pos (h c (by simp)), matchN_all S (i + 1) cs (fun d hd => h d (List.mem_cons_of_mem _ hd)), List.length_cons, List.range'_succ]
  rfl
def pB : ByteArray := ⟨#[112]⟩
def qB : ByteArray := ⟨#[113]⟩
def xB : ByteArray := ⟨#[88]⟩
theorem play_take {cs : List Cl} {n : Nat} {cf : Cf} (h : cf.now.goals ≠ []) : playN cs (n + 1) (0, cf) = playN cs n (takeP cs cf) := by
 rw [playN_eq, settle_ok (by simp), if_neg (by simp), if_neg h]
theorem play_answer' {cs : List Cl} {n : Nat} {cf : Cf} (h : cf.now.goals = []) : playN cs n (0, cf) = (1, cf) := by
 rw [playN_eq, settle_ok (by simp), if_neg (by simp), if_pos h]
theorem play_fail {cs : List Cl} {n : Nat} {cf : Cf} : playN cs n (-1, cf) = playN cs n (againP cs cf) := by
 rw [playN_eq, playN_eq, settle_fail]
theorem play_end {cs : List Cl} {n : Nat} {k : Int} {cf : Cf} (h : k ≠ 0) (h1 : k ≠ -1) : playN cs n (k, cf) = (k, cf) := by
 rw [playN_eq, settle_ok (by exact h1), if_pos (by exact h)]
theorem take_user {cs : List Cl} {cf : Cf} (h : isBuilt (goalP cf.now) = false) (hk : knownP cf.now cs = true) : takeP cs cf = chooseP cs cf (matchN cf.now 0 cs) := by
 unfold takeP; rw [if_neg (by rw [h]; simp), if_pos hk]
theorem ren_atom (c : ByteArray) : (renTs [] [[nmP c 0]]).1 = [[nmP c 0]] := rfl
theorem txtA_atom (c : ByteArray) : txtA [nmP c 0] = c := by
 show wordA (nmP c 0) ++ ((closeP []).1 ++ textW false [] []) = c
 have : wordA (nmP c 0) = c := rfl
 rw [this]
 show c ++ (⟨#[]⟩ ++ ⟨#[]⟩) = c
 rw [emp_app, app_emp]
theorem text_one (x c : ByteArray) : textQ [x] [[nmP c 0]] = x ++ ⟨#[32, 61, 32]⟩ ++ c := by
 unfold textQ
 rw [if_neg (by simp), ren_atom]
 show lineQ (x, [nmP c 0]) ++ (if ([] : List (ByteArray × List Part)) = [] then ⟨#[]⟩ else _) = _
 rw [if_pos rfl, app_emp]
 unfold lineQ
 rw [txtA_atom]
end Rf
namespace Rf.FactsL
open Rf
def S0 : St := ⟨[[nmP pB 1, vrP 0]], [[vrP 0]], 1⟩
def cls (cs : List ByteArray) : List Cl := cs.map (fact1 pB)
def chs (n i : Nat) : List Ch := if i < n then [⟨S0, List.range' i (n - i)⟩] else []
theorem ren_chs (n i : Nat) : (chs n i).map renC = chs n i := by
 unfold chs
 split
 ·rfl
 ·rfl
theorem with_S0 (c : ByteArray) (h : Int) : withS S0 (fact1 pB c) h = (0, ⟨[], [[nmP c 0]], 1⟩) := with_fact_var pB c 0 [] [[vrP 0]] 1 h (by simp [sizeT, putV, isV, vrP])
def st (cs : List ByteArray) (i : Nat) : Se := ⟨1, cls cs, if i < cs.length then some ⟨[xB], chs cs.length (i + 1)⟩ else none⟩
def rep (cs : List ByteArray) (i : Nat) : Rep := match cs[i]? with
 | some c => ⟨1, xB ++ ⟨#[32, 61, 32]⟩ ++ c, 0, 0⟩
 | none => repK 2
theorem use_at (cs : List ByteArray) (i : Nat) (c : ByteArray) (hc : cs[i]? = some c) (now : St) : useP ⟨now, putCh [] S0 (List.range' (i + 1) (cs.length - (i + 1)))⟩ S0 (fact1 pB c) 0 = (0, ⟨⟨[], [[nmP c 0]], 1⟩, chs cs.length (i + 1)⟩) := by
 have hi : i < cs.length := (List.getElem?_eq_some_iff.1 hc).1
 unfold useP
 rw [with_S0]
 simp only [if_true]
 unfold putCh chs
 by_cases h : i + 1 < cs.length
 ·rw [if_neg (by intro e; have := congrArg List.length e; rw [List.length_range'] at this; simp at this; omega), if_pos h]
 ·rw [if_pos (by rw [show cs.length - (i + 1) = 0 by omega]; rfl), if_neg h]
theorem reply_at (cs : List ByteArray) (i : Nat) (c : ByteArray) (hc : cs[i]? = some c) (q : Option Qs) :
  replyS ⟨1, cls cs, q⟩ [xB] (1, ⟨⟨[], [[nmP c 0]], 1⟩, chs cs.length (i + 1)⟩) = (rep cs i, st cs i) := by
 have hi : i < cs.length := (List.getElem?_eq_some_iff.1 hc).1
 unfold replyS
 rw [if_pos rfl]
 show (_, _) = _
 rw [text_one, ren_chs]
 unfold rep st
 rw [hc, if_pos hi]
theorem cls_at (cs : List ByteArray) (i : Nat) (c : ByteArray) (hc : cs[i]? = some c) : (cls cs).getD i noCl = fact1 pB c := by
 unfold cls
 rw [List.getD_eq_getElem?_getD, List.getElem?_map, hc]; rfl
theorem quest_px : questS (⟨#[112, 40, 88, 41, 46]⟩ : ByteArray) = .ok ([[nmP pB 1, vrP 0]], [xB]) := by
 have hx : VrOk xB := ⟨⟨88, [], rfl, by decide, by decide, by decide, by decide⟩, by decide⟩
 have hp : NmOk pB := ⟨112, [], rfl, by decide, by decide, by decide⟩
 refine read_quest (ν := [xB]) ⟨by simp, by simp, fun W hW => by simp at hW; subst hW; exact hx⟩ (by simp) (by simp) (fun g hg => ?_) ?_ rfl (by decide)
 ·simp at hg; subst hg
  refine .inr ⟨⟨2, .inr ⟨pB, [[vrP 0]], by simp, fun q hq => by simp at hq; subst hq; exact .inl ⟨_, rfl, rfl⟩, rfl⟩⟩, fun p hp2 => ?_, rfl⟩
  simp at hp2
  rcases hp2 with rfl | rfl
  ·exact .inr (.inr ⟨rfl, rfl, hp, by decide, by decide⟩)
  ·exact .inl ⟨rfl, rfl, rfl, by decide, by decide⟩
 ·exact ⟨0, rfl, 1, .inr ⟨rfl, rfl⟩, rfl⟩
theorem match_S0 (cs : List ByteArray) : matchN S0 0 (cls cs) = List.range' 0 cs.length := by
 rw [matchN_all S0 0 (cls cs) (fun c hc => ?_)]
 ·unfold cls; rw [List.length_map]
 ·unfold cls at hc
  obtain ⟨d, _, rfl⟩ := List.mem_map.1 hc
  unfold matchB
  rw [with_S0]
  have : hasPred S0 (fact1 pB d) = true := samePart_iff.2 rfl
  rw [this]; rfl
theorem more_at (cs : List ByteArray) (i : Nat) (hi : i < cs.length) : moreS (st cs i) = (rep cs (i + 1), st cs (i + 1)) := by
 unfold moreS
 have hq : (st cs i).q = some ⟨[xB], chs cs.length (i + 1)⟩ := by unfold st; rw [if_pos hi]
 rw [hq]
 simp only []
 unfold nextS
 show replyS _ [xB] (playN (cls cs) 1 (-1, ⟨stNone, chs cs.length (i + 1)⟩)) = _
 rw [play_fail]
 by_cases h : i + 1 < cs.length
 ·obtain ⟨c, hc⟩ : ∃ c, cs[i + 1]? = some c := ⟨cs[i + 1], List.getElem?_eq_getElem h⟩
  have hch : chs cs.length (i + 1) = [⟨S0, (i + 1) :: List.range' (i + 1 + 1) (cs.length - (i + 1 + 1))⟩] := by
   unfold chs
   rw [if_pos h, show cs.length - (i + 1) = (cs.length - (i + 1 + 1)) + 1 by omega, List.range'_succ]
  have ha : againP (cls cs) ⟨stNone, chs cs.length (i + 1)⟩ = (0, ⟨⟨[], [[nmP c 0]], 1⟩, chs cs.length (i + 1 + 1)⟩) := by
   rw [hch]
   show useP ⟨stNone, putCh [] S0 _⟩ S0 ((cls cs).getD (i + 1) noCl) 0 = _
   rw [cls_at cs (i + 1) c hc]
   exact use_at cs (i + 1) c hc stNone
  rw [ha, play_answer' rfl]
  exact reply_at cs (i + 1) c hc _
 ·have hch : chs cs.length (i + 1) = [] := by unfold chs; rw [if_neg h]
  rw [hch, again_none rfl, play_end (by decide) (by decide)]
  unfold replyS rep st
  rw [if_neg (by simp), List.getElem?_eq_none (by omega), if_neg h]
theorem ask_at (cs : List ByteArray) (q : Option Qs) (h : cs ≠ []) : askS ⟨1, cls cs, q⟩ ⟨#[112, 40, 88, 41, 46]⟩ = (rep cs 0, st cs 0) := by
 cases cs with
 | nil => exact absurd rfl h
 | cons c cs' =>
  unfold askS
  rw [quest_px]
  simp only []
  have hb : beginN [xB] = [xB] := by decide
  have hf : firstS ⟨1, cls (c :: cs'), q⟩ [[nmP pB 1, vrP 0]] [xB] = playN (cls (c :: cs')) 1 (0, ⟨S0, []⟩) := by
   unfold firstS
   rw [if_neg (by decide)]
   rfl
  rw [hb, hf, play_take (by simp [S0]), take_user (by decide) ?_]
  ·show replyS _ _ (playN _ 0 (chooseP _ ⟨S0, []⟩ (matchN S0 0 (cls (c :: cs'))))) = _
   rw [match_S0, List.length_cons, List.range'_succ]
   have hc : chooseP (cls (c :: cs')) ⟨S0, []⟩ (0 :: List.range' (0 + 1) cs'.length) = (0, ⟨⟨[], [[nmP c 0]], 1⟩, chs (c :: cs').length (0 + 1)⟩) := by
    simp only [chooseP]
    rw [if_neg (by simp)]
    exact use_at (c :: cs') 0 c rfl S0
   rw [hc, play_answer' rfl]
   exact reply_at (c :: cs') 0 c rfl _
  ·rfl
end Rf.FactsL
namespace Rf
theorem pB_ok : NmOk pB := ⟨112, [], rfl, by decide, by decide, by decide⟩
end Rf
namespace Rf.JoinedL
open Rf
def S0 : St := ⟨[[nmP pB 1, vrP 0], [nmP qB 1, vrP 0]], [[vrP 0]], 1⟩
def Q (f : Int) (c : ByteArray) : St := ⟨[[nmP qB 1, nmP c 0]], [[nmP c 0]], f⟩
def cls (a b : List ByteArray) : List Cl := a.map (fact1 pB) ++ b.map (fact1 qB)
def pch (n i : Nat) : List Ch := if i < n then [⟨S0, List.range' i (n - i)⟩] else []
def qch (f : Int) (c : ByteArray) (ks : List Nat) : List Ch := if ks = [] then [] else [⟨Q f c, ks⟩]
def M (n : Nat) (b : List ByteArray) (c : ByteArray) (k : Nat) : List Nat := matchN (Q 0 c) (n + k) ((b.drop k).map (fact1 qB))
def ans (c : ByteArray) : Rep := ⟨1, xB ++ ⟨#[32, 61, 32]⟩ ++ c, 0, 0⟩
def st (a b : List ByteArray) (i : Nat) (c : ByteArray) (ks : List Nat) : Se := ⟨20, cls a b, some ⟨[xB], qch 0 c ks ++ pch a.length (i + 1)⟩⟩
def off (a b : List ByteArray) : Rep × Se := (repK 2, ⟨20, cls a b, none⟩)
def hit (a b : List ByteArray) (i : Nat) (c : ByteArray) (m : List Nat) (no : Rep × Se) : Rep × Se := match m with
 | [] => no
 | _ :: ks => (ans c, st a b i c ks)
def seek (a b : List ByteArray) : Nat -> List ByteArray -> Rep × Se
 | _, [] => off a b
 | i, c :: as => hit a b i c (M a.length b c 0) (seek a b (i + 1) as)
def R (a b : List ByteArray) (i : Nat) (c : ByteArray) (k : Nat) : Rep × Se := hit a b i c (M a.length b c k) (seek a b (i + 1) (a.drop (i + 1)))
end Rf.JoinedL
namespace Rf
theorem part_name {ν : List ByteArray} {s : ByteArray} (h : NmOk s) {n : Int} (h0 : 0 <= n) (h1 : n <= 4) : PartOk ν (nmP s n) := .inr (.inr ⟨rfl, rfl, h, h0, h1⟩)
theorem wf_atom (p : Part) (h : p.args = 0) (d : Nat) : Wf (d + 1) [p] := .inl ⟨p, rfl, h⟩
end Rf
namespace Rf.ReckonsL
open Rf
end Rf.ReckonsL
