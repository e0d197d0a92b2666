
import Derived.Test.YtbiojnljihgpoaaGreatDoorZag
import Derived.Test.YtbiojnljihgpoaaGreatDoorZaf
namespace Rf
end Rf
namespace Rf.AbsentL
open Rf
def lastB : ByteArray := ⟨#[108, 97, 115, 116]⟩
def cls (a : List ByteArray) : List Cl := (a ++ [lastB]).map (fact1 pB)
end Rf.AbsentL
namespace Rf.FirstL
open Rf
def fB : ByteArray := ⟨#[102]⟩
def zB : ByteArray := ⟨#[122]⟩
def yB : ByteArray := ⟨#[89]⟩
def F1 : Cl := ⟨[nmP fB 1, vrP 0], [[nmP pB 1, vrP 0], cutT 0], 1⟩
def cls (a b : List ByteArray) : List Cl := a.map (fact1 pB) ++ (b.map (fact1 qB) ++ [F1, fact1 fB zB])
def S0 : St := ⟨[[nmP fB 1, vrP 0], [nmP qB 1, vrP 1]], [[vrP 0], [vrP 1]], 2⟩
def S1 : St := ⟨[[nmP pB 1, vrP 2], cutT 0, [nmP qB 1, vrP 1]], [[vrP 2], [vrP 1]], 3⟩
def S3 (v f : Int) (c : ByteArray) : St := ⟨[[nmP qB 1, vrP v]], [[nmP c 0], [vrP v]], f⟩
def qch (v f : Int) (c : ByteArray) (n m i : Nat) : List Ch := if i < m then [⟨S3 v f c, List.range' (n + i) (m - i)⟩] else []
def ans (c d : ByteArray) : Rep := ⟨1, xB ++ ⟨#[32, 61, 32]⟩ ++ c ++ (⟨#[44, 32]⟩ ++ (yB ++ ⟨#[32, 61, 32]⟩ ++ d)), 0, 0⟩
def st (a b : List ByteArray) (c : ByteArray) (i : Nat) : Se := ⟨20, cls a b, if i < b.length then some ⟨[xB, yB], qch 0 1 c a.length b.length (i + 1)⟩ else none⟩
def rep (b : List ByteArray) (c : ByteArray) (i : Nat) : Rep := match b[i]? with
 | some d => ans c d
 | none => repK 2
end Rf.FirstL
namespace Rf
end Rf
namespace Rf.AddsL
open Rf
def addB : ByteArray := ⟨#[97, 100, 100]⟩
def sB : ByteArray := ⟨#[115]⟩
def zB : ByteArray := ⟨#[122]⟩
def yB : ByteArray := ⟨#[89]⟩
def sP : Part := nmP sB 1
def zP : Part := nmP zB 0
def addP : Part := nmP addB 3
def Sj (j : Nat) : List Part := List.replicate j sP
def H (k : Nat) : List Part := Sj k ++ [zP]
def A1 : Cl := ⟨[addP, zP, vrP 0, vrP 0], [], 1⟩
def A2 : Cl := ⟨[addP, sP, vrP 0, vrP 1, sP, vrP 2], [[addP, vrP 0, vrP 1, vrP 2]], 3⟩
def cls : List Cl := [A1, A2]
def G (n m j : Nat) (r f : Int) : St := ⟨[addP :: (H n ++ (H m ++ [vrP r]))], [Sj j ++ [vrP r]], f⟩
end Rf.AddsL
namespace Rf
def Nz (l : List Tok) : Prop := ∀ t ∈ l, t.k = 118 -> t.s.size <= 12
def Ns (ns : List ByteArray) : Prop := ∀ y ∈ ns, y.size <= 12
theorem tokenAt_nz (s : ByteArray) (n : Nat) (h : (tokenAt s n).k = 118) : (tokenAt s n).s.size <= 12 := by
 unfold tokenAt at h ⊢
 have hnum : ∀ neg W, (numTok n neg W).k ≠ 118 := fun neg W => by unfold numTok; split <;> (try split) <;> simp [bad]
 split at h
 ·exact absurd h (hnum _ _)
 rename_i h1
 rw [if_neg h1]
 split at h
 ·exact absurd h (hnum _ _)
 rename_i h2
 rw [if_neg h2]
 split at h
 ·rename_i h3
  rw [if_pos h3]
  unfold wordTok at h ⊢
  split at h
  ·simp [bad] at h
  ·rename_i h4
   rw [if_neg h4]
   split
   ·show (runS s false n).size <= 12; omega
   ·show (runS s false n).size <= 12; omega
 ·rename_i h3
  split at h
  ·rename_i h4
   simp only at h
   rw [h] at h4; exact absurd h4 (by decide)
  ·split at h
   ·simp at h
   ·simp [bad] at h
theorem toks_nz (s : ByteArray) : ∀ (f n : Nat), Nz (toks s f n)
 | 0, n => fun t ht h => by simp [toks] at ht; subst ht; simp [endTok] at h
 | f + 1, n => by
  rw [toks]
  split
  ·split
   ·exact toks_nz s f _
   ·split
    ·intro t ht h; simp at ht; subst ht; exact tokenAt_nz s n h
    ·intro t ht h
     rcases List.mem_cons.1 ht with rfl | ht
     ·exact tokenAt_nz s n h
     ·exact toks_nz s f _ t ht h
  ·intro t ht h; simp at ht; subst ht; simp [endTok] at h
theorem varS_nz {t : Tok} {ns ns' : List ByteArray} {i : Nat} (h : varS t ns = .ok (i, ns')) (ht : t.s.size <= 12) (hn : Ns ns) : Ns ns' := by
 unfold varS at h
 split at h
 ·simp only [Except.ok.injEq, Prod.mk.injEq] at h; obtain ⟨_, rfl⟩ := h; exact hn
 ·split at h
  ·cases h
  ·simp only [Except.ok.injEq, Prod.mk.injEq] at h
   obtain ⟨_, rfl⟩ := h
   intro y hy
   rcases List.mem_append.1 hy with hy | hy
   ·exact hn y hy
   ·simp at hy; subst hy; exact ht
def ReadsZ (rd : List Tok -> List ByteArray -> Except (Int × Nat) (List Part × List Tok × List ByteArray)) : Prop := ∀ l ns p l1 ns1, Nz l -> Ns ns -> rd l ns = .ok (p, l1, ns1) -> Nz l1 /\ Ns ns1
theorem Nz.tail {t : Tok} {l : List Tok} (h : Nz (t :: l)) : Nz l := fun u hu => h u (List.mem_cons_of_mem _ hu)
theorem argsS_nz (rd : List Tok -> List ByteArray -> Except (Int × Nat) (List Part × List Tok × List ByteArray)) (h : ReadsZ rd) :
  ∀ (k : Nat) (acc : List (List Part)) (l : List Tok) (ns : List ByteArray) (a1 : List (List Part)) (l2 : List Tok) (ns2 : List ByteArray), Nz l -> Ns ns -> argsS rd k acc l ns = .ok (a1, l2, ns2) -> Nz l2 /\ Ns ns2
 | 0, _, _, _, _, _, _, _, _, e => by simp [argsS] at e
 | k + 1, acc, l, ns, a1, l2, ns2, hl, hn, e => by
  rw [argsS] at e
  cases hr : rd l ns with
  | error x => rw [hr] at e; cases e
  | ok x =>
   obtain ⟨p, l1, ns1⟩ := x
   obtain ⟨g1, g2⟩ := h l ns p l1 ns1 hl hn hr
   rw [hr] at e
   cases l1 with
   | nil => cases e
   | cons u l3 =>
    simp only at e
    split at e
    ·split at e
     ·cases e
     ·exact argsS_nz rd h k _ l3 ns1 a1 l2 ns2 g1.tail g2 e
    ·split at e
     ·simp only [Except.ok.injEq, Prod.mk.injEq] at e
      obtain ⟨rfl, rfl, rfl⟩ := e
      exact ⟨g1.tail, g2⟩
     ·cases e
theorem termS_nz : ∀ (f : Nat), ReadsZ (termS f)
 | 0 => fun _ _ _ _ _ _ _ e => by simp [termS] at e
 | f + 1 => fun l ns p l1 ns1 h hn e => by
  cases l with
  | nil => simp [termS] at e
  | cons t l =>
  rw [termS] at e
  split at e
  ·rename_i h118
   unfold varT at e
   split at e
   ·cases e
   ·rename_i i ns' hv
    have hg := varS_nz hv (h t (by simp) h118) hn
    simp only [Except.ok.injEq, Prod.mk.injEq] at e
    obtain ⟨rfl, rfl, rfl⟩ := e
    exact ⟨h.tail, hg⟩
  ·split at e
   ·simp only [Except.ok.injEq, Prod.mk.injEq] at e
    obtain ⟨rfl, rfl, rfl⟩ := e
    exact ⟨h.tail, hn⟩
   ·split at e
    ·cases l with
     | nil => cases e
     | cons u l' =>
      simp only [nameS] at e
      split at e
      ·cases ha : argsS (termS f) 4 [] l' ns with
       | error x => rw [ha] at e; cases e
       | ok x =>
        obtain ⟨a1, l2, ns2⟩ := x
        rw [ha] at e
        simp only [Except.ok.injEq, Prod.mk.injEq] at e
        obtain ⟨rfl, rfl, rfl⟩ := e
        exact argsS_nz (termS f) (termS_nz f) 4 [] l' ns a1 l2 ns2 h.tail.tail hn ha
      ·simp only [Except.ok.injEq, Prod.mk.injEq] at e
       obtain ⟨rfl, rfl, rfl⟩ := e
       exact ⟨h.tail, hn⟩
    ·cases e
theorem goalS_nz (f : Nat) : ReadsZ (goalS f) := fun l ns p l1 ns1 h hn e => by
 cases l with
 | nil => simp [goalS] at e
 | cons t l =>
  simp only [goalS] at e
  split at e
  ·simp only [Except.ok.injEq, Prod.mk.injEq] at e
   obtain ⟨rfl, rfl, rfl⟩ := e
   exact ⟨h.tail, hn⟩
  ·cases hr : termS f (t :: l) ns with
   | error x => rw [hr] at e; cases e
   | ok x =>
    obtain ⟨p', l', ns'⟩ := x
    rw [hr] at e
    simp only at e
    split at e
    ·simp only [Except.ok.injEq, Prod.mk.injEq] at e
     obtain ⟨rfl, rfl, rfl⟩ := e
     exact termS_nz f _ _ _ _ _ h hn hr
    ·cases e
theorem goalsP_nz (f : Nat) : ∀ (k : Nat) (acc : List (List Part)) (l : List Tok) (ns : List ByteArray) (a1 : List (List Part)) (l2 : List Tok) (ns2 : List ByteArray),
  Nz l -> Ns ns -> goalsP f k acc l ns = .ok (a1, l2, ns2) -> Ns ns2
 | 0, _, _, _, _, _, _, _, _, e => by simp [goalsP] at e
 | k + 1, acc, l, ns, a1, l2, ns2, hl, hn, e => by
  rw [goalsP] at e
  cases hr : goalS f l ns with
  | error x => rw [hr] at e; cases e
  | ok x =>
   obtain ⟨p, l1, ns1⟩ := x
   obtain ⟨g1, g2⟩ := goalS_nz f l ns p l1 ns1 hl hn hr
   rw [hr] at e
   cases l1 with
   | nil => cases e
   | cons u l3 =>
    simp only at e
    split at e
    ·split at e
     ·cases e
     ·exact goalsP_nz f k _ l3 ns1 a1 l2 ns2 g1.tail g2 e
    ·simp only [Except.ok.injEq, Prod.mk.injEq] at e
     obtain ⟨rfl, rfl, rfl⟩ := e
     exact g2
theorem questS_nz {s : ByteArray} {gs : List (List Part)} {ns : List ByteArray} (h : questS s = .ok (gs, ns)) : ∀ y ∈ beginN ns, y.size <= 12 := by
 have key : Ns ns := by
  unfold questS at h
  split at h
  ·cases h
  ·unfold questP at h
   cases hr : goalsP (tokens s).length 8 [] (tokens s) [] with
   | error e => rw [hr] at h; cases h
   | ok x =>
    obtain ⟨g1, l1, n1⟩ := x
    have hz := goalsP_nz _ _ _ _ _ _ _ _ (toks_nz s _ _) (fun y hy => by simp at hy) hr
    rw [hr] at h
    simp only at h
    split at h
    ·cases h
    ·split at h
     ·split at h
      ·cases h
      ·split at h
       ·simp only [Except.ok.injEq, Prod.mk.injEq] at h; obtain ⟨rfl, rfl⟩ := h
        exact hz
       ·cases h
     ·cases h
 intro y hy
 unfold beginN at hy
 obtain ⟨x, hx, rfl⟩ := List.mem_map.1 hy
 exact key _ (namedFrom_mem 0 ns x hx).2.2.1
def pickK (c n : Int) : Nat := ((if c < 0 then -(c + 1) else c).tmod n).toNat
theorem pickK_lt {c n : Int} (hn : 1 <= n) : (pickK c n : Int) < n := by
 unfold pickK
 have h3 : 0 <= (if c < 0 then -(c + 1) else c) := by split <;> omega
 have h4 := Int.tmod_nonneg (a := if c < 0 then -(c + 1) else c) n h3
 have h5 := Int.tmod_lt_of_pos (if c < 0 then -(c + 1) else c) (b := n) (by omega)
 omega
theorem fact_okN {p c : ByteArray} (hp : NmOk p) (hc : NmOk c) (hb : builtInB p 1 = false) : ClOkN [] (fact1 p c) := by
 refine ⟨⟨by simp, by simp, fun W hW => by simp at hW⟩, ⟨2, .inr ⟨p, [[nmP c 0]], by simp, fun q hq => by simp at hq; subst hq; exact wf_atom _ rfl 0, rfl⟩⟩, fun x hx => ?_, ?_, fun g hg => by simp [fact1] at hg, by simp [fact1], ?_, by simp [fact1]⟩
 ·simp [fact1] at hx
  rcases hx with rfl | rfl
  ·exact part_name hp (by decide) (by decide)
  ·exact part_name hc (by decide) (by decide)
 ·show ((3 : Int) == 3 && !builtInB p 1) = true
  rw [hb]; rfl
 ·exact ⟨0, rfl, 0, rfl, rfl⟩
def consultC (cls : List Cl) (s : ByteArray) : (Int × Nat) × List Cl := match readS s with
 | .error e => (e, cls)
 | .ok new => if 30 < cls.length + new.length then ((6, 0), cls) else ((0, 0), cls ++ new)
def consultS (S : Se) (s : ByteArray) : (Int × Nat) × Se := ((consultC S.cls s).1, ⟨S.lim, (consultC S.cls s).2, none⟩)
theorem consult_ok {S : Se} (h : SeOk S) (s : ByteArray) : SeOk (consultS S s).2 := by
 unfold consultS consultC
 cases hr : readS s with
 | error e => exact ⟨h.l1, h.l2, h.cl, h.cls, fun q hq => by cases hq⟩
 | ok new =>
  simp only []
  split
  ·exact ⟨h.l1, h.l2, h.cl, h.cls, fun q hq => by cases hq⟩
  ·rename_i h30
   refine ⟨h.l1, h.l2, ?_, fun c hc => ?_, fun q hq => by cases hq⟩
   ·rw [List.length_append]; omega
   ·rcases List.mem_append.1 hc with hc | hc
    ·exact h.cls c hc
    ·exact readS_ok hr c hc
theorem consult_new {lim : Nat} {s : ByteArray} {new : List Cl} (hr : readS s = .ok new) (h : new.length <= 30) : consultS ⟨lim, [], none⟩ s = ((0, 0), ⟨lim, new, none⟩) := by
 unfold consultS consultC
 rw [hr]
 simp only [List.length_nil, List.nil_append]
 rw [if_neg (by omega)]
end Rf
namespace Rf.AddsL
open Rf
def T (i d : Nat) (a b f : Int) : St := ⟨[addP :: vrP a :: vrP b :: H d], [Sj i ++ [vrP a], [vrP b]], f⟩
end Rf.AddsL
namespace Rf.WorksL
open Rf
def aB : ByteArray := ⟨#[97]⟩
def bB : ByteArray := ⟨#[98]⟩
def abT : ByteArray := ⟨#[112, 40, 97, 41, 46, 112, 40, 98, 41, 46]⟩
def cls : List Cl := FactsL.cls [aB, bB]
theorem aB_ok : NmOk aB := ⟨97, [], rfl, by decide, by decide, by decide⟩
theorem bB_ok : NmOk bB := ⟨98, [], rfl, by decide, by decide, by decide⟩
theorem read_ab : readS abT = .ok cls := by
 have e : textsN [([], fact1 pB aB), ([], fact1 pB bB)] = abT := rfl
 rw [<- e, read_texts _ (fun x hx => ?_) (by rw [e]; decide)]
 ·rfl
 ·simp at hx
  rcases hx with rfl | rfl
  ·exact fact_okN pB_ok aB_ok rfl
  ·exact fact_okN pB_ok bB_ok rfl
def st (i : Nat) : Se := ⟨9, cls, (FactsL.st [aB, bB] i).q⟩
theorem lg_of {S T : Se} (h : Lg S T) : T = ⟨T.lim, S.cls, S.q⟩ := by
 cases T; cases h.c; cases h.q; rfl
theorem lim_reply (S : Se) (names : List ByteArray) (r : Int × Cf) : (replyS S names r).2.lim = S.lim := by unfold replyS; split <;> rfl
theorem lim_ask (S : Se) (s : ByteArray) : (askS S s).2.lim = S.lim := by
 unfold askS
 split
 ·rfl
 ·exact lim_reply _ _ _
theorem lim_more (S : Se) : (moreS S).2.lim = S.lim := by
 unfold moreS
 split
 ·rfl
 ·exact lim_reply _ _ _
theorem lg_st (i : Nat) : Lg (FactsL.st [aB, bB] i) (st i) := ⟨by show (1 : Nat) <= 9; omega, rfl, rfl⟩
theorem kind_rep (i : Nat) : (FactsL.rep [aB, bB] i).kind ≠ 5 := by
 unfold FactsL.rep
 split
 ·show (1 : Int) ≠ 5; decide
 ·decide
theorem ask_ab : askS ⟨9, cls, none⟩ ⟨#[112, 40, 88, 41, 46]⟩ = (⟨1, ⟨#[88, 32, 61, 32, 97]⟩, 0, 0⟩, st 0) := by
 have h0 := FactsL.ask_at [aB, bB] none (by simp)
 have hl : Lg ⟨1, FactsL.cls [aB, bB], none⟩ ⟨9, cls, none⟩ := ⟨by show (1 : Nat) <= 9; omega, rfl, rfl⟩
 have h := ask_lg hl ⟨#[112, 40, 88, 41, 46]⟩ (by rw [h0]; exact kind_rep 0)
 rw [h0] at h
 have h2 := lg_of h.2
 rw [lim_ask] at h2
 refine Prod.ext ?_ ?_
 ·rw [<- h.1]; rfl
 ·rw [h2]; rfl
theorem more_i (i : Nat) (hi : i < 2) : moreS (st i) = (FactsL.rep [aB, bB] (i + 1), st (i + 1)) := by
 have h0 := FactsL.more_at [aB, bB] i hi
 have h := more_lg (lg_st i) (by rw [h0]; exact kind_rep (i + 1))
 rw [h0] at h
 have h2 := lg_of h.2
 rw [lim_more] at h2
 refine Prod.ext ?_ ?_
 ·rw [<- h.1]
 ·rw [h2]; rfl
theorem more_ab : moreS (st 0) = (⟨1, ⟨#[88, 32, 61, 32, 98]⟩, 0, 0⟩, st 1) := by
 rw [more_i 0 (by omega)]; rfl
theorem more_no : moreS (st 1) = (⟨2, ⟨#[]⟩, 0, 0⟩, st 2) := by
 rw [more_i 1 (by omega)]; rfl
end Rf.WorksL
namespace Rf
def ErrOk (x : Int × Nat) : Prop := 0 <= x.1 /\ x.1 <= 10 /\ x.2 <= 400
def TokE (t : Tok) : Prop := t.at_ <= 400 /\ 0 <= t.e /\ t.e <= 10
def Es (l : List Tok) : Prop := ∀ t ∈ l, TokE t
theorem Es.tail {t : Tok} {l : List Tok} (h : Es (t :: l)) : Es l := fun u hu => h u (List.mem_cons_of_mem _ hu)
theorem err_k (k : Int) (h0 : 0 <= k) (h1 : k <= 10) {n : Nat} (hn : n <= 400) : ErrOk (k, n) := ⟨h0, h1, hn⟩
theorem err20 : ErrOk (2, 0) := ⟨by decide, by decide, by decide⟩
theorem tokenAt_e (s : ByteArray) (n : Nat) : (tokenAt s n).at_ = n /\ 0 <= (tokenAt s n).e /\ (tokenAt s n).e <= 10 := by
 unfold tokenAt numTok wordTok bad
 repeat' split
 all_goals simp
theorem toks_e (s : ByteArray) (h4 : s.size <= 400) : ∀ (f n : Nat), Es (toks s f n)
 | 0, n => fun t ht => by simp [toks] at ht; subst ht; exact ⟨h4, by simp [endTok], by simp [endTok]⟩
 | f + 1, n => by
  rw [toks]
  split
  ·rename_i hn
   have hk := tokenAt_e s n
   have ht : TokE (tokenAt s n) := ⟨by rw [hk.1]; omega, hk.2⟩
   split
   ·exact toks_e s h4 f _
   ·split
    ·intro t h; simp at h; subst h; exact ht
    ·intro t h
     rcases List.mem_cons.1 h with rfl | h
     ·exact ht
     ·exact toks_e s h4 f _ t h
  ·intro t ht; simp at ht; subst ht; exact ⟨h4, by simp [endTok], by simp [endTok]⟩
theorem errOf_ok {t : Tok} (h : TokE t) : ErrOk (errOf t 2) := by
 unfold errOf
 refine ⟨?_, ?_, h.1⟩
 ·simp only []; split
  ·exact h.2.1
  ·decide
 ·simp only []; split
  ·exact h.2.2
  ·decide
def ReadsR (rd : List Tok -> List ByteArray -> Except (Int × Nat) (List Part × List Tok × List ByteArray)) : Prop := ∀ l ns, Es l -> (∀ e, rd l ns = .error e -> ErrOk e) /\ (∀ p l1 ns1, rd l ns = .ok (p, l1, ns1) -> Es l1)
theorem argsS_e (rd : List Tok -> List ByteArray -> Except (Int × Nat) (List Part × List Tok × List ByteArray)) (h : ReadsR rd) :
  ∀ (k : Nat) (acc : List (List Part)) (l : List Tok) (ns : List ByteArray), Es l -> (∀ e, argsS rd k acc l ns = .error e -> ErrOk e) /\ (∀ a1 l2 ns2, argsS rd k acc l ns = .ok (a1, l2, ns2) -> Es l2)
 | 0, _, _, _, _ => ⟨fun e he => by simp [argsS] at he; subst he; exact err20, fun _ _ _ he => by simp [argsS] at he⟩
 | k + 1, acc, l, ns, hl => by
  rw [argsS]
  obtain ⟨g1, g2⟩ := h l ns hl
  cases hr : rd l ns with
  | error x => exact ⟨fun e he => by cases he; exact g1 _ hr, fun _ _ _ he => by cases he⟩
  | ok x =>
   obtain ⟨p, l1, ns1⟩ := x
   have g3 := g2 p l1 ns1 hr
   cases l1 with
   | nil => exact ⟨fun e he => by cases he; exact err20, fun _ _ _ he => by cases he⟩
   | cons u l3 =>
    simp only
    have hu := g3 u (by simp)
    split
    ·split
     ·exact ⟨fun e he => by cases he; exact err_k 3 (by decide) (by decide) hu.1, fun _ _ _ he => by cases he⟩
     ·exact argsS_e rd h k _ l3 ns1 g3.tail
    ·split
     ·exact ⟨(fun e he => by cases he), fun _ _ _ he => by cases he; exact g3.tail⟩
     ·exact ⟨fun e he => by cases he; exact errOf_ok hu, fun _ _ _ he => by cases he⟩
theorem termS_e : ∀ (f : Nat), ReadsR (termS f)
 | 0 => fun _ _ _ => ⟨fun e he => by simp [termS] at he; subst he; exact err20, fun _ _ _ he => by simp [termS] at he⟩
 | f + 1 => fun l ns hl => by
  cases l with
  | nil => exact ⟨fun e he => by simp [termS] at he; subst he; exact err20, fun _ _ _ he => by simp [termS] at he⟩
  | cons t l =>
   have ht := hl t (by simp)
   rw [termS]
   split
   ·unfold varT varS
    cases lookS t.s ns with
    | some i => exact ⟨(fun e he => by cases he), fun _ _ _ he => by cases he; exact hl.tail⟩
    | none =>
     simp only []
     split
     ·rename_i h9
      split at h9
      ·cases h9; exact ⟨fun e he => by cases he; exact err_k 3 (by decide) (by decide) ht.1, fun _ _ _ he => by cases he⟩
      ·cases h9
     ·exact ⟨(fun e he => by cases he), fun _ _ _ he => by cases he; exact hl.tail⟩
   ·split
    ·exact ⟨(fun e he => by cases he), fun _ _ _ he => by cases he; exact hl.tail⟩
    ·split
     ·cases l with
      | nil => exact ⟨fun e he => by cases he; exact err20, fun _ _ _ he => by cases he⟩
      | cons u l' =>
       simp only [nameS]
       split
       ·obtain ⟨g1, g2⟩ := argsS_e (termS f) (termS_e f) 4 [] l' ns hl.tail.tail
        cases ha : argsS (termS f) 4 [] l' ns with
        | error x => exact ⟨fun e he => by cases he; exact g1 _ ha, fun _ _ _ he => by cases he⟩
        | ok x =>
         obtain ⟨a1, l2, ns2⟩ := x
         exact ⟨(fun e he => by cases he), fun _ _ _ he => by cases he; exact g2 _ _ _ ha⟩
       ·exact ⟨(fun e he => by cases he), fun _ _ _ he => by cases he; exact hl.tail⟩
     ·exact ⟨fun e he => by cases he; exact errOf_ok ht, fun _ _ _ he => by cases he⟩
theorem goalS_e (f : Nat) : ReadsR (goalS f) := fun l ns hl => by
 cases l with
 | nil => exact ⟨fun e he => by simp [goalS] at he; subst he; exact err20, fun _ _ _ he => by simp [goalS] at he⟩
 | cons t l =>
  have ht := hl t (by simp)
  simp only [goalS]
  split
  ·exact ⟨(fun e he => by cases he), fun _ _ _ he => by cases he; exact hl.tail⟩
  ·obtain ⟨g1, g2⟩ := termS_e f (t :: l) ns hl
   cases hr : termS f (t :: l) ns with
   | error x => exact ⟨fun e he => by cases he; exact g1 _ hr, fun _ _ _ he => by cases he⟩
   | ok x =>
    obtain ⟨p', l', ns'⟩ := x
    simp only
    split
    ·exact ⟨(fun e he => by cases he), fun _ _ _ he => by cases he; exact g2 _ _ _ hr⟩
    ·exact ⟨fun e he => by cases he; exact err_k 5 (by decide) (by decide) ht.1, fun _ _ _ he => by cases he⟩
theorem goalsP_e (f : Nat) : ∀ (k : Nat) (acc : List (List Part)) (l : List Tok) (ns : List ByteArray), Es l -> (∀ e, goalsP f k acc l ns = .error e -> ErrOk e) /\ (∀ a1 l2 ns2, goalsP f k acc l ns = .ok (a1, l2, ns2) -> Es l2)
 | 0, _, _, _, _ => ⟨fun e he => by simp [goalsP] at he; subst he; exact err20, fun _ _ _ he => by simp [goalsP] at he⟩
 | k + 1, acc, l, ns, hl => by
  rw [goalsP]
  obtain ⟨g1, g2⟩ := goalS_e f l ns hl
  cases hr : goalS f l ns with
  | error x => exact ⟨fun e he => by cases he; exact g1 _ hr, fun _ _ _ he => by cases he⟩
  | ok x =>
   obtain ⟨p, l1, ns1⟩ := x
   have g3 := g2 p l1 ns1 hr
   cases l1 with
   | nil => exact ⟨fun e he => by cases he; exact err20, fun _ _ _ he => by cases he⟩
   | cons u l3 =>
    simp only
    have hu := g3 u (by simp)
    split
    ·split
     ·exact ⟨fun e he => by cases he; exact err_k 3 (by decide) (by decide) hu.1, fun _ _ _ he => by cases he⟩
     ·exact goalsP_e f k _ l3 ns1 g3.tail
    ·exact ⟨(fun e he => by cases he), fun _ _ _ he => by cases he; exact g3⟩
theorem goalsS_e (f k : Nat) (acc : List (List Part)) (l : List Tok) (ns : List ByteArray) (hl : Es l) : (∀ e, goalsS f k acc l ns = .error e -> ErrOk e) /\ (∀ a1 l2 ns2, goalsS f k acc l ns = .ok (a1, l2, ns2) -> Es l2) := by
 rw [goalsS_P]
 obtain ⟨g1, g2⟩ := goalsP_e f k acc l ns hl
 cases hr : goalsP f k acc l ns with
 | error x => exact ⟨fun e he => by cases he; exact g1 _ hr, fun _ _ _ he => by cases he⟩
 | ok x =>
  obtain ⟨a1, l1, ns1⟩ := x
  have g3 := g2 _ _ _ hr
  cases l1 with
  | nil => exact ⟨(fun e he => by cases he), fun _ _ _ he => by cases he; exact g3⟩
  | cons u l3 =>
   unfold noBad
   simp only
   split
   ·exact ⟨fun e he => by cases he; exact errOf_ok (g3 u (by simp)), fun _ _ _ he => by cases he⟩
   ·exact ⟨(fun e he => by cases he), fun _ _ _ he => by cases he; exact g3⟩
theorem questS_e {s : ByteArray} {e : Int × Nat} (h : questS s = .error e) : ErrOk e := by
 unfold questS at h
 split at h
 ·cases h; exact ⟨by decide, by decide, by decide⟩
 ·rename_i h4
  unfold questP at h
  obtain ⟨g1, g2⟩ := goalsP_e (tokens s).length 8 [] (tokens s) [] (toks_e s (by omega) _ _)
  cases hr : goalsP (tokens s).length 8 [] (tokens s) [] with
  | error x => rw [hr] at h; cases h; exact g1 _ hr
  | ok x =>
   obtain ⟨gs, l1, ns⟩ := x
   have g3 := g2 _ _ _ hr
   rw [hr] at h
   simp only at h
   split at h
   ·cases h; exact err20
   ·rename_i u l2
    split at h
    ·split at h
     ·cases h; exact err20
     ·rename_i y l4
      split at h
      ·cases h
      ·cases h; exact errOf_ok (g3 y (by simp))
    ·cases h; exact errOf_ok (g3 u (by simp))
theorem dotS_e (c : List Part × List (List Part)) (l : List Tok) (ns : List ByteArray) (hl : Es l) : (∀ e, dotS c l ns = .error e -> ErrOk e) /\ (∀ d l2, dotS c l ns = .ok (d, l2) -> Es l2) := by
 unfold dotS
 cases l with
 | nil => exact ⟨fun e he => by cases he; exact err20, fun _ _ he => by cases he⟩
 | cons u l1 =>
  simp only
  split
  ·exact ⟨(fun e he => by cases he), fun _ _ he => by cases he; exact hl.tail⟩
  ·exact ⟨fun e he => by cases he; exact errOf_ok (hl u (by simp)), fun _ _ he => by cases he⟩
theorem clauseS_e (f : Nat) (l : List Tok) (hl : Es l) : (∀ e, clauseS f l = .error e -> ErrOk e) /\ (∀ d l2, clauseS f l = .ok (d, l2) -> Es l2) := by
 unfold clauseS
 cases l with
 | nil => exact ⟨fun e he => by cases he; exact err20, fun _ _ he => by cases he⟩
 | cons t l =>
  simp only
  obtain ⟨g1, g2⟩ := termS_e f (t :: l) [] hl
  cases hr : termS f (t :: l) [] with
  | error x => exact ⟨fun e he => by cases he; exact g1 _ hr, fun _ _ he => by cases he⟩
  | ok x =>
   obtain ⟨p, l1, ns1⟩ := x
   have g3 := g2 _ _ _ hr
   simp only
   split
   ·cases l1 with
    | nil => exact ⟨fun e he => by cases he; exact err20, fun _ _ he => by cases he⟩
    | cons u l2 =>
     simp only
     split
     ·obtain ⟨k1, k2⟩ := goalsS_e f 8 [] l2 ns1 g3.tail
      cases hg : goalsS f 8 [] l2 ns1 with
      | error x => exact ⟨fun e he => by cases he; exact k1 _ hg, fun _ _ he => by cases he⟩
      | ok x =>
       obtain ⟨gs, l3, ns2⟩ := x
       exact dotS_e _ l3 ns2 (k2 _ _ _ hg)
     ·exact dotS_e _ _ ns1 g3
   ·exact ⟨fun e he => by cases he; exact err_k 4 (by decide) (by decide) (hl t (by simp)).1, fun _ _ he => by cases he⟩
theorem clausesS_e (f : Nat) : ∀ (k : Nat) (acc : List Cl) (l : List Tok), Es l -> ∀ e, clausesS f k acc l = .error e -> ErrOk e
 | 0, _, _, _, e, he => by simp [clausesS] at he; subst he; exact err20
 | _ + 1, _, [], _, e, he => by simp [clausesS] at he; subst he; exact err20
 | k + 1, acc, t :: l, hl, e, he => by
  rw [clausesS] at he
  split at he
  ·cases he
  ·obtain ⟨g1, g2⟩ := clauseS_e f (t :: l) hl
   cases hr : clauseS f (t :: l) with
   | error x => rw [hr] at he; cases he; exact g1 _ hr
   | ok x =>
    obtain ⟨c, l1⟩ := x
    rw [hr] at he
    exact clausesS_e f k _ l1 (g2 _ _ hr) e he
theorem readS_e {s : ByteArray} {e : Int × Nat} (h : readS s = .error e) : ErrOk e := by
 unfold readS at h
 split at h
 ·cases h; exact ⟨by decide, by decide, by decide⟩
 ·rename_i h4
  exact clausesS_e _ _ _ _ (toks_e s (by omega) _ _) e h
def RepOk (r : Rep) : Prop := -1000 <= r.kind /\ r.kind <= 1000 /\ 0 <= r.code /\ r.code <= 10 /\ 0 <= r.place /\ r.place <= 400
theorem play_kind (cs : List Cl) (n : Nat) (r : Int × Cf) (h : OutK r.1) : -1 <= (playN cs n r).1 /\ (playN cs n r).1 <= 12 := by
 obtain ⟨t', o, _, h2, h3⟩ := playN_ind (cs := cs) (P := fun _ x => OutK x.1) (fun _ cf _ => again_kind cs cf) (fun _ cf _ _ => take_kind cs cf) n 0 r h
 rcases h3 with ⟨_, h4⟩ | ⟨_, h4 | h4⟩
 ·rw [h4]
  have h5 : OutK o := h2
  unfold OutK at h5
  omega
 ·omega
 ·omega
theorem reply_rep {S : Se} {names : List ByteArray} {r : Int × Cf} (h : -1 <= r.1 /\ r.1 <= 12) : RepOk (replyS S names r).1 := by
 unfold replyS
 split
 ·exact ⟨by show (-1000 : Int) <= 1; decide, by show (1 : Int) <= 1000; decide, Int.le_refl _, by show (0 : Int) <= 10; decide, Int.le_refl _, by show (0 : Int) <= 400; decide⟩
 ·exact ⟨by show -1000 <= r.1; omega, by show r.1 <= 1000; omega, Int.le_refl _, by show (0 : Int) <= 10; decide, Int.le_refl _, by show (0 : Int) <= 400; decide⟩
theorem ask_rep (S : Se) (s : ByteArray) : RepOk (askS S s).1 := by
 unfold askS
 cases hr : questS s with
 | error e =>
  have he := questS_e hr
  exact ⟨by show (-1000 : Int) <= 4; decide, by show (4 : Int) <= 1000; decide, he.1, he.2.1, by show (0 : Int) <= (e.2 : Int); omega, by show (e.2 : Int) <= 400; have := he.2.2; omega⟩
 | ok x =>
  obtain ⟨gs, ns⟩ := x
  refine reply_rep ?_
  unfold firstS
  split
  ·exact ⟨by show (-1 : Int) <= 7; decide, by show (7 : Int) <= 12; decide⟩
  ·exact play_kind _ _ _ (.inl rfl)
theorem more_rep (S : Se) : RepOk (moreS S).1 := by
 unfold moreS
 split
 ·show RepOk (repK 3); exact ⟨by decide, by decide, by decide, by decide, by decide, by decide⟩
 ·exact reply_rep (play_kind _ _ _ (.inr (.inl rfl)))
structure MoveV where
 kd : Int
 s : ByteArray
def spB : ByteArray := ⟨#[32]⟩
def writtenB (r : Rep) : ByteArray := itoaB r.kind ++ spB ++ r.text ++ spB ++ itoaB r.code ++ spB ++ itoaB r.place
def consT (x : Int × Nat) : ByteArray := itoaB x.1 ++ spB ++ itoaB x.2
def lineSum (cls : List Cl) : Nat -> ByteArray
 | 0 => ⟨#[]⟩
 | k + 1 => lineSum cls k ++ (match cls[k]? with | some c => lineP c | none => ⟨#[]⟩)
def listS (cls : List Cl) : ByteArray := lineSum cls cls.length
def moveS (S : Se) (m : MoveV) : ByteArray × Se :=
 if m.kd = 1 then (consT (consultS S m.s).1, (consultS S m.s).2)
 else if m.kd = 2 then (writtenB (askS S m.s).1, (askS S m.s).2)
 else if m.kd = 3 then (writtenB (moreS S).1, (moreS S).2)
 else if m.kd = 4 then (⟨#[]⟩, stopS S)
 else if m.kd = 5 then (listS S.cls, S)
 else (⟨#[]⟩, S)
def movedS (S : Se) : List MoveV -> List ByteArray × Se
 | [] => ([], S)
 | m :: l => ((moveS S m).1 :: (movedS (moveS S m).2 l).1, (movedS (moveS S m).2 l).2)
theorem movedS_snoc (S : Se) : ∀ (l : List MoveV) (m : MoveV), movedS S (l ++ [m]) = ((movedS S l).1 ++ [(moveS (movedS S l).2 m).1], (moveS (movedS S l).2 m).2)
 | [], m => rfl
 | x :: l, m => by
  have ih := movedS_snoc (moveS S x).2 l m
  show ((moveS S x).1 :: (movedS (moveS S x).2 (l ++ [m])).1, (movedS (moveS S x).2 (l ++ [m])).2) = _
  rw [ih]
  rfl
theorem movedS_len (S : Se) : ∀ (l : List MoveV), (movedS S l).1.length = l.length
 | [] => rfl
 | x :: l => by show ((movedS (moveS S x).2 l).1.length + 1) = l.length + 1; rw [movedS_len (moveS S x).2 l]
theorem consult_small (S : Se) (s : ByteArray) : ErrOk (consultS S s).1 := by
 show ErrOk (consultC S.cls s).1
 unfold consultC
 cases hr : readS s with
 | error e => exact readS_e hr
 | ok new =>
  simp only []
  split
  ·exact err_k 6 (by decide) (by decide) (by decide)
  ·exact err_k 0 (by decide) (by decide) (by decide)
def LsOk (S : Se) : Prop := ∀ c ∈ S.cls, (lineL c).size <= 400
theorem ask_cls (S : Se) (s : ByteArray) : (askS S s).2.cls = S.cls := by
 unfold askS
 split
 ·rfl
 ·unfold replyS; split <;> rfl
theorem more_cls (S : Se) : (moreS S).2.cls = S.cls := by
 unfold moreS
 split
 ·rfl
 ·unfold replyS; split <;> rfl
theorem move_ls {S : Se} (h : LsOk S) (m : MoveV) : LsOk (moveS S m).2 := by
 unfold moveS
 split
 ·show LsOk (consultS S m.s).2
  unfold consultS consultC
  cases hr : readS m.s with
  | error e => exact h
  | ok new =>
   simp only []
   split
   ·exact h
   ·intro c hc
    rcases List.mem_append.1 hc with hc | hc
    ·exact h c hc
    ·exact line_size hr c hc
 ·split
  ·intro c hc; rw [ask_cls] at hc; exact h c hc
  ·split
   ·intro c hc; rw [more_cls] at hc; exact h c hc
   ·split
    ·exact h
    ·split
     ·exact h
     ·exact h
theorem move_lim (S : Se) (m : MoveV) : (moveS S m).2.lim = S.lim := by
 unfold moveS
 split
 ·rfl
 ·split
  ·exact WorksL.lim_ask S m.s
  ·split
   ·exact WorksL.lim_more S
   ·split
    ·rfl
    ·split
     ·rfl
     ·rfl
theorem moved_ls : ∀ (l : List MoveV) (S : Se), LsOk S -> LsOk (movedS S l).2 /\ (movedS S l).2.lim = S.lim
 | [], S, h => ⟨h, rfl⟩
 | m :: l, S, h => by
  have h1 := moved_ls l (moveS S m).2 (move_ls h m)
  exact ⟨h1.1, h1.2.trans (move_lim S m)⟩
def numF : Nat -> Nat -> List UInt8
 | 0, _ => []
 | f + 1, n => if 128 <= n then UInt8.ofNat (n % 128 + 128) :: numF f (n / 128) else [UInt8.ofNat n]
def numB (n : Nat) : List UInt8 := numF 10 n
def wordB (s : ByteArray) : List UInt8 := numB s.size ++ bs s
structure Rdr where
 rest : List UInt8
 wrong : Bool
def refuse : Rdr := ⟨[], true⟩
def numR (most : Nat) : List UInt8 -> Nat -> Nat -> Nat × Rdr
 | [], _, _ => (0, refuse)
 | d :: r, value, scale => if (most - value) / scale < d.toNat % 128 then (0, refuse)
  else if d.toNat < 128 then (value + d.toNat % 128 * scale, ⟨r, false⟩)
  else if most / 128 < scale then (0, refuse) else numR most r (value + d.toNat % 128 * scale) (scale * 128)
def numL (most : Nat) (r : Rdr) : Nat × Rdr := if r.wrong = true then (0, refuse) else numR most r.rest 0 1
def wordL (most : Nat) (r : Rdr) : ByteArray × Rdr :=
 if (numL most r).2.rest.length < (numL most r).1 then (⟨#[]⟩, refuse)
 else (⟨((numL most r).2.rest.take (numL most r).1).toArray⟩, ⟨(numL most r).2.rest.drop (numL most r).1, (numL most r).2.wrong⟩)
theorem byte_low {n : Nat} (h : n < 256) : (UInt8.ofNat n).toNat = n := by rw [UInt8.toNat_ofNat']; omega
theorem numR_F (most : Nat) : ∀ (f n value scale : Nat) (r : List UInt8), n < 128 ^ f -> 1 <= scale -> value + n * scale <= most -> 1 <= f -> numR most (numF f n ++ r) value scale = (value + n * scale, ⟨r, false⟩)
 | 0, _, _, _, _, _, _, _, hf => by omega
 | f + 1, n, value, scale, r, hn, hs, hm, _ => by
  rw [numF]
  split
  ·rename_i h128
   have hd : (UInt8.ofNat (n % 128 + 128)).toNat = n % 128 + 128 := byte_low (by omega)
   have hdm : (n % 128 + 128) % 128 = n % 128 := by omega
   have hdiv : n = 128 * (n / 128) + n % 128 := by omega
   have hq : 1 <= n / 128 := by omega
   have hsplit : n * scale = n / 128 * (scale * 128) + n % 128 * scale := by
    have : n * scale = (128 * (n / 128) + n % 128) * scale := by rw [<- hdiv]
    rw [this, Nat.add_mul, Nat.mul_comm 128 (n / 128), Nat.mul_assoc, Nat.mul_comm 128 scale]
   have h1 : ¬ (most - value) / scale < n % 128 := by
    have : n % 128 <= (most - value) / scale := (Nat.le_div_iff_mul_le (by omega)).2 (by omega)
    omega
   have h2 : ¬ most / 128 < scale := by
    have h3 : scale * 128 <= n / 128 * (scale * 128) := Nat.le_mul_of_pos_left _ hq
    have : scale <= most / 128 := (Nat.le_div_iff_mul_le (by omega)).2 (by omega)
    omega
   rw [List.cons_append, numR, hd, hdm, if_neg h1, if_neg (by omega), if_neg h2]
   cases f with
   | zero => simp at hn; omega
   | succ f =>
    rw [numR_F most (f + 1) (n / 128) (value + n % 128 * scale) (scale * 128) r (by rw [Nat.pow_succ] at hn; omega) (by omega) (by omega) (by omega)]
    rw [hsplit]
    congr 1
    omega
  ·rename_i h128
   have hd : (UInt8.ofNat n).toNat = n := byte_low (by omega)
   have hm2 : n % 128 = n := by omega
   have h1 : ¬ (most - value) / scale < n := by
    have : n <= (most - value) / scale := (Nat.le_div_iff_mul_le (by omega)).2 (by omega)
    omega
   rw [List.cons_append, List.nil_append, numR, hd, hm2, if_neg h1, if_pos (by omega)]
theorem numL_B {most n : Nat} (h : n <= most) (hn : n < 128 ^ 10) (r : List UInt8) : numL most ⟨numB n ++ r, false⟩ = (n, ⟨r, false⟩) := by
 unfold numL numB
 rw [if_neg (by simp)]
 have := numR_F most 10 n 0 1 r hn (by omega) (by omega) (by omega)
 rw [Nat.mul_one, Nat.zero_add] at this
 exact this
theorem wordL_B {most : Nat} {s : ByteArray} (h : s.size <= most) (hn : s.size < 128 ^ 10) (r : List UInt8) : wordL most ⟨wordB s ++ r, false⟩ = (s, ⟨r, false⟩) := by
 unfold wordL wordB
 rw [List.append_assoc, numL_B h hn]
 simp only
 rw [if_neg (by rw [List.length_append, bs_len]; omega), <- bs_len, List.take_left', List.drop_left']
 ·rfl
 ·rfl
 ·rfl
def partB (p : Part) : List UInt8 := if p.kind = 1 then numB 5 ++ numB p.value.toNat else if p.kind = 2 then numB 6 ++ numB (p.value + 999999999).toNat else numB p.args.toNat ++ wordB p.name
def termB (t : List Part) : List UInt8 := t.flatMap partB
structure Ldr where
 r : Rdr
 fresh : Nat
 height : Nat
def isTokB (s : ByteArray) (k : Int) : Bool := decide ((nextTok s 0).k = k /\ (nextTok s 0).at_ = 0 /\ (nextTok s 0).s.size = s.size)
def varL (L : Ldr) : Nat × Ldr := ((numL L.fresh L.r).1, ⟨(numL L.fresh L.r).2, if (numL L.fresh L.r).1 = L.fresh then L.fresh + 1 else L.fresh, L.height⟩)
def numPL (L : Ldr) : Part × Ldr := (⟨2, ⟨#[]⟩, ((numL 1999999998 L.r).1 : Int) - 999999999, 0⟩, ⟨(numL 1999999998 L.r).2, L.fresh, L.height⟩)
def namePL (a : Nat) (L : Ldr) : Part × Ldr := (⟨3, (wordL 12 L.r).1, 0, a⟩, ⟨if isTokB (wordL 12 L.r).1 97 = true then (wordL 12 L.r).2 else refuse, L.fresh, L.height⟩)
def varPL (L : Ldr) : Part × Ldr := (⟨1, ⟨#[]⟩, (varL L).1, 0⟩, (varL L).2)
def partL (L : Ldr) : Part × Ldr := if (numL 6 L.r).1 = 5 then varPL ⟨(numL 6 L.r).2, L.fresh, L.height⟩ else if (numL 6 L.r).1 = 6 then numPL ⟨(numL 6 L.r).2, L.fresh, L.height⟩ else namePL (numL 6 L.r).1 ⟨(numL 6 L.r).2, L.fresh, L.height⟩
def over (t : List Part) (L : Ldr) : Ldr := if 200 < t.length then ⟨refuse, L.fresh, L.height⟩ else L
def termL : Nat -> Int -> List Part -> Ldr -> List Part × Ldr
 | 0, _, t, L => (t, L)
 | f + 1, m, t, L => if 0 < m /\ L.r.wrong = false then termL f (m + (partL L).1.args - 1) (t ++ [(partL L).1]) (over (t ++ [(partL L).1]) (partL L).2) else (t, L)
def PartV (p : Part) : Prop := (p.kind = 1 /\ p.name = ⟨#[]⟩ /\ p.args = 0 /\ 0 <= p.value /\ p.value <= 1000000) \/ (p.kind = 2 /\ p.name = ⟨#[]⟩ /\ p.args = 0 /\ -999999999 <= p.value /\ p.value <= 999999999) \/ (p.kind = 3 /\ p.value = 0 /\ NmOk p.name /\ 0 <= p.args /\ p.args <= 4)
theorem nm_size {W : ByteArray} (h : NmOk W) : W.size <= 12 := by
 obtain ⟨c, W', e, _, _, hl⟩ := h
 rw [<- bs_len, e]; exact hl
theorem isTok_nm {W : ByteArray} (h : NmOk W) : isTokB W 97 = true := by
 have hh : Has W 0 (bs W) [] := by unfold Has; rw [List.drop_zero, List.append_nil]; rfl
 have hr := rest_name h hh (fun c r' e => by cases e)
 have hn : nextTok W 0 = ⟨97, 0, W, 0⟩ := by
  rw [rest_eq W W.size 0 (by omega) (by omega)] at hr
  split at hr
  ·exact (List.cons.inj hr).1
  ·exact (List.cons.inj hr).1
 unfold isTokB
 rw [hn]
 simp
theorem numL_small {most n : Nat} (h : n <= most) (hn : n < 2000000000) (r : List UInt8) : numL most ⟨numB n ++ r, false⟩ = (n, ⟨r, false⟩) := numL_B h (by omega) r
def VarOk (p : Part) (k : Nat) : Prop := p.kind = 1 -> p.value <= k
def after (p : Part) (k : Nat) : Nat := if p.kind = 1 /\ p.value = k then k + 1 else k
theorem partL_5 {b : List UInt8} {k h n : Nat} (hn : n <= k) (hk : k <= 1000000) : partL ⟨⟨numB 5 ++ (numB n ++ b), false⟩, k, h⟩ = (⟨1, ⟨#[]⟩, (n : Int), 0⟩, ⟨⟨b, false⟩, if n = k then k + 1 else k, h⟩) := by
 unfold partL
 simp only
 rw [numL_small (by omega) (by omega)]
 simp only [if_true]
 unfold varPL varL
 simp only
 rw [numL_small hn (by omega)]
theorem partL_6 {b : List UInt8} {k h n : Nat} (hn : n <= 1999999998) : partL ⟨⟨numB 6 ++ (numB n ++ b), false⟩, k, h⟩ = (⟨2, ⟨#[]⟩, (n : Int) - 999999999, 0⟩, ⟨⟨b, false⟩, k, h⟩) := by
 unfold partL
 simp only
 rw [numL_small (by omega) (by omega)]
 simp only
 rw [if_neg (by decide), if_pos trivial]
 unfold numPL
 simp only
 rw [numL_small hn (by omega)]
theorem partL_w {b : List UInt8} {k h n : Nat} {W : ByteArray} (hn : n <= 4) (hW : NmOk W) : partL ⟨⟨numB n ++ (wordB W ++ b), false⟩, k, h⟩ = (⟨3, W, 0, n⟩, ⟨⟨b, false⟩, k, h⟩) := by
 have hs := nm_size hW
 unfold partL
 simp only
 rw [numL_small (by omega) (by omega)]
 simp only
 rw [if_neg (by omega), if_neg (by omega)]
 unfold namePL
 simp only
 rw [wordL_B hs (by omega), isTok_nm hW]
 simp only [if_true]
theorem partL_B {p : Part} {k h : Nat} (hp : PartV p) (hv : VarOk p k) (hk : k <= 1000000) (r : List UInt8) : partL ⟨⟨partB p ++ r, false⟩, k, h⟩ = (p, ⟨⟨r, false⟩, after p k, h⟩) := by
 obtain ⟨pk, pn, pv, pa⟩ := p
 rcases hp with ⟨e1, e2, e3, e4, e5⟩ | ⟨e1, e2, e3, e4, e5⟩ | ⟨e1, e2, e3, e4, e5⟩
 ·simp only at e1 e2 e3 e4 e5
  subst e1; subst e2; subst e3
  have hv' : pv <= k := hv rfl
  obtain ⟨n, rfl⟩ := Int.eq_ofNat_of_zero_le e4
  have eB : partB ⟨1, ⟨#[]⟩, (n : Int), 0⟩ = numB 5 ++ numB n := rfl
  have eA : after ⟨1, ⟨#[]⟩, (n : Int), 0⟩ k = if n = k then k + 1 else k := by
   unfold after
   by_cases hnk : n = k
   ·rw [if_pos ⟨rfl, by show (n : Int) = k; omega⟩, if_pos hnk]
   ·rw [if_neg (by intro hx; have : (n : Int) = k := hx.2; omega), if_neg hnk]
  rw [eB, eA, List.append_assoc]
  exact partL_5 (by omega) hk
 ·simp only at e1 e2 e3 e4 e5
  subst e1; subst e2; subst e3
  have eB : partB ⟨2, ⟨#[]⟩, pv, 0⟩ = numB 6 ++ numB (pv + 999999999).toNat := rfl
  have eA : after ⟨2, ⟨#[]⟩, pv, 0⟩ k = k := by unfold after; rw [if_neg (by intro hx; have h2 : (2 : Int) = 1 := hx.1; omega)]
  rw [eB, eA, List.append_assoc, partL_6 (by omega)]
  have : (((pv + 999999999).toNat : Nat) : Int) - 999999999 = pv := by omega
  rw [this]
 ·simp only at e1 e2 e3 e4 e5
  subst e1; subst e2
  have eB : partB ⟨3, pn, 0, pa⟩ = numB pa.toNat ++ wordB pn := rfl
  have eA : after ⟨3, pn, 0, pa⟩ k = k := by unfold after; rw [if_neg (by intro hx; have h2 : (3 : Int) = 1 := hx.1; omega)]
  rw [eB, eA, List.append_assoc, partL_w (by omega) e3]
  have : ((pa.toNat : Nat) : Int) = pa := by omega
  rw [this]
def VarsOk : List Part -> Nat -> Prop
 | [], _ => True
 | p :: t, k => VarOk p k /\ VarsOk t (after p k)
def afters (t : List Part) (k : Nat) : Nat := t.foldl (fun k p => after p k) k
def need (t : List Part) (m : Int) : Int := t.foldl (fun m p => m + p.args - 1) m
def Whole : List Part -> Int -> Prop
 | [], m => m = 0
 | p :: t, m => 0 < m /\ Whole t (m + p.args - 1)
theorem after_le (p : Part) (k : Nat) : after p k <= k + 1 := by unfold after; split <;> omega
theorem termL_B : ∀ (t : List Part) (f : Nat) (m : Int) (a : List Part) (k h : Nat) (r : List UInt8), (∀ p ∈ t, PartV p) -> VarsOk t k -> Whole t m -> a.length + t.length <= 200 -> t.length < f -> k + t.length <= 1000000 -> termL f m a ⟨⟨termB t ++ r, false⟩, k, h⟩ = (a ++ t, ⟨⟨r, false⟩, afters t k, h⟩)
 | [], f + 1, m, a, k, h, r, _, _, hw, _, _, _ => by
  have hm : m = 0 := hw
  rw [termL, if_neg (by omega)]
  simp [termB, afters]
 | p :: t, f + 1, m, a, k, h, r, hp, hv, hw, hl, hf, hk => by
  have e : termB (p :: t) ++ r = partB p ++ (termB t ++ r) := by unfold termB; rw [List.flatMap_cons, List.append_assoc]
  rw [List.length_cons] at hl hf hk
  have h1 := partL_B (h := h) (hp p (by simp)) hv.1 (by omega) (termB t ++ r)
  have h2 := after_le p k
  rw [e, termL, if_pos ⟨hw.1, rfl⟩, h1]
  simp only
  unfold over
  rw [if_neg (by rw [List.length_append]; simp; omega)]
  rw [termL_B t f (m + p.args - 1) (a ++ [p]) (after p k) h r (fun q hq => hp q (by simp [hq])) hv.2 hw.2 (by rw [List.length_append]; simp; omega) (by omega) (by omega)]
  rw [List.append_assoc]
  rfl
 | [], 0, _, _, _, _, _, _, _, _, _, hf, _ => by simp at hf
 | _ :: _, 0, _, _, _, _, _, _, _, _, _, hf, _ => by simp at hf
end Rf
