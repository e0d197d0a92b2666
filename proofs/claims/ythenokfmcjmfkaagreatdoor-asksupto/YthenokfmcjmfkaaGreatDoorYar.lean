import Derived.Test.YthenokfmcjmfkaaGreatDoorYaq
namespace Go.Proofs.Q
open Rf _root_.Go.Proofs.Tryz
open Go.RowKit
variable {nm : Value}
def Turn(w:World)(k:Nat):Prop:=∃cs t,w.heap[k]?=some (.cells cs t (0,0))/\(t=52\/t=127\/t=133\/t=86)
def Mut(w:World)(k:Nat):Prop:=∃cs t,w.heap[k]?=some (.cells cs t (0,0))/\t≠129/\t≠84/\t≠3
theorem Mut.not{w:World}{k:Nat}{cs:Array Value}{t:TypeId}(h:w.heap[k]?=some (.cells cs t (0,0)))(j:t=129\/t=84\/t=3):¬Mut w k:=by
 rintro⟨b,l,a,c,d,f⟩;rw[h] at a;injection a with g;injection g with _ i;subst i;rcases j with e|e|e
 ·exact c e
 ·exact d e
 ·exact f e
structure qw(B:Nat)(G:Nat->Prop)(w:World)(x:Nat)(S:Se):Prop where
 ex:∃F oq nm,zo F w x oq nm S/\G x/\(∀k,F k->G k)/\(∀k,GU oq k->G k)/\(∀g,NmB nm g->G g)
 lo:∀k,G k->B<=k
 hi:∀k,G k->k<w.heap.size
def NM(G:Nat->Prop)(w w':World)(k:Nat):Prop:=G k\/(w.heap.size<=k/\k<w'.heap.size)
def IU(B:Nat)(G:Nat->Prop)(w:World)(x:Nat)(S:Se)(w':World):Prop:=
 qw B (NM G w w') w' x S/\Kept (fun k=>G k/\Turn w k) w w'
theorem qw.x{B:Nat}{G:Nat->Prop}{w:World}{x:Nat}{S:Se}(h:qw B G w x S):G x:=by
 obtain⟨_,_,_,_,a,_⟩:=h.ex;exact a
theorem qw.mono{B:Nat}{G a:Nat->Prop}{w:World}{x:Nat}{S:Se}(h:qw B G w x S)(b:∀k,G k->a k)(m:∀k,a k->B<=k)(l:∀k,a k->k<w.heap.size):qw B a w x S:=by
 obtain⟨F,n,nm,c,d,f,i,j⟩:=h.ex;exact⟨⟨F,n,nm,c,b _ d,fun k e=>b k (f k e),fun k e=>b k (i k e),fun g e=>b g (j g e)⟩,m,l⟩
theorem Iy.turn{w:World}{i:Value}{b:Option (Nat×Option Nat)}{Q:Option Qs}(h:Iy nm w i b Q):∀k,GU b k->Turn w k:=by
 intro k c
 cases b with
 |none=>exact c.elim
 |some p=>
  obtain⟨q,j⟩:=p
  cases Q with
  |none=>exact h.elim
  |some Q=>
   obtain⟨_,d⟩:=h;obtain⟨_,_,_,_,a⟩:=d.ex;rcases c with e|e
   ·subst e;exact⟨_,_,a.b,.inr (.inl rfl)⟩
   ·obtain⟨acc,g,_⟩:=a.r.ex;obtain⟨cs,f⟩:=g.typed k (a.o.trans e.symm);exact⟨cs,_,f,.inr (.inr (.inl rfl))⟩
theorem PsB.turn{w:World}{x:Nat}{lim:Int}{vC a:Value}(h:PsB w x lim vC a):Turn w x:=⟨_,_,h,.inl rfl⟩
theorem pJ{α:Type}{w w':World}{M:Nat->Prop}{e:TypeId}{C:α->List Value}{v:Value}{f:List α}(h:Seen w e C v f)(j:Kept M w w')(k:∀g,NmB v g->¬M g):Seen w' e C v f:=by
 rcases h.ex with h|⟨g,off,a,b,c,d,i⟩
 ·exact⟨.inl h⟩
 ·exact⟨.inr ⟨g,off,a,b,c,(j.block g (AD d) (k g ⟨off,_,_,c⟩)).trans d,i⟩⟩
theorem aAZ{α:Type}{w:World}{e:TypeId}{C:α->List Value}{v:Value}{b:List α}(h:Seen w e C v b){g:Nat}(a:NmB v g):g<w.heap.size:=by
 obtain⟨off,n,c,rfl⟩:=a;exact h.lt
theorem QAt.keptG{w w':World}{M:Nat->Prop}{q:Nat}{n:Option Nat}{o:List ByteArray}{cf:Cf}(h:QAt nm w q n o cf)(b:Kept M w w')(m:∀k,M k->Mut w k)(r:∀k,May q n k->¬M k)(y:∀g,NmB nm g->¬M g):QAt nm w' q n o cf:=by
 obtain⟨j,l,i,vC,a⟩:=h.ex;have s:∀k cs,w.heap[k]?=some (.cells cs 129 (0,0))->¬M k:=fun k cs c d=>Mut.not c (.inl rfl) (m k d);have t:∀k cs,w.heap[k]?=some (.cells cs 84 (0,0))->¬M k:=fun k cs c d=>Mut.not c (.inr (.inl rfl)) (m k d);have z:∀k cs,w.heap[k]?=some (.cells cs 3 (0,0))->¬M k:=fun k cs c d=>Mut.not c (.inr (.inr rfl)) (m k d);have f:∀{j l:Value} {i:Int} {S:St},xq w j l i S->xq w' j l i S:=fun h=>⟨h.g.Bz b s t,h.t.Bz b s t,h.f⟩
 obtain⟨acc,u,p,v⟩:=a.r.ex;exact⟨j,l,i,vC,(b.block q (AD a.b) (r q (.inl rfl))).trans a.b,pJ a.n b y,f a.s,⟨acc,u.keptBy b (fun k e=>r k (.inr (a.o.symm.trans e).symm)),fun x hx=>⟨f (p x hx).st,Seen.kept (p x hx).cl b z⟩,v⟩,a.o⟩
theorem qw.kept{B:Nat}{G M:Nat->Prop}{w w':World}{x:Nat}{S:Se}(h:qw B G w x S)(d:Kept M w w')(t:∀k,M k->Mut w k)(f:∀k,G k->¬M k):qw B G w' x S:=by
 obtain⟨F,r,nm,b,l,m,n,o⟩:=h.ex;obtain⟨vC,y,j,s,a⟩:=b.ex;refine⟨⟨F,r,nm,⟨b.ok,⟨vC,y,(d.block x (AD j) (f x l)).trans j,s.kept d (fun k _ i=>f k (m k i)),?_⟩,b.apart,fun k i=>bH (b.bd k i) d.size,b.sep⟩,l,m,n,o⟩,h.lo,fun k e=>bH (h.hi k e) d.size⟩
 cases r with
 |none=>
  cases c:S.q with
  |none=>rw[c] at a;exact a
  |some Q=>rw[c] at a;exact a.elim
 |some p=>
  obtain⟨q,z⟩:=p
  cases c:S.q with
  |none=>rw[c] at a;exact a.elim
  |some Q=>
   rw[c] at a;exact⟨a.1,a.2.keptG d t (fun k v=>f k (n k v)) (fun g u=>f g (o g u))⟩
theorem qw.below{B:Nat}{G:Nat->Prop}{w w':World}{x:Nat}{S:Se}(h:qw B G w x S)(a:Below w.heap.size w w'):qw B G w' x S:=h.kept (Kept.of_below a (fun _=>False)) (fun _ e=>e.elim) (fun _ _ e=>e)
theorem Iy.any{a:Value}{w:World}{b:Value}{Q:Option Qs}(h:Iy nm w b none Q):Iy a w b none Q:=by
 cases Q with
 |none=>exact h
 |some _=>exact h.elim
theorem zo.any{a:Value}{F:Nat->Prop}{w:World}{x:Nat}{S:Se}(h:zo F w x none nm S):zo F w x none a S:=by
 obtain⟨vC,d,t1,b,c⟩:=h.ex;exact⟨h.ok,⟨vC,d,t1,b,c.any⟩,h.apart,h.bd,h.sep⟩
theorem zo.nmlt{F:Nat->Prop}{w:World}{x:Nat}{p:Nat×Option Nat}{S:Se}(h:zo F w x (some p) nm S){g:Nat}(c:NmB nm g):g<w.heap.size:=by
 obtain⟨vC,i,t1,f,a⟩:=h.ex;obtain⟨q,e⟩:=p
 cases b:S.q with
 |none=>rw[b] at a;exact a.elim
 |some Q=>
  rw[b] at a;obtain⟨_,_,_,_,d⟩:=a.2.ex;exact aAZ d.n c
theorem Au.done{B:Nat}{G F:Nat->Prop}{w w':World}{x:Nat}{b:Option (Nat×Option Nat)}{S:Se}{P:Rep×Se}{r:Ending}(h:Au F w x b nm P r w')(z:zo F w x b nm S)(c:qw B G w x S)(q:∀k,F k->G k)(s:∀k,GU b k->G k)(A:∀g,NmB nm g->G g)(H:B<=w.heap.size):r= .returned (GH P.1)/\IU B G w x P.2 w':=by
 obtain⟨u,⟨n,m,d,v,y⟩,o⟩:=h;obtain⟨_,_,t1,_,E⟩:=z.ex;have D:=o.size
 have l:∃F b nm,zo F w' x b nm P.2/\NM G w w' x/\(∀k,F k->NM G w w' k)/\(∀k,GU b k->NM G w w' k)/\(∀g,NmB nm g->NM G w w' g):=by
  cases n with
  |none=>exact⟨F,none,.pointer none,d.any,.inl c.x,fun k j=> .inl (q k j),fun k i=>i.elim,fun g f=>(OB f).elim⟩
  |some p=>
   refine⟨F,some p,m,d,.inl c.x,fun k j=> .inl (q k j),fun k i=>?_,fun g f=>?_⟩
   ·rcases v k i with e|e
    ·exact .inl (s k e)
    ·obtain⟨_,_,_,_,u3⟩:=d.ex;obtain⟨cs,t,C,_⟩:=u3.turn k i;exact .inr ⟨e,AD C⟩
   ·rcases y g f with e|e
    ·exact .inl (A g e)
    ·exact .inr ⟨e,d.nmlt f⟩
 refine⟨u,⟨l,fun k a=>?_,fun k a=>?_⟩,o.mono (fun k _ e=>?_)⟩
 ·rcases a with a|a
  ·exact c.lo k a
  ·omega
 ·rcases a with a|a
  ·have:=c.hi k a;omega
  ·exact a.2
 ·rcases e with e|e
  ·subst e;exact⟨c.x,t1.turn⟩
  ·exact⟨s k e,E.turn k e⟩
theorem zS(B:Nat)(G:Nat->Prop)(w:World)(x:Nat)(S:Se)(h:qw B G w x S)(f:B<=w.heap.size)(n:vk B w):Calls prog 18 #[.pointer (some ⟨x,0,none⟩)] w fun r w'=>r= .returned (GH (IA S).1)/\IU B G w x (IA S).2 w':=by
 obtain⟨F,g,nm,b,u,l,c,m⟩:=h.ex
 cases a:S.q with
 |none=>
  have e:IA S=(J9 3,S):=by unfold IA;rw[a]
  rw[e];refine(rI F w x g S a b).mono ?_;rintro r w' ⟨j,d⟩;have s:=d.size;refine⟨j,(h.below d).mono (fun k e=> .inl e) (fun k e=>?_) (fun k e=>?_),Kept.of_below d _⟩
  ·rcases e with e|e
   ·exact h.lo k e
   ·omega
  ·rcases e with e|e
   ·have:=h.hi k e;omega
   ·exact e.2
 |some Q=>
  have e:IA S=CT S Q.aW (CG S.cls S.lim (-1,⟨DL,Q.chs⟩)):=by unfold IA;rw[a];rfl
  rw[e]
  cases g with
  |none=>
   obtain⟨_,_,_,_,i⟩:=b.ex;rw[a] at i;exact i.elim
  |some p=>
   obtain⟨q,t⟩:=p;refine(pY F w B x q t S Q a b f (h.lo q (c q (.inl rfl))) (fun k e=>h.lo k (c k (.inr e.symm))) n).mono ?_;exact fun r w' o=>o.done b h l c m f
theorem aBS(B:Nat)(G:Nat->Prop)(w:World)(x:Nat)(S:Se)(s:ByteArray)(j:s.size<=maxLen)(h:qw B G w x S)(c:B<=w.heap.size)(m:vk B w):Calls prog 17 #[.pointer (some ⟨x,0,none⟩),.string s] w fun r w'=>r= .returned (GH (JE S s).1)/\IU B G w x (JE S s).2 w':=by
 obtain⟨F,k,nm,b,l,f,g,i⟩:=h.ex
 cases a:BM s with
 |error e=>
  have e0:JE S s=(⟨4,⟨#[]⟩,e.1,e.2⟩,⟨S.lim,S.cls,none⟩):=by unfold JE;rw[a]
  rw[e0];exact(aAt F w x k S s j b e.1 e.2 a).mono (fun r w' d=>d.done b h f g i c)
 |ok y=>
  obtain⟨gs,ns⟩:=y;have e0:JE S s=CT S (BE ns) (IJ S.cls S.lim (BK gs ns)):=by unfold JE;rw[a];rfl
  rw[e0];exact(aCe F w B x k S s j b c (h.lo x l) m gs ns a (T7 a)).mono (fun r w' d=>d.done b h f g i c)
theorem aAs(B:Nat)(G:Nat->Prop)(w:World)(x:Nat)(S:Se)(h:qw B G w x S):Calls prog 19 #[.pointer (some ⟨x,0,none⟩)] w fun r w'=>r= .returned (.tuple #[])/\IU B G w x (PF S) w':=by
 obtain⟨F,q,nm,a,f,j,n,o⟩:=h.ex;obtain⟨vC,t,t1,m,s⟩:=a.ex;refine(JA x w ⟨_,_,_,t1⟩).mono ?_;rintro r w' ⟨i,rfl⟩;have c:Kept (fun k=>k=x) w (w.setCell ⟨x,2,none⟩ (.pointer none)):=Kept.setCell (p:=⟨x,2,none⟩) (Kept.refl (fun k=>k=x) w) (Or.inr rfl) _;have d:=c.size;refine⟨i,⟨⟨F,none,.pointer none,⟨dP a.ok,⟨vC,_,AK t1 2 _,m.kept c (fun k _ b e=>a.apart (e ▸ b)),rfl⟩,a.apart,fun k b=>bH (a.bd k b) d,fun k e=>e.elim⟩,.inl f,fun k e=> .inl (j k e),fun k e=>e.elim,fun g l=>(OB l).elim⟩,fun k e=>?_,fun k e=>?_⟩,c.mono (fun k _ e=>by subst e;exact⟨f,t1.turn⟩)⟩
 ·rcases e with e|e
  ·exact h.lo k e
  ·have: (w.setCell ⟨x,2,none⟩ (.pointer none)).heap.size=w.heap.size:=aE;omega
 ·rcases e with e|e
  ·have:=h.hi k e;omega
  ·exact e.2
theorem nB(B:Nat)(G:Nat->Prop)(w:World)(x:Nat)(S:Se)(s:ByteArray)(o:s.size<=maxLen)(h:qw B G w x S)(y:B<=w.heap.size):Calls prog 16 #[.pointer (some ⟨x,0,none⟩),.string s] w fun r w'=>r= .returned (.tuple #[.int .i64 (EE S s).1.1,.int .i64 (EE S s).1.2])/\IU B G w x (EE S s).2 w':=by
 obtain⟨F,z,nm,b,f,i,u,v⟩:=h.ex;obtain⟨vC,t,t1,q,A⟩:=b.ex;refine(qZ F w x S.lim t S.cls s ⟨⟨vC,t1,q⟩,b.apart⟩ o (wO s)).mono ?_;rintro r w' ⟨l,j,d⟩;have p:=j.size;obtain⟨c,u1,u2⟩:=d.ex;refine⟨l,⟨⟨_,none,.pointer none,⟨YZ b.ok s,⟨c,_,u1,u2,rfl⟩,d.apart,fun k a=>?_,fun k e=>e.elim⟩,.inl f,fun k e=>?_,fun k e=>e.elim,fun g n=>(OB n).elim⟩,fun k e=>?_,fun k e=>?_⟩,j.mono (fun k _ e=>?_)⟩
 ·rcases a with a|a
  ·have:=b.bd k a;omega
  ·exact a.2
 ·rcases e with e|e
  ·exact .inl (i k e)
  ·exact .inr e
 ·rcases e with e|e
  ·exact h.lo k e
  ·omega
 ·rcases e with e|e
  ·have:=h.hi k e;omega
  ·exact e.2
 ·rcases e with e|⟨e,cs,m⟩
  ·subst e;exact⟨f,t1.turn⟩
  ·exact⟨i k e,cs,_,m,.inr (.inr (.inr rfl))⟩
theorem sQ{lim:Nat}(h:1<=lim)(a:lim<=1000):zh ⟨lim,[],none⟩:=⟨h,a,aE,fun c b=>by simp at b,fun q d=>by cases d⟩
end Go.Proofs.Q
