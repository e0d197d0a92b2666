import Derived.Test.YthenokfmcjmfkaaGreatDoorYap
set_option maxRecDepth 100000
set_option maxHeartbeats 4000000
namespace Go.Proofs.Q
open Rf _root_.Go.Proofs.Tryz
open Go.RowKit
theorem mD(w:World)(r:Nat)(a:ByteArray)(f:Option Nat)(t:Rf.Tok)(l:List Rf.Tok)(ns:List ByteArray)(h:Pr w r a f (t::l) ns)(b:t.k=0):Calls prog 53 #[.pointer (some ⟨r,0,none⟩),.int .i64 0] w fun x w'=>x= .returned (.bool true)/\(∃m,Pr w' r a f m ns)/\Kept (fun k=>k=r) w w':=by
 obtain⟨j,⟨_,n⟩,o⟩:=h.kind;have g:BV t.k=0:=by rw[b];rfl
 rw[g] at j;have H:=aO h;have i:=aO b;clear h b g;go_enter func53,ntmps53;go_wp2_with (go_at_call 50;refine(aAc _ r a f t l ns H.o i.o).mono ?_;rintro e p ⟨rfl,d,c⟩);go_ret;exact⟨rfl,d,c⟩
def RG(w:World)(res:Except (Int×Nat) (List (List AB)×List ByteArray))(x:Ending)(w':World):Prop:=
  Below w.heap.size w w'/\(match res with
   | .ok (gs,ns)=>∃a1 n1 c1 a2 n2 c2,x= .returned (.tuple #[.slice a1 n1 c1,.slice a2 n2 c2,.int .i64 0,.int .i64 0])/\ak w' (.slice a1 n1 c1) gs/\Seen w' 9 A3 (.slice a2 n2 c2) ns/\gs.length<=8/\ns.length<=16
   | .error (e,q)=>x= .returned (.tuple #[.slice none 0 0,.slice none 0 0,.int .i64 e,.int .i64 q])/\e≠0)
theorem mX(s:ByteArray)(w:World)(c:400<s.size)(b:s.size<=maxLen):Calls prog 32 #[.string s] w fun r w'=>RG w (BM s) r w':=by
 have a:Hid (BM s= .error (1,0)):=by unfold Hid BM;rw[bD c]
 unfold maxLen at b;go_enter func32,ntmps32;go_wp2;refine bodyPost_ret (v:= .tuple #[.slice none 0 0,.slice none 0 0,.int .i64 1,.int .i64 0]) (by simp[results,results32,go_sem]) rfl ?_;rw[a.o];exact⟨bZ _ _,rfl,aF⟩
theorem ak.Nh{w w':World}{v:Value}{ts:List (List AB)}{r:Nat}{cs:Array Value}{t:TypeId}(h:ak w v ts)(o:w.heap[r]?=some (.cells cs t (0,0)))(m:t≠129)(n:t≠84)(f:Kept (fun k=>k=r) w w'):ak w' v ts:=by
 obtain⟨acc,i,j,l⟩:=h.ex
 have g:∀(d:TypeId),d≠t->∀k a,w.heap[k]?=some (.cells a d (0,0))->¬k=r:=fun d c k a e p=>by
  subst p;rw[o] at e;injection e with b;injection b with _ b;exact c b.symm
 exact⟨acc,i.kept f (g _ (Ne.symm n)),fun q s=>(j q s).kept f (g _ (Ne.symm m)),l⟩
theorem PGs.seen{w wr:World}{b:Option Nat}{v:Value}{acc:List (SlV×List AB)}(h:PGs w wr b v acc):ak wr v (acc.map (·.2)):=⟨acc,h.row.seen,fun q a=>(h.aV q a).1.seen,rfl⟩
theorem kV(s:ByteArray)(w:World)(J:s.size<=400):Calls prog 32 #[.string s] w fun r w'=>RG w (BM s) r w':=by
 have hS:BM s=GL (AU s).length (AU s):=by unfold BM;rw[bC aD]
 have V: (AU s).length<=401:=by have:=FG s s.size 0;unfold AU;omega
 have HE:Hid (iq (AU s)):=EI s _ _;generalize hL:AU s=L at*;have Z:Hid (Rf.rest s 0=L):=hL;clear hL;rw[hS];clear hS
 cases a:BZ L.length 8 [] L [] with
 |error x=>
  obtain⟨e,q⟩:=x;have n:Hid (GL L.length L= .error (e,q)):=by unfold Hid GL;rw[a]
  have Q:=aO a;clear a;go_enter func32,ntmps32
  go_wp2_with (first
   |(go_at_call 50;refine(KY _ w.heap.size s 0 0 0 0 (.slice none 0 0) (AZ _ _ _ (by simp)) J (bK _)).mono ?_;rintro x E ⟨K',f',O,C',rfl,b,d,i⟩;have l:Pr E w.heap.size s none L []:=(by have B:=Pr.mk' b d (bK _) J (aj.nil _ _ _ _ _) rfl (by simp[Value.ownBlock]) (ns:=[]) (by simp);rw[Z.o] at B;exact B);have c:Below w.heap.size w E:=(((Kept.refl (fun k=>k=w.heap.size) w).alloc (.cells #[.string s,.int .i64 0,.int .i64 0,.int .i64 0,.int .i64 0,.slice none 0 0,.int .i64 0,.int .i64 0] 118)).trans i (fun _ _ e=>e)).below (aX _) (fun k z e=>by omega);clear b d)
   |(go_at_call 52;refine(JJ L.length w.heap.size s none L [] _ l (aX _)).mono ?_;rintro x P ⟨j,D⟩;rw[Q.o] at D;have f:Below w.heap.size w P:=c.trans (j.below c.size (fun k z e=>by rcases e with e|e;omega;cases e));obtain⟨rfl,a4⟩:=D;obtain⟨tx,K3,f3,W,C3,a3,n3,c3,h,I⟩:=a4.ex;obtain⟨x0,x1,x2,x3,x4,x5,x6,x7,xf,xl⟩:=h.facts;have A:=aO I;clear I h))
  go_quiet (fail);go_wp2_with fail;refine bodyPost_ret (v:= .tuple #[.slice none 0 0,.slice none 0 0,.int .i64 e,.int .i64 q]) (by simp[results,results32,go_sem]) rfl ?_;rw[n.o];exact⟨f.drewN _,rfl,A.o⟩
 |ok x=>
  obtain⟨gs,l1,o⟩:=x;obtain⟨u,l2,rfl⟩:=NW L.length _ _ _ _ _ _ _ a;by_cases g:u.k=46
  ·have R: (BV u.k !=8)=false:=by rw[JI,g];rfl
   have C:=(MR L.length _ _ _ _ _ _ _ HE.o aE (fun q hq=>by cases hq) V a).2.2;have Fq:=C.tail aD aD
   obtain⟨y,K,rfl⟩:∃y K,l2=y::K:=by
    cases l2 with
    |nil=>exact absurd rfl Fq.ne
    |cons y K=>exact⟨y,K,rfl⟩
   have T:Hid (u.k≠0):=by unfold Hid;omega
   have Iz:Hid (u.k≠63):=by unfold Hid;omega
   have Y:=aO R;have Q:=aO a;by_cases S:y.k=0
   ·have n:Hid (GL L.length L= .ok (gs,o)):=by unfold Hid GL;rw[a];simp only[];rw[bD g,bD S]
    have HY:=aO S;clear a g R C Fq S;go_enter func32,ntmps32
    go_wp2_with (first
     |(go_at_call 50;refine(KY _ w.heap.size s 0 0 0 0 (.slice none 0 0) (AZ _ _ _ (by simp)) J (bK _)).mono ?_;rintro x E ⟨K',f',O,C',rfl,b,d,i⟩;have l:Pr E w.heap.size s none L []:=(by have B:=Pr.mk' b d (bK _) J (aj.nil _ _ _ _ _) rfl (by simp[Value.ownBlock]) (ns:=[]) (by simp);rw[Z.o] at B;exact B);have c:Below w.heap.size w E:=(((Kept.refl (fun k=>k=w.heap.size) w).alloc (.cells #[.string s,.int .i64 0,.int .i64 0,.int .i64 0,.int .i64 0,.slice none 0 0,.int .i64 0,.int .i64 0] 118)).trans i (fun _ _ e=>e)).below (aX _) (fun k z e=>by omega);clear b d)
     |(go_at_call 52;refine(JJ L.length w.heap.size s none L [] _ l (aX _)).mono ?_;rintro x P ⟨j,D⟩;rw[Q.o] at D;have f:Below w.heap.size w P:=c.trans (j.below c.size (fun k z e=>by rcases e with e|e;omega;cases e));obtain⟨b1,m1,d1,nb1,acc,rfl,t,Iu,M,H,h8⟩:=D)
     |(go_at_call_of 53 (Value.int IntKind.i64 8);refine(NO _ 8 w.heap.size s nb1 u (y::K) o t Y.o T.o Iz.o).mono ?_;rintro e X ⟨rfl,G,p⟩;have m:Below w.heap.size w X:=f.trans (p.below f.size (fun k z e=>by omega)))
     |(go_at_call_of 53 (Value.int IntKind.i64 0);refine(mD _ w.heap.size s nb1 y K o G HY.o).mono ?_;rintro e w8 ⟨rfl,⟨l9,a7⟩,F⟩;have N:Below w.heap.size w w8:=m.trans (F.below m.size (fun k z e=>by omega));obtain⟨K9,f9,b6,C9,c2,a0,b0,b3,b5,Nj,b2,b4,U⟩:=a7.ex;obtain⟨a9,c9,a8⟩:=CJ Nj;subst a8;obtain⟨x0,x1,x2,x3,x4,x5,x6,x7,xf,xl⟩:=a0.facts))
    go_quiet (fail);go_wp2_with fail;refine bodyPost_ret (v:= .tuple #[.slice b1 m1 d1,.slice a9 o.length c9,.int .i64 0,.int .i64 0]) (by simp[results,results32,go_sem]) rfl ?_;rw[n.o];obtain⟨tq,lq,Kq,fq,b7,Cq,aq,cq,_,a1,_⟩:=t.shape;obtain⟨tr,lr,Kr,fr,c1,Cr,ar,cr,_,a2,_⟩:=G.shape;refine⟨N.drewN _,b1,m1,d1,a9,_,c9,rfl,?_,(Nj.drewN _).seen,by rw[H,aZ];exact h8,U⟩;rw[H];exact(((M.seen.Nh a1 aF aF p).Nh a2 aF aF F)).below ((bZ _ w8).drewN _)
   ·have c0: (BV y.k !=0)=true:=by rw[lS];simpa using S
    have C0:=aO c0;have n:Hid (GL L.length L= .error (BR y 2)):=by unfold Hid GL;rw[a];simp only[];rw[bD g,bC S]
    clear a g R C Fq S c0;go_enter func32,ntmps32
    go_wp2_with (first
     |(go_at_call 50;refine(KY _ w.heap.size s 0 0 0 0 (.slice none 0 0) (AZ _ _ _ (by simp)) J (bK _)).mono ?_;rintro x E ⟨K',f',O,C',rfl,b,d,i⟩;have l:Pr E w.heap.size s none L []:=(by have B:=Pr.mk' b d (bK _) J (aj.nil _ _ _ _ _) rfl (by simp[Value.ownBlock]) (ns:=[]) (by simp);rw[Z.o] at B;exact B);have c:Below w.heap.size w E:=(((Kept.refl (fun k=>k=w.heap.size) w).alloc (.cells #[.string s,.int .i64 0,.int .i64 0,.int .i64 0,.int .i64 0,.slice none 0 0,.int .i64 0,.int .i64 0] 118)).trans i (fun _ _ e=>e)).below (aX _) (fun k z e=>by omega);clear b d)
     |(go_at_call 52;refine(JJ L.length w.heap.size s none L [] _ l (aX _)).mono ?_;rintro x P ⟨j,D⟩;rw[Q.o] at D;have f:Below w.heap.size w P:=c.trans (j.below c.size (fun k z e=>by rcases e with e|e;omega;cases e));obtain⟨b1,m1,d1,nb1,acc,rfl,t,Iu,M,H,h8⟩:=D)
     |(go_at_call_of 53 (Value.int IntKind.i64 8);refine(NO _ 8 w.heap.size s nb1 u (y::K) o t Y.o T.o Iz.o).mono ?_;rintro e X ⟨rfl,G,p⟩;have m:Below w.heap.size w X:=f.trans (p.below f.size (fun k z e=>by omega)))
     |(go_at_call_of 53 (Value.int IntKind.i64 0);refine(MQ _ 0 w.heap.size s nb1 y K o G C0.o).mono ?_;rintro e w8 ⟨rfl,a6,F⟩;have N:Below w.heap.size w w8:=m.trans (F.below m.size (fun k z e=>by omega));obtain⟨tx,K3,f3,W,C3,a3,n3,c3,h,I⟩:=a6.ex;obtain⟨x0,x1,x2,x3,x4,x5,x6,x7,xf,xl⟩:=h.facts;have A:=aO I;clear I h))
    go_quiet (fail);go_wp2_with fail;refine bodyPost_ret (v:= .tuple #[.slice none 0 0,.slice none 0 0,.int .i64 (BR y 2).1,.int .i64 (BR y 2).2]) (by simp[results,results32,go_sem]) rfl ?_;rw[n.o];exact⟨N.drewN _,rfl,A.o⟩
  ·have R: (BV u.k !=8)=true:=by rw[JI];simpa using g
   have n:Hid (GL L.length L= .error (BR u 2)):=by unfold Hid GL;rw[a];simp only[];rw[bC g]
   have Q:=aO a;have Y:=aO R;clear a g R;go_enter func32,ntmps32
   go_wp2_with (first
    |(go_at_call 50;refine(KY _ w.heap.size s 0 0 0 0 (.slice none 0 0) (AZ _ _ _ (by simp)) J (bK _)).mono ?_;rintro x E ⟨K',f',O,C',rfl,b,d,i⟩;have l:Pr E w.heap.size s none L []:=(by have B:=Pr.mk' b d (bK _) J (aj.nil _ _ _ _ _) rfl (by simp[Value.ownBlock]) (ns:=[]) (by simp);rw[Z.o] at B;exact B);have c:Below w.heap.size w E:=(((Kept.refl (fun k=>k=w.heap.size) w).alloc (.cells #[.string s,.int .i64 0,.int .i64 0,.int .i64 0,.int .i64 0,.slice none 0 0,.int .i64 0,.int .i64 0] 118)).trans i (fun _ _ e=>e)).below (aX _) (fun k z e=>by omega);clear b d)
    |(go_at_call 52;refine(JJ L.length w.heap.size s none L [] _ l (aX _)).mono ?_;rintro x P ⟨j,D⟩;rw[Q.o] at D;have f:Below w.heap.size w P:=c.trans (j.below c.size (fun k z e=>by rcases e with e|e;omega;cases e));obtain⟨b1,m1,d1,nb1,acc,rfl,t,Iu,M,H,h8⟩:=D)
    |(go_at_call_of 53 (Value.int IntKind.i64 8);refine(MQ _ 8 w.heap.size s nb1 u l2 o t Y.o).mono ?_;rintro e X ⟨rfl,a5,p⟩;have m:Below w.heap.size w X:=f.trans (p.below f.size (fun k z e=>by omega));obtain⟨tx,K3,f3,W,C3,a3,n3,c3,h,I⟩:=a5.ex;obtain⟨x0,x1,x2,x3,x4,x5,x6,x7,xf,xl⟩:=h.facts;have A:=aO I;clear I h))
   go_quiet (fail);go_wp2_with fail;refine bodyPost_ret (v:= .tuple #[.slice none 0 0,.slice none 0 0,.int .i64 (BR u 2).1,.int .i64 (BR u 2).2]) (by simp[results,results32,go_sem]) rfl ?_;rw[n.o];exact⟨m.drewN _,rfl,A.o⟩
theorem XY(s:ByteArray)(w:World)(a:s.size<=maxLen):Calls prog 32 #[.string s] w fun r w'=>RG w (BM s) r w':=by
 by_cases b:400<s.size
 ·exact mX s w b a
 ·exact kV s w aD
variable {nm : Value}
def GU:Option (Nat×Option Nat)->Nat->Prop
 |none,_=>False
 |some (q,rb),k=>May q rb k
def Iy(nm:Value)(w:World)(a:Value):Option (Nat×Option Nat)->Option Qs->Prop
 |none,none=>a= .pointer none
 |some (q,rb),some Q=>a= .pointer (some ⟨q,0,none⟩)/\QAt nm w q rb Q.aW ⟨DL,Q.chs⟩
 |_,_=>False
structure zo(F:Nat->Prop)(w:World)(x:Nat)(oq:Option (Nat×Option Nat))(nm:Value)(S:Se):Prop where
 ok:zh S
 ex:∃vC vQ,PsB w x S.lim vC vQ/\qg F w vC S.cls/\Iy nm w vQ oq S.q
 apart:¬F x
 bd:∀k,F k->k<w.heap.size
 sep:∀k,GU oq k->¬F k
theorem qg.seen{F:Nat->Prop}{w:World}{v:Value}{cls:List Cl}(h:qg F w v cls):ji w v cls:=by
 obtain⟨acc,a,g,_⟩:=h.ex;refine⟨acc,a.row.seen,fun x hx=>?_,g⟩;obtain⟨c,b,d,_,e,f,_⟩:=a.cls x hx;exact⟨c.1.seen,b,d.seen,fun q i=>(e q i).1.seen,f⟩
theorem qg.len{F:Nat->Prop}{w:World}{v:Value}{cls:List Cl}(h:qg F w v cls):cls.length<=30:=by
 obtain⟨acc,_,a,b⟩:=h.ex;rw[a,aZ];exact b
theorem qg.kept{F M:Nat->Prop}{w w':World}{v:Value}{cls:List Cl}(h:qg F w v cls)(d:Kept M w w')(b:∀k,k<w.heap.size->F k->¬M k):qg F w' v cls:=by
 obtain⟨acc,a,c,f⟩:=h.ex;exact⟨⟨acc,a.weak d b (fun _ e=>e),c,f⟩,h.good⟩
theorem PsB.facts{w:World}{x:Nat}{lim:Int}{vC a:Value}(h:PsB w x lim vC a):w.cell? ⟨x,0,none⟩=some (.int .i64 lim)/\w.cell? ⟨x,1,none⟩=some vC/\w.cell? ⟨x,2,none⟩=some a/\(∀i,w.frozen? ⟨x,i,none⟩=false)/\x<w.heap.size:=
 ⟨AA h 0,AA h 1,AA h 2,AE h,AD h⟩
theorem PsB.Dh{w:World}{x:Nat}{lim:Int}{vC e:Value}(h:PsB w x lim vC e){q:Nat}{b:Option Nat}{c:List ByteArray}{cf:Cf}(d:QAt nm w q b c cf):¬May q b x:=by
 obtain⟨_,_,_,_,a⟩:=d.ex;exact a.types aF aF x _ h
theorem QQ(S:Se)(a:List ByteArray)(r:Int×Cf): (CT S a r).1=GO a r:=by
 unfold CT GO;split<;>rfl
theorem SK(a:Array Value)(w:World): (callFunc 35 a).run prog w= .ok (.enter 35 a) w:=by
 simp[callFunc,func35,Tryz.f35]
def Au(F:Nat->Prop)(w:World)(x:Nat)(c:Option (Nat×Option Nat))(nm:Value)(P:Rep×Se)(r:Ending)(w':World):Prop:=
 r= .returned (GH P.1)/\(∃b a,zo F w' x b a P.2/\(∀k,GU b k->GU c k\/w.heap.size<=k)/\∀g,NmB a g->NmB nm g\/w.heap.size<=g)/\Kept (fun k=>k=x\/GU c k) w w'
theorem yM{a:Value}{F:Nat->Prop}{w Wf:World}{x q:Nat}{f:Option Nat}{e:Option (Nat×Option Nat)}{S:Se}{Q:Qs}{vC:Value}(h:zo F w x e nm S)(m:qg F w vC S.cls)(p:PsB Wf x S.lim vC (.pointer (some ⟨q,0,none⟩)))(o:zh ⟨S.lim,S.cls,some Q⟩)(r:QAt a Wf q f Q.aW ⟨DL,Q.chs⟩)(j:∀k,May q f k->GU e k\/w.heap.size<=k)(n:∀g,NmB a g->NmB nm g\/w.heap.size<=g)(l:Kept (fun k=>k=x\/GU e k) w Wf):∃d a,zo F Wf x d a ⟨S.lim,S.cls,some Q⟩/\(∀k,GU d k->GU e k\/w.heap.size<=k)/\∀g,NmB a g->NmB nm g\/w.heap.size<=g:=by
 refine⟨some (q,f),a,⟨o,⟨vC,_,p,m.kept l (fun k _ b c=>?_),rfl,r⟩,h.apart,fun k b=>bH (h.bd k b) l.size,fun k c b=>?_⟩,j,n⟩
 ·rcases c with rfl|c
  ·exact h.apart b
  ·exact h.sep k c b
 ·rcases j k c with i|i
  ·exact h.sep k i b
  ·have:=h.bd k b;omega
theorem OB{g:Nat}(h:NmB (.pointer none) g):False:=by
 obtain⟨_,_,_,e⟩:=h
 cases e
theorem aBz{F:Nat->Prop}{w Wf:World}{x:Nat}{e:Option (Nat×Option Nat)}{S:Se}{vC:Value}(h:zo F w x e nm S)(i:qg F w vC S.cls)(j:PsB Wf x S.lim vC (.pointer none))(f:Kept (fun k=>k=x\/GU e k) w Wf):∃c b,zo F Wf x c b ⟨S.lim,S.cls,none⟩/\(∀k,GU c k->GU e k\/w.heap.size<=k)/\∀g,NmB b g->NmB nm g\/w.heap.size<=g:=by
 refine⟨none,.pointer none,⟨dP h.ok,⟨vC,_,j,i.kept f (fun k _ d a=>?_),rfl⟩,h.apart,fun k d=>bH (h.bd k d) f.size,fun k a=>a.elim⟩,fun k a=>a.elim,fun g l=>(OB l).elim⟩;rcases a with rfl|a
 ·exact h.apart d
 ·exact h.sep k a d
theorem sO{w:World}{q k:Nat}{b:Option Nat}{c:List ByteArray}{cf:Cf}(h:QAt nm w q b c cf)(d:May q b k):k<w.heap.size:=by
 obtain⟨_,_,_,_,a⟩:=h.ex;rcases d with e|e
 ·have:=AD a.b;omega
 ·obtain⟨acc,f,_⟩:=a.r.ex;exact(f.lt _ (a.o.trans e.symm)).2
theorem YG(a:List ByteArray)(R:Int×Cf): (GO a R).kind=R.1:=by
 unfold GO;split
 ·rename_i h;exact h.symm
 ·rfl
theorem aCJ{F:Nat->Prop}{w Wf:World}{x q:Nat}{b rb1:Option Nat}{S:Se}{a:List ByteArray}{R:Int×Cf}{vC:Value}{r:Rep}(h:zo F w x (some (q,b)) nm S)(s:qg F w vC S.cls)(n:PsB w x S.lim vC (.pointer (some ⟨q,0,none⟩)))(hx:¬May q b x)(f:GO a R=r)(l:R.1=1)(m:zh (CT S a R).2)(o:QAt nm Wf q rb1 a (KX R))(t:Nb w b rb1)(p:Kept (May q b) w Wf):Au F w x (some (q,b)) nm (CT S a R) (.returned (GH r)) Wf:=by
 have i: (CT S a R).2=⟨S.lim,S.cls,some ⟨a,R.2.chs.map I1⟩⟩:=by unfold CT;rw[bD l]
 have c:KX R=⟨DL,R.2.chs.map I1⟩:=by unfold KX;rw[bD l]
 rw[i] at m;rw[c] at o;have d:Kept (fun k=>k=x\/GU (some (q,b)) k) w Wf:=p.mono (fun _ _ e=> .inr e);refine⟨by rw[QQ,f],?_,d⟩;rw[i];refine yM (Q:=⟨a,R.2.chs.map I1⟩) h s ((p.block x (AD n) hx).trans n) m o (fun k v=>?_) (fun g u=> .inl u) d;rcases v with e|e
 ·exact .inl (.inl e)
 ·rcases t with c|⟨j,c,y⟩
  ·exact .inl (.inr (e.trans c))
  ·rw[c] at e;injection e with e;exact .inr aD
theorem xM{F:Nat->Prop}{w Wf:World}{x:Nat}{c:Option (Nat×Option Nat)}{S:Se}{a:List ByteArray}{R:Int×Cf}{vC:Value}{e:Rep}(h:zo F w x c nm S)(i:qg F w vC S.cls)(j:PsB Wf x S.lim vC (.pointer none))(b:GO a R=e)(g:R.1≠1)(d:Kept (fun k=>k=x\/GU c k) w Wf):Au F w x c nm (CT S a R) (.returned (GH e)) Wf:=by
 have f: (CT S a R).2=⟨S.lim,S.cls,none⟩:=by unfold CT;rw[bC g]
 refine⟨by rw[QQ,b],?_,d⟩;rw[f];exact aBz h i j d
variable {nm : Value}
theorem pY(F:Nat->Prop)(w:World)(B x q:Nat)(g:Option Nat)(S:Se)(Q:Qs)(H:S.q=some Q)(h:zo F w x (some (q,g)) nm S)(hB:B<=w.heap.size)(a7:B<=q)(J:∀k,g=some k->B<=k)(hT:vk B w):Calls prog 18 #[.pointer (some ⟨x,0,none⟩)] w fun r w'=>Au F w x (some (q,g)) nm (CT S Q.aW (CG S.cls S.lim (-1,⟨DL,Q.chs⟩))) r w':=by
 obtain⟨vC,vQ,y,o,Y⟩:=h.ex;rw[H] at Y;obtain⟨rfl,z⟩:=Y;obtain⟨k0,k1,k2,kf,kl⟩:=y.facts;have E:=h.ok.q Q H;have X:=h.ok.l2;have HS:=aO h;have HP:=aO y;have HQ:=aO z;have U:=aO o;have HT:=aO hT;have a4:=aO J;have a3:=aO (L4 h.ok E);have HO:Hid (zh (CT S Q.aW (CG S.cls S.lim (-1,⟨DL,Q.chs⟩))).2):=V9 h.ok E.nl E.nz (L4 h.ok E);have HZ:=aO E.nz;have HG:Hid (uw S.cls):=h.ok.g;have a2:Hid (Az S.cls):=h.ok.k;have Cc:=o.len;obtain⟨b,c,rfl⟩:=o.seen.slice;have j:Hid (∀W,Below w.heap.size w W->Calls prog 35 #[.pointer (some ⟨q,0,none⟩),.slice b S.cls.length c,.int .i64 (S.lim:Nat)] W fun r w'=>r= .returned (GH (GO Q.aW (CG S.cls S.lim (-1,⟨DL,Q.chs⟩))))/\(∃a1,QAt nm w' q a1 Q.aW (KX (CG S.cls S.lim (-1,⟨DL,Q.chs⟩)))/\Nb W g a1)/\Kept (May q g) W w'):=fun W hb=>uN W B q g Q.aW _ _ S.cls S.lim (z.below hb) (o.seen.below hb) (L4 h.ok E) h.ok.g h.ok.k Cc X E.nz (bN hB hb.size) a7 J (hT.on (hb.mono hB));have I:Hid (¬May q g x):=y.Dh z;clear h y o z E hT J H;obtain⟨R,hR⟩:∃R,Hid (CG S.cls S.lim (-1,⟨DL,Q.chs⟩)=R):=⟨_,rfl⟩
 rw[hR.o] at HO j⊢;obtain⟨⟨rk,rt,rc,D⟩,A⟩:∃rp,Hid (GO Q.aW R=rp):=⟨_,rfl⟩
 obtain⟨L,hL⟩:∃L,Hid (S.lim=L):=⟨_,rfl⟩
 obtain⟨nc,a0⟩:∃n,Hid (S.cls.length=n):=⟨_,rfl⟩
 rw[A.o,hL.o,a0.o] at j;rw[hL.o] at k0 X;rw[a0.o] at k1 Cc;have K:R.1=rk:=by rw[<-YG Q.aW R,A.o]
 have m:Hid (∀k,w.heap.size<=k->¬May q g k):=fun k hk hm=>by have:=sO HQ.o hm;omega
 clear HZ HG a2 a3 HT a4;by_cases h1:rk=1
 ·subst h1;go_enter func18,ntmps18;go_wp2_with fail
  go_region_law (first
   |(refine GM rfl 35 (.tmp 17) (.tmp 21) (.tmp 25) _ rfl (.pointer (some ⟨q,0,none⟩)) (.slice b nc c) (.int .i64 L) rfl rfl rfl (fun _=>SK _ _) (j.o _ aM) ?_;rintro r f ⟨rfl,⟨rb1,s,u⟩,a⟩;refine⟨_,rfl,?_⟩;simp only[GH];have M:=a.size;have l:f.heap[w.heap.size+1]?=some (.cells #[.int .i64 0,.string ⟨#[]⟩,.int .i64 0,.int .i64 0] 65):=(a.block (w.heap.size+1) aI (m.o _ aD)).trans (AZ (w.alloc (.cells #[.int .i64 0,.string ⟨#[]⟩,.int .i64 0,.int .i64 0] 65)) _ _ aE);have d:f.heap[w.heap.size]?=some (.cells #[.int .i64 0,.string ⟨#[]⟩,.int .i64 0,.int .i64 0] 65):=(a.block w.heap.size aI (m.o _ (aX _))).trans (AF (AJ w _) _);have⟨N,O,P,T⟩:=cM d;have sf:=AE d;have sl:=AD d;simp at N O P T;have⟨t0,t1,t2,t3⟩:=cM l;have tf:=AE l;have tl:=AD l;simp at t0 t1 t2 t3)
   |(refine GM rfl 35 (.tmp 17) (.tmp 21) (.tmp 25) _ rfl (.pointer (some ⟨q,0,none⟩)) (.slice b nc c) (.int .i64 L) rfl rfl rfl (fun _=>SK _ _) (j.o _ aM) ?_;rintro r f ⟨rfl,⟨rb1,s,u⟩,a⟩;refine⟨_,rfl,?_⟩;simp only[GH];have M:=a.size;have d:f.heap[w.heap.size]?=some (.cells #[.int .i64 0,.string ⟨#[]⟩,.int .i64 0,.int .i64 0] 65):=(a.block w.heap.size aI (m.o _ (aX _))).trans (AJ w _);have⟨N,O,P,T⟩:=cM d;have sf:=AE d;have sl:=AD d;simp at N O P T))
  all_goals go_wp2_with fail
  all_goals
   refine bodyPost_ret (v:= .agg #[.int .i64 1,.string rt,.int .i64 rc,.int .i64 D]) (by simp[results,results18,go_sem, *]) rfl ?_;have C:Kept (May q g) w f:=(Kept.of_below (w':=_) aM (May q g)).trans a (fun _ _ e=>e);have a6:Nb w g rb1:=Nb.up u aI;refine aCJ (rb1:=rb1) HS.o U.o HP.o I.o A.o K HO.o ?_ a6 ?_
   ·first
     |(have h9:=l;exact(s.Ag l aF (CK _ _ _ _ _ _)).Ag (((CK _ _ _ _ _ _).block w.heap.size (AD d) aD).trans d) aF (CK _ _ _ _ _ _))
     |exact(s.Ag d aF (CK _ _ _ _ _ _)).below ((bZ _ _).alloc (aX _) _)
   ·first
     |(have h9:=l;exact(C.trans (CK _ (w.heap.size+1) _ _ _ _) (fun i t e=>absurd t aD)).trans (CK _ w.heap.size _ _ _ _) (fun i t e=>absurd t aD))
     |exact(C.trans (CK _ w.heap.size _ _ _ _) (fun i t e=>absurd t aD)).alloc _
 ·have a5:¬R.1=1:=fun e=>h1 (K.symm.trans e);clear K;go_enter func18,ntmps18;go_wp2_with fail
  go_region_law (first
   |(refine GM rfl 35 (.tmp 17) (.tmp 21) (.tmp 25) _ rfl (.pointer (some ⟨q,0,none⟩)) (.slice b nc c) (.int .i64 L) rfl rfl rfl (fun _=>SK _ _) (j.o _ aM) ?_;rintro r f ⟨rfl,⟨rb1,s,u⟩,a⟩;refine⟨_,rfl,?_⟩;simp only[GH];have M:=a.size;have l:f.heap[w.heap.size+1]?=some (.cells #[.int .i64 0,.string ⟨#[]⟩,.int .i64 0,.int .i64 0] 65):=(a.block (w.heap.size+1) aI (m.o _ aD)).trans (AZ (w.alloc (.cells #[.int .i64 0,.string ⟨#[]⟩,.int .i64 0,.int .i64 0] 65)) _ _ aE);have d:f.heap[w.heap.size]?=some (.cells #[.int .i64 0,.string ⟨#[]⟩,.int .i64 0,.int .i64 0] 65):=(a.block w.heap.size aI (m.o _ (aX _))).trans (AF (AJ w _) _);have⟨N,O,P,T⟩:=cM d;have sf:=AE d;have sl:=AD d;simp at N O P T;have G:PsB f x S.lim (.slice b S.cls.length c) (.pointer (some ⟨q,0,none⟩)):=(a.block x aI I.o).trans (AF (AF HP.o _) _);have⟨t0,t1,t2,t3⟩:=cM l;have tf:=AE l;have tl:=AD l;simp at t0 t1 t2 t3)
   |(refine GM rfl 35 (.tmp 17) (.tmp 21) (.tmp 25) _ rfl (.pointer (some ⟨q,0,none⟩)) (.slice b nc c) (.int .i64 L) rfl rfl rfl (fun _=>SK _ _) (j.o _ aM) ?_;rintro r f ⟨rfl,⟨rb1,s,u⟩,a⟩;refine⟨_,rfl,?_⟩;simp only[GH];have M:=a.size;have d:f.heap[w.heap.size]?=some (.cells #[.int .i64 0,.string ⟨#[]⟩,.int .i64 0,.int .i64 0] 65):=(a.block w.heap.size aI (m.o _ (aX _))).trans (AJ w _);have⟨N,O,P,T⟩:=cM d;have sf:=AE d;have sl:=AD d;simp at N O P T;have G:PsB f x S.lim (.slice b S.cls.length c) (.pointer (some ⟨q,0,none⟩)):=(a.block x aI I.o).trans (AF HP.o _)))
  all_goals go_wp2_with (go_at_call 19;refine(JA x _ ⟨S.lim,.slice b S.cls.length c,.pointer (some ⟨q,0,none⟩),by first|(have h9:=l;exact((CK _ _ _ _ _ _).block x (AD G) aD).trans G)|exact AF G _⟩).mono ?_;rintro r w2 ⟨rfl,h2⟩;subst h2)
  all_goals
   refine bodyPost_ret (v:= .agg #[.int .i64 rk,.string rt,.int .i64 rc,.int .i64 D]) (by simp[results,results18,go_sem, *]) rfl ?_;have C:Kept (May q g) w f:=(Kept.of_below (w':=_) aM (May q g)).trans a (fun _ _ e=>e);have Z:Kept (fun k=>k=x\/GU (some (q,g)) k) w f:=C.mono (fun _ _ e=> .inr e);refine xM (vC:= .slice b S.cls.length c) HS.o U.o ?_ A.o a5 ?_
   ·first
     |(have h9:=l;have V:=AK (((CK f (w.heap.size+1) (.int .i64 rk) (.string rt) (.int .i64 rc) (.int .i64 D)).block x (AD G) aD).trans G) 2 (.pointer none);exact((CK _ w.heap.size _ _ _ _).block x (AD V) aD).trans V)
     |(have V:=AK (AF G (.cells #[.int .i64 rk,.string rt,.int .i64 rc,.int .i64 D] 65)) 2 (.pointer none);exact((CK _ w.heap.size _ _ _ _).block x (AD V) aD).trans V)
   ·first
     |(have h9:=l;exact((Z.trans (CK _ (w.heap.size+1) _ _ _ _) (fun i t e=>absurd t aD)).setCell (p:=⟨x,2,none⟩) (.inr (.inl rfl)) _).trans (CK _ w.heap.size _ _ _ _) (fun i t e=>absurd t aD))
     |exact((Z.alloc _).setCell (p:=⟨x,2,none⟩) (.inr (.inl rfl)) _).trans (CK _ w.heap.size _ _ _ _) (fun i t e=>absurd t aD)
variable {nm : Value}
theorem rI(F:Nat->Prop)(w:World)(x:Nat)(e:Option (Nat×Option Nat))(S:Se)(c:S.q=none)(h:zo F w x e nm S):Calls prog 18 #[.pointer (some ⟨x,0,none⟩)] w fun r w'=>r= .returned (GH (J9 3))/\Below w.heap.size w w':=by
 obtain⟨vC,g,b,d,a⟩:=h.ex;rw[c] at a
 have f:g= .pointer none:=by
  cases e with
  |none=>exact a
  |some _=>exact a.elim
 subst f;obtain⟨i,k1,j,k,l⟩:=b.facts;clear h b d a c;go_enter func18,ntmps18;go_wp2_with fail;refine bodyPost_ret (v:= .agg #[.int .i64 3,.string ⟨#[]⟩,.int .i64 0,.int .i64 0]) (by simp[results,results18,go_sem, *]) rfl ?_;exact⟨rfl,aM⟩
variable {nm : Value}
theorem aAt(F:Nat->Prop)(w:World)(x:Nat)(n:Option (Nat×Option Nat))(S:Se)(s:ByteArray)(C:s.size<=maxLen)(h:zo F w x n nm S)(e:Int)(p:Nat)(t:BM s= .error (e,p)):Calls prog 17 #[.pointer (some ⟨x,0,none⟩),.string s] w fun r w'=>Au F w x n nm (⟨4,⟨#[]⟩,e,p⟩,⟨S.lim,S.cls,none⟩) r w':=by
 obtain⟨vC,R,b,c,l⟩:=h.ex;obtain⟨L,k1,M,N,O⟩:=b.facts;have z:=aO h;have o:=aO b;have g:=aO c;have y:=aO t;clear h b c l t;go_enter func17,ntmps17
 go_wp2_with (first
  |(go_at_call 32;refine(XY s _ C).mono ?_;rintro r u ⟨a,d⟩;rw[y.o] at d;obtain⟨E,D⟩:=d;subst E;have G:=a.size;have j:u.heap[w.heap.size]?=some (.cells #[.int .i64 0,.string ⟨#[]⟩,.int .i64 0,.int .i64 0] 65):=(a.block w.heap.size aE).trans (by first|exact A|exact AZ _ _ _ aE);have⟨H,I,J,K⟩:=cM j;have P:=AE j;have Q:=AD j;simp at H I J K)
  |(go_at_call 19;refine(JA x _ ⟨_,_,_,AF o.o _⟩).mono ?_;rintro r T ⟨rfl,B⟩;subst B;have A:=((Kept.setCell (p:=⟨x,2,none⟩) (Kept.refl (fun k=>k=x) (w.alloc (.cells #[.int .i64 0,.string ⟨#[]⟩,.int .i64 0,.int .i64 0] 65))) (.inr rfl) (.pointer none)).block w.heap.size aE aD).trans (AJ w _)))
 refine bodyPost_ret (v:= .agg #[.int .i64 4,.string ⟨#[]⟩,.int .i64 e,.int .i64 p]) (by simp[results,results17,go_sem, *]) rfl ?_;have f:Kept (fun k=>k=x\/GU n k) w u:=((((Kept.refl _ w).setCell (p:=⟨x,2,none⟩) (.inr (.inl rfl)) _).alloc _).trans (Kept.of_below a (fun _=>False)) (fun _ _ e=>absurd e id))
 have q:=(a.block x aJ).trans (AF (AK o.o 2 (.pointer none)) _);refine⟨rfl,aBz (vC:=vC) z.o g.o ?_ ?_,?_⟩
 ·exact((CK _ w.heap.size _ _ _ _).block x (AD q) aD).trans q
 ·exact f.trans (CK _ w.heap.size _ _ _ _) (fun i m e=>absurd m aD)
 ·exact f.trans (CK _ w.heap.size _ _ _ _) (fun i m e=>absurd m aD)
variable {nm : Value}
theorem PZ(a:Array Value)(w:World): (callFunc 34 a).run prog w= .ok (.enter 34 a) w:=by
 simp[callFunc,func34,Tryz.f34]
theorem Free.blk{w:World}{g:Nat}{cs:Array Value}{t:TypeId}(h:w.heap[g]?=some (.cells cs t (0,0)))(b:t≠129/\t≠84/\t≠3/\t≠9/\t≠86):Free w (fun k=>k=g):=by
 have a:∀d:TypeId,t≠d->∀k c,w.heap[k]?=some (.cells c d (0,0))->¬k=g:=by
  intro d b k c f e;subst e;rw[h] at f;injection f with i;injection i with _ j;exact b j
 exact⟨a _ b.1,a _ b.2.1,a _ b.2.2.1,a _ b.2.2.2.1,a _ b.2.2.2.2⟩
theorem aCa{b:Value}{F:Nat->Prop}{w Wf:World}{x q:Nat}{rb1:Option Nat}{c:Option (Nat×Option Nat)}{S:Se}{a:List ByteArray}{R:Int×Cf}{vC:Value}{m:Rep}(h:zo F w x c nm S)(o:qg F w vC S.cls)(s:PsB Wf x S.lim vC (.pointer (some ⟨q,0,none⟩)))(d:GO a R=m)(f:R.1=1)(i:zh (CT S a R).2)(j:QAt b Wf q rb1 a (KX R))(p:∀k,May q rb1 k->GU c k\/w.heap.size<=k)(r:∀g,NmB b g->NmB nm g\/w.heap.size<=g)(l:Kept (fun k=>k=x\/GU c k) w Wf):Au F w x c nm (CT S a R) (.returned (GH m)) Wf:=by
 have e: (CT S a R).2=⟨S.lim,S.cls,some ⟨a,R.2.chs.map I1⟩⟩:=by unfold CT;rw[bD f]
 have n:KX R=⟨DL,R.2.chs.map I1⟩:=by unfold KX;rw[bD f]
 rw[e] at i;rw[n] at j;refine⟨by rw[QQ,d],?_,l⟩;rw[e];exact yM (Q:=⟨a,R.2.chs.map I1⟩) h o s i j p r l
theorem aDi{S:Se}(a:zh S){s:ByteArray}{gs:List (List AB)}{ns:List ByteArray}(b:BM s= .ok (gs,ns))(f:∀y∈BE ns,y.size<=12):zh (CT S (BE ns) (IJ S.cls S.lim (BK gs ns))).2:=by
 obtain⟨d,c⟩:=J4 (S:=S) (F3 b) (IP b)
 have e: (BE ns).length<=16:=by
  have:=JN 0 ns;unfold BE;rw[aZ];omega
 unfold IJ;split
 ·unfold CT;rw[bC aE];exact dP a
 ·exact V9 a e f c
theorem aCe(F:Nat->Prop)(w:World)(B x:Nat)(oq:Option (Nat×Option Nat))(S:Se)(s:ByteArray)(hm:s.size<=maxLen)(h:zo F w x oq nm S)(hB:B<=w.heap.size)(d5:B<=x)(hT:vk B w)(gs:List (List AB))(ns:List ByteArray)(hr:BM s= .ok (gs,ns))(hz:∀y∈BE ns,y.size<=12):Calls prog 17 #[.pointer (some ⟨x,0,none⟩),.string s] w fun r w'=>Au F w x oq nm (CT S (BE ns) (IJ S.cls S.lim (BK gs ns))) r w':=by
 obtain⟨vC,vQ,Y,K,c8⟩:=h.ex;obtain⟨k0,k1,k2,kf,kl⟩:=Y.facts;have Gv:=(J4 (S:=S) (F3 hr) (IP hr)).2;have HS:=aO h;have HP:=aO Y;have V:=aO K;have HR:=aO hr;have HO:Hid (zh (CT S (BE ns) (IJ S.cls S.lim (BK gs ns))).2):=aDi h.ok hr hz;have H:Hid (∀W q m9,QAt m9 W q none (BE ns) (BK gs ns)->ji W vC S.cls->B<=W.heap.size->B<=q->vk B W->Calls prog 34 #[.pointer (some ⟨q,0,none⟩),vC,.int .i64 (S.lim:Nat)] W fun r w'=>r= .returned (GH (GO (BE ns) (IJ S.cls S.lim (BK gs ns))))/\(∃E,QAt m9 w' q E (BE ns) (KX (IJ S.cls S.lim (BK gs ns)))/\Nb W none E)/\Kept (May q none) W w'):=fun W q m9 hQ hC c6 hq c9=>rH W B q none _ _ vC S.cls S.lim hQ hC Gv h.ok.g h.ok.k K.len h.ok.l2 hz c6 hq (fun _ e=>by cases e) c9;obtain⟨b,c,rfl⟩:=K.seen.slice;clear h Y K c8 hr Gv hz;obtain⟨R,hR⟩:∃R,Hid (IJ S.cls S.lim (BK gs ns)=R):=⟨_,rfl⟩
 rw[hR.o] at H HO⊢;obtain⟨⟨rk,U,T,t⟩,N⟩:∃rp,Hid (GO (BE ns) R=rp):=⟨_,rfl⟩
 obtain⟨L,hL⟩:∃L,Hid (S.lim=L):=⟨_,rfl⟩
 obtain⟨nc,P⟩:∃n,Hid (S.cls.length=n):=⟨_,rfl⟩
 rw[N.o,hL.o,P.o] at H;rw[hL.o] at k0;rw[P.o] at k1;go_enter func17,ntmps17
 go_wp2_with (first
  |(go_at_call 33;refine(rS _ _ gs _ ns b2 b4 d0).mono ?_;rintro r d ⟨q,n9,rfl,d3,Z,b3,D⟩;have d7:=D.size)
  |(go_at_call 32;refine(XY s _ hm).mono ?_;rintro r w2 ⟨C,b0⟩;rw[HR.o] at b0;obtain⟨a1,n1,c1,a2,n2,c2,hv,b2,b4,d2,d0⟩:=b0;subst hv;have d1:=C.size)
  |(go_at_call 19;refine(JA x _ ⟨_,_,_,AF HP.o _⟩).mono ?_;rintro r w1 ⟨rfl,h1⟩;subst h1))
 have b1:Kept (fun k=>k=x) w w2:=(((Kept.refl (fun k=>k=x) w).setCell (p:=⟨x,2,none⟩) (.inr rfl) _).alloc _).trans (Kept.of_below C (fun _=>False)) (fun _ _ e=>absurd e id);have O:Kept (fun k=>k=x) w d:=b1.trans (Kept.of_below D (fun _=>False)) (fun _ _ e=>absurd e id);have d6:w.heap.size+1<=w2.heap.size:=by simpa using d1
 have a8:=(C.block x aJ).trans (AF (AK HP.o 2 (.pointer none)) (.cells #[.int .i64 0,.string ⟨#[]⟩,.int .i64 0,.int .i64 0] 65));have X:PsB d x S.lim (.slice b S.cls.length c) (.pointer none):=(D.block x aD).trans a8;have a6:=(C.block w.heap.size aE).trans (AZ (w.setCell ⟨x,2,none⟩ (.pointer none)) (.cells #[.int .i64 0,.string ⟨#[]⟩,.int .i64 0,.int .i64 0] 65) _ aE);have a7:d.heap[w.heap.size]?=some (.cells #[.int .i64 0,.string ⟨#[]⟩,.int .i64 0,.int .i64 0] 65):=(D.block w.heap.size aD).trans a6;have b6:Hid (ji d (.slice b S.cls.length c) S.cls):=V.o.seen.kept O (Free.blk HP.o aF);have c3:Hid (vk B d):=hT.on (O.below hB (fun k hk e=>by omega));obtain⟨m0,m1,m2,mf,ml⟩:=X.facts;rw[hL.o] at m0;rw[P.o] at m1;have J:=aO X;have I:=aO a7;have c0:=aO Z;have a4:=aO O;have c7:B<=q:=aD;have a9:B<=d.heap.size:=aD;have G:Hid (∀W,Below d.heap.size d W->Calls prog 34 #[.pointer (some ⟨q,0,none⟩),.slice b nc c,.int .i64 (L:Nat)] W fun r w'=>r= .returned (GH ⟨rk,U,T,t⟩)/\(∃E,QAt n9 w' q E (BE ns) (KX R)/\Nb W none E)/\Kept (May q none) W w'):=fun W hb=>H.o W q n9 (Z.below hb) (by rw[<-P.o];exact b6.o.below hb) (bN a9 hb.size) c7 (c3.o.on (hb.mono a9));have b7:Hid (∀g,NmB n9 g->w.heap.size<=g):=fun g hg=>by have:=b3 g hg;omega
 clear b1 a8 X a6 a7 Z O b2 b4 C D b3 k0 k1 k2 kf H hT;have d4:q<d.heap.size:=sO c0.o (.inl rfl)
 have b5:Hid (∀i,i<w.heap.size->May q none i->i=x\/GU oq i):=fun i u e=>by
  rcases e with e|e
  ·omega
  ·cases e
 have f:Hid (∀k,k≠q->¬May q none k):=fun k hk hm=>by
  rcases hm with e|e
  ·exact hk e
  ·cases e
 have a0:R.1=rk:=by rw[<-YG (BE ns) R,N.o]
 by_cases h1:rk=1
 ·subst h1
  go_region_law (first
   |(refine GM rfl 34 (.tmp 31) (.tmp 35) (.tmp 39) _ rfl (.pointer (some ⟨q,0,none⟩)) (.slice b nc c) (.int .i64 L) rfl rfl rfl (fun _=>PZ _ _) (G.o _ aM) ?_;rintro r l ⟨rfl,⟨rb1,A,M⟩,a⟩;refine⟨_,rfl,?_⟩;simp only[GH];have a3:=a.size;have z:l.heap[d.heap.size]?=some (.cells #[.int .i64 0,.string ⟨#[]⟩,.int .i64 0,.int .i64 0] 65):=(a.block d.heap.size aI (f.o _ aD)).trans (AJ d _);have m:l.heap[w.heap.size]?=some (.cells #[.int .i64 0,.string ⟨#[]⟩,.int .i64 0,.int .i64 0] 65):=(a.block w.heap.size aI (f.o _ aD)).trans (AF I.o _);have o:PsB l x S.lim (.slice b S.cls.length c) (.pointer none):=(a.block x aI (f.o x aD)).trans (AF J.o _);have⟨s0,s1,s2,s3⟩:=cM m;have sf:=AE m;have sl:=AD m;simp at s0 s1 s2 s3;obtain⟨x0,x1,x2,xf,xl⟩:=PsB.facts o;have⟨t0,t1,t2,t3⟩:=cM z;have tf:=AE z;have tl:=AD z;simp at t0 t1 t2 t3)
   |(refine GM rfl 34 (.tmp 31) (.tmp 35) (.tmp 39) _ rfl (.pointer (some ⟨q,0,none⟩)) (.slice b nc c) (.int .i64 L) rfl rfl rfl (fun _=>PZ _ _) (G.o _ aM) ?_;rintro r l ⟨rfl,⟨rb1,A,M⟩,a⟩;refine⟨_,rfl,?_⟩;simp only[GH];have a3:=a.size;have m:l.heap[w.heap.size]?=some (.cells #[.int .i64 0,.string ⟨#[]⟩,.int .i64 0,.int .i64 0] 65):=(a.block w.heap.size aI (f.o _ aD)).trans I.o;have o:PsB l x S.lim (.slice b S.cls.length c) (.pointer none):=(a.block x aI (f.o x aD)).trans J.o;have⟨s0,s1,s2,s3⟩:=cM m;have sf:=AE m;have sl:=AD m;simp at s0 s1 s2 s3;obtain⟨x0,x1,x2,xf,xl⟩:=PsB.facts o))
  all_goals go_wp2_with fail
  all_goals
   refine bodyPost_ret (v:= .agg #[.int .i64 1,.string U,.int .i64 T,.int .i64 t]) (by simp[results,results17,go_sem, *]) rfl ?_;have Ej:Kept (fun k=>k=x\/GU oq k) w l:=((a4.o.mono (fun _ _ e=> .inl e)).trans (Kept.of_below (w':=_) aM (fun _=>False)) (fun _ _ e=>absurd e id)).trans a (fun i u e=>b5.o i u e);refine aCa (q:=q) (rb1:=rb1) HS.o V.o ?_ N.o a0 HO.o ?_ (fun k hm=>?_) (fun g hg=> .inr (b7.o g hg)) ?_
   ·first
     |(have h9:=z;have Q:=AK (((CK l d.heap.size (.int .i64 1) (.string U) (.int .i64 T) (.int .i64 t)).block x (AD o) aD).trans o) 2 (.pointer (some ⟨q,0,none⟩));exact((CK _ w.heap.size _ _ _ _).block x (AD Q) aD).trans Q)
     |(have Q:=AK o 2 (.pointer (some ⟨q,0,none⟩));exact AF (((CK _ w.heap.size _ _ _ _).block x (AD Q) aD).trans Q) _)
   ·first
     |(have h9:=z;have c4:=((CK l d.heap.size (.int .i64 1) (.string U) (.int .i64 T) (.int .i64 t)).block x (AD o) aD).trans o;have a5:=((CK l d.heap.size (.int .i64 1) (.string U) (.int .i64 T) (.int .i64 t)).block w.heap.size (AD m) aD).trans m;have kx:=Kept.setCell (p:=⟨x,2,none⟩) (Kept.refl (fun k=>k=x) ((((l.setCell ⟨d.heap.size,0,none⟩ (.int .i64 1)).setCell ⟨d.heap.size,1,none⟩ (.string U)).setCell ⟨d.heap.size,2,none⟩ (.int .i64 T)).setCell ⟨d.heap.size,3,none⟩ (.int .i64 t))) (.inr rfl) (.pointer (some ⟨q,0,none⟩));exact((A.Ag z aF (CK _ _ _ _ _ _)).Ag c4 aF kx).Ag ((kx.block w.heap.size (AD a5) aD).trans a5) aF (CK _ _ _ _ _ _))
     |(have kx:=Kept.setCell (p:=⟨x,2,none⟩) (Kept.refl (fun k=>k=x) l) (.inr rfl) (.pointer (some ⟨q,0,none⟩));exact((A.Ag o aF kx).Ag ((kx.block w.heap.size (AD m) aD).trans m) aF (CK _ _ _ _ _ _)).below ((bZ _ _).alloc (aX _) _))
   ·rcases hm with e|e
    ·exact .inr aD
    ·rcases M with e2|⟨j,e2,hj⟩
     ·rw[e2] at e;cases e
     ·rw[e2] at e;injection e with e;simp at hj;exact .inr aD
   ·first
     |(have h9:=z;exact((Ej.trans (CK _ d.heap.size _ _ _ _) (fun i u e=>absurd u aD)).setCell (p:=⟨x,2,none⟩) (.inr (.inl rfl)) _).trans (CK _ w.heap.size _ _ _ _) (fun i u e=>absurd u aD))
     |exact((Ej.setCell (p:=⟨x,2,none⟩) (.inr (.inl rfl)) _).trans (CK _ w.heap.size _ _ _ _) (fun i u e=>absurd u aD)).alloc _
 ·have c5:¬R.1=1:=fun e=>h1 (a0.symm.trans e);clear a0
  go_region_law (first
   |(refine GM rfl 34 (.tmp 31) (.tmp 35) (.tmp 39) _ rfl (.pointer (some ⟨q,0,none⟩)) (.slice b nc c) (.int .i64 L) rfl rfl rfl (fun _=>PZ _ _) (G.o _ aM) ?_;rintro r l ⟨rfl,⟨rb1,A,M⟩,a⟩;refine⟨_,rfl,?_⟩;simp only[GH];have a3:=a.size;have z:l.heap[d.heap.size]?=some (.cells #[.int .i64 0,.string ⟨#[]⟩,.int .i64 0,.int .i64 0] 65):=(a.block d.heap.size aI (f.o _ aD)).trans (AJ d _);have m:l.heap[w.heap.size]?=some (.cells #[.int .i64 0,.string ⟨#[]⟩,.int .i64 0,.int .i64 0] 65):=(a.block w.heap.size aI (f.o _ aD)).trans (AF I.o _);have o:PsB l x S.lim (.slice b S.cls.length c) (.pointer none):=(a.block x aI (f.o x aD)).trans (AF J.o _);have⟨s0,s1,s2,s3⟩:=cM m;have sf:=AE m;have sl:=AD m;simp at s0 s1 s2 s3;obtain⟨x0,x1,x2,xf,xl⟩:=PsB.facts o;have⟨t0,t1,t2,t3⟩:=cM z;have tf:=AE z;have tl:=AD z;simp at t0 t1 t2 t3)
   |(refine GM rfl 34 (.tmp 31) (.tmp 35) (.tmp 39) _ rfl (.pointer (some ⟨q,0,none⟩)) (.slice b nc c) (.int .i64 L) rfl rfl rfl (fun _=>PZ _ _) (G.o _ aM) ?_;rintro r l ⟨rfl,⟨rb1,A,M⟩,a⟩;refine⟨_,rfl,?_⟩;simp only[GH];have a3:=a.size;have m:l.heap[w.heap.size]?=some (.cells #[.int .i64 0,.string ⟨#[]⟩,.int .i64 0,.int .i64 0] 65):=(a.block w.heap.size aI (f.o _ aD)).trans I.o;have o:PsB l x S.lim (.slice b S.cls.length c) (.pointer none):=(a.block x aI (f.o x aD)).trans J.o;have⟨s0,s1,s2,s3⟩:=cM m;have sf:=AE m;have sl:=AD m;simp at s0 s1 s2 s3;obtain⟨x0,x1,x2,xf,xl⟩:=PsB.facts o))
  all_goals go_wp2_with fail
  all_goals
   refine bodyPost_ret (v:= .agg #[.int .i64 rk,.string U,.int .i64 T,.int .i64 t]) (by simp[results,results17,go_sem, *]) rfl ?_;have Ej:Kept (fun k=>k=x\/GU oq k) w l:=((a4.o.mono (fun _ _ e=> .inl e)).trans (Kept.of_below (w':=_) aM (fun _=>False)) (fun _ _ e=>absurd e id)).trans a (fun i u e=>b5.o i u e);refine xM (vC:= .slice b S.cls.length c) HS.o V.o ?_ N.o c5 ?_
   ·first
     |(have h9:=z;have Q:=((CK l d.heap.size (.int .i64 rk) (.string U) (.int .i64 T) (.int .i64 t)).block x (AD o) aD).trans o;exact((CK _ w.heap.size _ _ _ _).block x (AD Q) aD).trans Q)
     |exact AF (((CK _ w.heap.size _ _ _ _).block x (AD o) aD).trans o) _
   ·first
     |(have h9:=z;exact(Ej.trans (CK _ d.heap.size _ _ _ _) (fun i u e=>absurd u aD)).trans (CK _ w.heap.size _ _ _ _) (fun i u e=>absurd u aD))
     |exact(Ej.trans (CK _ w.heap.size _ _ _ _) (fun i u e=>absurd u aD)).alloc _
end Go.Proofs.Q
