import Derived.Test.YthenokfmcjmfkaaGreatDoorYac
namespace Rf
theorem og.bd{B:Nat}:∀{ps:List AB} {m m':Nat},og m ps m'->(∀p∈ps,p.kind=1->p.value<B)->m<=B->m'<=B
 |[],_,_,h,_,hm=>by cases h;exact hm
 |p::ps,m,m',h,hp,hm=>by
  obtain⟨e,a,d⟩:=h;refine d.bd (fun q c=>hp q (bA _ c)) ?_;unfold NX at a;split at a
  ·rename_i b;have:=hp p aE b;omega
  ·omega
theorem ClR.good{c:Cl}(h:ClR c)(b:O1 c):c.vars<=16/\ClG c:=by
 have g:c.vars<=16:=by
  refine h.num.bd (fun p a e=>?_) aD;rcases bO.1 a with a|a
  ·exact((b.1 p a).1 e).2
  ·obtain⟨q,i,d⟩:=List.mem_flatten.1 a;exact(((b.2.2 q i).1 p d).1 e).2
 refine⟨g,⟨b.2.1,fun p a=>(h.hp p a).good 16 aD⟩,h.bl,fun t f=>⟨(b.2.2 t f).2,(h.bg t f).part aD⟩⟩
theorem aBl{s:ByteArray}{a:List Cl}(h:CR s= .ok a):∀c∈a,ClR c/\c.vars<=16/\ClG c:=fun c b=>by
 have d:=qN h c b;exact⟨d,d.good ((SM h).2 c b)⟩
theorem ClR.k{c:Cl}(h:ClR c):ClK c:=⟨fun p b=>(h.hp p b).kind,fun g a=>(h.bg g a).k⟩
theorem zh.g{S:Se}(h:zh S):uw S.cls:=fun c a=>(h.cls c a).2.2
theorem zh.k{S:Se}(h:zh S):Az S.cls:=fun c a=>(h.cls c a).1.k
theorem aCH(ns:List Int)(v:Int):ns.length<=(CY ns v).length:=by unfold CY;split<;>simp
theorem zN(ns:List Int)(p:AB):ns.length<=(BU ns p).length:=by
 unfold BU;split
 ·exact aCH _ _
 ·exact aX _
theorem ZY:∀(t:List AB) (ns:List Int),ns.length<=(AQ ns t).2.length
 |[],_=>aX _
 |p::t,ns=>by rw[AQ];exact bN (zN ns p) (ZY t _)
theorem RB:∀(ts:List (List AB)) (ns:List Int),ns.length<=(AT ns ts).2.length
 |[],_=>aX _
 |t::ts,ns=>by rw[AT];exact bN (ZY t ns) (RB ts _)
theorem aDe(ns:List Int)(v:Int): (CY ns v).idxOf v<(CY ns v).length:=by
 refine List.idxOf_lt_length_of_mem ?_;unfold CY;split
 ·assumption
 ·simp
def Bd(n:Nat)(q p:AB):Prop:=p.kind=q.kind/\p.name=q.name/\p.args=q.args/\(q.kind≠1->p.value=q.value)/\(q.kind=1->0<=p.value/\p.value<n)
theorem Bd.mono{n a:Nat}{q p:AB}(h:Bd n q p)(b:n<=a):Bd a q p:=⟨h.1,h.2.1,h.2.2.1,h.2.2.2.1,fun k=>by have:=h.2.2.2.2 k;omega⟩
theorem o6(ns:List Int)(p:AB):Bd (BU ns p).length p (IW ns p):=by
 unfold IW BU;split
 ·rename_i a;have:=aDe ns p.value;exact⟨rfl,rfl,rfl,fun h=>absurd a h,fun _=>by simp only[];omega⟩
 ·rename_i a;exact⟨rfl,rfl,rfl,fun _=>rfl,fun h=>absurd h a⟩
theorem b9:∀(t:List AB) (ns:List Int),(AQ ns t).1.length=t.length/\∀p∈(AQ ns t).1,∃q∈t,Bd (AQ ns t).2.length q p
 |[],ns=>⟨rfl,by simp[AQ]⟩
 |x::t,ns=>by
  obtain⟨e,d⟩:=b9 t (BU ns x);rw[AQ];refine⟨by simp[e],fun p a=>?_⟩;rcases bP.1 a with rfl|a
  ·exact⟨x,aE,(o6 ns x).mono (ZY t _)⟩
  ·obtain⟨q,b,c⟩:=d p a;exact⟨q,bA _ b,c⟩
theorem K4:∀(ts:List (List AB)) (ns:List Int),(AT ns ts).1.length=ts.length/\∀(i:Nat) (u:List AB),(AT ns ts).1[i]?=some u->∃t,ts[i]?=some t/\u.length=t.length/\(∀p∈u,∃q∈t,Bd (AT ns ts).2.length q p)/\(t.head?.map (·.kind))=u.head?.map (·.kind)
 |[],ns=>⟨rfl,by simp[AT]⟩
 |t::ts,ns=>by
  obtain⟨j,g⟩:=K4 ts (AQ ns t).2;obtain⟨k,l⟩:=b9 t ns;rw[AT];refine⟨by simp[j],fun i u a=>?_⟩
  cases i with
  |zero=>
   simp at a;subst a;refine⟨t,rfl,k,fun p n=>?_,?_⟩
   ·obtain⟨q,e,f⟩:=l p n;exact⟨q,e,f.mono (RB ts _)⟩
   ·cases t with
    |nil=>rfl
    |cons x t=>
     rw[AQ];simp only[List.head?_cons,Option.map_some];have:=(o6 ns x).1;rw[this]
  |succ i=>
   simp at a;obtain⟨d,h,c,b,m⟩:=g i u a;exact⟨d,by simpa using h,c,b,m⟩
theorem VY:∀(ts:List (List AB)) (ns:List Int),(∀t∈ts,t.length<=400)->(AT ns ts).2.length<=ns.length+ts.length*400:=by
 have b:∀(t:List AB) (ns:List Int),(AQ ns t).2.length<=ns.length+t.length:=by
  intro t
  induction t with
  |nil=>intro ns;simp[AQ]
  |cons p t a=>
   intro ns;rw[AQ];have e:=a (BU ns p)
   have d: (BU ns p).length<=ns.length+1:=by
    unfold BU;split
    ·unfold CY;split<;>simp
    ·simp
   simp only[bM];omega
 intro ts
 induction ts with
 |nil=>intro ns _;simp[AT]
 |cons t ts a=>
  intro ns h;have e:=a (AQ ns t).2 (fun u c=>h u (bA _ c));have d:=b t ns;have f:=h t aE;rw[AT];simp only[bM];omega
theorem Bd.good{n:Nat}{f:Int}{q p:AB}(h:Bd n q p)(a:ru f q):ru n p:=by
 refine⟨by rw[h.2.2.1];exact a.1,fun k=>h.2.2.2.2 (by rw[<-h.1];exact k),fun k=>?_,by rw[h.2.1];exact a.2.2.2⟩;have b:q.kind=2:=by rw[<-h.1];exact k
 rw[h.2.2.2.1 aD];exact a.2.2.1 b
theorem M5(S:St): (CX S).aV.length=S.aV.length/\(CX S).aS.length=S.aS.length:=by
 have a:=(K4 (S.aV++S.aS) []).1;rw[bL] at a;unfold CX;simp only[List.length_take,List.length_drop];omega
theorem UJ(S:St): (∀(i:Nat) (u:List AB),(CX S).aV[i]?=some u->∃t,S.aV[i]?=some t/\u.length=t.length/\(∀p∈u,∃q∈t,Bd (AT [] (S.aV++S.aS)).2.length q p)/\(t.head?.map (·.kind))=u.head?.map (·.kind))/\(∀(i:Nat) (u:List AB),(CX S).aS[i]?=some u->∃t,S.aS[i]?=some t/\u.length=t.length/\(∀p∈u,∃q∈t,Bd (AT [] (S.aV++S.aS)).2.length q p)):=by
 have e:=(K4 (S.aV++S.aS) []).2;constructor
 ·intro i u a
  have f:i<S.aV.length:=by
   have:=(bS.1 a).1;have:=(M5 S).1;omega
  unfold CX at a;simp only[List.getElem?_take,if_pos f] at a;obtain⟨t,b,d,c,g⟩:=e i u a;rw[List.getElem?_append_left f] at b;exact⟨t,b,d,c,g⟩
 ·intro i u a;unfold CX at a;simp only[List.getElem?_drop] at a;obtain⟨t,b,d,c,_⟩:=e _ u a;rw[List.getElem?_append_right aD,show S.aV.length+i-S.aV.length=i by omega] at b;exact⟨t,b,d,c⟩
theorem xN{N:Nat}{F:Int}{S:St}(h:StG N F S)(r:N<=1000):StG N 406400 (CX S):=by
 obtain⟨o,s⟩:=M5 S;obtain⟨n,m⟩:=UJ S
 have l:=VY (S.aV++S.aS) [] (fun t a=>by
  rcases bO.1 a with a|a
  ·exact(h.g t a).1
  ·exact(h.t t a).1)
 rw[bL] at l;have:=h.gl;have:=h.tl;refine⟨aD,aD,by unfold CX;simp,?_,fun u c=>?_,fun u c=>?_⟩
 ·unfold CX;simp only[dA] at l⊢;have: (S.aV.length+S.aS.length)*400<=1016*400:=Nat.mul_le_mul_right _ aD;omega
 ·obtain⟨i,j⟩:=List.getElem?_of_mem c;obtain⟨t,e,d,b,_⟩:=n i u j;have a:=h.g t (List.mem_of_getElem? e);exact⟨by rw[d];exact a.1,fun p k=>by obtain⟨q,f,g⟩:=b p k;exact g.good (a.2 q f)⟩
 ·obtain⟨i,j⟩:=List.getElem?_of_mem c;obtain⟨t,e,d,b⟩:=m i u j;have a:=h.t t (List.mem_of_getElem? e);exact⟨by rw[d];exact a.1,fun p k=>by obtain⟨q,f,g⟩:=b p k;exact g.good (a.2 q f)⟩
theorem rP(S:St)(h:GK S.aV):GK (CX S).aV:=by
 intro u l;obtain⟨i,n⟩:=List.getElem?_of_mem l;obtain⟨t,m,f,e,_⟩:=(UJ S).1 i u n;rcases h t (List.mem_of_getElem? m) with⟨v,rfl⟩|k
 ·refine .inl ⟨v,?_⟩
  cases u with
  |nil=>simp[BY] at f
  |cons x u=>
   cases u with
   |cons y u=>simp[BY] at f
   |nil=>
    obtain⟨q,a,c⟩:=e x aE;simp[BY] at a;subst a;obtain⟨g,d,j,b,_⟩:=c
    replace b:=b aE
    obtain⟨w,z,r,s⟩:=x;simp only at g d j b;subst g;subst d;subst j;subst b;rfl
 ·refine .inr (fun p o=>?_);obtain⟨q,a,c⟩:=e p o;rw[c.1];exact k q a
theorem rJ(S:St)(h:∃g gs,S.aV=g::gs/\ER g):∃g gs,(CX S).aV=g::gs/\ER g:=by
 obtain⟨g,gs,d,e⟩:=h;have c:=(M5 S).1
 cases a: (CX S).aV with
 |nil=>rw[a,d] at c;simp at c
 |cons u k=>
  refine⟨u,k,rfl,fun p j=>?_⟩;obtain⟨t,b,l,f,_⟩:=(UJ S).1 0 u (by rw[a];rfl);rw[d] at b;simp at b;subst b;obtain⟨q,i,a⟩:=f p j;rw[a.1];exact e q i
theorem ND{cs:List Cl}{P:Nat->Int×Cf->Prop}(f:∀t cf,P t (-1,cf)->P t (B6 cs cf))(g:∀t cf,P t (0,cf)->cf.now.aV≠[]->P (t+1) (DF cs cf)):∀(n t:Nat) (r:Int×Cf),P t r->∃e o,e<=t+n/\P e (o,(CG cs n r).2)/\((o≠0/\(CG cs n r).1=o)\/(o=0/\((CG cs n r).1=1\/(CG cs n r).1=5))):=by
 have b:∀t r,P t r->P t (BI cs r):=fun t r h=>KC (P:=P t) (f t) _ r h;intro n
 induction n with
 |zero=>
  intro t r h;have d:=b t r h;rw[O0];split
  ·rename_i a;exact⟨t,_,aD,d,.inl ⟨a,rfl⟩⟩
  ·rename_i a;have a: (BI cs r).1=0:=Classical.not_not.1 a;have c:P t (0,(BI cs r).2):=by rw[<-a];exact d
   split
   ·exact⟨t,0,aD,c,.inr ⟨rfl,.inl rfl⟩⟩
   ·exact⟨t,0,aD,c,.inr ⟨rfl,.inr rfl⟩⟩
 |succ n i=>
  intro t r h;have d:=b t r h;rw[O0];split
  ·rename_i a;exact⟨t,_,aD,d,.inl ⟨a,rfl⟩⟩
  ·rename_i a;have a: (BI cs r).1=0:=Classical.not_not.1 a;have c:P t (0,(BI cs r).2):=by rw[<-a];exact d
   split
   ·exact⟨t,0,aD,c,.inr ⟨rfl,.inl rfl⟩⟩
   ·rename_i l;obtain⟨e,o,m,k,j⟩:=i (t+1) _ (g t _ c l);exact⟨e,o,aD,k,j⟩
def TmN(n:Nat)(r:Int×Cf):Prop:=(r.1=0->r.2.now.aS.length=n)/\∀c∈r.2.chs,c.st.aS.length=n
theorem YA{S:St}{c:Cl}{h:Int}(a: (BD S c h).1=0): (BD S c h).2.aS.length=S.aS.length:=by
 have b: (AL (BH S c h)).1=0:=by
  unfold BD at a;split at a
  ·assumption
  ·exact a
 unfold BD;rw[bD b];exact(KF (BH S c h)).2.2
theorem oJ{n:Nat}{cf:Cf}{s:St}{c:Cl}{h:Int}(b:s.aS.length=n)(e:∀d∈cf.chs,d.st.aS.length=n):TmN n (FZ cf s c h):=by
 refine⟨fun a=>?_,by rw[MA];exact e⟩;unfold FZ at a⊢;simp only at a⊢;rw[bD a];exact(YA a).trans b
theorem PA{P:Ch->Prop}{b:List Ch}{s:St}{rest:List Nat}(d:∀c∈b,P c)(e:P ⟨s,rest⟩):∀c∈CA b s rest,P c:=by
 intro c a;unfold CA at a;split at a
 ·exact d c a
 ·rcases bP.1 a with rfl|a
  ·exact e
  ·exact d c a
theorem tQ{cs:List Cl}{n:Nat}{cf:Cf}(h:TmN n (-1,cf)):TmN n (B6 cs cf):=by
 have b:=h.2;simp only at b;unfold B6
 cases g:cf.chs with
 |nil=>exact⟨fun e=>by simp at e,b⟩
 |cons c f=>
  rw[g] at b;simp only[];have a:∀d∈f,d.st.aS.length=n:=fun d i=>b d (bA _ i);unfold KP;split
  ·exact⟨fun _=>b c aE,a⟩
  ·exact oJ (b c aE) (PA (P:=fun d=>d.st.aS.length=n) a (b c aE))
theorem aAR{cs:List Cl}{n:Nat}{cf:Cf}(h:TmN n (0,cf)):TmN n (DF cs cf):=by
 obtain⟨f,l⟩:=h;have f:=f rfl;simp only at f l;have e:∀k:Int,TmN n (k,cf):=fun k=>⟨fun _=>f,l⟩
 have j:TmN n (E9 cf):=⟨fun _=>f,l⟩
 have g:∀a b,TmN n (BJ cf a b):=fun a b=>by
  refine⟨fun m=>?_,by rw[NC];exact l⟩;unfold BJ at m⊢;simp only at m⊢;rw[bD m];exact(KF (BT cf a b)).2.2.trans f
 unfold DF;split
 ·unfold B7;split
  ·exact⟨fun _=>f,fun c i=>l c (bV i)⟩
  split
  ·exact j
  split
  ·exact g _ _
  split
  ·unfold EP;split
   ·split
    ·exact j
    ·exact e _
   ·exact e _
  split
  ·unfold EC;split
   ·split
    ·exact e _
    ·exact g _ _
   ·exact e _
  split
  ·unfold D2;split
   ·split
    ·exact e _
    ·refine⟨fun _=>f,fun c i=>?_⟩;rcases bP.1 i with rfl|i
     ·exact f
     ·exact l c i
   ·exact e _
  ·exact e _
 ·split
  ·unfold EA;split
   ·exact e _
   ·split
    ·exact e _
    ·exact oJ f (PA (P:=fun d=>d.st.aS.length=n) l f)
  ·exact e _
structure Kep(cs:List Cl)(n t:Nat)(r:Int×Cf):Prop where
 cf:CfG cs 1000 406400 t r.2
 inv:Inv t r
 tm:TmN n r
 out:G9 r.1
theorem O7{cs:List Cl}(a:uw cs)(b:Az cs){n t:Nat}{cf:Cf}(h:Kep cs n t (-1,cf)):Kep cs n t (B6 cs cf):=⟨N6 a h.cf,gD b h.inv.base,tQ h.tm,SO cs cf⟩
theorem RE{cs:List Cl}(b:uw cs)(c:Az cs){n t:Nat}{cf:Cf}(h:Kep cs n t (0,cf))(a:cf.now.aV≠[]):Kep cs n (t+1) (DF cs cf):=⟨UO b h.cf a,kH c h.inv a,aAR h.tm,eK cs cf⟩
theorem V9{S:Se}(a:zh S){e:List ByteArray}(u:e.length<=16)(p:∀x∈e,x.size<=12){r:Int×Cf}(h:Kep S.cls e.length 0 r):zh (CT S e (CG S.cls S.lim r)).2:=by
 unfold CT;split
 ·rename_i s;have B:=a.l2;obtain⟨n,o,A,g,z⟩:=ND (P:=Kep S.cls e.length) (fun _ _ h=>O7 a.g a.k h) (fun _ _ h j=>RE a.g a.k h j) S.lim 0 r h;have i:=P8 a.k S.lim 0 r h.inv aD h.out s;refine⟨a.l1,a.l2,a.cl,a.cls,fun q f=>?_⟩;simp only[Option.some.injEq] at f;subst f;refine⟨u,p,by simp only[List.length_map];exact g.cf.len,fun c l=>?_⟩;simp only at l;obtain⟨d,k,rfl⟩:=bQ.1 l;obtain⟨w,y,v,m⟩:=i.2 d k;obtain⟨b,t,_⟩:=g.cf.chs d k;refine⟨?_,?_,t,w,rP _ v,rJ _ m⟩
  ·exact xN (N:=1000) (F:=406400+16*n) ⟨y,b.tl,b.f0,b.f1,b.g,b.t⟩ (aX _)
  ·show(CX d.st).aS.length=_;rw[(M5 d.st).2];exact g.tm.2 d k
 ·exact⟨a.l1,a.l2,a.cl,a.cls,fun q f=>by cases f⟩
theorem J4{S:Se}{gs:List (List AB)}{ns:List ByteArray}(e:QuR gs ns)(j:∀q∈gs,(∀x∈q,Good x)/\q.length<=400):ns.length<=16/\Kep S.cls (BE ns).length 0 (0,BK gs ns):=by
 have g:ns.length<=16:=by
  refine e.num.bd (fun p f k=>?_) aD;obtain⟨q,a,h⟩:=List.mem_flatten.1 f;exact(((j q a).1 p h).1 k).2
 have l:=JN 0 ns;have i:=e.len;refine⟨g,⟨⟨?_,(fun c d=>by cases d),(by simp[BK])⟩,⟨⟨trivial,trivial,(fun _ c d=>by cases d)⟩,fun _=>⟨fun q a=>(e.g q a).k,.inr ⟨trivial,trivial⟩⟩⟩,⟨(fun _=>by simp[BK,CW,BE]),(fun c d=>by cases d)⟩,.inl rfl⟩⟩;refine⟨by simp only[BK];omega,by simp only[BK,CW,List.length_map];omega,by simp[BK],by simp only[BK];omega,fun t b=>⟨(j t b).2,(e.g t b).part (by simp[BK])⟩,fun t b=>?_⟩;simp only[BK,CW] at b;obtain⟨x,hx,rfl⟩:=bQ.1 b;obtain⟨n,m,_,_⟩:=NN 0 ns x hx;refine⟨by simp[KK],fun p f=>?_⟩;simp[KK] at f;subst f;exact⟨aE,fun _=>by simp only[BK];omega,aE,by simp[ByteArray.size]⟩
theorem L4{S:Se}(u:zh S){q:Qs}(h:aC7 S.cls.length q):Kep S.cls q.aW.length 0 (-1,⟨DL,q.chs⟩):=by
 have C:∀c∈q.chs,_:=h.c
 have r:∀l:List Ch,(∀c∈l,c∈q.chs)->DR l=none/\DC l=0/\ShR l/\RkR 0 l/\(∀a B,Rk a B l):=by
  intro l
  induction l with
  |nil=>intro _;exact⟨rfl,rfl,trivial,trivial,fun _ _=>trivial⟩
  |cons c l y=>
   intro n;obtain⟨j,v,o,z,k⟩:=y (fun d A=>n d (bA _ A));obtain⟨f,_,_,m,w,s⟩:=h.c c (n c aE);refine⟨by rw[DR,bC m];exact j,by rw[DC,bC m,v],⟨⟨by rw[j];trivial,w,fun _=>s⟩,o⟩,⟨k _ _,z⟩,fun a B=>⟨.inl f.gl,k a B⟩⟩
 obtain⟨_,_,p,x,_⟩:=r q.chs (fun c b=>b);have:=u.l1;refine⟨⟨StG.none _ aD,fun c b=>?_,h.cl⟩,⟨⟨p,x,fun _ c b=>(h.c c b).1.gl⟩,fun e=>by simp at e⟩,⟨fun e=>by simp at e,fun c b=>(h.c c b).2.1⟩,.inr (.inl rfl)⟩;obtain⟨f,_,t,_,_,g,gs,i,_⟩:=h.c c b;exact⟨f.mono aD aD,t,fun _=>by rw[i];simp⟩
theorem dP{S:Se}(a:zh S):zh (PF S):=⟨a.l1,a.l2,a.cl,a.cls,fun q b=>by cases b⟩
theorem IP{s:ByteArray}{gs:List (List AB)}{ns:List ByteArray}(h:BM s= .ok (gs,ns)):∀q∈gs,(∀x∈q,Good x)/\q.length<=400:=by
 unfold BM at h;split at h
 ·cases h
 ·unfold GL at h
  cases b:BZ (AU s).length 8 [] (AU s) [] with
  |error e=>rw[b] at h;cases h
  |ok x=>
   obtain⟨g,d,f⟩:=x;have a: (AU s).length<=401:=by have:=FG s s.size 0;unfold AU;omega
   have k1:=(MR _ _ _ _ _ _ _ _ (EI s _ _) aE (fun q c=>by cases c) a b).1;rw[b] at h;simp only at h;split at h
   ·cases h
   ·split at h
    ·split at h
     ·cases h
     ·split at h
      ·simp only[cX,cY] at h;obtain⟨rfl,rfl⟩:=h;exact k1
      ·cases h
    ·cases h
def aCy(i:Nat):ByteArray:=⟨#[UInt8.ofNat (65+i)]⟩
def oK:List ByteArray:=(List.range 16).map aCy
def wl:AB->ByteArray:=aDJ oK
theorem ZC(p:AB)(f s:List AB)(b c a:List (List AB)):AL ⟨p::f,p::s,b,c,a⟩=AL ⟨f,s,b,c,a⟩:=by
 have d:BG ⟨p::f,p::s,b,c,a⟩=(0,⟨f,s,b,c,a⟩):=by simp only[BG];rw[bD (CE.2 rfl)]
 rw[MH,bC (by simp[F6]),d,bD rfl]
theorem mC{p q:AB}(f s:List AB)(c d a:List (List AB))(b:p≠q)(i:p.kind≠1)(h:q.kind≠1): (AL ⟨p::f,q::s,c,d,a⟩).1=-1:=by
 have g:BG ⟨p::f,q::s,c,d,a⟩=(-1,⟨p::f,q::s,c,d,a⟩):=by
  simp only[BG];rw[bC (fun e=>b (CE.1 e)),bC i,bC h]
 rw[MH,bC (by simp[F6]),g,bC aE]
def nmP(s:ByteArray)(n:Int):AB:=⟨3,s,0,n⟩
def vrP(i:Int):AB:=⟨1,⟨#[]⟩,i,0⟩
def P4(p c:ByteArray):Cl:=⟨[nmP p 1,nmP c 0],[],0⟩
def pB:ByteArray:=⟨#[112]⟩
def qB:ByteArray:=⟨#[113]⟩
def xB:ByteArray:=⟨#[88]⟩
end Rf
namespace Rf.Ia
open Rf
def S0:St:=⟨[[nmP pB 1,vrP 0]],[[vrP 0]],1⟩
def cls(cs:List ByteArray):List Cl:=cs.map (P4 pB)
def chs(n i:Nat):List Ch:=if i<n then [⟨S0,List.range' i (n-i)⟩] else []
def st(cs:List ByteArray)(i:Nat):Se:=⟨1,cls cs,if i<cs.length then some ⟨[xB],chs cs.length (i+1)⟩ else none⟩
end Rf.Ia
namespace Rf
end Rf
namespace Rf.Md
open Rf
def S0:St:=⟨[[nmP pB 1,vrP 0],[nmP qB 1,vrP 0]],[[vrP 0]],1⟩
def Q(f:Int)(c:ByteArray):St:=⟨[[nmP qB 1,nmP c 0]],[[nmP c 0]],f⟩
def cls(a b:List ByteArray):List Cl:=a.map (P4 pB)++b.map (P4 qB)
def pch(n i:Nat):List Ch:=if i<n then [⟨S0,List.range' i (n-i)⟩] else []
def qch(f:Int)(c:ByteArray)(a:List Nat):List Ch:=if a=[] then [] else [⟨Q f c,a⟩]
def M(n:Nat)(b:List ByteArray)(c:ByteArray)(k:Nat):List Nat:=AR (Q 0 c) (n+k) ((b.drop k).map (P4 qB))
def ans(c:ByteArray):Rep:=⟨1,xB++⟨#[32,61,32]⟩++c,0,0⟩
def st(a b:List ByteArray)(i:Nat)(c:ByteArray)(d:List Nat):Se:=⟨20,cls a b,some ⟨[xB],qch 0 c d++pch a.length (i+1)⟩⟩
def off(a b:List ByteArray):Rep×Se:=(J9 2,⟨20,cls a b,none⟩)
def hit(a b:List ByteArray)(i:Nat)(c:ByteArray)(m:List Nat)(d:Rep×Se):Rep×Se:=match m with
 |[]=>d
 |_::ks=>(ans c,st a b i c ks)
def aDf(a b:List ByteArray):Nat->List ByteArray->Rep×Se
 |_,[]=>off a b
 |i,c::as=>hit a b i c (M a.length b c 0) (aDf a b (i+1) as)
def R(a b:List ByteArray)(i:Nat)(c:ByteArray)(k:Nat):Rep×Se:=hit a b i c (M a.length b c k) (aDf a b (i+1) (a.drop (i+1)))
end Rf.Md
namespace Rf
end Rf
namespace Rf.Jv
open Rf
end Rf.Jv
namespace Rf
end Rf
namespace Rf.Na
open Rf
def aDz:ByteArray:=⟨#[108,97,115,116]⟩
def cls(a:List ByteArray):List Cl:=(a++[aDz]).map (P4 pB)
end Rf.Na
namespace Rf.Qe
open Rf
def fB:ByteArray:=⟨#[102]⟩
def zB:ByteArray:=⟨#[122]⟩
def yB:ByteArray:=⟨#[89]⟩
def F1:Cl:=⟨[nmP fB 1,vrP 0],[[nmP pB 1,vrP 0],BY 0],1⟩
def cls(a b:List ByteArray):List Cl:=a.map (P4 pB)++(b.map (P4 qB)++[F1,P4 fB zB])
def S0:St:=⟨[[nmP fB 1,vrP 0],[nmP qB 1,vrP 1]],[[vrP 0],[vrP 1]],2⟩
def S1:St:=⟨[[nmP pB 1,vrP 2],BY 0,[nmP qB 1,vrP 1]],[[vrP 2],[vrP 1]],3⟩
def S3(v f:Int)(c:ByteArray):St:=⟨[[nmP qB 1,vrP v]],[[nmP c 0],[vrP v]],f⟩
def qch(v f:Int)(c:ByteArray)(n m i:Nat):List Ch:=if i<m then [⟨S3 v f c,List.range' (n+i) (m-i)⟩] else []
def ans(c d:ByteArray):Rep:=⟨1,xB++⟨#[32,61,32]⟩++c++(⟨#[44,32]⟩++(yB++⟨#[32,61,32]⟩++d)),0,0⟩
def st(a b:List ByteArray)(c:ByteArray)(i:Nat):Se:=⟨20,cls a b,if i<b.length then some ⟨[xB,yB],qch 0 1 c a.length b.length (i+1)⟩ else none⟩
end Rf.Qe
namespace Rf
theorem jX:∀(a b:List AB) (ns:List Int),AQ ns (a++b)=((AQ ns a).1++(AQ (AQ ns a).2 b).1,(AQ (AQ ns a).2 b).2)
 |[],_,_=>rfl
 |p::a,b,ns=>by rw[List.cons_append,AQ,jX a b,AQ];rfl
end Rf
namespace Rf.La
open Rf
def aDO:ByteArray:=⟨#[97,100,100]⟩
def sB:ByteArray:=⟨#[115]⟩
def zB:ByteArray:=⟨#[122]⟩
def yB:ByteArray:=⟨#[89]⟩
def sP:AB:=nmP sB 1
def zP:AB:=nmP zB 0
def jL:AB:=nmP aDO 3
def Sj(j:Nat):List AB:=List.replicate j sP
def H(k:Nat):List AB:=Sj k++[zP]
def A1:Cl:=⟨[jL,zP,vrP 0,vrP 0],[],1⟩
def A2:Cl:=⟨[jL,sP,vrP 0,vrP 1,sP,vrP 2],[[jL,vrP 0,vrP 1,vrP 2]],3⟩
def cls:List Cl:=[A1,A2]
def G(n m j:Nat)(r f:Int):St:=⟨[jL::(H n++(H m++[vrP r]))],[Sj j++[vrP r]],f⟩
end Rf.La
namespace Rf
def Nz(l:List Tok):Prop:=∀t∈l,t.k=118->t.s.size<=12
def Ns(ns:List ByteArray):Prop:=∀y∈ns,y.size<=12
theorem XB(s:ByteArray)(n:Nat)(h: (AG s n).k=118): (AG s n).s.size<=12:=by
 unfold AG at h⊢;have a:∀b W,(CU n b W).k≠118:=fun b W=>by unfold CU;split<;>(try split)<;>simp[bad]
 split at h
 ·exact absurd h (a _ _)
 rename_i f;rw[bC f];split at h
 ·exact absurd h (a _ _)
 rename_i e;rw[bC e];split at h
 ·rename_i d;rw[bD d];unfold DS at h⊢;split at h
  ·simp[bad] at h
  ·rename_i c;rw[bC c];split
   ·show(DQ s false n).size<=12;omega
   ·show(DQ s false n).size<=12;omega
 ·rename_i d;split at h
  ·rename_i c;simp only at h;rw[h] at c;exact absurd c aF
  ·split at h
   ·simp at h
   ·simp[bad] at h
theorem ZW(s:ByteArray):∀(f n:Nat),Nz (toks s f n)
 |0,n=>fun t a h=>by simp[toks] at a;subst a;simp[FE] at h
 |f+1,n=>by
  rw[toks];split
  ·split
   ·exact ZW s f _
   ·split
    ·intro t a h;simp at a;subst a;exact XB s n h
    ·intro t a h;rcases bP.1 a with rfl|a
     ·exact XB s n h
     ·exact ZW s f _ t a h
  ·intro t a h;simp at a;subst a;simp[FE] at h
theorem aB4{t:Tok}{ns b:List ByteArray}{i:Nat}(h:GR t ns= .ok (i,b))(d:t.s.size<=12)(c:Ns ns):Ns b:=by
 unfold GR at h;split at h
 ·simp only[cX,cY] at h;obtain⟨_,rfl⟩:=h;exact c
 ·split at h
  ·cases h
  ·simp only[cX,cY] at h;obtain⟨_,rfl⟩:=h;intro y a;rcases bO.1 a with a|a
   ·exact c y a
   ·simp at a;subst a;exact d
def jP(rd:List Tok->List ByteArray->Except (Int×Nat) (List AB×List Tok×List ByteArray)):Prop:=∀l ns p b a,Nz l->Ns ns->rd l ns= .ok (p,b,a)->Nz b/\Ns a
theorem Nz.tail{t:Tok}{l:List Tok}(h:Nz (t::l)):Nz l:=fun u a=>h u (bA _ a)
theorem jB(rd:List Tok->List ByteArray->Except (Int×Nat) (List AB×List Tok×List ByteArray))(h:jP rd):∀(k:Nat) (acc:List (List AB)) (l:List Tok) (ns:List ByteArray) (a1:List (List AB)) (l2:List Tok) (ns2:List ByteArray),Nz l->Ns ns->A7 rd k acc l ns= .ok (a1,l2,ns2)->Nz l2/\Ns ns2
 |0,_,_,_,_,_,_,_,_,e=>by simp[A7] at e
 |k+1,acc,l,ns,a1,l2,ns2,hl,hn,e=>by
  rw[A7] at e
  cases b:rd l ns with
  |error x=>rw[b] at e;cases e
  |ok x=>
   obtain⟨p,c,a⟩:=x;obtain⟨d,f⟩:=h l ns p c a hl hn b;rw[b] at e
   cases c with
   |nil=>cases e
   |cons u g=>
    simp only at e;split at e
    ·split at e
     ·cases e
     ·exact jB rd h k _ g a a1 l2 ns2 d.tail f e
    ·split at e
     ·simp only[cX,cY] at e;obtain⟨rfl,rfl,rfl⟩:=e;exact⟨d.tail,f⟩
     ·cases e
theorem kD:∀(f:Nat),jP (AM f)
 |0=>fun _ _ _ _ _ _ _ e=>by simp[AM] at e
 |f+1=>fun l ns p r j h a e=>by
  cases l with
  |nil=>simp[AM] at e
  |cons t l=>
  rw[AM] at e;split at e
  ·rename_i g;unfold G6 at e;split at e
   ·cases e
   ·rename_i i q n;have o:=aB4 n (h t aE g) a;simp only[cX,cY] at e;obtain⟨rfl,rfl,rfl⟩:=e;exact⟨h.tail,o⟩
  ·split at e
   ·simp only[cX,cY] at e;obtain⟨rfl,rfl,rfl⟩:=e;exact⟨h.tail,a⟩
   ·split at e
    ·cases l with
     |nil=>cases e
     |cons u d=>
      simp only[EF] at e;split at e
      ·cases c:A7 (AM f) 4 [] d ns with
       |error x=>rw[c] at e;cases e
       |ok x=>
        obtain⟨k,m,b⟩:=x;rw[c] at e;simp only[cX,cY] at e;obtain⟨rfl,rfl,rfl⟩:=e;exact jB (AM f) (kD f) 4 [] d ns k m b h.tail.tail a c
      ·simp only[cX,cY] at e;obtain⟨rfl,rfl,rfl⟩:=e;exact⟨h.tail,a⟩
    ·cases e
theorem aAG(f:Nat):jP (BS f):=fun l ns p g c h b e=>by
 cases l with
 |nil=>simp[BS] at e
 |cons t l=>
  simp only[BS] at e;split at e
  ·simp only[cX,cY] at e;obtain⟨rfl,rfl,rfl⟩:=e;exact⟨h.tail,b⟩
  ·cases a:AM f (t::l) ns with
   |error x=>rw[a] at e;cases e
   |ok x=>
    obtain⟨j,i,d⟩:=x;rw[a] at e;simp only at e;split at e
    ·simp only[cX,cY] at e;obtain⟨rfl,rfl,rfl⟩:=e;exact kD f _ _ _ _ _ h b a
    ·cases e
theorem gE(f:Nat):∀(k:Nat) (acc:List (List AB)) (l:List Tok) (ns:List ByteArray) (a1:List (List AB)) (l2:List Tok) (ns2:List ByteArray),Nz l->Ns ns->BZ f k acc l ns= .ok (a1,l2,ns2)->Ns ns2
 |0,_,_,_,_,_,_,_,_,e=>by simp[BZ] at e
 |k+1,acc,l,ns,a1,l2,ns2,hl,hn,e=>by
  rw[BZ] at e
  cases b:BS f l ns with
  |error x=>rw[b] at e;cases e
  |ok x=>
   obtain⟨p,c,a⟩:=x;obtain⟨h,d⟩:=aAG f l ns p c a hl hn b;rw[b] at e
   cases c with
   |nil=>cases e
   |cons u g=>
    simp only at e;split at e
    ·split at e
     ·cases e
     ·exact gE f k _ g a a1 l2 ns2 h.tail d e
    ·simp only[cX,cY] at e;obtain⟨rfl,rfl,rfl⟩:=e;exact d
theorem T7{s:ByteArray}{gs:List (List AB)}{ns:List ByteArray}(h:BM s= .ok (gs,ns)):∀y∈BE ns,y.size<=12:=by
 have c:Ns ns:=by
  unfold BM at h;split at h
  ·cases h
  ·unfold GL at h
   cases b:BZ (AU s).length 8 [] (AU s) [] with
   |error e=>rw[b] at h;cases h
   |ok x=>
    obtain⟨i,f,g⟩:=x;have d:=gE _ _ _ _ _ _ _ _ (ZW s _ _) (fun y a=>by simp at a) b;rw[b] at h;simp only at h;split at h
    ·cases h
    ·split at h
     ·split at h
      ·cases h
      ·split at h
       ·simp only[cX,cY] at h;obtain⟨rfl,rfl⟩:=h;exact d
       ·cases h
     ·cases h
 intro y a;unfold BE at a;obtain⟨x,hx,rfl⟩:=bQ.1 a;exact c _ (NN 0 ns x hx).2.2.1
def JG(cls:List Cl)(s:ByteArray): (Int×Nat)×List Cl:=match CR s with
 | .error e=>(e,cls)
 | .ok new=>if 30<cls.length+new.length then((6,0),cls) else((0,0),cls++new)
def EE(S:Se)(s:ByteArray): (Int×Nat)×Se:=((JG S.cls s).1,⟨S.lim,(JG S.cls s).2,none⟩)
theorem YZ{S:Se}(h:zh S)(s:ByteArray):zh (EE S s).2:=by
 unfold EE JG
 cases f:CR s with
 |error e=>exact⟨h.l1,h.l2,h.cl,h.cls,fun q b=>by cases b⟩
 |ok g=>
  simp only[];split
  ·exact⟨h.l1,h.l2,h.cl,h.cls,fun q b=>by cases b⟩
  ·rename_i d;refine⟨h.l1,h.l2,?_,fun c a=>?_,fun q b=>by cases b⟩
   ·rw[bL];omega
   ·rcases bO.1 a with a|a
    ·exact h.cls c a
    ·exact aBl f c a
end Rf
