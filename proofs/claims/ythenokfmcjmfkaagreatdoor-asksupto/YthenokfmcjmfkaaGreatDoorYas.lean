import Derived.Test.YthenokfmcjmfkaaGreatDoorYad
namespace Rf
end Rf
namespace Rf.La
open Rf
def T(i d:Nat)(a b f:Int):St:=⟨[jL::vrP a::vrP b::H d],[Sj i++[vrP a],[vrP b]],f⟩
end Rf.La
namespace Rf.Pj
open Rf
def aB:ByteArray:=⟨#[97]⟩
def bB:ByteArray:=⟨#[98]⟩
def cls:List Cl:=Ia.cls [aB,bB]
def st(i:Nat):Se:=⟨9,cls,(Ia.st [aB,bB] i).q⟩
end Rf.Pj
namespace Rf
structure Rdr where
 rest:List UInt8
 wrong:Bool
def aC0:Rdr:=⟨[],true⟩
structure Ldr where
 r:Rdr
 aQ:Nat
 height:Nat
def over(t:List AB)(L:Ldr):Ldr:=if 200<t.length then⟨aC0,L.aQ,L.height⟩ else L
def Jw(p:AB):Prop:=(p.kind=1/\p.name=⟨#[]⟩/\p.args=0/\0<=p.value/\p.value<=1000000)\/(p.kind=2/\p.name=⟨#[]⟩/\p.args=0/\ -999999999<=p.value/\p.value<=999999999)\/(p.kind=3/\p.value=0/\WQ p.name/\0<=p.args/\p.args<=4)
def pW(p:AB)(k:Nat):Prop:=p.kind=1->p.value<=k
def after(p:AB)(k:Nat):Nat:=if p.kind=1/\p.value=k then k+1 else k
def lJ:List AB->Nat->Prop
 |[],_=>True
 |p::t,k=>pW p k/\lJ t (after p k)
def LU(t:List AB)(k:Nat):Nat:=t.foldl (fun k p=>after p k) k
def aDU(t:List AB)(m:Int):Int:=t.foldl (fun m p=>m+p.args -1) m
def Whole:List AB->Int->Prop
 |[],m=>m=0
 |p::t,m=>0<m/\Whole t (m+p.args -1)
structure Gf(t:List AB)(k:Nat):Prop where
 parts:∀p∈t,Jw p
 vars:lJ t k
 whole:Whole t 1
 len:t.length<=200
def IZ(ts:List (List AB))(k:Nat):Nat:=ts.foldl (fun k t=>LU t k) k
def Q3:List (List AB)->Nat->Nat->Prop
 |[],_,_=>True
 |g::gs,h,k=>(∃v:Nat,v<=h/\g=BY v/\Q3 gs v k)\/((AI g).kind=3/\Gf g k/\Q3 gs h (LU g k))
def aDF:List (List AB)->Nat->Nat
 |[],h=>h
 |g::gs,h=>aDF gs (if(AI g).kind=4 then(AI g).value.toNat else h)
theorem rQ(v:Nat)(k:Nat):LU (BY v) k=k:=by
 show after ⟨4,⟨#[]⟩,v,0⟩ k=k;unfold after;rw[bC (by intro hx;have a: (4:Int)=1:=hx.1;omega)]
def UP:List (List AB)->Nat->Prop
 |[],_=>True
 |t::ts,k=>Gf t k/\UP ts (LU t k)
structure ChV(cls:List Cl)(n h:Nat)(c:Ch):Prop where
 g1:1<=c.st.aV.length
 g2:c.st.aV.length<=1000
 aV:Q3 c.st.aV h 0
 tl:c.st.aS.length=n
 aS:UP c.st.aS (IZ c.st.aV 0)
 size:AO c.st.aS<=200
 aQ:c.st.aQ=(IZ c.st.aS (IZ c.st.aV 0):Nat)
 left:1<=c.cls.length
 used:c.cls.length<(AR c.st 0 cls).length
 last:c.cls=(AR c.st 0 cls).drop ((AR c.st 0 cls).length-c.cls.length)
def Q9(cls:List Cl)(n:Nat):Nat->List Ch->Prop
 |_,[]=>True
 |i,c::l=>ChV cls n i c/\Q9 cls n (i+1) l
def BX(ρ:Int->Int)(p:AB):AB:=if p.kind=1 then { p with value:=ρ p.value } else p
def AS(ρ:Int->Int)(t:List AB):List AB:=t.map (BX ρ)
def VIn(V:Int->Prop)(t:List AB):Prop:=∀p∈t,p.kind=1->V p.value
def JY(V:Int->Prop)(ρ:Int->Int):Prop:=∀a b,V a->V b->ρ a=ρ b->a=b
theorem E5(ρ:Int->Int)(p:AB): (BX ρ p).kind=p.kind:=by unfold BX;split<;>rfl
theorem TF(ρ:Int->Int)(p:AB): (BX ρ p).args=p.args:=by unfold BX;split<;>rfl
theorem KZ{ρ:Int->Int}{p:AB}(h:p.kind=1): (BX ρ p).value=ρ p.value:=by unfold BX;rw[bD h]
theorem oQ{V:Int->Prop}{ρ:Int->Int}(d:JY V ρ){v:Int}(b:V v){p:AB}(g:p.kind=1->V p.value):isV (ρ v) (BX ρ p)=isV v p:=by
 unfold isV;rw[E5];by_cases a:p.kind=1
 ·rw[KZ a,a];by_cases hx:p.value=v
  ·rw[hx];simp
  ·have:ρ p.value≠ρ v:=fun e=>hx (d _ _ (g a) b e);have f: (ρ p.value==ρ v)=false:=by simpa using this
   have c: (p.value==v)=false:=by simpa using hx
   rw[f,c]
 ·have: (p.kind==1)=false:=by simpa using a
  rw[this];rfl
theorem VIn.tail{V:Int->Prop}{p:AB}{t:List AB}(h:VIn V (p::t)):VIn V t:=fun q a=>h q (bA _ a)
theorem VIn.head{V:Int->Prop}{p:AB}{t:List AB}(h:VIn V (p::t)):p.kind=1->V p.value:=h p aE
theorem XC{V:Int->Prop}{ρ:Int->Int}(a:JY V ρ){v:Int}(b:V v):∀{t:List AB},VIn V t->A0 (ρ v) (AS ρ t)=A0 v t
 |[],_=>rfl
 |p::t,h=>by
  show A0 (ρ v) (BX ρ p::AS ρ t)=_;rw[A0,A0,XC a b h.tail,oQ a b h.head]
theorem RQ{V:Int->Prop}{ρ:Int->Int}(a:JY V ρ){v:Int}(b:V v){x:List AB}:∀{t:List AB},VIn V t->AP (ρ v) (AS ρ x) (AS ρ t)=AS ρ (AP v x t)
 |[],_=>rfl
 |p::t,h=>by
  show AP (ρ v) (AS ρ x) (BX ρ p::AS ρ t)=_;rw[AP,AP,RQ a b h.tail,oQ a b h.head];unfold AS;rw[bE];split<;>rfl
theorem eX{ρ:Int->Int}:∀(m:Int) (t:List AB),H6 m (AS ρ t)=H6 m t
 |_,[]=>rfl
 |m,p::t=>by
  show H6 m (BX ρ p::AS ρ t)=_;rw[H6,H6,TF,eX _ t]
theorem PV{ρ:Int->Int}(t:List AB):CN (AS ρ t)=CN t:=eX 1 t
theorem kW{V:Int->Prop}{ρ:Int->Int}(g:JY V ρ){p q:AB}(h:p.kind=1->V p.value)(f:q.kind=1->V q.value):FW (BX ρ p) (BX ρ q)=FW p q:=by
 rw[Bool.eq_iff_iff,CE,CE];constructor
 ·intro e;have c:p.kind=q.kind:=by rw[<-E5 ρ p,e,E5]
  by_cases a:p.kind=1
  ·have b:q.kind=1:=by rw[<-c];exact a
   have d:p.value=q.value:=g _ _ (h a) (f b) (by rw[<-KZ (ρ:=ρ) a,e,KZ b]);unfold BX at e;rw[bD a,bD b] at e
   cases p;cases q;simp only[AB.mk.injEq] at e d⊢;exact⟨e.1,e.2.1,d,e.2.2.2⟩
  ·have b:¬q.kind=1:=by rw[<-c];exact a
   unfold BX at e;rw[bC a,bC b] at e;exact e
 ·intro e;rw[e]
def FN(ρ:Int->Int)(e:Eqn):Eqn:=⟨AS ρ e.f,AS ρ e.s,e.body.map (AS ρ),e.behind.map (AS ρ),e.aS.map (AS ρ)⟩
structure EIn(V:Int->Prop)(e:Eqn):Prop where
 f:VIn V e.f
 s:VIn V e.s
 body:∀t∈e.body,VIn V t
 behind:∀t∈e.behind,VIn V t
 aS:∀t∈e.aS,VIn V t
theorem TQ(ρ:Int->Int):∀(ts:List (List AB)),AO (ts.map (AS ρ))=AO ts
 |[]=>rfl
 |t::ts=>by
  rw[List.map_cons];show(AS ρ t).length+AO (ts.map (AS ρ))=t.length+AO ts;rw[TQ ρ ts];unfold AS;rw[aZ]
theorem sA(ρ:Int->Int)(e:Eqn): (FN ρ e).size=e.size:=by
 unfold Eqn.size FN;simp only[TQ];unfold AS;simp only[List.length_map]
theorem TC{V:Int->Prop}{ρ:Int->Int}(b:JY V ρ){v:Int}(a:V v){x:List AB}{ts:List (List AB)}(h:∀t∈ts,VIn V t): (ts.map (AS ρ)).map (AP (ρ v) (AS ρ x))=(ts.map (AP v x)).map (AS ρ):=by
 rw[List.map_map,List.map_map];apply List.map_congr_left;intro t c;exact RQ b a (h t c)
theorem aCr{V:Int->Prop}{ρ:Int->Int}(a:JY V ρ){v:Int}(b:V v){x:List AB}{e:Eqn}(h:EIn V e): (FN ρ e).put (ρ v) (AS ρ x)=FN ρ (e.put v x):=by
 unfold Eqn.put FN;simp only;rw[RQ a b h.f,RQ a b h.s,TC a b h.body,TC a b h.behind,TC a b h.aS]
theorem jO{V:Int->Prop}{ρ:Int->Int}(a:JY V ρ){v:Int}(b:V v){x:List AB}(hx:VIn V x){e:Eqn}(h:EIn V e):A6 (FN ρ e) (ρ v) (AS ρ x)=((A6 e v x).1,FN ρ (A6 e v x).2):=by
 unfold A6;rw[XC a b hx,aCr a b h,sA];split
 ·rfl
 ·split<;>rfl
theorem dQ{V:Int->Prop}{v:Int}{x t:List AB}(hx:VIn V x)(c:VIn V t):VIn V (AP v x t):=by
 intro p d b;rcases JK d with⟨a,_⟩|a
 ·exact c p a b
 ·exact hx p a b
theorem WX{V:Int->Prop}{v:Int}{x:List AB}(hx:VIn V x){ts:List (List AB)}(h:∀t∈ts,VIn V t):∀t∈ts.map (AP v x),VIn V t:=by
 intro t b;obtain⟨u,a,rfl⟩:=bQ.1 b;exact dQ hx (h u a)
theorem nI{V:Int->Prop}{v:Int}{x:List AB}(hx:VIn V x){e:Eqn}(h:EIn V e):EIn V (A6 e v x).2:=by
 unfold A6;split
 ·exact h
 ·split
  ·exact h
  ·exact⟨dQ hx h.f,dQ hx h.s,WX hx h.body,WX hx h.behind,WX hx h.aS⟩
theorem VIn.take{V:Int->Prop}{t:List AB}(h:VIn V t)(n:Nat):VIn V (t.take n):=fun p a=>h p (List.mem_of_mem_take a)
theorem VIn.drop{V:Int->Prop}{t:List AB}(h:VIn V t)(n:Nat):VIn V (t.drop n):=fun p a=>h p (bV a)
theorem sF{V:Int->Prop}{ρ:Int->Int}(n:JY V ρ){e:Eqn}(h:EIn V e):BG (FN ρ e)=((BG e).1,FN ρ (BG e).2)/\EIn V (BG e).2:=by
 obtain⟨r,v,m,l,k⟩:=e;obtain⟨b,c,g,a,d⟩:=h;simp only at b c g a d
 cases r with
 |nil=>exact⟨rfl,⟨b,c,g,a,d⟩⟩
 |cons p f=>
  cases v with
  |nil=>exact⟨rfl,⟨b,c,g,a,d⟩⟩
  |cons q s=>
   have t:FN ρ ⟨p::f,q::s,m,l,k⟩=⟨BX ρ p::AS ρ f,BX ρ q::AS ρ s,m.map (AS ρ),l.map (AS ρ),k.map (AS ρ)⟩:=rfl;have u:BX ρ q::AS ρ s=AS ρ (q::s):=rfl;have o:BX ρ p::AS ρ f=AS ρ (p::f):=rfl;rw[t];unfold BG;simp only;rw[kW n b.head c.head,E5,E5];split
   ·exact⟨rfl,⟨b.tail,c.tail,g,a,d⟩⟩
   ·split
    ·rename_i i;have j:EIn V ⟨f,(q::s).drop (CN (q::s)),m,l,k⟩:=⟨b.tail,c.drop _,g,a,d⟩
     have:=jO n (b.head i) (c.take (CN (q::s))) j;refine⟨?_,nI (c.take _) j⟩;rw[u,PV,KZ i,<-this];unfold FN AS;simp only[List.map_take,List.map_drop]
    ·split
     ·rename_i i;have j:EIn V ⟨(p::f).drop (CN (p::f)),s,m,l,k⟩:=⟨b.drop _,c.tail,g,a,d⟩
      have:=jO n (c.head i) (b.take (CN (p::f))) j;refine⟨?_,nI (b.take _) j⟩;rw[o,PV,KZ i,<-this];unfold FN AS;simp only[List.map_take,List.map_drop]
     ·exact⟨rfl,⟨b,c,g,a,d⟩⟩
theorem vJ(ρ:Int->Int)(e:Eqn):F6 (FN ρ e)=F6 e:=by
 obtain⟨a,b,d,f,c⟩:=e
 cases a<;>cases b<;>rfl
theorem XT{V:Int->Prop}{ρ:Int->Int}(a:JY V ρ):∀(n:Nat) {e:Eqn},EIn V e->B1 n (FN ρ e)=((B1 n e).1,FN ρ (B1 n e).2)
 |0,_,_=>rfl
 |n+1,e,h=>by
  obtain⟨b,c⟩:=sF a h;rw[B1,B1,vJ,b];simp only;split
  ·rfl
  ·split
   ·exact XT a n c
   ·rfl
theorem RO{V:Int->Prop}{ρ:Int->Int}(a:JY V ρ){e:Eqn}(h:EIn V e):AL (FN ρ e)=((AL e).1,FN ρ (AL e).2):=by
 have:KG (FN ρ e)=KG e:=by unfold KG FN AS;simp only[List.length_map]
 unfold AL;rw[this];exact XT a _ h
def D9(ns:List Int)(v:Int):Int:=(ns.idxOf v:Nat)
theorem R3{V:Int->Prop}{ρ σ:Int->Int}(h:∀v,V v->ρ v=σ v){t:List AB}(b:VIn V t):AS ρ t=AS σ t:=by
 unfold AS;apply List.map_congr_left;intro p c;unfold BX;split
 ·rename_i a;rw[h _ (b p c a)]
 ·rfl
theorem aA6(ns:List Int)(v:Int):ns<+:CY ns v:=by
 unfold CY;split
 ·exact List.prefix_rfl
 ·exact⟨[v],rfl⟩
theorem r6(ns:List Int)(p:AB):ns<+:BU ns p:=by
 unfold BU;split
 ·exact aA6 ns _
 ·exact List.prefix_rfl
theorem W9:∀(t:List AB) (ns:List Int),ns<+: (AQ ns t).2
 |[],_=>List.prefix_rfl
 |p::t,ns=>(r6 ns p).trans (W9 t (BU ns p))
theorem fO:∀(ts:List (List AB)) (ns:List Int),ns<+: (AT ns ts).2
 |[],_=>List.prefix_rfl
 |t::ts,ns=>(W9 t ns).trans (fO ts _)
theorem lF(ns:List Int)(v:Int):v∈CY ns v:=by
 unfold CY;split
 ·assumption
 ·simp
theorem aB6{a b:List Int}(h:a<+:b){v:Int}(c:v∈a):b.idxOf v=a.idxOf v:=by
 obtain⟨m,rfl⟩:=h;rw[List.idxOf_append,bD c]
theorem MD:∀(t:List AB) (ns a:List Int),(AQ ns t).2<+:a->(AQ ns t).1=AS (D9 a) t/\VIn (· ∈a) t
 |[],_,_,_=>⟨rfl,fun p c=>by cases c⟩
 |p::t,ns,a,h=>by
  have f: (AQ (BU ns p) t).2<+:a:=h;obtain⟨i,g⟩:=MD t (BU ns p) a f;have c:BU ns p<+:a:=(W9 t _).trans f
  have j:p.kind=1->p.value∈a:=by
   intro b;have:BU ns p=CY ns p.value:=by unfold BU;rw[bD b]
   rw[this] at c;exact c.subset (lF ns p.value)
  refine⟨?_,?_⟩
  ·show IW ns p::(AQ (BU ns p) t).1=BX (D9 a) p::AS (D9 a) t;rw[i];congr 1;unfold IW BX D9;split
   ·rename_i b;have e:BU ns p=CY ns p.value:=by unfold BU;rw[bD b]
    rw[e] at c;rw[aB6 c (lF ns p.value)]
   ·rfl
  ·intro q d b;rcases bP.1 d with rfl|d
   ·exact j b
   ·exact g q d b
theorem gF:∀(ts:List (List AB)) (ns ms:List Int),(AT ns ts).2<+:ms->(AT ns ts).1=ts.map (AS (D9 ms))/\∀t∈ts,VIn (· ∈ms) t
 |[],_,_,_=>⟨rfl,fun t c=>by cases c⟩
 |t::ts,ns,ms,h=>by
  have b: (AT (AQ ns t).2 ts).2<+:ms:=h;obtain⟨e,d⟩:=gF ts (AQ ns t).2 ms b;obtain⟨f,g⟩:=MD t ns ms ((fO ts _).trans b);refine⟨?_,?_⟩
  ·show(AQ ns t).1::(AT (AQ ns t).2 ts).1=_;rw[f,e];rfl
  ·intro u a;rcases bP.1 a with rfl|a
   ·exact g
   ·exact d u a
def CS(S:St):List Int:=(AT [] (S.aV++S.aS)).2
theorem RW(S:St):CX S=⟨S.aV.map (AS (D9 (CS S))),S.aS.map (AS (D9 (CS S))),(CS S).length⟩/\(∀t∈S.aV,VIn (· ∈CS S) t)/\∀t∈S.aS,VIn (· ∈CS S) t:=by
 obtain⟨e,b⟩:=gF (S.aV++S.aS) [] (CS S) List.prefix_rfl;refine⟨?_,fun t a=>b t (List.mem_append_left _ a),fun t a=>b t (List.mem_append_right _ a)⟩;unfold CX;rw[e,bE];have d: ((S.aV.map (AS (D9 (CS S))))++(S.aS.map (AS (D9 (CS S))))).take S.aV.length=S.aV.map (AS (D9 (CS S))):=List.take_left' aE;have c: ((S.aV.map (AS (D9 (CS S))))++(S.aS.map (AS (D9 (CS S))))).drop S.aV.length=S.aS.map (AS (D9 (CS S))):=List.drop_left' aE;rw[d,c];rfl
def P9(S:St)(v:Int):Int:=if v∈CS S then D9 (CS S) v else v-S.aQ+(CS S).length
def qO(S:St)(v:Int):Prop:=v∈CS S\/S.aQ<=v
theorem aAM{ns:List Int}{a b:Int}(j:a∈ns)(d:b∈ns)(h:D9 ns a=D9 ns b):a=b:=by
 have i:ns.idxOf a=ns.idxOf b:=by unfold D9 at h;omega
 have g:ns.idxOf a<ns.length:=List.idxOf_lt_length_of_mem j;have e:ns.idxOf b<ns.length:=List.idxOf_lt_length_of_mem d;have f:ns[ns.idxOf a]=a:=List.getElem_idxOf g;have c:ns[ns.idxOf b]=b:=List.getElem_idxOf e;rw[<-f,<-c];simp only[i]
theorem aAF{S:St}:JY (qO S) (P9 S):=by
 intro a b i f h;unfold P9 at h;split at h<;>rename_i d<;>split at h<;>rename_i c
 ·exact aAM d c h
 ·have g:=List.idxOf_lt_length_of_mem d;have e:S.aQ<=b:=f.resolve_left c;unfold D9 at h;omega
 ·have g:=List.idxOf_lt_length_of_mem c;have e:S.aQ<=a:=i.resolve_left d;unfold D9 at h;omega
 ·omega
theorem U0{S:St}(g:∀v∈CS S,v<S.aQ)(h:Int){t:List AB}(d:∀p∈t,p.kind=1->0<=p.value):AS (P9 S) (A5 S.aQ h t)=A5 (CS S).length h t/\VIn (qO S) (A5 S.aQ h t):=by
 refine⟨?_,?_⟩
 ·unfold AS A5;rw[List.map_map];apply List.map_congr_left;intro p c;show BX (P9 S) (EH S.aQ h p)=EH _ h p;unfold EH;by_cases a:p.kind=1
  ·rw[bD a,bD a];unfold BX;rw[bD a];have f:=d p c a;have e:¬(p.value+S.aQ)∈CS S:=fun j=>by have:=g _ j;omega
   show AB.mk p.kind p.name (P9 S (p.value+S.aQ)) p.args=_;unfold P9;rw[bC e,show p.value+S.aQ -S.aQ+((CS S).length:Int)=p.value+(CS S).length by omega]
  ·rw[bC a,bC a];split
   ·rename_i k;unfold BX;rw[bC a]
   ·unfold BX;rw[bC a]
 ·intro p c b;obtain⟨q,i,rfl⟩:=bQ.1 c;unfold EH at b⊢;split at b
  ·rename_i a;have f:=d q i a;rw[bD a];exact .inr (by show S.aQ<=q.value+S.aQ;omega)
  ·rename_i a;split at b
   ·exact absurd b a
   ·exact absurd b a
theorem aB5(S:St){t:List AB}(h:VIn (· ∈CS S) t):AS (D9 (CS S)) t=AS (P9 S) t:=R3 (V:=(· ∈CS S)) (fun v a=>by unfold P9;rw[bD a]) h
theorem k6(S:St){ts:List (List AB)}(h:∀t∈ts,VIn (· ∈CS S) t):ts.map (AS (D9 (CS S)))=ts.map (AS (P9 S)):=List.map_congr_left fun t a=>aB5 S (h t a)
def TV(c:Cl):Prop:=(∀p∈c.head,p.kind=1->0<=p.value)/\∀t∈c.body,∀p∈t,p.kind=1->0<=p.value
theorem rW{S:St}(b:∀v∈CS S,v<S.aQ){c:Cl}(d:TV c)(h:Int):BH (CX S) c h=FN (P9 S) (BH S c h)/\EIn (qO S) (BH S c h):=by
 obtain⟨m,e,j⟩:=RW S;have f:∀{t:List AB},VIn (· ∈CS S) t->VIn (qO S) t:=fun a p i k=> .inl (a p i k);refine⟨?_,?_⟩
 ·rw[m];unfold BH FN;simp only;rw[(U0 b h d.1).1,k6 S e,k6 S j];congr 1
  ·cases S.aV<;>rfl
  ·rw[List.map_map];apply List.map_congr_left;intro t a;exact((U0 b h (d.2 t a)).1).symm
  ·rw[List.map_tail]
 ·refine⟨?_,(U0 b h d.1).2,?_,fun t a=>f (e t (List.mem_of_mem_tail a)),fun t a=>f (j t a)⟩
  ·show VIn _ (S.aV.headD [])
   cases n:S.aV with
   |nil=>intro p i;cases i
   |cons g gs=>exact f (e g (by rw[n];simp))
  ·intro t a;obtain⟨u,l,rfl⟩:=bQ.1 a;exact(U0 b h (d.2 u l)).2
theorem xG{S:St}(d:∀v∈CS S,v<S.aQ){c:Cl}(e:TV c)(h:Int): (BD (CX S) c h).1=(BD S c h).1:=by
 obtain⟨f,b⟩:=rW d e h;have a:=RO aAF b;unfold BD;rw[f,a];simp only;split<;>rfl
theorem mT(S:St){c:Cl}(a: (AI c.head).kind≠1):DJ (CX S) c=DJ S c:=by
 have e:AI (CH (CX S))=BX (D9 (CS S)) (AI (CH S)):=by
  rw[(RW S).1];unfold CH AI;simp only
  cases S.aV with
  |nil=>rfl
  |cons g gs=>cases g<;>rfl
 unfold DJ;rw[e,Bool.eq_iff_iff,CE,CE];constructor
 ·intro hx;have: (AI (CH S)).kind≠1:=by rw[hx,E5] at a;exact a
  rw[hx];unfold BX;rw[bC this]
 ·intro hx;rw[hx] at a;rw[hx];unfold BX;rw[bC a]
theorem Y3{S:St}(a:∀v∈CS S,v<S.aQ):∀(i:Nat) (cls:List Cl),(∀c∈cls,TV c/\(AI c.head).kind≠1)->AR (CX S) i cls=AR S i cls
 |_,[],_=>rfl
 |i,c::cs,h=>by
  obtain⟨g,f⟩:=h c aE;have e:FV (CX S) c=FV S c:=by unfold FV;rw[mT S f,xG a g 0]
  rw[AR,AR,e,Y3 a (i+1) cs (fun d b=>h d (bA _ b))]
theorem aCI(ns:List Int)(p:AB):pW (IW ns p) ns.length/\after (IW ns p) ns.length=(BU ns p).length:=by
 unfold pW after IW BU;by_cases b:p.kind=1
 ·simp only[b,if_true,true_and];by_cases a:p.value∈ns
  ·have e:CY ns p.value=ns:=by unfold CY;rw[bD a]
   have:=List.idxOf_lt_length_of_mem a;rw[e];refine⟨fun _=>by omega,?_⟩;rw[bC aD]
  ·have e:CY ns p.value=ns++[p.value]:=by unfold CY;rw[bC a]
   have c: (ns++[p.value]).idxOf p.value=ns.length:=by
    rw[List.idxOf_append,bC a];simp
   rw[e,c];refine⟨fun _=>by omega,?_⟩;rw[bD rfl];simp
 ·simp only[b,if_false,false_and];exact⟨fun h=>absurd h aE,trivial⟩
theorem UX:∀(t:List AB) (ns:List Int),lJ (AQ ns t).1 ns.length/\LU (AQ ns t).1 ns.length=(AQ ns t).2.length
 |[],_=>⟨trivial,rfl⟩
 |p::t,ns=>by
  obtain⟨d,a⟩:=aCI ns p;obtain⟨c,b⟩:=UX t (BU ns p);refine⟨⟨d,?_⟩,?_⟩
  ·rw[a];exact c
  ·show LU (AQ (BU ns p) t).1 (after (IW ns p) ns.length)=_;rw[a];exact b
theorem fX(ρ:Int->Int):∀(t:List AB) (m:Int),Whole t m->Whole (AS ρ t) m
 |[],_,h=>h
 |p::t,m,h=>by
  refine⟨h.1,?_⟩;rw[TF];exact fX ρ t _ h.2
def Bf(p:AB):Prop:=(p.kind=1/\p.name=⟨#[]⟩/\p.args=0)\/(p.kind=2/\p.name=⟨#[]⟩/\p.args=0/\ -999999999<=p.value/\p.value<=999999999)\/(p.kind=3/\p.value=0/\WQ p.name/\0<=p.args/\p.args<=4)
structure FA(t:List AB):Prop where
 parts:∀p∈t,Bf p
 whole:Whole t 1
 len:t.length<=200
def FF:List (List AB)->Nat->Prop
 |[],_=>True
 |g::gs,h=>(∃v:Nat,v<=h/\g=BY v/\FF gs v)\/((AI g).kind=3/\FA g/\FF gs h)
theorem tT{t:List AB}(h:FA t){ns:List Int}(o: (AQ ns t).2.length<=1000000):Gf (AQ ns t).1 ns.length:=by
 obtain⟨m,j⟩:=b9 t ns;refine⟨fun p n=>?_,(UX t ns).1,?_,by rw[m];exact h.len⟩
 ·obtain⟨q,l,e,d,c,i,k⟩:=j p n;rcases h.parts q l with⟨k1,a,b⟩|⟨k1,a,b,f,g⟩|⟨k1,a,b,f,g⟩
  ·have:=k k1;exact .inl ⟨by rw[e];exact k1,by rw[d];exact a,by rw[c];exact b,this.1,aD⟩
  ·have:=i (by rw[k1];decide);exact .inr (.inl ⟨by rw[e];exact k1,by rw[d];exact a,by rw[c];exact b,aD,aD⟩)
  ·have:=i (by rw[k1];decide);exact .inr (.inr ⟨by rw[e];exact k1,by rw[this];exact a,by rw[d];exact b,by rw[c];exact f,by rw[c];exact g⟩)
 ·rw[(MD t ns _ List.prefix_rfl).1];exact fX _ _ _ h.whole
theorem aBo(ρ:Int->Int)(g:List AB):AI (AS ρ g)=BX ρ (AI g):=by cases g<;>rfl
theorem aAp(ns:List Int)(v:Int):AQ ns (BY v)=(BY v,ns):=rfl
theorem N3:∀{ts:List (List AB)} {t:List AB},t∈ts->t.length<=AO ts
 |u::ts,t,h=>by
  have e:AO (u::ts)=u.length+AO ts:=rfl;rcases bP.1 h with rfl|h
  ·omega
  ·have:=N3 h;omega
theorem QI:∀(gs:List (List AB)) (h:Nat) (ns:List Int),FF gs h->(AT ns gs).2.length<=1000000->Q3 (AT ns gs).1 h ns.length/\IZ (AT ns gs).1 ns.length=(AT ns gs).2.length
 |[],_,_,_,_=>⟨trivial,rfl⟩
 |g::gs,h,ns,hg,hn=>by
  have a: (AT (AQ ns g).2 gs).2.length<=1000000:=hn;have f:=RB gs (AQ ns g).2;rcases hg with⟨v,k,rfl,b⟩|⟨l,i,b⟩
  ·rw[aAp] at a;obtain⟨c,d⟩:=QI gs v ns b a;refine⟨.inl ⟨v,k,rfl,c⟩,?_⟩;show IZ (AT ns gs).1 (LU (BY v) ns.length)=_;rw[rQ];exact d
  ·obtain⟨c,d⟩:=QI gs h (AQ ns g).2 b a;have j:=tT i (ns:=ns) aD;have e:=(UX g ns).2;refine⟨.inr ⟨?_,j,?_⟩,?_⟩
   ·show(AI (AQ ns g).1).kind=3;rw[(MD g ns _ List.prefix_rfl).1,aBo,E5];exact l
   ·rw[e];exact c
   ·show IZ (AT (AQ ns g).2 gs).1 (LU (AQ ns g).1 ns.length)=_;rw[e];exact d
theorem V2:∀(ts:List (List AB)) (ns:List Int),(∀t∈ts,FA t)->(AT ns ts).2.length<=1000000->UP (AT ns ts).1 ns.length/\IZ (AT ns ts).1 ns.length=(AT ns ts).2.length
 |[],_,_,_=>⟨trivial,rfl⟩
 |t::ts,ns,h,hn=>by
  have a: (AT (AQ ns t).2 ts).2.length<=1000000:=hn;have c:=RB ts (AQ ns t).2;obtain⟨f,g⟩:=V2 ts (AQ ns t).2 (fun u d=>h u (bA _ d)) a;have e:=tT (h t aE) (ns:=ns) aD;have b:=(UX t ns).2;refine⟨⟨e,?_⟩,?_⟩
  ·rw[b];exact f
  ·show IZ (AT (AQ ns t).2 ts).1 (LU (AQ ns t).1 ns.length)=_;rw[b];exact g
theorem gG:∀(a b:List (List AB)) (ns:List Int),AT ns (a++b)=((AT ns a).1++(AT (AT ns a).2 b).1,(AT (AT ns a).2 b).2)
 |[],_,_=>rfl
 |t::a,b,ns=>by
  show((AQ ns t).1::(AT (AQ ns t).2 (a++b)).1,(AT (AQ ns t).2 (a++b)).2)=_;rw[gG a b (AQ ns t).2];rfl
theorem aAr(S:St): (CX S).aV=(AT [] S.aV).1/\(CX S).aS=(AT (AT [] S.aV).2 S.aS).1/\(CX S).aQ=((AT (AT [] S.aV).2 S.aS).2.length:Nat):=by
 have a:=(K4 S.aV []).1;unfold CX;rw[gG];exact⟨List.take_left' a,List.drop_left' a,rfl⟩
structure ChQ(cls:List Cl)(n h:Nat)(c:Ch):Prop where
 g1:1<=c.st.aV.length
 g2:c.st.aV.length<=1000
 aV:FF c.st.aV h
 tl:c.st.aS.length=n
 aS:∀t∈c.st.aS,FA t
 size:AO c.st.aS<=200
 vars:∀v∈CS c.st,v<c.st.aQ
 left:1<=c.cls.length
 used:c.cls.length<(AR c.st 0 cls).length
 last:c.cls=(AR c.st 0 cls).drop ((AR c.st 0 cls).length-c.cls.length)
theorem xE(S:St):AO (CX S).aS=AO S.aS:=by
 rw[(RW S).1];exact TQ _ _
theorem X1:∀(t:List AB) (ns:List Int),(AQ ns t).2.length<=ns.length+t.length
 |[],_=>by simp[AQ]
 |p::t,ns=>by
  have h:=X1 t (BU ns p)
  have a: (BU ns p).length<=ns.length+1:=by
   unfold BU CY;split
   ·split
    ·omega
    ·simp
   ·omega
  show(AQ (BU ns p) t).2.length<=_;rw[bM];omega
theorem OW:∀(ts:List (List AB)) (ns:List Int),(AT ns ts).2.length<=ns.length+AO ts
 |[],_=>by simp[AT,AO]
 |t::ts,ns=>by
  have h:=OW ts (AQ ns t).2;have a:=X1 t ns;have e:AO (t::ts)=t.length+AO ts:=rfl;show(AT (AQ ns t).2 ts).2.length<=_;omega
theorem QV:∀(gs:List (List AB)) (h:Nat),FF gs h->AO gs<=200*gs.length
 |[],_,_=>by simp[AO]
 |g::gs,h,hg=>by
  have b:AO (g::gs)=g.length+AO gs:=rfl;rw[b,bM];rcases hg with⟨v,_,rfl,a⟩|⟨_,c,a⟩
  ·have:=QV gs _ a;have e: (BY v).length=1:=rfl;omega
  ·have:=QV gs _ a;have:=c.len;omega
theorem aCM{cls:List Cl}{n h:Nat}{c:Ch}(a:ChQ cls n h c)(e:∀c∈cls,TV c/\(AI c.head).kind≠1):ChV cls n h (I1 c):=by
 obtain⟨f,p⟩:=M5 c.st;obtain⟨d,g,k⟩:=aAr c.st;have u:=a.size;have q:=a.g2;have o:=QV _ _ a.aV;have s:=OW c.st.aV [];have m:=OW c.st.aS (AT [] c.st.aV).2;have l: ([]:List Int).length=0:=rfl;obtain⟨i,b⟩:=QI c.st.aV h [] a.aV aD;obtain⟨t,r⟩:=V2 c.st.aS (AT [] c.st.aV).2 a.aS aD;rw[l] at i b;have j:AR (CX c.st) 0 cls=AR c.st 0 cls:=Y3 a.vars 0 cls e;refine⟨?_,?_,?_,?_,?_,?_,?_,a.left,?_,?_⟩
 ·show 1<=(CX c.st).aV.length;rw[f];exact a.g1
 ·show(CX c.st).aV.length<=1000;rw[f];exact a.g2
 ·show Q3 (CX c.st).aV h 0;rw[d];exact i
 ·show(CX c.st).aS.length=n;rw[p];exact a.tl
 ·show UP (CX c.st).aS (IZ (CX c.st).aV 0);rw[d,g,b];exact t
 ·show AO (CX c.st).aS<=200;rw[xE];omega
 ·show(CX c.st).aQ=_;rw[k];show _=((IZ (CX c.st).aS (IZ (CX c.st).aV 0):Nat):Int);rw[d,g,b,r]
 ·show c.cls.length<(AR (CX c.st) 0 cls).length;rw[j];exact a.used
 ·show c.cls=(AR (CX c.st) 0 cls).drop ((AR (CX c.st) 0 cls).length-c.cls.length);rw[j];exact a.last
theorem aBq:∀{t:List AB} {m:Int},Whole t m->0<=m
 |[],m,h=>by have:m=0:=h;omega
 |_::_,m,h=>by have:=h.1;omega
theorem TI:∀{a t:List AB} {k n:Int},Whole a k->Whole t n->Whole (a++t) (k+n)
 |[],t,k,n,ha,ht=>by
  have:k=0:=ha;rw[this,Int.zero_add];exact ht
 |p::a,t,k,n,ha,ht=>by
  have:=aBq ht;have b:=ha.1;refine⟨aD,?_⟩;have e:k+n+p.args -1=(k+p.args -1)+n:=aD;rw[e];exact TI ha.2 ht
theorem O3{v:Int}{x:List AB}(hx:Whole x 1):∀{t:List AB} {m:Int},(∀p∈t,p.kind=1->p.args=0)->Whole t m->Whole (AP v x t) m
 |[],_,_,h=>h
 |p::t,m,hp,h=>by
  have b:=O3 (v:=v) hx (fun q d=>hp q (bA _ d)) h.2;rw[AP];split
  ·rename_i a
   have c:p.kind=1:=by
    unfold isV at a;rw[Bool.and_eq_true] at a;simpa using a.1
   have f:=hp p aE c;have:=TI hx b;have e:1+(m+p.args -1)=m:=aD;rw[e] at this;exact this
  ·exact⟨h.1,b⟩
theorem LJ:∀{t:List AB} {j m:Int},(∀p∈t,0<=p.args)->0<j->j<=m->Whole t m->Whole (t.take (H6 j t)) j/\Whole (t.drop (H6 j t)) (m-j)
 |[],j,m,_,h1,h2,h=>by have:m=0:=h;omega
 |p::t,j,m,hp,h1,h2,h=>by
  have g:=hp p aE;rw[H6];split
  ·rename_i a;rw[List.take_succ_cons,List.take_zero,List.drop_succ_cons,List.drop_zero];refine⟨⟨h1,?_⟩,?_⟩
   ·show j+p.args -1=0;omega
   ·have e:m-j=m+p.args -1:=aD;rw[e];exact h.2
  ·rename_i a;have c:j+(p.args -1)=j+p.args -1:=aD;rw[c] at a⊢;obtain⟨d,f⟩:=LJ (j:=j+p.args -1) (m:=m+p.args -1) (fun q b=>hp q (bA _ b)) aD aD h.2;rw[List.take_succ_cons,List.drop_succ_cons];refine⟨⟨h1,d⟩,?_⟩;have e:m-j=m+p.args -1-(j+p.args -1):=aD;rw[e];exact f
theorem Bf.args{p:AB}(h:Bf p):0<=p.args:=by
 rcases h with h|h|h
 ·rw[h.2.2];decide
 ·rw[h.2.2.1];decide
 ·exact h.2.2.2.1
theorem Bf.var{p:AB}(h:Bf p)(a:p.kind=1):p.args=0:=by
 rcases h with h|h|h
 ·exact h.2.2
 ·exact h.2.2.1
 ·rw[h.1] at a;simp at a
def PsQ(t:List AB):Prop:=∀p∈t,Bf p
theorem dH{v:Int}{x t:List AB}(hx:PsQ x)(b:PsQ t):PsQ (AP v x t):=by
 intro p c;rcases JK c with⟨a,_⟩|a
 ·exact b p a
 ·exact hx p a
theorem TA{v:Int}{x t:List AB}(hx:PsQ x)(d:Whole x 1)(a:FA t)(b: (AP v x t).length<=200):FA (AP v x t):=
 ⟨dH hx a.parts,O3 d (fun p e c=>(a.parts p e).var c) a.whole,b⟩
theorem oE(v:Int)(x:List AB)(h:Int):AP v x (BY h)=BY h:=rfl
theorem oF{v:Int}{x g:List AB}(h: (AI g).kind=3): (AI (AP v x g)).kind=3:=by
 cases g with
 |nil=>exact h
 |cons p g=>
  have a:p.kind=3:=h;have:¬isV v p=true:=by unfold isV;rw[a];simp
  rw[AP,bC this];exact a
theorem SG{v:Int}{x:List AB}(hx:PsQ x)(c:Whole x 1):∀{gs:List (List AB)} {h:Nat},FF gs h->(∀t∈gs.map (AP v x),t.length<=200)->FF (gs.map (AP v x)) h
 |[],_,_,_=>trivial
 |g::gs,h,hg,hl=>by
  rw[List.map_cons] at hl⊢;rcases hg with⟨w,d,rfl,b⟩|⟨e,a,b⟩
  ·exact .inl ⟨w,d,oE _ _ _,SG hx c b (fun t a=>hl t (bA _ a))⟩
  ·exact .inr ⟨oF e,TA hx c a (hl _ aE),SG hx c b (fun t a=>hl t (bA _ a))⟩
def Q1(h:Nat)(gs:List (List AB)):Prop:=∀g∈gs,g=BY h\/((AI g).kind=3/\FA g)
theorem p8{v:Int}{x:List AB}(hx:PsQ x)(j:Whole x 1){gs:List (List AB)}{h:Nat}(k:Q1 h gs)(c:∀t∈gs.map (AP v x),t.length<=200):Q1 h (gs.map (AP v x)):=by
 intro g a;have b:=c g a;obtain⟨u,d,rfl⟩:=bQ.1 a;rcases k u d with e|⟨i,f⟩
 ·rw[e];exact .inl (oE _ _ _)
 ·exact .inr ⟨oF i,TA hx j f b⟩
structure EqQ(hb hh:Nat)(e:Eqn):Prop where
 f:PsQ e.f
 s:PsQ e.s
 w:∃k:Int,Whole e.f k/\Whole e.s k
 body:Q1 hb e.body
 behind:FF e.behind hh
 aS:∀t∈e.aS,FA t
 size:AO e.aS<=200
theorem xZ{g f:Nat}{e:Eqn}{v:Int}{x:List AB}(h:EqQ g f e)(hx:PsQ x)(b:Whole x 1)(i: (A6 e v x).1=0):EqQ g f (A6 e v x).2:=by
 obtain⟨_,j,o⟩:=QW i;rw[j];have r: (e.put v x).size=(AP v x e.f).length+(AP v x e.s).length+AO (e.body.map (AP v x))+AO (e.behind.map (AP v x))+AO (e.aS.map (AP v x)):=rfl;obtain⟨k,n,m⟩:=h.w;refine⟨dH hx h.f,dH hx h.s,⟨k,O3 b (fun p d c=>(h.f p d).var c) n,O3 b (fun p d c=>(h.s p d).var c) m⟩,?_,?_,?_,?_⟩
 ·exact p8 hx b h.body (fun t a=>by have:=N3 a;omega)
 ·exact SG hx b h.behind (fun t a=>by have:=N3 a;omega)
 ·intro t (a:t∈e.aS.map (AP v x));have q:=N3 a;obtain⟨u,l,rfl⟩:=bQ.1 a;exact TA hx b (h.aS u l) aD
 ·show AO (e.aS.map (AP v x))<=200;omega
theorem W5{t:List AB}(h:PsQ t)(n:Nat):PsQ (t.take n):=fun p a=>h p (List.mem_of_mem_take a)
theorem WS{t:List AB}(h:PsQ t)(n:Nat):PsQ (t.drop n):=fun p a=>h p (bV a)
theorem aCm{C B:Nat}{e:Eqn}(h:EqQ C B e)(l: (BG e).1=0):EqQ C B (BG e).2:=by
 obtain⟨F,D,J,H,I⟩:=e;obtain⟨n,i,⟨k,o,r⟩,b,c,g,d⟩:=h;simp only at n i o r b c g d
 cases F with
 |nil=>exact⟨n,i,⟨k,o,r⟩,b,c,g,d⟩
 |cons p f=>
  cases D with
  |nil=>exact⟨n,i,⟨k,o,r⟩,b,c,g,d⟩
  |cons q s=>
   have w:PsQ f:=fun x hx=>n x (bA _ hx);have v:PsQ s:=fun x hx=>i x (bA _ hx);have G:=o.1;unfold BG at l⊢;simp only at l⊢;split at l
   ·rename_i a;rw[bD a];have e:p=q:=CE.1 a;subst e;exact⟨w,v,⟨_,o.2,r.2⟩,b,c,g,d⟩
   ·rename_i a;rw[bC a];split at l
    ·rename_i A;rw[bD A];have z:=LJ (t:=q::s) (j:=1) (m:=k) (fun x hx=>(i x hx).args) aD aD r;have E:=(n p aE).var A;have e:k+p.args -1=k-1:=aD;have u:=o.2;rw[e] at u;exact xZ ⟨w,WS i _,⟨k-1,u,z.2⟩,b,c,g,d⟩ (W5 i _) z.1 l
    ·rename_i A;rw[bC A];split at l
     ·rename_i y;rw[bD y];have z:=LJ (t:=p::f) (j:=1) (m:=k) (fun x hx=>(n x hx).args) aD aD o;have E:=(i q aE).var y;have e:k+q.args -1=k-1:=aD;have u:=r.2;rw[e] at u;exact xZ ⟨WS n _,v,⟨k-1,z.2,u⟩,b,c,g,d⟩ (W5 n _) z.1 l
     ·simp at l
theorem lC{c d:Nat}:∀(n:Nat) {e:Eqn},EqQ c d e->(B1 n e).1=0->EqQ c d (B1 n e).2
 |0,_,h,_=>h
 |n+1,e,h,h0=>by
  rw[B1] at h0⊢;split at h0
  ·rename_i b;rw[bD b];exact h
  ·rename_i b;rw[bC b];split at h0
   ·rename_i a;rw[bD a];exact lC n (aCm h a) h0
   ·rename_i a;exact absurd h0 a
theorem iO{a b:Nat}{e:Eqn}(h:EqQ a b e)(c: (AL e).1=0):EqQ a b (AL e).2:=lC _ h c
theorem QP:∀{gs:List (List AB)} {h h':Nat},FF gs h->h<=h'->FF gs h'
 |[],_,_,_,_=>trivial
 |g::gs,h,h',hg,hl=>by
  rcases hg with⟨v,d,e,a⟩|⟨b,c,a⟩
  ·exact .inl ⟨v,aD,e,a⟩
  ·exact .inr ⟨b,c,QP a hl⟩
theorem RT:∀{a b:List (List AB)} {h h':Nat},Q1 h a->FF b h->h<=h'->FF (a++b) h'
 |[],b,h,h',_,hb,hl=>QP hb hl
 |g::a,b,h,h',ha,hb,hl=>by
  have c:Q1 h a:=fun x hx=>ha x (bA _ hx);rcases ha g aE with e|⟨d,f⟩
  ·exact .inl ⟨h,hl,e,RT c hb (aX _)⟩
  ·exact .inr ⟨d,f,RT c hb hl⟩
structure ClQ(c:Cl):Prop where
 top: (AI c.head).kind=3
 parts:PsQ c.head
 whole:Whole c.head 1
 body:∀g∈c.body,(∃v,g=BY v)\/((AI g).kind=3/\FA g)
structure StQ(h:Nat)(S:St):Prop where
 aV:FF S.aV h
 aS:∀t∈S.aS,FA t
 size:AO S.aS<=200
def k8(cs:List Cl)(c:Ch):Prop:=c.cls≠[]->c.cls.length<(AR c.st 0 cs).length/\c.cls=(AR c.st 0 cs).drop ((AR c.st 0 cs).length-c.cls.length)
def OU(cs:List Cl):List Ch->Prop
 |[]=>True
 |c::low=>(StQ low.length c.st/\k8 cs c)/\OU cs low
structure PlQ(cs:List Cl)(r:Int×Cf):Prop where
 chs:OU cs r.2.chs
 now:r.1=0->StQ r.2.chs.length r.2.now
theorem aCW{off h:Int}{p:AB}(a:Bf p):Bf (EH off h p):=by
 unfold EH;rcases a with a|a|a
 ·rw[bD a.1];exact .inl ⟨a.1,a.2.1,a.2.2⟩
 ·rw[bC (by rw[a.1];decide),bC (by rw[a.1];decide)];exact .inr (.inl a)
 ·rw[bC (by rw[a.1];decide),bC (by rw[a.1];decide)];exact .inr (.inr a)
theorem yA(off h:Int)(p:AB): (EH off h p).args=p.args:=by unfold EH;split<;>(try split)<;>rfl
theorem sU(off h:Int)(p:AB): (EH off h p).kind=p.kind:=by unfold EH;split<;>(try split)<;>rfl
theorem wT{off h:Int}{t:List AB}(b:PsQ t):PsQ (A5 off h t):=by
 intro p a;obtain⟨q,c,rfl⟩:=bQ.1 a;exact aCW (b q c)
theorem RU{off h:Int}:∀{t:List AB} {m:Int},Whole t m->Whole (A5 off h t) m
 |[],_,hw=>hw
 |p::t,m,hw=>by
  refine⟨hw.1,?_⟩;rw[yA];exact RU hw.2
theorem y8(off h:Int)(t:List AB)(a: (AI t).kind=3): (AI (A5 off h t)).kind=3:=by
 cases t with
 |nil=>exact a
 |cons p t=>show(EH off h p).kind=3;rw[sU];exact a
theorem aDs{off h:Int}{t:List AB}(a:FA t):FA (A5 off h t):=⟨wT a.parts,RU a.whole,by unfold A5;rw[aZ];exact a.len⟩
theorem xP{c:Cl}(d:ClQ c)(off:Int)(h:Nat):Q1 h (c.body.map (A5 off h)):=by
 intro g f;obtain⟨u,b,rfl⟩:=bQ.1 f;rcases d.body u b with⟨v,rfl⟩|⟨e,a⟩
 ·exact .inl rfl
 ·exact .inr ⟨y8 _ _ _ e,aDs a⟩
theorem MJ{gs:List (List AB)}{h:Nat}(b:FF gs h):FF gs.tail h:=by
 cases gs with
 |nil=>exact b
 |cons g gs=>
  rcases b with⟨v,c,_,a⟩|⟨_,_,a⟩
  ·exact QP a c
  ·exact a
theorem R9{S:St}:∀{i:Nat} {cs:List Cl} {k:Nat},k∈AR S i cs->∃c∈cs,cs.getD (k-i) EM=c/\i<=k/\DJ S c=true
 |i,[],k,h=>by simp[AR] at h
 |i,c::cs,k,h=>by
  rw[AR] at h;rcases bO.1 h with h|h
  ·split at h
   ·rename_i a;simp at h;subst h;unfold FV at a;rw[Bool.and_eq_true] at a;exact⟨c,aE,by rw[Nat.sub_self];rfl,aX _,a.1⟩
   ·cases h
  ·obtain⟨d,g,f,j,b⟩:=R9 h;refine⟨d,bA _ g,?_,aD,b⟩;have e:k-i=(k-(i+1))+1:=aD;rw[e];exact f
theorem aB3{S:St}{h:Nat}(i:StQ h S){c:Cl}(j:ClQ c)(k:DJ S c=true):FA (S.aV.headD [])/\(AI (S.aV.headD [])).kind=3:=by
 have e:AI c.head=AI (CH S):=CE.1 k;have a: (AI (CH S)).kind=3:=by rw[<-e];exact j.top
 unfold CH at a;refine⟨?_,a⟩;have d:=i.aV
 cases b:S.aV with
 |nil=>rw[b] at a;exact absurd a (by show¬(0:Int)=3;decide)
 |cons g gs=>
  rw[b] at a d;rcases d with⟨v,_,rfl,_⟩|⟨_,f,_⟩
  ·exact absurd a (by show¬(4:Int)=3;decide)
  ·exact f
theorem aDp{S:St}{h:Nat}(b:StQ h S){c:Cl}(d:ClQ c)(l:DJ S c=true)(f: (BD S c h).1=0){i:Nat}(k:h<=i):StQ i (BD S c h).2:=by
 obtain⟨g,_⟩:=aB3 b d l;have j:EqQ h h (BH S c h):=⟨g.parts,wT d.parts,⟨1,g.whole,RU d.whole⟩,xP d _ _,MJ b.aV,b.aS,b.size⟩
 unfold BD at f⊢;split at f
 ·rename_i e;rw[bD e];have a:=iO j e;exact⟨RT a.body a.behind k,a.aS,a.size⟩
 ·rename_i e;exact absurd f e
theorem aCu{cs:List Cl}{a:List Ch}{s:St}{rest:List Nat}(b:OU cs a)(d:StQ a.length s)(c:k8 cs ⟨s,rest⟩):OU cs (CA a s rest)/\a.length<=(CA a s rest).length:=by
 unfold CA;split
 ·exact⟨b,aX _⟩
 ·exact⟨⟨⟨d,c⟩,b⟩,aE⟩
theorem aBE{cs:List Cl}{a:List Ch}{now s:St}{rest:List Nat}{c:Cl}(e:OU cs a)(d:StQ a.length s)(i:k8 cs ⟨s,rest⟩)(h:ClQ c)(j:DJ s c=true):PlQ cs (FZ ⟨now,CA a s rest⟩ s c a.length):=by
 obtain⟨g,f⟩:=aCu e d i;refine⟨by rw[MA];exact g,fun b=>?_⟩;rw[MA];unfold FZ at b⊢;simp only at b⊢;rw[bD b];exact aDp d h j b f
theorem fZ{cs:List Cl}{s:St}{k:Nat}{rest:List Nat}(h:k::rest=(AR s 0 cs).drop ((AR s 0 cs).length-(rest.length+1)))(b:rest.length+1<=(AR s 0 cs).length):k8 cs ⟨s,rest⟩:=by
 intro _;show rest.length<(AR s 0 cs).length/\rest=(AR s 0 cs).drop ((AR s 0 cs).length-rest.length);refine⟨aD,?_⟩;have e:rest=((AR s 0 cs).drop ((AR s 0 cs).length-(rest.length+1))).tail:=by rw[<-h];rfl
 rw[List.tail_drop] at e;have a: (AR s 0 cs).length-(rest.length+1)+1=(AR s 0 cs).length-rest.length:=aD;rw[a] at e;exact e
theorem jZ{k:Nat}{rest l:List Nat}{n:Nat}(h:k::rest=l.drop n):k∈l:=bV (i:=n) (by rw[<-h];simp)
theorem dL{cs:List Cl}(f:∀c∈cs,ClQ c){cf:Cf}(h:PlQ cs (-1,cf)):PlQ cs (B6 cs cf):=by
 have a:=h.chs;simp only at a;unfold B6
 cases n:cf.chs with
 |nil=>exact⟨a,fun e=>by simp at e⟩
 |cons c o=>
  rw[n] at a;obtain⟨⟨m,q⟩,l⟩:=a;simp only;unfold KP;split
  ·exact⟨l,fun _=>m⟩
  ·rename_i k rest g;have j:=q (by rw[g];simp);rw[g] at j;obtain⟨r,b⟩:=j;rw[bM] at r b;obtain⟨d,p,i,_,s⟩:=R9 (jZ b);rw[Nat.sub_zero] at i;rw[i];exact aBE l m (fZ b aD) (f d p) s
theorem aAb{cs:List Cl}(b:∀c∈cs,ClQ c){cf:Cf}(h:PlQ cs (0,cf)):PlQ cs (EA cs cf (AR cf.now 0 cs)):=by
 have j:=h.now rfl
 cases a:AR cf.now 0 cs with
 |nil=>exact⟨h.chs,fun e=>by simp[EA] at e⟩
 |cons k rest=>
  show PlQ cs (if rest≠[]/\20<=cf.chs.length then(6,cf) else FZ ⟨cf.now,CA cf.chs cf.now rest⟩ cf.now (cs.getD k EM) cf.chs.length);split
  ·exact⟨h.chs,fun e=>by simp at e⟩
  ·obtain⟨d,g,f,_,l⟩:=R9 (S:=cf.now) (i:=0) (cs:=cs) (k:=k) (by rw[a];simp);rw[Nat.sub_zero] at f;rw[f];exact aBE h.chs j (fZ (k:=k) (by rw[a,bM,Nat.sub_self,List.drop_zero]) (by rw[a];simp)) (b d g) l
theorem wF:∀{i:Nat} {r:List AB} {m:Int},PsQ r->Whole r m->(i:Int)<m->PsQ (F2 i r)/\Whole (F2 i r) 1/\(F2 i r).length<=r.length
 |0,r,m,hp,hw,hm=>by
  have a:=LJ (t:=r) (j:=1) (m:=m) (fun x hx=>(hp x hx).args) aD aD hw;exact⟨W5 hp _,a.1,by show(r.take (CN r)).length<=_;rw[bW];omega⟩
 |i+1,r,m,hp,hw,hm=>by
  have a:=LJ (t:=r) (j:=1) (m:=m) (fun x hx=>(hp x hx).args) aD aD hw;obtain⟨d,c,b⟩:=wF (i:=i) (WS hp (CN r)) a.2 aD;refine⟨d,c,?_⟩;rw[List.length_drop] at b;show(F2 i (r.drop (CN r))).length<=_;omega
theorem ZK{g:List AB}(b:FA g){i:Nat}(d: (i:Int)<(AI g).args):FA (AX g i):=by
 cases g with
 |nil=>exact absurd d (by show¬(i:Int)<0;omega)
 |cons p r=>
  have a: (i:Int)<p.args:=d;have c:=b.whole.2;have e: (1:Int)+p.args -1=p.args:=aD;rw[e] at c;have f:=b.len;rw[bM] at f;obtain⟨k,j,l⟩:=wF (i:=i) (fun x hx=>b.parts x (bA _ hx)) c a;have h:AX (p::r) i=F2 i r:=by unfold AX;rw[bC aE];rfl
  rw[h];exact⟨k,j,aD⟩
theorem fL{cs:List Cl}:∀(n:Nat) {l:List Ch},OU cs l->OU cs (l.drop n)
 |0,_,h=>h
 |_+1,[],h=>h
 |n+1,_::_,h=>fL n h.2
theorem aC8{v:Int}(c: -999999999<=v)(b:v<=999999999):FA (G7 v):=by
 refine⟨fun p a=>?_,?_,by show 1<=200;omega⟩
 ·unfold G7 at a;simp at a;subst a;exact .inr (.inl ⟨rfl,rfl,rfl,c,b⟩)
 ·exact⟨aF,by show(1:Int)+0-1=0;decide⟩
theorem aCd:WQ q9:=⟨102,[97,105,108],rfl,aF,aF,aF⟩
theorem aCU:FA D6:=by
 refine⟨fun p a=>?_,?_,by show 1<=200;omega⟩
 ·unfold D6 at a;simp at a;subst a;exact .inr (.inr ⟨rfl,rfl,aCd,aF,aF⟩)
 ·exact⟨aF,by show(1:Int)+0-1=0;decide⟩
theorem vY{cs:List Cl}{cf:Cf}(h:PlQ cs (0,cf)):PlQ cs (E9 cf):=⟨h.chs,fun _=>⟨MJ (h.now rfl).aV,(h.now rfl).aS,(h.now rfl).size⟩⟩
theorem M6{cs:List Cl}{cf:Cf}(h:PlQ cs (0,cf)){k:Int}:PlQ cs (k,cf):=⟨h.chs,fun _=>h.now rfl⟩
theorem oY{cs:List Cl}{cf:Cf}(h:PlQ cs (0,cf)){a b:List AB}(i:FA a)(f:FA b):PlQ cs (BJ cf a b):=by
 have d:=h.now rfl;have k:EqQ 0 cf.chs.length (BT cf a b):=⟨i.parts,f.parts,⟨1,i.whole,f.whole⟩,(fun g j=>by cases j),MJ d.aV,d.aS,d.size⟩
 refine⟨by rw[NC];exact h.chs,fun c=>?_⟩;rw[NC];unfold BJ at c⊢;simp only at c⊢;rw[bD c];have e:=iO k c;exact⟨e.behind,e.aS,e.size⟩
theorem aDC{cs:List Cl}{cf:Cf}(h:PlQ cs (0,cf)){t:List AB}(c:FA t):PlQ cs (D2 cf t):=by
 have a:=h.now rfl;unfold D2;split
 ·rename_i b;split
  ·exact M6 h
  ·refine⟨⟨⟨⟨MJ a.aV,a.aS,a.size⟩,fun e=>absurd rfl e⟩,h.chs⟩,fun _=>⟨?_,a.aS,a.size⟩⟩
   have d: (AI t).kind=3:=by
    unfold JS at b;split at b
    ·simp at b
    ·rename_i g;split at b
     ·simp at b
     ·rename_i f
      cases t with
      |nil=>exact absurd c.whole (by show¬(1:Int)=0;decide)
      |cons p r=>
       rcases c.parts p aE with k|k|k
       ·exact absurd k.1 g
       ·exact absurd k.1 f
       ·exact k.1
   exact .inr ⟨d,c,.inl ⟨cf.chs.length,aE,rfl,.inr ⟨rfl,aCU,trivial⟩⟩⟩
 ·exact M6 h
theorem pF{s:ByteArray}{n:Int}(h:B3 s n=true): (s=eqB->n=2)/\(s=SW->n=2)/\(s=KS->n=3)/\(s=WH->n=1):=by
 unfold B3 at h;refine⟨?_,?_,?_,?_⟩<;>
 ·intro e;subst e;simp[eqB,SW,KS,WH] at h;omega
theorem aDA{cs:List Cl}{cf:Cf}(h:PlQ cs (0,cf)){v:Nat}{gs:List (List AB)}(e:v<=cf.chs.length)(a:cf.now.aV=BY v::gs)(d:FF gs v):PlQ cs (E9 ⟨cf.now,FJ cf.chs v⟩):=by
 have b:=h.now rfl;have c: (FJ cf.chs v).length=v:=by unfold FJ;rw[List.length_drop];omega
 refine⟨fL _ h.chs,fun _=>⟨?_,b.aS,b.size⟩⟩;show FF cf.now.aV.tail (FJ cf.chs v).length;rw[a,c];exact d
theorem aBN{cs:List Cl}{cf:Cf}(h:PlQ cs (0,cf))(f:cf.now.aV≠[])(c:C6 (CH cf.now)=true):PlQ cs (B7 cf (CH cf.now)):=by
 have k:=h.now rfl;have d:=k.aV
 cases a:cf.now.aV with
 |nil=>exact absurd a f
 |cons g gs=>
  have r:CH cf.now=g:=by unfold CH;rw[a];rfl
  rw[r] at c⊢;simp only at d;rw[a] at d;rcases d with⟨v,n,rfl,j⟩|⟨i,b,j⟩
  ·unfold B7;rw[bD (show(AI (BY v)).kind=4 from rfl)];exact aDA h n a j
  ·have q:¬(AI g).kind=4:=by rw[i];decide
   have o:B3 (AI g).name (AI g).args=true:=by
    unfold C6 at c;rw[i] at c;simpa using c
   obtain⟨s,t,l,p⟩:=pF o;unfold B7;rw[bC q];split
   ·exact vY h
   ·split
    ·rename_i e;have:=s e;exact oY h (ZK b aD) (ZK b aD)
    ·split
     ·unfold EP;split
      ·split
       ·exact vY h
       ·exact M6 h
      ·exact M6 h
     ·split
      ·rename_i e;have:=l e;unfold EC;split
       ·split
        ·exact M6 h
        ·rename_i m;exact oY h (aC8 aD aD) (ZK b aD)
       ·exact M6 h
      ·split
       ·rename_i e;have:=p e;exact aDC h (ZK b aD)
       ·exact M6 h
theorem yK{cs:List Cl}(a:∀c∈cs,ClQ c){cf:Cf}(h:PlQ cs (0,cf))(b:cf.now.aV≠[]):PlQ cs (DF cs cf):=by
 unfold DF;split
 ·rename_i d;exact aBN h b d
 ·split
  ·exact aAb a h
  ·exact M6 h
theorem RI:∀{qs:List (List AB)},(∀q∈qs,Whole q 1)->Whole qs.flatten qs.length
 |[],_=>rfl
 |q::qs,h=>by
  rw[List.flatten_cons,bM];have:=TI (h q aE) (RI (fun x hx=>h x (bA _ hx)));have e: (1:Int)+(qs.length:Nat)=((qs.length+1:Nat):Int):=aD;rw[e] at this;exact this
theorem V5:∀{d:Nat} {t:List AB},Wf d t->Whole t 1
 |0,_,h=>h.elim
 |d+1,t,h=>by
  rcases h with⟨p,rfl,c⟩|⟨s,qs,f,b,rfl⟩
  ·exact⟨aF,by show(1:Int)+p.args -1=0;omega⟩
  ·refine⟨aF,?_⟩;have:=RI (fun q a=>V5 (b q a));have e: (1:Int)+(qs.length:Nat)-1=qs.length:=aD;show Whole qs.flatten ((1:Int)+(qs.length:Nat)-1);rw[e];exact this
theorem yt.q{n:Nat}{p:AB}(h:yt n p):Bf p:=by
 rcases h with h|h|h
 ·exact .inl ⟨h.1,h.2.1,h.2.2.1⟩
 ·exact .inr (.inl h)
 ·exact .inr (.inr h)
theorem nV{n:Nat}{g:List AB}(h:zq n g)(b:g.length<=200):g=BY 0\/((AI g).kind=3/\FA g):=by
 rcases h with h|⟨d,c,a⟩
 ·exact .inl h
 ·refine .inr ⟨?_,⟨fun p e=>(c p e).q,V5 d,b⟩⟩
  cases g with
  |nil=>simp at a
  |cons p g=>
   show p.kind=3;simpa using a
theorem YV:∀(a b:List (List AB)),AO (a++b)=AO a+AO b
 |[],b=>by simp[AO]
 |t::a,b=>by
  show t.length+AO (a++b)=t.length+AO a+AO b;rw[YV a b];omega
theorem V4{n:Nat}:∀{gs:List (List AB)},(∀g∈gs,zq n g)->AO gs<=200->FF gs 0
 |[],_,_=>trivial
 |g::gs,h,hs=>by
  have e:AO (g::gs)=g.length+AO gs:=rfl;have b:=V4 (gs:=gs) (fun x hx=>h x (bA _ hx)) aD;rcases nV (h g aE) aD with a|a
  ·exact .inl ⟨0,aX _,a,b⟩
  ·exact .inr ⟨a.1,a.2,b⟩
theorem aDk(i:Int):FA (KK i):=by
 refine⟨fun p a=>?_,?_,by show 1<=200;omega⟩
 ·unfold KK at a;simp at a;subst a;exact .inl ⟨rfl,rfl,rfl⟩
 ·exact⟨aF,by show(1:Int)+0-1=0;decide⟩
theorem ZV{cs:List Cl}{gs:List (List AB)}{ns:List ByteArray}(c:QuR gs ns)(e:¬200<KH (BK gs ns).now):PlQ cs (0,BK gs ns):=by
 have d:AO (gs++CW ns)<=200:=by
  have:KH (BK gs ns).now=AO (gs++CW ns):=rfl;omega
 rw[YV] at d;refine⟨trivial,fun _=>⟨V4 (gs:=gs) c.g aD,fun t b=>?_,by show AO (CW ns)<=200;omega⟩⟩;have a:t∈CW ns:=b;unfold CW at a;obtain⟨x,_,rfl⟩:=bQ.1 a;exact aDk _
theorem aCR{cs:List Cl}(a:∀c∈cs,ClQ c)(n:Nat){r:Int×Cf}(h:PlQ cs r):OU cs (CG cs n r).2.chs:=by
 obtain⟨_,o,_,d,_⟩:=ND (P:=fun _=>PlQ cs) (fun _ _ h=>dL a h) (fun _ _ h b=>yK a h b) n 0 r h;exact d.chs
end Rf
