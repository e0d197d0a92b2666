import Derived.Test.YthenokfmcjmfkaaGreatDoorYaa
namespace Rf
def BZ(f:Nat):Nat->List (List AB)->List Tok->List ByteArray->Except (Int×Nat) (List (List AB)×List Tok×List ByteArray)
 |0,_,_,_=> .error (2,0)
 |k+1,acc,l,ns=>match BS f l ns with
  | .error e=> .error e
  | .ok (p,l1,ns1)=>match l1 with
   |[]=> .error (2,0)
   |u::l2=>if u.k=44 then(if acc.length+1=8 then .error (3,u.at_) else BZ f k (acc++[p]) l2 ns1) else .ok (acc++[p],u::l2,ns1)
def X2(a:Except (Int×Nat) (List (List AB)×List Tok×List ByteArray)):Except (Int×Nat) (List (List AB)×List Tok×List ByteArray):=
 match a with
 | .ok (gs,u::l2,ns)=>if u.k=63 then .error (BR u 2) else .ok (gs,u::l2,ns)
 |x=>x
theorem SB(f:Nat):∀(k:Nat) (acc:List (List AB)) (l:List Tok) (ns:List ByteArray),BN f k acc l ns=X2 (BZ f k acc l ns)
 |0,_,_,_=>rfl
 |k+1,acc,l,ns=>by
  rw[BN,BZ]
  cases BS f l ns with
  |error e=>rfl
  |ok x=>
   obtain⟨p,b,a⟩:=x
   cases b with
   |nil=>rfl
   |cons u c=>
    simp only[];by_cases h:u.k=44
    ·rw[bD h,bD h];split
     ·rfl
     ·exact SB f k _ c a
    ·rw[bC h,bC h];rfl
theorem NW(f:Nat):∀(k:Nat) (acc:List (List AB)) (l:List Tok) (ns:List ByteArray) (a1:List (List AB)) (l2:List Tok) (ns2:List ByteArray),BZ f k acc l ns= .ok (a1,l2,ns2)->∃y b,l2=y::b
 |0,_,_,_,_,_,_,e=>by simp[BZ] at e
 |k+1,acc,l,ns,a1,l2,ns2,e=>by
  rw[BZ] at e
  cases c:BS f l ns with
  |error x=>rw[c] at e;cases e
  |ok x=>
   obtain⟨p,d,a⟩:=x;rw[c] at e
   cases d with
   |nil=>cases e
   |cons u b=>
    simp only at e;split at e
    ·split at e
     ·cases e
     ·exact NW f k _ b a a1 l2 ns2 e
    ·simp only[cX,cY] at e;obtain⟨_,rfl,_⟩:=e;exact⟨_,_,rfl⟩
def GL(f:Nat)(l:List Tok):Except (Int×Nat) (List (List AB)×List ByteArray):=
 match BZ f 8 [] l [] with
 | .error e=> .error e
 | .ok (gs,l1,ns)=>match l1 with
  |[]=> .error (2,0)
  | u :: l2 => if u.k = 46 then (match l2 with
    |[]=> .error (2,0)
    |y::_=>if y.k=0 then .ok (gs,ns) else .error (BR y 2))
   else .error (BR u 2)
theorem MR(f:Nat):∀(k:Nat) (acc:List (List AB)) (l:List Tok) (ns:List ByteArray) (a1:List (List AB)) (l2:List Tok) (ns2:List ByteArray),iq l->ns.length<=16->(∀q∈acc,(∀x∈q,Good x)/\q.length<=400)->l.length<=401->BZ f k acc l ns= .ok (a1,l2,ns2)->(∀q∈a1,(∀x∈q,Good x)/\q.length<=400)/\ns2.length<=16/\iq l2
 |0,_,_,_,_,_,_,_,_,_,_,e=>by simp[BZ] at e
 |k+1,acc,l,ns,a1,l2,ns2,hl,hn,hacc,h401,e=>by
  rw[BZ] at e
  cases d:BS f l ns with
  |error x=>rw[d] at e;cases e
  |ok x=>
   obtain⟨p,g,c⟩:=x;obtain⟨n,i,j,h⟩:=R6 f l ns p g c hl hn d;rw[d] at e
   cases g with
   |nil=>cases e
   |cons u m=>
    simp only at e;simp only[bM] at j
    have a:∀q∈acc++[p],(∀x∈q,Good x)/\q.length<=400:=fun q b=>by
     rcases bO.1 b with b|b
     ·exact hacc q b
     ·simp at b;subst b;exact⟨n,aD⟩
    split at e
    ·split at e
     ·cases e
     ·exact MR f k _ m c a1 l2 ns2 (h.tail aD aD) i a aD e
    ·simp only[cX,cY] at e;obtain⟨rfl,rfl,rfl⟩:=e;exact⟨a,i,h⟩
def BM(s:ByteArray):Except (Int×Nat) (List (List AB)×List ByteArray):=
 if 400<s.size then .error (1,0) else GL (AU s).length (AU s)
def KE(p:AB):ByteArray:=if p.kind=1 then⟨#[95]⟩++FR (p.value+1) else if p.kind=2 then FR p.value else if p.kind=4 then⟨#[33]⟩ else p.name
def IC:Bool->AB->ByteArray
 |true,p=>JV p
 |false,p=>KE p
theorem pX(b:Bool)(p:AB)(d: (p.kind==1)=false)(c: (p.kind==2)=false)(a: (p.kind==4)=false):IC b p=p.name:=by
 rw[aY] at d c a
 cases b
 ·show KE p=p.name;unfold KE;rw[bC d,bC c,bC a]
 ·show JV p=p.name;unfold JV;rw[bC d,bC c,bC a]
theorem tH(b:Bool)(p:AB)(d: (p.kind==1)=false)(c: (p.kind==2)=false)(a: (p.kind==4)=true):IC b p=⟨#[33]⟩:=by
 rw[aY] at d c;have a:=bT a
 cases b
 ·show KE p=_;unfold KE;rw[bC d,bC c,bD a]
 ·show JV p=_;unfold JV;rw[bC d,bC c,bD a]
theorem vK(b:Bool)(p:AB)(c: (p.kind==1)=false)(a: (p.kind==2)=true):IC b p=FR p.value:=by
 rw[aY] at c;have a:=bT a
 cases b
 ·show KE p=_;unfold KE;rw[bC c,bD a]
 ·show JV p=_;unfold JV;rw[bC c,bD a]
theorem uJ(p:AB)(a: (p.kind==1)=true):IC true p=L5 p.value:=by
 show JV p=_;unfold JV;rw[bD (bT a)]
theorem sH(p:AB)(a: (p.kind==1)=true):IC false p=⟨#[95]⟩++FR (p.value+1):=by
 show KE p=_;unfold KE;rw[bD (bT a)]
def IB(b:Bool):List AB->List Nat->ByteArray
 |[],_=>⟨#[]⟩
 |p::ps,st=>if 0<p.args then IC b p++(⟨#[40]⟩++IB b ps (p.args.toNat::st)) else IC b p++((CI st).1++IB b ps (CI st).2)
def NJ(b:Bool)(ps:List AB):ByteArray:=IB b ps []
def KM(ps:List AB):ByteArray:=NJ false ps
def Y2(p:AB):Prop:=(p.kind=1->0<=p.value/\p.value<1000000)/\(p.kind=2-> -999999999<=p.value/\p.value<=999999999)/\p.name.size<=12
def yu:Bool->AB->Prop
 |true,p=>Good p
 |false,p=>Y2 p
theorem Good.a{p:AB}(h:Good p):Y2 p:=⟨fun k=>by have:=h.1 k;omega,h.2.1,h.2.2⟩
theorem yu.a{b:Bool}{p:AB}(h:yu b p):Y2 p:=by cases b with
 |true=>exact Good.a h
 |false=>exact h
theorem yu.l{p:AB}(h:yu true p)(k:p.kind=1):0<=p.value/\p.value<16:=h.1 k
theorem ZT(b:Bool)(p:AB)(h:yu b p): (IC b p).size<=22:=by
 cases b with
 |true=>have:=tM p h;show(JV p).size<=22;omega
 |false=>
  show(KE p).size<=22;unfold KE;split
  ·rename_i d;have a:=h.1 d;have:=Go.Lib.itoa_length_le (p.value+1) aD aD;rw[bI];have f: (⟨#[95]⟩:ByteArray).size=1:=rfl;have e: (FR (p.value+1)).size<=21:=by unfold FR;simpa[ByteArray.size] using this
   omega
  ·split
   ·rename_i c;have a:=h.2.1 c;have:=Go.Lib.itoa_length_le p.value aD aD;have e: (FR p.value).size<=21:=by unfold FR;simpa[ByteArray.size] using this
    omega
   ·split
    ·show 1<=22;omega
    ·have:=h.2.2;omega
theorem RF(b:Bool):∀(ps:List AB) (st:List Nat),(∀p∈ps,yu b p)->(IB b ps st).size<=24*ps.length+st.length
 |[],st,_=>by simp[IB,ByteArray.size]
 |p::ps,st,h=>by
  have d:=ZT b p (h p aE);have a:∀q∈ps,yu b q:=fun q c=>h q (bA _ c);rw[IB];split
  ·have:=RF b ps (p.args.toNat::st) a;have e: (⟨#[40]⟩:ByteArray).size=1:=rfl;simp only[ByteArray.size_append,bM] at*;omega
  ·have:=RF b ps (CI st).2 a;have:=R4 st;simp only[ByteArray.size_append,bM] at*;omega
theorem TE(b:Bool)(ps:List AB)(h:∀p∈ps,yu b p): (NJ b ps).size<=24*ps.length:=by
 have:=RF b ps [] h;simpa[NJ] using this
def FW(p q:AB):Bool:=p.kind==q.kind&&decide (p.name=q.name)&&p.value==q.value&&p.args==q.args
theorem CE{p q:AB}:FW p q=true↔p=q:=by
 unfold FW
 cases p;cases q;simp[and_assoc]
def isV(v:Int)(p:AB):Bool:=p.kind==1&&p.value==v
def A0(v:Int):List AB->Nat
 |[]=>0
 |p::t=>A0 v t+(if isV v p=true then 1 else 0)
def AP(v:Int)(x:List AB):List AB->List AB
 |[]=>[]
 |p::t=>(if isV v p=true then x else [p])++AP v x t
def H6:Int->List AB->Nat
 |_,[]=>0
 |m,p::t=>if m+(p.args -1)=0 then 1 else H6 (m+(p.args -1)) t+1
def CN(t:List AB):Nat:=H6 1 t
def AO:List (List AB)->Nat
 |[]=>0
 |t::ts=>t.length+AO ts
structure Eqn where
 f:List AB
 s:List AB
 body:List (List AB)
 behind:List (List AB)
 aS:List (List AB)
def Eqn.size(e:Eqn):Nat:=e.f.length+e.s.length+AO e.body+AO e.behind+AO e.aS
def Eqn.put(e:Eqn)(v:Int)(x:List AB):Eqn:=⟨AP v x e.f,AP v x e.s,e.body.map (AP v x),e.behind.map (AP v x),e.aS.map (AP v x)⟩
def A6(e:Eqn)(v:Int)(x:List AB):Int×Eqn:=
 if 0<A0 v x then(8,e) else if 200<(e.put v x).size then(7,e) else(0,e.put v x)
def BG(e:Eqn):Int×Eqn:=
 match e.f,e.s with
 |p::f,q::s=>
  if FW p q=true then(0,{ e with f:=f,s:=s })
  else if p.kind=1 then A6 { e with f:=f,s:=(q::s).drop (CN (q::s)) } p.value ((q::s).take (CN (q::s)))
  else if q.kind=1 then A6 { e with f:=(p::f).drop (CN (p::f)),s:=s } q.value ((p::f).take (CN (p::f)))
  else(-1,e)
 |_,_=>(0,e)
def F6(e:Eqn):Bool:=e.f.isEmpty||e.s.isEmpty
def B1:Nat->Eqn->Int×Eqn
 |0,e=>(0,e)
 |n+1,e=>if F6 e=true then(0,e) else if(BG e).1=0 then B1 n (BG e).2 else BG e
def GG:Nat->Eqn->Bool
 |0,_=>false
 |n+1,e=>if F6 e=true then true else if(BG e).1=0 then GG n (BG e).2 else true
theorem KR:∀(n:Nat) (e:Eqn),GG n e=true->∀m,n<=m->B1 m e=B1 n e/\GG m e=true
 |0,_,h,_,_=>by simp[GG] at h
 |n+1,e,h,m,hm=>by
  obtain⟨m,rfl⟩:∃k,m=k+1:=⟨m-1,aD⟩
  rw[GG] at h;rw[B1,B1,GG];split
  ·exact⟨rfl,rfl⟩
  ·rename_i b;rw[bC b] at h;split
   ·rename_i a;rw[bD a] at h;exact KR n _ h m aD
   ·exact⟨rfl,rfl⟩
theorem VQ{v:Int}:∀{t:List AB},A0 v t=0->∀p∈t,isV v p=false
 |[],_,_,h=>by cases h
 |q::t,h,p,a=>by
  rw[A0] at h;rcases bP.1 a with rfl|a
  ·cases b:isV v p with
   |false=>rfl
   |true=>rw[b] at h;simp at h
  ·exact VQ aD p a
theorem JK{v:Int}{x:List AB}:∀{t:List AB} {p:AB},p∈AP v x t->(p∈t/\isV v p=false)\/p∈x
 |[],_,h=>by simp[AP] at h
 |q::t,p,h=>by
  rw[AP] at h;rcases bO.1 h with h|h
  ·split at h
   ·exact .inr h
   ·rename_i c;simp at h;subst h;exact .inl ⟨aE,by simpa using c⟩
  ·rcases JK h with⟨a,b⟩|a
   ·exact .inl ⟨bA _ a,b⟩
   ·exact .inr a
def Ar(L:List Int)(e:Eqn):Prop:=∀p,p∈e.f\/p∈e.s->p.kind=1->p.value∈L
theorem QW{e:Eqn}{v:Int}{x:List AB}(h: (A6 e v x).1=0):A0 v x=0/\(A6 e v x).2=e.put v x/\(e.put v x).size<=200:=by
 unfold A6 at*;split at h
 ·simp at h
 ·split at h
  ·simp at h
  ·rename_i b a;rw[bC b,bC a];exact⟨aD,rfl,aD⟩
theorem jS{p:AB}{n:Nat}{t:List AB}(h:p∈t.take n):p∈t:=List.mem_of_mem_take h
theorem dX{e:Eqn}{v:Int}{x:List AB}{L:List Int}(h: (A6 e v x).1=0)(i:Ar L e)(hx:∀p∈x,p.kind=1->p.value∈L):Ar (L.filter (fun u=>u !=v)) (A6 e v x).2:=by
 obtain⟨j,l,_⟩:=QW h;rw[l]
 have d:∀t p,p∈AP v x t->(∀q∈t,q.kind=1->q.value∈L)->p.kind=1->p.value∈L.filter (fun u=>u !=v):=by
  intro t p c k a;rw[List.mem_filter];rcases JK c with⟨f,b⟩|f
  ·refine⟨k p f a,?_⟩;unfold isV at b;rw[a] at b;simpa using b
  ·refine⟨hx p f a,?_⟩;have b:=VQ j p f;unfold isV at b;rw[a] at b;simpa using b
 intro p c a;rcases c with c|c
 ·exact d e.f p c (fun q g=>i q (.inl g)) a
 ·exact d e.s p c (fun q g=>i q (.inr g)) a
theorem L8{v:Int}:∀{L:List Int},v∈L->(L.filter (fun u=>u !=v)).length<L.length
 |[],h=>by cases h
 |u::L,h=>by
  by_cases a:u=v
  ·subst a;rw[List.filter_cons_of_neg aE];have:=List.length_filter_le (fun x=>x !=u) L;simp only[bM];omega
  ·have b:v∈L:=by
    rcases bP.1 h with rfl|h
    ·exact absurd rfl a
    ·exact h
   have:=L8 b;rw[List.filter_cons_of_pos (by simpa using a)];simp only[bM];omega
theorem WE:∀(n:Nat) (L:List Int) (e:Eqn),Ar L e->L.length*201+e.f.length<n->GG n e=true
 |0,_,_,_,h=>by omega
 |n+1,L,e,hL,h=>by
  rw[GG];split
  ·rfl
  ·rename_i t;split
   ·rename_i j;obtain⟨F,S,g,c,d⟩:=e
    cases F with
    |nil=>simp[F6] at t
    |cons p f=>
    cases S with
    |nil=>simp[F6] at t
    |cons q s=>
    by_cases b:FW p q=true
    ·have i:BG ⟨p::f,q::s,g,c,d⟩=(0,⟨f,s,g,c,d⟩):=by simp only[BG];rw[bD b]
     rw[i];refine WE n L _ (fun x hx a=>?_) ?_
     ·exact hL x (hx.imp (bA _) (bA _)) a
     ·simp only[bM] at h;simp only[];omega
    ·have o:∀(k:Eqn) (v:Int) (x:List AB),(A6 k v x).1=0->Ar L k->(∀p∈x,p.kind=1->p.value∈L)->v∈L->GG n (A6 k v x).2=true:=by
      intro k v x r z u y;have B:=L8 y;obtain⟨_,w,A⟩:=QW r;refine WE n _ _ (dX r z u) ?_;have: (A6 k v x).2.f.length<=200:=by rw[w];unfold Eqn.size at A;omega
      omega
     by_cases l:p.kind=1
     ·have i:BG ⟨p::f,q::s,g,c,d⟩=A6 ⟨f,(q::s).drop (CN (q::s)),g,c,d⟩ p.value ((q::s).take (CN (q::s))):=by
       simp only[BG];rw[bC b,bD l]
      rw[i] at j⊢;refine o _ _ _ j (fun x hx a=>?_) (fun x hx a=>hL x (.inr (jS hx)) a) (hL p (.inl aE) l);exact hL x (hx.imp (bA _) bV) a
     ·by_cases m:q.kind=1
      ·have i:BG ⟨p::f,q::s,g,c,d⟩=A6 ⟨(p::f).drop (CN (p::f)),s,g,c,d⟩ q.value ((p::f).take (CN (p::f))):=by
        simp only[BG];rw[bC b,bC l,bD m]
       rw[i] at j⊢;refine o _ _ _ j (fun x hx a=>?_) (fun x hx a=>hL x (.inl (jS hx)) a) (hL q (.inr aE) m);exact hL x (hx.imp bV (bA _)) a
      ·have i:BG ⟨p::f,q::s,g,c,d⟩=(-1,⟨p::f,q::s,g,c,d⟩):=by
        simp only[BG];rw[bC b,bC l,bC m]
       rw[i] at j;simp at j
   ·rfl
def KG(e:Eqn):Nat:=(e.f.length+e.s.length)*201+e.f.length+1
def AL(e:Eqn):Int×Eqn:=B1 (KG e) e
theorem iA(e:Eqn):GG (KG e) e=true:=by
 refine WE _ ((e.f++e.s).map (fun p=>p.value)) e (fun p a _=>bQ.2 ⟨p,bO.2 a,rfl⟩) ?_;simp only[List.length_map,List.length_append];unfold KG;omega
theorem fV{n:Nat}{e:Eqn}(h:GG n e=true):B1 n e=AL e:=by
 unfold AL;rcases Nat.le_total n (KG e) with a|a
 ·exact(KR n e h _ a).1.symm
 ·exact(KR _ e (iA e) _ a).1
theorem MH(e:Eqn):AL e=if F6 e=true then(0,e) else if(BG e).1=0 then AL (BG e).2 else BG e:=by
 rw[<-fV (n:=KG e+1) ((KR _ e (iA e) _ (Nat.le_succ _)).2),B1];split
 ·rfl
 ·rename_i a;split
  ·rename_i b;refine fV ?_;have:=(KR _ e (iA e) _ (Nat.le_succ _)).2;rw[Nat.succ_eq_add_one,GG,bC a,bD b] at this;exact this
  ·rfl
def EH(off h:Int)(p:AB):AB:=if p.kind=1 then { p with value:=p.value+off } else if p.kind=4 then { p with value:=h } else p
def A5(off h:Int)(t:List AB):List AB:=t.map (EH off h)
def EW(a b:Int):Int:=if b<a then a else b
def JX(a:Int):List AB->Int
 |[]=>a
 |p::t=>JX (if p.kind=1 then EW a (p.value+1) else a) t
def EK(t:List AB):Int:=JX 0 t
def DV(a:Int):List (List AB)->Int
 |[]=>a
 |t::ts=>DV (EW a (EK t)) ts
def C4(c:Cl):Int:=DV (EK c.head) c.body
structure St where
 aV:List (List AB)
 aS:List (List AB)
 aQ:Int
def BH(s:St)(c:Cl)(h:Int):Eqn:=⟨s.aV.headD [],A5 s.aQ h c.head,c.body.map (A5 s.aQ h),s.aV.tail,s.aS⟩
def BD(s:St)(c:Cl)(h:Int):Int×St:=
 if(AL (BH s c h)).1=0 then(0,⟨(AL (BH s c h)).2.body++(AL (BH s c h)).2.behind,(AL (BH s c h)).2.aS,s.aQ+C4 c⟩) else((AL (BH s c h)).1,⟨[],[],0⟩)
def CY(ns:List Int)(v:Int):List Int:=if v∈ns then ns else ns++[v]
def IW(ns:List Int)(p:AB):AB:=if p.kind=1 then { p with value:=((CY ns p.value).idxOf p.value:Nat) } else p
def BU(ns:List Int)(p:AB):List Int:=if p.kind=1 then CY ns p.value else ns
def AQ(ns:List Int):List AB->List AB×List Int
 |[]=>([],ns)
 |p::t=>(IW ns p::(AQ (BU ns p) t).1,(AQ (BU ns p) t).2)
def AT(ns:List Int):List (List AB)->List (List AB)×List Int
 |[]=>([],ns)
 |t::ts=>((AQ ns t).1::(AT (AQ ns t).2 ts).1,(AT (AQ ns t).2 ts).2)
theorem VG{v:Int}{x:List AB}:∀(t:List AB),(AP v x t).length+A0 v t=t.length+A0 v t*x.length
 |[]=>by simp[AP,A0]
 |p::t=>by
  have a:=VG (v:=v) (x:=x) t;rw[AP,A0];split
  ·rw[bL,bM,Nat.add_mul,Nat.one_mul];omega
  ·simp only[List.length_append,bM,dA,dG];omega
theorem UL{v:Int}:∀(t:List AB),A0 v t<=t.length
 |[]=>by simp[A0]
 |p::t=>by
  have:=UL (v:=v) t;rw[A0,bM];split<;>omega
theorem eH{v:Int}{x:List AB}:∀{t:List AB},A0 v t=0->AP v x t=t
 |[],_=>rfl
 |p::t,h=>by
  rw[A0] at h;have a:¬isV v p=true:=by intro e;rw[bD e] at h;omega
  rw[AP,bC a,eH (t:=t) aD];rfl
theorem WL{v:Int}{x:List AB}:∀(s t:List AB),AP v x (s++t)=AP v x s++AP v x t
 |[],_=>rfl
 |p::s,t=>by rw[List.cons_append,AP,AP,WL s t,List.append_assoc]
theorem YI{v:Int}:∀(s t:List AB),A0 v (s++t)=A0 v s+A0 v t
 |[],t=>by simp[A0]
 |p::s,t=>by rw[List.cons_append,A0,A0,YI s t];omega
def D8(v:Int)(n:Nat):Nat->List (List AB)->Nat
 |z,[]=>z
 |z,t::ts=>if 200<z then z else D8 v n (z+t.length+A0 v t*n) ts
theorem tR{v:Int}{x:List AB}{n:Nat}(hx:x.length=n+1)(t:List AB): (AP v x t).length=t.length+A0 v t*n:=by
 have:=VG (v:=v) (x:=x) t;rw[hx,Nat.mul_add,Nat.mul_one] at this;omega
theorem fE{v:Int}{x:List AB}{n:Nat}(hx:x.length=n+1):∀(ts:List (List AB)) (z:Nat),200<D8 v n z ts↔200<z+AO (ts.map (AP v x))
 |[],z=>by simp[D8,AO]
 |t::ts,z=>by
  rw[D8,List.map_cons,AO,tR hx];split
  ·constructor<;>intro _<;>omega
  ·rw[fE hx ts];constructor<;>intro _<;>omega
def Stop(ok:Int->Bool)(r:List UInt8):Prop:=∀c a,r=c::a->ok c.toNat=false
def bs(b:ByteArray):List UInt8:=b.data.toList
theorem iV(a:ByteArray): (bs a).length=a.size:=by unfold bs;simp
def WQ(W:ByteArray):Prop:=∃c a,bs W=c::a/\(97<=(c.toNat:Int)/\(c.toNat:Int)<=122)/\(∀x∈c::a,B9 x.toNat=true)/\(c::a).length<=12
def aDS(W:ByteArray):Prop:=(∃c a,bs W=c::a/\¬(97<=(c.toNat:Int)/\(c.toNat:Int)<=122)/\A9 c.toNat=false/\(∀x∈c::a,B9 x.toNat=true)/\(c::a).length<=12)/\W≠JT
def aDJ(ν:List ByteArray)(p:AB):ByteArray:=if p.kind=1 then ν.getD p.value.toNat JT else if p.kind=2 then FR p.value else if p.kind=4 then⟨#[33]⟩ else p.name
def NX(m:Nat)(p:AB)(a:Nat):Prop:=if p.kind=1 then(p.value<m/\a=m)\/(p.value=m/\a=m+1) else a=m
def og:Nat->List AB->Nat->Prop
 |m,[],m'=>m'=m
 |m,p::ps,m'=>∃a,NX m p a/\og a ps m'
theorem og.app:∀{a b:List AB} {m m':Nat},og m (a++b) m'↔∃c,og m a c/\og c b m'
 |[],b,m,m'=>by simp[og]
 |p::a,b,m,m'=>by
  rw[List.cons_append];constructor
  ·rintro⟨c,g,h⟩;obtain⟨d,f,e⟩:=og.app.1 h;exact⟨d,⟨c,g,f⟩,e⟩
  ·rintro⟨d,⟨c,g,f⟩,e⟩;exact⟨c,g,og.app.2 ⟨d,f,e⟩⟩
structure aDT(ν:List ByteArray):Prop where
 nodup:ν.Nodup
 len:ν.length<=16
 ok:∀W∈ν,aDS W
theorem Wf.mono:∀{d d':Nat} {ps:List AB},d<=d'->Wf d ps->Wf d' ps
 |0,_,_,_,h=>h.elim
 |d+1,0,_,hd,_=>by omega
 |d+1,d'+1,ps,hd,h=>by
  rcases h with h|⟨s,qs,b,c,e⟩
  ·exact .inl h
  ·exact .inr ⟨s,qs,b,fun q a=>Wf.mono aD (c q a),e⟩
theorem PS:∀{qs:List (List AB)} {q:List AB},q∈qs->q.length<=qs.flatten.length
 |[],_,h=>by cases h
 |x::qs,q,h=>by
  rw[List.flatten_cons,bL];rcases bP.1 h with rfl|h
  ·omega
  ·have:=PS h;omega
def aDj:List AB:=[⟨4,⟨#[]⟩,0,0⟩]
structure Ch where
 st:St
 cls:List Nat
structure Cf where
 now:St
 chs:List Ch
def aC6:AB:=⟨0,⟨#[]⟩,0,0⟩
def AI(g:List AB):AB:=g.headD aC6
def CH(S:St):List AB:=S.aV.headD []
def DJ(S:St)(c:Cl):Bool:=FW (AI c.head) (AI (CH S))
def FV(S:St)(c:Cl):Bool:=DJ S c&&decide ((BD S c 0).1≠ -1)
def AR(S:St):Nat->List Cl->List Nat
 |_,[]=>[]
 |i,c::cs=>(if FV S c=true then [i] else [])++AR S (i+1) cs
def CV(S:St)(cs:List Cl):Bool:=cs.any (DJ S)
def EM:Cl:=⟨[],[],0⟩
def FZ(cf:Cf)(s:St)(c:Cl)(h:Int):Int×Cf:=((BD s c h).1,if(BD s c h).1=0 then⟨(BD s c h).2,cf.chs⟩ else cf)
def CA(a:List Ch)(s:St)(rest:List Nat):List Ch:=if rest=[] then a else⟨s,rest⟩::a
def KP(cs:List Cl)(now:St)(a:List Ch)(c:Ch):Int×Cf:=match c.cls with
 |[]=>(0,⟨c.st,a⟩)
 |k::rest=>FZ ⟨now,CA a c.st rest⟩ c.st (cs.getD k EM) a.length
def B6(cs:List Cl)(cf:Cf):Int×Cf:=match cf.chs with
 |[]=>(2,cf)
 |c::low=>KP cs cf.now low c
def EA(cs:List Cl)(cf:Cf):List Nat->Int×Cf
 |[]=>(-1,cf)
 |k::rest=>if rest≠[]/\20<=cf.chs.length then(6,cf) else FZ ⟨cf.now,CA cf.chs cf.now rest⟩ cf.now (cs.getD k EM) cf.chs.length
def F2:Nat->List AB->List AB
 |0,r=>r.take (CN r)
 |n+1,r=>F2 n (r.drop (CN r))
def AX(t:List AB)(i:Nat):List AB:=if t=[] then [] else F2 i t.tail
def E9(cf:Cf):Int×Cf:=(0,⟨⟨cf.now.aV.tail,cf.now.aS,cf.now.aQ⟩,cf.chs⟩)
def BT(cf:Cf)(a b:List AB):Eqn:=⟨a,b,[],cf.now.aV.tail,cf.now.aS⟩
def BJ(cf:Cf)(a b:List AB):Int×Cf:=((AL (BT cf a b)).1,if(AL (BT cf a b)).1=0 then⟨⟨(AL (BT cf a b)).2.behind,(AL (BT cf a b)).2.aS,cf.now.aQ⟩,cf.chs⟩ else cf)
def AV(p:AB):Int:=if p.kind=1 then 9 else if p.kind=2 then 0 else 10
def A8(g:List AB):Int:=if AV (AI (AX g 0))=0 then AV (AI (AX g 1)) else AV (AI (AX g 0))
def CC(g:List AB):Int:=(AI (AX g 0)).value
def CB(g:List AB):Int:=(AI (AX g 1)).value
def EP(cf:Cf)(g:List AB):Int×Cf:=if A8 g=0 then(if CC g<CB g then E9 cf else(-1,cf)) else(A8 g,cf)
def G7(v:Int):List AB:=[⟨2,⟨#[]⟩,v,0⟩]
def EC(cf:Cf)(g:List AB):Int×Cf:=if A8 g=0 then(if CC g+CB g< -999999999\/999999999<CC g+CB g then(11,cf) else BJ cf (G7 (CC g+CB g)) (AX g 2)) else(A8 g,cf)
def BY(h:Int):List AB:=[⟨4,⟨#[]⟩,h,0⟩]
def q9:ByteArray:=⟨#[102,97,105,108]⟩
def D6:List AB:=[⟨3,q9,0,0⟩]
def JS(t:List AB):Int:=if(AI t).kind=1 then 9 else if(AI t).kind=2 then 10 else 0
def D2(cf:Cf)(t:List AB):Int×Cf:=
 if JS t=0 then(if 20<=cf.chs.length then(6,cf) else(0,⟨⟨[t,BY cf.chs.length,D6],cf.now.aS,cf.now.aQ⟩,⟨⟨cf.now.aV.tail,cf.now.aS,cf.now.aQ⟩,[]⟩::cf.chs⟩)) else(JS t,cf)
def FJ(chs:List Ch)(h:Int):List Ch:=chs.drop (chs.length -h.toNat)
def XN:ByteArray:=⟨#[116,114,117,101]⟩
def eqB:ByteArray:=⟨#[101,113]⟩
def SW:ByteArray:=⟨#[108,101,115,115]⟩
def KS:ByteArray:=⟨#[112,108,117,115]⟩
def WH:ByteArray:=⟨#[110,111,116]⟩
def B7(cf:Cf)(g:List AB):Int×Cf:=
 if(AI g).kind=4 then E9 ⟨cf.now,FJ cf.chs (AI g).value⟩
 else if(AI g).name=XN then E9 cf
 else if(AI g).name=eqB then BJ cf (AX g 0) (AX g 1)
 else if(AI g).name=SW then EP cf g
 else if(AI g).name=KS then EC cf g
 else if(AI g).name=WH then D2 cf (AX g 0)
 else(-1,cf)
def C6(g:List AB):Bool:=(AI g).kind==4||((AI g).kind==3&&B3 (AI g).name (AI g).args)
def DF(cs:List Cl)(cf:Cf):Int×Cf:=
 if C6 (CH cf.now)=true then B7 cf (CH cf.now) else if CV cf.now cs=true then EA cs cf (AR cf.now 0 cs) else(12,cf)
def IF:List Ch->Nat
 |[]=>0
 |c::l=>c.cls.length+1+IF l
def EL(cs:List Cl):Nat->Int×Cf->Int×Cf
 |0,r=>r
 |n+1,r=>if r.1=-1 then EL cs n (B6 cs r.2) else r
def BI(cs:List Cl)(r:Int×Cf):Int×Cf:=EL cs (IF r.2.chs+2) r
def CG(cs:List Cl):Nat->Int×Cf->Int×Cf
 |n,r=>if(BI cs r).1≠0 then BI cs r else if(BI cs r).2.now.aV=[] then(1,(BI cs r).2) else match n with
  |0=>(5,(BI cs r).2)
  |m+1=>CG cs m (DF cs (BI cs r).2)
theorem MA(cf:Cf)(s:St)(c:Cl)(h:Int): (FZ cf s c h).2.chs=cf.chs:=by unfold FZ;simp only[];split<;>rfl
theorem NP{cs:List Cl}{cf:Cf}(h:cf.chs≠[]):IF (B6 cs cf).2.chs<IF cf.chs:=by
 unfold B6
 cases a:cf.chs with
 |nil=>exact absurd a h
 |cons c d=>
  simp only[];unfold KP;split
  ·simp[IF]
  ·rename_i k rest b;rw[MA];unfold CA;simp only[];split
   ·simp[IF]
   ·simp[IF,b]
theorem NY{cs:List Cl}{cf:Cf}(h:cf.chs=[]):B6 cs cf=(2,cf):=by unfold B6;rw[h]
theorem mR(cs:List Cl):∀(n:Nat) (r:Int×Cf),IF r.2.chs+2<=n->EL cs n r=EL cs (IF r.2.chs+2) r:=by
 have a:∀(n:Nat) (r:Int×Cf),IF r.2.chs+2<=n->EL cs (n+1) r=EL cs n r:=by
  intro n
  induction n with
  |zero=>intro r h;omega
  |succ n b=>
   intro r h;rw[EL,show EL cs (n+1) r=if r.1=-1 then EL cs n (B6 cs r.2) else r from rfl];split
   ·rename_i e;by_cases c:r.2.chs=[]
    ·rw[NY c];obtain⟨m,rfl⟩:∃m,n=m+1:=⟨n-1,aD⟩
     rw[EL,bC aE,EL,bC aE]
    ·exact b _ (by have:=NP (cs:=cs) c;omega)
   ·rfl
 intro n r h;obtain⟨d,rfl⟩:∃d,n=IF r.2.chs+2+d:=⟨n-(IF r.2.chs+2),aD⟩
 induction d with
 |zero=>rfl
 |succ d b=>rw[<-b aD];exact a (IF r.2.chs+2+d) r aD
theorem VF(cs:List Cl)(r:Int×Cf):BI cs r=if r.1=-1 then BI cs (B6 cs r.2) else r:=by
 unfold BI;rw[EL];split
 ·by_cases a:r.2.chs=[]
  ·rw[NY a,EL,bC aE,EL,bC aE]
  ·exact mR cs _ _ (by have:=NP (cs:=cs) a;omega)
 ·rfl
theorem mY(cs:List Cl)(cf:Cf):BI cs (-1,cf)=BI cs (B6 cs cf):=by rw[VF,bD rfl]
theorem sC{cs:List Cl}{r:Int×Cf}(h:r.1≠ -1):BI cs r=r:=by rw[VF,bC h]
theorem O0(cs:List Cl)(n:Nat)(r:Int×Cf):CG cs n r=if(BI cs r).1≠0 then BI cs r else if(BI cs r).2.now.aV=[] then(1,(BI cs r).2) else match n with
  |0=>(5,(BI cs r).2)
  |m+1=>CG cs m (DF cs (BI cs r).2):=by cases n<;>rfl
theorem KC{cs:List Cl}{P:Int×Cf->Prop}(a:∀cf,P (-1,cf)->P (B6 cs cf)):∀(n:Nat) (r:Int×Cf),P r->P (EL cs n r)
 |0,_,h=>h
 |n+1,r,h=>by
  rw[EL];split
  ·rename_i b;obtain⟨o,cf⟩:=r;simp only at b;subst b;exact KC a n _ (a cf h)
  ·exact h
theorem WD:∀(t:List AB) (a:Int),a<=JX a t
 |[],a=>Int.le_refl _
 |p::t,a=>by
  rw[JX];refine Int.le_trans ?_ (WD t _);split
  ·unfold EW;split<;>omega
  ·omega
theorem TK:∀{t:List AB} {a:Int} {p:AB},p∈t->p.kind=1->p.value<JX a t
 |[],_,_,h,_=>by cases h
 |q::t,a,p,h,hk=>by
  rw[JX];rcases bP.1 h with rfl|h
  ·rw[bD hk];have:=WD t (EW a (p.value+1));have b:p.value+1<=EW a (p.value+1):=by unfold EW;split<;>omega
   omega
  ·exact TK h hk
theorem PH:∀(ts:List (List AB)) (a:Int),a<=DV a ts
 |[],a=>Int.le_refl _
 |t::ts,a=>by
  rw[DV];refine Int.le_trans ?_ (PH ts _);unfold EW;split<;>omega
theorem SX:∀{ts:List (List AB)} {a:Int} {t:List AB} {p:AB},t∈ts->p∈t->p.kind=1->p.value<DV a ts
 |[],_,_,_,h,_,_=>by cases h
 |u::ts,a,t,p,h,hp,hk=>by
  rw[DV];rcases bP.1 h with rfl|h
  ·have d:p.value<EK t:=TK hp hk;have c:=PH ts (EW a (EK t));have b:EK t<=EW a (EK t):=by unfold EW;split<;>omega
   omega
  ·exact SX h hp hk
theorem RV{B:Int}:∀{t:List AB} {a:Int},a<=B->(∀p∈t,p.kind=1->p.value<B)->JX a t<=B
 |[],_,h,_=>h
 |p::t,a,h,hp=>by
  rw[JX];refine RV ?_ (fun q c=>hp q (bA _ c));split
  ·rename_i b;have:=hp p aE b;unfold EW;split<;>omega
  ·exact h
theorem UD{B:Int}(b:0<=B):∀{ts:List (List AB)} {a:Int},a<=B->(∀t∈ts,∀p∈t,p.kind=1->p.value<B)->DV a ts<=B
 |[],_,h,_=>h
 |t::ts,a,h,hp=>by
  rw[DV];refine UD b ?_ (fun q c=>hp q (bA _ c));have:EK t<=B:=RV (a:=0) b (hp t aE);unfold EW;split<;>omega
def ru(f:Int)(p:AB):Prop:=(0<=p.args/\p.args<=4)/\(p.kind=1->0<=p.value/\p.value<f)/\(p.kind=2-> -999999999<=p.value/\p.value<=999999999)/\p.name.size<=12
def TmG(f:Int)(t:List AB):Prop:=t.length<=400/\∀p∈t,ru f p
structure StG(N:Nat)(F:Int)(S:St):Prop where
 gl:S.aV.length<=N
 tl:S.aS.length<=16
 f0:0<=S.aQ
 f1:S.aQ<=F
 g:∀t∈S.aV,TmG S.aQ t
 t:∀t∈S.aS,TmG S.aQ t
structure ClG(c:Cl):Prop where
 hd:TmG 16 c.head
 bl:c.body.length<=8
 bd:∀t∈c.body,TmG 16 t
theorem ru.mono{f a:Int}{p:AB}(h:ru f p)(b:f<=a):ru a p:=⟨h.1,fun k=>by have:=h.2.1 k;omega,h.2.2⟩
theorem TmG.mono{f a:Int}{t:List AB}(h:TmG f t)(c:f<=a):TmG a t:=⟨h.1,fun p b=>(h.2 p b).mono c⟩
theorem StG.mono{N a:Nat}{F F':Int}{S:St}(h:StG N F S)(b:N<=a)(c:F<=F'):StG a F' S:=⟨by have:=h.gl;omega,h.tl,h.f0,by have:=h.f1;omega,h.g,h.t⟩
theorem StG.none(N:Nat){F:Int}(h:0<=F):StG N F ⟨[],[],0⟩:=⟨aE,aE,aE,h,aE,aE⟩
def MV(P:AB->Prop)(e:Eqn):Prop:=(∀p∈e.f,P p)/\(∀p∈e.s,P p)/\(∀t∈e.body,∀p∈t,P p)/\(∀t∈e.behind,∀p∈t,P p)/\(∀t∈e.aS,∀p∈t,P p)
def O8(e:Eqn):Prop:=(∀t∈e.body,t.length<=400)/\(∀t∈e.behind,t.length<=400)/\(∀t∈e.aS,t.length<=400)
theorem U1{P:AB->Prop}{e:Eqn}{v:Int}{x:List AB}(h:MV P e)(hx:∀p∈x,P p):MV P (e.put v x):=by
 have b:∀t:List AB,(∀p∈t,P p)->∀p∈AP v x t,P p:=fun t c p i=>by
  rcases JK i with⟨f,_⟩|f
  ·exact c p f
  ·exact hx p f
 have a:∀ts:List (List AB),(∀t∈ts,∀p∈t,P p)->∀t∈ts.map (AP v x),∀p∈t,P p:=fun ts d t c=>by
  obtain⟨u,g,rfl⟩:=bQ.1 c;exact b u (d u g)
 exact⟨b _ h.1,b _ h.2.1,a _ h.2.2.1,a _ h.2.2.2.1,a _ h.2.2.2.2⟩
theorem iG{P:AB->Prop}{e:Eqn}{v:Int}{x:List AB}(h:MV P e)(hx:∀p∈x,P p):MV P (A6 e v x).2:=by
 unfold A6;split
 ·exact h
 ·split
  ·exact h
  ·exact U1 h hx
theorem yR{P:AB->Prop}{e:Eqn}(h:MV P e):MV P (BG e).2:=by
 obtain⟨F,S,j,k,i⟩:=e;obtain⟨b,a,c⟩:=h;unfold BG;split
 ·rename_i p f q s g d;simp only at g d;subst g;subst d;split
  ·exact⟨fun x hx=>b x (bA _ hx),fun x hx=>a x (bA _ hx),c⟩
  ·split
   ·exact iG ⟨fun x hx=>b x (bA _ hx),fun x hx=>a x (bV hx),c⟩ (fun x hx=>a x (List.mem_of_mem_take hx))
   ·split
    ·exact iG ⟨fun x hx=>b x (bV hx),fun x hx=>a x (bA _ hx),c⟩ (fun x hx=>b x (List.mem_of_mem_take hx))
    ·exact⟨b,a,c⟩
 ·exact⟨b,a,c⟩
theorem SI:∀{ts:List (List AB)} {t:List AB},t∈ts->t.length<=AO ts
 |[],_,h=>by cases h
 |u::ts,t,h=>by
  rw[AO];rcases bP.1 h with rfl|h
  ·omega
  ·have:=SI h;omega
theorem iU{e:Eqn}{v:Int}{x:List AB}(h:O8 e):O8 (A6 e v x).2:=by
 unfold A6;split
 ·exact h
 ·split
  ·exact h
  ·rename_i b;simp only[];unfold Eqn.size at b;exact⟨fun t a=>by have:=SI a;omega,fun t a=>by have:=SI a;omega,fun t a=>by have:=SI a;omega⟩
theorem xA{e:Eqn}(h:O8 e):O8 (BG e).2:=by
 unfold BG;split
 ·split
  ·exact h
  ·split
   ·exact iU h
   ·split
    ·exact iU h
    ·exact h
 ·exact h
def XM(a b c:Nat)(e:Eqn):Prop:=e.body.length=a/\e.behind.length=b/\e.aS.length=c
theorem lU{e:Eqn}{v:Int}{x:List AB}{a b c:Nat}(h:XM a b c e):XM a b c (A6 e v x).2:=by
 unfold A6;split
 ·exact h
 ·split
  ·exact h
  ·exact⟨by simpa[Eqn.put] using h.1,by simpa[Eqn.put] using h.2.1,by simpa[Eqn.put] using h.2.2⟩
theorem tU{e:Eqn}{a b c:Nat}(h:XM a b c e):XM a b c (BG e).2:=by
 unfold BG;split
 ·split
  ·exact h
  ·split
   ·exact lU h
   ·split
    ·exact lU h
    ·exact h
 ·exact h
theorem NQ{I:Eqn->Prop}(a:∀e,I e->I (BG e).2):∀(n:Nat) (e:Eqn),I e->I (B1 n e).2
 |0,_,h=>h
 |n+1,e,h=>by
  rw[B1];split
  ·exact h
  ·split
   ·exact NQ a n _ (a e h)
   ·exact a e h
theorem YQ{P:AB->Prop}{e:Eqn}(h:MV P e):MV P (AL e).2:=NQ (fun _ h=>yR h) _ e h
theorem XX{e:Eqn}(h:O8 e):O8 (AL e).2:=NQ (fun _ h=>xA h) _ e h
theorem KF(e:Eqn):XM e.body.length e.behind.length e.aS.length (AL e).2:=NQ (fun _ h=>tU h) _ e ⟨rfl,rfl,rfl⟩
theorem ClG.past{c:Cl}(h:ClG c):0<=C4 c/\C4 c<=16:=by
 unfold C4;have g:0<=EK c.head:=WD c.head 0;have f:EK c.head<=16:=RV (a:=0) aD (fun p d b=>((h.hd.2 p d).2.1 b).2);have i:=PH c.body (EK c.head);exact⟨aD,UD aD f (fun t e p d b=>(((h.bd t e).2 p d).2.1 b).2)⟩
theorem xQ{t:List AB}{off h m:Int}(f:TmG 16 t)(j:∀p∈t,p.kind=1->p.value<m)(k:0<=off):TmG (off+m) (A5 off h t):=by
 refine⟨by unfold A5;simpa using f.1,fun p i=>?_⟩;unfold A5 at i;obtain⟨q,g,rfl⟩:=bQ.1 i;have b:=f.2 q g;have d:=j q g;unfold EH;split
 ·rename_i a;have:=b.2.1 a;have:=d a;exact⟨b.1,fun _=>by simp only[];omega,fun e=>by simp only[a] at e;omega,b.2.2.2⟩
 ·split
  ·rename_i a c;exact⟨b.1,fun e=>absurd e a,fun e=>by simp only[c] at e;omega,b.2.2.2⟩
  ·rename_i a _;exact⟨b.1,fun e=>absurd e a,b.2.2⟩
theorem RA{S:St}{c:Cl}{h:Int}{N:Nat}{F:Int}(e:StG N F S)(v:S.aV≠[])(k:ClG c)(r: (BD S c h).1=0):StG (N+7) (F+16) (BD S c h).2:=by
 have D: (AL (BH S c h)).1=0:=by
  unfold BD at r;split at r
  ·assumption
  ·exact r
 have H: (BD S c h).2=⟨(AL (BH S c h)).2.body++(AL (BH S c h)).2.behind,(AL (BH S c h)).2.aS,S.aQ+C4 c⟩:=by
  unfold BD;rw[bD D]
 rw[H]
 obtain⟨m,gs,g⟩:∃m gs,S.aV=m::gs:=by
  cases u:S.aV with
  |nil=>exact absurd u v
  |cons a b=>exact⟨a,b,rfl⟩
 have l:=k.past;have i:=e.g;have j:=e.gl;rw[g] at i j;simp only[bM] at j;have w:∀t∈S.aV,TmG (S.aQ+C4 c) t:=fun t d=>(e.g t d).mono aD
 have y:∀t∈c.body.map (A5 S.aQ h),TmG (S.aQ+C4 c) t:=fun t d=>by
  obtain⟨q,x,rfl⟩:=bQ.1 d;exact xQ (k.bd q x) (fun p l s=>SX x l s) e.f0
 have E:TmG (S.aQ+C4 c) (A5 S.aQ h c.head):=xQ k.hd (fun p l s=>by
  have K:p.value<EK c.head:=TK l s;have J:=PH c.body (EK c.head);unfold C4;omega) e.f0
 have C:MV (ru (S.aQ+C4 c)) (BH S c h):=by
  unfold BH;rw[g];exact⟨(w m (by rw[g];simp)).2,E.2,fun t d=>(y t d).2,fun t d=>(w t (by rw[g];exact bA _ d)).2,fun t d=>((e.t t d).mono aD).2⟩
 have B:O8 (BH S c h):=by
  unfold BH;rw[g];exact⟨fun t d=>(y t d).1,fun t d=>(i t (bA _ d)).1,fun t d=>(e.t t d).1⟩
 have o:=KF (BH S c h);have n:=YQ C;have f:=XX B;have M: (BH S c h).body.length=c.body.length:=by unfold BH;simp
 have O: (BH S c h).behind.length=gs.length:=by unfold BH;rw[g];rfl
 have L: (BH S c h).aS.length=S.aS.length:=rfl;have z:=k.bl;have A:=e.tl;have I:=e.f1;have G:=e.f0;refine⟨?_,?_,by simp only[];omega,by simp only[];omega,fun t d=>?_,fun t d=>⟨f.2.2 t d,n.2.2.2.2 t d⟩⟩
 ·rw[bL,o.1,o.2.1];omega
 ·have:=o.2.2;simp only[];omega
 ·rcases bO.1 d with d|d
  ·exact⟨f.1 t d,n.2.2.1 t d⟩
  ·exact⟨f.2.1 t d,n.2.2.2.1 t d⟩
structure CfG(cs:List Cl)(G:Nat)(F:Int)(t:Nat)(cf:Cf):Prop where
 now:StG (G+7*(t+1)) (F+16*(t+1)) cf.now
 chs:∀c∈cf.chs,StG (G+7*t) (F+16*t) c.st/\(∀k∈c.cls,k<cs.length)/\(c.cls≠[]->c.st.aV≠[])
 len:cf.chs.length<=20
def uw(cs:List Cl):Prop:=∀c∈cs,ClG c
theorem uw.at{cs:List Cl}(h:uw cs){k:Nat}(a:k<cs.length):ClG (cs.getD k EM):=by
 rw[List.getD_eq_getElem?_getD,bU a];exact h _ (bG a)
theorem N6{cs:List Cl}{G:Nat}{F:Int}{t:Nat}{cf:Cf}(s:uw cs)(h:CfG cs G F t cf):CfG cs G F t (B6 cs cf).2:=by
 unfold B6
 cases l:cf.chs with
 |nil=>exact h
 |cons c e=>
  simp only[];have f:=h.len;rw[l,bM] at f;have g:c∈cf.chs:=by rw[l];simp
  have a:∀d∈e,d∈cf.chs:=fun d b=>by rw[l];exact bA _ b
  obtain⟨n,o,m⟩:=h.chs c g;unfold KP;split
  ·exact⟨n.mono aD aD,fun d b=>h.chs d (a d b),by simp only[];omega⟩
  ·rename_i k rest q;rw[q] at o m;have v:=s.at (o k aE)
   have p:∀d∈CA e c.st rest,StG (G+7*t) (F+16*t) d.st/\(∀k∈d.cls,k<cs.length)/\(d.cls≠[]->d.st.aV≠[]):=by
    intro d b;unfold CA at b;split at b
    ·exact h.chs d (a d b)
    ·rcases bP.1 b with rfl|b
     ·exact⟨n,fun j u=>o j (bA _ u),fun _=>m aE⟩
     ·exact h.chs d (a d b)
   have i: (CA e c.st rest).length<=20:=by
    unfold CA;split
    ·omega
    ·simp only[bM];omega
   unfold FZ;simp only[];split
   ·rename_i r;exact⟨(RA n (m aE) v r).mono aD aD,p,i⟩
   ·exact⟨h.now,p,i⟩
theorem NB(S:St):∀(i:Nat) (cs:List Cl) (k:Nat),k∈AR S i cs->i<=k/\k<i+cs.length
 |_,[],_,h=>by simp[AR] at h
 |i,c::cs,k,h=>by
  rw[AR] at h;rcases bO.1 h with h|h
  ·split at h
   ·simp at h;subst h;simp
   ·simp at h
  ·have:=NB S (i+1) cs k h;simp only[bM];omega
theorem lL:∀(n:Nat) (r:List AB),(F2 n r).length<=r.length/\∀p∈F2 n r,p∈r
 |0,r=>⟨by simp[F2,List.length_take];omega,fun p a=>List.mem_of_mem_take a⟩
 |n+1,r=>by
  have h:=lL n (r.drop (CN r));refine⟨?_,fun p a=>bV (h.2 p a)⟩;have:=h.1;rw[F2];simp only[List.length_drop] at this;omega
theorem J1(t:List AB)(i:Nat): (AX t i).length<=t.length/\∀p∈AX t i,p∈t:=by
 unfold AX;split
 ·exact⟨aE,aE⟩
 ·have h:=lL i t.tail;exact⟨by have:=h.1;simp only[List.length_tail] at this;omega,fun p a=>List.mem_of_mem_tail (h.2 p a)⟩
theorem DA{f:Int}{t:List AB}(h:TmG f t)(i:Nat):TmG f (AX t i):=⟨bN (J1 t i).1 h.1,fun p a=>h.2 p ((J1 t i).2 p a)⟩
theorem SA{N:Nat}{F:Int}{S:St}(h:StG N F S)(c:S.aV≠[]):TmG S.aQ (CH S):=by
 unfold CH
 cases d:S.aV with
 |nil=>exact absurd d c
 |cons a b=>exact h.g a (by rw[d];simp)
theorem LC{N:Nat}{F:Int}{S:St}(h:StG N F S):StG N F ⟨S.aV.tail,S.aS,S.aQ⟩:=
 ⟨by have:=h.gl;simp only[List.length_tail];omega,h.tl,h.f0,h.f1,fun t a=>h.g t (List.mem_of_mem_tail a),h.t⟩
theorem XR{N:Nat}{F:Int}{cf:Cf}{a b:List AB}(h:StG N F cf.now)(k:TmG cf.now.aQ a)(g:TmG cf.now.aQ b):StG N F (BJ cf a b).2.now/\(BJ cf a b).2.chs=cf.chs:=by
 have m:MV (ru cf.now.aQ) (BT cf a b):=⟨k.2,g.2,(by intro t c;cases c),fun t c=>(h.g t (List.mem_of_mem_tail c)).2,fun t c=>(h.t t c).2⟩
 have l:O8 (BT cf a b):=⟨(by intro t c;cases c),fun t c=>(h.g t (List.mem_of_mem_tail c)).1,fun t c=>(h.t t c).1⟩
 have f:=YQ m;have d:=XX l;have e:=KF (BT cf a b);unfold BJ;simp only[];split
 ·refine⟨⟨?_,?_,h.f0,h.f1,fun t c=>⟨d.2.1 t c,f.2.2.2.1 t c⟩,fun t c=>⟨d.2.2 t c,f.2.2.2.2 t c⟩⟩,rfl⟩
  ·have:=h.gl;have j:=e.2.1;have i: (BT cf a b).behind.length=cf.now.aV.length -1:=by unfold BT;simp
   simp only[];omega
  ·have:=h.tl;have j:=e.2.2;have i: (BT cf a b).aS.length=cf.now.aS.length:=rfl;simp only[];omega
 ·exact⟨h,rfl⟩
theorem iD{f v:Int}(b:¬(v< -999999999\/999999999<v)):TmG f (G7 v):=by
 refine⟨by simp[G7],fun p a=>?_⟩;simp[G7] at a;subst a;exact⟨aE,aE,fun _=>by simp only[];omega,by simp[ByteArray.size]⟩
theorem kQ(f h:Int):TmG f (BY h):=by
 refine⟨by simp[BY],fun p a=>?_⟩;simp[BY] at a;subst a;exact⟨aE,aE,aE,by simp[ByteArray.size]⟩
theorem nP(f:Int):TmG f D6:=by
 refine⟨by simp[D6],fun p a=>?_⟩;simp[D6] at a;subst a;exact⟨aE,aE,aE,aF⟩
theorem UO{cs:List Cl}{G:Nat}{F:Int}{t:Nat}{cf:Cf}(g:uw cs)(h:CfG cs G F t cf)(p:cf.now.aV≠[]):CfG cs G F (t+1) (DF cs cf).2:=by
 have e:∀c∈cf.chs,StG (G+7*(t+1)) (F+16*(t+1:Nat)) c.st/\(∀k∈c.cls,k<cs.length)/\(c.cls≠[]->c.st.aV≠[]):=fun c g=>⟨(h.chs c g).1.mono aD aD,(h.chs c g).2⟩
 have n:=h.now;have f:StG (G+7*(t+1+1)) (F+16*((t+1:Nat)+1)) cf.now:=n.mono aD aD;have s:StG (G+7*(t+1)) (F+16*(t+1:Nat)) cf.now:=n.mono aD aD;have i:CfG cs G F (t+1) cf:=⟨f,e,h.len⟩
 have A:CfG cs G F (t+1) (E9 cf).2:=⟨LC f,e,h.len⟩
 have l:=SA n p;have m:=h.len
 have B:∀a b,TmG cf.now.aQ a->TmG cf.now.aQ b->CfG cs G F (t+1) (BJ cf a b).2:=fun a b E L=>by
  have v:=XR f E L;exact⟨v.1,by rw[v.2];exact e,by rw[v.2];exact m⟩
 unfold DF;split
 ·unfold B7;split
  ·exact⟨LC f,fun c g=>e c (bV g),by show(List.drop _ _).length<=20;rw[List.length_drop];omega⟩
  split
  ·exact A
  split
  ·exact B _ _ (DA l 0) (DA l 1)
  split
  ·unfold EP;split
   ·split
    ·exact A
    ·exact i
   ·exact i
  split
  ·unfold EC;split
   ·split
    ·exact i
    ·rename_i w;exact B _ _ (iD w) (DA l 2)
   ·exact i
  split
  ·unfold D2;split
   ·split
    ·exact i
    ·rename_i J;refine⟨⟨by simp only[bM,dA];omega,n.tl,n.f0,by have:=n.f1;simp only[];omega,fun u y=>?_,n.t⟩,fun c g=>?_,by simp only[bM];omega⟩
     ·simp only[List.mem_cons,dF,or_false] at y;rcases y with rfl|rfl|rfl
      ·exact DA l 0
      ·exact kQ _ _
      ·exact nP _
     ·rcases bP.1 g with rfl|g
      ·exact⟨LC s,aE,aE⟩
      ·exact e c g
   ·exact i
  ·exact i
 ·split
  ·have z:=NB cf.now 0 cs;unfold EA;split
   ·exact i
   ·rename_i k rest x;have M:=z k (by rw[x];simp);have o:∀j∈rest,j<cs.length:=fun j D=>by have:=z j (by rw[x];exact bA _ D);omega
    split
    ·exact i
    ·rename_i I
     have C:∀d∈CA cf.chs cf.now rest,StG (G+7*(t+1)) (F+16*(t+1:Nat)) d.st/\(∀k∈d.cls,k<cs.length)/\(d.cls≠[]->d.st.aV≠[]):=by
      intro d q;unfold CA at q;split at q
      ·exact e d q
      ·rcases bP.1 q with rfl|q
       ·exact⟨s,o,fun _=>p⟩
       ·exact e d q
     have r: (CA cf.chs cf.now rest).length<=20:=by
      unfold CA;split
      ·exact m
      ·rename_i w;have:¬20<=cf.chs.length:=fun H=>I ⟨w,H⟩;simp only[bM];omega
     unfold FZ;simp only[];split
     ·rename_i K;exact⟨(RA n p (g.at aD) K).mono aD aD,C,r⟩
     ·exact⟨f,C,r⟩
  ·exact i
end Rf
