import Derived.Test.YthenokfmcjmfkaaGreatDoorYas
namespace Rf
theorem jM{cls:List Cl}{n:Nat}:∀{a b:List Ch} {i:Nat},Q9 cls n i (a++b)↔Q9 cls n i a/\Q9 cls n (i+a.length) b
 |[],b,i=>by simp[Q9]
 |c::a,b,i=>by
  have d:=jM (cls:=cls) (n:=n) (a:=a) (b:=b) (i:=i+1);have e:i+1+a.length=i+(c::a).length:=by rw[bM];omega
  rw[e] at d;constructor
  ·rintro⟨g,f⟩;exact⟨⟨g,(d.1 f).1⟩,(d.1 f).2⟩
  ·rintro⟨⟨g,f⟩,h⟩;exact⟨g,d.2 ⟨f,h⟩⟩
theorem iR{cls:List Cl}{n:Nat}{c:Ch}{a:List Ch}:Q9 cls n 0 (c::a).reverse↔ChV cls n a.length c/\Q9 cls n 0 a.reverse:=by
 rw[List.reverse_cons,jM,bX,Nat.zero_add];constructor
 ·rintro⟨d,b,_⟩;exact⟨b,d⟩
 ·rintro⟨d,b⟩;exact⟨b,d,trivial⟩
theorem Jw.q{p:AB}(h:Jw p):Bf p:=by
 rcases h with h|h|h
 ·exact .inl ⟨h.1,h.2.1,h.2.2.1⟩
 ·exact .inr (.inl h)
 ·exact .inr (.inr h)
theorem Gf.q{t:List AB}{k:Nat}(h:Gf t k):FA t:=⟨fun p a=>(h.parts p a).q,h.whole,h.len⟩
theorem W7:∀{gs:List (List AB)} {h k:Nat},Q3 gs h k->FF gs h
 |[],_,_,_=>trivial
 |g::gs,h,k,hg=>by
  rcases hg with⟨v,b,e,a⟩|⟨c,d,a⟩
  ·exact .inl ⟨v,b,e,W7 a⟩
  ·exact .inr ⟨c,d.q,W7 a⟩
theorem kT:∀{ts:List (List AB)} {k:Nat},UP ts k->∀t∈ts,FA t
 |[],_,_,_,h=>by cases h
 |u::ts,k,h,t,a=>by
  rcases bP.1 a with rfl|a
  ·exact h.1.q
  ·exact kT h.2 t a
theorem ChV.i{cls:List Cl}{n h:Nat}{c:Ch}(a:ChV cls n h c):StQ h c.st/\k8 cls c:=⟨⟨W7 a.aV,kT a.aS,a.size⟩,fun _=>⟨a.used,a.last⟩⟩
theorem sI{cls:List Cl}{n:Nat}:∀{l:List Ch},Q9 cls n 0 l.reverse->OU cls l
 |[],_=>trivial
 |c::low,h=>by
  obtain⟨b,a⟩:=iR.1 h;exact⟨b.i,sI a⟩
theorem gH:∀{t:List AB} {ns:List Int} {v:Int},v∈(AQ ns t).2->v∈ns\/∃p∈t,p.kind=1/\p.value=v
 |[],_,_,h=> .inl h
 |p::t,ns,v,h=>by
  have c:v∈(AQ (BU ns p) t).2:=h;rcases gH c with a|⟨q,d,e⟩
  ·unfold BU at a;split at a
   ·rename_i b;unfold CY at a;split at a
    ·exact .inl a
    ·rcases bO.1 a with a|a
     ·exact .inl a
     ·simp at a;exact .inr ⟨p,aE,b,a.symm⟩
   ·exact .inl a
  ·exact .inr ⟨q,bA _ d,e⟩
theorem X8:∀{ts:List (List AB)} {ns:List Int} {v:Int},v∈(AT ns ts).2->v∈ns\/∃t∈ts,∃p∈t,p.kind=1/\p.value=v
 |[],_,_,h=> .inl h
 |t::ts,ns,v,h=>by
  have b:v∈(AT (AQ ns t).2 ts).2:=h;rcases X8 b with a|⟨u,d,c⟩
  ·rcases gH a with a|a
   ·exact .inl a
   ·exact .inr ⟨t,aE,a⟩
  ·exact .inr ⟨u,bA _ d,c⟩
theorem zA{N:Nat}{F:Int}{S:St}(h:StG N F S):∀v∈CS S,v<S.aQ:=by
 intro v c;unfold CS at c;rcases X8 c with e|⟨t,a,p,d,b,rfl⟩
 ·cases e
 ·rcases bO.1 a with a|a
  ·exact(((h.g t a).2 p d).2.1 b).2
  ·exact(((h.t t a).2 p d).2.1 b).2
structure ChA(n:Nat)(d:Ch):Prop where
 ne:d.cls≠[]
 gl:d.st.aV.length<=1000
 g1:1<=d.st.aV.length
 tl:d.st.aS.length=n
 vars:∀v∈CS d.st,v<d.st.aQ
theorem nZ{cls:List Cl}(hcl:∀c∈cls,TV c/\(AI c.head).kind≠1){n:Nat}:∀{l:List Ch},OU cls l->(∀d∈l,ChA n d)->Q9 cls n 0 (l.map I1).reverse
 |[],_,_=>trivial
 |c::low,h,hA=>by
  have ha:=hA c aE;obtain⟨⟨h1,h2⟩,h3⟩:=h;have ih:=nZ hcl (l:=low) h3 (fun d hd=>hA d (bA _ hd));rw[List.map_cons];refine iR.2 ⟨?_,ih⟩;rw[aZ];have hl:=h2 ha.ne
  exact aCM ⟨ha.g1, ha.gl, h1.aV, ha.tl, h1.aS, h1.size, ha.vars, by cases hx : c.cls with
   |nil=>exact absurd hx ha.ne
   |cons a b=>simp,hl.1,hl.2⟩ hcl
def Vs(S:St)(v:Int):Prop:=0<=v/\v<S.aQ
structure Like(ρ:Int->Int)(S D:St):Prop where
 g:D.aV=S.aV.map (AS ρ)
 t:D.aS=S.aS.map (AS ρ)
 inj:JY (Vs S) ρ
 lt:∀v,Vs S v->ρ v<D.aQ
theorem TmG.vin{S:St}{t:List AB}(h:TmG S.aQ t):VIn (Vs S) t:=fun p b a=>(h.2 p b).2.1 a
def onR(ρ:Int->Int)(S D:St)(v:Int):Int:=if v<S.aQ then ρ v else v-S.aQ+D.aQ
def onV(S:St)(v:Int):Prop:=Vs S v\/S.aQ<=v
theorem o7{ρ:Int->Int}{S D:St}(h:Like ρ S D):JY (onV S) (onR ρ S D):=by
 intro a b i d e;have c:∀v,onV S v->v<S.aQ->Vs S v:=fun v j k=>j.elim (fun x=>x) (fun x=>by omega);unfold onR at e;split at e<;>rename_i g<;>split at e<;>rename_i f
 ·exact h.inj a b (c a i g) (c b d f) e
 ·have:=h.lt a (c a i g);omega
 ·have:=h.lt b (c b d f);omega
 ·omega
theorem oC{ρ:Int->Int}{S D:St}{t:List AB}(h:VIn (Vs S) t):AS ρ t=AS (onR ρ S D) t:=R3 (V:=Vs S) (fun v a=>by unfold onR;rw[bD a.2]) h
theorem YN(ρ:Int->Int)(S D:St)(h:Int){t:List AB}(d:∀p∈t,p.kind=1->0<=p.value):AS (onR ρ S D) (A5 S.aQ h t)=A5 D.aQ h t/\VIn (onV S) (A5 S.aQ h t):=by
 refine⟨?_,?_⟩
 ·unfold AS A5;rw[List.map_map];apply List.map_congr_left;intro p c;show BX (onR ρ S D) (EH S.aQ h p)=EH _ h p;unfold EH;by_cases a:p.kind=1
  ·rw[bD a,bD a];unfold BX;rw[bD a];have e:=d p c a;show AB.mk p.kind p.name (onR ρ S D (p.value+S.aQ)) p.args=_;unfold onR;rw[bC aD,show p.value+S.aQ -S.aQ+D.aQ=p.value+D.aQ by omega]
  ·rw[bC a,bC a];split
   ·unfold BX;rw[bC a]
   ·unfold BX;rw[bC a]
 ·intro p c b;obtain⟨q,f,rfl⟩:=bQ.1 c;unfold EH at b⊢;split at b
  ·rename_i a;have e:=d q f a;rw[bD a];exact .inr (by show S.aQ<=q.value+S.aQ;omega)
  ·rename_i a;split at b
   ·exact absurd b a
   ·exact absurd b a
theorem ClG.nn{c:Cl}(h:ClG c):TV c:=⟨fun p b a=>((h.hd.2 p b).2.1 a).1,fun t d p b a=>(((h.bd t d).2 p b).2.1 a).1⟩
theorem p5{ρ:Int->Int}{S D:St}{N:Nat}{F:Int}(j:Like ρ S D)(k:StG N F S){c:Cl}(d:TV c)(h:Int):BH D c h=FN (onR ρ S D) (BH S c h)/\EIn (onV S) (BH S c h):=by
 have e:∀{t:List AB},VIn (Vs S) t->VIn (onV S) t:=fun a p i l=> .inl (a p i l);have f:∀t∈S.aV,VIn (Vs S) t:=fun t a=>(k.g t a).vin;have b:∀t∈S.aS,VIn (Vs S) t:=fun t a=>(k.t t a).vin;have o:S.aV.map (AS ρ)=S.aV.map (AS (onR ρ S D)):=List.map_congr_left fun t a=>oC (f t a);have n:S.aS.map (AS ρ)=S.aS.map (AS (onR ρ S D)):=List.map_congr_left fun t a=>oC (b t a);refine⟨?_,?_⟩
 ·unfold BH FN;simp only;rw[j.g,j.t,o,n,(YN ρ S D h d.1).1];congr 1
  ·cases S.aV<;>rfl
  ·rw[List.map_map];apply List.map_congr_left;intro t a;exact((YN ρ S D h (d.2 t a)).1).symm
  ·rw[List.map_tail]
 ·refine⟨?_,(YN ρ S D h d.1).2,?_,fun t a=>e (f t (List.mem_of_mem_tail a)),fun t a=>e (b t a)⟩
  ·show VIn _ (S.aV.headD [])
   cases hx:S.aV with
   |nil=>intro p i;cases i
   |cons g gs=>exact e (f g (by rw[hx];simp))
  ·intro t a;obtain⟨u,m,rfl⟩:=bQ.1 a;exact(YN ρ S D h (d.2 u m)).2
theorem XE{ρ:Int->Int}{S D:St}{N:Nat}{F:Int}(d:Like ρ S D)(o:StG N F S){c:Cl}(k:ClG c)(h:Int): (BD D c h).1=(BD S c h).1/\((BD S c h).1=0->Like (onR ρ S D) (BD S c h).2 (BD D c h).2):=by
 obtain⟨q,n⟩:=p5 d o k.nn h;have m:=RO (o7 d) n;have t:=k.past;unfold BD;rw[q,m];simp only;split
 ·refine⟨rfl,fun _=>⟨?_,rfl,?_,?_⟩⟩
  ·show(FN _ _).body++(FN _ _).behind=_;unfold FN;simp only;rw[bE]
  ·intro a b s p e
   have l:∀v,(0<=v/\v<S.aQ+C4 c)->onV S v:=fun v g=>by
    by_cases i:v<S.aQ
    ·exact .inl ⟨g.1,i⟩
    ·exact .inr aD
   exact o7 d a b (l a s) (l b p) e
  ·intro v g;have f:0<=v/\v<S.aQ+C4 c:=g;show onR ρ S D v<D.aQ+C4 c;unfold onR;split
   ·rename_i r;have:=d.lt v ⟨f.1,r⟩;omega
   ·omega
 ·exact⟨rfl,fun e=>by rename_i j;exact absurd e j⟩
theorem OO{ρ:Int->Int}{S D:St}(b:Like ρ S D){c:Cl}(a: (AI c.head).kind≠1):DJ D c=DJ S c:=by
 have e:AI (CH D)=BX ρ (AI (CH S)):=by
  unfold CH AI;rw[b.g]
  cases S.aV with
  |nil=>rfl
  |cons g gs=>cases g<;>rfl
 unfold DJ;rw[e,Bool.eq_iff_iff,CE,CE];constructor
 ·intro hx;have: (AI (CH S)).kind≠1:=by rw[hx,E5] at a;exact a
  rw[hx];unfold BX;rw[bC this]
 ·intro hx;rw[hx] at a;rw[hx];unfold BX;rw[bC a]
theorem VT{ρ:Int->Int}{S D:St}{N:Nat}{F:Int}(a:Like ρ S D)(b:StG N F S):∀(i:Nat) (cls:List Cl),(∀c∈cls,ClG c/\(AI c.head).kind≠1)->AR D i cls=AR S i cls
 |_,[],_=>rfl
 |i,c::cs,h=>by
  obtain⟨g,f⟩:=h c aE;have e:FV D c=FV S c:=by unfold FV;rw[OO a f,(XE a b g 0).1]
  rw[AR,AR,e,VT a b (i+1) cs (fun d j=>h d (bA _ j))]
theorem qH{ρ:Int->Int}{S D:St}(b:Like ρ S D){cls:List Cl}(h:∀c∈cls,(AI c.head).kind≠1):CV D cls=CV S cls:=by
 unfold CV;rw[Bool.eq_iff_iff,List.any_eq_true,List.any_eq_true];constructor
 ·rintro⟨c,a,hx⟩;exact⟨c,a,by rw[<-OO b (h c a)];exact hx⟩
 ·rintro⟨c,a,hx⟩;exact⟨c,a,by rw[OO b (h c a)];exact hx⟩
theorem J5(ρ:Int->Int)(t:List AB):AI (AS ρ t)=BX ρ (AI t):=by
 cases t with
 |nil=>rfl
 |cons p t=>rfl
theorem rX(ρ:Int->Int)(t:List AB)(n:Nat): (AS ρ t).take n=AS ρ (t.take n):=by unfold AS;rw[List.map_take]
theorem r9(ρ:Int->Int)(t:List AB)(n:Nat): (AS ρ t).drop n=AS ρ (t.drop n):=by unfold AS;rw[List.map_drop]
theorem jF(ρ:Int->Int):∀(n:Nat) (r:List AB),F2 n (AS ρ r)=AS ρ (F2 n r)
 |0,r=>by rw[F2,F2,PV,rX]
 |n+1,r=>by rw[F2,F2,PV,r9,jF ρ n]
theorem K2(ρ:Int->Int)(t:List AB)(i:Nat):AX (AS ρ t) i=AS ρ (AX t i):=by
 unfold AX
 cases t with
 |nil=>rfl
 |cons p t=>
  rw[bC (by simp[AS]),bC aE];exact jF ρ i t
theorem aBx{ρ:Int->Int}{S D:St}(h:Like ρ S D):CH D=AS ρ (CH S):=by
 unfold CH;rw[h.g]
 cases S.aV<;>rfl
theorem J7{ρ:Int->Int}{p:AB}(h:p.kind≠1):BX ρ p=p:=by unfold BX;rw[bC h]
theorem VN(ρ:Int->Int)(p:AB):AV (BX ρ p)=AV p:=by unfold AV;rw[E5]
theorem TD(ρ:Int->Int)(g:List AB):A8 (AS ρ g)=A8 g:=by
 unfold A8;rw[K2,K2,J5,J5,VN,VN]
theorem jU{p:AB}(h:AV p=0):p.kind≠1:=by
 intro e;unfold AV at h;rw[bD e] at h;exact absurd h aF
theorem aBR{g:List AB}(h:A8 g=0):AV (AI (AX g 0))=0/\AV (AI (AX g 1))=0:=by
 unfold A8 at h;split at h
 ·rename_i a;exact⟨a,h⟩
 ·rename_i a;exact absurd h a
theorem RN{ρ:Int->Int}{g:List AB}(h:A8 g=0):CC (AS ρ g)=CC g/\CB (AS ρ g)=CB g:=by
 obtain⟨b,a⟩:=aBR h;unfold CC CB;rw[K2,K2,J5,J5,J7 (jU b),J7 (jU a)];exact⟨rfl,rfl⟩
theorem aBc(ρ:Int->Int)(t:List AB):JS (AS ρ t)=JS t:=by unfold JS;rw[J5,E5]
theorem mG(ρ:Int->Int)(g:List AB):C6 (AS ρ g)=C6 g:=by
 unfold C6;rw[J5,E5,TF];by_cases h: (AI g).kind=1
 ·rw[h];rfl
 ·rw[J7 h]
theorem Like.tail{ρ:Int->Int}{S D:St}(h:Like ρ S D):Like ρ ⟨S.aV.tail,S.aS,S.aQ⟩ ⟨D.aV.tail,D.aS,D.aQ⟩:=⟨by show D.aV.tail=_;rw[h.g,List.map_tail],h.t,h.inj,h.lt⟩
theorem Like.more{ρ:Int->Int}{S D:St}(h:Like ρ S D){F:Int}(b:D.aQ<=F):Like ρ S ⟨D.aV,D.aS,F⟩:=⟨h.g,h.t,h.inj,fun v a=>by have:=h.lt v a;show ρ v<F;omega⟩
theorem nE{ρ:Int->Int}{A B:Cf}{N:Nat}{F:Int}(h:Like ρ A.now B.now)(d:StG N F A.now){a b:List AB}(e:TmG A.now.aQ a)(f:TmG A.now.aQ b):BT B (AS ρ a) (AS ρ b)=FN ρ (BT A a b)/\EIn (Vs A.now) (BT A a b):=by
 refine⟨?_,⟨e.vin,f.vin,(fun t c=>by cases c),fun t c=>(d.g t (List.mem_of_mem_tail c)).vin,fun t c=>(d.t t c).vin⟩⟩;unfold BT FN;simp only;rw[h.g,h.t,List.map_tail];rfl
theorem pE{ρ:Int->Int}{A B:Cf}{N:Nat}{F:Int}(h:Like ρ A.now B.now)(e:StG N F A.now){a b:List AB}(i:TmG A.now.aQ a)(f:TmG A.now.aQ b): (BJ B (AS ρ a) (AS ρ b)).1=(BJ A a b).1/\Like ρ (BJ A a b).2.now (BJ B (AS ρ a) (AS ρ b)).2.now:=by
 obtain⟨g,d⟩:=nE h e i f;have c:=RO h.inj d;unfold BJ;rw[g,c];simp only;refine⟨trivial,?_⟩;split
 ·exact⟨rfl,rfl,h.inj,h.lt⟩
 ·exact h
def atF(F:Int)(s:St):St:=⟨s.aV,s.aS,F⟩
def DO(cf:Cf)(s:St)(c:Cl)(h:Int):Int×Cf:=((BD s c h).1,⟨if(BD s c h).1=0 then⟨(BD s c h).2.aV,(BD s c h).2.aS,s.aQ+c.vars⟩ else⟨cf.now.aV,cf.now.aS,s.aQ+c.vars⟩,cf.chs⟩)
def QX(cs:List Cl)(now:St)(a:List Ch)(c:Ch):Int×Cf:=match c.cls with
 |[]=>(0,⟨atF now.aQ c.st,a⟩)
 |k::rest=>DO ⟨now,CA a c.st rest⟩ (atF now.aQ c.st) (cs.getD k EM) a.length
def BB(cs:List Cl)(cf:Cf):Int×Cf:=match cf.chs with
 |[]=>(2,cf)
 |c::low=>QX cs cf.now low c
def IY(cs:List Cl)(cf:Cf):List Nat->Int×Cf
 |[]=>(-1,cf)
 |k::rest=>if rest≠[]/\20<=cf.chs.length then(6,cf) else DO ⟨cf.now,CA cf.chs cf.now rest⟩ cf.now (cs.getD k EM) cf.chs.length
def takeD(cs:List Cl)(cf:Cf):Int×Cf:=
 if C6 (CH cf.now)=true then B7 cf (CH cf.now) else if CV cf.now cs=true then IY cs cf (AR cf.now 0 cs) else(12,cf)
def FP(cs:List Cl)(r:Int×Cf):Int×Cf:=if r.1=-1 then BB cs r.2 else r
def DB(cs:List Cl):Nat->Cf->Int×Cf
 |n,cf=>if cf.now.aV=[] then(1,cf) else match n with
  |0=>(5,cf)
  |m+1=>if(FP cs (takeD cs cf)).1≠0 then FP cs (takeD cs cf) else DB cs m (FP cs (takeD cs cf)).2
structure jc(A B:Cf):Prop where
 now:∃ρ,Like ρ A.now B.now
 len:A.chs.length=B.chs.length
 cls:∀(i:Nat) (c d:Ch),A.chs[i]?=some c->B.chs[i]?=some d->c.cls=d.cls/\∃ρ,Like ρ c.st (atF B.now.aQ d.st)
theorem jc.more{A B:Cf}(h:jc A B){now:St}{now':St}(a:∃ρ,Like ρ now now')(b:B.now.aQ<=now'.aQ):jc ⟨now,A.chs⟩ ⟨now',B.chs⟩:=by
 refine⟨a,h.len,fun i c d f j=>?_⟩;obtain⟨g,ρ,e⟩:=h.cls i c d f j;exact⟨g,ρ,e.more b⟩
theorem jc.cons{A B:Cf}(h:jc A B){c d:Ch}(e:c.cls=d.cls)(b:∃ρ,Like ρ c.st (atF B.now.aQ d.st)):jc ⟨A.now,c::A.chs⟩ ⟨B.now,d::B.chs⟩:=by
 refine⟨h.now,by simp[h.len],fun i x y hx a=>?_⟩
 cases i with
 |zero=>
  simp at hx a;subst hx;subst a;exact⟨e,b⟩
 |succ i=>exact h.cls i x y (by simpa using hx) (by simpa using a)
theorem jc.tail{A B:Cf}(h:jc A B){c d:Ch}{f e:List Ch}(b:A.chs=c::f)(a:B.chs=d::e):jc ⟨A.now,f⟩ ⟨B.now,e⟩/\c.cls=d.cls/\∃ρ,Like ρ c.st (atF B.now.aQ d.st):=by
 have g:=h.cls 0 c d (by rw[b];rfl) (by rw[a];rfl);refine⟨⟨h.now,?_,fun i x y hx j=>h.cls (i+1) x y (by rw[b];simpa using hx) (by rw[a];simpa using j)⟩,g⟩;have:=h.len;rw[b,a] at this;simpa using this
theorem jc.drop{A B:Cf}(h:jc A B)(n:Nat):jc ⟨A.now,A.chs.drop n⟩ ⟨B.now,B.chs.drop n⟩:=by
 refine⟨h.now,by simp[h.len],fun i c d b a=>?_⟩;rw[List.getElem?_drop] at b a;exact h.cls (n+i) c d b a
theorem jc.put{A B:Cf}(h:jc A B){s a:St}(b:∃ρ,Like ρ s (atF B.now.aQ a))(rest:List Nat):jc ⟨A.now,CA A.chs s rest⟩ ⟨B.now,CA B.chs a rest⟩:=by
 unfold CA;split
 ·exact h
 ·exact h.cons rfl b
def Ba(cs:List Cl):Prop:=∀c∈cs,ClG c/\(AI c.head).kind≠1/\C4 c<=c.vars
theorem Ba.at{cs:List Cl}(h:Ba cs)(k:Nat):ClG (cs.getD k EM)/\C4 (cs.getD k EM)<=(cs.getD k EM).vars:=by
 by_cases a:k<cs.length
 ·have e:cs.getD k EM=cs[k]:=by simp[a]
  rw[e];have:=h cs[k] (bG a);exact⟨this.1,this.2.2⟩
 ·have e:cs.getD k EM=EM:=by simp[List.getD,List.getElem?_eq_none (by omega:cs.length<=k)]
  rw[e];exact⟨⟨⟨by show(0:Nat)<=400;omega,fun p c=>by cases c⟩,by show(0:Nat)<=8;omega,fun t b=>by cases b⟩,aF⟩
theorem lP{A B:Cf}(h:jc A B){ρ:Int->Int}{s a:St}(i:Like ρ s a)(m:a.aQ=B.now.aQ){N:Nat}{F:Int}(l:StG N F s){c:Cl}(e:ClG c)(n:C4 c<=c.vars)(k:Int): (DO B a c k).1=(FZ A s c k).1/\jc (FZ A s c k).2 (DO B a c k).2:=by
 obtain⟨f,j⟩:=XE i l e k;have o:=e.past;unfold DO FZ;simp only;rw[f];refine⟨rfl,?_⟩;by_cases b: (BD s c k).1=0
 ·rw[bD b,bD b];refine h.more ⟨_,(j b).more (F:=a.aQ+c.vars) ?_⟩ (by show B.now.aQ<=a.aQ+c.vars;omega)
  have g: (BD a c k).2.aQ=a.aQ+C4 c:=by
   unfold BD
   have: (AL (BH a c k)).1=0:=by
    have d: (BD a c k).1=0:=by rw[f];exact b
    unfold BD at d;split at d
    ·assumption
    ·exact d
   rw[bD this]
  rw[g];omega
 ·rw[bC b,bC b];obtain⟨σ,hσ⟩:=h.now;exact h.more (now:=A.now) ⟨σ,hσ.more (by show B.now.aQ<=a.aQ+c.vars;omega)⟩ (by show B.now.aQ<=a.aQ+c.vars;omega)
theorem YM{cs:List Cl}(b:Ba cs){A B:Cf}(h:jc A B)(m:∀c∈A.chs,∃N F,StG N F c.st): (BB cs B).1=(B6 cs A).1/\jc (B6 cs A).2 (BB cs B).2:=by
 unfold BB B6
 cases e:A.chs with
 |nil=>
  have f:B.chs=[]:=List.eq_nil_of_length_eq_zero (by rw[<-h.len,e];rfl);rw[f];exact⟨rfl,h⟩
 |cons c j=>
  cases f:B.chs with
  |nil=>have:=h.len;rw[e,f] at this;simp at this
  |cons d i=>
   obtain⟨t1,n,ρ,g⟩:=h.tail e f;obtain⟨N,F,l⟩:=m c (by rw[e];simp);have a:j.length=i.length:=t1.len;simp only;unfold QX KP;rw[<-n]
   cases o:c.cls with
   |nil=>exact⟨rfl,t1.more ⟨ρ,g⟩ (Int.le_refl _)⟩
   |cons k rest=>
    simp only;rw[<-a];exact lP (A:=⟨A.now,CA j c.st rest⟩) (B:=⟨B.now,CA i d.st rest⟩) (t1.put ⟨ρ,g⟩ rest) g rfl l (b.at k).1 (b.at k).2 _
theorem mB{cs:List Cl}(a:Ba cs){A B:Cf}(h:jc A B){N:Nat}{F:Int}(d:StG N F A.now)(l:List Nat): (IY cs B l).1=(EA cs A l).1/\jc (EA cs A l).2 (IY cs B l).2:=by
 obtain⟨ρ,c⟩:=h.now
 cases l with
 |nil=>exact⟨rfl,h⟩
 |cons k rest=>
  rw[IY,EA,<-h.len];by_cases b:rest≠[]/\20<=A.chs.length
  ·rw[bD b,bD b];exact⟨rfl,h⟩
  ·rw[bC b,bC b];exact lP (A:=⟨A.now,CA A.chs A.now rest⟩) (B:=⟨B.now,CA B.chs B.now rest⟩) (h.put ⟨ρ,c⟩ rest) c rfl d (a.at k).1 (a.at k).2 _
theorem UF{A B:Cf}(h:jc A B): (E9 B).1=(E9 A).1/\jc (E9 A).2 (E9 B).2:=by
 obtain⟨ρ,a⟩:=h.now;exact⟨rfl,h.more ⟨ρ,a.tail⟩ (Int.le_refl _)⟩
theorem oD{A B:Cf}(h:jc A B){ρ:Int->Int}(c:Like ρ A.now B.now){N:Nat}{F:Int}(i:StG N F A.now){a b:List AB}(l:TmG A.now.aQ a)(j:TmG A.now.aQ b): (BJ B (AS ρ a) (AS ρ b)).1=(BJ A a b).1/\jc (BJ A a b).2 (BJ B (AS ρ a) (AS ρ b)).2:=by
 obtain⟨k,e⟩:=pE c i l j;refine⟨k,?_⟩;have d: (BJ A a b).2.chs=A.chs:=by unfold BJ;simp only;split<;>rfl
 have g: (BJ B (AS ρ a) (AS ρ b)).2.chs=B.chs:=by unfold BJ;simp only;split<;>rfl
 have f: (BJ B (AS ρ a) (AS ρ b)).2.now.aQ=B.now.aQ:=by unfold BJ;simp only;split<;>rfl
 have:=h.more ⟨ρ,e⟩ (Int.le_of_eq f.symm);rw[<-d,<-g] at this;exact this
theorem uY{A B:Cf}(h:jc A B)(ρ:Int->Int)(g:List AB): (EP B (AS ρ g)).1=(EP A g).1/\jc (EP A g).2 (EP B (AS ρ g)).2:=by
 unfold EP;rw[TD];by_cases a:A8 g=0
 ·rw[bD a,bD a,(RN a).1,(RN a).2];by_cases b:CC g<CB g
  ·rw[bD b,bD b];exact UF h
  ·rw[bC b,bC b];exact⟨rfl,h⟩
 ·rw[bC a,bC a];exact⟨rfl,h⟩
theorem aAq(ρ:Int->Int)(v:Int):AS ρ (G7 v)=G7 v:=by
 show [BX ρ _]=_;rw[J7 aE];rfl
theorem aAY(ρ:Int->Int)(v:Int):AS ρ (BY v)=BY v:=by
 show [BX ρ _]=_;rw[J7 aE];rfl
theorem xK(ρ:Int->Int):AS ρ D6=D6:=by
 show [BX ρ _]=_;rw[J7 aE];rfl
theorem tD{A B:Cf}(h:jc A B){ρ:Int->Int}(c:Like ρ A.now B.now){N:Nat}{F:Int}(d:StG N F A.now){g:List AB}(e:TmG A.now.aQ g): (EC B (AS ρ g)).1=(EC A g).1/\jc (EC A g).2 (EC B (AS ρ g)).2:=by
 unfold EC;rw[TD];by_cases a:A8 g=0
 ·rw[bD a,bD a,(RN a).1,(RN a).2];by_cases b:CC g+CB g< -999999999\/999999999<CC g+CB g
  ·rw[bD b,bD b];exact⟨rfl,h⟩
  ·rw[bC b,bC b,K2];have:=oD h c d (iD b) (DA e 2);rw[aAq] at this;exact this
 ·rw[bC a,bC a];exact⟨rfl,h⟩
theorem aAL{A B:Cf}(h:jc A B){ρ:Int->Int}(a:Like ρ A.now B.now)(t:List AB): (D2 B (AS ρ t)).1=(D2 A t).1/\jc (D2 A t).2 (D2 B (AS ρ t)).2:=by
 unfold D2;rw[aBc,<-h.len];by_cases b:JS t=0
 ·rw[bD b,bD b];by_cases e:20<=A.chs.length
  ·rw[bD e,bD e];exact⟨rfl,h⟩
  ·rw[bC e,bC e];refine⟨rfl,?_⟩;have f:=h.cons (c:=⟨⟨A.now.aV.tail,A.now.aS,A.now.aQ⟩,[]⟩) (d:=⟨⟨B.now.aV.tail,B.now.aS,B.now.aQ⟩,[]⟩) rfl ⟨ρ,a.tail⟩;refine f.more (now:=⟨[t,BY A.chs.length,D6],A.now.aS,A.now.aQ⟩) (now':=⟨[AS ρ t,BY A.chs.length,D6],B.now.aS,B.now.aQ⟩) ⟨ρ,?_,a.t,a.inj,a.lt⟩ (Int.le_refl _);show _=[AS ρ t,AS ρ _,AS ρ _];rw[aAY,xK]
 ·rw[bC b,bC b];exact⟨rfl,h⟩
theorem rK{A B:Cf}(h:jc A B){ρ:Int->Int}(f:Like ρ A.now B.now){N:Nat}{F:Int}(j:StG N F A.now){g:List AB}(i:TmG A.now.aQ g)(k: (AI g).kind≠1): (B7 B (AS ρ g)).1=(B7 A g).1/\jc (B7 A g).2 (B7 B (AS ρ g)).2:=by
 unfold B7;rw[J5,J7 k,K2,K2];by_cases c1: (AI g).kind=4
 ·rw[bD c1,bD c1];have:=h.drop (A.chs.length -(AI g).value.toNat);unfold FJ;rw[<-h.len];exact UF this
 rw[bC c1,bC c1];by_cases c: (AI g).name=XN
 ·rw[bD c,bD c];exact UF h
 rw[bC c,bC c];by_cases e: (AI g).name=eqB
 ·rw[bD e,bD e];exact oD h f j (DA i 0) (DA i 1)
 rw[bC e,bC e];by_cases a: (AI g).name=SW
 ·rw[bD a,bD a];exact uY h ρ g
 rw[bC a,bC a];by_cases b: (AI g).name=KS
 ·rw[bD b,bD b];exact tD h f j i
 rw[bC b,bC b];by_cases d: (AI g).name=WH
 ·rw[bD d,bD d];exact aAL h f _
 rw[bC d,bC d];exact⟨rfl,h⟩
theorem tL{cs:List Cl}(a:Ba cs){A B:Cf}(h:jc A B){N:Nat}{F:Int}(d:StG N F A.now)(g:A.now.aV≠[]): (takeD cs B).1=(DF cs A).1/\jc (DF cs A).2 (takeD cs B).2:=by
 obtain⟨ρ,b⟩:=h.now;have i:∀c∈cs,ClG c/\(AI c.head).kind≠1:=fun c e=>⟨(a c e).1,(a c e).2.1⟩
 have j:=SA d g;unfold takeD DF;rw[aBx b,mG,qH b (fun c e=>(i c e).2),VT b d 0 cs i];by_cases c1:C6 (CH A.now)=true
 ·rw[bD c1,bD c1];refine rK h b d j ?_;unfold C6 at c1;simp only[Bool.or_eq_true,Bool.and_eq_true,beq_iff_eq] at c1;omega
 rw[bC c1,bC c1];by_cases f:CV A.now cs=true
 ·rw[bD f,bD f];exact mB a h d _
 rw[bC f,bC f];exact⟨rfl,h⟩
def noC(p:AB):AB:=if p.kind=4 then { p with value:=0 } else p
def KA(t:List AB):List AB:=t.map noC
theorem aCg(v:Int)(p:AB):isV v (noC p)=isV v p:=by
 unfold isV noC;split
 ·rename_i h;simp[h]
 ·rfl
theorem kC(v:Int)(x:List AB):∀(t:List AB),KA (AP v x t)=AP v (KA x) (KA t)
 |[]=>rfl
 |p::t=>by
  have a:=kC v x t;have e:KA (p::t)=noC p::KA t:=rfl;rw[e,AP,AP,aCg,<-a];unfold KA;rw[bE];split<;>rfl
theorem US:∀(b:List (List AB)),AO (b.map KA)=AO b
 |[]=>rfl
 |t::b=>by
  have a:=US b;rw[List.map_cons,AO,AO,a];unfold KA;rw[aZ]
structure Eb(e e':Eqn):Prop where
 f:e.f=e'.f
 s:e.s=e'.s
 b:e.body.map KA=e'.body.map KA
 be:e.behind=e'.behind
 te:e.aS=e'.aS
theorem Eb.size{e a:Eqn}(h:Eb e a):e.size=a.size:=by
 unfold Eqn.size;rw[h.f,h.s,h.be,h.te,<-US e.body,h.b,US]
theorem Eb.put{e a:Eqn}(h:Eb e a)(v:Int)(x:List AB):Eb (e.put v x) (a.put v x):=by
 have k:∀b:List (List AB),(b.map (AP v x)).map KA=(b.map KA).map (AP v (KA x)):=fun b=>by
  rw[List.map_map,List.map_map];exact List.map_congr_left fun t _=>kC v x t
 refine⟨?_,?_,?_,?_,?_⟩
 ·show AP v x e.f=_;rw[h.f];rfl
 ·show AP v x e.s=_;rw[h.s];rfl
 ·show(e.body.map (AP v x)).map KA=(a.body.map (AP v x)).map KA;rw[k,k,h.b]
 ·show e.behind.map (AP v x)=_;rw[h.be];rfl
 ·show e.aS.map (AP v x)=_;rw[h.te];rfl
theorem nS{e a:Eqn}(h:Eb e a)(v:Int)(x:List AB): (A6 e v x).1=(A6 a v x).1/\Eb (A6 e v x).2 (A6 a v x).2:=by
 have b:=h.put v x;unfold A6;rw[b.size];split
 ·exact⟨rfl,h⟩
 ·split
  ·exact⟨rfl,h⟩
  ·exact⟨rfl,b⟩
theorem aBa{e b:Eqn}(h:Eb e b): (BG e).1=(BG b).1/\Eb (BG e).2 (BG b).2:=by
 obtain⟨m,n,t,v,u⟩:=e;obtain⟨r,k,j,o,l⟩:=b;obtain⟨i,d,a,c,g⟩:=h;simp only at i d a c g;subst i;subst d;subst c;subst g
 cases m with
 |nil=>exact⟨rfl,⟨rfl,rfl,a,rfl,rfl⟩⟩
 |cons p f=>
  cases n with
  |nil=>exact⟨rfl,⟨rfl,rfl,a,rfl,rfl⟩⟩
  |cons q s=>
   unfold BG;simp only;split
   ·exact⟨rfl,⟨rfl,rfl,a,rfl,rfl⟩⟩
   ·split
    ·refine nS ?_ _ _;exact⟨rfl,rfl,a,rfl,rfl⟩
    ·split
     ·refine nS ?_ _ _;exact⟨rfl,rfl,a,rfl,rfl⟩
     ·exact⟨rfl,⟨rfl,rfl,a,rfl,rfl⟩⟩
theorem eV:∀(n:Nat) {e e':Eqn},Eb e e'->(B1 n e).1=(B1 n e').1
 |0,_,_,_=>rfl
 |n+1,e,e',h=>by
  obtain⟨a,c⟩:=aBa h;have b:F6 e=F6 e':=by unfold F6;rw[h.f,h.s]
  rw[B1,B1,b,a];split
  ·rfl
  ·split
   ·exact eV n c
   ·exact a
theorem xC{e a:Eqn}(h:Eb e a): (AL e).1=(AL a).1:=by
 have:KG e=KG a:=by unfold KG;rw[h.f,h.s]
 unfold AL;rw[this];exact eV _ h
theorem aCK(off h k:Int)(p:AB):noC (EH off h p)=noC (EH off k p):=by
 unfold EH;split
 ·rfl
 ·split
  ·rename_i a;unfold noC;rw[bD a,bD a]
  ·rfl
theorem aCx{s:St}{c:Cl}(b:∀p∈c.head,p.kind≠4)(h k:Int): (BD s c h).1=(BD s c k).1:=by
 have d:Eb (BH s c h) (BH s c k):=by
  refine⟨rfl,?_,?_,rfl,rfl⟩
  ·show A5 s.aQ h c.head=A5 s.aQ k c.head;unfold A5;refine List.map_congr_left fun p a=>?_;unfold EH;rw[bC (b p a),bC (b p a)]
  ·show(c.body.map (A5 s.aQ h)).map KA=(c.body.map (A5 s.aQ k)).map KA;rw[List.map_map,List.map_map];refine List.map_congr_left fun t _=>?_;show(t.map _).map _=(t.map _).map _;rw[List.map_map,List.map_map];exact List.map_congr_left fun p _=>aCK _ _ _ p
 have e:=xC d;unfold BD;rw[e];split<;>rfl
theorem ClQ.cut{c:Cl}(h:ClQ c):∀p∈c.head,p.kind≠4:=by
 intro p a;rcases h.parts p a with h|h|h<;>(rw[h.1];decide)
theorem iT{S:St}:∀{i:Nat} {cs:List Cl} {k:Nat},k∈AR S i cs->∃c∈cs,cs.getD (k-i) EM=c/\i<=k/\(BD S c 0).1≠ -1
 |i,[],k,h=>by simp[AR] at h
 |i,c::cs,k,h=>by
  rw[AR] at h;rcases bO.1 h with h|h
  ·split at h
   ·rename_i a;simp at h;subst h;unfold FV at a;rw[Bool.and_eq_true] at a;exact⟨c,aE,by rw[Nat.sub_self];rfl,aX _,of_decide_eq_true a.2⟩
   ·cases h
  ·obtain⟨d,g,f,j,b⟩:=iT h;refine⟨d,bA _ g,?_,aD,b⟩;have e:k-i=(k-(i+1))+1:=aD;rw[e];exact f
theorem yU{cs:List Cl}(e:∀c∈cs,ClQ c){k:Int}{cf:Cf}(h:PlQ cs (k,cf)): (B6 cs cf).1≠ -1:=by
 have b:=h.chs;simp only at b;unfold B6
 cases l:cf.chs with
 |nil=>exact(by decide: (2:Int)≠ -1)
 |cons c a=>
  rw[l] at b;obtain⟨⟨r,n⟩,q⟩:=b;simp only;unfold KP;split
  ·exact(by decide: (0:Int)≠ -1)
  ·rename_i k rest f;have j:=n (by rw[f];simp);rw[f] at j;obtain⟨o,g⟩:=j;rw[bM] at o g;obtain⟨d,m,i,_,p⟩:=iT (jZ g);rw[Nat.sub_zero] at i;rw[i];show(BD c.st d a.length).1≠ -1;rw[aCx (e d m).cut _ 0];exact p
theorem ZH{cs:List Cl}(a:∀c∈cs,ClQ c){r:Int×Cf}(h:PlQ cs r):BI cs r=if r.1=-1 then B6 cs r.2 else r:=by
 obtain⟨k,cf⟩:=r;unfold BI;rw[EL];split
 ·rw[EL,bC (yU a h)]
 ·rfl
theorem Y5{A B:Cf}(h:jc A B):B.now.aV=[]↔A.now.aV=[]:=by
 obtain⟨ρ,a⟩:=h.now;rw[a.g,List.map_eq_nil_iff]
theorem wH{cs:List Cl}(d:Ba cs)(g:∀c∈cs,ClQ c){a b:Int×Cf}(e:b.1=a.1)(h:jc a.2 b.2)(f:PlQ cs a)(i:∀c∈a.2.chs,∃N F,StG N F c.st): (FP cs b).1=(BI cs a).1/\jc (BI cs a).2 (FP cs b).2:=by
 rw[ZH g f];unfold FP;rw[e];split
 ·exact YM d h i
 ·exact⟨e,h⟩
theorem aBd{cs:List Cl}(a:∀c∈cs,ClQ c){r:Int×Cf}(h:PlQ cs r):PlQ cs (BI cs r):=KC (P:=PlQ cs) (fun _ h=>dL a h) _ r h
theorem VM(cs:List Cl)(cf:Cf):BI cs (0,cf)=(0,cf):=by
 unfold BI;rw[EL];rfl
theorem T3{cs:List Cl}{n:Nat}{r:Int×Cf}(a: (BI cs r).1=0):CG cs n r=CG cs n (0,(BI cs r).2):=by
 have e:BI cs r=(0,(BI cs r).2):=Prod.ext a rfl;unfold CG;rw[VM,e]
theorem YU{cs:List Cl}{n:Nat}{r:Int×Cf}(a: (BI cs r).1≠0):CG cs n r=BI cs r:=by
 unfold CG;rw[bD a]
theorem m5{cs:List Cl}{G:Nat}{F:Int}{t:Nat}(a:uw cs){r:Int×Cf}(h:CfG cs G F t r.2):CfG cs G F t (BI cs r).2:=KC (P:=fun r=>CfG cs G F t r.2) (fun _ h=>N6 a h) _ r h
theorem O9{cs:List Cl}(b:Ba cs)(g:∀c∈cs,ClQ c){G:Nat}{F:Int}:∀(n t:Nat) {A B:Cf},jc A B->PlQ cs (0,A)->CfG cs G F t A->(DB cs n B).1=(CG cs n (0,A)).1/\jc (CG cs n (0,A)).2 (DB cs n B).2
 |n,t,A,B,h,hQ,hG=>by
  have d:uw cs:=fun c d=>(b c d).1;unfold DB CG;rw[VM];simp only[ne_eq,not_true_eq_false,if_false];by_cases a:A.now.aV=[]
  ·rw[bD a,bD ((Y5 h).2 a)];exact⟨rfl,h⟩
  rw[bC a,bC (fun e=>a ((Y5 h).1 e))]
  cases n with
  |zero=>exact⟨rfl,h⟩
  |succ m=>
   simp only;obtain⟨p,o⟩:=tL b h hG.now a;have i:=yK g hQ a;have k:=UO d hG a;obtain⟨l,j⟩:=wH b g p o i (fun c d=>⟨_,_,(k.chs c d).1⟩);rw[l];by_cases f: (BI cs (DF cs A)).1=0
   ·rw[bC (by simpa using f),T3 f];refine O9 b g m (t+1) j ?_ (m5 d k);have:=aBd g i;exact⟨this.chs,fun _=>this.now f⟩
   ·rw[bD f,YU f];exact⟨l,j⟩
theorem eT{V:Int->Prop}{ρ:Int->Int}(g:JY V ρ){ns:List Int}{v:Int}(c:∀a∈ns,V a)(d:V v):CY (ns.map ρ) (ρ v)=(CY ns v).map ρ:=by
 have e:ρ v∈ns.map ρ↔v∈ns:=by
  rw[bQ];exact⟨fun⟨a,b,f⟩=>by rw[<-g a v (c a b) d f];exact b,fun h=>⟨v,h,rfl⟩⟩
 unfold CY;by_cases h:v∈ns
 ·rw[bD h,bD (e.2 h)]
 ·rw[bC h,bC (fun x=>h (e.1 x)),bE];rfl
theorem X0{V:Int->Prop}{ρ:Int->Int}(d:JY V ρ){v:Int}(c:V v):∀{ns:List Int},(∀a∈ns,V a)->(ns.map ρ).idxOf (ρ v)=ns.idxOf v
 |[],_=>rfl
 |a::ns,hn=>by
  have e:=X0 d c (ns:=ns) (fun b f=>hn b (bA _ f));rw[List.map_cons,List.idxOf_cons,List.idxOf_cons,e];by_cases h:a=v
  ·subst h;simp
  ·have g:ρ a≠ρ v:=fun x=>h (d a v (hn a aE) c x);rw[beq_false_of_ne h,beq_false_of_ne g]
theorem yS{V:Int->Prop}{ns:List Int}{v:Int}(c:∀a∈ns,V a)(d:V v):∀a∈CY ns v,V a:=by
 unfold CY;split
 ·exact c
 ·intro a b;rcases bO.1 b with b|b
  ·exact c a b
  ·rw[List.mem_singleton.1 b];exact d
theorem fG{V:Int->Prop}{ρ:Int->Int}(c:JY V ρ):∀(t:List AB) (ns:List Int),(∀a∈ns,V a)->VIn V t->(AQ (ns.map ρ) (AS ρ t)).1=(AQ ns t).1/\(AQ (ns.map ρ) (AS ρ t)).2=(AQ ns t).2.map ρ/\∀a∈(AQ ns t).2,V a
 |[],ns,hn,_=>⟨rfl,rfl,hn⟩
 |p::t,ns,hn,ht=>by
  have d:BU (ns.map ρ) (BX ρ p)=(BU ns p).map ρ/\∀a∈BU ns p,V a:=by
   unfold BU;rw[E5];split
   ·rename_i b;rw[KZ b];exact⟨eT c hn (ht.head b),yS hn (ht.head b)⟩
   ·exact⟨rfl,hn⟩
  have h:IW (ns.map ρ) (BX ρ p)=IW ns p:=by
   unfold IW;rw[E5];split
   ·rename_i b;rw[KZ b,eT c hn (ht.head b),X0 c (ht.head b) (yS hn (ht.head b))];unfold BX;rw[bD b]
   ·rename_i b;unfold BX;rw[bC b]
  obtain⟨g,f,e⟩:=fG c t (BU ns p) d.2 ht.tail;refine⟨?_,?_,e⟩
  ·show IW _ (BX ρ p)::(AQ (BU (ns.map ρ) (BX ρ p)) (AS ρ t)).1=IW ns p::_;rw[h,d.1,g]
  ·show(AQ (BU (ns.map ρ) (BX ρ p)) (AS ρ t)).2=_;rw[d.1,f];rfl
theorem RM{V:Int->Prop}{ρ:Int->Int}(b:JY V ρ):∀(ts:List (List AB)) (ns:List Int),(∀a∈ns,V a)->(∀t∈ts,VIn V t)->(AT (ns.map ρ) (ts.map (AS ρ))).1=(AT ns ts).1/\∀a∈(AT ns ts).2,V a
 |[],ns,hn,_=>⟨rfl,hn⟩
 |t::ts,ns,hn,ht=>by
  obtain⟨f,e,c⟩:=fG b t ns hn (ht t aE);obtain⟨h,g⟩:=RM b ts (AQ ns t).2 c (fun u d=>ht u (bA _ d));refine⟨?_,g⟩;show(AQ (ns.map ρ) (AS ρ t)).1::(AT (AQ (ns.map ρ) (AS ρ t)).2 (ts.map (AS ρ))).1=(AQ ns t).1::(AT (AQ ns t).2 ts).1;rw[f,e,h]
theorem uW{ρ:Int->Int}{S D:St}(h:Like ρ S D){N:Nat}{F:Int}(b:StG N F S)(a:List ByteArray):EB a D.aS=EB a S.aS:=by
 have e:=(RM h.inj S.aS [] aE (fun t c=>(b.t t c).vin)).1;unfold EB;rw[h.t];rw[List.map_nil] at e;rw[e]
theorem aCj{ns:List Int}(h:ns.Nodup)(v:Int): (CY ns v).Nodup:=by
 unfold CY;split
 ·exact h
 ·rename_i f;rw[List.nodup_append];exact⟨h,aE,fun a d b c=>by rw[List.mem_singleton.1 c];intro e;exact f (e ▸ d)⟩
theorem n6:∀(t:List AB) {ns:List Int},ns.Nodup->(AQ ns t).2.Nodup
 |[],_,h=>h
 |p::t,ns,h=>by
  refine n6 t (ns:=BU ns p) ?_;unfold BU;split
  ·exact aCj h _
  ·exact h
theorem jR:∀(ts:List (List AB)) {ns:List Int},ns.Nodup->(AT ns ts).2.Nodup
 |[],_,h=>h
 |t::ts,_,h=>jR ts (n6 t h)
theorem zY(σ τ:Int->Int)(t:List AB):AS σ (AS τ t)=AS (fun v=>σ (τ v)) t:=by
 unfold AS;rw[List.map_map];refine List.map_congr_left fun p _=>?_;show BX σ (BX τ p)=_;unfold BX;by_cases h:p.kind=1
 ·simp[h]
 ·simp[h]
theorem Like.ren{ρ:Int->Int}{S D:St}(h:Like ρ S D){N:Nat}{F:Int}(w:StG N F S):∃σ,Like σ (CX S) D:=by
 obtain⟨e,G,A⟩:=RW S
 have q:∀a∈CS S,Vs S a:=(RM (V:=Vs S) (ρ:=ρ) h.inj (S.aV++S.aS) [] aE (fun t d=>by
  rcases bO.1 d with d|d
  ·exact(w.g t d).vin
  ·exact(w.t t d).vin)).2
 have H: (CS S).Nodup:=jR _ List.nodup_nil
 have m:∀v∈CS S,ρ ((CS S).getD (D9 (CS S) v).toNat 0)=ρ v:=fun v I=>by
  have r:=List.idxOf_lt_length_of_mem I;unfold D9;rw[Int.toNat_natCast,List.getD_eq_getElem?_getD,bU r,Option.getD_some,List.getElem_idxOf r]
 have c:∀t,VIn (· ∈CS S) t->AS (fun i=>ρ ((CS S).getD i.toNat 0)) (AS (D9 (CS S)) t)=AS ρ t:=fun t d=>by
  rw[zY];exact R3 (V:=(· ∈CS S)) m d
 have g:∀i:Int,0<=i->i<(CS S).length->∃u:i.toNat<(CS S).length,(CS S).getD i.toNat 0=(CS S)[i.toNat]:=fun i J r=>by
  have u:i.toNat<(CS S).length:=aD;exact⟨u,by rw[List.getD_eq_getElem?_getD,bU u];rfl⟩
 refine⟨fun i=>ρ ((CS S).getD i.toNat 0),?_,?_,?_,?_⟩
 ·rw[e];show D.aV=(S.aV.map _).map _;rw[h.g,List.map_map];exact List.map_congr_left fun t d=>(c t (G t d)).symm
 ·rw[e];show D.aS=(S.aS.map _).map _;rw[h.t,List.map_map];exact List.map_congr_left fun t d=>(c t (A t d)).symm
 ·intro a b k x j;rw[e] at k x;obtain⟨n,o⟩:=k;obtain⟨C,B⟩:=x;obtain⟨l,p⟩:=g a n o;obtain⟨s,E⟩:=g b C B;simp only[p,E] at j;have:=h.inj _ _ (q _ (bG l)) (q _ (bG s)) j;have y:=List.pairwise_iff_getElem.1 H;rcases Nat.lt_trichotomy a.toNat b.toNat with f|z|f
  ·exact absurd this (y _ _ l s f)
  ·omega
  ·exact absurd this.symm (y _ _ s l f)
 ·intro a k;rw[e] at k;obtain⟨n,o⟩:=k;obtain⟨l,p⟩:=g a n o;simp only[p];exact h.lt _ (q _ (bG l))
structure QD where
 aW:List ByteArray
 cf:Cf
structure SD where
 lim:Nat
 cls:List Cl
 q:Option QD
def DD(S:SD)(a:List ByteArray)(r:Int×Cf):Rep×SD:=
 if r.1=1 then(⟨1,EB a r.2.now.aS,0,0⟩,⟨S.lim,S.cls,some ⟨a,r.2⟩⟩) else(J9 r.1,⟨S.lim,S.cls,none⟩)
def DW(S:SD)(gs:List (List AB))(ns:List ByteArray):Int×Cf:=if 200<KH (BK gs ns).now then(7,BK gs ns) else DB S.cls S.lim (BK gs ns)
def DE(S:SD)(q:QD):Int×Cf:=if(BB S.cls q.cf).1=0 then DB S.cls S.lim (BB S.cls q.cf).2 else BB S.cls q.cf
def H7(S:SD)(a:ByteArray):Rep×SD:=match BM a with
 | .error e=>(⟨4,⟨#[]⟩,e.1,e.2⟩,⟨S.lim,S.cls,none⟩)
 | .ok (gs,ns)=>DD S (BE ns) (DW S gs ns)
def FB(S:SD):Rep×SD:=match S.q with
 |none=>(J9 3,S)
 |some q=>DD S q.aW (DE S q)
def rR(S:SD):SD:=⟨S.lim,S.cls,none⟩
structure U2(q:Qs)(d:QD):Prop where
 aW:d.aW=q.aW
 chs:jc ⟨DL,q.chs⟩ ⟨⟨[],[],d.cf.now.aQ⟩,d.cf.chs⟩
def aDE:Option Qs->Option QD->Prop
 |none,none=>True
 |some q,some d=>U2 q d
 |_,_=>False
structure jq(S:Se)(D:SD):Prop where
 lim:D.lim=S.lim
 cls:D.cls=S.cls
 q:aDE S.q D.q
theorem wP(F:Int):∃ρ,Like ρ DL ⟨[],[],F⟩:=⟨id,rfl,rfl,fun a b c=>by have f:=c.1;have e:a<0:=c.2;omega,fun v d=>by have f:=d.1;have e:v<0:=d.2;omega⟩
theorem aCi(t:List AB):AS id t=t:=by
 unfold AS;have:BX id=id:=funext fun p=>by unfold BX;split<;>rfl
 rw[this,List.map_id]
theorem RC(gs:List (List AB))(ns:List ByteArray):jc (BK gs ns) (BK gs ns):=by
 have e:AS id=id:=funext aCi;refine⟨⟨id,?_,?_,fun a b _ _ h=>h,fun v g=>g.2⟩,rfl,fun i c d f=>by simp[BK] at f⟩
 ·rw[e,List.map_id]
 ·rw[e,List.map_id]
theorem uD{A B:Cf}(h:jc A B)(k:∀c∈A.chs,∃N F,StG N F c.st):jc ⟨DL,A.chs.map I1⟩ ⟨⟨[],[],B.now.aQ⟩,B.chs⟩:=by
 refine⟨wP _,by simp[h.len],fun i c d a l=>?_⟩;simp only[List.getElem?_map] at a
 cases b:A.chs[i]? with
 |none=>rw[b] at a;simp at a
 |some e=>
  rw[b] at a;simp at a;subst a;obtain⟨j,ρ,f⟩:=h.cls i e d b l;obtain⟨N,F,g⟩:=k e (List.mem_of_getElem? b);exact⟨j,f.ren g⟩
theorem ZQ{S:Se}{D:SD}(h:jq S D)(a:List ByteArray){r b:Int×Cf}(e:b.1=r.1)(d:jc r.2 b.2)(f:∃N F,StG N F r.2.now)(i:∀c∈r.2.chs,∃N F,StG N F c.st): (DD D a b).1=(CT S a r).1/\jq (CT S a r).2 (DD D a b).2:=by
 unfold DD CT;rw[e];split
 ·obtain⟨ρ,l⟩:=d.now;obtain⟨N,F,g⟩:=f;rw[uW l g];exact⟨rfl,h.lim,h.cls,rfl,uD d i⟩
 ·exact⟨rfl,h.lim,h.cls,trivial⟩
theorem pD(cs:List Cl)(n a:St)(chs:List Ch)(h:n.aQ=a.aQ): (BB cs ⟨n,chs⟩).1=(BB cs ⟨a,chs⟩).1/\((BB cs ⟨n,chs⟩).1=0->(BB cs ⟨n,chs⟩).2=(BB cs ⟨a,chs⟩).2):=by
 unfold BB
 cases chs with
 |nil=>exact⟨rfl,fun e=>absurd (show(2:Int)=0 from e) aF⟩
 |cons c b=>
  simp only;unfold QX;rw[h]
  cases c.cls with
  |nil=>exact⟨rfl,fun _=>rfl⟩
  |cons k rest=>
   simp only;unfold DO;refine⟨rfl,fun e=>?_⟩;simp only at e⊢;rw[bD e,bD e]
theorem y9{S:Se}{D:SD}(h:jq S D)(a:ByteArray)(d:Ba S.cls)(j:∀c∈S.cls,ClQ c)(i:∀(gs:List (List AB)) (ns:List ByteArray),BM a= .ok (gs,ns)->CfG S.cls 1000 406400 0 (BK gs ns)/\QuR gs ns)(n:∀(gs:List (List AB)) (ns:List ByteArray),BM a= .ok (gs,ns)->(∃N F,StG N F (J3 S gs ns).2.now)/\∀c∈(J3 S gs ns).2.chs,∃N F,StG N F c.st): (H7 D a).1=(JE S a).1/\jq (JE S a).2 (H7 D a).2:=by
 unfold H7 JE
 cases g:BM a with
 |error e=>exact⟨rfl,h.lim,h.cls,trivial⟩
 |ok x=>
  obtain⟨gs,ns⟩:=x;simp only;obtain⟨k1,m⟩:=i gs ns g;obtain⟨k,l⟩:=n gs ns g
  have f: (DW D gs ns).1=(J3 S gs ns).1/\jc (J3 S gs ns).2 (DW D gs ns).2:=by
   unfold DW J3;rw[h.lim,h.cls];by_cases b:200<KH (BK gs ns).now
   ·rw[bD b,bD b];exact⟨rfl,RC gs ns⟩
   ·rw[bC b,bC b];exact O9 d j S.lim 0 (RC gs ns) (ZV m b) k1
  exact ZQ h _ f.1 f.2 k l
def qS(rd:List Tok->List ByteArray->Except (Int×Nat) (List AB×List Tok×List ByteArray)):Prop:=
 ∀l ns p b a,rd l ns= .ok (p,b,a)->2*p.length+b.length<=l.length+1
theorem eW(rd:List Tok->List ByteArray->Except (Int×Nat) (List AB×List Tok×List ByteArray))(h:qS rd):∀(k:Nat) (acc:List (List AB)) (l:List Tok) (ns:List ByteArray) (a1:List (List AB)) (l2:List Tok) (ns2:List ByteArray),A7 rd k acc l ns= .ok (a1,l2,ns2)->2*a1.flatten.length+l2.length<=2*acc.flatten.length+l.length
 |0,_,_,_,_,_,_,e=>by simp[A7] at e
 |k+1,acc,l,ns,a1,l2,ns2,e=>by
  rw[A7] at e
  cases b:rd l ns with
  |error x=>rw[b] at e;cases e
  |ok x=>
   obtain⟨p,c,a⟩:=x;have d:=h l ns p c a b;rw[b] at e
   cases c with
   |nil=>cases e
   |cons u f=>
    simp only at e;simp only[bM] at d;have g: (acc++[p]).flatten.length=acc.flatten.length+p.length:=aE;split at e
    ·split at e
     ·cases e
     ·have:=eW rd h k _ f a a1 l2 ns2 e;omega
    ·split at e
     ·simp only[cX,cY] at e;obtain⟨rfl,rfl,rfl⟩:=e;omega
     ·cases e
theorem fM:∀(f:Nat),qS (AM f)
 |0=>fun _ _ _ _ _ e=>by simp[AM] at e
 |f+1=>fun l ns p i d e=>by
  cases l with
  |nil=>simp[AM] at e
  |cons t l=>
  rw[AM] at e;split at e
  ·unfold G6 at e;split at e
   ·cases e
   ·simp only[cX,cY] at e;obtain⟨rfl,rfl,rfl⟩:=e;simp;omega
  ·split at e
   ·simp only[cX,cY] at e;obtain⟨rfl,rfl,rfl⟩:=e;simp;omega
   ·split at e
    ·cases l with
     |nil=>cases e
     |cons u c=>
      simp only[EF] at e;split at e
      ·cases b:A7 (AM f) 4 [] c ns with
       |error x=>rw[b] at e;cases e
       |ok x=>
        obtain⟨g,h,a⟩:=x;rw[b] at e;simp only[cX,cY] at e;obtain⟨rfl,rfl,rfl⟩:=e;have:=eW (AM f) (fM f) 4 [] c ns g h a b;simp only[List.flatten_nil,dA,bM] at this⊢;omega
      ·simp only[cX,cY] at e;obtain⟨rfl,rfl,rfl⟩:=e;simp;omega
    ·cases e
theorem tJ(f:Nat):qS (BS f):=fun l ns p d b e=>by
 cases l with
 |nil=>simp[BS] at e
 |cons t l=>
  simp only[BS] at e;split at e
  ·simp only[cX,cY] at e;obtain⟨rfl,rfl,rfl⟩:=e;simp;omega
  ·cases a:AM f (t::l) ns with
   |error x=>rw[a] at e;cases e
   |ok x=>
    obtain⟨h,g,c⟩:=x;rw[a] at e;simp only at e;split at e
    ·simp only[cX,cY] at e;obtain⟨rfl,rfl,rfl⟩:=e;exact fM f _ _ _ _ _ a
    ·cases e
theorem XP(f:Nat):∀(k:Nat) (acc:List (List AB)) (l:List Tok) (ns:List ByteArray) (a1:List (List AB)) (l2:List Tok) (ns2:List ByteArray),(∀q∈acc,q.length<=200)->l.length<=401->BN f k acc l ns= .ok (a1,l2,ns2)->∀q∈a1,q.length<=200
 |0,_,_,_,_,_,_,_,_,e=>by simp[BN] at e
 |k+1,acc,l,ns,a1,l2,ns2,hacc,Dx,e=>by
  rw[BN] at e
  cases d:BS f l ns with
  |error x=>rw[d] at e;cases e
  |ok x=>
   obtain⟨p,g,c⟩:=x;have h:=tJ f l ns p g c d;rw[d] at e
   cases g with
   |nil=>cases e
   |cons u i=>
    simp only at e;simp only[bM] at h
    have a:∀q∈acc++[p],q.length<=200:=fun q b=>by
     rcases bO.1 b with b|b
     ·exact hacc q b
     ·simp at b;subst b;omega
    split at e
    ·split at e
     ·cases e
     ·exact XP f k _ i c a1 l2 ns2 a aD e
    ·split at e
     ·cases e
     ·simp only[cX,cY] at e;obtain⟨rfl,rfl,rfl⟩:=e;exact a
theorem eU{c:List AB×List (List AB)}{l:List Tok}{ns:List ByteArray}{a:Cl}{b:List Tok}(h:JF c l ns= .ok (a,b)):a.body=c.2:=by
 cases l with
 |nil=>cases h
 |cons u l=>
  simp only[JF] at h;split at h
  ·simp only[cX,cY] at h;obtain⟨rfl,rfl⟩:=h;rfl
  ·cases h
theorem mH{f:Nat}{l:List Tok}{e:Cl}{g:List Tok}(m:l.length<=401)(h:BP f l= .ok (e,g)):∀q∈e.body,q.length<=200:=by
 cases l with
 |nil=>cases h
 |cons t l=>
  simp only[BP] at h
  cases c:AM f (t::l) [] with
  |error x=>rw[c] at h;cases h
  |ok x=>
   obtain⟨p,k,a⟩:=x;have i:=GY f _ _ _ _ _ c;rw[c] at h;simp only at h;split at h
   ·cases k with
    |nil=>cases h
    |cons u j=>
     simp only at h;simp only[bM] at i m;split at h
     ·cases d:BN f 8 [] j a with
      |error x=>rw[d] at h;cases h
      |ok x=>
       obtain⟨gs,o,n⟩:=x;rw[d] at h;simp only at h;rw[eU h];exact XP f _ _ _ _ _ _ _ (fun q b=>by simp at b) aD d
     ·rw[eU h];exact fun q b=>by simp at b
   ·cases h
theorem TY(f:Nat):∀(k:Nat) (acc:List Cl) (l:List Tok) (a:List Cl),l.length<=401->(∀c∈acc,∀q∈c.body,q.length<=200)->CF f k acc l= .ok a->∀c∈a,∀q∈c.body,q.length<=200
 |0,_,_,_,_,_,e=>by simp[CF] at e
 |_+1,_,[],_,_,_,e=>by simp[CF] at e
 |k+1,acc,t::l,a,Dx,hacc,e=>by
  rw[CF] at e;split at e
  ·simp only[cX] at e;subst e;exact hacc
  ·cases b:BP f (t::l) with
   |error x=>rw[b] at e;cases e
   |ok x=>
    obtain⟨c,g⟩:=x;rw[b] at e;have d:=MP b
    exact TY f k (acc++[c]) g a aD (fun x hx=>by
     rcases bO.1 hx with hx|hx
     ·exact hacc x hx
     ·simp at hx;subst hx;exact mH Dx b) e
theorem sJ{s:ByteArray}{a:List Cl}(h:CR s= .ok a):∀c∈a,∀q∈c.body,q.length<=200:=by
 unfold CR at h;split at h
 ·cases h
 ·have b: (AU s).length<=401:=by have:=FG s s.size 0;unfold AU;omega
  exact TY _ _ [] _ a b (fun c d=>by simp at d) h
theorem aDq{c:Cl}(h:ClR c)(a:∀g∈c.body,g.length<=200):ClQ c:=by
 refine⟨?_,fun p f=>(h.hp p f).q,V5 h.hw,fun g e=>?_⟩
 ·have a:=h.hb
  cases d:c.head with
  |nil=>rw[d] at a;simp[F7] at a
  |cons p t=>
   rw[d] at a;unfold F7 at a;rw[Bool.and_eq_true] at a;show p.kind=3;simpa using a.1
 ·rcases nV (h.bg g e) (a g e) with b|b
  ·exact .inl ⟨0,b⟩
  ·exact .inr b
structure SeU(S:Se):Prop where
 ok:zh S
 b:∀c∈S.cls,∀g∈c.body,g.length<=200
 i:∀q,S.q=some q->OU S.cls q.chs
theorem SeU.q{S:Se}(h:SeU S):∀c∈S.cls,ClQ c:=fun c a=>aDq (h.ok.cls c a).1 (h.b c a)
theorem SeU.nn{S:Se}(h:SeU S):∀c∈S.cls,TV c/\(AI c.head).kind≠1:=by
 intro c d;have e:=(h.ok.cls c d).2.2;refine⟨⟨fun p b a=>((e.hd.2 p b).2.1 a).1,fun t f p b a=>(((e.bd t f).2 p b).2.1 a).1⟩,?_⟩;rw[(h.q c d).top];decide
theorem YT{S:Se}(h:SeU S):SeU ⟨S.lim,S.cls,none⟩:=⟨⟨h.ok.l1,h.ok.l2,h.ok.cl,h.ok.cls,fun q a=>by cases a⟩,h.b,fun q a=>by cases a⟩
theorem oI{S:Se}(c:SeU S){b:List ByteArray}(v:b.length<=16)(u:∀x∈b,x.size<=12){r:Int×Cf}(h:Kep S.cls b.length 0 r)(s:PlQ S.cls r):SeU (CT S b (CG S.cls S.lim r)).2:=by
 have a:=c.ok;have i:=V9 a v u h;unfold CT at i⊢;split at i
 ·rename_i e;rw[bD e];refine⟨i,c.b,fun q l=>?_⟩;have C:=a.l2;obtain⟨B,o,A,m,z⟩:=ND (P:=Kep S.cls b.length) (fun _ _ h=>O7 a.g a.k h) (fun _ _ h j=>RE a.g a.k h j) S.lim 0 r h;have f:=P8 a.k S.lim 0 r h.inv aD h.out e;have t:=aCR c.q S.lim s;simp only[Option.some.injEq] at l;subst l;refine sI (n:=b.length) (nZ c.nn t (fun d k=>?_));obtain⟨w,y,D,g,gs,p,_⟩:=f.2 d k;exact⟨w,y,by rw[p];simp,m.tm.2 d k,zA (m.cf.chs d k).1⟩
 ·rename_i e;rw[bC e];exact YT c
theorem aDc{S:Se}(a:SeU S):SeU (IA S).2:=by
 unfold IA;split
 ·exact a
 ·rename_i q b;have h:=a.ok.q q b;exact oI a h.nl h.nz (L4 a.ok h) ⟨a.i q b,fun e=>by simp at e⟩
theorem aDh{S:Se}(a:SeU S):SeU (PF S):=YT a
theorem aDK{S:Se}(d:SeU S)(a:ByteArray):SeU (JE S a).2:=by
 unfold JE;split
 ·exact YT d
 ·rename_i gs ns c;have e:=F3 c;obtain⟨h,b⟩:=J4 (S:=S) e (IP c)
  have f: (BE ns).length<=16:=by
   have j: (BK gs ns).now.aS.length=(BE ns).length:=b.tm.1 rfl;have i: (BK gs ns).now.aS.length<=16:=b.cf.now.tl;omega
  unfold J3;split
  ·exact YT d
  ·rename_i g;exact oI d f (T7 c) b (ZV e g)
theorem aDm{S:Se}(b:SeU S)(s:ByteArray):SeU (EE S s).2:=by
 refine⟨YZ b.ok s,?_,fun q d=>by cases d⟩;unfold EE JG
 cases f:CR s with
 |error e=>exact b.b
 |ok g=>
  simp only;split
  ·exact b.b
  ·intro c a;rcases bO.1 a with a|a
   ·exact b.b c a
   ·exact sJ f c a
theorem aDv{lim:Nat}(e:1<=lim)(d:lim<=1000):SeU ⟨lim,[],none⟩:=⟨⟨e,d,aE,fun c a=>by simp at a,fun q b=>by cases b⟩,fun c a=>by simp at a,fun q b=>by cases b⟩
end Rf
