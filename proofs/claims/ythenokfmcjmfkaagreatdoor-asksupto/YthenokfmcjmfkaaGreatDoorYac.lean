import Derived.Test.YthenokfmcjmfkaaGreatDoorYab
namespace Rf
def ER(t:List AB):Prop:=∀p∈t,p.kind≠4
def RK(g:List AB):Prop:=(∃h,g=BY h)\/ER g
structure ClK(c:Cl):Prop where
 hd:ER c.head
 bd:∀g∈c.body,RK g
def GS(σ:List (Int×List AB))(t:List AB):List AB:=σ.foldl (fun t a=>AP a.1 a.2 t) t
def uq(P:AB->Prop)(e a:Eqn):Prop:=∃σ:List (Int×List AB),(∀b∈σ,∀p∈b.2,P p)/\a.body=e.body.map (GS σ)/\a.behind=e.behind.map (GS σ)/\a.aS=e.aS.map (GS σ)
theorem aAm(t:List AB):GS [] t=t:=rfl
theorem OE(ts:List (List AB)):ts.map (GS [])=ts:=by
 have:GS []=id:=funext aAm;rw[this,List.map_id]
theorem aAg(a b:List (Int×List AB))(t:List AB):GS (a++b) t=GS b (GS a t):=by unfold GS;rw[List.foldl_append]
theorem uq.refl(P:AB->Prop)(e:Eqn):uq P e e:=⟨[],aE,(OE _).symm,(OE _).symm,(OE _).symm⟩
theorem uq.trans{P:AB->Prop}{a b c:Eqn}(h:uq P a b)(k:uq P b c):uq P a c:=by
 obtain⟨σ,g,n,l,j⟩:=h;obtain⟨τ,m,k1,o,i⟩:=k
 have e:∀ts:List (List AB),(ts.map (GS σ)).map (GS τ)=ts.map (GS (σ++τ)):=fun ts=>by
  rw[List.map_map];exact List.map_congr_left (fun t _=>(aAg σ τ t).symm)
 refine⟨σ++τ,fun f d=>?_,by rw[k1,n,e],by rw[o,l,e],by rw[i,j,e]⟩;rcases bO.1 d with h|h
 ·exact g f h
 ·exact m f h
def SN(P:AB->Prop)(e:Eqn):Prop:=(∀p∈e.f,P p)/\∀p∈e.s,P p
theorem vF{P:AB->Prop}{e:Eqn}{v:Int}{x:List AB}(h:SN P e)(hx:∀p∈x,P p):SN P (A6 e v x).2/\uq P e (A6 e v x).2:=by
 have b:∀t:List AB,(∀p∈t,P p)->∀p∈AP v x t,P p:=fun t d p f=>by
  rcases JK f with⟨c,_⟩|c
  ·exact d p c
  ·exact hx p c
 unfold A6;split
 ·exact⟨h,uq.refl _ _⟩
 ·split
  ·exact⟨h,uq.refl _ _⟩
  ·refine⟨⟨b _ h.1,b _ h.2⟩,[(v,x)],?_,rfl,rfl,rfl⟩;intro g a;simp at a;subst a;exact hx
theorem aCn{P:AB->Prop}{e:Eqn}(h:SN P e):SN P (BG e).2/\uq P e (BG e).2:=by
 obtain⟨F,S,d,g,c⟩:=e;obtain⟨b,a⟩:=h;unfold BG;split
 ·rename_i p f q s j i;simp only at j i;subst j;subst i;split
  ·exact⟨⟨fun x hx=>b x (bA _ hx),fun x hx=>a x (bA _ hx)⟩,uq.refl P ⟨f,s,d,g,c⟩⟩
  ·split
   ·exact vF (e:=⟨f,(q::s).drop (CN (q::s)),d,g,c⟩) ⟨fun x hx=>b x (bA _ hx),fun x hx=>a x (bV hx)⟩ (fun x hx=>a x (List.mem_of_mem_take hx))
   ·split
    ·exact vF (e:=⟨(p::f).drop (CN (p::f)),s,d,g,c⟩) ⟨fun x hx=>b x (bV hx),fun x hx=>a x (bA _ hx)⟩ (fun x hx=>b x (List.mem_of_mem_take hx))
    ·exact⟨⟨b,a⟩,uq.refl _ _⟩
 ·exact⟨⟨b,a⟩,uq.refl _ _⟩
theorem YX{P:AB->Prop}:∀(n:Nat) (e:Eqn),SN P e->uq P e (B1 n e).2
 |0,e,_=>uq.refl _ _
 |n+1,e,h=>by
  have a:=aCn h;rw[B1];split
  ·exact uq.refl _ _
  ·split
   ·exact a.2.trans (YX n _ a.1)
   ·exact a.2
theorem fH{P:AB->Prop}{e:Eqn}(h:SN P e):uq P e (AL e).2:=YX _ e h
theorem iY{v:Int}{x:List AB}:∀{t:List AB},(∀p∈t,p.kind≠1)->AP v x t=t
 |[],_=>rfl
 |p::t,h=>by
  rw[AP,bC,iY (fun q a=>h q (bA _ a))]
  ·rfl
  ·intro e;unfold isV at e;simp at e;exact h p aE e.1
theorem W3{t:List AB}(h:∀p∈t,p.kind≠1):∀(σ:List (Int×List AB)),GS σ t=t
 |[]=>rfl
 |vx::σ=>by
  show GS σ (AP vx.1 vx.2 t)=t;rw[iY h];exact W3 h σ
theorem RH(σ:List (Int×List AB))(h:Int):GS σ (BY h)=BY h:=W3 (fun p a=>by simp[BY] at a;subst a;simp) σ
theorem vV(σ:List (Int×List AB)):GS σ D6=D6:=W3 (fun p a=>by simp[D6] at a;subst a;decide) σ
theorem RJ{t:List AB}{σ:List (Int×List AB)}(h:ER t)(hσ:∀a∈σ,ER a.2):ER (GS σ t):=by
 induction σ generalizing t with
 |nil=>exact h
 |cons a σ ih=>
  refine ih (t:=AP a.1 a.2 t) (fun p d=>?_) (fun u c=>hσ u (bA _ c));rcases JK d with⟨b,_⟩|b
  ·exact h p b
  ·exact hσ a aE p b
theorem YD{g:List AB}{σ:List (Int×List AB)}(h:RK g)(hσ:∀a∈σ,ER a.2):RK (GS σ g):=by
 rcases h with⟨v,rfl⟩|h
 ·exact .inl ⟨v,RH σ v⟩
 ·exact .inr (RJ h hσ)
theorem Q2(h:Int):¬ER (BY h):=fun e=>e ⟨4,⟨#[]⟩,h,0⟩ (by simp[BY]) rfl
theorem aCb{a b:Int}(h:BY a=BY b):a=b:=by simpa[BY] using h
theorem mZ{g:List AB}{σ:List (Int×List AB)}{h:Int}(a:RK g)(hσ:∀b∈σ,ER b.2)(e:GS σ g=BY h):g=BY h:=by
 rcases a with⟨v,rfl⟩|a
 ·rw[RH] at e;exact e
 ·exact absurd (e ▸ RJ a hσ) (Q2 h)
theorem aCz(off h v:Int):A5 off h (BY v)=BY h:=by simp[A5,BY,EH]
theorem fI{off h:Int}{t:List AB}(b:ER t):ER (A5 off h t):=by
 intro p a;unfold A5 at a;obtain⟨q,c,rfl⟩:=bQ.1 a;have:=b q c;unfold EH;split
 ·exact this
 ·exact this
def aBB(j:Nat)(gs:List (List AB)):Prop:=∃A,gs=A++[BY j,D6]/\∀h:Int,BY h∈A->(j:Int)<h
def Fit:Option Nat->List (List AB)->Prop
 |none,_=>True
 |some j,gs=>aBB j gs
def DR:List Ch->Option Nat
 |[]=>none
 |c::l=>if c.cls=[] then some l.length else DR l
def DC:List Ch->Nat
 |[]=>0
 |c::l=>(if c.cls=[] then c.st.aV.length else 0)+DC l
def GK(gs:List (List AB)):Prop:=∀g∈gs,RK g
def ShR:List Ch->Prop
 |[]=>True
 |c::l=>(Fit (DR l) c.st.aV/\GK c.st.aV/\(c.cls≠[]->∃g gs,c.st.aV=g::gs/\ER g))/\ShR l
def Rk(a B:Nat):List Ch->Prop
 |[]=>True
 |c::l=>(c.st.aV.length<=1000\/c.st.aV.length+DC l+a<=B)/\Rk a B l
def RkR(t:Nat):List Ch->Prop
 |[]=>True
 |c::l=>Rk (if c.cls=[] then 0 else 1) (c.st.aV.length+DC l+t) l/\RkR t l
theorem Rk.mono{a b B d:Nat}:∀{l:List Ch},Rk a B l->B+b<=d+a->Rk b d l
 |[],_,_=>trivial
 |c::l,h,hB=>⟨h.1.imp id (fun h=>by omega),Rk.mono h.2 hB⟩
theorem RkR.mono{t a:Nat}(b:t<=a):∀{l:List Ch},RkR t l->RkR a l
 |[],_=>trivial
 |c::l,h=>⟨h.1.mono aD,RkR.mono b h.2⟩
theorem Rk.drop{a B:Nat}:∀{l:List Ch} (n:Nat),Rk a B l->Rk a B (l.drop n)
 |[],_,_=>by simp[Rk]
 |_::_,0,h=>h
 |c::l,n+1,h=>Rk.drop (l:=l) n h.2
theorem RkR.drop{t:Nat}:∀{l:List Ch} (n:Nat),RkR t l->RkR t (l.drop n)
 |[],_,_=>by simp[RkR]
 |_::_,0,h=>h
 |c::l,n+1,h=>RkR.drop (l:=l) n h.2
theorem ShR.drop:∀{l:List Ch} (n:Nat),ShR l->ShR (l.drop n)
 |[],_,_=>by simp[ShR]
 |_::_,0,h=>h
 |c::l,n+1,h=>ShR.drop (l:=l) n h.2
theorem TO:∀{l:List Ch} {j:Nat},DR l=some j->j<l.length
 |[],_,h=>by simp[DR] at h
 |c::l,j,h=>by
  rw[DR] at h;split at h
  ·injection h with h;subst h;simp
  ·have:=TO h;simp only[bM];omega
theorem QT:∀{l:List Ch},DR l=none->DC l=0/\(∀c∈l,c.cls≠[])/\∀n,DR (l.drop n)=none/\DC (l.drop n)=0
 |[],_=>⟨rfl,aE,fun n=>by simp[DR,DC]⟩
 |c::l,h=>by
  rw[DR] at h;split at h
  ·cases h
  ·rename_i a;obtain⟨e,g,f⟩:=QT h;refine⟨by rw[DC,bC a,e],?_,fun n=>?_⟩
   ·intro d b;rcases bP.1 b with rfl|b
    ·exact a
    ·exact g d b
   ·cases n with
    |zero=>exact⟨by rw[List.drop_zero,DR,bC a];exact h,by rw[List.drop_zero,DC,bC a,e]⟩
    |succ n=>exact f n
theorem VU:∀{l:List Ch} {j v:Nat},DR l=some j->j<v->DR (l.drop (l.length -v))=some j/\DC (l.drop (l.length -v))=DC l
 |[],_,_,h,_=>by simp[DR] at h
 |c::l,j,v,h,hv=>by
  by_cases e: (c::l).length-v=0
  ·rw[e];exact⟨h,rfl⟩
  ·rw[DR] at h;split at h
   ·injection h with h;subst h;simp only[bM] at e;omega
   ·rename_i f;have d:=VU h hv;obtain⟨k,a⟩:∃k,(c::l).length-v=k+1:=⟨(c::l).length-v-1,aD⟩
    have b:l.length -v=k:=by simp only[bM] at a;omega
    rw[a,List.drop_succ_cons];rw[b] at d;exact⟨d.1,by rw[DC,bC f,d.2];omega⟩
theorem Fit.sub{o:Option Nat}{g:List AB}{gs bs:List (List AB)}{σ:List (Int×List AB)}{h:Int}(m:Fit o (g::gs))(u:ER g)(n:GK gs)(hσ:∀s∈σ,ER s.2)(t:∀b∈bs,ER b\/b=BY h)(r:∀j,o=some j->(j:Int)<h\/bs=[]):Fit o (bs++gs.map (GS σ)):=by
 cases o with
 |none=>trivial
 |some j=>
  obtain⟨A,e,p⟩:=m
  cases A with
  |nil=>simp at e;exact absurd (e.1 ▸ u) (Q2 _)
  |cons a A=>
   simp at e;obtain⟨rfl,rfl⟩:=e;refine⟨bs++A.map (GS σ),?_,fun v c=>?_⟩
   ·simp[RH,vV]
   ·rcases bO.1 c with c|c
    ·rcases t _ c with f|f
     ·exact absurd f (Q2 v)
     ·rw[aCb f];rcases r j rfl with d|d
      ·exact d
      ·rw[d] at c;cases c
    ·obtain⟨q,k,l⟩:=bQ.1 c;have i:=mZ (n q (by simp[k])) hσ l;subst i;exact p v (by simp[k])
theorem XU{S:St}{c:Cl}{h:Int}{g:List AB}{gs:List (List AB)}{o:Option Nat}(t:S.aV=g::gs)(w:ER g)(s:GK gs)(u:ClK c)(f: (BD S c h).1=0)(y:Fit o (g::gs))(z:∀j,o=some j->(j:Int)<h):Fit o (BD S c h).2.aV/\GK (BD S c h).2.aV/\gs.length<=(BD S c h).2.aV.length:=by
 have C: (AL (BH S c h)).1=0:=by
  unfold BD at f;split at f
  ·assumption
  ·exact f
 have B: (BD S c h).2=⟨(AL (BH S c h)).2.body++(AL (BH S c h)).2.behind,(AL (BH S c h)).2.aS,S.aQ+C4 c⟩:=by
  unfold BD;rw[bD C]
 rw[B]
 have m:SN (fun p=>p.kind≠4) (BH S c h):=by
  unfold BH;rw[t];exact⟨w,fI u.hd⟩
 obtain⟨σ,hσ,A,n,_⟩:=fH m
 have d:∀b∈(BH S c h).body.map (GS σ),ER b\/b=BY h:=fun b d=>by
  obtain⟨q,a,rfl⟩:=bQ.1 d;unfold BH at a;obtain⟨r,k,rfl⟩:=bQ.1 a;rcases u.bd r k with⟨v,rfl⟩|x
  ·rw[aCz,RH];exact .inr rfl
  ·exact .inl (RJ (fI x) hσ)
 have i: (BH S c h).behind=gs:=by unfold BH;rw[t];rfl
 rw[i] at n;simp only[];rw[A,n];refine⟨Fit.sub y w s hσ d (fun j e=> .inl (z j e)),fun q a=>?_,aE⟩;rcases bO.1 a with a|a
 ·rcases d q a with l|l
  ·exact .inr l
  ·exact .inl ⟨_,l⟩
 ·obtain⟨r,k,rfl⟩:=bQ.1 a;exact YD (s r k) hσ
theorem j8{o:Option Nat}{g:List AB}{gs:List (List AB)}(d:Fit o (g::gs))(c:ER g):Fit o gs:=by
 cases o with
 |none=>trivial
 |some j=>
  obtain⟨A,e,b⟩:=d
  cases A with
  |nil=>simp at e;exact absurd (e.1 ▸ c) (Q2 _)
  |cons a A=>
   simp at e;obtain⟨rfl,rfl⟩:=e;exact⟨A,rfl,fun v f=>b v (bA _ f)⟩
structure Base(t:Nat)(chs:List Ch):Prop where
 sh:ShR chs
 rk:RkR t chs
 old:t=0->∀c∈chs,c.st.aV.length<=1000
structure aCS(t:Nat)(cf:Cf):Prop where
 fit:Fit (DR cf.chs) cf.now.aV
 rk:Rk 0 (cf.now.aV.length+DC cf.chs+t) cf.chs
structure Inv(t:Nat)(r:Int×Cf):Prop where
 base:Base t r.2.chs
 go:r.1=0->GK r.2.now.aV/\(r.2.now.aV=[D6]\/aCS t r.2)
theorem Base.tail{t:Nat}{c:Ch}{l:List Ch}(h:Base t (c::l)):Base t l:=⟨h.sh.2,h.rk.2,fun e d a=>h.old e d (bA _ a)⟩
theorem Base.drop{t:Nat}{l:List Ch}(h:Base t l)(n:Nat):Base t (l.drop n):=⟨h.sh.drop n,h.rk.drop n,fun e d a=>h.old e d (bV a)⟩
theorem Base.next{t:Nat}{l:List Ch}(h:Base t l):Base (t+1) l:=⟨h.sh,h.rk.mono aD,fun e=>by omega⟩
theorem PI(a:List Ch)(s:St)(rest:List Nat):DR (CA a s rest)=DR a/\DC (CA a s rest)=DC a:=by
 unfold CA;split
 ·exact⟨rfl,rfl⟩
 ·rename_i h;exact⟨by rw[DR,bC h],by rw[DC,bC h,Nat.zero_add]⟩
def Az(cs:List Cl):Prop:=∀c∈cs,ClK c
theorem Az.at{cs:List Cl}(h:Az cs)(k:Nat):ClK (cs.getD k EM):=by
 rw[List.getD_eq_getElem?_getD]
 cases b:cs[k]? with
 |none=>exact⟨(by intro p a;cases a),(by intro p a;cases a)⟩
 |some c=>exact h c (List.mem_of_getElem? b)
theorem gD{cs:List Cl}{t:Nat}{cf:Cf}(y:Az cs)(h:Base t cf.chs):Inv t (B6 cs cf):=by
 unfold B6
 cases C:cf.chs with
 |nil=>exact⟨h,fun e=>by simp at e⟩
 |cons c a=>
  rw[C] at h;simp only[];obtain⟨r,s,B⟩:=h.sh.1;have m:=h.rk.1;unfold KP;split
  ·rename_i v;rw[bD v] at m;exact⟨h.tail,fun _=>⟨s,.inr ⟨r,m⟩⟩⟩
  ·rename_i k rest v;have o:c.cls≠[]:=by rw[v];simp
   rw[bC o] at m;obtain⟨g,gs,b,n⟩:=B o
   have l:Base t (CA a c.st rest):=by
    unfold CA;split
    ·exact h.tail
    ·rename_i i
     exact⟨⟨⟨r,s,fun _=>⟨g,gs,b,n⟩⟩,h.sh.2⟩,⟨by simp only[if_neg i];exact m,h.rk.2⟩,fun e d w=>by
      rcases bP.1 w with rfl|w
      ·exact h.old e c aE
      ·exact h.old e d (bA _ w)⟩
   refine⟨by rw[MA];exact l,fun p=>?_⟩;unfold FZ at p⊢;simp only at p⊢;rw[bD p];rw[b] at r s;have u:=XU b n (fun q z=>s q (bA _ z)) (y.at k) p r (fun j e=>by have:=TO e;omega);refine⟨u.2.1,.inr ⟨?_,?_⟩⟩
   ·show Fit (DR (CA a c.st rest)) _;rw[(PI a c.st rest).1];exact u.1
   ·show Rk 0 (_+DC (CA a c.st rest)+t) (CA a c.st rest);rw[(PI a c.st rest).2];have x:c.st.aV.length=gs.length+1:=by rw[b];rfl
    have f:Rk 0 ((BD c.st (cs.getD k EM) a.length).2.aV.length+DC a+t) a:=m.mono (by have:=u.2.2;omega);unfold CA;split
    ·exact f
    ·refine⟨?_,f⟩;simp only[];by_cases A:t=0
     ·exact .inl (h.old A c aE)
     ·exact .inr (by have:=u.2.2;omega)
theorem qX{cf:Cf}(h:cf.now.aV≠[]):∃gs,cf.now.aV=CH cf.now::gs:=by
 unfold CH
 cases c:cf.now.aV with
 |nil=>exact absurd c h
 |cons a b=>exact⟨b,rfl⟩
theorem xR{cs:List Cl}{cf:Cf}(h:cf.now.aV=[D6]):DF cs cf=(-1,cf):=by
 unfold DF;have a:CH cf.now=D6:=by unfold CH;rw[h];rfl
 rw[a,bD aF];unfold B7;rw[bC aF,bC aF,bC aF,bC aF,bC aF,bC aF]
theorem NC(cf:Cf)(a b:List AB): (BJ cf a b).2.chs=cf.chs:=by unfold BJ;simp only[];split<;>rfl
theorem kH{cs:List Cl}{t:Nat}{cf:Cf}(hc:Az cs)(h:Inv t (0,cf))(W:cf.now.aV≠[]):Inv (t+1) (DF cs cf):=by
 obtain⟨m,N⟩:=h;obtain⟨L,H⟩:=N rfl;simp only at m L H;rcases H with hd|H
 ·rw[xR hd];exact⟨m.next,fun e=>by simp at e⟩
 obtain⟨gs,f⟩:=qX W;have B:=H.fit;have w:=H.rk;have Z:cf.now.aV.length=gs.length+1:=by rw[f];rfl
 have O:RK (CH cf.now):=L _ (by rw[f];simp);have l:GK gs:=fun q F=>L q (by rw[f];exact bA _ F);have c:cf.now.aV.tail=gs:=by rw[f];rfl
 have d:∀k:Int,k≠0->Inv (t+1) (k,cf):=fun k S=>⟨m.next,fun e=>absurd e S⟩
 rcases O with⟨v,J⟩|g
 ·--a cut
  have ht:DF cs cf=E9 ⟨cf.now,FJ cf.chs v⟩:=by
   unfold DF;rw[J,bD (by rfl)];unfold B7;rw[bD (by rfl)];rfl
  rw[ht];refine⟨(m.drop _).next,fun _=>⟨by show GK cf.now.aV.tail;rw[c];exact l,?_⟩⟩;show cf.now.aV.tail=[D6]\/_
  have Q:∀o,DR cf.chs=o->gs=[D6]\/(Fit (DR (FJ cf.chs v)) gs/\DC (FJ cf.chs v)=DC cf.chs):=by
   intro o U;rw[U,f,J] at B
   cases o with
   |none=>
    obtain⟨n1,_,n3⟩:=QT U;refine .inr ?_;unfold FJ;rw[(n3 _).1,(n3 _).2,n1];exact⟨trivial,rfl⟩
   |some j=>
    obtain⟨A,e,hA⟩:=B
    cases A with
    |nil=>simp at e;exact .inl e.2
    |cons a A=>
     simp at e;obtain⟨rfl,rfl⟩:=e;have a0:=hA v aE;have Y:=VU (v:=v.toNat) U aD;refine .inr ?_;unfold FJ;rw[Y.1,Y.2];exact⟨⟨A,rfl,fun u hu=>hA u (bA _ hu)⟩,rfl⟩
  rcases Q _ rfl with T|⟨T,h2⟩
  ·exact .inl (c.trans T)
  ·refine .inr ⟨by show Fit _ cf.now.aV.tail;rw[c];exact T,?_⟩;show Rk 0 (cf.now.aV.tail.length+DC (FJ cf.chs v)+(t+1)) (FJ cf.chs v);rw[c,h2];exact(w.drop _).mono aD
 ·rw[f] at B;have x:Inv (t+1) (E9 cf):=⟨m.next,fun _=>⟨by show GK cf.now.aV.tail;rw[c];exact l,.inr ⟨by show Fit _ cf.now.aV.tail;rw[c];exact j8 B g,by show Rk 0 (cf.now.aV.tail.length+DC cf.chs+(t+1)) cf.chs;rw[c];exact w.mono aD⟩⟩⟩
  have n:∀a b:List AB,ER a->ER b->Inv (t+1) (BJ cf a b):=by
   intro a b ha V;refine⟨by rw[NC];exact m.next,fun z=>?_⟩;obtain⟨σ,hσ,_,X,_⟩:=fH (P:=fun p=>p.kind≠4) (e:=BT cf a b) ⟨ha,V⟩;have R: (BT cf a b).behind=gs:=c;rw[R] at X;unfold BJ at z⊢;simp only at z⊢;rw[bD z];simp only[];rw[X];refine⟨fun q F=>?_,.inr ⟨?_,?_⟩⟩
   ·obtain⟨r,w,rfl⟩:=bQ.1 F;exact YD (l r w) hσ
   ·have:=Fit.sub (bs:=[]) (h:=0) B g l hσ (by intro b m;cases m) (fun _ _=> .inr rfl);simpa using this
   ·show Rk 0 ((gs.map (GS σ)).length+DC cf.chs+(t+1)) cf.chs;rw[aZ];exact w.mono aD
  have s:∀i,ER (AX (CH cf.now) i):=fun i p E=>g p ((J1 _ i).2 p E);unfold DF;split
  ·unfold B7;split
   ·rename_i K;exfalso
    cases C:CH cf.now with
    |nil=>rw[C] at K;exact absurd K aF
    |cons p q=>rw[C] at K;exact g p (by rw[C];simp) K
   split
   ·exact x
   split
   ·exact n _ _ (s 0) (s 1)
   split
   ·unfold EP;split
    ·split
     ·exact x
     ·exact d _ aF
    ·rename_i I;exact d _ I
   split
   ·unfold EC;split
    ·split
     ·exact d _ aF
     ·exact n _ _ (by intro p E;simp[G7] at E;subst E;simp) (s 2)
    ·rename_i I;exact d _ I
   split
   ·unfold D2;split
    ·split
     ·exact d _ aF
     ·refine⟨⟨⟨⟨?_,?_,fun e=>absurd rfl e⟩,m.sh⟩,⟨?_,m.rk.mono aD⟩,fun e=>by omega⟩,fun _=>⟨?_,.inr ⟨?_,?_⟩⟩⟩
      ·show Fit _ cf.now.aV.tail;rw[c];exact j8 B g
      ·show GK cf.now.aV.tail;rw[c];exact l
      ·show Rk 0 (cf.now.aV.tail.length+DC cf.chs+(t+1)) cf.chs;rw[c];exact w.mono aD
      ·intro q F;simp only[List.mem_cons,dF,or_false] at F;rcases F with rfl|rfl|rfl
       ·exact .inr (s 0)
       ·exact .inl ⟨_,rfl⟩
       ·exact .inr (by intro p E;simp[D6] at E;subst E;decide)
      ·show aBB cf.chs.length _;refine⟨[AX (CH cf.now) 0],rfl,fun v J=>?_⟩;simp at J;exact absurd (J ▸ s 0) (Q2 v)
      ·show Rk 0 (3+((cf.now.aV.tail.length)+DC cf.chs)+(t+1)) (_::cf.chs);rw[c];refine⟨.inr ?_,w.mono aD⟩;simp only[];omega
    ·rename_i I;exact d _ I
   ·exact d _ aF
  ·split
   ·unfold EA;split
    ·exact d _ aF
    ·rename_i k rest he;split
     ·exact d _ aF
     ·have G:Base (t+1) (CA cf.chs cf.now rest):=by
       unfold CA;split
       ·exact m.next
       ·rename_i D;exact⟨⟨⟨by show Fit _ cf.now.aV;rw[f];exact B,by show GK cf.now.aV;exact L,fun _=>⟨_,gs,f,g⟩⟩,m.sh⟩,⟨by simp only[if_neg D];exact w.mono aD,m.rk.mono aD⟩,fun e=>by omega⟩
      refine⟨by rw[MA];exact G,fun z=>?_⟩;unfold FZ at z⊢;simp only at z⊢;rw[bD z];have M:=XU f g l (hc.at k) z B (fun j e=>by have:=TO e;omega);refine⟨M.2.1,.inr ⟨?_,?_⟩⟩
      ·show Fit (DR (CA cf.chs cf.now rest)) _;rw[(PI _ _ _).1];exact M.1
      ·show Rk 0 (_+DC (CA cf.chs cf.now rest)+(t+1)) (CA cf.chs cf.now rest);rw[(PI _ _ _).2];have y:Rk 0 ((BD cf.now (cs.getD k EM) cf.chs.length).2.aV.length+DC cf.chs+(t+1)) cf.chs:=w.mono (by have:=M.2.2;omega);unfold CA;split
       ·exact y
       ·refine⟨.inr ?_,y⟩;simp only[];have:=M.2.2;omega
   ·exact d _ aF
theorem YO{cs:List Cl}{t:Nat}{r:Int×Cf}(b:Az cs)(h:Inv t r):Inv t (BI cs r):=KC (P:=Inv t) (fun _ a=>gD b a.base) _ r h
theorem vI{B:Nat}:∀{l:List Ch},(∀c∈l,c.cls≠[])->Rk 0 B l->∀c∈l,c.st.aV.length<=1000\/c.st.aV.length<=B
 |[],_,_,_,h=>by cases h
 |d::l,hn,h,c,a=>by
  rcases bP.1 a with rfl|a
  ·exact h.1.imp id (fun h=>by omega)
  ·exact vI (fun e b=>hn e (bA _ b)) h.2 c a
def G9(k:Int):Prop:=k=0\/k=-1\/(2<=k/\k<=12)
theorem fT(e:Eqn)(v:Int)(x:List AB):G9 (A6 e v x).1:=by
 unfold A6 G9;split
 ·simp
 ·split<;>simp
theorem pM(e:Eqn):G9 (BG e).1:=by
 unfold BG;split
 ·split
  ·exact .inl rfl
  ·split
   ·exact fT _ _ _
   ·split
    ·exact fT _ _ _
    ·exact .inr (.inl rfl)
 ·exact .inl rfl
theorem VP:∀(n:Nat) (e:Eqn),G9 (B1 n e).1
 |0,_=> .inl rfl
 |n+1,e=>by
  rw[B1];split
  ·exact .inl rfl
  ·split
   ·exact VP n _
   ·exact pM e
theorem R5(e:Eqn):G9 (AL e).1:=VP _ e
theorem eP(S:St)(c:Cl)(h:Int):G9 (BD S c h).1:=by
 unfold BD;split
 ·exact .inl rfl
 ·exact R5 _
theorem SO(cs:List Cl)(cf:Cf):G9 (B6 cs cf).1:=by
 unfold B6;split
 ·exact .inr (.inr aE)
 ·unfold KP;split
  ·exact .inl rfl
  ·exact eP _ _ _
theorem lK(p:AB):G9 (AV p):=by
 unfold AV G9;split
 ·simp
 ·split<;>simp
theorem S8(g:List AB):G9 (A8 g):=by
 unfold A8;split<;>exact lK _
theorem eK(cs:List Cl)(cf:Cf):G9 (DF cs cf).1:=by
 have c:∀a b,G9 (BJ cf a b).1:=fun a b=>R5 _;unfold DF;split
 ·unfold B7;split
  ·exact .inl rfl
  split
  ·exact .inl rfl
  split
  ·exact c _ _
  split
  ·unfold EP;split
   ·split
    ·exact .inl rfl
    ·exact .inr (.inl rfl)
   ·exact S8 _
  split
  ·unfold EC;split
   ·split
    ·exact .inr (.inr aE)
    ·exact c _ _
   ·exact S8 _
  split
  ·unfold D2;split
   ·split
    ·exact .inr (.inr aE)
    ·exact .inl rfl
   ·unfold JS G9;simp only[];split
    ·simp
    ·split<;>simp
  ·exact .inr (.inl rfl)
 ·split
  ·unfold EA;split
   ·exact .inr (.inl rfl)
   ·split
    ·exact .inr (.inr aE)
    ·exact eP _ _ _
  ·exact .inr (.inr aE)
theorem VD{cs:List Cl}{r:Int×Cf}(h:G9 r.1):G9 (BI cs r).1:=KC (P:=fun r=>G9 r.1) (fun cf _=>SO cs cf) _ r h
theorem ShR.each:∀{l:List Ch},ShR l->∀c∈l,GK c.st.aV/\(c.cls≠[]->∃g gs,c.st.aV=g::gs/\ER g)
 |[],_,_,h=>by cases h
 |d::l,h,c,a=>by
  rcases bP.1 a with rfl|a
  ·exact h.1.2
  ·exact ShR.each h.2 c a
theorem P8{cs:List Cl}(s:Az cs):∀(n t:Nat) (r:Int×Cf),Inv t r->t+n<=1000->G9 r.1->(CG cs n r).1=1->(CG cs n r).2.now.aV=[]/\∀c∈(CG cs n r).2.chs,c.cls≠[]/\c.st.aV.length<=1000/\GK c.st.aV/\∃g gs,c.st.aV=g::gs/\ER g:=by
 have o:∀(n t:Nat) (r:Int×Cf),Inv t r->t+n<=1000->(BI cs r).1=0->(BI cs r).2.now.aV=[]->∀c∈(BI cs r).2.chs,c.cls≠[]/\c.st.aV.length<=1000/\GK c.st.aV/\∃g gs,c.st.aV=g::gs/\ER g:=by
  intro n t r h q d b c i;have p:=YO s h
  have f:aCS t (BI cs r).2:=by
   rcases(p.go d).2 with a|a
   ·rw[b] at a;cases a
   ·exact a
  have l:DR (BI cs r).2.chs=none:=by
   cases C:DR (BI cs r).2.chs with
   |none=>rfl
   |some j=>
    have x:=f.fit;rw[C,b] at x;obtain⟨A,e,_⟩:=x;simp at e
  obtain⟨D,w,_⟩:=QT l;have y:=f.rk;rw[b,D] at y;have z:=vI w y c i;simp only[dA,Nat.zero_add] at z;have m:=p.base.sh.each c i;exact⟨w c i,aD,m.1,m.2 (w c i)⟩
 intro n
 induction n with
 |zero=>
  intro t r h q v a;have k:=VD (cs:=cs) v;rw[O0] at a⊢;split at a
  ·unfold G9 at k;omega
  ·rename_i d;have d: (BI cs r).1=0:=Classical.not_not.1 d;rw[bC (by simp[d])];split at a
   ·rename_i b;rw[bD b];exact⟨b,o 0 t r h q d b⟩
   ·simp at a
 |succ n B=>
  intro t r h q v a;have k:=VD (cs:=cs) v;rw[O0] at a⊢;split at a
  ·unfold G9 at k;omega
  ·rename_i d;have d: (BI cs r).1=0:=Classical.not_not.1 d;rw[bC (by simp[d])];split at a
   ·rename_i b;rw[bD b];exact⟨b,o (n+1) t r h q d b⟩
   ·rename_i b;rw[bC b];simp only at a⊢;have p:=YO s h;have u:Inv t (0,(BI cs r).2):=⟨p.base,fun _=>p.go d⟩
    exact B (t+1) _ (kH s u b) aD (eK cs _) a
def yt(n:Nat)(p:AB):Prop:=(p.kind=1/\p.name=⟨#[]⟩/\p.args=0/\0<=p.value/\p.value<n)\/(p.kind=2/\p.name=⟨#[]⟩/\p.args=0/\ -999999999<=p.value/\p.value<=999999999)\/(p.kind=3/\p.value=0/\WQ p.name/\0<=p.args/\p.args<=4)
theorem yt.mono{n a:Nat}{p:AB}(h:yt n p)(b:n<=a):yt a p:=by
 rcases h with h|h|h
 ·exact .inl ⟨h.1,h.2.1,h.2.2.1,h.2.2.2.1,by have:=h.2.2.2.2;omega⟩
 ·exact .inr (.inl h)
 ·exact .inr (.inr h)
theorem yt.kind{n:Nat}{p:AB}(h:yt n p):p.kind≠4:=by rcases h with h|h|h<;>omega
theorem yt.good{n:Nat}{p:AB}(h:yt n p)(f:Int)(l: (n:Int)<=f):ru f p:=by
 rcases h with⟨g,a,b,d,i⟩|⟨g,a,b,d,i⟩|⟨g,a,b,d,i⟩
 ·exact⟨aD,fun _=>by omega,fun e=>by omega,by rw[a];decide⟩
 ·exact⟨aD,fun e=>by omega,fun _=>by omega,by rw[a];decide⟩
 ·refine⟨aD,fun e=>by omega,fun e=>by omega,?_⟩;obtain⟨c,k,e,_,_,j⟩:=b;rw[<-iV,e];exact j
theorem aAU{m a:Nat}{p:AB}(h:NX m p a):m<=a:=by
 unfold NX at h;split at h<;>omega
theorem og.le:∀{ps:List AB} {m m':Nat},og m ps m'->m<=m'
 |[],_,_,h=>by cases h;exact aX _
 |_::_,_,_,h=>by
  obtain⟨c,b,a⟩:=h;have:=aAU b;have:=a.le;omega
structure aDw(l:List Tok)(ns:List ByteArray)(p:List AB)(l1:List Tok)(ns1:List ByteArray):Prop where
 wf:Wf p.length p
 ok:∀x∈p,yt ns1.length x
 num:og ns.length p ns1.length
 sub:∀t∈l1,t∈l
def M0(l:List Tok):Prop:=∀t∈l,dI t/\(t.k=97->WQ t.s)
theorem qR{α:Type}{q:α->Bool}:∀{ns:List α} {i:Nat},ns.findIdx? q=some i->i<ns.length:=by
 intro ns i h;exact(List.findIdx?_eq_some_iff_getElem.1 h).1
theorem aA0{t:Tok}{ns a:List ByteArray}{i:Nat}(h:GR t ns= .ok (i,a)): (i<ns.length/\a=ns)\/(i=ns.length/\a.length=ns.length+1):=by
 unfold GR at h;split at h
 ·rename_i j b;simp only[cX,cY] at h;obtain⟨rfl,rfl⟩:=h;unfold N5 at b;split at b
  ·cases b
  ·exact .inl ⟨qR b,rfl⟩
 ·split at h
  ·cases h
  ·simp only[cX,cY] at h;obtain⟨rfl,rfl⟩:=h;exact .inr ⟨rfl,aE⟩
def r8(rd:List Tok->List ByteArray->Except (Int×Nat) (List AB×List Tok×List ByteArray)):Prop:=∀l ns p b a,M0 l->rd l ns= .ok (p,b,a)->aDw l ns p b a
theorem YH(rd:List Tok->List ByteArray->Except (Int×Nat) (List AB×List Tok×List ByteArray))(h:r8 rd):∀(k:Nat) (acc:List (List AB)) (l:List Tok) (ns:List ByteArray) (a1:List (List AB)) (l2:List Tok) (ns2:List ByteArray),M0 l->acc.length<4->A7 rd k acc l ns= .ok (a1,l2,ns2)->∃qs,a1=acc++qs/\1<=qs.length/\a1.length<=4/\(∀q∈qs,Wf q.length q)/\(∀q∈qs,∀x∈q,yt ns2.length x)/\og ns.length qs.flatten ns2.length/\∀t∈l2,t∈l
 |0,_,_,_,_,_,_,_,_,e=>by simp[A7] at e
 |k+1,acc,l,ns,a1,l2,ns2,hl,ha,e=>by
  rw[A7] at e
  cases f:rd l ns with
  |error x=>rw[f] at e;cases e
  |ok x=>
   obtain⟨p,g,d⟩:=x;have b:=h l ns p g d hl f;rw[f] at e
   cases g with
   |nil=>cases e
   |cons u n=>
    simp only at e;split at e
    ·split at e
     ·cases e
     ·rename_i w;obtain⟨qs,r,v,j,s,m,i,o⟩:=YH rd h k (acc++[p]) n d a1 l2 ns2 (fun t c=>hl t (b.sub t (bA _ c))) (by simp only[List.length_append,bM,dA];omega) e;refine⟨p::qs,by rw[r];simp,aE,j,?_,?_,?_,fun t c=>b.sub t (bA _ (o t c))⟩
      ·intro q a;rcases bP.1 a with rfl|a
       ·exact b.wf
       ·exact s q a
      ·intro q a x hx;rcases bP.1 a with rfl|a
       ·exact(b.ok x hx).mono i.le
       ·exact m q a x hx
      ·rw[List.flatten_cons];exact og.app.2 ⟨_,b.num,i⟩
    ·split at e
     ·simp only[cX,cY] at e;obtain⟨rfl,rfl,rfl⟩:=e;refine⟨[p],rfl,aE,by simp only[List.length_append,bM,dA];omega,?_,?_,?_,fun t c=>b.sub t (bA _ c)⟩
      ·intro q a;simp at a;subst a;exact b.wf
      ·intro q a;simp at a;subst a;exact b.ok
      ·simpa using b.num
     ·cases e
theorem kL(p:AB)(h:p.args=0):Wf [p].length [p]:= .inl ⟨p,rfl,h⟩
theorem aBX(s:ByteArray){qs:List (List AB)}(b:1<=qs.length)(h:∀q∈qs,Wf q.length q):Wf ((⟨3,s,0,qs.length⟩:AB)::qs.flatten).length (⟨3,s,0,qs.length⟩::qs.flatten):=
 .inr ⟨s,qs,b,fun q a=>(h q a).mono (PS a),rfl⟩
theorem SC:∀(f:Nat),r8 (AM f)
 |0=>fun _ _ _ _ _ _ e=>by simp[AM] at e
 |f+1=>fun l ns p L I s e=>by
  cases l with
  |nil=>simp[AM] at e
  |cons t l=>
   have n:=s t aE;rw[AM] at e;split at e
   ·unfold G6 at e;split at e
    ·cases e
    ·rename_i i J a;simp only[cX,cY] at e;obtain⟨rfl,rfl,rfl⟩:=e;have r:=aA0 a;refine⟨kL _ rfl,fun x hx=>?_,⟨_,?_,rfl⟩,fun u g=>bA _ g⟩
     ·simp at hx;subst hx;refine .inl ⟨rfl,rfl,rfl,aE,?_⟩;simp only[];rcases r with⟨d,b⟩|⟨d,b⟩
      ·rw[b];omega
      ·omega
     ·unfold NX;rw[bD rfl];simp only[];rcases r with⟨d,b⟩|⟨d,b⟩
      ·exact .inl ⟨aD,by rw[b]⟩
      ·exact .inr ⟨aD,b⟩
   ·split at e
    ·rename_i F;simp only[cX,cY] at e;obtain⟨rfl,rfl,rfl⟩:=e;obtain⟨_,v,a,H,d⟩:=n.1.1 F;refine⟨kL _ rfl,fun x hx=>?_,⟨_,?_,rfl⟩,fun u g=>bA _ g⟩
     ·simp at hx;subst hx;refine .inr (.inl ⟨rfl,rfl,rfl,?_⟩);simp only[EV,a,Option.getD_some];exact⟨H,d⟩
     ·unfold NX;rw[bC aE]
    ·split at e
     ·rename_i j;have c:=n.2 j
      cases l with
      |nil=>cases e
      |cons u w=>
       simp only[EF] at e;split at e
       ·cases m:A7 (AM f) 4 [] w ns with
        |error x=>rw[m] at e;cases e
        |ok x=>
         obtain⟨B,E,k⟩:=x;rw[m] at e;simp only[cX,cY] at e;obtain⟨rfl,rfl,rfl⟩:=e;obtain⟨qs,o,y,K,A,G,C,D⟩:=YH (AM f) (SC f) 4 [] w ns B E k (fun v a=>s v (bA _ (bA _ a))) aE m;rw[List.nil_append] at o;subst o;refine⟨aBX t.s y A,fun x hx=>?_,⟨ns.length,by unfold NX;rw[bC aE],C⟩,fun v a=>bA _ (bA _ (D v a))⟩;rcases bP.1 hx with rfl|hx
         ·exact .inr (.inr ⟨rfl,rfl,c,by simp only[];omega,by simp only[];omega⟩)
         ·obtain⟨q,z,h⟩:=List.mem_flatten.1 hx;exact G q z x h
       ·simp only[cX,cY] at e;obtain⟨rfl,rfl,rfl⟩:=e;refine⟨kL _ rfl,fun x hx=>?_,⟨_,?_,rfl⟩,fun v a=>bA _ a⟩
        ·simp at hx;subst hx;exact .inr (.inr ⟨rfl,rfl,c,aE,aE⟩)
        ·unfold NX;rw[bC aE]
     ·cases e
def zq(n:Nat)(g:List AB):Prop:=g=aDj\/(Wf g.length g/\(∀x∈g,yt n x)/\(g.head?.map (·.kind))=some 3)
theorem zq.mono{n a:Nat}{g:List AB}(h:zq n g)(b:n<=a):zq a g:=h.imp id (fun h=>⟨h.1,fun x hx=>(h.2.1 x hx).mono b,h.2.2⟩)
theorem zq.k{n:Nat}{g:List AB}(h:zq n g):RK g:=by
 rcases h with rfl|h
 ·exact .inl ⟨0,rfl⟩
 ·exact .inr (fun p a=>(h.2.1 p a).kind)
theorem zq.part{n:Nat}{g:List AB}(h:zq n g){f:Int}(a: (n:Int)<=f):∀p∈g,ru f p:=by
 rcases h with rfl|h
 ·exact(kQ f 0).2
 ·exact fun p b=>(h.2.1 p b).good f a
theorem XL{f:Nat}{l:List Tok}{ns:List ByteArray}{p:List AB}{d:List Tok}{a:List ByteArray}(g:M0 l)(e:BS f l ns= .ok (p,d,a)):zq a.length p/\og ns.length p a.length/\∀t∈d,t∈l:=by
 unfold BS at e
 cases l with
 |nil=>cases e
 |cons t l=>
  simp only at e;split at e
  ·simp only[cX,cY] at e;obtain⟨rfl,rfl,rfl⟩:=e;exact⟨.inl rfl,⟨_,by unfold NX;rw[bC aE],rfl⟩,fun u h=>bA _ h⟩
  ·cases c:AM f (t::l) ns with
   |error x=>rw[c] at e;cases e
   |ok x=>
    obtain⟨q,k,i⟩:=x;rw[c] at e;simp only at e;split at e
    ·rename_i j;simp only[cX,cY] at e;obtain⟨rfl,rfl,rfl⟩:=e;have b:=SC f _ _ _ _ _ g c;exact⟨.inr ⟨b.wf,b.ok,j⟩,b.num,b.sub⟩
    ·cases e
structure aBD(l:List Tok)(ns:List ByteArray)(acc a1:List (List AB))(l1:List Tok)(ns1:List ByteArray):Prop where
 ex:∃qs,a1=acc++qs/\1<=qs.length/\(∀q∈qs,zq ns1.length q)/\og ns.length qs.flatten ns1.length
 len:a1.length<=8
 sub:∀t∈l1,t∈l
theorem VX(f:Nat):∀(k:Nat) (acc:List (List AB)) (l:List Tok) (ns:List ByteArray) (a1:List (List AB)) (l2:List Tok) (ns2:List ByteArray),M0 l->acc.length<8->BN f k acc l ns= .ok (a1,l2,ns2)->aBD l ns acc a1 l2 ns2
 |0,_,_,_,_,_,_,_,_,e=>by simp[BN] at e
 |k+1,acc,l,ns,a1,l2,ns2,hl,ha,e=>by
  rw[BN] at e
  cases d:BS f l ns with
  |error x=>rw[d] at e;cases e
  |ok x=>
   obtain⟨p,n,g⟩:=x;obtain⟨h,i,b⟩:=XL hl d;rw[d] at e
   cases n with
   |nil=>cases e
   |cons u r=>
    simp only at e;split at e
    ·split at e
     ·cases e
     ·obtain⟨⟨qs,v,w,m,j⟩,o,s⟩:=VX f k (acc++[p]) r g a1 l2 ns2 (fun t c=>hl t (b t (bA _ c))) (by simp only[List.length_append,bM,dA];omega) e;refine⟨⟨p::qs,by rw[v];simp,aE,?_,by rw[List.flatten_cons];exact og.app.2 ⟨_,i,j⟩⟩,o,fun t c=>b t (bA _ (s t c))⟩;intro q a;rcases bP.1 a with rfl|a
      ·exact h.mono j.le
      ·exact m q a
    ·split at e
     ·cases e
     ·simp only[cX,cY] at e;obtain⟨rfl,rfl,rfl⟩:=e;exact⟨⟨[p],rfl,aE,fun q a=>by simp at a;subst a;exact h,by simpa using i⟩,by simp only[List.length_append,bM,dA];omega,b⟩
structure ClR(c:Cl):Prop where
 hw:Wf c.head.length c.head
 hp:∀x∈c.head,yt c.vars x
 hb:F7 c.head=true
 bg:∀g∈c.body,zq c.vars g
 bl:c.body.length<=8
 num:og 0 (c.head++c.body.flatten) c.vars
theorem nO{c:List AB×List (List AB)}{l:List Tok}{ns:List ByteArray}{b:Cl}{a:List Tok}(h:JF c l ns= .ok (b,a)):b=⟨c.1,c.2,ns.length⟩/\∀t∈a,t∈l:=by
 unfold JF at h;split at h
 ·cases h
 ·split at h
  ·simp only[cX,cY] at h;obtain⟨rfl,rfl⟩:=h;exact⟨rfl,fun t d=>bA _ d⟩
  ·cases h
theorem kZ{f:Nat}{l:List Tok}{n:Cl}{q:List Tok}(r:M0 l)(e:BP f l= .ok (n,q)):ClR n/\∀t∈q,t∈l:=by
 unfold BP at e
 cases l with
 |nil=>cases e
 |cons t l=>
  simp only at e
  cases j:AM f (t::l) [] with
  |error x=>rw[j] at e;cases e
  |ok x=>
   obtain⟨p,A,d⟩:=x;rw[j] at e;have a:=SC f _ _ _ _ _ r j;simp only at e;split at e
   ·rename_i s
    cases A with
    |nil=>cases e
    |cons u k=>
     simp only at e;split at e
     ·cases b:BN f 8 [] k d with
      |error x=>rw[b] at e;cases e
      |ok x=>
       obtain⟨gs,y,i⟩:=x;rw[b] at e;obtain⟨⟨qs,o,C,w,m⟩,B,z⟩:=VX f 8 [] k d gs y i (fun v c=>r v (a.sub v (bA _ c))) aE b;obtain⟨rfl,h⟩:=nO e;rw[List.nil_append] at o;subst o;exact⟨⟨a.wf,fun x hx=>(a.ok x hx).mono m.le,s,w,B,og.app.2 ⟨_,a.num,m⟩⟩,fun v c=>a.sub v (bA _ (z v (h v c)))⟩
     ·obtain⟨rfl,h⟩:=nO e;exact⟨⟨a.wf,a.ok,s,(fun g b=>by cases b),aE,(by simpa using a.num)⟩,fun v c=>a.sub v (h v c)⟩
   ·cases e
theorem S7(f:Nat):∀(k:Nat) (acc:List Cl) (l:List Tok) (a:List Cl),M0 l->(∀c∈acc,ClR c)->CF f k acc l= .ok a->∀c∈a,ClR c
 |0,_,_,_,_,_,e=>by simp[CF] at e
 |_+1,_,[],_,_,_,e=>by simp[CF] at e
 |k+1,acc,t::l,a,hl,ha,e=>by
  rw[CF] at e;split at e
  ·simp only[cX] at e;subst e;exact ha
  ·cases g:BP f (t::l) with
   |error x=>rw[g] at e;cases e
   |ok x=>
    obtain⟨c,h⟩:=x;rw[g] at e;obtain⟨m,j⟩:=kZ hl g;refine S7 f k (acc++[c]) h a (fun v i=>hl v (j v i)) (fun d b=>?_) e;rcases bO.1 b with b|b
    ·exact ha d b
    ·simp at b;subst b;exact m
theorem mF(s:ByteArray)(n:Nat):∀x∈bs (DQ s false n),B9 x.toNat=true:=by
 intro x hx;unfold bs DQ at hx;rw[G3,show n+AN s false n-n=AN s false n by omega] at hx;unfold AN at hx
 have d:∀(l:List UInt8),l.take (l.takeWhile fun c=>okB false c.toNat).length=l.takeWhile fun c=>okB false c.toNat:=fun l=>by
  induction l with
  |nil=>rfl
  |cons a l e=>
   rw[List.takeWhile_cons];split
   ·rw[bM,List.take_succ_cons,e]
   ·rfl
 rw[d] at hx;have b:=List.all_takeWhile (p:=fun c:UInt8=>okB false c.toNat) (l:=s.data.toList.drop n);have:=List.all_eq_true.1 b x hx;simpa[okB] using this
theorem T0(s:ByteArray)(n:Nat)(i:n<s.size)(h: (AG s n).k=97):WQ (AG s n).s:=by
 unfold AG at h⊢;have a:∀d W,(CU n d W).k≠97:=fun d W=>by unfold CU;split<;>(try split)<;>simp[bad]
 split at h
 ·exact absurd h (a _ _)
 rename_i r;rw[bC r];split at h
 ·exact absurd h (a _ _)
 rename_i q;rw[bC q];split at h
 ·rename_i g;rw[bD g];unfold DS at h⊢;split at h
  ·simp[bad] at h
  ·rename_i f;rw[bC f];split at h
   ·rename_i l;rw[bD l];show WQ (DQ s false n);have m:1<=AN s false n:=by rw[JH s false n i (by simp[okB,g])];omega
    have b: (bs (DQ s false n)).length=AN s false n:=by rw[iV,FM]
    cases e:bs (DQ s false n) with
    |nil=>rw[e] at b;simp at b;omega
    |cons c W=>
     have p:c=s[n]:=by
      have j:bs (DQ s false n)=(s.data.toList.drop n).take (AN s false n):=by unfold bs DQ;rw[G3,show n+AN s false n-n=AN s false n by omega]
      rw[e,LB s n i] at j;obtain⟨k,o⟩:∃k,AN s false n=k+1:=⟨_,(Nat.sub_add_cancel m).symm⟩
      rw[o,List.take_succ_cons] at j;injection j
     refine⟨c,W,e,?_,?_,?_⟩
     ·rw[p,BF s n i];exact l
     ·intro x hx;rw[<-e] at hx;exact mF s n x hx
     ·rw[<-e,iV];omega
   ·simp at h
 ·rename_i g;rw[bC g];split at h
  ·rename_i f;simp only at h;rw[h] at f;exact absurd f aF
  ·split at h
   ·simp at h
   ·simp[bad] at h
theorem N2(s:ByteArray):∀(f n:Nat),M0 (toks s f n)
 |0,n=>by intro t a;simp[toks] at a;subst a;exact⟨⟨fun h=>by simp[FE] at h,fun h=>by simp[FE] at h⟩,fun h=>by simp[FE] at h⟩
 |f+1,n=>by
  rw[toks];split
  ·rename_i b;split
   ·exact N2 s f (n+1)
   ·split
    ·intro t a;simp at a;subst a;exact⟨OZ s n,T0 s n b⟩
    ·intro t a;rcases bP.1 a with rfl|a
     ·exact⟨OZ s n,T0 s n b⟩
     ·exact N2 s f _ t a
  ·intro t a;simp at a;subst a;exact⟨⟨fun h=>by simp[FE] at h,fun h=>by simp[FE] at h⟩,fun h=>by simp[FE] at h⟩
theorem qN{s:ByteArray}{a:List Cl}(h:CR s= .ok a):∀c∈a,ClR c:=by
 unfold CR at h;split at h
 ·cases h
 ·exact S7 _ _ [] _ a (N2 s _ _) aE h
theorem VV(f:Nat):∀(k:Nat) (acc:List (List AB)) (l:List Tok) (ns:List ByteArray) (a1:List (List AB)) (l2:List Tok) (ns2:List ByteArray),M0 l->acc.length<8->BZ f k acc l ns= .ok (a1,l2,ns2)->aBD l ns acc a1 l2 ns2
 |0,_,_,_,_,_,_,_,_,e=>by simp[BZ] at e
 |k+1,acc,l,ns,a1,l2,ns2,hl,ha,e=>by
  rw[BZ] at e
  cases d:BS f l ns with
  |error x=>rw[d] at e;cases e
  |ok x=>
   obtain⟨p,n,g⟩:=x;obtain⟨h,i,b⟩:=XL hl d;rw[d] at e
   cases n with
   |nil=>cases e
   |cons u r=>
    simp only at e;split at e
    ·split at e
     ·cases e
     ·obtain⟨⟨qs,v,w,m,j⟩,o,s⟩:=VV f k (acc++[p]) r g a1 l2 ns2 (fun t c=>hl t (b t (bA _ c))) (by simp only[List.length_append,bM,dA];omega) e;refine⟨⟨p::qs,by rw[v];simp,aE,?_,by rw[List.flatten_cons];exact og.app.2 ⟨_,i,j⟩⟩,o,fun t c=>b t (bA _ (s t c))⟩;intro q a;rcases bP.1 a with rfl|a
      ·exact h.mono j.le
      ·exact m q a
    ·simp only[cX,cY] at e;obtain⟨rfl,rfl,rfl⟩:=e;exact⟨⟨[p],rfl,aE,fun q a=>by simp at a;subst a;exact h,by simpa using i⟩,by simp only[List.length_append,bM,dA];omega,b⟩
structure QuR(gs:List (List AB))(ns:List ByteArray):Prop where
 ne:1<=gs.length
 len:gs.length<=8
 g:∀q∈gs,zq ns.length q
 num:og 0 gs.flatten ns.length
theorem F3{s:ByteArray}{gs:List (List AB)}{ns:List ByteArray}(h:BM s= .ok (gs,ns)):QuR gs ns:=by
 unfold BM at h;split at h
 ·cases h
 ·unfold GL at h
  cases a:BZ (AU s).length 8 [] (AU s) [] with
  |error e=>rw[a] at h;cases h
  |ok x=>
   obtain⟨k,i,j⟩:=x;obtain⟨⟨qs,b,f,c,g⟩,d,_⟩:=VV _ _ _ _ _ _ _ _ (N2 s _ _) aE a;rw[List.nil_append] at b;subst b;rw[a] at h;simp only at h;split at h
   ·cases h
   ·split at h
    ·split at h
     ·cases h
     ·split at h
      ·simp only[cX,cY] at h;obtain⟨rfl,rfl⟩:=h;exact⟨f,d,c,g⟩
      ·cases h
    ·cases h
structure Rep where
 kind:Int
 text:ByteArray
 code:Int
 place:Int
def J9(k:Int):Rep:=⟨k,⟨#[]⟩,0,0⟩
def D5(n:ByteArray):Bool:=decide (0<n.size)&&decide (BA n 0≠95)
def CQ:Nat->List ByteArray->List (ByteArray×Nat)
 |_,[]=>[]
 |i,n::ns=>(if D5 n=true then [(n,i)] else [])++CQ (i+1) ns
def KK(i:Int):List AB:=[⟨1,⟨#[]⟩,i,0⟩]
def BE(ns:List ByteArray):List ByteArray:=(CQ 0 ns).map (·.1)
def CW(ns:List ByteArray):List (List AB):=(CQ 0 ns).map (fun x=>KK x.2)
def BK(gs:List (List AB))(ns:List ByteArray):Cf:=⟨⟨gs,CW ns,ns.length⟩,[]⟩
def KH(S:St):Nat:=AO (S.aV++S.aS)
def CX(S:St):St:=⟨(AT [] (S.aV++S.aS)).1.take S.aV.length,(AT [] (S.aV++S.aS)).1.drop S.aV.length,(AT [] (S.aV++S.aS)).2.length⟩
def I1(c:Ch):Ch:=⟨CX c.st,c.cls⟩
def MO(x:ByteArray×List AB):ByteArray:=x.1++⟨#[32,61,32]⟩++KM x.2
def EY:List (ByteArray×List AB)->ByteArray
 |[]=>⟨#[]⟩
 |x::l=>MO x++(if l=[] then⟨#[]⟩ else⟨#[44,32]⟩++EY l)
def aDP:ByteArray:=⟨#[121,101,115]⟩
def EB(a:List ByteArray)(aS:List (List AB)):ByteArray:=if a=[] then aDP else EY (a.zip (AT [] aS).1)
structure Qs where
 aW:List ByteArray
 chs:List Ch
structure Se where
 lim:Nat
 cls:List Cl
 q:Option Qs
def DL:St:=⟨[],[],0⟩
def CT(S:Se)(a:List ByteArray)(r:Int×Cf):Rep×Se:=
 if r.1=1 then(⟨1,EB a r.2.now.aS,0,0⟩,⟨S.lim,S.cls,some ⟨a,r.2.chs.map I1⟩⟩) else(J9 r.1,⟨S.lim,S.cls,none⟩)
def J3(S:Se)(gs:List (List AB))(ns:List ByteArray):Int×Cf:=if 200<KH (BK gs ns).now then(7,BK gs ns) else CG S.cls S.lim (0,BK gs ns)
def U9(S:Se)(q:Qs):Int×Cf:=CG S.cls S.lim (-1,⟨DL,q.chs⟩)
def JE(S:Se)(a:ByteArray):Rep×Se:=match BM a with
 | .error e=>(⟨4,⟨#[]⟩,e.1,e.2⟩,⟨S.lim,S.cls,none⟩)
 | .ok (gs,ns)=>CT S (BE ns) (J3 S gs ns)
def IA(S:Se):Rep×Se:=match S.q with
 |none=>(J9 3,S)
 |some q=>CT S q.aW (U9 S q)
def PF(S:Se):Se:=⟨S.lim,S.cls,none⟩
theorem NN:∀(i:Nat) (ns:List ByteArray) (x:ByteArray×Nat),x∈CQ i ns->i<=x.2/\x.2<i+ns.length/\x.1∈ns/\D5 x.1=true
 |_,[],_,h=>by simp[CQ] at h
 |i,n::ns,x,h=>by
  rw[CQ] at h;rcases bO.1 h with h|h
  ·split at h
   ·rename_i a;simp at h;subst h;exact⟨aE,aE,aE,a⟩
   ·simp at h
  ·obtain⟨e,d,c,b⟩:=NN (i+1) ns x h;exact⟨aD,by simp only[bM];omega,bA _ c,b⟩
theorem JN:∀(i:Nat) (ns:List ByteArray),(CQ i ns).length<=ns.length
 |_,[]=>by simp[CQ]
 |i,n::ns=>by
  have:=JN (i+1) ns;rw[CQ,bL,bM];split
  ·simp only[bM,dA];omega
  ·simp only[dA];omega
structure aC7(n:Nat)(q:Qs):Prop where
 nl:q.aW.length<=16
 nz:∀x∈q.aW,x.size<=12
 cl:q.chs.length<=20
 c:∀c∈q.chs,StG 1000 406400 c.st/\c.st.aS.length=q.aW.length/\(∀k∈c.cls,k<n)/\c.cls≠[]/\GK c.st.aV/\∃g gs,c.st.aV=g::gs/\ER g
structure zh(S:Se):Prop where
 l1:1<=S.lim
 l2:S.lim<=1000
 cl:S.cls.length<=30
 cls:∀c∈S.cls,ClR c/\c.vars<=16/\ClG c
 q:∀q,S.q=some q->aC7 S.cls.length q
end Rf
