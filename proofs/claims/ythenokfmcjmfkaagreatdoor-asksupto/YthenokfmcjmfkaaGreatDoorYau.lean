import Derived.Test.YthenokfmcjmfkaaGreatDoorYat
namespace Rf
theorem ClR.past{c:Cl}(h:ClR c):C4 c<=c.vars:=by
 have g:∀p:AB,yt c.vars p->p.kind=1->p.value<(c.vars:Int):=fun p e d=>by
  rcases e with e|e|e
  ·exact e.2.2.2.2
  ·rw[e.1] at d;exact absurd d aF
  ·rw[e.1] at d;exact absurd d aF
 unfold C4;refine UD aD (RV (a:=0) aD (fun p b d=>g p (h.hp p b) d)) (fun t i p b d=>?_);rcases h.bg t i with f|f
 ·rw[f] at b;have:p=⟨4,⟨#[]⟩,0,0⟩:=by simpa[aDj] using b
  rw[this] at d;exact absurd d aF
 ·exact g p (f.2.1 p b) d
theorem SeU.d{S:Se}(h:SeU S):Ba S.cls:=fun c a=>⟨h.ok.g c a,by rw[(h.q c a).top];decide,(h.ok.cls c a).1.past⟩
theorem lR{cs:List Cl}(a:uw cs){G:Nat}{F:Int}(n:Nat){r:Int×Cf}(h:CfG cs G F 0 r.2): (∃N F,StG N F (CG cs n r).2.now)/\∀c∈(CG cs n r).2.chs,∃N F,StG N F c.st:=by
 obtain⟨t,o,_,d,_⟩:=ND (P:=fun t r=>CfG cs G F t r.2) (fun _ _ h=>N6 a h) (fun _ _ h b=>UO a h b) n 0 r h;exact⟨⟨_,_,d.now⟩,fun c a=>⟨_,_,(d.chs c a).1⟩⟩
theorem fF{S:Se}{D:SD}(h:jq S D)(e:SeU S)(a:ByteArray): (H7 D a).1=(JE S a).1/\jq (JE S a).2 (H7 D a).2:=by
 refine y9 h a e.d e.q (fun gs ns b=>?_) (fun gs ns b=>?_)
 ·exact⟨(J4 (S:=S) (F3 b) (IP b)).2.cf,F3 b⟩
 ·have d:=(J4 (S:=S) (F3 b) (IP b)).2.cf;unfold J3;split
  ·exact⟨⟨_,_,d.now⟩,fun c f=>⟨_,_,(d.chs c f).1⟩⟩
  ·exact lR e.ok.g S.lim (r:=(0,BK gs ns)) d
theorem YK{S:Se}{D:SD}(h:jq S D)(a:SeU S){q:Qs}{d:QD}(l:S.q=some q)(m:U2 q d): (DE D d).1=(U9 S q).1/\((U9 S q).1=1->jc (U9 S q).2 (DE D d).2):=by
 have i:=(L4 a.ok (a.ok.q q l)).cf;have j:PlQ S.cls (-1,⟨DL,q.chs⟩):=⟨a.i q l,fun e=>by simp at e⟩
 obtain⟨k,n⟩:=YM a.d m.chs (fun c o=>⟨_,_,(i.chs c o).1⟩);obtain⟨r,p⟩:=pD S.cls ⟨[],[],d.cf.now.aQ⟩ d.cf.now d.cf.chs rfl;have g:BI S.cls (-1,⟨DL,q.chs⟩)=B6 S.cls ⟨DL,q.chs⟩:=by rw[ZH a.q j,bD rfl]
 unfold DE U9;rw[h.cls,h.lim];have e0: (BB S.cls d.cf).1=(B6 S.cls ⟨DL,q.chs⟩).1:=r.symm.trans k;by_cases b: (B6 S.cls ⟨DL,q.chs⟩).1=0
 ·rw[bD (e0.trans b),T3 (by rw[g];exact b),g,<-p (k.trans b)];have f:=dL a.q j;have:=O9 a.d a.q S.lim 0 n ⟨f.chs,fun _=>f.now b⟩ (N6 a.ok.g i);exact⟨this.1,fun _=>this.2⟩
 ·rw[bC (fun e=>b (e0.symm.trans e)),YU (by rw[g];exact b),g];refine⟨e0,fun s=>?_⟩;have:=SO S.cls ⟨DL,q.chs⟩;unfold G9 at this;omega
theorem mE{S:Se}{D:SD}(h:jq S D)(a:List ByteArray){r b:Int×Cf}(e:b.1=r.1)(f:r.1=1->jc r.2 b.2)(g:∃N F,StG N F r.2.now)(i:∀c∈r.2.chs,∃N F,StG N F c.st): (DD D a b).1=(CT S a r).1/\jq (CT S a r).2 (DD D a b).2:=by
 by_cases d:r.1=1
 ·exact ZQ h a e (f d) g i
 ·unfold DD CT;rw[e,bC d,bC d];exact⟨rfl,h.lim,h.cls,trivial⟩
theorem YP{S:Se}{D:SD}(h:jq S D)(c:SeU S): (FB D).1=(IA S).1/\jq (IA S).2 (FB D).2:=by
 have a:=h.q;unfold FB IA
 cases b:S.q with
 |none=>
  cases e:D.q with
  |none=>exact⟨rfl,h⟩
  |some d=>rw[b,e] at a;exact a.elim
 |some q=>
  cases e:D.q with
  |none=>rw[b,e] at a;exact a.elim
  |some d=>
   rw[b,e] at a;have f:U2 q d:=a;obtain⟨i,j⟩:=YK h c b f;have g:=(L4 c.ok (c.ok.q q b)).cf;obtain⟨k,l⟩:=lR c.ok.g S.lim (r:=(-1,⟨DL,q.chs⟩)) g;simp only;rw[f.aW];exact mE h _ i j k l
theorem rG{S:Se}{D:SD}(h:jq S D):jq (PF S) (rR D):=⟨h.lim,h.cls,trivial⟩
def EZ(S:SD)(s:ByteArray): (Int×Nat)×SD:=((JG S.cls s).1,⟨S.lim,(JG S.cls s).2,none⟩)
theorem S6{S:Se}{D:SD}(h:jq S D)(s:ByteArray): (EZ D s).1=(EE S s).1/\jq (EE S s).2 (EZ D s).2:=by
 unfold EZ EE;rw[h.cls];exact⟨rfl,h.lim,rfl,trivial⟩
def yw(cs:List Cl):Prop:=∀c∈cs,c.vars<=16
theorem yw.at{cs:List Cl}(h:yw cs)(k:Nat): (cs.getD k EM).vars<=16:=by
 by_cases a:k<cs.length
 ·have e:cs.getD k EM=cs[k]:=by simp[a]
  rw[e];exact h _ (bG a)
 ·have e:cs.getD k EM=EM:=by simp[List.getD,List.getElem?_eq_none (by omega:cs.length<=k)]
  rw[e];decide
theorem wZ(cf:Cf)(s:St)(c:Cl)(h:Int): (DO cf s c h).2.now.aQ=s.aQ+c.vars:=by unfold DO;simp only;split<;>rfl
theorem VJ:∀{t:List AB} {m:Int} (r:List AB),Whole t m->t≠[]->H6 m (t++r)=t.length
 |[],_,_,_,h=>absurd rfl h
 |p::t,m,r,h,_=>by
  have e:m+(p.args -1)=m+p.args -1:=aD;rw[List.cons_append,H6,e]
  cases t with
  |nil=>
   have a:m+p.args -1=0:=h.2;rw[bD a];rfl
  |cons q t=>
   have b:0<m+p.args -1:=h.2.1;rw[bC aD,VJ r h.2 aE];rfl
theorem JR{t:List AB}(r:List AB)(h:Whole t 1):CN (t++r)=t.length:=VJ r h (fun e=>by rw[e] at h;exact absurd (show(1:Int)=0 from h) aF)
theorem sK{v:AB}(h:v.kind=1){q:AB}{t:List AB}(i:v≠q)(j:Whole (q::t) 1)(f s:List AB)(b c a:List (List AB)):BG ⟨v::f,(q::t)++s,b,c,a⟩=A6 ⟨f,s,b,c,a⟩ v.value (q::t):=by
 have d:¬FW v q=true:=fun e=>i (CE.1 e);have g:=JR s j;show(if FW v q=true then _ else if v.kind=1 then A6 ⟨f,((q::t)++s).drop (CN ((q::t)++s)),b,c,a⟩ v.value (((q::t)++s).take (CN ((q::t)++s))) else _)=_;rw[bC d,bD h,g,List.drop_left,List.take_left]
theorem qJ{v:AB}(d:v.kind=1){q:AB}{t:List AB}(g:q.kind≠1)(j:Whole (q::t) 1)(f s:List AB)(b c a:List (List AB)):BG ⟨(q::t)++f,v::s,b,c,a⟩=A6 ⟨f,s,b,c,a⟩ v.value (q::t):=by
 have h:¬FW q v=true:=fun e=>g (by rw[CE.1 e];exact d);have i:=JR f j;show(if FW q v=true then _ else if q.kind=1 then _ else if v.kind=1 then A6 ⟨((q::t)++f).drop (CN ((q::t)++f)),s,b,c,a⟩ v.value (((q::t)++f).take (CN ((q::t)++f))) else _)=_;rw[bC h,bC g,bD d,i,List.drop_left,List.take_left]
theorem Y7:∀(a f s:List AB) (bo be te:List (List AB)),AL ⟨a++f,a++s,bo,be,te⟩=AL ⟨f,s,bo,be,te⟩
 |[],_,_,_,_,_=>rfl
 |p::a,f,s,bo,be,te=>(ZC p (a++f) (a++s) bo be te).trans (Y7 a f s bo be te)
def FQ(f:AB->ByteArray):List AB->List Nat->ByteArray
 |[],_=>⟨#[]⟩
 |p::ps,st=>if 0<p.args then f p++(⟨#[40]⟩++FQ f ps (p.args.toNat::st)) else f p++((CI st).1++FQ f ps (CI st).2)
def FO(f:AB->ByteArray)(ps:List AB):ByteArray:=FQ f ps []
def LF(f:AB->ByteArray):List (List AB)->ByteArray
 |[]=>⟨#[]⟩
 |[q]=>FO f q++⟨#[41]⟩
 |q::q'::qs=>FO f q++(⟨#[44]⟩++LF f (q'::qs))
theorem RL{f:AB->ByteArray}(d:Nat)(H:∀q,Wf d q->∀rest st,FQ f (q++rest) st=FO f q++((CI st).1++FQ f rest (CI st).2)):∀(qs:List (List AB)),1<=qs.length->(∀q∈qs,Wf d q)->∀rest st,FQ f (qs.flatten++rest) (qs.length::st)=LF f qs++((CI st).1++FQ f rest (CI st).2)
 |[],h,_,_,_=>by simp at h
 |[q],_,hq,rest,st=>by
  have a:=H q (hq q aE) rest (1::st);simp only[List.flatten_cons,List.flatten_nil,List.append_nil,bM,dA] at*;rw[a,LF];simp only[CI,Nat.lt_irrefl,if_false];simp only[dE]
 |q::q'::qs,_,hq,rest,st=>by
  have a:=H q (hq q aE) ((q'::qs).flatten++rest) ((q::q'::qs).length::st);have b:=RL d H (q'::qs) aE (fun x hx=>hq x (bA _ hx)) rest st;rw[List.flatten_cons,List.append_assoc,a,LF]
  have c:CI ((q::q'::qs).length::st)=(⟨#[44]⟩,(q'::qs).length::st):=by
   rw[CI,bD aE];rfl
  rw[c];simp only[dE];rw[b]
theorem jY{f:AB->ByteArray}:∀(d:Nat) (ps:List AB),Wf d ps->∀rest st,FQ f (ps++rest) st=FO f ps++((CI st).1++FQ f rest (CI st).2)
 |0,_,h=>h.elim
 |d+1,ps,h=>by
  intro rest st;rcases h with⟨p,rfl,c⟩|⟨s,qs,i,e,rfl⟩
  ·simp only[FO,List.singleton_append,FQ,c,Int.lt_irrefl,if_false,CI,JP]
  ·have b:=RL (f:=f) d (jY d) qs i e;have g:=b rest st;have a:=b [] [];simp only[List.append_nil,CI,FQ,JP] at a;simp only[FO,List.cons_append,FQ];have j: (0:Int)<(qs.length:Int):=aD;simp only[j,if_true,Int.toNat_natCast];rw[g,a];simp only[dE]
theorem tF{f:AB->ByteArray}(b:∀s n,f ⟨3,s,0,n⟩=s)(d:Nat)(s:ByteArray)(qs:List (List AB))(e:1<=qs.length)(c:∀q∈qs,Wf d q):FO f (⟨3,s,0,qs.length⟩::qs.flatten)=s++(⟨#[40]⟩++LF f qs):=by
 have a:=RL (f:=f) d (jY d) qs e c [] [];simp only[List.append_nil,CI,FQ,JP] at a;simp only[FO,FQ];have g: (0:Int)<(qs.length:Int):=aD;simp only[g,if_true,Int.toNat_natCast];rw[a];rw[b]
def JC(f:AB->ByteArray)(s:ByteArray)(qs:List (List AB)):Nat->ByteArray
 |0=>s
 |i+1=>if i=0 then(s++⟨#[40]⟩)++FO f (qs.getD 0 []) else(JC f s qs i++⟨#[44]⟩)++FO f (qs.getD i [])
theorem gI{f:AB->ByteArray}(s:ByteArray):∀(n:Nat) (qs:List (List AB)) (i:Nat),n+i=qs.length->1<=n->1<=i->JC f s qs qs.length++⟨#[41]⟩=(JC f s qs i++⟨#[44]⟩)++LF f (qs.drop i)
 |0,_,_,_,h,_=>by omega
 |n+1,qs,i,hn,_,hi=>by
  have a:i<qs.length:=aD;have e:=List.drop_eq_getElem_cons a;have d:qs.getD i []=qs[i]:=by simp[a]
  by_cases g:n=0
  ·have b:qs.drop (i+1)=[]:=List.drop_of_length_le aD;rw[e,b,LF,show qs.length=i+1 by omega,JC,bC aD,d];simp only[dE]
  ·rw[gI s n qs (i+1) aD aD aD,JC,bC aD,d];rw[e];have c:=List.drop_eq_getElem_cons (show i+1<qs.length by omega);rw[c,LF];simp only[dE]
theorem aBk{f:AB->ByteArray}(s:ByteArray)(qs:List (List AB))(h:1<=qs.length):JC f s qs qs.length++⟨#[41]⟩=s++(⟨#[40]⟩++LF f qs):=by
 cases qs with
 |nil=>simp at h
 |cons q qs=>
  cases qs with
  |nil=>simp only[bM,dA,JC,LF,if_true];simp[dE]
  |cons a qs=>
   rw[gI s ((q::a::qs).length-1) (q::a::qs) 1 aE aE (aX _)];simp only[JC,if_true,LF,List.drop_succ_cons,List.drop_zero];simp[dE]
theorem eO{f:AB->ByteArray}(s:ByteArray)(qs:List (List AB))(B:Nat)(h:∀q∈qs,(FO f q).size<=B):∀k,k<=qs.length->(JC f s qs k).size<=s.size+k*(B+1)
 |0,_=>by simp[JC]
 |k+1,hk=>by
  have b:=eO s qs B h k aD
  have c: (FO f (qs.getD k [])).size<=B:=by
   rw[List.getD_eq_getElem?_getD,bU (show k<qs.length by omega)];exact h _ (bG _)
  rw[JC];have e: (⟨#[40]⟩:ByteArray).size=1:=rfl;have d: (⟨#[44]⟩:ByteArray).size=1:=rfl;have g: (k+1)*(B+1)=k*(B+1)+(B+1):=by rw[Nat.add_mul,Nat.one_mul]
  split
  ·rename_i a;subst a;simp only[ByteArray.size_append];omega
  ·simp only[ByteArray.size_append];omega
theorem R7{f:AB->ByteArray}:∀(ps:List AB) (st:List Nat),(∀p∈ps,(f p).size<=22)->(FQ f ps st).size<=24*ps.length+st.length
 |[],st,_=>by simp[FQ,ByteArray.size]
 |p::ps,st,h=>by
  have c:=h p aE;have a:∀q∈ps,(f q).size<=22:=fun q b=>h q (bA _ b);rw[FQ];split
  ·have:=R7 ps (p.args.toNat::st) a;have d: (⟨#[40]⟩:ByteArray).size=1:=rfl;simp only[ByteArray.size_append,bM] at*;omega
  ·have:=R7 ps (CI st).2 a;have:=R4 st;simp only[ByteArray.size_append,bM] at*;omega
theorem O6{f:AB->ByteArray}(ps:List AB)(h:∀p∈ps,(f p).size<=22): (FO f ps).size<=24*ps.length:=by
 have:=R7 ps [] h;simpa[FO] using this
def GA(ns:List Int)(v:Int):ByteArray:=if v∈ns then⟨#[95]⟩++FR ((ns.idxOf v:Nat)+1) else⟨#[]⟩
def C2(ns:List Int)(p:AB):ByteArray:=if p.kind=1 then GA ns p.value else if p.kind=2 then FR p.value else if p.kind=4 then⟨#[33]⟩ else p.name
theorem R8{ns:List Int}:∀(t:List AB),VIn (· ∈ns) t->∀st,IB false (AS (D9 ns) t) st=FQ (C2 ns) t st
 |[],_,_=>rfl
 |p::t,h,st=>by
  have c:VIn (· ∈ns) t:=fun q g a=>h q (bA _ g) a;have e:AS (D9 ns) (p::t)=BX (D9 ns) p::AS (D9 ns) t:=rfl
  have i:IC false (BX (D9 ns) p)=C2 ns p:=by
   show KE _=_;unfold C2 KE;by_cases a:p.kind=1
   ·have f:=h p aE a;have b: (BX (D9 ns) p).kind=1:=by unfold BX;rw[bD a];exact a
    have d: (BX (D9 ns) p).value=D9 ns p.value:=by unfold BX;rw[bD a]
    rw[bD b,bD a,d];unfold GA D9;rw[bD f]
   ·have b:BX (D9 ns) p=p:=by unfold BX;rw[bC a]
    rw[b,bC a];simp[a]
  have j: (BX (D9 ns) p).args=p.args:=by unfold BX;split<;>rfl
  rw[e,IB,FQ,i,j,R8 t c,R8 t c]
theorem aBC{ns a:List Int}{t:List AB}(h: (AQ ns t).2<+:a):KM (AQ ns t).1=FO (C2 a) t:=by
 obtain⟨e,b⟩:=MD t ns a h;rw[e];exact R8 t b []
theorem mM{ns:List Int}{v:Int}(h:ns.length<=1000000): (GA ns v).size<=22:=by
 unfold GA;split
 ·rename_i a;have c:=List.idxOf_lt_length_of_mem a;have:=Go.Lib.itoa_length_le (((ns.idxOf v:Nat):Int)+1) aD aD;rw[bI];have b: (⟨#[95]⟩:ByteArray).size=1:=rfl;have d: (FR (((ns.idxOf v:Nat):Int)+1)).size<=21:=by unfold FR;simpa[ByteArray.size] using this
  omega
 ·show 0<=22;omega
theorem uH{ns:List Int}{v:Int}(h:v∈ns):GA ns v≠⟨#[]⟩:=by
 unfold GA;rw[bD h];intro e;have:=congrArg ByteArray.size e;rw[bI] at this;have a: (⟨#[95]⟩:ByteArray).size=1:=rfl;have b: (⟨#[]⟩:ByteArray).size=0:=rfl;omega
theorem MS{ns:List Int}{p:AB}{F:Int}(h:ns.length<=1000000)(a:ru F p): (C2 ns p).size<=22:=by
 unfold C2;split
 ·exact mM h
 ·split
  ·rename_i b;have c:=a.2.2.1 b;have:=Go.Lib.itoa_length_le p.value aD aD;have d: (FR p.value).size<=21:=by unfold FR;simpa[ByteArray.size] using this
   omega
  ·split
   ·show 1<=22;omega
   ·have:=a.2.2.2;omega
structure yj(ns:List Int)(bs:List ByteArray):Prop where
 nd:ns.Nodup
 lt:∀v∈ns,0<=v/\v<(bs.length:Int)
 at':∀i,i<bs.length->bs[i]?=some (GA ns i)
theorem yj.nil:yj [] []:=⟨List.nodup_nil,fun v h=>by simp at h,fun i h=>by simp at h⟩
theorem yj.more{ns:List Int}{bs:List ByteArray}(h:yj ns bs):yj ns (bs++[⟨#[]⟩]):=by
 refine⟨h.nd,fun v b=>⟨(h.lt v b).1,by have:=(h.lt v b).2;simp;omega⟩,fun i d=>?_⟩;by_cases a:i<bs.length
 ·rw[List.getElem?_append_left a];exact h.at' i a
 ·have e:i=bs.length:=by simp at d;omega
  subst e;rw[List.getElem?_append_right (aX _)];have:¬((bs.length:Nat):Int)∈ns:=fun c=>by have:=(h.lt _ c).2;omega
  simp[GA,this]
theorem yj.name{ns:List Int}{bs:List ByteArray}(h:yj ns bs){v:Nat}(m:v<bs.length)(j:¬(v:Int)∈ns):yj (ns++[(v:Int)]) (bs.set v (⟨#[95]⟩++FR ((ns.length:Nat)+1))):=by
 refine⟨?_,fun u d=>?_,fun i g=>?_⟩
 ·rw[List.nodup_append];exact⟨h.nd,aE,fun a l b k=>by rw[List.mem_singleton.1 k];intro e;exact j (e ▸ l)⟩
 ·rw[List.length_set];rcases bO.1 d with d|d
  ·exact h.lt u d
  ·rw[List.mem_singleton.1 d];omega
 ·rw[List.length_set] at g;have c: (ns++[(v:Int)]).idxOf (v:Int)=ns.length:=by rw[List.idxOf_append,bC j];simp
  by_cases e:v=i
  ·subst e;rw[List.getElem?_set_self g];unfold GA;rw[bD aE,c]
  ·rw[List.getElem?_set_ne e,h.at' i g];unfold GA;by_cases f: (i:Int)∈ns
   ·rw[bD f,bD (by simp[f]),List.idxOf_append,bD f]
   ·rw[bC f,bC (by simp[f];omega)]
theorem aAT{ns:List Int}{v:Int}(h:¬v∈ns):CY ns v=ns++[v]:=by unfold CY;rw[bC h]
theorem aBf{ns:List Int}{v:Int}(h:v∈ns):CY ns v=ns:=by unfold CY;rw[bD h]
theorem M4:∀(t:List AB) (ns:List Int),(AQ ns t).2.length<=ns.length+t.length
 |[],ns=>by simp[AQ]
 |p::t,ns=>by
  rw[AQ];have:=M4 t (BU ns p)
  have a: (BU ns p).length<=ns.length+1:=by
   unfold BU CY;split
   ·split
    ·omega
    ·simp
   ·omega
  simp only[bM];omega
theorem vX(p:AB)(a:p.kind≠1)(qs:List (List AB))(ns:List Int): (AQ ns (p::qs.flatten)).2=(AQ ns qs.flatten).2:=by
 rw[AQ];have:BU ns p=ns:=by unfold BU;rw[bC a]
 rw[this]
theorem xW(qs:List (List AB))(k:Nat)(a:k<qs.length)(ns:List Int): (AQ ns (qs.take (k+1)).flatten).2=(AQ (AQ ns (qs.take k).flatten).2 qs[k]).2:=by
 rw[bJ a,List.flatten_append,jX];simp
def ED(l:List (List AB×List AB)):List AB:=(l.map (·.1)).flatten
def FX(l:List (List AB×List AB)):List AB:=(l.map (·.2)).flatten
def A4(l:List (List AB×List AB))(b c a:List (List AB)):Eqn:=⟨ED l,FX l,b,c,a⟩
def LM(v:Int)(x:List AB)(p:List AB×List AB):List AB×List AB:=(AP v x p.1,AP v x p.2)
theorem UC{v:Int}{x:List AB}:∀(l:List (List AB)),AP v x l.flatten=(l.map (AP v x)).flatten
 |[]=>rfl
 |a::l=>by rw[List.flatten_cons,WL,UC l,List.map_cons,List.flatten_cons]
theorem I8(l:List (List AB×List AB))(b c a:List (List AB))(v:Int)(x:List AB): (A4 l b c a).put v x=A4 (l.map (LM v x)) (b.map (AP v x)) (c.map (AP v x)) (a.map (AP v x)):=by
 unfold A4 Eqn.put ED FX;simp only[UC,List.map_map];rfl
theorem uO(b c a:List (List AB)):AL (A4 [] b c a)=(0,A4 [] b c a):=by
 rw[MH,bD (by simp[F6,A4,ED])]
theorem sW(a:List AB)(l:List (List AB×List AB))(c d b:List (List AB)):AL (A4 ((a,a)::l) c d b)=AL (A4 l c d b):=by
 unfold A4 ED FX;simp only[List.map_cons,List.flatten_cons];exact Y7 a _ _ _ _ _
def LZ(r:Int×Eqn):Int×Eqn:=if r.1=0 then AL r.2 else r
theorem YS{e:Eqn}{r:Int×Eqn}(a:F6 e=false)(h:BG e=r):AL e=LZ r:=by
 rw[MH,a,h];unfold LZ;simp
theorem wW{i:Int}{t:List AB}(h:Whole (⟨1,⟨#[]⟩,i,0⟩::t) 1):t=[]:=by
 have a:Whole t 0:=h.2
 cases t with
 |nil=>rfl
 |cons q t=>have:=a.1;omega
theorem z8{i:Int}{b:List AB}(a:Whole b 1)(c:[⟨1,⟨#[]⟩,i,0⟩]≠b)(l:List (List AB×List AB))(e f d:List (List AB)):AL (A4 (([⟨1,⟨#[]⟩,i,0⟩],b)::l) e f d)=LZ (A6 (A4 l e f d) i b):=by
 cases b with
 |nil=>exact absurd (show(1:Int)=0 from a) aF
 |cons q t=>
  have g: (⟨1,⟨#[]⟩,i,0⟩:AB)≠q:=by
   rintro rfl;exact c (by rw[wW a])
  refine YS (by simp[F6,A4,ED,FX]) ?_;unfold A4 ED FX;simp only[List.map_cons,List.flatten_cons,List.singleton_append];exact sK rfl g a _ _ _ _ _
theorem xH{i:Int}{q:AB}{t:List AB}(e:Whole (q::t) 1)(d:q.kind≠1)(l:List (List AB×List AB))(b c a:List (List AB)):AL (A4 ((q::t,[⟨1,⟨#[]⟩,i,0⟩])::l) b c a)=LZ (A6 (A4 l b c a) i (q::t)):=by
 refine YS (by simp[F6,A4,ED,FX]) ?_;unfold A4 ED FX;simp only[List.map_cons,List.flatten_cons,List.singleton_append];exact qJ (v:=⟨1,⟨#[]⟩,i,0⟩) rfl d e _ _ _ _ _
theorem qL{p q:AB}{s t:List AB}(a:p≠q)(d:p.kind≠1)(c:q.kind≠1)(l:List (List AB×List AB))(e f b:List (List AB)): (AL (A4 ((p::s,q::t)::l) e f b)).1=-1:=by
 unfold A4 ED FX;simp only[List.map_cons,List.flatten_cons,List.cons_append];exact mC _ _ _ _ _ a d c
theorem U6:∀{as bs:List (List AB)},as.length=bs.length->(as.zip bs).map (·.1)=as
 |[],[],_=>rfl
 |[],_::_,h=>by simp at h
 |_::_,[],h=>by simp at h
 |a::as,b::bs,h=>by rw[List.zip_cons_cons,List.map_cons,U6 (by simpa using h)]
theorem UT:∀{as bs:List (List AB)},as.length=bs.length->(as.zip bs).map (·.2)=bs
 |[],[],_=>rfl
 |[],_::_,h=>by simp at h
 |_::_,[],h=>by simp at h
 |a::as,b::bs,h=>by rw[List.zip_cons_cons,List.map_cons,UT (by simpa using h)]
theorem tO(p:AB){a bs:List (List AB)}(f:a.length=bs.length)(l:List (List AB×List AB))(c d b:List (List AB)):AL (A4 ((p::a.flatten,p::bs.flatten)::l) c d b)=AL (A4 (a.zip bs++l) c d b):=by
 have e:=ZC p (a.flatten++ED l) (bs.flatten++FX l) c d b;have h:ED (a.zip bs++l)=a.flatten++ED l:=by unfold ED;rw[bE,List.flatten_append,U6 f]
 have g:FX (a.zip bs++l)=bs.flatten++FX l:=by unfold FX;rw[bE,List.flatten_append,UT f]
 unfold A4;rw[h,g,<-e];unfold ED FX;simp only[List.map_cons,List.flatten_cons,List.cons_append]
def Msr(m:Nat)(e:Eqn):Prop:=∃L:List Int,Ar L e/\L.length*201+e.f.length<m
theorem aCV(e:Eqn):∃m,Msr m e:=⟨_,((e.f++e.s).map (fun p=>p.value)),fun p a _=>bQ.2 ⟨p,bO.2 a,rfl⟩,Nat.lt_succ_self _⟩
theorem Ar.sub{L:List Int}{e b:Eqn}(h:Ar L e)(f:∀p∈b.f,p∈e.f)(d:∀p∈b.s,p∈e.s):Ar L b:=fun p a c=>by
 rcases a with a|a
 ·exact h p (.inl (f p a)) c
 ·exact h p (.inr (d p a)) c
theorem lN{m:Nat}{e a:Eqn}(h:Msr m e)(c:∀p∈a.f,p∈e.f)(b:∀p∈a.s,p∈e.s)(f:a.f.length<e.f.length):0<m/\Msr (m-1) a:=by
 obtain⟨L,d,g⟩:=h;exact⟨aD,L,d.sub c b,aD⟩
theorem aCC{m:Nat}{e e0:Eqn}{v:Int}{x:List AB}(h:Msr m e)(n:∀p∈e0.f,p∈e.f)(k:∀p∈e0.s,p∈e.s)(f:∃p,(p∈e.f\/p∈e.s)/\p.kind=1/\p.value=v)(hx:∀p∈x,p∈e.f\/p∈e.s)(c: (A6 e0 v x).1=0):0<m/\Msr (m-1) (A6 e0 v x).2:=by
 obtain⟨L,b,s⟩:=h;obtain⟨p,o,a,rfl⟩:=f;have j:=dX c (b.sub n k) (fun q g a=>b q (hx q g) a);have i:=L8 (b p o a);obtain⟨_,l,d⟩:=QW c
 have r: (A6 e0 p.value x).2.f.length<=200:=by
  rw[l];unfold Eqn.size at d;omega
 refine⟨aD,_,j,?_⟩;have: (L.filter (fun u=>u !=p.value)).length+1<=L.length:=i;omega
theorem JL{v:Int}{x:List AB}{n:Nat}(a:1<=n)(hx:x.length<=n):∀(t:List AB),(AP v x t).length<=t.length*n
 |[]=>by simp[AP]
 |p::t=>by
  have b:=JL (v:=v) a hx t;rw[AP,bL,bM,Nat.add_mul,Nat.one_mul];split
  ·omega
  ·simp only[bM,dA];omega
theorem MN{v:Int}{x:List AB}{n:Nat}(a:1<=n)(hx:x.length<=n):∀(ts:List (List AB)),AO (ts.map (AP v x))<=AO ts*n
 |[]=>by simp[AO]
 |t::ts=>by
  have b:=MN (v:=v) a hx ts;have:=JL (v:=v) a hx t;rw[List.map_cons,AO,AO,Nat.add_mul];omega
theorem dZ{v:Int}{x:List AB}{n:Nat}(a:1<=n)(hx:x.length<=n)(e:Eqn): (e.put v x).size<=e.size*n:=by
 have d:=JL (v:=v) a hx e.f;have c:=JL (v:=v) a hx e.s;have b:=MN (v:=v) a hx e.body;have f:=MN (v:=v) a hx e.behind;have g:=MN (v:=v) a hx e.aS;unfold Eqn.size Eqn.put;simp only[Nat.add_mul];omega
theorem J0:∀(a b:List (List AB)),AO (a++b)=AO a+AO b
 |[],b=>by simp[AO]
 |t::a,b=>by rw[List.cons_append,AO,AO,J0 a b];omega
def DY:List (List AB×List AB)->Nat
 |[]=>0
 |p::l=>p.1.length+p.2.length+DY l
theorem WI:∀(l:List (List AB×List AB)),DY l=(ED l).length+(FX l).length
 |[]=>rfl
 |p::l=>by
  have:=WI l;unfold ED FX at this⊢;simp only[List.map_cons,List.flatten_cons,List.length_append,DY];omega
theorem GQ(l:List (List AB×List AB))(b c a:List (List AB)): (A4 l b c a).size=DY l+AO (b++c)+AO a:=by
 rw[WI,J0];unfold A4 Eqn.size;simp only[];omega
def FT:List AB->List AB->Bool
 |[],[]=>true
 |p::a,q::b=>FW p q&&FT a b
 |_,_=>false
theorem M9:∀{a b:List AB},FT a b=true↔a=b
 |[],[]=>by simp[FT]
 |[],_::_=>by simp[FT]
 |_::_,[]=>by simp[FT]
 |p::a,q::b=>by rw[FT,Bool.and_eq_true,CE,M9,List.cons.injEq]
theorem L0{a b:List AB}(h:a≠b):FT a b=false:=by
 cases e:FT a b with
 |false=>rfl
 |true=>exact absurd (M9.1 e) h
theorem m6{a b r c:List AB}(h:Whole a 1)(f:Whole b 1)(e:a++r=b++c):a=b/\r=c:=by
 have d:=JR r h;have g:=JR c f;rw[e,g] at d;exact List.append_inj e d.symm
theorem YE:∀{as bs:List (List AB)},as.length=bs.length->(∀a∈as,Whole a 1)->(∀b∈bs,Whole b 1)->as.flatten=bs.flatten->as=bs
 |[],[],_,_,_,_=>rfl
 |[],_::_,h,_,_,_=>by simp at h
 |_::_,[],h,_,_,_=>by simp at h
 |a::as,b::bs,h,ha,hb,e=>by
  rw[List.flatten_cons,List.flatten_cons] at e;obtain⟨d,c⟩:=m6 (ha a aE) (hb b aE) e;rw[d,YE (by simpa using h) (fun x hx=>ha x (bA _ hx)) (fun x hx=>hb x (bA _ hx)) c]
theorem YL(x:ByteArray×List AB):∀l:List (ByteArray×List AB),EY (l++[x])=if l=[] then MO x else EY l++⟨#[44,32]⟩++MO x
 |[]=>by rw[List.nil_append,bD rfl];simp[EY,JP]
 |y::l=>by
  by_cases h:l=[]
  ·subst h;simp[EY,JP,dE]
  ·have a:=YL x l;rw[bC h] at a;rw[List.cons_append,EY,bC aE,a,bC aE,EY,bC h];simp only[dE]
theorem QS(t:List AB):∀(ts:List (List AB)) (ns:List Int),AT ns (ts++[t])=((AT ns ts).1++[(AQ (AT ns ts).2 t).1],(AQ (AT ns ts).2 t).2)
 |[],ns=>by simp[AT]
 |u::ts,ns=>by rw[List.cons_append,AT,QS t ts,AT];simp
theorem QO:∀(ts:List (List AB)) (ns:List Int),(AT ns ts).1.length=ts.length
 |[],_=>rfl
 |t::ts,ns=>by rw[AT,bM,QO ts];rfl
def KL(a:List ByteArray)(aS:List (List AB))(i:Nat):ByteArray:=EY ((a.take i).zip (AT [] (aS.take i)).1)
def nsT(aS:List (List AB))(i:Nat):List Int:=(AT [] (aS.take i)).2
theorem iF{aS:List (List AB)}{i:Nat}(h:i<aS.length):nsT aS (i+1)=(AQ (nsT aS i) aS[i]).2:=by
 unfold nsT;rw[bJ h,QS]
theorem eS{a:List ByteArray}{aS:List (List AB)}{i:Nat}(d:i<a.length)(h:i<aS.length):KL a aS (i+1)=(if i=0 then⟨#[]⟩ else KL a aS i++⟨#[44,32]⟩)++a[i]++⟨#[32,61,32]⟩++KM (AQ (nsT aS i) aS[i]).1:=by
 unfold KL nsT;rw[bJ h,bJ d,QS,List.zip_append (by rw[QO];simp;omega)];show EY (_++[_])=_;rw[YL];by_cases c:i=0
 ·subst c;simp[MO,N7]
 ·have b:¬((a.take i).zip (AT [] (aS.take i)).1)=[]:=by
   intro e;have:=congrArg List.length e;rw[List.length_zip,QO,bW,bW,dA] at this;omega
  rw[bC b,bC c];simp only[MO,dE]
theorem aAf{a:List ByteArray}{aS:List (List AB)}(c:a.length=aS.length)(b:a≠[]):KL a aS a.length=EB a aS:=by
 unfold KL EB;rw[bC b,bR (aX _),c,bR (aX _)]
theorem ZU{aS:List (List AB)}(a:∀t∈aS,t.length<=400):∀i,i<=aS.length->(nsT aS i).length<=400*i
 |0,_=>by simp[nsT,AT]
 |i+1,h=>by
  rw[iF aD];have d:=ZU a i aD;have c:=M4 aS[i] (nsT aS i);have b:=a aS[i] (bG _);omega
theorem fQ{F:Int}{d:List ByteArray}{aS:List (List AB)}(l:d.length=aS.length)(k:∀n∈d,n.size<=12)(e:∀t∈aS,TmG F t):∀i,i<=d.length->i<=16->(KL d aS i).size<=10000*i
 |0,_,_=>by
  have:KL d aS 0=⟨#[]⟩:=by simp[KL,EY]
  rw[this];show 0<=_;omega
 |i+1,h,h16=>by
  have m:i<aS.length:=aD;rw[eS aD m];have w:=fQ l k e i aD aD;have u:=k d[i] (bG _)
  have s: (KM (AQ (nsT aS i) aS[i]).1).size<=9600:=by
   have j:=e aS[i] (bG _);rw[aBC (List.prefix_refl _)]
   have o: (AQ (nsT aS i) aS[i]).2.length<=1000000:=by
    have a:=M4 aS[i] (nsT aS i);have b:=ZU (fun t g=>(e t g).1) i aD;have c:=j.1;omega
   have:=O6 (f:=C2 (AQ (nsT aS i) aS[i]).2) aS[i] (fun p q=>MS o (j.2 p q));have c:=j.1;omega
  have v: (⟨#[44,32]⟩:ByteArray).size=2:=rfl;have r: (⟨#[32,61,32]⟩:ByteArray).size=3:=rfl;have e0: (⟨#[]⟩:ByteArray).size=0:=rfl;simp only[ByteArray.size_append];split
  ·omega
  ·rw[bI];omega
structure CfD(cs:List Cl)(N:Nat)(K:Int)(cf:Cf):Prop where
 now:StG N K cf.now
 chs:∀c∈cf.chs,StG N cf.now.aQ c.st/\(∀k∈c.cls,k<cs.length)/\(c.cls≠[]->c.st.aV≠[])
 len:cf.chs.length<=20
theorem CfD.mono{cs:List Cl}{N e:Nat}{K d:Int}{cf:Cf}(h:CfD cs N K cf)(a:N<=e)(f:K<=d):CfD cs e d cf:=⟨h.now.mono a f,fun c b=>⟨(h.chs c b).1.mono a (Int.le_refl _),(h.chs c b).2⟩,h.len⟩
theorem StG.atF{N:Nat}{F f:Int}{S:St}(h:StG N f S)(b:f<=F):StG N F (atF f S):=⟨h.gl,h.tl,by have:=h.f0;have:=h.f1;show 0<=f;omega,b,fun t a=>(h.g t a).mono h.f1,fun t a=>(h.t t a).mono h.f1⟩
theorem fR{cs:List Cl}{N:Nat}{K:Int}{cf:Cf}{s:St}{c:Cl}{h:Int}(l:StG N K s)(m:s.aV≠[])(r:ClG c)(A:C4 c<=c.vars)(z:c.vars<=16)(f:StG N K cf.now)(x:cf.now.aQ<=s.aQ)(n:∀d∈cf.chs,StG N s.aQ d.st/\(∀k∈d.cls,k<cs.length)/\(d.cls≠[]->d.st.aV≠[]))(b:cf.chs.length<=20):CfD cs (N+7) (K+16) (DO cf s c h).2:=by
 have y:=l.f0;have w:=l.f1;have q: (0:Int)<=(c.vars:Int):=aD;have p: (c.vars:Int)<=16:=aD
 have j:StG (N+7) (K+16) (DO cf s c h).2.now:=by
  unfold DO;simp only;split
  ·rename_i i;have g:=RA l m r i
   have o: (BD s c h).2.aQ=s.aQ+C4 c:=by
    have u: (AL (BH s c h)).1=0:=by
     unfold BD at i;split at i
     ·assumption
     ·exact i
    unfold BD;rw[bD u]
   exact⟨g.gl,g.tl,by show 0<=s.aQ+c.vars;omega,by show s.aQ+c.vars<=K+16;omega,fun t a=>(g.g t a).mono (by rw[o];show s.aQ+C4 c<=s.aQ+c.vars;omega),fun t a=>(g.t t a).mono (by rw[o];show s.aQ+C4 c<=s.aQ+c.vars;omega)⟩
  ·exact⟨by have:=f.gl;show cf.now.aV.length<=N+7;omega,f.tl,by show 0<=s.aQ+c.vars;omega,by show s.aQ+c.vars<=K+16;omega,fun t a=>(f.g t a).mono (by show cf.now.aQ<=s.aQ+c.vars;omega),fun t a=>(f.t t a).mono (by show cf.now.aQ<=s.aQ+c.vars;omega)⟩
 refine⟨j,fun d v=>?_,b⟩;have e:d∈cf.chs:=v;rw[wZ];exact⟨(n d e).1.mono aD aD,(n d e).2⟩
theorem QA{cs:List Cl}{N:Nat}{K:Int}{cf:Cf}(i:Ba cs)(m:yw cs)(h:CfD cs N K cf):CfD cs (N+7) (K+16) (BB cs cf).2:=by
 obtain⟨now,chs⟩:=cf
 cases chs with
 |nil=>exact h.mono aD aD
 |cons c a=>
  have n:StG N K now:=h.now;have b:∀d∈a,StG N now.aQ d.st/\(∀k∈d.cls,k<cs.length)/\(d.cls≠[]->d.st.aV≠[]):=fun d f=>h.chs d (bA _ f);have g:StG N now.aQ c.st/\(∀k∈c.cls,k<cs.length)/\(c.cls≠[]->c.st.aV≠[]):=h.chs c aE;have o:a.length+1<=20:=h.len;have l:StG N K (atF now.aQ c.st):=g.1.atF n.f1;obtain⟨st,cls⟩:=c
  cases cls with
  |nil=>exact⟨l.mono aD aD,fun d f=>⟨(b d f).1.mono aD (Int.le_refl _),(b d f).2⟩,by show a.length<=20;omega⟩
  |cons k rest=>
   have e:BB cs ⟨now,⟨st,k::rest⟩::a⟩=DO ⟨now,CA a st rest⟩ (atF now.aQ st) (cs.getD k EM) a.length:=rfl;rw[e];refine fR l (g.2.2 aE) (i.at k).1 (i.at k).2 (m.at k) n (Int.le_refl _) (fun d f=>?_) ?_
   ·unfold CA at f;split at f
    ·exact b d f
    ·rcases bP.1 f with rfl|f
     ·exact⟨g.1,fun j p=>g.2.1 j (bA _ p),fun _=>g.2.2 aE⟩
     ·exact b d f
   ·unfold CA;split
    ·show a.length<=20;omega
    ·show(_::a).length<=20;simp only[bM];omega
theorem XK{cs:List Cl}{N:Nat}{K:Int}{cf:Cf}(s:Ba cs)(v:yw cs)(h:CfD cs N K cf)(p:cf.now.aV≠[]):CfD cs (N+7) (K+16) (takeD cs cf).2:=by
 have e:=h.now;have o:StG (N+7) (K+16) cf.now:=e.mono aD aD;have f:∀c∈cf.chs,StG (N+7) cf.now.aQ c.st/\(∀k∈c.cls,k<cs.length)/\(c.cls≠[]->c.st.aV≠[]):=fun c l=>⟨(h.chs c l).1.mono aD (Int.le_refl _),(h.chs c l).2⟩
 have g:CfD cs (N+7) (K+16) cf:=h.mono aD aD;have y:CfD cs (N+7) (K+16) (E9 cf).2:=⟨LC o,f,h.len⟩
 have i:=SA e p;have m:=h.len
 have z:∀a b,TmG cf.now.aQ a->TmG cf.now.aQ b->CfD cs (N+7) (K+16) (BJ cf a b).2:=fun a b C I=>by
  have t:=XR o C I;have G: (BJ cf a b).2.now.aQ=cf.now.aQ:=by unfold BJ;simp only;split<;>rfl
  exact⟨t.1,by rw[t.2,G];exact f,by rw[t.2];exact m⟩
 unfold takeD;split
 ·unfold B7;split
  ·exact⟨LC o,fun c l=>f c (bV l),by show(List.drop _ _).length<=20;rw[List.length_drop];omega⟩
  split
  ·exact y
  split
  ·exact z _ _ (DA i 0) (DA i 1)
  split
  ·unfold EP;split
   ·split
    ·exact y
    ·exact g
   ·exact g
  split
  ·unfold EC;split
   ·split
    ·exact g
    ·rename_i w;exact z _ _ (iD w) (DA i 2)
   ·exact g
  split
  ·unfold D2;split
   ·split
    ·exact g
    ·rename_i H;refine⟨⟨by simp only[bM,dA];omega,e.tl,e.f0,by have:=e.f1;simp only[];omega,fun u x=>?_,e.t⟩,fun c l=>?_,by simp only[bM];omega⟩
     ·simp only[List.mem_cons,dF,or_false] at x;rcases x with rfl|rfl|rfl
      ·exact DA i 0
      ·exact kQ _ _
      ·exact nP _
     ·rcases bP.1 l with rfl|l
      ·have r:=LC e;exact⟨⟨by have:=r.gl;simp only[] at this⊢;omega,r.tl,r.f0,Int.le_refl _,r.g,r.t⟩,aE,aE⟩
      ·exact f c l
   ·exact g
  ·exact g
 ·split
  ·have E:=NB cf.now 0 cs;unfold IY;split
   ·exact g
   ·rename_i k rest A;have n:∀j∈rest,j<cs.length:=fun j B=>by have:=E j (by rw[A];exact bA _ B);omega
    split
    ·exact g
    ·rename_i F;refine fR e p (s.at k).1 (s.at k).2 (v.at k) e (Int.le_refl _) (fun d q=>?_) ?_
     ·unfold CA at q;split at q
      ·exact h.chs d q
      ·rcases bP.1 q with rfl|q
       ·exact⟨⟨e.gl,e.tl,e.f0,Int.le_refl _,e.g,e.t⟩,n,fun _=>p⟩
       ·exact h.chs d q
     ·unfold CA;split
      ·exact m
      ·rename_i w;have:¬20<=cf.chs.length:=fun D=>F ⟨w,D⟩;show(_::cf.chs).length<=20;simp only[bM];omega
  ·exact g
theorem Y4{cs:List Cl}{N:Nat}{K:Int}{r:Int×Cf}(a:Ba cs)(b:yw cs)(h:CfD cs N K r.2):CfD cs (N+7) (K+16) (FP cs r).2:=by
 unfold FP;split
 ·exact QA a b h
 ·exact h.mono aD aD
theorem CfD.lower{cs:List Cl}{N M:Nat}{K:Int}{cf:Cf}(h:CfD cs N K cf)(b:cf.now.aV.length<=M)(d:∀c∈cf.chs,c.st.aV.length<=M):CfD cs M K cf:=
 ⟨⟨b,h.now.tl,h.now.f0,h.now.f1,h.now.g,h.now.t⟩,fun c a=>⟨⟨d c a,(h.chs c a).1.tl,(h.chs c a).1.f0,(h.chs c a).1.f1,(h.chs c a).1.g,(h.chs c a).1.t⟩,(h.chs c a).2⟩,h.len⟩
theorem jc.aV{A B:Cf}(h:jc A B){M:Nat}(f:∀c∈A.chs,c.st.aV.length<=M):∀d∈B.chs,d.st.aV.length<=M:=by
 intro d g;obtain⟨i,b⟩:=List.getElem?_of_mem g;have a:i<A.chs.length:=by rw[h.len];exact(bS.1 b).1
 obtain⟨_,ρ,j⟩:=h.cls i A.chs[i] d (bU a) b;have e:d.st.aV=A.chs[i].st.aV.map (AS ρ):=j.g;rw[e,aZ];exact f _ (bG a)
theorem zJ{q:Qs}{d:QD}(h:U2 q d){M:Nat}(a:∀c∈q.chs,c.st.aV.length<=M):∀c∈d.cf.chs,c.st.aV.length<=M:=jc.aV h.chs a
theorem SU{cs:List Cl}(b:Ba cs)(a:yw cs):∀(n N:Nat) (K:Int) (cf:Cf),CfD cs N K cf->CfD cs (N+14*n) (K+32*n) (DB cs n cf).2
 |n,N,K,cf,h=>by
  unfold DB;split
  ·exact h.mono aD aD
  ·rename_i c
   cases n with
   |zero=>exact h.mono aD aD
   |succ m=>
    have d:=Y4 b a (XK b a h c);simp only;split
    ·exact d.mono aD aD
    ·exact(SU b a m _ _ _ d).mono aD aD
def EqK(k:Int):Prop:=k=0\/k=-1\/k=7\/k=8
theorem kX(e:Eqn)(v:Int)(x:List AB):EqK (A6 e v x).1:=by
 unfold A6 EqK;split
 ·simp
 ·split<;>simp
theorem uS(e:Eqn):EqK (BG e).1:=by
 unfold BG;split
 ·split
  ·exact .inl rfl
  ·split
   ·exact kX _ _ _
   ·split
    ·exact kX _ _ _
    ·exact .inr (.inl rfl)
 ·exact .inl rfl
theorem YJ:∀(n:Nat) (e:Eqn),EqK (B1 n e).1
 |0,_=> .inl rfl
 |n+1,e=>by
  rw[B1];split
  ·exact .inl rfl
  ·split
   ·exact YJ n _
   ·exact uS e
theorem PD(e:Eqn):EqK (AL e).1:=YJ _ e
theorem NS(S:St)(c:Cl)(h:Int): (BD S c h).1=(AL (BH S c h)).1:=by
 unfold BD;split
 ·rename_i a;exact a.symm
 ·rfl
theorem iC(cf:Cf)(s:St)(c:Cl)(h:Int):EqK (DO cf s c h).1:=by
 have e: (DO cf s c h).1=(BD s c h).1:=rfl;rw[e,NS];exact PD _
theorem XZ(cf:Cf)(a b:List AB):EqK (BJ cf a b).1:=PD _
theorem EqK.ne2{k:Int}(h:EqK k):k≠2/\k≠1:=by unfold EqK at h;omega
theorem k_0: (0:Int)≠2/\(0:Int)≠1:=aF
theorem k_m: (-1:Int)≠2/\(-1:Int)≠1:=aF
theorem k_6: (6:Int)≠2/\(6:Int)≠1:=aF
theorem aDN: (11:Int)≠2/\(11:Int)≠1:=aF
theorem aDL: (12:Int)≠2/\(12:Int)≠1:=aF
theorem kM(cs:List Cl)(cf:Cf): (takeD cs cf).1≠2/\(takeD cs cf).1≠1:=by
 have b:∀p,AV p≠2/\AV p≠1:=fun p=>by unfold AV;split<;>(try split)<;>omega
 have a:∀g,A8 g≠2/\A8 g≠1:=fun g=>by unfold A8;split<;>exact b _
 unfold takeD;split
 ·unfold B7;split
  ·exact k_0
  split
  ·exact k_0
  split
  ·exact(XZ _ _ _).ne2
  split
  ·unfold EP;split
   ·split
    ·exact k_0
    ·exact k_m
   ·exact a _
  split
  ·unfold EC;split
   ·split
    ·exact aDN
    ·exact(XZ _ _ _).ne2
   ·exact a _
  split
  ·unfold D2;split
   ·split
    ·exact k_6
    ·exact k_0
   ·show JS _≠2/\JS _≠1;unfold JS;split<;>(try split)<;>omega
  ·exact k_m
 ·split
  ·unfold IY;split
   ·exact k_m
   ·split
    ·exact k_6
    ·exact(iC _ _ _ _).ne2
  ·exact aDL
theorem PL(cs:List Cl)(cf:Cf): (BB cs cf).1≠1:=by
 unfold BB;split
 ·exact(by decide: (2:Int)≠1)
 ·unfold QX;split
  ·exact(by decide: (0:Int)≠1)
  ·exact(iC _ _ _ _).ne2.2
def Np(l:List Tok):Prop:=∀t∈l,t.k=118->1<=t.s.size
def Nq(ns:List ByteArray):Prop:=∀y∈ns,1<=y.size
theorem XG(s:ByteArray)(n:Nat)(h: (AG s n).k=118):1<=(AG s n).s.size:=by
 have b:B9 (BA s n)=true->1<=(DQ s false n).size:=fun i=>by
  have j:n<s.size:=by
   rcases Nat.lt_or_ge n s.size with g|g
   ·exact g
   ·have e:BA s n=0:=by
     unfold BA;rw[List.getElem?_eq_none (by simpa using g)];rfl
    rw[e] at i;exact absurd i aF
  have g:=JH s false n j (by unfold okB;rw[i];rfl);rw[FM];omega
 unfold AG at h⊢;have a:∀c W,(CU n c W).k≠118:=fun c W=>by unfold CU;split<;>(try split)<;>simp[bad]
 split at h
 ·exact absurd h (a _ _)
 rename_i l;rw[bC l];split at h
 ·exact absurd h (a _ _)
 rename_i k;rw[bC k];split at h
 ·rename_i f;rw[bD f];unfold DS at h⊢;split at h
  ·simp[bad] at h
  ·rename_i d;rw[bC d];split
   ·exact b f
   ·exact b f
 ·rename_i f;split at h
  ·rename_i d;simp only at h;rw[h] at d;exact absurd d aF
  ·split at h
   ·simp at h
   ·simp[bad] at h
theorem Z7(s:ByteArray):∀(f n:Nat),Np (toks s f n)
 |0,n=>fun t a h=>by simp[toks] at a;subst a;simp[FE] at h
 |f+1,n=>by
  rw[toks];split
  ·split
   ·exact Z7 s f _
   ·split
    ·intro t a h;simp at a;subst a;exact XG s n h
    ·intro t a h;rcases bP.1 a with rfl|a
     ·exact XG s n h
     ·exact Z7 s f _ t a h
  ·intro t a h;simp at a;subst a;simp[FE] at h
theorem aB7{t:Tok}{ns b:List ByteArray}{i:Nat}(h:GR t ns= .ok (i,b))(d:1<=t.s.size)(c:Nq ns):Nq b:=by
 unfold GR at h;split at h
 ·simp only[cX,cY] at h;obtain⟨_,rfl⟩:=h;exact c
 ·split at h
  ·cases h
  ·simp only[cX,cY] at h;obtain⟨_,rfl⟩:=h;intro y a;rcases bO.1 a with a|a
   ·exact c y a
   ·simp at a;subst a;exact d
def lD(rd:List Tok->List ByteArray->Except (Int×Nat) (List AB×List Tok×List ByteArray)):Prop:=∀l ns p b a,Np l->Nq ns->rd l ns= .ok (p,b,a)->Np b/\Nq a
theorem Np.tail{t:Tok}{l:List Tok}(h:Np (t::l)):Np l:=fun u a=>h u (bA _ a)
theorem jV(rd:List Tok->List ByteArray->Except (Int×Nat) (List AB×List Tok×List ByteArray))(h:lD rd):∀(k:Nat) (acc:List (List AB)) (l:List Tok) (ns:List ByteArray) (a1:List (List AB)) (l2:List Tok) (ns2:List ByteArray),Np l->Nq ns->A7 rd k acc l ns= .ok (a1,l2,ns2)->Np l2/\Nq ns2
 |0,_,_,_,_,_,_,_,_,e=>by simp[A7] at e
 |k+1,acc,l,ns,a1,l2,ns2,hl,hn,e=>by
  rw[A7] at e
  cases b:rd l ns with
  |error x=>rw[b] at e;cases e
  |ok x=>
   obtain⟨p,c,a⟩:=x;obtain⟨d,f⟩:=h l ns p c a hl hn b;rw[b] at e
   cases c with
   |nil=>cases e
   |cons u g=>
    simp only at e;split at e
    ·split at e
     ·cases e
     ·exact jV rd h k _ g a a1 l2 ns2 d.tail f e
    ·split at e
     ·simp only[cX,cY] at e;obtain⟨rfl,rfl,rfl⟩:=e;exact⟨d.tail,f⟩
     ·cases e
theorem kU:∀(f:Nat),lD (AM f)
 |0=>fun _ _ _ _ _ _ _ e=>by simp[AM] at e
 |f+1=>fun l ns p r j h a e=>by
  cases l with
  |nil=>simp[AM] at e
  |cons t l=>
  rw[AM] at e;split at e
  ·rename_i g;unfold G6 at e;split at e
   ·cases e
   ·rename_i i q n;have o:=aB7 n (h t aE g) a;simp only[cX,cY] at e;obtain⟨rfl,rfl,rfl⟩:=e;exact⟨h.tail,o⟩
  ·split at e
   ·simp only[cX,cY] at e;obtain⟨rfl,rfl,rfl⟩:=e;exact⟨h.tail,a⟩
   ·split at e
    ·cases l with
     |nil=>cases e
     |cons u d=>
      simp only[EF] at e;split at e
      ·cases c:A7 (AM f) 4 [] d ns with
       |error x=>rw[c] at e;cases e
       |ok x=>
        obtain⟨k,m,b⟩:=x;rw[c] at e;simp only[cX,cY] at e;obtain⟨rfl,rfl,rfl⟩:=e;exact jV (AM f) (kU f) 4 [] d ns k m b h.tail.tail a c
      ·simp only[cX,cY] at e;obtain⟨rfl,rfl,rfl⟩:=e;exact⟨h.tail,a⟩
    ·cases e
theorem zF(f:Nat):lD (BS f):=fun l ns p g c h b e=>by
 cases l with
 |nil=>simp[BS] at e
 |cons t l=>
  simp only[BS] at e;split at e
  ·simp only[cX,cY] at e;obtain⟨rfl,rfl,rfl⟩:=e;exact⟨h.tail,b⟩
  ·cases a:AM f (t::l) ns with
   |error x=>rw[a] at e;cases e
   |ok x=>
    obtain⟨j,i,d⟩:=x;rw[a] at e;simp only at e;split at e
    ·simp only[cX,cY] at e;obtain⟨rfl,rfl,rfl⟩:=e;exact kU f _ _ _ _ _ h b a
    ·cases e
theorem fS(f:Nat):∀(k:Nat) (acc:List (List AB)) (l:List Tok) (ns:List ByteArray) (a1:List (List AB)) (l2:List Tok) (ns2:List ByteArray),Np l->Nq ns->BZ f k acc l ns= .ok (a1,l2,ns2)->Nq ns2
 |0,_,_,_,_,_,_,_,_,e=>by simp[BZ] at e
 |k+1,acc,l,ns,a1,l2,ns2,hl,hn,e=>by
  rw[BZ] at e
  cases b:BS f l ns with
  |error x=>rw[b] at e;cases e
  |ok x=>
   obtain⟨p,c,a⟩:=x;obtain⟨h,d⟩:=zF f l ns p c a hl hn b;rw[b] at e
   cases c with
   |nil=>cases e
   |cons u g=>
    simp only at e;split at e
    ·split at e
     ·cases e
     ·exact fS f k _ g a a1 l2 ns2 h.tail d e
    ·simp only[cX,cY] at e;obtain⟨rfl,rfl,rfl⟩:=e;exact d
theorem sS{s:ByteArray}{gs:List (List AB)}{ns:List ByteArray}(h:BM s= .ok (gs,ns)):∀y∈ns,1<=y.size:=by
 have b:Nq ns:=by
  unfold BM at h;split at h
  ·cases h
  ·unfold GL at h
   cases a:BZ (AU s).length 8 [] (AU s) [] with
   |error e=>rw[a] at h;cases h
   |ok x=>
    obtain⟨i,f,g⟩:=x;have d:=fS _ _ _ _ _ _ _ _ (Z7 s _ _) (fun y c=>by simp at c) a;rw[a] at h;simp only at h;split at h
    ·cases h
    ·split at h
     ·split at h
      ·cases h
      ·split at h
       ·simp only[cX,cY] at h;obtain⟨rfl,rfl⟩:=h;exact d
       ·cases h
     ·cases h
 exact b
theorem NH(n:ByteArray):∀(l:List ByteArray) (k:Nat),CQ k (l++[n])=CQ k l++(if D5 n=true then [(n,k+l.length)] else [])
 |[],k=>by simp[CQ]
 |m::l,k=>by
  rw[List.cons_append,CQ,NH n l (k+1),CQ,List.append_assoc,bM,show k+1+l.length=k+(l.length+1) by omega]
theorem mI{ns:List ByteArray}{i:Nat}(h:i<ns.length):BE (ns.take (i+1))=BE (ns.take i)++(if D5 ns[i]=true then [ns[i]] else []):=by
 unfold BE;rw[bJ h,NH,bE];split<;>simp
theorem m8{ns:List ByteArray}{i:Nat}(h:i<ns.length):CW (ns.take (i+1))=CW (ns.take i)++(if D5 ns[i]=true then [KK (i:Nat)] else []):=by
 unfold CW;rw[bJ h,NH,bE];split
 ·simp[Nat.min_eq_left (Nat.le_of_lt h)]
 ·simp
theorem tZ{n:ByteArray}(h:1<=n.size)(a:BA n 0≠95):D5 n=true:=by unfold D5;simp;omega
theorem aAa{n:ByteArray}(a:BA n 0=95):D5 n=false:=by unfold D5;simp[a]
theorem X3(ns:List ByteArray):∀k,(CQ k ns).length<=ns.length:=by
 induction ns with
 |nil=>intro k;simp[CQ]
 |cons n ns a=>
  intro k;have:=a (k+1);rw[CQ,bL,bM];split<;>simp<;>omega
end Rf
