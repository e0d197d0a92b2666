import Derived.Test.YthenokfmcjmfkaaGreatDoorYau
namespace Rf
theorem lM{n:Nat}{cf:Cf}{s:St}{c:Cl}{h:Int}(b:s.aS.length=n)(e:∀d∈cf.chs,d.st.aS.length=n):TmN n (DO cf s c h):=by
 refine⟨fun a=>?_,e⟩;unfold DO at a⊢;simp only at a⊢;rw[bD a];exact(YA a).trans b
theorem YR{cs:List Cl}{n:Nat}{cf:Cf}(b:∀c∈cf.chs,c.st.aS.length=n):TmN n (BB cs cf):=by
 unfold BB
 cases g:cf.chs with
 |nil=>exact⟨fun e=>absurd (show(2:Int)=0 from e) aF,b⟩
 |cons c f=>
  rw[g] at b;simp only[];have a:∀d∈f,d.st.aS.length=n:=fun d h=>b d (bA _ h);unfold QX;split
  ·exact⟨fun _=>b c aE,a⟩
  ·exact lM (b c aE) (PA (P:=fun d=>d.st.aS.length=n) a (b c aE))
theorem wV{cs:List Cl}{n:Nat}{cf:Cf}(h:TmN n (0,cf)):TmN n (takeD cs cf):=by
 obtain⟨f,l⟩:=h;have f:=f rfl;simp only at f l;have e:∀k:Int,TmN n (k,cf):=fun k=>⟨fun _=>f,l⟩
 have j:TmN n (E9 cf):=⟨fun _=>f,l⟩
 have g:∀a b,TmN n (BJ cf a b):=fun a b=>by
  refine⟨fun m=>?_,by rw[NC];exact l⟩;unfold BJ at m⊢;simp only at m⊢;rw[bD m];exact(KF (BT cf a b)).2.2.trans f
 unfold takeD;split
 ·unfold B7;split
  ·exact⟨fun _=>f,fun c i=>l c (bV i)⟩
  split
  ·exact j
  split
  ·exact g _ _
  split
  ·unfold EP;split
   ·split
    ·exact j
    ·exact e _
   ·exact e _
  split
  ·unfold EC;split
   ·split
    ·exact e _
    ·exact g _ _
   ·exact e _
  split
  ·unfold D2;split
   ·split
    ·exact e _
    ·refine⟨fun _=>f,fun c i=>?_⟩;rcases bP.1 i with rfl|i
     ·exact f
     ·exact l c i
   ·exact e _
  ·exact e _
 ·split
  ·unfold IY;split
   ·exact e _
   ·split
    ·exact e _
    ·exact lM f (PA (P:=fun d=>d.st.aS.length=n) l f)
  ·exact e _
theorem jK(cs:List Cl)(cf:Cf): (FP cs (takeD cs cf)).1≠1:=by
 unfold FP;split
 ·exact PL cs _
 ·exact(kM cs cf).2
theorem MX{cs:List Cl}{n:Nat}:∀(m:Nat) (cf:Cf),TmN n (0,cf)->((DB cs m cf).1=1->(DB cs m cf).2.now.aS.length=n)/\∀c∈(DB cs m cf).2.chs,c.st.aS.length=n
 |m,cf,h=>by
  unfold DB;split
  ·exact⟨fun _=>h.1 rfl,h.2⟩
  ·cases m with
   |zero=>exact⟨fun _=>h.1 rfl,h.2⟩
   |succ m=>
    have b:TmN n (FP cs (takeD cs cf)):=by
     have d:=wV (cs:=cs) h;unfold FP;split
     ·exact YR d.2
     ·exact d
    simp only;split
    ·rename_i f;refine⟨fun e=>?_,b.2⟩;exfalso;have g:=jK cs cf;exact g e
    ·rename_i f
     have a: (FP cs (takeD cs cf)).1=0:=by
      rcases Decidable.em ((FP cs (takeD cs cf)).1=0) with e|e
      ·exact e
      ·exact absurd e f
     exact MX m _ ⟨fun _=>b.1 a,b.2⟩
theorem fP{cs:List Cl}:∀(n:Nat) (r:Int×Cf),IF r.2.chs+2<=n->(EL cs n r).1≠ -1
 |0,r,h=>by omega
 |n+1,r,h=>by
  rw[EL];split
  ·by_cases a:r.2.chs=[]
   ·rw[NY a];obtain⟨m,rfl⟩:∃m,n=m+1:=⟨n-1,aD⟩
    rw[EL,bC aE];exact(by decide: (2:Int)≠ -1)
   ·exact fP n _ (by have:=NP (cs:=cs) a;omega)
  ·assumption
theorem vD(cs:List Cl)(r:Int×Cf): (BI cs r).1≠ -1:=fP _ r (aX _)
theorem WC{cs:List Cl}:∀(n:Nat) (r:Int×Cf),(CG cs n r).1≠ -1
 |n,r=>by
  unfold CG;split
  ·exact vD cs r
  ·split
   ·exact(by decide: (1:Int)≠ -1)
   ·cases n with
    |zero=>exact(by decide: (5:Int)≠ -1)
    |succ m=>exact WC m _
theorem mS{S:Se}{D:SD}(h:jq S D)(d:SeU S){a:ByteArray}{gs:List (List AB)}{ns:List ByteArray}(c:BM a= .ok (gs,ns)): (DW D gs ns).1=(J3 S gs ns).1:=by
 unfold DW J3;rw[h.lim,h.cls];by_cases b:200<KH (BK gs ns).now
 ·rw[bD b,bD b]
 ·rw[bC b,bC b];exact(O9 d.d d.q S.lim 0 (RC gs ns) (ZV (F3 c) b) (J4 (S:=S) (F3 c) (IP c)).2.cf).1
theorem aAe{S:Se}{D:SD}(h:jq S D)(b:SeU S){a:ByteArray}{gs:List (List AB)}{ns:List ByteArray}(c:BM a= .ok (gs,ns)): (DW D gs ns).1≠ -1:=by
 rw[mS h b c];unfold J3;split
 ·exact(by decide: (7:Int)≠ -1)
 ·exact WC _ _
theorem aBV{S:Se}{D:SD}(h:jq S D)(b:SeU S){q:Qs}{d:QD}(c:S.q=some q)(a:U2 q d): (DE D d).1≠ -1:=by
 rw[(YK h b c a).1];unfold U9;exact WC _ _
structure aDn(cs:List Cl)(K:Int)(q:QD):Prop where
 cf:CfD cs 1000 K q.cf
 tm:∀c∈q.cf.chs,c.st.aS.length=q.aW.length
structure Pair(K:Int)(S:Se)(D:SD):Prop where
 w:SeU S
 l:jq S D
 q:∀q,D.q=some q->aDn D.cls K q
theorem Pair.mono{K a:Int}{S:Se}{D:SD}(h:Pair K S D)(c:K<=a):Pair a S D:=⟨h.w,h.l,fun q b=>⟨(h.q q b).cf.mono aD c,(h.q q b).tm⟩⟩
theorem Pair.quiet{K:Int}{S:Se}{D:SD}(b:SeU S)(a:jq S D)(c:D.q=none):Pair K S D:=⟨b,a,fun q e=>by rw[c] at e;cases e⟩
theorem UN{cs:List Cl}:∀(n:Nat) (cf:Cf),(DB cs n cf).1=1->(DB cs n cf).2.now.aV=[]
 |n,cf=>by
  unfold DB;split
  ·rename_i h;exact fun _=>h
  ·cases n with
   |zero=>intro e;exact absurd (show(5:Int)=1 from e) aF
   |succ m=>
    simp only;split
    ·intro e;exact absurd e (jK cs cf)
    ·exact UN m _
theorem jq.c16{S:Se}{D:SD}(h:jq S D)(a:SeU S):yw D.cls:=by
 rw[h.cls];exact fun c b=>(a.ok.cls c b).2.1
theorem jq.d{S:Se}{D:SD}(h:jq S D)(a:SeU S):Ba D.cls:=by rw[h.cls];exact a.d
theorem dM{cs:List Cl}{gs:List (List AB)}{ns:List ByteArray}{a:ByteArray}(d:BM a= .ok (gs,ns)):ns.length<=16/\CfD cs 1000 1000 (BK gs ns)/\TmN (BE ns).length (0,BK gs ns):=by
 have e:=F3 d;obtain⟨h,f⟩:=J4 (S:=⟨1,cs,none⟩) e (IP d);have b:=f.cf.now;refine⟨h,⟨⟨?_,b.tl,b.f0,?_,b.g,b.t⟩,fun c g=>by simp[BK] at g,by simp[BK]⟩,f.tm⟩
 ·have:=e.len;show gs.length<=1000;omega
 ·show((ns.length:Nat):Int)<=1000;omega
structure q8(cs:List Cl)(aW:List ByteArray)(K:Int)(r:Int×Cf):Prop where
 ne:r.1≠ -1
 cf:CfD cs 15007 K r.2
 one:r.1=1->r.2.now.aV=[]/\r.2.now.aS.length=aW.length
 tm:r.1=1->∀c∈r.2.chs,c.st.aS.length=aW.length
 l16:aW.length<=16
 n12:∀n∈aW,n.size<=12
theorem eZ{S:Se}{D:SD}(h:jq S D)(b:SeU S){a:ByteArray}{gs:List (List AB)}{ns:List ByteArray}(c:BM a= .ok (gs,ns)):q8 D.cls (BE ns) 33000 (DW D gs ns):=by
 obtain⟨j,f,d⟩:=dM (cs:=D.cls) c;have g:D.lim<=1000:=by rw[h.lim];exact b.ok.l2
 have i: (BE ns).length<=16:=by
  have:=d.1 rfl;have e: (BK gs ns).now.aS.length=(BE ns).length:=this;have:=f.now.tl;omega
 refine⟨aAe h b c,?_,?_,?_,i,T7 c⟩
 ·unfold DW;split
  ·exact f.mono aD aD
  ·exact(SU (h.d b) (h.c16 b) D.lim 1000 1000 _ f).mono aD aD
 ·unfold DW;split
  ·intro e;exact absurd (show(7:Int)=1 from e) aF
  ·exact fun e=>⟨UN _ _ e,(MX D.lim _ d).1 e⟩
 ·unfold DW;split
  ·intro e;exact absurd (show(7:Int)=1 from e) aF
  ·exact fun e=>(MX D.lim _ d).2
theorem jH{K:Int}{S:Se}{D:SD}{q:Qs}{d:QD}(h:jq S D)(a:SeU S)(j:S.q=some q)(c:U2 q d)(l:aDn D.cls K d):q8 D.cls d.aW (K+32016) (DE D d):=by
 have i:D.lim<=1000:=by rw[h.lim];exact a.ok.l2
 have g:=a.ok.q q j;have k:=QA (h.d a) (h.c16 a) l.cf;have b:=YR (cs:=D.cls) l.tm;refine⟨aBV h a j c,?_,?_,?_,by rw[c.aW];exact g.nl,by rw[c.aW];exact g.nz⟩
 ·unfold DE;split
  ·exact(SU (h.d a) (h.c16 a) D.lim _ _ _ k).mono aD aD
  ·exact k.mono aD aD
 ·unfold DE;split
  ·rename_i f;exact fun e=>⟨UN _ _ e,(MX D.lim _ ⟨fun _=>b.1 f,b.2⟩).1 e⟩
  ·intro e;exact absurd e (PL _ _)
 ·unfold DE;split
  ·rename_i f;exact fun e=>(MX D.lim _ ⟨fun _=>b.1 f,b.2⟩).2
  ·intro e;exact absurd e (PL _ _)
theorem oV{K:Int}{D:SD}{f:List ByteArray}{r:Int×Cf}(h:q8 D.cls f K r){g:Se}(j:SeU g)(b:jq g (DD D f r).2):Pair K g (DD D f r).2:=by
 unfold DD at b⊢;split at b
 ·rename_i d;rw[bD d];refine⟨j,b,fun q m=>?_⟩;have e:q=⟨f,r.2⟩:=(bF m).symm;subst e;have a:=b.q
  cases i:g.q with
  |none=>rw[i] at a;exact a.elim
  |some k=>
   rw[i] at a;refine⟨h.cf.lower (by rw[(h.one d).1];simp) (zJ a (fun c l=>((j.ok.q k i).c c l).1.gl)),h.tm d⟩
 ·rename_i d;rw[bC d];exact Pair.quiet j b rfl
theorem Pair.ask{K:Int}{S:Se}{D:SD}(h:Pair K S D)(f:0<=K)(s:ByteArray):Pair (K+33000) (JE S s).2 (H7 D s).2:=by
 have a:=(fF h.l h.w s).2;have d:=aDK h.w s
 cases c:BM s with
 |error e=>
  have b: (H7 D s).2=⟨D.lim,D.cls,none⟩:=by unfold H7;rw[c]
  rw[b] at a⊢;exact Pair.quiet d a rfl
 |ok x=>
  obtain⟨gs,ns⟩:=x;have b: (H7 D s).2=(DD D (BE ns) (DW D gs ns)).2:=by unfold H7;rw[c]
  rw[b] at a⊢;exact(oV (eZ h.l h.w c) d a).mono aD
theorem Pair.more{K:Int}{S:Se}{D:SD}(h:Pair K S D):Pair (K+33000) (IA S).2 (FB D).2:=by
 have b:=(YP h.l h.w).2;have g:=aDc h.w
 cases a:D.q with
 |none=>
  have e: (FB D).2=D:=by unfold FB;rw[a]
  rw[e] at b⊢;exact Pair.quiet g b a
 |some d=>
  have e: (FB D).2=(DD D d.aW (DE D d)).2:=by unfold FB;rw[a]
  have c:=h.l.q
  cases f:S.q with
  |none=>rw[f,a] at c;exact c.elim
  |some q=>
   rw[f,a] at c;rw[e] at b⊢;exact(oV (jH h.l h.w f c (h.q d a)) g b).mono aD
theorem Pair.stop{K:Int}{S:Se}{D:SD}(h:Pair K S D):Pair K (PF S) (rR D):=Pair.quiet (aDh h.w) (rG h.l) rfl
theorem Pair.cons{K:Int}{S:Se}{D:SD}(h:Pair K S D)(s:ByteArray):Pair K (EE S s).2 (EZ D s).2:=Pair.quiet (aDm h.w s) (S6 h.l s).2 rfl
theorem Pair.new{lim:Nat}(K:Int)(b:1<=lim)(a:lim<=1000):Pair K ⟨lim,[],none⟩ ⟨lim,[],none⟩:=Pair.quiet (aDv b a) ⟨rfl,rfl,trivial⟩ rfl
end Rf
