import Derived.Test.YthenokfmcjmfkaaGreatDoorYbm
set_option maxRecDepth 100000
set_option maxHeartbeats 4000000
namespace Go.Proofs.Q
open Rf _root_.Go.Proofs.Tryz
open Go.RowKit
def O4(c n:Int):Nat:=((if c<0 then-(c+1) else c).tmod n).toNat
theorem aAd{c n:Int}(g:1<=n): (O4 c n:Int)<n:=by
 unfold O4;have d:0<=(if c<0 then-(c+1) else c):=by split<;>omega
 have e:=Int.tmod_nonneg (a:=if c<0 then-(c+1) else c) n d;have f:=Int.tmod_lt_of_pos (if c<0 then-(c+1) else c) (b:=n) aD;omega
theorem aAX(c n:Int)(w:World)(i: -9223372036854775808<=c)(j:c<=9223372036854775807)(k:1<=n)(g:n<=9223372036854775807):Calls prog 10 #[.int .i64 c,.int .i64 n] w fun r w'=>r= .returned (.int .i64 (O4 c n))/\w'=w:=by
 have f: (n==0)=false:=aY.2 aD;have h: (n== -1)=false:=aY.2 aD;by_cases e:c<0
 ·have d:Hid ((O4 c n:Int)=-((c+1).tmod n)):=by
   unfold Hid O4;have b:=Int.tmod_nonneg (a:=-(c+1)) n aD;rw[bD e,Int.toNat_of_nonneg b,Int.neg_tmod]
  go_enter func10,ntmps10;go_wp2;go_ret;exact⟨CL d.o.symm,rfl⟩
 ·have d:Hid ((O4 c n:Int)=c%n):=by
   unfold Hid O4;have b:=Int.tmod_nonneg (a:=c) n aD;rw[bC e,Int.toNat_of_nonneg b,Int.tmod_eq_emod_of_nonneg aD]
  go_enter func10,ntmps10;go_wp2;go_ret;exact⟨CL d.o.symm,rfl⟩
theorem aBe(s:ByteArray)(w:World):Calls prog 17 #[.pointer none,.string s] w fun r w'=>r= .returned (.agg #[.int .i64 3,.string ⟨#[]⟩,.int .i64 0,.int .i64 0])/\Below w.heap.size w w':=by
 go_enter func17,ntmps17;go_wp2_with fail;refine bodyPost_ret (v:= .agg #[.int .i64 3,.string ⟨#[]⟩,.int .i64 0,.int .i64 0]) (by simp[results,results17,go_sem]) rfl ?_;exact⟨rfl,aM⟩
theorem tN(w:World):Calls prog 18 #[.pointer none] w fun r w'=>r= .returned (.agg #[.int .i64 3,.string ⟨#[]⟩,.int .i64 0,.int .i64 0])/\Below w.heap.size w w':=by
 go_enter func18,ntmps18;go_wp2_with fail;refine bodyPost_ret (v:= .agg #[.int .i64 3,.string ⟨#[]⟩,.int .i64 0,.int .i64 0]) (by simp[results,results18,go_sem]) rfl ?_;exact⟨rfl,aM⟩
theorem rU(a b c d:Int)(s:ByteArray)(w:World):Calls prog 11 #[.agg #[.int .i64 2,.int .i64 a,.int .i64 b,.int .i64 c,.int .i64 d,.string s]] w fun r w'=>r= .returned (.bool true)/\Below w.heap.size w w':=by
 go_enter func11,ntmps11;go_wp2_with (go_at_call 16;refine(iZ _ _).mono ?_;rintro r w1 ⟨rfl,rfl⟩);go_ret;exact⟨rfl,aM⟩
theorem xS(a b c d:Int)(s:ByteArray)(w:World):Calls prog 11 #[.agg #[.int .i64 3,.int .i64 a,.int .i64 b,.int .i64 c,.int .i64 d,.string s]] w fun r w'=>r= .returned (.bool true)/\Below w.heap.size w w':=by
 go_enter func11,ntmps11;go_wp2_with (go_at_call 17;refine(aBe _ _).mono ?_;rintro r w1 ⟨rfl,e⟩);go_ret;exact⟨rfl,((bZ _ w).alloc (aX _) _).trans (e.mono aE)⟩
theorem tY(a b c d:Int)(s:ByteArray)(w:World):Calls prog 11 #[.agg #[.int .i64 4,.int .i64 a,.int .i64 b,.int .i64 c,.int .i64 d,.string s]] w fun r w'=>r= .returned (.bool true)/\Below w.heap.size w w':=by
 go_enter func11,ntmps11;go_wp2_with (go_at_call 18;refine(tN _).mono ?_;rintro r w1 ⟨rfl,e⟩);go_ret;exact⟨rfl,((bZ _ w).alloc (aX _) _).trans (e.mono aE)⟩
theorem s7(a b c d:Int)(s:ByteArray)(w:World):Calls prog 11 #[.agg #[.int .i64 5,.int .i64 a,.int .i64 b,.int .i64 c,.int .i64 d,.string s]] w fun r w'=>r= .returned (.bool true)/\Below w.heap.size w w':=by
 go_enter func11,ntmps11;go_wp2_with (go_at_call 19;refine(sY _).mono ?_;rintro r w1 ⟨rfl,rfl⟩);go_ret;exact⟨rfl,aM⟩
def W0(base:Nat)(b:Nat)(K:Int)(L:List Ss)(w:World)(r:Ending)(w':World):Prop:=
 r= .returned (.bool true)/\Below base w w'/\∃a,IS base w' b K a/\a.length<=L.length+1
theorem zR(base b:Nat)(K:Int)(L:List Ss)(lim:Int)(w:World)(a:IS base w b K L)(h:lim<1\/1000<lim):Calls prog 6 #[.pointer (some ⟨b,0,none⟩),.int .i64 lim] w fun r w'=>W0 base b K L w r w':=by
 have c:=aO a;have H:=aO h;clear a h;go_enter func6,ntmps6
 go_wp2_with (first
  |(go_at_call 8;refine(aBm lim _ H.o).mono ?_;rintro r w1 ⟨rfl,rfl⟩)
  |(go_at_call 9;refine(aCF lim _ H.o).mono ?_;rintro r w1 ⟨rfl,rfl⟩))
 go_ret;exact⟨rfl,bZ _ _,L,c.o,aD⟩
theorem aBM{base b:Nat}{K:Int}{L:List Ss}{lim:Nat}{w w2 c:World}{v:Value}{cs:Array Value}{e:TypeId}{g n a:Nat}(h:IS base w b K L)(J:WlB w b v)(r:aj w 0 42 1 V8 v (L.map (·.z)))(H:∀k,v.ownBlock=some k->base<=k/\k≠b/\∀s∈L,¬s.G k) (a3:w2.heap.size=w.heap.size+2) (A:Below w.heap.size w w2) (C:1<=lim) (D:lim<=1000) (hx:PsB w2 w.heap.size (lim:Nat) (.slice none 0 0) (.pointer none)) (hy:RsB w2 (w.heap.size+1) (.slice none 0 0) (lim:Nat) false (.slice none 0 0) (.slice none 0 0) (.slice none 0 0) (.slice none 0 0) 0) (m: ((w2.alloc (.cells #[.pointer (some ⟨w.heap.size,0,none⟩),.pointer (some ⟨w.heap.size+1,0,none⟩),.int .i64 (lim:Nat),.string ⟨#[]⟩] 44)).alloc (.cells cs e)).grownBy c v.ownBlock) (T:Nb ((w2.alloc (.cells #[.pointer (some ⟨w.heap.size,0,none⟩),.pointer (some ⟨w.heap.size+1,0,none⟩),.int .i64 (lim:Nat),.string ⟨#[]⟩] 44)).alloc (.cells cs e)) v.ownBlock (some g)) (hr:aj c 0 42 1 V8 (.slice (some ⟨g,0,none⟩) n a) (L.map (·.z)++[w.heap.size+2])):Below base w (c.setCell ⟨b,0,none⟩ (.slice (some ⟨g,0,none⟩) n a))/\∃Z,IS base (c.setCell ⟨b,0,none⟩ (.slice (some ⟨g,0,none⟩) n a)) b K Z/\Z.length<=L.length+1:=by
 have O:=AD J;have N:=h.bb;have F:∀k,v.ownBlock=some k->k<w.heap.size:=fun k e=>(r.lt k e).2;have V:=m.size;have a0:w.heap.size+4<=c.heap.size:=by simp at V;omega
 have Q:Kept (fun k=>k=b\/v.ownBlock=some k) w c:=((((Kept.of_below A (fun k=>k=b\/v.ownBlock=some k)).alloc _).alloc _).grown m (fun k e=> .inr (.inr e)))
 have P:Kept (fun k=>k=b\/v.ownBlock=some k) w (c.setCell ⟨b,0,none⟩ (.slice (some ⟨g,0,none⟩) n a)):=Q.setCell (p:=⟨b,0,none⟩) (.inr (.inl rfl)) _
 have B:g≠b/\base<=g/\(∀s∈L,¬s.G g)/\(v.ownBlock=some g\/w.heap.size+4<=g):=by
  rcases T with e|⟨k,e,R⟩
  ·have:=H g e.symm;exact⟨this.2.1,this.1,this.2.2,.inl e.symm⟩
  ·have:=bF e;simp at R;exact⟨aD,aD,fun s d f=>by have:=((h.ss s d).2.1 g f).2.1;omega,.inr aD⟩
 have l:base<=w.heap.size:=aD
 have M:WlB (c.setCell ⟨b,0,none⟩ (.slice (some ⟨g,0,none⟩) n a)) b (.slice (some ⟨g,0,none⟩) n a):=by
  have h9:WlB c b v:=(m.block b aJ (fun e=>(H b e.symm).2.1 rfl)).trans (AF (AF ((A.block b O).trans J) _) _);exact AK h9 0 _
 have S:∀k,k<w.heap.size+4->w.heap.size<=k->∀o,((w2.alloc (.cells #[.pointer (some ⟨w.heap.size,0,none⟩),.pointer (some ⟨w.heap.size+1,0,none⟩),.int .i64 (lim:Nat),.string ⟨#[]⟩] 44)).alloc (.cells cs e)).heap[k]?=some o->(c.setCell ⟨b,0,none⟩ (.slice (some ⟨g,0,none⟩) n a)).heap[k]?=some o:=by
  intro k h1 y o ho;have I: (c.setCell ⟨b,0,none⟩ (.slice (some ⟨g,0,none⟩) n a)).heap[k]?=c.heap[k]?:=cF _ _ _ _ aJ;rw[I];exact(m.block k aJ (fun e=>by have:=F k e.symm;omega)).trans ho
 have a1: (c.setCell ⟨b,0,none⟩ (.slice (some ⟨g,0,none⟩) n a)).heap.size=c.heap.size:=by simp[World.setCell]
 have E:W8 base (fun k=>w.heap.size<=k/\k<w.heap.size+3) (c.setCell ⟨b,0,none⟩ (.slice (some ⟨g,0,none⟩) n a)) (w.heap.size+2) ⟨lim,[],none⟩ ⟨lim,[],none⟩:=by
  have Y:SsB (c.setCell ⟨b,0,none⟩ (.slice (some ⟨g,0,none⟩) n a)) (w.heap.size+2) w.heap.size (w.heap.size+1) (lim:Nat) ⟨#[]⟩:=S _ aD aD _ (AF (AZ _ _ _ aD) _);have W:PsB (c.setCell ⟨b,0,none⟩ (.slice (some ⟨g,0,none⟩) n a)) w.heap.size (lim:Nat) (.slice none 0 0) (.pointer none):=S _ aD aD _ (AF (AF hx _) _);have X:RsB (c.setCell ⟨b,0,none⟩ (.slice (some ⟨g,0,none⟩) n a)) (w.heap.size+1) (.slice none 0 0) (lim:Nat) false (.slice none 0 0) (.slice none 0 0) (.slice none 0 0) (.slice none 0 0) 0:=S _ aD aD _ (AF (AF hy _) _);exact⟨_,_,_,_,fun k=>k=w.heap.size,Y,aCZ C D W l,aC4 X,⟨fun k e=>by have e':k=w.heap.size:=e;exact⟨aD,aD⟩,⟨aD,aD⟩,⟨aD,aD⟩,fun e=>by have e':w.heap.size+2=w.heap.size:=e;omega,fun e=>by have e':w.heap.size+1=w.heap.size:=e;omega,aD⟩⟩
 have z:∀k,(k=b\/v.ownBlock=some k)->yg w k:=by
  intro k e;rcases e with e|e
  ·subst e;exact yg.mk' J aF (by unfold AW;decide)
  ·obtain⟨cs,hc⟩:=r.typed k e;exact yg.mk' hc aF (by unfold AW;decide)
 refine⟨P.below l (fun k a2 e=>?_),L++[⟨w.heap.size+2,fun k=>w.heap.size<=k/\k<w.heap.size+3,⟨lim,[],none⟩,⟨lim,[],none⟩⟩],⟨⟨_,M,?_,fun k e=>?_⟩,N,fun s d=>?_,?_⟩,aE⟩
 ·rcases e with e|e
  ·omega
  ·have:=(H k e).1;omega
 ·rw[bE];exact hr.setCell ⟨b,0,none⟩ _ (fun e=>B.1 (bF e))
 ·obtain rfl:g=k:=bF e;refine⟨B.2.1,B.1,fun s d=>?_⟩;rcases bO.1 d with d|d
  ·exact B.2.2.1 s d
  ·simp at d;subst d;intro f;rcases B.2.2.2 with e3|e3
   ·have:=F g e3;have:=f.1;omega
   ·have:=f.2;omega
 ·rcases bO.1 d with d|d
  ·obtain⟨h1,y,I⟩:=h.ss s d;refine⟨UW h1 P z (fun k e f=>?_),fun k e=>⟨(y k e).1,?_,(y k e).2.2⟩,I⟩
   ·rcases f with f|f
    ·exact(y k e).2.2 f
    ·exact(H k f).2.2 s d e
   ·have:=(y k e).2.1;have:=P.size;omega
  ·simp at d;subst d;refine⟨E,fun k e=>⟨?_,?_,?_⟩,Rf.Pair.new K C D⟩
   ·have:=e.1;omega
   ·have:=e.2;omega
   ·have:=e.1;omega
 ·intro i j s t x u U k;have q:∀(j:Nat) (t:Ss),L[j]?=some t->∀k,t.G k->k<w.heap.size:=fun j t ht k e=>((h.ss t (List.mem_of_getElem? ht)).2.1 k e).2.1;rw[List.getElem?_append] at x u;split at x
  ·split at u
   ·exact h.apart i j s t x u U k
   ·have G:=List.mem_of_getElem? u;simp at G;subst G;intro e f;have:=q i s x k e;have:=f.1;omega
  ·have h6:=List.mem_of_getElem? x;simp at h6;subst h6;split at u
   ·intro e f;have:=q j t u k f;have:=e.1;omega
   ·have G:=(bS.1 x).1;have h8:=(bS.1 u).1;simp at G h8;omega
theorem aBZ(base b:Nat)(K:Int)(L:List Ss)(lim:Nat)(w:World)(p:IS base w b K L)(N:1<=lim)(O:lim<=1000)(P: (L.length+1)*8<=140737488355328):Calls prog 6 #[.pointer (some ⟨b,0,none⟩),.int .i64 (lim:Nat)] w fun r w'=>W0 base b K L w r w':=by
 obtain⟨v,o,d,C⟩:=p.ex;have H:=aO N;have I:=aO O;obtain⟨a,c,B⟩:=CJ d;rw[aZ] at B;subst B;have q:=AD o;have J:=aO p;have E:=aO d;have z:=aO o;have A:=aO C;clear p d o C;go_enter func6,ntmps6
 go_wp2_with (first
  |(go_at_call 8;refine(aCo (lim:Nat) _ aD aD).mono ?_;rintro r w1 ⟨rfl,j,m,u⟩)
  |(go_at_call 9;refine(aDt (lim:Nat) _ aD aD).mono ?_;rintro r w2 ⟨rfl,k,y,l⟩;have n:Below w.heap.size w w2:=j.trans (k.mono j.size);have h:WlB w2 b _:=(n.block b q).trans z.o;have R:w2.cell? ⟨b,0,none⟩=some (.slice a L.length c):=AA h 0;have T:=AE h;have s:=E.o.below n)
  |(at_builtin;(refine AY Tryz.Pg V8 lT zC _ rfl (.tmp 37) (.tmp 43) rfl 0 (.slice a L.length c) (L.map (·.z)) rfl ((s.alloc _).alloc _) ⟨_,0,none⟩ 1 (w.heap.size+1+1) rfl (BL _ _ (by simp[m,y]) _ _) (by simpa using P) (bK _) ?_;intro g M F D f G;rw[aZ] at D;have i:WlB F b _:=(f.block b (by simp;have:=n.size;omega) (fun e=>(A.o b e.symm).2.1 rfl)).trans (AF (AF h _) _);have S:F.cell? ⟨b,0,none⟩=some (.slice a L.length c):=AA i 0;have Q:=AE i)))
 go_ret;have t:w2.heap.size=w.heap.size+2:=aD;refine⟨rfl,?_⟩;rw[m] at l;have x:PsB w2 w.heap.size (lim:Nat) (.slice none 0 0) (.pointer none):=(k.block _ aD).trans u;exact aBM J.o z.o E.o A.o t n H.o I.o x l f G D
theorem kI(base b:Nat)(K:Int)(L:List Ss)(lim:Int)(w:World)(a:IS base w b K L)(c: (L.length+1)*8<=140737488355328):Calls prog 6 #[.pointer (some ⟨b,0,none⟩),.int .i64 lim] w fun r w'=>W0 base b K L w r w':=by
 by_cases h:lim<1\/1000<lim
 ·exact zR base b K L lim w a h
 ·obtain⟨n,rfl⟩:∃n:Nat,lim=(n:Nat):=⟨lim.toNat,aD⟩
  exact aBZ base b K L n w a aD aD c
theorem kS{K:Int}{S:Se}{D:SD}(h:Rf.Pair K S D):DOk D:=
 ⟨by rw[h.l.cls];exact h.w.ok.cl,by rw[h.l.cls];exact fun c a=>⟨(h.w.ok.cls c a).2.2,(h.w.q c a).top⟩,h.l.d h.w,h.l.c16 h.w,by rw[h.l.lim];exact h.w.ok.l2⟩
theorem uE{cs:List Cl}{a:List ByteArray}{K:Int}{r:Int×Cf}(h:q8 cs a K r)(b:0<=K)(c:K<=8000000000000):MT a K.toNat r:=
 ⟨h.ne,fun e=>⟨(h.one e).2.symm,h.cf.now.t,by have:=h.cf.now.f1;omega⟩,h.l16,h.n12,aD⟩
theorem aDM{K:Int}{S:Se}{D:SD}(a:Rf.Pair K S D)(w:World)(y:Nat)(s:ByteArray)(h:jd w y D)(f:qo y w)(k1 c1 p1:Int)(t1:ByteArray)(e: (JE S s).1=⟨k1,t1,c1,p1⟩):Calls prog 28 #[.pointer (some ⟨y,0,none⟩),.string s] w fun r w'=>r= .returned (.agg #[.int .i64 k1,.string t1,.int .i64 c1,.int .i64 p1])/\jd w' y (H7 D s).2/\Kept (fun k=>k=y) w w':=by
 refine(zW w y (33000:Int).toNat D s h (kS a) (fun gs ns b=>⟨(dM (cs:=D.cls) b).1,(dM b).2.1,uE (eZ a.l a.w b) aF aF⟩) f).mono ?_;rintro r w' ⟨rfl,c,d⟩;rw[(fF a.l a.w s).1,e];exact⟨rfl,c,d⟩
theorem aDy{K:Int}{S:Se}{D:SD}(a:Rf.Pair K S D)(l:0<=K)(m:K+33000<=8000000000000)(w:World)(y:Nat)(h:jd w y D)(j:qo y w)(k1 c1 p1:Int)(t1:ByteArray)(i: (IA S).1=⟨k1,t1,c1,p1⟩):Calls prog 29 #[.pointer (some ⟨y,0,none⟩)] w fun r w'=>r= .returned (.agg #[.int .i64 k1,.string t1,.int .i64 c1,.int .i64 p1])/\jd w' y (FB D).2/\Kept (fun k=>k=y) w w':=by
 have d:=kS a;refine(vZ w y 1000 K (K+32016).toNat D h d (fun q c=>⟨(a.q q c).cf,?_⟩) (by have:=d.lim;omega) (by have:=d.lim;omega) j).mono ?_
 ·have b:=a.l.q
  cases e:S.q with
  |none=>rw[e,c] at b;exact b.elim
  |some n=>
   rw[e,c] at b;exact uE (jH a.l a.w e b (a.q q c)) aD aD
 ·rintro r w' ⟨rfl,f,g⟩;rw[(YP a.l a.w).1,i];exact⟨rfl,f,g⟩
theorem aDI{K:Int}{S:Se}{D:SD}(a:Rf.Pair K S D)(w:World)(y:Nat)(s:ByteArray)(d:s.size<=maxLen)(h:jd w y D):Calls prog 27 #[.pointer (some ⟨y,0,none⟩),.string s] w fun r w'=>r= .returned (.tuple #[.int .i64 (EE S s).1.1,.int .i64 (EE S s).1.2])/\jd w' y (EZ D s).2/\Kept (fun k=>k=y) w w':=by
 refine(xV w y D s h d (kS a).l30).mono ?_;rintro r w' ⟨rfl,b,c⟩;rw[(S6 a.l s).1];exact⟨rfl,b,c⟩
def LA(B:Nat)(K:Int)(G:Nat->Prop)(z:Nat)(w:World)(r:Ending)(w':World):Prop:=
 r= .returned (.bool true)/\Kept (fun k=>G k/\yg w k) w w'/\∃S' D',W8 B (NM G w w') w' z S' D'/\Rf.Pair (K+33000) S' D'
structure Mid(B:Nat)(G Gp:Nat->Prop)(w wc:World)(z x y:Nat)(lim:Int)(S':Se)(D:SD):Prop where
 k:Kept (fun k=>G k/\yg w k) w wc
 b:SsB wc z x y lim ⟨#[]⟩
 d:jd wc y D
 s:∃Gq,qw B Gq wc x S'/\∀k,Gq k->Gp k\/w.heap.size<=k
variable {B : Nat} {K : Int} {G Gp M : Nat -> Prop} {w wb X w1 wc w2 : World} {z x y : Nat} {lim : Int} {fr : ByteArray} {S S' : Se} {D D' : SD}
theorem OC(h:SsB w z x y lim fr)(i:qw B Gp w x S)(b:jd w y D)(c:OA G Gp z y)(a:Kept (fun k=>k=z) w wb)(f:Below wb.heap.size wb X):qw B Gp X x S/\jd X y D:=by
 have d:∀k,k=z->yg w k:=fun k e=>by subst e;exact h.mut
 exact⟨(i.kept a (fun k e=>(d k e).mut) (fun k e g=>c.pz (g ▸ e))).below f,(b.dk (VA a d) (a.block y b.lt (fun e=>c.yz e))).below f⟩
theorem ZS(q:SsB w z x y lim fr)(A:qw B Gp w x S)(v:jd w y D)(b:OA G Gp z y)(g:∀k,G k->k<w.heap.size)(d:Kept (fun k=>k=z) w wb)(o:SsB wb z x y lim ⟨#[]⟩)(m:Below wb.heap.size wb X)(h:IU B Gp X x S' w1)(a:Kept M w1 wc)(i:∀k,M k->yg w1 k)(c:∀k,M k->w.heap.size<=k/\k<X.heap.size):Mid B G Gp w wc z x y lim S' D:=by
 have f:Kept (fun k=>k=z) w X:=d.trans (Kept.of_below m _) (fun _ _ e=>e);have F:=f.size;have E:=h.2.size;have J:=g z b.gz;have I:=g y b.gy
 have p:Kept (fun k=>G k/\yg w k) w wc:=((f.mono (fun k _ e=>by have s:k=z:=e;subst s;exact⟨b.gz,q.mut⟩)).trans h.2 (fun k r e=>⟨b.gp k e.1,by
  obtain⟨cs,t,j,l⟩:=e.2;have u:=f.block k r (fun n=>b.pz (n ▸ e.1));exact(show Turn w k from⟨cs,t,u.symm.trans j,l⟩).mutl⟩)).trans a (fun k r e=>by have:=(c k e).1;omega)
 refine⟨p,?_,?_,NM Gp X w1,h.1.kept a (fun k e=>(i k e).mut) (fun k e n=>?_),fun k e=>?_⟩
 ·have H:=m.size;have C:=d.size;exact(a.block z aD (fun e=>by have:=(c z e).1;omega)).trans ((h.2.block z aD (fun e=>b.pz e.1)).trans ((m.block z aD).trans o))
 ·have j:=(OC q A v b d m).2;have l:=j.dk (VA h.2 (fun k e=>e.2.mutl)) (h.2.block y j.lt (fun e=>b.py e.1));exact l.dk (VA a i) (a.block y l.lt (fun e=>by have:=(c y e).1;omega))
 ·have:=c k n;rcases e with e|e
  ·have:=g k (b.gp k e);omega
  ·omega
 ·rcases e with e|e
  ·exact .inl e
  ·exact .inr aD
theorem kA(d:IU B Gp X x S' w1)(f:OA G Gp z y)(b:∀k,G k->k<w.heap.size)(a:Kept M w1 wc){k:Nat}(h:w.heap.size<=k)(c:k<X.heap.size)(g:¬M k):wc.heap[k]?=X.heap[k]?:=(a.block k (bH c d.2.size) g).trans (d.2.block k c (fun e=>by have:=b k (f.gp k e.1);omega))
theorem UZ(h:Mid B G Gp w wc z x y lim S' D)(a:OA G Gp z y)(q:yg w y)(c:∀k,G k->k<w.heap.size)(f:Kept (fun k=>k=y) wc w2)(m:jd w2 y D')(n:Rf.Pair (K+33000) S' D'):LA B K G z w (.returned (.bool true)) w2:=by
 obtain⟨j,i,d⟩:=h.s;have s:=c z a.gz;have r:=c y a.gy;have p:=h.k.size;have o:=f.size;refine⟨rfl,h.k.trans f (fun k _ e=>by have b:k=y:=e;subst b;exact⟨a.gy,q⟩),S',D',⟨x,y,lim,⟨#[]⟩,j,(f.block z aD (fun e=>a.yz e.symm)).trans h.b,i.kept f (fun k e=>by have b:k=y:=e;subst b;exact h.d.mut.mut) (fun k e l=>?_),m,fun k e=>?_,.inl a.gz,.inl a.gy,fun e=>?_,fun e=>?_,a.yz⟩,n⟩
 ·have b:k=y:=l;subst b;rcases d k e with e|e
  ·exact a.py e
  ·omega
 ·rcases d k e with g|g
  ·exact .inl (a.gp k g)
  ·exact .inr ⟨g,by have:=i.hi k e;omega⟩
 ·rcases d z e with e|e
  ·exact a.pz e
  ·omega
 ·rcases d y e with e|e
  ·exact a.py e
  ·omega
theorem nL(h:Mid B G Gp w wc z x y lim S' D)(a:∀k,G k->B<=k)(b:B<=w.heap.size)(c:vk B w)(f:B<=y):qo y wc:=fun w' d=>c w' ((h.k.below b (fun k g e=>by have:=a k e.1;omega)).trans (d.mono f))
structure SH(B:Nat)(K:Int)(G:Nat->Prop)(z:Nat)(S:Se)(D:SD)(w:World):Prop where
 s:W8 B G w z S D
 p:Rf.Pair K S D
 lo:∀k,G k->B<=k
 lt:∀k,G k->k<w.heap.size
 bw:B<=w.heap.size
 t:vk B w
 k0:0<=K
 k1:K+33000<=8000000000000
theorem kK(a:Array Value)(w:World): (callFunc 17 a).run prog w= .ok (.enter 17 a) w:=by
 simp[callFunc,func17,Tryz.f17]
theorem jE{B:Nat}{w wb X:World}{z:Nat}(f:B<=z)(a:B<=w.heap.size)(b:Kept (fun k=>k=z) w wb)(c:Below wb.heap.size wb X):Below B w X:=(b.below a (fun k h e=>by have d:k=z:=e;omega)).trans (c.mono (bN a b.size))
def g7(w:World)(k:Nat)(kd a b c d:Int)(s:ByteArray):Prop:=w.heap[k]?=some (.cells #[.int .i64 kd,.int .i64 a,.int .i64 b,.int .i64 c,.int .i64 d,.string s] 33 (0,0))
def aA2(w:World)(L:Nat)(q1:Int)(q2:ByteArray)(q3 q4:Int):Prop:=w.heap[L]?=some (.cells #[.int .i64 q1,.string q2,.int .i64 q3,.int .i64 q4] 65 (0,0))
def rF(B:Nat)(G Gp:Nat->Prop)(w:World)(z x y:Nat)(lim:Int)(S':Se)(D:SD)(kd a b c d:Int)(s:ByteArray)(q1:Int)(q2:ByteArray)(q3 q4:Int)(r:Value)(wc:World):Prop:=∃L,r= .pointer (some ⟨L,0,none⟩)/\L≠y/\aA2 wc L q1 q2 q3 q4/\Mid B G Gp w wc z x y lim S' D/\g7 wc w.heap.size kd a b c d s
section
variable {B : Nat} {G Gp : Nat -> Prop} {w wb X w1 : World} {z x y : Nat} {lim : Int} {fr : ByteArray} {S S' : Se} {D : SD} {kd a b c d q1 q3 q4 : Int} {s q2 : ByteArray}
theorem aCh(p:SsB w z x y lim fr)(r:qw B Gp w x S)(l:jd w y D)(m:OA G Gp z y)(f:∀k,G k->k<w.heap.size)(h:Kept (fun k=>k=z) w wb)(g:SsB wb z x y lim ⟨#[]⟩)(t:wb.heap.size=w.heap.size+1)(q:g7 wb w.heap.size kd a b c d s)(n:Below wb.heap.size wb X)(u:w.heap.size+1<X.heap.size)(o:IU B Gp X x S' w1){u0 u1 u2 u3:Value}(i:w1.heap[w.heap.size+1]?=some (.cells #[u0,u1,u2,u3] 65 (0,0))):rF B G Gp w z x y lim S' D kd a b c d s q1 q2 q3 q4 (.pointer (some ⟨w.heap.size+1,0,none⟩)) ((((w1.setCell ⟨w.heap.size+1,0,none⟩ (.int .i64 q1)).setCell ⟨w.heap.size+1,1,none⟩ (.string q2)).setCell ⟨w.heap.size+1,2,none⟩ (.int .i64 q3)).setCell ⟨w.heap.size+1,3,none⟩ (.int .i64 q4)):=
 ⟨_,rfl,by have:=l.lt;omega,EU i,ZS p r l m f h g n o (CK w1 (w.heap.size+1) _ _ _ _) (fun k e=>by have j:k=w.heap.size+1:=e;subst j;exact yg.mk' i aF (by unfold AW;decide)) (fun k e=>by have j:k=w.heap.size+1:=e;omega),(kA o m f (CK w1 (w.heap.size+1) _ _ _ _) (aX _) aD aD).trans ((n.block w.heap.size aD).trans q)⟩
theorem nJ(n:SsB w z x y lim fr)(p:qw B Gp w x S)(l:jd w y D)(m:OA G Gp z y)(f:∀k,G k->k<w.heap.size)(j:Kept (fun k=>k=z) w wb)(g:SsB wb z x y lim ⟨#[]⟩)(t:wb.heap.size=w.heap.size+1)(o:g7 wb w.heap.size kd a b c d s)(h:Below wb.heap.size wb X)(i:IU B Gp X x S' w1):rF B G Gp w z x y lim S' D kd a b c d s q1 q2 q3 q4 (.pointer (some ⟨w1.heap.size,0,none⟩)) (w1.alloc (.cells #[.int .i64 q1,.string q2,.int .i64 q3,.int .i64 q4] 65)):=
 have r:=h.size;have q:=i.2.size
 ⟨_,rfl,by have:=l.lt;omega,AJ w1 _,ZS n p l m f j g h i ((Kept.refl (fun _=>False) w1).alloc _) (fun k e=>e.elim) (fun k e=>e.elim),(kA i m f ((Kept.refl (fun _=>False) w1).alloc _) (aX _) aD (fun e=>e)).trans ((h.block w.heap.size aD).trans o)⟩
end
theorem aDx{w:World}{y:Nat}{D:SD}(h:jd w y D):∃a,w.cell? ⟨y,2,none⟩=some (.bool a)/\(∀i,w.frozen? ⟨y,i,none⟩=false)/\jd (w.setCell ⟨y,2,none⟩ (.bool false)) y (rR D)/\Kept (fun k=>k=y) w (w.setCell ⟨y,2,none⟩ (.bool false)):=by
 obtain⟨vC,a,j,v,o,g,u,n,l,x,q,f,t,m,fr,b,c,z⟩:=h.ex;have d:Kept (fun k=>k=y) w (w.setCell ⟨y,2,none⟩ (.bool false)):=(Kept.refl (fun k=>k=y) w).setCell (p:=⟨y,2,none⟩) (.inr rfl) _;exact⟨a,AA b 2,AE b,⟨vC,false,j,v,o,g,u,n,l,x,q,f,t,m,fr,AK b 2 _,c.doc (DK.kept d (fun k cs e r s=>dsn b r s)),rfl⟩,d⟩
theorem aBK(B:Nat)(K:Int)(G:Nat->Prop)(z:Nat)(S:Se)(D:SD)(a b c d:Int)(s:ByteArray)(w:World)(h:SH B K G z S D w)(hm:s.size<=maxLen):Calls prog 15 #[.pointer (some ⟨z,0,none⟩),.agg #[.int .i64 3,.int .i64 a,.int .i64 b,.int .i64 c,.int .i64 d,.string s]] w fun r w'=>LA B K G z w r w':=by
 obtain⟨x,y,lim,fr,Gp,m,hS,T,hI⟩:=h.s.ex;obtain⟨⟨q1,q2,q3,q4⟩,HR⟩:∃R,Hid ((JE S s).1=R):=⟨_,rfl⟩
 have hz:=AD m;have a0:=T.lt;have k0:w.cell? ⟨z,0,none⟩=some (.pointer (some ⟨x,0,none⟩)):=AA m 0;have k1:w.cell? ⟨z,1,none⟩=some (.pointer (some ⟨y,0,none⟩)):=AA m 1;have k3:w.cell? ⟨z,3,none⟩=some (.string fr):=AA m 3;have kf:=AE m;have J:=aO m;have Q:=aO hS;have M:=aO T;have l:=aO hI;have f:=aO h;clear m hS T hI h;go_enter func15,ntmps15;go_upto_region 11 with fail;have F:Kept (fun k=>k=z) w ((w.setCell ⟨z,3,none⟩ (.string ⟨#[]⟩)).alloc (.cells #[.int .i64 3,.int .i64 a,.int .i64 b,.int .i64 c,.int .i64 d,.string s] 33)):=((Kept.refl (fun k=>k=z) w).setCell (p:=⟨z,3,none⟩) (.inr rfl) _).alloc _;have j:SsB ((w.setCell ⟨z,3,none⟩ (.string ⟨#[]⟩)).alloc (.cells #[.int .i64 3,.int .i64 a,.int .i64 b,.int .i64 c,.int .i64 d,.string s] 33)) z x y lim ⟨#[]⟩:=AF (AK J.o 3 _) _;have n: ((w.setCell ⟨z,3,none⟩ (.string ⟨#[]⟩)).alloc (.cells #[.int .i64 3,.int .i64 a,.int .i64 b,.int .i64 c,.int .i64 d,.string s] 33)).heap[w.heap.size]?=some (.cells #[.int .i64 3,.int .i64 a,.int .i64 b,.int .i64 c,.int .i64 d,.string s] 33 (0,0)):=AZ _ _ _ (by simp[World.setCell]);have H: ((w.setCell ⟨z,3,none⟩ (.string ⟨#[]⟩)).alloc (.cells #[.int .i64 3,.int .i64 a,.int .i64 b,.int .i64 c,.int .i64 d,.string s] 33)).heap.size=w.heap.size+1:=by simp[World.setCell]
 generalize (w.setCell ⟨z,3,none⟩ (.string ⟨#[]⟩)).alloc (.cells #[.int .i64 3,.int .i64 a,.int .i64 b,.int .i64 c,.int .i64 d,.string s] 33)=wb at*;have b0:wb.cell? ⟨z,0,none⟩=some (.pointer (some ⟨x,0,none⟩)):=AA j 0;have b1:wb.cell? ⟨z,1,none⟩=some (.pointer (some ⟨y,0,none⟩)):=AA j 1;have b5:wb.cell? ⟨w.heap.size,5,none⟩=some (.string s):=AA n 5;have t:=aO j;have v:=aO n;have i:=aO F
 have u:Hid (∀X:World,Below wb.heap.size wb X->Calls prog 17 #[.pointer (some ⟨x,0,none⟩),.string s] X fun r w1=>r= .returned (.agg #[.int .i64 q1,.string q2,.int .i64 q3,.int .i64 q4])/\IU B Gp X x (JE S s).2 w1):=fun X q=>by
  have h5:=jE (f.o.lo z l.o.gz) f.o.bw i.o q;refine(aBS B Gp X x S s hm (OC J.o Q.o M.o l.o i.o q).1 (bN f.o.bw h5.size) (f.o.t.on h5)).mono ?_;rintro r w1 ⟨rfl,h6⟩;rw[HR.o];exact⟨rfl,h6⟩
 clear k0 k1 k3 kf j n F;have W:Hid (∀k,w.heap.size<=k->¬Gp k):=fun k hk e=>by have:=f.o.lt k (l.o.gp k e);omega
 go_cut [10] from 59 to 65 (rF B G Gp w z x y lim (JE S s).2 D 3 a b c d s q1 q2 q3 q4)
 case first=>
  go_region_law (first
   |(refine RX rfl 17 (.tmp 62) (.tmp 64) _ rfl (.pointer (some ⟨x,0,none⟩)) (.string s) rfl rfl (fun _=>kK _ _) (u.o _ aM) ?_;rintro r w1 ⟨rfl,g⟩;refine⟨_,rfl,?_⟩;have Y:=g.2.size;have N:w1.heap[w.heap.size+1]?=some (.cells #[.int .i64 0,.string ⟨#[]⟩,.int .i64 0,.int .i64 0] 65):=(g.2.block (w.heap.size+1) aI (fun e=>W.o _ aD e.1)).trans (AZ _ _ _ (by first|omega|(simp;omega)));have⟨s0,s1,s2,s3⟩:=cM N;have sf:=AE N;have sl:=AD N;simp at s0 s1 s2 s3)
   |(refine RX rfl 17 (.tmp 62) (.tmp 64) _ rfl (.pointer (some ⟨x,0,none⟩)) (.string s) rfl rfl (fun _=>kK _ _) (u.o _ aM) ?_;rintro r w1 ⟨rfl,g⟩;refine⟨_,rfl,?_⟩;have Y:=g.2.size))
  all_goals
   go_wp2_with fail;go_meet
   first
    |exact aCh J.o Q.o M.o l.o f.o.lt i.o t.o H v.o aM aI g N
    |exact nJ J.o Q.o M.o l.o f.o.lt i.o t.o H v.o aM g
 case rest=>
  obtain⟨L,rfl,V,o,O,C⟩:=hcut;have⟨c0,c1,c2,c3⟩:=cM o;simp at c0 c1 c2 c3;have d1:wc.cell? ⟨z,1,none⟩=some (.pointer (some ⟨y,0,none⟩)):=AA O.b 1;have d5:wc.cell? ⟨w.heap.size,5,none⟩=some (.string s):=AA C 5;have A:=aO o;have I:=aO O
  have P:Hid (∀X:World,Below wc.heap.size wc X->Calls prog 28 #[.pointer (some ⟨y,0,none⟩),.string s] X fun r w2=>r= .returned (.agg #[.int .i64 q1,.string q2,.int .i64 q3,.int .i64 q4])/\jd w2 y (H7 D s).2/\Kept (fun k=>k=y) wc w2):=fun X q=>by
   refine(aDM f.o.p X y s (I.o.d.below q) ((nL I.o f.o.lo f.o.bw f.o.t (f.o.lo y l.o.gy)).on (q.mono (Nat.le_of_lt I.o.d.lt))) q1 q3 q4 q2 HR.o).mono ?_;rintro r w2 ⟨rfl,h1,h2⟩;exact⟨rfl,h1,(Kept.of_below q _).trans h2 (fun _ _ e=>e)⟩
  clear b0 b1 b5 o O C;go_wp2_with fail;go_region_with (go_at_call 28;refine(P.o _ aM).mono ?_;rintro r w2 ⟨rfl,U,E⟩;have Z:=(E.block L (AD A.o) V).trans A.o;have⟨f0,f1,f2,f3⟩:=cM Z;simp at f0 f1 f2 f3;clear Z)
  all_goals
   go_wp2_with fail;go_ret;exact UZ I.o l.o M.o.mut f.o.lt E U (f.o.p.ask f.o.k0 s)
theorem aCL(B:Nat)(K:Int)(G:Nat->Prop)(z:Nat)(S:Se)(D:SD)(a b c d:Int)(s:ByteArray)(w:World)(h:SH B K G z S D w):Calls prog 15 #[.pointer (some ⟨z,0,none⟩),.agg #[.int .i64 4,.int .i64 a,.int .i64 b,.int .i64 c,.int .i64 d,.string s]] w fun r w'=>LA B K G z w r w':=by
 obtain⟨x,y,lim,fr,Gp,j,hS,M,Z⟩:=h.s.ex;obtain⟨⟨q1,q2,q3,q4⟩,V⟩:∃R,Hid ((IA S).1=R):=⟨_,rfl⟩
 have hz:=AD j;have a0:=M.lt;have k0:w.cell? ⟨z,0,none⟩=some (.pointer (some ⟨x,0,none⟩)):=AA j 0;have k1:w.cell? ⟨z,1,none⟩=some (.pointer (some ⟨y,0,none⟩)):=AA j 1;have k3:w.cell? ⟨z,3,none⟩=some (.string fr):=AA j 3;have kf:=AE j;have C:=aO j;have W:=aO hS;have I:=aO M;have o:=aO Z;have f:=aO h;clear j hS M Z h;go_enter func15,ntmps15;go_upto_region 16 with fail;have u:Kept (fun k=>k=z) w ((w.setCell ⟨z,3,none⟩ (.string ⟨#[]⟩)).alloc (.cells #[.int .i64 4,.int .i64 a,.int .i64 b,.int .i64 c,.int .i64 d,.string s] 33)):=((Kept.refl (fun k=>k=z) w).setCell (p:=⟨z,3,none⟩) (.inr rfl) _).alloc _;have g:SsB ((w.setCell ⟨z,3,none⟩ (.string ⟨#[]⟩)).alloc (.cells #[.int .i64 4,.int .i64 a,.int .i64 b,.int .i64 c,.int .i64 d,.string s] 33)) z x y lim ⟨#[]⟩:=AF (AK C.o 3 _) _;have l: ((w.setCell ⟨z,3,none⟩ (.string ⟨#[]⟩)).alloc (.cells #[.int .i64 4,.int .i64 a,.int .i64 b,.int .i64 c,.int .i64 d,.string s] 33)).heap[w.heap.size]?=some (.cells #[.int .i64 4,.int .i64 a,.int .i64 b,.int .i64 c,.int .i64 d,.string s] 33 (0,0)):=AZ _ _ _ (by simp[World.setCell]);have T: ((w.setCell ⟨z,3,none⟩ (.string ⟨#[]⟩)).alloc (.cells #[.int .i64 4,.int .i64 a,.int .i64 b,.int .i64 c,.int .i64 d,.string s] 33)).heap.size=w.heap.size+1:=by simp[World.setCell]
 generalize (w.setCell ⟨z,3,none⟩ (.string ⟨#[]⟩)).alloc (.cells #[.int .i64 4,.int .i64 a,.int .i64 b,.int .i64 c,.int .i64 d,.string s] 33)=wb at*;have b0:wb.cell? ⟨z,0,none⟩=some (.pointer (some ⟨x,0,none⟩)):=AA g 0;have b1:wb.cell? ⟨z,1,none⟩=some (.pointer (some ⟨y,0,none⟩)):=AA g 1;have b5:wb.cell? ⟨w.heap.size,5,none⟩=some (.string s):=AA l 5;have E:=aO g;have J:=aO l;have i:=aO u
 have F:Hid (∀X:World,Below wb.heap.size wb X->Calls prog 18 #[.pointer (some ⟨x,0,none⟩)] X fun r w1=>r= .returned (.agg #[.int .i64 q1,.string q2,.int .i64 q3,.int .i64 q4])/\IU B Gp X x (IA S).2 w1):=fun X n=>by
  have Y:=jE (f.o.lo z o.o.gz) f.o.bw i.o n;refine(zS B Gp X x S (OC C.o W.o I.o o.o i.o n).1 (bN f.o.bw Y.size) (f.o.t.on Y)).mono ?_;rintro r w1 ⟨rfl,h6⟩;rw[V.o];exact⟨rfl,h6⟩
 clear k0 k1 k3 kf g l u;go_cut [11] from 81 to 85 (rF B G Gp w z x y lim (IA S).2 D 4 a b c d s q1 q2 q3 q4)
 case first=>
  go_wp2_with (go_at_call 18;refine(F.o _ aM).mono ?_;rintro r w1 ⟨rfl,Q⟩);go_meet;exact nJ C.o W.o I.o o.o f.o.lt i.o E.o T J.o aM Q
 case rest=>
  obtain⟨L,rfl,O,m,A,P⟩:=hcut;have⟨c0,c1,c2,c3⟩:=cM m;simp at c0 c1 c2 c3;have d1:wc.cell? ⟨z,1,none⟩=some (.pointer (some ⟨y,0,none⟩)):=AA A.b 1;have q:=aO m;have v:=aO A
  have H:Hid (∀X:World,Below wc.heap.size wc X->Calls prog 29 #[.pointer (some ⟨y,0,none⟩)] X fun r w2=>r= .returned (.agg #[.int .i64 q1,.string q2,.int .i64 q3,.int .i64 q4])/\jd w2 y (FB D).2/\Kept (fun k=>k=y) wc w2):=fun X n=>by
   refine(aDy f.o.p f.o.k0 f.o.k1 X y (v.o.d.below n) ((nL v.o f.o.lo f.o.bw f.o.t (f.o.lo y o.o.gy)).on (n.mono (Nat.le_of_lt v.o.d.lt))) q1 q3 q4 q2 V.o).mono ?_;rintro r w2 ⟨rfl,h1,h2⟩;exact⟨rfl,h1,(Kept.of_below n _).trans h2 (fun _ _ e=>e)⟩
  clear b0 b1 b5 m A P;go_wp2_with fail;go_region_with (go_at_call 29;refine(H.o _ aM).mono ?_;rintro r w2 ⟨rfl,N,t⟩;have U:=(t.block L (AD q.o) O).trans q.o;have⟨f0,f1,f2,f3⟩:=cM U;simp at f0 f1 f2 f3;clear U)
  all_goals
   go_wp2_with fail;go_ret;exact UZ v.o o.o I.o.mut f.o.lt t N f.o.p.more
theorem aCE(B:Nat)(K:Int)(G:Nat->Prop)(z:Nat)(S:Se)(D:SD)(a b c d:Int)(s:ByteArray)(w:World)(h:SH B K G z S D w):Calls prog 15 #[.pointer (some ⟨z,0,none⟩),.agg #[.int .i64 5,.int .i64 a,.int .i64 b,.int .i64 c,.int .i64 d,.string s]] w fun r w'=>LA B K G z w r w':=by
 obtain⟨x,y,lim,fr,Gp,g,I,C,H⟩:=h.s.ex;have hz:=AD g;have Q:=C.lt;have R:w.cell? ⟨z,0,none⟩=some (.pointer (some ⟨x,0,none⟩)):=AA g 0;have k1:w.cell? ⟨z,1,none⟩=some (.pointer (some ⟨y,0,none⟩)):=AA g 1;have T:w.cell? ⟨z,3,none⟩=some (.string fr):=AA g 3;have U:=AE g;have o:=aO g;have F:=aO I;have u:=aO C;have A:=aO H;have v:=aO h;clear g I C H h;go_enter func15,ntmps15;go_upto_region 21 with fail;have m:Kept (fun k=>k=z) w ((w.setCell ⟨z,3,none⟩ (.string ⟨#[]⟩)).alloc (.cells #[.int .i64 5,.int .i64 a,.int .i64 b,.int .i64 c,.int .i64 d,.string s] 33)):=((Kept.refl (fun k=>k=z) w).setCell (p:=⟨z,3,none⟩) (.inr rfl) _).alloc _;have f:SsB ((w.setCell ⟨z,3,none⟩ (.string ⟨#[]⟩)).alloc (.cells #[.int .i64 5,.int .i64 a,.int .i64 b,.int .i64 c,.int .i64 d,.string s] 33)) z x y lim ⟨#[]⟩:=AF (AK o.o 3 _) _;have i: ((w.setCell ⟨z,3,none⟩ (.string ⟨#[]⟩)).alloc (.cells #[.int .i64 5,.int .i64 a,.int .i64 b,.int .i64 c,.int .i64 d,.string s] 33)).heap[w.heap.size]?=some (.cells #[.int .i64 5,.int .i64 a,.int .i64 b,.int .i64 c,.int .i64 d,.string s] 33 (0,0)):=AZ _ _ _ (by simp[World.setCell]);have P: ((w.setCell ⟨z,3,none⟩ (.string ⟨#[]⟩)).alloc (.cells #[.int .i64 5,.int .i64 a,.int .i64 b,.int .i64 c,.int .i64 d,.string s] 33)).heap.size=w.heap.size+1:=by simp[World.setCell]
 generalize (w.setCell ⟨z,3,none⟩ (.string ⟨#[]⟩)).alloc (.cells #[.int .i64 5,.int .i64 a,.int .i64 b,.int .i64 c,.int .i64 d,.string s] 33)=wb at*;have V:wb.cell? ⟨z,0,none⟩=some (.pointer (some ⟨x,0,none⟩)):=AA f 0;have W:wb.cell? ⟨z,1,none⟩=some (.pointer (some ⟨y,0,none⟩)):=AA f 1;have Y:wb.cell? ⟨w.heap.size,5,none⟩=some (.string s):=AA i 5;have q:=aO f;have N:=aO i;have l:=aO m;have t:Hid (∀X:World,Below wb.heap.size wb X->Calls prog 19 #[.pointer (some ⟨x,0,none⟩)] X fun r w1=>r= .returned (.tuple #[])/\IU B Gp X x (PF S) w1):=fun X O=>aAs B Gp X x S (OC o.o F.o u.o A.o l.o O).1;clear R k1 T U f i m;go_wp2_with (go_at_call 19;refine(t.o _ aM).mono ?_;rintro r w1 ⟨rfl,E⟩;have j:Mid B G Gp w w1 z x y lim (PF S) D:=ZS o.o F.o u.o A.o v.o.lt l.o q.o aM E (Kept.refl (fun _=>False) w1) (fun k e=>e.elim) (fun k e=>e.elim);have Z:w1.cell? ⟨z,1,none⟩=some (.pointer (some ⟨y,0,none⟩)):=AA j.b 1;obtain⟨L,y2,yf,n⟩:=aDx j.d;have M:=aO j;have J:=j.d.lt;clear j);go_ret;exact UZ M.o A.o u.o.mut v.o.lt n.2 n.1 (v.o.p.stop.mono aD)
theorem aCf(B:Nat)(K:Int)(G:Nat->Prop)(z:Nat)(S:Se)(D:SD)(a b c d:Int)(s:ByteArray)(w:World)(h:SH B K G z S D w)(T:s.size<=maxLen):Calls prog 15 #[.pointer (some ⟨z,0,none⟩),.agg #[.int .i64 2,.int .i64 a,.int .i64 b,.int .i64 c,.int .i64 d,.string s]] w fun r w'=>LA B K G z w r w':=by
 obtain⟨x,y,lim,fr,Gp,j,Q,I,P⟩:=h.s.ex;obtain⟨⟨q1,q2⟩,N⟩:∃R,Hid ((EE S s).1=R):=⟨_,rfl⟩
 have hz:=AD j;have a1:=I.lt;have k0:w.cell? ⟨z,0,none⟩=some (.pointer (some ⟨x,0,none⟩)):=AA j 0;have k1:w.cell? ⟨z,1,none⟩=some (.pointer (some ⟨y,0,none⟩)):=AA j 1;have k3:w.cell? ⟨z,3,none⟩=some (.string fr):=AA j 3;have kf:=AE j;have v:=aO j;have O:=aO Q;have F:=aO I;have m:=aO P;have g:=aO h;clear j Q I P h;go_enter func15,ntmps15;go_upto_region 5 with fail;have t:Kept (fun k=>k=z) w ((w.setCell ⟨z,3,none⟩ (.string ⟨#[]⟩)).alloc (.cells #[.int .i64 2,.int .i64 a,.int .i64 b,.int .i64 c,.int .i64 d,.string s] 33)):=((Kept.refl (fun k=>k=z) w).setCell (p:=⟨z,3,none⟩) (.inr rfl) _).alloc _;have f:SsB ((w.setCell ⟨z,3,none⟩ (.string ⟨#[]⟩)).alloc (.cells #[.int .i64 2,.int .i64 a,.int .i64 b,.int .i64 c,.int .i64 d,.string s] 33)) z x y lim ⟨#[]⟩:=AF (AK v.o 3 _) _;have l: ((w.setCell ⟨z,3,none⟩ (.string ⟨#[]⟩)).alloc (.cells #[.int .i64 2,.int .i64 a,.int .i64 b,.int .i64 c,.int .i64 d,.string s] 33)).heap[w.heap.size]?=some (.cells #[.int .i64 2,.int .i64 a,.int .i64 b,.int .i64 c,.int .i64 d,.string s] 33 (0,0)):=AZ _ _ _ (by simp[World.setCell]);have a0: ((w.setCell ⟨z,3,none⟩ (.string ⟨#[]⟩)).alloc (.cells #[.int .i64 2,.int .i64 a,.int .i64 b,.int .i64 c,.int .i64 d,.string s] 33)).heap.size=w.heap.size+1:=by simp[World.setCell]
 generalize (w.setCell ⟨z,3,none⟩ (.string ⟨#[]⟩)).alloc (.cells #[.int .i64 2,.int .i64 a,.int .i64 b,.int .i64 c,.int .i64 d,.string s] 33)=wb at*;have U:wb.cell? ⟨z,0,none⟩=some (.pointer (some ⟨x,0,none⟩)):=AA f 0;have V:wb.cell? ⟨z,1,none⟩=some (.pointer (some ⟨y,0,none⟩)):=AA f 1;have W:wb.cell? ⟨w.heap.size,5,none⟩=some (.string s):=AA l 5;have A:=aO f;have H:=aO l;have i:=aO t
 have C:Hid (∀X:World,Below wb.heap.size wb X->Calls prog 16 #[.pointer (some ⟨x,0,none⟩),.string s] X fun r w1=>r= .returned (.tuple #[.int .i64 q1,.int .i64 (q2:Nat)])/\IU B Gp X x (EE S s).2 w1):=fun X o=>by
  have h5:=jE (g.o.lo z m.o.gz) g.o.bw i.o o;refine(nB B Gp X x S s T (OC v.o O.o F.o m.o i.o o).1 (bN g.o.bw h5.size)).mono ?_;rintro r w1 ⟨rfl,h6⟩;rw[N.o];exact⟨rfl,h6⟩
 clear k0 k1 k3 kf f l t;go_cut [6,7] from 25 to 34 (fun v6 v7 wc=>v6= .int .i64 q1/\v7= .int .i64 (q2:Nat)/\Mid B G Gp w wc z x y lim (EE S s).2 D/\g7 wc w.heap.size 2 a b c d s)
 case first=>
  go_region_with (go_at_call 16;refine(C.o _ aM).mono ?_;rintro r w1 ⟨rfl,q⟩)
  all_goals
   go_wp2_with fail;go_meet;exact⟨rfl,rfl,ZS v.o O.o F.o m.o g.o.lt i.o A.o aM q (Kept.refl (fun _=>False) w1) (fun k e=>e.elim) (fun k e=>e.elim),(kA q m.o g.o.lt (Kept.refl (fun _=>False) w1) (aX _) aI (fun e=>e)).trans H.o⟩
 case rest=>
  obtain⟨rfl,rfl,u,n⟩:=hcut;have d1:wc.cell? ⟨z,1,none⟩=some (.pointer (some ⟨y,0,none⟩)):=AA u.b 1;have d5:wc.cell? ⟨w.heap.size,5,none⟩=some (.string s):=AA n 5;have M:=aO u
  have E:Hid (∀X:World,Below wc.heap.size wc X->Calls prog 27 #[.pointer (some ⟨y,0,none⟩),.string s] X fun r w2=>r= .returned (.tuple #[.int .i64 q1,.int .i64 (q2:Nat)])/\jd w2 y (EZ D s).2/\Kept (fun k=>k=y) wc w2):=fun X o=>by
   refine(aDI g.o.p X y s T (M.o.d.below o)).mono ?_;rintro r w2 ⟨rfl,Y,Z⟩;rw[N.o];exact⟨rfl,Y,(Kept.of_below o _).trans Z (fun _ _ e=>e)⟩
  clear U V W u n;go_wp2_with fail;go_region_with (go_at_call 27;refine(E.o _ aM).mono ?_;rintro r w2 ⟨rfl,J,L⟩)
  all_goals
   go_wp2_with fail;go_ret;exact UZ M.o m.o F.o.mut g.o.lt L J ((g.o.p.cons s).mono aD)
end Go.Proofs.Q
