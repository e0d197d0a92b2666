import Derived.Test.YthenokfmcjmfkaaGreatDoorYao
set_option maxRecDepth 100000
set_option maxHeartbeats 1000000
namespace Rf
def GO(a:List ByteArray)(R:Int×Cf):Rep:=if R.1=1 then⟨1,EB a R.2.now.aS,0,0⟩ else J9 R.1
def KX(R:Int×Cf):Cf:=if R.1=1 then⟨DL,R.2.chs.map I1⟩ else R.2
structure aBA(aW:List ByteArray)(cf:Cf):Prop where
 now:StG 9000 1000000 cf.now
 tl:cf.now.aS.length=aW.length
 nz:∀x∈aW,x.size<=12
 ch:∀c∈cf.chs,StG 9000 1000000 c.st/\c.st.aV≠[]
 cl:cf.chs.length<=20
end Rf
namespace Go.Proofs.Q
open Rf _root_.Go.Proofs.Tryz
open Go.RowKit
variable {nm : Value}
def GH(r:Rep):Value:= .agg #[.int .i64 r.kind,.string r.text,.int .i64 r.code,.int .i64 r.place]
theorem oX{k1 c1 p1:Int}{t1:ByteArray}{r:Rep}(h:r=⟨k1,t1,c1,p1⟩):Ending.returned (.agg #[.int .i64 k1,.string t1,.int .i64 c1,.int .i64 p1])= .returned (GH r):=by subst h;rfl
theorem QAt.Ag{w w':World}{q:Nat}{l:Option Nat}{i:List ByteArray}{cf:Cf}{L:Nat}{cs:Array Value}{t:TypeId}(h:QAt nm w q l i cf)(o:w.heap[L]?=some (.cells cs t (0,0)))(c:t≠129/\t≠84/\t≠3/\t≠9/\t≠86/\t≠127/\t≠133)(p:Kept (fun k=>k=L) w w'):QAt nm w' q l i cf:=by
 obtain⟨_,_,_,_,d⟩:=h.ex
 have a:∀g:TypeId,t≠g->∀k b,w.heap[k]?=some (.cells b g (0,0))->¬k=L:=by
  intro g c k b j e;subst e;rw[o] at j;injection j with m;injection m with _ n;exact c n
 refine(d.Bz p ⟨a _ c.1,a _ c.2.1,a _ c.2.2.1,a _ c.2.2.2.1,a _ c.2.2.2.2.1⟩ (a _ c.2.2.2.2.2.1 q _ d.b) (fun k e=>?_)).at;obtain⟨acc,r,_⟩:=d.r.ex;obtain⟨b,f⟩:=r.typed k (d.o.trans e);exact a _ c.2.2.2.2.2.2 k b f
theorem CK(w:World)(L:Nat)(u0 u1 u2 u3:Value):Kept (fun k=>k=L) w ((((w.setCell ⟨L,0,none⟩ u0).setCell ⟨L,1,none⟩ u1).setCell ⟨L,2,none⟩ u2).setCell ⟨L,3,none⟩ u3):=((((Kept.refl (fun k=>k=L) w).setCell (p:=⟨L,0,none⟩) (.inr rfl) _).setCell (p:=⟨L,1,none⟩) (.inr rfl) _).setCell (p:=⟨L,2,none⟩) (.inr rfl) _).setCell (p:=⟨L,3,none⟩) (.inr rfl) _
theorem Y9(w:World)(q:Nat)(f:Option Nat)(a:List ByteArray)(R:Int×Cf)(h:QAt nm w q f a R.2)(s:R.1=1->aBA a R.2)(y:Tab w):Calls prog 57 #[.pointer (some ⟨q,0,none⟩),.int .i64 R.1] w fun r w'=>r= .returned (GH (GO a R))/\QAt nm w' q f a (KX R)/\Kept (May q f) w w':=by
 obtain⟨k,cf⟩:=R;simp only at h s;have o:=aO h;have B:=aO y;by_cases p:k=1
 ·subst p;have g:=aO (s rfl);have b:Hid (GO a (1,cf)=⟨1,EB a cf.now.aS,0,0⟩):=rfl;have c:Hid (KX (1,cf)=⟨DL,cf.chs.map I1⟩):=rfl;clear h s y;go_enter func57,ntmps57
  go_wp2_with (first
   |(go_at_call 87;refine(uC _ q f a cf 9000 1000000 (o.o.below aM) g.o.now aD g.o.tl g.o.nz (Tab.below B.o aM)).mono ?_;rintro r K ⟨rfl,m⟩;have A:Below w.heap.size w K:=Below.trans ((bZ _ w).alloc (aX _) _) (m.mono (by rw[cE];omega));have x:=(m.block w.heap.size (by rw[cE];omega)).trans (AJ w _);have F:=A.size)
   |(go_at_call 88;refine(kP _ q f a cf 9000 1000000 (o.o.below A) g.o.ch aD aD g.o.cl).mono ?_;rintro r N ⟨rfl,l,n⟩;have z:¬May q f w.heap.size:=(by obtain⟨_,_,_,_,d⟩:=o.o.ex;rintro(e|e);(have:=AD d.b;omega);(obtain⟨acc,E,_⟩:=d.r.ex;have:=(E.lt _ (d.o.trans e.symm)).2;omega));have j:=(n.block w.heap.size (AD x) z).trans x;have⟨G,H,I,J⟩:=cM j;have L:=AE j;have M:=AD j;simp at G H I J;have t:=aO j;have u:=aO l;clear x j l))
  refine bodyPost_ret (v:= .agg #[.int .i64 1,.string (EB a cf.now.aS),.int .i64 0,.int .i64 0]) (by simp[results,results57,go_sem, *]) rfl ?_;rw[c.o];refine⟨oX b.o,u.o.Ag t.o aF (CK _ _ _ _ _ _),?_⟩;exact((Kept.of_below A (May q f)).trans n (fun _ _ h=>h)).trans (CK _ _ _ _ _ _) (fun i D e=>absurd D aD)
 ·have C: (k !=1)=true:=bne_iff_ne.2 p;have b:Hid (GO a (k,cf)=⟨k,⟨#[]⟩,0,0⟩):=by unfold Hid GO;rw[bC p];rfl
  have c:Hid (KX (k,cf)=cf):=by unfold Hid KX;rw[bC p]
  clear h s y;go_enter func57,ntmps57;go_wp2_with fail;refine bodyPost_ret (v:= .agg #[.int .i64 k,.string ⟨#[]⟩,.int .i64 0,.int .i64 0]) (by simp[results,results57,go_sem, *]) rfl ?_;rw[c.o];exact⟨oX b.o,o.o.below aM,Kept.of_below aM _⟩
theorem dJ{w:World}{q:Nat}{b:Option Nat}{c:List ByteArray}{cf:Cf}(h:QAt nm w q b c cf):¬May q b w.heap.size:=by
 obtain⟨_,_,_,_,a⟩:=h.ex;rintro(e|e)
 ·have:=AD a.b;omega
 ·obtain⟨acc,d,_⟩:=a.r.ex;have:=(d.lt _ (a.o.trans e.symm)).2;omega
theorem lH{w f:World}{q:Nat}{d a:Option Nat}{g:List ByteArray}{cf:Cf}(h:QAt nm w q d g cf)(i:Nb f d a)(l:w.heap.size<f.heap.size):¬May q a w.heap.size:=by
 have c:=dJ h;rintro(e|e)
 ·exact c (.inl e)
 ·rcases i with b|⟨k,b,j⟩
  ·exact c (.inr (e.trans b))
  ·rw[b] at e;injection e with e;omega
theorem aBF{cls:List Cl}{b:List ByteArray}(l:uw cls)(f:Az cls)(q:∀x∈b,x.size<=12){lim:Nat}(u:lim<=1000){r:Int×Cf}(h:Kep cls b.length 0 r)(n: (CG cls lim r).1=1):aBA b (CG cls lim r).2:=by
 obtain⟨z,o,s,a,m⟩:=ND (P:=Kep cls b.length) (fun _ _ h=>O7 l f h) (fun _ _ h i=>RE l f h i) lim 0 r h;have d:=P8 f lim 0 r h.inv aD h.out n
 have p:o=0:=by
  rcases m with⟨j,t⟩|⟨j,_⟩
  ·have:=a.out;unfold G9 at this;simp only at this;omega
  ·exact j
 refine⟨a.cf.now.mono aD aD,a.tm.1 p,q,fun c k=>?_,a.cf.len⟩;obtain⟨v,w,y,g,gs,e,_⟩:=d.2 c k;exact⟨(a.cf.chs c k).1.mono aD aD,by rw[e];simp⟩
def vk(B:Nat)(w:World):Prop:=Lib.TabBelow prog B w "internal/strconv.uint64pow10" .u64 Lib.pow10Tab
theorem vk.tab{B:Nat}{w:World}(h:vk B w):Tab w:=Lib.TabBelow.here h
theorem vk.on{B:Nat}{w w':World}(h:vk B w)(a:Below B w w'):vk B w':=Lib.TabBelow.on h a
theorem vk.kept{B q:Nat}{b:Option Nat}{w w':World}(h:vk B w)(d:Kept (May q b) w w')(c:B<=w.heap.size)(g:B<=q)(f:∀k,b=some k->B<=k):vk B w':=h.on (d.below c (fun k e a=>by
 rcases a with rfl|a
 ·omega
 ·have:=f k a.symm;omega))
theorem uN(w:World)(B q:Nat)(c:Option Nat)(a:List ByteArray)(cf:Cf)(Q:Value)(cls:List Cl)(lim:Nat)(h:QAt nm w q c a cf)(F:ji w Q cls)(G:Kep cls a.length 0 (-1,cf))(f:uw cls)(g:Az cls)(T:cls.length<=30)(b:lim<=1000)(J:∀x∈a,x.size<=12)(Y:B<=w.heap.size)(I:B<=q)(p:∀k,c=some k->B<=k)(P:vk B w):Calls prog 35 #[.pointer (some ⟨q,0,none⟩),Q,.int .i64 (lim:Nat)] w fun r w'=>r= .returned (GH (GO a (CG cls lim (-1,cf))))/\(∃s,QAt nm w' q s a (KX (CG cls lim (-1,cf)))/\Nb w c s)/\Kept (May q c) w w':=by
 have z:=aO h;have U:=aO F;have V:=aO G;have u:=aO f;have y:=aO g;have HZ:=aO J;have W:=aO P;have C:=aO p;have L:Hid _:=fun X=>aBF (lim:=lim) f g J b G X;obtain⟨D,E,rfl⟩:=F.slice;clear h F G f g J P p;obtain⟨R,O⟩:∃R,Hid (CG cls lim (-1,cf)=R):=⟨_,rfl⟩
 rw[O.o] at L⊢;obtain⟨⟨rk,rt,rc,K⟩,m⟩:∃rp,Hid (GO a R=rp):=⟨_,rfl⟩
 rw[m.o];go_enter func35,ntmps35
 go_wp2_with (first
  |(go_at_call 56;refine(fW _ q c a cf (.slice D cls.length E) cls lim a.length (-1) (z.o.below ((bZ _ w).alloc (aX _) _)) (U.o.below ((bZ _ w).alloc (aX _) _)) V.o u.o y.o T b).mono ?_;rintro r S ⟨rfl,⟨rb1,l,j⟩,n⟩;rw[O.o] at l⊢;have d:Hid (Kept (May q c) w S):=(Kept.of_below ((bZ _ w).alloc (aX _) _) (May q c)).trans n (fun _ _ h=>h);have M:Nb w c rb1:=Nb.up j (by rw[cE];omega);have a0:=d.o.size;have A:Hid (Tab S):=(W.o.kept d.o Y I C.o).tab;have N:=(n.block w.heap.size (by rw[cE];omega) (dJ z.o)).trans (AJ w _))
  |(go_at_call 57;refine(Y9 _ q rb1 a R l L.o A.o).mono ?_;rintro r w2 ⟨rfl,H,o⟩;rw[m.o];simp only[GH];have t:=(o.block w.heap.size (AD N) (lH z.o j (by rw[cE];omega))).trans N;have⟨s0,s1,s2,s3⟩:=cM t;have sf:=AE t;have sl:=AD t;simp at s0 s1 s2 s3))
 refine bodyPost_ret (v:= .agg #[.int .i64 rk,.string rt,.int .i64 rc,.int .i64 K]) (by simp[results,results35,go_sem, *]) rfl ?_;refine⟨rfl,⟨rb1,H.Ag t aF (CK _ _ _ _ _ _),M⟩,?_⟩;exact(U3 d.o M o).trans (CK _ _ _ _ _ _) (fun i Z e=>absurd Z aD)
end Go.Proofs.Q
namespace Rf
def IJ(cls:List Cl)(lim:Nat)(cf:Cf):Int×Cf:=if 200<KH cf.now then(7,cf) else CG cls lim (0,cf)
theorem Q0:∀(ns:List ByteArray) (i:Nat) (n:ByteArray),CQ i (ns++[n])=CQ i ns++(if D5 n=true then [(n,i+ns.length)] else [])
 |[],i,n=>by simp[CQ]
 |m::ns,i,n=>by
  rw[List.cons_append,CQ,Q0 ns (i+1) n,CQ,bM,List.append_assoc,show i+1+ns.length=i+(ns.length+1) by omega]
end Rf
namespace Go.Proofs.Q
open Rf _root_.Go.Proofs.Tryz
open Go.RowKit
variable {nm : Value}
theorem rH(w:World)(B q:Nat)(d:Option Nat)(f:List ByteArray)(cf:Cf)(vc:Value)(cls:List Cl)(lim:Nat)(h:QAt nm w q d f cf)(S:ji w vc cls)(I:Kep cls f.length 0 (0,cf))(n:uw cls)(o:Az cls)(Cc:cls.length<=30)(l:lim<=1000)(W:∀x∈f,x.size<=12)(hB:B<=w.heap.size)(V:B<=q)(E:∀k,d=some k->B<=k)(hT:vk B w):Calls prog 34 #[.pointer (some ⟨q,0,none⟩),vc,.int .i64 (lim:Nat)] w fun r w'=>r= .returned (GH (GO f (IJ cls lim cf)))/\(∃F,QAt nm w' q F f (KX (IJ cls lim cf))/\Nb w d F)/\Kept (May q d) w w':=by
 have G:=aO h;have HC:=aO S;have HK:=aO I;have J:=aO n;have K:=aO o;have HZ:=aO W;have HT:=aO hT;have N:=aO E;have HA:Hid _:=fun h1=>aBF (lim:=lim) n o W l I h1;obtain⟨O,P,rfl⟩:=S.slice;obtain⟨vg,vt,fr,vC,c⟩:=h.ex;obtain⟨k0,k1,k2,k3,k4,kf,kl⟩:=c.b.facts;obtain⟨ga,gc,rfl⟩:=c.s.g.slice;obtain⟨ta,tc,rfl⟩:=c.s.t.slice;have s:=aO c;have A:=I.cf.now;have p:=aO A;clear h S I n o W hT E c A;obtain⟨z,g⟩:∃z,Hid (KH cf.now=z):=⟨_,rfl⟩
 by_cases h2:200<z
 ·have M:Hid (IJ cls lim cf=(7,cf)):=by unfold Hid IJ;rw[g.o,bD h2]
  have Q: (200:Int)<z:=aD;rw[M.o];go_enter func34,ntmps34;go_wp2_with (go_at_call 55;refine(Y8 _ (.slice ga cf.now.aV.length gc) (.slice ta cf.now.aS.length tc) fr cf.now _ _ (s.o.s.below aM) p.o aD).mono ?_;rintro r w0 ⟨rfl,b⟩;rw[g.o];have a:Below w.heap.size w w0:=Below.trans ((bZ _ w).alloc (aX _) _) (b.mono (by rw[cE];omega));have j:=(b.block w.heap.size (by rw[cE];omega)).trans (AJ w _);have⟨Y,Z,s2,s3⟩:=cM j;have sf:=AE j;have sl:=AD j;simp at Y Z s2 s3);refine bodyPost_ret (v:= .agg #[.int .i64 7,.string ⟨#[]⟩,.int .i64 0,.int .i64 0]) (by simp[results,results34,go_sem, *]) rfl ?_;exact⟨rfl,⟨d,(G.o.below a).Ag j aF (CK _ _ _ _ _ _),.inl rfl⟩,(Kept.of_below a (May q d)).trans (CK _ _ _ _ _ _) (fun i U e=>absurd U aD)⟩
 ·have M:Hid (IJ cls lim cf=CG cls lim (0,cf)):=by unfold Hid IJ;rw[g.o,bC h2]
  have Q:¬(200:Int)<z:=aD;rw[M.o];obtain⟨R,hR⟩:∃R,Hid (CG cls lim (0,cf)=R):=⟨_,rfl⟩
  rw[hR.o] at HA⊢;obtain⟨⟨rk,rt,rc,X⟩,y⟩:∃rp,Hid (GO f R=rp):=⟨_,rfl⟩
  rw[y.o];go_enter func34,ntmps34
  go_wp2_with (first
   |(go_at_call 55;refine(Y8 _ (.slice ga cf.now.aV.length gc) (.slice ta cf.now.aS.length tc) fr cf.now _ _ (s.o.s.below aM) p.o aD).mono ?_;rintro r w0 ⟨rfl,b⟩;rw[g.o];have a:Below w.heap.size w w0:=Below.trans ((bZ _ w).alloc (aX _) _) (b.mono (by rw[cE];omega));have j:=(b.block w.heap.size (by rw[cE];omega)).trans (AJ w _))
   |(go_at_call 56;refine(fW _ q d f cf (.slice O cls.length P) cls lim f.length 0 (G.o.below a) (HC.o.below a) HK.o J.o K.o Cc l).mono ?_;rintro r w1 ⟨rfl,⟨rb1,u,t⟩,C⟩;rw[hR.o] at u⊢;have m:Hid (Kept (May q d) w w1):=(Kept.of_below a (May q d)).trans C (fun _ _ h=>h);have Jp:Nb w d rb1:=Nb.up t a.size;have a0:=m.o.size;have L:Hid (Tab w1):=(HT.o.kept m.o hB V N.o).tab;have P1:=(C.block w.heap.size (by have:=a.size;exact AD j) (dJ G.o)).trans j)
   |(go_at_call 57;refine(Y9 _ q rb1 f R u HA.o L.o).mono ?_;rintro r w2 ⟨rfl,T,D⟩;rw[y.o];simp only[GH];have H:=(D.block w.heap.size (AD P1) (lH G.o t (AD j))).trans P1;have⟨Y,Z,s2,s3⟩:=cM H;have sf:=AE H;have sl:=AD H;simp at Y Z s2 s3))
  refine bodyPost_ret (v:= .agg #[.int .i64 rk,.string rt,.int .i64 rc,.int .i64 X]) (by simp[results,results34,go_sem, *]) rfl ?_;refine⟨rfl,⟨rb1,T.Ag H aF (CK _ _ _ _ _ _),Jp⟩,?_⟩;exact(U3 m.o Jp D).trans (CK _ _ _ _ _ _) (fun i U e=>absurd U aD)
def NmB(v:Value)(g:Nat):Prop:=∃off n c,v= .slice (some ⟨g,off,none⟩) n c
structure Bg(w wr:World)(b:Nat)(vg:Value)(fr:Int)(vN vt:Value)(ns:List ByteArray)(acc:List (SlV×List AB)):Prop where
 o:QB wr b vN vg vt fr (.slice none 0 0)
 n:aj wr (b+1) 9 1 A3 vN ns
 t:je (b+1) wr vt acc
 b:Below w.heap.size w wr
theorem Bg.below{w wr g:World}{b:Nat}{e d f:Value}{c:Int}{ns:List ByteArray}{acc:List (SlV×List AB)}(h:Bg w wr b e c d f ns acc)(a:Below wr.heap.size wr g):Bg w g b e c d f ns acc:=
 ⟨(a.block b (AD h.o)).trans h.o,h.n.below a,h.t.below a,h.b.trans (a.mono h.b.size)⟩
theorem Bg.apart{w wr:World}{b:Nat}{j c d:Value}{g:Int}{ns:List ByteArray}{acc:List (SlV×List AB)}(h:Bg w wr b j g c d ns acc):∀k,c.ownBlock=some k->d.ownBlock=some k->False:=fun k e f=>by
 obtain⟨c1,i⟩:=h.n.typed k e;obtain⟨l,a⟩:=h.t.row.typed k f;rw[i] at a;injection a with a;injection a with _ a;exact absurd a aF
theorem Bg.name{w wr a:World}{b:Nat}{n f c i:Value}{j:Int}{ns:List ByteArray}{x:ByteArray}{acc:List (SlV×List AB)}(h:Bg w wr b n j f i ns acc)(v:w.heap.size<=b)(g:wr.grownBy a f.ownBlock)(r:aj a (b+1) 9 1 A3 c (ns++[x])):QB a b f n i j (.slice none 0 0)/\Bg w (a.setCell ⟨b,0,none⟩ c) b n j c i (ns++[x]) acc:=by
 have d:∀k,f.ownBlock=some k->b+1<=k:=fun k e=>(h.n.lt k e).1;have m:a.heap[b]?=_:=(g.block b (AD h.o) (fun e=>by have:=d b e.symm;omega)).trans h.o;have y:Kept (fun k=>f.ownBlock=some k) wr a:=(Kept.refl _ wr).grown g (fun k e=> .inr e)
 have A:∀cs (t:TypeId),t≠127->a.heap[b]?≠some (.cells cs t (0,0)):=fun cs t l e=>by
  rw[m] at e;injection e with e;injection e with _ e;exact l e.symm
 have o:aj a (b+1) 84 1 B5 i (acc.map (·.1)):=h.t.row.keptBy y (fun k s u=>h.apart k u s);refine⟨m,AK m 0 _,r.setCell ⟨b,0,none⟩ _ (fun e=>?_),⟨o.setCell ⟨b,0,none⟩ _ (fun e=>?_),fun q z=>((h.t.each q z).Ep h.n aF g).setCell _ _ (fun cs=>A cs _ aF)⟩,(h.b.grown g h.b.size (fun k e=>by have:=d k e;omega)).setCell (p:=⟨b,0,none⟩) v _⟩
 ·have:=(r.lt _ e).1;simp at this;omega
 ·have:=(o.lt _ e).1;simp at this;omega
theorem Bg.term{w wr a:World}{b:Nat}{o i f c:Value}{j:Int}{ns:List ByteArray}{acc:List (SlV×List AB)}{x:SlV}{ps:List AB}(h:Bg w wr b o j i f ns acc)(v:w.heap.size<=b)(hx:Seen wr 129 AH (.slice x.a x.n x.c) ps)(g:wr.grownBy a f.ownBlock)(A:aj a (b+1) 84 1 B5 c (acc.map (·.1)++[x])):QB a b i o f j (.slice none 0 0)/\Bg w (a.setCell ⟨b,2,none⟩ c) b o j i c ns (acc++[(x,ps)]):=by
 have d:∀k,f.ownBlock=some k->b+1<=k:=fun k e=>(h.t.row.lt k e).1;have n:a.heap[b]?=_:=(g.block b (AD h.o) (fun e=>by have:=d b e.symm;omega)).trans h.o;have y:Kept (fun k=>f.ownBlock=some k) wr a:=(Kept.refl _ wr).grown g (fun k e=> .inr e)
 have B:∀cs (t:TypeId),t≠127->a.heap[b]?≠some (.cells cs t (0,0)):=fun cs t m e=>by
  rw[n] at e;injection e with e;injection e with _ e;exact m e.symm
 have l:=je.app h.t hx g A;have r:aj a (b+1) 9 1 A3 i ns:=h.n.keptBy y (fun k s u=>h.apart k s u);refine⟨n,AK n 2 _,r.setCell ⟨b,2,none⟩ _ (fun e=>?_),⟨l.row.setCell ⟨b,2,none⟩ _ (fun e=>?_),fun q z=>(l.each q z).setCell _ _ (fun cs=>B cs _ aF)⟩,(h.b.grown g h.b.size (fun k e=>by have:=d k e;omega)).setCell (p:=⟨b,2,none⟩) v _⟩
 ·have:=(r.lt _ e).1;simp at this;omega
 ·have:=(l.row.lt _ e).1;simp at this;omega
theorem rS(w:World)(Z:Value)(gs:List (List AB))(K:Value)(ns:List ByteArray)(P:ak w Z gs)(Q:Seen w 9 A3 K ns)(hl:ns.length<=16):Calls prog 33 #[Z,K] w fun r w'=>∃q nm,r= .returned (.pointer (some ⟨q,0,none⟩))/\w.heap.size<=q/\QAt nm w' q none (BE ns) (BK gs ns)/\(∀g,NmB nm g->w.heap.size<=g)/\Below w.heap.size w w':=by
 obtain⟨N,O,rfl⟩:=P.slice;obtain⟨na,nc,rfl⟩:=Q.slice;have HG:=aO P;have L:=aO Q;clear P Q;obtain⟨f,b⟩:∃n,Hid (ns.length=n):=⟨_,rfl⟩
 rw[b.o] at hl⊢;go_enter func33,ntmps33;go_wp2_with fail;have J:Bg w (w.alloc (.cells #[.slice none 0 0,.slice N gs.length O,.slice none 0 0,.int .i64 f,.slice none 0 0] 127)) w.heap.size (.slice N gs.length O) f (.slice none 0 0) (.slice none 0 0) [] []:=⟨AJ _ _,aj.nil _ _ _ _ _,⟨aj.nil _ _ _ _ _,fun q hq=>by cases hq⟩,(bZ _ w).alloc (aX _) _⟩
 have M:=aO J;clear J;go_loopw [16] (fun S wr=>∃(i:Nat) (K vt:Value) (acc:List (SlV×List AB)),i<=f/\S= .int .i64 (i:Nat)/\Bg w wr w.heap.size (.slice N gs.length O) f K vt (BE (ns.take i)) acc/\Hid (acc.map (·.2)=CW (ns.take i))) (fun S _=>f-(intOf S).toNat)
 case atStart=>
  exact⟨0,_,_,[],bK _,rfl,M.o,rfl⟩
 case round=>
  obtain⟨i,K,vt,acc,hi,rfl,A,a⟩:=hrel;obtain⟨m0,m1,m2,m3,m4,mf,ml⟩:=QB.facts A.o;obtain⟨h,d⟩:∃h,Hid (BE (ns.take i)=h):=⟨_,rfl⟩
  rw[d.o] at A
  have a3:h.length<=16:=by
   have e:=JN 0 (ns.take i);rw[<-d.o];unfold BE;rw[aZ];rw[bW,b.o] at e;omega
  have a1:acc.length<=16:=by
   have e:=JN 0 (ns.take i);have k:=congrArg List.length a.o;unfold CW at k;rw[aZ,aZ] at k;rw[bW,b.o] at e;omega
  have o:=aO A;obtain⟨U,V,rfl⟩:=CJ A.n;obtain⟨C,W,rfl⟩:=CJ A.t.row;clear A;by_cases R:i<f
  ·have I: (i:Int)<f:=aD;have H:i<ns.length:=by rw[b.o];exact R
   obtain⟨g,off,rfl⟩:=L.o.pos aD;have c:∀x,ns[i]?=some x->wr.cell? ⟨g,off+i,none⟩=some (.string x):=fun x hx=>Seen.Jd (L.o.below o.o.b) i x hx;have a2:=(L.o.below o.o.b).lt;obtain⟨x,hx⟩:∃x,ns[i]?=some x:=⟨_,bU H⟩
   have hc:=c x hx;have z:ns.take (i+1)=ns.take i++[x]:=by rw[List.take_add_one,hx];rfl
   have v:=Q0 (ns.take i) 0 x;rw[<-z,bW,Nat.min_eq_left aD,Nat.zero_add] at v;have a0:=aO z;have j:=aO v;have HX:=aO hx;clear c H hx z v
   cases Y:D5 x
   ·have l:=aO Y;go_wp2_with (go_at_call 54;refine(TT x _).mono ?_;rintro r w1 ⟨rfl,rfl⟩;rw[l.o]);go_roundw
    case rel=>
     refine⟨i+1,.slice U h.length V,.slice C (acc.map (·.1)).length W,acc,aD,by go_num,?_,?_⟩
     ·have e:BE (ns.take (i+1))=h:=by unfold BE;rw[j.o,l.o,<-d.o];simp[BE]
      rw[e];exact o.o
     ·unfold Hid CW;rw[j.o,l.o,a.o];simp[CW]
    case measure=>simp[intOf];omega
   ·have l:=aO Y;rw[aZ] at o m2
    go_wp2_with (first
     |(at_builtin;refine AY Tryz.mg B5 DZ F8 _ rfl (.tmp 38) (.tmp 42) rfl (w.heap.size+1) (.slice C acc.length W) (acc.map (·.1)) rfl (E.t.row) ⟨_,0,none⟩ 1 ⟨some ⟨_,0,none⟩,1,1⟩ rfl (BL _ _ aE _ _) (by rw[aZ];omega) aJ ?_;intro gT Ad w4 u iy qm;have F:=Bg.term (x:=⟨some ⟨_,0,none⟩,1,1⟩) (ps:=KK i) E (aX _) hP iy u;obtain⟨r0,r1,r2,r3,r4,rf,rb⟩:=QB.facts F.1)
     |(at_builtin;refine AY Tryz.Aa A3 C7 HJ _ rfl (.tmp 27) (.tmp 29) rfl (w.heap.size+1) (.slice U h.length V) h rfl (o.o.n.alloc _) ⟨_,0,none⟩ 1 x rfl (BL _ _ aE _ _) aD aJ ?_;intro X T B t dw jh;have D:=Bg.name (o.o.below ((bZ _ _).alloc (aX _) _)) (aX _) dw t;obtain⟨q0,q1,q2,q3,q4,qf,qb⟩:=QB.facts D.1;have E:=(D.2.below ((bZ _ _).alloc (aX _) (.cells #[.int .i64 1,.string ⟨#[]⟩,.int .i64 i,.int .i64 0] 129))).below ((bZ _ _).alloc (aX _) (.cells #[.slice (some ⟨B.heap.size,0,none⟩) 1 1] 84));have hP:Seen _ 129 AH (.slice (some ⟨B.heap.size,0,none⟩) 1 1) (KK i):=Seen.one (p:=⟨1,⟨#[]⟩,i,0⟩) (AF (AZ (B.setCell ⟨w.heap.size,0,none⟩ (.slice (some ⟨X,0,none⟩) (h.length+1) T)) _ B.heap.size aE) (.cells #[.slice (some ⟨B.heap.size,0,none⟩) 1 1] 84)))
     |(go_at_call 54;refine(TT x _).mono ?_;rintro r w1 ⟨rfl,rfl⟩;rw[l.o]))
    go_roundw
    case rel=>
     refine⟨i+1,.slice (some ⟨X,0,none⟩) (h.length+1) T,.slice (some ⟨gT,0,none⟩) (acc.length+1) Ad,acc++[(⟨some ⟨B.heap.size,0,none⟩,1,1⟩,KK i)],aD,by go_num,?_,?_⟩
     ·have e:BE (ns.take (i+1))=h++[x]:=by unfold BE;rw[j.o,l.o,<-d.o];simp[BE]
      have k:=F.2;rw[aZ] at k;rw[e];exact k
     ·unfold Hid CW;rw[j.o,l.o,bE,a.o];simp[CW]
    case measure=>simp[intOf];omega
  ·have I:¬(i:Int)<f:=aD;have G:i=f:=aD;go_wp2_with fail;go_ret;have h7:ns.take i=ns:=by rw[G,<-b.o,List.take_length]
   have k:=a.o;have e:=d.o;rw[h7] at k e;have s:=o.o;refine⟨w.heap.size,rfl,aX _,_,⟨_,_,_,_,s.o,?_,⟨?_,?_,?_⟩,⟨[],aj.nil _ _ _ _ _,(fun y hy=>absurd hy aE),rfl⟩,rfl⟩,?_,s.b⟩
   ·rw[e];exact s.n.seen
   ·exact HG.o.below s.b
   ·exact⟨acc,s.t.row.seen,s.t.each,k.symm⟩
   ·show(f:Int)=((ns.length:Nat):Int);rw[b.o]
   ·rintro g ⟨off,m,c9,e9⟩;have h5:=(s.n.lt g (by rw[e9];rfl)).1;omega
def MO(c:Cl):ByteArray:=aDb (txt c.head) c.body c.body.length++⟨#[46]⟩
def PsB(w:World)(x:Nat)(lim:Int)(vC a:Value):Prop:=
 w.heap[x]?=some (.cells #[.int .i64 lim,vC,a] 52 (0,0))
structure qg(F:Nat->Prop)(w:World)(v:Value)(cls:List Cl):Prop where
 ex:∃acc,qx F w v acc/\cls=acc.map (·.2)/\acc.length<=30
 good:∀c∈cls,g8 c/\MF c
theorem aBm(lim:Int)(w:World)(h:lim<1\/1000<lim):Calls prog 8 #[.int .i64 lim] w fun r w'=>r= .returned (.tuple #[.pointer none,.int .i64 7])/\w'=w:=by
 rcases h with h|h
 ·go_enter func8,ntmps8;go_wp2;go_ret2;exact⟨rfl,rfl⟩
 ·have a:1<=lim:=aD;go_enter func8,ntmps8;go_wp2;go_ret2;exact⟨rfl,rfl⟩
theorem aCo(lim:Int)(w:World)(h:1<=lim)(a:lim<=1000):Calls prog 8 #[.int .i64 lim] w fun r w'=>r= .returned (.tuple #[.pointer (some ⟨w.heap.size,0,none⟩),.int .i64 0])/\Below w.heap.size w w'/\w'.heap.size=w.heap.size+1/\ PsB w' w.heap.size lim (.slice none 0 0) (.pointer none):=by
 go_enter func8,ntmps8;go_wp2;go_ret2;exact⟨rfl,(bZ _ _).alloc (aX _) _,aE,AJ _ _⟩
theorem sY(w:World):Calls prog 19 #[.pointer none] w fun r w'=>r= .returned (.tuple #[])/\w'=w:=by
 go_enter func19,ntmps19;go_wp2;go_end0;exact⟨rfl,rfl⟩
theorem JA(x:Nat)(w:World)(h:∃lim vC b,PsB w x lim vC b):Calls prog 19 #[.pointer (some ⟨x,0,none⟩)] w fun r w'=>r= .returned (.tuple #[])/\w'=w.setCell ⟨x,2,none⟩ (.pointer none):=by
 obtain⟨lim,vC,b,a⟩:=h;have d:w.cell? ⟨x,2,none⟩=some b:=AA a 2;have e:=AE a;have c:=AD a;clear a;go_enter func19,ntmps19;go_wp2;go_end0;exact⟨rfl,rfl⟩
theorem iZ(s:ByteArray)(w:World):Calls prog 16 #[.pointer none,.string s] w fun r w'=>r= .returned (.tuple #[.int .i64 7,.int .i64 0])/\w'=w:=by
 go_enter func16,ntmps16;go_wp2;go_ret2;exact⟨rfl,rfl⟩
theorem uZ{F:Nat->Prop}{w i j:World}{x:Nat}{v t v2:Value}{acc l:List (NI×Cl)}(m:qx F w v acc)(n:qx (fun k=>w.heap.size<=k/\k<i.heap.size) i t l) (p:Kept (fun k=>k=x\/v.ownBlock=some k) w j) (b:Kept (fun k=>k=x\/v.ownBlock=some k) i j) (u:w.heap.size<=i.heap.size) (hx:¬F x) (s:x<w.heap.size) (o:aj j 0 86 2 IN v2 (acc.map (·.1)++l.map (·.1))) (d:∀k,v2.ownBlock=some k->v.ownBlock=some k\/i.heap.size<=k) (f:acc++l=[]->v2= .slice none 0 0):qx (fun k=>F k\/(w.heap.size<=k/\k<j.heap.size)) j v2 (acc++l):=by
 have r:=b.size;have h:∀k,v.ownBlock=some k->k<w.heap.size:=fun k e=>(m.row.lt k e).2;refine⟨by rw[bE];exact o,fun k e=>?_,fun q g=>?_,f⟩
 ·rcases d k e with c|c
  ·exact .inl (m.uy k c)
  ·exact .inr ⟨aD,(o.lt k e).2⟩
 ·rcases bO.1 g with g|g
  ·refine(m.cls q g).keptBy p (fun k b a=>⟨fun e=>?_,.inl a.1,fun e=>?_⟩)
   ·rcases e with e|e
    ·exact hx (e ▸ a.1)
    ·exact a.2 e
   ·rcases d k e with c|c
    ·exact a.2 c
    ·omega
  ·refine(n.cls q g).keptBy b (fun k b a=>⟨fun e=>?_,.inr ⟨a.1.1,aD⟩,fun e=>?_⟩)
   ·rcases e with e|e
    ·have:=a.1.1;omega
    ·have:=h k e;have:=a.1.1;omega
   ·rcases d k e with c|c
    ·have:=h k c;have:=a.1.1;omega
    ·have:=a.1.2;omega
theorem qx.weak{F F' M:Nat->Prop}{w w':World}{v:Value}{acc:List (NI×Cl)}(h:qx F w v acc)(d:Kept M w w')(c:∀k,k<w.heap.size->F k->¬M k)(b:∀k,F k->F' k):qx F' w' v acc:=
 ⟨h.row.keptBy d (fun k e=>c k (h.row.lt k e).2 (h.uy k e)),fun k e=>b k (h.uy k e),fun q g=>(h.cls q g).keptBy d (fun k f a=>⟨c k f a.1,b k a.1,a.2⟩),h.none⟩
structure PsL(F:Nat->Prop)(w:World)(x:Nat)(lim:Int)(vQ:Value)(cls:List Cl):Prop where
 ex:∃vC,PsB w x lim vC vQ/\qg F w vC cls
 apart:¬F x
theorem PsL.Ib{F F' M:Nat->Prop}{w w':World}{x:Nat}{vC c:Value}{lim:Int}{cls:List Cl}(b:qg F w vC cls)(j:Kept M w w')(i:∀k,k<w.heap.size->F k->¬M k)(g:PsB w' x lim vC c)(h:∀k,F k->F' k)(a:¬F' x):PsL F' w' x lim c cls:=by
 obtain⟨acc,d,e,f⟩:=b.ex;exact⟨⟨vC,g,⟨acc,d.weak j i h,e,f⟩,b.good⟩,a⟩
def ClB(w:World)(k:Nat):Prop:=∃cs,w.heap[k]?=some (.cells cs 86 (0,0))
def GB(F:Nat->Prop)(w:World)(x:Nat)(lim:Int)(a:Value)(cls:List Cl)(s:ByteArray)(r:Ending)(w':World):Prop:=
 r= .returned (.tuple #[.int .i64 (G8 cls s).1.1,.int .i64 (G8 cls s).1.2])/\Kept (fun k=>k=x\/(F k/\ClB w k)) w w'/\PsL (fun k=>F k\/(w.heap.size<=k/\k<w'.heap.size)) w' x lim a (G8 cls s).2
theorem kY(F:Nat->Prop)(l w:World)(x:Nat)(lim:Int)(c:Value)(cls:List Cl)(s:ByteArray)(j:Hid (∃lim vC c,PsB l x lim vC c))(y:Hid (w=l.setCell ⟨x,2,none⟩ (.pointer none)))(h:PsL F w x lim c cls)(v:s.size<=maxLen)(e:Int)(q:Nat)(g:CR s= .error (e,q)):Calls prog 16 #[.pointer (some ⟨x,0,none⟩),.string s] l fun r w'=>GB F w x lim c cls s r w':=by
 obtain⟨⟨vC,d,m⟩,hx⟩:=h;have u:Hid (G8 cls s=((e,q),cls)):=by unfold Hid G8;rw[g]
 have t:=aO g;have p:=aO m;have o:=aO d;have b:=AD d;clear g m d;go_enter func16,ntmps16
 go_wp2_with (first
  |(go_at_call 19;refine(JA x _ j.o).mono ?_;rintro r z ⟨rfl,i⟩;rw[<-y.o] at i;subst z)
  |(go_at_call 31;refine(LX s _ v).mono ?_;rintro r B ⟨a,n⟩;rw[t.o] at n;obtain⟨rfl,f⟩:=n;have A: (e !=0)=true:=(by rw[bne_iff_ne];exact f)))
 go_ret2;unfold GB;rw[u.o];exact⟨rfl,Kept.of_below a _,PsL.Ib p.o (Kept.of_below a (fun _=>False)) (fun _ _ _ e=>e) ((a.block x b).trans o.o) (fun k x=> .inl x) (pO hx b)⟩
theorem gP(F:Nat->Prop)(B w:World)(x:Nat)(lim:Int)(p:Value)(cls:List Cl)(s:ByteArray)(z:Hid (∃lim vC p,PsB B x lim vC p))(R:Hid (w=B.setCell ⟨x,2,none⟩ (.pointer none)))(h:PsL F w x lim p cls)(O:s.size<=maxLen)(b:List Cl)(v:CR s= .ok b)(N:30<cls.length+b.length)(P:b.length<=402):Calls prog 16 #[.pointer (some ⟨x,0,none⟩),.string s] B fun r w'=>GB F w x lim p cls s r w':=by
 obtain⟨⟨vC,q,t⟩,hx⟩:=h;obtain⟨acc,C,d,L⟩:=t.ex;have f:cls.length=acc.length:=by rw[d,aZ]
 obtain⟨a,c,G⟩:=CJ C.row;rw[aZ] at G;subst G;have j:=aO f;have K:=aO v;have J:=aO t;have I:=aO q;have o:=AD q;have M:Hid (G8 cls s=((6,0),cls)):=by unfold Hid G8;rw[v];simp only[];rw[bD N]
 clear v t q C d f;go_enter func16,ntmps16
 go_wp2_with (first
  |(go_at_call 19;refine(JA x _ z.o).mono ?_;rintro r S ⟨rfl,y⟩;rw[<-R.o] at y;subst S)
  |(go_at_call 31;refine(LX s _ O).mono ?_;rintro r H ⟨i,D⟩;rw[K.o] at D;obtain⟨V,A,rfl,l,g⟩:=D;obtain⟨T,c1,n⟩:=CJ l.row;rw[aZ] at n;subst n;have m:PsB H x _ _ _:=(i.block x o).trans I.o;have U:H.cell? ⟨x,1,none⟩=some (.slice a acc.length c):=AA m 1;have u:b.length=A.length:=(by rw[g,aZ]);have E: (30:Int)<(acc.length:Int)+A.length:=(by have:=j.o;omega);have Q:A.length<=402:=aD;clear g u l))
 go_ret2;unfold GB;rw[M.o];exact⟨rfl,Kept.of_below i _,PsL.Ib J.o (Kept.of_below i (fun _=>False)) (fun _ _ _ e=>e) m (fun k x=> .inl x) (pO hx o)⟩
theorem pZ(F:Nat->Prop)(H w:World)(x:Nat)(lim:Int)(q:Value)(cls:List Cl)(s:ByteArray)(D:Hid (∃lim vC q,PsB H x lim vC q))(Y:Hid (w=H.setCell ⟨x,2,none⟩ (.pointer none)))(h:PsL F w x lim q cls)(W:s.size<=maxLen)(b:List Cl)(B:CR s= .ok b)(K:¬30<cls.length+b.length)(n:b.length=0):Calls prog 16 #[.pointer (some ⟨x,0,none⟩),.string s] H fun r w'=>GB F w x lim q cls s r w':=by
 obtain⟨⟨vC,u,v⟩,hx⟩:=h;obtain⟨acc,t,d,T⟩:=v.ex;have f:cls.length=acc.length:=by rw[d,aZ]
 obtain⟨a,c,M⟩:=CJ t.row;rw[aZ] at M;subst M;have A:b=[]:=List.eq_nil_of_length_eq_zero n;subst A;have I:=aO f;have R:=aO B;have Q:=aO v;have O:=aO t;have P:=aO u;have o:=AD u;have V:Hid (G8 cls s=((0,0),cls)):=by unfold Hid G8;rw[B];simp only[];rw[bC K,List.append_nil]
 have X: (acc.length:Int)<=30:=aD;clear B v u t d f n K;go_enter func16,ntmps16
 go_wp2_with (first
  |(go_at_call 19;refine(JA x _ D.o).mono ?_;rintro r Z ⟨rfl,C⟩;rw[<-Y.o] at C;subst Z)
  |(go_at_call 31;refine(LX s _ W).mono ?_;rintro r l ⟨j,J⟩;rw[R.o] at J;obtain⟨v1,N,rfl,m,g⟩:=J;have E:N=[]:=(by cases N with|nil=>rfl|cons y ys=>simp at g);subst E;have G:=m.none rfl;subst G;have i:PsB l x _ _ _:=(j.block x o).trans P.o;have q1:l.cell? ⟨x,1,none⟩=some (.slice a acc.length c):=AA i 1;have qf:=AE i;have S:=O.o.row.below j;clear g m)
  |(at_builtin;refine ZF Tryz.Et IN _ rfl (.tmp 36) (.tmp 37) rfl 0 (.slice a acc.length c) (acc.map (·.1)) rfl S rfl ?_))
 go_ret2;have z:Kept (fun k=>k=x) l (l.setCell ⟨x,1,none⟩ (.slice a acc.length c)):=(Kept.refl (fun k=>k=x) l).setCell (p:=⟨x,1,none⟩) (.inr rfl) _;have L:Kept (fun k=>k=x) w (l.setCell ⟨x,1,none⟩ (.slice a acc.length c)):=(Kept.of_below j (fun k=>k=x)).trans z (fun _ _ e=>e);unfold GB;rw[V.o];exact⟨rfl,L.mono (fun _ _ e=> .inl e),PsL.Ib Q.o L (fun k _ U e=>hx (e ▸ U)) (AK i 1 _) (fun k x=> .inl x) (pO hx o)⟩
theorem qI(F:Nat->Prop)(Z w:World)(x:Nat)(lim:Int)(M:Value)(cls:List Cl)(s:ByteArray)(Y:Hid (∃lim vC M,PsB Z x lim vC M))(hw:Hid (w=Z.setCell ⟨x,2,none⟩ (.pointer none)))(h:PsL F w x lim M cls)(hm:s.size<=maxLen)(b:List Cl)(W:CR s= .ok b)(hf:¬30<cls.length+b.length)(g:∀x∈b,g8 x/\MF x)(G:1<=b.length):Calls prog 16 #[.pointer (some ⟨x,0,none⟩),.string s] Z fun r w'=>GB F w x lim M cls s r w':=by
 obtain⟨⟨vC,T,U⟩,hx⟩:=h;obtain⟨acc,B,f,a3⟩:=U.ex;have o:cls.length=acc.length:=by rw[f,aZ]
 obtain⟨a,c,hv⟩:=CJ B.row;rw[aZ] at hv;subst hv;have A:=aO o;have Px:=aO f;have HR:=aO W;have HC:=aO U;have L:=aO B;have HB:=aO T;have q:=aO g;have Q:=aO G;have v:=AD T;have hS:Hid (G8 cls s=((0,0),cls++b)):=by unfold Hid G8;rw[W];simp only[];rw[bC hf]
 have J:Hid (∀k,(Value.slice a acc.length c).ownBlock=some k->k≠x/\k<w.heap.size):=fun k e=>⟨fun e2=>hx (e2 ▸ B.uy k e),(B.row.lt k e).2⟩
 have a2:cls.length+b.length<=30:=aD;clear W U T B f o G hf g;go_enter func16,ntmps16
 go_wp2_with (first
  |(go_at_call 19;refine(JA x _ Y.o).mono ?_;rintro r w0 ⟨rfl,X⟩;rw[<-hw.o] at X;subst w0)
  |(go_at_call 31;refine(LX s _ hm).mono ?_;rintro r N ⟨m,hP⟩;rw[HR.o] at hP;obtain⟨v1,n,rfl,j,i⟩:=hP;obtain⟨a1,c1,I⟩:=CJ j.row;rw[aZ] at I;subst I;have l:PsB N x _ _ _:=(m.block x v).trans HB.o;have q1:N.cell? ⟨x,1,none⟩=some (.slice a acc.length c):=AA l 1;have Pv:=aO i;have V:b.length=n.length:=(by rw[i,aZ]);have a6:acc.length+n.length<=30:=(by have:=A.o;omega);have a0: (acc.length:Int)+n.length<=30:=aD;have t:1<=n.length:=(by have:=Q.o;omega);obtain⟨S,rfl⟩:∃S,a1=some ⟨S,0,none⟩:=(by rcases j.row.shape with⟨_,H⟩|⟨gv,cv,e,_⟩;have h7:=congrArg List.length H;rw[aZ,dA] at h7;omega;injection e with e1 _ _;exact⟨gv,e1⟩);have Ox:=L.o.row.below m;have C:=j.row;clear i V)
  |(at_builtin;refine QF Tryz.Et IN LV T8 _ rfl (.tmp 36) (.tmp 37) rfl 0 (.slice a acc.length c) (acc.map (·.1)) rfl Ox ⟨S,0,none⟩ _ (n.map (·.1)) (by simpa using t) (by rw[aZ];rfl) (C.own.cells rfl) aJ (bK _) ?_;intro z d O u Dn Fg;have P:PsB O x _ _ _:=(Dn.block x (AD l) (fun e=>(J.o x e.symm).1 rfl)).trans l;have a7:O.cell? ⟨x,1,none⟩=some (.slice a acc.length c):=AA P 1;have a8:=AE P))
 go_ret2;have E:Kept (fun k=>k=x\/(Value.slice a acc.length c).ownBlock=some k) N (O.setCell ⟨x,1,none⟩ (.slice (some ⟨z,0,none⟩) (acc.length+n.length) d)):=((Kept.refl _ N).grown Dn (fun k e=> .inr (.inr e))).setCell (p:=⟨x,1,none⟩) (.inr (.inl rfl)) _;have hk:Kept (fun k=>k=x\/(Value.slice a acc.length c).ownBlock=some k) w (O.setCell ⟨x,1,none⟩ (.slice (some ⟨z,0,none⟩) (acc.length+n.length) d)):=(Kept.of_below m _).trans E (fun _ _ e=>e)
 have D:z≠x:=by
  rcases Fg with e|⟨k,e,a5⟩
  ·exact(J.o z e.symm).1
  ·have:=bF e;have:=AD l;omega
 unfold GB;rw[hS.o];refine⟨rfl,hk.mono (fun k _ e=>e.imp id (fun e=>⟨L.o.uy k e,L.o.row.typed k e⟩)),⟨_,AK P 1 _,⟨acc++n,uZ L.o j hk E m.size hx v ?_ (fun k e=>?_) (fun e=>?_),?_,?_⟩,fun y K=>?_⟩,pO hx v⟩
 ·have h9:=u.setCell ⟨x,1,none⟩ (.slice (some ⟨z,0,none⟩) (acc.length+n.length) d) (fun e=>D (bF e));simpa using h9
 ·rcases Fg with R|⟨k3,R,a4⟩
  ·exact .inl (by rw[<-R];exact e)
  ·right
   have h5:z=k:=bF e;have:=bF R;omega
 ·simp at e;rw[e.2] at t;simp at t
 ·show cls++b=_;rw[bE,Px.o,Pv.o]
 ·simp;omega
 ·rcases bO.1 K with K|K
  ·exact HC.o.good y K
  ·exact q.o y K
theorem qZ(F:Nat->Prop)(w:World)(x:Nat)(lim:Int)(n:Value)(cls:List Cl)(s:ByteArray)(h:PsL F w x lim n cls)(m:s.size<=maxLen)(d:∀a,CR s= .ok a->a.length<=402/\∀x∈a,g8 x/\MF x):Calls prog 16 #[.pointer (some ⟨x,0,none⟩),.string s] w fun r w'=>GB F w x lim (.pointer none) cls s r w':=by
 obtain⟨⟨vC,u,C⟩,hx⟩:=h;have f:Kept (fun k=>k=x) w (w.setCell ⟨x,2,none⟩ (.pointer none)):=Kept.setCell (p:=⟨x,2,none⟩) (Kept.refl (fun k=>k=x) w) (Or.inr rfl) _;have j:PsL F (w.setCell ⟨x,2,none⟩ (.pointer none)) x lim (.pointer none) cls:=PsL.Ib C f (fun k _ l e=>hx (e ▸ l)) (AK u 2 _) (fun _ e=>e) hx;have i: (w.setCell ⟨x,2,none⟩ (.pointer none)).heap.size=w.heap.size:=by simp[World.setCell]
 have b:Hid (∃lim vC n,PsB w x lim vC n):=⟨lim,vC,n,u⟩
 have c:∀(r:Ending) (w':World),GB F (w.setCell ⟨x,2,none⟩ (.pointer none)) x lim (.pointer none) cls s r w'->GB F w x lim (.pointer none) cls s r w':=by
  intro r w' ⟨A,B,t⟩;rw[i] at t;refine⟨A,(f.mono (fun _ _ e=> .inl e)).trans (B.mono (fun k v e=>?_)) (fun _ _ e=>e),t⟩;rcases e with e|⟨l,cs,D⟩
  ·exact .inl e
  ·have q:k≠x:=fun e=>hx (e ▸ l);rw[i] at v;exact .inr ⟨l,cs,(f.block k v q).symm.trans D⟩
 cases g:CR s with
 |error y=>exact(kY F w _ x lim _ cls s b rfl j m y.1 y.2 g).mono c
 |ok a=>
  obtain⟨z,E⟩:=d a g;by_cases o:30<cls.length+a.length
  ·exact(gP F w _ x lim _ cls s b rfl j m a g o z).mono c
  ·by_cases G:a.length=0
   ·exact(pZ F w _ x lim _ cls s b rfl j m a g o G).mono c
   ·exact(qI F w _ x lim _ cls s b rfl j m a g o E aD).mono c
theorem wO(s:ByteArray):∀a,CR s= .ok a->a.length<=402/\∀x∈a,g8 x/\MF x:=by
 intro a h;obtain⟨d,e⟩:=SM h;refine⟨d,fun x hx=>⟨?_,s8 h x hx⟩⟩;have b:=e x hx;exact⟨b.1,by have:=b.2.1;omega,fun q c=>⟨(b.2.2 q c).1,by have:=(b.2.2 q c).2;omega⟩⟩
end Go.Proofs.Q
