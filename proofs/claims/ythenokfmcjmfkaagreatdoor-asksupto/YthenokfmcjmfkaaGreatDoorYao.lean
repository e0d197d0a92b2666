import Derived.Test.YthenokfmcjmfkaaGreatDoorYan
set_option maxRecDepth 100000
set_option maxHeartbeats 2000000
namespace Go.Proofs.Q
open Rf _root_.Go.Proofs.Tryz
open Go.RowKit
variable {nm : Value}
theorem U3{w d f:World}{q:Nat}{c b:Option Nat}(h:Kept (May q c) w d)(g:Nb w c b)(k:Kept (May q b) d f):Kept (May q c) w f:=
 h.trans k (fun i l a=>by
  rcases a with rfl|a
  ·exact .inl rfl
  ·rcases g with e|⟨j,e,m⟩
   ·exact .inr (by rw[<-e];exact a)
   ·rw[e] at a;injection a with a;omega)
theorem lE{w d:World}{c b a:Option Nat}(h:Nb w c b)(k:Nb d b a)(e:w.heap.size<=d.heap.size):Nb w c a:=Nb.trans h k e
structure aDl(w:World)(cls:List Cl)(n q:Nat)(rb:Option Nat)(aW:List ByteArray)(t:Nat)(r:Int×Cf)(wr:World):Prop where
 ex:∃rb',QAt nm wr q rb' aW r.2/\Nb w rb rb'
 kept:Kept (May q rb) w wr
 kep:Kep cls n t r
theorem fW(w:World)(q:Nat)(rb:Option Nat)(aW:List ByteArray)(cf:Cf)(vc:Value)(cls:List Cl)(lim n:Nat)(o:Int)(h:QAt nm w q rb aW cf)(hC:ji w vc cls)(hK:Kep cls n 0 (o,cf))(hcg:uw cls)(hck:Az cls)(Cc:cls.length<=30)(hlim:lim<=1000):Calls prog 56 #[.pointer (some ⟨q,0,none⟩),vc,.int .i64 (lim:Nat),.int .i64 o] w fun r w'=>r= .returned (.int .i64 (CG cls lim (o,cf)).1)/\(∃rb',QAt nm w' q rb' aW (CG cls lim (o,cf)).2/\Nb w rb rb')/\Kept (May q rb) w w':=by
 have HF:Hid (Free w (May q rb)):=by obtain⟨_,_,_,_,hQ⟩:=h.ex;exact hQ.free
 have HC:=aO hC;have HQ:=aO h;have HK:=aO hK;have HCG:=aO hcg;have HCK:=aO hck;obtain⟨cla,clc,rfl⟩:=hC.slice;clear h hC hK hcg hck;obtain⟨R,hR⟩:∃R,Hid (CG cls lim (o,cf)=R):=⟨_,rfl⟩
 rw[hR.o];go_enter func56,ntmps56;go_wp2_with fail;go_loopg [3,9] (lim+1) (fun m ov tv wr=>∃(t:Nat) (r:Int×Cf),t<=lim/\m=lim+1-t/\tv= .int .i64 (t:Nat)/\ov= .int .i64 r.1/\aDl w cls n q rb aW t r wr/\Hid (CG cls (lim-t) r=R))
 case atStart=>exact⟨0,(o,cf),bK _,rfl,rfl,rfl,⟨⟨rb,HQ.o,.inl rfl⟩,Kept.refl _ _,HK.o⟩,by unfold Hid;exact hR.o⟩
 case round=>
  obtain⟨t,r,ht,rfl,rfl,rfl,hP,hres⟩:=hrel;obtain⟨wo,rfl⟩:∃wo:World,wo=wr:=⟨_,rfl⟩
  have hset:=O0 cls (lim-t) r;rw[hres.o] at hset;have Jy:=aO hset;have HP:=aO hP;clear hset hP hres;go_wp2_with fail;go_loopg [3] (IF r.2.chs+1) (fun m ov wi=>∃(r':Int×Cf),ov= .int .i64 r'.1/\(r'.1=-1->IF r'.2.chs+1<=m)/\aDl w cls n q rb aW t r' wi/\Hid (BI cls r=BI cls r'))
  case atStart=>exact⟨r,rfl,fun _=>aX _,HP.o,rfl⟩
  case round=>
   obtain⟨r',rfl,hm,hP,hs⟩:=hrel;obtain⟨o1,cf1⟩:=r';simp only at hm;have hg1:=hP.kep.cf;obtain⟨⟨rb1,hQ1,hN1⟩,hk1,Gv⟩:=hP;simp only at hQ1 hg1;have hz1:=hk1.size;have HQ1:=aO hQ1;have HN1:=aO hN1;have HKep:=aO Gv;have Hg1:=aO hg1;have HC1:=aO (HC.o.kept hk1 HF.o);clear hQ1 hN1 Gv hg1;by_cases h1:o1=-1
   ·subst h1;have hm:=hm rfl;obtain⟨m',rfl⟩:∃m',gk=m'+1:=⟨gk-1,aD⟩
    have Hs2:Hid (BI cls r=BI cls (B6 cls cf1)):=by unfold Hid;rw[hs.o,mY]
    have Hle:Hid ((B6 cls cf1).1=-1->IF (B6 cls cf1).2.chs+1<=m'):=fun e=>by
     by_cases hc:cf1.chs=[]
     ·rw[NY hc] at e;simp at e
     ·have:=NP (cs:=cls) hc;omega
    clear hs;go_wp2_with (go_at_call 85;refine(p7 _ q rb1 aW cf1 (.slice cla cls.length clc) cls 1000 406400 t HQ1.o HC1.o Hg1.o aD aD HCG.o).mono ?_;rintro rr w2 ⟨rfl,⟨rb2,hQ2,hN2⟩,hk2⟩);go_roundg m'
    case measure=>omega
    case rel=>exact⟨B6 cls cf1,rfl,Hle.o,⟨⟨rb2,hQ2,lE HN1.o hN2 hz1⟩,U3 hk1 HN1.o hk2,O7 HCG.o HCK.o HKep.o⟩,Hs2⟩
   ·have h1': (o1== -1)=false:=aY.2 h1;have hsr:BI cls r=(o1,cf1):=by rw[hs.o];exact sC h1
    have Hs3:=Jy;rw[hsr] at Hs3;clear hs hm hsr Jy;by_cases h0:o1=0
    ·subst h0
     have Hs4 : Hid (R = if cf1.now.aV = [] then (1, cf1) else match lim - t with
      |0=>(5,cf1)
      |m+1=>CG cls m (DF cls cf1)):=by unfold Hid;rw[Hs3.o];rfl
     clear Hs3;obtain⟨vg,vt,fr,vC,hqi⟩:=HQ1.o.ex;obtain⟨m0,m1,m2,m3,m4,mf,ml⟩:=hqi.b.facts;obtain⟨ga,gc,rfl⟩:=hqi.s.g.slice;clear hqi;by_cases hg:cf1.now.aV=[]
     ·have HR0:Hid (R=(1,cf1)):=by unfold Hid;rw[Hs4.o,bD hg]
      have hgl:cf1.now.aV.length=0:=by rw[hg];rfl
      rw[hgl] at m1;clear Hs4 hg hgl;go_wp2_with fail;go_ret;rw[HR0.o];exact⟨rfl,⟨rb1,HQ1.o,HN1.o⟩,hk1⟩
     ·have hgl:1<=cf1.now.aV.length:=by
       cases hgc:cf1.now.aV with
       |nil=>exact absurd hgc hg
       |cons=>simp
      by_cases htl:t<lim
      ·obtain⟨d,hd⟩:∃d,lim-t=d+1:=⟨lim-t-1,aD⟩
       have HR0:Hid (CG cls (lim-(t+1)) (DF cls cf1)=R):=by unfold Hid;rw[Hs4.o,bC hg,hd,show lim-(t+1)=d by omega]
       have Hgne:=aO hg;have htl':¬((lim:Int)<=t):=aD;have hglz: ((cf1.now.aV.length:Int)==0)=false:=by rw[aY];omega
       clear Hs4 hg;go_wp2_with (go_at_call 86;refine(yJ _ q rb1 aW cf1 (.slice cla cls.length clc) cls (1000+7*(t+1)) (406400+16*(t+1)) HQ1.o HC1.o Hg1.o.now aD aD Hgne.o HCG.o Hg1.o.len Cc).mono ?_;rintro rr w2 ⟨rfl,⟨rb2,hQ2,hN2⟩,hk2⟩);go_roundg (lim+1-(t+1))
       case measure=>omega
       case rel=>exact⟨t+1,DF cls cf1,aD,rfl,by go_num,rfl,⟨⟨rb2,hQ2,lE HN1.o hN2 hz1⟩,U3 hk1 HN1.o hk2,RE HCG.o HCK.o HKep.o Hgne.o⟩,HR0⟩
      ·have hd:lim-t=0:=aD;have HR0:Hid (R=(5,cf1)):=by unfold Hid;rw[Hs4.o,bC hg,hd]
       have htl': (lim:Int)<=t:=aD;have hglz: ((cf1.now.aV.length:Int)==0)=false:=by rw[aY];omega
       clear Hs4 hg;go_wp2_with fail;go_ret;rw[HR0.o];exact⟨rfl,⟨rb1,HQ1.o,HN1.o⟩,hk1⟩
    ·have h0': (o1 !=0)=true:=bne_iff_ne.2 h0;have HR0:Hid (R=(o1,cf1)):=by unfold Hid;rw[Hs3.o,bD h0]
     clear Hs3;go_wp2_with fail;go_ret;rw[HR0.o];exact⟨rfl,⟨rb1,HQ1.o,HN1.o⟩,hk1⟩
theorem gM(b:Bool)(w:World)(a:Option Addr)(n c:Nat)(ps:List AB)(h:Seen w 129 AH (.slice a n c) ps)(hg:∀x∈ps,yu b x)(h4:∀x∈ps,0<=x.args/\x.args<=4)(hl:ps.length<=100000)(hT:Tab w):Calls prog 89 #[.slice a n c,.bool b] w fun r w'=>r= .returned (.string (NJ b ps))/\Below w.heap.size w w':=by
 have hn:n=ps.length:=h.len;subst hn;have HH:=aO h;have Hg:=aO hg;have H4:=aO h4;have HT:=aO hT;have c8:=TE b ps hg;clear h hg h4 hT;go_enter func89,ntmps89;go_wp2_with fail;go_loopg [5,6,12] (ps.length+1) (fun m sv ov iv wr=>∃k:Nat,k<=ps.length/\m=ps.length+1-k/\iv= .int .i64 k/\aDQ b w ps k sv ov wr)
 case atStart=>exact⟨0,aD,rfl,rfl,⟨#[]⟩,[],rfl,aj.nil _ _ _ _ _,bZ _ _,(fun x hx=>by simp at hx),aE,by unfold Hid NJ;rw[List.drop_zero,N7]⟩
 case round=>
  obtain⟨k,hk,rfl,rfl,s,st,rfl,q,z,W,X,i⟩:=hrel;obtain⟨a4,c4,Y⟩:=CJ q;rw[bX] at Y;subst Y;have H:=z.size
  have c7:s.size<=2400000:=by
   have g:=congrArg ByteArray.size i.o;rw[bI] at g;omega
  by_cases M:k<ps.length
  ·obtain⟨gv,ov,rfl⟩:=HH.o.pos aD;have b3:=HH.o.lt;have a7:gv<wr.heap.size:=aD;have D:ps[k]∈ps:=bG M;obtain⟨c0,c1,c2,c3⟩:=Seen.parts (HH.o.below z) k ps[k] (by simp[M]);have L:=Hg.o _ D;have a1:=H4.o _ D;have C:ps.drop k=ps[k]::ps.drop (k+1):=List.drop_eq_getElem_cons M;rw[C] at i;clear D C;generalize ps[k]=p at*;have c9:=ZT b p L;have R:=aO L;clear L;have b4: (k:Int)<ps.length:=aD;have a0:Hid (DT p.args.toNat=[.int .i64 p.args]):=by unfold Hid DT;rw[Int.toNat_of_nonneg a1.1]
   by_cases B:0<p.args
   ·have uz:Hid (s++IC b p++⟨#[40]⟩++IB b (ps.drop (k+1)) (p.args.toNat::st)=NJ b ps):=by
     have g:=i.o;rw[IB,bD B] at g;unfold Hid;rw[<-g];simp only[dE]
    go_wp2_with (first
     |(go_at_call 129;refine(dY b p _ R.o (Tab.below HT.o (z.alloc H _))).mono ?_;rintro r w1 ⟨rfl,l⟩;have a8:=l.size;have G:=(l.block wr.heap.size aE).trans (AJ _ _);have x3:w1.cell? ⟨wr.heap.size,3,none⟩=some (.int .i64 p.args):=AA G 3;have jg:Below w.heap.size w w1:=(z.alloc H _).trans (l.mono aJ);have Ob:=jg.size;have o:=(q.alloc (.cells #[.int .i64 p.kind,.string p.name,.int .i64 p.value,.int .i64 p.args] 129)).below l)
     |(at_builtin;refine AY Tryz.Df DT GC TG _ rfl (.tmp 26) (.tmp 29) rfl w.heap.size _ st.reverse rfl (o.alloc _) ⟨_,0,none⟩ 1 p.args.toNat rfl (fun j v hj=>BL _ _ rfl _ _ j v (by rw[<-a0.o];exact hj)) ?_ ?_ ?_;rw[bX];omega;(rw[cE];omega);intro gA gu w3 E dw jh;rw[bX] at E))
    go_roundg (ps.length -k)
    case measure=>omega
    case rel=>
     refine⟨k+1,aD,aD,by go_num,_,p.args.toNat::st,rfl,?_,?_,?_,aJ,uz⟩
     ·rw[List.reverse_cons];exact E
     ·exact(jg.alloc Ob _).grown dw (by rw[cE];omega) (fun j e=>(q.lt j e).1)
     ·intro x hx;rcases bP.1 hx with rfl|hx
      ·omega
      ·exact W x hx
   ·have uz:Hid ((s++IC b p)++((CI st).1++IB b (ps.drop (k+1)) (CI st).2)=NJ b ps):=by
     have g:=i.o;rw[IB,bC B] at g;unfold Hid;rw[<-g];simp only[dE]
    have N:p.args<=0:=aD;have a2:decide (0<p.args)=false:=by simpa using N
    obtain⟨wo,rfl⟩:∃wo:World,wo=wr:=⟨_,rfl⟩
    go_wp2_with (go_at_call 129;refine(dY b p _ R.o (Tab.below HT.o (z.alloc H _))).mono ?_;rintro r w1 ⟨rfl,l⟩;have a8:=l.size;have G:=(l.block wo.heap.size aE).trans (AJ _ _);have x3:w1.cell? ⟨wo.heap.size,3,none⟩=some (.int .i64 p.args):=AA G 3;have jg:Below w.heap.size w w1:=(z.alloc H _).trans (l.mono aJ);have Ob:=jg.size;have o:=(q.alloc (.cells #[.int .i64 p.kind,.string p.name,.int .i64 p.value,.int .i64 p.args] 129)).below l);have b1:=Ob;clear G x3 i;go_loopg [5,6] (st.length+1) (fun m sv ov wi=>∃(P:ByteArray) (t:List Nat),m=t.length+1/\sv= .string P/\aj wi w.heap.size 3 1 DT ov t.reverse/\Below w.heap.size w wi/\(∀x∈t,1<=x/\x<=4)/\t.length<=k/\Hid (P++((CI t).1++IB b (ps.drop (k+1)) (CI t).2)=NJ b ps))
    case atStart=>exact⟨_,st,rfl,rfl,o,jg,W,X,uz⟩
    case round=>
     obtain⟨P,t,rfl,rfl,d,I,A,Jh,Ig⟩:=hrel
     have b5:P.size<=2400000:=by
      have g:=congrArg ByteArray.size Ig.o;rw[bI] at g;omega
     clear o q uz
     cases t with
     |nil=>
      obtain⟨a5,c5,F⟩:=CJ d;rw[List.reverse_nil,dA] at F;subst F;go_wp2_with fail;go_roundg (ps.length -k)
      case measure=>omega
      case rel=>exact⟨k+1,aD,aD,by go_num,_,[],rfl,d,I,A,aE,by have g:=Ig.o;rw[CI,N7] at g;exact g⟩
     |cons x f=>
      rw[List.reverse_cons] at d;obtain⟨S,c5,F,_,c6,a3,b2⟩:=d.shape.resolve_left (fun e=>by have:=congrArg List.length e.2;simp at this);rw[bL,bX,bM,dA] at F a3;subst F;have a6:=d.cells GC f.length x aE 0 _ rfl;simp only[Nat.mul_one,dG] at a6;have b7:=ID d;have b6:=A x aE;have b0: (f.length:Int)<=100000:=by simp only[bM] at Jh;omega
      have a9: (f.length:Int)+1<=(c5:Int):=aD;have K:∀y∈f,1<=y/\y<=4:=fun y O=>A y (bA _ O)
      have J:∀y:Nat,(y:Int)=(x:Int)-1->aj (wr.setCell ⟨S,f.length,none⟩ (.int .i64 ((x:Int)-1))) w.heap.size 3 1 DT (.slice (some ⟨S,0,none⟩) (f.length+1) c5) (f.reverse++[y]):=by
       intro y O;have g:=mN (x':=y) (u:= .int .i64 ((x:Int)-1)) GC d (by unfold DT;rw[O]);rw[bX] at g;exact g
      have Jy:=aO J;have V:=(d.lt S rfl).1;have T:∀v,Below w.heap.size w (wr.setCell ⟨S,f.length,none⟩ v):=fun v=>I.setCell (p:=⟨S,f.length,none⟩) V v;have Q:=aO T;clear J T A;by_cases Z:1<x
      ·have Jk:Hid (P++⟨#[44]⟩++IB b (ps.drop (k+1)) ((x-1)::f)=NJ b ps):=by
        have g:=Ig.o;rw[CI,bD Z] at g;unfold Hid;rw[<-g,dE]
       have d0: (0:Int)<(x:Int)-1:=aD;go_wp2_with fail;go_roundg (ps.length -k)
       case measure=>omega
       case rel=>
        refine⟨k+1,aD,aD,by go_num,_,(x-1)::f,rfl,?_,Q.o _,?_,?_,Jk⟩
        ·rw[List.reverse_cons];exact Jy.o (x-1) aD
        ·intro y O;rcases bP.1 O with rfl|O
         ·omega
         ·exact K y O
        ·simp only[bM] at Jh⊢;omega
      ·obtain rfl:x=1:=aD
       have Jk:Hid ((P++⟨#[41]⟩)++((CI f).1++IB b (ps.drop (k+1)) (CI f).2)=NJ b ps):=by
        have g:=Ig.o;rw[CI,bC Z] at g;unfold Hid;rw[<-g];simp only[dE]
       go_wp2_with fail;go_roundg (f.length+1)
       case measure=>simp
       case rel=>
        refine⟨_,f,rfl,rfl,nM GC (Jy.o 0 aE),Q.o _,K,?_,Jk⟩;simp only[bM] at Jh;omega
  ·obtain rfl:k=ps.length:=aD
   have U:Hid (s=NJ b ps):=by
    have g:=i.o;rw[List.drop_length,IB,JP] at g;exact g
   go_wp2_with fail;go_ret;exact⟨E7 U.o,z⟩
theorem VS(w:World)(a:Option Addr)(n c:Nat)(ps:List AB)(h:Seen w 129 AH (.slice a n c) ps)(f:∀x∈ps,Y2 x)(d:∀x∈ps,0<=x.args/\x.args<=4)(k:ps.length<=100000)(e:Tab w):Calls prog 127 #[.slice a n c] w fun r w'=>r= .returned (.string (KM ps))/\Below w.heap.size w w':=by
 have H:=aO h;have j:=aO f;have g:=aO d;have i:=aO e;clear h f d e;go_enter func127,ntmps127;go_wp2_with (go_at_call 89;refine(gM false _ a n c ps H.o j.o g.o k i.o).mono ?_;rintro r l ⟨rfl,b⟩);go_ret;exact⟨rfl,b⟩
theorem ak.take{w:World}{g off n c:Nat}{ts:List (List AB)}(h:ak w (.slice (some ⟨g,off,none⟩) n c) ts)(k:Nat)(a:k<=ts.length):ak w (.slice (some ⟨g,off,none⟩) k c) (ts.take k):=by
 obtain⟨acc,b,d,rfl⟩:=h.ex;refine⟨acc.take k,?_,fun q e=>d q (List.mem_of_mem_take e),by rw[List.map_take]⟩;rw[List.map_take];exact b.take k (by rw[aZ] at a⊢;exact a)
theorem ak.drop1{w:World}{g off n c:Nat}{ts:List (List AB)}(h:ak w (.slice (some ⟨g,off,none⟩) n c) ts)(k:Nat)(e:c=k):ak w (.slice (some ⟨g,off,none⟩) (ts.length -k) 0) (ts.drop k):=by
 obtain⟨acc,b,d,rfl⟩:=h.ex;refine⟨acc.drop k,?_,fun q f=>d q (bV f),by rw[List.map_drop]⟩;have a:=b.dropEnd k e;rw[aZ] at a;rw[aZ,List.map_drop];exact a
theorem ak.drop2{w:World}{g off n c:Nat}{ts:List (List AB)}(h:ak w (.slice (some ⟨g,off,none⟩) n c) ts)(k:Nat)(b:k<=ts.length):ak w (.slice (some ⟨g,off+k,none⟩) (ts.length -k) (c-k)) (ts.drop k):=by
 obtain⟨acc,d,e,rfl⟩:=h.ex;refine⟨acc.drop k,?_,fun q f=>e q (bV f),by rw[List.map_drop]⟩;rw[aZ] at b;have a:=d.drop DZ k (by rw[aZ];exact b);rw[aZ,Nat.mul_one] at a;rw[aZ,List.map_drop];exact a
theorem X5(w:World)(vg vt:Value)(R:Int)(S:St)(N:Nat)(F:Int)(B:xq w vg vt R S)(i:Rf.StG N F S)(hN:N<=9000)(hF:F<=1000000)(z:S.aV≠[]):Calls prog 128 #[.agg #[vg,vt,.int .i64 R]] w fun r w'=>∃M n3 P O n4 Q,r= .returned (.agg #[.slice M n3 P,.slice O n4 Q,.int .i64 (CX S).aQ])/\xq w' (.slice M n3 P) (.slice O n4 Q) (CX S).aQ (CX S)/\Below w.heap.size w w':=by
 obtain⟨sa,sc,rfl⟩:=B.g.slice;obtain⟨ta,tc,rfl⟩:=B.t.slice;have a6:S.aV.length<=9000:=bN i.gl hN;have a9:=i.tl;have L:=aO B;have a0:=i.f1
 have H4:Hid (∀t∈S.aV++S.aS,t.length<=400):=fun t b=>by
  rcases bO.1 b with b|b
  ·exact(i.g t b).1
  ·exact(i.t t b).1
 have HV:Hid (∀t∈S.aV++S.aS,∀p∈t,p.kind=1->0<=p.value/\p.value<1000000):=fun t b p Y V=>by
  rcases bO.1 b with b|b
  ·have:=((i.g t b).2 p Y).2.1 V;omega
  ·have:=((i.t t b).2 p Y).2.1 V;omega
 have a5:1<=S.aV.length:=by
  cases H:S.aV with
  |nil=>exact absurd H z
  |cons=>simp
 have f:Hid ((AT [] (S.aV++S.aS)).1.length=S.aV.length+S.aS.length):=by unfold Hid;rw[(K4 (S.aV++S.aS) []).1,bL]
 have d:Hid (CX S=⟨(AT [] (S.aV++S.aS)).1.take S.aV.length,(AT [] (S.aV++S.aS)).1.drop S.aV.length,(AT [] (S.aV++S.aS)).2.length⟩):=rfl;clear B i z;obtain⟨D,x⟩:∃D,Hid (AT [] (S.aV++S.aS)=D):=⟨_,rfl⟩
 rw[x.o] at f d;obtain⟨m,rn⟩:=D;simp only at f d;go_enter func128,ntmps128
 go_wp2_with (first
  |(go_at_call 84;refine(P5 _ (.slice sa S.aV.length sc) (.slice ta S.aS.length tc) S.aV S.aS (L.o.g.below aM) (L.o.t.below aM) aD aD).mono ?_;rintro r w1 ⟨a1,n1,c1,rfl,E,g⟩)
  |(go_at_call 126;refine(S9 _ (.slice a1 n1 c1) (S.aV++S.aS) E (by rw[bL];omega) H4.o HV.o).mono ?_;rintro r w2 ⟨a2,n2,l,rfl,a,h⟩;rw[x.o] at a⊢;simp only at a;obtain⟨u,A,rfl,U,I,a7,J⟩:=a.pos (by intro e;have T:=f.o;rw[e] at T;simp at T;omega);subst I;have jg:Below w.heap.size w w1:=Below.trans (aM:Below w.heap.size w ((w.alloc _).alloc _)) (g.mono (by simp only[World.size_alloc];omega));have j:Below w.heap.size w w2:=jg.trans (h.mono jg.size);have K:=g.size;simp only[World.size_alloc] at K;have b0:=h.size;have C:=(h.block w.heap.size aD).trans ((g.block w.heap.size (by simp only[World.size_alloc];omega)).trans (AF (AJ w _) _));have s:=(h.block (w.heap.size+1) aD).trans ((g.block (w.heap.size+1) (by simp only[World.size_alloc];omega)).trans (AZ (w.alloc _) _ (w.heap.size+1) aE));have⟨s0,s1,s2⟩:=cJ C;have⟨u0,u1,u2⟩:=cJ s;have uf:=AE s;have ul:=AD s;have sl:=AD C;simp at s0 s1 s2 u0 u1 u2;have k:=aO a;have c:=aO s;clear C s a))
 have a8:=f.o;have y:S.aV.length<=m.length:=aD;have X:m.length<=l:=J;have Z:m.length -S.aV.length=S.aS.length:=aD;have q:=aO (k.o.take S.aV.length y);have n:Hid (l=S.aV.length->ak w2 (.slice (some ⟨u,A,none⟩) (m.length -S.aV.length) 0) (m.drop S.aV.length)):=fun e=>k.o.drop1 S.aV.length e;have o:=aO (k.o.drop2 S.aV.length y);have W:S.aV.length<=l:=aD;by_cases G:l=S.aV.length
 ·go_region
  all_goals
   go_wp2_with fail;refine bodyPost_ret (v:= .agg #[.slice (some ⟨u,A,none⟩) S.aV.length l,.slice (some ⟨u,A,none⟩) (m.length -S.aV.length) 0,.int .i64 (rn.length:Nat)]) (by simp[results,results128,go_sem, *]) rfl ?_;rw[d.o];refine⟨_,_,_,_,_,_,rfl,⟨?_,?_,rfl⟩,?_⟩
   ·exact(ak.Ii q.o c.o aF aF).below (bZ _ _).drew
   ·exact(ak.Ii (n.o G) c.o aF aF).below (bZ _ _).drew
   ·exact(((j.setCell (p:=⟨_,0,none⟩) aE _).setCell (p:=⟨_,1,none⟩) aE _).setCell (p:=⟨_,2,none⟩) aE _).drew
 ·go_region
  all_goals
   go_wp2_with fail;refine bodyPost_ret (v:= .agg #[.slice (some ⟨u,A,none⟩) S.aV.length l,.slice (some ⟨u,A+S.aV.length,none⟩) (m.length -S.aV.length) (l-S.aV.length),.int .i64 (rn.length:Nat)]) (by simp[results,results128,go_sem, *]) rfl ?_;rw[d.o];refine⟨_,_,_,_,_,_,rfl,⟨?_,?_,rfl⟩,?_⟩
   ·exact(ak.Ii q.o c.o aF aF).below (bZ _ _).drew
   ·exact(ak.Ii o.o c.o aF aF).below (bZ _ _).drew
   ·exact(((j.setCell (p:=⟨_,0,none⟩) aE _).setCell (p:=⟨_,1,none⟩) aE _).setCell (p:=⟨_,2,none⟩) aE _).drew
theorem NZ{ts:List (List AB)}{k:Nat}(h:k<ts.length):AO (ts.take (k+1))=AO (ts.take k)+ts[k].length:=by
 rw[bJ h,RP];simp[AO]
theorem aAS{ts:List (List AB)}(h:∀t∈ts,t.length<=400):AO ts<=ts.length*400:=by
 induction ts with
 |nil=>simp[AO]
 |cons t ts b=>
  have c:=b (fun u a=>h u (bA _ a));have d:=h t aE;rw[AO,bM];omega
theorem Y8(w:World)(O P:Value)(I:Int)(S:St)(N:Nat)(F:Int)(e:xq w O P I S)(l:Rf.StG N F S)(R:N<=9000):Calls prog 55 #[.agg #[O,P,.int .i64 I]] w fun r w'=>r= .returned (.int .i64 (KH S:Nat))/\Below w.heap.size w w':=by
 obtain⟨Z,sc,rfl⟩:=e.g.slice;obtain⟨ta,tc,rfl⟩:=e.t.slice;have U:S.aV.length<=9000:=bN l.gl R;have W:=l.tl;have H:=aO e
 have G:Hid (∀t∈S.aV++S.aS,t.length<=400):=fun t i=>by
  rcases bO.1 i with i|i
  ·exact(l.g t i).1
  ·exact(l.t t i).1
 have Q:Hid (KH S=AO (S.aV++S.aS)):=rfl;clear e l;go_enter func55,ntmps55;go_wp2_with (go_at_call 84;refine(P5 _ (.slice Z S.aV.length sc) (.slice ta S.aS.length tc) S.aV S.aS (H.o.g.below aM) (H.o.t.below aM) aD aD).mono ?_;rintro r E ⟨a1,Y,c1,rfl,m,A⟩;obtain⟨acc,x,J,q⟩:=m.ex;have B:Y=acc.length:=by { have j:=x.len;rw[aZ] at j;exact j };subst B;have M:Below w.heap.size w E:=Below.trans ((bZ _ w).alloc (aX _) _) (A.mono (by rw[cE];omega));have d:=aO x;have s:=aO J;have a:=aO q;clear m x J q);have T:acc.length=S.aV.length+S.aS.length:=by have j:=congrArg List.length a.o;rw[bL,aZ] at j;exact j.symm
 have o:∀k,AO ((acc.map (·.2)).take k)<=10000000:=fun k=>by
  have j:=aAS (ts:=(acc.map (·.2)).take k) (fun t i=>G.o t (by rw[a.o];exact List.mem_of_mem_take i));have h8: ((acc.map (·.2)).take k).length*400<=9016*400:=Nat.mul_le_mul_right _ (by rw[bW,aZ];omega);omega
 have v:=aO o;clear o;go_loopw [3,12] (fun sv D wr=>∃k:Nat,k<=acc.length/\D= .int .i64 (k:Nat)/\sv= .int .i64 (AO ((acc.map (·.2)).take k):Nat)/\Below E.heap.size E wr) (fun _ D _=>acc.length -(intOf D).toNat)
 case atStart=>exact⟨0,bK _,rfl,rfl,bZ _ _⟩
 case round=>
  obtain⟨k,hk,rfl,rfl,b⟩:=hrel;have V:=b.size;by_cases c:k<acc.length
  ·obtain⟨g,off,rfl⟩:=d.o.pos aJ;have K:=d.o.lt;have f:=Seen.yx (d.o.below b) k acc[k].1 (by simp[c]);have e:=s.o acc[k] (bG c);have p:=e.len;have C:acc[k].2.length<=400:=G.o _ (by rw[a.o];exact List.mem_map_of_mem (bG c))
   have h:Hid (AO ((acc.map (·.2)).take (k+1))=AO ((acc.map (·.2)).take k)+acc[k].2.length):=by
    unfold Hid;rw[NZ (by rw[aZ];exact c),List.getElem_map]
   clear e;generalize acc[k]=y at*;obtain⟨⟨qa,qn,qc⟩,qp⟩:=y;simp only at f p C h;subst p;have n:=v.o k;obtain⟨z,X⟩:∃z,Hid (AO ((acc.map (·.2)).take k)=z):=⟨_,rfl⟩
   rw[X.o] at h n⊢;have Ci:g<wr.heap.size:=aD;have L: (k:Int)<acc.length:=aD;go_wp2_with fail;go_roundw
   case rel=>exact⟨k+1,aD,by go_num,by rw[h.o];go_num,b⟩
   case measure=>simp[intOf];omega
  ·obtain rfl:k=acc.length:=aD
   have u:Hid (AO ((acc.map (·.2)).take acc.length)=KH S):=by
    unfold Hid;rw[Q.o,a.o,bR (by rw[aZ];exact aX _)]
   rw[u.o];go_wp2_with fail;go_ret;exact⟨rfl,M.trans (b.mono M.size)⟩
end Go.Proofs.Q
namespace Rf
def LN:Bool->List (ByteArray×List AB)->ByteArray
 |_,[]=>⟨#[]⟩
 |b,x::l=>(if b=true then⟨#[44,32]⟩ else⟨#[]⟩)++(MO x++LN true l)
theorem XH:∀l:List (ByteArray×List AB),LN true l=if l=[] then⟨#[]⟩ else⟨#[44,32]⟩++EY l
 |[]=>rfl
 |x::l=>by rw[LN,bD rfl,bC aE,EY,XH l]
theorem lZ(l:List (ByteArray×List AB)):LN false l=EY l:=by
 cases l with
 |nil=>rfl
 |cons x l=>rw[LN,bC aE,N7,EY,XH]
theorem XS(B:Nat):∀(l:List (ByteArray×List AB)),(∀x∈l,(MO x).size<=B)->(EY l).size<=l.length*(B+2)
 |[],_=>bK _
 |x::l,h=>by
  have b:=XS B l (fun y a=>h y (bA _ a));have c:=h x aE;rw[EY,bI,bM,Nat.add_mul];split
  ·have: (⟨#[]⟩:ByteArray).size=0:=rfl;omega
  ·rw[bI];have: (⟨#[44,32]⟩:ByteArray).size=2:=rfl;omega
end Rf
namespace Go.Proofs.Q
open Rf _root_.Go.Proofs.Tryz
open Go.RowKit
variable {nm : Value}
theorem Seen.Jd{w:World}{g off n c:Nat}{a:List ByteArray}(h:Seen w 9 A3 (.slice (some ⟨g,off,none⟩) n c) a)(k:Nat)(x:ByteArray)(hx:a[k]?=some x):w.cell? ⟨g,off+k,none⟩=some (.string x):=by
 have:=h.cells C7 k x hx 0 _ rfl;rw[Nat.mul_one,dG] at this;exact this
theorem uC(w:World)(q:Nat)(rb:Option Nat)(a:List ByteArray)(cf:Cf)(N:Nat)(F:Int)(h:QAt nm w q rb a cf)(G:Rf.StG N F cf.now)(hF:F<=1000000)(a8:cf.now.aS.length=a.length)(E:∀x∈a,x.size<=12)(hT:Tab w):Calls prog 87 #[.pointer (some ⟨q,0,none⟩)] w fun r w'=>r= .returned (.string (EB a cf.now.aS))/\Below w.heap.size w w':=by
 obtain⟨vg,vt,fr,vC,J⟩:=h.ex;obtain⟨k0,k1,k2,k3,k4,kf,kl⟩:=J.b.facts;obtain⟨na,nc,rfl⟩:=J.n.slice;obtain⟨ta,tc,rfl⟩:=J.s.t.slice;have HQ:=aO J;have HT:=aO hT;have HZ:=aO E;have b6:=G.tl;have c9:=G.f1;have H4:Hid (∀t∈cf.now.aS,t.length<=400):=fun t ht=>(G.t t ht).1;have HV:Hid (∀t∈cf.now.aS,∀p∈t,p.kind=1->0<=p.value/\p.value<1000000):=fun t ht p hp hk=>by have:=((G.t t ht).2 p hp).2.1 hk;omega
 by_cases B:a=[]
 ·have Y:Hid (EB a cf.now.aS=⟨#[121,101,115]⟩):=by unfold Hid EB;rw[bD B];rfl
  have hz:a.length=0:=by rw[B];rfl
  rw[hz] at k0;clear h J G hT E;go_enter func87,ntmps87;go_wp2_with fail;go_ret;exact⟨E7 Y.o.symm,bZ _ _⟩
 ·have Y:Hid (EB a cf.now.aS=EY (a.zip (AT [] cf.now.aS).1)):=by unfold Hid EB;rw[bC B]
  have hz:1<=a.length:=by
   cases C:a with
   |nil=>exact absurd C B
   |cons=>simp
  have d2: ((a.length:Int)==0)=false:=by rw[aY];omega
  obtain⟨ng,no,rfl⟩:=J.n.pos hz;have c5:=J.n.lt;have g:Hid ((AT [] cf.now.aS).1.length=a.length):=by unfold Hid;rw[(K4 cf.now.aS []).1,a8]
  have V:=(K4 cf.now.aS []).2;have U:=VY cf.now.aS [] (fun t ht=>(G.t t ht).1)
  have D:Hid (∀u∈(AT [] cf.now.aS).1,u.length<=400/\(∀p∈u,Y2 p)/\(∀p∈u,0<=p.args/\p.args<=4)):=fun u hu=>by
   obtain⟨i,hi⟩:=List.getElem?_of_mem hu;obtain⟨t,e1,e2,e3,_⟩:=V i u hi;have P:=G.t t (List.mem_of_getElem? e1);have c8:cf.now.aS.length*400<=16*400:=Nat.mul_le_mul_right _ b6;simp only[dA] at U;refine⟨by rw[e2];exact P.1,fun p hp=>?_,fun p hp=>?_⟩
   ·obtain⟨y,hy,hr⟩:=e3 p hp;have L:=hr.good (P.2 y hy);exact⟨fun k=>by have:=L.2.1 k;omega,L.2.2.1,L.2.2.2⟩
   ·obtain⟨y,hy,hr⟩:=e3 p hp;exact(hr.good (P.2 y hy)).1
  have c4:a.length<=16:=aD;clear h G hT E B V U a8;obtain⟨RR,a2⟩:∃RR,Hid (AT [] cf.now.aS=RR):=⟨_,rfl⟩
  rw[a2.o] at Y g D;obtain⟨c,rn⟩:=RR;simp only at Y g D
  have hJ: (EY (a.zip c)).size<=160000:=by
   have d:=XS 9615 (a.zip c) (fun x hx=>by
    obtain⟨h1,h2⟩:=List.of_mem_zip hx;have h3:=HZ.o _ h1;obtain⟨h4,h5,_⟩:=D.o _ h2;have h6:=TE false x.2 h5;have h7: (KM x.2).size<=24*x.2.length:=h6;unfold MO;rw[bI,bI];have: (⟨#[32,61,32]⟩:ByteArray).size=3:=rfl;omega)
   have h8: (a.zip c).length*(9615+2)<=16*(9615+2):=Nat.mul_le_mul_right _ (by rw[List.length_zip];have:=g.o;omega);omega
  go_enter func87,ntmps87;go_wp2_with (go_at_call 126;refine(S9 _ (.slice ta cf.now.aS.length tc) cf.now.aS HQ.o.s.t aD H4.o HV.o).mono ?_;rintro r w1 ⟨a1,n1,c1,rfl,n,a4⟩;rw[a2.o] at n⊢;simp only at n;obtain⟨g1,o1,rfl,c2,b5,_,_⟩:=n.pos (by intro e;have d:=g.o;rw[e] at d;simp at d;omega);subst b5;have b2:=aO n;clear n);obtain⟨acc,a3,a0,Q⟩:=b2.o.ex;have c7:acc.length=a.length:=by have d:=congrArg List.length Q;rw[aZ] at d;rw[<-d];exact g.o
  have a9:c.length=a.length:=g.o;have W:=aO a3;have b1:=aO a0;have b3:=aO Q;clear a3 a0 Q;rw[a9];have T:Hid ((⟨#[]⟩:ByteArray)++LN (decide (0<0)) ((a.zip c).drop 0)=EY (a.zip c)):=by unfold Hid;rw[List.drop_zero,N7,show decide (0<0)=false from rfl,lZ]
  go_loopw [5,25] (fun sv iv wr=>∃(k:Nat) (s:ByteArray),k<=a.length/\iv= .int .i64 (k:Nat)/\sv= .string s/\s.size<=160000/\Hid (s++LN (decide (0<k)) ((a.zip c).drop k)=EY (a.zip c))/\Below w1.heap.size w1 wr) (fun _ iv _=>a.length -(intOf iv).toNat)
  case atStart=>exact⟨0,⟨#[]⟩,bK _,rfl,rfl,bK _,T,bZ _ _⟩
  case round=>
   obtain⟨k,s,hk,rfl,rfl,d0,f,j⟩:=hrel;clear T;have b0:=j.size;have o:Below w.heap.size w wr:=a4.trans (j.mono a4.size);by_cases a6:k<a.length
   ·have b7:k<(a.zip c).length:=by rw[List.length_zip];omega
    have A:k<acc.length:=aD;have b4:=W.o.lt;have v:=Seen.yx (W.o.below j) k acc[k].1 (by simp[A]);have hS:=b1.o acc[k] (bG A)
    have M:c[k]'aD=acc[k].2:=by
     have d:=b3.o;have h8:c[k]?=(acc.map (·.2))[k]?:=by rw[d]
     rw[bU aD,List.getElem?_map,bU A] at h8;simpa using h8
    have m:=D.o (acc[k].2) (by rw[<-M];exact bG _)
    have z: (a.zip c).drop k=(a[k],acc[k].2)::(a.zip c).drop (k+1):=by
     rw[List.drop_eq_getElem_cons b7,List.getElem_zip,M]
    have C:=Seen.Jd (HQ.o.n.below o) k a[k] (by simp[a6]);have E:=HZ.o a[k] (bG a6);rw[z,LN] at f;generalize a[k]=S at*;generalize acc[k]=y at*;obtain⟨⟨qa,qn,qc⟩,l⟩:=y;simp only at v hS m f;have d1: (KM l).size<=9600:=by have d:=TE false l m.2.1;have h8: (KM l).size<=24*l.length:=d;have:=m.1;omega
    have HS:Hid (Seen wr 129 AH (.slice qa qn qc) l):=Seen.below hS j;have R:=aO m;have X:Hid (Tab wr):=Tab.below HT.o o;have I:=aO (HQ.o.below o);obtain⟨m0,m1,m2,m3,m4,mf,ml⟩:=I.o.b.facts;have c3: (k:Int)<a.length:=aD;have c0:g1<wr.heap.size:=aD;have H:ng<wr.heap.size:=by have:=o.size;omega
    have Z:Hid (MO (S,l)=S++⟨#[32,61,32]⟩++KM l):=rfl;clear hS m z M;by_cases h0:0<k
    ·have c6: (0:Int)<k:=aD
     have uz:Hid ((s++⟨#[44,32]⟩++(S++⟨#[32,61,32]⟩++KM l))++LN (decide (0<k+1)) ((a.zip c).drop (k+1))=EY (a.zip c)):=by
      unfold Hid;rw[<-f.o,bD (by simpa using h0),Z.o,show decide (0<k+1)=true by simp];simp only[dE]
     have O: (s++⟨#[44,32]⟩++(S++⟨#[32,61,32]⟩++KM l)).size<=160000:=by
      have d:=congrArg ByteArray.size uz.o;rw[bI] at d;omega
     go_wp2_with fail;go_region_with (go_at_call 127;refine(VS _ qa qn qc l (HS.o.below aM) R.o.2.1 R.o.2.2 (by have:=R.o.1;omega) (Tab.below X.o aM)).mono ?_;rintro r w2 ⟨rfl,K⟩;have b:Below wr.heap.size wr w2:=Below.trans (bZ _ wr).drew K;obtain⟨l0,l1,l2,l3,l4,lf,ll⟩:=(I.o.below b).b.facts;have a7:=(b.cell (p:=⟨ng,no+k,none⟩) H).trans C;have Ea:ng<w2.heap.size:=by have:=b.size;omega)
     all_goals
      go_wp2_with fail;go_roundw
      case rel=>exact⟨k+1,_,aD,by go_num,rfl,O,uz,j.trans (b.mono b0)⟩
      case measure=>simp[intOf];omega
    ·obtain rfl:k=0:=aD
     have uz:Hid ((s++(S++⟨#[32,61,32]⟩++KM l))++LN (decide (0<0+1)) ((a.zip c).drop (0+1))=EY (a.zip c)):=by
      unfold Hid;rw[<-f.o,bC aE,Z.o,show decide (0<0+1)=true by simp,N7];simp only[dE]
     have O: (s++(S++⟨#[32,61,32]⟩++KM l)).size<=160000:=by
      have d:=congrArg ByteArray.size uz.o;rw[bI] at d;omega
     simp only[dG] at v C;go_wp2_with fail;go_region_with (go_at_call 127;refine(VS _ qa qn qc l (HS.o.below aM) R.o.2.1 R.o.2.2 (by have:=R.o.1;omega) (Tab.below X.o aM)).mono ?_;rintro r w2 ⟨rfl,K⟩;have b:Below wr.heap.size wr w2:=Below.trans (bZ _ wr).drew K;obtain⟨l0,l1,l2,l3,l4,lf,ll⟩:=(I.o.below b).b.facts;have a7:=(b.cell (p:=⟨ng,no,none⟩) H).trans C;have Ea:ng<w2.heap.size:=by have:=b.size;omega)
     all_goals
      go_wp2_with fail;go_roundw
      case rel=>exact⟨0+1,_,aD,by go_num,rfl,O,uz,j.trans (b.mono b0)⟩
      case measure=>simp[intOf];omega
   ·obtain rfl:k=a.length:=aD
    have a5:Hid (s=EY (a.zip c)):=by
     unfold Hid;have d:=f.o;rw[List.drop_of_length_le (by rw[List.length_zip];omega),LN,JP] at d;exact d
    go_wp2_with fail;go_ret;exact⟨E7 (by rw[Y.o,a5.o]),o⟩
end Go.Proofs.Q
namespace Go
open Go.RowKit
theorem iB{α:Type}{size:Nat}{C:α->List Value}(a:∀x,(C x).length=size){x x':α}{j:Nat}{u:Value}(c:j<size)(hx:C x'=(C x).set j u):∀(b:List α) (i:Nat),b[i]?=some x->(b.flatMap C).set (i*size+j) u=(b.set i x').flatMap C
 |[],i,h=>by simp at h
 |y::ys,0,h=>by
  simp at h;subst h;rw[List.flatMap_cons,dC,List.flatMap_cons,hx,Nat.zero_mul,Nat.zero_add,List.set_append_left _ _ (by rw[a];exact c)]
 |y::ys,i+1,h=>by
  have d:=iB a c hx ys i (by simpa using h);rw[List.flatMap_cons,dD,List.flatMap_cons,List.set_append_right _ _ (by rw[a,Nat.add_mul];omega),a];rw[show(i+1)*size+j-size=i*size+j by rw[Nat.add_mul];omega,d]
theorem UA{α:Type}{w:World}{base:Nat}{e:TypeId}{size:Nat}{C:α->List Value}(l:∀x,(C x).length=size){g n a:Nat}{d:List α}{x x':α}{j i:Nat}{u:Value}(h:aj w base e size C (.slice (some ⟨g,0,none⟩) n a) d)(z:d[i]?=some x)(A:j<size)(hx:C x'=(C x).set j u):aj (w.setCell ⟨g,i*size+j,none⟩ u) base e size C (.slice (some ⟨g,0,none⟩) n a) (d.set i x'):=by
 rcases h.own.2 with⟨k,_⟩|⟨p,c,f,k,q,r,s,t,v,y⟩
 ·cases k
 ·obtain⟨rfl,B,rfl⟩:g=p/\n=d.length/\a=c:=by injection k with b m o;injection b with b;injection b with b;exact⟨b,m,o⟩
  subst B;refine⟨by rw[GZ C l],.inr ⟨g,a,f.setIfInBounds (i*size+j) u,by rw[List.length_set],q,?_,by rw[List.length_set];exact s,t,by simpa using v,?_⟩⟩
  ·simp[World.setCell,Array.getElem?_modify,r]
  ·rw[Array.toList_setIfInBounds,List.take_set,List.length_set,y];exact iB l A hx d i z
end Go
namespace Rf
def OV(m:List Ch)(i:Nat):List Ch:=(m.take i).map I1++m.drop i
theorem uP(m:List Ch):OV m 0=m:=by unfold OV;simp
theorem aA9(m:List Ch):OV m m.length=m.map I1:=by unfold OV;simp
theorem aCc(m:List Ch)(i:Nat)(c:Ch)(h:m[i]?=some c): (OV m i)[i]?=some c:=by
 have a:=(bS.1 h).1;unfold OV;rw[List.getElem?_append_right aJ,aZ,bW,show i-min i m.length=0 by omega,List.getElem?_drop,dG];exact h
theorem s5(m:List Ch)(i:Nat)(c:Ch)(h:m[i]?=some c): (OV m i).set i (I1 c)=OV m (i+1):=by
 have d:=(bS.1 h)
 obtain⟨a,b⟩:=d;unfold OV;rw[List.set_append_right _ _ aJ,aZ,bW,show i-min i m.length=0 by omega,List.drop_eq_getElem_cons a,dC,bJ a,bE,List.append_assoc,b];rfl
end Rf
namespace Go.Proofs.Q
open Rf _root_.Go.Proofs.Tryz
open Go.RowKit
variable {nm : Value}
theorem Free.g{w:World}{g:Nat}{cs:Array Value}(h:w.heap[g]?=some (.cells cs 133 (0,0))):Free w (fun k=>k=g):=by
 have a:∀t:TypeId,t≠133->∀k b,w.heap[k]?=some (.cells b t (0,0))->¬k=g:=by
  intro t i k b c e;subst e;rw[h] at c;injection c with d;injection d with _ f;exact i f.symm
 exact⟨a _ aF,a _ aF,a _ aF,a _ aF,a _ aF⟩
theorem sT{w:World}{q g A z i:Nat}{acc:List (ChV×Ch)}{x:ChV}{c:Ch}{J K L:Value}{G:Int}{a f:Option Addr}{d b l j:Nat}{fr':Int}(n:aj w 0 133 4 E6 (.slice (some ⟨g,0,none⟩) A z) (acc.map (·.1)))(m:∀y∈acc,Ai w y.1 y.2)(o:acc[i]?=some (x,c))(N:xq w (.slice a d b) (.slice f l j) fr' (CX c.st))(t:QB w q J K L G (.slice (some ⟨g,0,none⟩) A z))(E:¬g=q):∃h:List (ChV×Ch),aj (((w.setCell ⟨g,i*4,none⟩ (.slice a d b)).setCell ⟨g,i*4+1,none⟩ (.slice f l j)).setCell ⟨g,i*4+2,none⟩ (.int .i64 fr')) 0 133 4 E6 (.slice (some ⟨g,0,none⟩) A z) (h.map (·.1))/\(∀y∈h,Ai (((w.setCell ⟨g,i*4,none⟩ (.slice a d b)).setCell ⟨g,i*4+1,none⟩ (.slice f l j)).setCell ⟨g,i*4+2,none⟩ (.int .i64 fr')) y.1 y.2)/\h.map (·.2)=(acc.map (·.2)).set i (I1 c)/\QB (((w.setCell ⟨g,i*4,none⟩ (.slice a d b)).setCell ⟨g,i*4+1,none⟩ (.slice f l j)).setCell ⟨g,i*4+2,none⟩ (.int .i64 fr')) q J K L G (.slice (some ⟨g,0,none⟩) A z)/\Kept (fun k=>k=g) w (((w.setCell ⟨g,i*4,none⟩ (.slice a d b)).setCell ⟨g,i*4+1,none⟩ (.slice f l j)).setCell ⟨g,i*4+2,none⟩ (.int .i64 fr')):=by
 obtain⟨M,C⟩:=n.typed g rfl;have B:=Free.g C;have s:Kept (fun k=>k=g) w (((w.setCell ⟨g,i*4,none⟩ (.slice a d b)).setCell ⟨g,i*4+1,none⟩ (.slice f l j)).setCell ⟨g,i*4+2,none⟩ (.int .i64 fr')):=(((Kept.refl (fun k=>k=g) w).setCell (p:=⟨g,_,none⟩) (.inr rfl) _).setCell (p:=⟨g,_,none⟩) (.inr rfl) _).setCell (p:=⟨g,_,none⟩) (.inr rfl) _;have v: (acc.map (·.1))[i]?=some x:=by rw[List.getElem?_map,o];rfl
 have r:i<(acc.map (·.1)).length:=(bS.1 v).1;have H:=UA (x':=⟨⟨a,d,b⟩,x.t,x.f,x.c⟩) (u:= .slice a d b) DM n v (show 0<4 by omega) rfl;rw[dG] at H;have O:=UA (x:=⟨⟨a,d,b⟩,x.t,x.f,x.c⟩) (x':=⟨⟨a,d,b⟩,⟨f,l,j⟩,x.f,x.c⟩) (u:= .slice f l j) DM H (List.getElem?_set_self r) (show 1<4 by omega) rfl;have I:=UA (x:=⟨⟨a,d,b⟩,⟨f,l,j⟩,x.f,x.c⟩) (x':=⟨⟨a,d,b⟩,⟨f,l,j⟩,fr',x.c⟩) (u:= .int .i64 fr') DM O (List.getElem?_set_self (by rw[List.length_set];exact r)) (show 2<4 by omega) rfl;rw[List.set_set,List.set_set] at I;refine⟨acc.set i (⟨⟨a,d,b⟩,⟨f,l,j⟩,fr',x.c⟩,I1 c),by rw[List.map_set];exact I,fun y F=>?_,by rw[List.map_set],(s.block q (AD t) (fun e=>E e.symm)).trans t,s⟩;rcases List.mem_or_eq_of_mem_set F with F|rfl
 ·exact(m y F).kept s B
 ·have D:=m _ (List.mem_of_getElem? o);exact⟨N.kept s B,Seen.kept D.cl s B.i⟩
theorem kP(w:World)(q:Nat)(H:Option Nat)(aW:List ByteArray)(cf:Cf)(N:Nat)(F:Int)(h:QAt nm w q H aW cf)(hG:∀c∈cf.chs,Rf.StG N F c.st/\c.st.aV≠[])(hN:N<=9000)(hF:F<=1000000)(Ce:cf.chs.length<=20):Calls prog 88 #[.pointer (some ⟨q,0,none⟩)] w fun r w'=>r= .returned (.tuple #[])/\QAt nm w' q H aW ⟨DL,cf.chs.map I1⟩/\Kept (May q H) w w':=by
 obtain⟨vg,vt,fr,vC,Q⟩:=h.ex;obtain⟨k0,k1,k2,k3,k4,kf,kl⟩:=Q.b.facts;obtain⟨ca,cc,rfl⟩:=Q.r.slice;have HQ:=aO Q;have HG:Hid (∀c∈cf.chs.reverse,Rf.StG N F c.st/\c.st.aV≠[]):=fun c v=>hG c (List.mem_reverse.1 v);have W:cf.chs.reverse.length=cf.chs.length:=bX;have O:=aO W;have d3:=Q.rq;clear h Q hG W;obtain⟨x,s⟩:∃n,Hid (cf.chs.length=n):=⟨_,rfl⟩
 rw[s.o] at k4 Ce;go_enter func88,ntmps88;go_wp2_with fail;obtain⟨w0,b7⟩:∃w0:World,Hid (w0=((w.setCell ⟨q,1,none⟩ (.slice none 0 0)).setCell ⟨q,2,none⟩ (.slice none 0 0)).setCell ⟨q,3,none⟩ (.int .i64 0)):=⟨_,rfl⟩
 obtain⟨r1,r2⟩:=QIs.Nw (fr':=0) (S:=DL) HQ.o ⟨ak.nil w,ak.nil w,rfl⟩;rw[<-b7.o] at r1 r2⊢;have A:=aO r1;have Y:=aO r2;clear r1 r2;go_loopw [13] (fun iv wr=>∃(i:Nat) (acc:List (ChV×Ch)),i<=x/\iv= .int .i64 (i:Nat)/\aj wr 0 133 4 E6 (.slice ca x cc) (acc.map (·.1))/\(∀y∈acc,Ai wr y.1 y.2)/\Hid (acc.map (·.2)=OV cf.chs.reverse i)/\QB wr q nm (.slice none 0 0) (.slice none 0 0) 0 (.slice ca x cc)/\Kept (May q H) w0 wr) (fun iv _=>x-(intOf iv).toNat)
 case atStart=>
  obtain⟨acc,a1,a2,a3⟩:=A.o.r.ex;have hb:=A.o.b;rw[s.o] at a1 hb;exact⟨0,acc,bK _,rfl,a1,a2,by unfold Hid;rw[a3,uP],hb,Kept.refl _ _⟩
 case round=>
  obtain⟨i,acc,hi,rfl,b,f,l,t,hk⟩:=hrel
  have U:acc.length=x:=by
   have z:=congrArg List.length l.o;unfold OV at z;simp only[List.length_map,List.length_append,List.length_take,List.length_drop,List.length_reverse,s.o] at z;omega
  obtain⟨m0,m1,m2,m3,m4,mf,ml⟩:=QB.facts t;by_cases a9:i<x
  ·obtain⟨g,rfl⟩:∃g,ca=some ⟨g,0,none⟩:=by
    rcases b.shape with⟨X,e2⟩|⟨g,d0,X,_⟩
    ·have:acc=[]:=by simpa using e2
     rw[this] at U;simp at U;omega
    ·injection X with X;exact⟨g,X⟩
   have m:i<acc.length:=aD
   have v:cf.chs.reverse[i]?=some acc[i].2:=by
    obtain⟨c,v⟩:∃c,cf.chs.reverse[i]?=some c:=⟨cf.chs.reverse[i]'(by rw[O.o,s.o];exact a9),bU _⟩
    have z:=aCc _ _ _ v;rw[<-l.o,List.getElem?_map,bU m] at z;rw[v];exact z.symm
   have G:=s5 _ _ _ v;have D:=HG.o _ (List.mem_of_getElem? v);have hx:=f acc[i] (bG m);have o:∀(j:Nat) (u:Value),(E6 acc[i].1)[j]?=some u->wr.cell? ⟨g,0+(i*4+j),none⟩=some u:=fun j u hu=>b.seen.cells DM i acc[i].1 (by simp[m]) j u hu;have T:acc[i]?=some acc[i]:=bU m;generalize acc[i]=y at*;obtain⟨⟨⟨c0,c2,c1⟩,⟨c5,c7,c6⟩,xf,⟨d4,d6,d5⟩⟩,c⟩:=y;simp only at G D hx o v;have x0:=o 0 _ rfl;have x1:=o 1 _ rfl;have x2:=o 2 _ rfl;have x3:=o 3 _ rfl;have d2:=fun j=>ID b j;have E:=(b.lt g rfl).2
   have b0:¬g=q:=by
    intro e;obtain⟨d1,C⟩:=b.typed g rfl;rw[e] at C;unfold QB at t;rw[t] at C;injection C with h3;injection h3 with _ h4;exact absurd h4 aF
   have c9: (i:Int)<x:=aD;simp only[Nat.zero_add,dG] at x0 x1 x2 x3;have a7:=aO G;have M:=aO D;have a0:=aO hx;have L:=aO b;have I:=aO f;have a6:=aO t;have a5:=aO T;clear G D hx o b f t T v;go_wp2_with fail;go_region_with (go_at_call 128;refine(X5 _ (.slice c0 c2 c1) (.slice c5 c7 c6) xf c.st N F (a0.o.st.below aM) M.o.1 hN hF M.o.2).mono ?_;rintro r w2 ⟨a3,n3,c3,a4,n4,c4,rfl,R,a8⟩;have a:Below wr.heap.size wr w2:=Below.trans ((bZ _ wr).alloc (aX _) _).drew (a8.mono aE);have Oc:QB w2 q nm (.slice none 0 0) (.slice none 0 0) 0 (.slice (some ⟨g,0,none⟩) x cc):=(a.block q ml).trans a6.o;obtain⟨l0,l1,l2,l3,l4,lf,ll⟩:=QB.facts Oc;have d:=L.o.below a;have z0:=(a.cell (p:=⟨g,i*4,none⟩) E).trans x0;have z1:=(a.cell (p:=⟨g,i*4+1,none⟩) E).trans x1;have z2:=(a.cell (p:=⟨g,i*4+2,none⟩) E).trans x2;have zf:=fun j=>ID d j;have c8:g<w2.heap.size:=by { have:=a.size;omega };have Z:=aO R;have J:=aO a;have B:=aO d;have K:=aO Oc;clear R a d Oc)
   all_goals
    go_wp2_with fail;obtain⟨P,b1,b2,b3,b4,b5⟩:=sT B.o (fun y hy=>(I.o y hy).below J.o) a5.o Z.o K.o b0;have b6:H=some g:=HQ.o.o.symm;go_roundw
    case rel=>exact⟨i+1,P,aD,by go_num,b1,b2,by unfold Hid;rw[b3,l.o,a7.o],b4,(hk.trans (Kept.of_below J.o (May q H)) (fun _ _ h=>h)).trans b5 (fun k _ e=> .inr (by rw[b6,e]))⟩
    case measure=>simp[intOf];omega
  ·obtain rfl:i=x:=aD
   have V:Hid (acc.map (·.2)=(cf.chs.map I1).reverse):=by
    unfold Hid;have z:=l.o;rw[show i=cf.chs.reverse.length by rw[O.o,s.o],aA9] at z;rw[z,List.map_reverse]
   go_wp2_with fail;go_end0;refine⟨rfl,?_,Y.o.trans hk (fun _ _ h=>h)⟩;have h1:=A.o;rw[s.o] at h1;exact(QIs.turn (cf':=⟨DL,cf.chs.map I1⟩) h1 hk t ⟨ak.nil _,ak.nil _,rfl⟩ ⟨acc,b,f,V.o⟩ h1.o).at
end Go.Proofs.Q
