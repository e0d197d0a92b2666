import Derived.Test.YthenokfmcjmfkaaGreatDoorYbc
set_option maxRecDepth 100000
set_option maxHeartbeats 8000000
namespace Go.Proofs.Q
open Rf _root_.Go.Proofs.Tryz
open Go.RowKit
theorem Y6(w:World)(b:Nat)(vP R S:Value)(l:List (List AB×List AB))(G E K:List (List AB))(hB:WkB w b vP R S)(hP:DPs w vP l)(hG:DGs w R (G++E))(hT:DTs w S K)(hz: (A4 l G E K).size<=10000000)(n0: (G++E).length<=1000000)(n1:K.length<=1000000):Calls prog 141 #[.pointer (some ⟨b,0,none⟩)] w fun r w'=>rT b (AL (A4 l G E K)) w r w':=by
 obtain⟨m0,j3⟩:=aCV (A4 l G E K);obtain⟨L,M⟩:∃L,Hid (L=AL (A4 l G E K)):=⟨_,rfl⟩
 rw[<-M.o];obtain⟨NG,Ov⟩:∃NG,(G++E).length=NG:=⟨_,rfl⟩
 obtain⟨NT,Ou⟩:∃NT,K.length=NT:=⟨_,rfl⟩
 rw[Ov] at n0;rw[Ou] at n1;have l4:aC2 b NG NT L w m0 w:=⟨l,G,E,K,vP,R,S,j3,hz,hB,hP,hG,hT,Ov,Ou,M,Kept.refl _ _⟩
 clear j3 M Ov Ou hz hT hG hP hB vP R S l G E K;go_enter func141,ntmps141;go_wp2_with fail;go_loopg [3,4,5,6] m0 (fun m _ _ _ _ wr=>∃z,m=z/\aC2 b NG NT L w z wr)
 case atStart=>exact⟨_,rfl,l4⟩
 case round=>
  obtain⟨z,l5,l,G,E,K,vP,R,S,hm,hz,hB,hP,hG,hT,k1,k2,M,hk⟩:=hrel;have HZ:=aO l5;clear l5;clear l4;have j2:=hP.len hz
  cases l with
  |nil=>
   obtain⟨aP,cP,rfl⟩:=hP.slice;have y0:wr.cell? ⟨b,0,none⟩=some (.slice aP 0 cP):=AA hB 0;have bl:=AD hB;have HB:=aO hB;have HG:=aO hG;have HT:=aO hT;have HK:=aO hk;clear hB hP hG hT hk;go_wp2_with fail;go_ret;have hw:=M.o;rw[uO] at hw;exact⟨by rw[hw];rfl,HK.o,_,_,_,_,_,HB.o,HG.o,HT.o,fun _=>by rw[hw];exact⟨rfl,rfl⟩⟩
  |cons x l=>
   obtain⟨o,j⟩:=x;obtain⟨aP,cP,rfl⟩:=hP.slice;obtain⟨g,off,p,q,rfl,gl,c0,c1,tA,tB⟩:=qQ hP (i:=0) aE;simp only[Nat.zero_mul,dG] at c0 c1;have g6:DTm wr p o:=tA;have h0:DTm wr q j:=tB;obtain⟨k,n,s,a,c,qs,k3,k4,n4,k5,k9⟩:=g6.top;obtain⟨k',O,s',a',c',A,l0,l1,o0,l2,l3⟩:=h0.top;have y0:wr.cell? ⟨b,0,none⟩=some (.slice (some ⟨g,off,none⟩) (l.length+1) cP):=AA hB 0;have bl:=AD hB;have i2: (A4 l G E K).size<=10000000:=by rw[PN] at hz;omega
   have n5:Hid (o.length+j.length+(A4 l G E K).size<=10000000):=by unfold Hid;rw[PN] at hz;simp only[] at hz;omega
   have o1:o.length+j.length<=10000000:=by rw[PN] at hz;simp only[] at hz;omega
   have n9:l.length<=10000000:=by simp only[bM] at j2;omega
   have wA:=g6.w1;have wB:=h0.w1;have WA:=aO wA;have WB:=aO wB;have HB:=aO hB;have HP:=aO hP;have HG:=aO hG;have HT:=aO hT;have HK:=aO hk;have HM:=aO hm;have HA:Hid (DTm wr p o):=g6;have b6:Hid (DTm wr q j):=h0;have C0:=aO c0;have C1:=aO c1;have S2:=aO k4;have m2:Hid (Seen wr 100 BQ (.slice a' A.length c') (A.map (·.1))):=l1;have D4:=aO k5;have l8:Hid (∀q∈A,DTm wr q.1 q.2):=l2;have e5:=aO k1;have e6:=aO k2;have H5:=aO k9;have b5:Hid ((k'=118/\s'=⟨#[]⟩/\A=[]/\j=[⟨1,⟨#[]⟩,O,0⟩])\/(k'=110/\s'=⟨#[]⟩/\A=[]/\j=[⟨2,⟨#[]⟩,O,0⟩])\/(k'=97/\O=0/\A=[]/\j=[⟨3,s',0,0⟩])\/(k'=99/\O=0/\1<=A.length/\j=⟨3,s',0,A.length⟩::(A.map (·.2)).flatten)):=l3;clear hB hP hG hT hk hm tA tB g6 h0 c0 c1 k4 l1 k5 l2 k1 k2 k9 l3 j2 wA wB hz;have Hp:=aO k3;have Hq:=aO l0;clear k3 l0;by_cases e7:o=j
   ·have P:FT o j=true:=M9.2 e7;have HX:=aO e7;clear e7;go_wp2_with (first
    |(go_at_call 165;refine(KB (F:=FY) (F':=FY) C.o D.o).mono ?_;rintro r Q ⟨rfl,m3,J⟩;have V:=f.o m3;rw[<-J] at V;rw[P];obtain⟨c5,a1,Gi,r0,r1,rf,rl,p0,p1,p2,p3,q0,q1,q2,q3,pl,ql,a6,N,a3,U,W,b1,b2,b7,c2,T⟩:=V.all;have e0:=AD Hq.o;have d8:=AD Hp.o;have e4:q≠d.heap.size:=aD;have Gl:d.heap.size≠q:=aD;have d9:p≠d.heap.size:=aD;have Gm:d.heap.size≠p:=aD;clear J V f C D)
    |(go_at_call 164;refine(IG _ b g off cP p q R S (o,j) l HB.o HP.o gl C0.o C1.o aD).mono ?_;rintro r d ⟨u,rfl,t,H,I⟩;have f:Hid (∀m,xu wr d ((d.alloc (Obj.cells #[.pointer (some ⟨p,0,none⟩),.pointer (some ⟨q,0,none⟩)] 156)).drewN m) b p q u R S l (G++E) K [o] [j] k n k' O s s' (.slice a qs.length c) (.slice a' A.length c')):=fun m=>NF (m:=m) HB.o t H I HG.o HT.o Hp.o Hq.o HA.o b6.o;have C:Hid (DTm (d.alloc (Obj.cells #[.pointer (some ⟨p,0,none⟩),.pointer (some ⟨q,0,none⟩)] 156)) p o):=(f.o 0).da o aE;have D:Hid (DTm (d.alloc (Obj.cells #[.pointer (some ⟨p,0,none⟩),.pointer (some ⟨q,0,none⟩)] 156)) q j):=(f.o 0).db j aE;clear t H I))
    go_roundg (z-1)
    case measure=>have:=(iW HM.o WA.o).1;have:=HZ.o;omega
    case rel=>
     exact⟨_,rfl,l,G,E,K,u,R,S,(iW HM.o WA.o).2,i2,N.o,a3.o,U.o,W.o,e5.o,e6.o,by unfold Hid;rw[M.o,HX.o,sW],HK.o.trans T.o (fun _ _ e=>e)⟩
   ·have P:FT o j=false:=L0 e7;have HX:=aO e7;clear e7;by_cases t:k=118
    ·subst t
     have ea:Hid (o=[⟨1,⟨#[]⟩,n,0⟩]):=by
      unfold Hid;rcases H5.o with⟨_,_,_,e⟩|⟨e,_⟩|⟨e,_⟩|⟨e,_⟩
      ·exact e
      ·exact absurd e aF
      ·exact absurd e aF
      ·exact absurd e aF
     have b4:Hid (L=LZ (A6 (A4 l G E K) n j)):=by unfold Hid;rw[M.o,ea.o,z8 WB.o (by rw[<-ea.o];exact HX.o)]
     have Pz:Hid (∃p:AB,(p∈o\/p∈j)/\p.kind=1/\p.value=n):=⟨⟨1,⟨#[]⟩,n,0⟩,.inl (by rw[ea.o];simp),rfl,rfl⟩
     have h7:Hid (∀p∈j,p∈o\/p∈j):=fun p hp=> .inr hp;clear H5 b5;go_wp2_with (first
    |(go_at_call 165;refine(KB (F:=FY) (F':=FY) C.o D.o).mono ?_;rintro r Q ⟨rfl,m3,J⟩;have V:=f.o m3;rw[<-J] at V;rw[P];obtain⟨c5,a1,Gi,r0,r1,rf,rl,p0,p1,p2,p3,q0,q1,q2,q3,pl,ql,a6,N,a3,U,W,b1,b2,b7,c2,T⟩:=V.all;have e0:=AD Hq.o;have d8:=AD Hp.o;have e4:q≠d.heap.size:=aD;have Gl:d.heap.size≠q:=aD;have d9:p≠d.heap.size:=aD;have Gm:d.heap.size≠p:=aD;clear J V f C D)
    |(go_at_call 164;refine(IG _ b g off cP p q R S (o,j) l HB.o HP.o gl C0.o C1.o aD).mono ?_;rintro r d ⟨u,rfl,t,H,I⟩;have f:Hid (∀m,xu wr d ((d.alloc (Obj.cells #[.pointer (some ⟨p,0,none⟩),.pointer (some ⟨q,0,none⟩)] 156)).drewN m) b p q u R S l (G++E) K [o] [j] 118 n k' O s s' (.slice a qs.length c) (.slice a' A.length c')):=fun m=>NF (m:=m) HB.o t H I HG.o HT.o Hp.o Hq.o HA.o b6.o;have C:Hid (DTm (d.alloc (Obj.cells #[.pointer (some ⟨p,0,none⟩),.pointer (some ⟨q,0,none⟩)] 156)) p o):=(f.o 0).da o aE;have D:Hid (DTm (d.alloc (Obj.cells #[.pointer (some ⟨p,0,none⟩),.pointer (some ⟨q,0,none⟩)] 156)) q j):=(f.o 0).db j aE;clear t H I))
     have a2:Hid (Kept (fun z=>z=b) wr Q):=T.o;have Ky:Hid (WkB Q b u R S):=N.o;have Qc:Hid (DPs Q u l):=a3.o;have Kv:Hid (DGs Q R (G++E)):=U.o;have Kt:Hid (DTs Q S K):=W.o;have f5:=aO rl;have h4:Hid (b<Q.heap.size):=AD N.o;have f0:Hid (p<Q.heap.size/\p≠b):=⟨pl,yO N.o b1.o⟩
     have v1:Q.cell? ⟨p,1,none⟩=some (.int .i64 n):=p1;have c6:Hid (∀X:World,Below Q.heap.size Q X->DTm X q j):=fun X B=>DTm.below c2.o B;by_cases a0:0<A0 n j
     ·have Ht:Hid (∀X:World,Below Q.heap.size Q X->Calls prog 166 #[.int .i64 n,.pointer (some ⟨q,0,none⟩)] X fun r w'=>r= .returned (.bool true)/\w'=X):=fun X B=>by
       have:=YC (F:=FY) n (c6.o X B);rw[decide_eq_true a0] at this;exact this
      have HW:Hid (L.1=8):=by unfold Hid;rw[b4.o];exact nK a0
      clear a0;go_quiet ((go_at_call 166;exact Calls.quiet_of_same (Ht.o _ aM)));go_wp2_with fail;go_ret;exact⟨by rw[HW.o];rfl,(HK.o.trans a2.o (fun _ _ e=>e)).drewN _,_,_,_,_,_,Ky.o,Kv.o.dp (DK.below ((bZ _ _).drewN _)),Kt.o.dp (DK.below ((bZ _ _).drewN _)),fun e=>by rw[HW.o] at e;exact absurd e aF⟩
     ·have Ht:Hid (∀X:World,Below Q.heap.size Q X->Calls prog 166 #[.int .i64 n,.pointer (some ⟨q,0,none⟩)] X fun r w'=>r= .returned (.bool false)/\w'=X):=fun X B=>by
       have:=YC (F:=FY) n (c6.o X B);rw[decide_eq_false a0] at this;exact this
      have e8:=aO a0;clear a0;obtain⟨Z,hZ⟩:∃Z,Hid (Z=((A4 l G E K).put n j).size):=⟨_,rfl⟩
      have b3:Hid (DY (l.map (LM n j))+AO ((G++E).map (AP n j))+AO (K.map (AP n j))=Z):=by unfold Hid;rw[hZ.o,I8,GQ,bE]
      have n2:Z<=100000000000000:=by
       have h1:=dZ (v:=n) (x:=j) (n:=10000000) aF aD (A4 l G E K);have h2:=Nat.mul_le_mul_right 10000000 i2;rw[hZ.o];omega
      go_quiet ((go_at_call 166;exact Calls.quiet_of_same (Ht.o _ aM)));go_wp2_with fail;have c7:Hid (∀X:World,Kept (fun z=>z=b) Q X->(fun X:World=>Kept (fun z=>z=b) Q X/\X.cell? ⟨d.heap.size,0,none⟩=some (.pointer (some ⟨p,0,none⟩))/\X.cell? ⟨d.heap.size,1,none⟩=some (.pointer (some ⟨q,0,none⟩))/\X.cell? ⟨p,1,none⟩=some (.int .i64 n)) X):=fun X B=>⟨B,(B.cell (p:=⟨d.heap.size,0,none⟩) f5.o a1).trans r0,(B.cell (p:=⟨d.heap.size,1,none⟩) f5.o a1).trans r1,(B.cell (p:=⟨p,1,none⟩) f0.o.1 f0.o.2).trans v1⟩
      have l9: (fun X:World=>Kept (fun z=>z=b) Q X/\X.cell? ⟨d.heap.size,0,none⟩=some (.pointer (some ⟨p,0,none⟩))/\X.cell? ⟨d.heap.size,1,none⟩=some (.pointer (some ⟨q,0,none⟩))/\X.cell? ⟨p,1,none⟩=some (.int .i64 n)) (Q.drewN nq).drew:=c7.o _ ((Kept.refl _ _).drewN _).drew;have a4:Hid (∀X:World,Below Q.heap.size Q X->WkB X b u R S/\DPs X u l/\DGs X R (G++E)/\DTs X S K):=fun X B=>⟨(B.block b h4.o).trans Ky.o,Qc.o.dp (DK.below B),Kv.o.dp (DK.below B),Kt.o.dp (DK.below B)⟩
      have Qb:Hid (∀X:World,Below Q.heap.size Q X->Calls prog 167 #[.pointer (some ⟨b,0,none⟩),.int .i64 n,.pointer (some ⟨q,0,none⟩)] X fun r w'=>WO X b n j l (G++E) K r w'):=fun X B=>kR X b q n j u R S l (G++E) K (a4.o X B).1 (a4.o X B).2.1 (a4.o X B).2.2.1 (a4.o X B).2.2.2 (c6.o X B) aD (by have:=e5.o;omega) (by have:=e6.o;omega);clear a4;go_region_held2 (fun X:World=>Kept (fun z=>z=b) Q X/\X.cell? ⟨d.heap.size,0,none⟩=some (.pointer (some ⟨p,0,none⟩))/\X.cell? ⟨d.heap.size,1,none⟩=some (.pointer (some ⟨q,0,none⟩))/\X.cell? ⟨p,1,none⟩=some (.int .i64 n)) (first|assumption|exact c7.o _ a7|exact c7.o _ (Kept.drew a7)) ((go_at_call 167;refine(Qb.o _ aM).mono ?_;rintro r w5 ⟨rfl,d7,g0,i3,i4,d5,d6,f6,f7⟩;have a7:Kept (fun z=>z=b) Q w5:=(Kept.of_below aM (fun z=>z=b)).trans d7 (fun _ _ e=>e);have e9:=aO a7;have a8:=aO d5;have d0:=aO d6;have a9:=aO f6;have b0:=aO f7;clear d7 d5 d6 f6 f7));by_cases c4:200<Z
      ·have HW:Hid (L.1=7):=by unfold Hid;rw[b4.o];exact nW e8.o (by rw[<-hZ.o];exact c4)
       go_wp2_with (go_at_call 45;refine(MZ _ b _ _ _ _ _ _ a8.o d0.o a9.o b0.o (by rw[b3.o];omega)).mono ?_;rintro r w6 ⟨rfl,h6⟩;subst w6;rw[b3.o]);go_ret;exact⟨by rw[HW.o];rfl,HK.o.trans (a2.o.trans e9.o (fun _ _ e=>e)) (fun _ _ e=>e),_,_,_,_,_,a8.o,a9.o,b0.o,fun e=>by rw[HW.o] at e;exact absurd e aF⟩
      ·obtain⟨e1,e2⟩:=Rf.u9 (e:=A4 l G E K) e8.o (by rw[<-hZ.o];exact c4);have h5:Hid (L=AL (A4 (l.map (LM n j)) (G.map (AP n j)) (E.map (AP n j)) (K.map (AP n j)))):=by unfold Hid;rw[b4.o,e1,I8]
       have c8:=nX (y:=j) HM.o Pz.o h7.o e2;rw[I8] at c8;have c3:=aO c8;have f9: (A4 (l.map (LM n j)) (G.map (AP n j)) (E.map (AP n j)) (K.map (AP n j))).size<=10000000:=by rw[<-I8,<-hZ.o];omega
       have h8:=aO f9;clear c8 e1 e2 f9;go_wp2_with (go_at_call 45;refine(MZ _ b _ _ _ _ _ _ a8.o d0.o a9.o b0.o (by rw[b3.o];omega)).mono ?_;rintro r w6 ⟨rfl,h6⟩;subst w6;rw[b3.o]);go_roundg (z-1)
       case measure=>have:=c3.o.1;have:=HZ.o;omega
       case rel=>exact⟨_,rfl,_,_,_,_,g0,i3,i4,c3.o.2,h8.o,a8.o,d0.o,by rw[<-bE];exact a9.o,b0.o,by rw[<-bE,aZ];exact e5.o,by rw[aZ];exact e6.o,h5,HK.o.trans (a2.o.trans e9.o (fun _ _ e=>e)) (fun _ _ e=>e)⟩
    ·by_cases i0:k'=118
     ·subst i0
      have eb:Hid (j=[⟨1,⟨#[]⟩,O,0⟩]):=by
       unfold Hid;rcases b5.o with⟨_,_,_,e⟩|⟨e,_⟩|⟨e,_⟩|⟨e,_⟩
       ·exact e
       ·exact absurd e aF
       ·exact absurd e aF
       ·exact absurd e aF
      obtain⟨t0,tr,ea,i9⟩:∃t0 tr,o=t0::tr/\t0.kind≠1:=by
       rcases H5.o with⟨e,_⟩|⟨_,_,_,e⟩|⟨_,_,_,e⟩|⟨_,_,_,e⟩
       ·exact absurd e t
       ·exact⟨_,_,e,aE⟩
       ·exact⟨_,_,e,aE⟩
       ·exact⟨_,_,e,aE⟩
      have b4:Hid (L=LZ (A6 (A4 l G E K) O o)):=by
       unfold Hid;have hw:Rf.Whole (t0::tr) 1:=ea ▸ WA.o;rw[M.o,eb.o,ea,xH hw i9]
      have Pz:Hid (∃p:AB,(p∈o\/p∈j)/\p.kind=1/\p.value=O):=⟨⟨1,⟨#[]⟩,O,0⟩,.inr (by rw[eb.o];simp),rfl,rfl⟩
      have h7:Hid (∀p∈o,p∈o\/p∈j):=fun p hp=> .inl hp;have j0: (k==118)=false:=aY.2 t;have j1: (k !=118)=true:=bne_iff_ne.2 t;clear H5 b5 ea i9 t t0 tr;go_wp2_with (first
    |(go_at_call 165;refine(KB (F:=FY) (F':=FY) C.o D.o).mono ?_;rintro r Q ⟨rfl,m3,J⟩;have V:=f.o m3;rw[<-J] at V;rw[P];obtain⟨c5,a1,Gi,r0,r1,rf,rl,p0,p1,p2,p3,q0,q1,q2,q3,pl,ql,a6,N,a3,U,W,b1,b2,b7,c2,T⟩:=V.all;have e0:=AD Hq.o;have d8:=AD Hp.o;have e4:q≠d.heap.size:=aD;have Gl:d.heap.size≠q:=aD;have d9:p≠d.heap.size:=aD;have Gm:d.heap.size≠p:=aD;clear J V f C D)
    |(go_at_call 164;refine(IG _ b g off cP p q R S (o,j) l HB.o HP.o gl C0.o C1.o aD).mono ?_;rintro r d ⟨u,rfl,t,H,I⟩;have f:Hid (∀m,xu wr d ((d.alloc (Obj.cells #[.pointer (some ⟨p,0,none⟩),.pointer (some ⟨q,0,none⟩)] 156)).drewN m) b p q u R S l (G++E) K [o] [j] k n 118 O s s' (.slice a qs.length c) (.slice a' A.length c')):=fun m=>NF (m:=m) HB.o t H I HG.o HT.o Hp.o Hq.o HA.o b6.o;have C:Hid (DTm (d.alloc (Obj.cells #[.pointer (some ⟨p,0,none⟩),.pointer (some ⟨q,0,none⟩)] 156)) p o):=(f.o 0).da o aE;have D:Hid (DTm (d.alloc (Obj.cells #[.pointer (some ⟨p,0,none⟩),.pointer (some ⟨q,0,none⟩)] 156)) q j):=(f.o 0).db j aE;clear t H I))
      generalize f8: (Q.setCell ⟨d.heap.size,0,none⟩ (.pointer (some ⟨q,0,none⟩))).setCell ⟨d.heap.size,1,none⟩ (.pointer (some ⟨p,0,none⟩))=Y;have Ld:=AK a6.o 0 (.pointer (some ⟨q,0,none⟩));have Jj:=AK Ld 1 (.pointer (some ⟨p,0,none⟩));have g4:Kept (fun z=>z=d.heap.size) Q Y:=by rw[<-f8];exact((Kept.refl (fun z=>z=d.heap.size) Q).setCell (p:=⟨d.heap.size,0,none⟩) (.inr rfl) _).setCell (p:=⟨d.heap.size,1,none⟩) (.inr rfl) _
      have g3:DK TmT Q Y:=by rw[<-f8];exact(DK.setCell a6.o L7 0 _).trans (DK.setCell Ld L7 1 _)
      have h9:DK AW Q Y:=by rw[<-f8];exact(DK.setCell a6.o (by unfold AW;decide) 0 _).trans (DK.setCell Ld (by unfold AW;decide) 1 _)
      rw[f8] at Jj;have g1:WkB Y b u R S:=(g4.block b (AD N.o) (fun e=>a1 e.symm)).trans N.o;have n8:wr.heap.size<=d.heap.size:=c5;have a2:Hid (Kept (fun z=>z=b) wr Y):=T.o.trans g4 (fun i hi e=>by omega);have Ky:=aO g1
      have Qc:Hid (DPs Y u l):=by
       obtain⟨acc,e1,e2,e3⟩:=a3.o.ex;refine⟨acc,?_,fun r hr=>(e2 r hr).tm g3,e3⟩;rcases e1.ex with h|⟨g9,o9,c9,m9,h1,h2,h3⟩
       ·exact⟨.inl h⟩
       ·refine⟨.inr ⟨g9,o9,c9,m9,h1,(g4.block g9 (AD h2) (fun e=>?_)).trans h2,h3⟩⟩;exact Gi.o g9 ⟨o9,_,_,h1⟩ e
      have Kv:Hid (DGs Y R (G++E)):=U.o.doc h9;have Kt:Hid (DTs Y S K):=W.o.doc h9;have i6:Hid (DTm Y p o):=b7.o.tm g3;have Jg:TmB Y q 118 O s' (.slice a' A.length c'):=g3.block q _ _ b2.o (.inl rfl);have f5:Hid (d.heap.size<Y.heap.size):=AD Jj;have h4:Hid (b<Y.heap.size):=AD g1;have f0:Hid (q<Y.heap.size/\q≠b):=⟨AD Jg,yO g1 Jg⟩
      have r0:Y.cell? ⟨d.heap.size,0,none⟩=some (.pointer (some ⟨q,0,none⟩)):=by rw[AA Jj 0];rfl
      have r1:Y.cell? ⟨d.heap.size,1,none⟩=some (.pointer (some ⟨p,0,none⟩)):=by rw[AA Jj 1];rfl
      have⟨v0,v1⟩:=cI Jg;simp at v0 v1;clear f8 Ld Jj g4 g3 h9 g1 Jg;go_wp2_with fail;have c6:Hid (∀X:World,Below Y.heap.size Y X->DTm X p o):=fun X B=>DTm.below i6.o B;by_cases a0:0<A0 O o
      ·have Ht:Hid (∀X:World,Below Y.heap.size Y X->Calls prog 166 #[.int .i64 O,.pointer (some ⟨p,0,none⟩)] X fun r w'=>r= .returned (.bool true)/\w'=X):=fun X B=>by
        have:=YC (F:=FY) O (c6.o X B);rw[decide_eq_true a0] at this;exact this
       have HW:Hid (L.1=8):=by unfold Hid;rw[b4.o];exact nK a0
       clear a0;go_quiet ((go_at_call 166;exact Calls.quiet_of_same (Ht.o _ aM)));go_wp2_with fail;go_ret;exact⟨by rw[HW.o];rfl,(HK.o.trans a2.o (fun _ _ e=>e)).drewN _,_,_,_,_,_,Ky.o,Kv.o.dp (DK.below ((bZ _ _).drewN _)),Kt.o.dp (DK.below ((bZ _ _).drewN _)),fun e=>by rw[HW.o] at e;exact absurd e aF⟩
      ·have Ht:Hid (∀X:World,Below Y.heap.size Y X->Calls prog 166 #[.int .i64 O,.pointer (some ⟨p,0,none⟩)] X fun r w'=>r= .returned (.bool false)/\w'=X):=fun X B=>by
        have:=YC (F:=FY) O (c6.o X B);rw[decide_eq_false a0] at this;exact this
       have e8:=aO a0;clear a0;obtain⟨Z,hZ⟩:∃Z,Hid (Z=((A4 l G E K).put O o).size):=⟨_,rfl⟩
       have b3:Hid (DY (l.map (LM O o))+AO ((G++E).map (AP O o))+AO (K.map (AP O o))=Z):=by unfold Hid;rw[hZ.o,I8,GQ,bE]
       have n2:Z<=100000000000000:=by
        have h1:=dZ (v:=O) (x:=o) (n:=10000000) aF aD (A4 l G E K);have h2:=Nat.mul_le_mul_right 10000000 i2;rw[hZ.o];omega
       go_quiet ((go_at_call 166;exact Calls.quiet_of_same (Ht.o _ aM)));go_wp2_with fail;have c7:Hid (∀X:World,Kept (fun z=>z=b) Y X->(fun X:World=>Kept (fun z=>z=b) Y X/\X.cell? ⟨d.heap.size,0,none⟩=some (.pointer (some ⟨q,0,none⟩))/\X.cell? ⟨d.heap.size,1,none⟩=some (.pointer (some ⟨p,0,none⟩))/\X.cell? ⟨q,1,none⟩=some (.int .i64 O)) X):=fun X B=>⟨B,(B.cell (p:=⟨d.heap.size,0,none⟩) f5.o a1).trans r0,(B.cell (p:=⟨d.heap.size,1,none⟩) f5.o a1).trans r1,(B.cell (p:=⟨q,1,none⟩) f0.o.1 f0.o.2).trans v1⟩
       have l9: (fun X:World=>Kept (fun z=>z=b) Y X/\X.cell? ⟨d.heap.size,0,none⟩=some (.pointer (some ⟨q,0,none⟩))/\X.cell? ⟨d.heap.size,1,none⟩=some (.pointer (some ⟨p,0,none⟩))/\X.cell? ⟨q,1,none⟩=some (.int .i64 O)) (Y.drewN nq).drew:=c7.o _ ((Kept.refl _ _).drewN _).drew;have a4:Hid (∀X:World,Below Y.heap.size Y X->WkB X b u R S/\DPs X u l/\DGs X R (G++E)/\DTs X S K):=fun X B=>⟨(B.block b h4.o).trans Ky.o,Qc.o.dp (DK.below B),Kv.o.dp (DK.below B),Kt.o.dp (DK.below B)⟩
       have Qb:Hid (∀X:World,Below Y.heap.size Y X->Calls prog 167 #[.pointer (some ⟨b,0,none⟩),.int .i64 O,.pointer (some ⟨p,0,none⟩)] X fun r w'=>WO X b O o l (G++E) K r w'):=fun X B=>kR X b p O o u R S l (G++E) K (a4.o X B).1 (a4.o X B).2.1 (a4.o X B).2.2.1 (a4.o X B).2.2.2 (c6.o X B) aD (by have:=e5.o;omega) (by have:=e6.o;omega);clear a4;go_region_held2 (fun X:World=>Kept (fun z=>z=b) Y X/\X.cell? ⟨d.heap.size,0,none⟩=some (.pointer (some ⟨q,0,none⟩))/\X.cell? ⟨d.heap.size,1,none⟩=some (.pointer (some ⟨p,0,none⟩))/\X.cell? ⟨q,1,none⟩=some (.int .i64 O)) (first|assumption|exact c7.o _ a7|exact c7.o _ (Kept.drew a7)) ((go_at_call 167;refine(Qb.o _ aM).mono ?_;rintro r w5 ⟨rfl,d7,g0,i3,i4,d5,d6,f6,f7⟩;have a7:Kept (fun z=>z=b) Y w5:=(Kept.of_below aM (fun z=>z=b)).trans d7 (fun _ _ e=>e);have e9:=aO a7;have a8:=aO d5;have d0:=aO d6;have a9:=aO f6;have b0:=aO f7;clear d7 d5 d6 f6 f7));by_cases c4:200<Z
       ·have HW:Hid (L.1=7):=by unfold Hid;rw[b4.o];exact nW e8.o (by rw[<-hZ.o];exact c4)
        go_wp2_with (go_at_call 45;refine(MZ _ b _ _ _ _ _ _ a8.o d0.o a9.o b0.o (by rw[b3.o];omega)).mono ?_;rintro r w6 ⟨rfl,h6⟩;subst w6;rw[b3.o]);go_ret;exact⟨by rw[HW.o];rfl,HK.o.trans (a2.o.trans e9.o (fun _ _ e=>e)) (fun _ _ e=>e),_,_,_,_,_,a8.o,a9.o,b0.o,fun e=>by rw[HW.o] at e;exact absurd e aF⟩
       ·obtain⟨e1,e2⟩:=Rf.u9 (e:=A4 l G E K) e8.o (by rw[<-hZ.o];exact c4);have h5:Hid (L=AL (A4 (l.map (LM O o)) (G.map (AP O o)) (E.map (AP O o)) (K.map (AP O o)))):=by unfold Hid;rw[b4.o,e1,I8]
        have c8:=nX (y:=o) HM.o Pz.o h7.o e2;rw[I8] at c8;have c3:=aO c8;have f9: (A4 (l.map (LM O o)) (G.map (AP O o)) (E.map (AP O o)) (K.map (AP O o))).size<=10000000:=by rw[<-I8,<-hZ.o];omega
        have h8:=aO f9;clear c8 e1 e2 f9;go_wp2_with (go_at_call 45;refine(MZ _ b _ _ _ _ _ _ a8.o d0.o a9.o b0.o (by rw[b3.o];omega)).mono ?_;rintro r w6 ⟨rfl,h6⟩;subst w6;rw[b3.o]);go_roundg (z-1)
        case measure=>have:=c3.o.1;have:=HZ.o;omega
        case rel=>exact⟨_,rfl,_,_,_,_,g0,i3,i4,c3.o.2,h8.o,a8.o,d0.o,by rw[<-bE];exact a9.o,b0.o,by rw[<-bE,aZ];exact e5.o,by rw[aZ];exact e6.o,h5,HK.o.trans (a2.o.trans e9.o (fun _ _ e=>e)) (fun _ _ e=>e)⟩
     ·have j0: (k==118)=false:=aY.2 t;have j1: (k !=118)=true:=bne_iff_ne.2 t;have n7: (k'==118)=false:=aY.2 i0;by_cases a5:k=99/\k'=99/\s=s'/\qs.length=A.length
      ·obtain⟨f1,f2,f3,f4⟩:=a5;subst f1;subst f2;subst f3
       have ea:Hid (o=⟨3,s,0,qs.length⟩::(qs.map (·.2)).flatten):=by
        unfold Hid;rcases H5.o with⟨e,_⟩|⟨e,_⟩|⟨e,_⟩|⟨_,_,_,e⟩
        ·exact absurd e aF
        ·exact absurd e aF
        ·exact absurd e aF
        ·exact e
       have eb:Hid (j=⟨3,s,0,qs.length⟩::(A.map (·.2)).flatten):=by
        unfold Hid;rcases b5.o with⟨e,_⟩|⟨e,_⟩|⟨e,_⟩|⟨_,_,_,e⟩
        ·exact absurd e aF
        ·exact absurd e aF
        ·exact absurd e aF
        ·rw[e,f4]
       have n3:n=0:=by
        rcases H5.o with⟨e,_⟩|⟨e,_⟩|⟨e,_⟩|⟨_,e,_,_⟩
        ·exact absurd e aF
        ·exact absurd e aF
        ·exact absurd e aF
        ·exact e
       have k0:O=0:=by
        rcases b5.o with⟨e,_⟩|⟨e,_⟩|⟨e,_⟩|⟨_,e,_,_⟩
        ·exact absurd e aF
        ·exact absurd e aF
        ·exact absurd e aF
        ·exact e
       subst n3;subst k0;have g5: (qs.map (·.2)).length=(A.map (·.2)).length:=by simpa using f4
       have b4:Hid (L=AL (A4 ((qs.map (·.2)).zip (A.map (·.2))++l) G E K)):=by unfold Hid;rw[M.o,ea.o,eb.o,tO _ g5]
       have i1:=HM.o;rw[ea.o,eb.o] at i1;have c3:=aO (aBg g5 i1)
       have l6: (A4 ((qs.map (·.2)).zip (A.map (·.2))++l) G E K).size<=10000000:=by
        have h1:=xF (p:=⟨3,s,0,qs.length⟩) g5 l G E K;rw[<-ea.o,<-eb.o,PN] at h1;have:=n5.o;simp only[] at h1;omega
       have m1:=aO l6;have F4:=aO f4;have F5:Hid (A.length=qs.length):=f4.symm;rw[F5.o] at Hq;clear H5 b5 ea eb i1 g5 l6 f4;go_wp2_with (first
    |(go_at_call 165;refine(KB (F:=FY) (F':=FY) C.o D.o).mono ?_;rintro r Q ⟨rfl,m3,J⟩;have V:=f.o m3;rw[<-J] at V;rw[P];obtain⟨c5,a1,Gi,r0,r1,rf,rl,p0,p1,p2,p3,q0,q1,q2,q3,pl,ql,a6,N,a3,U,W,b1,b2,b7,c2,T⟩:=V.all;have e0:=AD Hq.o;have d8:=AD Hp.o;have e4:q≠d.heap.size:=aD;have Gl:d.heap.size≠q:=aD;have d9:p≠d.heap.size:=aD;have Gm:d.heap.size≠p:=aD;clear J V f C D)
    |(go_at_call 164;refine(IG _ b g off cP p q R S (o,j) l HB.o HP.o gl C0.o C1.o aD).mono ?_;rintro r d ⟨u,rfl,t,H,I⟩;have f:Hid (∀m,xu wr d ((d.alloc (Obj.cells #[.pointer (some ⟨p,0,none⟩),.pointer (some ⟨q,0,none⟩)] 156)).drewN m) b p q u R S l (G++E) K [o] [j] 99 0 99 0 s s (.slice a qs.length c) (.slice a' qs.length c')):=fun m=>NF (m:=m) HB.o t H I HG.o HT.o Hp.o Hq.o HA.o b6.o;have C:Hid (DTm (d.alloc (Obj.cells #[.pointer (some ⟨p,0,none⟩),.pointer (some ⟨q,0,none⟩)] 156)) p o):=(f.o 0).da o aE;have D:Hid (DTm (d.alloc (Obj.cells #[.pointer (some ⟨p,0,none⟩),.pointer (some ⟨q,0,none⟩)] 156)) q j):=(f.o 0).db j aE;clear t H I))
       have g2:=nQ T.o HB.o
       have i5:Hid (∀X:World,Below Q.heap.size Q X->Calls prog 168 #[.pointer (some ⟨b,0,none⟩),.agg #[.pointer (some ⟨p,0,none⟩),.pointer (some ⟨q,0,none⟩)]] X fun r w'=>r= .returned (.tuple #[])/\Kept (fun k=>k=b) X w'/\∃l7,WkB w' b l7 R S/\DPs w' l7 ((qs.map (·.2)).zip (A.map (·.2))++l)):=fun X B=>
        uR X b p q u R S s s a a' c c' qs A l ((B.block b (AD N.o)).trans N.o) (a3.o.dp (DK.below B)) aD ((B.block p pl).trans b1.o) (by rw[F5.o];exact(B.block q ql).trans b2.o) ((Seen.dk S2.o g2 (.inl (.inr (.inl rfl)))).below B) ((Seen.dk m2.o g2 (.inl (.inr (.inl rfl)))).below B) n4 F4.o (fun x hx=>((D4.o x hx).dk g2 (fun _ e=> .inl e.doc)).below B) (fun x hx=>((l8.o x hx).dk g2 (fun _ e=> .inl e.doc)).below B)
       go_quiet (fail);go_wp2_with (go_at_call 168;refine(i5.o _ aM).mono ?_;rintro r w5 ⟨rfl,d7,g0,d5,d6⟩;have a7:Kept (fun z=>z=b) Q w5:=(Kept.of_below aM (fun z=>z=b)).trans d7 (fun _ _ e=>e);have i7:=nQ a7 N.o);go_roundg (z-1)
       case measure=>have:=c3.o.1;have:=HZ.o;omega
       case rel=>exact⟨_,rfl,_,G,E,K,g0,R,S,c3.o.2,m1.o,d5,d6,U.o.dp i7,W.o.dp i7,e5.o,e6.o,b4,HK.o.trans (T.o.trans a7 (fun _ _ e=>e)) (fun _ _ e=>e)⟩
      ·obtain⟨cp,cq,cr,m4,ea,eb,e1,e2,e3⟩:=tP H5.o b5.o t i0 HX.o a5;have HW:Hid (L.1=-1):=by unfold Hid;rw[M.o,ea,eb];exact qL e1 e2 e3 _ _ _ _
       clear H5 b5 ea eb e1 e2 e3 cp cq cr m4;by_cases d1:k=99
       ·subst d1;by_cases d2:k'=99
        ·subst d2;by_cases d3:s=s'
         ·subst d3
          have d4: ((qs.length:Int)!=A.length)=true:=by
           simp;exact fun e=>a5 ⟨rfl,rfl,rfl,aD⟩
          clear a5;go_wp2_with (first
    |(go_at_call 165;refine(KB (F:=FY) (F':=FY) C.o D.o).mono ?_;rintro r Q ⟨rfl,m3,J⟩;have V:=f.o m3;rw[<-J] at V;rw[P];obtain⟨c5,a1,Gi,r0,r1,rf,rl,p0,p1,p2,p3,q0,q1,q2,q3,pl,ql,a6,N,a3,U,W,b1,b2,b7,c2,T⟩:=V.all;have e0:=AD Hq.o;have d8:=AD Hp.o;have e4:q≠d.heap.size:=aD;have Gl:d.heap.size≠q:=aD;have d9:p≠d.heap.size:=aD;have Gm:d.heap.size≠p:=aD;clear J V f C D)
    |(go_at_call 164;refine(IG _ b g off cP p q R S (o,j) l HB.o HP.o gl C0.o C1.o aD).mono ?_;rintro r d ⟨u,rfl,t,H,I⟩;have f:Hid (∀m,xu wr d ((d.alloc (Obj.cells #[.pointer (some ⟨p,0,none⟩),.pointer (some ⟨q,0,none⟩)] 156)).drewN m) b p q u R S l (G++E) K [o] [j] 99 n 99 O s s (.slice a qs.length c) (.slice a' A.length c')):=fun m=>NF (m:=m) HB.o t H I HG.o HT.o Hp.o Hq.o HA.o b6.o;have C:Hid (DTm (d.alloc (Obj.cells #[.pointer (some ⟨p,0,none⟩),.pointer (some ⟨q,0,none⟩)] 156)) p o):=(f.o 0).da o aE;have D:Hid (DTm (d.alloc (Obj.cells #[.pointer (some ⟨p,0,none⟩),.pointer (some ⟨q,0,none⟩)] 156)) q j):=(f.o 0).db j aE;clear t H I))
          go_quiet (fail);go_wp2_with fail;go_ret;exact⟨by rw[HW.o];rfl,(HK.o.trans T.o (fun _ _ e=>e)).drewN _,_,_,_,_,_,N.o,U.o.dp (DK.below ((bZ _ _).drewN _)),W.o.dp (DK.below ((bZ _ _).drewN _)),fun e=>by rw[HW.o] at e;exact absurd e aF⟩
         ·have d4: (s.toList==s'.toList)=false:=by rw[beq_toList];exact decide_eq_false d3
          clear a5;go_wp2_with (first
    |(go_at_call 165;refine(KB (F:=FY) (F':=FY) C.o D.o).mono ?_;rintro r Q ⟨rfl,m3,J⟩;have V:=f.o m3;rw[<-J] at V;rw[P];obtain⟨c5,a1,Gi,r0,r1,rf,rl,p0,p1,p2,p3,q0,q1,q2,q3,pl,ql,a6,N,a3,U,W,b1,b2,b7,c2,T⟩:=V.all;have e0:=AD Hq.o;have d8:=AD Hp.o;have e4:q≠d.heap.size:=aD;have Gl:d.heap.size≠q:=aD;have d9:p≠d.heap.size:=aD;have Gm:d.heap.size≠p:=aD;clear J V f C D)
    |(go_at_call 164;refine(IG _ b g off cP p q R S (o,j) l HB.o HP.o gl C0.o C1.o aD).mono ?_;rintro r d ⟨u,rfl,t,H,I⟩;have f:Hid (∀m,xu wr d ((d.alloc (Obj.cells #[.pointer (some ⟨p,0,none⟩),.pointer (some ⟨q,0,none⟩)] 156)).drewN m) b p q u R S l (G++E) K [o] [j] 99 n 99 O s s' (.slice a qs.length c) (.slice a' A.length c')):=fun m=>NF (m:=m) HB.o t H I HG.o HT.o Hp.o Hq.o HA.o b6.o;have C:Hid (DTm (d.alloc (Obj.cells #[.pointer (some ⟨p,0,none⟩),.pointer (some ⟨q,0,none⟩)] 156)) p o):=(f.o 0).da o aE;have D:Hid (DTm (d.alloc (Obj.cells #[.pointer (some ⟨p,0,none⟩),.pointer (some ⟨q,0,none⟩)] 156)) q j):=(f.o 0).db j aE;clear t H I))
          go_quiet (fail);go_wp2_with fail;go_ret;exact⟨by rw[HW.o];rfl,(HK.o.trans T.o (fun _ _ e=>e)).drewN _,_,_,_,_,_,N.o,U.o.dp (DK.below ((bZ _ _).drewN _)),W.o.dp (DK.below ((bZ _ _).drewN _)),fun e=>by rw[HW.o] at e;exact absurd e aF⟩
        ·have d4: (k' !=99)=true:=bne_iff_ne.2 d2;clear a5;go_wp2_with (first
    |(go_at_call 165;refine(KB (F:=FY) (F':=FY) C.o D.o).mono ?_;rintro r Q ⟨rfl,m3,J⟩;have V:=f.o m3;rw[<-J] at V;rw[P];obtain⟨c5,a1,Gi,r0,r1,rf,rl,p0,p1,p2,p3,q0,q1,q2,q3,pl,ql,a6,N,a3,U,W,b1,b2,b7,c2,T⟩:=V.all;have e0:=AD Hq.o;have d8:=AD Hp.o;have e4:q≠d.heap.size:=aD;have Gl:d.heap.size≠q:=aD;have d9:p≠d.heap.size:=aD;have Gm:d.heap.size≠p:=aD;clear J V f C D)
    |(go_at_call 164;refine(IG _ b g off cP p q R S (o,j) l HB.o HP.o gl C0.o C1.o aD).mono ?_;rintro r d ⟨u,rfl,t,H,I⟩;have f:Hid (∀m,xu wr d ((d.alloc (Obj.cells #[.pointer (some ⟨p,0,none⟩),.pointer (some ⟨q,0,none⟩)] 156)).drewN m) b p q u R S l (G++E) K [o] [j] 99 n k' O s s' (.slice a qs.length c) (.slice a' A.length c')):=fun m=>NF (m:=m) HB.o t H I HG.o HT.o Hp.o Hq.o HA.o b6.o;have C:Hid (DTm (d.alloc (Obj.cells #[.pointer (some ⟨p,0,none⟩),.pointer (some ⟨q,0,none⟩)] 156)) p o):=(f.o 0).da o aE;have D:Hid (DTm (d.alloc (Obj.cells #[.pointer (some ⟨p,0,none⟩),.pointer (some ⟨q,0,none⟩)] 156)) q j):=(f.o 0).db j aE;clear t H I))
         go_quiet (fail);go_wp2_with fail;go_ret;exact⟨by rw[HW.o];rfl,(HK.o.trans T.o (fun _ _ e=>e)).drewN _,_,_,_,_,_,N.o,U.o.dp (DK.below ((bZ _ _).drewN _)),W.o.dp (DK.below ((bZ _ _).drewN _)),fun e=>by rw[HW.o] at e;exact absurd e aF⟩
       ·have d4: (k !=99)=true:=bne_iff_ne.2 d1;clear a5;go_wp2_with (first
    |(go_at_call 165;refine(KB (F:=FY) (F':=FY) C.o D.o).mono ?_;rintro r Q ⟨rfl,m3,J⟩;have V:=f.o m3;rw[<-J] at V;rw[P];obtain⟨c5,a1,Gi,r0,r1,rf,rl,p0,p1,p2,p3,q0,q1,q2,q3,pl,ql,a6,N,a3,U,W,b1,b2,b7,c2,T⟩:=V.all;have e0:=AD Hq.o;have d8:=AD Hp.o;have e4:q≠d.heap.size:=aD;have Gl:d.heap.size≠q:=aD;have d9:p≠d.heap.size:=aD;have Gm:d.heap.size≠p:=aD;clear J V f C D)
    |(go_at_call 164;refine(IG _ b g off cP p q R S (o,j) l HB.o HP.o gl C0.o C1.o aD).mono ?_;rintro r d ⟨u,rfl,t,H,I⟩;have f:Hid (∀m,xu wr d ((d.alloc (Obj.cells #[.pointer (some ⟨p,0,none⟩),.pointer (some ⟨q,0,none⟩)] 156)).drewN m) b p q u R S l (G++E) K [o] [j] k n k' O s s' (.slice a qs.length c) (.slice a' A.length c')):=fun m=>NF (m:=m) HB.o t H I HG.o HT.o Hp.o Hq.o HA.o b6.o;have C:Hid (DTm (d.alloc (Obj.cells #[.pointer (some ⟨p,0,none⟩),.pointer (some ⟨q,0,none⟩)] 156)) p o):=(f.o 0).da o aE;have D:Hid (DTm (d.alloc (Obj.cells #[.pointer (some ⟨p,0,none⟩),.pointer (some ⟨q,0,none⟩)] 156)) q j):=(f.o 0).db j aE;clear t H I))
        go_quiet (fail);go_wp2_with fail;go_ret;exact⟨by rw[HW.o];rfl,(HK.o.trans T.o (fun _ _ e=>e)).drewN _,_,_,_,_,_,N.o,U.o.dp (DK.below ((bZ _ _).drewN _)),W.o.dp (DK.below ((bZ _ _).drewN _)),fun e=>by rw[HW.o] at e;exact absurd e aF⟩
end Go.Proofs.Q
namespace Rf
theorem yY{off h a:Int}:A5 off h (BY a)=BY h:=rfl
theorem uT{off h:Int}{t:List AB}(a: (AI t).kind=3): (AI (A5 off h t)).kind=3:=by
 cases t with
 |nil=>exact absurd a aF
 |cons p t=>
  have b:p.kind=3:=a;show(EH off h p).kind=3;unfold EH;rw[bC aD,bC aD];exact b
theorem XF(S:St)(c:Cl)(h:Int){g:List AB}{rest:List (List AB)}(a:S.aV=g::rest):BH S c h=A4 [(g,A5 S.aQ h c.head)] (c.body.map (A5 S.aQ h)) rest S.aS:=by
 unfold BH A4 ED FX;rw[a];simp
end Rf
namespace Go.Proofs.Q
open Rf _root_.Go.Proofs.Tryz
open Go.RowKit
def DCl(w:World)(x:ClV)(a:Cl):Prop:=DTm w x.p a.head/\DGs w (.slice x.a x.n x.c) a.body/\x.k=a.vars
def vw(w:World)(v:Value)(cls:List Cl):Prop:=jo 114 G1 DCl w v cls
theorem DCl.doc{w w':World}{x:ClV}{a:Cl}(h:DCl w x a)(b:DK AW w w'):DCl w' x a:=⟨h.1.doc b,h.2.1.doc b,h.2.2⟩
theorem vw.doc{w w':World}{v:Value}{cls:List Cl}(h:vw w v cls)(a:DK AW w w'):vw w' v cls:=jo.dk h a (.inr (.inr (.inr (.inr (.inl rfl))))) (fun _ _ b=>b.doc a)
def oP(w:World)(a:Int×Eqn)(r:Ending)(w':World):Prop:=∃b c gs ts,r= .returned (.tuple #[.int .i64 (CM a.1),b,c])/\Below w.heap.size w w'/\DGs w' b gs/\DTs w' c ts/\(a.1=0->gs=a.2.body++a.2.behind/\ts=a.2.aS)
theorem pC{wr a:World}{c c1 u u':Value}{lit:Obj}(b:Below (wr.alloc (.cells #[c,c1] 158)).heap.size (wr.alloc (.cells #[c,c1] 158)) a):Below wr.heap.size wr (((a.setCell ⟨wr.heap.size,0,none⟩ u).setCell ⟨wr.heap.size,1,none⟩ u').alloc lit)/\DK TmT a (((a.setCell ⟨wr.heap.size,0,none⟩ u).setCell ⟨wr.heap.size,1,none⟩ u').alloc lit):=by
 have d:a.heap[wr.heap.size]?=some (.cells #[c,c1] 158 (0,0)):=(b.block _ aE).trans (AJ wr _);have e:Below wr.heap.size wr a:=((bZ _ wr).alloc (aX _) _).trans (b.mono aE);have f:=e.size;exact⟨((e.setCell aE _).setCell aE _).alloc (by simpa[World.setCell] using f) _,((DK.setCell d K6 0 u).trans (DK.setCell (AK d 0 u) K6 1 u')).trans (DK.below ((bZ _ _).alloc (aX _) _))⟩
theorem iQ{a:World}{d e:Nat}{g y:List AB}{b c:Value}{gs ts:List (List AB)}(l:DTm a d g)(n:DTm a e y)(i:DGs a b gs)(k:DTs a c ts):WkB ((a.alloc (.cells #[.pointer (some ⟨d,0,none⟩),.pointer (some ⟨e,0,none⟩)] 156)).alloc (.cells #[.slice (some ⟨a.heap.size,0,none⟩) 1 1,b,c] 106)) (a.heap.size+1) (.slice (some ⟨a.heap.size,0,none⟩) 1 1) b c/\ DPs ((a.alloc (.cells #[.pointer (some ⟨d,0,none⟩),.pointer (some ⟨e,0,none⟩)] 156)).alloc (.cells #[.slice (some ⟨a.heap.size,0,none⟩) 1 1,b,c] 106)) (.slice (some ⟨a.heap.size,0,none⟩) 1 1) [(g,y)]/\ DGs ((a.alloc (.cells #[.pointer (some ⟨d,0,none⟩),.pointer (some ⟨e,0,none⟩)] 156)).alloc (.cells #[.slice (some ⟨a.heap.size,0,none⟩) 1 1,b,c] 106)) b gs/\ DTs ((a.alloc (.cells #[.pointer (some ⟨d,0,none⟩),.pointer (some ⟨e,0,none⟩)] 156)).alloc (.cells #[.slice (some ⟨a.heap.size,0,none⟩) 1 1,b,c] 106)) c ts/\ Below a.heap.size a ((a.alloc (.cells #[.pointer (some ⟨d,0,none⟩),.pointer (some ⟨e,0,none⟩)] 156)).alloc (.cells #[.slice (some ⟨a.heap.size,0,none⟩) 1 1,b,c] 106)):=by
 have f:Below a.heap.size a ((a.alloc (.cells #[.pointer (some ⟨d,0,none⟩),.pointer (some ⟨e,0,none⟩)] 156)).alloc (.cells #[.slice (some ⟨a.heap.size,0,none⟩) 1 1,b,c] 106)):=((bZ _ a).alloc (aX _) _).alloc aE _;refine⟨AZ _ _ _ aE,⟨[((d,e),(g,y))],⟨.inr ⟨a.heap.size,0,1,_,rfl,AF (AJ a _) _,aE,by unfold maxLen;omega,fun j u m=>?_⟩⟩,fun q h=>?_,rfl⟩,i.dp (DK.below f),k.dp (DK.below f),f⟩
 ·simpa[FK] using m
 ·simp at h;subst h;exact⟨l.below f,n.below f⟩
theorem oL(w:World)(x:ClV)(b:Cl)(gp:Nat)(g:List AB)(vR vT:Value)(rest ts:List (List AB))(c h:Int)(hC:DCl w x b)(hG:Rf.ClG b)(hg:DTm w gp g)(hR:DGs w vR rest)(hT:DTs w vT ts)(h0:0<=c)(h1:c<=1000000000000000)(hz: (A4 [(g,A5 c h b.head)] (b.body.map (A5 c h)) rest ts).size<=10000000)(e9:rest.length<=900000)(f2:ts.length<=16):Calls prog 107 #[.agg #[.pointer (some ⟨x.p,0,none⟩),.slice x.a x.n x.c,.int .i64 x.k],.pointer (some ⟨gp,0,none⟩),vR,vT,.int .i64 c,.int .i64 h] w fun r w'=>oP w (AL (A4 [(g,A5 c h b.head)] (b.body.map (A5 c h)) rest ts)) r w':=by
 obtain⟨d,N,c6⟩:=hC;clear c6;obtain⟨xp,xa,xn,xc,xk⟩:=x;obtain⟨aB,cB,eB⟩:=N.slice;injection eB with H I e3;have m:xa=aB:=H;have c3:xn=b.body.length:=I;subst m c3;clear H I e3;obtain⟨aR,cR,rfl⟩:=hR.slice;obtain⟨aT,cT,rfl⟩:=hT.slice;have HH:=aO d;have b1:=aO N;have b5:=aO hg;have HR:Hid (DGs w (.slice aR rest.length cR) rest):=hR;have HT:=aO hT;have U:=aO hG;have e8:=hG.bl;have HZ:Hid ((A4 [(g,A5 c h b.head)] (b.body.map (A5 c h)) rest ts).size<=10000000):=hz;have d8:=hg.lt;clear d N hg hR hT hG hz;go_enter func107,ntmps107;go_wp2_with fail;generalize G:w.alloc _=z;have D:Below w.heap.size w z:=by rw[<-G];exact(bZ _ w).alloc (aX _) _
 have V:z.heap[w.heap.size]?=some (.cells #[.pointer (some ⟨xp,0,none⟩),.slice xa b.body.length xc,.int .i64 xk] 114 (0,0)):=by rw[<-G];exact AJ w _
 have T:=aO V;have f0:w.heap.size+1=z.heap.size:=by rw[<-G];simp
 clear G V;go_loopw [15,16,17] (fun lv iv _ wr=>∃(vl:Value) (i:Nat) (acc:List ((Option Addr×Int)×List AB)),vl=lv/\i<=b.body.length/\iv= .int .i64 i/\RMk 158 2 ES DG z.heap.size wr vl acc/\Hid (acc.map (·.2)=(b.body.take i).map (A5 c h))/\Below z.heap.size z wr) (fun _ iv _ _=>b.body.length -(intOf iv).toNat)
 case atStart=>exact⟨_,0,[],rfl,aD,rfl,RMk.nil,rfl,bZ _ _⟩
 case round=>
  obtain⟨vl,i,acc,rfl,hi,rfl,v,s,f⟩:=hrel;have P:acc.length=i:=by have:=congrArg List.length s.o;simp at this;omega
  have f1:=f.size;have a6:Below w.heap.size w wr:=D.trans (f.mono D.size);have d:=(f.block _ aD).trans T.o;have⟨x0,x1⟩:=cI d;have xl:=AD d;simp at x0 x1;clear d;by_cases R:i<b.body.length
  ·obtain⟨gb,off,e,rfl,gl,c0,c1,hD⟩:=gX (b1.o.doc (DK.below a6)) R
   have hn:Hid (∀q':Option Addr×Int,(acc++[(q',A5 c h b.body[i])]).map (·.2)=(b.body.take (i+1)).map (A5 c h)):=fun q'=>by
    rw[bE,s.o,H8 _ R];rfl
   have a8:=U.o.bd _ (bG R);have b4:Hid (∀q∈b.body[i],q.kind=1->0<=q.value/\q.value<=16):=fun q hq hk=>by have:=(a8.2 q hq).2.1 hk;omega
   clear a8;obtain⟨b0,f6⟩:=e;rcases hD with⟨H,I⟩|⟨p,H,I,e3⟩
   ·have m:b0=none:=H;subst m;have d4:Hid (A5 c h b.body[i]=BY h):=by unfold Hid;rw[I];exact yY
    clear H I;have K:Hid (Below wr.heap.size wr ((wr.alloc (Obj.cells #[.pointer none,.int .i64 h] 158)).alloc (Obj.cells #[.pointer none,.int .i64 h] 158))):=((bZ _ wr).alloc (aX _) _).alloc aE _;go_wp2_with (at_builtin;refine AY Tryz.zk ES IL KN _ rfl (.tmp 46) (.tmp 48) rfl 0 _ (acc.map (·.1)) rfl ((v.row.alloc _).alloc _) ⟨_,0,none⟩ 1 (none,h) rfl (EX _ _ aE _ _ _) aJ (bK _) ?_;intro gA gu w4 a l qm;rw[aZ,P] at a;have j:=(DK.below K.o).trans (DK.grown l (v.jw K.o) K6);have o:=v.push (y:=BY h) K.o aD l qm a (fun _ _ h=>h.tm j) (.inl ⟨rfl,rfl⟩));go_roundw
    case rel=>
     refine⟨_,i+1,_,rfl,aD,by go_num,o.1,?_,o.2 z f⟩;have:=hn.o (none,h);rw[d4.o] at this;exact this
    case measure=>simp[intOf];omega
   ·have m:b0=some ⟨p,0,none⟩:=H;subst m;have T1:Hid (DTm (wr.alloc (Obj.cells #[.pointer none,.int .i64 h] 158)) p b.body[i]):=I.below ((bZ _ wr).alloc (aX _) _);have d2:Hid ((AI (A5 c h b.body[i])).kind=3):=uT e3;clear H I e3;generalize b.body[i]=t at*
    go_wp2_with (first
     |(at_builtin;obtain⟨M,d1⟩:=pC (u:= .pointer (some ⟨S,0,none⟩)) (u':= .int .i64 0) (lit:=Obj.cells #[.pointer (some ⟨S,0,none⟩),.int .i64 0] 158) a3;have d5:aj ((w2.setCell ⟨wr.heap.size,0,none⟩ (.pointer (some ⟨S,0,none⟩))).setCell ⟨wr.heap.size,1,none⟩ (.int .i64 0)) 0 158 2 ES vl (acc.map (·.1)):=((v.row.below c9).setCell _ _ (fun e=>by have h9:=(v.row.lt _ e).2;simp at h9)).setCell _ _ (fun e=>by have h9:=(v.row.lt _ e).2;simp at h9);refine AY Tryz.zk ES IL KN _ rfl (.tmp 46) (.tmp 48) rfl 0 _ (acc.map (·.1)) rfl (d5.alloc _) ⟨_,0,none⟩ 1 (some ⟨S,0,none⟩,0) rfl (EX _ _ (by simp[World.setCell]) _ _ _) aJ (bK _) ?_;intro gA gu w4 a l qm;rw[aZ,P] at a;have a7:=DK.grown l (v.jw M) K6;have j:=(DK.below M).trans a7;have o:=v.push (y:=A5 c h t) M aD l qm a (fun _ _ h=>h.tm j) (.inr ⟨S,rfl,(c7.any.tm d1).tm a7,d2.o⟩))
     |(go_at_call 143;refine(oO (F':=FY) c h (fun _ _=>trivial) T1.o b4.o h0 h1).mono ?_;rintro r w2 ⟨S,rfl,c7,a3⟩;obtain⟨hY,c9,_,_⟩:=TZ (u:= .pointer none) (lit:=Obj.cells #[] 158) a3;have⟨Y0,Y1⟩:=cI hY;simp at Y0 Y1;have Yf:=AE hY;have Yl:=AD hY))
    go_roundw
    case rel=>exact⟨_,i+1,_,rfl,aD,by go_num,o.1,hn.o _,o.2 z f⟩
    case measure=>simp[intOf];omega
  ·obtain rfl:i=b.body.length:=aD;obtain⟨L,a0,W,Dt⟩:=(HR.o.doc (DK.below a6)).ex;have b7:Hid (Seen wr 158 ES (.slice aR rest.length cR) (L.map (·.1))):=a0;have b2:=aO W;have Ko:Hid (rest=L.map (·.2)):=Dt;have d7:L.length<=900000:=by have:=congrArg List.length Dt;simp at this;omega
   have C:=aO v;have Y:=U.o.hd;have c2:Hid (∀q∈b.head,q.kind=1->0<=q.value/\q.value<=16):=fun q hq hk=>by have:=(Y.2 q hq).2.1 hk;omega
   have Z: (b.body.map (A5 c h)++rest).length<=1000000:=aJ;have b6:=aO Z;clear a0 W Dt v Y Z
   go_wp2_with (first
    |(go_at_call 143;refine(oO (F':=FY) c h (fun _ _=>trivial) (DTm.below HH.o Q) c2.o h0 h1).mono ?_;rintro r J ⟨S,rfl,c8,a2⟩;have F:Below w.heap.size w J:=Q.trans (a2.mono Q.size);have A:DTm J gp g/\DTm J S (A5 c h b.head)/\DGs J (.slice a4 (b.body.length+L.length) c4) (b.body.map (A5 c h)++rest)/\DTs J (.slice aT ts.length cT) ts:=⟨DTm.below b5.o F,c8.any,DGs.doc b3.o (DK.below a2),DTs.doc HT.o (DK.below F)⟩)
    |(at_builtin;refine GV Tryz.zk ES IL KN _ rfl (.tmp 50) (.tmp 51) rfl 0 vl (acc.map (·.1)) rfl C.o.row (.slice aR rest.length cR) (L.map (·.1)) rfl b7.o aJ (bK _) ?_;intro v4 w4 a l;rw[<-bE] at a;obtain⟨a4,c4,rfl⟩:=a.seen.slice;have j:=DK.grown (E:=TmT) l (C.o.jw (bZ _ wr)) K6;have a9:Below z.heap.size z w4:=f.trans ⟨l.os,l.tape,l.output,l.size,fun k hk=>l.block k aD (fun e=>by have:=C.o.new k e.symm;omega)⟩;have Q:Below w.heap.size w w4:=D.trans (a9.mono D.size);have O:=(a9.block _ aD).trans T.o;have z0:=AA O 0;have zl:=AD O;simp at z0;rw[aZ,bL,P] at a;have b3:Hid (DGs w4 (.slice a4 (b.body.length+L.length) c4) (b.body.map (A5 c h)++rest)):=⟨acc++L,a.seen,fun r hr=>(bO.1 hr).elim (fun e=>(C.o.els r e).tm j) (fun e=>(b2.o r e).tm j),by rw[bE,s.o,<-Ko.o,bR (aX _)]⟩;clear O))
   obtain⟨q1,q2,q3,q4,q5⟩:=iQ A.1 A.2.1 A.2.2.1 A.2.2.2;refine(Y6 _ (J.heap.size+1) _ _ _ [(g,A5 c h b.head)] (b.body.map (A5 c h)) rest ts q1 q2 q3 q4 HZ.o b6.o aD).mono ?_;rintro r w7 ⟨rfl,d3,f4,f3,f5,c5,d6,n,X,a1,Gw⟩;obtain⟨e0,e5,rfl⟩:=X.slice;obtain⟨e4,e6,rfl⟩:=a1.slice;have g1:=AA n 1;have g2:=AA n 2;have e7:=AD n;simp at g1 g2;have d9:=aO n;have a5:=Kept.below (B:=J.heap.size) d3 q5.size (fun k hk e=>by have e':k=J.heap.size+1:=e;omega);have d0:Below w.heap.size w w7:=F.trans ((q5.trans a5).mono F.size);clear n;go_wp2_with fail;go_quiet (fail);go_wp2_with fail;go_ret3;exact⟨_,_,c5,d6,rfl,d0.drewN _,X.doc (DK.below ((bZ _ _).drewN _)),a1.doc (DK.below ((bZ _ _).drewN _)),Gw⟩
end Go.Proofs.Q
