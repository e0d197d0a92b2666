import Derived.Test.YthenokfmcjmfkaaGreatDoorYay
set_option maxRecDepth 100000
set_option maxHeartbeats 1000000
namespace Go.Proofs.Q
open Rf _root_.Go.Proofs.Tryz
open Go.RowKit
theorem YW(f b g:Nat)(Q:Option Nat)(t:Rf.Tok)(l:List Rf.Tok)(ns:List ByteArray)(w:World)(h:Rd w b g Q (t::l) ns)(hl: (t::l).length<=f)(ps:List AB)(u:Rf.Tok)(P:List Rf.Tok)(y:List ByteArray)(R:AM f (t::l) []= .ok (ps,u::P,y))(hh:F7 ps=true)(U: (u.k==58)=true)(T:Int)(qE:Nat)(hg:BN f 8 [] P y= .error (T,qE)):Calls prog 69 #[.pointer (some ⟨b,0,none⟩)] w fun r w'=>GN w b g Q (BP f (t::l)) r w':=by
 have E:u.k=58:=bT U;have F: (u.k==63)=false:=aY.2 aD;have S:Hid (u.k≠0):=by unfold Hid;omega
 have a7:P.length<=f:=by have:=GY f _ _ _ _ _ R;simp only[bM] at this hl;omega
 have HR:=aO R;have HH:=aO hh
 have hS:Hid (BP f (t::l)= .error (T,qE)):=by
  unfold Hid;simp only[BP];rw[R];simp only[];rw[bD hh,bD E,hg]
 have HG:=aO hg;clear hg E;clear R hh;have H:=aO h.unnamed;obtain⟨b2,b5,_⟩:=h.lt;obtain⟨vL,I,a,n,c,hB⟩:=h.err;obtain⟨q0,q1,q2,q3,q4,qf,qb⟩:=hB.facts;clear h hB;go_enter func69,ntmps69
 go_wp2_with (first
  |(go_at_call 68;refine(CO b g none t l [] _ (H.o.alloc _)).mono ?_;rintro e D ⟨rfl,s⟩;have Z:=(s.block w.heap.size aE).trans (AZ _ _ _ aE);have b6:w.heap.size+1<=D.heap.size:=(by have:=s.size;simpa using this);have a3:=(H.o.alloc _).below s)
  |(go_at_call 97;refine(GI f b g none (t::l) [] _ (a3.alloc _) hl).mono ?_;rintro r d ⟨p,rfl,hp,Bh,m,hm⟩;rw[HR.o] at hm;have O:∀k,w.heap.size<=k->¬May b none k:=(fun k hk e=>by rcases e with e|e;omega;cases e);have A:=(m.block w.heap.size aJ (O _ (aX _))).trans (AF Z _);have a5:Box d D.heap.size t:=(m.block D.heap.size aE (O _ aD)).trans (AJ _ _);have b7:D.heap.size+1<=d.heap.size:=(by have:=m.size;simpa using this);obtain⟨j,q,N,a4⟩:=hm;obtain⟨kk,nn,ss,aa,ll,cc,hT,a6⟩:=a4.head;obtain⟨_,Dk,Ef,kb⟩:=a6.resolve_right (fun x=>absurd (x.1.symm.trans HH.o) aF);obtain⟨yL,yI,ya,yc,X⟩:=q.aW;obtain⟨y0,y1,y2,y3,y4,yf,yb⟩:=X.facts;have Dl:j≠some d.heap.size:=(fun e=>by have:=(q.lt.2.2.1 _ e).1;omega);have Bq:j≠some w.heap.size:=N.ne aE aJ;have Cb:∀x,j=some x->D.heap.size<x:=(fun x e=>by rcases N with z|⟨k,z,hk⟩;rw[e] at z;cases z;rw[e] at z;have:=bF z;simp at hk;omega);have k0:d.cell? ⟨p,0,none⟩=some (.int .u8 kk):=AA hT 0;have pl:=AD hT;have⟨x0,x1,x2,x3⟩:=cM a5;simp at x0 x1 x2 x3;have xl:D.heap.size<d.heap.size:=aD;have wl:w.heap.size<d.heap.size:=aD;have bl:b<d.heap.size:=aD;have⟨u0,u1,u2⟩:=cJ A;simp at u0 u1 u2;have uf:=AE A)
  |(go_at_call 98;refine(DN p kk nn ss aa ll cc _ (AF hT _)).mono ?_;rintro r wx ⟨rfl,rfl⟩)
  |(go_at_call 100;refine(KV b g j u P y 58 _ (q.alloc _) F).mono ?_;rintro r w3 ⟨rfl,i⟩;have a2:=(q.alloc _).below i;have Y:=(i.block d.heap.size aE).trans (AJ _ _);have a0:=(i.block w.heap.size aJ).trans (AF A _);have c0:d.heap.size+1<=w3.heap.size:=(by have:=i.size;simpa using this);obtain⟨iL,iN,iI,W,b0,a1⟩:=a2.next S.o (aY.1 F);obtain⟨i0,i1,i2,i3,i4,jf,jb⟩:=W.facts;have b4:g≠d.heap.size:=aD;have a9:¬d.heap.size=w.heap.size:=aD;have b1:¬w.heap.size=d.heap.size:=aD;have M:¬b=d.heap.size:=aD;have J:¬d.heap.size=b:=aD;have B:¬b=w.heap.size:=aD;have L:¬w.heap.size=b:=aD)
  |(go_at_call 70;refine(J2 f b g j P y _ a1 a7).mono ?_;rintro r w4 ⟨ga,gn,gc,rfl,o,C⟩;rw[HG.o] at C;have G:=(o.block d.heap.size aJ (fun e=>by rcases e with e|e;exact J e;exact Dl e.symm)).trans ((cF _ _ _ _ J).trans Y);have K:=(o.block w.heap.size aJ (fun e=>by rcases e with e|e;exact L e;exact Bq e.symm)).trans ((cF _ _ _ _ L).trans a0);have c1:w3.heap.size<=w4.heap.size:=(by have:=o.size;simpa using this);obtain⟨eL,eI,ea,en,ec,V,a8⟩:=RdE.ex C;obtain⟨m0,m1,m2,m3,m4,mf,mb⟩:=V.facts;have b3: (T==0)=false:=aY.2 a8;have⟨d0,d1,d2⟩:=cJ G;simp at d0 d1 d2;have df:=AE G;have⟨e0,e1,z⟩:=cJ K;simp at e0 e1 z;have ef:=AE K))
 refine bodyPost_ret (v:= .agg #[.pointer (some ⟨p,0,none⟩),.slice ga gn gc,.int .i64 en]) (by simp[results,results69,go_sem, *]) rfl ?_;rw[hS.o];exact⟨_,_,_,_,_,rfl,((((((((((((((Kept.refl (May b Q) w).setCell (p:=⟨b,2,none⟩) (.inr (.inl rfl)) _).alloc _).trans (Kept.of_below s (May b Q)) (fun _ _ e=>e)).alloc _).trans m (fun k _ e=>May.none k e)).alloc _).trans (Kept.of_below i (May b Q)) (fun _ _ e=>e)).setCell (p:=⟨b,1,none⟩) (.inr (.inl rfl)) _).trans o (fun k hk e=>by rcases e with e|e;exact Or.inl e;exact absurd (Cb k e.symm) aD)).setCell (p:=⟨d.heap.size,1,none⟩) (.inl (show w.heap.size<=d.heap.size by omega)) _).setCell (p:=⟨d.heap.size,2,none⟩) (.inl (show w.heap.size<=d.heap.size by omega)) _).setCell (p:=⟨w.heap.size,0,none⟩) (.inl (aX _)) _).setCell (p:=⟨w.heap.size,1,none⟩) (.inl (aX _)) _).setCell (p:=⟨w.heap.size,2,none⟩) (.inl (aX _)) _,((((RdE.setOther C _ _ _ M).setOther _ _ _ M).setOther _ _ _ B).setOther _ _ _ B).setOther _ _ _ B⟩
theorem YF(f b g:Nat)(Z:Option Nat)(t:Rf.Tok)(l:List Rf.Tok)(ns:List ByteArray)(w:World)(h:Rd w b g Z (t::l) ns)(hl: (t::l).length<=f)(ps:List AB)(u:Rf.Tok)(Y:List Rf.Tok)(z:List ByteArray)(hr:AM f (t::l) []= .ok (ps,u::Y,z))(hh:F7 ps=true)(a2: (u.k==58)=true)(gs:List (List AB))(y:Rf.Tok)(l3:List Rf.Tok)(a0:List ByteArray)(hg:BN f 8 [] Y z= .ok (gs,y::l3,a0))(L: (y.k !=46)=true):Calls prog 69 #[.pointer (some ⟨b,0,none⟩)] w fun r w'=>GN w b g Z (BP f (t::l)) r w':=by
 have K:u.k=58:=bT a2;have M: (u.k==63)=false:=aY.2 aD;have a1:Hid (u.k≠0):=by unfold Hid;omega
 have c3:Y.length<=f:=by have:=GY f _ _ _ _ _ hr;simp only[bM] at this hl;omega
 have HR:=aO hr;have HH:=aO hh
 have hS:Hid (BP f (t::l)= .error (BR y 2)):=by
  unfold Hid;simp only[BP];rw[hr];simp only[];rw[bD hh,bD K,hg];simp only[];rw[OL _ _ _ _ L]
 have HG:=aO hg;clear hg K;clear hr hh;have H:=aO h.unnamed;obtain⟨c9,d3,_⟩:=h.lt;obtain⟨vL,I,a,n,c,hB⟩:=h.err;obtain⟨q0,q1,q2,q3,q4,qf,qb⟩:=hB.facts;clear h hB;go_enter func69,ntmps69
 go_wp2_with (first
  |(go_at_call 68;refine(CO b g none t l [] _ (H.o.alloc _)).mono ?_;rintro e J ⟨rfl,s⟩;have a8:=(s.block w.heap.size aE).trans (AZ _ _ _ aE);have d5:w.heap.size+1<=J.heap.size:=(by have:=s.size;simpa using this);have b3:=(H.o.alloc _).below s)
  |(go_at_call 97;refine(GI f b g none (t::l) [] _ (b3.alloc _) hl).mono ?_;rintro r d ⟨p,rfl,hp,Bh,m,hm⟩;rw[HR.o] at hm;have X:∀k,w.heap.size<=k->¬May b none k:=(fun k hk e=>by rcases e with e|e;omega;cases e);have C:=(m.block w.heap.size aJ (X _ (aX _))).trans (AF a8 _);have b5:Box d J.heap.size t:=(m.block J.heap.size aE (X _ aD)).trans (AJ _ _);have d6:J.heap.size+1<=d.heap.size:=(by have:=m.size;simpa using this);obtain⟨j,q,V,b4⟩:=hm;obtain⟨kk,nn,ss,aa,ll,cc,hT,b7⟩:=b4.head;obtain⟨_,Dk,Ef,kb⟩:=b7.resolve_right (fun x=>absurd (x.1.symm.trans HH.o) aF);obtain⟨yL,yI,ya,yc,a6⟩:=q.aW;obtain⟨y0,y1,y2,y3,y4,yf,yb⟩:=a6.facts;have Dl:j≠some d.heap.size:=(fun e=>by have:=(q.lt.2.2.1 _ e).1;omega);have Bq:j≠some w.heap.size:=V.ne aE aJ;have Cb:∀x,j=some x->J.heap.size<x:=(fun x e=>by rcases V with A|⟨k,A,hk⟩;rw[e] at A;cases A;rw[e] at A;have:=bF A;simp at hk;omega);have k0:d.cell? ⟨p,0,none⟩=some (.int .u8 kk):=AA hT 0;have pl:=AD hT;have⟨x0,x1,x2,x3⟩:=cM b5;simp at x0 x1 x2 x3;have xl:J.heap.size<d.heap.size:=aD;have wl:w.heap.size<d.heap.size:=aD;have bl:b<d.heap.size:=aD;have⟨u0,u1,u2⟩:=cJ C;simp at u0 u1 u2;have uf:=AE C)
  |(go_at_call 98;refine(DN p kk nn ss aa ll cc _ (AF hT _)).mono ?_;rintro r wx ⟨rfl,rfl⟩)
  |(go_at_call 100;refine(KV b g j u Y z 58 _ (q.alloc _) M).mono ?_;rintro r w3 ⟨rfl,i⟩;have b2:=(q.alloc _).below i;have a7:=(i.block d.heap.size aE).trans (AJ _ _);have a9:=(i.block w.heap.size aJ).trans (AF C _);have d7:d.heap.size+1<=w3.heap.size:=(by have:=i.size;simpa using this);obtain⟨iL,iN,iI,a5,c8,b0⟩:=b2.next a1.o (aY.1 M);obtain⟨i0,i1,i2,i3,i4,jf,jb⟩:=a5.facts;have b6:g≠d.heap.size:=aD;have c6:¬d.heap.size=w.heap.size:=aD;have b1:¬w.heap.size=d.heap.size:=aD;have T:¬b=d.heap.size:=aD;have O:¬d.heap.size=b:=aD;have F:¬b=w.heap.size:=aD;have R:¬w.heap.size=b:=aD)
  |(go_at_call 70;refine(J2 f b g j Y z _ b0 c3).mono ?_;rintro r w4 ⟨ga,gn,gc,rfl,o,U⟩;rw[HG.o] at U;have B:=(o.block d.heap.size aJ (fun e=>by rcases e with e|e;exact O e;exact Dl e.symm)).trans ((cF _ _ _ _ O).trans a7);have D:=(o.block w.heap.size aJ (fun e=>by rcases e with e|e;exact R e;exact Bq e.symm)).trans ((cF _ _ _ _ R).trans a9);have d8:w3.heap.size<=w4.heap.size:=(by have:=o.size;simpa using this);obtain⟨G,acc,S,W,c7,d4,c4⟩:=U;obtain⟨eL,eI,ea,ec,a4⟩:=S.aW;obtain⟨m0,m1,m2,m3,m4,mf,mb⟩:=a4.facts;have Ie:G≠some d.heap.size:=W.ne Dl aJ;have Ic:G≠some w.heap.size:=W.ne Bq aJ;have⟨d0,d1,d2⟩:=cJ B;simp at d0 d1 d2;have df:=AE B;have⟨e0,e1,A⟩:=cJ D;simp at e0 e1 A;have ef:=AE D)
  |(go_at_call 71;refine(OK b g G y l3 a0 46 _ (S.setOther _ _ _ T b6 Ie) L).mono ?_;rintro r w5 ⟨rfl,P,E⟩;obtain⟨wL,wI,wa,wn,wc,a3,c5⟩:=P.ex;obtain⟨o0,o1,o2,o3,o4,of,ob⟩:=a3.facts;have N:=(E.block d.heap.size (by first|omega|(simp;omega)) aD).trans (AK B 1 _);have Q:=(E.block w.heap.size (by first|omega|(simp;omega)) aD).trans ((cF _ _ _ _ b1).trans D);have⟨c0,c1,c2⟩:=cJ N;simp at c0 c1 c2;have cf:=AE N;have⟨g0,g1,g2⟩:=cJ Q;simp at g0 g1 g2;have gf:=AE Q))
 refine bodyPost_ret (v:= .agg #[.pointer (some ⟨p,0,none⟩),.slice ga gn gc,.int .i64 wn]) (by simp[results,results69,go_sem, *]) rfl ?_;rw[hS.o];exact⟨_,_,_,_,_,rfl,(((((((((((((((Kept.refl (May b Z) w).setCell (p:=⟨b,2,none⟩) (.inr (.inl rfl)) _).alloc _).trans (Kept.of_below s (May b Z)) (fun _ _ e=>e)).alloc _).trans m (fun k _ e=>May.none k e)).alloc _).trans (Kept.of_below i (May b Z)) (fun _ _ e=>e)).setCell (p:=⟨b,1,none⟩) (.inr (.inl rfl)) _).trans o (fun k hk e=>by rcases e with e|e;exact Or.inl e;exact absurd (Cb k e.symm) aD)).setCell (p:=⟨d.heap.size,1,none⟩) (.inl (show w.heap.size<=d.heap.size by omega)) _).trans E (fun _ _ e=>Or.inl e)).setCell (p:=⟨d.heap.size,2,none⟩) (.inl (show w.heap.size<=d.heap.size by omega)) _).setCell (p:=⟨w.heap.size,0,none⟩) (.inl (aX _)) _).setCell (p:=⟨w.heap.size,1,none⟩) (.inl (aX _)) _).setCell (p:=⟨w.heap.size,2,none⟩) (.inl (aX _)) _,(((P.setOther _ _ _ T).setOther _ _ _ F).setOther _ _ _ F).setOther _ _ _ F⟩
theorem b8(f b g:Nat)(nb:Option Nat)(t:Rf.Tok)(l:List Rf.Tok)(ns:List ByteArray)(w:World)(h:Rd w b g nb (t::l) ns)(hl: (t::l).length<=f)(ps:List AB)(u:Rf.Tok)(l2:List Rf.Tok)(J:List ByteArray)(hr:AM f (t::l) []= .ok (ps,u::l2,J))(hh:F7 ps=true)(b0: (u.k==58)=true)(gs:List (List AB))(y:Rf.Tok)(l3:List Rf.Tok)(A:List ByteArray)(hg:BN f 8 [] l2 J= .ok (gs,y::l3,A))(B: (y.k !=46)=false):Calls prog 69 #[.pointer (some ⟨b,0,none⟩)] w fun r w'=>GN w b g nb (BP f (t::l)) r w':=by
 have S:u.k=58:=bT b0;have T: (u.k==63)=false:=aY.2 aD;have a9:Hid (u.k≠0):=by unfold Hid;omega
 have d3:l2.length<=f:=by have:=GY f _ _ _ _ _ hr;simp only[bM] at this hl;omega
 have HR:=aO hr;have HH:=aO hh
 have hS:Hid (BP f (t::l)= .ok (⟨ps,gs,A.length⟩,l3)):=by
  unfold Hid;simp only[BP];rw[hr];simp only[];rw[bD hh,bD S,hg];simp only[];rw[U7 _ _ _ _ B]
 have a8:Hid (y.k≠0):=by have:y.k=46:=(by simpa using B);unfold Hid;omega
 have a7: (y.k==63)=false:=by have:y.k=46:=(by simpa using B);rw[this];decide
 have HG:=aO hg;clear hg S;clear hr hh;have H:=aO h.unnamed;obtain⟨d6,d7,_⟩:=h.lt;obtain⟨vL,I,a,n,c,hB⟩:=h.err;obtain⟨q0,q1,q2,q3,q4,qf,qb⟩:=hB.facts;clear h hB;go_enter func69,ntmps69
 go_wp2_with (first
  |(go_at_call 68;refine(CO b g none t l [] _ (H.o.alloc _)).mono ?_;rintro e R ⟨rfl,E⟩;have b6:=(E.block w.heap.size aE).trans (AZ _ _ _ aE);have d8:w.heap.size+1<=R.heap.size:=(by have:=E.size;simpa using this);have c6:=(H.o.alloc _).below E)
  |(go_at_call 97;refine(GI f b g none (t::l) [] _ (c6.alloc _) hl).mono ?_;rintro r d ⟨p,rfl,hp,Bh,C,hm⟩;rw[HR.o] at hm;have a6:∀k,w.heap.size<=k->¬May b none k:=(fun k hk e=>by rcases e with e|e;omega;cases e);have N:=(C.block w.heap.size aJ (a6 _ (aX _))).trans (AF b6 _);have c7:Box d R.heap.size t:=(C.block R.heap.size aE (a6 _ aD)).trans (AJ _ _);have d9:R.heap.size+1<=d.heap.size:=(by have:=C.size;simpa using this);obtain⟨m,D,a5,a0⟩:=hm;obtain⟨kk,nn,ss,aa,ll,cc,hT,c9⟩:=a0.head;obtain⟨_,Dk,Ef,kb⟩:=c9.resolve_right (fun x=>absurd (x.1.symm.trans HH.o) aF);obtain⟨yL,yI,ya,yc,b4⟩:=D.aW;obtain⟨y0,y1,y2,y3,y4,yf,yb⟩:=b4.facts;have Dl:m≠some d.heap.size:=(fun e=>by have:=(D.lt.2.2.1 _ e).1;omega);have Bq:m≠some w.heap.size:=a5.ne aE aJ;have Cb:∀x,m=some x->R.heap.size<x:=(fun x e=>by rcases a5 with i|⟨k,i,hk⟩;rw[e] at i;cases i;rw[e] at i;have:=bF i;simp at hk;omega);have k0:d.cell? ⟨p,0,none⟩=some (.int .u8 kk):=AA hT 0;have pl:=AD hT;have⟨x0,x1,x2,x3⟩:=cM c7;simp at x0 x1 x2 x3;have xl:R.heap.size<d.heap.size:=aD;have wl:w.heap.size<d.heap.size:=aD;have bl:b<d.heap.size:=aD;have⟨u0,u1,u2⟩:=cJ N;simp at u0 u1 u2;have uf:=AE N)
  |(go_at_call 98;refine(DN p kk nn ss aa ll cc _ (AF hT _)).mono ?_;rintro r wx ⟨rfl,rfl⟩)
  |(go_at_call 100;refine(KV b g m u l2 J 58 _ (D.alloc _) T).mono ?_;rintro r w3 ⟨rfl,s⟩;have c5:=(D.alloc _).below s;have b5:=(s.block d.heap.size aE).trans (AJ _ _);have b7:=(s.block w.heap.size aJ).trans (AF N _);have e3:d.heap.size+1<=w3.heap.size:=(by have:=s.size;simpa using this);obtain⟨iL,iN,iI,b3,d5,c3⟩:=c5.next a9.o (aY.1 T);obtain⟨i0,i1,i2,i3,i4,jf,jb⟩:=b3.facts;have a3:g≠d.heap.size:=aD;have d4:¬d.heap.size=w.heap.size:=aD;have c4:¬w.heap.size=d.heap.size:=aD;have a2:¬b=d.heap.size:=aD;have V:¬d.heap.size=b:=aD;have P:¬b=w.heap.size:=aD;have X:¬w.heap.size=b:=aD)
  |(go_at_call 70;refine(J2 f b g m l2 J _ c3 d3).mono ?_;rintro r w4 ⟨ga,gn,gc,rfl,z,a4⟩;rw[HG.o] at a4;have M:=(z.block d.heap.size aJ (fun e=>by rcases e with e|e;exact V e;exact Dl e.symm)).trans ((cF _ _ _ _ V).trans b5);have O:=(z.block w.heap.size aJ (fun e=>by rcases e with e|e;exact X e;exact Bq e.symm)).trans ((cF _ _ _ _ X).trans b7);have e4:w3.heap.size<=w4.heap.size:=(by have:=z.size;simpa using this);obtain⟨G,acc,Y,F,o,c8,a1⟩:=a4;obtain⟨eL,eI,ea,ec,b2⟩:=Y.aW;obtain⟨m0,m1,m2,m3,m4,mf,mb⟩:=b2.facts;have Ie:G≠some d.heap.size:=F.ne Dl aJ;have Ic:G≠some w.heap.size:=F.ne Bq aJ;have⟨d0,d1,d2⟩:=cJ M;simp at d0 d1 d2;have df:=AE M;have⟨e0,e1,i⟩:=cJ O;simp at e0 e1 i;have ef:=AE O)
  |(go_at_call 71;refine(QY b g G y l3 A 46 _ (Y.setOther _ _ _ a2 a3 Ie) B a8.o (aY.1 a7)).mono ?_;rintro r w5 ⟨rfl,Z,j⟩;obtain⟨wL,wI,wa,wc,b1⟩:=Z.aW;obtain⟨o0,o1,o2,o3,o4,of,ob⟩:=b1.facts;have U:=(j.block d.heap.size (by first|omega|(simp;omega)) aD).trans (AK M 1 _);have W:=(j.block w.heap.size (by first|omega|(simp;omega)) aD).trans ((cF _ _ _ _ c4).trans O);have⟨c0,c1,c2⟩:=cJ U;simp at c0 c1 c2;have cf:=AE U;have⟨g0,g1,g2⟩:=cJ W;simp at g0 g1 g2;have gf:=AE W))
 refine bodyPost_ret (v:= .agg #[.pointer (some ⟨p,0,none⟩),.slice ga gn gc,.int .i64 A.length]) (by simp[results,results69,go_sem, *]) rfl ?_;rw[hS.o];have Q:g≠w.heap.size:=aD;have e5:w4.heap.size<=w5.heap.size:=by have:=j.size;simpa using this
 refine⟨_,_,_,_,_,rfl,(((((((((((((((Kept.refl (May b nb) w).setCell (p:=⟨b,2,none⟩) (.inr (.inl rfl)) _).alloc _).trans (Kept.of_below E (May b nb)) (fun _ _ e=>e)).alloc _).trans C (fun k _ e=>May.none k e)).alloc _).trans (Kept.of_below s (May b nb)) (fun _ _ e=>e)).setCell (p:=⟨b,1,none⟩) (.inr (.inl rfl)) _).trans z (fun k hk e=>by rcases e with e|e;exact Or.inl e;exact absurd (Cb k e.symm) aD)).setCell (p:=⟨d.heap.size,1,none⟩) (.inl (show w.heap.size<=d.heap.size by omega)) _).trans j (fun _ _ e=>Or.inl e)).setCell (p:=⟨d.heap.size,2,none⟩) (.inl (show w.heap.size<=d.heap.size by omega)) _).setCell (p:=⟨w.heap.size,0,none⟩) (.inl (aX _)) _).setCell (p:=⟨w.heap.size,1,none⟩) (.inl (aX _)) _).setCell (p:=⟨w.heap.size,2,none⟩) (.inl (aX _)) _,G,A,(((Z.setOther _ _ _ a2 a3 Ie).setOther _ _ _ P Q Ic).setOther _ _ _ P Q Ic).setOther _ _ _ P Q Ic,fun x e=>?_,⟨a0.keptBy (((((((((((Kept.refl (fun k=>May b m k\/k=w.heap.size) d).alloc _).trans (Kept.of_below s (fun k=>May b m k\/k=w.heap.size)) (fun _ _ e=>e)).setCell (p:=⟨b,1,none⟩) (.inr (.inl (.inl rfl))) _).trans z (fun _ _ e=>Or.inl e)).setCell (p:=⟨d.heap.size,1,none⟩) (.inl (aX _)) _).trans j (fun _ _ e=>Or.inl (Or.inl e))).setCell (p:=⟨d.heap.size,2,none⟩) (.inl (aX _)) _).setCell (p:=⟨w.heap.size,0,none⟩) (.inr (.inr rfl)) _).setCell (p:=⟨w.heap.size,1,none⟩) (.inr (.inr rfl)) _).setCell (p:=⟨w.heap.size,2,none⟩) (.inr (.inr rfl)) _) (fun k _ K=>?_),acc,o.row.keptBy (((((((Kept.refl (fun k=>k=b\/k=d.heap.size\/k=w.heap.size) w4).setCell (p:=⟨d.heap.size,1,none⟩) (.inr (.inr (.inl rfl))) _).trans j (fun _ _ e=>Or.inl e)).setCell (p:=⟨d.heap.size,2,none⟩) (.inr (.inr (.inl rfl))) _).setCell (p:=⟨w.heap.size,0,none⟩) (.inr (.inr (.inr rfl))) _).setCell (p:=⟨w.heap.size,1,none⟩) (.inr (.inr (.inr rfl))) _).setCell (p:=⟨w.heap.size,2,none⟩) (.inr (.inr (.inr rfl))) _) (fun k e i=>?_),fun k e=>?_,fun q hq=>(o.aV q hq).keptBy (((((((Kept.refl (fun k=>k=b\/k=d.heap.size\/k=w.heap.size) w4).setCell (p:=⟨d.heap.size,1,none⟩) (.inr (.inr (.inl rfl))) _).trans j (fun _ _ e=>Or.inl e)).setCell (p:=⟨d.heap.size,2,none⟩) (.inr (.inr (.inl rfl))) _).setCell (p:=⟨w.heap.size,0,none⟩) (.inr (.inr (.inr rfl))) _).setCell (p:=⟨w.heap.size,1,none⟩) (.inr (.inr (.inr rfl))) _).setCell (p:=⟨w.heap.size,2,none⟩) (.inr (.inr (.inr rfl))) _) (fun k _ K=>?_),c8,a1⟩,rfl⟩
 ·rcases F with i|⟨k,i,hk⟩
  ·have:=Cb x (i.symm.trans e);omega
  ·have:=bF (i.symm.trans e);simp at hk;omega
 ·have L:=K.1;have f2:=K.2.1;simp at L;refine⟨fun e=>?_,aD,aJ,F.ne K.2.2 aJ⟩;rcases e with(e|e)|e
  ·omega
  ·exact K.2.2 e.symm
  ·omega
 ·have L:=(o.au k e).1;simp at L;rcases i with i|i|i<;>omega
 ·have L:=(o.au k e).1;have f2:=(o.au k e).2.1;simp at L;exact⟨aD,aJ,(o.au k e).2.2⟩
 ·have L:=K.1.1;have f2:=K.1.2.1;simp at L;exact⟨fun i=>by rcases i with i|i|i<;>omega,aD,aJ,K.1.2.2⟩
theorem ZP(f b g:Nat)(e:Option Nat)(l:List Rf.Tok)(ns:List ByteArray)(w:World)(h:Rd w b g e l ns)(j:l.length<=f):Calls prog 69 #[.pointer (some ⟨b,0,none⟩)] w fun r w'=>GN w b g e (BP f l) r w':=by
 cases l with
 |nil=>exact absurd rfl h.ended.ne
 |cons t l=>
  cases i:AM f (t::l) [] with
  |error x=>exact rA f b g e t l ns w h j x.1 x.2 i
  |ok x=>
   obtain⟨ps,s,a⟩:=x
   cases m:F7 ps
   ·exact qT f b g e t l ns w h j ps s a i m
   ·have q:=VW f _ _ _ _ _ h.ended i
    cases s with
    |nil=>exact absurd rfl q.ne
    |cons u n=>
     cases k: (u.k==63)
     ·cases d: (u.k==58)
      ·cases c: (u.k !=46)
       ·exact WR f b g e t l ns w h j ps u n a i m k d c
       ·exact VC f b g e t l ns w h j ps u n a i m k d c
      ·cases p:BN f 8 [] n a with
       |error x=>exact YW f b g e t l ns w h j ps u n a i m d x.1 x.2 p
       |ok x=>
        obtain⟨gs,z,o⟩:=x;obtain⟨_,y,v,rfl⟩:=RZ f _ _ _ _ _ _ _ p
        cases c: (y.k !=46)
        ·exact b8 f b g e t l ns w h j ps u n a i m d gs y v o p c
        ·exact YF f b g e t l ns w h j ps u n a i m d gs y v o p c
     ·exact yQ f b g e t l ns w h j ps u n a i m k
structure ClV where
 p:Nat
 a:Option Addr
 n:Nat
 c:Nat
 k:Int
def G1(x:ClV):List Value:=[.pointer (some ⟨x.p,0,none⟩),.slice x.a x.n x.c,.int .i64 x.k]
theorem KQ(s:ClV): (G1 s).length=3:=rfl
theorem MU(s:ClV):∀u∈G1 s,u.oneCell'=true:=by
 intro u a;simp only[G1,List.mem_cons,dF,or_false] at a;rcases a with rfl|rfl|rfl<;>rfl
theorem Tryz.Ac:D7 prog 53 114 3 40 (.agg #[.pointer none,.slice none 0 0,.int .i64 0]):=⟨underlying53,aK,rfl,aF,aF⟩
theorem SZ(w:World)(N:Nat)(b:N=w.heap.size)(x y z:Value)(t:TypeId):∀j v,[x,y,z][j]?=some v->(w.alloc (.cells #[x,y,z] t)).cell? ((⟨N,0,none⟩:Addr).add j)=some v:=by
 subst b;intro j v a
 match j,a with
 |0,a=>simp at a;subst a;simp[Addr.add]
 |1,a=>simp at a;subst a;simp[Addr.add]
 |2,a=>simp at a;subst a;simp[Addr.add]
 |(j+3),a=>simp at a
theorem Gj.keptBy{F F' M:Nat->Prop}{w w':World}{p:Nat}{v:Value}{d:Cl}(h:Gj F w p v d)(c:Kept M w w')(a:∀k,k<w.heap.size->F k->¬M k/\F' k):Gj F' w' p v d:=by
 obtain⟨g,acc,b,f,i,j⟩:=h;exact⟨g.keptBy c a,acc,b.keptBy c (fun k e=>(a k (b.lt k e).2 (f k e)).1),fun k e=>(a k (b.lt k e).2 (f k e)).2,fun q l=>(i q l).keptBy c a,j⟩
structure zu(F:Nat->Prop)(w:World)(v:Value)(acc:List (ClV×Cl)):Prop where
 row:aj w 0 114 3 G1 v (acc.map (·.1))
 uy:∀k,v.ownBlock=some k->F k
 cls:∀q∈acc,Gj (fun k=>F k/\v.ownBlock≠some k) w q.1.p (.slice q.1.a q.1.n q.1.c) q.2/\q.1.k=q.2.vars
 none:acc=[]->v= .slice none 0 0
def aDB(w:World)(b g f:Nat)(want:Except (Int×Nat) (List Cl))(m:Nat)(v:Value)(wr:World):Prop:=
  Below w.heap.size w wr/\w.heap.size<=b/\((∃ acc l1 ns1 nb1, l1.length < m /\ m + acc.length <= 402 /\ Rd wr b g nb1 l1 ns1 /\ l1.length <= f /\ (∀ x, nb1 = some x -> w.heap.size <= x) /\ zu (Fb w wr b nb1) wr v acc /\ v.ownBlock ≠ some g /\ Hid (want = CF f m (acc.map (·.2)) l1)) \/
   (∃(e:Int) (q:Nat),m=0/\RdE wr b e q/\Hid (want= .error (e,q))))
theorem zu.below{w f:World}{F F':Nat->Prop}{v:Value}{acc:List (ClV×Cl)}(h:zu F w v acc)(b:Below w.heap.size w f)(o:Obj)(a:∀k,F k->F' k):zu F' (f.alloc o) v acc:=
 ⟨(h.row.below b).alloc o,fun k e=>a k (h.uy k e),fun q d=>⟨(h.cls q d).1.keptBy ((Kept.of_below b (fun _=>False)).alloc o) (fun k _ c=>⟨fun e=>e,a k c.1,c.2⟩),(h.cls q d).2⟩,h.none⟩
theorem zu.mono{w:World}{F F':Nat->Prop}{v:Value}{acc:List (ClV×Cl)}(h:zu F w v acc)(a:∀k,F k->F' k):zu F' w v acc:=
 ⟨h.row,fun k e=>a k (h.uy k e),fun q c=>⟨(h.cls q c).1.keptBy (Kept.refl (fun _=>False) _) (fun k _ b=>⟨fun e=>e,a k b.1,b.2⟩),(h.cls q c).2⟩,h.none⟩
theorem aDg{w j d m:World}{b g:Nat}{P Q:Obj}{nb1 a:Option Nat}{v:Value}{acc:List (ClV×Cl)}{x:ClV}{K:Cl}{l V:List Rf.Tok}{ns F:List ByteArray}{c n L:Nat} (hs:w.heap.size<=j.heap.size) (M:Rd j b g nb1 l ns) (B:zu (Fb w j b nb1) j v acc) (D:Kept (May b nb1) j d) (o:Rd d b g a V F) (s:∀y,a=some y->j.heap.size<=y) (W:Gj (New j d a) d x.p (.slice x.a x.n x.c) K) (J:x.k=K.vars) (E: ((d.alloc P).alloc Q).grownBy m v.ownBlock) (S:Nb ((d.alloc P).alloc Q) v.ownBlock (some c)) (T:aj m 0 114 3 G1 (.slice (some ⟨c,0,none⟩) n L) ((acc.map (·.1))++[x])) (O:v.ownBlock≠some g):zu (Fb w m b a) m (.slice (some ⟨c,0,none⟩) n L) (acc++[(x,K)])/\Rd m b g a V F:=by
 have X:=M.lt.1;have Y:=o.lt.1;have Z:=D.size;have a0:d.heap.size+2<=m.heap.size:=by have:=E.size;simpa using this
 have r:Kept (fun k=>v.ownBlock=some k) d m:=((((Kept.refl (fun k=>v.ownBlock=some k) d).alloc P).alloc Q).grown E (fun k e=> .inr e))
 have N:c<m.heap.size:=(T.lt c rfl).2;have u:∀k,v.ownBlock=some k->k<j.heap.size:=fun k e=>(B.uy k e).2.1
 have p:w.heap.size<=c/\a≠some c/\c≠b:=by
  rcases S with e|⟨k,e,J⟩
  ·have:=B.uy c e.symm;exact⟨this.1,fun z=>by have:=s c z;have:=u c e.symm;omega,this.2.2.2⟩
  ·have:=bF e;simp at J;exact⟨aD,fun z=>by have:=(o.lt.2.2.1 c z).1;omega,aD⟩
 refine⟨⟨by rw[bE];exact T,fun k e=>?_,fun q t=>?_,fun e=>by simp at e⟩,o.keptBy r (fun e=>(B.uy b e).2.2.2 rfl) O (fun k e z=>by have:=s k e;have:=u k z;omega)⟩
 ·obtain rfl:=bF e;exact⟨p.1,N,p.2.1,p.2.2⟩
 ·have i:∀k,k<d.heap.size->v.ownBlock≠some k->(Value.slice (some ⟨c,0,none⟩) n L).ownBlock≠some k:=fun k J h e=>S.ne h aJ e;rcases bO.1 t with t|t
  ·refine⟨((B.cls q t).1.keptBy D (F':=fun k=>Fb w d b a k/\v.ownBlock≠some k) (fun k f C=>?_)).keptBy r (fun k f C=>?_),(B.cls q t).2⟩
   ·obtain⟨⟨G,R,A,H⟩,I⟩:=C;exact⟨fun e=>by rcases e with e|e;exact H e;exact A e.symm,⟨G,aD,fun e=>by have:=s k e;omega,H⟩,I⟩
   ·obtain⟨⟨G,R,A,H⟩,I⟩:=C;exact⟨I,⟨G,aD,A,H⟩,i k f I⟩
  ·simp at t;subst t;refine⟨W.keptBy r (fun k f C=>?_),J⟩;obtain⟨G,R,A⟩:=C;have U:v.ownBlock≠some k:=fun e=>by have:=u k e;omega
   exact⟨U,⟨aD,aD,A,aD⟩,i k f U⟩
def QK(w:World)(res:Except (Int×Nat) (List Cl))(r:Ending)(w':World):Prop:=
  Below w.heap.size w w'/\(match res with
   | .ok cls=>∃v acc,r= .returned (.tuple #[v,.int .i64 0,.int .i64 0])/\zu (fun k=>w.heap.size<=k/\k<w'.heap.size) w' v acc/\cls=acc.map (·.2)
   | .error (e,q)=>r= .returned (.tuple #[.slice none 0 0,.int .i64 e,.int .i64 q])/\e≠0)
theorem kO(s:ByteArray)(w:World)(c:400<s.size)(b:s.size<=maxLen):Calls prog 43 #[.string s] w fun r w'=>QK w (CR s) r w':=by
 have a:Hid (CR s= .error (1,0)):=by unfold Hid CR;rw[bD c]
 unfold maxLen at b;go_enter func43,ntmps43;go_wp2;go_ret3;rw[a.o];exact⟨bZ _ _,rfl,aF⟩
theorem gK(s:ByteArray)(w:World)(hs:s.size<=400):Calls prog 43 #[.string s] w fun r w'=>QK w (CR s) r w':=by
 have hS:Hid (CR s=CF (AU s).length ((AU s).length+1) [] (AU s)):=by unfold Hid CR;rw[bC aD]
 have V: (AU s).length<=401:=by have:=FG s s.size 0;unfold AU;omega
 have M:iq (AU s):=EI s _ _;generalize hL:AU s=L at*;have HL:=aO hL;clear hL;generalize CR s=A at*;have Bc:=aO M;clear M;go_enter func43,ntmps43;go_wp2_with (go_at_call 67;refine(LK s _ hs).mono ?_;rintro r w1 ⟨vT,rfl,u,R⟩;rw[HL.o] at u;obtain⟨N,Ad,rfl,b5,b6,b2,b3⟩:=u.shape.resolve_left (fun x=>Bc.o.ne x.2));generalize S:w1.heap.size=b;have Hb:=aO S;clear S;have c0:=R.size;have T:Hid (N<b):=by have:=Hb.o;unfold Hid;omega
 have G:Hid (w.heap.size<=b):=by have:=Hb.o;unfold Hid;omega
 go_loopg [6,7,8] (L.length+1) (fun m v _ _ wr=>aDB w b N L.length A m v wr)
 case atStart=>
  refine⟨R.alloc aD _,G.o,.inl ⟨[],L,[],none,aD,aJ,⟨Ad,0,.slice none 0 0,L,AZ _ _ _ Hb.o.symm,rfl,Bc.o,V,aj.alloc ⟨FI u.own (fun _ _=>bK _)⟩ _,aj.nil _ _ _ _ _,rfl,by have:=T.o;omega,aE,aE,aE⟩,aX _,(fun x e=>by cases e),⟨aj.nil _ _ _ _ _,(fun k e=>by simp[Value.ownBlock] at e),(fun q hq=>by simp at hq),fun _=>rfl⟩,by simp[Value.ownBlock],hS⟩⟩
 case round=>
  have oz:=aO u;clear u;obtain⟨E,_,a9⟩:=hrel;rcases a9 with⟨acc,l1,I,nb1,a6,b7,K,P,Z,hA,a1,h⟩|⟨e,q,rfl,hE,h⟩
  ·obtain⟨t,l,rfl⟩:∃t l,l1=t::l:=by
    cases l1 with
    |nil=>exact absurd rfl K.ended.ne
    |cons t l=>exact⟨t,l,rfl⟩
   obtain⟨m',rfl⟩:∃m',gk=m'+1:=⟨gk-1,aD⟩
   obtain⟨yL,yI,ya,yn,yc,C⟩:=K.err;obtain⟨y0,y1,y2,y3,y4,yf,yb⟩:=C.facts;clear C;have Dz:=E.size
   cases a0: (t.k==0)
   ·have e0:t.k≠0:=aY.1 a0
    cases g:BP L.length (t::l) with
    |error x=>
     obtain⟨e,q⟩:=x;have H:Hid (A= .error (e,q)):=by unfold Hid;rw[h.o,CF,bC e0,g]
     have HR:=aO g;clear g e0
     go_wp2_with (first
      |(go_at_call 68;refine(CO b N nb1 t l I _ K).mono ?_;rintro r J ⟨rfl,d⟩;have D:=(K.below d).alloc (.cells #[.int .u8 t.k,.int .i64 t.at_,.string t.s,.int .i64 t.e] 149);have f:zu (Fb w (J.alloc (.cells #[.int .u8 t.k,.int .i64 t.at_,.string t.s,.int .i64 t.e] 149)) b nb1) (J.alloc (.cells #[.int .u8 t.k,.int .i64 t.at_,.string t.s,.int .i64 t.e] 149)) u6 acc:=hA.below d _ (fun k y=>⟨y.1,by have:=d.size;have:=y.2.1;simp;omega,y.2.2⟩))
      |(go_at_call 69;refine(ZP L.length b N nb1 (t::l) I _ D P).mono ?_;rintro r w3 ⟨p,a,n,c,kk,rfl,o,W⟩;rw[HR.o] at W;have a8:=o.size;have Dw:=f.row.keptBy o (fun k e B=>by rcases B with B|B;exact(f.uy k e).2.2.2 B;exact(f.uy k e).2.2.1 B.symm))
      |(at_builtin;refine AY Tryz.Ac G1 KQ MU _ rfl (.tmp 29) (.tmp 31) rfl 0 _ (acc.map (·.1)) rfl ((Dw.alloc _).alloc _) ⟨_,0,none⟩ 1 (⟨p,a,n,c,kk⟩:ClV) rfl (SZ _ _ aE _ _ _ _) aJ (bK _) ?_;intro gA gu w4 j iy qm;rw[aZ] at j))
     go_roundg 0
     case measure=>omega
     case rel=>
      have a7:=d.size;have z:w.heap.size<=(J.alloc (.cells #[.int .u8 t.k,.int .i64 t.at_,.string t.s,.int .i64 t.e] 149)).heap.size:=aJ
      have i:Below w.heap.size w w3:=((E.trans (d.mono Dz)).alloc aD _).trans (o.below z (fun k y e=>by
       rcases e with e|e
       ·have:=G.o;omega
       ·have:=Z k e.symm;omega))
      have O:Below w.heap.size w w4:=((i.alloc i.size _).alloc (by have:=i.size;simp;omega) _).grown iy (by have:=i.size;simp;omega) (fun k e=>(f.uy k e).1);refine⟨O,G.o,.inr ⟨e,q,rfl,RdE.keptBy W ((((Kept.refl (fun k=>u6.ownBlock=some k) w3).alloc _).alloc _).grown iy (fun k e=> .inr e)) (fun e=>(f.uy b e).2.2.2 rfl),H⟩⟩
    |ok x=>
     obtain⟨cl,l'⟩:=x;have F:=MP g;have H:Hid (A=CF L.length m' (acc.map (·.2)++[cl]) l'):=by unfold Hid;rw[h.o,CF,bC e0,g]
     have HR:=aO g;clear g e0
     go_wp2_with (first
      |(go_at_call 68;refine(CO b N nb1 t l I _ K).mono ?_;rintro r J ⟨rfl,d⟩;have D:=(K.below d).alloc (.cells #[.int .u8 t.k,.int .i64 t.at_,.string t.s,.int .i64 t.e] 149);have f:zu (Fb w (J.alloc (.cells #[.int .u8 t.k,.int .i64 t.at_,.string t.s,.int .i64 t.e] 149)) b nb1) (J.alloc (.cells #[.int .u8 t.k,.int .i64 t.at_,.string t.s,.int .i64 t.e] 149)) u6 acc:=hA.below d _ (fun k y=>⟨y.1,by have:=d.size;have:=y.2.1;simp;omega,y.2.2⟩))
      |(go_at_call 69;refine(ZP L.length b N nb1 (t::l) I _ D P).mono ?_;rintro r w3 ⟨p,a,n,c,kk,rfl,o,W⟩;rw[HR.o] at W;have a8:=o.size;have Dw:=f.row.keptBy o (fun k e B=>by rcases B with B|B;exact(f.uy k e).2.2.2 B;exact(f.uy k e).2.2.1 B.symm);obtain⟨b0,b1,Q,X,a4,U⟩:=W;have a2:=aO U;clear U)
      |(at_builtin;refine AY Tryz.Ac G1 KQ MU _ rfl (.tmp 29) (.tmp 31) rfl 0 _ (acc.map (·.1)) rfl ((Dw.alloc _).alloc _) ⟨_,0,none⟩ 1 (⟨p,a,n,c,kk⟩:ClV) rfl (SZ _ _ aE _ _ _ _) aJ (bK _) ?_;intro gA gu w4 j iy qm;rw[aZ] at j))
     go_roundg m'
     case measure=>omega
     case rel=>
      have a7:=d.size;have z:w.heap.size<=(J.alloc (.cells #[.int .u8 t.k,.int .i64 t.at_,.string t.s,.int .i64 t.e] 149)).heap.size:=aJ
      have i:Below w.heap.size w w3:=((E.trans (d.mono Dz)).alloc aD _).trans (o.below z (fun k y e=>by
       rcases e with e|e
       ·have:=G.o;omega
       ·have:=Z k e.symm;omega))
      have O:Below w.heap.size w w4:=((i.alloc i.size _).alloc (by have:=i.size;simp;omega) _).grown iy (by have:=i.size;simp;omega) (fun k e=>(f.uy k e).1);obtain⟨a3,a5⟩:=aDg z D f o Q X a4 a2.o iy qm j a1;refine⟨O,G.o,.inl ⟨acc++[(⟨p,a,n,c,kk⟩,cl)],l',b1,b0,?_,?_,a5,?_,fun x e=>?_,a3,?_,?_⟩⟩
      ·simp only[bM] at F a6;omega
      ·simp;omega
      ·simp only[bM] at F P;omega
      ·have:=X x e;omega
      ·exact qm.ne a1 (by have:=T.o;have:=Q.lt.1;simp;omega)
      ·have h9:=H.o;simp only[List.map_append,List.map_cons,List.map_nil];exact h9
   ·have H:Hid (A= .ok (acc.map (·.2))):=by unfold Hid;rw[h.o,CF,bD (bT a0)]
    go_wp2_with (go_at_call 68;refine(CO b N nb1 t l I _ K).mono ?_;rintro r J ⟨rfl,d⟩;have D:=(K.below d).alloc (.cells #[.int .u8 t.k,.int .i64 t.at_,.string t.s,.int .i64 t.e] 149);have f:zu (Fb w (J.alloc (.cells #[.int .u8 t.k,.int .i64 t.at_,.string t.s,.int .i64 t.e] 149)) b nb1) (J.alloc (.cells #[.int .u8 t.k,.int .i64 t.at_,.string t.s,.int .i64 t.e] 149)) u6 acc:=hA.below d _ (fun k y=>⟨y.1,by have:=d.size;have:=y.2.1;simp;omega,y.2.2⟩));go_ret3;rw[H.o];exact⟨(E.trans (d.mono Dz)).alloc (by have:=d.size;omega) _,_,acc,rfl,f.mono (fun k y=>⟨y.1,y.2.1⟩),rfl⟩
  ·obtain⟨yL,yI,ya,yn,yc,C,Y⟩:=hE.ex;obtain⟨y0,y1,y2,y3,y4,yf,yb⟩:=C.facts;have b4: (e==0)=false:=aY.2 Y;clear C;go_wp2_with fail;go_region;go_wp2_with fail;go_ret3;rw[h.o];exact⟨E.drew,rfl,Y⟩
theorem QM(s:ByteArray)(w:World)(a:s.size<=maxLen):Calls prog 43 #[.string s] w fun r w'=>QK w (CR s) r w':=by
 by_cases h:400<s.size
 ·exact kO s w h a
 ·exact gK s w aD
theorem cu.wf{F:Nat->Prop}{w:World}:∀{d p:Nat} {ps:List AB},cu F w d p ps->Wf d ps
 |0,_,_,h=>h.elim
 |d+1,p,ps,h=>by
  rcases h.2 with⟨i,_,e⟩|⟨n,_,e⟩|⟨s,_,e⟩|⟨s,v,qs,_,_,_,a,_,b,e⟩
  ·exact .inl ⟨_,e,rfl⟩
  ·exact .inl ⟨_,e,rfl⟩
  ·exact .inl ⟨_,e,rfl⟩
  ·refine .inr ⟨s,qs.map (·.2),by simpa using a,fun q c=>?_,by rw[e];simp⟩;obtain⟨x,hx,rfl⟩:=bQ.1 c;exact cu.wf (b x hx)
theorem cu.lt{F:Nat->Prop}{w:World}{d p:Nat}{ps:List AB}(h:cu F w d p ps):cu (fun k=>F k/\k<w.heap.size) w d p ps:=h.keptBy (Kept.refl (fun _=>False) w) (fun _ b a=>⟨fun e=>e,a,b⟩)
theorem cu.mono{F F':Nat->Prop}{w:World}{d p:Nat}{ps:List AB}(h:cu F w d p ps)(b:∀k,k<w.heap.size->F k->F' k):cu F' w d p ps:=h.keptBy (Kept.refl (fun _=>False) w) (fun k c a=>⟨fun e=>e,b k c a⟩)
theorem dn.mono{F F':Nat->Prop}{w:World}{p:Nat}{ps:List AB}(h:dn F w p ps)(a:∀k,k<w.heap.size->F k->F' k):dn F' w p ps:=⟨_,h.choose_spec.mono a⟩
theorem cu.over{F F':Nat->Prop}{w w':World}{d p:Nat}{ps:List AB}(h:cu F w d p ps)(c:Below w.heap.size w w')(b:∀k,k<w.heap.size->F k->F' k):cu F' w' d p ps:=h.keptBy (Kept.of_below c (fun _=>False)) (fun k f a=>⟨fun e=>e,b k f a⟩)
theorem dn.over{F F':Nat->Prop}{w w':World}{p:Nat}{ps:List AB}(h:dn F w p ps)(b:Below w.heap.size w w')(a:∀k,k<w.heap.size->F k->F' k):dn F' w' p ps:=⟨_,h.choose_spec.over b a⟩
theorem dn.ptrLt{F:Nat->Prop}{w:World}{p:Nat}{ps:List AB}(h:dn F w p ps):F p/\p<w.heap.size:=by
 obtain⟨d,h⟩:=h
 cases d with
 |zero=>exact h.elim
 |succ d=>exact⟨h.1,h.lt.1.2⟩
structure Mk(F:Nat->Prop)(B:Nat)(wr:World)(X:Nat)(s:ByteArray)(vA:Value)(acc:List (Nat×List AB)):Prop where
 blk:TmB wr X 99 0 s vA
 new:B<=X
 apart:vA.ownBlock≠some X
 row:aj wr 0 100 1 BQ vA (acc.map (·.1))
 au:∀k,vA.ownBlock=some k->B<=k
 aS:∀q∈acc,dn (fun k=>F k/\vA.ownBlock≠some k/\k≠X) wr q.1 q.2
theorem Mk.over{F:Nat->Prop}{B:Nat}{wr c:World}{X:Nat}{s:ByteArray}{b:Value}{acc:List (Nat×List AB)}(h:Mk F B wr X s b acc)(a:Below wr.heap.size wr c):Mk F B c X s b acc:=
 ⟨(a.block X (AD h.blk)).trans h.blk,h.new,h.apart,h.row.below a,h.au,fun q d=>(h.aS q d).over a (fun _ _ e=>e)⟩
theorem Mk.push{F:Nat->Prop}{B:Nat}{f i:World}{o:Obj}{X:Nat}{s:ByteArray}{d:Value}{acc:List (Nat×List AB)}{p:Nat}{ps:List AB}{a n g:Nat}(h:Mk F B f X s d acc) (G:dn (fun k=>F k/\d.ownBlock≠some k/\k≠X) f p ps) (y: (f.alloc o).grownBy i d.ownBlock) (u:Nb (f.alloc o) d.ownBlock (some a)) (H:aj i 0 100 1 BQ (.slice (some ⟨a,0,none⟩) n g) ((acc.map (·.1))++[p])):Mk F B (i.setCell ⟨X,3,none⟩ (.slice (some ⟨a,0,none⟩) n g)) X s (.slice (some ⟨a,0,none⟩) n g) (acc++[(p,ps)])/\(∀v:World,Below B v f->Below B v (i.setCell ⟨X,3,none⟩ (.slice (some ⟨a,0,none⟩) n g))):=by
 have I:=AD h.blk;have C:=h.new;have b:Kept (fun k=>k=X\/d.ownBlock=some k) f (i.setCell ⟨X,3,none⟩ (.slice (some ⟨a,0,none⟩) n g)):=(((Kept.refl (fun k=>k=X\/d.ownBlock=some k) f).alloc o).grown y (fun _ e=> .inr (.inr e))).setCell (p:=⟨X,3,none⟩) (.inr (.inl rfl)) _;have l:a≠X:=fun e=>u.ne h.apart aJ (by rw[e])
 have r:B<=a:=by
  rcases u with e|⟨k,e,b⟩
  ·exact h.au a e.symm
  ·have:=bF e;simp at b;omega
 have m:TmB i X 99 0 s d:=(y.block X aJ (fun e=>h.apart e.symm)).trans (AF h.blk o)
 have z:∀q qs,dn (fun k=>F k/\d.ownBlock≠some k/\k≠X) f q qs->dn (fun k=>F k/\(Value.slice (some ⟨a,0,none⟩) n g).ownBlock≠some k/\k≠X) (i.setCell ⟨X,3,none⟩ (.slice (some ⟨a,0,none⟩) n g)) q qs:=by
  intro q qs c;refine c.keptBy b (fun k E D=>?_);obtain⟨A,w,x⟩:=D;exact⟨fun e=>by rcases e with e|e;exact x e;exact w e,A,fun e=>u.ne w aJ e,x⟩
 refine⟨⟨AK m 3 _,C,fun e=>l (bF e),?_,fun k e=>?_,fun q c=>?_⟩,fun v j=>⟨b.os.trans j.os,b.tape.trans j.tape,b.output.trans j.output,bN j.size b.size,fun k t=>?_⟩⟩
 ·rw[bE];exact H.setCell _ _ (fun e=>l (bF e))
 ·obtain rfl:=bF e;exact r
 ·rcases bO.1 c with c|c
  ·exact z _ _ (h.aS q c)
  ·simp at c;subst c;exact z _ _ G
 ·refine(b.block k aD (fun e=>?_)).trans (j.block k t);rcases e with e|e
  ·omega
  ·have:=h.au k e;omega
theorem Mk.done{F:Nat->Prop}{B:Nat}{wr:World}{X:Nat}{s:ByteArray}{j:Value}{acc:List (Nat×List AB)}(h:Mk F B wr X s j acc)(c:∀k,B<=k->F k)(o:1<=acc.length)(p:acc.length<=4):dn F wr X (⟨3,s,0,acc.length⟩::(acc.map (·.2)).flatten):=by
 have i:∀(l:List (Nat×List AB)),(∀q∈l,dn (fun k=>F k/\j.ownBlock≠some k/\k≠X) wr q.1 q.2)->∃d,∀q∈l,cu F wr d q.1 q.2:=by
  intro l
  induction l with
  |nil=>exact fun _=>⟨0,fun q b=>by simp at b⟩
  |cons a l r=>
   intro m;obtain⟨d,f⟩:=r (fun q b=>m q (bA _ b));obtain⟨n,g⟩:=m a List.mem_cons_self;refine⟨max d n,fun q b=>?_⟩;rcases bP.1 b with rfl|b
   ·exact(g.mono (fun k _ c=>c.1)).up aD
   ·exact(f q b).up aD
 obtain⟨d,f⟩:=i acc h.aS;exact⟨d+1,c _ h.new,.inr (.inr (.inr ⟨s,j,acc,h.blk,h.row,fun k e=>c k (h.au k e),o,p,f,rfl⟩))⟩
theorem Mk.start(F:Nat->Prop){w:World}{B X:Nat}{s:ByteArray}(h:TmB w X 99 0 s (.slice none 0 0))(a:B<=X):Mk F B w X s (.slice none 0 0) []:=
 ⟨h,a,by simp[Value.ownBlock],aj.nil _ _ _ _ _,fun k e=>by simp[Value.ownBlock] at e,fun q b=>by simp at b⟩
end Go.Proofs.Q
