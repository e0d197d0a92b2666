import Derived.Test.YthenokfmcjmfkaaGreatDoorYbj
set_option maxRecDepth 100000
set_option maxHeartbeats 8000000
namespace Go.Proofs.Q
open Rf _root_.Go.Proofs.Tryz
open Go.RowKit
theorem W1(w:World)(y N:Nat)(K:Int)(x E B C D:Value)(lim z:Int)(d:Bool)(cs:List Cl)(cf:Cf)(l m f:Option Addr)(u n v o i g:Nat)(F:RsB w y x lim d E B C D z)(q:vw w x cs)(s:∀c∈cs,Rf.ClG c/\(AI c.head).kind=3)(p:yw cs)(G:jk w (.slice f i g) cf.chs.reverse)(A:CfD cs N K cf)(I:N<=20000)(H:K<=1000000000000000):Calls prog 48 #[.pointer (some ⟨y,0,none⟩),.agg #[.slice l u n,.slice m v o,.slice f i g,.int .i64 cf.now.aQ]] w fun r w'=>ig w (BB cs cf) r w':=by
 obtain⟨now,chs⟩:=cf
 cases chs with
 |nil=>exact wY w y cs ⟨now,[]⟩ l m f u n v o i g G rfl
 |cons c b=>
  have J:b.length+1<=20:=A.len;have j:=A.chs c aE;have t:Rf.StG N K (atF now.aQ c.st):=j.1.atF A.now.f1
  have a:jk w (.slice f i g) (b.reverse++[c]):=by
   have e: (c::b).reverse=b.reverse++[c]:=List.reverse_cons;rw[<-e];exact G
  obtain⟨st,cls⟩:=c
  match cls,j,a with
  |[],_,a=>exact aAW w y cs now st b l m f u n v o i g a aD
  |[k],j,a=>
   have h:=j.2.1 k aE;exact aAn w y k N K x E B C D lim z d cs now st b l m f u n v o i g F q h (s _ (bG h)).1 (p _ (bG h)) a aD t I H
  |k::k2::ks,j,a=>
   have h:=j.2.1 k aE;exact rV w y k k2 N ks K x E B C D lim z d cs now st b l m f u n v o i g F q h (s _ (bG h)).1 (p _ (bG h)) a aD t I H
theorem JQ{w:World}{N:Nat}{f c1 g i u0 u1 u2 u3:Value}(h:w.heap[N]?=some (.cells #[f,c1,g,i] 59 (0,0))):∃b:World,Hid (b=((((w.setCell ⟨N,0,none⟩ u0).setCell ⟨N,1,none⟩ u1).setCell ⟨N,2,none⟩ u2).setCell ⟨N,3,none⟩ u3))/\DK AW w b/\b.heap[N]?=some (.cells #[u0,u1,u2,u3] 59 (0,0))/\Kept (fun k=>k=N) w b:=by
 refine⟨_,rfl,?_,EU h,((((Kept.refl (fun k=>k=N) w).setCell (p:=⟨N,0,none⟩) (.inr rfl) _).setCell (p:=⟨N,1,none⟩) (.inr rfl) _).setCell (p:=⟨N,2,none⟩) (.inr rfl) _).setCell (p:=⟨N,3,none⟩) (.inr rfl) _⟩;have a:¬AW 59:=by unfold AW;decide
 have c:=AK h 0 u0;have d:=AK c 1 u1;have e:=AK d 2 u2;exact(((DK.setCell h a 0 u0).trans (DK.setCell c a 1 u1)).trans (DK.setCell d a 2 u2)).trans (DK.setCell e a 3 u3)
theorem StR.doc{w w':World}{v:Value}{r:Int×Cf}(h:StR w v r)(a:DK AW w w'):StR w' v r:=by
 obtain⟨d,m,i,f,n,j,c,l,g,e,k,b⟩:=h;exact⟨d,m,i,f,n,j,c,l,g,e,k.doc a,fun x=>⟨(b x).1.doc a,(b x).2.doc a⟩⟩
theorem StR.code{w:World}{v:Value}{k k':Int}{cf:Cf}(h:StR w v (k,cf))(a:k=0\/k=1\/(k'≠0/\k'≠1)):StR w v (k',cf):=by
 obtain⟨c,n,g,d,o,i,b,m,f,e,j,l⟩:=h;refine⟨c,n,g,d,o,i,b,m,f,e,j,fun x=>l ?_⟩;have x':k'=0\/k'=1:=x;show k=0\/k=1;rcases a with a|a|a
 ·exact .inl a
 ·exact .inr a
 ·omega
structure aCY(w:World)(y:Nat)(cs:List Cl)(want:Int×Cf)(k:Nat)(cf:Cf)(N:Nat)(K:Int)(wr:World)(u0 u1 u2:Value):Prop where
 want:DB cs k cf=want
 S:wr.heap[w.heap.size]?=some (.cells #[u0,u1,u2,.int .i64 cf.now.aQ] 59 (0,0))
 R:wr.heap[w.heap.size+1]?=some (.cells #[.slice none 0 0,.slice none 0 0,.slice none 0 0,.int .i64 0] 59 (0,0))
 b:Below w.heap.size w wr
 G:DGs wr u0 cf.now.aV
 T:DTs wr u1 cf.now.aS
 C:jk wr u2 cf.chs.reverse
 D:CfD cs N K cf
 N1:N+14*k<=20000
 K1:K+32*k<=1000000000000000
theorem oR(w:World)(y N0:Nat)(K0:Int)(vL vN v4 v5 v6:Value)(lim fr:Int)(d4:Bool)(cs:List Cl)(j:Cf)(n:Nat)(aG aT aC:Option Addr)(nG cG nT cT nC cC:Nat)(hB:RsB w y vL lim d4 vN v4 v5 v6 fr)(g6:vw w vL cs)(hl:cs.length<=30)(h6:∀c∈cs,Rf.ClG c/\(AI c.head).kind=3)(h5:Ba cs)(g5:yw cs)(hG:DGs w (.slice aG nG cG) j.now.aV)(hT:DTs w (.slice aT nT cT) j.now.aS)(hC:jk w (.slice aC nC cC) j.chs.reverse)(hD:CfD cs N0 K0 j)(hN:N0+14*n<=20000)(hK:K0+32*n<=1000000000000000)(hn:n<=1000):Calls prog 46 #[.pointer (some ⟨y,0,none⟩),.agg #[.slice aG nG cG,.slice aT nT cT,.slice aC nC cC,.int .i64 j.now.aQ],.int .i64 (n:Nat)] w fun r w'=>ig w (DB cs n j) r w':=by
 obtain⟨w5,i5,c4,h7,h0,g9⟩:=JW w (.slice aG nG cG) (.slice aT nT cT) (.slice aC nC cC) (.int .i64 j.now.aQ);have yl:=AD hB;have HB:=aO hB;have f6:=aO g6;have g4:=aO h6;have d5:=aO g5;have f9:=aO h5;have f8:Hid (aCY w y cs (DB cs n j) n j N0 K0 w5 (.slice aG nG cG) (.slice aT nT cT) (.slice aC nC cC)):=⟨rfl,h0,g9,c4,hG.doc (DK.below c4),hT.doc (DK.below c4),hC.doc (DK.below c4),hD,hN,hK⟩
 have k3: (n:Int)<=1000:=aD;clear hB g6 h6 g5 h5 hG hT hC hD h0 g9 c4 hN hK;generalize h8:DB cs n j=i at*;clear h8;go_enter func46,ntmps46;go_wp2_with fail;rw[<-i5.o];go_loopg [2,8,9] (n+1) (fun m lv _ _ wr=>∃(k:Nat) (cf:Cf) (N:Nat) (K:Int) (a0:Option Addr) (n0 c0:Nat) (a1:Option Addr) (n1 c1:Nat) (a2:Option Addr) (n2 c2:Nat),m=k+1/\lv= .int .i64 (k:Nat)/\k<=n/\Hid (aCY w y cs i k cf N K wr (.slice a0 n0 c0) (.slice a1 n1 c1) (.slice a2 n2 c2)))
 case atStart=>exact⟨n,j,N0,K0,_,_,_,_,_,_,_,_,_,rfl,rfl,aX _,f8⟩
 case round=>
  clear f8 h7;obtain⟨k,cf,N,K,a0,n0,c0,a1,n1,c1,a2,n2,c2,rfl,rfl,hk,d⟩:=hrel;have hS:=d.o.S;have hR:=d.o.R;have⟨s0,s1,s2,s3⟩:=cM hS;have sf:=AE hS;have sl:=AD hS;have⟨r0,r1,r2,r3⟩:=cM hR;have rf:=AE hR;have rl:=AD hR;simp at s0 s1 s2 s3 r0 r1 r2 r3;have c7:n0=cf.now.aV.length:=by obtain⟨a9,c9,e⟩:=jo.slice d.o.G;injection e
  clear hS hR;by_cases x:cf.now.aV=[]
  ·have E:n0=0:=by rw[c7,x];rfl
   subst E;have HW:Hid (i=(1,cf)):=by unfold Hid;rw[<-d.o.want];unfold DB;rw[bD x]
   clear c7 x;go_wp2_with fail;obtain⟨w8,e9,c6,e4,e8⟩:=JQ (u0:= .slice a0 0 c0) (u1:= .slice a1 n1 c1) (u2:= .slice a2 n2 c2) (u3:= .int .i64 cf.now.aQ) d.o.R;rw[<-e9.o];have⟨z0,z1,z2,z3⟩:=cM e4;simp at z0 z1 z2 z3;refine bodyPost_ret (v:= .tuple #[.agg #[.slice a0 0 c0,.slice a1 n1 c1,.slice a2 n2 c2,.int .i64 cf.now.aQ],.int .i64 1]) (by simp[results,results46,go_sem,z0,z1,z2,z3]) rfl ?_;have e6:Below w.heap.size w w8:=d.o.b.trans (e8.below d.o.b.size (fun k hk e=>by have e':k=w.heap.size+1:=e;omega));rw[HW.o];exact⟨_,rfl,⟨_,_,_,_,_,_,_,_,_,rfl,d.o.C.doc c6,fun _=>⟨d.o.G.doc c6,d.o.T.doc c6⟩⟩,e6⟩
  ·have i7:0<n0:=by rw[c7];exact List.length_pos_iff.2 x
   have i2: (0:Int)<n0:=aD;have k5: ((n0:Int)==0)=false:=by rw[aY];omega
   cases k with
   |zero=>
    have HW:Hid (i=(5,cf)):=by unfold Hid;rw[<-d.o.want];unfold DB;rw[bC x]
    clear c7 x;go_wp2_with fail;obtain⟨w8,e9,c6,e4,e8⟩:=JQ (u0:= .slice a0 n0 c0) (u1:= .slice a1 n1 c1) (u2:= .slice a2 n2 c2) (u3:= .int .i64 cf.now.aQ) d.o.R;rw[<-e9.o];have⟨z0,z1,z2,z3⟩:=cM e4;simp at z0 z1 z2 z3;refine bodyPost_ret (v:= .tuple #[.agg #[.slice a0 n0 c0,.slice a1 n1 c1,.slice a2 n2 c2,.int .i64 cf.now.aQ],.int .i64 5]) (by simp[results,results46,go_sem,z0,z1,z2,z3]) rfl ?_;have e6:Below w.heap.size w w8:=d.o.b.trans (e8.below d.o.b.size (fun k hk e=>by have e':k=w.heap.size+1:=e;omega));rw[HW.o];exact⟨_,rfl,StR.stay (d.o.C.doc c6) aF aF,e6⟩
   |succ k=>
    have d7:Hid (Calls prog 73 #[.pointer (some ⟨y,0,none⟩),.agg #[.slice a0 n0 c0,.slice a1 n1 c1,.slice a2 n2 c2,.int .i64 cf.now.aQ]] wr fun r w'=>ig wr (Rf.takeD cs cf) r w'):=aCP wr y N K vL vN v4 v5 v6 lim fr d4 cs cf a0 a1 a2 n0 c0 n1 c1 n2 c2 ((d.o.b.block y yl).trans HB.o) (f6.o.doc (DK.below d.o.b)) hl g4.o d5.o d.o.G d.o.T d.o.C d.o.D (by have:=d.o.N1;omega) (by have:=d.o.K1;omega) x
    have u:Hid (i=if(FP cs (Rf.takeD cs cf)).1≠0 then FP cs (Rf.takeD cs cf) else DB cs k (FP cs (Rf.takeD cs cf)).2):=by
     unfold Hid;rw[<-d.o.want];conv=>lhs;unfold DB;rw[bC x]
    have f7:Hid (CfD cs (N+7) (K+16) (Rf.takeD cs cf).2):=XK f9.o d5.o d.o.D x;have d6:Hid (CfD cs (N+14) (K+32) (FP cs (Rf.takeD cs cf)).2):=(Y4 f9.o d5.o f7.o).mono aD aD;have j1:=d.o.N1;have j0:=d.o.K1;have k1: ((k:Int)+1==0)=false:=by rw[aY];omega
    have k2: (k:Int)+1<=1000:=aD;obtain⟨i1,i6⟩:=kM cs cf;clear c7 x r0 r1 r2 r3 rf;by_cases hm: (Rf.takeD cs cf).1=-1
    ·have hf:FP cs (Rf.takeD cs cf)=BB cs (Rf.takeD cs cf).2:=by unfold FP;rw[bD hm]
     rw[hf] at u d6;have h:CM (Rf.takeD cs cf).1=2:=by rw[hm];rfl
     have f5:Hid (∀X:World,Below w.heap.size w X->∀b0 m0 d0 b1 m1 d1 b2 m2 d2 z,StR X (.agg #[.slice b0 m0 d0,.slice b1 m1 d1,.slice b2 m2 d2,.int .i64 z]) (Rf.takeD cs cf)->Calls prog 48 #[.pointer (some ⟨y,0,none⟩),.agg #[.slice b0 m0 d0,.slice b1 m1 d1,.slice b2 m2 d2,.int .i64 z]] X fun r w'=>ig X (BB cs (Rf.takeD cs cf).2) r w'):=fun X hX b0 m0 d0 b1 m1 d1 b2 m2 d2 z i4=>by
      obtain⟨_,_,_,_,_,_,_,_,_,e,h1,_⟩:=i4;injection e with e;simp at e;obtain⟨_,_,⟨rfl,rfl,rfl⟩,rfl⟩:=e;exact W1 X y (N+7) (K+16) vL vN v4 v5 v6 lim fr d4 cs _ b0 b1 b2 m0 d0 m1 d1 m2 d2 ((hX.block y yl).trans HB.o) (f6.o.doc (DK.below hX)) g4.o d5.o h1 f7.o aD aD
     have k4:=PL cs (Rf.takeD cs cf).2;by_cases E: (BB cs (Rf.takeD cs cf).2).1=0
     ·have En:CM (BB cs (Rf.takeD cs cf).2).1=0:=by rw[E];rfl
      have HW:Hid (i=DB cs k (BB cs (Rf.takeD cs cf).2).2):=by unfold Hid;rw[u.o,bC (by rw[E];decide)]
      have HZ:=aO E;clear u E hf hm;go_wp2_with (first|(have i3:=e3;go_at_call 48;refine(f5.o _ (f.o.alloc f.o.size _) _ _ _ _ _ _ _ _ _ _ (ny.o.doc (DK.below ((bZ _ J).alloc (aX _) _)))).mono ?_;rintro r w6 D;obtain⟨R,a5,Y,S,a6,Z,T,a7,a3,b5,c8,Ji,s⟩:=ig.agg D;rw[En] at c8;subst c8;clear D;have Qa:=aO Ji;have q:=(s.block J.heap.size aE).trans (AJ J _);have p:=(s.block w.heap.size aJ).trans (AF M.o _);have l:=(s.block (w.heap.size+1) aJ).trans (AF C.o _);have⟨d0,d1,d2,d3⟩:=cM q;have df:=AE q;have dl:=AD q;have⟨f0,f1,f2,f3⟩:=cM p;have ff:=AE p;have fl:=AD p;have⟨g0,g1,g2,g3⟩:=cM l;have gf:=AE l;have gl:=AD l;simp at d0 d1 d2 d3 f0 f1 f2 f3 g0 g1 g2 g3;have e2:=aO q;have e1:=aO p;have c3:=aO l;have b7:Hid (Below w.heap.size w w6):=(f.o.alloc f.o.size _).trans (s.mono (by have:=f.o.size;simp;omega));clear q p l s Ji)|(go_at_call 73;refine d7.o.mono ?_;rintro r J D;obtain⟨O,a8,U,P,b3,V,Q,b4,W,b6,t,jm,g⟩:=ig.agg D;rw[h] at t;subst t;clear D;have ny:=aO jm;have b:=(g.block _ sl).trans d.o.S;have a:=(g.block _ rl).trans d.o.R;have⟨p0,p1,p2,p3⟩:=cM b;have pf:=AE b;have pl:=AD b;have⟨q0,q1,q2,q3⟩:=cM a;have qf:=AE a;have ql:=AD a;simp at p0 p1 p2 p3 q0 q1 q2 q3;have M:=aO b;have C:=aO a;have f:Hid (Below w.heap.size w J):=d.o.b.trans (g.mono d.o.b.size);clear b a g jm;have e3:=f));obtain⟨wA,f4,e7,i0,a4⟩:=JQ (u0:= .slice R a5 Y) (u1:= .slice S a6 Z) (u2:= .slice T a7 a3) (u3:= .int .i64 b5) e2.o;have h9:=(a4.block w.heap.size (AD e1.o) aD).trans e1.o;have d8:=(a4.block (w.heap.size+1) (AD c3.o) aD).trans c3.o;obtain⟨L,I,H,e5,B⟩:=JQ (u0:= .slice R a5 Y) (u1:= .slice S a6 Z) (u2:= .slice T a7 a3) (u3:= .int .i64 b5) h9;rw[<-f4.o,<-I.o];have F:=(B.block (w.heap.size+1) (AD d8) aD).trans d8;have c5:Below w.heap.size w wA:=b7.o.trans (a4.below b7.o.size (fun k hk e=>by have e':k=J.heap.size:=e;omega));have A:Below w.heap.size w L:=c5.trans (B.below c5.size (fun k hk e=>by have e':k=w.heap.size:=e;omega));obtain⟨_,_,_,_,_,_,_,_,_,e,h1,h2⟩:=(Qa.o.doc e7).doc H;obtain⟨h3,h4⟩:=h2 (.inl HZ.o);injection e with e;simp at e;obtain⟨⟨rfl,rfl,rfl⟩,⟨rfl,rfl,rfl⟩,⟨rfl,rfl,rfl⟩,rfl⟩:=e;go_roundg (k+1)
      case measure=>omega
      case rel=>exact⟨k,(BB cs (Rf.takeD cs cf).2).2,N+14,K+32,_,_,_,_,_,_,_,_,_,rfl,by go_num,aD,⟨HW.o.symm,e5,F,A,h3,h4,h1,d6.o,aD,aD⟩⟩
     ·have hX:CM (BB cs (Rf.takeD cs cf).2).1≠0:=by unfold CM;split<;>omega
      have HW:Hid (i=BB cs (Rf.takeD cs cf).2):=by unfold Hid;rw[u.o,bD E]
      have i9:Hid (∀c,(BB cs (Rf.takeD cs cf).2).1=c->c≠0):=fun c e=>e ▸ E;obtain⟨X,HX⟩:∃X,Hid (CM (BB cs (Rf.takeD cs cf).2).1=X):=⟨_,rfl⟩
      have En:CM (BB cs (Rf.takeD cs cf).2).1=X:=HX.o;rw[En] at hX;have k0: (X !=0)=true:=by simpa using hX
      clear u E hf hm;go_wp2_with (first|(have i3:=e3;go_at_call 48;refine(f5.o _ (f.o.alloc f.o.size _) _ _ _ _ _ _ _ _ _ _ (ny.o.doc (DK.below ((bZ _ J).alloc (aX _) _)))).mono ?_;rintro r w6 D;obtain⟨R,a5,Y,S,a6,Z,T,a7,a3,b5,c8,Ji,s⟩:=ig.agg D;rw[En] at c8;subst c8;clear D;have Qa:=aO Ji;have q:=(s.block J.heap.size aE).trans (AJ J _);have p:=(s.block w.heap.size aJ).trans (AF M.o _);have l:=(s.block (w.heap.size+1) aJ).trans (AF C.o _);have⟨d0,d1,d2,d3⟩:=cM q;have df:=AE q;have dl:=AD q;have⟨f0,f1,f2,f3⟩:=cM p;have ff:=AE p;have fl:=AD p;have⟨g0,g1,g2,g3⟩:=cM l;have gf:=AE l;have gl:=AD l;simp at d0 d1 d2 d3 f0 f1 f2 f3 g0 g1 g2 g3;have e2:=aO q;have e1:=aO p;have c3:=aO l;have b7:Hid (Below w.heap.size w w6):=(f.o.alloc f.o.size _).trans (s.mono (by have:=f.o.size;simp;omega));clear q p l s Ji)|(go_at_call 73;refine d7.o.mono ?_;rintro r J D;obtain⟨O,a8,U,P,b3,V,Q,b4,W,b6,t,jm,g⟩:=ig.agg D;rw[h] at t;subst t;clear D;have ny:=aO jm;have b:=(g.block _ sl).trans d.o.S;have a:=(g.block _ rl).trans d.o.R;have⟨p0,p1,p2,p3⟩:=cM b;have pf:=AE b;have pl:=AD b;have⟨q0,q1,q2,q3⟩:=cM a;have qf:=AE a;have ql:=AD a;simp at p0 p1 p2 p3 q0 q1 q2 q3;have M:=aO b;have C:=aO a;have f:Hid (Below w.heap.size w J):=d.o.b.trans (g.mono d.o.b.size);clear b a g jm;have e3:=f));obtain⟨wA,f4,e7,i0,a4⟩:=JQ (u0:= .slice R a5 Y) (u1:= .slice S a6 Z) (u2:= .slice T a7 a3) (u3:= .int .i64 b5) e2.o;have d8:=(a4.block (w.heap.size+1) (AD c3.o) aD).trans c3.o;obtain⟨L,I,H,F,B⟩:=JQ (u0:= .slice R a5 Y) (u1:= .slice S a6 Z) (u2:= .slice T a7 a3) (u3:= .int .i64 b5) d8;rw[<-f4.o,<-I.o];have c5:Below w.heap.size w wA:=b7.o.trans (a4.below b7.o.size (fun k hk e=>by have e':k=J.heap.size:=e;omega));have A:Below w.heap.size w L:=c5.trans (B.below c5.size (fun k hk e=>by have e':k=w.heap.size+1:=e;omega));have⟨z0,z1,z2,z3⟩:=cM F;simp at z0 z1 z2 z3;refine bodyPost_ret (v:= .tuple #[.agg #[.slice R a5 Y,.slice S a6 Z,.slice T a7 a3,.int .i64 b5],.int .i64 X]) (by simp[results,results46,go_sem,z0,z1,z2,z3]) rfl ?_;rw[HW.o];exact⟨_,by rw[HX.o],(Qa.o.doc e7).doc H,A⟩
    ·have hf:FP cs (Rf.takeD cs cf)=Rf.takeD cs cf:=by unfold FP;rw[bC hm]
     rw[hf] at u d6;have e0:CM (Rf.takeD cs cf).1=(Rf.takeD cs cf).1:=by unfold CM;rw[bC hm]
     by_cases E: (Rf.takeD cs cf).1=0
     ·have h:CM (Rf.takeD cs cf).1=0:=by rw[E];rfl
      have HW:Hid (i=DB cs k (Rf.takeD cs cf).2):=by unfold Hid;rw[u.o,bC (by rw[E];decide)]
      have HZ:=aO E;clear u E hf hm e0;go_wp2_with (go_at_call 73;refine d7.o.mono ?_;rintro r J D;obtain⟨O,a8,U,P,b3,V,Q,b4,W,b6,t,jm,g⟩:=ig.agg D;rw[h] at t;subst t;clear D;have ny:=aO jm;have b:=(g.block _ sl).trans d.o.S;have a:=(g.block _ rl).trans d.o.R;have⟨p0,p1,p2,p3⟩:=cM b;have pf:=AE b;have pl:=AD b;have⟨q0,q1,q2,q3⟩:=cM a;have qf:=AE a;have ql:=AD a;simp at p0 p1 p2 p3 q0 q1 q2 q3;have M:=aO b;have C:=aO a;have f:Hid (Below w.heap.size w J):=d.o.b.trans (g.mono d.o.b.size);clear b a g jm);obtain⟨L,I,H,e5,B⟩:=JQ (u0:= .slice O a8 U) (u1:= .slice P b3 V) (u2:= .slice Q b4 W) (u3:= .int .i64 b6) M.o;rw[<-I.o];have F:=(B.block (w.heap.size+1) (AD C.o) aD).trans C.o;have A:Below w.heap.size w L:=f.o.trans (B.below f.o.size (fun k hk e=>by have e':k=w.heap.size:=e;omega));obtain⟨_,_,_,_,_,_,_,_,_,e,h1,h2⟩:=ny.o.doc H;obtain⟨h3,h4⟩:=h2 (.inl HZ.o);injection e with e;simp at e;obtain⟨⟨rfl,rfl,rfl⟩,⟨rfl,rfl,rfl⟩,⟨rfl,rfl,rfl⟩,rfl⟩:=e;have G:∀o,Below L.heap.size L (L.alloc o):=fun o=>(bZ _ _).alloc (aX _) _;go_roundg (k+1)
      case measure=>omega
      case rel=>exact⟨k,(Rf.takeD cs cf).2,N+14,K+32,_,_,_,_,_,_,_,_,_,rfl,by go_num,aD,⟨HW.o.symm,AF e5 _,AF F _,A.trans ((G _).mono A.size),h3.doc (DK.below (G _)),h4.doc (DK.below (G _)),h1.doc (DK.below (G _)),d6.o,aD,aD⟩⟩
     ·obtain⟨X,HX⟩:∃X,Hid (CM (Rf.takeD cs cf).1=X):=⟨_,rfl⟩
      have h:CM (Rf.takeD cs cf).1=X:=HX.o;have j2: (X !=0)=true:=by rw[<-h,e0];simpa using E
      have j3: (X==2)=false:=by rw[<-h,e0];simpa using i1
      have HW:Hid (i=Rf.takeD cs cf):=by unfold Hid;rw[u.o,bD E]
      clear u E hf hm e0;go_wp2_with (go_at_call 73;refine d7.o.mono ?_;rintro r J D;obtain⟨O,a8,U,P,b3,V,Q,b4,W,b6,t,jm,g⟩:=ig.agg D;rw[h] at t;subst t;clear D;have ny:=aO jm;have b:=(g.block _ sl).trans d.o.S;have a:=(g.block _ rl).trans d.o.R;have⟨p0,p1,p2,p3⟩:=cM b;have pf:=AE b;have pl:=AD b;have⟨q0,q1,q2,q3⟩:=cM a;have qf:=AE a;have ql:=AD a;simp at p0 p1 p2 p3 q0 q1 q2 q3;have M:=aO b;have C:=aO a;have f:Hid (Below w.heap.size w J):=d.o.b.trans (g.mono d.o.b.size);clear b a g jm);obtain⟨L,I,H,F,B⟩:=JQ (u0:= .slice O a8 U) (u1:= .slice P b3 V) (u2:= .slice Q b4 W) (u3:= .int .i64 b6) C.o;rw[<-I.o];have A:Below w.heap.size w L:=f.o.trans (B.below f.o.size (fun k hk e=>by have e':k=w.heap.size+1:=e;omega));have G:∀o,Below L.heap.size L (L.alloc o):=fun o=>(bZ _ _).alloc (aX _) _;have d9:∀o,(L.alloc o).heap[w.heap.size+1]?=_:=fun o=>AF F o;have z0:=fun o=>AA (d9 o) 0;have z1:=fun o=>AA (d9 o) 1;have z2:=fun o=>AA (d9 o) 2;have z3:=fun o=>AA (d9 o) 3;simp at z0 z1 z2 z3;refine bodyPost_ret (v:= .tuple #[.agg #[.slice O a8 U,.slice P b3 V,.slice Q b4 W,.int .i64 b6],.int .i64 X]) (by simp[results,results46,go_sem,z0,z1,z2,z3]) rfl ?_;rw[HW.o];exact⟨_,by rw[HX.o],(ny.o.doc H).doc (DK.below (G _)),A.trans ((G _).mono A.size)⟩
def GF(r:Rep):Value:= .agg #[.int .i64 r.kind,.string r.text,.int .i64 r.code,.int .i64 r.place]
structure j5(w:World)(vN:Value)(aW:List ByteArray)(F:Int)(M:Nat)(aS:List (List AB)):Prop where
 n:Seen w 9 A3 vN aW
 l:aW.length=aS.length
 l16:aW.length<=16
 n12:∀n∈aW,n.size<=12
 tm:∀t∈aS,TmG F t
 F1:F<=(M:Int)
 M1:M<=8000000000000
theorem aAv(w X:World)(g:Value)(d:List ByteArray)(F:Int)(M:Nat)(aS:List (List AB))(f:Value)(h:j5 w g d F M aS)(k:DTs w f aS)(j:DK AW w X)(l:Tab X):Calls prog 74 #[g,f] X fun r w'=>r= .returned (.string (EB d aS))/\Below X.heap.size X w':=by
 have i:=Seen.dk h.n j (.inr (.inr (.inr (.inr (.inr (.inr rfl))))));by_cases b:d=[]
 ·obtain⟨a,c,e⟩:=i.slice;subst e;have e0:d.length=0:=by rw[b];rfl
  rw[e0];exact sM X f d a c aS b
 ·exact yD X F M g f d aS i (k.doc j) h.l h.l16 h.n12 h.tm h.F1 h.M1 b (Lib.tabBelow_of_tabIs l)
theorem sE{w:World}{y:Nat}{vC j n o q u4 u5 u6:Value}{lim m z:Int}{c b:Bool}(h:RsB w y vC lim c j n o q m):∃d:World,Hid (d=(((((w.setCell ⟨y,2,none⟩ (.bool b)).setCell ⟨y,4,none⟩ u4).setCell ⟨y,5,none⟩ u5).setCell ⟨y,6,none⟩ u6).setCell ⟨y,7,none⟩ (.int .i64 z)))/\RsB d y vC lim b j u4 u5 u6 z/\Kept (fun k=>k=y) w d/\d.heap.size=w.heap.size/\DK AW w d:=by
 have a:¬AW 61:=by unfold AW;decide
 have e:=AK h 2 (.bool b);have f:=AK e 4 u4;have g:=AK f 5 u5;have i:=AK g 6 u6;have l:=AK i 7 (.int .i64 z);exact⟨_,rfl,l,(((((Kept.refl (fun k=>k=y) w).setCell (p:=⟨y,2,none⟩) (.inr rfl) _).setCell (p:=⟨y,4,none⟩) (.inr rfl) _).setCell (p:=⟨y,5,none⟩) (.inr rfl) _).setCell (p:=⟨y,6,none⟩) (.inr rfl) _).setCell (p:=⟨y,7,none⟩) (.inr rfl) _,by simp[World.setCell],((((DK.setCell h a 2 _).trans (DK.setCell e a 4 _)).trans (DK.setCell f a 5 _)).trans (DK.setCell g a 6 _)).trans (DK.setCell i a 7 _)⟩
theorem aA8(w:World)(y:Nat)(vC u D E F:Value)(lim A:Int)(d:Bool)(f g e:Option Addr)(q i s j p h:Nat)(z a:Int)(c:RsB w y vC lim d u D E F A)(t:a≠1):Calls prog 47 #[.pointer (some ⟨y,0,none⟩),.agg #[.slice f q i,.slice g s j,.slice e p h,.int .i64 z],.int .i64 a] w fun r w'=>r= .returned (GF (J9 a))/\RsB w' y vC lim false u (.slice f q i) (.slice g s j) (.slice e p h) z/\Kept (fun k=>k=y) w w':=by
 have C: (a==1)=false:=by rw[aY];exact t
 have G:=AA c 2;have H:=AA c 3;have I:=AA c 4;have J:=AA c 5;have K:=AA c 6;have L:=AA c 7;have N:=AE c;have O:=AD c;simp at G H I J K L;have x:=aO c;clear c t;go_enter func47,ntmps47;go_wp2_with fail;obtain⟨M,n,l,m,o,B⟩:=sE (b:=false) (u4:= .slice f q i) (u5:= .slice g s j) (u6:= .slice e p h) (z:=z) x.o;rw[<-n.o];refine bodyPost_ret (v:=GF (J9 a)) (by simp[results,results47,go_sem,GF,J9,o]) rfl ?_;exact⟨rfl,AF (AF l _) _,(m.alloc _).alloc _⟩
theorem vO(w:World)(y:Nat)(vC vN v4 v5 v6:Value)(lim fr:Int)(Q:Bool)(u f t:Option Addr)(G A i h E x:Nat)(z:Int)(g:List ByteArray)(F:Int)(M:Nat)(aS:List (List AB))(m:RsB w y vC lim Q vN v4 v5 v6 fr)(hI:j5 w vN g F M aS)(hT:DTs w (.slice f i h) aS)(wu:qo y w):Calls prog 47 #[.pointer (some ⟨y,0,none⟩),.agg #[.slice u G A,.slice f i h,.slice t E x,.int .i64 z],.int .i64 1] w fun r w'=>r= .returned (GF ⟨1,EB g aS,0,0⟩)/\RsB w' y vC lim true vN (.slice u G A) (.slice f i h) (.slice t E x) z/\Kept (fun k=>k=y) w w':=by
 obtain⟨S,T,eN⟩:=hI.n.slice;subst eN;have HI:=aO hI;have HT:=aO hT;have Ho:=aO wu;have y2:=AA m 2;have y3:=AA m 3;have y4:=AA m 4;have y5:=AA m 5;have y6:=AA m 6;have y7:=AA m 7;have yf:=AE m;have yl:=AD m;simp at y2 y3 y4 y5 y6 y7;have HB:=aO m;clear m hI hT wu;go_enter func47,ntmps47;go_wp2_with fail;obtain⟨H,a0,B,O,P,L⟩:=sE (b:=true) (u4:= .slice u G A) (u5:= .slice f i h) (u6:= .slice t E x) (z:=z) HB.o;rw[<-a0.o];have q:Below H.heap.size H ((H.alloc (Obj.cells #[.slice u G A,.slice f i h,.slice t E x,.int .i64 z] 59)).alloc (Obj.cells #[.int .i64 0,.string ⟨#[]⟩,.int .i64 0,.int .i64 0] 65)):=((bZ _ H).alloc (aX _) _).alloc aE _;have C: ((H.alloc (Obj.cells #[.slice u G A,.slice f i h,.slice t E x,.int .i64 z] 59)).alloc (Obj.cells #[.int .i64 0,.string ⟨#[]⟩,.int .i64 0,.int .i64 0] 65)).heap[w.heap.size]?=_:=AF (AZ _ _ _ P.symm) _;have j: ((H.alloc (Obj.cells #[.slice u G A,.slice f i h,.slice t E x,.int .i64 z] 59)).alloc (Obj.cells #[.int .i64 0,.string ⟨#[]⟩,.int .i64 0,.int .i64 0] 65)).heap[w.heap.size+1]?=_:=AZ _ _ _ (by simp[P]);generalize (H.alloc (Obj.cells #[.slice u G A,.slice f i h,.slice t E x,.int .i64 z] 59)).alloc (Obj.cells #[.int .i64 0,.string ⟨#[]⟩,.int .i64 0,.int .i64 0] 65)=d at*;have n:=(q.block y (AD B)).trans B;have D:Kept (fun k=>k=y) w d:=O.trans (Kept.of_below q _) (fun _ _ e=>e);have N:DK AW w d:=L.trans (DK.below q);have Z:=AA n 3;have e1:=AA C 1;have⟨q0,q1,q2,q3⟩:=cM j;have qf:=AE j;have ql:=AD j;have sl:=AD C;have R:=AD n;simp at Z e1 q0 q1 q2 q3
 have Y:Hid (∀X:World,Below d.heap.size d X->Calls prog 74 #[.slice S g.length T,.slice f i h] X fun r w'=>r= .returned (.string (EB g aS))/\Below d.heap.size d w'):=fun X s=>by
  refine(aAv w X _ g F M aS _ HI.o HT.o (N.trans (DK.below s)) (qo.tab (Ho.o.on ((D.below (Nat.le_of_lt yl) (fun k hk e=>by have e':k=y:=e;omega)).trans (s.mono (Nat.le_of_lt R)))))).mono ?_;rintro r w' ⟨rfl,hb⟩;exact⟨rfl,s.trans (hb.mono s.size)⟩
 have V:Hid (∀X:World,Kept (fun k=>k=w.heap.size+1) d X->(fun X:World=>Kept (fun k=>k=w.heap.size+1) d X/\X.cell? ⟨y,3,none⟩=some (.slice S g.length T)/\X.cell? ⟨w.heap.size,1,none⟩=some (.slice f i h)) X):=fun X s=>⟨s,(s.cell (p:=⟨y,3,none⟩) R aJ).trans Z,(s.cell (p:=⟨w.heap.size,1,none⟩) sl aE).trans e1⟩
 have a2: (fun X:World=>Kept (fun k=>k=w.heap.size+1) d X/\X.cell? ⟨y,3,none⟩=some (.slice S g.length T)/\X.cell? ⟨w.heap.size,1,none⟩=some (.slice f i h)) d.drew:=V.o _ (Kept.refl _ _).drew;have J:=aO j;have I:=aO n;have c:=aO D;clear n D j C q N B O L y2 y3 y4 y5 y6 y7 yf;go_region_held2 (fun X:World=>Kept (fun k=>k=w.heap.size+1) d X/\X.cell? ⟨y,3,none⟩=some (.slice S g.length T)/\X.cell? ⟨w.heap.size,1,none⟩=some (.slice f i h)) (first|(with_reducible assumption)|exact V.o _ K|exact V.o _ ((((K.setCell (p:=⟨w.heap.size+1,0,none⟩) (.inr rfl) _).setCell (p:=⟨w.heap.size+1,1,none⟩) (.inr rfl) _).setCell (p:=⟨w.heap.size+1,2,none⟩) (.inr rfl) _).setCell (p:=⟨w.heap.size+1,3,none⟩) (.inr rfl) _)) ((go_at_call 74;refine(Y.o _ aM).mono ?_;rintro r w9 ⟨rfl,o⟩;have K:Kept (fun k=>k=w.heap.size+1) d w9:=Kept.of_below o _;have l:=(o.block _ (AD J.o)).trans J.o;have⟨p0,p1,p2,p3⟩:=cM l;have pf:=AE l;have pl:=AD l;simp at p0 p1 p2 p3;have W:=aO l;have U:=aO o;clear l o));have iw:=EU (u0:= .int .i64 1) (u1:= .string (EB g aS)) (u2:= .int .i64 0) (u3:= .int .i64 0) W.o;have a:Kept (fun k=>k=w.heap.size+1) d ((((w9.setCell ⟨w.heap.size+1,0,none⟩ (.int .i64 1)).setCell ⟨w.heap.size+1,1,none⟩ (.string (EB g aS))).setCell ⟨w.heap.size+1,2,none⟩ (.int .i64 0)).setCell ⟨w.heap.size+1,3,none⟩ (.int .i64 0)):=((((Kept.of_below U.o (fun k=>k=w.heap.size+1)).setCell (p:=⟨w.heap.size+1,0,none⟩) (.inr rfl) _).setCell (p:=⟨w.heap.size+1,1,none⟩) (.inr rfl) _).setCell (p:=⟨w.heap.size+1,2,none⟩) (.inr rfl) _).setCell (p:=⟨w.heap.size+1,3,none⟩) (.inr rfl) _;generalize ((((w9.setCell ⟨w.heap.size+1,0,none⟩ (.int .i64 1)).setCell ⟨w.heap.size+1,1,none⟩ (.string (EB g aS))).setCell ⟨w.heap.size+1,2,none⟩ (.int .i64 0)).setCell ⟨w.heap.size+1,3,none⟩ (.int .i64 0))=wX at*;have⟨z0,z1,z2,z3⟩:=cM iw;simp at z0 z1 z2 z3;go_wp2_with fail;refine bodyPost_ret (v:=GF ⟨1,EB g aS,0,0⟩) (by simp[results,results47,go_sem,GF,z0,z1,z2,z3]) rfl ?_;have a1:y≠w.heap.size+1:=aD;exact⟨rfl,(a.block y (AD I.o) a1).trans I.o,⟨a.os.trans c.o.os,a.tape.trans c.o.tape,a.output.trans c.o.output,bN c.o.size a.size,fun k hk e=>(a.block k (bH hk c.o.size) (fun e2=>by have Z:k=w.heap.size+1:=e2;omega)).trans (c.o.block k hk e)⟩⟩
def Me(w:World)(a:Bool)(f c d e:Value)(b:Int):Option QD->Prop
 |none=>a=false
 |some q=>a=true/\Seen w 9 A3 f q.aW/\StR w (.agg #[c,d,e,.int .i64 b]) (1,q.cf)
structure jd(w:World)(y:Nat)(D:SD):Prop where
 ex:∃vC live aN nN cN aG nG cG aT nT cT aC nC cC fr,RsB w y vC (D.lim:Nat) live (.slice aN nN cN) (.slice aG nG cG) (.slice aT nT cT) (.slice aC nC cC) fr/\vw w vC D.cls/\Me w live (.slice aN nN cN) (.slice aG nG cG) (.slice aT nT cT) (.slice aC nC cC) fr D.q
theorem Me.doc{w w':World}{a:Bool}{g d e f:Value}{b:Int}{q:Option QD}(h:Me w a g d e f b q)(c:DK AW w w'):Me w' a g d e f b q:=by
 cases q with
 |none=>exact h
 |some q=>exact⟨h.1,Seen.dk h.2.1 c (.inr (.inr (.inr (.inr (.inr (.inr rfl)))))),h.2.2.doc c⟩
theorem jd.dk{w w':World}{y:Nat}{D:SD}(h:jd w y D)(c:DK AW w w')(p:w'.heap[y]?=w.heap[y]?):jd w' y D:=by
 obtain⟨vC,a,f,s,k,e,r,j,g,t,l,d,q,i,m,n,b,o⟩:=h.ex;exact⟨vC,a,f,s,k,e,r,j,g,t,l,d,q,i,m,p.trans n,b.doc c,o.doc c⟩
theorem jd.lt{w:World}{y:Nat}{D:SD}(h:jd w y D):y<w.heap.size:=by
 obtain⟨vC,a,f,q,k,e,p,j,g,r,l,d,o,i,m,b,c,n⟩:=h.ex;exact AD b
theorem jd.below{w w':World}{y:Nat}{D:SD}(h:jd w y D)(a:Below w.heap.size w w'):jd w' y D:=h.dk (DK.below a) (a.block y h.lt)
structure DOk(D:SD):Prop where
 l30:D.cls.length<=30
 ok:∀c∈D.cls,Rf.ClG c/\(AI c.head).kind=3
 d:Ba D.cls
 h16:yw D.cls
 lim:D.lim<=1000
structure MT(aW:List ByteArray)(M:Nat)(res:Int×Cf):Prop where
 ne:res.1≠ -1
 len:res.1=1->aW.length=res.2.now.aS.length/\(∀t∈res.2.now.aS,TmG res.2.now.aQ t)/\res.2.now.aQ<=(M:Int)
 l16:aW.length<=16
 n12:∀n∈aW,n.size<=12
 M1:M<=8000000000000
theorem TU(w:World)(y:Nat)(D:SD)(c:List ByteArray)(M:Nat)(a:Int×Cf)(vC N O P:Value)(I:Int)(b:Bool)(q p s o:Option Addr)(E v C u F x B t:Nat)(z:Int)(J:RsB w y vC (D.lim:Nat) b (.slice q E v) N O P I)(i:vw w vC D.cls)(A:Seen w 9 A3 (.slice q E v) c)(l:StR w (.agg #[.slice p C u,.slice s F x,.slice o B t,.int .i64 z]) a)(j:MT c M a)(X:qo y w):Calls prog 47 #[.pointer (some ⟨y,0,none⟩),.agg #[.slice p C u,.slice s F x,.slice o B t,.int .i64 z],.int .i64 (CM a.1)] w fun r w'=>r= .returned (GF (DD D c a).1)/\jd w' y (DD D c a).2/\Kept (fun k=>k=y) w w':=by
 have K:CM a.1=a.1:=by unfold CM;rw[bC j.ne]
 have n:∀w',Kept (fun k=>k=y) w w'->DK AW w w':=fun w' d=>DK.kept d (fun k cs e Q T R=>by
  have H:k=y:=R;subst H;have h:=Q.symm.trans J;injection h with h;injection h with _ h;have A:¬AW 61:=by unfold AW;decide
  exact A (h ▸ T))
 rw[K];by_cases f:a.1=1
 ·obtain⟨U,V,W⟩:=j.len f;have m:=l;obtain⟨_,_,_,_,_,_,_,_,_,e,Q,L⟩:=m;obtain⟨_,S⟩:=L (.inr f);injection e with e;simp at e;obtain⟨_,⟨rfl,rfl,rfl⟩,_,Y⟩:=e;rw[f];refine(vO w y vC _ N O P _ I b p s o C u F x B t z c a.2.now.aQ M a.2.now.aS J ⟨A,U,j.l16,j.n12,V,W,j.M1⟩ S X).mono ?_;rintro r w' ⟨rfl,g,d⟩;have G:DD D c a=(⟨1,EB c a.2.now.aS,0,0⟩,⟨D.lim,D.cls,some ⟨c,a.2⟩⟩):=by unfold DD;rw[bD f]
  rw[G];refine⟨rfl,⟨vC,true,q,E,v,_,_,_,_,_,_,_,_,_,_,g,i.doc (n w' d),rfl,Seen.dk A (n w' d) (.inr (.inr (.inr (.inr (.inr (.inr rfl)))))),?_⟩,d⟩;exact StR.code (k:=a.1) (l.doc (n w' d)) (.inr (.inl f))
 ·refine(aA8 w y vC _ N O P _ I b p s o C u F x B t z a.1 J f).mono ?_;rintro r w' ⟨rfl,g,d⟩;have G:DD D c a=(J9 a.1,⟨D.lim,D.cls,none⟩):=by unfold DD;rw[bC f]
  rw[G];exact⟨rfl,⟨vC,false,q,E,v,_,_,_,_,_,_,_,_,_,_,g,i.doc (n w' d),rfl⟩,d⟩
theorem tI(w:World)(y:Nat)(D:SD)(h:jd w y D)(f:D.q=none):Calls prog 29 #[.pointer (some ⟨y,0,none⟩)] w fun r w'=>r= .returned (GF (FB D).1)/\jd w' y (FB D).2/\Kept (fun k=>k=y) w w':=by
 obtain⟨vC,a,m,z,q,l,x,p,n,A,s,j,u,o,t,b,c,d⟩:=h.ex;have e:a=false:=by rw[f] at d;exact d
 subst e;have i:Hid (FB D=(J9 3,D)):=by unfold Hid FB;rw[f]
 have B:w.cell? ⟨y,2,none⟩=some (.bool false):=AA b 2;have C:=AD b;have g:=aO h;clear b c d h;go_enter func29,ntmps29;go_wp2_with fail;refine bodyPost_ret (v:=GF (J9 3)) (by simp[results,results29,go_sem,GF,J9]) rfl ?_;rw[i.o];exact⟨rfl,g.o.below ((bZ _ w).alloc (aX _) _),(Kept.refl _ w).alloc _⟩
theorem zD(w:World)(y N:Nat)(K:Int)(M:Nat)(D:SD)(q:QD)(h:jd w y D)(hq:D.q=some q)(hO:DOk D)(hD:CfD D.cls N K q.cf)(hN:N+7+14*D.lim<=20000)(hK:K+16+32*D.lim<=1000000000000000)(hR:MT q.aW M (DE D q))(wu:qo y w)(hz: (BB D.cls q.cf).1≠0):Calls prog 29 #[.pointer (some ⟨y,0,none⟩)] w fun r w'=>r= .returned (GF (FB D).1)/\jd w' y (FB D).2/\Kept (fun k=>k=y) w w':=by
 obtain⟨vC,b6,aN,nN,cN,aG,nG,cG,aT,nT,cT,aC,nC,cC,fr,j,n,hQ⟩:=h.ex;rw[hq] at hQ;obtain⟨a9,Q,b4⟩:=hQ;subst a9;obtain⟨_,_,_,_,_,_,_,_,_,e,hc,_⟩:=b4;injection e with e;simp at e;obtain⟨-, -,⟨rfl,rfl,rfl⟩,a7⟩:=e;subst a7;have y1:w.cell? ⟨y,1,none⟩=some (.int .i64 (D.lim:Nat)):=AA j 1;have y2:w.cell? ⟨y,2,none⟩=some (.bool true):=AA j 2;have y4:=AA j 4;have y5:=AA j 5;have y6:=AA j 6;have y7:=AA j 7;have yl:=AD j;simp at y4 y5 y6 y7;have g:Below w.heap.size w (w.alloc (Obj.cells #[.int .i64 0,.string ⟨#[]⟩,.int .i64 0,.int .i64 0] 65)):=(bZ _ w).alloc (aX _) _;have a0:Hid (Calls prog 48 #[.pointer (some ⟨y,0,none⟩),.agg #[.slice aG nG cG,.slice aT nT cT,.slice aC nC cC,.int .i64 q.cf.now.aQ]] (w.alloc (Obj.cells #[.int .i64 0,.string ⟨#[]⟩,.int .i64 0,.int .i64 0] 65)) fun r w'=>ig (w.alloc (Obj.cells #[.int .i64 0,.string ⟨#[]⟩,.int .i64 0,.int .i64 0] 65)) (BB D.cls q.cf) r w'):=W1 _ y N K vC _ _ _ _ _ _ _ D.cls q.cf aG aT aC nG cG nT cT nC cC ((g.block y yl).trans j) (n.doc (DK.below g)) hO.ok hO.h16 (hc.doc (DK.below g)) hD aD aD;have HO:=aO hO;have HB:=aO j;have a1:=aO n;have a2:=aO Q;have Ho:=aO wu;have HR:=aO hR;have HW:Hid (FB D=DD D q.aW (DE D q)):=by unfold Hid FB;rw[hq]
 have HD:=aO hD
 have a4:Hid (∀X:World,DK AW w X->Kept (fun k=>w.heap.size<=k) w X->∀b0 m0 d0 b1 x d1 b2 m2 d2 z,StR X (.agg #[.slice b0 m0 d0,.slice b1 x d1,.slice b2 m2 d2,.int .i64 z]) (DE D q)->∀kk,kk=CM (DE D q).1->Calls prog 47 #[.pointer (some ⟨y,0,none⟩),.agg #[.slice b0 m0 d0,.slice b1 x d1,.slice b2 m2 d2,.int .i64 z],.int .i64 kk] X fun r w'=>∃k1 t1 c1 p1,r= .returned (.agg #[.int .i64 k1,.string t1,.int .i64 c1,.int .i64 p1])/\Hid ((DD D q.aW (DE D q)).1=⟨k1,t1,c1,p1⟩)/\jd w' y (DD D q.aW (DE D q)).2/\Kept (fun k=>k=y) X w'):=fun X hd u b0 m0 d0 b1 x d1 b2 m2 d2 z hs kk a8=>by
  subst a8;refine(TU X y D q.aW M (DE D q) vC _ _ _ _ _ aN b0 b1 b2 nN cN m0 d0 x d1 m2 d2 z ((u.block y yl aD).trans HB.o) (a1.o.doc hd) (Seen.dk a2.o hd (.inr (.inr (.inr (.inr (.inr (.inr rfl))))))) hs HR.o (Ho.o.on (u.below (Nat.le_of_lt yl) (fun k c2 e=>by have e':w.heap.size<=k:=e;omega)))).mono ?_;rintro r w' ⟨rfl,h1,h2⟩;exact⟨_,_,_,_,rfl,rfl,h1,h2⟩
 have S:DE D q=BB D.cls q.cf:=by unfold DE;rw[bC hz]
 have B:=aO g;obtain⟨X,HX⟩:∃X,Hid (CM (BB D.cls q.cf).1=X):=⟨_,rfl⟩
 have i:CM (BB D.cls q.cf).1=X:=HX.o
 have c0: (X==0)=false:=by
  rw[<-i,aY];unfold CM;split<;>omega
 have E:=aO S;clear j n Q wu hR hD hO h g S hz hc;go_enter func29,ntmps29;go_wp2_with (first|(have c3:=b5;go_at_call 47;have o:Below m.heap.size m (m.alloc (Obj.cells #[.slice G U J,.slice H V L,.slice I W O,.int .i64 Z] 59)):=(bZ _ m).alloc (aX _) _;have b:Hid (Kept (fun k=>w.heap.size<=k) w (m.alloc (Obj.cells #[.slice G U J,.slice H V L,.slice I W O,.int .i64 Z] 59))):=Kept.of_below (A.o.trans (o.mono A.o.size)) _;refine(a4.o _ (DK.below (A.o.trans (o.mono A.o.size))) b.o _ _ _ _ _ _ _ _ _ _ (by rw[E.o];exact ny.o.doc (DK.below o)) X (by rw[E.o];exact HX.o.symm)).mono ?_;rintro r Y ⟨k1,t1,c1,p1,rfl,b3,R,t⟩;have d:=(t.block w.heap.size aJ aD).trans (AF a3.o _);have⟨e0,e1,e2,e3⟩:=cM d;have ef:=AE d;have el:=AD d;simp at e0 e1 e2 e3;have F:=aO d;have C:=aO R;have c:=aO t;clear d R t)|(go_at_call 48;refine a0.o.mono ?_;rintro r m hp;obtain⟨G,U,J,H,V,L,I,W,O,Z,T,jm,s⟩:=ig.agg hp;rw[i] at T;subst T;clear hp;have ny:=aO jm;have A:Hid (Below w.heap.size w m):=B.o.trans (s.mono B.o.size);have f:=(s.block w.heap.size aE).trans (AJ w _);have l:RsB m y vC (D.lim:Nat) true (.slice aN nN cN) (.slice aG nG cG) (.slice aT nT cT) (.slice aC nC cC) q.cf.now.aQ:=(A.o.block y yl).trans HB.o;have x:m.cell? ⟨y,1,none⟩=some (.int .i64 (D.lim:Nat)):=AA l 1;have ml:=AD l;have⟨q0,q1,q2,q3⟩:=cM f;have qf:=AE f;have ql:=AD f;simp at q0 q1 q2 q3;have a3:=aO f;have b7:=aO l;clear f l s jm;have b5:=x));have iw:=EU (u0:= .int .i64 k1) (u1:= .string t1) (u2:= .int .i64 c1) (u3:= .int .i64 p1) F.o;have a:Kept (fun k=>k=w.heap.size) Y ((((Y.setCell ⟨w.heap.size,0,none⟩ (.int .i64 k1)).setCell ⟨w.heap.size,1,none⟩ (.string t1)).setCell ⟨w.heap.size,2,none⟩ (.int .i64 c1)).setCell ⟨w.heap.size,3,none⟩ (.int .i64 p1)):=((((Kept.refl (fun k=>k=w.heap.size) Y).setCell (p:=⟨w.heap.size,0,none⟩) (.inr rfl) _).setCell (p:=⟨w.heap.size,1,none⟩) (.inr rfl) _).setCell (p:=⟨w.heap.size,2,none⟩) (.inr rfl) _).setCell (p:=⟨w.heap.size,3,none⟩) (.inr rfl) _;generalize ((((Y.setCell ⟨w.heap.size,0,none⟩ (.int .i64 k1)).setCell ⟨w.heap.size,1,none⟩ (.string t1)).setCell ⟨w.heap.size,2,none⟩ (.int .i64 c1)).setCell ⟨w.heap.size,3,none⟩ (.int .i64 p1))=wX at*;have⟨z0,z1,z2,z3⟩:=cM iw;simp at z0 z1 z2 z3;refine bodyPost_ret (v:= .agg #[.int .i64 k1,.string t1,.int .i64 c1,.int .i64 p1]) (by simp[results,results29,go_sem,z0,z1,z2,z3]) rfl ?_;rw[HW.o]
 have a6:DK AW Y wX:=DK.kept a (fun k cs e hc he em=>by
  have a5:k=w.heap.size:=em;subst a5;have P:=hc.symm.trans F.o;injection P with P;injection P with _ P;have hN:¬AW 65:=by unfold AW;decide
  exact hN (P ▸ he))
 refine⟨by rw[b3.o];rfl,C.o.dk a6 (a.block y C.o.lt aD),?_⟩;exact⟨a.os.trans (c.o.os.trans b.o.os),a.tape.trans (c.o.tape.trans b.o.tape),a.output.trans (c.o.output.trans b.o.output),bN b.o.size (bN c.o.size a.size),fun k u e=>(a.block k (bH u (bN b.o.size c.o.size)) (fun e2=>by have e3:k=w.heap.size:=e2;omega)).trans ((c.o.block k (bH u b.o.size) e).trans (b.o.block k u aD))⟩
end Go.Proofs.Q
