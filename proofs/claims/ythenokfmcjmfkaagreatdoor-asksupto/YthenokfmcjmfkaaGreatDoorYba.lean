import Derived.Test.YthenokfmcjmfkaaGreatDoorYaz
import Derived.Test.YthenokfmcjmfkaaGreatDoorYau
import Derived.Deep.RegionHeld2
set_option maxHeartbeats 1000000
namespace Rf
theorem ZA{qs:List (List AB)}{k:Nat}(h:k<qs.length): (qs.take (k+1)).flatten.length=(qs.take k).flatten.length+qs[k].length:=by
 rw[List.take_add_one,bU h,List.flatten_append,bL];simp
theorem LH(qs:List (List AB))(k:Nat): (qs.take k).flatten.length<=qs.flatten.length:=by
 have:=congrArg List.length (congrArg List.flatten (List.take_append_drop k qs));rw[List.flatten_append,bL] at this;omega
theorem P7{v:Int}:∀(qs:List (List AB)),A0 v qs.flatten=0↔∀q∈qs,A0 v q=0
 |[]=>by simp[A0]
 |q::qs=>by
  rw[List.flatten_cons,YI];have:=P7 (v:=v) qs;constructor
  ·intro h x hx;rcases bP.1 hx with rfl|hx
   ·omega
   ·exact this.1 aD x hx
  ·intro h;have a:=h q aE;have b:=this.2 (fun x hx=>h x (bA _ hx));omega
end Rf
namespace Go.Proofs.Q
open Rf _root_.Go.Proofs.Tryz
open Go.RowKit
def aAE(d:Nat):Prop:=∀(F:Nat->Prop) (w:World) (p:Nat) (ps:List AB),cu F w d p ps->ps.length<=1000000000000000->Calls prog 72 #[.pointer (some ⟨p,0,none⟩)] w fun r w'=>r= .returned (.int .i64 (ps.length:Nat))/\w'=w
theorem cu.args{F:Nat->Prop}{w:World}{d p:Nat}{ps:List AB}(h:cu F w (d+1) p ps):∃(k n:Int) (s:ByteArray) (a:Option Addr) (c:Nat) (qs:List (Nat×List AB)),TmB w p k n s (.slice a qs.length c)/\Seen w 100 BQ (.slice a qs.length c) (qs.map (·.1))/\qs.length<=4/\(∀q∈qs,cu F w d q.1 q.2)/\ ((k=118/\s=⟨#[]⟩/\qs=[]/\ps=[⟨1,⟨#[]⟩,n,0⟩])\/(k=110/\s=⟨#[]⟩/\qs=[]/\ps=[⟨2,⟨#[]⟩,n,0⟩])\/(k=97/\n=0/\qs=[]/\ps=[⟨3,s,0,0⟩])\/(k=99/\n=0/\1<=qs.length/\ps=⟨3,s,0,qs.length⟩::(qs.map (·.2)).flatten)):=by
 obtain⟨_,h⟩:=h;rcases h with⟨i,h,e⟩|⟨n,h,e⟩|⟨s,h,e⟩|⟨s,v,qs,f,b,o,g,j,l,m⟩
 ·exact⟨_,_,_,none,0,[],h,Seen.nil,aE,aE,.inl ⟨rfl,rfl,rfl,e⟩⟩
 ·exact⟨_,_,_,none,0,[],h,Seen.nil,aE,aE,.inr (.inl ⟨rfl,rfl,rfl,e⟩)⟩
 ·exact⟨_,_,_,none,0,[],h,Seen.nil,aE,aE,.inr (.inr (.inl ⟨rfl,rfl,rfl,e⟩))⟩
 ·obtain⟨a,c,rfl⟩:=b.seen.slice;rw[aZ] at f b;exact⟨_,_,_,a,c,qs,f,b.seen,j,l,.inr (.inr (.inr ⟨rfl,rfl,g,m⟩))⟩
theorem G0{w:World}{a:Option Addr}{c:Nat}{qs:List (Nat×List AB)}(h:Seen w 100 BQ (.slice a qs.length c) (qs.map (·.1))){k:Nat}(b:k<qs.length):∃g off,a=some ⟨g,off,none⟩/\w.cell? ⟨g,off+k,none⟩=some (.pointer (some ⟨qs[k].1,0,none⟩))/\g<w.heap.size:=by
 obtain⟨g,off,rfl⟩:=h.pos aJ;have:=h.cells DH k qs[k].1 (by simp[b]) 0 _ rfl;simp only[Nat.mul_one,dG] at this;exact⟨g,off,rfl,this,h.lt⟩
theorem pN(d:Nat)(u:aAE d):aAE (d+1):=by
 intro F w p ps h f;obtain⟨k,n,s,a,c,qs,l,A,N,y,i⟩:=h.args
 have v:ps.length=1+(qs.map (·.2)).flatten.length:=by
  rcases i with⟨_,_,rfl,e⟩|⟨_,_,rfl,e⟩|⟨_,_,rfl,e⟩|⟨_,_,_,e⟩
  ·rw[e];simp
  ·rw[e];simp
  ·rw[e];simp
  ·rw[e];simp only[bM];omega
 have C:=aO v;have H: (qs.map (·.2)).flatten.length<=1000000000000000:=aD;have B:=aO u;have D:=aO y;have E:=aO A;have Q:w.cell? ⟨p,3,none⟩=some (.slice a qs.length c):=AA l 3;have R:=AD l;clear i v f u y A l h;go_enter func72,ntmps72;go_wp2_with fail;go_loopw [3,4,5] (fun J t _ wr=>∃k:Nat,k<=qs.length/\t= .int .i64 k/\J= .int .i64 (1+((qs.map (·.2)).take k).flatten.length:Nat)/\wr=w) (fun _ t _ _=>qs.length -(intOf t).toNat)
 case atStart=>exact⟨0,aD,rfl,rfl,rfl⟩
 case round=>
  obtain⟨k,P,rfl,rfl,I⟩:=hrel;subst wr;have m:=LH (qs.map (·.2)) k;obtain⟨z,o⟩:∃z,Hid (z=((qs.map (·.2)).take k).flatten.length):=⟨_,rfl⟩
  rw[<-o.o] at m⊢;by_cases b:k<qs.length
  ·obtain⟨g,off,rfl,O,L⟩:=G0 E.o b;have G:=aO (D.o _ (bG b))
   have j:Hid (((qs.map (·.2)).take (k+1)).flatten.length=z+qs[k].2.length):=by
    unfold Hid;rw[ZA (by simpa using b),o.o];simp
   have x:z+qs[k].2.length<=1000000000000000:=by
    have:=LH (qs.map (·.2)) (k+1);rw[j.o] at this;omega
   generalize qs[k]=q at*;go_wp2_with (go_at_call 72;refine(B.o F w q.1 q.2 G.o aD).mono ?_;rintro r K ⟨rfl,M⟩;subst K);go_roundw
   case rel=>exact⟨k+1,aD,by go_num,by rw[j.o];go_num,by first|rfl|trivial⟩
   case measure=>simp[intOf];omega
  ·obtain rfl:k=qs.length:=aD;go_wp2_with fail;go_ret;refine⟨CL ?_,rfl⟩;rw[C.o,o.o,bR aE]
theorem fU:∀d,aAE d
 |0=>fun _ _ _ _ h _=>h.elim
 |d+1=>pN d (fU d)
theorem O5{F:Nat->Prop}{w:World}{p:Nat}{ps:List AB}(h:dn F w p ps)(a:ps.length<=1000000000000000):Calls prog 72 #[.pointer (some ⟨p,0,none⟩)] w fun r w'=>r= .returned (.int .i64 (ps.length:Nat))/\w'=w:=fU _ _ _ _ _ h.choose_spec a
def zX(d:Nat):Prop:=∀(F:Nat->Prop) (w:World) (v:Int) (p:Nat) (ps:List AB),cu F w d p ps->Calls prog 166 #[.int .i64 v,.pointer (some ⟨p,0,none⟩)] w fun r w'=>r= .returned (.bool (decide (0<A0 v ps)))/\w'=w
theorem Z5{v:Int}{qs:List (List AB)}{k:Nat}(b:k<qs.length)(h:0<A0 v qs[k]):0<A0 v qs.flatten:=by
 rcases Nat.eq_zero_or_pos (A0 v qs.flatten) with a|a
 ·have:=(P7 qs).1 a _ (bG b);omega
 ·exact a
theorem aCl(d:Nat)(G:zX d):zX (d+1):=by
 intro F w v p ps h;obtain⟨k,n,s,a,c,qs,o,J,U,I,f⟩:=h.args;have D:=aO G;have L:=aO I;have M:=aO J;have X:w.cell? ⟨p,0,none⟩=some (.int .u8 k):=AA o 0;have k1:w.cell? ⟨p,1,none⟩=some (.int .i64 n):=AA o 1;have Y:w.cell? ⟨p,3,none⟩=some (.slice a qs.length c):=AA o 3;have Z:=AD o;clear G I J o h;by_cases z:k=118
 ·subst z
  have u:Hid (decide (0<A0 v ps)=(n==v)):=by
   rcases f with⟨_,_,_,e⟩|⟨e,_⟩|⟨e,_⟩|⟨e,_⟩
   ·unfold Hid;rw[e];simp only[A0,isV];by_cases t:n=v
    ·simp[t]
    ·simp[t]
   ·exact absurd e aF
   ·exact absurd e aF
   ·exact absurd e aF
  clear f;go_enter func166,ntmps166;go_wp2_with fail;go_ret;exact⟨C5 (by rw[u.o]),rfl⟩
 ·have u:Hid (A0 v ps=A0 v (qs.map (·.2)).flatten):=by
   unfold Hid;rcases f with⟨e,_⟩|⟨_,_,rfl,e⟩|⟨_,_,rfl,e⟩|⟨_,_,_,e⟩
   ·exact absurd e z
   ·rw[e];simp[A0,isV]
   ·rw[e];simp[A0,isV]
   ·rw[e];simp[A0,isV]
  have P: (k==118)=false:=aY.2 z;clear f z;go_enter func166,ntmps166;go_wp2_with fail;go_loopw [5,6] (fun B _ wr=>∃k:Nat,k<=qs.length/\B= .int .i64 k/\(∀j (m:j<qs.length),j<k->A0 v qs[j].2=0)/\wr=w) (fun B _ _=>qs.length -(intOf B).toNat)
  case atStart=>exact⟨0,aD,rfl,fun j _ h=>by omega,rfl⟩
  case round=>
   obtain⟨k,W,rfl,K,R⟩:=hrel;subst wr;have E:=aO K;clear K;by_cases l:k<qs.length
   ·obtain⟨g,off,rfl,V,T⟩:=G0 M.o l;have H:=aO (L.o _ (bG l));by_cases b:0<A0 v qs[k].2
    ·have A:Hid (decide (0<A0 v ps)=true):=by
      unfold Hid;rw[u.o];have:=Z5 (qs:=qs.map (·.2)) (k:=k) (by simpa using l) (by simpa using b);exact decide_eq_true this
     have i:decide (0<A0 v qs[k].2)=true:=decide_eq_true b;clear b;generalize qs[k]=q at*;go_wp2_with (go_at_call 166;refine(D.o F w v q.1 q.2 H.o).mono ?_;rintro r C ⟨rfl,O⟩;subst C;rw[i]);go_ret;exact⟨C5 (by rw[A.o]),rfl⟩
    ·have i:decide (0<A0 v qs[k].2)=false:=decide_eq_false b
     have Q:Hid (∀j (m:j<qs.length),j<k+1->A0 v qs[j].2=0):=fun j m h=>by
      by_cases e:j=k
      ·subst e;omega
      ·exact E.o j m aD
     clear b;generalize qs[k]=q at*;go_wp2_with (go_at_call 166;refine(D.o F w v q.1 q.2 H.o).mono ?_;rintro r C ⟨rfl,O⟩;subst C;rw[i]);go_roundw
     case rel=>exact⟨k+1,aD,by go_num,Q.o,by first|rfl|trivial⟩
     case measure=>simp[intOf];omega
   ·obtain rfl:k=qs.length:=aD
    have A:Hid (decide (0<A0 v ps)=false):=by
     unfold Hid;rw[u.o]
     have N:A0 v (qs.map (·.2)).flatten=0:=(P7 _).2 (fun x hx=>by
      obtain⟨y,S,rfl⟩:=bQ.1 hx;obtain⟨j,m,rfl⟩:=List.getElem_of_mem S;exact E.o j m m)
     rw[N];rfl
    go_wp2_with fail;go_ret;exact⟨C5 (by rw[A.o]),rfl⟩
theorem uB:∀d,zX d
 |0=>fun _ _ _ _ _ h=>h.elim
 |d+1=>aCl d (uB d)
theorem YC{F:Nat->Prop}{w:World}{p:Nat}{ps:List AB}(v:Int)(h:dn F w p ps):Calls prog 166 #[.int .i64 v,.pointer (some ⟨p,0,none⟩)] w fun r w'=>r= .returned (.bool (decide (0<A0 v ps)))/\w'=w:=uB _ _ _ _ _ _ h.choose_spec
def aBs(d:Nat):Prop:=∀(F:Nat->Prop) (w:World) (p:Nat) (ps:List AB) (v:Value) (bs:List ByteArray) (a:List Int),cu F w d p ps->(∀x∈ps,∃f,ru f x)->ps.length<=100000->Seen w 9 A3 v bs->yj a bs->VIn (· ∈a) ps->a.length<=1000000->Tab w->Calls prog 79 #[.pointer (some ⟨p,0,none⟩),v] w fun r w'=>r= .returned (.string (FO (C2 a) ps))/\Below w.heap.size w w'
theorem gU(d:Nat)(IH:aBs d):aBs (d+1):=by
 intro F w p ps v bs l h a A b t M B O;obtain⟨av,cv,hv⟩:=b.slice;subst hv;have HI:=aO IH;clear IH;rcases h.2 with⟨i,u,e⟩|⟨v,u,e⟩|⟨s,u,e⟩|⟨s,vq,qs,u,L,_,h1,h4,hq,e⟩
 ·have hm:i∈l:=M ⟨1,⟨#[]⟩,i,0⟩ (by rw[e];simp) rfl;have hx:Hid (FO (C2 l) ps=GA l i):=by unfold Hid;rw[e];simp[FO,FQ,CI,C2,JP]
  obtain⟨a0,a1⟩:=t.lt i hm;obtain⟨j,rfl⟩:=Int.eq_ofNat_of_zero_le a0;have b1:j<bs.length:=aD;obtain⟨g,off,rfl⟩:=b.pos aD;have hc:=b.cells C7 j _ (t.at' j b1) 0 _ rfl;simp only[Nat.mul_one,dG] at hc;have gl:=b.lt;have⟨P,k1⟩:=cI u;simp at P k1;have a2: (j:Int)<(bs.length:Int):=a1;clear u e a b O h t M hm;go_enter func79,ntmps79;go_wp2_with fail;go_ret;exact⟨E7 hx.o.symm,bZ _ _⟩
 ·obtain⟨f9,b0⟩:=a ⟨2,⟨#[]⟩,v,0⟩ (by rw[e];simp);obtain⟨W,X⟩:=b0.2.2.1 rfl;have a0: -999999999<=v:=W;have a1:v<=999999999:=X;clear W X;have hx:Hid (FO (C2 l) ps=FR v):=by unfold Hid;rw[e];simp[FO,FQ,CI,C2,JP]
  have⟨P,k1⟩:=cI u;simp at P k1;have HT:=aO O;clear u e a b O h t M;go_enter func79,ntmps79;go_wp2_with (go_at_call 108;refine(Tryz.strconv_Itoa v aD aD _ HT.o).mono ?_;rintro r w1 ⟨rfl,k,os,c4⟩);go_ret;exact⟨E7 hx.o.symm,NU _ _ _⟩
 ·have hx:Hid (FO (C2 l) ps=s):=by unfold Hid;rw[e];simp[FO,FQ,CI,C2,JP]
  have P:w.cell? ⟨p,0,none⟩=some (.int .u8 97):=AA u 0;have k1:w.cell? ⟨p,2,none⟩=some (.string s):=AA u 2;clear u e a b O h t M;go_enter func79,ntmps79;go_wp2_with fail;go_ret;exact⟨E7 hx.o.symm,bZ _ _⟩
 ·obtain⟨N,Lu,rfl,_⟩:∃N Lu,vq= .slice (some ⟨N,0,none⟩) qs.length Lu/\True:=by
   rcases L.shape with⟨_,a3⟩|⟨N,cq,e,_⟩
   ·have:=congrArg List.length a3;rw[aZ,dA] at this;omega
   ·rw[aZ] at e;exact⟨N,cq,e,trivial⟩
  have a5:∀q∈qs.map (·.2),Wf d q:=fun q m=>by
   obtain⟨x,hx,rfl⟩:=bQ.1 m;exact(hq x hx).wf
  have hx:Hid (FO (C2 l) ps=JC (C2 l) s (qs.map (·.2)) qs.length++⟨#[41]⟩):=by
   have h9:=tF (f:=C2 l) (fun s n=>rfl) d s (qs.map (·.2)) (by simpa using h1) a5;have h8:=aBk (f:=C2 l) s (qs.map (·.2)) (by simpa using h1);rw[aZ] at h9 h8;unfold Hid;rw[e,h9,h8]
  have I:∀q∈qs,∀x∈q.2,∃f,ru f x:=fun q m x z=>a x (by rw[e];exact bA _ (List.mem_flatten.2 ⟨q.2,List.mem_map_of_mem m,z⟩));have a6:=aO I;have a9:Hid (∀q∈qs,VIn (· ∈l) q.2):=fun q m x z hk=>M x (by rw[e];exact bA _ (List.mem_flatten.2 ⟨q.2,List.mem_map_of_mem m,z⟩)) hk;have R:=aO t
  have K:∀q∈qs,q.2.length<=100000:=fun q m=>by
   have h5:q.2.length<=(qs.map (·.2)).flatten.length:=(List.sublist_flatten_of_mem (List.mem_map_of_mem m)).length_le;rw[e] at A;simp only[bM] at A;omega
  have a7:=aO K;have c0:s.size<=12:=(a ⟨3,s,0,qs.length⟩ (by rw[e];simp)).choose_spec.2.2.2
  have a4:∀k,k<=qs.length->(JC (C2 l) s (qs.map (·.2)) k).size<=12+4*2400001:=fun k hk=>by
   have h5:=eO (f:=C2 l) s (qs.map (·.2)) 2400000 (fun q m=>by
    obtain⟨x,z,rfl⟩:=bQ.1 m;have:=O6 (f:=C2 l) x.2 (fun y hy=>MS B (I x z y hy).choose_spec);have:=K x z;omega) k (by simpa using hk)
   have h6:k*(2400000+1)<=4*(2400000+1):=Nat.mul_le_mul_right _ aD;omega
  have T:=aO a4;clear K a4;have Hq:=aO hq;have oz:=aO b;have HT:=aO O;have Hb:=aO u;have a8:=aO L;have P:w.cell? ⟨p,0,none⟩=some (.int .u8 99):=AA u 0;have k2:w.cell? ⟨p,2,none⟩=some (.string s):=AA u 2;clear a5 I a e hq b O u L h A t M;go_enter func79,ntmps79;go_wp2_with fail;go_loopw [5,6,7] (fun sv iv _ wr=>∃k:Nat,k<=qs.length/\iv= .int .i64 k/\sv= .string (JC (C2 l) s (qs.map (·.2)) k)/\Below w.heap.size w wr) (fun _ iv _ _=>qs.length -(intOf iv).toNat)
  case atStart=>exact⟨0,aD,rfl,rfl,bZ _ _⟩
  case round=>
   obtain⟨k,hk,rfl,rfl,c⟩:=hrel;have hB:TmB wr p 99 0 s (.slice (some ⟨N,0,none⟩) qs.length Lu):=(c.block p (AD Hb.o)).trans Hb.o;have y3:wr.cell? ⟨p,3,none⟩=some (.slice (some ⟨N,0,none⟩) qs.length Lu):=AA hB 3;clear P k2 hB;by_cases J:k<qs.length
   ·have E:=(a8.o.below c).cells DH k qs[k].1 (by simp[J]) 0 _ rfl;simp only[Nat.mul_one,dG] at E;have o:qs[k]∈qs:=bG J;have V:=cu.keptBy (F':=F) (Kept.of_below c (fun _=>False)) (fun _ _ hF=>⟨fun e=>e,hF⟩) (Hq.o _ o);have H:=a6.o _ o;have Z:=a7.o _ o;have b2:=O6 (f:=C2 l) _ (fun y hy=>MS B (H y hy).choose_spec);have c1: (FO (C2 l) qs[k].2).size<=2400000:=aD;have b3:=T.o k aD;clear b2;have G: (qs.map (·.2)).getD k []=qs[k].2:=by simp[J]
    have C:Hid (JC (C2 l) s (qs.map (·.2)) (k+1)=if k=0 then(s++⟨#[40]⟩)++FO (C2 l) qs[k].2 else(JC (C2 l) s (qs.map (·.2)) k++⟨#[44]⟩)++FO (C2 l) qs[k].2):=by
     unfold Hid;rw[JC];split
     ·rename_i h0;subst h0;rw[G]
     ·rw[G]
    clear G;have Q:=aO V;have S:=aO H;have U:=aO (a9.o _ o);clear V H o;generalize qs[k]=q at*;have b4: (⟨#[40]⟩:ByteArray).size=1:=rfl;have b6: (⟨#[44]⟩:ByteArray).size=1:=rfl;have c2: (JC (C2 l) s (qs.map (·.2)) k++⟨#[44]⟩).size<=13+4*2400001:=by rw[bI];omega
    have c3: (s++⟨#[40]⟩).size<=13:=by rw[bI];omega
    by_cases Y:k=0
    ·subst Y;go_wp2_with (go_at_call 79;refine(HI.o F _ q.1 q.2 _ bs l Q.o S.o Z (Seen.kept oz.o (Kept.of_below c (fun _=>False)) (fun _ _ _ e=>e)) R.o U.o B (Tab.below HT.o c)).mono ?_;rintro r w2 ⟨rfl,D⟩);go_roundw
     case rel=>exact⟨1,aD,rfl,by rw[C.o];simp[JC],c.trans (D.mono c.size)⟩
     case measure=>simp[intOf];omega
    ·have b7: ((k:Int)==0)=false:=by rw[aY];omega
     go_wp2_with (go_at_call 79;refine(HI.o F _ q.1 q.2 _ bs l Q.o S.o Z (Seen.kept oz.o (Kept.of_below c (fun _=>False)) (fun _ _ _ e=>e)) R.o U.o B (Tab.below HT.o c)).mono ?_;rintro r w2 ⟨rfl,D⟩);go_roundw
     case rel=>exact⟨k+1,aD,by go_num,by rw[C.o,bC Y],c.trans (D.mono c.size)⟩
     case measure=>simp[intOf];omega
   ·obtain rfl:k=qs.length:=aD;have b3:=T.o _ (aX _);have b5: (⟨#[41]⟩:ByteArray).size=1:=rfl;go_wp2_with fail;go_ret;exact⟨E7 hx.o.symm,c⟩
theorem UE:∀d,aBs d
 |0=>fun _ _ _ _ _ _ _ h=>h.elim
 |d+1=>gU d (UE d)
theorem cu.whole{F:Nat->Prop}{w:World}:∀{d p:Nat} {ps:List AB},cu F w d p ps->Rf.Whole ps 1
 |0,_,_,h=>h.elim
 |d+1,p,ps,h=>by
  rcases h.2 with⟨i,_,e⟩|⟨n,_,e⟩|⟨s,_,e⟩|⟨s,v,qs,_,_,_,c,_,a,e⟩
  ·rw[e];exact⟨aF,rfl⟩
  ·rw[e];exact⟨aF,rfl⟩
  ·rw[e];exact⟨aF,rfl⟩
  ·rw[e];refine⟨aF,?_⟩
   have:=RI (qs:=qs.map (·.2)) (fun q b=>by
    obtain⟨x,hx,rfl⟩:=bQ.1 b;exact cu.whole (a x hx))
   rw[aZ] at this;have e: (1:Int)+(qs.length:Nat)-1=qs.length:=aD;show Rf.Whole _ ((1:Int)+(qs.length:Nat)-1);rw[e];exact this
theorem dn.whole{F:Nat->Prop}{w:World}{p:Nat}{ps:List AB}(h:dn F w p ps):Rf.Whole ps 1:=h.choose_spec.whole
theorem N9{F:Nat->Prop}{w:World}{d p:Nat}{ps:List AB}(h:cu F w d p ps)(n:Nat):cu F (w.drewN n) d p ps:=h.over ((bZ _ w).drewN n) (fun _ _ e=>e)
def aAu(d:Nat):Prop:=∀(F F':Nat->Prop) (w:World) (p b:Nat) (ps a:List AB),cu F w d p ps->cu F' w d b a->Calls prog 165 #[.pointer (some ⟨p,0,none⟩),.pointer (some ⟨b,0,none⟩)] w fun r w'=>r= .returned (.bool (FT ps a))/\∃m,w'=w.drewN m
theorem aAO{F F':Nat->Prop}{w:World}{d:Nat}{k n k' t:Int}{s u:ByteArray}{qs b:List (Nat×List AB)}{ps g:List AB}(J:∀q∈qs,cu F w d q.1 q.2)(z:∀q∈b,cu F' w d q.1 q.2) (h: (k=118/\s=⟨#[]⟩/\qs=[]/\ps=[⟨1,⟨#[]⟩,n,0⟩])\/(k=110/\s=⟨#[]⟩/\qs=[]/\ps=[⟨2,⟨#[]⟩,n,0⟩])\/(k=97/\n=0/\qs=[]/\ps=[⟨3,s,0,0⟩])\/(k=99/\n=0/\1<=qs.length/\ps=⟨3,s,0,qs.length⟩::(qs.map (·.2)).flatten)) (B: (k'=118/\u=⟨#[]⟩/\b=[]/\g=[⟨1,⟨#[]⟩,t,0⟩])\/(k'=110/\u=⟨#[]⟩/\b=[]/\g=[⟨2,⟨#[]⟩,t,0⟩])\/(k'=97/\t=0/\b=[]/\g=[⟨3,u,0,0⟩])\/(k'=99/\t=0/\1<=b.length/\g=⟨3,u,0,b.length⟩::(b.map (·.2)).flatten)):ps=g↔k=k'/\n=t/\s=u/\qs.length=b.length/\∀j (p:j<qs.length) (o:j<b.length),qs[j].2=b[j].2:=by
 have A:∀{l l':List (Nat×List AB)},l=[]->l'=[]->(l.length=l'.length/\∀j (p:j<l.length) (o:j<l'.length),l[j].2=l'[j].2):=fun e C=>by subst e;subst C;exact⟨rfl,fun j p=>by simp at p⟩
 constructor
 ·intro e;rcases h with⟨rfl,rfl,c,f⟩|⟨rfl,rfl,c,f⟩|⟨rfl,rfl,c,f⟩|⟨rfl,rfl,c,f⟩<;>rcases B with⟨rfl,rfl,i,m⟩|⟨rfl,rfl,i,m⟩|⟨rfl,rfl,i,m⟩|⟨rfl,rfl,i,m⟩<;>rw[f,m] at e
  ·injection e with e _;injection e with _ _ e _;exact⟨rfl,e,rfl,A c i⟩
  ·injection e with e _;injection e with e;exact absurd e aF
  ·injection e with e _;injection e with e;exact absurd e aF
  ·injection e with e _;injection e with e;exact absurd e aF
  ·injection e with e _;injection e with e;exact absurd e aF
  ·injection e with e _;injection e with _ _ e _;exact⟨rfl,e,rfl,A c i⟩
  ·injection e with e _;injection e with e;exact absurd e aF
  ·injection e with e _;injection e with e;exact absurd e aF
  ·injection e with e _;injection e with e;exact absurd e aF
  ·injection e with e _;injection e with e;exact absurd e aF
  ·injection e with e _;injection e with _ e _ _;exact⟨rfl,rfl,e,A c i⟩
  ·injection e with e _;injection e with _ _ _ e;omega
  ·injection e with e _;injection e with e;exact absurd e aF
  ·injection e with e _;injection e with e;exact absurd e aF
  ·injection e with e _;injection e with _ _ _ e;omega
  ·injection e with e D;injection e with _ E _ K;have r:qs.length=b.length:=aD;have:=@YE (qs.map (·.2)) (b.map (·.2)) (by simpa using r) (fun a y=>by obtain⟨x,hx,rfl⟩:=bQ.1 y;exact(J x hx).whole) (fun a y=>by obtain⟨x,hx,rfl⟩:=bQ.1 y;exact(z x hx).whole) D;refine⟨rfl,rfl,E,r,fun j p o=>?_⟩;have G:=congrArg (fun l=>l[j]?) this;simpa[p,o] using G
 ·rintro⟨rfl,rfl,rfl,r,H⟩
  have I:qs.map (·.2)=b.map (·.2):=by
   apply List.ext_getElem
   ·simpa using r
   ·intro j c f;simp only[List.getElem_map];exact H j (by simpa using c) (by simpa using f)
  rcases h with⟨rfl,_,c,f⟩|⟨rfl,_,c,f⟩|⟨rfl,_,c,f⟩|⟨rfl,_,c,f⟩<;>rcases B with⟨v,_,i,m⟩|⟨v,_,i,m⟩|⟨v,_,i,m⟩|⟨v,_,i,m⟩<;>first|(exact absurd v aF)|(rw[f,m];done)|(rw[f,m,I,r])
theorem s6(d:Nat)(W:aAu d):aAu (d+1):=by
 intro F F' w p p' ps f h X;obtain⟨k,n,s,a,c,qs,J,hs,h4,R,G⟩:=h.args;obtain⟨k',n',s',a',c',b,v,H,a3,B,y⟩:=X.args;have C:=aO (aAO R B G y);have U:=aO W;have Hq:=aO R;have Hs:=aO hs;have L:=aO B;have M:=aO H;have⟨k0,k1,k2,T⟩:=cM J;simp at k0 k1 k2 T;have kl:=AD J;have⟨j0,j1,j2,K⟩:=cM v;simp at j0 j1 j2 K;have jl:=AD v;have Hb:=aO J;have a1:=aO v;clear W R hs J h G B H v X y;by_cases N:k=k'
 ·subst N;by_cases O:n=n'
  ·subst O;by_cases P:s=s'
   ·subst P;by_cases D:qs.length=b.length
    ·have Z:Hid (FT ps f=true↔∀j (z:j<qs.length) (r:j<b.length),qs[j].2=b[j].2):=by
      unfold Hid;rw[M9,C.o];simp[D]
     clear C;have E4:=aO D;rw[<-D] at K;clear D;go_enter func165,ntmps165;go_wp2_with fail;go_quiet (fail);go_wp2_with fail;go_loopw [5,6] (fun S _ wr=>∃k:Nat,k<=qs.length/\S= .int .i64 k/\(∀j (z:j<qs.length) (r:j<b.length),j<k->qs[j].2=b[j].2)/\∃m,wr=w.drewN m) (fun S _ _=>qs.length -(intOf S).toNat)
     case atStart=>exact⟨0,aD,rfl,fun j _ _ h=>by omega,_,rfl⟩
     case round=>
      obtain⟨i,hk,rfl,hz,m,x⟩:=hrel;have l:=aO x;have y3:wr.cell? ⟨p,3,none⟩=some (.slice a qs.length c):=by rw[x];exact T
      have z3:wr.cell? ⟨p',3,none⟩=some (.slice a' qs.length c'):=by rw[x];exact K
      clear x k0 k1 k2 T j0 j1 j2 K;have V:=aO hz;clear hz;by_cases A:i<qs.length
      ·have t:i<b.length:=by have:=E4.o;omega
       obtain⟨g,off,rfl,hc,gl⟩:=G0 (by rw[l.o];exact Hs.o.below ((bZ _ w).drewN m):Seen wr _ _ _ _) A;obtain⟨g',a0,rfl,a4,a2⟩:=G0 (by rw[l.o];exact M.o.below ((bZ _ w).drewN m):Seen wr _ _ _ _) t;have Y:Hid (cu F wr d qs[i].1 qs[i].2):=by unfold Hid;rw[l.o];exact N9 (Hq.o _ (bG A)) m
       have E:Hid (cu F' wr d b[i].1 b[i].2):=by unfold Hid;rw[l.o];exact N9 (L.o _ (bG t)) m
       by_cases o:qs[i].2=b[i].2
       ·have Q:FT qs[i].2 b[i].2=true:=M9.2 o
        have hn:Hid (∀j (z:j<qs.length) (r:j<b.length),j<i+1->qs[j].2=b[j].2):=fun j z r h=>by
         by_cases e:j=i
         ·subst e;exact o
         ·exact V.o j z r aD
        clear o;generalize qs[i]=q at*;generalize b[i]=I at*;go_wp2_with fail;go_quiet ((go_at_call 165;exact Calls.quiet_of (U.o F F' _ q.1 I.1 q.2 I.2 (N9 Y.o _) (N9 E.o _))));go_wp2_with fail;go_roundw
        case rel=>exact⟨i+1,aD,by go_num,hn.o,m+nq,by rw[l.o,World.drewN_drewN]⟩
        case measure=>simp[intOf];omega
       ·have Q:FT qs[i].2 b[i].2=false:=L0 o
        have u:Hid (FT ps f=false):=by
         unfold Hid
         cases e:FT ps f with
         |false=>rfl
         |true=>exact absurd (Z.o.1 e i A t) o
        clear o;generalize qs[i]=q at*;generalize b[i]=I at*;go_wp2_with fail;go_quiet ((go_at_call 165;exact Calls.quiet_of (U.o F F' _ q.1 I.1 q.2 I.2 (N9 Y.o _) (N9 E.o _))));go_wp2_with fail;go_ret;exact⟨C5 u.o.symm,m+nq,by rw[l.o,World.drewN_drewN]⟩
      ·obtain rfl:i=qs.length:=aD;have u:Hid (FT ps f=true):=Z.o.2 (fun j z r=>V.o j z r z);go_wp2_with fail;go_ret;exact⟨C5 u.o.symm,m,l.o⟩
    ·have u:Hid (FT ps f=false):=L0 (fun e=>D (C.o.1 e).2.2.2.1);have hl: ((qs.length:Int)!=b.length)=true:=aJ;go_enter func165,ntmps165;go_wp2_with fail;go_quiet (fail);go_wp2_with fail;go_ret;exact⟨C5 u.o.symm,_,rfl⟩
   ·have u:Hid (FT ps f=false):=L0 (fun e=>P (C.o.1 e).2.2.1);have hl: (s.toList==s'.toList)=false:=by rw[beq_toList];exact decide_eq_false P
    skip
    go_enter func165,ntmps165;go_wp2_with fail;go_quiet (fail);go_wp2_with fail;go_ret;exact⟨C5 u.o.symm,_,rfl⟩
  ·have u:Hid (FT ps f=false):=L0 (fun e=>O (C.o.1 e).2.1);have hl: (n !=n')=true:=by simpa using O
   go_enter func165,ntmps165;go_wp2_with fail;go_quiet (fail);go_wp2_with fail;go_ret;exact⟨C5 u.o.symm,_,rfl⟩
 ·have u:Hid (FT ps f=false):=L0 (fun e=>N (C.o.1 e).1);have hk: (k !=k')=true:=by simpa using N
  go_enter func165,ntmps165;go_wp2_with fail;go_quiet (fail);go_wp2_with fail;go_ret;exact⟨C5 u.o.symm,_,rfl⟩
theorem kJ:∀d,aAu d
 |0=>fun _ _ _ _ _ _ _ h=>h.elim
 |d+1=>s6 d (kJ d)
theorem KB{F F':Nat->Prop}{w:World}{p c:Nat}{ps a:List AB}(h:dn F w p ps)(b:dn F' w c a):Calls prog 165 #[.pointer (some ⟨p,0,none⟩),.pointer (some ⟨c,0,none⟩)] w fun r w'=>r= .returned (.bool (FT ps a))/\∃m,w'=w.drewN m:=by
 obtain⟨d,h⟩:=h;obtain⟨e,b⟩:=b;exact kJ (max d e) F F' w p c ps a (h.up aD) (b.up aD)
end Go.Proofs.Q
namespace Rf
theorem aBr{v:Int}{x:List AB}{p:AB}(h:isV v p=true):AP v x [p]=x:=by rw[AP,bD h];simp[AP]
theorem SV{v:Int}{x:List AB}{p:AB}(h:isV v p=false):AP v x [p]=[p]:=by rw[AP,bC (by simp[h])];simp[AP]
theorem vW{v:Int}{x:List AB}{s:ByteArray}{n:Int}(qs:List (List AB)):AP v x (⟨3,s,0,n⟩::qs.flatten)=⟨3,s,0,n⟩::(qs.map (AP v x)).flatten:=by
 rw[AP,bC (by simp[isV]),UC];rfl
end Rf
namespace Go.Proofs.Q
open Rf _root_.Go.Proofs.Tryz
open Go.RowKit
theorem H8{α β:Type}(f:α->β){l:List α}{i:Nat}(h:i<l.length): (l.take (i+1)).map f=(l.take i).map f++[f l[i]]:=by
 rw[bJ h,bE];rfl
theorem gC{w w':World}{row:Option Nat}{X:Nat}{k n:Int}{s:ByteArray}{v:Value}(a:w.grownBy w' row)(h:TmB w X k n s v)(hx:row≠some X):TmB w' X k n s v:=(a.block X (AD h) (fun e=>hx e.symm)).trans h
def zO(d:Nat):Prop:=∀(F:Nat->Prop) (w:World) (p x:Nat) (v:Int) (ps b:List AB),(∀k,w.heap.size<=k->F k)->cu F w d p ps->dn F w x b->Calls prog 179 #[.pointer (some ⟨p,0,none⟩),.int .i64 v,.pointer (some ⟨x,0,none⟩)] w fun r w'=>∃a,r= .returned (.pointer (some ⟨a,0,none⟩))/\dn F w' a (AP v b ps)/\Below w.heap.size w w'
theorem aAz(d:Nat)(U:zO d):zO (d+1):=by
 intro F w p x v ps j W h hx;have J:Hid (dn F w p ps):=⟨_,h⟩
 obtain⟨k,n,s,a,c,qs,I,Z,h4,Y,N⟩:=h.args;have HI:=aO U;have Hq:=aO Y;have Hs:=aO Z;have T:=aO hx;have S:=aO W;have⟨k0,k1,k2,k3⟩:=cM I;simp at k0 k1 k2 k3;have kl:=AD I;have Hb:=aO I;clear U Y Z I h hx W;rcases N with⟨rfl,_,rfl,e⟩|⟨rfl,_,rfl,e⟩|⟨rfl,_,rfl,e⟩|⟨rfl,_,h1,e⟩
 ·by_cases m:n=v
  ·have t:Hid (AP v j ps=j):=by unfold Hid;rw[e];exact aBr (by simp[isV,m])
   subst m;clear e;go_enter func179,ntmps179;go_wp2_with fail;go_ret;exact⟨x,rfl,by rw[t.o];exact T.o,bZ _ _⟩
  ·have t:Hid (AP v j ps=ps):=by unfold Hid;rw[e];exact SV (by simp[isV,m])
   have a1: (n==v)=false:=aY.2 m;clear e m;go_enter func179,ntmps179;go_wp2_with fail;go_ret;exact⟨p,rfl,by rw[t.o];exact J.o,bZ _ _⟩
 ·have t:Hid (AP v j ps=ps):=by unfold Hid;rw[e];exact SV (by simp[isV])
  clear e;go_enter func179,ntmps179;go_wp2_with fail;go_ret;exact⟨p,rfl,by rw[t.o];exact J.o,bZ _ _⟩
 ·have t:Hid (AP v j ps=ps):=by unfold Hid;rw[e];exact SV (by simp[isV])
  clear e;go_enter func179,ntmps179;go_wp2_with fail;go_ret;exact⟨p,rfl,by rw[t.o];exact J.o,bZ _ _⟩
 ·have t:Hid (AP v j ps=⟨3,s,0,qs.length⟩::((qs.map (·.2)).map (AP v j)).flatten):=by unfold Hid;rw[e];exact vW _
  clear e;go_enter func179,ntmps179;go_wp2_with fail;generalize u:w.alloc _=Q;have B:TmB Q w.heap.size 99 0 s (.slice none 0 0):=by rw[<-u];exact AJ w _
  have G:Below w.heap.size w Q:=by rw[<-u];exact(bZ _ w).alloc (aX _) _
  have O:w.heap.size+1=Q.heap.size:=by rw[<-u];simp
  clear u;go_loopw [8,9] (fun P _ wr=>∃(i:Nat) (z:Value) (acc:List (Nat×List AB)),i<=qs.length/\P= .int .i64 i/\Mk F w.heap.size wr w.heap.size s z acc/\acc.map (·.2)=((qs.take i).map (fun q=>AP v j q.2))/\Below w.heap.size w wr) (fun P _ _=>qs.length -(intOf P).toNat)
  case atStart=>exact⟨0,_,[],aD,rfl,Mk.start F B (aX _),aE,G⟩
  case round=>
   obtain⟨i,z,acc,hi,rfl,A,l,b⟩:=hrel;have E:acc.length=i:=by have:=congrArg List.length l;simp at this;omega
   have R:=aO l;have y3:wr.cell? ⟨p,3,none⟩=some (.slice a qs.length c):=AA ((b.block p kl).trans Hb.o) 3;have a2:=b.size;have a0:=AD A.blk;clear l k0 k1 k2 k3 B G O;by_cases y:i<qs.length
   ·obtain⟨g,off,rfl,hc,gl⟩:=G0 (Hs.o.below b) y;have L:Hid (∀k,wr.heap.size<=k->F k/\z.ownBlock≠some k/\k≠w.heap.size):=fun k X=>⟨S.o k aD,fun e=>by have:=(A.row.lt k e).2;omega,aD⟩
    have hA:Hid (cu (fun k=>F k/\z.ownBlock≠some k/\k≠w.heap.size) wr d qs[i].1 qs[i].2):=(Hq.o _ (bG y)).over b (fun k X e=>⟨e,fun K=>by have:=A.au k K;omega,aD⟩);have hX:Hid (dn (fun k=>F k/\z.ownBlock≠some k/\k≠w.heap.size) wr x j):=dn.over T.o b (fun k X e=>⟨e,fun K=>by have:=A.au k K;omega,aD⟩)
    have hn:Hid (∀q',(acc++[((q':Nat),AP v j qs[i].2)]).map (·.2)=(qs.take (i+1)).map (fun q=>AP v j q.2)):=fun q'=>by
     rw[bE,R.o,H8 _ y];rfl
    generalize qs[i]=q at*
    go_wp2_with (first
     |(at_builtin;refine AY Tryz.uj BQ DH ET _ rfl (.tmp 59) (.tmp 61) rfl 0 _ (acc.map (·.1)) rfl (f.row.alloc _) ⟨_,0,none⟩ 1 p2 rfl (BL _ _ rfl _ _) aJ (bK _) ?_;intro gA gu w3 o V jh;rw[aZ,E] at o;have D:=gC V (AF f.blk _) f.apart;have t3:w3.cell? ⟨w.heap.size,3,none⟩=some z:=AA D 3;have tf:=AE D;have C:=Mk.push f M V jh o)
     |(go_at_call 179;refine(HI.o _ _ q.1 x v q.2 j L.o hA.o hX.o).mono ?_;rintro r w2 ⟨p2,rfl,M,H⟩;have f:=A.over H;have x3:w2.cell? ⟨w.heap.size,3,none⟩=some z:=AA f.blk 3;have xf:=AE f.blk;have xl:=AD f.blk))
    go_roundw
    case rel=>exact⟨i+1,_,_,aD,by go_num,C.1,hn.o p2,C.2 w (b.trans (H.mono b.size))⟩
    case measure=>simp[intOf];omega
   ·obtain rfl:i=qs.length:=aD;go_wp2_with fail;go_ret;refine⟨w.heap.size,rfl,?_,b⟩;have:=A.done S.o aD aD;rw[R.o,E,bR (aX _)] at this;rw[t.o,List.map_map];exact this
theorem U1:∀d,zO d
 |0=>fun _ _ _ _ _ _ _ _ h=>h.elim
 |d+1=>aAz d (U1 d)
theorem VB{F:Nat->Prop}{w:World}{p x:Nat}(v:Int){ps b:List AB}(c:∀k,w.heap.size<=k->F k)(h:dn F w p ps)(hx:dn F w x b):Calls prog 179 #[.pointer (some ⟨p,0,none⟩),.int .i64 v,.pointer (some ⟨x,0,none⟩)] w fun r w'=>∃a,r= .returned (.pointer (some ⟨a,0,none⟩))/\dn F w' a (AP v b ps)/\Below w.heap.size w w':=U1 _ _ _ _ _ _ _ _ c h.choose_spec hx
end Go.Proofs.Q
namespace Rf
theorem zZ{off h:Int}{p:AB}:A5 off h [p]=[EH off h p]:=rfl
theorem wU{off h:Int}{s:ByteArray}{n:Int}(qs:List (List AB)):A5 off h (⟨3,s,0,n⟩::qs.flatten)=⟨3,s,0,n⟩::(qs.map (A5 off h)).flatten:=by
 unfold A5;rw[List.map_cons,List.map_flatten];rfl
end Rf
namespace Go.Proofs.Q
open Rf _root_.Go.Proofs.Tryz
open Go.RowKit
def aAQ(d:Nat):Prop:=∀(F F':Nat->Prop) (w:World) (p:Nat) (off h:Int) (ps:List AB),(∀k,w.heap.size<=k->F' k)->cu F w d p ps->(∀q∈ps,q.kind=1->0<=q.value/\q.value<=16)->0<=off->off<=1000000000000000->Calls prog 143 #[.pointer (some ⟨p,0,none⟩),.int .i64 off] w fun r w'=>∃a,r= .returned (.pointer (some ⟨a,0,none⟩))/\dn F' w' a (A5 off h ps)/\Below w.heap.size w w'
theorem zV(d:Nat)(IH:aAQ d):aAQ (d+1):=by
 intro F F' w p off h ps hF hT hv W Y;obtain⟨k,n,s,a,c,qs,u,hs,h4,hq,l⟩:=hT.args;have HI:=aO IH;have Hq:=aO hq;have Hs:=aO hs;have C:=aO hF;have Hv:=aO hv;have⟨k0,k1,k2,k3⟩:=cM u;simp at k0 k1 k2 k3;have O:=AD u;have N:=aO u;clear IH hq hs u hT hF hv;by_cases t:k=118
 ·subst t
  have e:ps=[⟨1,⟨#[]⟩,n,0⟩]:=by
   rcases l with⟨_,_,_,e⟩|⟨e,_⟩|⟨e,_⟩|⟨e,_⟩
   ·exact e
   ·exact absurd e aF
   ·exact absurd e aF
   ·exact absurd e aF
  have hr:Hid (A5 off h ps=[⟨1,⟨#[]⟩,n+off,0⟩]):=by unfold Hid;rw[e,zZ];rfl
  have L:=Hv.o ⟨1,⟨#[]⟩,n,0⟩ (by rw[e];simp) rfl;have a3:0<=n:=L.1;have a4:n<=16:=L.2;clear e l L;go_enter func143,ntmps143;go_wp2_with fail;go_ret;refine⟨w.heap.size,rfl,?_,(bZ _ w).alloc (aX _) _⟩;rw[hr.o];exact⟨1,C.o _ (aX _),.inl ⟨_,AJ w _,rfl⟩⟩
 ·have a2: (k==118)=false:=aY.2 t;go_enter func143,ntmps143;go_wp2_with fail;have P:Hid (∀X:World,Below w.heap.size w X->(fun X:World=>Below w.heap.size w X/\X.cell? ⟨p,0,none⟩=some (.int .u8 k)/\X.cell? ⟨p,1,none⟩=some (.int .i64 n)/\X.cell? ⟨p,2,none⟩=some (.string s)) X):=fun X u=>⟨u,AA ((u.block p O).trans N.o) 0,AA ((u.block p O).trans N.o) 1,AA ((u.block p O).trans N.o) 2⟩
  have Q: (fun X:World=>Below w.heap.size w X/\X.cell? ⟨p,0,none⟩=some (.int .u8 k)/\X.cell? ⟨p,1,none⟩=some (.int .i64 n)/\X.cell? ⟨p,2,none⟩=some (.string s)) w.drew:=P.o _ (bZ _ _).drew;go_region_held2 (fun X:World=>Below w.heap.size w X/\X.cell? ⟨p,0,none⟩=some (.int .u8 k)/\X.cell? ⟨p,1,none⟩=some (.int .i64 n)/\X.cell? ⟨p,2,none⟩=some (.string s)) (first|assumption|exact P.o _ aM) (fail);go_wp2_with fail;generalize A: (w.alloc _).drew=w0;have E:TmB w0 w.heap.size k n s (.slice none 0 0):=by rw[<-A];exact AJ w _
  have J:Below w.heap.size w w0:=by rw[<-A];exact((bZ _ w).alloc (aX _) _).drew
  have z:=aO E;clear A Q P;go_loopw [6,7] (fun iv _ wr=>∃(i:Nat) (M:Value) (acc:List (Nat×List AB)),i<=qs.length/\iv= .int .i64 i/\(1<=qs.length->Mk F' w.heap.size wr w.heap.size s M acc)/\acc.map (·.2)=((qs.take i).map (fun q=>A5 off h q.2))/\Below w.heap.size w wr/\(qs=[]->wr=w0)) (fun iv _ _=>qs.length -(intOf iv).toNat)
  case atStart=>
   refine⟨0,.slice none 0 0,[],aD,rfl,fun D=>?_,aE,J,fun _=>rfl⟩;rcases l with⟨_,_,rfl,_⟩|⟨_,_,rfl,_⟩|⟨_,_,rfl,_⟩|⟨rfl,rfl,_,_⟩
   ·simp at D
   ·simp at D
   ·simp at D
   ·exact Mk.start F' z.o (aX _)
  case round=>
   obtain⟨i,M,acc,hi,rfl,B,m,j,y⟩:=hrel;have I:acc.length=i:=by have:=congrArg List.length m;simp at this;omega
   have Gh:=aO m;have y3:wr.cell? ⟨p,3,none⟩=some (.slice a qs.length c):=AA ((j.block p O).trans N.o) 3;have a5:=j.size;have v:=aO y;have HM:=aO B;clear B m k0 k1 k2 k3 E J y;by_cases b:i<qs.length
   ·obtain⟨g,a0,rfl,hc,gl⟩:=G0 (Hs.o.below j) b;have B:=HM.o aD;have a1:=AD B.blk;have S:Hid (∀k,wr.heap.size<=k->F' k/\M.ownBlock≠some k/\k≠w.heap.size):=fun k U=>⟨C.o k aD,fun e=>by have:=(B.row.lt k e).2;omega,aD⟩
    have hA:Hid (cu F wr d qs[i].1 qs[i].2):=(Hq.o _ (bG b)).over j (fun k U e=>e)
    have L:Hid (∀q',(acc++[((q':Nat),A5 off h qs[i].2)]).map (·.2)=(qs.take (i+1)).map (fun q=>A5 off h q.2)):=fun q'=>by
     rw[bE,Gh.o,H8 _ b];rfl
    have Z:Hid (∀x∈qs[i].2,x.kind=1->0<=x.value/\x.value<=16):=fun x hx U=>by
     rcases l with⟨_,_,rfl,_⟩|⟨_,_,rfl,_⟩|⟨_,_,rfl,_⟩|⟨_,_,_,e⟩
     ·simp at b
     ·simp at b
     ·simp at b
     ·exact Hv.o x (by rw[e];exact bA _ (List.mem_flatten.2 ⟨_,List.mem_map_of_mem (bG b),hx⟩)) U
    have V:Hid (qs≠[]):=fun e=>by rw[e] at b;simp at b
    clear l;generalize qs[i]=q at*
    go_wp2_with (first
     |(at_builtin;refine AY Tryz.uj BQ DH ET _ rfl (.tmp 57) (.tmp 59) rfl 0 _ (acc.map (·.1)) rfl (f.row.alloc _) ⟨_,0,none⟩ 1 p2 rfl (BL _ _ rfl _ _) aJ (bK _) ?_;intro gA gu w3 o dw jh;rw[aZ,I] at o;have H:=gC dw (AF f.blk _) f.apart;have t3:w3.cell? ⟨w.heap.size,3,none⟩=some M:=AA H 3;have tf:=AE H;have G:=Mk.push f T dw jh o)
     |(go_at_call 143;refine(HI.o F _ _ q.1 off h q.2 S.o hA.o Z.o W Y).mono ?_;rintro r w2 ⟨p2,rfl,T,K⟩;have f:=B.over K;have x3:w2.cell? ⟨w.heap.size,3,none⟩=some M:=AA f.blk 3;have xf:=AE f.blk;have xl:=AD f.blk))
    go_roundw
    case rel=>exact⟨i+1,_,_,aD,by go_num,fun _=>G.1,L.o p2,G.2 w (j.trans (K.mono j.size)),fun e=>absurd e V.o⟩
    case measure=>simp[intOf];omega
   ·obtain rfl:i=qs.length:=aD;have R:=aO l;clear l;go_wp2_with fail;go_ret;refine⟨w.heap.size,rfl,?_,j⟩;rcases R.o with⟨e,_⟩|⟨rfl,rfl,rfl,e⟩|⟨rfl,rfl,rfl,e⟩|⟨rfl,rfl,D,e⟩
    ·exact absurd e t
    ·rw[e,v.o rfl];exact⟨1,C.o _ (aX _),.inr (.inl ⟨_,z.o,rfl⟩)⟩
    ·rw[e,v.o rfl];exact⟨1,C.o _ (aX _),.inr (.inr (.inl ⟨_,z.o,rfl⟩))⟩
    ·have:=(HM.o D).done C.o aD aD;rw[Gh.o,I,bR (aX _)] at this;rw[e,wU,List.map_map];exact this
theorem oW:∀d,aAQ d
 |0=>fun _ _ _ _ _ _ _ _ h=>h.elim
 |d+1=>zV d (oW d)
theorem oO{F F':Nat->Prop}{w:World}{p:Nat}(off h:Int){ps:List AB}(d:∀k,w.heap.size<=k->F' k)(e:dn F w p ps)(f:∀q∈ps,q.kind=1->0<=q.value/\q.value<=16)(b:0<=off)(c:off<=1000000000000000):Calls prog 143 #[.pointer (some ⟨p,0,none⟩),.int .i64 off] w fun r w'=>∃a,r= .returned (.pointer (some ⟨a,0,none⟩))/\dn F' w' a (A5 off h ps)/\Below w.heap.size w w':=oW _ _ _ _ _ _ _ _ d e.choose_spec f b c
end Go.Proofs.Q
