import Derived.Test.YthenokfmcjmfkaaGreatDoorYbl
import Derived.Test.YthenokfmcjmfkaaGreatDoorYar
import Derived.Test.YthenokfmcjmfkaaGreatDoorYav
set_option maxRecDepth 100000
set_option maxHeartbeats 8000000
namespace Go.Proofs.Q
open Rf _root_.Go.Proofs.Tryz
open Go.RowKit
theorem aj.dk{α:Type}{E:TypeId->Prop}{w w':World}{base:Nat}{e:TypeId}{size:Nat}{C:α->List Value}{v:Value}{c:List α}(h:aj w base e size C v c)(i:DK E w w')(j:E e):aj w' base e size C v c:=by
 refine⟨h.own.1,?_⟩;rcases h.own.2 with l|⟨g,a,b,d,f,k,r⟩
 ·exact .inl l
 ·exact .inr ⟨g,a,b,d,f,i.block g _ _ k j,r⟩
theorem xw.dk{B:Nat}{w w':World}{v:Value}{acc:List (Nat×List AB)}(h:xw B w v acc)(a:DK TmT w w'):xw B w' v acc:=⟨aj.dk h.row a (.inr rfl),h.new,fun q b=>⟨_,cu.dk a (fun _ e=>e) (fun _ _ _ _ _ e=>e) (h.els q b).choose_spec⟩⟩
theorem aAV{b wr X j:World}{y f n c h v u:Nat}{a:Option Addr}{vC F G H:Value}{lim w:Int}{T N:List ByteArray}{L:Array Value}{M:Value}{acc:List (Nat×List AB)}(J:RsB wr y vC lim false (.slice a n c) F G H w)(g:aj wr b.heap.size 9 1 A3 (.slice a n c) T)(I:wr.heap[f]?=some (.cells L 59 (0,0)))(Q:xw b.heap.size wr M acc)(q:Kept (fun k=>k=y\/k=f) b wr)(E:y<b.heap.size)(x:f<b.heap.size) (i:Below wr.heap.size wr X) (m:X.grownBy j (Value.slice a n c).ownBlock) (t:aj j b.heap.size 9 1 A3 (.slice (some ⟨h,0,none⟩) v u) N):∃l:World,Hid (l=j.setCell ⟨y,3,none⟩ (.slice (some ⟨h,0,none⟩) v u))/\RsB l y vC lim false (.slice (some ⟨h,0,none⟩) v u) F G H w/\aj l b.heap.size 9 1 A3 (.slice (some ⟨h,0,none⟩) v u) N/\l.heap[f]?=some (.cells L 59 (0,0))/\xw b.heap.size l M acc/\Kept (fun k=>k=y\/k=f) b l/\b.heap.size<=l.heap.size:=by
 have D:=q.size;have z:=i.size
 have C:y≠f:=fun e=>by
  subst e;have o:=J.symm.trans I;injection o with o;injection o with _ o;exact absurd o aF
 have d:∀k,k<b.heap.size->j.heap[k]?=wr.heap[k]?:=fun k B=>(m.block k aD (fun e=>by have:=(g.lt k e.symm).1;omega)).trans (i.block k aD);have s:RsB j y vC lim false (.slice a n c) F G H w:=(d y E).trans J;have R:b.heap.size<=h:=(t.lt h rfl).1
 have A:DK TmT wr j:=(DK.below i).trans (DK.grown m (fun k e=>by
  obtain⟨cs,K⟩:=g.typed k e;exact⟨cs,(i.block k (AD K)).trans K⟩) WZ)
 have P:¬TmT 61:=by unfold TmT;decide
 have r:Kept (fun k=>k=y\/k=f) b j:=⟨m.os.trans (i.os.trans q.os),m.tape.trans (i.tape.trans q.tape),m.output.trans (i.output.trans q.output),bN D (bN z m.size),fun k B e=>(d k B).trans (q.block k B e)⟩
 have S:=r.size;refine⟨_,rfl,AK s 3 _,t.setCell _ _ (fun e=>by have O:=bF e;have U:h=y:=O;omega),?_,(Q.dk A).dk (DK.setCell s P 3 _),r.setCell (p:=⟨y,3,none⟩) (.inr (.inl rfl)) _,by simp[World.setCell];omega⟩;exact(cF _ _ _ _ (fun e=>C e.symm)).trans ((d f x).trans I)
theorem yN{f a j:World}{y d l o i:Nat}{u:Option Addr}{v:Nat}{vC t J K L M N O:Value}{lim z:Int}{S:List ByteArray}{acc:List (Nat×List AB)}(Q:RsB a y vC lim false t J K L z)(s:aj a f.heap.size 9 1 A3 t S)(P:a.heap[d]?=some (.cells #[M,.slice u acc.length v,N,O] 59 (0,0)))(x:xw f.heap.size a (.slice u acc.length v) acc)(q:Kept (fun k=>k=y\/k=d) f a)(I:y<f.heap.size)(B:d<f.heap.size) (h: ((a.alloc (Obj.cells #[.int .u8 118,.int .i64 (i:Nat),.string ⟨#[]⟩,.slice none 0 0] 102)).alloc (Obj.cells #[.pointer (some ⟨a.heap.size,0,none⟩)] 100)).grownBy j (Value.slice u acc.length v).ownBlock) (F:Nb ((a.alloc (Obj.cells #[.int .u8 118,.int .i64 (i:Nat),.string ⟨#[]⟩,.slice none 0 0] 102)).alloc (Obj.cells #[.pointer (some ⟨a.heap.size,0,none⟩)] 100)) (Value.slice u acc.length v).ownBlock (some l)) (r:aj j 0 100 1 BQ (.slice (some ⟨l,0,none⟩) ((acc.map (·.1)).length+1) o) (acc.map (·.1)++[a.heap.size])):∃n:World,Hid (n=j.setCell ⟨d,1,none⟩ (.slice (some ⟨l,0,none⟩) ((acc.map (·.1)).length+1) o))/\RsB n y vC lim false t J K L z/\aj n f.heap.size 9 1 A3 t S/\n.heap[d]?=some (.cells #[M,.slice (some ⟨l,0,none⟩) (acc++[(a.heap.size,KK (i:Nat))]).length o,N,O] 59 (0,0))/\xw f.heap.size n (.slice (some ⟨l,0,none⟩) (acc++[(a.heap.size,KK (i:Nat))]).length o) (acc++[(a.heap.size,KK (i:Nat))])/\Kept (fun k=>k=y\/k=d) f n:=by
 have H:=q.size;have w:Below a.heap.size a (a.alloc (Obj.cells #[.int .u8 118,.int .i64 (i:Nat),.string ⟨#[]⟩,.slice none 0 0] 102)):=(bZ _ a).alloc (aX _) _;have b:=w.alloc w.size (Obj.cells #[.pointer (some ⟨a.heap.size,0,none⟩)] 100);have U: ((acc.map (·.1)).length+1)=(acc++[(a.heap.size,KK (i:Nat))]).length:=aE;rw[U] at r⊢;have V:=(x.over w).push ((bZ _ _).alloc (aX _) _) (by have:=w.size;omega) h F r (ps:=KK (i:Nat)) ⟨1,fun e=>by have m:=(x.row.lt _ e).2;omega,.inl ⟨(i:Nat),AJ a _,rfl⟩⟩;have c:∀k,k<f.heap.size->j.heap[k]?=a.heap[k]?:=fun k E=>(h.block k (by have:=b.size;omega) (fun e=>by have:=x.new k e.symm;omega)).trans (b.block k aD);have C:RsB j y vC lim false t J K L z:=(c y I).trans Q;have g:=(c d B).trans P
 have G:y≠d:=fun e=>by
  subst e;have m:=Q.symm.trans P;injection m with m;injection m with _ m;exact absurd m aF
 have D:DK (fun e=>e=9) a j:=(DK.below b).trans (DK.grown h (fun k e=>by
  obtain⟨cs,R⟩:=x.row.typed k e;exact⟨cs,(b.block k (AD R)).trans R⟩) aF)
 have A:Kept (fun k=>k=y\/k=d) f j:=⟨h.os.trans (b.os.trans q.os),h.tape.trans (b.tape.trans q.tape),h.output.trans (b.output.trans q.output),bN H (bN b.size h.size),fun k E e=>(c k E).trans (q.block k E e)⟩
 have T:¬TmT 59:=by unfold TmT;decide
 refine⟨_,rfl,(cF _ _ _ _ G).trans C,aj.dk (aj.dk s D rfl) (DK.setCell g aF 1 _) rfl,?_,V.1.dk (DK.setCell g T 1 _),A.setCell (p:=⟨d,1,none⟩) (.inr (.inr rfl)) _⟩;have:=AK g 1 (.slice (some ⟨l,0,none⟩) (acc++[(a.heap.size,KK (i:Nat))]).length o);simpa using this
theorem aB9(w:World)(y:Nat)(M:Nat)(D:SD)(x:ByteArray)(h:jd w y D)(hO:DOk D)(gs:List (List AB))(ns:List ByteArray)(hq:BM x= .ok (gs,ns))(q5:ns.length<=16)(hD:CfD D.cls 1000 1000 (BK gs ns))(hR:MT (BE ns) M (DW D gs ns))(wu:qo y w):Calls prog 28 #[.pointer (some ⟨y,0,none⟩),.string x] w fun r w'=>r= .returned (GF (H7 D x).1)/\jd w' y (H7 D x).2/\Kept (fun k=>k=y) w w':=by
 obtain⟨vC,l6,aN,nN,cN,aG,nG,cG,aT,nT,cT,aC,nC,cC,fr,hB,i6,hQ⟩:=h.ex;have HW:Hid (H7 D x=DD D (BE ns) (DW D gs ns)):=by unfold Hid H7;rw[hq]
 have y3:=AA hB 3;simp at y3;have y2:w.cell? ⟨y,2,none⟩=some (.bool l6):=AA hB 2;have yf:=AE hB;have yl:=AD hB;have HB:=aO hB;have g4:=aO i6;have h8:=aO hq;have h7:Hid (∀n∈ns,1<=n.size):=sS hq;have HO:=aO hO;have HD:=aO hD;have HR:=aO hR;have Ho:=aO wu;have o3: (ns.length:Int)<=16:=aD;have i5:=AK hB 2 (.bool false);have k3:Kept (fun k=>k=y) w (w.setCell ⟨y,2,none⟩ (.bool false)):=(Kept.refl (fun k=>k=y) w).setCell (p:=⟨y,2,none⟩) (.inr rfl) _;have k2:DK AW w (w.setCell ⟨y,2,none⟩ (.bool false)):=DK.setCell hB (by unfold AW;decide) 2 _;have f8:=aO i5;have h5:=aO k3;have g6:=aO k2;clear hB i6 hQ h hq i5 k3 k2 hO hD hR wu;go_enter func28,ntmps28;go_wp2_with (go_at_call 44;refine(T4 x _).mono ?_;rintro r b ⟨a6,k5⟩;rw[h8.o] at k5;obtain⟨d,g,f,na,nn,nc,rfl,i7,e5⟩:=k5;have a8:nn=ns.length:=(by obtain⟨_,_,e9⟩:=e5.slice;injection e9);subst a8;have j0:=(a6.block w.heap.size (by simp[World.setCell])).trans (AZ _ _ _ (by simp[World.setCell]));have b5:=aO j0;have h4:Hid (Kept (fun k=>k=y) w b):=(h5.o.alloc _).trans (Kept.of_below a6 _) (fun _ _ e=>e);have g5:Hid (DK AW w b):=(g6.o.trans (DK.below ((bZ _ _).alloc (aX _) _))).trans (DK.below a6);have Y:Hid (RsB b y vC (D.lim:Nat) false (.slice aN nN cN) (.slice aG nG cG) (.slice aT nT cT) (.slice aC nC cC) fr):=(a6.block y (by simp[World.setCell];omega)).trans (AF f8.o _);have t3:=AA Y.o 3;have tf:=AE Y.o;have tl:=AD Y.o;simp at t3;have g9:=aO i7;have h6:=aO e5;clear j0 a6 i7 e5);have d9:Kept (fun k=>k=y) b (b.setCell ⟨y,3,none⟩ (.slice none 0 0)):=(Kept.refl (fun k=>k=y) b).setCell (p:=⟨y,3,none⟩) (.inr rfl) _;have c4:DK AW b ((b.setCell ⟨y,3,none⟩ (.slice none 0 0)).alloc (Obj.cells #[.slice d g f,.slice none 0 0,.slice none 0 0,.int .i64 (ns.length:Nat)] 59)):=(DK.setCell Y.o (by unfold AW;decide) 3 _).trans (DK.below ((bZ _ _).alloc (aX _) _));have b7:Hid (RsB ((b.setCell ⟨y,3,none⟩ (.slice none 0 0)).alloc (Obj.cells #[.slice d g f,.slice none 0 0,.slice none 0 0,.int .i64 (ns.length:Nat)] 59)) y vC (D.lim:Nat) false (.slice none 0 0) (.slice aG nG cG) (.slice aT nT cT) (.slice aC nC cC) fr):=AF (AK Y.o 3 (.slice none 0 0)) _;have d5:Hid (((b.setCell ⟨y,3,none⟩ (.slice none 0 0)).alloc (Obj.cells #[.slice d g f,.slice none 0 0,.slice none 0 0,.int .i64 (ns.length:Nat)] 59)).heap[b.heap.size]?=some (Obj.cells #[.slice d g f,.slice none 0 0,.slice none 0 0,.int .i64 (ns.length:Nat)] 59 (0,0))):=AZ _ _ _ (by simp[World.setCell]);have i0:Hid (((b.setCell ⟨y,3,none⟩ (.slice none 0 0)).alloc (Obj.cells #[.slice d g f,.slice none 0 0,.slice none 0 0,.int .i64 (ns.length:Nat)] 59)).heap[w.heap.size]?=some (Obj.cells #[.int .i64 0,.string ⟨#[]⟩,.int .i64 0,.int .i64 0] 65 (0,0))):=AF ((d9.block w.heap.size (AD b5.o) aD).trans b5.o) _
 have h0:Hid (DGs ((b.setCell ⟨y,3,none⟩ (.slice none 0 0)).alloc (Obj.cells #[.slice d g f,.slice none 0 0,.slice none 0 0,.int .i64 (ns.length:Nat)] 59)) (.slice d g f) gs):=g9.o.doc c4;have b4:Hid (Seen ((b.setCell ⟨y,3,none⟩ (.slice none 0 0)).alloc (Obj.cells #[.slice d g f,.slice none 0 0,.slice none 0 0,.int .i64 (ns.length:Nat)] 59)) 9 A3 (.slice na ns.length nc) ns):=Seen.dk h6.o c4 (.inr (.inr (.inr (.inr (.inr (.inr rfl))))));have f9:Hid (vw ((b.setCell ⟨y,3,none⟩ (.slice none 0 0)).alloc (Obj.cells #[.slice d g f,.slice none 0 0,.slice none 0 0,.int .i64 (ns.length:Nat)] 59)) vC D.cls):=(g4.o.doc g5.o).doc c4;have C:Hid (Kept (fun k=>k=y) w ((b.setCell ⟨y,3,none⟩ (.slice none 0 0)).alloc (Obj.cells #[.slice d g f,.slice none 0 0,.slice none 0 0,.int .i64 (ns.length:Nat)] 59))):=(h4.o.trans d9 (fun _ _ e=>e)).alloc _;have l5: ((b.setCell ⟨y,3,none⟩ (.slice none 0 0)).alloc (Obj.cells #[.slice d g f,.slice none 0 0,.slice none 0 0,.int .i64 (ns.length:Nat)] 59)).heap.size=b.heap.size+1:=by simp[World.setCell]
 have j2:b.heap.size<((b.setCell ⟨y,3,none⟩ (.slice none 0 0)).alloc (Obj.cells #[.slice d g f,.slice none 0 0,.slice none 0 0,.int .i64 (ns.length:Nat)] 59)).heap.size:=aD;have r3:w.heap.size<b.heap.size:=AD b5.o;generalize ((b.setCell ⟨y,3,none⟩ (.slice none 0 0)).alloc (Obj.cells #[.slice d g f,.slice none 0 0,.slice none 0 0,.int .i64 (ns.length:Nat)] 59))=wB at*;have n0:=aO l5;clear l5 d9 c4 t3 tf tl y2 y3 yf Y b5 g9 h6 g4 g5 h4 f8 h5 g6 h8;go_loopg [10] (ns.length+1) (fun m iv wr=>∃(i:Nat) (a:Option Addr) (c:Nat) (j:Option Addr) (o:Nat) (acc:List (Nat×List AB)),i<=ns.length/\m=ns.length+1-i/\iv= .int .i64 (i:Nat)/\Hid (RsB wr y vC (D.lim:Nat) false (.slice a (BE (ns.take i)).length c) (.slice aG nG cG) (.slice aT nT cT) (.slice aC nC cC) fr)/\Hid (aj wr wB.heap.size 9 1 A3 (.slice a (BE (ns.take i)).length c) (BE (ns.take i)))/\Hid (wr.heap[b.heap.size]?=some (Obj.cells #[.slice d g f,.slice j acc.length o,.slice none 0 0,.int .i64 (ns.length:Nat)] 59 (0,0)))/\Hid (xw wB.heap.size wr (.slice j acc.length o) acc)/\Hid (acc.map (·.2)=CW (ns.take i))/\Hid (Kept (fun k=>k=y\/k=b.heap.size) wB wr))
 case atStart=>exact⟨0,none,0,none,0,[],aD,rfl,rfl,b7,aj.nil _ _ _ _ _,d5,xw.nil,rfl,Kept.refl _ _⟩
 case round=>
  obtain⟨i,a,c,j,o,acc,hi,rfl,rfl,HY,I,HS,b6,V,q⟩:=hrel
  have b3:Hid (DK AW wB wr):=DK.kept q.o (fun k cs e hc he em=>by
   rcases em with em|em
   ·subst em;have G:=hc.symm.trans b7.o;injection G with G;injection G with _ G;have hN:¬AW 61:=by unfold AW;decide
    exact hN (G ▸ he)
   ·subst em;have G:=hc.symm.trans d5.o;injection G with G;injection G with _ G;have hN:¬AW 59:=by unfold AW;decide
    exact hN (G ▸ he))
  have Dz:=q.o.size;have y3:=AA HY.o 3;have y1:=AA HY.o 1;have yf:=AE HY.o;have p2:=AD HY.o;have⟨s0,s1,s2,s3⟩:=cM HS.o;have sf:=AE HS.o;have sl:=AD HS.o;simp at y3 y1 s0 s1 s2 s3;by_cases Z:i<ns.length
  ·have q4: (i:Int)<(ns.length:Int):=aD;have HL:=aO Z;obtain⟨gN,oN,rfl⟩:=b4.o.pos aD;have n9:=(Seen.dk b4.o b3.o (.inr (.inr (.inr (.inr (.inr (.inr rfl))))))).cells C7 i ns[i] (bU Z) 0 _ rfl;simp only[Nat.mul_one,dG] at n9;have r2:gN<wr.heap.size:=bH b4.o.lt Dz;have l0:=h7.o ns[i] (bG Z);have k9:0<ns[i].size:=aD;have A:Hid (BE (ns.take (i+1))=BE (ns.take i)++(if D5 ns[i]=true then [ns[i]] else [])):=mI Z;have W:Hid (CW (ns.take (i+1))=CW (ns.take i)++(if D5 ns[i]=true then [KK (i:Nat)] else [])):=m8 Z
   have r5: (BE (ns.take i)).length<=16:=by
    have:=X3 (ns.take i) 0;rw[bW] at this;unfold BE;rw[aZ];omega
   have a5:acc.length<=16:=by
    have G:=congrArg List.length V.o;rw[aZ] at G;have:=X3 (ns.take i) 0;rw[bW] at this;rw[G];unfold CW;rw[aZ];omega
   have n7:=BF ns[i] 0 k9;have r0:=aO l0;generalize ns[i]=nm at*;by_cases c3:BA nm 0=95
   ·have a8:=aAa c3;rw[a8] at A W;simp only[Bool.false_eq_true,if_false,List.append_nil] at A W;rw[c3] at n7;go_wp2_with fail;go_roundg (ns.length -i)
    case measure=>have:=HL.o;omega
    case rel=>exact⟨i+1,a,c,j,o,acc,HL.o,(Nat.add_sub_add_right ns.length 1 i).symm,by go_num,by rw[A.o];exact HY,by rw[A.o];exact I,HS,b6,by rw[W.o];exact V,q⟩
   ·have a8:=tZ l0 c3;rw[a8] at A W;simp only[if_true] at A W;have p3: ((nm[0]'k9).toNat:Int)≠95:=by rw[BF nm 0 k9];exact c3
    have r4:wB.heap.size<=wr.heap.size:=Dz;have l4:y<wB.heap.size:=AD b7.o;go_wp2_with fail;go_region_law (refine IM Tryz.Aa A3 C7 HJ rfl (.tmp 53) (.tmp 58) rfl wB.heap.size (.slice a (BE (ns.take i)).length c) (BE (ns.take i)) rfl ?_ ⟨_,0,none⟩ 1 nm rfl ?_ ?_ ?_ ?_;exact⟨(I.o.alloc _).own⟩;exact BL wr _ rfl (.string nm) 9;omega;(simp;omega);intro gA gu w3 f5 dw jh;have f0:=(dw.block y aJ (fun e=>by have:=(I.o.lt y e.symm).1;omega)).trans (AF HY.o _);have u3:=AA f0 3;have uf:=AE f0;have ul:=AD f0;simp at u3)
    all_goals
     obtain⟨wC,o9,k0,j1,a4,j3,i9,t0⟩:=aAV HY.o I.o HS.o b6.o q.o l4 j2 (by first|exact(((bZ _ wr).alloc (aX _) _).drew)|exact((bZ _ wr).drew.alloc (aX _) _)|exact((bZ _ wr).alloc (aX _) _)) dw f5;rw[<-o9.o];have p1:=AA a4 1;have pf:=AE a4;have pl:=AD a4;simp at p1;have m9:=aO k0;have m3:=aO j1;have i2:=aO a4;have d7:=aO j3;have l7:=aO i9;clear k0 j1 a4 j3 i9;go_wp2_with (at_builtin;refine AY Tryz.uj BQ DH ET _ rfl (.tmp 63) (.tmp 67) rfl 0 (.slice j acc.length o) (acc.map (·.1)) rfl (((d7.o.row).alloc _).alloc _) ⟨_,0,none⟩ 1 wC.heap.size rfl (BL _ _ aE _ _) (by rw[aZ];omega) (bK _) ?_;intro gB Iw w4 f6 iy qm;have e6:=(iy.block b.heap.size aJ (fun e=>by have:=d7.o.new _ e.symm;omega)).trans (AF (AF i2.o _) _);have o1:=AA e6 1;have of:=AE e6;have ol:=AD e6;simp at o1);obtain⟨wD,l2,n5,n2,n3,n4,n1⟩:=yN m9.o m3.o i2.o d7.o l7.o l4 j2 iy qm f6;rw[aZ] at l2
     try rw[<-l2.o]
     go_roundg (ns.length -i)
     case measure=>have:=HL.o;omega
     case rel=>exact⟨i+1,_,_,_,_,_,HL.o,(Nat.add_sub_add_right ns.length 1 i).symm,by go_num,by rw[A.o,bL];exact n5,by rw[A.o,bL];exact n2,n3,n4,by rw[W.o,bE,V.o];rfl,n1⟩
  ·have o0:i=ns.length:=aD;have l1:ns.take i=ns:=bR aD;rw[l1] at HY I V;have Q:Below wr.heap.size wr (wr.alloc (Obj.cells #[.slice none 0 0,.slice d g f,.slice j acc.length o] 106)):=(bZ _ wr).alloc (aX _) _;have h3:Hid (DGs (wr.alloc (Obj.cells #[.slice none 0 0,.slice d g f,.slice j acc.length o] 106)) (.slice d g f) gs):=(h0.o.doc b3.o).doc (DK.below Q);have i4:Hid (DTs (wr.alloc (Obj.cells #[.slice none 0 0,.slice d g f,.slice j acc.length o] 106)) (.slice j acc.length o) (CW ns)):=by have G:=b6.o.seen.doc (DK.below Q);rw[V.o] at G;exact G
   have c6:Hid (vw (wr.alloc (Obj.cells #[.slice none 0 0,.slice d g f,.slice j acc.length o] 106)) vC D.cls):=(f9.o.doc b3.o).doc (DK.below Q);have l8:Hid (Seen (wr.alloc (Obj.cells #[.slice none 0 0,.slice d g f,.slice j acc.length o] 106)) 9 A3 (.slice a (BE ns).length c) (BE ns)):=Seen.kept I.o.seen (Kept.of_below Q (fun _=>False)) (fun _ _ _ e=>e);have c0:Hid (RsB (wr.alloc (Obj.cells #[.slice none 0 0,.slice d g f,.slice j acc.length o] 106)) y vC (D.lim:Nat) false (.slice a (BE ns).length c) (.slice aG nG cG) (.slice aT nT cT) (.slice aC nC cC) fr):=AF HY.o _;have m4:Hid ((wr.alloc (Obj.cells #[.slice none 0 0,.slice d g f,.slice j acc.length o] 106)).heap[b.heap.size]?=some (Obj.cells #[.slice d g f,.slice j acc.length o,.slice none 0 0,.int .i64 (ns.length:Nat)] 59 (0,0))):=AF HS.o _;have F:Hid ((wr.alloc (Obj.cells #[.slice none 0 0,.slice d g f,.slice j acc.length o] 106)).heap[w.heap.size]?=some (Obj.cells #[.int .i64 0,.string ⟨#[]⟩,.int .i64 0,.int .i64 0] 65 (0,0))):=AF ((q.o.block w.heap.size (by have:=n0.o;omega) (fun e=>by rcases e with e|e;exact absurd e aD;exact absurd e aD)).trans i0.o) _;have E:Hid (Kept (fun k=>k=y) w (wr.alloc (Obj.cells #[.slice none 0 0,.slice d g f,.slice j acc.length o] 106))):=⟨(q.o.os.trans C.o.os),(q.o.tape.trans C.o.tape),(q.o.output.trans C.o.output),by have a1:=C.o.size;have j:=q.o.size;have a3:=Q.size;omega,fun k hk e=>(Q.block k (by have a1:=C.o.size;have j:=q.o.size;omega)).trans ((q.o.block k (bH hk C.o.size) (fun e2=>by rcases e2 with e2|e2;exact e e2;omega)).trans (C.o.block k hk e))⟩
   have l3:WkB (wr.alloc (Obj.cells #[.slice none 0 0,.slice d g f,.slice j acc.length o] 106)) wr.heap.size (.slice none 0 0) (.slice d g f) (.slice j acc.length o):=AJ wr _;have i3:Hid (AO gs+AO (CW ns)=KH (BK gs ns).now):=by unfold Hid KH BK;rw[J0]
   have q7:AO gs+AO (CW ns)<=1000000:=by
    have h1:=HD.o.now.gl;have h2:=HD.o.now.tl;have g2:=I9 (B:=400) (ts:=gs) (fun t ht=>(HD.o.now.g t ht).1);have g3:=I9 (B:=400) (ts:=CW ns) (fun t ht=>(HD.o.now.t t ht).1);have e1:gs.length<=1000:=h1;have e2: (CW ns).length<=16:=h2;have e3:gs.length*400<=1000*400:=Nat.mul_le_mul_right _ e1;have e4: (CW ns).length*400<=16*400:=Nat.mul_le_mul_right _ e2;omega
   have d8:Hid (Calls prog 45 #[.pointer (some ⟨wr.heap.size,0,none⟩)] (wr.alloc (Obj.cells #[.slice none 0 0,.slice d g f,.slice j acc.length o] 106)) fun r w'=>r= .returned (.int .i64 (AO gs+AO (CW ns):Nat))/\w'=(wr.alloc (Obj.cells #[.slice none 0 0,.slice d g f,.slice j acc.length o] 106))):=by
    refine(MZ _ wr.heap.size _ _ _ [] gs (CW ns) l3 jo.nil h3.o i4.o (by show 0+_+_<=_;omega)).mono ?_;rintro r w' ⟨rfl,e⟩;refine⟨?_,e⟩;show Ending.returned (.int .i64 ((0+AO gs+AO (CW ns):Nat):Int))=_;rw[Nat.zero_add]
   generalize p0:AO gs+AO (CW ns)=zz at*;have q6:¬(i:Int)<(ns.length:Int):=aD;clear Q l3 o0 l1 hi Z HY I HS b6 V q b3 C b7 d5 i0 h0 b4 f9 h7 p0 y3 y1 yf p2;by_cases c5:200<zz
   ·have HF:Hid (DW D gs ns=(7,BK gs ns)):=by unfold Hid DW;rw[<-i3.o,bD c5]
    have n8: (200:Int)<(zz:Int):=aD;go_wp2_with (go_at_call 45;refine d8.o.mono ?_;rintro r w9 ⟨rfl,o4⟩;subst w9;have⟨q0,q1,q2,q3⟩:=cM F.o;have qf:=AE F.o;have ql:=AD F.o;simp at q0 q1 q2 q3);obtain⟨wX,a9,iw,u,H⟩:=U5 (k1:=7) (t1:=⟨#[]⟩) (c1:=0) (p1:=0) (D:=⟨D.lim,D.cls,none⟩) F.o ⟨_,_,_,_,_,_,_,_,_,_,_,_,_,_,_,c0.o,c6.o,rfl⟩ E.o yl;rw[<-a9.o];have⟨z0,z1,z2,z3⟩:=cM iw;simp at z0 z1 z2 z3;refine bodyPost_ret (v:=GF (J9 7)) (by simp[results,results28,go_sem,GF,J9,z0,z1,z2,z3]) rfl ?_;rw[HW.o,HF.o];exact⟨rfl,u,H⟩
   ·have HF:Hid (DW D gs ns=DB D.cls D.lim (BK gs ns)):=by unfold Hid DW;rw[<-i3.o,bC c5]
    have n8:¬(200:Int)<(zz:Int):=aD;go_wp2_with (go_at_call 45;refine d8.o.mono ?_;rintro r w9 ⟨rfl,o4⟩;subst w9);have f1:=c0.o;have e7:=m4.o;generalize (wr.alloc (Obj.cells #[.slice none 0 0,.slice d g f,.slice j acc.length o] 106))=l at*;have⟨e0,e1,e2,e3⟩:=cM e7;have el:=AD e7;have d1:l.cell? ⟨y,1,none⟩=some (.int .i64 (D.lim:Nat)):=AA f1 1;have dl:=AD f1;simp at e0 e1 e2 e3;have l9:Hid (∀X:World,Below l.heap.size l X->Calls prog 46 #[.pointer (some ⟨y,0,none⟩),.agg #[.slice d g f,.slice j acc.length o,.slice none 0 0,.int .i64 (ns.length:Nat)],.int .i64 (D.lim:Nat)] X fun r w'=>ig X (DB D.cls D.lim (BK gs ns)) r w'):=fun X hX=>oR X y 1000 1000 vC _ _ _ _ _ _ _ D.cls (BK gs ns) D.lim d j none g f acc.length o 0 0 ((hX.block y dl).trans c0.o) (c6.o.doc (DK.below hX)) HO.o.l30 HO.o.ok HO.o.d HO.o.h16 (h3.o.doc (DK.below hX)) (i4.o.doc (DK.below hX)) jo.nil HD.o (by have:=HO.o.lim;omega) (by have:=HO.o.lim;omega) HO.o.lim
    have i1:Hid (∀X:World,DK AW l X->Kept (fun k=>l.heap.size<=k) l X->∀b0 m0 d0 b1 m1 d1 b2 m2 d2 z,StR X (.agg #[.slice b0 m0 d0,.slice b1 m1 d1,.slice b2 m2 d2,.int .i64 z]) (DW D gs ns)->∀kk,kk=CM (DW D gs ns).1->Calls prog 47 #[.pointer (some ⟨y,0,none⟩),.agg #[.slice b0 m0 d0,.slice b1 m1 d1,.slice b2 m2 d2,.int .i64 z],.int .i64 kk] X fun r w'=>∃k1 t1 c1 p1,r= .returned (.agg #[.int .i64 k1,.string t1,.int .i64 c1,.int .i64 p1])/\Hid ((DD D (BE ns) (DW D gs ns)).1=⟨k1,t1,c1,p1⟩)/\jd w' y (DD D (BE ns) (DW D gs ns)).2/\Kept (fun k=>k=y) w w'/\w'.heap[w.heap.size]?=some (Obj.cells #[.int .i64 0,.string ⟨#[]⟩,.int .i64 0,.int .i64 0] 65 (0,0))):=fun X hd hk b0 m0 d0 b1 m1 d1 b2 m2 d2 z hs kk o2=>by
     subst o2;have H:Kept (fun k=>k=y) w X:=⟨hk.os.trans E.o.os,hk.tape.trans E.o.tape,hk.output.trans E.o.output,bN E.o.size hk.size,fun k f4 e=>(hk.block k (bH f4 E.o.size) (by have:=E.o.size;omega)).trans (E.o.block k f4 e)⟩
     refine(TU X y D (BE ns) M (DW D gs ns) vC _ _ _ _ _ a b0 b1 b2 _ c m0 d0 m1 d1 m2 d2 z ((hk.block y dl aD).trans c0.o) (c6.o.doc hd) (Seen.dk l8.o hd (.inr (.inr (.inr (.inr (.inr (.inr rfl))))))) hs HR.o (Ho.o.on (H.below (Nat.le_of_lt yl) (fun k f4 e=>by have e':k=y:=e;omega)))).mono ?_;rintro r w' ⟨rfl,h1,h2⟩;exact⟨_,_,_,_,rfl,rfl,h1,H.trans h2 (fun _ _ e=>e),(h2.block w.heap.size (bH (AD F.o) hk.size) aD).trans ((hk.block w.heap.size (AD F.o) (by have:=AD F.o;omega)).trans F.o)⟩
    have HK:Hid (∀X:World,Below l.heap.size l X->(fun X:World=>Below l.heap.size l X/\X.cell? ⟨b.heap.size,0,none⟩=some (.slice d g f)/\X.cell? ⟨b.heap.size,1,none⟩=some (.slice j acc.length o)/\X.cell? ⟨b.heap.size,2,none⟩=some (.slice none 0 0)/\X.cell? ⟨b.heap.size,3,none⟩=some (.int .i64 (ns.length:Nat))/\X.cell? ⟨y,1,none⟩=some (.int .i64 (D.lim:Nat))) X):=fun X hX=>⟨hX,(cD (hX.block _ el)).trans e0,(cD (hX.block _ el)).trans e1,(cD (hX.block _ el)).trans e2,(cD (hX.block _ el)).trans e3,(cD (hX.block _ dl)).trans d1⟩
    have r1: (fun X:World=>Below l.heap.size l X/\X.cell? ⟨b.heap.size,0,none⟩=some (.slice d g f)/\X.cell? ⟨b.heap.size,1,none⟩=some (.slice j acc.length o)/\X.cell? ⟨b.heap.size,2,none⟩=some (.slice none 0 0)/\X.cell? ⟨b.heap.size,3,none⟩=some (.int .i64 (ns.length:Nat))/\X.cell? ⟨y,1,none⟩=some (.int .i64 (D.lim:Nat))) l.drew:=HK.o _ (bZ _ _).drew;clear f1 e7 s0 s1 s2 s3 sf sl d8;go_region_held2 (fun X:World=>Below l.heap.size l X/\X.cell? ⟨b.heap.size,0,none⟩=some (.slice d g f)/\X.cell? ⟨b.heap.size,1,none⟩=some (.slice j acc.length o)/\X.cell? ⟨b.heap.size,2,none⟩=some (.slice none 0 0)/\X.cell? ⟨b.heap.size,3,none⟩=some (.int .i64 (ns.length:Nat))/\X.cell? ⟨y,1,none⟩=some (.int .i64 (D.lim:Nat))) (first|(with_reducible assumption)|exact HK.o _ (by repeat(first|exact Oo|exact bZ _ _|refine Below.setCell ?_ (by first|omega|(simp;done)|(simp;omega)) _|refine Below.drew ?_|refine Below.alloc ?_ (by first|omega|(simp;done)|(simp;omega)) _))|exact HK.o _ aM) ((go_at_call 46;refine(l9.o _ aM).mono ?_;rintro r w9 hp;obtain⟨J,R,N,K,S,O,L,T,P,U,rfl,jm,f2⟩:=ig.agg hp;clear hp;have ny:=aO jm;have Oo:Below l.heap.size l w9:=(aM:Below l.heap.size l _).trans (f2.mono aE);have s4:=Oo.size;have a0:=aO Oo;try(have hv:=(f2.block l.heap.size aE).trans (AZ _ _ _ aE);have⟨v0,v1,v2,v3⟩:=cM hv;have vf:=AE hv;have vl:=AD hv;simp at v0 v1 v2 v3;have HV:=aO hv;clear hv);clear jm f2))
    ·have a5:Below w9.heap.size w9 (w9.alloc (Obj.cells #[.slice J R N,.slice K S O,.slice L T P,.int .i64 U] 59)):=(bZ _ w9).alloc (aX _) _;have c8:Hid (DK AW l (w9.alloc (Obj.cells #[.slice J R N,.slice K S O,.slice L T P,.int .i64 U] 59))):=(DK.below a0.o).trans (DK.below a5);have d3:Hid (Kept (fun k=>l.heap.size<=k) l (w9.alloc (Obj.cells #[.slice J R N,.slice K S O,.slice L T P,.int .i64 U] 59))):=Kept.of_below (a0.o.trans (a5.mono a0.o.size)) _;have d6:Hid (StR (w9.alloc (Obj.cells #[.slice J R N,.slice K S O,.slice L T P,.int .i64 U] 59)) (.agg #[.slice J R N,.slice K S O,.slice L T P,.int .i64 U]) (DB D.cls D.lim (BK gs ns))):=ny.o.doc (DK.below a5);clear a5;go_wp2_with (go_at_call 47;refine(i1.o _ c8.o d3.o _ _ _ _ _ _ _ _ _ _ (by rw[HF.o];exact d6.o) _ (by rw[HF.o])).mono ?_;rintro r w6 ⟨k1,t1,c1,p1,rfl,f7,u,a7,s⟩;have⟨q0,q1,q2,q3⟩:=cM s;have qf:=AE s;have ql:=AD s;simp at q0 q1 q2 q3;have d4:=aO s;have c7:=aO u;have c9:=aO a7;clear s u a7);obtain⟨wX,a9,iw,u,H⟩:=U5 (k1:=k1) (t1:=t1) (c1:=c1) (p1:=p1) d4.o c7.o c9.o yl;rw[<-a9.o];have⟨z0,z1,z2,z3⟩:=cM iw;simp at z0 z1 z2 z3;refine bodyPost_ret (v:= .agg #[.int .i64 k1,.string t1,.int .i64 c1,.int .i64 p1]) (by simp[results,results28,go_sem,z0,z1,z2,z3]) rfl ?_;rw[HW.o];exact⟨by rw[f7.o];rfl,u,H⟩
    ·obtain⟨wA,o5,f3,e8,k4⟩:=JQ (u0:= .slice J R N) (u1:= .slice K S O) (u2:= .slice L T P) (u3:= .int .i64 U) HV.o;rw[<-o5.o];have⟨g0,g1,g2,g3⟩:=cM e8;have gl:=AD e8;simp at g0 g1 g2 g3;have c8:Hid (DK AW l wA):=(DK.below a0.o).trans f3;have d3:Hid (Kept (fun k=>l.heap.size<=k) l wA):=(Kept.of_below a0.o (fun k=>l.heap.size<=k)).trans k4 (fun k _ e=>by have e':k=l.heap.size:=e;omega);have d6:Hid (StR wA (.agg #[.slice J R N,.slice K S O,.slice L T P,.int .i64 U]) (DB D.cls D.lim (BK gs ns))):=ny.o.doc f3;clear f3 k4 e8 v0 v1 v2 v3 vf;go_wp2_with (go_at_call 47;refine(i1.o _ c8.o d3.o _ _ _ _ _ _ _ _ _ _ (by rw[HF.o];exact d6.o) _ (by rw[HF.o])).mono ?_;rintro r w6 ⟨k1,t1,c1,p1,rfl,f7,u,a7,s⟩;have⟨q0,q1,q2,q3⟩:=cM s;have qf:=AE s;have ql:=AD s;simp at q0 q1 q2 q3;have d4:=aO s;have c7:=aO u;have c9:=aO a7;clear s u a7);obtain⟨wX,a9,iw,u,H⟩:=U5 (k1:=k1) (t1:=t1) (c1:=c1) (p1:=p1) d4.o c7.o c9.o yl;rw[<-a9.o];have⟨z0,z1,z2,z3⟩:=cM iw;simp at z0 z1 z2 z3;refine bodyPost_ret (v:= .agg #[.int .i64 k1,.string t1,.int .i64 c1,.int .i64 p1]) (by simp[results,results28,go_sem,z0,z1,z2,z3]) rfl ?_;rw[HW.o];exact⟨by rw[f7.o];rfl,u,H⟩
theorem zW(w:World)(y:Nat)(M:Nat)(D:SD)(a:ByteArray)(h:jd w y D)(g:DOk D)(i:∀gs ns,BM a= .ok (gs,ns)->ns.length<=16/\CfD D.cls 1000 1000 (BK gs ns)/\MT (BE ns) M (DW D gs ns))(j:qo y w):Calls prog 28 #[.pointer (some ⟨y,0,none⟩),.string a] w fun r w'=>r= .returned (GF (H7 D a).1)/\jd w' y (H7 D a).2/\Kept (fun k=>k=y) w w':=by
 cases b:BM a with
 |error e=>exact aBQ w y D a h e.1 e.2 b
 |ok x=>
  obtain⟨gs,ns⟩:=x;obtain⟨c,d,f⟩:=i gs ns b;exact aB9 w y M D a h g gs ns b c d f j
structure MG where
 kd:Int
 a:Int
 b:Int
 c:Int
 d:Int
 s:ByteArray
def PG(x:MG):List Value:=[.int .i64 x.kd,.int .i64 x.a,.int .i64 x.b,.int .i64 x.c,.int .i64 x.d,.string x.s]
def OF(x:MG):Prop:=(-9223372036854775808<=x.a/\x.a<=9223372036854775807)/\x.s.size<=maxLen
def ZL(w:World)(v:Value)(l:List MG):Prop:=(l=[]/\∃a c,v= .slice a 0 c)\/
 ∃b d c,v= .slice (some ⟨b,d,none⟩) l.length c/\b<w.heap.size/\∀i x,l[i]?=some x->∀j u,(PG x)[j]?=some u->w.cell? ⟨b,d+i*6+j,none⟩=some u
end Go.Proofs.Q
namespace Rf
end Rf
namespace Go.Proofs.Q
open Rf _root_.Go.Proofs.Tryz
open Go.RowKit
theorem Gj.dcl{F:Nat->Prop}{w:World}{p:Nat}{v:Value}{i:Cl}(h:Gj F w p v i):DTm w p i.head/\DGs w v i.body:=by
 obtain⟨k,acc,r,z,s,t,A⟩:=h;refine⟨k.any,?_⟩;rw[t];refine⟨acc.map (fun q=>((q.1,(0:Int)),q.2)),?_,fun q u=>?_,aE⟩
 ·have k:=r.seen;have e: (acc.map (fun q=>((q.1,(0:Int)),q.2))).map (·.1)=(acc.map (·.1)).map (fun x=>(x,(0:Int))):=aE;rw[e];rcases k.ex with⟨a,b⟩|⟨g,off,f,j,a,b,c,m,n⟩
  ·exact⟨.inl ⟨a,by rw[b];rfl⟩⟩
  ·refine⟨.inr ⟨g,off,f,j,by rw[aZ];exact a,b,by rw[aZ];exact c,m,?_⟩⟩
   have o: ((acc.map (·.1)).map (fun x=>(x,(0:Int)))).flatMap ES=(acc.map (·.1)).flatMap E3:=by
    rw[List.flatMap_map];rfl
   rw[o];exact n
 ·obtain⟨x,hx,rfl⟩:=bQ.1 u;rcases s x hx with⟨a,b⟩|⟨p,a,b,c⟩
  ·injection a with a;exact .inl ⟨a,b⟩
  ·injection a with a;refine .inr ⟨p,a,b.any,?_⟩;unfold AI
   cases d:x.2 with
   |nil=>rw[d] at c;cases c
   |cons y l=>rw[d] at c;simpa using c
theorem dsn{k:Nat}{y:Nat}{w:World}{cs b:Array Value}{e:TypeId}(d:w.heap[y]?=some (.cells b 61 (0,0)))(g:w.heap[k]?=some (.cells cs e (0,0)))(h:AW e):k≠y:=by
 intro c;subst c;have a:=g.symm.trans d;injection a with a;injection a with _ a;have f:¬AW 61:=by unfold AW;decide
 exact f (a ▸ h)
theorem pI{α:Type}{w w':World}{e:TypeId}{C:α->List Value}{v:Value}{a:List α}(h:Seen w e C v a)(b:w.grownBy w' none):Seen w' e C v a:=
 Seen.dk (E:=fun _=>True) h (DK.kept (Kept.grown (Kept.refl (fun _=>False) w) b (fun k e=>by cases e)) (fun _ _ _ _ _ e=>e)) trivial
def J8(w:World)(y:Nat)(D:SD)(s:ByteArray)(r:Ending)(w':World):Prop:=
 r= .returned (.tuple #[.int .i64 (EZ D s).1.1,.int .i64 (EZ D s).1.2])/\jd w' y (EZ D s).2/\Kept (fun k=>k=y) w w'
theorem kN{w a:World}{y:Nat}{vC:Value}{lim:Nat}{c:Bool}{g f h d:Option Addr}{r l q j s m o i:Nat}{n:Int}{cls:List Cl}(t:RsB w y vC (lim:Nat) c (.slice g r l) (.slice f q j) (.slice h s m) (.slice d o i) n)(z:vw w vC cls) (v:Below (w.setCell ⟨y,2,none⟩ (.bool false)).heap.size (w.setCell ⟨y,2,none⟩ (.bool false)) a):jd a y ⟨lim,cls,none⟩/\Kept (fun k=>k=y) w a/\RsB a y vC (lim:Nat) false (.slice g r l) (.slice f q j) (.slice h s m) (.slice d o i) n:=by
 have u:=AD t;have x:Kept (fun k=>k=y) w a:=((Kept.refl (fun k=>k=y) w).setCell (p:=⟨y,2,none⟩) (.inr rfl) _).trans (Kept.of_below v (fun k=>k=y)) (fun _ _ e=>e);have b:RsB a y vC (lim:Nat) false (.slice g r l) (.slice f q j) (.slice h s m) (.slice d o i) n:=(v.block y (by simpa[World.setCell] using u)).trans (AK t 2 _);exact⟨⟨vC,false,g,r,l,f,q,j,h,s,m,d,o,i,n,b,z.doc (DK.kept x (fun k cs e A B=>dsn t A B)),rfl⟩,x,b⟩
theorem sX(w:World)(y:Nat)(D:SD)(s:ByteArray)(h:jd w y D)(p:s.size<=maxLen)(e:Int)(q:Nat)(i:CR s= .error (e,q)):Calls prog 27 #[.pointer (some ⟨y,0,none⟩),.string s] w fun r w'=>J8 w y D s r w':=by
 obtain⟨vC,d,x,L,C,v,K,B,z,M,E,u,J,A,F,a,b,m⟩:=h.ex;have n:Hid (EZ D s=((e,q),⟨D.lim,D.cls,none⟩)):=by unfold Hid EZ JG;rw[i]
 have l:=aO i;have j:Hid (∀f:World,Below (w.setCell ⟨y,2,none⟩ (.bool false)).heap.size (w.setCell ⟨y,2,none⟩ (.bool false)) f->_/\_/\_):=fun f o=>kN a b o;have H:w.cell? ⟨y,2,none⟩=some (.bool d):=AA a 2;have I:=AE a;have t:=AD a;clear i a b m h;go_enter func27,ntmps27;go_wp2_with (go_at_call 43;refine(QM s _ p).mono ?_;rintro r f ⟨c,k⟩;rw[l.o] at k;obtain⟨rfl,g⟩:=k;have G: (e !=0)=true:=(by rw[bne_iff_ne];exact g));go_ret2;unfold J8;rw[n.o];exact⟨rfl,(j.o f c).1,(j.o f c).2.1⟩
theorem rD(w:World)(y:Nat)(D:SD)(s:ByteArray)(h:jd w y D)(L:s.size<=maxLen)(G:D.cls.length<=30)(e:List Cl)(u:CR s= .ok e)(A:30<D.cls.length+e.length)(n:e.length<=402):Calls prog 27 #[.pointer (some ⟨y,0,none⟩),.string s] w fun r w'=>J8 w y D s r w':=by
 obtain⟨vC,o,R,nN,V,Q,nG,U,S,nT,W,P,nC,T,X,i,d,H⟩:=h.ex;have v:=d;obtain⟨acc,q,t,f⟩:=v.ex;have m:D.cls.length=acc.length:=by rw[f,aZ]
 obtain⟨a,c,rfl⟩:=q.slice;rw[aZ] at i d q;have I:Hid (EZ D s=((6,0),⟨D.lim,D.cls,none⟩)):=by unfold Hid EZ JG;rw[u];simp only[];rw[bD A]
 have F:=aO u;have p:Hid (∀j:World,Below (w.setCell ⟨y,2,none⟩ (.bool false)).heap.size (w.setCell ⟨y,2,none⟩ (.bool false)) j->_/\_/\_):=fun j J=>kN i d J;have Y:w.cell? ⟨y,2,none⟩=some (.bool o):=AA i 2;have Z:=AE i;have M:=AD i;have E:Hid (30<acc.length+e.length/\acc.length<=30):=⟨aD,aD⟩
 have z:acc.length<=30:=aD;clear u i d H h q t f m A v;go_enter func27,ntmps27;go_wp2_with (go_at_call 43;refine(QM s _ L).mono ?_;rintro r j ⟨g,x⟩;rw[F.o] at x;obtain⟨v1,C,rfl,k,b⟩:=x;obtain⟨O,c1,rfl⟩:=k.row.seen.slice;(rw[aZ]);have l:=(p.o j g).2.2;have N:=AA l 0;have K:C.length<=402:=(by rw[b,aZ] at n;exact n);have B: (30:Int)<(acc.length:Int)+(C.length:Int):=(by have:=E.o.1;rw[b,aZ] at this;omega);simp at N;clear b k l);go_ret2;unfold J8;rw[I.o];exact⟨rfl,(p.o j g).1,(p.o j g).2.1⟩
theorem aBh(w:World)(y:Nat)(D:SD)(s:ByteArray)(h:jd w y D)(hm:s.size<=maxLen)(m:List Cl)(Y:CR s= .ok m)(hf:¬30<D.cls.length+m.length):Calls prog 27 #[.pointer (some ⟨y,0,none⟩),.string s] w fun r w'=>J8 w y D s r w':=by
 obtain⟨vC,O,aN,nN,cN,aG,nG,cG,aT,nT,cT,aC,nC,cC,fr,z,o,hQ⟩:=h.ex;have Jq:=o;obtain⟨acc,P,I,l⟩:=Jq.ex;have N:D.cls.length=acc.length:=by rw[l,aZ]
 obtain⟨a,c,rfl⟩:=P.slice;rw[aZ] at z o P;have hS:Hid (EZ D s=((0,0),⟨D.lim,D.cls++m,none⟩)):=by unfold Hid EZ JG;rw[Y];simp only[];rw[bC hf]
 have HR:=aO Y;have HE:Hid (∀b:World,Below (w.setCell ⟨y,2,none⟩ (.bool false)).heap.size (w.setCell ⟨y,2,none⟩ (.bool false)) b->_/\_/\_):=fun b hb=>kN z o hb;have HA:=aO P;have S:=aO I;have Px:=aO l;have HB:=aO z;have k2:w.cell? ⟨y,2,none⟩=some (.bool O):=AA z 2;have kf:=AE z;have a7:=AD z;have HL:Hid (acc.length+m.length<=30):=by unfold Hid;omega
 have a0:acc.length<=30:=aD;clear Y z o hQ h P I l N hf Jq;go_enter func27,ntmps27
 go_wp2_with (first
  |(at_builtin;refine GV Tryz.Ac G1 KQ MU _ rfl (.tmp 38) (.tmp 39) rfl b.heap.size v2 _ rfl d (.slice a1 x.length c1) (x.map (·.1)) rfl (pI T.o B) aJ (by have:=B.size;omega) ?_;intro v3 A f dw;obtain⟨F,Z,G,rfl⟩:∃a n c,v3= .slice a n c:=(by obtain⟨F,G,e3⟩:=f.seen.slice;exact⟨F,_,G,e3⟩);have V:RsB A y _ _ _ _ _ _ _ _:=(dw.block y (by have:=B.size;omega) (fun e=>by have:=(d.lt y e.symm).1;omega)).trans Q;have a9:=AE V;have q3:A.cell? ⟨y,0,none⟩=some (.slice a acc.length c):=AA V 0)
  |(at_builtin;refine GV Tryz.Ac G1 KQ MU _ rfl (.tmp 32) (.tmp 36) rfl b.heap.size (.slice none 0 0) ([]:List ClV) rfl (aj.nil _ _ _ _ _) (.slice a acc.length c) (acc.map (·.1)) rfl U.o aJ (aX _) ?_;intro v2 w2 d B;have Q:RsB w2 y _ _ _ _ _ _ _ _:=(B.block y aD (fun e=>by cases e)).trans v.o;have a8:=AE Q;have q2:w2.cell? ⟨y,0,none⟩=some (.slice a acc.length c):=AA Q 0)
  |(go_at_call 43;refine(QM s _ hm).mono ?_;rintro r b ⟨W,hP⟩;rw[HR.o] at hP;obtain⟨v1,x,rfl,i,g⟩:=hP;obtain⟨a1,c1,rfl⟩:=i.row.seen.slice;(rw[aZ]);have H:=HE.o b W;have j:=H.2.2;have q0:=AA j 0;have qf:=AE j;have a5:x.length<=30:=(by have:=HL.o;rw[g,aZ] at this;omega);have a2: (acc.length:Int)+(x.length:Int)<=30:=(by have:=HL.o;rw[g,aZ] at this;omega);simp at q0;have v:=aO j;have a6:w.heap.size<=b.heap.size:=H.2.1.size;have a4:y<b.heap.size:=AD j;have U:Hid (Seen b 114 G1 (.slice a acc.length c) (acc.map (·.1))):=Seen.dk HA.o (E:=AW) (DK.kept H.2.1 (fun k cs e J K=>dsn HB.o J K)) (.inr (.inr (.inr (.inr (.inl rfl)))));have T:Hid (Seen b 114 G1 (.slice a1 x.length c1) (x.map (·.1))):=(by have:=i.row.seen;rw[aZ] at this;exact this);have Pv:=aO g;have R:Hid (∀q∈x,DCl b q.1 q.2):=(fun q t=>⟨(i.cls q t).1.dcl.1,(i.cls q t).1.dcl.2,(i.cls q t).2⟩);have C:=aO H;clear g i j H))
 go_ret2;have L:Kept (fun _=>False) b w2:=Kept.grown (Kept.refl _ b) B (fun k e=>by cases e);have M:Kept (fun _=>False) b A:=L.grown dw (fun k e=> .inl (d.lt k e).1);have u:Kept (fun k=>k=y) b (A.setCell ⟨y,0,none⟩ (.slice F Z G)):=(show Kept (fun k=>k=y) b A from M.mono (fun _ _ e=>e.elim)).setCell (p:=⟨y,0,none⟩) (.inr rfl) _;have hd:DK AW b (A.setCell ⟨y,0,none⟩ (.slice F Z G)):=DK.kept u (fun k cs e J K=>dsn v.o J K);have X:DK AW w b:=DK.kept C.o.2.1 (fun k cs e J K=>dsn HB.o J K);unfold J8;rw[hS.o];refine⟨rfl,⟨_,false,aN,nN,cN,aG,nG,cG,aT,nT,cT,aC,nC,cC,fr,AK V 0 _,⟨acc++x,?_,fun q t=>?_,?_⟩,rfl⟩,C.o.2.1.trans u (fun _ _ e=>e)⟩
 ·rw[bE];have h5:=(f.setCell ⟨y,0,none⟩ (.slice F Z G) (fun e=>by have:=(f.lt y e).1;omega)).seen;rw[List.nil_append] at h5;exact h5
 ·rcases bO.1 t with t|t
  ·exact(S.o q t).doc (X.trans hd)
  ·exact(R.o q t).doc hd
 ·show D.cls++m=_;rw[Px.o,Pv.o,bE]
theorem xV(w:World)(y:Nat)(D:SD)(s:ByteArray)(h:jd w y D)(d:s.size<=maxLen)(c:D.cls.length<=30):Calls prog 27 #[.pointer (some ⟨y,0,none⟩),.string s] w fun r w'=>J8 w y D s r w':=by
 cases b:CR s with
 |error e=>exact sX w y D s h d e.1 e.2 b
 |ok a=>
  by_cases f:30<D.cls.length+a.length
  ·exact rD w y D s h d c a b f (SM b).1
  ·exact aBh w y D s h d a b f
def yg(w:World)(k:Nat):Prop:=∃cs t,w.heap[k]?=some (.cells cs t (0,0))/\(t≠129/\t≠84/\t≠3)/\¬AW t
theorem yg.mut{w:World}{k:Nat}(h:yg w k):Mut w k:=by
 obtain⟨cs,t,a,b,c⟩:=h;exact⟨cs,t,a,b⟩
theorem yg.mk'{w:World}{k:Nat}{cs:Array Value}{t:TypeId}(h:w.heap[k]?=some (.cells cs t (0,0)))(a:t≠129/\t≠84/\t≠3)(b:¬AW t):yg w k:=⟨cs,t,h,a,b⟩
theorem Turn.mutl{w:World}{k:Nat}(h:Turn w k):yg w k:=by
 obtain⟨cs,t,b,a⟩:=h;refine⟨cs,t,b,?_,?_⟩
 ·rcases a with e|e|e|e<;>(subst e;decide)
 ·rcases a with e|e|e|e<;>(subst e;unfold AW;decide)
theorem VA{M:Nat->Prop}{w w':World}(j:Kept M w w')(g:∀k,M k->yg w k):DK AW w w':=DK.kept j (fun k cs e h i c=>by
 obtain⟨b,t,d,_,f⟩:=g k c;have a:=h.symm.trans d;injection a with a;injection a with _ a;exact f (a ▸ i))
def SsB(w:World)(z x y:Nat)(lim:Int)(a:ByteArray):Prop:=
 w.heap[z]?=some (.cells #[.pointer (some ⟨x,0,none⟩),.pointer (some ⟨y,0,none⟩),.int .i64 lim,.string a] 44 (0,0))
theorem SsB.mut{w:World}{z x y:Nat}{lim:Int}{a:ByteArray}(h:SsB w z x y lim a):yg w z:=yg.mk' h aF (by unfold AW;decide)
theorem jd.mut{w:World}{y:Nat}{D:SD}(h:jd w y D):yg w y:=by
 obtain⟨vC,a,e,o,j,d,n,i,f,p,k,c,m,g,l,b,_,_⟩:=h.ex;exact yg.mk' b aF (by unfold AW;decide)
structure OA(G Gp:Nat->Prop)(z y:Nat):Prop where
 gp:∀k,Gp k->G k
 gz:G z
 gy:G y
 pz:¬Gp z
 py:¬Gp y
 yz:y≠z
structure W8(B:Nat)(G:Nat->Prop)(w:World)(z:Nat)(S:Se)(D:SD):Prop where
 ex:∃x y lim fr Gp,SsB w z x y lim fr/\qw B Gp w x S/\jd w y D/\OA G Gp z y
theorem UW{B:Nat}{G M:Nat->Prop}{w w':World}{z:Nat}{S:Se}{D:SD}(h:W8 B G w z S D)(b:Kept M w w')(f:∀k,M k->yg w k)(c:∀k,G k->¬M k):W8 B G w' z S D:=by
 obtain⟨x,y,lim,j,i,d,l,g,a⟩:=h.ex;exact⟨x,y,lim,j,i,(b.block z (AD d) (c z a.gz)).trans d,l.kept b (fun k e=>(f k e).mut) (fun k e=>c k (a.gp k e)),g.dk (VA b f) (b.block y g.lt (c y a.gy)),a⟩
structure Ss where
 z:Nat
 G:Nat->Prop
 S:Se
 D:SD
def V8(z:Nat):List Value:=[.pointer (some ⟨z,0,none⟩)]
theorem lT(z:Nat): (V8 z).length=1:=rfl
theorem zC(z:Nat):∀u∈V8 z,u.oneCell'=true:=by
 intro u a;simp only[V8,List.mem_cons,dF,or_false] at a;rcases a with rfl;rfl
theorem Tryz.Pg:D7 prog 27 42 1 8 (.pointer none):=⟨underlying27,aK,rfl,aF,aF⟩
def WlB(w:World)(b:Nat)(v:Value):Prop:=w.heap[b]?=some (.cells #[v,.slice none 0 0] 30 (0,0))
structure IS(base:Nat)(w:World)(b:Nat)(K:Int)(L:List Ss):Prop where
 ex:∃v,WlB w b v/\aj w 0 42 1 V8 v (L.map (·.z))/\(∀k,v.ownBlock=some k->base<=k/\k≠b/\∀s∈L,¬s.G k)
 bb:base<=b
 ss:∀s∈L,W8 base s.G w s.z s.S s.D/\(∀k,s.G k->base<=k/\k<w.heap.size/\k≠b)/\Rf.Pair K s.S s.D
 apart:∀(i j:Nat) (s t:Ss),L[i]?=some s->L[j]?=some t->i≠j->∀k,s.G k->¬t.G k
theorem aB0{base:Nat}{w w':World}{b i:Nat}{K D:Int}{L:List Ss}{s:Ss}{u:Se}{r:SD}(h:IS base w b K L)(x:L[i]?=some s)(y:Kept (fun k=>s.G k/\yg w k) w w')(T:W8 base (NM s.G w w') w' s.z u r)(R:Rf.Pair D u r)(Q:K<=D):∃J,IS base w' b D J/\J.length=L.length/\Below base w w':=by
 have f:s∈L:=List.mem_of_getElem? x;obtain⟨v,O,n,A⟩:=h.ex;obtain⟨_,E,_⟩:=h.ss s f;have g:i<L.length:=(bS.1 x).1;have U:=y.size;have F:=AD O;have p:base<=w.heap.size:=by have:=h.bb;omega
 have G:∀k,v.ownBlock=some k->k<w.heap.size:=fun k e=>(n.lt k e).2
 have o:∀t∈L.set i ⟨s.z,NM s.G w w',u,r⟩,t=⟨s.z,NM s.G w w',u,r⟩\/∃j,j≠i/\L[j]?=some t:=by
  intro t q;obtain⟨j,l⟩:=List.getElem?_of_mem q;by_cases e:i=j
  ·subst e;rw[List.getElem?_set_self g] at l;exact .inl (bF l).symm
  ·rw[List.getElem?_set_ne e] at l;exact .inr ⟨j,fun a=>e a.symm,l⟩
 have V: (L.set i ⟨s.z,NM s.G w w',u,r⟩).map (·.z)=L.map (·.z):=by
  apply List.ext_getElem?;intro j;rw[List.getElem?_map,List.getElem?_map];by_cases e:i=j
  ·subst e;rw[List.getElem?_set_self g,x];rfl
  ·rw[List.getElem?_set_ne e]
 refine⟨L.set i ⟨s.z,NM s.G w w',u,r⟩,⟨⟨v,(y.block b F (fun e=>(E b e.1).2.2 rfl)).trans O,?_,fun k e=>⟨(A k e).1,(A k e).2.1,fun t q=>?_⟩⟩,h.bb,fun t q=>?_,?_⟩,List.length_set,y.below p (fun k S e=>by have:=(E k e.1).1;omega)⟩
 ·rw[V];exact n.keptBy y (fun k e a=>(A k e).2.2 s f a.1)
 ·rcases o t q with rfl|⟨j,_,l⟩
  ·intro a;rcases a with a|a
   ·exact(A k e).2.2 s f a
   ·have:=G k e;omega
  ·exact(A k e).2.2 t (List.mem_of_getElem? l)
 ·rcases o t q with rfl|⟨j,c,l⟩
  ·refine⟨T,fun k e=>?_,R⟩;rcases e with e|e
   ·have:=E k e;exact⟨this.1,aD,this.2.2⟩
   ·exact⟨aD,e.2,aD⟩
  ·obtain⟨m,d,P⟩:=h.ss t (List.mem_of_getElem? l);exact⟨UW m y (fun k e=>e.2) (fun k e a=>h.apart j i t s l x c k e a.1),fun k e=>⟨(d k e).1,by have:=(d k e).2.1;omega,(d k e).2.2⟩,P.mono Q⟩
 ·intro B C H I m d c k;have z:∀(j:Nat) (t:Ss),L[j]?=some t->∀k,t.G k->k<w.heap.size:=fun j t q k e=>((h.ss t (List.mem_of_getElem? q)).2.1 k e).2.1;by_cases M:i=B
  ·subst M;rw[List.getElem?_set_self g] at m;obtain rfl:=bF m;rw[List.getElem?_set_ne c] at d;intro e a;rcases e with e|e
   ·exact h.apart i C s I x d c k e a
   ·have:=z C I d k a;omega
  ·rw[List.getElem?_set_ne M] at m;by_cases N:i=C
   ·subst N;rw[List.getElem?_set_self g] at d;obtain rfl:=bF d;intro e a;rcases a with a|a
    ·exact h.apart B i H s m x c k e a
    ·have:=z B H m k e;omega
   ·rw[List.getElem?_set_ne N] at d;exact h.apart B C H I m d c k
theorem QZ{base:Nat}{w w':World}{b:Nat}{K f:Int}{L:List Ss}(h:IS base w b K L)(c:Kept (fun _=>False) w w')(l:K<=f):IS base w' b f L:=by
 obtain⟨v,g,a,o⟩:=h.ex;have n:=c.size;refine⟨⟨v,(c.block b (AD g) (fun e=>e)).trans g,a.keptBy c (fun k _ e=>e),o⟩,h.bb,fun s m=>?_,h.apart⟩;obtain⟨i,d,j⟩:=h.ss s m;exact⟨UW i c (fun k e=>e.elim) (fun k _ e=>e),fun k e=>⟨(d k e).1,by have:=(d k e).2.1;omega,(d k e).2.2⟩,j.mono l⟩
theorem oH{base:Nat}{w:World}{b:Nat}{K:Int}{L:List Ss}(h:IS base w b K L):base<=w.heap.size:=by
 obtain⟨v,a,_⟩:=h.ex;have:=AD a;have:=h.bb;omega
theorem aCZ{B x:Nat}{w:World}{lim:Nat}(h:1<=lim)(d:lim<=1000)(b:PsB w x (lim:Nat) (.slice none 0 0) (.pointer none))(l:B<=x):qw B (fun k=>k=x) w x ⟨lim,[],none⟩:=
 ⟨⟨fun _=>False,none,.pointer none,⟨sQ h d,⟨_,_,b,⟨⟨[],⟨aj.nil _ _ _ _ _,(fun k e=>by cases e),(fun q j=>by simp at j),fun _=>rfl⟩,rfl,aE⟩,fun c f=>by simp at f⟩,rfl⟩,fun e=>e,fun k e=>e.elim,fun k e=>e.elim⟩,rfl,fun k e=>e.elim,fun k e=>e.elim,fun g i=>(OB i).elim⟩,fun k e=>by have a:k=x:=e;omega,fun k e=>by have a:k=x:=e;rw[a];exact AD b⟩
theorem aC4{y:Nat}{w:World}{lim:Nat}(a:RsB w y (.slice none 0 0) (lim:Nat) false (.slice none 0 0) (.slice none 0 0) (.slice none 0 0) (.slice none 0 0) 0):jd w y ⟨lim,[],none⟩:=
 ⟨_,false,none,0,0,none,0,0,none,0,0,none,0,0,0,a,⟨[],⟨.inl ⟨rfl,rfl⟩⟩,fun q b=>by simp at b,rfl⟩,rfl⟩
end Go.Proofs.Q
