import Derived.Test.YthenokfmcjmfkaaGreatDoorYam
set_option maxRecDepth 100000
set_option maxHeartbeats 2000000
namespace Go.Proofs.Q
open Rf _root_.Go.Proofs.Tryz
open Go.RowKit
variable {nm : Value}
theorem aAD(w:World)(q:Nat)(D:Option Nat)(aW:List ByteArray)(cf:Cf)(l:Option Addr)(m c1:Nat)(A:List AB)(h:QAt nm w q D aW cf)(hA:Seen w 129 AH (.slice l m c1) A)(N:cf.now.aV≠[])(Ce:cf.chs.length<=20):Calls prog 155 #[.pointer (some ⟨q,0,none⟩),.slice l m c1] w fun r w'=>r= .returned (.int .i64 (D2 cf A).1)/\(∃a4,QAt nm w' q a4 aW (D2 cf A).2/\Nb w D a4)/\Kept (May q D) w w':=by
 obtain⟨vg,vt,fr,vC,J⟩:=h.ex;obtain⟨k0,k1,k2,k3,k4,kf,kl⟩:=J.b.facts;obtain⟨ag,cg,rfl⟩:=J.s.g.slice;obtain⟨g,off,rfl,c0,_,c2,c3⟩:=J.s.g.pos N;obtain⟨ta,tc,rfl⟩:=J.s.t.slice;obtain⟨ca,cc,rfl⟩:=J.r.slice;have t:=aO J;have P:=aO hA;have b2:=aO N;obtain⟨K,Y⟩:∃K,Hid ((AI A).kind=K):=⟨_,rfl⟩
 have O:Hid (D2 cf A=if(if K=1 then 9 else if K=2 then 10 else 0:Int)=0 then(if 20<=cf.chs.length then(6,cf) else(0,⟨⟨[A,BY cf.chs.length,D6],cf.now.aS,cf.now.aQ⟩,⟨⟨cf.now.aV.tail,cf.now.aS,cf.now.aQ⟩,[]⟩::cf.chs⟩)) else((if K=1 then 9 else if K=2 then 10 else 0:Int),cf)):=by unfold Hid D2 JS;rw[Y.o]
 clear h J hA N;have b7:∀w:World,_:=fun w=>uX K (AI A).name (AI A).value (AI A).args w;by_cases h1:K=1
 ·subst h1;have n:Hid (D2 cf A=(9,cf)):=O.o;clear O;go_enter func155,ntmps155;go_wp2_with (go_at_call 122;refine(CD l m c1 A _ P.o).mono ?_;rintro r j ⟨rfl,b⟩;rw[Y.o]);go_ret;rw[n.o];exact⟨rfl,⟨D,(t.o.below b).at,.inl rfl⟩,Kept.of_below b _⟩
 by_cases h2:K=2
 ·subst h2;have n:Hid (D2 cf A=(10,cf)):=O.o;clear O;go_enter func155,ntmps155;go_wp2_with (go_at_call 122;refine(CD l m c1 A _ P.o).mono ?_;rintro r j ⟨rfl,b⟩;rw[Y.o]);go_ret;rw[n.o];exact⟨rfl,⟨D,(t.o.below b).at,.inl rfl⟩,Kept.of_below b _⟩
 have b3: (K==1)=false:=aY.2 h1;have b4: (K==2)=false:=aY.2 h2;have u:Hid (D2 cf A=if 20<=cf.chs.length then(6,cf) else(0,⟨⟨[A,BY cf.chs.length,D6],cf.now.aS,cf.now.aQ⟩,⟨⟨cf.now.aV.tail,cf.now.aS,cf.now.aQ⟩,[]⟩::cf.chs⟩)):=by unfold Hid;rw[O.o,bC h1,bC h2,bD rfl]
 clear O;by_cases V:20<=cf.chs.length
 ·have n:Hid (D2 cf A=(6,cf)):=by unfold Hid;rw[u.o,bD V]
  have Oy: (20:Int)<=cf.chs.length:=aD;clear u;go_enter func155,ntmps155;go_wp2_with (go_at_call 122;refine(CD l m c1 A _ P.o).mono ?_;rintro r j ⟨rfl,b⟩;rw[Y.o];obtain⟨l0,l1,l2,l3,l4,lf,ll⟩:=(t.o.below b).b.facts);go_ret;rw[n.o];exact⟨rfl,⟨D,(t.o.below b).at,.inl rfl⟩,Kept.of_below b _⟩
 ·have n:Hid (D2 cf A=(0,⟨⟨[A,BY cf.chs.length,D6],cf.now.aS,cf.now.aQ⟩,⟨⟨cf.now.aV.tail,cf.now.aS,cf.now.aQ⟩,[]⟩::cf.chs⟩)):=by unfold Hid;rw[u.o,bC V]
  have Oy:¬(20:Int)<=cf.chs.length:=aD;clear u;go_enter func155,ntmps155;obtain⟨acc,hr,a3,M⟩:=t.o.r.ex;have C:acc.length=cf.chs.length:=by have:=congrArg List.length M;simpa using this
  have HR:=aO hr;have a6:=aO a3;have Q:=aO M;clear hr a3 M;go_wp2_with (go_at_call 122;refine(CD l m c1 A _ P.o).mono ?_;rintro r j ⟨rfl,b⟩;rw[Y.o];obtain⟨l0,l1,l2,l3,l4,lf,ll⟩:=(t.o.below b).b.facts;have v:=aO (t.o.below b))
  all_goals
   have T:Hid (∀X,Below j.heap.size j X->aj X 0 133 4 E6 (.slice ca cf.chs.length cc) (acc.map (·.1))):=fun X o=>(HR.o.below b).below o;have R:Hid (∀y∈acc,∀X,Below j.heap.size j X->Ai X y.1 y.2):=fun y E X o=>((a6.o y E).below b).below o;have a7:Hid (∀X,Below j.heap.size j X->Seen X 129 AH (.slice l m c1) A):=fun X o=>(P.o.below b).below o;have U:Hid (∀X,Below j.heap.size j X->ak X (.slice ta cf.now.aS.length tc) cf.now.aS):=fun X o=>v.o.s.t.below o;have F:Hid (∀X,Below j.heap.size j X->QIs X q D nm (.slice (some ⟨g,off,none⟩) cf.now.aV.length cg) (.slice ta cf.now.aS.length tc) fr (.slice ca cf.chs.length cc) aW cf):=fun X o=>v.o.below o
  all_goals first
   |(have I:Hid (∀X,Below j.heap.size j X->ak X (.slice (some ⟨g,off,none⟩) (cf.now.aV.length -1) 0) cf.now.aV.tail):=fun X o=>((v.o.s.g.Jc ‹_›):ak j (.slice (some ⟨g,off,none⟩) (cf.now.aV.length -1) 0) cf.now.aV.tail).below o;go_region_law (refine IM Tryz.Eu E6 DM ML rfl (.tmp 35) (.tmp 38) rfl 0 (.slice ca cf.chs.length cc) (acc.map (·.1)) rfl (T.o _ aM) ⟨_,0,none⟩ 1 ⟨⟨some ⟨g,off,none⟩,cf.now.aV.length -1,0⟩,⟨ta,cf.now.aS.length,tc⟩,fr,⟨none,0,0⟩⟩ rfl (FD _ _ aE _ _ _ _ _) (by rw[aZ,C];omega) (bK _) ?_;intro gA gu w3 f dw jh;rw[aZ,C] at f;obtain⟨r1,r2,r3⟩:=QIs.push (F.o _ aM) (fun y E=>R.o y E _ aM) Q.o (c:=⟨⟨cf.now.aV.tail,cf.now.aS,cf.now.aQ⟩,[]⟩) ⟨⟨I.o _ aM,U.o _ aM,t.o.s.f⟩,Seen.nil⟩ f dw;obtain⟨m0,m1,m2,m3,m4,mf,ml⟩:=r3.facts;have G:=aO r1;have H:=aO r2;clear r1 r2 r3))
   |(have I:Hid (∀X,Below j.heap.size j X->ak X (.slice (some ⟨g,off+1,none⟩) (cf.now.aV.length -1) (cg-1)) cf.now.aV.tail):=fun X o=>((v.o.s.g.Jb b2.o):ak j (.slice (some ⟨g,off+1,none⟩) (cf.now.aV.length -1) (cg-1)) cf.now.aV.tail).below o;go_region_law (refine IM Tryz.Eu E6 DM ML rfl (.tmp 35) (.tmp 38) rfl 0 (.slice ca cf.chs.length cc) (acc.map (·.1)) rfl (T.o _ aM) ⟨_,0,none⟩ 1 ⟨⟨some ⟨g,off+1,none⟩,cf.now.aV.length -1,cg-1⟩,⟨ta,cf.now.aS.length,tc⟩,fr,⟨none,0,0⟩⟩ rfl (FD _ _ aE _ _ _ _ _) (by rw[aZ,C];omega) (bK _) ?_;intro gA gu w3 f dw jh;rw[aZ,C] at f;obtain⟨r1,r2,r3⟩:=QIs.push (F.o _ aM) (fun y E=>R.o y E _ aM) Q.o (c:=⟨⟨cf.now.aV.tail,cf.now.aS,cf.now.aQ⟩,[]⟩) ⟨⟨I.o _ aM,U.o _ aM,t.o.s.f⟩,Seen.nil⟩ f dw;obtain⟨m0,m1,m2,m3,m4,mf,ml⟩:=r3.facts;have G:=aO r1;have H:=aO r2;clear r1 r2 r3))
  all_goals
   all_goals
    generalize w3.setCell ⟨q,4,none⟩ (.slice (some ⟨gA,0,none⟩) (cf.chs.length+1) gu)=d at*;clear m0 m1 m2 m3 m4 mf ml l0 l1 l2 l3 l4 lf;obtain⟨m0,m1,m2,m3,m4,mf,ml⟩:=G.o.b.facts;have s:Below d.heap.size d (((d.alloc (.cells #[.int .i64 4,.string ⟨#[]⟩,.int .i64 cf.chs.length,.int .i64 0] 129)).alloc (.cells #[.int .i64 3,.string ⟨#[102,97,105,108]⟩,.int .i64 0,.int .i64 0] 129)).alloc (.cells #[.slice l m c1,.slice (some ⟨d.heap.size,0,none⟩) 1 1,.slice (some ⟨d.heap.size+1,0,none⟩) 1 1] 84)):=aM;have L:=G.o.below s;have Z:Seen (((d.alloc (.cells #[.int .i64 4,.string ⟨#[]⟩,.int .i64 cf.chs.length,.int .i64 0] 129)).alloc (.cells #[.int .i64 3,.string ⟨#[102,97,105,108]⟩,.int .i64 0,.int .i64 0] 129)).alloc (.cells #[.slice l m c1,.slice (some ⟨d.heap.size,0,none⟩) 1 1,.slice (some ⟨d.heap.size+1,0,none⟩) 1 1] 84)) 84 B5 (.slice (some ⟨d.heap.size+1+1,0,none⟩) 3 3) [⟨l,m,c1⟩,⟨some ⟨d.heap.size,0,none⟩,1,1⟩,⟨some ⟨d.heap.size+1,0,none⟩,1,1⟩]:=Seen.three (x:=⟨l,m,c1⟩) (y:=⟨some ⟨d.heap.size,0,none⟩,1,1⟩) (z:=⟨some ⟨d.heap.size+1,0,none⟩,1,1⟩) (AZ _ _ _ aE);have a0:Seen (((d.alloc (.cells #[.int .i64 4,.string ⟨#[]⟩,.int .i64 cf.chs.length,.int .i64 0] 129)).alloc (.cells #[.int .i64 3,.string ⟨#[102,97,105,108]⟩,.int .i64 0,.int .i64 0] 129)).alloc (.cells #[.slice l m c1,.slice (some ⟨d.heap.size,0,none⟩) 1 1,.slice (some ⟨d.heap.size+1,0,none⟩) 1 1] 84)) 129 AH (.slice (some ⟨d.heap.size,0,none⟩) 1 1) (BY cf.chs.length):=Seen.one (p:=⟨4,⟨#[]⟩,cf.chs.length,0⟩) (AF (AF (AJ d _) _) _);have a2:Seen (((d.alloc (.cells #[.int .i64 4,.string ⟨#[]⟩,.int .i64 cf.chs.length,.int .i64 0] 129)).alloc (.cells #[.int .i64 3,.string ⟨#[102,97,105,108]⟩,.int .i64 0,.int .i64 0] 129)).alloc (.cells #[.slice l m c1,.slice (some ⟨d.heap.size,0,none⟩) 1 1,.slice (some ⟨d.heap.size+1,0,none⟩) 1 1] 84)) 129 AH (.slice (some ⟨d.heap.size+1,0,none⟩) 1 1) D6:=Seen.one (p:=⟨3,q9,0,0⟩) (AF (AZ _ _ _ aE) _);have W:Seen (((d.alloc (.cells #[.int .i64 4,.string ⟨#[]⟩,.int .i64 cf.chs.length,.int .i64 0] 129)).alloc (.cells #[.int .i64 3,.string ⟨#[102,97,105,108]⟩,.int .i64 0,.int .i64 0] 129)).alloc (.cells #[.slice l m c1,.slice (some ⟨d.heap.size,0,none⟩) 1 1,.slice (some ⟨d.heap.size+1,0,none⟩) 1 1] 84)) 129 AH (.slice l m c1) A:=Seen.below (Seen.kept (a7.o _ aM) H.o (F.o _ aM).free.p) s;have b6:=fun i=>(World.frozen?_of_block (a:=⟨q,i,none⟩) (s.block q ml)).trans (mf i);have b5:=L.b.facts.2.1;have a8:=aO Z;have a9:=aO a0;have b0:=aO a2;have a5:=aO W;have B:=aO L;have b1:=aO s;clear Z a0 a2 W L s;go_wp2_with fail;go_ret;rw[n.o]
    have hs:=xq.mk (S:=⟨[A,BY cf.chs.length,D6],cf.now.aS,cf.now.aQ⟩) (ak.mk ⟨[(⟨l,m,c1⟩,A),(⟨some ⟨d.heap.size,0,none⟩,1,1⟩,BY cf.chs.length),(⟨some ⟨d.heap.size+1,0,none⟩,1,1⟩,D6)],a8.o,(fun y E=>by
     simp only[List.mem_cons,dF,or_false] at E;rcases E with rfl|rfl|rfl
     ·exact a5.o
     ·exact a9.o
     ·exact b0.o),rfl⟩) B.o.s.t B.o.s.f
    refine⟨rfl,⟨some gA,(QIs.now B.o (jD _ _) (AK B.o.b 1 _) hs).at,?_⟩,?_⟩
    ·have c4:=b.size;rcases jh with e|⟨k,e,hk⟩
     ·exact .inl (e.trans t.o.o)
     ·exact .inr ⟨k,e,by simp at hk;omega⟩
    ·exact(((Kept.of_below (b.trans (Below.mono (aM:Below j.heap.size j _) b.size)) (May q D)).trans H.o (fun _ _ h=>h)).trans (Kept.of_below b1.o (May q D)) (fun _ _ h=>h)).setCell (p:=⟨q,1,none⟩) (.inr (.inl rfl)) _
variable {nm : Value}
theorem UB(s:ByteArray)(l:List UInt8): (s.toList==l)=true↔s=⟨l.toArray⟩:=by
 rw[<-oZ];simp
theorem XO(w:World)(q:Nat)(j:Option Nat)(C:List ByteArray)(cf:Cf)(m:Option Addr)(o c1:Nat)(A:List AB)(N:Nat)(F:Int)(h:QAt nm w q j C cf)(hA:Seen w 129 AH (.slice m o c1) A)(hG:Rf.StG N F cf.now)(hN:N<=9000)(L:cf.now.aV≠[])(l:A.length<=400)(G:∀p∈A,ru cf.now.aQ p)(Ce:cf.chs.length<=20):Calls prog 123 #[.pointer (some ⟨q,0,none⟩),.slice m o c1] w fun r w'=>r= .returned (.int .i64 (B7 cf A).1)/\(∃D,QAt nm w' q D C (B7 cf A).2/\Nb w j D)/\Kept (May q j) w w':=by
 have E:=aO h;have v:=aO hA;have P:=aO G;have s:Hid (CZ A):=fun p z=>(G p z).1;have HG:=aO hG;have t:=aO L;obtain⟨p,z⟩:∃p,Hid (AI A=p):=⟨_,rfl⟩
 clear h hA L G hG;by_cases S:p.kind=4
 ·have c:Hid (B7 cf A=E9 ⟨cf.now,FJ cf.chs p.value⟩):=by unfold Hid B7;rw[z.o,bD S]
  go_enter func123,ntmps123
  go_wp2_with (first
   |(go_at_call 122;refine(CD m o c1 A _ v.o).mono ?_;rintro r J ⟨rfl,a⟩;rw[z.o];have b:=a.size)
   |(go_at_call 120;refine(MI _ q j C cf p.value (E.o.below (a.alloc b _)) Ce).mono ?_;rintro r M ⟨rfl,T,X⟩)
   |(go_at_call 150;refine(UK _ q j C _ T t.o).mono ?_;rintro r O ⟨rfl,g,i⟩))
  go_ret;rw[c.o];exact⟨rfl,⟨j,g,.inl rfl⟩,((Kept.of_below (a.alloc b _) (May q j)).trans X (fun _ _ h=>h)).trans i (fun _ _ h=>h)⟩
 ·have a0: (p.kind==4)=false:=aY.2 S;have n: (p.name.toList==[116,114,117,101])=true↔p.name=XN:=UB p.name [116,114,117,101];have u: (p.name.toList==[101,113])=true↔p.name=eqB:=UB p.name [101,113];have x: (p.name.toList==[108,101,115,115])=true↔p.name=SW:=UB p.name [108,101,115,115];have y: (p.name.toList==[112,108,117,115])=true↔p.name=KS:=UB p.name [112,108,117,115];have B: (p.name.toList==[110,111,116])=true↔p.name=WH:=UB p.name [110,111,116];have d:Hid (B7 cf A=if p.name=XN then E9 cf else if p.name=eqB then BJ cf (AX A 0) (AX A 1) else if p.name=SW then EP cf A else if p.name=KS then EC cf A else if p.name=WH then D2 cf (AX A 0) else(-1,cf)):=by unfold Hid B7;rw[z.o,bC S]
  cases e1: (p.name.toList==[116,114,117,101])
  ·rw[e1] at n
   cases e2: (p.name.toList==[101,113])
   ·rw[e2] at u
    cases e3: (p.name.toList==[108,101,115,115])
    ·rw[e3] at x
     cases e4: (p.name.toList==[112,108,117,115])
     ·rw[e4] at y
      cases e5: (p.name.toList==[110,111,116])
      ·rw[e5] at B;have c:Hid (B7 cf A=(-1,cf)):=by unfold Hid;rw[d.o,bC (fun e=>by have:=n.2 e;cases this),bC (fun e=>by have:=u.2 e;cases this),bC (fun e=>by have:=x.2 e;cases this),bC (fun e=>by have:=y.2 e;cases this),bC (fun e=>by have:=B.2 e;cases this)]
       clear d n u x y B;go_enter func123,ntmps123;go_wp2_with (go_at_call 122;refine(CD m o c1 A _ v.o).mono ?_;rintro r J ⟨rfl,a⟩;rw[z.o];have b:=a.size);go_ret;rw[c.o];exact⟨rfl,⟨j,E.o.below (a.alloc b _),.inl rfl⟩,Kept.of_below (a.alloc b _) _⟩
      ·rw[e5] at B;have c:Hid (B7 cf A=D2 cf (AX A 0)):=by unfold Hid;rw[d.o,bC (fun e=>by have:=n.2 e;cases this),bC (fun e=>by have:=u.2 e;cases this),bC (fun e=>by have:=x.2 e;cases this),bC (fun e=>by have:=y.2 e;cases this),bD (B.1 rfl)]
       clear d n u x y B;go_enter func123,ntmps123
       go_wp2_with (first
        |(go_at_call 122;refine(CD m o c1 A _ v.o).mono ?_;rintro r J ⟨rfl,a⟩;rw[z.o];have b:=a.size)
        |(go_at_call 152;refine(M3 m o c1 A _ (v.o.below (a.alloc b _)) s.o l).mono ?_;rintro r M ⟨Q,n3,R,rfl,H,I⟩;have f:Below w.heap.size w M:=(a.alloc b _).trans (I.mono (by rw[cE];omega)))
        |(go_at_call 155;refine(aAD _ q j C cf Q n3 R (AX A 0) (E.o.below f) H t.o Ce).mono ?_;rintro r O ⟨rfl,⟨D,g,Z⟩,i⟩))
       go_ret;rw[c.o]
       exact⟨rfl,⟨D,g,by
        rcases Z with e|⟨k,e,hk⟩
        ·exact .inl e
        ·exact .inr ⟨k,e,by have:=f.size;omega⟩⟩,(Kept.of_below f _).trans i (fun _ _ h=>h)⟩
     ·rw[e4] at y;have c:Hid (B7 cf A=EC cf A):=by unfold Hid;rw[d.o,bC (fun e=>by have:=n.2 e;cases this),bC (fun e=>by have:=u.2 e;cases this),bC (fun e=>by have:=x.2 e;cases this),bD (y.1 rfl)]
      clear d n u x y B;go_enter func123,ntmps123
      go_wp2_with (first
       |(go_at_call 122;refine(CD m o c1 A _ v.o).mono ?_;rintro r J ⟨rfl,a⟩;rw[z.o];have b:=a.size)
       |(go_at_call 154;refine(uG _ q j C cf m o c1 A N F (E.o.below (a.alloc b _)) (v.o.below (a.alloc b _)) HG.o hN t.o l P.o).mono ?_;rintro r O ⟨rfl,g,i⟩))
      go_ret;rw[c.o];exact⟨rfl,⟨j,g,.inl rfl⟩,(Kept.of_below (a.alloc b _) _).trans i (fun _ _ h=>h)⟩
    ·rw[e3] at x;have c:Hid (B7 cf A=EP cf A):=by unfold Hid;rw[d.o,bC (fun e=>by have:=n.2 e;cases this),bC (fun e=>by have:=u.2 e;cases this),bD (x.1 rfl)]
     clear d n u x y B;go_enter func123,ntmps123
     go_wp2_with (first
      |(go_at_call 122;refine(CD m o c1 A _ v.o).mono ?_;rintro r J ⟨rfl,a⟩;rw[z.o];have b:=a.size)
      |(go_at_call 153;refine(yG _ q j C cf m o c1 A (E.o.below (a.alloc b _)) (v.o.below (a.alloc b _)) t.o l s.o).mono ?_;rintro r O ⟨rfl,g,i⟩))
     go_ret;rw[c.o];exact⟨rfl,⟨j,g,.inl rfl⟩,(Kept.of_below (a.alloc b _) _).trans i (fun _ _ h=>h)⟩
   ·rw[e2] at u;have c:Hid (B7 cf A=BJ cf (AX A 0) (AX A 1)):=by unfold Hid;rw[d.o,bC (fun e=>by have:=n.2 e;cases this),bD (u.1 rfl)]
    clear d n u x y B;go_enter func123,ntmps123
    go_wp2_with (first
     |(go_at_call 122;refine(CD m o c1 A _ v.o).mono ?_;rintro r J ⟨rfl,a⟩;rw[z.o];have b:=a.size)
     |(go_at_call 152;first
      |(refine(PE m o c1 A _ (v.o.below f) s.o l).mono ?_;rintro r w4 ⟨a4,n4,c4,rfl,W,K⟩;have Bv:Below w.heap.size w w4:=f.trans (K.mono f.size);have V:=Seen.below H K)
      |(refine(M3 m o c1 A _ (v.o.below (a.alloc b _)) s.o l).mono ?_;rintro r M ⟨Q,n3,R,rfl,H,I⟩;have f:Below w.heap.size w M:=(a.alloc b _).trans (I.mono (by rw[cE];omega))))
     |(go_at_call 151;refine(ZJ _ q j C cf Q n3 R (AX A 0) a4 n4 c4 (AX A 1) N F (E.o.below Bv) V W HG.o hN t.o (bN (J1 A 0).1 l) (bN (J1 A 1).1 l) (SS s.o 0) (SS s.o 1)).mono ?_;rintro r w5 ⟨rfl,U,Y⟩))
    go_ret;rw[c.o];exact⟨rfl,⟨j,U,.inl rfl⟩,(Kept.of_below Bv _).trans Y (fun _ _ h=>h)⟩
  ·rw[e1] at n;have c:Hid (B7 cf A=E9 cf):=by unfold Hid;rw[d.o,bD (n.1 rfl)]
   clear d n u x y B;go_enter func123,ntmps123
   go_wp2_with (first
    |(go_at_call 122;refine(CD m o c1 A _ v.o).mono ?_;rintro r J ⟨rfl,a⟩;rw[z.o];have b:=a.size)
    |(go_at_call 150;refine(UK _ q j C cf (E.o.below (a.alloc b _)) t.o).mono ?_;rintro r O ⟨rfl,g,i⟩))
   go_ret;rw[c.o];exact⟨rfl,⟨j,g,.inl rfl⟩,(Kept.of_below (a.alloc b _) _).trans i (fun _ _ h=>h)⟩
variable {nm : Value}
theorem Nb.up{w c:World}{b a:Option Nat}(h:Nb c b a)(f:w.heap.size<=c.heap.size):Nb w b a:=by
 rcases h with e|⟨k,e,d⟩
 ·exact .inl e
 ·exact .inr ⟨k,e,aD⟩
theorem Seen.blk{α:Type}{w:World}{e:TypeId}{C:α->List Value}{g off n c:Nat}{k:List α}(h:Seen w e C (.slice (some ⟨g,off,none⟩) n c) k):∃cs,w.heap[g]?=some (.cells cs e (0,0)):=by
 rcases h.ex with⟨d,_⟩|⟨l,f,i,b,d,j,_⟩
 ·cases d
 ·injection d with a;injection a with a;injection a with a;subst a;exact⟨b,j⟩
theorem ji.blk{w:World}{g off n c:Nat}{cls:List Cl}(h:ji w (.slice (some ⟨g,off,none⟩) n c) cls):∃cs,w.heap[g]?=some (.cells cs 86 (0,0)):=by
 obtain⟨acc,a,_⟩:=h.ex;exact Seen.blk a
theorem m7(w:World)(q:Nat)(a:Option Nat)(P:List ByteArray)(cf:Cf)(vc:Value)(cls:List Cl)(a3:Option Addr)(n3 G:Nat)(E:List Nat)(N:Nat)(F:Int)(h:QAt nm w q a P cf)(hC:ji w vc cls)(l:Seen w 3 DT (.slice a3 n3 G) E)(hG:Rf.StG N F cf.now)(hN:N<=9000)(hF:F<=1000000)(a7:cf.now.aV≠[])(a2:uw cls)(c5:∀k∈E,k<cls.length)(Ce:cf.chs.length<=20)(c4:E.length<=30):Calls prog 125 #[.pointer (some ⟨q,0,none⟩),vc,.slice a3 n3 G] w fun r w'=>r= .returned (.int .i64 (EA cls cf E).1)/\(∃a8,QAt nm w' q a8 P (EA cls cf E).2/\Nb w a a8)/\Kept (May q a) w w':=by
 obtain⟨vg,vt,S,vC,I⟩:=h.ex;obtain⟨k0,k1,k2,k3,k4,kf,kl⟩:=I.b.facts;obtain⟨Q,R,rfl⟩:=I.s.g.slice;obtain⟨ta,tc,rfl⟩:=I.s.t.slice;obtain⟨ca,cc,rfl⟩:=I.r.slice;obtain⟨d1,d2,rfl⟩:=hC.slice;have d:=aO I;have HC:=aO hC;have HM:=aO l;have HG:=aO hG;have O:=aO a7;have b2:=aO a2;have c6:n3=E.length:=l.len;subst c6;clear h I hC hG a7 a2
 cases E with
 |nil=>
  have m:Hid (EA cls cf []=(-1,cf)):=rfl;simp only[dA] at*;go_enter func125,ntmps125;go_wp2_with fail;go_ret;rw[m.o];exact⟨rfl,⟨a,d.o.at,.inl rfl⟩,Kept.refl _ _⟩
 |cons k rest=>
  have hk:=c5 k aE;obtain⟨n,om,rfl⟩:=l.pos aE;have c1:=l.lt;have c2:=l.cap;have a5:=Seen.Nc l 0 k rfl;obtain⟨U,oc,xx,rfl,a4,_,x,a0,a1⟩:=HC.o.at k hk;have B:=b2.o.at hk;have m:Hid (EA cls cf (k::rest)=if rest≠[]/\20<=cf.chs.length then(6,cf) else FZ ⟨cf.now,CA cf.chs cf.now rest⟩ cf.now (cls.getD k EM) cf.chs.length):=rfl;obtain⟨H,c0⟩:∃H,Hid (cls.getD k EM=H):=⟨_,rfl⟩
  rw[c0.o] at x B m;obtain⟨⟨ha,hn,hc⟩,⟨ba,bn,bc⟩⟩:=xx;simp only[bM] at a0 a1 c2 c4;rw[dG] at a5;have L:=aO x;have M:=aO B;have d0:Hid (G=1->Seen w 3 DT (.slice (some ⟨n,om,none⟩) rest.length 0) rest):=fun b7=>by have h9:=l.dropEnd 1 b7;simpa using h9
  have b6:Hid (Seen w 3 DT (.slice (some ⟨n,om+1,none⟩) rest.length (G-1)) rest):=by unfold Hid;have h9:=l.drop GC 1 aE;simpa using h9
  clear l x B;simp only[bM]
  cases rest with
  |nil=>
   have f:Hid (EA cls cf [k]=FZ cf cf.now H cf.chs.length):=by unfold Hid;rw[m.o,bC aE];rfl
   clear m;simp only[dA] at*;have t:=aO d.o;have v:=aO d.o.s;have s:=aO L.o;go_enter func125,ntmps125;go_wp2_with fail
   all_goals
    go_region_with (go_at_call 121;refine(SF _ q a P cf (.slice Q cf.now.aV.length R) (.slice ta cf.now.aS.length tc) S cf.now ⟨ha,hn,hc⟩ ⟨ba,bn,bc⟩ H cf.chs.length N F (t.o.below aM).at (v.o.below aM) HG.o hN hF O.o (s.o.below aM) M.o).mono ?_;rintro r w5 ⟨rfl,z,D⟩)
    all_goals
     go_wp2_with fail;go_ret;rw[f.o];exact⟨rfl,⟨a,z,.inl rfl⟩,(Kept.of_below (aM:Below w.heap.size w _) (May q a)).trans D (fun _ _ h=>h)⟩
  |cons K rest=>
   by_cases V:20<=cf.chs.length
   ·have f:Hid (EA cls cf (k::K::rest)=(6,cf)):=by unfold Hid;rw[m.o,bD ⟨aE,V⟩]
    have Oy: (20:Int)<=cf.chs.length:=aD;simp only[bM] at*;go_enter func125,ntmps125;go_wp2_with fail
    all_goals
     go_ret;rw[f.o];exact⟨rfl,⟨a,d.o.at,.inl rfl⟩,Kept.refl _ _⟩
   ·have f:Hid (EA cls cf (k::K::rest)=FZ ⟨cf.now,⟨cf.now,K::rest⟩::cf.chs⟩ cf.now H cf.chs.length):=by unfold Hid;rw[m.o,bC (fun e=>V e.2)];rfl
    have Oy:¬(20:Int)<=cf.chs.length:=aD;obtain⟨acc,hr,Y,A⟩:=d.o.r.ex;have Z:acc.length=cf.chs.length:=by have:=congrArg List.length A;simpa using this
    have HR:=aO hr;have a9:=aO Y;have b0:=aO A;clear hr Y A m;simp only[bM] at*;go_enter func125,ntmps125;go_wp2_with fail;have b5:Hid (∀X,Below w.heap.size w X->aj X 0 133 4 E6 (.slice ca cf.chs.length cc) (acc.map (·.1))):=fun X o=>HR.o.below o;have b1:Hid (∀y∈acc,∀X,Below w.heap.size w X->Ai X y.1 y.2):=fun y hy X o=>(a9.o y hy).below o;have b4:Hid (∀X,Below w.heap.size w X->QIs X q a nm (.slice Q cf.now.aV.length R) (.slice ta cf.now.aS.length tc) S (.slice ca cf.chs.length cc) P cf):=fun X o=>d.o.below o;have b3:Hid (∀X,Below w.heap.size w X->Ai X ⟨⟨Q,cf.now.aV.length,R⟩,⟨ta,cf.now.aS.length,tc⟩,S,⟨some ⟨n,om+1,none⟩,rest.length+1,G-1⟩⟩ ⟨cf.now,K::rest⟩):=fun X o=>⟨d.o.s.below o,Seen.below b6.o o⟩
    have c7:¬May q a n:=by obtain⟨cs,C⟩:=Seen.blk HM.o;exact d.o.free.i n cs C
    have a6:¬May q a U:=by obtain⟨cs,C⟩:=HC.o.blk;exact d.o.free.c U cs C
    go_region_law (refine IM Tryz.Eu E6 DM ML rfl (.tmp 28) (.tmp 35) rfl 0 (.slice ca cf.chs.length cc) (acc.map (·.1)) rfl (b5.o _ aM) ⟨_,0,none⟩ 1 ⟨⟨Q,cf.now.aV.length,R⟩,⟨ta,cf.now.aS.length,tc⟩,S,⟨some ⟨n,om+1,none⟩,rest.length+1,G-1⟩⟩ rfl (FD _ _ aE _ _ _ _ _) (by rw[aZ,Z];omega) (bK _) ?_;intro T gu w3 g dw jh;rw[aZ,Z] at g;obtain⟨r1,r2,r3⟩:=QIs.push (b4.o _ aM) (fun y hy=>b1.o y hy _ aM) b0.o (c:=⟨cf.now,K::rest⟩) (b3.o _ aM) g dw;obtain⟨m0,m1,m2,m3,m4,mf,ml⟩:=r3.facts;have u:=aO r1;have b:Hid (Kept (May q a) w (w3.setCell ⟨q,4,none⟩ (.slice (some ⟨T,0,none⟩) (cf.chs.length+1) gu))):=(Kept.of_below (aM:Below w.heap.size w _) (May q a)).trans r2 (fun _ _ h=>h);have W:Hid (Nb w a (some T)):=by { unfold Hid;rw[<-d.o.o];exact Nb.up jh aI };clear r1 r2 r3)
    all_goals
     generalize w3.setCell ⟨q,4,none⟩ (.slice (some ⟨T,0,none⟩) (cf.chs.length+1) gu)=w4 at*;clear m0 m1 m2 m3 m4 mf ml k0 k1 k2 k3 k4 kf;obtain⟨m0,m1,m2,m3,m4,mf,ml⟩:=u.o.b.facts;have d5:=(b.o.cell (p:=⟨n,om,none⟩) c1 c7).trans a5;have d3:=(b.o.cell (p:=⟨U,oc+k*2,none⟩) a4 a6).trans a0;have d4:=(b.o.cell (p:=⟨U,oc+k*2+1,none⟩) a4 a6).trans a1;have d6:=b.o.size;have c9:n<w4.heap.size:=aD;have c8:U<w4.heap.size:=aD;have t:=aO u.o;have v:=aO u.o.s;have s:=aO (L.o.kept b.o d.o.free);go_wp2_with fail;go_region_with (go_at_call 121;refine(SF _ q (some T) P ⟨cf.now,⟨cf.now,K::rest⟩::cf.chs⟩ (.slice Q cf.now.aV.length R) (.slice ta cf.now.aS.length tc) S cf.now ⟨ha,hn,hc⟩ ⟨ba,bn,bc⟩ H cf.chs.length N F (t.o.below aM).at (v.o.below aM) HG.o hN hF O.o (s.o.below aM) M.o).mono ?_;rintro r w5 ⟨rfl,z,D⟩)
     all_goals
      go_wp2_with fail;go_ret;rw[f.o];refine⟨rfl,⟨some T,z,W.o⟩,?_⟩;refine(b.o.trans (Kept.of_below (aM:Below w4.heap.size w4 _) (May q a)) (fun _ _ h=>h)).trans D (fun i hi J=>?_);rcases J with rfl|J
      ·exact .inl rfl
      ·rcases W.o with e|⟨j,e,hj⟩
       ·exact .inr (by rw[<-e];exact J)
       ·rw[e] at J;injection J with J;omega
variable {nm : Value}
theorem p7(w:World)(q:Nat)(d:Option Nat)(R:List ByteArray)(cf:Cf)(vc:Value)(cls:List Cl)(G:Nat)(F:Int)(t:Nat)(h:QAt nm w q d R cf)(hC:ji w vc cls)(hG:CfG cls G F t cf)(hN:G+7*(t+1)<=9000)(hF:F+16*(t+1)<=1000000)(c9:uw cls):Calls prog 85 #[.pointer (some ⟨q,0,none⟩),vc] w fun r w'=>r= .returned (.int .i64 (B6 cls cf).1)/\(∃d4,QAt nm w' q d4 R (B6 cls cf).2/\Nb w d d4)/\Kept (May q d) w w':=by
 obtain⟨now,chs⟩:=cf;obtain⟨vg,vt,fr,vC,hQ⟩:=h.ex;obtain⟨k0,k1,k2,k3,k4,kf,kl⟩:=hQ.b.facts;obtain⟨g1,g2,rfl⟩:=hC.slice;have x:=aO hQ;have HC:=aO hC;have HG:=aO hG;have d9:=aO c9;have Y:=aO h;have Ce:=hG.len;clear h hC hG c9
 cases chs with
 |nil=>
  have HU:Hid (B6 cls ⟨now,[]⟩=(2,⟨now,[]⟩)):=rfl;obtain⟨ca,cc,rfl⟩:=hQ.r.slice;simp only[dA] at k4;clear hQ;go_enter func85,ntmps85;go_wp2_with fail;go_ret;rw[HU.o];exact⟨rfl,⟨d,x.o.at,.inl rfl⟩,Kept.refl _ _⟩
 |cons c a=>
  have HU:Hid (B6 cls ⟨now,c::a⟩=KP cls now a c):=rfl;rcases hQ.r.shape with⟨_,e⟩|⟨g,g0,rfl,g5,c8,f9⟩
  ·cases e
  simp only[bM] at c8 k4 Ce;obtain⟨⟨⟨L,N,M⟩,⟨O,Q,P⟩,xf,⟨h1,f7,b5⟩⟩,hx,H,g6,e7⟩:=hQ.r.last;have x0:=H 0 _ rfl;have x1:=H 1 _ rfl;have x2:=H 2 _ rfl;have x3:=H 3 _ rfl;rw[dG] at x0;simp only at x0 x1 x2 x3;obtain⟨gg,gi,gn⟩:=HG.o.chs c aE;have C:=aO hx;have c1:=aO gg;have e3:=aO gi;have e4:=aO gn
  have s:Hid (FJ (c::a) (a.length:Int)=a):=by
   unfold Hid FJ;rw[Int.toNat_natCast,bM,show a.length+1-a.length=1 by omega];rfl
  have I:f7=c.cls.length:=C.o.cl.len;clear hQ hx H e7 gg gi gn
  have K:¬May q d w.heap.size:=by
   rintro(e|e)
   ·omega
   ·have h9:some w.heap.size=some g:=e.trans x.o.o.symm;injection h9 with h9;omega
  obtain⟨st,cs⟩:=c;simp only at HU I
  cases cs with
  |nil=>
   have A:Hid (B6 cls ⟨now,⟨st,[]⟩::a⟩=(0,⟨st,a⟩)):=HU.o;clear HU;simp only[dA] at I;subst I;go_enter func85,ntmps85;go_wp2_with (go_at_call 120;refine(MI _ q d R ⟨now,⟨st,[]⟩::a⟩ a.length (Y.o.below ((bZ _ w).alloc (aX _) _)) (by simp only[bM];omega)).mono ?_;rintro r m ⟨rfl,f,o⟩;rw[s.o] at f;have b:Hid (Kept (May q d) w m):=(Kept.of_below ((bZ _ w).alloc (aX _) _) (May q d)).trans o (fun _ _ h=>h);have u:=(o.block w.heap.size (by rw[cE];omega) K).trans (AJ w _);have⟨y0,y1,y2,y3⟩:=cM u;simp at y0 y1 y2 y3;have yl:=AD u;have U:=aO u;obtain⟨b3,b4,a3,d5,l⟩:=f.ex;obtain⟨m0,m1,m2,m3,m4,mf,ml⟩:=l.b.facts;have n:=aO l;have d3:=b.o.size;clear u l f);go_ret;rw[A.o];obtain⟨r1,r2⟩:=QIs.Nw n.o (C.o.st.kept b.o x.o.free);exact⟨rfl,⟨d,r1.at,.inl rfl⟩,b.o.trans r2 (fun _ _ h=>h)⟩
  |cons k rest=>
   have hk:=e3.o k aE;have T:st.aV≠[]:=e4.o aE;have c2:=aO T;obtain⟨J,om,rfl⟩:=C.o.cl.pos aE;have d0:=C.o.cl.lt;have e9:=C.o.cl.cap;have b2:=Seen.Nc C.o.cl 0 k rfl;obtain⟨D,oc,xx,rfl,Le,_,a4,a7,a8⟩:=HC.o.at k hk;have a9:=d9.o.at hk;have B:Hid (B6 cls ⟨now,⟨st,k::rest⟩::a⟩=FZ ⟨now,CA a st rest⟩ st (cls.getD k EM) a.length):=HU.o;obtain⟨cl,e6⟩:∃cl,Hid (cls.getD k EM=cl):=⟨_,rfl⟩
   rw[e6.o] at a4 a9 B;obtain⟨⟨ha,hn,hc⟩,⟨ba,bn,bc⟩⟩:=xx;simp only[bM] at a7 a8 e9 I;subst I;rw[dG] at b2;have b6:=aO a4;have c0:=aO a9;have d2:¬May q d J:=by obtain⟨cs,b0⟩:=Seen.blk C.o.cl;exact x.o.free.i J cs b0
   have v:¬May q d D:=by obtain⟨cs,b0⟩:=HC.o.blk;exact x.o.free.c D cs b0
   have e5:Hid (Seen w 3 DT (.slice (some ⟨J,om+1,none⟩) rest.length (b5-1)) rest):=by unfold Hid;have h9:=C.o.cl.drop GC 1 aE;simpa using h9
   clear a4 a9 HU T
   cases rest with
   |nil=>
    have A:Hid (B6 cls ⟨now,⟨st,[k]⟩::a⟩=FZ ⟨now,a⟩ st cl a.length):=B.o;clear B;simp only[dA] at*;go_enter func85,ntmps85;go_wp2_with fail;go_at_call 120;refine(MI _ q d R ⟨now,⟨st,[k]⟩::a⟩ a.length (Y.o.below ((bZ _ w).alloc (aX _) _)) (by simp only[bM];omega)).mono ?_;rintro r m ⟨rfl,f,o⟩;rw[s.o] at f;have b:Hid (Kept (May q d) w m):=(Kept.of_below ((bZ _ w).alloc (aX _) _) (May q d)).trans o (fun _ _ h=>h);have u:=(o.block w.heap.size (by rw[cE];omega) K).trans (AJ w _);have⟨y0,y1,y2,y3⟩:=cM u;simp at y0 y1 y2 y3;have yl:=AD u;have U:=aO u;obtain⟨b3,b4,a3,d5,l⟩:=f.ex;obtain⟨m0,m1,m2,m3,m4,mf,ml⟩:=l.b.facts;have n:=aO l;have d3:=b.o.size;have e8:=(b.o.cell (p:=⟨J,om,none⟩) d0 d2).trans b2;have c6:=(b.o.cell (p:=⟨D,oc+k*2,none⟩) Le v).trans a7;have c7:=(b.o.cell (p:=⟨D,oc+k*2+1,none⟩) Le v).trans a8;have d1:J<m.heap.size:=aD;have Oj:D<m.heap.size:=aD;clear u l f;go_wp2_with fail
    all_goals
     have Z:=aO n.o;have a0:=aO (C.o.st.kept b.o x.o.free);have V:=aO (b6.o.kept b.o x.o.free);go_region_with (go_at_call 121;refine(SF _ q d R ⟨now,a⟩ (.slice L N M) (.slice O Q P) xf st ⟨ha,hn,hc⟩ ⟨ba,bn,bc⟩ cl a.length (G+7*t) (F+16*t) (Z.o.below aM).at (a0.o.below aM) c1.o aD aD c2.o (V.o.below aM) c0.o).mono ?_;rintro r w5 ⟨rfl,a5,b1⟩)
     all_goals
      go_wp2_with fail;go_ret;rw[A.o];exact⟨rfl,⟨d,a5,.inl rfl⟩,(b.o.trans (Kept.of_below (aM:Below m.heap.size m _) (May q d)) (fun _ _ h=>h)).trans b1 (fun _ _ h=>h)⟩
   |cons j2 rest=>
    have A:Hid (B6 cls ⟨now,⟨st,k::j2::rest⟩::a⟩=FZ ⟨now,⟨st,j2::rest⟩::a⟩ st cl a.length):=B.o;clear B;simp only[bM] at*;go_enter func85,ntmps85;go_wp2_with fail;go_at_call 120;refine(MI _ q d R ⟨now,⟨st,k::j2::rest⟩::a⟩ a.length (Y.o.below ((bZ _ w).alloc (aX _) _)) (by simp only[bM];omega)).mono ?_;rintro r m ⟨rfl,f,o⟩;rw[s.o] at f;have b:Hid (Kept (May q d) w m):=(Kept.of_below ((bZ _ w).alloc (aX _) _) (May q d)).trans o (fun _ _ h=>h);have u:=(o.block w.heap.size (by rw[cE];omega) K).trans (AJ w _);have⟨y0,y1,y2,y3⟩:=cM u;simp at y0 y1 y2 y3;have yl:=AD u;have U:=aO u;obtain⟨b3,b4,a3,d5,l⟩:=f.ex;obtain⟨m0,m1,m2,m3,m4,mf,ml⟩:=l.b.facts;have n:=aO l;have d3:=b.o.size;have e8:=(b.o.cell (p:=⟨J,om,none⟩) d0 d2).trans b2;have c6:=(b.o.cell (p:=⟨D,oc+k*2,none⟩) Le v).trans a7;have c7:=(b.o.cell (p:=⟨D,oc+k*2+1,none⟩) Le v).trans a8;have d1:J<m.heap.size:=aD;have Oj:D<m.heap.size:=aD;clear u l f;go_wp2_with fail;obtain⟨a2,a1,rfl⟩:=n.o.r.slice;obtain⟨acc,hr,c4,a6⟩:=n.o.r.ex;have c5:acc.length=a.length:=by have:=congrArg List.length a6;simpa using this
    have HR:=aO hr;have d6:=aO c4;have d7:=aO a6;clear hr c4 a6;have e2:Hid (∀X,Below m.heap.size m X->aj X 0 133 4 E6 (.slice a2 a.length a1) (acc.map (·.1))):=fun X S=>HR.o.below S;have d8:Hid (∀y∈acc,∀X,Below m.heap.size m X->Ai X y.1 y.2):=fun y hy X S=>(d6.o y hy).below S;have e1:Hid (∀X,Below m.heap.size m X->QIs X q d nm b3 b4 a3 (.slice a2 a.length a1) R ⟨now,a⟩):=fun X S=>n.o.below S;have e0:Hid (∀X,Below m.heap.size m X->Ai X ⟨⟨L,N,M⟩,⟨O,Q,P⟩,xf,⟨some ⟨J,om+1,none⟩,rest.length+1,b5-1⟩⟩ ⟨st,j2::rest⟩):=fun X S=>⟨(C.o.st.kept b.o x.o.free).below S,Seen.below (Seen.kept e5.o b.o x.o.free.i) S⟩
    go_region_law (refine IM Tryz.Eu E6 DM ML rfl (.tmp 50) (.tmp 55) rfl 0 (.slice a2 a.length a1) (acc.map (·.1)) rfl (e2.o _ aM) ⟨_,0,none⟩ 1 ⟨⟨L,N,M⟩,⟨O,Q,P⟩,xf,⟨some ⟨J,om+1,none⟩,rest.length+1,b5-1⟩⟩ rfl (FD _ _ aE _ _ _ _ _) (by rw[aZ,c5];omega) (bK _) ?_;intro gA gu w3 E dw jh;rw[aZ,c5] at E;obtain⟨r1,r2,r3⟩:=QIs.push (e1.o _ aM) (fun y hy=>d8.o y hy _ aM) d7.o (c:=⟨st,j2::rest⟩) (e0.o _ aM) E dw;obtain⟨f0,f1,f2,f3,f4,f5,f6⟩:=r3.facts;have b7:=aO r1;have z:Hid (Kept (May q d) m (w3.setCell ⟨q,4,none⟩ (.slice (some ⟨gA,0,none⟩) (a.length+1) gu))):=(Kept.of_below (aM:Below m.heap.size m _) (May q d)).trans r2 (fun _ _ h=>h);have c3:Hid (Nb w d (some gA)):=by { unfold Hid;rw[<-n.o.o];exact Nb.up jh aI };clear r1 r2 r3)
    all_goals
     generalize w3.setCell ⟨q,4,none⟩ (.slice (some ⟨gA,0,none⟩) (a.length+1) gu)=w4 at*;clear f0 f1 f2 f3 f4 f5 f6 m0 m1 m2 m3 m4 mf;obtain⟨m0,m1,m2,m3,m4,mf,h0⟩:=b7.o.b.facts;have g3:=(z.o.cell (p:=⟨D,oc+k*2,none⟩) Oj v).trans c6;have g4:=(z.o.cell (p:=⟨D,oc+k*2+1,none⟩) Oj v).trans c7;have g9:=z.o.size;have f8:D<w4.heap.size:=aD;have B4:=(z.o.block w.heap.size yl K).trans U.o;have⟨z0,z1,z2,z3⟩:=cM B4;simp at z0 z1 z2 z3;have zl:=AD B4;have W:Hid (Kept (May q d) w w4):=b.o.trans z.o (fun _ _ h=>h);have Z:=aO b7.o;have a0:=aO (C.o.st.kept W.o x.o.free);have V:=aO (b6.o.kept W.o x.o.free);clear y0 y1 y2 y3 B4;go_wp2_with fail;go_region_with (go_at_call 121;refine(SF _ q (some gA) R ⟨now,⟨st,j2::rest⟩::a⟩ (.slice L N M) (.slice O Q P) xf st ⟨ha,hn,hc⟩ ⟨ba,bn,bc⟩ cl a.length (G+7*t) (F+16*t) (Z.o.below aM).at (a0.o.below aM) c1.o aD aD c2.o (V.o.below aM) c0.o).mono ?_;rintro r w5 ⟨rfl,a5,b1⟩)
     all_goals
      go_wp2_with fail;go_ret;rw[A.o];refine⟨rfl,⟨some gA,a5,c3.o⟩,?_⟩;refine(W.o.trans (Kept.of_below (aM:Below w4.heap.size w4 _) (May q d)) (fun _ _ h=>h)).trans b1 (fun i hi hm=>?_);rcases hm with rfl|hm
      ·exact .inl rfl
      ·rcases c3.o with e|⟨j,e,hj⟩
       ·exact .inr (by rw[<-e];exact hm)
       ·rw[e] at hm;injection hm with hm;omega
variable {nm : Value}
theorem XJ(S:St):∀(i:Nat) (cs:List Cl),(AR S i cs).length<=cs.length
 |_,[]=>by simp[AR]
 |i,c::cs=>by
  have:=XJ S (i+1) cs;rw[AR,bL,bM];split
  ·simp only[bM,dA];omega
  ·simp only[dA];omega
theorem NL(a:Option Addr)(n c:Nat)(A:List AB)(w:World)(h:Seen w 129 AH (.slice a n c) A):Calls prog 118 #[.slice a n c] w fun r w'=>r= .returned (.bool ((AI A).kind==3&&B3 (AI A).name (AI A).args))/\Below w.heap.size w w':=by
 by_cases b: (AI A).kind=3
 ·cases A with
  |nil=>exact absurd b aF
  |cons p rest=>
   obtain⟨g,off,rfl⟩:=h.pos aE;have f:p.kind=3:=b;have e: ((AI (p::rest)).kind==3)=true:=by rw[b];rfl
   rw[e,Bool.true_and];exact OJ g off n c p rest w h f
 ·have e: ((AI A).kind==3)=false:=aY.2 b;have i: ((AI A).kind !=3)=true:=bne_iff_ne.2 b;have l:Hid (((AI A).kind==3&&B3 (AI A).name (AI A).args)=false):=by unfold Hid;rw[e];rfl
  have H:=aO h;obtain⟨p,k⟩:∃p,Hid (AI A=p):=⟨_,rfl⟩
  rw[k.o] at e i;clear h b;go_enter func118,ntmps118;go_wp2_with (go_at_call 122;refine(CD a n c A _ H.o).mono ?_;rintro r m ⟨rfl,d⟩;rw[k.o];have j:=d.size);go_ret;exact⟨C5 l.o.symm,d.alloc j _⟩
theorem yJ(w:World)(q:Nat)(v:Option Nat)(R:List ByteArray)(cf:Cf)(vc:Value)(cls:List Cl)(N:Nat)(F:Int)(h:QAt nm w q v R cf)(hC:ji w vc cls)(hG:Rf.StG N F cf.now)(T:N<=9000)(hF:F<=1000000)(s:cf.now.aV≠[])(U:uw cls)(Z:cf.chs.length<=20)(Y:cls.length<=30):Calls prog 86 #[.pointer (some ⟨q,0,none⟩),vc] w fun r w'=>r= .returned (.int .i64 (DF cls cf).1)/\(∃e,QAt nm w' q e R (DF cls cf).2/\Nb w v e)/\Kept (May q v) w w':=by
 obtain⟨vg,vt,fr,vC,L⟩:=h.ex;obtain⟨k0,k1,k2,k3,k4,kf,kl⟩:=L.b.facts;obtain⟨ag,cg,rfl⟩:=L.s.g.slice;obtain⟨g,off,rfl,a8,_,a9,b0⟩:=L.s.g.pos s;obtain⟨ta,tc,rfl⟩:=L.s.t.slice;obtain⟨I,J,rfl⟩:=hC.slice;obtain⟨⟨x,z,y⟩,hx,hX⟩:=L.s.g.first s
 simp only at hx hX;have V:=SA hG s;have u:Hid (Seen w 129 AH (.slice x z y) (CH cf.now)):=hX;have Q:=aO L;have B:=aO h;have HC:=aO hC;have P:=aO hG;have l:=aO s;have G:=aO U;have k:=aO V;have H:Hid (DF cls cf=if C6 (CH cf.now)=true then B7 cf (CH cf.now) else if CV cf.now cls=true then EA cls cf (AR cf.now 0 cls) else(12,cf)):=rfl;obtain⟨A,hA⟩:∃A,Hid (CH cf.now=A):=⟨_,rfl⟩
 rw[hA.o] at u k H;obtain⟨p,E⟩:∃p,Hid (AI A=p):=⟨_,rfl⟩
 have i:Hid (C6 A=(p.kind==4||(p.kind==3&&B3 p.name p.args))):=by unfold Hid C6;rw[E.o]
 clear h L hC hG s U hX V;by_cases h4:p.kind=4
 ·have K: (p.kind==4)=true:=by rw[h4];rfl
  have f:Hid (DF cls cf=B7 cf A):=by unfold Hid;rw[H.o,i.o,K];rfl
  clear H i;go_enter func86,ntmps86
  go_wp2_with (first
   |(go_at_call 122;refine(CD x z y A _ u.o).mono ?_;rintro r w1 ⟨rfl,b⟩;rw[E.o];have d:=b.size)
   |(go_at_call 123;refine(XO _ q v R cf x z y A N F (B.o.below (b.alloc d _)) (u.o.below (b.alloc d _)) P.o T l.o k.o.1 k.o.2 Z).mono ?_;rintro r O ⟨rfl,⟨e,a0,o⟩,a4⟩))
  go_ret;rw[f.o];exact⟨rfl,⟨e,a0,Nb.up o (by rw[cE];omega)⟩,(Kept.of_below (b.alloc d _) (May q v)).trans a4 (fun _ _ h=>h)⟩
 ·have K: (p.kind==4)=false:=aY.2 h4
  cases n: (p.kind==3&&B3 p.name p.args)
  ·have C:Hid (DF cls cf=if CV cf.now cls=true then EA cls cf (AR cf.now 0 cls) else(12,cf)):=by unfold Hid;rw[H.o,i.o,n,K];simp
   clear H i;obtain⟨kn,D⟩:∃kn,Hid (CV cf.now cls=kn):=⟨_,rfl⟩
   have a7: (AR cf.now 0 cls).length<=30:=bN (XJ cf.now 0 cls) Y
   cases kn
   ·have f:Hid (DF cls cf=(12,cf)):=by unfold Hid;rw[C.o,D.o];rfl
    clear C;go_enter func86,ntmps86
    go_wp2_with (first
     |(go_at_call 122;refine(CD x z y A _ u.o).mono ?_;rintro r w1 ⟨rfl,b⟩;rw[E.o];have d:=b.size)
     |(go_at_call 118;refine(NL x z y A _ (u.o.below (b.alloc d _))).mono ?_;rintro r O ⟨rfl,m⟩;rw[E.o,n];have a:Below w.heap.size w O:=(b.alloc d _).trans (m.mono (by rw[cE];omega));have t:=a.size;obtain⟨l0,l1,l2,l3,l4,lf,ll⟩:=(Q.o.below a).b.facts)
     |(go_at_call 124;refine(S4 _ (.slice (some ⟨g,off,none⟩) cf.now.aV.length cg) (.slice ta cf.now.aS.length tc) fr cf.now (.slice I cls.length J) cls N F (Q.o.s.below a) P.o T hF l.o (HC.o.below a) G.o Y).mono ?_;rintro r X ⟨a3,n3,c3,rfl,S,M⟩;rw[D.o];have c:Below w.heap.size w X:=a.trans (M.mono t);have W:=c.size))
    go_ret;rw[f.o];exact⟨rfl,⟨v,B.o.below c,.inl rfl⟩,Kept.of_below c _⟩
   ·have f:Hid (DF cls cf=EA cls cf (AR cf.now 0 cls)):=by unfold Hid;rw[C.o,D.o];rfl
    clear C;go_enter func86,ntmps86
    go_wp2_with (first
     |(go_at_call 122;refine(CD x z y A _ u.o).mono ?_;rintro r w1 ⟨rfl,b⟩;rw[E.o];have d:=b.size)
     |(go_at_call 118;refine(NL x z y A _ (u.o.below (b.alloc d _))).mono ?_;rintro r O ⟨rfl,m⟩;rw[E.o,n];have a:Below w.heap.size w O:=(b.alloc d _).trans (m.mono (by rw[cE];omega));have t:=a.size;obtain⟨l0,l1,l2,l3,l4,lf,ll⟩:=(Q.o.below a).b.facts)
     |(go_at_call 124;refine(S4 _ (.slice (some ⟨g,off,none⟩) cf.now.aV.length cg) (.slice ta cf.now.aS.length tc) fr cf.now (.slice I cls.length J) cls N F (Q.o.s.below a) P.o T hF l.o (HC.o.below a) G.o Y).mono ?_;rintro r X ⟨a3,n3,c3,rfl,S,M⟩;rw[D.o];have c:Below w.heap.size w X:=a.trans (M.mono t);have W:=c.size)
     |(go_at_call 125;refine(m7 _ q v R cf (.slice I cls.length J) cls a3 n3 c3 (AR cf.now 0 cls) N F (B.o.below c) (HC.o.below c) S P.o T hF l.o G.o (fun j hj=>by have:=NB cf.now 0 cls j hj;omega) Z a7).mono ?_;rintro r w4 ⟨rfl,⟨e,a2,o⟩,a6⟩))
    go_ret;rw[f.o];exact⟨rfl,⟨e,a2,Nb.up o W⟩,(Kept.of_below c (May q v)).trans a6 (fun _ _ h=>h)⟩
  ·have f:Hid (DF cls cf=B7 cf A):=by unfold Hid;rw[H.o,i.o,n];simp
   clear H i;go_enter func86,ntmps86
   go_wp2_with (first
    |(go_at_call 122;refine(CD x z y A _ u.o).mono ?_;rintro r w1 ⟨rfl,b⟩;rw[E.o];have d:=b.size)
    |(go_at_call 118;refine(NL x z y A _ (u.o.below (b.alloc d _))).mono ?_;rintro r O ⟨rfl,m⟩;rw[E.o,n];have a:Below w.heap.size w O:=(b.alloc d _).trans (m.mono (by rw[cE];omega));have t:=a.size;obtain⟨l0,l1,l2,l3,l4,lf,ll⟩:=(Q.o.below a).b.facts)
    |(go_at_call 123;refine(XO _ q v R cf x z y A N F (B.o.below a) (u.o.below a) P.o T l.o k.o.1 k.o.2 Z).mono ?_;rintro r X ⟨rfl,⟨e,a1,o⟩,a5⟩))
   go_ret;rw[f.o];exact⟨rfl,⟨e,a1,Nb.up o t⟩,(Kept.of_below a (May q v)).trans a5 (fun _ _ h=>h)⟩
end Go.Proofs.Q
