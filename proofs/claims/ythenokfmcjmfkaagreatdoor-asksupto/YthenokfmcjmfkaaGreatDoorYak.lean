import Derived.Test.YthenokfmcjmfkaaGreatDoorYaj
import Derived.Deep.CutRange
import Derived.Deep.RegionHeld2
set_option maxRecDepth 100000
set_option maxHeartbeats 4000000
namespace Rf
def CZ(t:List AB):Prop:=∀p∈t,0<=p.args/\p.args<=4
theorem iM:∀(t:List AB) (m:Int),H6 m t<=t.length
 |[],_=>aX _
 |p::t,m=>by
  rw[H6];have:=iM t (m+(p.args -1));split
  ·simp
  ·simp;omega
theorem Z8(t:List AB):CN t<=t.length:=iM t 1
theorem j9(p:AB)(t:List AB):1<=CN (p::t):=by
 unfold CN;rw[H6];split<;>omega
theorem PK:∀{ts:List (List AB)} {t:List AB},t∈ts->t.length<=AO ts
 |[],_,h=>by cases h
 |u::ts,t,h=>by
  rw[AO];rcases bP.1 h with rfl|h
  ·omega
  ·have:=PK h;omega
theorem ZX{n:Nat}{p q:AB}{f s:List AB}{b a c:List (List AB)}(h:GG (n+1) ⟨p::f,q::s,b,a,c⟩=true)(d: (BG ⟨p::f,q::s,b,a,c⟩).1=0):GG n (BG ⟨p::f,q::s,b,a,c⟩).2=true:=by
 rw[GG,bC (by simp[F6]),bD d] at h;exact h
theorem V7{n:Nat}{p q:AB}{f s:List AB}{b a c:List (List AB)}(d: (BG ⟨p::f,q::s,b,a,c⟩).1=0):B1 (n+1) ⟨p::f,q::s,b,a,c⟩=B1 n (BG ⟨p::f,q::s,b,a,c⟩).2:=by
 rw[B1,bC (by simp[F6]),bD d]
theorem RD{n:Nat}{p q:AB}{f s:List AB}{b a c:List (List AB)}(d: (BG ⟨p::f,q::s,b,a,c⟩).1≠0):B1 (n+1) ⟨p::f,q::s,b,a,c⟩=BG ⟨p::f,q::s,b,a,c⟩:=by
 rw[B1,bC (by simp[F6]),bC d]
theorem sG(p:AB)(f s:List AB)(b a c:List (List AB)):BG ⟨p::f,p::s,b,a,c⟩=(0,⟨f,s,b,a,c⟩):=by
 simp only[BG];rw[bD (CE.2 rfl)]
theorem qV{p q:AB}(f s:List AB)(c b d:List (List AB))(a:p≠q)(g:p.kind=1):BG ⟨p::f,q::s,c,b,d⟩=A6 ⟨f,(q::s).drop (CN (q::s)),c,b,d⟩ p.value ((q::s).take (CN (q::s))):=by
 simp only[BG];rw[bC (fun e=>a (CE.1 e)),bD g]
theorem mJ{p q:AB}(f s:List AB)(c b d:List (List AB))(a:p≠q)(g:p.kind≠1)(h:q.kind=1):BG ⟨p::f,q::s,c,b,d⟩=A6 ⟨(p::f).drop (CN (p::f)),s,c,b,d⟩ q.value ((p::f).take (CN (p::f))):=by
 simp only[BG];rw[bC (fun e=>a (CE.1 e)),bC g,bD h]
theorem vE{p q:AB}(f s:List AB)(c b d:List (List AB))(a:p≠q)(g:p.kind≠1)(h:q.kind≠1):BG ⟨p::f,q::s,c,b,d⟩=(-1,⟨p::f,q::s,c,b,d⟩):=by
 simp only[BG];rw[bC (fun e=>a (CE.1 e)),bC g,bC h]
theorem L3{p q:AB}(a:p.kind=q.kind)(f:p.name.toList=q.name.toList)(b:p.value=q.value)(c:p.args=q.args):p=q:=by
 have d:p.name=q.name:=by
  have e:=Go.beq_toList p.name q.name;rw[f] at e;simpa using e
 cases p;cases q;simp at a b c d;simp[a,b,c,d]
end Rf
namespace Go.Proofs.Q
open Rf _root_.Go.Proofs.Tryz
open Go.RowKit
structure qy(E:Eqn):Prop where
 ok:aBu E
 f:CZ E.f
 s:CZ E.s
theorem dR{E:Eqn}{v:Int}{x:List AB}(h:qy E)(hx:CZ x)(f: (A6 E v x).1=0):qy (A6 E v x).2:=by
 obtain⟨_,d,e⟩:=QW f;rw[d];have g:=e;unfold Eqn.size at g;refine⟨⟨aD,aD,⟨?_,?_⟩,⟨?_,?_⟩,⟨?_,?_⟩⟩,?_,?_⟩
 ·have:=h.ok.b.1;simpa[Eqn.put] using this
 ·intro t b;have:=PK b;omega
 ·have:=h.ok.h.1;simpa[Eqn.put] using this
 ·intro t b;have:=PK b;omega
 ·have:=h.ok.t.1;simpa[Eqn.put] using this
 ·intro t b;have:=PK b;omega
 ·intro p c;rcases JK c with⟨a,_⟩|a
  ·exact h.f p a
  ·exact hx p a
 ·intro p c;rcases JK c with⟨a,_⟩|a
  ·exact h.s p a
  ·exact hx p a
theorem qy.drops{E:Eqn}(h:qy E)(m n:Nat):qy { E with f:=E.f.drop m,s:=E.s.drop n }:=
 ⟨⟨by have:=h.ok.f;simp;omega,by have:=h.ok.s;simp;omega,h.ok.b,h.ok.h,h.ok.t⟩,fun p a=>h.f p (bV a),fun p a=>h.s p (bV a)⟩
theorem Seen.Ee{w w':World}{v:Value}{ps:List AB}{e:Nat}{j m i l n:Value}(h:Seen w 129 AH v ps)(d:EqB w e j m i l n)(g:Kept (fun k=>k=e) w w'):Seen w' 129 AH v ps:=
 h.kept g (fun k cs a f=>by subst f;rw[show w.heap[k]?=_ from d] at a;injection a with b;injection b with _ c;exact absurd c aF)
theorem NR(w:World)(e:Nat)(E:Eqn)(h:KJ w e E)(hg:qy E):Calls prog 171 #[.pointer (some ⟨e,0,none⟩)] w fun r w'=>r= .returned (.int .i64 (AL E).1)/\Kept (fun k=>k=e) w w'/\((AL E).1=0->KJ w' e (AL E).2):=by
 have H:=aO h;have HG:=aO hg;clear h hg;go_enter func171,ntmps171;go_wp2_with fail;go_loopg [] (KG E) (fun m wr=>∃E1,Hid (GG m E1=true)/\Hid (B1 m E1=AL E)/\KJ wr e E1/\qy E1/\Kept (fun k=>k=e) w wr)
 case atStart=>exact⟨E,iA E,rfl,H.o,HG.o,Kept.refl _ _⟩
 case round=>
  obtain⟨E1,hh,I,hA,hG,hk⟩:=hrel;obtain⟨vf,vs,vb,vh,vt,hB,hE⟩:=hA.ex;obtain⟨a1,c1,rfl⟩:=hE.f.slice;obtain⟨a2,c2,rfl⟩:=hE.s.slice;obtain⟨k0,k1,k2,k3,k4,kf,kl⟩:=hB.facts
  obtain⟨n,rfl⟩:∃n,gk=n+1:=by
   cases gk with
   |zero=>have:=hh.o;simp[GG] at this
   |succ n=>exact⟨n,rfl⟩
  obtain⟨F,S,i,g,j⟩:=E1;have HA:=aO hA;have HB:=aO hB;have z:=aO hE;have u:=aO hG;clear hA hB hE hG
  cases F with
  |nil=>
   have hS:Hid (AL E=(0,⟨[],S,i,g,j⟩)):=by unfold Hid;rw[<-I.o,B1,bD (by simp[F6])]
   simp only[dA] at k0;go_wp2_with fail;go_ret;exact⟨CL (by rw[hS.o]),hk,fun _=>by rw[hS.o];exact HA.o⟩
  |cons p f=>
  cases S with
  |nil=>
   have hS:Hid (AL E=(0,⟨p::f,[],i,g,j⟩)):=by unfold Hid;rw[<-I.o,B1,bD (by simp[F6])]
   simp only[dA,bM] at k0 k1;go_wp2_with fail;go_ret;exact⟨CL (by rw[hS.o]),hk,fun _=>by rw[hS.o];exact HA.o⟩
  |cons q s=>
   obtain⟨g1,o1,rfl⟩:=z.o.f.pos aE;obtain⟨g2,o2,rfl⟩:=z.o.s.pos aE;have b6:=z.o.f.lt;have b7:=z.o.s.lt;obtain⟨x0,x1,x2,x3⟩:=Seen.parts z.o.f 0 p rfl;obtain⟨y0,y1,y2,y3⟩:=Seen.parts z.o.s 0 q rfl;simp only[Nat.zero_mul,dG] at x0 x1 x2 x3 y0 y1 y2 y3;simp only[bM] at k0 k1;have b3:=z.o.f.cap;have b4:=z.o.s.cap;simp only[bM] at b3 b4;have a9:¬wr.heap.size=e:=aD;have a0:¬wr.heap.size+1=e:=aD;by_cases a5:p=q
   ·subst a5;have a:=sG p f s i g j;have X:Hid (GG n ⟨f,s,i,g,j⟩=true):=by have:=ZX hh.o (by rw[a]);rw[a] at this;exact this
    have t:Hid (B1 n ⟨f,s,i,g,j⟩=AL E):=by have v:=I.o;rw[V7 (by rw[a]),a] at v;exact v
    clear a;go_wp2_with (go_at_call 185;refine(MY _ e 1 1 ⟨p::f,p::s,i,g,j⟩ ⟨_,_,_,_,_,(Below.block (aM:Below wr.heap.size wr _) e kl).trans HB.o,z.o.below aM⟩ aE aE aE aE).mono ?_;rintro r w2 ⟨rfl,D,l⟩);go_roundg n
    case measure=>omega
    case rel=>exact⟨⟨f,s,i,g,j⟩,X,t,D,u.o.drops 1 1,(hk.trans (Kept.of_below (aM:Below wr.heap.size wr _) (fun k=>k=e)) (fun _ _ h=>h)).trans l (fun _ _ h=>h)⟩
   ·have G:=aO a5;clear a5
    cases a3: (p.kind==1)
    ·cases a7: (q.kind==1)
     ·have a:=vE f s i g j G.o (aY.1 a3) (aY.1 a7);have t:Hid (AL E=(-1,⟨p::f,q::s,i,g,j⟩)):=by unfold Hid;rw[<-I.o,RD (by rw[a];intro h;cases h),a]
      clear a;go_upto_region 6 with fail;go_cut [34] from 8 to 88 (fun b B=>b= .bool false/\B=((wr.alloc (Obj.cells #[.int .i64 p.kind,.string p.name,.int .i64 p.value,.int .i64 p.args] 129)).alloc (Obj.cells #[.int .i64 q.kind,.string q.name,.int .i64 q.value,.int .i64 q.args] 129)))
      case first=>
       go_wp2_with fail
       all_goals first|(exfalso;exact G.o (L3 (by assumption) (by assumption) (by assumption) (by assumption)))|(go_meet;exact⟨rfl,by simp[*]⟩)
      case rest=>
       obtain⟨rfl,rfl⟩:=hcut;go_wp2_with fail;go_ret;exact⟨CL (by rw[t.o]),hk.trans (Kept.of_below (aM:Below wr.heap.size wr _) (fun k=>k=e)) (fun _ _ h=>h),fun v=>by rw[t.o] at v;cases v⟩
     ·obtain⟨L,Y⟩:∃L,L=CN (p::f):=⟨_,rfl⟩
      have Z:1<=L:=by rw[Y];exact j9 _ _
      have b1:L<=f.length+1:=by rw[Y];exact Z8 _
      have a:=mJ f s i g j G.o (aY.1 a3) (bT a7);rw[<-Y] at a;have HL:=aO Y;have R:CZ ((p::f).take L):=fun y hy=>u.o.f y (List.mem_of_mem_take hy);have K:Hid (qy ⟨(p::f).drop L,s,i,g,j⟩):=u.o.drops L 1;have C:Hid (((p::f).take L).length=L):=by unfold Hid;rw[bW];simp;omega
      have b5:f.length+1<=400:=u.o.ok.f;have b2: (L:Int)<=(c1:Nat):=aD;clear Y;by_cases A: (A6 ⟨(p::f).drop L,s,i,g,j⟩ q.value ((p::f).take L)).1=0
      ·have X:Hid (GG n (A6 ⟨(p::f).drop L,s,i,g,j⟩ q.value ((p::f).take L)).2=true):=by have v:=ZX hh.o (by rw[a];exact A);rw[a] at v;exact v
       have t:Hid (B1 n (A6 ⟨(p::f).drop L,s,i,g,j⟩ q.value ((p::f).take L)).2=AL E):=by have v:=I.o;rw[V7 (by rw[a];exact A),a] at v;exact v
       have a4:Hid (qy (A6 ⟨(p::f).drop L,s,i,g,j⟩ q.value ((p::f).take L)).2):=dR K.o R A;have H0:=aO A;clear a A R;go_upto_region 6 with fail;go_cut [34] from 8 to 88 (fun b B=>b= .bool false/\B=((wr.alloc (Obj.cells #[.int .i64 p.kind,.string p.name,.int .i64 p.value,.int .i64 p.args] 129)).alloc (Obj.cells #[.int .i64 q.kind,.string q.name,.int .i64 q.value,.int .i64 q.args] 129)))
       case first=>
        go_wp2_with fail
        all_goals first|(exfalso;exact G.o (L3 (by assumption) (by assumption) (by assumption) (by assumption)))|(go_meet;exact⟨rfl,by simp[*]⟩)
       case rest=>
        obtain⟨rfl,rfl⟩:=hcut;go_upto_region 13 with fail;go_cut [7] from 8 to 88 (fun ov B=>ov= .slice (some ⟨g1,o1,none⟩) L c1/\Below wr.heap.size wr B/\B.heap[(wr.heap.size+1)]?=some (Obj.cells #[.int .i64 q.kind,.string q.name,.int .i64 q.value,.int .i64 q.args] 129))
        case first=>
         go_region_with (go_at_call 173;refine(I6 _ (some ⟨g1,o1,none⟩) _ c1 (p::f) (z.o.f.below aM) u.o.f aJ).mono ?_;rintro r V ⟨rfl,x⟩;rw[<-HL.o];have o:Below wr.heap.size wr V:=Below.trans (aM:Below wr.heap.size wr (World.drew ((wr.alloc (Obj.cells #[.int .i64 p.kind,.string p.name,.int .i64 p.value,.int .i64 p.args] 129)).alloc (Obj.cells #[.int .i64 q.kind,.string q.name,.int .i64 q.value,.int .i64 q.args] 129)))) (x.mono aJ);have c:EqB V e _ _ _ _ _:=(o.block e kl).trans HB.o;obtain⟨l0,l1,l2,l3,l4,lf,ll⟩:=EqB.facts c;have d:V.heap[(wr.heap.size+1)]?=some (Obj.cells #[.int .i64 q.kind,.string q.name,.int .i64 q.value,.int .i64 q.args] 129):=(x.block (wr.heap.size+1) aI).trans (AZ _ _ _ aE))
         all_goals
          go_wp2_with fail;go_meet;exact⟨rfl,o,d⟩
        case rest=>
         obtain⟨rfl,o,d⟩:=hcut;have a6:=o.size;have c:EqB wc e _ _ _ _ _:=(o.block e kl).trans HB.o;obtain⟨l0,l1,l2,l3,l4,lf,ll⟩:=EqB.facts c;have N:Hid (KJ wc e ⟨p::f,q::s,i,g,j⟩):=⟨_,_,_,_,_,c,z.o.below o⟩
         have P:Hid (Seen wc 129 AH (.slice (some ⟨g1,o1,none⟩) L c1) ((p::f).take L)):=(z.o.f.below o).take L aJ;have U: (wr.heap.size+1)<wc.heap.size:=AD d;have M:=aO d;have J:=aO c;clear d c
         go_wp2_with (first
          |(go_at_call 185;refine(MY _ e L 1 ⟨p::f,q::s,i,g,j⟩ N.o aE aE aI aI).mono ?_;rintro r w2 ⟨rfl,D,l⟩;have O:=(l.block (wr.heap.size+1) U a0).trans M.o;have t2:w2.cell? ⟨(wr.heap.size+1),2,none⟩=some (.int .i64 q.value):=AA O 2;have Q:=Seen.Ee P.o J.o l)
          |(go_at_call 186;refine(PO q.value _ e ⟨(p::f).drop L,s,i,g,j⟩ D K.o.ok _ L c1 ((p::f).take L) Q (by rw[C.o];exact Z) (by rw[C.o];omega)).mono ?_;rintro r w3 ⟨rfl,T,W⟩;rw[H0.o]))
         go_roundg n
         case measure=>omega
         case rel=>exact⟨(A6 ⟨(p::f).drop L,s,i,g,j⟩ q.value ((p::f).take L)).2,X,t,W H0.o,a4.o,((hk.trans (Kept.of_below o (fun k=>k=e)) (fun _ _ h=>h)).trans l (fun _ _ h=>h)).trans T (fun _ _ h=>h)⟩
      ·have t:Hid (AL E=(A6 ⟨(p::f).drop L,s,i,g,j⟩ q.value ((p::f).take L))):=by unfold Hid;rw[<-I.o,RD (by rw[a];exact A),a]
       have b0: ((A6 ⟨(p::f).drop L,s,i,g,j⟩ q.value ((p::f).take L)).1==0)=false:=aY.2 A;have a8: ((A6 ⟨(p::f).drop L,s,i,g,j⟩ q.value ((p::f).take L)).1!=0)=true:=bne_iff_ne.2 A;have H0:=aO A;clear a A R;go_upto_region 6 with fail;go_cut [34] from 8 to 88 (fun b B=>b= .bool false/\B=((wr.alloc (Obj.cells #[.int .i64 p.kind,.string p.name,.int .i64 p.value,.int .i64 p.args] 129)).alloc (Obj.cells #[.int .i64 q.kind,.string q.name,.int .i64 q.value,.int .i64 q.args] 129)))
       case first=>
        go_wp2_with fail
        all_goals first|(exfalso;exact G.o (L3 (by assumption) (by assumption) (by assumption) (by assumption)))|(go_meet;exact⟨rfl,by simp[*]⟩)
       case rest=>
        obtain⟨rfl,rfl⟩:=hcut;go_upto_region 13 with fail;go_cut [7] from 8 to 88 (fun ov B=>ov= .slice (some ⟨g1,o1,none⟩) L c1/\Below wr.heap.size wr B/\B.heap[(wr.heap.size+1)]?=some (Obj.cells #[.int .i64 q.kind,.string q.name,.int .i64 q.value,.int .i64 q.args] 129))
        case first=>
         go_region_with (go_at_call 173;refine(I6 _ (some ⟨g1,o1,none⟩) _ c1 (p::f) (z.o.f.below aM) u.o.f aJ).mono ?_;rintro r V ⟨rfl,x⟩;rw[<-HL.o];have o:Below wr.heap.size wr V:=Below.trans (aM:Below wr.heap.size wr (World.drew ((wr.alloc (Obj.cells #[.int .i64 p.kind,.string p.name,.int .i64 p.value,.int .i64 p.args] 129)).alloc (Obj.cells #[.int .i64 q.kind,.string q.name,.int .i64 q.value,.int .i64 q.args] 129)))) (x.mono aJ);have c:EqB V e _ _ _ _ _:=(o.block e kl).trans HB.o;obtain⟨l0,l1,l2,l3,l4,lf,ll⟩:=EqB.facts c;have d:V.heap[(wr.heap.size+1)]?=some (Obj.cells #[.int .i64 q.kind,.string q.name,.int .i64 q.value,.int .i64 q.args] 129):=(x.block (wr.heap.size+1) aI).trans (AZ _ _ _ aE))
         all_goals
          go_wp2_with fail;go_meet;exact⟨rfl,o,d⟩
        case rest=>
         obtain⟨rfl,o,d⟩:=hcut;have a6:=o.size;have c:EqB wc e _ _ _ _ _:=(o.block e kl).trans HB.o;obtain⟨l0,l1,l2,l3,l4,lf,ll⟩:=EqB.facts c;have N:Hid (KJ wc e ⟨p::f,q::s,i,g,j⟩):=⟨_,_,_,_,_,c,z.o.below o⟩
         have P:Hid (Seen wc 129 AH (.slice (some ⟨g1,o1,none⟩) L c1) ((p::f).take L)):=(z.o.f.below o).take L aJ;have U: (wr.heap.size+1)<wc.heap.size:=AD d;have M:=aO d;have J:=aO c;clear d c
         go_wp2_with (first
          |(go_at_call 185;refine(MY _ e L 1 ⟨p::f,q::s,i,g,j⟩ N.o aE aE aI aI).mono ?_;rintro r w2 ⟨rfl,D,l⟩;have O:=(l.block (wr.heap.size+1) U a0).trans M.o;have t2:w2.cell? ⟨(wr.heap.size+1),2,none⟩=some (.int .i64 q.value):=AA O 2;have Q:=Seen.Ee P.o J.o l)
          |(go_at_call 186;refine(PO q.value _ e ⟨(p::f).drop L,s,i,g,j⟩ D K.o.ok _ L c1 ((p::f).take L) Q (by rw[C.o];exact Z) (by rw[C.o];omega)).mono ?_;rintro r w3 ⟨rfl,T,W⟩;skip))
         go_ret;exact⟨CL (by rw[t.o]),((hk.trans (Kept.of_below o (fun k=>k=e)) (fun _ _ h=>h)).trans l (fun _ _ h=>h)).trans T (fun _ _ h=>h),fun v=>by rw[t.o] at v;exact absurd v H0.o⟩
    ·obtain⟨L,Y⟩:∃L,L=CN (q::s):=⟨_,rfl⟩
     have Z:1<=L:=by rw[Y];exact j9 _ _
     have b1:L<=s.length+1:=by rw[Y];exact Z8 _
     have a:=qV f s i g j G.o (bT a3);rw[<-Y] at a;have HL:=aO Y;have R:CZ ((q::s).take L):=fun y hy=>u.o.s y (List.mem_of_mem_take hy);have K:Hid (qy ⟨f,(q::s).drop L,i,g,j⟩):=u.o.drops 1 L;have C:Hid (((q::s).take L).length=L):=by unfold Hid;rw[bW];simp;omega
     have b5:s.length+1<=400:=u.o.ok.s;have b2: (L:Int)<=(c2:Nat):=aD;clear Y;by_cases A: (A6 ⟨f,(q::s).drop L,i,g,j⟩ p.value ((q::s).take L)).1=0
     ·have X:Hid (GG n (A6 ⟨f,(q::s).drop L,i,g,j⟩ p.value ((q::s).take L)).2=true):=by have v:=ZX hh.o (by rw[a];exact A);rw[a] at v;exact v
      have t:Hid (B1 n (A6 ⟨f,(q::s).drop L,i,g,j⟩ p.value ((q::s).take L)).2=AL E):=by have v:=I.o;rw[V7 (by rw[a];exact A),a] at v;exact v
      have a4:Hid (qy (A6 ⟨f,(q::s).drop L,i,g,j⟩ p.value ((q::s).take L)).2):=dR K.o R A;have H0:=aO A;clear a A R;go_upto_region 6 with fail;go_cut [34] from 8 to 88 (fun b B=>b= .bool false/\B=((wr.alloc (Obj.cells #[.int .i64 p.kind,.string p.name,.int .i64 p.value,.int .i64 p.args] 129)).alloc (Obj.cells #[.int .i64 q.kind,.string q.name,.int .i64 q.value,.int .i64 q.args] 129)))
      case first=>
       go_wp2_with fail
       all_goals first|(exfalso;exact G.o (L3 (by assumption) (by assumption) (by assumption) (by assumption)))|(go_meet;exact⟨rfl,by simp[*]⟩)
      case rest=>
       obtain⟨rfl,rfl⟩:=hcut;go_upto_region 9 with fail;go_cut [6] from 8 to 88 (fun ov B=>ov= .slice (some ⟨g2,o2,none⟩) L c2/\Below wr.heap.size wr B/\B.heap[wr.heap.size]?=some (Obj.cells #[.int .i64 p.kind,.string p.name,.int .i64 p.value,.int .i64 p.args] 129))
       case first=>
        go_region_with (go_at_call 173;refine(I6 _ (some ⟨g2,o2,none⟩) _ c2 (q::s) (z.o.s.below aM) u.o.s aJ).mono ?_;rintro r V ⟨rfl,x⟩;rw[<-HL.o];have o:Below wr.heap.size wr V:=Below.trans (aM:Below wr.heap.size wr (World.drew ((wr.alloc (Obj.cells #[.int .i64 p.kind,.string p.name,.int .i64 p.value,.int .i64 p.args] 129)).alloc (Obj.cells #[.int .i64 q.kind,.string q.name,.int .i64 q.value,.int .i64 q.args] 129)))) (x.mono aJ);have c:EqB V e _ _ _ _ _:=(o.block e kl).trans HB.o;obtain⟨l0,l1,l2,l3,l4,lf,ll⟩:=EqB.facts c;have d:V.heap[wr.heap.size]?=some (Obj.cells #[.int .i64 p.kind,.string p.name,.int .i64 p.value,.int .i64 p.args] 129):=(x.block wr.heap.size aI).trans (AF (AJ _ _) _))
        all_goals
         go_wp2_with fail;go_meet;exact⟨rfl,o,d⟩
       case rest=>
        obtain⟨rfl,o,d⟩:=hcut;have a6:=o.size;have c:EqB wc e _ _ _ _ _:=(o.block e kl).trans HB.o;obtain⟨l0,l1,l2,l3,l4,lf,ll⟩:=EqB.facts c;have N:Hid (KJ wc e ⟨p::f,q::s,i,g,j⟩):=⟨_,_,_,_,_,c,z.o.below o⟩
        have P:Hid (Seen wc 129 AH (.slice (some ⟨g2,o2,none⟩) L c2) ((q::s).take L)):=(z.o.s.below o).take L aJ;have U:wr.heap.size<wc.heap.size:=AD d;have M:=aO d;have J:=aO c;clear d c
        go_wp2_with (first
         |(go_at_call 185;refine(MY _ e 1 L ⟨p::f,q::s,i,g,j⟩ N.o aE aE aI aI).mono ?_;rintro r w2 ⟨rfl,D,l⟩;have O:=(l.block wr.heap.size U a9).trans M.o;have t2:w2.cell? ⟨wr.heap.size,2,none⟩=some (.int .i64 p.value):=AA O 2;have Q:=Seen.Ee P.o J.o l)
         |(go_at_call 186;refine(PO p.value _ e ⟨f,(q::s).drop L,i,g,j⟩ D K.o.ok _ L c2 ((q::s).take L) Q (by rw[C.o];exact Z) (by rw[C.o];omega)).mono ?_;rintro r w3 ⟨rfl,T,W⟩;rw[H0.o]))
        go_roundg n
        case measure=>omega
        case rel=>exact⟨(A6 ⟨f,(q::s).drop L,i,g,j⟩ p.value ((q::s).take L)).2,X,t,W H0.o,a4.o,((hk.trans (Kept.of_below o (fun k=>k=e)) (fun _ _ h=>h)).trans l (fun _ _ h=>h)).trans T (fun _ _ h=>h)⟩
     ·have t:Hid (AL E=(A6 ⟨f,(q::s).drop L,i,g,j⟩ p.value ((q::s).take L))):=by unfold Hid;rw[<-I.o,RD (by rw[a];exact A),a]
      have b0: ((A6 ⟨f,(q::s).drop L,i,g,j⟩ p.value ((q::s).take L)).1==0)=false:=aY.2 A;have a8: ((A6 ⟨f,(q::s).drop L,i,g,j⟩ p.value ((q::s).take L)).1!=0)=true:=bne_iff_ne.2 A;have H0:=aO A;clear a A R;go_upto_region 6 with fail;go_cut [34] from 8 to 88 (fun b B=>b= .bool false/\B=((wr.alloc (Obj.cells #[.int .i64 p.kind,.string p.name,.int .i64 p.value,.int .i64 p.args] 129)).alloc (Obj.cells #[.int .i64 q.kind,.string q.name,.int .i64 q.value,.int .i64 q.args] 129)))
      case first=>
       go_wp2_with fail
       all_goals first|(exfalso;exact G.o (L3 (by assumption) (by assumption) (by assumption) (by assumption)))|(go_meet;exact⟨rfl,by simp[*]⟩)
      case rest=>
       obtain⟨rfl,rfl⟩:=hcut;go_upto_region 9 with fail;go_cut [6] from 8 to 88 (fun ov B=>ov= .slice (some ⟨g2,o2,none⟩) L c2/\Below wr.heap.size wr B/\B.heap[wr.heap.size]?=some (Obj.cells #[.int .i64 p.kind,.string p.name,.int .i64 p.value,.int .i64 p.args] 129))
       case first=>
        go_region_with (go_at_call 173;refine(I6 _ (some ⟨g2,o2,none⟩) _ c2 (q::s) (z.o.s.below aM) u.o.s aJ).mono ?_;rintro r V ⟨rfl,x⟩;rw[<-HL.o];have o:Below wr.heap.size wr V:=Below.trans (aM:Below wr.heap.size wr (World.drew ((wr.alloc (Obj.cells #[.int .i64 p.kind,.string p.name,.int .i64 p.value,.int .i64 p.args] 129)).alloc (Obj.cells #[.int .i64 q.kind,.string q.name,.int .i64 q.value,.int .i64 q.args] 129)))) (x.mono aJ);have c:EqB V e _ _ _ _ _:=(o.block e kl).trans HB.o;obtain⟨l0,l1,l2,l3,l4,lf,ll⟩:=EqB.facts c;have d:V.heap[wr.heap.size]?=some (Obj.cells #[.int .i64 p.kind,.string p.name,.int .i64 p.value,.int .i64 p.args] 129):=(x.block wr.heap.size aI).trans (AF (AJ _ _) _))
        all_goals
         go_wp2_with fail;go_meet;exact⟨rfl,o,d⟩
       case rest=>
        obtain⟨rfl,o,d⟩:=hcut;have a6:=o.size;have c:EqB wc e _ _ _ _ _:=(o.block e kl).trans HB.o;obtain⟨l0,l1,l2,l3,l4,lf,ll⟩:=EqB.facts c;have N:Hid (KJ wc e ⟨p::f,q::s,i,g,j⟩):=⟨_,_,_,_,_,c,z.o.below o⟩
        have P:Hid (Seen wc 129 AH (.slice (some ⟨g2,o2,none⟩) L c2) ((q::s).take L)):=(z.o.s.below o).take L aJ;have U:wr.heap.size<wc.heap.size:=AD d;have M:=aO d;have J:=aO c;clear d c
        go_wp2_with (first
         |(go_at_call 185;refine(MY _ e 1 L ⟨p::f,q::s,i,g,j⟩ N.o aE aE aI aI).mono ?_;rintro r w2 ⟨rfl,D,l⟩;have O:=(l.block wr.heap.size U a9).trans M.o;have t2:w2.cell? ⟨wr.heap.size,2,none⟩=some (.int .i64 p.value):=AA O 2;have Q:=Seen.Ee P.o J.o l)
         |(go_at_call 186;refine(PO p.value _ e ⟨f,(q::s).drop L,i,g,j⟩ D K.o.ok _ L c2 ((q::s).take L) Q (by rw[C.o];exact Z) (by rw[C.o];omega)).mono ?_;rintro r w3 ⟨rfl,T,W⟩;skip))
        go_ret;exact⟨CL (by rw[t.o]),((hk.trans (Kept.of_below o (fun k=>k=e)) (fun _ _ h=>h)).trans l (fun _ _ h=>h)).trans T (fun _ _ h=>h),fun v=>by rw[t.o] at v;exact absurd v H0.o⟩
theorem ak.app{c:World}{v2:Value}{base:Nat}{acc b:List (SlV×List AB)}(f:aj c base 84 1 B5 v2 (acc.map (·.1)++b.map (·.1)))(d:∀q∈acc,Seen c 129 AH (slv q.1) q.2)(e:∀q∈b,Seen c 129 AH (slv q.1) q.2):ak c v2 (acc.map (·.2)++b.map (·.2)):=by
 refine⟨acc++b,by rw[bE];exact f.seen,fun q a=>?_,by rw[bE]⟩;rcases bO.1 a with a|a
 ·exact d q a
 ·exact e q a
theorem P5(w:World)(u1 u2:Value)(ts n:List (List AB))(u:ak w u1 ts)(v:ak w u2 n)(H:ts.length<=100000)(I:n.length<=100000):Calls prog 84 #[u1,u2] w fun r w'=>∃o x p,r= .returned (.slice o x p)/\ak w' (.slice o x p) (ts++n)/\Below w.heap.size w w':=by
 obtain⟨acc,l,s,rfl⟩:=u.ex;obtain⟨G,m,t,rfl⟩:=v.ex;obtain⟨B,c1,rfl⟩:=l.slice;obtain⟨C,E,rfl⟩:=m.slice;rw[aZ] at H I;have S1:=aO l;have A:=aO m;have y:=aO s;have z:=aO t;clear u v l m s t;rw[aZ,aZ] at*;go_enter func84,ntmps84
 go_wp2_with (first
  |(at_builtin;refine GV Tryz.mg B5 DZ F8 _ rfl (.tmp 6) (.tmp 7) rfl w.heap.size (.slice none 0 0) [] rfl (aj.nil _ _ _ _ _) (.slice B acc.length c1) _ rfl S1.o aJ (aX _) ?_;intro N J b h;rw[List.nil_append] at b;have a:Below w.heap.size w J:=(bZ _ w).grown h (aX _) (fun k e=>by simp[Value.ownBlock] at e);obtain⟨D,F,f⟩:=CJ b;rw[aZ] at f;subst f)
  |(at_builtin;refine GV Tryz.mg B5 DZ F8 _ rfl (.tmp 9) (.tmp 10) rfl w.heap.size (.slice D acc.length F) _ rfl b (.slice C G.length E) _ rfl (A.o.below a) aJ a.size ?_;intro v2 K d i;have c:Below w.heap.size w K:=a.grown i a.size (fun k e=>(b.lt k e).1);obtain⟨L,M,g⟩:=CJ d;rw[bL,aZ,aZ] at g;subst g))
 go_ret;refine⟨_,_,_,rfl,?_,c⟩;exact ak.app d (fun q j=>(y.o q j).below c) (fun q j=>(z.o q j).below c)
theorem ak.nil(w:World):ak w (.slice none 0 0) []:=⟨[],Seen.nil,(fun q a=>by cases a),rfl⟩
structure xq(w:World)(vg vt:Value)(fr:Int)(S:St):Prop where
 g:ak w vg S.aV
 t:ak w vt S.aS
 f:fr=S.aQ
theorem xq.below{w w':World}{c d:Value}{a:Int}{S:St}(h:xq w c d a S)(b:Below w.heap.size w w'):xq w' c d a S:=⟨h.g.below b,h.t.below b,h.f⟩
structure yV(S:St)(N:Nat):Prop where
 gl:S.aV.length<=N
 g:∀t∈S.aV,t.length<=400/\CZ t
 tl:S.aS.length<=16
 t:∀t∈S.aS,t.length<=400/\CZ t
 f0:0<=S.aQ
 f1:S.aQ<=1000000
theorem OI(off h:Int)(t:List AB): (A5 off h t).length=t.length:=by unfold A5;simp
theorem sV{off h:Int}{t:List AB}(c:CZ t):CZ (A5 off h t):=by
 intro p a;unfold A5 at a;obtain⟨q,b,rfl⟩:=bQ.1 a;have:=c q b;unfold EH;split
 ·exact this
 ·split
  ·exact this
  ·exact this
structure ZE(cl:Cl):Prop where
 ok:rO cl
 h:CZ cl.head
 b:∀t∈cl.body,CZ t
theorem rE{S:St}{l:Cl}{h:Int}{N:Nat}(g:yV S N)(o:N<=9000)(i:ZE l)(k:S.aV≠[]):qy (BH S l h):=by
 obtain⟨f,gs,m⟩:∃f gs,S.aV=f::gs:=by
  cases j:S.aV with
  |nil=>exact absurd j k
  |cons a b=>exact⟨a,b,rfl⟩
 have d:=g.gl;have c:=g.g;rw[m] at d c;simp only[bM] at d;unfold BH;rw[m];refine⟨⟨(c f aE).1,by show(A5 _ _ _).length<=400;rw[OI];exact i.ok.hl,⟨?_,?_⟩,⟨?_,?_⟩,⟨?_,?_⟩⟩,(c f aE).2,sV i.h⟩
 ·have:=i.ok.bl;simp;omega
 ·intro t e;obtain⟨q,n,rfl⟩:=bQ.1 e;rw[OI];exact(i.ok.bt q n).1
 ·show gs.length<=10000;omega
 ·intro t e;exact(c t (bA _ e)).1
 ·have:=g.tl;show S.aS.length<=10000;omega
 ·intro t e;exact(g.t t e).1
theorem tG{ts:List (List AB)}(d:∀t∈ts,∀p∈t,p.kind=1->0<=p.value/\p.value<1000000):∀{a:Int},0<=a->a<=1000000->0<=DV a ts/\DV a ts<=1000000:=by
 induction ts with
 |nil=>intro a b c;exact⟨b,c⟩
 |cons t ts h=>
  intro a b c;rw[DV];have e:=MB (d t aE) (a:=0) aD aD;have f:0<=EK t/\EK t<=1000000:=e;refine h (fun q g=>d q (bA _ g)) ?_ ?_
  ·unfold EW;split<;>omega
  ·unfold EW;split<;>omega
theorem aAl{c:Cl}(h:rO c):0<=C4 c/\C4 c<=1000000:=by
 unfold C4;have b:=MB (t:=c.head) (fun p b d=>by have:=h.hv p b d;omega) (a:=0) aD aD;exact tG (fun t e p b d=>by have:=(h.bt t e).2 p b d;omega) b.1 b.2
theorem zU(E:Eqn): (BG E).2.body.length=E.body.length/\(BG E).2.behind.length=E.behind.length/\(BG E).2.aS.length=E.aS.length:=by
 have a:∀(E:Eqn) v x,(A6 E v x).2.body.length=E.body.length/\(A6 E v x).2.behind.length=E.behind.length/\(A6 E v x).2.aS.length=E.aS.length:=by
  intro E v x;unfold A6;split
  ·exact⟨rfl,rfl,rfl⟩
  ·split
   ·exact⟨rfl,rfl,rfl⟩
   ·simp[Eqn.put]
 unfold BG;split
 ·split
  ·exact⟨rfl,rfl,rfl⟩
  ·split
   ·exact a _ _ _
   ·split
    ·exact a _ _ _
    ·exact⟨rfl,rfl,rfl⟩
 ·exact⟨rfl,rfl,rfl⟩
theorem ZB:∀(n:Nat) (E:Eqn),(B1 n E).2.body.length=E.body.length/\(B1 n E).2.behind.length=E.behind.length/\(B1 n E).2.aS.length=E.aS.length
 |0,_=>⟨rfl,rfl,rfl⟩
 |n+1,E=>by
  rw[B1];have a:=zU E;split
  ·exact⟨rfl,rfl,rfl⟩
  ·split
   ·have b:=ZB n (BG E).2;exact⟨b.1.trans a.1,b.2.1.trans a.2.1,b.2.2.trans a.2.2⟩
   ·exact a
theorem uK(E:Eqn)(h:qy E): (AL E).2.body.length<=10000/\(AL E).2.behind.length<=10000/\(AL E).2.aS.length<=10000:=by
 have a:=ZB (KG E) E;exact⟨by have:=a.1;have:=h.ok.b.1;unfold AL;omega,by have:=a.2.1;have:=h.ok.h.1;unfold AL;omega,by have:=a.2.2;have:=h.ok.t.1;unfold AL;omega⟩
theorem aCv{x:Int}(a: -1000000000000<=x)(b:x<=1000000000000):IntKind.i64.wrap x=x:=by
 rw[IntKind.wrap_i64];omega
theorem ak.Ii{w:World}{v:Value}{ts:List (List AB)}{R:Nat}{cs:Array Value}{t:TypeId}{u0 u1 u2:Value}(h:ak w v ts)(c:w.heap[R]?=some (.cells cs t (0,0)))(a:t≠129)(b:t≠84):ak (((w.setCell ⟨R,0,none⟩ u0).setCell ⟨R,1,none⟩ u1).setCell ⟨R,2,none⟩ u2) v ts:=((h.jv c a b 0 u0).jv (AK c 0 u0) a b 1 u1).jv (AK (AK c 0 u0) 1 u1) a b 2 u2
theorem pP(a:Array Value)(w:World): (callFunc 84 a).run prog w= .ok (.enter 84 a) w:=by
 simp[callFunc,func84,Tryz.f84]
theorem zK(a:Array Value)(w:World): (callFunc 172 a).run prog w= .ok (.enter 172 a) w:=by
 simp[callFunc,func172,Tryz.f172]
theorem M7(w:World)(vg vt:Value)(fr h:Int)(S:St)(hx bx:SlV)(f:Cl)(N:Nat)(hS:xq w vg vt fr S)(hO:yV S N)(hN:N<=9000)(a0:S.aV≠[])(hC:pq w hx bx f)(hG:ZE f):Calls prog 149 #[.agg #[vg,vt,.int .i64 fr],.agg #[.slice hx.a hx.n hx.c,.slice bx.a bx.n bx.c],.int .i64 h] w fun r w'=>∃a3 n3 c3 a4 n4 c4 fr',r= .returned (.tuple #[.agg #[.slice a3 n3 c3,.slice a4 n4 c4,.int .i64 fr'],.int .i64 (BD S f h).1])/\xq w' (.slice a3 n3 c3) (.slice a4 n4 c4) fr' (BD S f h).2/\Below w.heap.size w w':=by
 obtain⟨d9,a9,rfl⟩:=hS;obtain⟨acc,s1,G,Z⟩:=d9.ex;obtain⟨a1,c1,rfl⟩:=s1.slice;obtain⟨a2,c2,rfl⟩:=a9.slice
 have P:1<=acc.length:=by
  cases acc with
  |nil=>simp at Z;exact absurd Z a0
  |cons=>simp
 obtain⟨g1,o1,rfl⟩:=s1.pos (by simpa using P);have f8:=s1.lt;have e4:=s1.cap;rw[aZ] at e4
 obtain⟨q0,d,rfl⟩:∃q0 d,acc=q0::d:=by
  cases acc with
  |nil=>simp at P
  |cons a b=>exact⟨a,b,rfl⟩
 have O:=Seen.yx s1 0 q0.1 aE;obtain⟨⟨qa,qn,qc⟩,qp⟩:=q0;obtain⟨m,u,o⟩:=hx;obtain⟨l,s,n⟩:=bx;simp only[dG] at O;have HG:=aO (rE (h:=h) hO hN hG a0);have HC:=aO hC;have HK:=aO hG.ok;have f2:=aO s1;have c0:=aO G;have f4:=aO a9;have f5:=aO Z;have f7:=hO.f0;have i1:=hO.f1;simp only[List.map_cons,bM,List.length_map] at*;clear d9 a9 s1 G Z hC hG hO P;go_enter func149,ntmps149;go_upto_region 2 with(go_at_call 170;refine(aBw S.aQ h _ ⟨m,u,o⟩ ⟨l,s,n⟩ f (HC.o.below aM) HK.o f7 aD).mono ?_;rintro r R ⟨⟨yh,mh,dh⟩,⟨yb,mb,db⟩,rfl,d5,M⟩)
 have i3:w.heap.size+3<=R.heap.size:=by have:=M.size;simp at this;omega
 have jg:Below w.heap.size w R:=Below.trans (aM:Below w.heap.size w (((w.alloc _).alloc _).alloc _)) (M.mono aI);have b0:=(M.block w.heap.size aI).trans (AF (AF (AJ _ _) _) _);have e2:=(M.block (w.heap.size+1) aI).trans (AF (AZ _ _ _ aE) _);have d6:=(M.block (w.heap.size+1+1) aI).trans (AZ _ _ _ aE);have⟨x0,x1,x2⟩:=cJ b0;simp at x0 x1 x2;have W:R.cell? ⟨g1,o1,none⟩=some (.slice qa qn qc):=(cD (jg.block g1 f8)).trans O;have h6:w.heap.size<R.heap.size:=aD;have h5:g1<R.heap.size:=aD;have Ot:=f2.o.below jg;have K:∀q∈d,Seen R 129 AH (slv q.1) q.2:=fun q hq=>(c0.o q (bA _ hq)).below jg;have Pq:Hid (c1=1->ak R (.slice (some ⟨g1,o1,none⟩) d.length 0) (d.map (·.2))):=fun b7=>⟨d,by have h9:=Ot.dropEnd 1 b7;simpa using h9,K,rfl⟩
 have Po:Hid (ak R (.slice (some ⟨g1,o1+1,none⟩) d.length (c1-1)) (d.map (·.2))):=⟨d,by have h9:=Ot.drop DZ 1 aE;simpa using h9,K,rfl⟩
 clear Ot K;go_cut [9] from 11 to 47 (fun pv wx=>∃(e:Nat) (vr:Value),pv= .pointer (some ⟨e,0,none⟩)/\R.heap.size<=e/\EqB wx e (.slice qa qn qc) (.slice yh mh dh) (.slice yb mb db) vr (.slice a2 S.aS.length c2)/\ak wx vr (d.map (·.2))/\Below R.heap.size R wx)
 case first=>
  by_cases b7:c1=1
  ·go_region;go_wp2_with fail;go_meet;exact⟨_,_,rfl,aD,AZ _ _ _ aE,(Pq.o b7).below aM,aM⟩
  ·go_region;go_wp2_with fail;go_meet;exact⟨_,_,rfl,aD,AZ _ _ _ aE,Po.o.below aM,aM⟩
 case rest=>
  obtain⟨e,vr,rfl,he,hB,e6,I⟩:=hcut;have Ir:Below w.heap.size w wc:=jg.trans (I.mono aD)
  have hE:qh wc (.slice qa qn qc) (.slice yh mh dh) (.slice yb mb db) vr (.slice a2 S.aS.length c2) (BH S f h):=by
   unfold BH;rw[f5.o];exact⟨(c0.o (⟨qa,qn,qc⟩,qp) aE).below Ir,d5.head.below I,d5.body.below I,e6,f4.o.below Ir⟩
  have HA:Hid (KJ wc e (BH S f h)):=⟨_,_,_,_,_,hB,hE⟩
  have d7:wc.heap[w.heap.size+1+1]?=_:=(I.block _ aD).trans d6;have e0:wc.heap[w.heap.size]?=_:=(I.block _ aD).trans b0;have e3:wc.heap[w.heap.size+1]?=_:=(I.block _ aD).trans e2;have Q:¬w.heap.size+1+1=e:=aD;have g0:¬w.heap.size=e:=aD;have g2:¬w.heap.size+1=e:=aD;have U:=aO d7;have d0:=aO e0;have d1:=aO e3;clear hE hB e6 d7 e0 e3 b0 e2 d6 x0 x1 x2 W;by_cases h0: (AL (BH S f h)).1=0
  ·have HW:Hid (BD S f h=(0,⟨(AL (BH S f h)).2.body++(AL (BH S f h)).2.behind,(AL (BH S f h)).2.aS,S.aQ+C4 f⟩)):=by unfold Hid BD;rw[bD h0]
   have H0:=aO h0;have i2:=aAl HK.o;have e5:=uK (BH S f h) HG.o;have d2:=aO e5;clear h0 e5;go_upto_region 6 with(go_at_call 171;refine(NR _ e _ HA.o HG.o).mono ?_;rintro r i ⟨rfl,B,d3⟩;rw[H0.o];have g:=(B.block _ (AD U.o) Q).trans U.o;have b4:=(B.block _ (AD d0.o) g0).trans d0.o;have b5:=(B.block _ (AD d1.o) g2).trans d1.o)
   obtain⟨vf,vs,vb,vh,vt,d4,z⟩:=(d3 H0.o).ex;generalize (AL (BH S f h)).2=c at*;obtain⟨C,E,rfl⟩:=z.b.slice;obtain⟨D,F,rfl⟩:=z.h.slice;obtain⟨x,y,rfl⟩:=z.t.slice;obtain⟨l0,l1,l2,l3,l4,lf,ll⟩:=d4.facts;have x2:=AA b4 2;have⟨y0,y1⟩:=cI b5;have⟨r0,r1,r2⟩:=cJ g;have rf:=AE g;have rl:=AD g;have yl:=AD b5;have xl:=AD b4;simp at x2 y0 y1 r0 r1 r2;have j:Below w.heap.size w i:=Ir.trans (B.below Ir.size (fun k J e=>by omega));have g3:=j.size;have hK:∀X,Kept (fun k=>k=w.heap.size+1+1) i X->(fun X:World=>Kept (fun k=>k=w.heap.size+1+1) i X/\X.cell? ⟨e,2,none⟩=some (.slice C c.body.length E)/\X.cell? ⟨e,3,none⟩=some (.slice D c.behind.length F)/\X.cell? ⟨e,4,none⟩=some (.slice x c.aS.length y)/\X.cell? ⟨w.heap.size,2,none⟩=some (.int .i64 S.aQ)/\X.cell? ⟨w.heap.size+1,0,none⟩=some (.slice m u o)/\X.cell? ⟨w.heap.size+1,1,none⟩=some (.slice l s n)) X:=fun X J=>⟨J,(J.cell ll (fun G=>Q G.symm)).trans l2,(J.cell ll (fun G=>Q G.symm)).trans l3,(J.cell ll (fun G=>Q G.symm)).trans l4,(J.cell xl (fun G=>by simp at G;omega)).trans x2,(J.cell yl (fun G=>by simp at G)).trans y0,(J.cell yl (fun G=>by simp at G)).trans y1⟩
   have nT:∀k cs (t:TypeId),t≠124->i.heap[k]?=some (.cells cs t (0,0))->¬k=w.heap.size+1+1:=fun k cs t a0 hc he=>by
    subst he;rw[g] at hc;injection hc with h1;injection h1 with _ h2;exact a0 h2.symm
   have h7: (fun X:World=>Kept (fun k=>k=w.heap.size+1+1) i X/\X.cell? ⟨e,2,none⟩=some (.slice C c.body.length E)/\X.cell? ⟨e,3,none⟩=some (.slice D c.behind.length F)/\X.cell? ⟨e,4,none⟩=some (.slice x c.aS.length y)/\X.cell? ⟨w.heap.size,2,none⟩=some (.int .i64 S.aQ)/\X.cell? ⟨w.heap.size+1,0,none⟩=some (.slice m u o)/\X.cell? ⟨w.heap.size+1,1,none⟩=some (.slice l s n)) i.drew:=hK _ (Kept.refl _ i).drew;have c9:Hid (∀X Y,(fun X:World=>Kept (fun k=>k=w.heap.size+1+1) i X/\X.cell? ⟨e,2,none⟩=some (.slice C c.body.length E)/\X.cell? ⟨e,3,none⟩=some (.slice D c.behind.length F)/\X.cell? ⟨e,4,none⟩=some (.slice x c.aS.length y)/\X.cell? ⟨w.heap.size,2,none⟩=some (.int .i64 S.aQ)/\X.cell? ⟨w.heap.size+1,0,none⟩=some (.slice m u o)/\X.cell? ⟨w.heap.size+1,1,none⟩=some (.slice l s n)) X->Below X.heap.size X Y->(fun X:World=>Kept (fun k=>k=w.heap.size+1+1) i X/\X.cell? ⟨e,2,none⟩=some (.slice C c.body.length E)/\X.cell? ⟨e,3,none⟩=some (.slice D c.behind.length F)/\X.cell? ⟨e,4,none⟩=some (.slice x c.aS.length y)/\X.cell? ⟨w.heap.size,2,none⟩=some (.int .i64 S.aQ)/\X.cell? ⟨w.heap.size+1,0,none⟩=some (.slice m u o)/\X.cell? ⟨w.heap.size+1,1,none⟩=some (.slice l s n)) Y):=fun X Y H hb=>hK _ (H.1.trans (Kept.of_below hb (fun k=>k=w.heap.size+1+1)) (fun _ _ h=>h));have f3:Hid (∀X u0 u1 u2,(fun X:World=>Kept (fun k=>k=w.heap.size+1+1) i X/\X.cell? ⟨e,2,none⟩=some (.slice C c.body.length E)/\X.cell? ⟨e,3,none⟩=some (.slice D c.behind.length F)/\X.cell? ⟨e,4,none⟩=some (.slice x c.aS.length y)/\X.cell? ⟨w.heap.size,2,none⟩=some (.int .i64 S.aQ)/\X.cell? ⟨w.heap.size+1,0,none⟩=some (.slice m u o)/\X.cell? ⟨w.heap.size+1,1,none⟩=some (.slice l s n)) X->(fun X:World=>Kept (fun k=>k=w.heap.size+1+1) i X/\X.cell? ⟨e,2,none⟩=some (.slice C c.body.length E)/\X.cell? ⟨e,3,none⟩=some (.slice D c.behind.length F)/\X.cell? ⟨e,4,none⟩=some (.slice x c.aS.length y)/\X.cell? ⟨w.heap.size,2,none⟩=some (.int .i64 S.aQ)/\X.cell? ⟨w.heap.size+1,0,none⟩=some (.slice m u o)/\X.cell? ⟨w.heap.size+1,1,none⟩=some (.slice l s n)) (((X.setCell ⟨w.heap.size+1+1,0,none⟩ u0).setCell ⟨w.heap.size+1+1,1,none⟩ u1).setCell ⟨w.heap.size+1+1,2,none⟩ u2)):=fun X u0 u1 u2 H=>hK _ (((H.1.setCell (p:=⟨w.heap.size+1+1,0,none⟩) (Or.inr rfl) u0).setCell (p:=⟨w.heap.size+1+1,1,none⟩) (Or.inr rfl) u1).setCell (p:=⟨w.heap.size+1+1,2,none⟩) (Or.inr rfl) u2)
   have Dj:∀{X v ts},ak i v ts->Kept (fun k=>k=w.heap.size+1+1) i X->ak X v ts:=fun {X v ts} ht J=>by
    obtain⟨acc,b1,b2,b3⟩:=ht.ex;exact⟨acc,b1.kept J (fun k cs hc=>nT k cs _ aF hc),fun q hq=>(b2 q hq).kept J (fun k cs hc=>nT k cs _ aF hc),b3⟩
   have e8:Hid (∀X,(fun X:World=>Kept (fun k=>k=w.heap.size+1+1) i X/\X.cell? ⟨e,2,none⟩=some (.slice C c.body.length E)/\X.cell? ⟨e,3,none⟩=some (.slice D c.behind.length F)/\X.cell? ⟨e,4,none⟩=some (.slice x c.aS.length y)/\X.cell? ⟨w.heap.size,2,none⟩=some (.int .i64 S.aQ)/\X.cell? ⟨w.heap.size+1,0,none⟩=some (.slice m u o)/\X.cell? ⟨w.heap.size+1,1,none⟩=some (.slice l s n)) X->ak X (.slice C c.body.length E) c.body):=fun X H=>Dj z.b H.1;have e9:Hid (∀X,(fun X:World=>Kept (fun k=>k=w.heap.size+1+1) i X/\X.cell? ⟨e,2,none⟩=some (.slice C c.body.length E)/\X.cell? ⟨e,3,none⟩=some (.slice D c.behind.length F)/\X.cell? ⟨e,4,none⟩=some (.slice x c.aS.length y)/\X.cell? ⟨w.heap.size,2,none⟩=some (.int .i64 S.aQ)/\X.cell? ⟨w.heap.size+1,0,none⟩=some (.slice m u o)/\X.cell? ⟨w.heap.size+1,1,none⟩=some (.slice l s n)) X->ak X (.slice D c.behind.length F) c.behind):=fun X H=>Dj z.h H.1;have f0:Hid (∀X,(fun X:World=>Kept (fun k=>k=w.heap.size+1+1) i X/\X.cell? ⟨e,2,none⟩=some (.slice C c.body.length E)/\X.cell? ⟨e,3,none⟩=some (.slice D c.behind.length F)/\X.cell? ⟨e,4,none⟩=some (.slice x c.aS.length y)/\X.cell? ⟨w.heap.size,2,none⟩=some (.int .i64 S.aQ)/\X.cell? ⟨w.heap.size+1,0,none⟩=some (.slice m u o)/\X.cell? ⟨w.heap.size+1,1,none⟩=some (.slice l s n)) X->ak X (.slice x c.aS.length y) c.aS):=fun X H=>Dj z.t H.1;have e7:Hid (∀X,(fun X:World=>Kept (fun k=>k=w.heap.size+1+1) i X/\X.cell? ⟨e,2,none⟩=some (.slice C c.body.length E)/\X.cell? ⟨e,3,none⟩=some (.slice D c.behind.length F)/\X.cell? ⟨e,4,none⟩=some (.slice x c.aS.length y)/\X.cell? ⟨w.heap.size,2,none⟩=some (.int .i64 S.aQ)/\X.cell? ⟨w.heap.size+1,0,none⟩=some (.slice m u o)/\X.cell? ⟨w.heap.size+1,1,none⟩=some (.slice l s n)) X->pq X ⟨m,u,o⟩ ⟨l,s,n⟩ f):=fun X H=>⟨(HC.o.head.below j).kept H.1 (fun k cs hc=>nT k cs _ aF hc),Dj (HC.o.body.below j) H.1⟩
   have f1:Hid (∀X,(fun X:World=>Kept (fun k=>k=w.heap.size+1+1) i X/\X.cell? ⟨e,2,none⟩=some (.slice C c.body.length E)/\X.cell? ⟨e,3,none⟩=some (.slice D c.behind.length F)/\X.cell? ⟨e,4,none⟩=some (.slice x c.aS.length y)/\X.cell? ⟨w.heap.size,2,none⟩=some (.int .i64 S.aQ)/\X.cell? ⟨w.heap.size+1,0,none⟩=some (.slice m u o)/\X.cell? ⟨w.heap.size+1,1,none⟩=some (.slice l s n)) X->Below w.heap.size w X):=fun X H=>j.trans (H.1.below g3 (fun k J e=>by omega));have T:=aO g;clear z b4 b5 g d4 hK nT Dj l0 l1 l2 l3 l4 lf x2 y0 y1 j
   go_region_held2 (fun X:World=>Kept (fun k=>k=w.heap.size+1+1) i X/\X.cell? ⟨e,2,none⟩=some (.slice C c.body.length E)/\X.cell? ⟨e,3,none⟩=some (.slice D c.behind.length F)/\X.cell? ⟨e,4,none⟩=some (.slice x c.aS.length y)/\X.cell? ⟨w.heap.size,2,none⟩=some (.int .i64 S.aQ)/\X.cell? ⟨w.heap.size+1,0,none⟩=some (.slice m u o)/\X.cell? ⟨w.heap.size+1,1,none⟩=some (.slice l s n)) (first|assumption|exact f3.o _ _ _ _ (by assumption)) (first
    |(refine RX rfl 84 (.tmp 36) (.tmp 38) _ rfl (.slice C c.body.length E) (.slice D c.behind.length F) rfl rfl (fun _=>pP _ _) (P5 _ _ _ c.body c.behind (e8.o _ (by assumption)) (e9.o _ (by assumption)) (by have:=d2.o.1;omega) (by have:=d2.o.2.1;omega)) ?_;rintro r w3 ⟨a8,n8,c8,rfl,hJ,b6⟩;refine⟨_,rfl,?_⟩;have i0:=c9.o _ _ (by assumption) b6;have L:w3.heap[w.heap.size+1+1]?=some (.cells #[.slice none 0 0,.slice none 0 0,.int .i64 0] 124 (0,0)):=(by first|exact(b6.block _ (AD A)).trans A|exact(b6.block _ (AD T.o)).trans T.o);have⟨g4,g6,h3⟩:=cJ L;have i4:=AE L;have i6:=AD L;simp at g4 g6 h3)
    |(refine pL rfl 172 (.tmp 44) _ rfl (.agg #[.slice m u o,.slice l s n]) rfl (fun _=>zK _ _) (uF _ ⟨m,u,o⟩ ⟨l,s,n⟩ f (e7.o _ (by assumption)) HK.o) ?_;rintro r w4 ⟨rfl,V⟩;refine⟨_,rfl,?_⟩;have d8:=c9.o _ _ (by assumption) V;have A:w4.heap[w.heap.size+1+1]?=some (.cells #[.slice none 0 0,.slice none 0 0,.int .i64 0] 124 (0,0)):=(by first|exact(V.block _ (AD L)).trans L|exact(V.block _ (AD T.o)).trans T.o);have⟨g5,g9,h4⟩:=cJ A;have i5:=AE A;have i7:=AD A;simp at g5 g9 h4;try(have f6:=hJ.below V)))
   go_wp2_with fail;have f9:IntKind.i64.wrap (S.aQ+C4 f)=S.aQ+C4 f:=aCv aD aD;rw[f9];refine bodyPost_ret (v:= .tuple #[.agg #[.slice a8 n8 c8,.slice x c.aS.length y,.int .i64 (S.aQ+C4 f)],.int .i64 0]) (by simp[results,results149,go_sem, *]) rfl ?_;refine⟨a8,n8,c8,x,_,y,_,by rw[HW.o],?_,?_⟩
   ·rw[HW.o];exact⟨ak.Ii f6 A aF aF,ak.Ii (f0.o _ d8) A aF aF,rfl⟩
   ·exact(((f1.o _ d8).setCell (p:=⟨_,0,none⟩) aJ _).setCell (p:=⟨_,1,none⟩) aJ _).setCell (p:=⟨_,2,none⟩) aJ _
  ·have h8: ((AL (BH S f h)).1!=0)=true:=bne_iff_ne.2 h0;have HW:Hid (BD S f h=((AL (BH S f h)).1,⟨[],[],0⟩)):=by unfold Hid BD;rw[bC h0]
   clear h0;go_wp2_with (go_at_call 171;refine(NR _ e _ HA.o HG.o).mono ?_;rintro r i ⟨rfl,B,d3⟩;have g:=(B.block _ (AD U.o) Q).trans U.o;have⟨r0,r1,r2⟩:=cJ g;have rf:=AE g;have rl:=AD g;simp at r0 r1 r2);refine bodyPost_ret (v:= .tuple #[.agg #[.slice none 0 0,.slice none 0 0,.int .i64 0],.int .i64 (AL (BH S f h)).1]) (by simp[results,results149,go_sem, *]) rfl ?_;refine⟨none,0,0,none,0,0,0,by rw[HW.o],by rw[HW.o];exact⟨ak.nil _,ak.nil _,rfl⟩,?_⟩;exact(((Ir.trans (B.below Ir.size (fun k J e=>by omega))).setCell (p:=⟨_,0,none⟩) aJ _).setCell (p:=⟨_,1,none⟩) aJ _).setCell (p:=⟨_,2,none⟩) aJ _
end Go.Proofs.Q
