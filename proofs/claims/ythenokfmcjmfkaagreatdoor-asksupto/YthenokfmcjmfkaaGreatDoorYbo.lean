import Derived.Test.YthenokfmcjmfkaaGreatDoorYbn
import Derived.Test.YthenokfmcjmfkaaGreatDoorRows
import Derived.ProofKit
import Derived.OpenShut
import Derived.Deep.Slices
import Derived.Deep.DeepHandedRow
import Derived.Deep.DeepWitnessRowRef
import Derived.Lib.LaidTab
import Derived.ReadAgain
import Derived.LaidMore
import Derived.LaidHandle
import Derived.Stop.LaidErr
import Derived.Test.YthenokfmcjmfkaaGreatDoorCards
import Derived.Test.YthenokfmcjmfkaaGreatDoorTie
set_option maxRecDepth 100000
set_option maxHeartbeats 2000000
namespace Go.Proofs.YthenokfmcjmfkaaGreatDoor
open Go.Proofs.Q
open Rf _root_.Go.Proofs.Tryz
open Go.RowKit
def WJ(base:Nat)(b:Nat)(K:Int)(L:List Ss)(w:World)(r:Ending)(w':World):Prop:=
 r= .returned (.bool true)/\Below base w w'/\∃a,IS base w' b (K+33000) a/\a.length<=L.length+1
theorem pH{base:Nat}{w:World}{b:Nat}{K a:Int}{L:List Ss}(h:IS base w b K L)(c:K<=a):IS base w b a L:=QZ h (Kept.refl _ w) c
theorem aB2(base b:Nat)(K:Int)(L:List Ss)(k g l m:Int)(s:ByteArray)(w:World)(c:IS base w b K L)(j: (L.length+1)*8<=140737488355328):Calls prog 7 #[.pointer (some ⟨b,0,none⟩),.agg #[.int .i64 1,.int .i64 k,.int .i64 g,.int .i64 l,.int .i64 m,.string s]] w fun r w'=>WJ base b K L w r w':=by
 have h:=aO c;have f:=oH c;clear c;go_enter func7,ntmps7;go_wp2_with (go_at_call 6;refine(kI base b K L g _ (QZ h.o ((Kept.refl (fun _=>False) w).alloc _) (Int.le_refl _)) j).mono ?_;rintro r n ⟨rfl,e,i,d,a⟩);go_ret;exact⟨rfl,((bZ base w).alloc f _).trans e,i,pH d aD,a⟩
def tW(a b c d e:Int)(s:ByteArray):Prop:=∀w:World,Calls prog 11 #[.agg #[.int .i64 a,.int .i64 b,.int .i64 c,.int .i64 d,.int .i64 e,.string s]] w fun r w'=>r= .returned (.bool true)/\Below w.heap.size w w'
def aBO(K:Int)(a b c d e:Int)(s:ByteArray):Prop:=∀(B:Nat) (G:Nat->Prop) (z:Nat) (S:Se) (D:SD) (w:World),SH B K G z S D w->Calls prog 15 #[.pointer (some ⟨z,0,none⟩),.agg #[.int .i64 a,.int .i64 b,.int .i64 c,.int .i64 d,.int .i64 e,.string s]] w fun r w'=>LA B K G z w r w'
theorem UY(f:Int)(d:f=2\/f=3\/f=4\/f=5)(base b:Nat)(K:Int)(L:List Ss)(l x y z:Int)(s:ByteArray)(w:World)(H:IS base w b K L)(hL: (L.length+1)*8<=140737488355328)(h1: -9223372036854775808<=l)(h2:l<=9223372036854775807)(hT:vk base w)(Q:0<=K)(R:K+33000<=8000000000000) (Y:tW f l x y z s) (Z:aBO K f l x y z s):Calls prog 7 #[.pointer (some ⟨b,0,none⟩),.agg #[.int .i64 f,.int .i64 l,.int .i64 x,.int .i64 y,.int .i64 z,.string s]] w fun r w'=>WJ base b K L w r w':=by
 obtain⟨v,O,i,hv⟩:=H.ex;obtain⟨a,c,he⟩:=CJ i;rw[aZ] at he;subst he;have m:=oH H;have a5:=AD O;have k0:w.cell? ⟨b,0,none⟩=some (.slice a L.length c):=AA O 0;have I:=aO H;have HN:=aO Y;have HP:=aO Z;have HT:=aO hT;have X:=aO i;have d1: (f==1)=false:=by rcases d with rfl|rfl|rfl|rfl<;>rfl
 have d7: (f==7)=false:=by rcases d with rfl|rfl|rfl|rfl<;>rfl
 have d8: (f==8)=false:=by rcases d with rfl|rfl|rfl|rfl<;>rfl
 have d9: (f==9)=false:=by rcases d with rfl|rfl|rfl|rfl<;>rfl
 have a1: (f==10)=false:=by rcases d with rfl|rfl|rfl|rfl<;>rfl
 have a2: (f==11)=false:=by rcases d with rfl|rfl|rfl|rfl<;>rfl
 have a3: (f==12)=false:=by rcases d with rfl|rfl|rfl|rfl<;>rfl
 have a7: (L.length:Int)<=17592186044415:=aD;clear H Y Z hT O i hv d;go_enter func7,ntmps7;go_wp2_with fail;go_quiet ((go_at_call 10;exact Calls.quiet_of_same (aAX l ((L.length:Int)+1) _ h1 h2 aD aD)));have a9:=aAd (c:=l) (n:=(L.length:Int)+1) aD;generalize O4 l ((L.length:Int)+1)=k at*;have C:Kept (fun _=>False) w ((w.alloc (.cells #[.int .i64 f,.int .i64 l,.int .i64 x,.int .i64 y,.int .i64 z,.string s] 33)).drewN nq):=((Kept.refl (fun _=>False) w).alloc _).drewN _;have B:Below w.heap.size w ((w.alloc (.cells #[.int .i64 f,.int .i64 l,.int .i64 x,.int .i64 y,.int .i64 z,.string s] 33)).drewN nq):=((bZ _ w).alloc (aX _) _).drewN _;have h:=aO C;have A:=aO B;clear C B;by_cases D:k=L.length
 ·subst D;go_wp2_with (go_at_call 11;refine(HN.o _).mono ?_;rintro r w1 ⟨rfl,U⟩);go_ret;have o:Kept (fun _=>False) w w1:=h.o.trans (Kept.of_below U (fun _=>False)) (fun _ _ e=>e);exact⟨rfl,o.below m (fun _ _ e=>e),L,QZ I.o o aD,aD⟩
 ·have t:k<L.length:=aD;have a8: ((k:Int)==(L.length:Int))=false:=aY.2 aD;have a0: (k:Int)<L.length:=aD
  obtain⟨g,rfl⟩:∃g,a=some ⟨g,0,none⟩:=by
   rcases X.o.shape with⟨_,E⟩|⟨gv,cv,e,_⟩
   ·have h7:=congrArg List.length E;rw[aZ,dA] at h7;omega
   ·injection e with e1 _ _;exact⟨gv,e1⟩
  have a6:g<w.heap.size:=(X.o.lt g rfl).2;have q:=X.o.cells lT k L[k].z (by simp[t]) 0 _ rfl;simp only[Nat.mul_one,dG] at q;have p:L[k]∈L:=bG t;have hi:Hid (L[k]?=some L[k]):=by unfold Hid;simp[t]
  generalize L[k]=u at*;obtain⟨G,P,F⟩:=I.o.ss u p;have N:=aO (UW G h.o (fun _ e=>e.elim) (fun _ _ e=>e));have M:=aO F;have J:Hid (∀j,u.G j->base<=j):=fun j e=>(P j e).1;have HG:Hid (∀j,u.G j->j<((w.alloc (.cells #[.int .i64 f,.int .i64 l,.int .i64 x,.int .i64 y,.int .i64 z,.string s] 33)).drewN nq).heap.size):=fun j e=>bH (P j e).2.1 h.o.size;clear G P p D F;go_wp2_with (go_at_call 15;refine(HP.o base u.G u.z u.S u.D _ ⟨N.o,M.o,J.o,HG.o,bN m A.o.size,HT.o.on (A.o.mono m),Q,R⟩).mono ?_;rintro r w1 ⟨rfl,o,S1,D1,W,V⟩);go_ret;obtain⟨L',S,a4,T⟩:=aB0 (QZ I.o h.o (Int.le_refl _)) hi.o o W V aD;exact⟨rfl,(h.o.below m (fun _ _ e=>e)).trans T,L',S,aD⟩
def Q4:Nat->Int
 |0=>1
 |1=>2
 |2=>3
 |3=>4
 |_=>5
def inP(a:Int):Nat->Bool
 |0=>false
 |k+1=>inP a k||a==Q4 k
theorem aDH{a:Int}(h:inP a 5=true):a=1\/a=2\/a=3\/a=4\/a=5:=by
 simp only[inP,Q4,Bool.false_or,Bool.or_eq_true,beq_iff_eq] at h;omega
theorem wG(base b:Nat)(K:Int)(L:List Ss)(x:MG)(w:World)(p:inP x.kd 5=true)(hx:OF x)(k:IS base w b K L)(j: (L.length+1)*8<=140737488355328)(n:vk base w)(g:0<=K)(i:K+33000<=8000000000000):Calls prog 7 #[.pointer (some ⟨b,0,none⟩),.agg #[.int .i64 x.kd,.int .i64 x.a,.int .i64 x.b,.int .i64 x.c,.int .i64 x.d,.string x.s]] w fun r w'=>WJ base b K L w r w':=by
 obtain⟨q,a,c,d,f,s⟩:=x;obtain⟨⟨l,m⟩,o⟩:=hx;rcases aDH p with e|e|e|e|e
 ·simp only at e;subst e;exact aB2 base b K L a c d f s w k j
 ·simp only at e;subst e;exact UY 2 (.inl rfl) base b K L a c d f s w k j l m n g i (fun w=>rU a c d f s w) (fun B G z S D w h=>aCf B K G z S D a c d f s w h o)
 ·simp only at e;subst e;exact UY 3 (.inr (.inl rfl)) base b K L a c d f s w k j l m n g i (fun w=>xS a c d f s w) (fun B G z S D w h=>aBK B K G z S D a c d f s w h o)
 ·simp only at e;subst e;exact UY 4 (.inr (.inr (.inl rfl))) base b K L a c d f s w k j l m n g i (fun w=>tY a c d f s w) (fun B G z S D w h=>aCL B K G z S D a c d f s w h)
 ·simp only at e;subst e;exact UY 5 (.inr (.inr (.inr rfl))) base b K L a c d f s w k j l m n g i (fun w=>s7 a c d f s w) (fun B G z S D w h=>aCE B K G z S D a c d f s w h)
theorem aAA(w:World)(v:Value)(l:List MG)(N:Nat)(R:ZL w v l)(K:∀x∈l,OF x)(hn:l.length<=1048576)(W:N<w.heap.size)(Z:∀k,k<5->w.cell? ⟨N,k,none⟩=some (.int .i64 (Q4 k)))(hT:Tab w):Calls prog 5 #[v,.slice (some ⟨N,0,none⟩) 5 5] w fun r w'=>r= .returned (.bool true)/\Below w.heap.size w w':=by
 have a4: (l.length:Int)<=1048576:=aD
 obtain⟨va,vc,hv⟩:∃a c,v= .slice a l.length c:=by
  rcases R with⟨rfl,a,c,e⟩|⟨y,z,c,e,_⟩
  ·exact⟨a,c,e⟩
  ·exact⟨_,c,e⟩
 subst hv;have HS:=aO R;have P:=aO K;have HK:=aO Z;have HT:Hid (vk w.heap.size w):=Lib.tabBelow_of_tabIs hT;clear R K Z hT;have G:WlB (w.alloc (.cells #[.slice none 0 0,.slice none 0 0] 30)) w.heap.size (.slice none 0 0):=AJ _ _
 have H:IS w.heap.size (w.alloc (.cells #[.slice none 0 0,.slice none 0 0] 30)) w.heap.size 0 []:=
  ⟨⟨_,G,aj.nil _ _ _ _ _,fun k e=>by simp[Value.ownBlock] at e⟩,aX _,fun s hs=>by simp at hs,fun i j s t hi=>by simp at hi⟩
 have O:=aO H;clear H G;go_enter func5,ntmps5;go_wp2_with (go_at_call 6;refine(kI w.heap.size w.heap.size 0 [] 1 _ O.o aF).mono ?_;rintro r w1 ⟨rfl,J,L1,I,Q⟩;have E:=aO I;clear I;have A:Below w.heap.size w w1:=((bZ _ w).alloc (aX _) _).trans J);go_loopg [7,8,9,10] (l.length+1) (fun m iv _ _ _ wr=>∃i:Nat,i<=l.length/\m=l.length+1-i/\iv= .int .i64 i/\∃L,Hid (IS w.heap.size wr w.heap.size (33000*i) L)/\L.length<=i+1/\Below w.heap.size w wr)
 case atStart=>exact⟨0,aD,rfl,rfl,L1,by simpa using E,by simpa using Q,A⟩
 case round=>
  obtain⟨i,hi,rfl,rfl,L,X,a3,D⟩:=hrel;clear E A J;by_cases q:i<l.length
  ·obtain⟨y,z,c,e,M,d⟩:=HS.o.resolve_left (fun e=>by rw[e.1] at q;simp at q);injection e with e1 _ e3;subst e1;subst e3;have B:l[i]∈l:=bG q;have Y:=P.o _ B;have U:=d i l[i] (by simp[q]);clear B d;generalize l[i]=x at*;have F:=aO Y;clear Y;have a1: (i:Int)<l.length:=aD;obtain⟨wo,rfl⟩:∃wo:World,wo=wr:=⟨_,rfl⟩
   go_wp2_with fail;go_loopg [8,9] 6 (fun m bv kv wi=>∃k:Nat,k<=5/\m=6-k/\kv= .int .i64 k/\bv= .bool (inP x.kd k)/\Hid (IS w.heap.size wi w.heap.size (33000*i) L)/\Below w.heap.size w wi)
   case atStart=>exact⟨0,aD,rfl,rfl,rfl,X,D⟩
   case round=>
    obtain⟨k,hk,rfl,rfl,rfl,C,g⟩:=hrel;clear X D;have b:∀j u,(PG x)[j]?=some u->wr.cell? ⟨y,z+i*6+j,none⟩=some u:=fun j u hj=>(g.cell (p:=⟨y,z+i*6+j,none⟩) M).trans (U j u hj);have c0:wr.cell? ⟨y,z+i*6,none⟩=some (.int .i64 x.kd):=b 0 _ rfl;by_cases V:k<5
    ·have cK:wr.cell? ⟨N,k,none⟩=some (.int .i64 (Q4 k)):=(g.cell (p:=⟨N,k,none⟩) W).trans (HK.o k V);have a0: (k:Int)<5:=aD;have f:Hid (inP x.kd (k+1)=(inP x.kd k||x.kd==Q4 k)):=rfl;have h:Hid (∀n,IS w.heap.size (wr.drewN n) w.heap.size (33000*i) L/\Below w.heap.size w (wr.drewN n)):=fun n=>⟨QZ C.o ((Kept.refl (fun _=>False) wr).drewN n) (Int.le_refl _),g.drewN n⟩
     clear b
     cases o:inP x.kd k
     ·rw[o] at f;go_wp2_with fail;go_quiet (fail);go_wp2_with fail;go_roundg (5-k)
      case measure=>omega
      case rel=>exact⟨k+1,aD,aD,by go_num,by rw[f.o];rfl,(h.o _).1,(h.o _).2⟩
     ·rw[o] at f;go_wp2_with fail;go_quiet (fail);go_wp2_with fail;go_roundg (5-k)
      case measure=>omega
      case rel=>exact⟨k+1,aD,aD,by go_num,by rw[f.o];rfl,(h.o _).1,(h.o _).2⟩
    ·obtain rfl:k=5:=aD;have c1:wr.cell? ⟨y,z+i*6+1,none⟩=some (.int .i64 x.a):=b 1 _ rfl;have c2:wr.cell? ⟨y,z+i*6+2,none⟩=some (.int .i64 x.b):=b 2 _ rfl;have c3:wr.cell? ⟨y,z+i*6+3,none⟩=some (.int .i64 x.c):=b 3 _ rfl;have c4:wr.cell? ⟨y,z+i*6+4,none⟩=some (.int .i64 x.d):=b 4 _ rfl;have c5:wr.cell? ⟨y,z+i*6+5,none⟩=some (.string x.s):=b 5 _ rfl;clear b
     cases o:inP x.kd 5
     ·go_wp2_with fail;go_roundg (l.length -i)
      case measure=>omega
      case rel=>exact⟨i+1,aD,aD,by go_num,L,pH C.o aD,aD,g⟩
     ·have f:=aO o;go_wp2_with (go_at_call 7;refine(wG w.heap.size w.heap.size (33000*i) L x _ f.o F.o C.o aD (HT.o.on g) aD aD).mono ?_;rintro r w2 ⟨rfl,T,L2,S,a2⟩);go_roundg (l.length -i)
      case measure=>omega
      case rel=>exact⟨i+1,aD,aD,by go_num,L2,pH S aD,aD,g.trans T⟩
  ·obtain rfl:i=l.length:=aD;go_wp2_with fail;go_ret;exact⟨rfl,D⟩
theorem aAo(w:World)(v:Value)(l:List MG)(m:ZL w v l)(d:∀x∈l,OF x)(E:l.length<=1048576)(n:Tab w):Calls prog 3 #[v] w fun r w'=>r= .returned (.bool true)/\Below w.heap.size w w':=by
 have a:Below w.heap.size w (w.alloc (.cells #[.int .i64 1,.int .i64 2,.int .i64 3,.int .i64 4,.int .i64 5] 3)):=(bZ _ w).alloc (aX _) _
 have b:ZL (w.alloc (.cells #[.int .i64 1,.int .i64 2,.int .i64 3,.int .i64 4,.int .i64 5] 3)) v l:=by
  rcases m with h|⟨o,q,c,z,A,B⟩
  ·exact .inl h
  ·exact .inr ⟨o,q,c,z,aJ,fun i x C j u F=>(a.cell (p:=⟨o,q+i*6+j,none⟩) A).trans (B i x C j u F)⟩
 have g:∀k,k<5->(w.alloc (.cells #[.int .i64 1,.int .i64 2,.int .i64 3,.int .i64 4,.int .i64 5] 3)).cell? ⟨w.heap.size,k,none⟩=some (.int .i64 (Q4 k)):=by
  intro k D;rw[AA (AJ w _) k]
  match k,D with
  |0,_=>rfl
  |1,_=>rfl
  |2,_=>rfl
  |3,_=>rfl
  |4,_=>rfl
 have t:=aO b;have s:=aO g;have e:=aO d;have y:=aO (Tab.below n a);clear m b g d n;go_enter func3,ntmps3;go_wp2_with (go_at_call 5;refine(aAA _ v l w.heap.size t.o e.o E aE s.o y.o).mono ?_;rintro r G ⟨rfl,f⟩);go_ret;exact⟨rfl,a.trans (f.mono aE)⟩
open Go.ChangeShapes Go.WideShapes Go.ChangeAt Go.RowKit Go.Deep
theorem Tryz.kids:Kids prog (· <prog.types.size):=kids_rows aK aK
theorem Tryz.full:∀t e,t<prog.types.size->prog.underlying t=some (.slice e)->0<prog.cellsOf e:=slices_full_of prog aK
theorem Tryz.Ed:prog.cellsOf 33=6:=aK
theorem Tryz.Aq:prog.cellsOf 3=1:=aK
theorem Tryz.Ju:prog.cellsOf 9=1:=aK
theorem Tryz.Hl:∃a b c d e f:Field,prog.underlying 33=some (.struct #[a,b,c,d,e,f])/\ (a.type=3/\a.offset=0)/\(b.type=3/\b.offset=1)/\(c.type=3/\c.offset=2)/\(d.type=3/\d.offset=3)/\(e.type=3/\e.offset=4)/\(f.type=9/\f.offset=5):=
 ⟨_,_,_,_,_,_,underlying33,⟨rfl,rfl⟩,⟨rfl,rfl⟩,⟨rfl,rfl⟩,⟨rfl,rfl⟩,⟨rfl,rfl⟩,⟨rfl,rfl⟩⟩
theorem aDr{n:Int}(h: (Lit.int .i64 n).wf=true): -9223372036854775808<=n/\n<=9223372036854775807:=bounds_i64 h
theorem aCA{w:World}{p:Addr}{u:Value}(h:w.cell? p=some u):p.block<w.heap.size:=by
 unfold World.cell? at h
 cases a:w.heap[p.block]? with
 |none=>simp[a] at h
 |some o=>exact(Array.getElem?_eq_some_iff.1 a).1
theorem aBi{H:Type}(d:DataW H):1<=Rows.uptoBulk d:=by
 cases d with
 |lit l=>cases l<;>simp[Rows.uptoBulk]
 |nil=>simp[Rows.uptoBulk]
 |ptr d=>simp[Rows.uptoBulk]
 |slice elems spare=>simp[Rows.uptoBulk]
 |agg parts=>simp[Rows.uptoBulk]
 |iface t d=>simp[Rows.uptoBulk]
 |map entries=>simp[Rows.uptoBulk]
 |held h=>simp[Rows.uptoBulk]
theorem lA{H:Type}(l:List (DataW H)):l.length<=Rows.uptoBulkAll l:=by
 induction l with
 |nil=>simp[Rows.uptoBulkAll]
 |cons x r a=>have:=aBi x;simp only[Rows.uptoBulkAll,bM];omega
section
variable {H : Type} {enc : TypeId × Value -> H}
theorem sD{W:World}{Q:Nat->Bool}{B:Bool}{n:Nat}{cs:List Value}{y:DataW H×List MemPlace}(h:DataW.trod enc prog W 0 Q B n 33 cs=some y):∃x:MG,cs=PG x/\OF x:=by
 obtain⟨t,u,v,w,z,A,D,⟨R,K⟩,⟨t1,L⟩,⟨S,M⟩,⟨T,N⟩,⟨U,O⟩,⟨V,P⟩⟩:=Tryz.Hl;obtain⟨X,k,_,_,a,j,b⟩:=DataW.trod_struct D h;rw[Tryz.Ed] at a
 match X,j,cs,a with
 |[y0,y1,y2,y3,y4,y5],_,[v0,v1,v2,v3,v4,v5],_=>
  have c:=b 0 t rfl;have d:=b 1 u rfl;have e:=b 2 v rfl;have f:=b 3 w rfl;have g:=b 4 z rfl;have i:=b 5 A rfl;rw[R,K,Tryz.Aq] at c;rw[t1,L,Tryz.Aq] at d;rw[S,M,Tryz.Aq] at e;rw[T,N,Tryz.Aq] at f;rw[U,O,Tryz.Aq] at g;rw[V,P,Tryz.Ju] at i;simp only[List.drop_zero,List.drop_succ_cons,List.take_succ_cons,List.take_zero,List.getElem?_cons_zero,List.getElem?_cons_succ] at c d e f g i;obtain⟨E,e0,_,_⟩:=DataW.trod_int underlying3 c;obtain⟨F,m,_,l⟩:=DataW.trod_int underlying3 d;obtain⟨G,o,_,_⟩:=DataW.trod_int underlying3 e;obtain⟨I,p,_,_⟩:=DataW.trod_int underlying3 f;obtain⟨J,q,_,_⟩:=DataW.trod_int underlying3 g;obtain⟨s,r,_,C⟩:=DataW.trod_string underlying9 i;simp only[List.cons.injEq,and_true] at e0 m o p q r;subst e0 m o p q r;exact⟨⟨E,F,G,I,J,s⟩,rfl,aDr l,C⟩
theorem lY{W:World}{v:Value}{d:DataW H}{p:List MemPlace}(V:DataW.Trod enc prog W 0 (fun _=>true) true 22 v d p)(J:∃a e s,v= .slice a e s) (K:∀b c,d= .slice b c->b.length+c.length<=1048576):∃l,ZL W v l/\(∀x∈l,OF x)/\l.length<=1048576:=by
 obtain⟨Q,C,t,rfl⟩:=J;obtain⟨n,Y⟩:=V;have I:DataW.trod enc prog W 0 (fun _=>true) true n 22 [.slice Q C t]=some (d,p):=Y;rcases open_slice underlying22 I with⟨q,hx⟩|⟨a,e,s,m,k,D,Pl,q,_,hl,hm,A,hx,f⟩
 ·simp only[List.cons.injEq,and_true] at q;exact⟨[],.inl ⟨rfl,none,0,q⟩,aE,aF⟩
 ·simp only[List.cons.injEq,and_true] at q;simp only[if_true] at A;subst A;simp only[cY] at hx;have B:=K _ _ hx.1;simp only[List.length_map,List.length_range] at B;rw[Tryz.Ed] at f
  have w:∀i,i<m->∃x:MG,OF x/\∀j u,(PG x)[j]?=some u->W.cell? (a.add (i*6+j))=some u:=fun i r=>by
   obtain⟨cs,S,T⟩:=f i r;obtain⟨x,rfl,P⟩:=sD T;obtain⟨_,M,g⟩:=World.cells?_some S;refine⟨x,P,fun j u L=>?_⟩;have G:j<6:=(bS.1 L).1;have:=g j G;rw[add_add,L] at this;exact this
  have:Inhabited MG:=⟨⟨0,0,0,0,0,⟨#[]⟩⟩⟩
  obtain⟨X,F⟩:=choose_lt w;by_cases R:e=0
  ·subst R;exact⟨[],.inl ⟨rfl,some a,m,q⟩,aE,aF⟩
  ·obtain⟨N,O,E⟩:=a;have y:=(F 0 aD).2 0 _ rfl;have o:E=none:=by simpa[Addr.add] using World.cell?_spot y
   subst o;refine⟨(List.range e).map X,.inr ⟨N,O,m,?_,?_,fun i x r j u Z=>?_⟩,fun x hx=>?_,?_⟩
   ·rw[q,aZ,List.length_range]
   ·have U:W.cell? ⟨N,O,none⟩=some (.int .i64 (X 0).kd):=by simpa[Addr.add] using y
    exact aCA U
   ·rw[List.getElem?_map] at r;obtain⟨i',h,rfl⟩:=Option.map_eq_some_iff.1 r;have z:=(bS.1 h).1;rw[List.length_range] at z;rw[List.getElem?_range z] at h;obtain rfl:=bF h;have:=(F i aD).2 j u Z;rw[Addr.add_lit] at this;rw[Nat.add_assoc];exact this
   ·obtain⟨i,r,rfl⟩:=bQ.1 hx;exact(F i (by have:=List.mem_range.1 r;omega)).1
   ·rw[aZ,List.length_range];omega
end
def ZI:Prop:=∀(W:World) (v:Value) (l:List MG),ZL W v l->(∀x∈l,OF x)->l.length<=1048576->Lib.TabIs prog W "internal/strconv.uint64pow10" .u64 Lib.pow10Tab->Calls prog 3 #[v] W fun e a=>e= .returned (.bool true)/\Below W.heap.size W a
theorem Tryz.own:ownKnob prog.godebug=none:=aK
theorem Tryz.gTab:prog.globalNamed "internal/strconv.uint64pow10" =some 0:=aK
theorem Tryz.Jr: (prog.globals[0]?).map (·.type)=some 265:=aK
theorem Tryz.Jt:prog.cellsOf 265=20:=aK
theorem Tryz.Js:prog.cellsOf 248=1:=aK
theorem laidMetH_plain{W:World}(h:laidMetH prog Rows.asksUptoRow.laid W):laidMet prog Rows.asksUptoRow.laid W:=by
 rw[MakeChecks.laidMetH_plain _ _ _ aK] at h;exact h
theorem aDD{W:World}(h:laidMetH prog Rows.asksUptoRow.laid W):Lib.TabIs prog W "internal/strconv.uint64pow10" .u64 Lib.pow10Tab:=
 Lib.tabIs_of_head Tryz.gTab Tryz.Jr underlying265 underlying248 Tryz.Js Tryz.Jt (laidMet.tail (laidMet.tail (laidMetH_plain h)))
section
variable {H : Type} {enc : TypeId × Value -> H}
theorem zH(S:ZI)(W:World)(base:Nat)(args:Array Value)(s gs:List (DataW H))(d:List MemPlace) (f:∀(j:Nat) t v,Tryz.f3.params[j]?=some t->args[j]?=some v->Value.okWide prog W .any base t v) (G:DataW.Whole enc prog Tryz.f3.params.toList Rows.asksSpec.vars false W args.toList s gs d) (B:Rows.uptoSmall H (s++gs)=true) (M:laidMetH prog Rows.asksUptoRow.laid W):Calls prog 3 args W fun e r=>∃v,e= .returned v/\Rows.asksSpec.post enc prog Tryz.f3 false true false false W args v r:=by
 have k:=G;obtain⟨p,q,i,O,rfl,Q,R⟩:=G;have w:DataW.TrodAll enc prog W 0 (fun _=>true) true Tryz.f3.params.toList args.toList s p:=i;have L:=w;rw[Tryz.params3] at w f;obtain⟨o,U,D,I,C,Y,y,rfl,rfl,E,T⟩:=trodAll_cons w;obtain⟨rfl,rfl,rfl⟩:=trodAll_nil T;obtain rfl:args=#[o]:=by cases args;simp_all
 obtain⟨rfl,rfl⟩:=trodVars_none O;clear i
 obtain⟨l,N,A,z⟩:=lY E (okWide_slice underlying22 (f 0 22 o rfl rfl)) (fun a c e=>by
  subst e;have J:Rows.uptoBulkAll ([DataW.slice a c]++[])<=1048576:=of_decide_eq_true B;simp only[List.append_nil,Rows.uptoBulkAll,Rows.uptoBulk] at J;have V:=lA a;have X:=lA c;omega)
 refine(S W o l N A z (aDD M)).mono fun e r ⟨P,F⟩=>?_;subst P;have m:∀x∈C++[]++[],x.block<W.heap.size:=fun x hx=>k.lt x hx;refine⟨_,rfl,[D],[],_,[],C,[],k,?_,?_,?_,F.frame _,fun h=>by cases h⟩
 ·exact trodAll_cons_mk (shut_bool underlying4 true) trodAll_mk0
 ·have K:DataW.Trod enc prog r 0 (fun _=>true) true 22 o D C:=by
   obtain⟨n,z⟩:=E;exact⟨n,DataW.trod_carry n _ _ _ z (fun x hx=>F.same (m x (by simp[hx])))⟩
  have u:=DataW.Trod.respare (spare':=fun b=>decide (b<W.heap.size)) Tryz.kids Tryz.full (by show(_:Nat)<_;exact of_decide_eq_true aK) K (fun x hx=>by simpa using m x (by simp[hx]));have g:=trodAll_cons_mk u trodAll_mk0;rw[List.append_nil] at g;exact g
 ·rfl
end
theorem zQ(a:Os):laidMet prog Rows.asksUptoRow.laid ((World.doorLaid prog 400 a).forCall (fun _ _=>0) ⟨#[],#[.slice none 0 0],[]⟩).memory:=
 laidMet_of_run' 8 aK aK
theorem aDu(b:Os){H:Type}(enc:TypeId×Value->H):∃a,DataW.whole enc prog ((World.doorLaid prog 400 b).forCall (fun _ _=>0) ⟨#[],#[.slice none 0 0],[]⟩).memory Tryz.f3.params.toList Rows.asksSpec.vars false #[Value.slice none 0 0].toList 8=some ([.nil],[],a):=
 ⟨[],aK⟩
theorem aDd(hw:ZI)(os:Os)(started:os.Started)(H:Type)(enc:TypeId×Value->H)(F:Stop.Interp):ReturnsInHanded {} Tryz.checked os 3 .any ((Rows.OpenSpec.upto Rows.asksSpec).preRow enc prog Tryz.f3 Rows.asksUptoRow.domain false Rows.asksUptoRow.laid) (((Rows.OpenSpec.upto Rows.asksSpec).at F).post enc prog Tryz.f3 false true false false):=by
 obtain⟨places,hx⟩:=aDu os enc
 refine returnsInHanded_of_row (C:=Tryz.checked) (s:=Rows.OpenSpec.upto Rows.asksSpec) Tryz.own started aK func3
  (witness_row_atRef (enc := enc) (C := Tryz.checked) false (World.doorLaid prog 400 os) #[.slice none 0 0] rfl aK aK aK
   (OpenSpec.preRow_of_cond 8 hx aK (fun k hk=>by cases hk;kernel_rfl) aK (zQ os))) ?_
 intro W base args ds gs before hval hW _ hc _ hL _ _;exact zH hw W base args ds gs before hval hW (hc _ rfl) hL
theorem aDR(b:ZI):Rows.AsksUptoSaid:=
 OpenClaim.holds_of_cond 3 Tryz.f3 rfl rfl rfl rfl rfl rfl rfl ⟨rfl,rfl,rfl,rfl,rfl⟩ rfl rfl rfl rfl rfl aK func3 aK
  (of_decide_eq_true aK) (by unfold Func.isWrapper;first|(rw[bD (by decide+kernel)];kernel_rfl)|(rw[bC (by decide+kernel)];exact⟨rfl,rfl⟩))
  (fun c a H enc _ F=>by rw[OpenClaim.pre_eq_preRow];exact aDd b c a H enc F)
theorem aDG(f:FuncId)(a:Func)(d:Tryz.pinned.checked.prog.funcNamed "prompt/promptlaw.Asks" =some f)(b:Tryz.pinned.checked.prog.funcs[f]?=some a):true=Tryz.pinned.checked.prog.looks []/\∀(j:Nat) t,a.params[j]?=some t->Tryz.pinned.checked.prog.wantsStandIn t=false:=by
 obtain rfl:f=3:=bF ((show prog.funcNamed "prompt/promptlaw.Asks" =some 3 by kernel_rfl).symm.trans d)|>.symm;obtain rfl:a=Tryz.f3:=(bF (func3.symm.trans b)).symm;refine⟨aK,fun j t c=>?_⟩;rw[Tryz.params3] at c;obtain rfl:t=22:=by simpa using Array.mem_of_getElem? c
 exact(show prog.wantsStandIn 22=false by kernel_rfl)
theorem aCt(a:ZI):Rows.AsksUptoCardSaid:=
 Claim7.holds_tied_plain_at .later [] _ _ _ _ (aDR a) (fun _ h=>by cases h) aK (fun _ h=>by cases h) asksUpto_row_tie rfl ⟨rfl,rfl⟩ aK rfl aDG aK
end Go.Proofs.YthenokfmcjmfkaaGreatDoor
