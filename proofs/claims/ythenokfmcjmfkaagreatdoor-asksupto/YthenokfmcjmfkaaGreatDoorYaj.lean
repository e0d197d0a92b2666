import Derived.Test.YthenokfmcjmfkaaGreatDoorYai
set_option maxRecDepth 100000
set_option maxHeartbeats 1000000
namespace Go
open Go.RowKit
theorem Seen.Ep{α β:Type}{w w':World}{e f:TypeId}{C:α->List Value}{g:β->List Value}{v d:Value}{c:List α}{q:List β}{base size:Nat}(h:Seen w e C v c)(l:aj w base f size g d q)(b:e≠f)(p:w.grownBy w' d.ownBlock):Seen w' e C v c:=
 h.grown p (fun k cs j i=>by
  obtain⟨m,a⟩:=l.typed k i;rw[j] at a;injection a with o;injection o with _ n;exact b n)
end Go
namespace Go.Proofs.Q
open Rf _root_.Go.Proofs.Tryz
open Go.RowKit
structure ak(w:World)(v:Value)(ts:List (List AB)):Prop where
 ex:∃acc:List (SlV×List AB),Seen w 84 B5 v (acc.map (·.1))/\(∀q∈acc,Seen w 129 AH (slv q.1) q.2)/\ts=acc.map (·.2)
theorem ak.below{w w':World}{v:Value}{ts:List (List AB)}(h:ak w v ts)(a:Below w.heap.size w w'):ak w' v ts:=by
 obtain⟨acc,e,d,c⟩:=h.ex;exact⟨acc,e.below a,fun q b=>(d q b).below a,c⟩
theorem ak.slice{w:World}{v:Value}{ts:List (List AB)}(h:ak w v ts):∃a c,v= .slice a ts.length c:=by
 obtain⟨acc,d,f,b⟩:=h.ex;obtain⟨a,c,e⟩:=d.slice;exact⟨a,c,by rw[e,b,aZ,aZ]⟩
structure je(base:Nat)(w:World)(v:Value)(acc:List (SlV×List AB)):Prop where
 row:aj w base 84 1 B5 v (acc.map (·.1))
 each:∀q∈acc,Seen w 129 AH (slv q.1) q.2
theorem je.nil(base:Nat)(w:World):je base w (.slice none 0 0) []:=⟨aj.nil _ _ _ _ _,fun q a=>by cases a⟩
theorem je.below{base:Nat}{w w':World}{v:Value}{acc:List (SlV×List AB)}(h:je base w v acc)(a:Below w.heap.size w w'):je base w' v acc:=⟨h.row.below a,fun q b=>(h.each q b).below a⟩
theorem je.seen{base:Nat}{w:World}{v:Value}{acc:List (SlV×List AB)}(h:je base w v acc):ak w v (acc.map (·.2)):=⟨acc,h.row.seen,h.each,rfl⟩
theorem je.app{base:Nat}{w w':World}{v b:Value}{acc:List (SlV×List AB)}{x:SlV}{ps:List AB}(h:je base w v acc)(hx:Seen w 129 AH (slv x) ps)(c:w.grownBy w' v.ownBlock)(d:aj w' base 84 1 B5 b (acc.map (·.1)++[x])):je base w' b (acc++[(x,ps)]):=by
 refine⟨by rw[bE];exact d,fun q a=>?_⟩;rcases bO.1 a with a|a
 ·exact(h.each q a).Ep h.row aF c
 ·simp at a;subst a;exact hx.Ep h.row aF c
theorem Seen.yx{w:World}{g off n c:Nat}{a:List SlV}(h:Seen w 84 B5 (.slice (some ⟨g,off,none⟩) n c) a)(k:Nat)(x:SlV)(hx:a[k]?=some x):w.cell? ⟨g,off+k,none⟩=some (.slice x.a x.n x.c):=by
 have:=h.cells DZ k x hx 0 _ rfl;rw[Nat.mul_one,dG] at this;exact this
theorem QG(v:Int)(w:World)(vt:Value)(ts:List (List AB))(h:ak w vt ts)(hl:ts.length<=100000)(D:∀t∈ts,t.length<=100000)(L:Option Addr)(U M:Nat)(l:List AB)(h2:Seen w 129 AH (.slice L U M) l)(K:l.length<=100000)(R:1<=l.length):Calls prog 203 #[vt,.int .i64 v,.slice L U M] w fun r w'=>∃W,r= .returned W/\ak w' W (ts.map (AP v l))/\Below w.heap.size w w':=by
 obtain⟨acc,J,X,rfl⟩:=h.ex;obtain⟨a,c,rfl⟩:=J.slice;rw[aZ] at hl;have C:∀q∈acc,Seen w 129 AH (slv q.1) q.2/\q.2.length<=100000:=fun q V=>⟨X q V,D q.2 (List.mem_map_of_mem V)⟩
 have H:=aO J;have HE:=aO C;have H2:=aO h2;clear h J X h2 D C;rw[aZ];go_enter func203,ntmps203;go_wp2_with fail;go_loopw [7,12] (fun pv S wr=>∃(k:Nat) (b:List (SlV×List AB)),k<=acc.length/\S= .int .i64 k/\je w.heap.size wr pv b/\b.length=k/\Hid (b.map (·.2)=((acc.take k).map (·.2)).map (AP v l))/\Below w.heap.size w wr) (fun _ S _=>acc.length -(intOf S).toNat)
 case atStart=>exact⟨0,[],aD,rfl,je.nil _ _,rfl,rfl,bZ _ _⟩
 case round=>
  obtain⟨k,b,hk,rfl,F,O,m,d⟩:=hrel;obtain rfl:=O;have Q:=d.size;obtain⟨a4,c4,E⟩:=CJ F.row;rw[aZ] at E;subst E;by_cases p:b.length<acc.length
  ·obtain⟨g,off,rfl⟩:=H.o.pos aJ;have a1:=H.o.lt;have i:acc[b.length]∈acc:=bG p;have s:=Seen.yx (H.o.below d) b.length acc[b.length].1 (by simp[p]);obtain⟨Y,y⟩:=HE.o _ i;have z:Hid ((acc.take (b.length+1)).map (·.2)=(acc.take b.length).map (·.2)++[acc[b.length].2]):=by unfold Hid;rw[bJ p,bE];rfl
   clear i;generalize acc[b.length]=q at*;obtain⟨⟨qa,qn,qc⟩,qp⟩:=q;simp only at s y z;have HS:=aO Y;clear Y;have Ci:g<wr.heap.size:=aD;have Z: (b.length:Int)<acc.length:=aD
   go_wp2_with (first
    |(go_at_call 202;refine(WT v _ qa qn qc qp (HS.o.below d) y L U M l (H2.o.below d) K R).mono ?_;rintro r w2 ⟨G,T,P,rfl,I,u⟩;have a0:=u.size;have n:Below w.heap.size w w2:=d.trans (u.mono Q);have Oa:=n.size;have B:=F.below u)
    |(at_builtin;refine AY Tryz.mg B5 DZ F8 _ rfl (.tmp 16) (.tmp 21) rfl w.heap.size _ (b.map (·.1)) rfl (B.row.alloc _) ⟨_,0,none⟩ 1 ⟨G,T,P⟩ rfl (BL _ _ rfl _ _) (by rw[aZ];omega) (by rw[cE];omega) ?_;intro gA gu w3 f dw jh;rw[aZ] at f))
   go_roundw
   case rel=>
    refine⟨b.length+1,b++[(⟨G,T,P⟩,AP v l qp)],aD,by go_num,?_,aE,?_,(n.alloc Oa _).grown dw (by rw[cE];omega) (fun j e=>(F.row.lt j e).1)⟩
    ·exact je.app (B.below ((bZ _ w2).alloc (aX _) _)) (x:=⟨G,T,P⟩) (Seen.alloc I _) dw f
    ·unfold Hid;rw[z.o,bE,bE,m.o];rfl
   case measure=>simp[intOf];omega
  ·have o:b.length=acc.length:=aD;have uz:Hid (b.map (·.2)=(acc.map (·.2)).map (AP v l)):=by have A:=m.o;rw[o,List.take_length] at A;exact A
   have N:¬((b.length:Int)<acc.length):=aD;clear o;go_wp2_with fail;go_ret;refine⟨_,rfl,?_,d⟩;have A:=F.seen;rw[uz.o,List.map_map] at A;exact A
theorem yC{off h:Int}{t:List AB}{k:Nat}(a:k<t.length):A5 off h (t.take (k+1))=A5 off h (t.take k)++[EH off h t[k]]:=by
 unfold A5;rw[bJ a,bE];rfl
theorem lB(off h:Int)(w:World)(a:Option Addr)(n c:Nat)(ps:List AB)(x:Seen w 129 AH (.slice a n c) ps)(Y:ps.length<=100000)(Z:0<=off)(X:off<=1000000000)(K:∀p∈ps,p.kind=1->0<=p.value/\p.value<1000000):Calls prog 184 #[.slice a n c,.int .i64 off,.int .i64 h] w fun r w'=>∃(A:Option Addr) (J I:Nat),r= .returned (.slice A J I)/\Seen w' 129 AH (.slice A J I) (A5 off h ps)/\Below w.heap.size w w':=by
 have N:n=ps.length:=x.len;subst N;have v:=aO x;have M:=aO K;clear x K;go_enter func184,ntmps184;go_wp2_with fail;go_loopw [7,12] (fun O y wr=>∃(k:Nat),k<=ps.length/\y= .int .i64 k/\aj wr w.heap.size 129 4 AH O (A5 off h (ps.take k))/\Below w.heap.size w wr) (fun _ y _=>ps.length -(intOf y).toNat)
 case atStart=>exact⟨0,aD,rfl,by rw[List.take_zero];exact aj.nil _ _ _ _ _,bZ _ _⟩
 case round=>
   obtain⟨k,hk,rfl,b,f⟩:=hrel;have t:=f.size;obtain⟨U,c4,z⟩:=CJ b;subst z;have D: (A5 off h (ps.take k)).length<=100000:=by unfold A5;rw[aZ,bW];omega
   by_cases s:k<ps.length
   ·obtain⟨g,o,rfl⟩:=v.o.pos aD;have P:=v.o.lt;have m:ps[k]∈ps:=bG s;obtain⟨e0,W,R,Q⟩:=Seen.parts (v.o.below f) k ps[k] (by simp[s]);have l:=M.o _ m;have i:=aO (yC (off:=off) (h:=h) s);clear m;generalize ps[k]=p at*;have V:g<wr.heap.size:=aD;have E: (k:Int)<ps.length:=aD;generalize A5 off h (ps.take k)=acc at*
    cases k1: (p.kind==1)
    ·cases G: (p.kind==4)
     ·have q:EH off h p=p:=by unfold EH;rw[bC (aY.1 k1),bC (aY.1 G)]
      rw[q] at i;clear q l;go_wp2_with (at_builtin;refine AY Tryz.lg AH BC DX _ rfl (.tmp 29) (.tmp 31) rfl w.heap.size _ acc rfl ((b.alloc _).alloc _) ⟨_,0,none⟩ 1 p rfl (FD _ _ aE _ _ _ _ _) aD aJ ?_;intro H F C d u L);go_roundw
      case rel=>exact⟨k+1,aD,by go_num,by rw[i.o];exact d,Below.grown ((f.alloc t _).alloc aJ _) u aJ (fun j e=>(b.lt j e).1)⟩
      case measure=>simp[intOf];omega
     ·have q:EH off h p={ p with value:=h }:=by unfold EH;rw[bC (aY.1 k1),bD (bT G)]
      rw[q] at i;clear q l;go_wp2_with (at_builtin;refine AY Tryz.lg AH BC DX _ rfl (.tmp 29) (.tmp 31) rfl w.heap.size _ acc rfl ((b.alloc _).alloc _) ⟨_,0,none⟩ 1 { p with value:=h } rfl (FD _ _ aE _ _ _ _ _) aD aJ ?_;intro H F C d u L);go_roundw
      case rel=>exact⟨k+1,aD,by go_num,by rw[i.o];exact d,Below.grown ((f.alloc t _).alloc aJ _) u aJ (fun j e=>(b.lt j e).1)⟩
      case measure=>simp[intOf];omega
    ·have q:EH off h p={ p with value:=p.value+off }:=by unfold EH;rw[bD (bT k1)]
     rw[q] at i;obtain⟨T,S⟩:=l (bT k1);clear q l;go_wp2_with (at_builtin;refine AY Tryz.lg AH BC DX _ rfl (.tmp 29) (.tmp 31) rfl w.heap.size _ acc rfl ((b.alloc _).alloc _) ⟨_,0,none⟩ 1 { p with value:=p.value+off } rfl (FD _ _ aE _ _ _ _ _) aD aJ ?_;intro H F C d u L);go_roundw
     case rel=>exact⟨k+1,aD,by go_num,by rw[i.o];exact d,Below.grown ((f.alloc t _).alloc aJ _) u aJ (fun j e=>(b.lt j e).1)⟩
     case measure=>simp[intOf];omega
   ·obtain rfl:k=ps.length:=aD;go_wp2_with fail;go_ret;exact⟨_,_,_,rfl,by have B:=b.seen;simp only[List.take_length] at B⊢;exact B,f⟩
theorem OG(x y:Int)(w:World):Calls prog 156 #[.int .i64 x,.int .i64 y] w fun r w'=>r= .returned (.int .i64 (EW x y))/\w'=w:=by
 by_cases h:y<x
 ·have a:Hid (EW x y=x):=by unfold Hid EW;rw[bD h]
  go_enter func156,ntmps156;go_wp2;go_ret;exact⟨CL a.o.symm,rfl⟩
 ·have a:Hid (EW x y=y):=by unfold Hid EW;rw[bC h]
  go_enter func156,ntmps156;go_wp2;go_ret;exact⟨CL a.o.symm,rfl⟩
theorem MB{t:List AB}(d:∀p∈t,p.kind=1->0<=p.value/\p.value<1000000):∀{a:Int},0<=a->a<=1000000->0<=JX a t/\JX a t<=1000000:=by
 induction t with
 |nil=>intro a b c;exact⟨b,c⟩
 |cons p t f=>
  intro a b c;rw[JX];have e:=d p aE;refine f (fun q g=>d q (bA _ g)) ?_ ?_
  ·split
   ·have:=e ‹_›;unfold EW;split<;>omega
   ·exact b
  ·split
   ·have:=e ‹_›;unfold EW;split<;>omega
   ·exact c
theorem SE(w:World)(a:Option Addr)(n c:Nat)(ps:List AB)(q:Seen w 129 AH (.slice a n c) ps)(J:ps.length<=100000)(v:∀p∈ps,p.kind=1->0<=p.value/\p.value<1000000):Calls prog 157 #[.slice a n c] w fun r w'=>r= .returned (.int .i64 (EK ps))/\Below w.heap.size w w':=by
 have A:n=ps.length:=q.len;subst A;have l:=aO q;have x:=aO v;clear q v;go_enter func157,ntmps157;go_wp2_with fail;go_loopw [3,8] (fun z s wr=>∃(k:Nat) (m:Int),k<=ps.length/\s= .int .i64 k/\z= .int .i64 m/\0<=m/\m<=1000000/\Below w.heap.size w wr/\Hid (EK ps=JX m (ps.drop k))) (fun _ s _=>ps.length -(intOf s).toNat)
 case atStart=>exact⟨0,0,aD,rfl,rfl,aD,aD,bZ _ _,rfl⟩
 case round=>
  obtain⟨k,m,K,rfl,rfl,t,o,d,b⟩:=hrel;have j:=d.size;by_cases i:k<ps.length
  ·obtain⟨g,off,rfl⟩:=l.o.pos aD;have C:=l.o.lt;have f:ps[k]∈ps:=bG i;obtain⟨H,c1,F,I⟩:=Seen.parts (l.o.below d) k ps[k] (by simp[i]);have h:=x.o _ f;have e:ps.drop k=ps[k]::ps.drop (k+1):=List.drop_eq_getElem_cons i;rw[e,JX] at b;clear f e;generalize ps[k]=p at*;have G:g<wr.heap.size:=aD;have u: (k:Int)<ps.length:=aD
   cases k1: (p.kind==1)
   ·rw[bC (aY.1 k1)] at b;clear h;go_wp2_with fail;go_roundw
    case rel=>exact⟨k+1,m,aD,by go_num,rfl,t,o,d.alloc j _,b⟩
    case measure=>simp[intOf];omega
   ·rw[bD (bT k1)] at b;obtain⟨E,D⟩:=h (bT k1);clear h;go_wp2_with (go_at_call 156;refine(OG m (p.value+1) _).mono ?_;rintro r B ⟨rfl,y⟩;subst B);go_roundw
    case rel=>exact⟨k+1,EW m (p.value+1),aD,by go_num,rfl,(by unfold EW;split<;>omega),(by unfold EW;split<;>omega),d.alloc j _,b⟩
    case measure=>simp[intOf];omega
  ·obtain rfl:k=ps.length:=aD;go_wp2_with fail;go_ret;exact⟨CL (by rw[b.o,List.drop_length,JX]),d⟩
end Go.Proofs.Q
namespace Go
open Go.RowKit
theorem TJ{P:Program}{c:Array Oper}{o:Oper}{a:Act}{w:World}{K:Act->World->Prop}{Q:Exit->Act->World->Prop}{E:Prop}{R:Ending->World->Prop} (g:o.guard=none) (f:FuncId) (args:Array Operand) (i:Array TypeId) (l:o.op= .call { callee:= .value (.func f),args:=args,argTypes:=i }) (b:Array Value) (n:args.map a.eval=b) (d: (callFunc f b).run P w= .ok (.enter f b) w) (h:Calls P f b w R) (m:∀e w',R e w'->∃v,e= .returned v/\K (a.put o.dst v) w'):if Region.wanted o (yielded c a.tmps)=true then Oper.wp P o a w K Q else E:=by
 have p:Region.wanted o (yielded c a.tmps)=true:=by simp[Region.wanted,g]
 rw[bD p];unfold Oper.wp execOp;simp[l,resolve,invoke,n,Act.eval,Deferred.ofValue,d];rw[Oper.upon_enter];refine h.mono ?_;intro e w' j;obtain⟨v,rfl,k⟩:=m e w' j;exact k
theorem pL{P:Program}{d:Array Oper}{o:Oper}{a:Act}{w:World}{K:Act->World->Prop}{Q:Exit->Act->World->Prop}{E:Prop}{R:Ending->World->Prop} (j:o.guard=none) (f:FuncId) (k:Operand) (c:Array TypeId) (l:o.op= .call { callee:= .value (.func f),args:=#[k],argTypes:=c }) (i:Value) (n:a.eval k=i) (g:∀b,(callFunc f b).run P w= .ok (.enter f b) w) (h:Calls P f #[i] w R) (m:∀e w',R e w'->∃v,e= .returned v/\K (a.put o.dst v) w'):if Region.wanted o (yielded d a.tmps)=true then Oper.wp P o a w K Q else E:=
 TJ j f _ c l #[i] (by simp[n]) (g _) h m
theorem RX{P:Program}{d:Array Oper}{o:Oper}{a:Act}{w:World}{K:Act->World->Prop}{Q:Exit->Act->World->Prop}{E:Prop}{R:Ending->World->Prop} (j:o.guard=none) (f:FuncId) (k l:Operand) (c:Array TypeId) (m:o.op= .call { callee:= .value (.func f),args:=#[k,l],argTypes:=c }) (i v2:Value) (q:a.eval k=i) (p:a.eval l=v2) (g:∀b,(callFunc f b).run P w= .ok (.enter f b) w) (h:Calls P f #[i,v2] w R) (n:∀e w',R e w'->∃v,e= .returned v/\K (a.put o.dst v) w'):if Region.wanted o (yielded d a.tmps)=true then Oper.wp P o a w K Q else E:=
 TJ j f _ c m #[i,v2] (by simp[q,p]) (g _) h n
theorem GM{P:Program}{d:Array Oper}{o:Oper}{a:Act}{w:World}{K:Act->World->Prop}{Q:Exit->Act->World->Prop}{E:Prop}{R:Ending->World->Prop} (j:o.guard=none) (f:FuncId) (l m n:Operand) (c:Array TypeId) (p:o.op= .call { callee:= .value (.func f),args:=#[l,m,n],argTypes:=c }) (i v2 k:Value) (t:a.eval l=i) (s:a.eval m=v2) (r:a.eval n=k) (g:∀b,(callFunc f b).run P w= .ok (.enter f b) w) (h:Calls P f #[i,v2,k] w R) (q:∀e w',R e w'->∃v,e= .returned v/\K (a.put o.dst v) w'):if Region.wanted o (yielded d a.tmps)=true then Oper.wp P o a w K Q else E:=
 TJ j f _ c p #[i,v2,k] (by simp[t,s,r]) (g _) h q
end Go
namespace Go.Proofs.Q
open Rf _root_.Go.Proofs.Tryz
open Go.RowKit
structure pq(w:World)(hx bx:SlV)(cl:Cl):Prop where
 head:Seen w 129 AH (slv hx) cl.head
 body:ak w (slv bx) cl.body
theorem pq.below{w w':World}{hx bx:SlV}{b:Cl}(h:pq w hx bx b)(a:Below w.heap.size w w'):pq w' hx bx b:=⟨h.head.below a,h.body.below a⟩
structure rO(cl:Cl):Prop where
 hl:cl.head.length<=400
 hv:∀p∈cl.head,p.kind=1->0<=p.value/\p.value<16
 bl:cl.body.length<=8
 bt:∀t∈cl.body,t.length<=400/\∀p∈t,p.kind=1->0<=p.value/\p.value<16
theorem uF(w:World)(hx bx:SlV)(i:Cl)(h:pq w hx bx i)(z:rO i):Calls prog 172 #[.agg #[.slice hx.a hx.n hx.c,.slice bx.a bx.n bx.c]] w fun r w'=>r= .returned (.int .i64 (C4 i))/\Below w.heap.size w w':=by
 obtain⟨R,acc,D,N,f⟩:=h;obtain⟨ah,nh,X⟩:=hx;obtain⟨ab,nb,Y⟩:=bx;have hn:nb=acc.length:=by have:=Seen.len D;rwa [aZ] at this
 subst hn;have hP:Hid (C4 i=DV (EK i.head) (acc.map (·.2))):=by unfold Hid C4;rw[f]
 have x:∀q∈acc,Seen w 129 AH (slv q.1) q.2/\q.2.length<=100000/\∀p∈q.2,p.kind=1->0<=p.value/\p.value<1000000:=fun q K=>by
  have:=z.bt q.2 (by rw[f];exact List.mem_map_of_mem K);exact⟨N q K,aD,fun p J B=>by have:=this.2 p J B;omega⟩
 have L:Hid (∀p∈i.head,p.kind=1->0<=p.value/\p.value<1000000):=fun p J B=>by have:=z.hv p J B;omega
 have E:i.head.length<=100000:=by have:=z.hl;omega
 have U:acc.length<=8:=by have:=z.bl;rw[f,aZ] at this;exact this
 have o:=MB L.o (a:=0) aD aD;have T:=aO R;have C:=aO D;have Z:=aO x;clear R D N x z f;generalize C4 i=V at*;go_enter func172,ntmps172;go_wp2_with (go_at_call 157;refine(SE _ ah nh X i.head (Seen.below T.o aM) E L.o).mono ?_;rintro r Q ⟨rfl,v⟩;have A:Below w.heap.size w Q:=((bZ _ w).alloc (aX _) _).trans (v.mono aE);have t:=(v.block w.heap.size aE).trans (AJ _ _);have x1:Q.cell? ⟨w.heap.size,1,none⟩=some (.slice ab acc.length Y):=AA t 1);clear t x1;go_loopw [3,12] (fun mv H wr=>∃(k:Nat) (m:Int),k<=acc.length/\H= .int .i64 k/\mv= .int .i64 m/\0<=m/\m<=1000000/\Below w.heap.size w wr/\Hid (V=DV m ((acc.drop k).map (·.2)))) (fun _ H _=>acc.length -(intOf H).toNat)
 case atStart=>exact⟨0,_,aD,rfl,rfl,o.1,o.2,A,hP⟩
 case round=>
  obtain⟨k,m,B,rfl,rfl,S,W,c,b⟩:=hrel;have F:=c.size;by_cases l:k<acc.length
  ·obtain⟨g,off,rfl⟩:=C.o.pos aJ;have a1:=C.o.lt;have j:acc[k]∈acc:=bG l;have n:=Seen.yx (C.o.below c) k acc[k].1 (by simp[l]);obtain⟨O,s,e⟩:=Z.o _ j;have d:acc.drop k=acc[k]::acc.drop (k+1):=List.drop_eq_getElem_cons l;rw[d,List.map_cons,DV] at b;clear j d;generalize acc[k]=q at*;obtain⟨⟨qa,qn,qc⟩,y⟩:=q;simp only at n s e b;have HS:=aO O;have G:=aO e;have u:=MB e (a:=0) aD aD;have M:0<=EK y/\EK y<=1000000:=u;clear O e u;have Ci:g<wr.heap.size:=aD;have P: (k:Int)<acc.length:=aD
   go_wp2_with (first
    |(go_at_call 157;refine(SE _ qa qn qc y (HS.o.below c) s G.o).mono ?_;rintro r w2 ⟨rfl,I⟩)
    |(go_at_call 156;refine(OG m (EK y) _).mono ?_;rintro r w3 ⟨rfl,a0⟩;subst w3))
   go_roundw
   case rel=>exact⟨k+1,EW m (EK y),aD,by go_num,rfl,(by unfold EW;split<;>omega),(by unfold EW;split<;>omega),c.trans (I.mono F),b⟩
   case measure=>simp[intOf];omega
  ·obtain rfl:k=acc.length:=aD;go_wp2_with fail;go_ret;exact⟨CL (by rw[b.o,List.drop_length];rfl),c⟩
structure Aw(w wr:World)(O R:Nat)(hd:SlV)(bv:Value)(ps:List AB)(acc:List (SlV×List AB)):Prop where
 o:wr.heap[O]?=some (.cells #[.slice hd.a hd.n hd.c,bv] 86 (0,0))
 r:wr.heap[R]?=some (.cells #[.slice none 0 0,.slice none 0 0] 86 (0,0))
 rows:je (O+1) wr bv acc
 hd:Seen wr 129 AH (.slice hd.a hd.n hd.c) ps
 b:Below w.heap.size w wr
theorem Aw.below{w wr b:World}{O R:Nat}{c:SlV}{d:Value}{ps:List AB}{acc:List (SlV×List AB)}(h:Aw w wr O R c d ps acc)(a:Below wr.heap.size wr b):Aw w b O R c d ps acc:=
 ⟨(a.block O (AD h.o)).trans h.o,(a.block R (AD h.r)).trans h.r,h.rows.below a,h.hd.below a,h.b.trans (a.mono h.b.size)⟩
theorem Aw.app{w wr b:World}{O R:Nat}{n x:SlV}{j a:Value}{ps qs:List AB}{acc:List (SlV×List AB)}(h:Aw w wr O R n j ps acc)(o:w.heap.size<=O)(u:R<O)(hx:Seen wr 129 AH (.slice x.a x.n x.c) qs)(d:wr.grownBy b j.ownBlock)(s:aj b (O+1) 84 1 B5 a (acc.map (·.1)++[x])):Aw w (b.setCell ⟨O,1,none⟩ a) O R n a ps (acc++[(x,qs)]):=by
 have c:∀k,j.ownBlock=some k->O+1<=k:=fun k e=>(h.rows.row.lt k e).1;have m:b.heap[O]?=_:=(d.block O (AD h.o) (fun e=>by have:=c O e.symm;omega)).trans h.o;have g:b.heap[R]?=_:=(d.block R (AD h.r) (fun e=>by have:=c R e.symm;omega)).trans h.r;have f:=je.app h.rows hx d s
 have l:∀cs (t:TypeId),t≠86->b.heap[O]?≠some (.cells cs t (0,0)):=fun cs t i e=>by
  rw[m] at e;injection e with e;injection e with _ e;exact i e.symm
 refine⟨AK m 1 _,?_,⟨f.row.setCell ⟨O,1,none⟩ _ (fun e=>?_),fun q r=>(f.each q r).setCell _ _ (fun cs=>l cs _ aF)⟩,(h.hd.Ep h.rows.row aF d).setCell _ _ (fun cs=>l cs _ aF),(h.b.grown d h.b.size (fun k e=>by have:=c k e;omega)).setCell (p:=⟨O,1,none⟩) o _⟩
 ·have: (b.setCell ⟨O,1,none⟩ a).heap[R]?=b.heap[R]?:=cF _ _ _ _ aJ;rw[this];exact g
 ·have:=(f.row.lt _ e).1;simp at this;omega
theorem Aw.fin{w wr:World}{O R:Nat}{c:SlV}{f:Value}{ps:List AB}{acc:List (SlV×List AB)}(h:Aw w wr O R c f ps acc)(d:w.heap.size<=R)(x y:Value):Seen ((wr.setCell ⟨R,0,none⟩ x).setCell ⟨R,1,none⟩ y) 129 AH (.slice c.a c.n c.c) ps/\ak ((wr.setCell ⟨R,0,none⟩ x).setCell ⟨R,1,none⟩ y) f (acc.map (·.2))/\Below w.heap.size w ((wr.setCell ⟨R,0,none⟩ x).setCell ⟨R,1,none⟩ y):=by
 have k:∀cs (t:TypeId),t≠86->wr.heap[R]?≠some (.cells cs t (0,0)):=fun cs t a e=>by
  rw[h.r] at e;injection e with e;injection e with _ e;exact a e.symm
 have j:∀cs (t:TypeId),t≠86->(wr.setCell ⟨R,0,none⟩ x).heap[R]?≠some (.cells cs t (0,0)):=fun cs t a e=>by
  rw[AK h.r 0 x] at e;injection e with e;injection e with _ e;exact a e.symm
 have b:∀{α:Type} {e:TypeId} {C:α->List Value} {v:Value} {xs:List α},e≠86->Seen wr e C v xs->Seen ((wr.setCell ⟨R,0,none⟩ x).setCell ⟨R,1,none⟩ y) e C v xs:=fun a g=>(g.setCell _ _ (fun cs=>k cs _ a)).setCell _ _ (fun cs=>j cs _ a);exact⟨b aF h.hd,⟨acc,b aF h.rows.row.seen,fun q i=>b aF (h.rows.each q i),rfl⟩,(h.b.setCell (p:=⟨R,0,none⟩) d _).setCell (p:=⟨R,1,none⟩) d _⟩
def aCX(off h:Int)(a:Cl):Cl:=⟨A5 off h a.head,a.body.map (A5 off h),a.vars⟩
theorem aBP(a:Array Value)(w:World): (callFunc 184 a).run prog w= .ok (.enter 184 a) w:=by
 simp[callFunc,func184,Tryz.f184]
theorem aBw(off h:Int)(w:World)(hx bx:SlV)(n:Cl)(hc:pq w hx bx n)(G:rO n)(h0:0<=off)(h1:off<=1000000000):Calls prog 170 #[.agg #[.slice hx.a hx.n hx.c,.slice bx.a bx.n bx.c],.int .i64 off,.int .i64 h] w fun r w'=>∃(S P:SlV),r= .returned (.agg #[.slice S.a S.n S.c,.slice P.a P.n P.c])/\pq w' S P (aCX off h n)/\Below w.heap.size w w':=by
 obtain⟨hH,acc,hT,hE,i⟩:=hc;obtain⟨ah,nh,ch⟩:=hx;obtain⟨ab,nb,cb⟩:=bx;have hn:nb=acc.length:=by have:=Seen.len hT;rwa [aZ] at this
 subst hn
 have H:∀q∈acc,Seen w 129 AH (slv q.1) q.2/\q.2.length<=100000/\∀p∈q.2,p.kind=1->0<=p.value/\p.value<1000000:=fun q hq=>by
  have:=G.bt q.2 (by rw[i];exact List.mem_map_of_mem hq);exact⟨hE q hq,aD,fun p hp R=>by have:=this.2 p hp R;omega⟩
 have HV:Hid (∀p∈n.head,p.kind=1->0<=p.value/\p.value<1000000):=fun p hp R=>by have:=G.hv p hp R;omega
 have a5:n.head.length<=100000:=by have:=G.hl;omega
 have b3:acc.length<=8:=by have:=G.bl;rw[i,aZ] at this;exact this
 have HH:=aO hH;have HT:=aO hT;have HE:=aO H;have Y:=aO i;clear hH hT hE H G i;go_enter func170,ntmps170;go_wp2_with (go_at_call 184;refine(lB off h _ ah nh ch n.head (Seen.below HH.o aM) a5 h0 h1 HV.o).mono ?_;rintro r j ⟨D,C,c1,rfl,a6,l⟩;have u:Below w.heap.size w j:=(((bZ _ w).alloc (aX _) _).alloc aE _).trans (l.mono aJ);have b6:w.heap.size+2<=j.heap.size:=(by have:=l.size;simp at this;omega);have I:=(l.block w.heap.size aJ).trans (AF (AJ _ _) _);have x1:j.cell? ⟨w.heap.size,1,none⟩=some (.slice ab acc.length cb):=AA I 1;have K:=(l.block (w.heap.size+1) aE).trans (AZ _ _ _ aE);have b7:w.heap.size<j.heap.size:=aD);have y:Aw w (j.alloc (.cells #[.slice D C c1,.slice none 0 0] 86)) j.heap.size (w.heap.size+1) ⟨D,C,c1⟩ (.slice none 0 0) (A5 off h n.head) []:=⟨AJ _ _,AF K _,je.nil _ _,Seen.alloc a6 _,u.alloc u.size _⟩
 clear I x1 K;go_loopw [19] (fun X wr=>∃(k:Nat) (bv:Value) (a:List (SlV×List AB)),k<=acc.length/\X= .int .i64 k/\Aw w wr j.heap.size (w.heap.size+1) ⟨D,C,c1⟩ bv (A5 off h n.head) a/\a.length=k/\Hid (a.map (·.2)=((acc.take k).map (·.2)).map (A5 off h))) (fun X _=>acc.length -(intOf X).toNat)
 case atStart=>exact⟨0,_,[],aD,rfl,y,rfl,rfl⟩
 case round=>
  obtain⟨k,bv,a,R,rfl,c,W,s⟩:=hrel;obtain rfl:=W;have b5:=c.b.size;have b4:=AD c.o;obtain⟨J,L,M⟩:=CJ c.rows.row;rw[aZ] at M;subst M;have⟨o0,o1⟩:=cI c.o;have of:=AE c.o;have b1:=AD c.r;have⟨r0,r1⟩:=cI c.r;have rf:=AE c.r;simp at o0 o1 r0 r1;by_cases z:a.length<acc.length
  ·obtain⟨g,o,rfl⟩:=HT.o.pos aJ;have c0:=HT.o.lt;have m:acc[a.length]∈acc:=bG z;have A:=Seen.yx (HT.o.below c.b) a.length acc[a.length].1 (by simp[z]);obtain⟨hS,E,B⟩:=HE.o _ m;have F:Hid ((acc.take (a.length+1)).map (·.2)=(acc.take a.length).map (·.2)++[acc[a.length].2]):=by unfold Hid;rw[bJ z,bE];rfl
   clear m;generalize acc[a.length]=q at*;obtain⟨⟨qa,qn,qc⟩,qp⟩:=q;simp only at A E B F;have HS:=aO hS;have a0:=aO B;have N:=aO c;clear hS B y;have Ci:g<wr.heap.size:=aD;have a8: (a.length:Int)<acc.length:=aD;go_wp2_with fail
   go_region_law (first
    |(refine GM rfl 184 (.tmp 25) (.tmp 26) (.tmp 27) _ rfl (.slice qa qn qc) (.int .i64 off) (.int .i64 h) rfl rfl rfl (fun _=>aBP _ _) (lB off h _ qa qn qc qp (HS.o.below (by first|exact N.o.b.drew|exact N.o.b)) E h0 h1 a0.o) ?_;rintro r w2 ⟨Q,U,T,rfl,Z,a2⟩;refine⟨_,rfl,?_⟩;have d:=(N.o.below (bZ _ wr).drew).below a2;have b:=d.below ((bZ _ w2).alloc (aX _) (.cells #[.slice Q U T] 84));have b0:=d.b.size;have a9:=AD d.o;have⟨p0,p1⟩:=cI d.o;have pf:=AE d.o;simp at p0 p1)
    |(refine IM Tryz.mg B5 DZ F8 rfl (.tmp 24) (.tmp 29) rfl (j.heap.size+1) (.slice J a.length L) _ rfl b.rows.row ⟨_,0,none⟩ 1 ⟨Q,U,T⟩ rfl (BL _ _ rfl _ _) (by rw[aZ];omega) (by rw[cE];omega) ?_;intro gA gu w3 f O jh;rw[aZ] at f;have V:=Aw.app b aD aD (x:=⟨Q,U,T⟩) (Seen.alloc Z _) O f;have b2:=O.size;have q1:w3.cell? ⟨j.heap.size,1,none⟩=some (.slice J a.length L):=(AA ((O.block _ (AD b.o) (fun e=>by have:=(b.rows.row.lt _ e.symm).1;omega)).trans b.o) 1);have qf:=AE ((O.block _ (AD b.o) (fun e=>by have:=(b.rows.row.lt _ e.symm).1;omega)).trans b.o)))
   all_goals go_wp2_with fail
   all_goals
    go_roundw
    case rel=>
     refine⟨a.length+1,_,a++[(⟨Q,U,T⟩,A5 off h qp)],aD,by go_num,V,aE,?_⟩;unfold Hid;rw[F.o,bE,bE,s.o];rfl
    case measure=>simp[intOf];omega
  ·have t:a.length=acc.length:=aD;have uz:Hid (a.map (·.2)=(acc.map (·.2)).map (A5 off h)):=by have h9:=s.o;rw[t,List.take_length] at h9;exact h9
   have a7:¬((a.length:Int)<acc.length):=aD;clear t y;have N:=aO c;clear c;go_wp2_with fail;refine bodyPost_ret (v:= .agg #[.slice D C c1,.slice J a.length L]) (by simp[results,results170,go_sem, *]) rfl ?_;obtain⟨f1,f2,f3⟩:=N.o.fin aD (.slice D C c1) (.slice J a.length L);refine⟨⟨D,C,c1⟩,⟨J,a.length,L⟩,rfl,⟨f1,?_⟩,f3⟩;rw[uz.o] at f2;unfold aCX;rw[Y.o];exact f2
def EqB(w:World)(e:Nat)(f a c d b:Value):Prop:=w.heap[e]?=some (.cells #[f,a,c,d,b] 241 (0,0))
structure qh(w:World)(vf vs vb vh vt:Value)(E:Eqn):Prop where
 f:Seen w 129 AH vf E.f
 s:Seen w 129 AH vs E.s
 b:ak w vb E.body
 h:ak w vh E.behind
 t:ak w vt E.aS
structure KJ(w:World)(e:Nat)(E:Eqn):Prop where
 ex:∃vf vs vb vh vt,EqB w e vf vs vb vh vt/\qh w vf vs vb vh vt E
structure aBu(E:Eqn):Prop where
 f:E.f.length<=400
 s:E.s.length<=400
 b:E.body.length<=10000/\∀t∈E.body,t.length<=400
 h:E.behind.length<=10000/\∀t∈E.behind,t.length<=400
 t:E.aS.length<=10000/\∀t∈E.aS,t.length<=400
theorem qh.below{w w':World}{f b d e c:Value}{E:Eqn}(h:qh w f b d e c E)(a:Below w.heap.size w w'):qh w' f b d e c E:=⟨h.f.below a,h.s.below a,h.b.below a,h.h.below a,h.t.below a⟩
theorem ak.jv{w:World}{v:Value}{ts:List (List AB)}(h:ak w v ts){e:Nat}{cs:Array Value}{t:TypeId}(m:w.heap[e]?=some (.cells cs t (0,0)))(o:t≠129)(n:t≠84)(i:Nat)(u:Value):ak (w.setCell ⟨e,i,none⟩ u) v ts:=by
 obtain⟨acc,k,j,g⟩:=h.ex
 have f:∀b (c:TypeId),c≠t->w.heap[e]?≠some (.cells b c (0,0)):=fun b c d a=>by
  rw[m] at a;injection a with a;injection a with _ a;exact d a.symm
 exact⟨acc,k.setCell _ _ (fun cs=>f cs _ (Ne.symm n)),fun q l=>(j q l).setCell _ _ (fun cs=>f cs _ (Ne.symm o)),g⟩
theorem _root_.Go.Seen.jv{w:World}{v:Value}{ps:List AB}(h:Seen w 129 AH v ps){e:Nat}{cs:Array Value}{t:TypeId}(b:w.heap[e]?=some (.cells cs t (0,0)))(d:t≠129)(i:Nat)(u:Value):Seen (w.setCell ⟨e,i,none⟩ u) 129 AH v ps:=
 h.setCell _ _ (fun c a=>by rw[b] at a;injection a with a;injection a with _ a;exact d a)
theorem qh.set{w:World}{e:Nat}{l n k j m:Value}{g b d f c:Value}{E:Eqn}(h:qh w g b d f c E)(a:EqB w e l n k j m)(i:Nat)(u:Value):qh (w.setCell ⟨e,i,none⟩ u) g b d f c E:=
 ⟨h.f.jv a aF i u,h.s.jv a aF i u,h.b.jv a aF aF i u,h.h.jv a aF aF i u,h.t.jv a aF aF i u⟩
theorem EqB.facts{w:World}{e:Nat}{f a c d b:Value}(h:EqB w e f a c d b):w.cell? ⟨e,0,none⟩=some f/\w.cell? ⟨e,1,none⟩=some a/\w.cell? ⟨e,2,none⟩=some c/\w.cell? ⟨e,3,none⟩=some d/\w.cell? ⟨e,4,none⟩=some b/\(∀i,w.frozen? ⟨e,i,none⟩=false)/\e<w.heap.size:=
 ⟨AA h 0,AA h 1,AA h 2,AA h 3,AA h 4,AE h,AD h⟩
theorem MY(w:World)(e m n:Nat)(E:Eqn)(h:KJ w e E)(t:1<=E.f.length)(p:1<=E.s.length)(l:m<=E.f.length)(q:n<=E.s.length):Calls prog 185 #[.pointer (some ⟨e,0,none⟩),.int .i64 m,.int .i64 n] w fun r w'=>r= .returned (.tuple #[])/\KJ w' e { E with f:=E.f.drop m,s:=E.s.drop n }/\Kept (fun k=>k=e) w w':=by
 obtain⟨A,C,g,d,i,c,a⟩:=h.ex;obtain⟨F,c1,rfl⟩:=a.f.slice;obtain⟨z,v,rfl⟩:=a.f.pos t;obtain⟨D,G,rfl⟩:=a.s.slice;obtain⟨K,B,rfl⟩:=a.s.pos p;obtain⟨y,k1,L,x,J,H,I⟩:=c.facts;have u:=a.f.cap;have j:=a.s.cap;have o:=aO c;have b:Hid (∀u1 u2,qh ((w.setCell ⟨e,0,none⟩ u1).setCell ⟨e,1,none⟩ u2) _ _ g d i E):=fun u1 u2=>(a.set c 0 u1).set (AK c 0 u1) 1 u2;clear h c a;go_enter func185,ntmps185;go_wp2_with fail
 all_goals
  go_end0;refine⟨rfl,⟨_,_,g,d,i,AK (AK o.o 0 _) 1 _,?_⟩,(by repeat'(first|exact QE _ _|refine QL ?_ ?_ _|refine P6 ?_|refine QU ?_ _|refine QN ?_ _|exact Or.inr rfl|exact Or.inr (Or.inl rfl)|(refine Or.inl ?_;simp;done)|(refine Or.inl ?_;simp;omega)))⟩;refine⟨?_,?_,(b.o _ _).b,(b.o _ _).h,(b.o _ _).t⟩
  ·first|exact(b.o _ _).f.drop BC m l|exact(b.o _ _).f.dropEnd m (by assumption)
  ·first|exact(b.o _ _).s.drop BC n q|exact(b.o _ _).s.dropEnd n (by assumption)
theorem KW(z n:Nat)(v:Int)(w:World)(K:Value)(ts:List (List AB))(h:ak w K ts)(R:ts.length<=100000)(p:∀t∈ts,t.length<=400)(Q:z<=1000000)(S:n<=1000):Calls prog 210 #[.int .i64 z,K,.int .i64 v,.int .i64 ((n:Int)+1)] w fun r w'=>r= .returned (.int .i64 (D8 v n z ts))/\Below w.heap.size w w':=by
 obtain⟨acc,x,F,rfl⟩:=h.ex;obtain⟨a,c,rfl⟩:=x.slice;rw[aZ] at R;have o:∀q∈acc,Seen w 129 AH (slv q.1) q.2/\q.2.length<=400:=fun q E=>⟨F q E,p q.2 (List.mem_map_of_mem E)⟩
 have u:=aO x;have O:=aO o;clear h x F p o;rw[aZ];go_enter func210,ntmps210;go_wp2_with fail;go_loopw [0,13] (fun U C wr=>∃(k y:Nat),k<=acc.length/\C= .int .i64 k/\U= .int .i64 y/\y<=1000000/\Below w.heap.size w wr/\Hid (D8 v n z (acc.map (·.2))=D8 v n y ((acc.drop k).map (·.2)))) (fun _ C _=>acc.length -(intOf C).toNat)
 case atStart=>exact⟨0,z,aD,rfl,rfl,Q,bZ _ _,rfl⟩
 case round=>
  obtain⟨k,y,Z,rfl,rfl,hy,d,b⟩:=hrel;have B:=d.size;by_cases l:k<acc.length
  ·obtain⟨g,off,rfl⟩:=u.o.pos aJ;have V:=u.o.lt;have i:acc[k]∈acc:=bG l;have m:=Seen.yx (u.o.below d) k acc[k].1 (by simp[l]);obtain⟨G,s⟩:=O.o _ i;have e:acc.drop k=acc[k]::acc.drop (k+1):=List.drop_eq_getElem_cons l;rw[e,List.map_cons,D8] at b;clear i e;generalize acc[k]=q at*;obtain⟨⟨P,X,W⟩,f⟩:=q;simp only at m s b;have J:=aO G;have A:X=f.length:=Seen.len J.o;subst A;clear G;have M:=UL (v:=v) f;have T:A0 v f*n<=400*1000:=Nat.mul_le_mul aD S
   have L: (A0 v f:Int)*n<=400000:=by
    have N: ((A0 v f*n:Nat):Int)<=400000:=aD;simpa using N
   have I: (0:Int)<=(A0 v f:Int)*n:=Int.mul_nonneg aD aD;have Y:g<wr.heap.size:=aD;have H: (k:Int)<acc.length:=aD;by_cases j:200<y
   ·rw[bD j] at b;go_wp2_with fail;go_ret;exact⟨CL (by rw[b.o]),d⟩
   ·rw[bC j] at b;go_wp2_with (go_at_call 200;refine(KI v _ P _ W f (J.o.below d) aD).mono ?_;rintro r w2 ⟨rfl,D⟩);go_roundw
    case rel=>exact⟨k+1,y+f.length+A0 v f*n,aD,by go_num,aJ,aD,d.trans (D.mono B),b⟩
    case measure=>simp[intOf];omega
  ·obtain rfl:k=acc.length:=aD;go_wp2_with fail;go_ret;exact⟨CL (by rw[b.o,List.drop_length];rfl),d⟩
end Go.Proofs.Q
namespace Rf
theorem PU{v:Int}{n:Nat}:∀(ts a:List (List AB)) (z:Nat),D8 v n (D8 v n z ts) a=D8 v n z (ts++a)
 |[],_,_=>rfl
 |t::ts,a,z=>by
  rw[D8,List.cons_append,D8];split
  ·cases a with
   |nil=>rfl
   |cons u a=>rw[D8];rename_i h;rw[bD h]
  ·exact PU ts a _
def WV(E:Eqn):List (List AB):=[E.f,E.s]++(E.body++(E.behind++E.aS))
theorem RP:∀(ts us:List (List AB)),AO (ts++us)=AO ts+AO us
 |[],us=>by simp[AO]
 |t::ts,us=>by rw[List.cons_append,AO,AO,RP ts us];omega
theorem aAK(E:Eqn)(v:Int)(x:List AB): (E.put v x).size=AO ((WV E).map (AP v x)):=by
 unfold WV Eqn.put Eqn.size;simp only[List.map_append,RP,List.map_cons,List.map_nil,AO];omega
theorem jA(E:Eqn)(v:Int)(x:List AB)(n:Nat)(hx:x.length=n+1):200<D8 v n 0 (WV E)↔200<(E.put v x).size:=by
 rw[fE hx,aAK,Nat.zero_add]
end Rf
namespace Go.Proofs.Q
open Rf _root_.Go.Proofs.Tryz
open Go.RowKit
theorem Seen.two{w:World}{N:Nat}{x y:SlV}{t:TypeId}(h:w.heap[N]?=some (.cells #[.slice x.a x.n x.c,.slice y.a y.n y.c] t (0,0))):Seen w t B5 (.slice (some ⟨N,0,none⟩) 2 2) [x,y]:=by
 refine⟨.inr ⟨N,0,2,_,rfl,h,aE,by unfold maxLen;omega,fun j u a=>?_⟩⟩;rw[Nat.zero_add]
 match j,a with
 |0,a=>simpa[B5,slv] using a
 |1,a=>simpa[B5,slv] using a
 |(j+2),a=>simp[B5] at a
theorem lG{v:Int}{n:Nat}(a:n<=1000):∀(ts:List (List AB)) (z:Nat),(∀t∈ts,t.length<=400)->z<=1000000->D8 v n z ts<=1000000
 |[],z,_,h=>h
 |t::ts,z,ht,h=>by
  rw[D8];split
  ·exact h
  ·refine lG a ts _ (fun q b=>ht q (bA _ b)) ?_;have e:=ht t aE;have d:=UL (v:=v) t;have c:A0 v t*n<=400*1000:=Nat.mul_le_mul aD a;omega
theorem ZO(n:Nat)(v:Int)(w:World)(e:Nat)(E:Eqn)(h:KJ w e E)(f:aBu E)(j:n<=1000):Calls prog 201 #[.pointer (some ⟨e,0,none⟩),.int .i64 v,.int .i64 ((n:Int)+1)] w fun r w'=>r= .returned (.int .i64 (D8 v n 0 (WV E)))/\Below w.heap.size w w':=by
 obtain⟨vf,vs,vb,vh,vt,m,c⟩:=h.ex;obtain⟨F,c1,rfl⟩:=c.f.slice;obtain⟨C,G,rfl⟩:=c.s.slice;obtain⟨M,S,rfl⟩:=c.b.slice;obtain⟨Q,T,rfl⟩:=c.h.slice;obtain⟨U,P,rfl⟩:=c.t.slice;obtain⟨k0,k1,k2,k3,k4,kf,H⟩:=m.facts;have D:=aO m;have B:=aO c;have d:=aO f
 have u:Hid (∀o,∀q∈[((⟨F,E.f.length,c1⟩:SlV),E.f),(⟨C,E.s.length,G⟩,E.s)],Seen (w.drew.alloc o) 129 AH (slv q.1) q.2):=fun o q O=>by
  simp only[List.mem_cons,dF,or_false] at O;rcases O with rfl|rfl
  ·exact c.f.drew.alloc o
  ·exact c.s.drew.alloc o
 have i:Hid (∀t∈[E.f,E.s],t.length<=400):=fun t k=>by
  simp only[List.mem_cons,dF,or_false] at k;rcases k with rfl|rfl
  ·exact f.f
  ·exact f.s
 have L:∀(ts:List (List AB)) (z:Nat),(∀t∈ts,t.length<=400)->z<=1000000->D8 v n z ts<=1000000:=fun ts z k Y=>lG j ts z k Y;have N:Hid (D8 v n 0 [E.f,E.s]<=1000000):=L _ _ i.o aD;have V:Hid (D8 v n (D8 v n 0 [E.f,E.s]) E.body<=1000000):=L _ _ f.b.2 N.o;have X:Hid (D8 v n (D8 v n (D8 v n 0 [E.f,E.s]) E.body) E.behind<=1000000):=L _ _ f.h.2 V.o;clear h m c f;go_enter func201,ntmps201;go_wp2_with fail;go_region_with (go_at_call 210;refine(KW 0 n v _ (.slice (some ⟨_,0,none⟩) 2 2) [E.f,E.s] ⟨[(⟨F,E.f.length,c1⟩,E.f),(⟨C,E.s.length,G⟩,E.s)],Seen.two (x:=⟨F,E.f.length,c1⟩) (y:=⟨C,E.s.length,G⟩) (AJ _ _),u.o _,rfl⟩ aE i.o aD j).mono ?_;rintro r R ⟨rfl,g⟩)
 all_goals
  have l:Below w.heap.size w R:=((bZ _ w).drew.alloc (aX _) _).trans (g.mono aE);have s:EqB R e _ _ _ _ _:=(l.block e H).trans D.o;obtain⟨l0,l1,l2,l3,l4,lf,ll⟩:=s.facts;clear g
  go_wp2_with (first
   |(go_at_call_of 210 (Value.slice M E.body.length S);refine(KW (D8 v n 0 [E.f,E.s]) n v _ (.slice M E.body.length S) E.body (B.o.b.below l) (by have:=d.o.b.1;omega) d.o.b.2 N.o j).mono ?_;rintro r w2 ⟨rfl,K⟩;have b:=l.trans (K.mono l.size);have A:EqB w2 e _ _ _ _ _:=(b.block e H).trans D.o;obtain⟨m0,m1,m2,m3,m4,mf,ml⟩:=A.facts)
   |(go_at_call_of 210 (Value.slice Q E.behind.length T);refine(KW _ n v _ (.slice Q E.behind.length T) E.behind (B.o.h.below b) (by have:=d.o.h.1;omega) d.o.h.2 V.o j).mono ?_;rintro r W ⟨rfl,p⟩;have a:=b.trans (p.mono b.size);have J:EqB W e _ _ _ _ _:=(a.block e H).trans D.o;obtain⟨q0,q1,q2,q3,q4,qf,ql⟩:=J.facts)
   |(go_at_call_of 210 (Value.slice U E.aS.length P);refine(KW _ n v _ (.slice U E.aS.length P) E.aS (B.o.t.below a) (by have:=d.o.t.1;omega) d.o.t.2 X.o j).mono ?_;rintro r w4 ⟨rfl,I⟩;have Z:=a.trans (I.mono a.size)))
  go_ret;exact⟨CL (by rw[PU,PU,PU];rfl),Z⟩
theorem qh.f'{w:World}{e:Nat}{j b d g c a:Value}{E:Eqn}{ps:List AB}(h:qh w j b d g c E)(i:EqB w e j b d g c)(l:Seen w 129 AH a ps):qh (w.setCell ⟨e,0,none⟩ a) a b d g c { E with f:=ps }:=
 have k:=h.set i 0 a
 ⟨l.jv i aF 0 a,k.s,k.b,k.h,k.t⟩
theorem qh.s'{w:World}{e:Nat}{f g c d b a:Value}{E:Eqn}{ps:List AB}(h:qh w f g c d b E)(i:EqB w e f g c d b)(j:Seen w 129 AH a ps):qh (w.setCell ⟨e,1,none⟩ a) f a c d b { E with s:=ps }:=
 have k:=h.set i 1 a
 ⟨k.f,j.jv i aF 1 a,k.b,k.h,k.t⟩
theorem qh.b'{w:World}{e:Nat}{f b i d c a:Value}{E:Eqn}{ps:List (List AB)}(h:qh w f b i d c E)(g:EqB w e f b i d c)(j:ak w a ps):qh (w.setCell ⟨e,2,none⟩ a) f b a d c { E with body:=ps }:=
 have k:=h.set g 2 a
 ⟨k.f,k.s,j.jv g aF aF 2 a,k.h,k.t⟩
theorem qh.h'{w:World}{e:Nat}{f b d i c a:Value}{E:Eqn}{ps:List (List AB)}(h:qh w f b d i c E)(g:EqB w e f b d i c)(j:ak w a ps):qh (w.setCell ⟨e,3,none⟩ a) f b d a c { E with behind:=ps }:=
 have k:=h.set g 3 a
 ⟨k.f,k.s,k.b,j.jv g aF aF 3 a,k.t⟩
theorem qh.t'{w:World}{e:Nat}{f b c d g a:Value}{E:Eqn}{ps:List (List AB)}(h:qh w f b c d g E)(i:EqB w e f b c d g)(j:ak w a ps):qh (w.setCell ⟨e,4,none⟩ a) f b c d a { E with aS:=ps }:=
 have k:=h.set i 4 a
 ⟨k.f,k.s,k.b,k.h,j.jv i aF aF 4 a⟩
theorem PO(v:Int)(w:World)(e:Nat)(E:Eqn)(h:KJ w e E)(ho:aBu E)(a:Option Addr)(nx c:Nat)(x:List AB)(hx:Seen w 129 AH (.slice a nx c) x)(j:1<=x.length)(d0:x.length<=400):Calls prog 186 #[.pointer (some ⟨e,0,none⟩),.int .i64 v,.slice a nx c] w fun r w'=>r= .returned (.int .i64 (A6 E v x).1)/\Kept (fun k=>k=e) w w'/\((A6 E v x).1=0->KJ w' e (A6 E v x).2):=by
 obtain rfl:nx=x.length:=hx.len;have HA:=aO h;obtain⟨vf,vs,vb,vh,vt,hB,H⟩:=h.ex;obtain⟨a1,c1,rfl⟩:=H.f.slice;obtain⟨a2,c2,rfl⟩:=H.s.slice;obtain⟨a3,c3,rfl⟩:=H.b.slice;obtain⟨a4,c4,rfl⟩:=H.h.slice;obtain⟨a5,c5,rfl⟩:=H.t.slice;obtain⟨k0,k1,k2,k3,k4,kf,kl⟩:=hB.facts;have HB:=aO hB;have HE:=aO H;have l:=aO ho;have HX:=aO hx;obtain⟨n,hn⟩:∃n,x.length=n+1:=⟨x.length -1,aD⟩
 have P:=aO hn;clear h hB H ho hx hn;by_cases hc:0<A0 v x
 ·have G:Hid ((A6 E v x).1=8):=by unfold Hid A6;rw[bD hc]
  go_enter func186,ntmps186;go_wp2_with (go_at_call 200;refine(KI v _ a _ c x HX.o aD).mono ?_;rintro r w1 ⟨rfl,b⟩);go_ret;exact⟨CL G.o.symm,Kept.of_below b _,fun e=>by rw[G.o] at e;cases e⟩
 ·have Q:A0 v x=0:=aD;have HC:=aO Q;clear hc Q;by_cases d:200<(E.put v x).size
  ·have G:Hid ((A6 E v x).1=7):=by unfold Hid A6;rw[bC (by have:=HC.o;omega),bD d]
   have f: (200:Int)<(D8 v n 0 (WV E):Nat):=by have:=(jA E v x n P.o).2 d;omega
   clear d;go_enter func186,ntmps186
   go_wp2_with (first
    |(go_at_call 200;refine(KI v _ a _ c x HX.o aD).mono ?_;rintro r w1 ⟨rfl,b⟩;rw[HC.o];have O:KJ w1 e E:=⟨_,_,_,_,_,(b.block e kl).trans HB.o,HE.o.below b⟩)
    |(go_at_call 201;rw[show((x.length:Nat):Int)=(n:Int)+1 from by rw[P.o];rfl];refine(ZO n v _ e E O l.o (by have:=P.o;omega)).mono ?_;rintro r w2 ⟨rfl,L⟩))
   go_ret;exact⟨CL G.o.symm,Kept.of_below (b.trans (L.mono b.size)) _,fun e=>by rw[G.o] at e;cases e⟩
  ·have G:Hid (A6 E v x=(0,E.put v x)):=by unfold Hid A6;rw[bC (by have:=HC.o;omega),bC d]
   have f:¬(200:Int)<(D8 v n 0 (WV E):Nat):=by intro e;exact d ((jA E v x n P.o).1 aD)
   have c9:decide ((200:Int)<(D8 v n 0 (WV E):Nat))=false:=decide_eq_false f;clear d f;go_enter func186,ntmps186
   go_wp2_with (first
    |(go_at_call 200;refine(KI v _ a _ c x HX.o aD).mono ?_;rintro r w1 ⟨rfl,b⟩;rw[HC.o];have O:KJ w1 e E:=⟨_,_,_,_,_,(b.block e kl).trans HB.o,HE.o.below b⟩)
    |(go_at_call 201;rw[show((x.length:Nat):Int)=(n:Int)+1 from by rw[P.o];rfl];refine(ZO n v _ e E O l.o (by have:=P.o;omega)).mono ?_;rintro r w2 ⟨rfl,L⟩;have g:=b.trans (L.mono b.size);have N:EqB w2 e _ _ _ _ _:=(g.block e kl).trans HB.o;have U:=HE.o.below g;obtain⟨l0,l1,l2,l3,l4,lf,ll⟩:=N.facts;have Z:=HX.o.below g)
    |(go_at_call_of 202 (Value.slice a1 E.f.length c1);refine(WT v _ a1 _ c1 E.f U.f (by have:=l.o.f;omega) a _ c x Z aD j).mono ?_;rintro r w3 ⟨b3,n3,d3,rfl,c8,s⟩;have o:EqB w3 e _ _ _ _ _:=(s.block e (AD N)).trans N;have T:=qh.f' (U.below s) o c8;have I:=AK o 0 (Value.slice b3 n3 d3);have b1:=(Z.below s).jv o aF 0 (Value.slice b3 n3 d3);obtain⟨y0,y1,y2,y3,y4,yf,yl⟩:=EqB.facts o;obtain⟨z0,z1,z2,z3,z4,zf,zl⟩:=EqB.facts I)
    |(go_at_call_of 202 (Value.slice a2 E.s.length c2);refine(WT v _ a2 _ c2 E.s T.s (by have:=l.o.s;omega) a _ c x b1 aD j).mono ?_;rintro r w4 ⟨b4,n4,d4,rfl,c6,m⟩;have F:EqB w4 e _ _ _ _ _:=(m.block e (AD I)).trans I;have V:=qh.s' (T.below m) F c6;have K:=AK F 1 (Value.slice b4 n4 d4);have W:=(b1.below m).jv F aF 1 (Value.slice b4 n4 d4);obtain⟨y0,y1,y2,y3,y4,yf,yl⟩:=EqB.facts F;obtain⟨z0,z1,z2,z3,z4,zf,zl⟩:=EqB.facts K)
    |(go_at_call_of 203 (Value.slice a3 E.body.length c3);refine(QG v _ (.slice a3 E.body.length c3) E.body V.b (by have:=l.o.b.1;omega) (fun t ht=>by have:=l.o.b.2 t ht;omega) a _ c x W aD j).mono ?_;rintro r w5 ⟨u5,rfl,b2,B⟩;obtain⟨b5,d5,a7⟩:=b2.slice;rw[aZ] at a7;subst a7;have A:EqB w5 e _ _ _ _ _:=(B.block e (AD K)).trans K;have a6:=qh.b' (V.below B) A b2;have J:=AK A 2 (Value.slice b5 E.body.length d5);have c0:=(W.below B).jv A aF 2 (Value.slice b5 E.body.length d5);obtain⟨y0,y1,y2,y3,y4,yf,yl⟩:=EqB.facts A;obtain⟨z0,z1,z2,z3,z4,zf,zl⟩:=EqB.facts J)
    |(go_at_call_of 203 (Value.slice a4 E.behind.length c4);refine(QG v _ (.slice a4 E.behind.length c4) E.behind a6.h (by have:=l.o.h.1;omega) (fun t ht=>by have:=l.o.h.2 t ht;omega) a _ c x c0 aD j).mono ?_;rintro r w6 ⟨u6,rfl,b0,z⟩;obtain⟨b6,d6,a0⟩:=b0.slice;rw[aZ] at a0;subst a0;have D:EqB w6 e _ _ _ _ _:=(z.block e (AD J)).trans J;have R:=qh.h' (a6.below z) D b0;have M:=AK D 3 (Value.slice b6 E.behind.length d6);have Y:=(c0.below z).jv D aF 3 (Value.slice b6 E.behind.length d6);obtain⟨y0,y1,y2,y3,y4,yf,yl⟩:=EqB.facts D;obtain⟨z0,z1,z2,z3,z4,zf,zl⟩:=EqB.facts M)
    |(go_at_call_of 203 (Value.slice a5 E.aS.length c5);refine(QG v _ (.slice a5 E.aS.length c5) E.aS R.t (by have:=l.o.t.1;omega) (fun t ht=>by have:=l.o.t.2 t ht;omega) a _ c x Y aD j).mono ?_;rintro r w7 ⟨u7,rfl,S,y⟩;obtain⟨b7,d7,a9⟩:=S.slice;rw[aZ] at a9;subst a9;have C:EqB w7 e _ _ _ _ _:=(y.block e (AD M)).trans M;have c7:=qh.t' (R.below y) C S;have a8:=AK C 4 (Value.slice b7 E.aS.length d7);have d1:=(Y.below y).jv C aF 4 (Value.slice b7 E.aS.length d7);obtain⟨y0,y1,y2,y3,y4,yf,yl⟩:=EqB.facts C;obtain⟨z0,z1,z2,z3,z4,zf,zl⟩:=EqB.facts a8))
   go_ret;have X:∀{p q:World},Below p.heap.size p q->∀i u,Kept (fun k=>k=e) p (q.setCell ⟨e,i,none⟩ u):=fun hb i u=>Kept.setCell (p:=⟨e,i,none⟩) (Kept.of_below hb (fun k=>k=e)) (Or.inr rfl) u;refine⟨CL (by rw[G.o]),?_,fun _=>⟨_,_,_,_,_,a8,by rw[G.o];exact c7⟩⟩;exact(((((Kept.of_below g (fun k=>k=e)).trans (X s 0 _) (fun _ _ h=>h)).trans (X m 1 _) (fun _ _ h=>h)).trans (X B 2 _) (fun _ _ h=>h)).trans (X z 3 _) (fun _ _ h=>h)).trans (X y 4 _) (fun _ _ h=>h)
end Go.Proofs.Q
