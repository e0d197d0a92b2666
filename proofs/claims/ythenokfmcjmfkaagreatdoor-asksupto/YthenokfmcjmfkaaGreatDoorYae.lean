import Derived.WalkKit
import Derived.WalkSpells
import Derived.WalkLawsBesides
import Derived.Deep.QuietTactic
import Derived.BigQuiet
import Derived.BigRegion
import Derived.Deep.RegionLaw
import Derived.Test.YthenokfmcjmfkaaGreatDoorProg
import Derived.Test.YthenokfmcjmfkaaGreatDoorYaa
import Derived.Lib.AppendIntMem
import Derived.Deep.LoopGhost
import Derived.Laws.BytesArg
set_option maxHeartbeats 1000000
namespace Go
open Go.RowKit
theorem beq_toList(a b:ByteArray): (a.toList==b.toList)=decide (a=b):=by
 rw[ByteArray.toList_eq,ByteArray.toList_eq];by_cases h:a=b
 ·subst h;simp
 ·rw[decide_eq_false h];refine aY.2 (fun e=>h ?_)
  cases a;cases b;simp at e;rw[e]
def D7(P:Program)(t e:TypeId)(size a:Nat)(z:Value):Prop:=
 P.underlying t=some (.slice e)/\(P.info? e).map (fun i=>(i.zero,i.size,i.bytes))=some (some z,size,a)/\z.cells.size=size/\0<size/\0<a
structure aj{α:Type}(w:World)(base:Nat)(e:TypeId)(size:Nat)(C:α->List Value)(v:Value)(xs:List α):Prop where
 own:w.ownsRow base e size v xs.length (xs.flatMap C)
def Nb(w:World)(b a:Option Nat):Prop:=a=b\/∃k,a=some k/\w.heap.size<=k
theorem Nb.ne{w:World}{b a:Option Nat}{x:Nat}(h:Nb w b a)(c:b≠some x)(hx:x<w.heap.size):a≠some x:=by
 rcases h with rfl|⟨k,rfl,d⟩
 ·exact c
 ·intro e;have:=bF e;omega
theorem Nb.trans{w d:World}{c b a:Option Nat}(h:Nb w c b)(e:Nb d b a)(g:w.heap.size<=d.heap.size):Nb w c a:=by
 rcases e with rfl|⟨k,rfl,f⟩
 ·exact h
 ·exact .inr ⟨k,rfl,aD⟩
theorem GZ{α:Type}{size:Nat}(C:α->List Value)(c:∀x,(C x).length=size)(a:List α): (a.flatMap C).length=a.length*size:=by
 induction a with
 |nil=>simp
 |cons x a b=>rw[List.flatMap_cons,bL,b,c,bM,Nat.add_mul];omega
theorem aBb{P:Program}{α:Type}{t e:TypeId}{size d:Nat}{z:Value}(hE:D7 P t e size d z)(C:α->List Value)(hC:∀x,(C x).length=size)(h1:∀x,∀u∈C x,u.oneCell'=true) (w:World) (F:TypeId) (base:Nat) (v:Value) (f:List α) (m:aj w base e size C v f) (s:Addr) (c:Nat) (b:List α) (hy:1<=b.length) (l:∀j u,(b.flatMap C)[j]?=some u->w.cell? (s.add j)=some u) (X: (f.length+b.length)*d<=140737488355328) (G:base<=w.heap.size):∃g a w',(Builtin.append_ #[t,t] F #[v,.slice (some s) b.length c]).run P w= .ok (.slice (some ⟨g,0,none⟩) (f.length+b.length) a) w'/\aj w' base e size C (.slice (some ⟨g,0,none⟩) (f.length+b.length) a) (f++b)/\ w.grownBy w' v.ownBlock/\Nb w v.ownBlock (some g):=by
 obtain⟨I,e2,M,O,e5⟩:=hE;obtain⟨i,L,Q,q,D⟩:=info_parts e2
 have N:f.length+b.length<=maxLen:=by
  have:=Nat.le_mul_of_pos_right (f.length+b.length) e5;unfold maxLen;omega
 have J:=GZ C hC b
 have o:∀u∈b.flatMap C,u.oneCell'=true:=by
  intro u H;obtain⟨y,_,H⟩:=List.mem_flatMap.1 H;exact h1 y u H
 have S:∀p w',w'.ownsRow w.heap.size e size p (f.length+b.length) (f.flatMap C++b.flatMap C)->∃g a,p= .slice (some ⟨g,0,none⟩) (f.length+b.length) a/\w.heap.size<=g/\aj w' base e size C p (f++b):=by
  intro p w' k;rcases k.2 with⟨_,V⟩|⟨g,a,A,rfl,B,W,R,Z,U,Y⟩
  ·omega
  ·refine⟨g,a,rfl,B,⟨?_⟩⟩;rw[bL,List.flatMap_append];exact⟨k.1,.inr ⟨g,a,A,rfl,aD,W,R,Z,U,Y⟩⟩
 rcases m.own.2 with⟨rfl,V⟩|⟨g,a,A,rfl,a0,W,R,Z,U,Y⟩
 ·have hx:f=[]:=List.eq_nil_of_length_eq_zero V;subst hx;obtain⟨p,w',h,k1,n,_⟩:=run_append_own (P:=P) w w.heap.size t F e i z size d I L Q q D M O (.slice none 0 0) 0 [] (World.ownsRow_nil _ _ _ _) s b.length c (b.flatMap C) J l o (by simpa using N) (by simpa using X) (aX _);obtain⟨g,a,rfl,B,K⟩:=S p w' (by simpa using k1);exact⟨g,a,w',h,K,n,.inr ⟨g,rfl,B⟩⟩
 ·by_cases r:f.length+b.length<=a
  ·obtain⟨w',h,k1,n⟩:=run_append_fits (P:=P) w base t F e i size I L q g f.length a (f.flatMap C) m.own s b.length c (b.flatMap C) J l o r;exact⟨g,a,w',h,⟨by rw[bL,List.flatMap_append];exact k1⟩,n,.inl rfl⟩
  ·obtain⟨p,w',h,k1,n⟩:=run_append_arg_grows (P:=P) w t F e i z size d I L Q q D M O ⟨g,0,none⟩ f.length a (f.flatMap C) m.own.1 (m.own.cells rfl) s b.length c (b.flatMap C) J l aD N X;obtain⟨T,E,rfl,B,K⟩:=S p w' k1;exact⟨T,E,w',h,K,⟨n.os,n.tape,n.output,n.size,fun k hk _=>n.block k hk aE⟩,.inr ⟨T,rfl,B⟩⟩
theorem Z4{P:Program}{α:Type}{t e:TypeId}{size b:Nat}{z:Value}(q:D7 P t e size b z)(C:α->List Value)(B:∀x,(C x).length=size)(y:∀x,∀u∈C x,u.oneCell'=true) {w:World} {o:Oper} {a:Act} {K:Act->World->Prop} {Q:Exit->Act->World->Prop} (s x:Operand) (A:o.op= .call { callee:= .builtin .append,args:=#[s,x],argTypes:=#[t,t] }) (base:Nat) (v:Value) (l:List α) (r:a.eval s=v) (m:aj w base e size C v l) (n:Addr) (c:Nat) (f:List α) (D:1<=f.length) (hx:a.eval x= .slice (some n) f.length c) (k:∀j u,(f.flatMap C)[j]?=some u->w.cell? (n.add j)=some u) (F: (l.length+f.length)*b<=140737488355328) (i:base<=w.heap.size) (h : ∀ g d w', aj w' base e size C (.slice (some ⟨g, 0, none⟩) (l.length + f.length) d) (l ++ f) -> w.grownBy w' v.ownBlock -> Nb w v.ownBlock (some g) ->K (a.put o.dst (.slice (some ⟨g,0,none⟩) (l.length+f.length) d)) w'):o.wp P a w K Q:=by
 obtain⟨g,d,w',E,k1,G,p⟩:=aBb q C B y w o.type base v l m n c f D k F i;unfold Oper.wp execOp;simp only[A,resolve,invoke,builtin,Sem.run_bind,Sem.run_pure,Result.andThen_ok,List.map_toArray,List.map_cons,List.map_nil,r,hx,E];exact h g d w' k1 G p
theorem OY{α:Type}(C:α->List Value)(y:α):[y].flatMap C=C y:=aE
theorem AY{P:Program}{α:Type}{t e:TypeId}{size b:Nat}{z:Value}(r:D7 P t e size b z)(C:α->List Value)(F:∀x,(C x).length=size)(B:∀x,∀u∈C x,u.oneCell'=true) (w:World) {l:Array Oper} {rest:List Oper} {o:Oper} {a:Act} {Q:Exit->Act->World->Prop} (p:o.guard=none) (s x:Operand) (E:o.op= .call { callee:= .builtin .append,args:=#[s,x],argTypes:=#[t,t] }) (base:Nat) (v:Value) (k:List α) (A:a.eval s=v) (m:aj w base e size C v k) (n:Addr) (c:Nat) (y:α) (hx:a.eval x= .slice (some n) 1 c) (i:∀j u,(C y)[j]?=some u->w.cell? (n.add j)=some u) (G: (k.length+1)*b<=140737488355328) (f:base<=w.heap.size) (h : ∀ g d w', aj w' base e size C (.slice (some ⟨g, 0, none⟩) (k.length + 1) d) (k ++ [y]) -> w.grownBy w' v.ownBlock -> Nb w v.ownBlock (some g) ->wpList P l Q rest (a.put o.dst (.slice (some ⟨g,0,none⟩) (k.length+1) d)) w'):wpList P l Q (o::rest) a w:=
 wpList_plain p fun _ D=>Z4 r C F B s x E base v k A m n c [y] (aX _) hx (by rw[OY];exact i) G f fun g d w' k1 H q=>D _ _ (h g d w' k1 H q)
theorem QF{P:Program}{α:Type}{t e:TypeId}{size b:Nat}{z:Value}(y:D7 P t e size b z)(C:α->List Value)(F:∀x,(C x).length=size)(B:∀x,∀u∈C x,u.oneCell'=true) (w:World) {m:Array Oper} {rest:List Oper} {o:Oper} {a:Act} {Q:Exit->Act->World->Prop} (q:o.guard=none) (s x:Operand) (E:o.op= .call { callee:= .builtin .append,args:=#[s,x],argTypes:=#[t,t] }) (base:Nat) (v:Value) (l:List α) (A:a.eval s=v) (n:aj w base e size C v l) (p:Addr) (c:Nat) (f:List α) (G:1<=f.length) (hx:a.eval x= .slice (some p) f.length c) (k:∀j u,(f.flatMap C)[j]?=some u->w.cell? (p.add j)=some u) (H: (l.length+f.length)*b<=140737488355328) (i:base<=w.heap.size) (h : ∀ g d w', aj w' base e size C (.slice (some ⟨g, 0, none⟩) (l.length + f.length) d) (l ++ f) -> w.grownBy w' v.ownBlock -> Nb w v.ownBlock (some g) ->wpList P m Q rest (a.put o.dst (.slice (some ⟨g,0,none⟩) (l.length+f.length) d)) w'):wpList P m Q (o::rest) a w:=
 wpList_plain q fun _ D=>Z4 y C F B s x E base v l A n p c f G hx k H i fun g d w' k1 I r=>D _ _ (h g d w' k1 I r)
theorem ZF{P:Program}{α:Type}{t e:TypeId}{size b:Nat}{z:Value}(k:D7 P t e size b z)(C:α->List Value) (w:World) {c:Array Oper} {rest:List Oper} {o:Oper} {a:Act} {Q:Exit->Act->World->Prop} (f:o.guard=none) (s x:Operand) (r:o.op= .call { callee:= .builtin .append,args:=#[s,x],argTypes:=#[t,t] }) (base:Nat) (v:Value) (g:List α) (l:a.eval s=v) (d:aj w base e size C v g) (hx:a.eval x= .slice none 0 0) (h:wpList P c Q rest (a.put o.dst v) w):wpList P c Q (o::rest) a w:=by
 obtain⟨m,j,A,B,E⟩:=k;obtain⟨i,y,D,p,q⟩:=info_parts j;refine wpList_plain f fun _ n=>?_;have u:=run_append_owned_none (P:=P) w base t o.type e i size m y v g.length (g.flatMap C) d.own;unfold Oper.wp execOp;simp only[r,resolve,invoke,builtin,Sem.run_bind,Sem.run_pure,Result.andThen_ok,List.map_toArray,List.map_cons,List.map_nil,l,hx,u];exact n _ _ h
theorem IM{P:Program}{α:Type}{t e:TypeId}{size b:Nat}{z:Value}(G:D7 P t e size b z)(C:α->List Value)(r:∀x,(C x).length=size)(F:∀x,∀u∈C x,u.oneCell'=true) {w:World} {k:Array Oper} {o:Oper} {a:Act} {K:Act->World->Prop} {Q:Exit->Act->World->Prop} {E:Prop} (n:o.guard=none) (s x:Operand) (q:o.op= .call { callee:= .builtin .append,args:=#[s,x],argTypes:=#[t,t] }) (base:Nat) (v:Value) (i:List α) (A:a.eval s=v) (l:aj w base e size C v i) (p:Addr) (c:Nat) (y:α) (hx:a.eval x= .slice (some p) 1 c) (f:∀j u,(C y)[j]?=some u->w.cell? (p.add j)=some u) (B: (i.length+1)*b<=140737488355328) (d:base<=w.heap.size) (h : ∀ g m w', aj w' base e size C (.slice (some ⟨g, 0, none⟩) (i.length + 1) m) (i ++ [y]) -> w.grownBy w' v.ownBlock -> Nb w v.ownBlock (some g) ->K (a.put o.dst (.slice (some ⟨g,0,none⟩) (i.length+1) m)) w'):if Region.wanted o (yielded k a.tmps)=true then Oper.wp P o a w K Q else E:=by
 have D:Region.wanted o (yielded k a.tmps)=true:=by simp[Region.wanted,n]
 rw[bD D];exact Z4 G C r F s x q base v i A l p c [y] (aX _) hx (by rw[OY];exact f) B d h
theorem BL(w:World)(N:Nat)(b:N=w.heap.size)(x:Value)(t:TypeId):∀j v,[x][j]?=some v->(w.alloc (.cells #[x] t)).cell? ((⟨N,0,none⟩:Addr).add j)=some v:=by
 subst b;intro j v a
 match j,a with
 |0,a=>simp at a;subst a;simp[Addr.add]
 |(j+1),a=>simp at a
theorem aj.nil{α:Type}(w:World)(base:Nat)(e:TypeId)(size:Nat)(C:α->List Value):aj w base e size C (.slice none 0 0) []:=⟨World.ownsRow_nil _ _ _ _⟩
theorem aj.shape{α:Type}{w:World}{base:Nat}{e:TypeId}{size:Nat}{C:α->List Value}{v:Value}{b:List α}(h:aj w base e size C v b): (v= .slice none 0 0/\b=[])\/∃g a,v= .slice (some ⟨g,0,none⟩) b.length a/\base<=g/\g<w.heap.size/\b.length<=a/\a<=maxLen:=by
 rcases h.own.2 with⟨d,c⟩|⟨g,a,f,d,c,j,i,k,_⟩
 ·exact .inl ⟨d,List.eq_nil_of_length_eq_zero c⟩
 ·exact .inr ⟨g,a,d,c,(Array.getElem?_eq_some_iff.1 j).1,i,k⟩
theorem aj.lt{α:Type}{w:World}{base:Nat}{e:TypeId}{size:Nat}{C:α->List Value}{v:Value}{a:List α}(h:aj w base e size C v a):∀k,v.ownBlock=some k->base<=k/\k<w.heap.size:=h.own.lt
theorem aj.below{α:Type}{w w':World}{base:Nat}{e:TypeId}{size:Nat}{C:α->List Value}{v:Value}{b:List α}(h:aj w base e size C v b)(a:Below w.heap.size w w'):aj w' base e size C v b:=
 ⟨h.own.kept (row:=none) ⟨a.os,a.tape,a.output,a.size,fun k c _=>a.block k c⟩ (by cases v.ownBlock<;>simp)⟩
theorem aj.alloc{α:Type}{w:World}{base:Nat}{e:TypeId}{size:Nat}{C:α->List Value}{v:Value}{a:List α}(h:aj w base e size C v a)(o:Obj):aj (w.alloc o) base e size C v a:=⟨h.own.alloc o⟩
theorem aj.drewN{α:Type}{w:World}{base:Nat}{e:TypeId}{size:Nat}{C:α->List Value}{v:Value}{a:List α}(h:aj w base e size C v a)(n:Nat):aj (w.drewN n) base e size C v a:=⟨h.own⟩
theorem aj.setCell{α:Type}{w:World}{base:Nat}{e:TypeId}{size:Nat}{C:α->List Value}{v:Value}{a:List α}(h:aj w base e size C v a)(p:Addr)(u:Value)(b:v.ownBlock≠some p.block):aj (w.setCell p u) base e size C v a:=
 ⟨h.own.kept (row:=some p.block) ⟨rfl,rfl,rfl,by simp[World.setCell],fun k _ c=>Below.heap_setCell _ _ _ _ (fun e=>c (by rw[e]))⟩ (.inr b)⟩
theorem aj.cells{α:Type}{w:World}{base:Nat}{e:TypeId}{size:Nat}{C:α->List Value}(k:∀x,(C x).length=size){g n c:Nat}{a:List α}(h:aj w base e size C (.slice (some ⟨g,0,none⟩) n c) a) (i:Nat) (x:α) (hx:a[i]?=some x) (j:Nat) (u:Value) (f: (C x)[j]?=some u):w.cell? ⟨g,i*size+j,none⟩=some u:=by
 have d:∀(a:List α) (i:Nat),a[i]?=some x->(a.flatMap C)[i*size+j]?=some u:=by
  intro a
  induction a with
  |nil=>intro i b;simp at b
  |cons y m l=>
   intro i b;rw[List.flatMap_cons]
   cases i with
   |zero=>
    simp at b;subst b;rw[Nat.zero_mul,Nat.zero_add,List.getElem?_append_left (by exact(bS.1 f).1)];exact f
   |succ i=>
    simp at b;rw[List.getElem?_append_right (by rw[k];rw[Nat.add_mul];omega),k];have:=l i b
    rwa [show(i+1)*size+j-size=i*size+j by rw[Nat.add_mul];omega]
 have:=h.own.cells (g:=g) rfl (i*size+j) u (d a i hx)
 rwa [Addr.add_lit,Nat.zero_add] at this
theorem RowKit.Below.drewN{B:Nat}{a w:World}(h:Below B a w)(n:Nat):Below B a (w.drewN n):=⟨h.os,h.tape,h.output,h.size,h.block⟩
structure Kept(M:Nat->Prop)(w w':World):Prop where
 os:w'.os=w.os
 tape:w'.tape=w.tape
 output:w'.output=w.output
 size:w.heap.size<=w'.heap.size
 block:∀k,k<w.heap.size->¬M k->w'.heap[k]?=w.heap[k]?
theorem Kept.refl(M:Nat->Prop)(w:World):Kept M w w:=⟨rfl,rfl,rfl,aX _,fun _ _ _=>rfl⟩
theorem Kept.trans{M M':Nat->Prop}{a b c:World}(h:Kept M a b)(k:Kept M' b c)(f:∀i,i<a.heap.size->M' i->M i):Kept M a c:=
 ⟨k.os.trans h.os,k.tape.trans h.tape,k.output.trans h.output,bN h.size k.size,fun i d e=>(k.block i (bH d h.size) (fun x=>e (f i d x))).trans (h.block i d e)⟩
theorem Kept.mono{M M':Nat->Prop}{a b:World}(h:Kept M a b)(e:∀i,i<a.heap.size->M i->M' i):Kept M' a b:=
 ⟨h.os,h.tape,h.output,h.size,fun i c d=>h.block i c (fun x=>d (e i c x))⟩
theorem Kept.of_below{w w':World}(h:Below w.heap.size w w')(M:Nat->Prop):Kept M w w':=⟨h.os,h.tape,h.output,h.size,fun k a _=>h.block k a⟩
theorem Kept.below{w w':World}{B:Nat}{M:Nat->Prop}(h:Kept M w w')(c:B<=w.heap.size)(a:∀k,k<B->¬M k):Below B w w':=⟨h.os,h.tape,h.output,h.size,fun k b=>h.block k aD (a k b)⟩
theorem Kept.alloc{M:Nat->Prop}{a w:World}(h:Kept M a w)(o:Obj):Kept M a (w.alloc o):=
 ⟨h.os,h.tape,h.output,by have:=h.size;simp;omega,fun k c b=>(Below.heap_alloc _ _ _ (by have:=h.size;omega)).trans (h.block k c b)⟩
theorem Kept.drew{M:Nat->Prop}{a w:World}(h:Kept M a w):Kept M a w.drew:=⟨h.os,h.tape,h.output,h.size,h.block⟩
theorem Kept.drewN{M:Nat->Prop}{a w:World}(h:Kept M a w)(n:Nat):Kept M a (w.drewN n):=⟨h.os,h.tape,h.output,h.size,h.block⟩
theorem Kept.setCell{M:Nat->Prop}{a w:World}(h:Kept M a w){p:Addr}(b:a.heap.size<=p.block\/M p.block)(u:Value):Kept M a (w.setCell p u):=by
 refine⟨h.os,h.tape,h.output,by have:=h.size;simpa[World.setCell] using this,fun k d c=>(Below.heap_setCell _ _ _ _ ?_).trans (h.block k d c)⟩;rintro rfl;rcases b with b|b
 ·omega
 ·exact c b
theorem Kept.grown{M:Nat->Prop}{a w w':World}{row:Option Nat}(h:Kept M a w)(b:w.grownBy w' row)(f:∀k,row=some k->a.heap.size<=k\/M k):Kept M a w':=by
 refine⟨b.os.trans h.os,b.tape.trans h.tape,b.output.trans h.output,bN h.size b.size,fun k d c=>(b.block k (bH d h.size) ?_).trans (h.block k d c)⟩;intro e;rcases f k e.symm with x|x
 ·omega
 ·exact c x
theorem Kept.cell{M:Nat->Prop}{w w':World}(h:Kept M w w'){p:Addr}(b:p.block<w.heap.size)(a:¬M p.block):w'.cell? p=w.cell? p:=World.cell?_of_block (h.block p.block b a)
theorem Kept.owns{M:Nat->Prop}{w w':World}(h:Kept M w w'){base:Nat}{e:TypeId}{size:Nat}{v:Value}{n:Nat}{i:List Value}(f:w.ownsRow base e size v n i)(j:∀k,v.ownBlock=some k->¬M k):w'.ownsRow base e size v n i:=by
 refine⟨f.1,?_⟩;rcases f.2 with a|⟨g,d,c,rfl,l,b,rest⟩
 ·exact .inl a
 ·refine .inr ⟨g,d,c,rfl,l,?_,rest⟩;rw[h.block g (Array.getElem?_eq_some_iff.1 b).1 (j g rfl)];exact b
theorem aj.keptBy{α:Type}{M:Nat->Prop}{w w':World}{base:Nat}{e:TypeId}{size:Nat}{C:α->List Value}{v:Value}{a:List α}(h:aj w base e size C v a)(c:Kept M w w')(b:∀k,v.ownBlock=some k->¬M k):aj w' base e size C v a:=⟨c.owns h.own b⟩
theorem FI{w:World}{base a:Nat}{e:TypeId}{size:Nat}{v:Value}{n:Nat}{h:List Value}(f:w.ownsRow base e size v n h)(i:∀k,v.ownBlock=some k->a<=k):w.ownsRow a e size v n h:=by
 refine⟨f.1,?_⟩;rcases f.2 with b|⟨g,d,c,rfl,j,rest⟩
 ·exact .inl b
 ·exact .inr ⟨g,d,c,rfl,i g rfl,rest⟩
theorem aj.typed{α:Type}{w:World}{base:Nat}{e:TypeId}{size:Nat}{C:α->List Value}{v:Value}{c:List α}(h:aj w base e size C v c):∀k,v.ownBlock=some k->∃cs,w.heap[k]?=some (.cells cs e (0,0)):=by
 intro k b;rcases h.own.2 with⟨rfl,_⟩|⟨g,d,a,rfl,_,f,_⟩
 ·cases b
 ·obtain rfl:g=k:=bF b;exact⟨a,f⟩
theorem bl0(B:Nat)(w:World):Below B w w:=Below.refl B w
theorem bl1{B:Nat}{a w:World}(h:Below B a w){p:Addr}(b:B≤p.block)(u:Value):Below B a (w.setCell p u):=h.setCell b u
theorem bl2{B:Nat}{a w:World}(h:Below B a w):Below B a w.drew:=h.drew
theorem bl3{B:Nat}{a w:World}(h:Below B a w)(n:Nat):Below B a (w.drewN n):=h.drewN n
theorem bl4{B:Nat}{a w:World}(h:Below B a w)(b:B≤w.heap.size)(o:Obj):Below B a (w.alloc o):=h.alloc b o
theorem aM{B:Nat}{a w:World}(h:Below B a w:=by repeat(first|exact bl0 _ _|refine bl1 ?_ aI _|refine bl2 ?_|refine bl3 ?_ _|refine bl4 ?_ aI _)):Below B a w:=h
theorem aK{p:Prop}(h:p:=by kernel_rfl):p:=h
theorem aO{p:Prop}(h:p):RowKit.Hid p:=h
theorem RowKit.Hid.o{p:Prop}(h:RowKit.Hid p):p:=h
theorem bZ:type_of% @Below.refl:=@Below.refl
theorem cD:type_of% @World.cell?_of_block:=@World.cell?_of_block
theorem cE:type_of% @World.size_alloc:=@World.size_alloc
theorem cF:type_of% @Below.heap_setCell:=@Below.heap_setCell
theorem QE(M:Nat→Prop)(w:World):Kept M w w:=Kept.refl M w
theorem QL{M:Nat→Prop}{a w:World}(h:Kept M a w){p:Addr}(b:a.heap.size≤p.block∨M p.block)(u:Value):Kept M a (w.setCell p u):=h.setCell b u
theorem P6{M:Nat→Prop}{a w:World}(h:Kept M a w):Kept M a w.drew:=h.drew
theorem QU{M:Nat→Prop}{a w:World}(h:Kept M a w)(n:Nat):Kept M a (w.drewN n):=h.drewN n
theorem QN{M:Nat→Prop}{a w:World}(h:Kept M a w)(o:Obj):Kept M a (w.alloc o):=h.alloc o
end Go
namespace Go.Proofs.Q
open Rf _root_.Go.Proofs.Tryz
open Go.RowKit
theorem C5{a b:Bool}(h:a=b):Ending.returned (.bool a)= .returned (.bool b):=by rw[h]
theorem CL{k:IntKind}{a b:Int}(h:a=b):Ending.returned (.int k a)= .returned (.int k b):=by rw[h]
theorem E7{a b:ByteArray}(h:a=b):Ending.returned (.string a)= .returned (.string b):=by rw[h]
theorem AA{w:World}{b:Nat}{c:Array Value}{t:TypeId}(h:w.heap[b]?=some (.cells c t (0,0)))(i:Nat):w.cell? ⟨b,i,none⟩=c[i]?:=by
 simp[World.cell?,h]
theorem cI{w:World}{b:Nat}{c:Array Value}{t:TypeId}(h:w.heap[b]?=some (.cells c t (0,0))):w.cell? ⟨b,0,none⟩=c[0]?/\w.cell? ⟨b,1,none⟩=c[1]?:=⟨AA h 0,AA h 1⟩
theorem cJ{w:World}{b:Nat}{c:Array Value}{t:TypeId}(h:w.heap[b]?=some (.cells c t (0,0))):w.cell? ⟨b,0,none⟩=c[0]?/\w.cell? ⟨b,1,none⟩=c[1]?/\w.cell? ⟨b,2,none⟩=c[2]?:=⟨AA h 0,AA h 1,AA h 2⟩
theorem cM{w:World}{b:Nat}{c:Array Value}{t:TypeId}(h:w.heap[b]?=some (.cells c t (0,0))):w.cell? ⟨b,0,none⟩=c[0]?/\w.cell? ⟨b,1,none⟩=c[1]?/\w.cell? ⟨b,2,none⟩=c[2]?/\w.cell? ⟨b,3,none⟩=c[3]?:=⟨AA h 0,AA h 1,AA h 2,AA h 3⟩
theorem cO{w:World}{b:Nat}{c:Array Value}{t:TypeId}(h:w.heap[b]?=some (.cells c t (0,0))):w.cell? ⟨b,0,none⟩=c[0]?/\w.cell? ⟨b,1,none⟩=c[1]?/\w.cell? ⟨b,2,none⟩=c[2]?/\w.cell? ⟨b,3,none⟩=c[3]?/\w.cell? ⟨b,4,none⟩=c[4]?:=⟨AA h 0,AA h 1,AA h 2,AA h 3,AA h 4⟩
theorem cQ{w:World}{b:Nat}{c:Array Value}{t:TypeId}(h:w.heap[b]?=some (.cells c t (0,0))):w.cell? ⟨b,0,none⟩=c[0]?/\w.cell? ⟨b,1,none⟩=c[1]?/\w.cell? ⟨b,2,none⟩=c[2]?/\w.cell? ⟨b,3,none⟩=c[3]?/\w.cell? ⟨b,4,none⟩=c[4]?/\w.cell? ⟨b,5,none⟩=c[5]?:=⟨AA h 0,AA h 1,AA h 2,AA h 3,AA h 4,AA h 5⟩
theorem cS{w:World}{b:Nat}{c:Array Value}{t:TypeId}(h:w.heap[b]?=some (.cells c t (0,0))):w.cell? ⟨b,0,none⟩=c[0]?/\w.cell? ⟨b,1,none⟩=c[1]?/\w.cell? ⟨b,2,none⟩=c[2]?/\w.cell? ⟨b,3,none⟩=c[3]?/\w.cell? ⟨b,4,none⟩=c[4]?/\w.cell? ⟨b,5,none⟩=c[5]?/\w.cell? ⟨b,6,none⟩=c[6]?:=⟨AA h 0,AA h 1,AA h 2,AA h 3,AA h 4,AA h 5,AA h 6⟩
theorem cV{w:World}{b:Nat}{c:Array Value}{t:TypeId}(h:w.heap[b]?=some (.cells c t (0,0))):w.cell? ⟨b,0,none⟩=c[0]?/\w.cell? ⟨b,1,none⟩=c[1]?/\w.cell? ⟨b,2,none⟩=c[2]?/\w.cell? ⟨b,3,none⟩=c[3]?/\w.cell? ⟨b,4,none⟩=c[4]?/\w.cell? ⟨b,5,none⟩=c[5]?/\w.cell? ⟨b,6,none⟩=c[6]?/\w.cell? ⟨b,7,none⟩=c[7]?:=⟨AA h 0,AA h 1,AA h 2,AA h 3,AA h 4,AA h 5,AA h 6,AA h 7⟩
theorem AE{w:World}{b:Nat}{c:Array Value}{t:TypeId}(h:w.heap[b]?=some (.cells c t (0,0)))(i:Nat):w.frozen? ⟨b,i,none⟩=false:=by
 simp[World.frozen?,h]
theorem AD{w:World}{b:Nat}{o:Obj}(h:w.heap[b]?=some o):b<w.heap.size:=(Array.getElem?_eq_some_iff.1 h).1
theorem AK{w:World}{b:Nat}{c:Array Value}{t:TypeId}(h:w.heap[b]?=some (.cells c t (0,0)))(i:Nat)(v:Value): (w.setCell ⟨b,i,none⟩ v).heap[b]?=some (.cells (c.setIfInBounds i v) t (0,0)):=by
 simp[World.setCell,Array.getElem?_modify,h]
theorem AF{w:World}{b:Nat}{o:Obj}(h:w.heap[b]?=some o)(x:Obj): (w.alloc x).heap[b]?=some o:=(Below.heap_alloc w x b (AD h)).trans h
theorem AJ(w:World)(x:Obj): (w.alloc x).heap[w.heap.size]?=some x:=heap_alloc_new w x
theorem AZ(w:World)(x:Obj)(N:Nat)(h:N=w.heap.size): (w.alloc x).heap[N]?=some x:=by subst h;exact heap_alloc_new w x
def A3(s:ByteArray):List Value:=[.string s]
def May(b:Nat)(a:Option Nat)(k:Nat):Prop:=k=b\/some k=a
theorem F0(t:Rf.Tok)(e:Int)(h: (t.k==63)=false):BR t e=(e,t.at_):=by
 unfold BR;rw[bC (aY.1 h)]
theorem WG{t:Rf.Tok}{l:List Rf.Tok}{e:Int}(h:iq (t::l))(a:e≠0): (BR t e).1≠0:=by
 unfold BR;split
 ·exact h.bad ‹_›
 ·exact a
def New(w w':World)(a:Option Nat)(k:Nat):Prop:=w.heap.size<=k/\k<w'.heap.size/\a≠some k
theorem C7(s:ByteArray): (A3 s).length=1:=rfl
theorem HJ(s:ByteArray):∀u∈A3 s,u.oneCell'=true:=by intro u a;simp[A3] at a;subst a;rfl
theorem Tryz.Aa:D7 prog 54 9 1 16 (.string ⟨#[]⟩):=⟨underlying54,aK,rfl,aF,aF⟩
def Cm(t:Rf.Tok)(ns:List ByteArray)(j:Nat):Prop:=t.s=JT\/ns[j]?≠some t.s
theorem eC{t:Rf.Tok}{ns:List ByteArray}(h:∀j,j<ns.length->Cm t ns j):N5 t.s ns=none:=by
 unfold N5;split
 ·rfl
 ·rename_i b;rw[List.findIdx?_eq_none_iff];intro x hx;obtain⟨j,a,rfl⟩:=List.getElem_of_mem hx;rcases h j a with h|h
  ·exact absurd h b
  ·simp only[List.getElem?_eq_getElem a] at h;exact decide_eq_false (fun e=>h (by rw[e]))
theorem dT{t:Rf.Tok}{ns:List ByteArray}{k:Nat}(b:t.s≠JT)(d:ns[k]?=some t.s)(h:∀j,j<k->Cm t ns j):N5 t.s ns=some k:=by
 unfold N5;obtain⟨a,e⟩:=bS.1 d;rw[bC b,List.findIdx?_eq_some_iff_getElem];refine⟨a,by rw[e];exact decide_eq_true rfl,fun j c=>?_⟩;rcases h j c with h|h
 ·exact absurd h b
 ·simp only[List.getElem?_eq_getElem (show j<ns.length by omega)] at h;simp only[Bool.not_eq_true];exact decide_eq_false (fun e=>h (by rw[e]))
theorem Cm.step{t:Rf.Tok}{ns:List ByteArray}{k:Nat}(h:∀j,j<k->Cm t ns j)(b:Cm t ns k):∀j,j<k+1->Cm t ns j:=by
 intro j c;rcases Nat.lt_or_ge j k with a|a
 ·exact h j a
 ·obtain rfl:j=k:=aD;exact b
theorem May.of{w:World}{b:Nat}{a nb1:Option Nat}(h:Nb w a nb1):∀k,k<w.heap.size->May b nb1 k->May b a k:=by
 intro k d c;rcases c with e|e
 ·exact .inl e
 ·rcases h with rfl|⟨x,rfl,hx⟩
  ·exact .inr e
  ·have:=bF e;omega
def SQ(n:Int)(d b a e f c:Bool):Bool:=(n==0&&(d||b))||(n==1&&a)||(n==2&&(e||f))||(n==3&&c)
theorem oZ(s:ByteArray)(l:List UInt8):decide (s=⟨l.toArray⟩)=(s.toList==l):=by
 rw[<-beq_toList s ⟨l.toArray⟩];simp[ByteArray.toList_eq]
theorem VI(s:ByteArray)(n:Int):B3 s n=SQ n (s.toList==[116,114,117,101]) (s.toList==[102,97,105,108]) (s.toList==[110,111,116]) (s.toList==[101,113]) (s.toList==[108,101,115,115]) (s.toList==[112,108,117,115]):=by
 unfold B3 SQ;simp only[<-oZ]
theorem EX(w:World)(N:Nat)(b:N=w.heap.size)(x y:Value)(t:TypeId):∀j v,[x,y][j]?=some v->(w.alloc (.cells #[x,y] t)).cell? ((⟨N,0,none⟩:Addr).add j)=some v:=by
 subst b;intro j v a
 match j,a with
 |0,a=>simp at a;subst a;simp[Addr.add]
 |1,a=>simp at a;subst a;simp[Addr.add]
 |(j+2),a=>simp at a
theorem fK{f:Nat}{l:List Rf.Tok}{ns:List ByteArray}{p:List AB}{c:List Rf.Tok}{b:List ByteArray}(h:BS f l ns= .ok (p,c,b)):c.length<l.length:=by
 cases l with
 |nil=>cases h
 |cons t l=>
  simp only[BS] at h;split at h
  ·simp only[cX,cY] at h;obtain⟨_,rfl,_⟩:=h;simp
  ·cases a:AM f (t::l) ns with
   |error x=>rw[a] at h;cases h
   |ok x=>
    obtain⟨g,e,d⟩:=x;rw[a] at h;simp only at h;split at h
    ·simp only[cX,cY] at h;obtain⟨_,rfl,_⟩:=h;exact GY f _ _ _ _ _ a
    ·cases h
theorem May.none{b:Nat}{a:Option Nat}:∀k,May b none k->May b a k:=by
 intro k h;rcases h with h|h
 ·exact .inl h
 ·cases h
theorem U7(c:List AB×List (List AB))(u:Rf.Tok)(l:List Rf.Tok)(ns:List ByteArray)(h: (u.k !=46)=false):JF c (u::l) ns= .ok (⟨c.1,c.2,ns.length⟩,l):=by
 simp only[JF];rw[bD (by simpa using h)]
theorem OL(c:List AB×List (List AB))(u:Rf.Tok)(l:List Rf.Tok)(ns:List ByteArray)(h: (u.k !=46)=true):JF c (u::l) ns= .error (BR u 2):=by
 simp only[JF];rw[bC (by simpa using h)]
def Fb(w wr:World)(b:Nat)(a:Option Nat)(k:Nat):Prop:=w.heap.size<=k/\k<wr.heap.size/\a≠some k/\k≠b
def Tab(w:World):Prop:=Lib.TabIs prog w "internal/strconv.uint64pow10" .u64 Lib.pow10Tab
theorem Tab.below{w w':World}(h:Tab w)(a:Below w.heap.size w w'):Tab w':=Lib.tabBelow_of_tabIs h w' a
theorem NU(w:World)(k:Nat)(a:Array Obj):Below w.heap.size w (Sort.grow (w.drewN k) a):=Lib.below_grow _ w (aX _) k a
def g8(a:Cl):Prop:=(∀x∈a.head,Rf.Good x)/\a.head.length<=100000/\(∀q∈a.body,(∀x∈q,Rf.Good x)/\q.length<=100000)
def G8(cls:List Cl)(s:ByteArray): (Int×Nat)×List Cl:=
 match CR s with
 | .error e=>(e,cls)
 | .ok new=>if 30<cls.length+new.length then((6,0),cls) else((0,0),cls++new)
theorem pO{F:Nat->Prop}{w w':World}{y:Nat}(a:¬F y)(b:y<w.heap.size):¬(F y\/(w.heap.size<=y/\y<w'.heap.size)):=by
 intro h;rcases h with h|h
 ·exact a h
 ·omega
theorem GW(c:Int)(w:World):Calls prog 110 #[.int .u8 c] w fun e w'=>e= .returned (.bool (IE c))/\w'=w:=by
 go_enter func110,ntmps110;go_wp2
 all_goals go_ret
 all_goals refine⟨C5 ?_,rfl⟩
 all_goals(unfold IE;rw[Bool.eq_iff_iff];simp;try omega)
theorem GX(c:Int)(w:World):Calls prog 112 #[.int .u8 c] w fun e w'=>e= .returned (.bool (IX c))/\w'=w:=by
 go_enter func112,ntmps112;go_wp2
 all_goals go_ret
 all_goals refine⟨C5 ?_,rfl⟩
 all_goals(unfold IX;rw[Bool.eq_iff_iff];simp;try omega)
theorem CP(c:Int)(w:World):Calls prog 113 #[.int .u8 c] w fun e w'=>e= .returned (.bool (A9 c))/\w'=w:=by
 go_enter func113,ntmps113;go_wp2
 all_goals go_ret
 all_goals refine⟨C5 ?_,rfl⟩
 all_goals(unfold A9;rw[Bool.eq_iff_iff];simp;try omega)
theorem nY(c:Int):B9 c=(IE c||IX c||A9 c||c==95):=by
 unfold B9 IE IX A9;rw[Bool.eq_iff_iff];simp;omega
theorem R0(c:Int)(w:World):Calls prog 145 #[.int .u8 c] w fun e w'=>e= .returned (.bool (B9 c))/\w'=w:=by
 have b:=aO (nY c)
 cases f:IE c<;>cases d:IX c<;>cases a:A9 c
 all_goals
  go_enter func145,ntmps145;go_wp2_with (first|(go_at_call 110;refine(GW _ _).mono ?_;rintro e w' ⟨rfl,rfl⟩)|(go_at_call 112;refine(GX _ _).mono ?_;rintro e w' ⟨rfl,rfl⟩)|(go_at_call 113;refine(CP _ _).mono ?_;rintro e w' ⟨rfl,rfl⟩))
  all_goals go_ret
  all_goals exact⟨C5 (by rw[b.o,f,d,a];simp),rfl⟩
theorem E8(s:ByteArray)(n:Nat)(w:World)(hs:s.size<=400)(hn:n<=s.size):Calls prog 109 #[.string s,.int .i64 n] w fun e w'=>e= .returned (.int .i64 (n+B8 s n:Nat))/\w'=w:=by
  have hle:=RY s n;go_enter func109,ntmps109;go_wp2;go_loop [1] (fun i=>∃k:Nat,n<=k/\k<=s.size/\i= .int .i64 k/\Hid (k+B8 s k=n+B8 s n)) (fun i=>s.size -(intOf i).toNat)
  case atStart=>exact⟨n,aD,aD,rfl,rfl⟩
  case round=>
    obtain⟨k,hk1,hk2,rfl,hk⟩:=hrel;by_cases hlt:k<s.size
    · have hb:=BF s k hlt
      have hy:Hid (GJ (s[k].toNat:Int)=true->k+1+B8 s (k+1)=n+B8 s n):=by
        intro h;rw[hb] at h;have:=VL s k hlt h;have:=hk.o;omega
      have hno:Hid (GJ (s[k].toNat:Int)=false->k=n+B8 s n):=by
        intro h;rw[hb] at h;have:=XA s k hlt h;have:=hk.o;omega
      clear hb
      cases h32: ((s[k].toNat:Int)==32)<;>cases h10: ((s[k].toNat:Int)==10)
      all_goals
        go_wp2
        first
        | (go_round
           case rel=>exact⟨k+1,aD,aD,by go_num,hy.o (by simp only[GJ,h32,h10];rfl)⟩
           case measure=>simp[intOf];omega)
        | (go_ret
           exact⟨CL (by have h9:=hno.o (by simp only[GJ,h32,h10];rfl);omega),rfl⟩)
    · have hend:Hid (k=n+B8 s n):=by have:=QR s k aD;have:=hk.o;unfold Hid;omega
      go_wp2;go_ret;exact⟨CL (by have h9:=hend.o;omega),rfl⟩
theorem OH(s:ByteArray)(n:Nat)(K:Int)(w:World)(A:s.size<=400)(B:n<=s.size):Calls prog 111 #[.string s,.int .i64 n,.int .i64 K] w fun e w'=>e= .returned (.agg #[.int .i64 (LR (AN s false n) K),.int .i64 n,.int .i64 ((n:Int)+AN s false n),.int .i64 (LY (AN s false n))])/\Below w.heap.size w w':=by
 have j:=GD s false n;go_enter func111,ntmps111;go_wp2_with fail;go_loop [7] (fun i=>∃k:Nat,n<=k/\k<=s.size/\i= .int .i64 k/\Hid (k+AN s false k=n+AN s false n)) (fun i=>s.size -(intOf i).toNat)
 case atStart=>exact⟨n,aD,aD,rfl,rfl⟩
 case round=>
  obtain⟨k,t,y,rfl,l⟩:=hrel
  have b: (k<s.size/\∃h:k<s.size,B9 (s[k].toNat:Int)=true)\/(Hid (k=n+AN s false n)/\(s.size<=k\/∃h:k<s.size,B9 (s[k].toNat:Int)=false)):=by
   by_cases a:k<s.size
   ·have m:=BF s k a
    cases c:B9 (s[k].toNat:Int)
    ·refine .inr ⟨?_,.inr ⟨a,c⟩⟩;rw[m,<-XQ] at c;have:=PQ s false k a c;have:=l.o;unfold Hid;omega
    ·exact .inl ⟨a,a,c⟩
   ·exact .inr ⟨by have:=LS s false k aD;have:=l.o;unfold Hid;omega,.inl aD⟩
  rcases b with⟨a,_,c⟩|⟨r,o⟩
  ·have z:Hid (k+1+AN s false (k+1)=n+AN s false n):=by
    have m:=BF s k a;have f:=c;rw[m,<-XQ] at f;have:=JH s false k a f;have:=l.o;unfold Hid;omega
   go_wp2_with (go_at_call 145;refine(R0 _ _).mono ?_;rintro e w' ⟨rfl,rfl⟩);go_round
   case rel=>exact⟨k+1,aD,aD,by go_num,z⟩
   case measure=>simp[intOf];omega
  ·generalize p:AN s false n=L at*;have q:=aO p;have d:Hid (L=k-n):=by have:=r.o;unfold Hid;omega
   clear p j;rcases o with o|⟨a,c⟩
   all_goals
    by_cases x:12<k-n
    ·have g: (12:Int)<(k:Int)-n:=aD;go_wp2_with (go_at_call 145;refine(R0 _ _).mono ?_;rintro e w' ⟨rfl,rfl⟩);refine bodyPost_ret (v:= .agg #[.int .i64 1,.int .i64 n,.int .i64 (k:Int),.int .i64 3]) (by simp[results,results111,go_sem]) rfl ⟨?_,(Below.refl _ _).alloc (aX _) _⟩;have u:=d.o;rw[q.o];unfold LR LY;rw[bD aD,bD aD,show((n:Int)+(L:Int))=(k:Int) by omega]
    ·have g: (k:Int)-n<=12:=aD;go_wp2_with (go_at_call 145;refine(R0 _ _).mono ?_;rintro e w' ⟨rfl,rfl⟩);refine bodyPost_ret (v:= .agg #[.int .i64 K,.int .i64 n,.int .i64 (k:Int),.int .i64 0]) (by simp[results,results111,go_sem]) rfl ⟨?_,(Below.refl _ _).alloc (aX _) _⟩;have u:=d.o;rw[q.o];unfold LR LY;rw[bC aD,bC aD,show((n:Int)+(L:Int))=(k:Int) by omega]
theorem ZM(s:ByteArray)(n:Nat)(w:World)(g:s.size<=400)(f:n<s.size):Calls prog 115 #[.string s,.int .i64 n] w fun e w'=>e= .returned (.agg #[.int .i64 (T6 s n),.int .i64 n,.int .i64 (TR s n),.int .i64 (T5 s n)])/\Below w.heap.size w w':=by
 by_cases c:n+1<s.size
 ·have b:=BF s (n+1) c
  cases d: ((s[n+1].toNat:Int)==45)
  ·have a:Hid (¬(n+1<s.size/\BA s (n+1)=45)):=by rw[<-b];exact fun h=>aY.1 d h.2
   clear b;go_enter func115,ntmps115;go_wp2;refine bodyPost_ret (v:= .agg #[.int .i64 1,.int .i64 n,.int .i64 ((n:Int)+1),.int .i64 2]) (by simp[results,results115,go_sem]) rfl ⟨?_,(Below.refl _ _).alloc (aX _) _⟩;unfold T6 TR T5;rw[bC a.o,bC a.o,bC a.o]
  ·have a:Hid (n+1<s.size/\BA s (n+1)=45):=by rw[<-b];exact⟨c,bT d⟩
   clear b;go_enter func115,ntmps115;go_wp2;refine bodyPost_ret (v:= .agg #[.int .i64 10,.int .i64 n,.int .i64 ((n:Int)+1+1),.int .i64 0]) (by simp[results,results115,go_sem]) rfl ⟨?_,(Below.refl _ _).alloc (aX _) _⟩;unfold T6 TR T5;rw[bD a.o,bD a.o,bD a.o,show((n:Int)+1+1)=(n:Int)+2 by omega]
 ·have a:Hid (¬(n+1<s.size/\BA s (n+1)=45)):=fun h=>c h.1;go_enter func115,ntmps115;go_wp2;refine bodyPost_ret (v:= .agg #[.int .i64 1,.int .i64 n,.int .i64 ((n:Int)+1),.int .i64 2]) (by simp[results,results115,go_sem]) rfl ⟨?_,(Below.refl _ _).alloc (aX _) _⟩;unfold T6 TR T5;rw[bC a.o,bC a.o,bC a.o]
theorem MC{a b c d e g f:Int}(j:a=e)(i:c=g)(h:d=f):Ending.returned (.agg #[.int .i64 a,.int .i64 b,.int .i64 c,.int .i64 d])= .returned (.agg #[.int .i64 e,.int .i64 b,.int .i64 g,.int .i64 f]):=by rw[j,i,h]
theorem ZZ(s:ByteArray)(n:Nat)(w:World)(G:s.size<=400)(H:n<s.size)(C: ((s[n].toNat:Int)==45)=true):Calls prog 114 #[.string s,.int .i64 n] w fun e w'=>e= .returned (.agg #[.int .i64 (LW (AN s true (n+1))),.int .i64 n,.int .i64 ((((n+1):Nat):Int)+AN s true (n+1)),.int .i64 (LP (AN s true (n+1)))])/\Below w.heap.size w w':=by
 have o:=GD s true (n+1);go_enter func114,ntmps114;go_wp2_with fail;go_loop [6] (fun i=>∃k:Nat,(n+1)<=k/\k<=s.size/\i= .int .i64 k/\Hid (k+AN s true k=(n+1)+AN s true (n+1))) (fun i=>s.size -(intOf i).toNat)
 case atStart=>exact⟨(n+1),aD,aD,by go_num,rfl⟩
 case round=>
  obtain⟨k,A,E,rfl,q⟩:=hrel
  have b: (k<s.size/\∃h:k<s.size,A9 (s[k].toNat:Int)=true)\/(Hid (k=(n+1)+AN s true (n+1))/\(s.size<=k\/∃h:k<s.size,A9 (s[k].toNat:Int)=false)):=by
   by_cases a:k<s.size
   ·have r:=BF s k a
    cases d:A9 (s[k].toNat:Int)
    ·refine .inr ⟨?_,.inr ⟨a,d⟩⟩;rw[r,<-PJ] at d;have:=PQ s true k a d;have:=q.o;unfold Hid;omega
    ·exact .inl ⟨a,a,d⟩
   ·exact .inr ⟨by have:=LS s true k aD;have:=q.o;unfold Hid;omega,.inl aD⟩
  rcases b with⟨a,_,d⟩|⟨y,t⟩
  ·have F:Hid (k+1+AN s true (k+1)=(n+1)+AN s true (n+1)):=by
    have r:=BF s k a;have g:=d;rw[r,<-PJ] at g;have:=JH s true k a g;have:=q.o;unfold Hid;omega
   go_wp2_with (go_at_call 113;refine(CP _ _).mono ?_;rintro e w' ⟨rfl,rfl⟩);go_round
   case rel=>exact⟨k+1,aD,aD,by go_num,F⟩
   case measure=>simp[intOf];omega
  ·generalize u:AN s true (n+1)=L at*;have p:=aO u;have c:Hid (L=k-(n+1)):=by have:=y.o;unfold Hid;omega
   clear u o;rcases t with t|⟨a,d⟩
   all_goals
    rcases(show k=(n+1)\/((n+1)<k/\k-(n+1)<=9)\/9<k-(n+1) by omega) with l|⟨l,D⟩|l
    ·have j: ((k:Int)==(((n+1):Nat):Int))=true:=by rw[beq_iff_eq];omega
     simp only[Int.natCast_add,Int.natCast_one] at j;have z:=aO l;clear l;go_wp2_with (go_at_call 113;refine(CP _ _).mono ?_;rintro e w' ⟨rfl,rfl⟩)
     all_goals have x:=c.o
     all_goals have B:=z.o
     all_goals refine bodyPost_ret (v:= .agg #[.int .i64 1,.int .i64 n,.int .i64 (k:Int),.int .i64 2]) (by simp[results,results114,go_sem]) rfl ⟨?_,(Below.refl _ _).alloc (aX _) _⟩
     all_goals have f:=p.o
     all_goals exact MC (by unfold LW;rw[bD aD]) aD (by unfold LP;rw[bD aD])
    ·have j: ((k:Int)==(((n+1):Nat):Int))=false:=by rw[aY];omega
     have m: (k:Int)-(((n+1):Nat):Int)<=9:=aD;simp only[Int.natCast_add,Int.natCast_one] at j m;go_wp2_with (go_at_call 113;refine(CP _ _).mono ?_;rintro e w' ⟨rfl,rfl⟩);have x:=c.o;refine bodyPost_ret (v:= .agg #[.int .i64 4,.int .i64 n,.int .i64 (k:Int),.int .i64 0]) (by simp[results,results114,go_sem]) rfl ⟨?_,(Below.refl _ _).alloc (aX _) _⟩;have f:=p.o;exact MC (by unfold LW;rw[bC aD,bC aD]) aD (by unfold LP;rw[bC aD,bC aD])
    ·have j: ((k:Int)==(((n+1):Nat):Int))=false:=by rw[aY];omega
     have m:9<(k:Int)-(((n+1):Nat):Int):=aD;simp only[Int.natCast_add,Int.natCast_one] at j m;go_wp2_with (go_at_call 113;refine(CP _ _).mono ?_;rintro e w' ⟨rfl,rfl⟩);have x:=c.o;refine bodyPost_ret (v:= .agg #[.int .i64 1,.int .i64 n,.int .i64 (k:Int),.int .i64 3]) (by simp[results,results114,go_sem]) rfl ⟨?_,(Below.refl _ _).alloc (aX _) _⟩;have f:=p.o;exact MC (by unfold LW;rw[bC aD,bD aD]) aD (by unfold LP;rw[bC aD,bD aD])
theorem dO(s:ByteArray)(n:Nat)(w:World)(G:s.size<=400)(H:n<s.size)(C: ((s[n].toNat:Int)==45)=false):Calls prog 114 #[.string s,.int .i64 n] w fun e w'=>e= .returned (.agg #[.int .i64 (LW (AN s true n)),.int .i64 n,.int .i64 (((n:Nat):Int)+AN s true n),.int .i64 (LP (AN s true n))])/\Below w.heap.size w w':=by
 have l:=GD s true n;go_enter func114,ntmps114;go_wp2_with fail;go_loop [6] (fun i=>∃k:Nat,n<=k/\k<=s.size/\i= .int .i64 k/\Hid (k+AN s true k=n+AN s true n)) (fun i=>s.size -(intOf i).toNat)
 case atStart=>exact⟨n,aD,aD,by go_num,rfl⟩
 case round=>
  obtain⟨k,A,E,rfl,o⟩:=hrel
  have b: (k<s.size/\∃h:k<s.size,A9 (s[k].toNat:Int)=true)\/(Hid (k=n+AN s true n)/\(s.size<=k\/∃h:k<s.size,A9 (s[k].toNat:Int)=false)):=by
   by_cases a:k<s.size
   ·have p:=BF s k a
    cases d:A9 (s[k].toNat:Int)
    ·refine .inr ⟨?_,.inr ⟨a,d⟩⟩;rw[p,<-PJ] at d;have:=PQ s true k a d;have:=o.o;unfold Hid;omega
    ·exact .inl ⟨a,a,d⟩
   ·exact .inr ⟨by have:=LS s true k aD;have:=o.o;unfold Hid;omega,.inl aD⟩
  rcases b with⟨a,_,d⟩|⟨x,q⟩
  ·have F:Hid (k+1+AN s true (k+1)=n+AN s true n):=by
    have p:=BF s k a;have g:=d;rw[p,<-PJ] at g;have:=JH s true k a g;have:=o.o;unfold Hid;omega
   go_wp2_with (go_at_call 113;refine(CP _ _).mono ?_;rintro e w' ⟨rfl,rfl⟩);go_round
   case rel=>exact⟨k+1,aD,aD,by go_num,F⟩
   case measure=>simp[intOf];omega
  ·generalize r:AN s true n=L at*;have m:=aO r;have c:Hid (L=k-n):=by have:=x.o;unfold Hid;omega
   clear r l;rcases q with q|⟨a,d⟩
   all_goals
    rcases(show k=n\/(n<k/\k-n<=9)\/9<k-n by omega) with j|⟨j,D⟩|j
    ·have u: ((k:Int)==((n:Nat):Int))=true:=by rw[beq_iff_eq];omega
     have z:=aO j;clear j;go_wp2_with (go_at_call 113;refine(CP _ _).mono ?_;rintro e w' ⟨rfl,rfl⟩)
     all_goals have t:=c.o
     all_goals have B:=z.o
     all_goals refine bodyPost_ret (v:= .agg #[.int .i64 1,.int .i64 n,.int .i64 (k:Int),.int .i64 2]) (by simp[results,results114,go_sem]) rfl ⟨?_,(Below.refl _ _).alloc (aX _) _⟩
     all_goals have f:=m.o
     all_goals exact MC (by unfold LW;rw[bD aD]) aD (by unfold LP;rw[bD aD])
    ·have u: ((k:Int)==((n:Nat):Int))=false:=by rw[aY];omega
     have y: (k:Int)-((n:Nat):Int)<=9:=aD;go_wp2_with (go_at_call 113;refine(CP _ _).mono ?_;rintro e w' ⟨rfl,rfl⟩);have t:=c.o;refine bodyPost_ret (v:= .agg #[.int .i64 4,.int .i64 n,.int .i64 (k:Int),.int .i64 0]) (by simp[results,results114,go_sem]) rfl ⟨?_,(Below.refl _ _).alloc (aX _) _⟩;have f:=m.o;exact MC (by unfold LW;rw[bC aD,bC aD]) aD (by unfold LP;rw[bC aD,bC aD])
    ·have u: ((k:Int)==((n:Nat):Int))=false:=by rw[aY];omega
     have y:9<(k:Int)-((n:Nat):Int):=aD;go_wp2_with (go_at_call 113;refine(CP _ _).mono ?_;rintro e w' ⟨rfl,rfl⟩);have t:=c.o;refine bodyPost_ret (v:= .agg #[.int .i64 1,.int .i64 n,.int .i64 (k:Int),.int .i64 3]) (by simp[results,results114,go_sem]) rfl ⟨?_,(Below.refl _ _).alloc (aX _) _⟩;have f:=m.o;exact MC (by unfold LW;rw[bC aD,bD aD]) aD (by unfold LP;rw[bC aD,bD aD])
theorem iP(c:Int)(n:Nat)(w:World)(i:n<=400):Calls prog 116 #[.int .u8 c,.int .i64 n] w fun e w'=>e= .returned (.agg #[.int .i64 (JU c),.int .i64 n,.int .i64 ((n:Int)+1),.int .i64 (KT c)])/\Below w.heap.size w w':=by
 by_cases b:c=40
 ·have a:Hid (JU c=5/\KT c=0):=by rw[b];exact⟨rfl,rfl⟩
  rw[a.o.1,a.o.2];subst b;clear a;go_enter func116,ntmps116;go_wp2;exact bodyPost_ret (v:= .agg #[.int .i64 5,.int .i64 n,.int .i64 ((n:Int)+1),.int .i64 0]) (by simp[results,results116,go_sem]) rfl ⟨rfl,((Below.refl _ _).alloc (aX _) _).alloc aE _⟩
 by_cases h:c=41
 ·have a:Hid (JU c=6/\KT c=0):=by rw[h];exact⟨rfl,rfl⟩
  rw[a.o.1,a.o.2];subst h;clear a;go_enter func116,ntmps116;go_wp2;exact bodyPost_ret (v:= .agg #[.int .i64 6,.int .i64 n,.int .i64 ((n:Int)+1),.int .i64 0]) (by simp[results,results116,go_sem]) rfl ⟨rfl,((Below.refl _ _).alloc (aX _) _).alloc aE _⟩
 by_cases d:c=44
 ·have a:Hid (JU c=7/\KT c=0):=by rw[d];exact⟨rfl,rfl⟩
  rw[a.o.1,a.o.2];subst d;clear a;go_enter func116,ntmps116;go_wp2;exact bodyPost_ret (v:= .agg #[.int .i64 7,.int .i64 n,.int .i64 ((n:Int)+1),.int .i64 0]) (by simp[results,results116,go_sem]) rfl ⟨rfl,((Below.refl _ _).alloc (aX _) _).alloc aE _⟩
 by_cases f:c=46
 ·have a:Hid (JU c=8/\KT c=0):=by rw[f];exact⟨rfl,rfl⟩
  rw[a.o.1,a.o.2];subst f;clear a;go_enter func116,ntmps116;go_wp2;exact bodyPost_ret (v:= .agg #[.int .i64 8,.int .i64 n,.int .i64 ((n:Int)+1),.int .i64 0]) (by simp[results,results116,go_sem]) rfl ⟨rfl,((Below.refl _ _).alloc (aX _) _).alloc aE _⟩
 by_cases g:c=33
 ·have a:Hid (JU c=9/\KT c=0):=by rw[g];exact⟨rfl,rfl⟩
  rw[a.o.1,a.o.2];subst g;clear a;go_enter func116,ntmps116;go_wp2;exact bodyPost_ret (v:= .agg #[.int .i64 9,.int .i64 n,.int .i64 ((n:Int)+1),.int .i64 0]) (by simp[results,results116,go_sem]) rfl ⟨rfl,((Below.refl _ _).alloc (aX _) _).alloc aE _⟩
 have a:Hid (JU c=1/\KT c=2):=by
  unfold JU KT;exact⟨by rw[bC b,bC h,bC d,bC f,bC g],by rw[bC (by unfold FC;simp[b,h,d,f,g])]⟩
 rw[a.o.1,a.o.2];have m: (c==40)=false:=aY.2 b;have o: (c==41)=false:=aY.2 h;have j: (c==44)=false:=aY.2 d;have l: (c==46)=false:=aY.2 f;have k: (c==33)=false:=aY.2 g;clear a b h d f g;go_enter func116,ntmps116;go_wp2;exact bodyPost_ret (v:= .agg #[.int .i64 1,.int .i64 n,.int .i64 ((n:Int)+1),.int .i64 2]) (by simp[results,results116,go_sem]) rfl ⟨rfl,((Below.refl _ _).alloc (aX _) _).alloc aE _⟩
end Go.Proofs.Q
namespace Rf
def GP(t:Tok)(K f a C:Int):Prop:=K=BV t.k/\f=t.at_/\C=t.e/\(t.k≠63->a=(t.at_:Int)+t.s.size)
theorem R2(s:ByteArray)(m:Nat)(K k:Int)(b:BV k=K)(_h63:k≠63)(a:AG s m=DS m (BA s m) (DQ s false m))(c:∀W:ByteArray,¬12<W.size->DS m (BA s m) W=⟨k,m,W,0⟩):GP (AG s m) (LR (AN s false m) K) m ((m:Int)+AN s false m) (LY (AN s false m)):=by
 have d:=FM s false m;unfold LR LY;by_cases h:12<AN s false m
 ·have e:AG s m=bad m 3:=by rw[a];unfold DS;rw[bD aD]
  rw[e,bD h,bD h];exact⟨rfl,rfl,rfl,fun x=>absurd rfl x⟩
 ·have e:AG s m=⟨k,m,DQ s false m,0⟩:=by rw[a,c _ aD]
  rw[e,bC h,bC h];exact⟨b.symm,rfl,rfl,fun _=>by show(m:Int)+_=(m:Int)+((DQ s false m).size:Int);rw[d]⟩
theorem eG(s:ByteArray)(m:Nat)(a:Bool)(d:Nat)(f:d=m+(if a then 1 else 0))(c:AG s m=CU m a (DQ s true d)):GP (AG s m) (LW (AN s true d)) m ((d:Int)+AN s true d) (LP (AN s true d)):=by
 have g:=FM s true d;unfold LW LP;rcases(show AN s true d=0\/(AN s true d≠0/\9<AN s true d)\/(AN s true d≠0/\¬9<AN s true d) by omega) with h|⟨h,b⟩|⟨h,b⟩
 ·have e:AG s m=bad m 2:=by rw[c];unfold CU;rw[bD aD]
  rw[e,bD h,bD h];exact⟨rfl,rfl,rfl,fun x=>absurd rfl x⟩
 ·have e:AG s m=bad m 3:=by rw[c];unfold CU;rw[bC aD,bD aD]
  rw[e,bC h,bC h,bD b,bD b];exact⟨rfl,rfl,rfl,fun x=>absurd rfl x⟩
 ·have e:AG s m=⟨110,m,if a then⟨#[45]⟩++DQ s true d else DQ s true d,0⟩:=by rw[c];unfold CU;rw[bC aD,bC aD]
  rw[e,bC h,bC h,bC b,bC b];refine⟨rfl,rfl,rfl,fun _=>?_⟩
  cases a with
  |false=>show(d:Int)+_=(m:Int)+((DQ s true d).size:Int);simp at f;omega
  |true=>show(d:Int)+_=(m:Int)+((⟨#[45]⟩++DQ s true d:ByteArray).size:Int);rw[SJ];simp at f;omega
theorem uV(c:Int)(h:FC c=true):BV c=JU c:=by
 unfold FC at h;simp at h;rcases h with(((h|h)|h)|h)|h<;>subst h<;>rfl
theorem qW(s:ByteArray)(m:Nat)(g:m<s.size)(a:BA s m≠45)(d:A9 (BA s m)=false)(c:B9 (BA s m)=false)(b:BA s m≠58):GP (AG s m) (JU (BA s m)) m ((m:Int)+1) (KT (BA s m)):=by
 unfold KT;by_cases h:FC (BA s m)=true
 ·have e:AG s m=⟨BA s m,m,s.extract m (m+1),0⟩:=by unfold AG;rw[bC a,bC (by simp[d]),bC (by simp[c]),bD h]
  rw[e,bD h];refine⟨(uV _ h).symm,rfl,rfl,fun _=>?_⟩;show(m:Int)+1=(m:Int)+((s.extract m (m+1)).size:Int);rw[ByteArray.size_extract];omega
 ·have e:AG s m=bad m 2:=by unfold AG;rw[bC a,bC (by simp[d]),bC (by simp[c]),bC h,bC (fun x=>b x.1)]
  have f:JU (BA s m)=1:=by
   unfold FC at h;simp at h;unfold JU;rw[bC aD,bC aD,bC aD,bC aD,bC aD]
  rw[e,bC h,f];exact⟨rfl,rfl,rfl,fun x=>absurd rfl x⟩
theorem vM(s:ByteArray)(m:Nat)(a:BA s m=58):GP (AG s m) (T6 s m) m (TR s m) (T5 s m):=by
 have c:A9 (BA s m)=false:=by rw[a];decide
 have b:B9 (BA s m)=false:=by rw[a];decide
 have d:FC (BA s m)=false:=by rw[a];decide
 unfold T6 TR T5;by_cases h:m+1<s.size/\BA s (m+1)=45
 ·have e:AG s m=⟨58,m,⟨#[58,45]⟩,0⟩:=by unfold AG;rw[bC aD,bC (by simp[c]),bC (by simp[b]),bC (by simp[d]),bD ⟨a,h⟩]
  rw[e,bD h,bD h,bD h];exact⟨rfl,rfl,rfl,fun _=>rfl⟩
 ·have e:AG s m=bad m 2:=by unfold AG;rw[bC aD,bC (by simp[c]),bC (by simp[b]),bC (by simp[d]),bC (fun x=>h x.2)]
  rw[e,bC h,bC h,bC h];exact⟨rfl,rfl,rfl,fun x=>absurd rfl x⟩
end Rf
namespace Go.Proofs.Q
open Rf _root_.Go.Proofs.Tryz
open Go.RowKit
def JD(s:ByteArray)(n:Nat)(w:World)(r:Ending)(w':World):Prop:=∃K f a C:Int,r= .returned (.agg #[.int .i64 K,.int .i64 f,.int .i64 a,.int .i64 C])/\GP (BO s n) K f a C/\Below w.heap.size w w'
theorem yW(s:ByteArray)(n:Nat)(w:World)(d:s.size<=400)(b:n<=s.size)(h:s.size<=n+B8 s n):Calls prog 80 #[.string s,.int .i64 n] w fun r w'=>JD s n w r w':=by
 have c:=RY s n;have f:Hid (BO s n=FE s):=by unfold Hid BO;rw[bC aD]
 generalize a:n+B8 s n=m at*;have g:=aO a;clear a;go_enter func80,ntmps80;go_wp2_with (go_at_call 109;refine(E8 s n _ d b).mono ?_;rintro e i ⟨rfl,rfl⟩;rw[g.o]);refine bodyPost_ret (v:= .agg #[.int .i64 0,.int .i64 s.size,.int .i64 s.size,.int .i64 0]) (by simp[results,results80,go_sem]) rfl ⟨0,s.size,s.size,0,rfl,?_,(Below.refl _ _).alloc (aX _) _⟩;rw[f.o];exact⟨rfl,rfl,rfl,fun _=>by show(s.size:Int)=(s.size:Int)+0;omega⟩
end Go.Proofs.Q
