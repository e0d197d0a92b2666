import Derived.Test.YthenokfmcjmfkaaGreatDoorYal
set_option maxRecDepth 100000
set_option maxHeartbeats 1000000
namespace Go.Proofs.Q
open Rf _root_.Go.Proofs.Tryz
open Go.RowKit
variable {nm : Value}
theorem aDo{w:World}{q:Nat}{a:Option Nat}(i:Nat)(u:Value):Kept (May q a) w (w.setCell ⟨q,i,none⟩ u):=(Kept.refl _ w).setCell (p:=⟨q,i,none⟩) (.inr (.inl rfl)) u
theorem QIs.rq{w:World}{q:Nat}{c:Option Nat}{l m n vC:Value}{g:Int}{d:List ByteArray}{cf:Cf}(h:QIs w q c l m n g vC d cf):c≠some q:=by
 intro e;obtain⟨acc,k,_,_⟩:=h.r.ex;obtain⟨f,a⟩:=k.typed q (h.o.trans e);have b:=h.b;unfold QB at b;rw[b] at a;injection a with i;injection i with _ j;exact absurd j aF
theorem Free.q{w:World}{q:Nat}{cs:Array Value}(h:w.heap[q]?=some (.cells cs 127 (0,0))):Free w (fun k=>k=q):=by
 have a:∀t:TypeId,t≠127->∀k b,w.heap[k]?=some (.cells b t (0,0))->¬k=q:=by
  intro t g k b c e;subst e;rw[h] at c;injection c with d;injection d with _ f;exact g f.symm
 exact⟨a _ aF,a _ aF,a _ aF,a _ aF,a _ aF⟩
theorem jD{w:World}{q:Nat}(i:Nat)(u:Value):Kept (fun k=>k=q) w (w.setCell ⟨q,i,none⟩ u):=(Kept.refl (fun k=>k=q) w).setCell (p:=⟨q,i,none⟩) (.inr rfl) u
theorem QIs.now{w w':World}{q:Nat}{j:Option Nat}{g p r vC a b:Value}{m fr':Int}{i:List ByteArray}{cf:Cf}{S:St}(h:QIs w q j g p r m vC i cf)(d:Kept (fun k=>k=q) w w')(n:QB w' q g a b fr' vC)(o:xq w a b fr' S):QIs w' q j g a b fr' vC i ⟨S,cf.chs⟩:=by
 have c:=Free.q h.b;have f:=h.rq;exact⟨n,Seen.kept h.n d c.s,o.kept d c,h.r.kept d c (fun k e l=>f (by rw[<-h.o,e,l])),h.o⟩
theorem ak.pos{w:World}{a:Option Addr}{n c:Nat}{ts:List (List AB)}(h:ak w (.slice a n c) ts)(d:ts≠[]):∃g off,a=some ⟨g,off,none⟩/\g<w.heap.size/\n=ts.length/\1<=n/\n<=c:=by
 obtain⟨acc,b,j,rfl⟩:=h.ex
 have e:1<=(acc.map (·.1)).length:=by
  cases acc with
  |nil=>exact absurd rfl d
  |cons=>simp
 obtain⟨g,off,rfl⟩:=b.pos e;have f:=b.len;have i:=b.cap;rw[aZ] at f e i;exact⟨g,off,rfl,b.lt,by rw[aZ];exact f,aD,aD⟩
theorem ak.Jc{w:World}{g off n c:Nat}{ts:List (List AB)}(h:ak w (.slice (some ⟨g,off,none⟩) n c) ts)(e:c=1):ak w (.slice (some ⟨g,off,none⟩) (ts.length -1) 0) ts.tail:=by
 obtain⟨acc,b,d,rfl⟩:=h.ex;refine⟨acc.tail,?_,fun q f=>d q (List.mem_of_mem_tail f),by rw[List.map_tail]⟩;have a:=b.dropEnd 1 e;rw[aZ] at a;rw[aZ,List.map_tail,<-List.drop_one];exact a
theorem ak.Jb{w:World}{g off n c:Nat}{ts:List (List AB)}(h:ak w (.slice (some ⟨g,off,none⟩) n c) ts)(a:ts≠[]):ak w (.slice (some ⟨g,off+1,none⟩) (ts.length -1) (c-1)) ts.tail:=by
 obtain⟨acc,d,e,rfl⟩:=h.ex;refine⟨acc.tail,?_,fun q f=>e q (List.mem_of_mem_tail f),by rw[List.map_tail]⟩;have b:=d.drop DZ 1 (by cases acc with|nil=>exact absurd rfl a|cons=>simp);rw[aZ] at b;rw[aZ,List.map_tail,<-List.drop_one];exact b
theorem UK(w:World)(q:Nat)(e:Option Nat)(f:List ByteArray)(cf:Cf)(h:QAt nm w q e f cf)(a:cf.now.aV≠[]):Calls prog 150 #[.pointer (some ⟨q,0,none⟩)] w fun r w'=>r= .returned (.int .i64 0)/\QAt nm w' q e f (E9 cf).2/\Kept (May q e) w w':=by
 obtain⟨x,y,n,vC,c⟩:=h.ex;obtain⟨o,k1,p,s,t,u,v⟩:=c.b.facts;obtain⟨l,m,rfl⟩:=c.s.g.slice;obtain⟨g,off,rfl,i,_,j,k⟩:=c.s.g.pos a;have b:=aO c;have d:=aO a;clear h c a;go_enter func150,ntmps150;go_wp2_with fail
 all_goals
  go_ret;refine⟨rfl,?_,aDo _ _⟩;refine(QIs.now (S:=⟨cf.now.aV.tail,cf.now.aS,cf.now.aQ⟩) b.o (jD _ _) (AK b.o.b 1 _) ⟨?_,b.o.s.t,b.o.s.f⟩).at
 ·exact b.o.s.g.Jc ‹_›
 ·exact b.o.s.g.Jb d.o
theorem KU{α:Type}{w:World}{base:Nat}{e:TypeId}{size:Nat}{C:α->List Value}{g n a:Nat}{i:List α}(t:∀x,(C x).length=size)(h:aj w base e size C (.slice (some ⟨g,0,none⟩) n a) i)(j:Nat)(v:n*size<=j)(u:Value):aj (w.setCell ⟨g,j,none⟩ u) base e size C (.slice (some ⟨g,0,none⟩) n a) i:=by
 have y:=Z6 h;rcases h.own.2 with⟨f,_⟩|⟨l,c,d,f,m,o,p,q,r,s⟩
 ·cases f
 ·obtain⟨rfl,rfl⟩:g=l/\a=c:=by injection f with b z k;injection b with b;injection b with b;exact⟨b,k⟩
  subst y;refine⟨h.own.1,.inr ⟨g,a,d.setIfInBounds j u,rfl,m,?_,p,q,by simpa using r,?_⟩⟩
  ·simp[World.setCell,Array.getElem?_modify,o]
  ·rw[Array.toList_setIfInBounds,List.take_set,s];rw[List.set_eq_of_length_le];rw[GZ C t];exact v
theorem zx.shape{w:World}{v:Value}{chs:List Ch}(h:zx w v chs): (v= .slice none 0 0/\chs=[])\/∃g a,v= .slice (some ⟨g,0,none⟩) chs.length a/\g<w.heap.size/\chs.length<=a/\a<=maxLen:=by
 obtain⟨acc,e,_,f⟩:=h.ex;have d:acc.length=chs.length:=by have:=congrArg List.length f;simpa using this
 rcases e.shape with⟨b,c⟩|⟨g,a,b,_,c⟩
 ·refine .inl ⟨b,?_⟩;have:acc=[]:=by simpa using c
  rw[this] at d;exact List.length_eq_zero_iff.1 d.symm
 ·rw[aZ,d] at b c;exact .inr ⟨g,a,b,c⟩
theorem aAP{acc:List (ChV×Ch)}{c:Ch}{b:List Ch}(h:acc.map (·.2)=(c::b).reverse):∃a x,acc=a++[(x,c)]/\a.map (·.2)=b.reverse:=by
 rw[List.reverse_cons] at h;obtain⟨d,j,e,f,g⟩:=List.map_eq_append_iff.1 h;obtain⟨y,rfl,i⟩:=List.map_eq_singleton_iff.1 g;exact⟨d,y.1,by rw[e,<-i],f⟩
theorem zx.last{w:World}{g n e:Nat}{c:Ch}{b:List Ch}(h:zx w (.slice (some ⟨g,0,none⟩) n e) (c::b)):∃x,Ai w x c/\(∀j u,(E6 x)[j]?=some u->w.cell? ⟨g,b.length*4+j,none⟩=some u)/\(∀i,w.frozen? ⟨g,i,none⟩=false)/\zx w (.slice (some ⟨g,0,none⟩) b.length e) b:=by
 obtain⟨acc,d,l,p⟩:=h.ex;obtain⟨a,x,rfl,m⟩:=aAP p;have o:a.length=b.length:=by have:=congrArg List.length m;simpa using this
 have k:=Z6 d;rw[bE,bL,aZ] at k;simp only[List.map_cons,List.map_nil,bM,dA] at k;rw[k] at d;rw[bE] at d;refine⟨x,l (x,c) aE,fun j u q=>?_,fun i=>ID d i,a,?_,fun y r=>l y (by simp[r]),m⟩
 ·have f:=d.seen.cells DM a.length x aE j u q;rw[o] at f;simpa using f
 ·have f:=nM (n:=a.length) DM d;rw[o] at f;exact f
theorem zx.slice{w:World}{v:Value}{chs:List Ch}(h:zx w v chs):∃a c,v= .slice a chs.length c:=by
 rcases h.shape with⟨rfl,rfl⟩|⟨g,b,rfl,_⟩
 ·exact⟨_,_,rfl⟩
 ·exact⟨_,_,rfl⟩
theorem QIs.turn{w w':World}{q:Nat}{g d:Option Nat}{e o p vC b c a:Value}{i fr':Int}{f:List ByteArray}{cf cf':Cf}(h:QIs w q g e o p i vC f cf)(k:Kept (May q g) w w')(j:QB w' q e b c fr' a)(n:xq w' b c fr' cf'.now)(m:zx w' a cf'.chs)(l:a.ownBlock=d):QIs w' q d e b c fr' a f cf':=⟨j,Seen.kept h.n k h.free.s,n,m,l⟩
theorem QIs.drop{w:World}{q:Nat}{f:Option Nat}{t A B:Value}{u:Int}{g n m a:Nat}{s:List ByteArray}{cf:Cf}{d:List Ch}(h:QIs w q f t A B u (.slice (some ⟨g,0,none⟩) n a) s cf)(r:zx w (.slice (some ⟨g,0,none⟩) m a) d)(u0 u1 u2 u3:Value):QAt t (((((w.setCell ⟨g,m*4,none⟩ u0).setCell ⟨g,m*4+1,none⟩ u1).setCell ⟨g,m*4+2,none⟩ u2).setCell ⟨g,m*4+3,none⟩ u3).setCell ⟨q,4,none⟩ (.slice (some ⟨g,0,none⟩) m a)) q f s ⟨cf.now,d⟩/\Kept (May q f) w (((((w.setCell ⟨g,m*4,none⟩ u0).setCell ⟨g,m*4+1,none⟩ u1).setCell ⟨g,m*4+2,none⟩ u2).setCell ⟨g,m*4+3,none⟩ u3).setCell ⟨q,4,none⟩ (.slice (some ⟨g,0,none⟩) m a)):=by
 have c:f=some g:=h.o.symm;have i:¬q=g:=fun e=>h.rq (by rw[c,e]);have j:May q f g:= .inr c.symm;have l:Kept (May q f) w ((((w.setCell ⟨g,m*4,none⟩ u0).setCell ⟨g,m*4+1,none⟩ u1).setCell ⟨g,m*4+2,none⟩ u2).setCell ⟨g,m*4+3,none⟩ u3):=((((Kept.refl _ w).setCell (p:=⟨g,_,none⟩) (.inr j) u0).setCell (p:=⟨g,_,none⟩) (.inr j) u1).setCell (p:=⟨g,_,none⟩) (.inr j) u2).setCell (p:=⟨g,_,none⟩) (.inr j) u3;have b:=l.setCell (p:=⟨q,4,none⟩) (.inr (.inl rfl)) (.slice (some ⟨g,0,none⟩) m a);have o:Kept (fun k=>k=g) w ((((w.setCell ⟨g,m*4,none⟩ u0).setCell ⟨g,m*4+1,none⟩ u1).setCell ⟨g,m*4+2,none⟩ u2).setCell ⟨g,m*4+3,none⟩ u3):=((((Kept.refl (fun k=>k=g) w).setCell (p:=⟨g,_,none⟩) (.inr rfl) u0).setCell (p:=⟨g,_,none⟩) (.inr rfl) u1).setCell (p:=⟨g,_,none⟩) (.inr rfl) u2).setCell (p:=⟨g,_,none⟩) (.inr rfl) u3;refine⟨(QIs.turn (cf':=⟨cf.now,d⟩) h b (AK ((o.block q (AD h.b) i).trans h.b) 4 _) (h.s.kept b h.free) ?_ c.symm).at,b⟩;obtain⟨acc,v,y,z⟩:=r.ex;refine⟨acc,?_,fun x hx=>(y x hx).kept b h.free,z⟩;exact(KU DM (KU DM (KU DM (KU DM v _ aD u0) _ aD u1) _ aD u2) _ aD u3).setCell _ _ (fun e=>i (by injection e with e;exact e.symm))
theorem MI(w:World)(q:Nat)(u:Option Nat)(B:List ByteArray)(cf:Cf)(o:Int)(h:QAt nm w q u B cf)(T:cf.chs.length<=20):Calls prog 120 #[.pointer (some ⟨q,0,none⟩),.int .i64 o] w fun r w'=>r= .returned (.tuple #[])/\QAt nm w' q u B ⟨cf.now,FJ cf.chs o⟩/\Kept (May q u) w w':=by
 obtain⟨Y,Z,Q,vC,a⟩:=h.ex;obtain⟨J,k1,K,L,z,M,N⟩:=a.b.facts;obtain⟨ac,cc,rfl⟩:=a.r.slice;have O:=aO h;clear h a;obtain⟨j,i⟩:∃n,Hid (cf.chs.length=n):=⟨_,rfl⟩
 rw[i.o] at T z;go_enter func120,ntmps120;go_wp2_with fail;clear J k1 K L z M N;go_loopw [4] (fun F wr=>∃m:Nat,m<=j/\F= .int .i64 ((m:Int)-1)/\Hid (o.toNat<=m\/j=m)/\QAt nm wr q u B ⟨cf.now,cf.chs.drop (j-m)⟩/\Kept (May q u) w wr) (fun F _=>(intOf F+1).toNat)
 case atStart=>exact⟨j,aX _,rfl,.inr rfl,by rw[Nat.sub_self,List.drop_zero];exact O.o,Kept.refl _ _⟩
 case round=>
  obtain⟨m,hm,rfl,G,a,D⟩:=hrel;by_cases S:1<=m/\o<=(m:Int)-1
  ·obtain⟨m,rfl⟩:∃V,m=V+1:=⟨m-1,aD⟩
   obtain⟨Y,Z,Q,vC,a⟩:=a.ex
   obtain⟨c,d,f⟩:∃c d,cf.chs.drop (j-(m+1))=c::d:=by
    cases y:cf.chs.drop (j-(m+1)) with
    |nil=>have:=congrArg List.length y;rw[List.length_drop,i.o] at this;simp at this;omega
    |cons c d=>exact⟨c,d,rfl⟩
   have t:Hid (cf.chs.drop (j-m)=d):=by
    unfold Hid;have v:=congrArg List.tail f;rw[List.tail_drop,List.tail_cons] at v;rw[<-v];congr 1;omega
   have s:d.length=m:=by have v:=congrArg List.length f;rw[List.length_drop,i.o,bM] at v;omega
   rw[f] at a;obtain⟨J,k1,K,L,z,M,N⟩:=a.b.facts;rcases a.r.shape with⟨_,e⟩|⟨g,P,rfl,R,p,H⟩
   ·cases e
   rw[bM,s] at p z;obtain⟨x,hx,b,U,l⟩:=a.r.last;rw[s] at b l;have x0:=b 0 _ rfl;have x1:=b 1 _ rfl;have x2:=b 2 _ rfl;have x3:=b 3 _ rfl;rw[dG] at x0;have k:=aO a;have A:=aO l;have Hh:=G;clear a f hx b l;rw[show(((m+1:Nat):Int)-1)=(m:Int) by omega];have h2:o<=(m:Int):=aD;have E:¬g=q:=fun e=>k.o.rq (by rw[<-k.o.o,e];rfl);have I:¬q=g:=fun e=>E e.symm;go_wp2_with fail;go_roundw
   case rel=>
    obtain⟨W,X⟩:=QIs.drop k.o A.o (.slice none 0 0) (.slice none 0 0) (.int .i64 0) (.slice none 0 0);exact⟨m,aD,rfl,by unfold Hid;omega,by rw[t.o];exact W,D.trans X (fun _ _ h=>h)⟩
   case measure=>simp[intOf]
  ·have y:Hid (FJ cf.chs o=cf.chs.drop (j-m)):=by
    unfold Hid FJ;rw[i.o];have:=G.o;congr 1;omega
   by_cases h0: (m:Int)-1<0
   ·have C:¬(0<=(m:Int)-1):=aD;go_wp2_with fail;go_end0;exact⟨rfl,by rw[y.o];exact a,D⟩
   ·have h1:¬o<=(m:Int)-1:=aD;have C:0<=(m:Int)-1:=aD;go_wp2_with fail;go_end0;exact⟨rfl,by rw[y.o];exact a,D⟩
end Go.Proofs.Q
namespace Rf
theorem VH(S:St)(c:Cl):∀(i:Nat) (cs:List Cl),AR S i (cs++[c])=AR S i cs++(if FV S c=true then [i+cs.length] else [])
 |_,[]=>by simp[AR]
 |i,d::cs=>by
  rw[List.cons_append,AR,AR,VH S c (i+1) cs,bM,List.append_assoc,show i+1+cs.length=i+(cs.length+1) by omega]
end Rf
namespace Go.Proofs.Q
open Rf _root_.Go.Proofs.Tryz
open Go.RowKit
variable {nm : Value}
theorem QIs.Nw{w:World}{q:Nat}{c:Option Nat}{e i j vC a b:Value}{f fr':Int}{d:List ByteArray}{cf:Cf}{S:St}(h:QIs w q c e i j f vC d cf)(g:xq w a b fr' S):QIs (((w.setCell ⟨q,1,none⟩ a).setCell ⟨q,2,none⟩ b).setCell ⟨q,3,none⟩ (.int .i64 fr')) q c e a b fr' vC d ⟨S,cf.chs⟩/\Kept (May q c) w (((w.setCell ⟨q,1,none⟩ a).setCell ⟨q,2,none⟩ b).setCell ⟨q,3,none⟩ (.int .i64 fr')):=by
 refine⟨QIs.now h ((((Kept.refl (fun k=>k=q) w).setCell (p:=⟨q,1,none⟩) (.inr rfl) _).setCell (p:=⟨q,2,none⟩) (.inr rfl) _).setCell (p:=⟨q,3,none⟩) (.inr rfl) _) (AK (AK (AK h.b 1 _) 2 _) 3 _) g,(((Kept.refl _ w).setCell (p:=⟨q,1,none⟩) (.inr (.inl rfl)) _).setCell (p:=⟨q,2,none⟩) (.inr (.inl rfl)) _).setCell (p:=⟨q,3,none⟩) (.inr (.inl rfl)) _⟩
theorem SF(w:World)(q:Nat)(u:Option Nat)(C:List ByteArray)(cf:Cf)(v x:Value)(i:Int)(S:St)(hx bx:SlV)(c:Cl)(d:Int)(N:Nat)(F:Int)(h:QAt nm w q u C cf)(l:xq w v x i S)(E:Rf.StG N F S)(G:N<=9000)(U:F<=1000000)(k:S.aV≠[])(D:pq w hx bx c)(I:Rf.ClG c):Calls prog 121 #[.pointer (some ⟨q,0,none⟩),.agg #[v,x,.int .i64 i],.agg #[.slice hx.a hx.n hx.c,.slice bx.a bx.n bx.c],.int .i64 d] w fun r w'=>r= .returned (.int .i64 (FZ cf S c d).1)/\QAt nm w' q u C (FZ cf S c d).2/\Kept (May q u) w w':=by
 obtain⟨ug,ut,ur,vC,H⟩:=h.ex;have A:=aO H;have HW:Hid _:=fun w'=>@M7 w' v x i d S hx bx c N;have B:=aO l;have z:=aO (StG.ok E U);have y:=aO D;have f:=aO (ClG.ok I);have g:=aO k;obtain⟨K,L,rfl⟩:=l.g.slice;obtain⟨ta,M,rfl⟩:=l.t.slice;clear h H l E D I k;obtain⟨o,t⟩:∃o,Hid ((BD S c d).1=o):=⟨_,rfl⟩
 have n:Hid (FZ cf S c d=(o,if o=0 then⟨(BD S c d).2,cf.chs⟩ else cf)):=by unfold Hid FZ;rw[t.o]
 by_cases s:o=0
 ·subst s;have p:Hid (FZ cf S c d=(0,⟨(BD S c d).2,cf.chs⟩)):=n.o;clear n;go_enter func121,ntmps121;go_wp2_with (go_at_call 149;refine(M7 _ (.slice K S.aV.length L) (.slice ta S.aS.length M) i d S hx bx c N (B.o.below aM) z.o G g.o (y.o.below aM) f.o).mono ?_;rintro r m ⟨O,n3,Q,P,n4,R,fr',rfl,j,e⟩;rw[t.o];have a:Below w.heap.size w m:=Below.trans (aM:Below w.heap.size w ((w.alloc _).alloc _)) (e.mono (by simp only[World.size_alloc];omega));have J:=a.size;have b:=A.o.below a;obtain⟨V,k1,W,X,Y,Z,kl⟩:=b.b.facts);go_ret;rw[p.o];obtain⟨r1,r2⟩:=QIs.Nw b j;refine⟨rfl,(r1.below ((bZ _ _).alloc (aX _) _)).at,?_⟩;exact((Kept.of_below a _).trans r2 (fun _ _ h=>h)).alloc _
 ·have T: (o==0)=false:=aY.2 s;go_enter func121,ntmps121;go_wp2_with (go_at_call 149;refine(M7 _ (.slice K S.aV.length L) (.slice ta S.aS.length M) i d S hx bx c N (B.o.below aM) z.o G g.o (y.o.below aM) f.o).mono ?_;rintro r m ⟨O,n3,Q,P,n4,R,fr',rfl,j,e⟩;rw[t.o];have a:Below w.heap.size w m:=Below.trans (aM:Below w.heap.size w ((w.alloc _).alloc _)) (e.mono (by simp only[World.size_alloc];omega));have J:=a.size;have b:=A.o.below a;obtain⟨V,k1,W,X,Y,Z,kl⟩:=b.b.facts);go_ret;rw[n.o,bC s];refine⟨rfl,?_,?_⟩
  ·exact(b.below aM).at
  ·exact Kept.of_below (a.trans ((bZ _ m).alloc J _)) _
theorem ak.first{w:World}{g off n c:Nat}{ts:List (List AB)}(h:ak w (.slice (some ⟨g,off,none⟩) n c) ts)(a:ts≠[]):∃x:SlV,w.cell? ⟨g,off,none⟩=some (.slice x.a x.n x.c)/\Seen w 129 AH (.slice x.a x.n x.c) (ts.headD []):=by
 obtain⟨acc,b,d,rfl⟩:=h.ex
 cases acc with
 |nil=>exact absurd rfl a
 |cons y acc=>exact⟨y.1,by simpa using Seen.yx b 0 y.1 aE,d y aE⟩
theorem Seen.Nc{w:World}{g off n c:Nat}{a:List Nat}(h:Seen w 3 DT (.slice (some ⟨g,off,none⟩) n c) a)(k:Nat)(x:Nat)(hx:a[k]?=some x):w.cell? ⟨g,off+k,none⟩=some (.int .i64 (x:Nat)):=by
 have:=h.cells GC k x hx 0 _ rfl;simpa using this
theorem ji.at{w:World}{a:Option Addr}{n c:Nat}{cls:List Cl}(h:ji w (.slice a n c) cls)(k:Nat)(d:k<cls.length):∃(g off:Nat) (x:NI),a=some ⟨g,off,none⟩/\g<w.heap.size/\n=cls.length/\pq w x.h x.b (cls.getD k EM)/\w.cell? ⟨g,off+k*2,none⟩=some (.slice x.h.a x.h.n x.h.c)/\w.cell? ⟨g,off+k*2+1,none⟩=some (.slice x.b.a x.b.n x.b.c):=by
 obtain⟨acc,b,f,rfl⟩:=h.ex;rw[aZ] at d;obtain⟨g,off,rfl⟩:=b.pos (by rw[aZ];omega);have hx: (acc.map (·.1))[k]?=some acc[k].1:=by simp[d]
 have e:=b.cells LV k _ hx 0 _ rfl;have c1:=b.cells LV k _ hx 1 _ rfl;refine⟨g,off,acc[k].1,rfl,b.lt,?_,?_,?_,?_⟩
 ·have:=b.len;rw[aZ] at this⊢;exact this
 ·have i:=f acc[k] (bG d);rw[List.getD_eq_getElem?_getD,List.getElem?_map,bU d];exact i
 ·simpa using e
 ·rw[Nat.add_assoc];exact c1
theorem S4(w:World)(vg vt:Value)(fr:Int)(S:St)(vc:Value)(cls:List Cl)(N:Nat)(F:Int)(X:xq w vg vt fr S)(hG:Rf.StG N F S)(hN:N<=9000)(hF:F<=1000000)(C:S.aV≠[])(hC:ji w vc cls)(E:uw cls)(hl:cls.length<=30):Calls prog 124 #[.agg #[vg,vt,.int .i64 fr],vc] w fun r w'=>∃a3 n3 c3,r= .returned (.tuple #[.slice a3 n3 c3,.bool (CV S cls)])/\Seen w' 3 DT (.slice a3 n3 c3) (AR S 0 cls)/\Below w.heap.size w w':=by
 obtain⟨sa,sc,rfl⟩:=X.g.slice;obtain⟨ta,tc,rfl⟩:=X.t.slice;obtain⟨ca,cc,rfl⟩:=hC.slice;obtain⟨g0,o0,rfl,b3,_,R,c0⟩:=X.g.pos C;obtain⟨⟨xa,xn,xc⟩,hx,hX⟩:=X.g.first C
 simp only at hx hX;have HX:Hid (Seen w 129 AH (.slice xa xn xc) (CH S)):=hX;obtain⟨f,Q⟩:∃p,Hid (AI (CH S)=p):=⟨_,rfl⟩
 have HS:=aO X;have HO:=aO (StG.ok hG hF);have HC:=aO hC;have HG:=aO E;have Z:=aO C;clear X hG hC E C hX;go_enter func124,ntmps124;go_wp2_with (go_at_call 122;refine(CD xa xn xc _ _ (HX.o.below aM)).mono ?_;rintro r g ⟨rfl,L⟩;rw[Q.o]);have jg:Below w.heap.size w g:=Below.trans ((bZ _ w).alloc (aX _) _) (L.mono (by rw[cE];omega));have c1:w.heap.size+1<=g.heap.size:=by have:=L.size;rw[cE] at this;exact this
 have a6:Hid (g.heap[w.heap.size]?=_):=(L.block w.heap.size (by rw[cE];omega)).trans (AJ w _);go_loopw [7,8,20] (fun kv mv iv wr=>∃(k:Nat) (t:List Nat),k<=cls.length/\iv= .int .i64 (k:Nat)/\kv= .bool (CV S (cls.take k))/\t.length<=k/\aj wr (g.heap.size+1) 3 1 DT mv t/\Hid (AR S 0 (cls.take k)=t)/\Below (g.heap.size+1) (g.alloc (.cells #[.int .i64 f.kind,.string f.name,.int .i64 f.value,.int .i64 f.args] 129)) wr) (fun _ _ iv _=>cls.length -(intOf iv).toNat)
 case atStart=>exact⟨0,[],bK _,rfl,rfl,aX _,aj.nil _ _ _ _ _,rfl,bZ _ _⟩
 case round=>
  obtain⟨k,t,hk,rfl,rfl,b7,W,v,l⟩:=hrel;have b2:=l.size;rw[cE] at b2;have V:Below w.heap.size w wr:=jg.trans (Below.trans ((bZ _ g).alloc aD _) (l.mono aD));obtain⟨am,cm,hv⟩:=CJ W;subst hv;by_cases A:k<cls.length
  ·obtain⟨gc,oc,xx,rfl,b6,_,J,a9,b0⟩:=(HC.o.below V).at k A;have O:=HG.o.at A
   have U:cls.take (k+1)=cls.take k++[cls.getD k EM]:=by
    rw[bJ A,List.getD_eq_getElem?_getD,bU A];rfl
   obtain⟨n,b1⟩:∃n,Hid (cls.getD k EM=n):=⟨_,rfl⟩
   rw[b1.o] at J O U;have u:=aO J;have a7:=aO O;have a0:=aO U;obtain⟨⟨ha,hn,E⟩,⟨ba,bn,bc⟩⟩:=xx;simp only at a9 b0;have b4: (k:Int)<cls.length:=aD;have P1:wr.heap[g.heap.size]?=_:=(l.block g.heap.size aD).trans (AJ g _);obtain⟨q0,q1,q2,q3,ql⟩:=FH P1;have P2:wr.heap[w.heap.size]?=_:=(l.block w.heap.size aD).trans (AF a6.o _);have⟨s0,s1,s2⟩:=cJ P2;have sl:=AD P2;simp at s0 s1 s2;have G:=aO P1;have H:=aO P2;clear J O U P1 P2
   have s:Hid (AR S 0 (cls.take (k+1))=t++(if FV S n=true then [k] else [])):=by
    unfold Hid;rw[a0.o,VH,v.o,bW,show 0+min k cls.length=k by omega]
   have a2:Hid (CV S (cls.take (k+1))=(CV S (cls.take k)||DJ S n)):=by
    unfold Hid CV;rw[a0.o,List.any_append];simp
   have D:Hid (ZE n):=ClG.ok a7.o;by_cases Y:AI n.head=f
   ·have m:DJ S n=true:=by unfold DJ;rw[Q.o,Y];exact CE.2 rfl
    obtain⟨o,ho⟩:∃o,Hid ((BD S n 0).1=o):=⟨_,rfl⟩
    have B:Hid (FV S n=decide (o≠ -1)):=by unfold Hid FV;rw[m,ho.o];rfl
    have z:Hid (CV S (cls.take (k+1))=true):=by unfold Hid;rw[a2.o,m];simp
    clear m;by_cases P:o=-1
    ·subst P;have x:Hid (AR S 0 (cls.take (k+1))=t):=by unfold Hid;rw[s.o,B.o];simp
     clear s B;go_wp2_with fail;go_region_with (go_at_call 122;refine(CD ha hn E _ _ (u.o.head.below aM)).mono ?_;rintro r q ⟨rfl,b⟩;rw[Y];have h:q.heap[g.heap.size]?=_:=(b.block g.heap.size aJ).trans (AF G.o _);obtain⟨y0,y1,y2,y3,yl⟩:=FH h;have i:q.heap[w.heap.size]?=_:=(b.block w.heap.size aJ).trans (AF H.o _);have⟨t0,t1,t2⟩:=cJ i;simp at t0 t1 t2;have c:q.heap[wr.heap.size]?=_:=(b.block wr.heap.size aE).trans (AJ wr _);have⟨z0,z1⟩:=cI c;simp at z0 z1;have zl:=AD c;have a:Below wr.heap.size wr q:=Below.trans ((bZ _ wr).alloc (aX _) _).drew (b.mono aE);clear h i c)
     all_goals
      go_wp2_with (go_at_call 149;refine(M7 _ (.slice (some ⟨g0,o0,none⟩) S.aV.length sc) (.slice ta S.aS.length tc) fr 0 S ⟨ha,hn,E⟩ ⟨ba,bn,bc⟩ n N (HS.o.below (V.trans (a.mono V.size))) HO.o hN Z.o (u.o.below a) D.o).mono ?_;rintro r w3 ⟨a3,n3,c3,a4,n4,c4,fr',rfl,a8,M⟩;rw[ho.o];have d:Below wr.heap.size wr w3:=a.trans (M.mono a.size);have a5:=d.size;have K:=W.below d);go_roundw
      case rel=>exact⟨k+1,t,aD,by go_num,by rw[z.o],aD,K.below ((bZ _ w3).alloc (aX _) _),x,l.trans (Below.mono (d.alloc a5 _) aD)⟩
      case measure=>simp[intOf];omega
    ·have b5: (o != -1)=true:=bne_iff_ne.2 P;have x:Hid (AR S 0 (cls.take (k+1))=t++[k]):=by unfold Hid;rw[s.o,B.o];simp[P]
     clear s B;go_wp2_with fail;go_region_with (go_at_call 122;refine(CD ha hn E _ _ (u.o.head.below aM)).mono ?_;rintro r q ⟨rfl,b⟩;rw[Y];have h:q.heap[g.heap.size]?=_:=(b.block g.heap.size aJ).trans (AF G.o _);obtain⟨y0,y1,y2,y3,yl⟩:=FH h;have i:q.heap[w.heap.size]?=_:=(b.block w.heap.size aJ).trans (AF H.o _);have⟨t0,t1,t2⟩:=cJ i;simp at t0 t1 t2;have c:q.heap[wr.heap.size]?=_:=(b.block wr.heap.size aE).trans (AJ wr _);have⟨z0,z1⟩:=cI c;simp at z0 z1;have zl:=AD c;have a:Below wr.heap.size wr q:=Below.trans ((bZ _ wr).alloc (aX _) _).drew (b.mono aE);clear h i c)
     all_goals
      go_wp2_with (first
       |(go_at_call 149;refine(M7 _ (.slice (some ⟨g0,o0,none⟩) S.aV.length sc) (.slice ta S.aS.length tc) fr 0 S ⟨ha,hn,E⟩ ⟨ba,bn,bc⟩ n N (HS.o.below (V.trans (a.mono V.size))) HO.o hN Z.o (u.o.below a) D.o).mono ?_;rintro r w3 ⟨a3,n3,c3,a4,n4,c4,fr',rfl,a8,M⟩;rw[ho.o];have d:Below wr.heap.size wr w3:=a.trans (M.mono a.size);have a5:=d.size;have K:=W.below d)
       |(at_builtin;refine AY Tryz.Df DT GC TG _ rfl (.tmp 38) (.tmp 40) rfl (g.heap.size+1) (.slice am t.length cm) t rfl ((K.alloc _).alloc _) ⟨_,0,none⟩ 1 k rfl (BL _ (w3.heap.size+1) aE _ _) aD (by simp only[World.size_alloc];omega) ?_;intro gA gu w4 T iy qm))
      go_roundw
      case rel=>
       refine⟨k+1,t++[k],aD,by go_num,by rw[z.o],aJ,T,x,?_⟩;exact(l.trans (((d.mono (by omega:g.heap.size+1<=wr.heap.size)).alloc aD _).alloc (by simp only[World.size_alloc];omega) _)).grown iy (by simp only[World.size_alloc];omega) (fun j e=>(W.lt j e).1)
      case measure=>simp[intOf];omega
   ·have m:DJ S n=false:=by
     cases hh:DJ S n with
     |false=>rfl
     |true=>unfold DJ at hh;rw[Q.o] at hh;exact absurd (CE.1 hh) Y
    have x:Hid (AR S 0 (cls.take (k+1))=t):=by unfold Hid;rw[s.o];unfold FV;rw[m];simp
    have z:Hid (CV S (cls.take (k+1))=CV S (cls.take k)):=by unfold Hid;rw[a2.o,m];simp
    have Hp:=aO Y;clear s Y m;obtain⟨p1,R⟩:∃p,Hid (AI n.head=p):=⟨_,rfl⟩
    have a1: (¬p1.kind=f.kind)\/(p1.kind=f.kind/\¬p1.name.toList=f.name.toList)\/(p1.kind=f.kind/\p1.name.toList=f.name.toList/\¬p1.value=f.value)\/(p1.kind=f.kind/\p1.name.toList=f.name.toList/\p1.value=f.value/\¬p1.args=f.args):=by
     by_cases y:p1.kind=f.kind
     ·by_cases I:p1.name.toList=f.name.toList
      ·by_cases e3:p1.value=f.value
       ·by_cases e4:p1.args=f.args
        ·exfalso;refine Hp.o ?_;rw[R.o];exact L3 y I e3 e4
        ·exact .inr (.inr (.inr ⟨y,I,e3,e4⟩))
       ·exact .inr (.inr (.inl ⟨y,I,e3⟩))
      ·exact .inr (.inl ⟨y,I⟩)
     ·exact .inl y
    rcases a1 with y|⟨y,I⟩|⟨y,I,e3⟩|⟨y,I,e3,e4⟩
    all_goals
     go_wp2_with fail;go_region_with (go_at_call 122;refine(CD ha hn E _ _ (u.o.head.below aM)).mono ?_;rintro r q ⟨rfl,b⟩;rw[R.o];have h:q.heap[g.heap.size]?=_:=(b.block g.heap.size aJ).trans (AF G.o _);obtain⟨y0,y1,y2,y3,yl⟩:=FH h;have i:q.heap[w.heap.size]?=_:=(b.block w.heap.size aJ).trans (AF H.o _);have⟨t0,t1,t2⟩:=cJ i;simp at t0 t1 t2;have c:q.heap[wr.heap.size]?=_:=(b.block wr.heap.size aE).trans (AJ wr _);have⟨z0,z1⟩:=cI c;simp at z0 z1;have zl:=AD c;have a:Below wr.heap.size wr q:=Below.trans ((bZ _ wr).alloc (aX _) _).drew (b.mono aE);clear h i c)
     all_goals
      go_wp2_with fail;go_roundw
      case rel=>exact⟨k+1,t,aD,by go_num,by rw[z.o],aD,W.below a,x,l.trans (a.mono aD)⟩
      case measure=>simp[intOf];omega
  ·obtain rfl:k=cls.length:=aD;rw[List.take_length] at v⊢;go_wp2_with fail;go_ret2;exact⟨_,_,_,rfl,by rw[v.o];exact W.seen,V⟩
variable {nm : Value}
theorem mP{N:Nat}{F:Int}{cf:Cf}{a b:List AB}(h:Rf.StG N F cf.now)(i:N<=9000)(f:a.length<=400)(g:b.length<=400)(d:CZ a)(e:CZ b):qy (BT cf a b):=by
 refine⟨⟨f,g,⟨by simp[BT],by intro t c;cases c⟩,⟨?_,?_⟩,⟨?_,?_⟩⟩,d,e⟩
 ·have:=h.gl;simp only[BT,List.length_tail];omega
 ·intro t c;exact(h.g t (List.mem_of_mem_tail c)).1
 ·have:=h.tl;simp only[BT];omega
 ·intro t c;exact(h.t t c).1
theorem ZJ(w:World)(q:Nat)(D:Option Nat)(Z:List ByteArray)(cf:Cf)(E:Option Addr)(J c1:Nat)(A:List AB)(G:Option Addr)(K H:Nat)(B:List AB)(N:Nat)(F:Int)(h:QAt nm w q D Z cf)(hA:Seen w 129 AH (.slice E J c1) A)(hB:Seen w 129 AH (.slice G K H) B)(hG:Rf.StG N F cf.now)(hN:N<=9000)(l:cf.now.aV≠[])(Q:A.length<=400)(S:B.length<=400)(v:CZ A)(x:CZ B):Calls prog 151 #[.pointer (some ⟨q,0,none⟩),.slice E J c1,.slice G K H] w fun r w'=>r= .returned (.int .i64 (BJ cf A B).1)/\QAt nm w' q D Z (BJ cf A B).2/\Kept (May q D) w w':=by
 obtain⟨vg,vt,fr,vC,m⟩:=h.ex;obtain⟨k0,k1,k2,k3,k4,kf,kl⟩:=m.b.facts;obtain⟨ag,O,rfl⟩:=m.s.g.slice;obtain⟨g,off,rfl,a4,_,a5,a8⟩:=m.s.g.pos l;obtain⟨ta,tc,rfl⟩:=m.s.t.slice;have f:=aO m;have HA:=aO hA;have HB:=aO hB;have Y:=aO (mP hG hN Q S v x);have M:=aO l;clear h m hA hB hG l v x;go_enter func151,ntmps151;go_wp2_with fail;have s:Hid (O=1->ak w (.slice (some ⟨g,off,none⟩) (cf.now.aV.length -1) 0) cf.now.aV.tail):=fun hc=>f.o.s.g.Jc hc;have t:Hid (ak w (.slice (some ⟨g,off+1,none⟩) (cf.now.aV.length -1) (O-1)) cf.now.aV.tail):=f.o.s.g.Jb M.o;go_cut [7] from 9 to 38 (fun pv W=>∃(e:Nat) (L:Value),pv= .pointer (some ⟨e,0,none⟩)/\w.heap.size<=e/\EqB W e (.slice E J c1) (.slice G K H) (.slice none 0 0) L (.slice ta cf.now.aS.length tc)/\ak W L cf.now.aV.tail/\Below w.heap.size w W)
 case first=>
  by_cases U:O=1
  ·go_region;go_wp2_with fail;go_meet;exact⟨_,_,rfl,aD,AZ _ _ _ aE,(s.o U).below aM,aM⟩
  ·go_region;go_wp2_with fail;go_meet;exact⟨_,_,rfl,aD,AZ _ _ _ aE,t.o.below aM,aM⟩
 case rest=>
  obtain⟨e,L,rfl,he,y,C,a⟩:=hcut;have hE:qh wc (.slice E J c1) (.slice G K H) (.slice none 0 0) L (.slice ta cf.now.aS.length tc) (BT cf A B):=⟨HA.o.below a,HB.o.below a,ak.nil _,C,f.o.s.t.below a⟩
  have X:Hid (KJ wc e (BT cf A B)):=⟨_,_,_,_,_,y,hE⟩
  have z:=f.o.below a;have a0:=aO z;have a9:¬q=e:=aD;have d:Hid (BJ cf A B=((AL (BT cf A B)).1,if(AL (BT cf A B)).1=0 then⟨⟨(AL (BT cf A B)).2.behind,(AL (BT cf A B)).2.aS,cf.now.aQ⟩,cf.chs⟩ else cf)):=rfl;obtain⟨o,I⟩:∃o,Hid ((AL (BT cf A B)).1=o):=⟨_,rfl⟩
  rw[I.o] at d;clear hE y C z s t k0 k1 k2 k3 k4 kf;by_cases P:o=0
  ·subst P;have T:Hid (BJ cf A B=(0,⟨⟨(AL (BT cf A B)).2.behind,(AL (BT cf A B)).2.aS,cf.now.aQ⟩,cf.chs⟩)):=d.o;clear d;go_wp2_with (go_at_call 171;refine(NR _ e _ X.o Y.o).mono ?_;rintro r n ⟨rfl,j,u⟩;obtain⟨vf,vs,vb,vh,vt,R,c⟩:=(u I.o).ex;obtain⟨a6,c6,rfl⟩:=c.h.slice;obtain⟨a7,c7,rfl⟩:=c.t.slice;obtain⟨l0,l1,l2,l3,l4,lf,ll⟩:=R.facts;have b:Below w.heap.size w n:=a.trans (j.below a.size (fun k hk e=>by omega));have i:=f.o.below b;obtain⟨m0,m1,m2,m3,m4,mf,ml⟩:=i.b.facts;rw[I.o]);go_ret;rw[T.o];have V:xq n (.slice a6 _ c6) (.slice a7 _ c7) fr ⟨(AL (BT cf A B)).2.behind,(AL (BT cf A B)).2.aS,cf.now.aQ⟩:=⟨c.h,c.t,f.o.s.f⟩
   refine⟨rfl,(QIs.now i (((Kept.refl (fun k=>k=q) n).setCell (p:=⟨q,1,none⟩) (.inr rfl) _).setCell (p:=⟨q,2,none⟩) (.inr rfl) _) (AK (AK i.b 1 _) 2 _) V).at,?_⟩;exact((Kept.of_below b (May q D)).trans (((Kept.refl (May q D) n).setCell (p:=⟨q,1,none⟩) (.inr (.inl rfl)) _).setCell (p:=⟨q,2,none⟩) (.inr (.inl rfl)) _) (fun _ _ h=>h))
  ·have a3: (o==0)=false:=aY.2 P;go_wp2_with (go_at_call 171;refine(NR _ e _ X.o Y.o).mono ?_;rintro r n ⟨rfl,j,u⟩;rw[I.o]);go_ret;rw[d.o,bC P];have b:Below w.heap.size w n:=a.trans (j.below a.size (fun k hk e=>by omega));exact⟨rfl,(f.o.below b).at,Kept.of_below b _⟩
theorem yG(w:World)(q:Nat)(n:Option Nat)(u:List ByteArray)(cf:Cf)(i:Option Addr)(m c1:Nat)(A:List AB)(h:QAt nm w q n u cf)(D:Seen w 129 AH (.slice i m c1) A)(l:cf.now.aV≠[])(e:A.length<=400)(j:CZ A):Calls prog 153 #[.pointer (some ⟨q,0,none⟩),.slice i m c1] w fun r w'=>r= .returned (.int .i64 (EP cf A).1)/\QAt nm w' q n u (EP cf A).2/\Kept (May q n) w w':=by
 have s:=aO h;have p:=aO D;have c:=aO j;have t:=aO l;obtain⟨o,f⟩:∃o,Hid (A8 A=o):=⟨_,rfl⟩
 have g:Hid (EP cf A=if o=0 then(if CC A<CB A then E9 cf else(-1,cf)) else(o,cf)):=by unfold Hid EP;rw[f.o]
 clear h D l j;by_cases v:o=0
 ·subst v;by_cases k:CC A<CB A
  ·have d:Hid (EP cf A=E9 cf):=by unfold Hid;rw[g.o,bD rfl,bD k]
   have B:¬CB A<=CC A:=aD;clear g;go_enter func153,ntmps153
   go_wp2_with (first
    |(go_at_call 174;refine(G4 i m c1 A _ p.o c.o e).mono ?_;rintro r E ⟨x,y,rfl,b,a⟩;obtain⟨rfl,rfl⟩:=b f.o;rw[f.o])
    |(go_at_call 150;refine(UK _ q n u cf (s.o.below a) t.o).mono ?_;rintro r G ⟨rfl,z,C⟩))
   go_ret;rw[d.o];exact⟨rfl,z,(Kept.of_below a _).trans C (fun _ _ h=>h)⟩
  ·have d:Hid (EP cf A=(-1,cf)):=by unfold Hid;rw[g.o,bD rfl,bC k]
   have B:CB A<=CC A:=aD;clear g;go_enter func153,ntmps153;go_wp2_with (go_at_call 174;refine(G4 i m c1 A _ p.o c.o e).mono ?_;rintro r E ⟨x,y,rfl,b,a⟩;obtain⟨rfl,rfl⟩:=b f.o;rw[f.o]);go_ret;rw[d.o];exact⟨rfl,s.o.below a,Kept.of_below a _⟩
 ·have F: (o !=0)=true:=bne_iff_ne.2 v;go_enter func153,ntmps153;go_wp2_with (go_at_call 174;refine(G4 i m c1 A _ p.o c.o e).mono ?_;rintro r E ⟨x,y,rfl,b,a⟩;rw[f.o]);go_ret;rw[g.o,bC v];exact⟨rfl,s.o.below a,Kept.of_below a _⟩
end Go.Proofs.Q
namespace Rf
theorem I0{f:Int}{A:List AB}(h:∀p∈A,ru f p)(i:Nat)(a:AV (AI (AX A i))=0): -999999999<=(AI (AX A i)).value/\(AI (AX A i)).value<=999999999:=by
 have b: (AI (AX A i)).kind=2:=by
  unfold AV at a;split at a
  ·cases a
  ·split at a
   ·assumption
   ·cases a
 cases c:AX A i with
 |nil=>rw[c] at b;exact absurd b aF
 |cons p t=>
  rw[c] at b;have d:=(J1 A i).2 p (by rw[c];simp);exact(h p d).2.2.1 b
theorem aCw{f:Int}{A:List AB}(h:∀p∈A,ru f p)(a:A8 A=0): (-999999999<=CC A/\CC A<=999999999)/\(-999999999<=CB A/\CB A<=999999999):=by
 have b:AV (AI (AX A 0))=0:=by
  unfold A8 at a;split at a
  ·assumption
  ·exact a
 have c:AV (AI (AX A 1))=0:=by
  unfold A8 at a;rw[bD b] at a;exact a
 exact⟨I0 h 0 b,I0 h 1 c⟩
end Rf
namespace Go.Proofs.Q
open Rf _root_.Go.Proofs.Tryz
open Go.RowKit
variable {nm : Value}
theorem SS{A:List AB}(h:CZ A)(i:Nat):CZ (AX A i):=fun p a=>h p ((J1 A i).2 p a)
theorem Seen.one{w:World}{N:Nat}{p:AB}(h:w.heap[N]?=some (.cells #[.int .i64 p.kind,.string p.name,.int .i64 p.value,.int .i64 p.args] 129 (0,0))):Seen w 129 AH (.slice (some ⟨N,0,none⟩) 1 1) [p]:=(N8 (C:=AH) (x:=p) (base:=0) (size:=4) h rfl rfl (bK _)).seen
theorem uG(w:World)(q:Nat)(J:Option Nat)(M:List ByteArray)(cf:Cf)(t:Option Addr)(v c1:Nat)(A:List AB)(N:Nat)(F:Int)(h:QAt nm w q J M cf)(U:Seen w 129 AH (.slice t v c1) A)(V:Rf.StG N F cf.now)(hN:N<=9000)(E:cf.now.aV≠[])(c:A.length<=400)(u:∀p∈A,ru cf.now.aQ p):Calls prog 154 #[.pointer (some ⟨q,0,none⟩),.slice t v c1] w fun r w'=>r= .returned (.int .i64 (EC cf A).1)/\QAt nm w' q J M (EC cf A).2/\Kept (May q J) w w':=by
 have H:=aO h;have C:=aO U;have b:Hid (CZ A):=fun p I=>(u p I).1;have X:=aO V;have L:=aO E;obtain⟨o,m⟩:∃o,Hid (A8 A=o):=⟨_,rfl⟩
 have K:Hid (EC cf A=if o=0 then(if CC A+CB A< -999999999\/999999999<CC A+CB A then(11,cf) else BJ cf (G7 (CC A+CB A)) (AX A 2)) else(o,cf)):=by unfold Hid EC;rw[m.o]
 have T:Hid (o=0->(-999999999<=CC A/\CC A<=999999999)/\(-999999999<=CB A/\CB A<=999999999)):=fun e=>aCw u (m.o.trans e);clear h U E u V;by_cases O:o=0
 ·subst O;obtain⟨⟨Z,b2⟩,⟨b3,b4⟩⟩:=T.o rfl;obtain⟨g,j⟩:∃n,Hid (CC A=n):=⟨_,rfl⟩
  obtain⟨f,i⟩:∃n,Hid (CB A=n):=⟨_,rfl⟩
  have l:Hid (EC cf A=if g+f< -999999999\/999999999<g+f then(11,cf) else BJ cf (G7 (g+f)) (AX A 2)):=by unfold Hid;rw[K.o,bD rfl,j.o,i.o]
  rw[j.o] at Z b2;rw[i.o] at b3 b4;clear K T;by_cases z:g+f< -999999999\/999999999<g+f
  ·have k:Hid (EC cf A=(11,cf)):=by unfold Hid;rw[l.o,bD z]
   clear l;rcases z with z|z
   ·go_enter func154,ntmps154;go_wp2_with (go_at_call 174;refine(G4 t v c1 A _ C.o b.o c).mono ?_;rintro r B ⟨x,y,rfl,d,a⟩;obtain⟨rfl,rfl⟩:=d m.o;rw[m.o,j.o,i.o]);go_ret;rw[k.o];exact⟨rfl,H.o.below a,Kept.of_below a _⟩
   ·have S:¬g+f< -999999999:=aD;go_enter func154,ntmps154;go_wp2_with (go_at_call 174;refine(G4 t v c1 A _ C.o b.o c).mono ?_;rintro r B ⟨x,y,rfl,d,a⟩;obtain⟨rfl,rfl⟩:=d m.o;rw[m.o,j.o,i.o]);go_ret;rw[k.o];exact⟨rfl,H.o.below a,Kept.of_below a _⟩
  ·have k:Hid (EC cf A=BJ cf (G7 (g+f)) (AX A 2)):=by unfold Hid;rw[l.o,bC z]
   have a2:¬g+f< -999999999:=aD;have S:¬999999999<g+f:=aD;clear l z;go_enter func154,ntmps154
   go_wp2_with (first
    |(go_at_call 174;refine(G4 t v c1 A _ C.o b.o c).mono ?_;rintro r B ⟨x,y,rfl,d,a⟩;obtain⟨rfl,rfl⟩:=d m.o;rw[m.o,j.o,i.o];have G:=a.size)
    |(go_at_call 152;refine(tX t v c1 A _ (C.o.below (a.alloc G _)) b.o c).mono ?_;rintro r W ⟨Y,n3,c3,rfl,Q,D⟩;have s:Below w.heap.size w W:=(a.alloc G _).trans (D.mono (by rw[cE];omega));have hn:Seen W 129 AH (.slice (some ⟨B.heap.size,0,none⟩) 1 1) (G7 (g+f)):=Seen.one (p:=⟨2,⟨#[]⟩,g+f,0⟩) ((D.block B.heap.size (by rw[cE];omega)).trans (AJ B _)))
    |(go_at_call 151;refine(ZJ _ q J M cf _ _ _ (G7 (g+f)) Y n3 c3 (AX A 2) N F (H.o.below s) hn Q X.o hN L.o (by simp[G7]) (bN (J1 A 2).1 c) (fun p I=>by simp[G7] at I;subst I;simp) (SS b.o 2)).mono ?_;rintro r w3 ⟨rfl,P,R⟩))
   go_ret;rw[k.o];exact⟨rfl,P,(Kept.of_below s _).trans R (fun _ _ h=>h)⟩
 ·have a0: (o !=0)=true:=bne_iff_ne.2 O;go_enter func154,ntmps154;go_wp2_with (go_at_call 174;refine(G4 t v c1 A _ C.o b.o c).mono ?_;rintro r B ⟨x,y,rfl,d,a⟩;rw[m.o]);go_ret;rw[K.o,bC O];exact⟨rfl,H.o.below a,Kept.of_below a _⟩
theorem QIs.push{W i:World}{q:Nat}{z:Option Nat}{s t u vC:Value}{r:Int}{A:List ByteArray}{cf:Cf}(b:QIs W q z s t u r vC A cf){acc:List (ChV×Ch)}(l:∀y∈acc,Ai W y.1 y.2)(E:acc.map (·.2)=cf.chs.reverse){x:ChV}{c:Ch}(hx:Ai W x c){g n a:Nat}(f:aj i 0 133 4 E6 (.slice (some ⟨g,0,none⟩) n a) (acc.map (·.1)++[x]))(m:W.grownBy i vC.ownBlock):QIs (i.setCell ⟨q,4,none⟩ (.slice (some ⟨g,0,none⟩) n a)) q (some g) s t u r (.slice (some ⟨g,0,none⟩) n a) A ⟨cf.now,c::cf.chs⟩/\Kept (May q z) W (i.setCell ⟨q,4,none⟩ (.slice (some ⟨g,0,none⟩) n a))/\QB i q s t u r vC:=by
 have w:Kept (May q z) W i:=(Kept.refl _ W).grown m (fun k e=> .inr (.inr (by rw[<-b.o,e])));have o:=w.setCell (p:=⟨q,4,none⟩) (.inr (.inl rfl)) (.slice (some ⟨g,0,none⟩) n a);have d:QB i q s t u r vC:=(m.block q (AD b.b) (fun e=>b.rq (by rw[<-b.o,e]))).trans b.b
 have v:¬g=q:=by
  intro e;obtain⟨B,h⟩:=f.typed g rfl;rw[e] at h;unfold QB at d;rw[d] at h;injection h with C;injection C with _ D;exact absurd D aF
 refine⟨⟨AK d 4 _,Seen.kept b.n o b.free.s,b.s.kept o b.free,?_,rfl⟩,o,d⟩;refine⟨acc++[(x,c)],?_,fun y j=>?_,by rw[bE,E,List.reverse_cons];rfl⟩
 ·rw[bE];exact f.setCell _ _ (fun e=>v (by injection e))
 ·rcases bO.1 j with j|j
  ·exact(l y j).kept o b.free
  ·simp at j;subst j;exact hx.kept o b.free
theorem Seen.three{w:World}{N:Nat}{x y z:SlV}(h:w.heap[N]?=some (.cells #[.slice x.a x.n x.c,.slice y.a y.n y.c,.slice z.a z.n z.c] 84 (0,0))):Seen w 84 B5 (.slice (some ⟨N,0,none⟩) 3 3) [x,y,z]:=by
 refine⟨.inr ⟨N,0,3,_,rfl,h,aE,by unfold maxLen;omega,fun j u a=>?_⟩⟩;rw[Nat.zero_add]
 match j,a with
 |0,a=>simpa[B5,slv] using a
 |1,a=>simpa[B5,slv] using a
 |2,a=>simpa[B5,slv] using a
 |(j+3),a=>simp[B5] at a
theorem uX(k:Int)(s:ByteArray)(v a:Int)(w:World): (Instr.field 129 (.agg #[.int .i64 k,.string s,.int .i64 v,.int .i64 a]) 0).run prog w= .ok (.int .i64 k) w:=aK
end Go.Proofs.Q
