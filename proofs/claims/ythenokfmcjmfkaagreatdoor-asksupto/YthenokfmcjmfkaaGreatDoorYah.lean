import Derived.Test.YthenokfmcjmfkaaGreatDoorYag
import Derived.Test.YthenokfmcjmfkaaGreatDoorYab
set_option maxRecDepth 100000
set_option maxHeartbeats 4000000
namespace Rf
def FL(f:Nat)(l:List Tok):Except (Int×Nat) (Cl×List Tok):=
 match IT f l with
 | .error e=> .error e
 | .ok (p,l1,ns1)=>match l1 with
  |[]=> .error (2,0)
  | u :: l2 => if u.k = 58 then (match BZ f 8 [] l2 ns1 with
    | .error e=> .error e
    | .ok (gs,l3,ns2)=>JF (p,gs) l3 ns2)
   else JF (p,[]) (u::l2) ns1
theorem TB(f:Nat)(l:List Tok):BP f l=FL f l:=by
 unfold BP FL IT
 cases l with
 |nil=>rfl
 |cons t l=>
  simp only[]
  cases AM f (t::l) [] with
  |error e=>rfl
  |ok x=>
   obtain⟨p,b,a⟩:=x;simp only[]
   cases F7 p with
   |false=>rfl
   |true=>
    rw[bD rfl,bD rfl]
    cases b with
    |nil=>rfl
    |cons u d=>
     simp only[];split
     ·rw[SB]
      cases g:BZ f 8 [] d a with
      |error e=>rfl
      |ok x=>
       obtain⟨gs,i,c⟩:=x;obtain⟨y,j,rfl⟩:=NW f _ _ _ _ _ _ _ g;unfold X2;simp only[];by_cases h:y.k=63
       ·rw[bD h];simp only[JF];rw[bC aD]
       ·rw[bC h]
     ·rfl
end Rf
namespace Go.Proofs.Q
open Rf _root_.Go.Proofs.Tryz
open Go.RowKit
structure SlV where
 a:Option Addr
 n:Nat
 c:Nat
def slv(x:SlV):Value:= .slice x.a x.n x.c
def B5(x:SlV):List Value:=[slv x]
theorem DZ(s:SlV): (B5 s).length=1:=rfl
theorem F8(s:SlV):∀u∈B5 s,u.oneCell'=true:=by
 intro u a;simp only[B5,List.mem_cons,dF,or_false] at a;subst a;rfl
theorem Tryz.mg:D7 prog 78 84 1 24 (.slice none 0 0):=⟨underlying78,aK,rfl,aF,aF⟩
structure PGs(w wr:World)(nb:Option Nat)(v:Value)(acc:List (SlV×List AB)):Prop where
 row:aj wr 0 84 1 B5 v (acc.map (·.1))
 au:∀k,v.ownBlock=some k->New w wr nb k
 aV:∀q∈acc,PT (fun k=>New w wr nb k/\v.ownBlock≠some k) wr (slv q.1) q.2
theorem PGs.over{w wr l:World}{b:Nat}{a nb1:Option Nat}{v:Value}{acc:List (SlV×List AB)}(h:PGs w wr a v acc)(u:b<w.heap.size)(d:Kept (May b a) wr l)(n:Nb wr a nb1):PGs w l nb1 v acc:=by
 have o:=d.size;have c:∀k,k<wr.heap.size->w.heap.size<=k->a≠some k->¬May b a k/\nb1≠some k:=fun k s x i=>⟨fun e=>by rcases e with e|e;exact absurd e aD;exact i e.symm,n.ne i s⟩
 refine⟨h.row.keptBy d (fun k e=>(c k (h.au k e).2.1 (h.au k e).1 (h.au k e).2.2).1),fun k e=>⟨(h.au k e).1,by have:=(h.au k e).2.1;omega,(c k (h.au k e).2.1 (h.au k e).1 (h.au k e).2.2).2⟩,fun q p=>(h.aV q p).keptBy d (fun k t m=>?_)⟩;obtain⟨⟨f,j,g⟩,r⟩:=m;exact⟨(c k j f g).1,⟨f,aD,(c k j f g).2⟩,r⟩
theorem jQ{w wr b f:World}{r:Nat}{h:ByteArray}{o:Obj}{nb1 a:Option Nat}{v:Value}{acc:List (SlV×List AB)}{x:SlV}{ps:List AB}{l:List Rf.Tok}{ns:List ByteArray}{d n y:Nat} (M:w.heap.size<=wr.heap.size) (J:wr.heap.size<=b.heap.size) (L:PGs w wr nb1 v acc) (c:PGs w b a v acc) (t:PT (New wr b a) b (slv x) ps) (j:Pr b r h a l ns) (N:r<w.heap.size) (s: (b.alloc o).grownBy f v.ownBlock) (C:Nb (b.alloc o) v.ownBlock (some d)) (E:aj f 0 84 1 B5 (.slice (some ⟨d,0,none⟩) n y) ((acc.map (·.1))++[x])):PGs w f a (.slice (some ⟨d,0,none⟩) n y) (acc++[(x,ps)])/\Pr f r h a l ns/\Kept (fun k=>v.ownBlock=some k) b f/\(∀k,v.ownBlock=some k->w.heap.size<=k):=by
 have p:Kept (fun k=>v.ownBlock=some k) b f:=(((Kept.refl (fun k=>v.ownBlock=some k) b).alloc o).grown s (fun k e=> .inr e))
 have H:b.heap.size+1<=f.heap.size:=by have:=s.size;simpa using this
 have A:d<f.heap.size:=(E.lt d rfl).2;have u:∀k,a=some k->k<b.heap.size:=fun k e=>j.lt.2.1 k e
 have m:w.heap.size<=d/\a≠some d:=by
  rcases C with e|⟨k,e,p⟩
  ·exact⟨(c.au d e.symm).1,(c.au d e.symm).2.2⟩
  ·have:=bF e;simp at p;exact⟨aD,fun e=>by have:=u d e;omega⟩
 have D:∀z qs,PT (fun k=>New w b a k/\v.ownBlock≠some k) b z qs->PT (fun k=>New w f a k/\(Value.slice (some ⟨d,0,none⟩) n y).ownBlock≠some k) f z qs:=by
  intro z qs g;refine g.keptBy p (fun k G i=>?_);obtain⟨⟨I,O,K⟩,B⟩:=i;exact⟨B,⟨I,aD,K⟩,fun e=>C.ne B aJ e⟩
 refine⟨⟨?_,fun k e=>?_,fun q g=>?_⟩,j.keptBy p (fun e=>by have:=(c.au r e).1;omega) (fun k e F=>(c.au k F).2.2 e),p,fun k e=>(c.au k e).1⟩
 ·rw[bE];exact E
 ·obtain rfl:=bF e;exact⟨m.1,A,m.2⟩
 ·rcases bO.1 g with g|g
  ·exact D _ _ (c.aV q g)
  ·simp at g;subst g;refine D _ _ (t.keptBy (Kept.refl (fun _=>False) _) (fun k _ i=>⟨fun e=>e,⟨by have:=i.1;omega,i.2.1,i.2.2⟩,fun e=>?_⟩));have:=(L.au k e).2.1;have:=i.1;omega
def p6(w:World)(r:Nat)(text:ByteArray)(nb:Option Nat)(res:Except (Int×Nat) (List (List AB)×List Rf.Tok×List ByteArray))(x:Ending)(w':World):Prop:=
  Kept (May r nb) w w'/\(match res with
   | .ok (gs,l',ns')=>∃(a:Option Addr) (n c:Nat) (nb':Option Nat) (acc:List (SlV×List AB)),x= .returned (.tuple #[.slice a n c,.bool true])/\Pr w' r text nb' l' ns'/\Nb w nb nb'/\PGs w w' nb' (.slice a n c) acc/\gs=acc.map (·.2)/\acc.length<=8
   | .error (e,q)=>x= .returned (.tuple #[.slice none 0 0,.bool false])/\PrE w' r e q)
def aBj(w:World)(r:Nat)(a:ByteArray)(c:Option Nat)(f:Nat)(b:Except (Int×Nat) (List (List AB)×List Rf.Tok×List ByteArray))(m:Nat)(v:Value)(wr:World):Prop:=
 Kept (May r c) w wr/\∃(k:Nat) (acc:List (SlV×List AB)) (l1:List Rf.Tok) (ns1:List ByteArray) (nb1:Option Nat),m=k+1/\k+1+acc.length=8/\Pr wr r a nb1 l1 ns1/\Nb w c nb1/\l1.length<=f/\PGs w wr nb1 v acc/\Hid (b=BZ f (k+1) (acc.map (·.2)) l1 ns1)
theorem JJ(f:Nat)(r:Nat)(d:ByteArray)(nb:Option Nat)(l:List Rf.Tok)(ns:List ByteArray)(w:World)(h:Pr w r d nb l ns)(hl:l.length<=f):Calls prog 52 #[.pointer (some ⟨r,0,none⟩)] w fun x w'=>p6 w r d nb (BZ f 8 [] l ns) x w':=by
 obtain⟨p,a9,a7⟩:=h.lt;have H:=aO h;clear h;go_enter func52,ntmps52;go_wp2_with fail;go_loopg [4] 8 (fun m v wr=>aBj w r d nb f (BZ f 8 [] l ns) m v wr)
 case atStart=>exact⟨Kept.refl _ _,7,[],l,ns,nb,rfl,rfl,H.o,.inl rfl,hl,⟨aj.nil _ _ _ _ _,fun k e=>by simp[Value.ownBlock] at e,fun q hq=>by simp at hq⟩,rfl⟩
 case round=>
  obtain⟨E,k,acc,Y,u,nb1,rfl,a8,hP,y,M,hA,i⟩:=hrel;obtain⟨a,c,hv⟩:=CJ hA.row;rw[aZ] at hv;subst hv;have T:=E.size;have X:=aO hP;have W:=aO hA;clear hP hA
  cases t:BS f Y u with
  |error x=>
   obtain⟨e,q⟩:=x;have I:=aO t;clear t;have U:Hid (BZ f 8 [] l ns= .error (e,q)):=by unfold Hid;rw[i.o,BZ,I.o]
   go_wp2_with (go_at_call 82;refine(PM f r d nb1 Y u _ X.o M).mono ?_;rintro x w2 ⟨g,B⟩;rw[I.o] at B;obtain⟨rfl,a4⟩:=B);refine bodyPost_ret (v:= .tuple #[.slice none 0 0,.bool false]) (by simp[results,results52,go_sem]) rfl ?_;rw[U.o];exact⟨E.trans g (May.of y),rfl,a4⟩
  |ok x=>
   obtain⟨ps,l2,s⟩:=x;have I:=aO t;clear t;have V:=R6 f Y u ps l2 s X.o.ended X.o.n16 I.o;have J:=fK I.o;obtain⟨_,_,_,Ip⟩:=V
   cases l2 with
   |nil=>exact absurd rfl Ip.ne
   |cons u2 R=>
    have a5:R.length<=f:=by simp at J;omega
    clear Ip J;have a6: (acc.length:Int)<=7:=aD;have Q:∀x:SlV,(acc++[(x,ps)]).map (·.2)=acc.map (·.2)++[ps]:=fun x=>by simp
    cases c7: (BV u2.k !=7)
    ·have o:Hid (u2.k=44):=jI c7;have a1:Hid (u2.k≠0):=by unfold Hid;rw[o.o];decide
     have Qd:Hid (u2.k≠63):=by unfold Hid;rw[o.o];decide
     by_cases a3:k=0
     ·subst a3;have Jm: (acc.length:Int)+1=8:=aD
      have U:Hid (BZ f 8 [] l ns= .error (3,u2.at_)):=by
       unfold Hid;rw[i.o,BZ,I.o];simp only[];rw[bD o.o,bD aJ]
      have HX:Hid (BR u2 3=(3,u2.at_)):=F0 u2 3 (by rw[o.o];decide);go_wp2_with (first
      |(go_at_call 82;refine(PM f r d nb1 Y u _ X.o M).mono ?_;rintro x w2 ⟨g,B⟩;rw[I.o] at B;obtain⟨N,O,L,z,rfl,A,S,D,Z⟩:=B;have C:=g.size;have j:=PGs.over W.o p g S)
      |(at_builtin;refine AY Tryz.mg B5 DZ F8 _ rfl (.tmp 14) (.tmp 16) rfl 0 _ (acc.map (·.1)) rfl (j.row.alloc _) ⟨_,0,none⟩ 1 (SlV.mk (some ⟨N,0,none⟩) O L) rfl (BL _ _ rfl _ _) aJ (bK _) ?_;intro gA gu w3 b dw jh;rw[aZ] at b;obtain⟨K,n,F,G⟩:=jQ (x:=SlV.mk (some ⟨N,0,none⟩) O L) T C W.o j (D.pt Z) A p dw jh b;obtain⟨k1,⟨_,k0⟩,kl⟩:=n.kind)
      |(go_at_call 83;refine(F9 _ r d z u2 R s 3 n aF).mono ?_;rintro e w7 ⟨rfl,a0,P⟩;rw[HX.o] at a0))
      refine bodyPost_ret (v:= .tuple #[.slice none 0 0,.bool false]) (by simp[results,results52,go_sem]) rfl ?_;rw[U.o];exact⟨((E.trans g (May.of y)).trans F (fun k hk e=>absurd (G k e) aD)).trans P (fun _ _ e=>Or.inl e),rfl,a0⟩
     ·have Jm: (acc.length:Int)+1<8:=aD
      have U:Hid (BZ f 8 [] l ns=BZ f k (acc.map (·.2)++[ps]) R s):=by
       unfold Hid;rw[i.o,BZ,I.o];simp only[];rw[bD o.o,bC aJ]
      go_wp2_with (first
      |(go_at_call 82;refine(PM f r d nb1 Y u _ X.o M).mono ?_;rintro x w2 ⟨g,B⟩;rw[I.o] at B;obtain⟨N,O,L,z,rfl,A,S,D,Z⟩:=B;have C:=g.size;have j:=PGs.over W.o p g S)
      |(at_builtin;refine AY Tryz.mg B5 DZ F8 _ rfl (.tmp 14) (.tmp 16) rfl 0 _ (acc.map (·.1)) rfl (j.row.alloc _) ⟨_,0,none⟩ 1 (SlV.mk (some ⟨N,0,none⟩) O L) rfl (BL _ _ rfl _ _) aJ (bK _) ?_;intro gA gu w3 b dw jh;rw[aZ] at b;obtain⟨K,n,F,G⟩:=jQ (x:=SlV.mk (some ⟨N,0,none⟩) O L) T C W.o j (D.pt Z) A p dw jh b;obtain⟨k1,⟨_,k0⟩,kl⟩:=n.kind)
      |(go_at_call 50;refine(EN _ r d z u2 R s n a1.o Qd.o).mono ?_;rintro e w7 ⟨rfl,a2,P⟩))
      go_roundg k
      case measure=>omega
      case rel=>
       refine⟨((E.trans g (May.of y)).trans F (fun k hk e=>absurd (G k e) aD)).trans P (fun _ _ e=>Or.inl e),k-1,_,R,s,z,aD,?_,a2,(Nb.trans y S aD),a5,K.over p (P.mono (fun _ _ e=>Or.inl e)) (.inl rfl),?_⟩
       ·simp;omega
       ·show BZ f 8 [] l ns=BZ f (k-1+1) ((acc++[(SlV.mk (some ⟨N,0,none⟩) O L,ps)]).map (·.2)) R s;rw[show k-1+1=k by omega,Q];exact U.o
    ·have o:Hid (u2.k≠44):=eJ c7
     have U:Hid (BZ f 8 [] l ns= .ok (acc.map (·.2)++[ps],u2::R,s)):=by
      unfold Hid;rw[i.o,BZ,I.o];simp only[];rw[bC o.o]
     go_wp2_with (first
      |(go_at_call 82;refine(PM f r d nb1 Y u _ X.o M).mono ?_;rintro x w2 ⟨g,B⟩;rw[I.o] at B;obtain⟨N,O,L,z,rfl,A,S,D,Z⟩:=B;have C:=g.size;have j:=PGs.over W.o p g S)
      |(at_builtin;refine AY Tryz.mg B5 DZ F8 _ rfl (.tmp 14) (.tmp 16) rfl 0 _ (acc.map (·.1)) rfl (j.row.alloc _) ⟨_,0,none⟩ 1 (SlV.mk (some ⟨N,0,none⟩) O L) rfl (BL _ _ rfl _ _) aJ (bK _) ?_;intro gA gu w3 b dw jh;rw[aZ] at b;obtain⟨K,n,F,G⟩:=jQ (x:=SlV.mk (some ⟨N,0,none⟩) O L) T C W.o j (D.pt Z) A p dw jh b;obtain⟨k1,⟨_,k0⟩,kl⟩:=n.kind))
     refine bodyPost_ret (v:= .tuple #[.slice (some ⟨gA,0,none⟩) (acc.length+1) gu,.bool true]) (by simp[results,results52,go_sem]) rfl ?_;rw[U.o];exact⟨((E.trans g (May.of y)).trans F (fun k hk e=>absurd (G k e) aD)),_,_,_,z,_,rfl,n,(Nb.trans y S aD),K,(Q _).symm,aJ⟩
end Go.Proofs.Q
namespace Rf
theorem gL(s:ByteArray)(n:Nat): (AG s n).k=63\/(AG s n).k=97\/(AG s n).k=118\/(AG s n).k=110\/(AG s n).k=40\/(AG s n).k=41\/(AG s n).k=44\/(AG s n).k=46\/(AG s n).k=33\/(AG s n).k=58:=by
 unfold AG CU DS bad
 repeat' split
 all_goals(first|(simp;done)|(rename_i h;unfold FC at h;simp at h;simp;omega))
theorem tS{k:Int}(a:k=0\/k=63\/k=97\/k=118\/k=110\/k=40\/k=41\/k=44\/k=46\/k=33\/k=58): (BV k==10)=(k==58):=by
 rcases a with rfl|rfl|rfl|rfl|rfl|rfl|rfl|rfl|rfl|rfl|rfl<;>decide
theorem JI{k:Int}: (BV k !=8)=(k !=46):=by
 by_cases h:k=46
 ·subst h;decide
 ·rw[bne_iff_ne.2 h,bne_iff_ne];unfold BV;repeat' split
  all_goals omega
theorem lS{k:Int}: (BV k !=0)=(k !=0):=by
 by_cases h:k=0
 ·subst h;decide
 ·rw[bne_iff_ne.2 h,bne_iff_ne];unfold BV;repeat' split
  all_goals omega
end Rf
namespace Go.Proofs.Q
open Rf _root_.Go.Proofs.Tryz
open Go.RowKit
theorem Pr.Di{w:World}{r:Nat}{a:ByteArray}{d:Option Nat}{t:Rf.Tok}{l:List Rf.Tok}{ns:List ByteArray}(h:Pr w r a d (t::l) ns): (BV t.k==10)=(t.k==58):=by
 obtain⟨K,f,e,C,k,j,i,g,_⟩:=h.toks;apply tS;by_cases c:t.k=0
 ·exact .inl c
 ·by_cases b:t.k=63
  ·exact .inr (.inl b)
  ·have:=(g c b).2.2;rw[this];exact .inr (gL _ _)
theorem Pr.unnamed{w:World}{r:Nat}{a:ByteArray}{g:Option Nat}{l:List Rf.Tok}{ns:List ByteArray}(h:Pr w r a g l ns):Pr (w.setCell ⟨r,5,none⟩ (.slice none 0 0)) r a none l []:=by
 obtain⟨K,f,c,C,o,k,b,e,i,d,n,m,j⟩:=h.ex;exact⟨K,f,c,C,_,AK k 5 _,b,e,i,aj.nil _ _ _ _ _,rfl,aE,aE⟩
def Dy(F:Nat->Prop)(w:World)(hx bx:SlV)(a:Cl):Prop:=
 PT F w (slv hx) a.head/\∃acc:List (SlV×List AB),aj w 0 84 1 B5 (slv bx) (acc.map (·.1))/\(∀k,(slv bx).ownBlock=some k->F k)/\(∀q∈acc,PT F w (slv q.1) q.2)/\a.body=acc.map (·.2)/\acc.length<=8
theorem Dy.keptBy{F F' M:Nat->Prop}{w w':World}{hx bx:SlV}{d:Cl}(h:Dy F w hx bx d)(b:Kept M w w')(a:∀k,k<w.heap.size->F k->¬M k/\F' k):Dy F' w' hx bx d:=by
 obtain⟨l,acc,c,f,i,j⟩:=h;exact⟨l.keptBy b a,acc,c.keptBy b (fun k e=>(a k (c.lt k e).2 (f k e)).1),fun k e=>(a k (c.lt k e).2 (f k e)).2,fun q g=>(i q g).keptBy b a,j⟩
def mW(w:World)(r:Nat)(text:ByteArray)(nb:Option Nat)(res:Except (Int×Nat) (Cl×List Rf.Tok))(x:Ending)(w':World):Prop:=
  Kept (May r nb) w w'/\(match res with
   | .ok (cl,l')=>∃(hx bx:SlV) (nb':Option Nat) (ns':List ByteArray),x= .returned (.tuple #[.agg #[.slice hx.a hx.n hx.c,.slice bx.a bx.n bx.c],.bool true])/\Pr w' r text nb' l' ns'/\(∀y,nb'=some y->w.heap.size<=y)/\Dy (New w w' nb') w' hx bx cl
   | .error (e,q)=>x= .returned (.tuple #[.agg #[.slice none 0 0,.slice none 0 0],.bool false])/\PrE w' r e q)
theorem New.over{w c f:World}{r:Nat}{nb1 a:Option Nat}(j:r<w.heap.size)(h:Kept (May r nb1) c f)(g:Nb c nb1 a):∀k,k<c.heap.size->New w c nb1 k->¬May r nb1 k/\New w f a k:=by
 intro k d b;have i:=h.size;refine⟨fun e=>?_,b.1,aD,g.ne b.2.2 d⟩;rcases e with e|e
 ·have:=b.1;omega
 ·exact b.2.2 e.symm
def Gn(w:World)(N:Nat):Prop:=w.heap[N]?=some (.cells #[.slice none 0 0,.slice none 0 0] 86 (0,0))
theorem Gn.over{w w':World}{N r:Nat}{a:Option Nat}(h:Gn w N)(c:Kept (May r a) w w')(d:¬N=r)(b:a≠some N):Gn w' N:=(c.block N (AD h) (fun e=>by rcases e with e|e;exact d e;exact b e.symm)).trans h
theorem PrE.setOther{w:World}{r g i:Nat}{E P:Int}(h:PrE w r E P)(v:Value)(a:¬r=g):PrE (w.setCell ⟨g,i,none⟩ v) r E P:=
 h.keptBy ((Kept.refl (fun k=>k=g) w).setCell (p:=⟨g,i,none⟩) (Or.inr rfl) v) a
theorem JZ{w w':World}{r:Nat}{a:Option Nat}(h:Kept (fun k=>k=r) w w'):Kept (May r a) w w':=h.mono (fun _ _ e=>Or.inl e)
structure zy(w0 w1:World)(N r:Nat)(nb1:Option Nat)(v:Value)(p:List AB):Prop where
 gn:Gn w1 N
 size:N+1=w0.heap.size
 kept:Kept (May r none) w0 w1
 nbN:nb1≠some N
 Je:∀y,nb1=some y->N<=y
 term:PT (New w0 w1 nb1) w1 v p
theorem zy.over{j f g:World}{N r:Nat}{nb1 a:Option Nat}{v:Value}{p:List AB}(h:zy j f N r nb1 v p)(o:r<N)(c:Kept (May r nb1) f g)(d:Nb f nb1 a):zy j g N r a v p:=by
 have l:=h.size;have m:=h.kept.size;refine⟨h.gn.over c aD h.nbN,l,?_,d.ne h.nbN aD,?_,h.term.keptBy c (New.over aD c d)⟩
 ·refine h.kept.trans c (fun i q e=>?_);rcases e with e|e
  ·exact .inl e
  ·have:=h.Je i e.symm;exact absurd (show nb1=some N by rw[<-e];congr 1;omega) h.nbN
 ·intro y e;rcases d with b|⟨k,b,n⟩
  ·exact h.Je y (by rw[<-b,e])
  ·rw[e] at b;have:=bF b;omega
theorem zy.first{a f:World}{N r g n c:Nat}{nb1:Option Nat}{p:List AB}(m:Gn a N)(j:N+1=a.heap.size)(q:r<N)(i:Kept (May r none) a f)(h:Nb a none nb1)(l:jy f a.heap.size (.slice (some ⟨g,0,none⟩) n c) p)(d:nb1≠some g):zy a f N r nb1 (.slice (some ⟨g,0,none⟩) n c) p:=by
 refine⟨m.over i aD aE,j,i,h.ne aE aD,fun y e=>?_,l.pt d⟩;rcases h with b|⟨k,b,o⟩
 ·rw[e] at b;cases b
 ·rw[e] at b;have:=bF b;omega
theorem zy.facts{b a:World}{N r:Nat}{nb1:Option Nat}{v:Value}{p:List AB}(h:zy b a N r nb1 v p):a.cell? ⟨N,0,none⟩=some (.slice none 0 0)/\a.cell? ⟨N,1,none⟩=some (.slice none 0 0)/\(∀i,a.frozen? ⟨N,i,none⟩=false)/\N<a.heap.size:=⟨AA h.gn 0,AA h.gn 1,AE h.gn,AD h.gn⟩
theorem PrE.facts{w:World}{r:Nat}{E P:Int}(h:PrE w r E P):r<w.heap.size:=by
 obtain⟨b,K,f,d,C,a,n,c,e,g⟩:=h.ex;exact AD e
theorem X4{w n b:World}{N r:Nat}{f:ByteArray}{u a:Option Nat}{hx bx:SlV}{ps:List AB}{l:List Rf.Tok}{ns:List ByteArray}{acc:List (SlV×List AB)}{F:Nat->Prop}(G:N=w.heap.size)(I:r<N)(t:Kept (May r u) w n)(j:zy n b N r a (slv hx) ps)(C:Pr b r f a l ns) (c:aj b 0 84 1 B5 (slv bx) (acc.map (·.1))) (g:∀k,(slv bx).ownBlock=some k->New n b a k) (o:∀q∈acc,PT F b (slv q.1) q.2) (v:∀k,F k->New n b a k) (B:acc.length<=8) (A:Nat) (x y:Value):Kept (May r u) w ((b.setCell ⟨N,0,none⟩ x).setCell ⟨N,1,none⟩ y)/\Pr ((b.setCell ⟨N,0,none⟩ x).setCell ⟨N,1,none⟩ y) r f a l ns/\(∀y,a=some y->w.heap.size<=y)/\Dy (New w ((b.setCell ⟨N,0,none⟩ x).setCell ⟨N,1,none⟩ y) a) ((b.setCell ⟨N,0,none⟩ x).setCell ⟨N,1,none⟩ y) hx bx ⟨ps,acc.map (·.2),A⟩:=by
 subst G;have H:=j.size;have m:¬r=w.heap.size:=aD;have s:Kept (fun k=>k=w.heap.size) b ((b.setCell ⟨w.heap.size,0,none⟩ x).setCell ⟨w.heap.size,1,none⟩ y):=((Kept.refl (fun k=>k=w.heap.size) b).setCell (p:=⟨w.heap.size,0,none⟩) (Or.inr rfl) _).setCell (p:=⟨w.heap.size,1,none⟩) (Or.inr rfl) _;have d:∀k,k<b.heap.size->New n b a k->¬k=w.heap.size/\New w ((b.setCell ⟨w.heap.size,0,none⟩ x).setCell ⟨w.heap.size,1,none⟩ y) a k:=fun k _ h=>⟨by have:=h.1;omega,by have:=h.1;omega,by have:=h.2.1;simpa using this,h.2.2⟩
 refine⟨?_,(C.setOther _ m j.nbN).setOther _ m j.nbN,j.Je,j.term.keptBy s d,acc,c.keptBy s (fun k e=>(d k (c.lt k e).2 (g k e)).1),fun k e=>(d k (c.lt k e).2 (g k e)).2,fun q z=>(o q z).keptBy s (fun k E D=>d k E (v k D)),rfl,B⟩;exact((t.trans j.kept (fun i _ e=>May.none i e)).setCell (p:=⟨w.heap.size,0,none⟩) (Or.inl (aX _)) _).setCell (p:=⟨w.heap.size,1,none⟩) (Or.inl (aX _)) _
theorem lX{f:Nat}{l:List Rf.Tok}{p:List AB}{b:List Rf.Tok}{c:List ByteArray}(d:iq l)(h:IT f l= .ok (p,b,c)):iq b/\b.length<l.length:=by
 cases l with
 |nil=>cases h
 |cons t l=>
  simp only[IT] at h
  cases a:AM f (t::l) [] with
  |error x=>rw[a] at h;cases h
  |ok x=>
   obtain⟨i,g,e⟩:=x;rw[a] at h;simp only[] at h;split at h
   ·simp only[cX,cY] at h;obtain⟨rfl,rfl,rfl⟩:=h;exact⟨(LQ f _ _ _ _ _ d aE a).2.2.2,GY f _ _ _ _ _ a⟩
   ·cases h
theorem NO(w:World)(K:Int)(r:Nat)(a:ByteArray)(c:Option Nat)(t:Rf.Tok)(l:List Rf.Tok)(ns:List ByteArray)(h:Pr w r a c (t::l) ns)(m: (BV t.k !=K)=false)(i:t.k≠0)(b:t.k≠63):Calls prog 53 #[.pointer (some ⟨r,0,none⟩),.int .i64 K] w fun x w'=>x= .returned (.bool true)/\Pr w' r a c l ns/\Kept (fun k=>k=r) w w':=by
 obtain⟨p,⟨_,q⟩,n⟩:=h.kind;have H:=aO h;have j:=aO i;have f:=aO b;clear h i b;go_enter func53,ntmps53;go_wp2_with (go_at_call 50;refine(EN _ r a c t l ns H.o j.o f.o).mono ?_;rintro e o ⟨rfl,d,g⟩);go_ret;exact⟨rfl,d,g⟩
theorem MQ(w:World)(K:Int)(r:Nat)(a:ByteArray)(d:Option Nat)(t:Rf.Tok)(l:List Rf.Tok)(ns:List ByteArray)(h:Pr w r a d (t::l) ns)(f: (BV t.k !=K)=true):Calls prog 53 #[.pointer (some ⟨r,0,none⟩),.int .i64 K] w fun x w'=>x= .returned (.bool false)/\PrE w' r (BR t 2).1 (BR t 2).2/\Kept (fun k=>k=r) w w':=by
 obtain⟨j,⟨_,m⟩,g⟩:=h.kind;have H:=aO h;clear h;go_enter func53,ntmps53;go_wp2_with (go_at_call 83;refine(F9 _ r a d t l ns 2 H.o aF).mono ?_;rintro e i ⟨rfl,b,c⟩);go_ret;exact⟨rfl,b,c⟩
theorem VO(f:Nat)(r:Nat)(a:ByteArray)(nb:Option Nat)(l:List Rf.Tok)(ns:List ByteArray)(w:World)(h:Pr w r a nb l ns)(hl:l.length<=f):Calls prog 51 #[.pointer (some ⟨r,0,none⟩)] w fun x w'=>mW w r a nb (FL f l) x w':=by
 obtain⟨d,c4,c6⟩:=h.lt;obtain⟨t9,l9,K9,f9,c5,C9,a9,c9,_,b4,_⟩:=h.shape;obtain⟨z0,z1,z2,z3,z4,z5,z6,z7,zf,zl⟩:=b4.facts;have H:Hid (Pr ((w.setCell ⟨r,5,none⟩ (.slice none 0 0)).alloc (.cells #[.slice none 0 0,.slice none 0 0] 86)) r a none l []):=h.unnamed.alloc _;have K:Hid (Gn ((w.setCell ⟨r,5,none⟩ (.slice none 0 0)).alloc (.cells #[.slice none 0 0,.slice none 0 0] 86)) w.heap.size):=AZ _ _ _ aE;have L:Hid (Kept (May r nb) w ((w.setCell ⟨r,5,none⟩ (.slice none 0 0)).alloc (.cells #[.slice none 0 0,.slice none 0 0] 86))):=((Kept.refl (May r nb) w).setCell (p:=⟨r,5,none⟩) (.inr (.inl rfl)) _).alloc _;have P:Hid (w.heap.size+1=((w.setCell ⟨r,5,none⟩ (.slice none 0 0)).alloc (.cells #[.slice none 0 0,.slice none 0 0] 86)).heap.size):=by unfold Hid;simp
 have B:¬r=w.heap.size:=aD;have b7:¬w.heap.size=r:=aD;clear h b4
 cases s:IT f l with
 |error x=>
  obtain⟨e,q⟩:=x;have V:=aO s;have W:Hid (FL f l= .error (e,q)):=by unfold Hid;simp only[FL];rw[s]
  clear s;go_enter func51,ntmps51
  go_wp2_with (first
   |(go_at_call 81;refine(K5 f r a none l _ H.o hl).mono ?_;rintro x w1 ⟨j,G⟩;rw[V.o] at G;obtain⟨rfl,b6⟩:=G;have a7:=K.o.over j b7 aE;have⟨g0,M⟩:=cI a7;have gf:=AE a7;have gl:=AD a7))
  refine bodyPost_ret (v:= .tuple #[.agg #[.slice none 0 0,.slice none 0 0],.bool false]) (by simp[results,results51,go_sem, *]) rfl ?_;rw[W.o];exact⟨((L.o.trans j (fun i _ e=>May.none i e)).setCell (p:=⟨w.heap.size,0,none⟩) (Or.inl (aX _)) _).setCell (p:=⟨w.heap.size,1,none⟩) (Or.inl (aX _)) _,rfl,(b6.setOther _ B).setOther _ B⟩
 |ok x=>
  obtain⟨p,l1,m⟩:=x;have a2:=lX H.o.ended s
  cases l1 with
  |nil=>exact absurd rfl a2.1.ne
  |cons u Q=>
   have a0:=a2.2;have a6:Q.length<=f:=by simp at a0;omega
   clear a2 a0
   cases E: (u.k==58)
   ·cases o: (u.k !=46)
    ·have W:Hid (FL f l= .ok (⟨p,[],m.length⟩,Q)):=by unfold Hid;simp only[FL];rw[s];simp only[];rw[bC (aY.1 E),U7 _ _ _ _ o]
     have b1:u.k=46:=by simpa using o
     have a4:Hid (u.k≠0):=by unfold Hid;omega
     have Pm:Hid (u.k≠63):=by unfold Hid;omega
     have V:=aO s;clear s b1;go_enter func51,ntmps51
     go_wp2_with (first
      |(go_at_call 81;refine(K5 f r a none l _ H.o hl).mono ?_;rintro x w1 ⟨j,G⟩;rw[V.o] at G;obtain⟨M,O,c1,nb1,rfl,c,Cj,t,Eh⟩:=G;have g:=zy.first K.o P.o d j Cj t Eh;obtain⟨y0,y1,yf,yl⟩:=g.facts;obtain⟨j1,⟨_,j0⟩,jl⟩:=c.kind;have z:=c.Di;rw[E] at z;have c8:=JI (k:=u.k);rw[o] at c8)
      |(go_at_call 53;refine(NO _ 8 r a nb1 u Q m c c8 a4.o Pm.o).mono ?_;rintro e w7 ⟨rfl,a8,D⟩;have n:=g.over d (JZ D) (.inl rfl);obtain⟨v0,v1,vf,vl⟩:=n.facts))
     refine bodyPost_ret (v:= .tuple #[.agg #[.slice (some ⟨M,0,none⟩) O c1,.slice none 0 0],.bool true]) (by simp[results,results51,go_sem, *]) rfl ?_;rw[W.o];obtain⟨e1,e2,e3,e4⟩:=X4 (hx:=⟨some ⟨M,0,none⟩,O,c1⟩) (bx:=⟨none,0,0⟩) (acc:=[]) (F:=fun _=>False) rfl d L.o n a8 (aj.nil _ _ _ _ _) (fun k e=>by simp[slv,Value.ownBlock] at e) (fun q hq=>by simp at hq) (fun k h=>h.elim) aE m.length (.slice (some ⟨M,0,none⟩) O c1) (.slice none 0 0);exact⟨e1,⟨some ⟨M,0,none⟩,O,c1⟩,⟨none,0,0⟩,nb1,m,rfl,e2,e3,e4⟩
    ·have W:Hid (FL f l= .error (BR u 2)):=by unfold Hid;simp only[FL];rw[s];simp only[];rw[bC (aY.1 E),OL _ _ _ _ o]
     have V:=aO s;clear s;go_enter func51,ntmps51
     go_wp2_with (first
      |(go_at_call 81;refine(K5 f r a none l _ H.o hl).mono ?_;rintro x w1 ⟨j,G⟩;rw[V.o] at G;obtain⟨M,O,c1,nb1,rfl,c,Cj,t,Eh⟩:=G;have g:=zy.first K.o P.o d j Cj t Eh;obtain⟨y0,y1,yf,yl⟩:=g.facts;obtain⟨j1,⟨_,j0⟩,jl⟩:=c.kind;have z:=c.Di;rw[E] at z;have c8:=JI (k:=u.k);rw[o] at c8)
      |(go_at_call 53;refine(MQ _ 8 r a nb1 u Q m c c8).mono ?_;rintro e w7 ⟨rfl,T,D⟩;have n:=g.over d (JZ D) (.inl rfl);obtain⟨v0,v1,vf,vl⟩:=n.facts;have el:=T.facts))
     refine bodyPost_ret (v:= .tuple #[.agg #[.slice none 0 0,.slice none 0 0],.bool false]) (by simp[results,results51,go_sem, *]) rfl ?_;rw[W.o];exact⟨((L.o.trans n.kept (fun i _ e=>May.none i e)).setCell (p:=⟨w.heap.size,0,none⟩) (Or.inl (aX _)) _).setCell (p:=⟨w.heap.size,1,none⟩) (Or.inl (aX _)) _,rfl,(T.setOther _ B).setOther _ B⟩
   ·have N:u.k=58:=bT E;have b0:Hid (u.k≠0):=by unfold Hid;omega
    have Pn:Hid (u.k≠63):=by unfold Hid;omega
    cases Z:BZ f 8 [] Q m with
    |error x=>
     obtain⟨e,q⟩:=x;have W:Hid (FL f l= .error (e,q)):=by unfold Hid;simp only[FL];rw[s];simp only[];rw[bD N,Z]
     have V:=aO s;have HG:=aO Z;clear s Z N;go_enter func51,ntmps51
     go_wp2_with (first
      |(go_at_call 81;refine(K5 f r a none l _ H.o hl).mono ?_;rintro x w1 ⟨j,G⟩;rw[V.o] at G;obtain⟨M,O,c1,nb1,rfl,c,Cj,t,Eh⟩:=G;have g:=zy.first K.o P.o d j Cj t Eh;obtain⟨y0,y1,yf,yl⟩:=g.facts;obtain⟨j1,⟨_,j0⟩,jl⟩:=c.kind;have z:=c.Di;rw[E] at z;have c8:=JI (k:=u.k))
      |(go_at_call 50;refine(EN _ r a nb1 u Q m c b0.o Pn.o).mono ?_;rintro e w2 ⟨rfl,U,S⟩;have A:=g.over d (JZ S) (.inl rfl))
      |(go_at_call 52;refine(JJ f r a nb1 Q m _ U a6).mono ?_;rintro x w3 ⟨R,I⟩;rw[HG.o] at I;obtain⟨rfl,b2⟩:=I;have C:=A.over d R (.inl rfl);obtain⟨x0,x1,xf,xl⟩:=C.facts;have el:=b2.facts))
     refine bodyPost_ret (v:= .tuple #[.agg #[.slice none 0 0,.slice none 0 0],.bool false]) (by simp[results,results51,go_sem, *]) rfl ?_;rw[W.o];exact⟨((L.o.trans C.kept (fun i _ e=>May.none i e)).setCell (p:=⟨w.heap.size,0,none⟩) (Or.inl (aX _)) _).setCell (p:=⟨w.heap.size,1,none⟩) (Or.inl (aX _)) _,rfl,(b2.setOther _ B).setOther _ B⟩
    |ok x=>
     obtain⟨gs,l3,Y⟩:=x;obtain⟨y,l4,rfl⟩:=NW f _ _ _ _ _ _ _ Z
     cases o: (y.k !=46)
     ·have W:Hid (FL f l= .ok (⟨p,gs,Y.length⟩,l4)):=by unfold Hid;simp only[FL];rw[s];simp only[];rw[bD N,Z];simp only[];rw[U7 _ _ _ _ o]
      have b1:y.k=46:=by simpa using o
      have a4:Hid (y.k≠0):=by unfold Hid;omega
      have Pm:Hid (y.k≠63):=by unfold Hid;omega
      have V:=aO s;have HG:=aO Z;clear s Z N b1;go_enter func51,ntmps51
      go_wp2_with (first
       |(go_at_call 81;refine(K5 f r a none l _ H.o hl).mono ?_;rintro x w1 ⟨j,G⟩;rw[V.o] at G;obtain⟨M,O,c1,nb1,rfl,c,Cj,t,Eh⟩:=G;have g:=zy.first K.o P.o d j Cj t Eh;obtain⟨y0,y1,yf,yl⟩:=g.facts;obtain⟨j1,⟨_,j0⟩,jl⟩:=c.kind;have z:=c.Di;rw[E] at z;have c8:=JI (k:=u.k))
       |(go_at_call 50;refine(EN _ r a nb1 u Q m c b0.o Pn.o).mono ?_;rintro e w2 ⟨rfl,U,S⟩;have A:=g.over d (JZ S) (.inl rfl))
       |(go_at_call 52;refine(JJ f r a nb1 Q m _ U a6).mono ?_;rintro x w3 ⟨R,I⟩;rw[HG.o] at I;obtain⟨a3,n3,c3,J,acc,rfl,X,Iu,b3,b5,h8⟩:=I;have C:=A.over d R Iu;obtain⟨x0,x1,xf,xl⟩:=C.facts;obtain⟨i1,⟨_,i0⟩,il⟩:=X.kind;have d8:=JI (k:=y.k);rw[o] at d8)
       |(go_at_call 53;refine(NO _ 8 r a J y l4 Y X d8 a4.o Pm.o).mono ?_;rintro e w7 ⟨rfl,a8,D⟩;have n:=C.over d (JZ D) (.inl rfl);obtain⟨v0,v1,vf,vl⟩:=n.facts))
      refine bodyPost_ret (v:= .tuple #[.agg #[.slice (some ⟨M,0,none⟩) O c1,.slice a3 n3 c3],.bool true]) (by simp[results,results51,go_sem, *]) rfl ?_;rw[W.o,b5];have a5:=b3.over (b:=r) (nb1:=J) (by have:=A.size;have:=A.kept.size;omega) (JZ D) (.inl rfl);have c2:=A.kept.size;have c0:=A.size;have a1:∀k,New w2 w7 J k->New ((w.setCell ⟨r,5,none⟩ (.slice none 0 0)).alloc (.cells #[.slice none 0 0,.slice none 0 0] 86)) w7 J k:=fun k h=>⟨by have:=h.1;omega,h.2.1,h.2.2⟩
      obtain⟨e1,e2,e3,e4⟩:=X4 (hx:=⟨some ⟨M,0,none⟩,O,c1⟩) (bx:=⟨a3,n3,c3⟩) (acc:=acc) rfl d L.o n a8 a5.row (fun k e=>a1 k (a5.au k e)) a5.aV (fun k h=>a1 k h.1) h8 Y.length (.slice (some ⟨M,0,none⟩) O c1) (.slice a3 n3 c3);exact⟨e1,⟨some ⟨M,0,none⟩,O,c1⟩,⟨a3,n3,c3⟩,J,Y,rfl,e2,e3,e4⟩
     ·have W:Hid (FL f l= .error (BR y 2)):=by unfold Hid;simp only[FL];rw[s];simp only[];rw[bD N,Z];simp only[];rw[OL _ _ _ _ o]
      have V:=aO s;have HG:=aO Z;clear s Z N;go_enter func51,ntmps51
      go_wp2_with (first
       |(go_at_call 81;refine(K5 f r a none l _ H.o hl).mono ?_;rintro x w1 ⟨j,G⟩;rw[V.o] at G;obtain⟨M,O,c1,nb1,rfl,c,Cj,t,Eh⟩:=G;have g:=zy.first K.o P.o d j Cj t Eh;obtain⟨y0,y1,yf,yl⟩:=g.facts;obtain⟨j1,⟨_,j0⟩,jl⟩:=c.kind;have z:=c.Di;rw[E] at z;have c8:=JI (k:=u.k))
       |(go_at_call 50;refine(EN _ r a nb1 u Q m c b0.o Pn.o).mono ?_;rintro e w2 ⟨rfl,U,S⟩;have A:=g.over d (JZ S) (.inl rfl))
       |(go_at_call 52;refine(JJ f r a nb1 Q m _ U a6).mono ?_;rintro x w3 ⟨R,I⟩;rw[HG.o] at I;obtain⟨a3,n3,c3,J,acc,rfl,X,Iu,b3,b5,h8⟩:=I;have C:=A.over d R Iu;obtain⟨x0,x1,xf,xl⟩:=C.facts;obtain⟨i1,⟨_,i0⟩,il⟩:=X.kind;have d8:=JI (k:=y.k);rw[o] at d8)
       |(go_at_call 53;refine(MQ _ 8 r a J y l4 Y X d8).mono ?_;rintro e w7 ⟨rfl,T,D⟩;have n:=C.over d (JZ D) (.inl rfl);obtain⟨v0,v1,vf,vl⟩:=n.facts;have el:=T.facts))
      refine bodyPost_ret (v:= .tuple #[.agg #[.slice none 0 0,.slice none 0 0],.bool false]) (by simp[results,results51,go_sem, *]) rfl ?_;rw[W.o];exact⟨((L.o.trans n.kept (fun i _ e=>May.none i e)).setCell (p:=⟨w.heap.size,0,none⟩) (Or.inl (aX _)) _).setCell (p:=⟨w.heap.size,1,none⟩) (Or.inl (aX _)) _,rfl,(T.setOther _ B).setOther _ B⟩
structure NI where
 h:SlV
 b:SlV
def IN(x:NI):List Value:=[.slice x.h.a x.h.n x.h.c,.slice x.b.a x.b.n x.b.c]
theorem LV(s:NI): (IN s).length=2:=rfl
theorem T8(s:NI):∀u∈IN s,u.oneCell'=true:=by
 intro u a;simp only[IN,List.mem_cons,dF,or_false] at a;rcases a with rfl|rfl<;>rfl
theorem Tryz.Et:D7 prog 49 86 2 48 (.agg #[.slice none 0 0,.slice none 0 0]):=⟨underlying49,aK,rfl,aF,aF⟩
structure qx(F:Nat->Prop)(w:World)(v:Value)(acc:List (NI×Cl)):Prop where
 row:aj w 0 86 2 IN v (acc.map (·.1))
 uy:∀k,v.ownBlock=some k->F k
 cls:∀q∈acc,Dy (fun k=>F k/\v.ownBlock≠some k) w q.1.h q.1.b q.2
 none:acc=[]->v= .slice none 0 0
theorem qx.mono{w:World}{F F':Nat->Prop}{v:Value}{acc:List (NI×Cl)}(h:qx F w v acc)(a:∀k,F k->F' k):qx F' w v acc:=
 ⟨h.row,fun k e=>a k (h.uy k e),fun q c=>(h.cls q c).keptBy (Kept.refl (fun _=>False) _) (fun k _ b=>⟨fun e=>e,a k b.1,b.2⟩),h.none⟩
theorem aCD{w j c g:World}{r:Nat}{d:ByteArray}{J L:Obj}{nb1 a:Option Nat}{v:Value}{acc:List (NI×Cl)}{x:NI}{P:Cl}{l O:List Rf.Tok}{ns E:List ByteArray}{b n M:Nat} (hs:w.heap.size<=j.heap.size) (K:Pr j r d nb1 l ns) (I:qx (Fb w j r nb1) j v acc) (B:Kept (May r nb1) j c) (t:Pr c r d a O E) (o:∀y,a=some y->j.heap.size<=y) (X:Dy (New j c a) c x.h x.b P) (D: ((c.alloc J).alloc L).grownBy g v.ownBlock) (Q:Nb ((c.alloc J).alloc L) v.ownBlock (some b)) (T:aj g 0 86 2 IN (.slice (some ⟨b,0,none⟩) n M) ((acc.map (·.1))++[x])):qx (Fb w g r a) g (.slice (some ⟨b,0,none⟩) n M) (acc++[(x,P)])/\Pr g r d a O E:=by
 have Y:=K.lt.1;have V:=t.lt.1;have W:=B.size;have Z:c.heap.size+2<=g.heap.size:=by have:=D.size;simpa using this
 have m:Kept (fun k=>v.ownBlock=some k) c g:=((((Kept.refl (fun k=>v.ownBlock=some k) c).alloc J).alloc L).grown D (fun k e=> .inr e))
 have N:b<g.heap.size:=(T.lt b rfl).2;have s:∀k,v.ownBlock=some k->k<j.heap.size:=fun k e=>(I.uy k e).2.1
 have p:w.heap.size<=b/\a≠some b/\b≠r:=by
  rcases Q with e|⟨k,e,R⟩
  ·have:=I.uy b e.symm;exact⟨this.1,fun A=>by have:=o b A;have:=s b e.symm;omega,this.2.2.2⟩
  ·have:=bF e;simp at R;exact⟨aD,fun A=>by have:=t.lt.2.1 b A;omega,aD⟩
 refine⟨⟨by rw[bE];exact T,fun k e=>?_,fun q u=>?_,fun e=>by simp at e⟩,t.keptBy m (fun e=>(I.uy r e).2.2.2 rfl) (fun k e A=>by have:=o k e;have:=s k A;omega)⟩
 ·obtain rfl:=bF e;exact⟨p.1,N,p.2.1,p.2.2⟩
 ·have i:∀k,k<c.heap.size->v.ownBlock≠some k->(Value.slice (some ⟨b,0,none⟩) n M).ownBlock≠some k:=fun k R h e=>Q.ne h aJ e;rcases bO.1 u with u|u
  ·refine((I.cls q u).keptBy B (F':=fun k=>Fb w c r a k/\v.ownBlock≠some k) (fun k f z=>?_)).keptBy m (fun k f z=>?_)
   ·obtain⟨⟨G,U,C,F⟩,H⟩:=z;exact⟨fun e=>by rcases e with e|e;exact F e;exact C e.symm,⟨G,aD,fun e=>by have:=o k e;omega,F⟩,H⟩
   ·obtain⟨⟨G,U,C,F⟩,H⟩:=z;exact⟨H,⟨G,aD,C,F⟩,i k f H⟩
  ·simp at u;subst u;refine X.keptBy m (fun k f z=>?_);obtain⟨G,U,C⟩:=z;have S:v.ownBlock≠some k:=fun e=>by have:=s k e;omega
   exact⟨S,⟨aD,aD,C,aD⟩,i k f S⟩
def OQ(w:World)(res:Except (Int×Nat) (List Cl))(x:Ending)(w':World):Prop:=
  Below w.heap.size w w'/\(match res with
   | .ok cls=>∃v acc,x= .returned (.tuple #[v,.int .i64 0,.int .i64 0])/\qx (fun k=>w.heap.size<=k/\k<w'.heap.size) w' v acc/\cls=acc.map (·.2)
   | .error (e,q)=>x= .returned (.tuple #[.slice none 0 0,.int .i64 e,.int .i64 q])/\e≠0)
theorem gS(s:ByteArray)(w:World)(c:400<s.size)(b:s.size<=maxLen):Calls prog 31 #[.string s] w fun r w'=>OQ w (CR s) r w':=by
 have a:Hid (CR s= .error (1,0)):=by unfold Hid CR;rw[bD c]
 unfold maxLen at b;go_enter func31,ntmps31;go_wp2;go_ret3;rw[a.o];exact⟨bZ _ _,rfl,aF⟩
def aC3(w:World)(r f:Nat)(a:ByteArray)(b:Except (Int×Nat) (List Cl))(m:Nat)(v:Value)(wr:World):Prop:=
 Below w.heap.size w wr/\∃acc c d nb1,c.length<m/\m+acc.length<=402/\Pr wr r a nb1 c d/\c.length<=f/\(∀x,nb1=some x->w.heap.size<=x)/\qx (Fb w wr r nb1) wr v acc/\Hid (b=CF f m (acc.map (·.2)) c)
theorem dN(s:ByteArray)(w:World)(hs:s.size<=400):Calls prog 31 #[.string s] w fun r w'=>OQ w (CR s) r w':=by
 have hS:Hid (CR s=CF (AU s).length ((AU s).length+1) [] (AU s)):=by unfold Hid CR;rw[bC aD]
 have a4: (AU s).length<=401:=by have:=FG s s.size 0;unfold AU;omega
 have a2:iq (AU s):=EI s _ _;generalize hL:AU s=L at*;have HL:Hid (Rf.rest s 0=L):=hL;clear hL;generalize CR s=f at*;go_enter func31,ntmps31;go_wp2_with (go_at_call 50;refine(KY _ w.heap.size s 0 0 0 0 (.slice none 0 0) (AZ _ _ _ aE) hs (bK _)).mono ?_;rintro x w1 ⟨K',f',a7,C',rfl,E,C,N⟩);have B:=N.size
 have D:Hid (Pr w1 w.heap.size s none L []):=by
  have j:=Pr.mk' E C (bK _) hs (aj.nil _ _ _ _ _) rfl (by simp[Value.ownBlock]) (ns:=[]) (by simp);rw[HL.o] at j;exact j
 have p:Hid (Below w.heap.size w w1):=by
  have j:=(Kept.refl (fun k=>k=w.heap.size) w).alloc (.cells #[.string s,.int .i64 0,.int .i64 0,.int .i64 0,.int .i64 0,.slice none 0 0,.int .i64 0,.int .i64 0] 118);exact(j.trans N (fun _ _ e=>e)).below (aX _) (fun k J e=>by omega)
 clear E C B;have R:w.heap.size<=w.heap.size:=aX _;generalize a8:w.heap.size=r at D R⊢;go_loopg [6] (L.length+1) (fun m v wr=>aC3 w r L.length s f m v wr)
 case atStart=>exact⟨p.o,[],L,[],none,aD,aJ,D.o,aX _,(fun x e=>by cases e),⟨aj.nil _ _ _ _ _,(fun k e=>by simp[Value.ownBlock] at e),(fun q hq=>by simp at hq),fun _=>rfl⟩,hS⟩
 case round=>
  obtain⟨o,acc,l1,O,nb1,V,a5,z,y,M,u,d⟩:=hrel
  obtain⟨t,l,rfl⟩:∃t l,l1=t::l:=by
   cases l1 with
   |nil=>exact absurd rfl z.ended.ne
   |cons t l=>exact⟨t,l,rfl⟩
  obtain⟨P,rfl⟩:∃P,gk=P+1:=⟨gk-1,aD⟩
  obtain⟨a6,c6,H⟩:=CJ u.row;rw[aZ] at H;subst H;obtain⟨j1,⟨_,j0⟩,jl⟩:=z.kind;have Y:=o.size;have I:=lS (k:=t.k)
  cases n: (t.k !=0)
  ·rw[n] at I;have i:Hid (f= .ok (acc.map (·.2))):=by unfold Hid;rw[d.o,CF,bD (by simpa using n)]
   go_wp2_with fail;go_ret3;rw[i.o];exact⟨o,_,acc,rfl,u.mono (fun k J=>⟨J.1,J.2.1⟩),rfl⟩
  ·rw[n] at I;have e0:t.k≠0:=by simpa using n
   have HP:=aO z
   cases a:FL L.length (t::l) with
   |error x=>
    obtain⟨e,q⟩:=x;have i:Hid (f= .error (e,q)):=by unfold Hid;rw[d.o,CF,bC e0,TB,a]
    have HR:=aO a;clear a e0;go_wp2_with (go_at_call 51;refine(VO L.length r s nb1 (t::l) O _ z y).mono ?_;rintro x w3 ⟨b,G⟩;rw[HR.o] at G;have Z:=b.size;obtain⟨rfl,S⟩:=G;obtain⟨tx,K3,f3,a9,C3,a3,n3,c3,c,Bo⟩:=S.ex;obtain⟨x0,x1,x2,x3,x4,x5,x6,x7,xf,xl⟩:=c.facts;have K:=aO Bo;clear Bo c);go_region;go_wp2_with fail;go_ret3;rw[i.o];refine⟨?_,rfl,K.o⟩
    exact((o.trans (b.below Y (fun k J e=>by
     rcases e with e|e
     ·omega
     ·have:=M k e.symm;omega))).alloc aD _).drew
   |ok x=>
    obtain⟨cl,l'⟩:=x
    have g:l'.length<(t::l).length:=by
     have j:=a;rw[<-TB] at j;exact MP j
    have i:Hid (f=CF L.length P (acc.map (·.2)++[cl]) l'):=by unfold Hid;rw[d.o,CF,bC e0,TB,a]
    have HR:=aO a;clear a e0
    go_wp2_with (first
     |(go_at_call 51;refine(VO L.length r s nb1 (t::l) O _ z y).mono ?_;rintro x w3 ⟨b,G⟩;rw[HR.o] at G;have Z:=b.size;obtain⟨hx,bx,W,U,rfl,a1,F,T⟩:=G;have Dw:=u.row.keptBy b (fun k e A=>by rcases A with A|A;exact(u.uy k e).2.2.2 A;exact(u.uy k e).2.2.1 A.symm))
     |(at_builtin;refine AY Tryz.Et IN LV T8 _ rfl (.tmp 29) (.tmp 31) rfl 0 _ (acc.map (·.1)) rfl ((Dw.alloc _).alloc _) ⟨_,0,none⟩ 1 (⟨hx,bx⟩:NI) rfl (EX _ _ aE _ _ _) aJ (bK _) ?_;intro gA gu w4 h iy qm;rw[aZ] at h))
    go_roundg P
    case measure=>omega
    case rel=>
     have c:Below w.heap.size w w3:=o.trans (b.below Y (fun k J e=>by
      rcases e with e|e
      ·omega
      ·have:=M k e.symm;omega))
     have X:Below w.heap.size w w4:=((c.alloc c.size _).alloc (by have:=c.size;simp;omega) _).grown iy (by have:=c.size;simp;omega) (fun k e=>(u.uy k e).1);obtain⟨Q,a0⟩:=aCD (x:=⟨hx,bx⟩) Y z u b a1 F T iy qm h;refine⟨X,acc++[(⟨hx,bx⟩,cl)],l',U,W,?_,?_,a0,?_,fun x e=>?_,Q,?_⟩
     ·simp only[bM] at g V;omega
     ·simp;omega
     ·simp only[bM] at g y;omega
     ·have:=F x e;omega
     ·have j:=i.o;simp only[List.map_append,List.map_cons,List.map_nil];exact j
theorem LX(s:ByteArray)(w:World)(a:s.size<=maxLen):Calls prog 31 #[.string s] w fun r w'=>OQ w (CR s) r w':=by
 by_cases h:400<s.size
 ·exact gS s w h a
 ·exact dN s w aD
end Go.Proofs.Q
