import Derived.Test.YthenokfmcjmfkaaGreatDoorYax
set_option maxRecDepth 100000
set_option maxHeartbeats 1000000
namespace Go.Proofs.Q
open Rf _root_.Go.Proofs.Tryz
open Go.RowKit
def E3(x:Option Addr):List Value:=[.pointer x,.int .i64 0]
theorem JO(s:Option Addr): (E3 s).length=2:=rfl
theorem JM(s:Option Addr):∀u∈E3 s,u.oneCell'=true:=by
 intro u a;simp only[E3,List.mem_cons,dF,or_false] at a;rcases a with rfl|rfl<;>rfl
theorem Tryz.Ap:D7 prog 55 158 2 16 (.agg #[.pointer none,.int .i64 0]):=⟨underlying55,aK,rfl,aF,aF⟩
theorem Af.keptBy{F F' M:Nat->Prop}{w w':World}{a:Value}{ps:List AB}(h:Af F w a ps)(d:Kept M w w')(c:∀k,k<w.heap.size->F k->¬M k/\F' k):Af F' w' a ps:=by
 rcases h with h|⟨p,e,h,b⟩
 ·exact .inl h
 ·exact .inr ⟨p,e,h.keptBy d c,b⟩
structure Gs(w wr:World)(nb:Option Nat)(v:Value)(acc:List (Option Addr×List AB)):Prop where
 row:aj wr 0 158 2 E3 v (acc.map (·.1))
 au:∀k,v.ownBlock=some k->New w wr nb k
 aV:∀q∈acc,Af (fun k=>New w wr nb k/\v.ownBlock≠some k) wr (.pointer q.1) q.2
theorem Gs.over{w wr l:World}{b:Nat}{a nb1:Option Nat}{v:Value}{acc:List (Option Addr×List AB)}(h:Gs w wr a v acc)(x:b<w.heap.size)(f:Kept (May b a) wr l)(r:Nb wr a nb1):Gs w l nb1 v acc:=by
 have t:=f.size;have c:∀k,k<wr.heap.size->w.heap.size<=k->a≠some k->¬May b a k/\nb1≠some k:=fun k n u j=>⟨fun e=>by rcases e with e|e;exact absurd e aD;exact j e.symm,r.ne j n⟩
 refine⟨h.row.keptBy f (fun k e=>(c k (h.au k e).2.1 (h.au k e).1 (h.au k e).2.2).1),fun k e=>⟨(h.au k e).1,by have:=(h.au k e).2.1;omega,(c k (h.au k e).2.1 (h.au k e).1 (h.au k e).2.2).2⟩,fun q s=>(h.aV q s).keptBy f (fun k p o=>?_)⟩;obtain⟨⟨d,g,i⟩,m⟩:=o;exact⟨(c k g d i).1,⟨d,aD,(c k g d i).2⟩,m⟩
theorem gZ{w wr c h:World}{b g:Nat}{A B:Obj}{nb1 a:Option Nat}{v:Value}{acc:List (Option Addr×List AB)}{x:Option Addr}{ps:List AB}{l:List Rf.Tok}{ns:List ByteArray}{f n s:Nat} (Q:w.heap.size<=wr.heap.size) (L:wr.heap.size<=c.heap.size) (J:Gs w wr nb1 v acc) (d:Gs w c a v acc) (u:Af (New wr c a) c (.pointer x) ps) (m:Rd c b g a l ns) (O:b<w.heap.size) (P:g<w.heap.size) (p: ((c.alloc A).alloc B).grownBy h v.ownBlock) (D:Nb ((c.alloc A).alloc B) v.ownBlock (some f)) (E:aj h 0 158 2 E3 (.slice (some ⟨f,0,none⟩) n s) ((acc.map (·.1))++[x])):Gs w h a (.slice (some ⟨f,0,none⟩) n s) (acc++[(x,ps)])/\Rd h b g a l ns/\Kept (fun k=>v.ownBlock=some k) c h:=by
 have r:Kept (fun k=>v.ownBlock=some k) c h:=((((Kept.refl (fun k=>v.ownBlock=some k) c).alloc A).alloc B).grown p (fun k e=> .inr e))
 have M:c.heap.size+2<=h.heap.size:=by have:=p.size;simpa using this
 have y:f<h.heap.size:=(E.lt f rfl).2;have z:∀k,a=some k->k<c.heap.size:=fun k e=>(m.lt.2.2.1 k e).1
 have o:w.heap.size<=f/\a≠some f:=by
  rcases D with e|⟨k,e,r⟩
  ·exact⟨(d.au f e.symm).1,(d.au f e.symm).2.2⟩
  ·have:=bF e;simp at r;exact⟨aD,fun e=>by have:=z f e;omega⟩
 have F:∀t qs,Af (fun k=>New w c a k/\v.ownBlock≠some k) c t qs->Af (fun k=>New w h a k/\(Value.slice (some ⟨f,0,none⟩) n s).ownBlock≠some k) h t qs:=by
  intro t qs i;refine i.keptBy r (fun k K j=>?_);obtain⟨⟨H,N,I⟩,C⟩:=j;exact⟨C,⟨H,aD,I⟩,fun e=>D.ne C aJ e⟩
 refine⟨⟨?_,fun k e=>?_,fun q i=>?_⟩,m.keptBy r (fun e=>by have:=(d.au b e).1;omega) (fun e=>by have:=(d.au g e).1;omega) (fun k e G=>(d.au k G).2.2 e),r⟩
 ·rw[bE];exact E
 ·obtain rfl:=bF e;exact⟨o.1,y,o.2⟩
 ·rcases bO.1 i with i|i
  ·exact F _ _ (d.aV q i)
  ·simp at i;subst i;refine F _ _ (u.keptBy (Kept.refl (fun _=>False) _) (fun k _ j=>⟨fun e=>e,⟨by have:=j.1;omega,j.2.1,j.2.2⟩,fun e=>?_⟩));have:=(J.au k e).2.1;have:=j.1;omega
def yF(w:World)(b g:Nat)(h:Option Nat)(f:Except (Int×Nat) (List (List AB)×List Rf.Tok×List ByteArray))(r:Ending)(w':World):Prop:=∃(a:Option Addr) (n c:Nat),r= .returned (.slice a n c)/\Kept (May b h) w w'/\(match f with
   | .ok (gs,l',ns')=>∃d acc,Rd w' b g d l' ns'/\Nb w h d/\Gs w w' d (.slice a n c) acc/\gs=acc.map (·.2)/\acc.length<=8
   | .error (e,q)=>RdE w' b e q)
def aCQ(w:World)(b g:Nat)(nb:Option Nat)(f:Nat)(want:Except (Int×Nat) (List (List AB)×List Rf.Tok×List ByteArray))(m:Nat)(v:Value)(wr:World):Prop:=
  Kept (May b nb) w wr/\((∃ k acc l1 ns1 nb1, m = k + 1 /\ k < 8 /\ k + 1 + acc.length = 8 /\ Rd wr b g nb1 l1 ns1 /\ Nb w nb nb1 /\ l1.length <= f /\ Gs w wr nb1 v acc /\ Hid (want = BN f (k + 1) (acc.map (·.2)) l1 ns1)) \/
   (∃(e:Int) (q:Nat) (a:Option Addr) (n c:Nat),m=0/\v= .slice a n c/\RdE wr b e q/\Hid (want= .error (e,q))))
theorem J2(f b g:Nat)(nb:Option Nat)(l:List Rf.Tok)(ns:List ByteArray)(w:World)(h:Rd w b g nb l ns)(hl:l.length<=f):Calls prog 70 #[.pointer (some ⟨b,0,none⟩)] w fun r w'=>yF w b g nb (BN f 8 [] l ns) r w':=by
 obtain⟨z,a0,_⟩:=h.lt;go_enter func70,ntmps70;go_wp2_with fail;go_loopg [3,4,5] 8 (fun m v _ _ wr=>aCQ w b g nb f (BN f 8 [] l ns) m v wr)
 case atStart=>exact⟨Kept.refl _ _,.inl ⟨7,[],l,ns,nb,rfl,aD,rfl,h,.inl rfl,hl,⟨aj.nil _ _ _ _ _,fun k e=>by simp[Value.ownBlock] at e,fun q hq=>by simp at hq⟩,rfl⟩⟩
 case round=>
  clear h;obtain⟨u,c1⟩:=hrel;rcases c1 with⟨k,acc,l1,R,nb1,rfl,c9,d0,hR,Q,U,Z,o⟩|⟨e,q,a,n,c,rfl,rfl,hE,o⟩
  ·obtain⟨c3,I',a',n',c',Y⟩:=hR.err;obtain⟨y0,y1,y2,y3,y4,yf,yb⟩:=Y.facts;clear Y
   cases E:BS f l1 R with
   |error y=>
    obtain⟨e,q⟩:=y;have V:=aO E;have J:Hid (BN f 8 [] l ns= .error (e,q)):=by unfold Hid;rw[o.o,BN,E]
    clear E
    go_wp2_with (first
     |(go_at_call 101;refine(L6 f b g nb1 l1 R _ hR U).mono ?_;rintro r w2 ⟨x,rfl,j,N⟩;have i:=Z.over z j (.inl rfl);rw[V.o] at N;obtain⟨a1,I2,a2,n2,c2,H,a8⟩:=RdE.ex N)
     |(at_builtin;refine AY Tryz.Ap E3 JO JM _ rfl (.tmp 13) (.tmp 15) rfl 0 _ (acc.map (·.1)) rfl ((i.row.alloc _).alloc _) ⟨_,0,none⟩ 1 x rfl (EX _ _ aE _ _ _) aJ (bK _) ?_;intro gA gu w3 d S jh;rw[aZ] at d;have I:u3.ownBlock≠some b:=(fun e=>by have:=(i.au b e).1;omega);have A:=RdB.grown S (AF (AF H _) _) I;obtain⟨z0,z1,z2,z3,z4,zf,zb⟩:=A.facts;have b7: (e==0)=false:=aY.2 a8))
    go_ret;rw[J.o];exact⟨_,_,_,rfl,((((u.trans j (May.of Q)).alloc _).alloc _).grown S (fun k e=>Or.inl (i.au k e).1)),⟨_,_,_,_,_,A,a8⟩⟩
   |ok y=>
    obtain⟨ps,l2,K⟩:=y;have V:=aO E;have a3:=fK E;clear E
    cases l2 with
    |nil=>
     go_wp2_with (go_at_call 101;refine(L6 f b g nb1 l1 R _ hR U).mono ?_;rintro r w2 ⟨x,rfl,j,N⟩;rw[V.o] at N;obtain⟨s,t,D,M⟩:=N;exact absurd rfl t.ended.ne)
    |cons F l3=>
     cases G: (F.k==63)
     ·have T:F.k≠63:=aY.1 G
      cases a4: (F.k==44)
      ·have O:F.k≠44:=aY.1 a4
       have J:Hid (BN f 8 [] l ns= .ok (acc.map (·.2)++[ps],F::l3,K)):=by
        unfold Hid;rw[o.o,BN,V.o];simp only[];rw[bC O,bC T]
       clear O T
       go_wp2_with (first
        |(go_at_call 101;refine(L6 f b g nb1 l1 R _ hR U).mono ?_;rintro r w2 ⟨x,rfl,j,N⟩;rw[V.o] at N;obtain⟨s,t,D,M⟩:=N;have i:=Z.over z j D;obtain⟨a1,I2,a2,n2,c2,H⟩:=t.err)
        |(at_builtin;refine AY Tryz.Ap E3 JO JM _ rfl (.tmp 13) (.tmp 15) rfl 0 _ (acc.map (·.1)) rfl ((i.row.alloc _).alloc _) ⟨_,0,none⟩ 1 x rfl (EX _ _ aE _ _ _) aJ (bK _) ?_;intro gA gu w3 d S jh;rw[aZ] at d;have I:u3.ownBlock≠some b:=(fun e=>by have:=(i.au b e).1;omega);have A:=RdB.grown S (AF (AF H _) _) I;obtain⟨z0,z1,z2,z3,z4,zf,zb⟩:=A.facts;obtain⟨W,B,P⟩:=gZ u.size j.size Z i M t z a0 S jh d)
        |(go_at_call 100;refine(KV b g s F l3 K 44 _ B G).mono ?_;rintro r w5 ⟨rfl,C⟩;have L:=B.below C;obtain⟨b1,I5,a5,n5,c5,X⟩:=L.err;obtain⟨v0,v1,v2,v3,v4,vf,vb⟩:=X.facts))
       go_ret;rw[J.o];refine⟨_,_,_,rfl,(((u.trans j (May.of Q)).trans P (fun k hk e=>absurd (i.au k e).1 aD)).trans (Kept.of_below C (May b nb)) (fun _ _ e=>e)),s,acc++[(x,ps)],L,Q.trans D u.size,W.over z (Kept.of_below C (May b s)) (.inl rfl),aE,aJ⟩
      ·have O:F.k=44:=bT a4;have b2:Hid (F.k≠0):=by unfold Hid;omega
       clear T;by_cases c8:k=0
       ·have J:Hid (BN f 8 [] l ns= .error (3,F.at_)):=by
         unfold Hid;rw[o.o,BN,V.o];simp only[];rw[bD O,bD aJ]
        have HE:=aO (F0 F 3 G);have h8: ((acc.length:Int)+1==8)=true:=by rw[beq_iff_eq];omega
        clear O
        go_wp2_with (first
         |(go_at_call 101;refine(L6 f b g nb1 l1 R _ hR U).mono ?_;rintro r w2 ⟨x,rfl,j,N⟩;rw[V.o] at N;obtain⟨s,t,D,M⟩:=N;have i:=Z.over z j D;obtain⟨a1,I2,a2,n2,c2,H⟩:=t.err)
         |(at_builtin;refine AY Tryz.Ap E3 JO JM _ rfl (.tmp 13) (.tmp 15) rfl 0 _ (acc.map (·.1)) rfl ((i.row.alloc _).alloc _) ⟨_,0,none⟩ 1 x rfl (EX _ _ aE _ _ _) aJ (bK _) ?_;intro gA gu w3 d S jh;rw[aZ] at d;have I:u3.ownBlock≠some b:=(fun e=>by have:=(i.au b e).1;omega);have A:=RdB.grown S (AF (AF H _) _) I;obtain⟨z0,z1,z2,z3,z4,zf,zb⟩:=A.facts;obtain⟨W,B,P⟩:=gZ u.size j.size Z i M t z a0 S jh d)
         |(go_at_call 100;refine(KV b g s F l3 K 44 _ B G).mono ?_;rintro r w5 ⟨rfl,C⟩;have L:=B.below C;obtain⟨b1,I5,a5,n5,c5,X⟩:=L.err;obtain⟨v0,v1,v2,v3,v4,vf,vb⟩:=X.facts)
         |(go_at_call 68;refine(CO b g s F l3 K _ L).mono ?_;rintro r w6 ⟨rfl,b0⟩)
         |(go_at_call 99;refine(OP b g s (F::l3) K F 3 _ (L.below b0) (by rw[HE.o];show(3:Int)≠0;decide)).mono ?_;rintro r w7 ⟨rfl,a9,b5⟩;rw[HE.o] at a9;obtain⟨d1,I7,a7,n7,c7,a6,c4⟩:=a9.ex;obtain⟨r0,r1,r2,r3,r4,rf,rb⟩:=a6.facts))
        go_roundg 0
        case measure=>omega
        case rel=>
         exact⟨(((((u.trans j (May.of Q)).trans P (fun k hk e=>absurd (i.au k e).1 aD)).trans (Kept.of_below C (May b nb)) (fun _ _ e=>e)).trans (Kept.of_below b0 (May b nb)) (fun _ _ e=>e)).trans b5 (fun _ _ e=>Or.inl e)).setCell (p:=⟨b,1,none⟩) (.inr (.inl rfl)) _,.inr ⟨3,F.at_,_,_,_,rfl,rfl,⟨_,_,_,_,_,AK a6 1 _,aF⟩,J⟩⟩
       ·have J:Hid (BN f 8 [] l ns=BN f (k-1+1) (acc.map (·.2)++[ps]) l3 K):=by
         unfold Hid;rw[o.o,BN,V.o];simp only[];rw[bD O,bC aJ,show k-1+1=k by omega]
        have h8: ((acc.length:Int)+1==8)=false:=by rw[aY];omega
        clear O
        go_wp2_with (first
         |(go_at_call 101;refine(L6 f b g nb1 l1 R _ hR U).mono ?_;rintro r w2 ⟨x,rfl,j,N⟩;rw[V.o] at N;obtain⟨s,t,D,M⟩:=N;have i:=Z.over z j D;obtain⟨a1,I2,a2,n2,c2,H⟩:=t.err)
         |(at_builtin;refine AY Tryz.Ap E3 JO JM _ rfl (.tmp 13) (.tmp 15) rfl 0 _ (acc.map (·.1)) rfl ((i.row.alloc _).alloc _) ⟨_,0,none⟩ 1 x rfl (EX _ _ aE _ _ _) aJ (bK _) ?_;intro gA gu w3 d S jh;rw[aZ] at d;have I:u3.ownBlock≠some b:=(fun e=>by have:=(i.au b e).1;omega);have A:=RdB.grown S (AF (AF H _) _) I;obtain⟨z0,z1,z2,z3,z4,zf,zb⟩:=A.facts;obtain⟨W,B,P⟩:=gZ u.size j.size Z i M t z a0 S jh d)
         |(go_at_call 100;refine(KV b g s F l3 K 44 _ B G).mono ?_;rintro r w5 ⟨rfl,C⟩;have L:=B.below C;obtain⟨b1,d2,I5,X,c6,b6⟩:=L.next b2.o (aY.1 G);obtain⟨v0,v1,v2,v3,v4,vf,vb⟩:=X.facts))
        go_roundg k
        case measure=>omega
        case rel=>
         refine⟨(((u.trans j (May.of Q)).trans P (fun k hk e=>absurd (i.au k e).1 aD)).trans (Kept.of_below C (May b nb)) (fun _ _ e=>e)).setCell (p:=⟨b,1,none⟩) (.inr (.inl rfl)) _,.inl ⟨k-1,acc++[(x,ps)],l3,K,s,aD,aD,aJ,b6,Q.trans D u.size,by simp at a3;omega,W.over z ((Kept.of_below C (May b s)).setCell (p:=⟨b,1,none⟩) (.inr (.inl rfl)) _) (.inl rfl),?_⟩⟩;have h9:=J.o;simp only[List.map_append,List.map_cons,List.map_nil];exact h9
     ·have T:F.k=63:=bT G
      have J:Hid (BN f 8 [] l ns= .error (F.e,F.at_)):=by
       unfold Hid;rw[o.o,BN,V.o];simp only[];rw[bC aD,bD T,MW _ _ G]
      clear T
      go_wp2_with (first
       |(go_at_call 101;refine(L6 f b g nb1 l1 R _ hR U).mono ?_;rintro r w2 ⟨x,rfl,j,N⟩;rw[V.o] at N;obtain⟨s,t,D,M⟩:=N;have i:=Z.over z j D;obtain⟨a1,I2,a2,n2,c2,H⟩:=t.err)
       |(at_builtin;refine AY Tryz.Ap E3 JO JM _ rfl (.tmp 13) (.tmp 15) rfl 0 _ (acc.map (·.1)) rfl ((i.row.alloc _).alloc _) ⟨_,0,none⟩ 1 x rfl (EX _ _ aE _ _ _) aJ (bK _) ?_;intro gA gu w3 d S jh;rw[aZ] at d;have I:u3.ownBlock≠some b:=(fun e=>by have:=(i.au b e).1;omega);have A:=RdB.grown S (AF (AF H _) _) I;obtain⟨z0,z1,z2,z3,z4,zf,zb⟩:=A.facts;obtain⟨W,B,P⟩:=gZ u.size j.size Z i M t z a0 S jh d)
       |(go_at_call 100;refine(j4 b g s F l3 K 44 _ B G).mono ?_;rintro r w5 ⟨rfl,b3,b4⟩))
      go_ret;rw[J.o];exact⟨_,_,_,rfl,((u.trans j (May.of Q)).trans P (fun k hk e=>absurd (i.au k e).1 aD)).trans b4 (fun _ _ e=>Or.inl e),b3⟩
  ·obtain⟨c3,I',a',n',c',Y,c0⟩:=hE.ex;obtain⟨y0,y1,y2,y3,y4,yf,yb⟩:=Y.facts;have b7: (e==0)=false:=aY.2 c0;clear Y;go_wp2_with fail;go_ret;rw[o.o];exact⟨a,n,c,rfl,u,hE⟩
def Gj(F:Nat->Prop)(w:World)(p:Nat)(v:Value)(a:Cl):Prop:=
 dn F w p a.head/\∃acc:List (Option Addr×List AB),aj w 0 158 2 E3 v (acc.map (·.1))/\(∀k,v.ownBlock=some k->F k)/\(∀q∈acc,Af F w (.pointer q.1) q.2)/\a.body=acc.map (·.2)/\acc.length<=8
def GN(w:World)(b g:Nat)(i:Option Nat)(h:Except (Int×Nat) (Cl×List Rf.Tok))(r:Ending)(w':World):Prop:=∃(p:Nat) (a:Option Addr) (n c:Nat) (k:Int),r= .returned (.agg #[.pointer (some ⟨p,0,none⟩),.slice a n c,.int .i64 k])/\Kept (May b i) w w'/\(match h with
   | .ok (cl,l')=>∃d f,Rd w' b g d l' f/\(∀x,d=some x->w.heap.size<=x)/\Gj (New w w' d) w' p (.slice a n c) cl/\k=cl.vars
   | .error (e,q)=>RdE w' b e q)
theorem Rd.unnamed{w:World}{b g:Nat}{n:Option Nat}{l:List Rf.Tok}{ns:List ByteArray}(h:Rd w b g n l ns):Rd (w.setCell ⟨b,2,none⟩ (.slice none 0 0)) b g none l []:=by
 obtain⟨d,I,r,c,m,i,j,k,a,s,o,f,p,q,_⟩:=h.ex;exact⟨d,I,_,c,AK m 2 _,i,j,k,a.setCell _ _ (fun e=>f (bF e).symm),aj.nil _ _ _ _ _,rfl,f,aE,aE,aE⟩
theorem dn.head{F:Nat->Prop}{w:World}{p:Nat}{ps:List AB}(h:dn F w p ps):∃k n s a l c,TmB w p k n s (.slice a l c)/\((F7 ps=true/\(k==118)=false/\(k==110)=false/\B3 s l=false)\/(F7 ps=false/\((k==118)=true\/((k==118)=false/\(k==110)=true)\/((k==118)=false/\(k==110)=false/\B3 s l=true)))):=by
 obtain⟨k,n,s,a,l,c,f,g⟩:=h.kind;refine⟨k,n,s,a,l,c,f,?_⟩;rcases g with⟨b,d,y,rfl⟩|⟨b,d,i,rest,rfl⟩
 ·refine .inr ⟨?_,?_⟩
  ·simp at d;simp[F7,d]
  ·rcases b with b|b
   ·exact .inl b
   ·exact .inr (.inl b)
 ·cases e:B3 s l
  ·exact .inl ⟨by simp[F7,e],b,d,rfl⟩
  ·exact .inr ⟨by simp[F7,e],.inr (.inr ⟨b,d,rfl⟩)⟩
theorem rA(f b g:Nat)(q:Option Nat)(t:Rf.Tok)(l:List Rf.Tok)(ns:List ByteArray)(w:World)(h:Rd w b g q (t::l) ns)(hl: (t::l).length<=f)(B:Int)(N:Nat)(M:AM f (t::l) []= .error (B,N)):Calls prog 69 #[.pointer (some ⟨b,0,none⟩)] w fun r w'=>GN w b g q (BP f (t::l)) r w':=by
 have Z:Hid (BP f (t::l)= .error (B,N)):=by unfold Hid;simp only[BP];rw[M]
 have S:=aO M;clear M;have H:=aO h.unnamed;obtain⟨a0,a4,_⟩:=h.lt;obtain⟨vL,I,a,n,c,P⟩:=h.err;obtain⟨q0,q1,q2,q3,q4,qf,qb⟩:=P.facts;clear h P;go_enter func69,ntmps69
 go_wp2_with (first
  |(go_at_call 68;refine(CO b g none t l [] _ (H.o.alloc _)).mono ?_;rintro e A ⟨rfl,j⟩;have G:=(j.block w.heap.size aE).trans (AZ _ _ _ aE);have a5:w.heap.size+1<=A.heap.size:=(by have:=j.size;simpa using this);have J:=(H.o.alloc _).below j)
  |(go_at_call 97;refine(GI f b g none (t::l) [] _ (J.alloc _) hl).mono ?_;rintro r s ⟨p,rfl,hp,R,i,C⟩;rw[S.o] at C;have z:∀k,w.heap.size<=k->¬May b none k:=(fun k hk e=>by rcases e with e|e;omega;cases e);have m:=(i.block w.heap.size aJ (z _ (aX _))).trans (AF G _);have L:Box s A.heap.size t:=(i.block A.heap.size aE (z _ aD)).trans (AJ _ _);have a6:A.heap.size+1<=s.heap.size:=(by have:=i.size;simpa using this);obtain⟨Q,nn,ss,T,ll,V,K⟩:=R;obtain⟨a7,I2,a2,n2,O,D,F⟩:=RdE.ex C;obtain⟨z0,z1,z2,z3,z4,zf,zb⟩:=D.facts;have a1: (B !=0)=true:=(by rw[bne_iff_ne];exact F);have k0:s.cell? ⟨p,0,none⟩=some (.int .u8 Q):=AA K 0;have pl:=AD K;have⟨x0,x1,x2,x3⟩:=cM L;simp at x0 x1 x2 x3;have xl:A.heap.size<s.heap.size:=aD;have wl:w.heap.size<s.heap.size:=aD;have bl:b<s.heap.size:=aD;have⟨u0,u1,u2⟩:=cJ m;simp at u0 u1 u2;have uf:=AE m)
  |(go_at_call 98;refine(DN p Q nn ss T ll V _ (AF K _)).mono ?_;rintro r wx ⟨rfl,rfl⟩)
  |(go_at_call 99;refine(oU b t 4 B N _ (RdE.below C ((bZ _ _).alloc (aX _) _))).mono ?_;rintro r w3 ⟨rfl,x,o⟩;obtain⟨a8,I3,a3,n3,c3,E,_⟩:=x.ex;obtain⟨v0,v1,v2,v3,v4,vf,vb⟩:=E.facts;have u:=(o.block s.heap.size aE).trans (AJ _ _);have y:=(o.block w.heap.size aJ).trans (AF m _);have⟨U,c1,O⟩:=cJ u;simp at U c1 O;have cf:=AE u;have⟨W,X,Y⟩:=cJ y;simp at W X Y;have gf:=AE y))
 all_goals
  refine bodyPost_ret (v:= .agg #[.pointer (some ⟨p,0,none⟩),.slice none 0 0,.int .i64 0]) (by simp[results,results69,go_sem, *]) rfl ?_;rw[Z.o];have d:b≠w.heap.size:=aD
  first
  |exact⟨_,_,_,_,_,rfl,((((((((((Kept.refl (May b q) w).setCell (p:=⟨b,2,none⟩) (.inr (.inl rfl)) _).alloc _).trans (Kept.of_below j (May b q)) (fun _ _ e=>e)).alloc _).trans i (fun k _ e=>May.none k e)).alloc _).trans (Kept.of_below o (May b q)) (fun _ _ e=>e)).setCell (p:=⟨w.heap.size,0,none⟩) (.inl (aX _)) _).setCell (p:=⟨w.heap.size,1,none⟩) (.inl (aX _)) _).setCell (p:=⟨w.heap.size,2,none⟩) (.inl (aX _)) _,((x.setOther _ _ _ d).setOther _ _ _ d).setOther _ _ _ d⟩
  |exact⟨_,_,_,_,_,rfl,((((((((((Kept.refl (May b q) w).setCell (p:=⟨b,2,none⟩) (.inr (.inl rfl)) _).alloc _).trans (Kept.of_below j (May b q)) (fun _ _ e=>e)).alloc _).trans i (fun k _ e=>May.none k e))).setCell (p:=⟨w.heap.size,0,none⟩) (.inl (aX _)) _).setCell (p:=⟨w.heap.size,1,none⟩) (.inl (aX _)) _).setCell (p:=⟨w.heap.size,2,none⟩) (.inl (aX _)) _).alloc _,(((RdE.setOther C _ _ _ d).setOther _ _ _ d).setOther _ _ _ d).below ((bZ _ _).alloc (aX _) _)⟩
theorem qT(f b g:Nat)(E:Option Nat)(t:Rf.Tok)(l:List Rf.Tok)(ns:List ByteArray)(w:World)(h:Rd w b g E (t::l) ns)(hl: (t::l).length<=f)(ps:List AB)(V:List Rf.Tok)(B:List ByteArray)(D:AM f (t::l) []= .ok (ps,V,B))(O:F7 ps=false):Calls prog 69 #[.pointer (some ⟨b,0,none⟩)] w fun r w'=>GN w b g E (BP f (t::l)) r w':=by
 have hS:Hid (BP f (t::l)= .error (4,t.at_)):=by unfold Hid;simp only[BP];rw[D];simp only[];rw[bC (by simp[O])]
 have R:=aO (F0 t 4 (TM D));have Y:=aO D;have X:=aO O;clear D O;have H:=aO h.unnamed;obtain⟨a0,a1,_⟩:=h.lt;obtain⟨vL,I,a,n,c,S⟩:=h.err;obtain⟨q0,q1,q2,q3,q4,qf,qb⟩:=S.facts;clear h S;go_enter func69,ntmps69
 go_wp2_with (first
  |(go_at_call 68;refine(CO b g none t l [] _ (H.o.alloc _)).mono ?_;rintro e C ⟨rfl,i⟩;have G:=(i.block w.heap.size aE).trans (AZ _ _ _ aE);have a4:w.heap.size+1<=C.heap.size:=(by have:=i.size;simpa using this);have K:=(H.o.alloc _).below i)
  |(go_at_call 97;refine(GI f b g none (t::l) [] _ (K.alloc _) hl).mono ?_;rintro r u ⟨p,rfl,hp,Bh,d,T⟩;rw[Y.o] at T;have A:∀k,w.heap.size<=k->¬May b none k:=(fun k hk e=>by rcases e with e|e;omega;cases e);have m:=(d.block w.heap.size aJ (A _ (aX _))).trans (AF G _);have N:Box u C.heap.size t:=(d.block C.heap.size aE (A _ aD)).trans (AJ _ _);have a5:C.heap.size+1<=u.heap.size:=(by have:=d.size;simpa using this);obtain⟨P,J,a2,M⟩:=T;obtain⟨U,nn,ss,Z,ll,cc,L,s⟩:=M.head;obtain⟨_,s⟩:=s.resolve_left (fun x=>absurd (x.1.symm.trans X.o) aF);have k0:u.cell? ⟨p,0,none⟩=some (.int .u8 U):=AA L 0;have pl:=AD L;have⟨x0,x1,x2,x3⟩:=cM N;simp at x0 x1 x2 x3;have xl:C.heap.size<u.heap.size:=aD;have wl:w.heap.size<u.heap.size:=aD;have bl:b<u.heap.size:=aD;have⟨u0,u1,u2⟩:=cJ m;simp at u0 u1 u2;have uf:=AE m;rcases s with Q|⟨Q,W⟩|⟨Q,W,kb⟩)
  |(go_at_call 98;refine(DN p U nn ss Z ll cc _ (AF L _)).mono ?_;rintro r wx ⟨rfl,rfl⟩)
  |(go_at_call 99;refine(OP b g P V B t 4 _ (J.alloc _) (by rw[R.o];show(4:Int)≠0;decide)).mono ?_;rintro r w3 ⟨rfl,j,o⟩;rw[R.o] at j;obtain⟨a6,I3,a3,n3,c3,F,_⟩:=j.ex;obtain⟨v0,v1,v2,v3,v4,vf,vb⟩:=F.facts;have y:=(o.block u.heap.size aE aD).trans (AJ _ _);have z:=(o.block w.heap.size aJ aD).trans (AF m _);have⟨c0,c1,c2⟩:=cJ y;simp at c0 c1 c2;have cf:=AE y;have⟨g0,g1,g2⟩:=cJ z;simp at g0 g1 g2;have gf:=AE z))
 all_goals
  refine bodyPost_ret (v:= .agg #[.pointer (some ⟨p,0,none⟩),.slice none 0 0,.int .i64 0]) (by simp[results,results69,go_sem, *]) rfl ?_;rw[hS.o];have q:b≠w.heap.size:=aD;exact⟨_,_,_,_,_,rfl,((((((((((Kept.refl (May b E) w).setCell (p:=⟨b,2,none⟩) (.inr (.inl rfl)) _).alloc _).trans (Kept.of_below i (May b E)) (fun _ _ e=>e)).alloc _).trans d (fun k _ e=>May.none k e)).alloc _).trans o (fun _ _ e=>Or.inl e)).setCell (p:=⟨w.heap.size,0,none⟩) (.inl (aX _)) _).setCell (p:=⟨w.heap.size,1,none⟩) (.inl (aX _)) _).setCell (p:=⟨w.heap.size,2,none⟩) (.inl (aX _)) _,((j.setOther _ _ _ q).setOther _ _ _ q).setOther _ _ _ q⟩
theorem Rd.aW{w:World}{b g:Nat}{i:Option Nat}{l:List Rf.Tok}{ns:List ByteArray}(h:Rd w b g i l ns):∃(j:Value) (I:Int) (a:Option Addr) (c:Nat),RdB w b j I (.slice a ns.length c) 0 0:=by
 obtain⟨f,I,o,e,d,_,_,_,_,k,_⟩:=h.ex;rcases k.shape with⟨rfl,rfl⟩|⟨n,m,rfl,_⟩
 ·exact⟨_,_,_,_,d⟩
 ·exact⟨_,_,_,_,d⟩
theorem yQ(f b g:Nat)(K:Option Nat)(t:Rf.Tok)(l:List Rf.Tok)(ns:List ByteArray)(w:World)(h:Rd w b g K (t::l) ns)(hl: (t::l).length<=f)(ps:List AB)(u:Rf.Tok)(l2:List Rf.Tok)(J:List ByteArray)(V:AM f (t::l) []= .ok (ps,u::l2,J))(T:F7 ps=true)(o: (u.k==63)=true):Calls prog 69 #[.pointer (some ⟨b,0,none⟩)] w fun r w'=>GN w b g K (BP f (t::l)) r w':=by
 have HR:=aO V;have HH:=aO T
 have hS:Hid (BP f (t::l)= .error (u.e,u.at_)):=by
  have a0:u.k=63:=bT o;unfold Hid;simp only[BP];rw[V];simp only[];rw[bD T,bC aD,OL _ _ _ _ (by rw[bne_iff_ne];omega),MW _ _ o]
 clear V T;have H:=aO h.unnamed;obtain⟨a5,a7,_⟩:=h.lt;obtain⟨vL,I,a,n,c,W⟩:=h.err;obtain⟨q0,q1,q2,q3,q4,qf,qb⟩:=W.facts;clear h W;go_enter func69,ntmps69
 go_wp2_with (first
  |(go_at_call 68;refine(CO b g none t l [] _ (H.o.alloc _)).mono ?_;rintro e A ⟨rfl,j⟩;have N:=(j.block w.heap.size aE).trans (AZ _ _ _ aE);have a8:w.heap.size+1<=A.heap.size:=(by have:=j.size;simpa using this);have O:=(H.o.alloc _).below j)
  |(go_at_call 97;refine(GI f b g none (t::l) [] _ (O.alloc _) hl).mono ?_;rintro r d ⟨p,rfl,hp,Bh,i,Y⟩;rw[HR.o] at Y;have G:∀k,w.heap.size<=k->¬May b none k:=(fun k X e=>by rcases e with e|e;omega;cases e);have q:=(i.block w.heap.size aJ (G _ (aX _))).trans (AF N _);have R:Box d A.heap.size t:=(i.block A.heap.size aE (G _ aD)).trans (AJ _ _);have a9:A.heap.size+1<=d.heap.size:=(by have:=i.size;simpa using this);obtain⟨m,y,F,Q⟩:=Y;obtain⟨Z,nn,ss,aa,ll,cc,P,U⟩:=Q.head;obtain⟨_,Dk,Ef,kb⟩:=U.resolve_right (fun x=>absurd (x.1.symm.trans HH.o) aF);obtain⟨yL,yI,ya,yc,M⟩:=y.aW;obtain⟨y0,y1,y2,y3,y4,yf,yb⟩:=M.facts;have Dl:m≠some d.heap.size:=(fun e=>by have:=(y.lt.2.2.1 _ e).1;omega);have Bq:m≠some w.heap.size:=F.ne aE aJ;have Cb:∀x,m=some x->A.heap.size<x:=(fun x e=>by rcases F with B|⟨k,B,X⟩;rw[e] at B;cases B;rw[e] at B;have:=bF B;simp at X;omega);have k0:d.cell? ⟨p,0,none⟩=some (.int .u8 Z):=AA P 0;have pl:=AD P;have⟨x0,x1,x2,x3⟩:=cM R;simp at x0 x1 x2 x3;have xl:A.heap.size<d.heap.size:=aD;have wl:w.heap.size<d.heap.size:=aD;have bl:b<d.heap.size:=aD;have⟨u0,u1,u2⟩:=cJ q;simp at u0 u1 u2;have uf:=AE q)
  |(go_at_call 98;refine(DN p Z nn ss aa ll cc _ (AF P _)).mono ?_;rintro r wx ⟨rfl,rfl⟩)
  |(go_at_call 100;refine(j4 b g m u l2 J 58 _ (y.alloc _) o).mono ?_;rintro r w3 ⟨rfl,D,s⟩;obtain⟨b0,I3,a3,n3,c3,L,Bo⟩:=D.ex;obtain⟨v0,v1,v2,v3,v4,vf,vb⟩:=L.facts;have a6: (u.e==0)=false:=aY.2 Bo;have C:=(s.block d.heap.size aE aD).trans (AJ _ _);have E:=(s.block w.heap.size aJ aD).trans (AF q _);have⟨c0,c1,c2⟩:=cJ C;simp at c0 c1 c2;have cf:=AE C;have⟨g0,g1,g2⟩:=cJ E;simp at g0 g1 g2;have gf:=AE E;have a1:¬d.heap.size=w.heap.size:=aD;have a4:¬w.heap.size=d.heap.size:=aD;have S:¬b=d.heap.size:=aD;have a2:¬d.heap.size=b:=aD))
 refine bodyPost_ret (v:= .agg #[.pointer (some ⟨p,0,none⟩),.slice none 0 0,.int .i64 n3]) (by simp[results,results69,go_sem, *]) rfl ?_;rw[hS.o];have z:b≠w.heap.size:=aD;exact⟨_,_,_,_,_,rfl,(((((((((((Kept.refl (May b K) w).setCell (p:=⟨b,2,none⟩) (.inr (.inl rfl)) _).alloc _).trans (Kept.of_below j (May b K)) (fun _ _ e=>e)).alloc _).trans i (fun k _ e=>May.none k e)).alloc _).trans s (fun _ _ e=>Or.inl e)).setCell (p:=⟨d.heap.size,2,none⟩) (.inl (show w.heap.size<=d.heap.size by omega)) _).setCell (p:=⟨w.heap.size,0,none⟩) (.inl (aX _)) _).setCell (p:=⟨w.heap.size,1,none⟩) (.inl (aX _)) _).setCell (p:=⟨w.heap.size,2,none⟩) (.inl (aX _)) _,(((D.setOther _ _ _ S).setOther _ _ _ z).setOther _ _ _ z).setOther _ _ _ z⟩
theorem VC(f b g:Nat)(M:Option Nat)(t:Rf.Tok)(l:List Rf.Tok)(ns:List ByteArray)(w:World)(h:Rd w b g M (t::l) ns)(hl: (t::l).length<=f)(ps:List AB)(u:Rf.Tok)(l2:List Rf.Tok)(A:List ByteArray)(hr:AM f (t::l) []= .ok (ps,u::l2,A))(hh:F7 ps=true)(O: (u.k==63)=false)(N: (u.k==58)=false)(D: (u.k !=46)=true):Calls prog 69 #[.pointer (some ⟨b,0,none⟩)] w fun r w'=>GN w b g M (BP f (t::l)) r w':=by
 have HR:=aO hr;have HH:=aO hh
 have hS:Hid (BP f (t::l)= .error (BR u 2)):=by
  unfold Hid;simp only[BP];rw[hr];simp only[];rw[bD hh,bC (aY.1 N),OL _ _ _ _ D]
 clear hr hh;have H:=aO h.unnamed;obtain⟨a6,a7,_⟩:=h.lt;obtain⟨vL,I,a,n,c,hB⟩:=h.err;obtain⟨q0,q1,q2,q3,q4,qf,qb⟩:=hB.facts;clear h hB;go_enter func69,ntmps69
 go_wp2_with (first
  |(go_at_call 68;refine(CO b g none t l [] _ (H.o.alloc _)).mono ?_;rintro e B ⟨rfl,q⟩;have T:=(q.block w.heap.size aE).trans (AZ _ _ _ aE);have a8:w.heap.size+1<=B.heap.size:=(by have:=q.size;simpa using this);have V:=(H.o.alloc _).below q)
  |(go_at_call 97;refine(GI f b g none (t::l) [] _ (V.alloc _) hl).mono ?_;rintro r d ⟨p,rfl,hp,Bh,m,hm⟩;rw[HR.o] at hm;have L:∀k,w.heap.size<=k->¬May b none k:=(fun k hk e=>by rcases e with e|e;omega;cases e);have s:=(m.block w.heap.size aJ (L _ (aX _))).trans (AF T _);have Y:Box d B.heap.size t:=(m.block B.heap.size aE (L _ aD)).trans (AJ _ _);have a9:B.heap.size+1<=d.heap.size:=(by have:=m.size;simpa using this);obtain⟨j,o,K,X⟩:=hm;obtain⟨kk,nn,ss,aa,ll,cc,W,a0⟩:=X.head;obtain⟨_,Dk,Ef,kb⟩:=a0.resolve_right (fun x=>absurd (x.1.symm.trans HH.o) aF);obtain⟨yL,yI,ya,yc,R⟩:=o.aW;obtain⟨y0,y1,y2,y3,y4,yf,yb⟩:=R.facts;have Dl:j≠some d.heap.size:=(fun e=>by have:=(o.lt.2.2.1 _ e).1;omega);have Bq:j≠some w.heap.size:=K.ne aE aJ;have Cb:∀x,j=some x->B.heap.size<x:=(fun x e=>by rcases K with C|⟨k,C,hk⟩;rw[e] at C;cases C;rw[e] at C;have:=bF C;simp at hk;omega);have k0:d.cell? ⟨p,0,none⟩=some (.int .u8 kk):=AA W 0;have pl:=AD W;have⟨x0,x1,x2,x3⟩:=cM Y;simp at x0 x1 x2 x3;have xl:B.heap.size<d.heap.size:=aD;have wl:w.heap.size<d.heap.size:=aD;have bl:b<d.heap.size:=aD;have⟨u0,u1,u2⟩:=cJ s;simp at u0 u1 u2;have uf:=AE s)
  |(go_at_call 98;refine(DN p kk nn ss aa ll cc _ (AF W _)).mono ?_;rintro r wx ⟨rfl,rfl⟩)
  |(go_at_call 100;refine(KV b g j u l2 A 58 _ (o.alloc _) O).mono ?_;rintro r w3 ⟨rfl,i⟩;have J:=(o.alloc _).below i;have S:=(i.block d.heap.size aE).trans (AJ _ _);have U:=(i.block w.heap.size aJ).trans (AF s _);have b0:d.heap.size+1<=w3.heap.size:=(by have:=i.size;simpa using this);obtain⟨iL,iI,ia,ic,Q⟩:=J.aW;obtain⟨i0,i1,i2,i3,i4,jf,jb⟩:=Q.facts)
  |(go_at_call 71;refine(OK b g j u l2 A 46 _ J D).mono ?_;rintro r w4 ⟨rfl,F,y⟩;obtain⟨wL,wI,wa,wn,wc,P,a1⟩:=F.ex;obtain⟨o0,o1,o2,o3,o4,of,ob⟩:=P.facts;have E:=(y.block d.heap.size (by first|omega|(simp;omega)) aD).trans S;have G:=(y.block w.heap.size (by first|omega|(simp;omega)) aD).trans U;have⟨c0,c1,c2⟩:=cJ E;simp at c0 c1 c2;have cf:=AE E;have⟨g0,g1,g2⟩:=cJ G;simp at g0 g1 g2;have gf:=AE G;have a2:¬d.heap.size=w.heap.size:=aD;have a4:¬w.heap.size=d.heap.size:=aD;have Z:¬b=d.heap.size:=aD;have a3:¬d.heap.size=b:=aD;have z:¬b=w.heap.size:=aD;have a5:¬w.heap.size=b:=aD))
 refine bodyPost_ret (v:= .agg #[.pointer (some ⟨p,0,none⟩),.slice none 0 0,.int .i64 wn]) (by simp[results,results69,go_sem, *]) rfl ?_;rw[hS.o];exact⟨_,_,_,_,_,rfl,((((((((((((Kept.refl (May b M) w).setCell (p:=⟨b,2,none⟩) (.inr (.inl rfl)) _).alloc _).trans (Kept.of_below q (May b M)) (fun _ _ e=>e)).alloc _).trans m (fun k _ e=>May.none k e)).alloc _).trans (Kept.of_below i (May b M)) (fun _ _ e=>e)).trans y (fun _ _ e=>Or.inl e)).setCell (p:=⟨d.heap.size,2,none⟩) (.inl (show w.heap.size<=d.heap.size by omega)) _).setCell (p:=⟨w.heap.size,0,none⟩) (.inl (aX _)) _).setCell (p:=⟨w.heap.size,1,none⟩) (.inl (aX _)) _).setCell (p:=⟨w.heap.size,2,none⟩) (.inl (aX _)) _,(((F.setOther _ _ _ Z).setOther _ _ _ z).setOther _ _ _ z).setOther _ _ _ z⟩
theorem WR(f b g:Nat)(Q:Option Nat)(t:Rf.Tok)(l:List Rf.Tok)(ns:List ByteArray)(w:World)(h:Rd w b g Q (t::l) ns)(hl: (t::l).length<=f)(ps:List AB)(u:Rf.Tok)(S:List Rf.Tok)(m:List ByteArray)(hr:AM f (t::l) []= .ok (ps,u::S,m))(hh:F7 ps=true)(G: (u.k==63)=false)(V: (u.k==58)=false)(A: (u.k !=46)=false):Calls prog 69 #[.pointer (some ⟨b,0,none⟩)] w fun r w'=>GN w b g Q (BP f (t::l)) r w':=by
 have HR:=aO hr;have HH:=aO hh
 have hS:Hid (BP f (t::l)= .ok (⟨ps,[],m.length⟩,S)):=by
  unfold Hid;simp only[BP];rw[hr];simp only[];rw[bD hh,bC (aY.1 V),U7 _ _ _ _ A]
 have U:Hid (u.k≠0):=by have:u.k=46:=(by simpa using A);unfold Hid;omega
 clear hr hh;have H:=aO h.unnamed;obtain⟨b1,b2,_⟩:=h.lt;obtain⟨vL,I,a,n,c,hB⟩:=h.err;obtain⟨q0,q1,q2,q3,q4,qf,qb⟩:=hB.facts;clear h hB;go_enter func69,ntmps69
 go_wp2_with (first
  |(go_at_call 68;refine(CO b g none t l [] _ (H.o.alloc _)).mono ?_;rintro e E ⟨rfl,z⟩;have a0:=(z.block w.heap.size aE).trans (AZ _ _ _ aE);have b3:w.heap.size+1<=E.heap.size:=(by have:=z.size;simpa using this);have a2:=(H.o.alloc _).below z)
  |(go_at_call 97;refine(GI f b g none (t::l) [] _ (a2.alloc _) hl).mono ?_;rintro r d ⟨p,rfl,hp,Bh,s,hm⟩;rw[HR.o] at hm;have P:∀k,w.heap.size<=k->¬May b none k:=(fun k hk e=>by rcases e with e|e;omega;cases e);have B:=(s.block w.heap.size aJ (P _ (aX _))).trans (AF a0 _);have a3:Box d E.heap.size t:=(s.block E.heap.size aE (P _ aD)).trans (AJ _ _);have b4:E.heap.size+1<=d.heap.size:=(by have:=s.size;simpa using this);obtain⟨i,y,O,N⟩:=hm;obtain⟨kk,nn,ss,aa,ll,cc,hT,a6⟩:=N.head;obtain⟨_,Dk,Ef,kb⟩:=a6.resolve_right (fun x=>absurd (x.1.symm.trans HH.o) aF);obtain⟨yL,yI,ya,yc,Y⟩:=y.aW;obtain⟨y0,y1,y2,y3,y4,yf,yb⟩:=Y.facts;have Dl:i≠some d.heap.size:=(fun e=>by have:=(y.lt.2.2.1 _ e).1;omega);have T:i≠some w.heap.size:=O.ne aE aJ;have Cb:∀x,i=some x->E.heap.size<x:=(fun x e=>by rcases O with F|⟨k,F,hk⟩;rw[e] at F;cases F;rw[e] at F;have:=bF F;simp at hk;omega);have k0:d.cell? ⟨p,0,none⟩=some (.int .u8 kk):=AA hT 0;have pl:=AD hT;have⟨x0,x1,x2,x3⟩:=cM a3;simp at x0 x1 x2 x3;have xl:E.heap.size<d.heap.size:=aD;have wl:w.heap.size<d.heap.size:=aD;have bl:b<d.heap.size:=aD;have⟨u0,u1,u2⟩:=cJ B;simp at u0 u1 u2;have uf:=AE B)
  |(go_at_call 98;refine(DN p kk nn ss aa ll cc _ (AF hT _)).mono ?_;rintro r wx ⟨rfl,rfl⟩)
  |(go_at_call 100;refine(KV b g i u S m 58 _ (y.alloc _) G).mono ?_;rintro r w3 ⟨rfl,j⟩;have L:=(y.alloc _).below j;have Z:=(j.block d.heap.size aE).trans (AJ _ _);have a1:=(j.block w.heap.size aJ).trans (AF B _);have b5:d.heap.size+1<=w3.heap.size:=(by have:=j.size;simpa using this);obtain⟨iL,iI,ia,ic,X⟩:=L.aW;obtain⟨i0,i1,i2,i3,i4,jf,jb⟩:=X.facts)
  |(go_at_call 71;refine(QY b g i u S m 46 _ L A U.o (aY.1 G)).mono ?_;rintro r w4 ⟨rfl,M,o⟩;obtain⟨wL,wI,wa,wc,W⟩:=M.aW;obtain⟨o0,o1,o2,o3,o4,of,ob⟩:=W.facts;have J:=(o.block d.heap.size (by first|omega|(simp;omega)) aD).trans Z;have K:=(o.block w.heap.size (by first|omega|(simp;omega)) aD).trans a1;have⟨c0,c1,c2⟩:=cJ J;simp at c0 c1 c2;have cf:=AE J;have⟨g0,g1,g2⟩:=cJ K;simp at g0 g1 g2;have gf:=AE K;have a7:¬d.heap.size=w.heap.size:=aD;have a9:¬w.heap.size=d.heap.size:=aD;have a4:¬b=d.heap.size:=aD;have a8:¬d.heap.size=b:=aD;have C:¬b=w.heap.size:=aD;have b0:¬w.heap.size=b:=aD))
 refine bodyPost_ret (v:= .agg #[.pointer (some ⟨p,0,none⟩),.slice none 0 0,.int .i64 m.length]) (by simp[results,results69,go_sem, *]) rfl ?_;rw[hS.o];have D:g≠w.heap.size:=aD;have a5:g≠d.heap.size:=aD;have b6:=o.size;refine⟨_,_,_,_,_,rfl,((((((((((((Kept.refl (May b Q) w).setCell (p:=⟨b,2,none⟩) (.inr (.inl rfl)) _).alloc _).trans (Kept.of_below z (May b Q)) (fun _ _ e=>e)).alloc _).trans s (fun k _ e=>May.none k e)).alloc _).trans (Kept.of_below j (May b Q)) (fun _ _ e=>e)).trans o (fun _ _ e=>Or.inl e)).setCell (p:=⟨d.heap.size,2,none⟩) (.inl (show w.heap.size<=d.heap.size by omega)) _).setCell (p:=⟨w.heap.size,0,none⟩) (.inl (aX _)) _).setCell (p:=⟨w.heap.size,1,none⟩) (.inl (aX _)) _).setCell (p:=⟨w.heap.size,2,none⟩) (.inl (aX _)) _,i,m,(((M.setOther _ _ _ a4 a5 Dl).setOther _ _ _ C D T).setOther _ _ _ C D T).setOther _ _ _ C D T,fun x e=>by have:=Cb x e;omega,⟨N.keptBy ((((((((Kept.refl (fun k=>May b i k\/k=w.heap.size) d).alloc _).trans (Kept.of_below j (fun k=>May b i k\/k=w.heap.size)) (fun _ _ e=>e)).trans o (fun _ _ e=>Or.inl (Or.inl e))).setCell (p:=⟨d.heap.size,2,none⟩) (.inl (aX _)) _).setCell (p:=⟨w.heap.size,0,none⟩) (.inr (.inr rfl)) _).setCell (p:=⟨w.heap.size,1,none⟩) (.inr (.inr rfl)) _).setCell (p:=⟨w.heap.size,2,none⟩) (.inr (.inr rfl)) _) (fun k _ R=>?_),[],aj.nil _ _ _ _ _,fun k e=>by simp[Value.ownBlock] at e,fun q hq=>by simp at hq,rfl,aE⟩,rfl⟩;have f1:=R.1;have f2:=R.2.1;simp at f1;refine⟨fun e=>?_,aD,aJ,R.2.2⟩;rcases e with(e|e)|e
 ·omega
 ·exact R.2.2 e.symm
 ·omega
end Go.Proofs.Q
