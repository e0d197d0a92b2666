import Derived.Test.YthenokfmcjmfkaaGreatDoorYaw
set_option maxRecDepth 100000
set_option maxHeartbeats 1000000
namespace Go.Proofs.Q
open Rf _root_.Go.Proofs.Tryz
open Go.RowKit
theorem Rd.keptBy{M:Nat->Prop}{w w':World}{b g:Nat}{f:Option Nat}{l:List Rf.Tok}{ns:List ByteArray}(h:Rd w b g f l ns)(c:Kept M w w')(r:¬M b)(u:¬M g)(n:∀k,f=some k->¬M k):Rd w' b g f l ns:=by
 obtain⟨d,I,q,i,m,t,v,s,a,o,j,p⟩:=h.ex;exact⟨d,I,q,i,(c.block b (AD m) r).trans m,t,v,s,a.keptBy c (fun k e=>by simp[Value.ownBlock] at e;subst e;exact u),o.keptBy c (fun k e=>n k (j ▸ e)),j,p⟩
theorem RdE.keptBy{M:Nat->Prop}{w w':World}{b:Nat}{E P:Int}(h:RdE w b E P)(e:Kept M w w')(f:¬M b):RdE w' b E P:=by
 obtain⟨i,I,a,n,c,d,g⟩:=h.ex;exact⟨i,I,a,n,c,(e.block b (AD d) f).trans d,g⟩
theorem Rd.lt{w:World}{b g:Nat}{c:Option Nat}{l:List Rf.Tok}{ns:List ByteArray}(h:Rd w b g c l ns):b<w.heap.size/\g<w.heap.size/\(∀k,c=some k->k<w.heap.size/\k≠b/\k≠g)/\b≠g:=by
 obtain⟨j,I,q,o,p,_,_,_,a,f,n,i,d,m,_⟩:=h.ex;exact⟨AD p,(a.lt g rfl).2,fun k e=>⟨(f.lt k (n.trans e)).2,fun x=>d (by rw[e,x]),fun x=>m (by rw[e,x])⟩,i⟩
structure Args(w wr:World)(nb:Option Nat)(X:Nat)(s:ByteArray)(vA:Value)(acc:List (Nat×List AB)):Prop where
 blk:TmB wr X 99 0 s vA
 new:w.heap.size<=X
 aW:nb≠some X
 apart:vA.ownBlock≠some X
 row:aj wr 0 100 1 BQ vA (acc.map (·.1))
 au:∀k,vA.ownBlock=some k->New w wr nb k
 aS:∀q∈acc,dn (fun k=>New w wr nb k/\vA.ownBlock≠some k/\k≠X) wr q.1 q.2
theorem Args.over{w wr l:World}{b:Nat}{c nb1:Option Nat}{X:Nat}{s:ByteArray}{m:Value}{acc:List (Nat×List AB)}(h:Args w wr c X s m acc)(B:b<w.heap.size)(d:Kept (May b c) wr l)(p:Nb wr c nb1):Args w l nb1 X s m acc:=by
 have u:=d.size;have i:=AD h.blk;have g:=h.new;have a:∀k,k<wr.heap.size->w.heap.size<=k->c≠some k->¬May b c k/\nb1≠some k:=fun k y A n=>⟨fun e=>by rcases e with e|e;exact absurd e aD;exact n e.symm,p.ne n y⟩
 refine⟨(d.block X i (a X i g h.aW).1).trans h.blk,g,(a X i g h.aW).2,h.apart,h.row.keptBy d (fun k e=>(a k (h.au k e).2.1 (h.au k e).1 (h.au k e).2.2).1),fun k e=>⟨(h.au k e).1,by have:=(h.au k e).2.1;omega,(a k (h.au k e).2.1 (h.au k e).1 (h.au k e).2.2).2⟩,fun q z=>(h.aS q z).keptBy d (fun k x v=>?_)⟩;obtain⟨⟨f,o,j⟩,r,t⟩:=v;exact⟨(a k o f j).1,⟨f,aD,(a k o f j).2⟩,r,t⟩
def Dc(X:Nat)(a:Value)(k:Nat):Prop:=k=X\/a.ownBlock=some k
theorem JB{b c:World}{o:Obj}{X:Nat}{a v2:Value}(d: (b.alloc o).grownBy c a.ownBlock):Kept (Dc X a) b (c.setCell ⟨X,3,none⟩ v2):=(((Kept.refl (Dc X a) b).alloc o).grown d (fun _ e=> .inr (.inr e))).setCell (p:=⟨X,3,none⟩) (.inr (.inl rfl)) _
theorem Args.push{w b c:World}{o:Obj}{f:Option Nat}{X:Nat}{s:ByteArray}{i:Value}{acc:List (Nat×List AB)}{p:Nat}{ps:List AB}{a n g:Nat}(h:Args w b f X s i acc) (G:dn (fun k=>New w b f k/\i.ownBlock≠some k/\k≠X) b p ps) (H:∀k,f=some k->k<b.heap.size) (u: (b.alloc o).grownBy c i.ownBlock) (m:Nb (b.alloc o) i.ownBlock (some a)) (x:aj c 0 100 1 BQ (.slice (some ⟨a,0,none⟩) n g) ((acc.map (·.1))++[p])):Args w (c.setCell ⟨X,3,none⟩ (.slice (some ⟨a,0,none⟩) n g)) f X s (.slice (some ⟨a,0,none⟩) n g) (acc++[(p,ps)]):=by
 have J:=AD h.blk;have E:=h.new;have r:=JB (X:=X) (v2:= .slice (some ⟨a,0,none⟩) n g) u;have I:b.heap.size+1<=c.heap.size:=by have:=u.size;simpa using this
 have v:a<c.heap.size:=(x.lt a rfl).2;have l:a≠X:=fun e=>m.ne h.apart aJ (by rw[e])
 have j:w.heap.size<=a/\f≠some a:=by
  rcases m with e|⟨k,e,r⟩
  ·exact⟨(h.au a e.symm).1,(h.au a e.symm).2.2⟩
  ·have:=bF e;simp at r;exact⟨aD,fun e=>by have:=H a e;omega⟩
 have t:TmB c X 99 0 s i:=(u.block X aJ (fun e=>h.apart e.symm)).trans (AF h.blk o)
 have y:∀q qs,dn (fun k=>New w b f k/\i.ownBlock≠some k/\k≠X) b q qs->dn (fun k=>New w (c.setCell ⟨X,3,none⟩ (.slice (some ⟨a,0,none⟩) n g)) f k/\(Value.slice (some ⟨a,0,none⟩) n g).ownBlock≠some k/\k≠X) (c.setCell ⟨X,3,none⟩ (.slice (some ⟨a,0,none⟩) n g)) q qs:=by
  intro q qs d;refine d.keptBy r (fun k F D=>?_);obtain⟨⟨B,K,C⟩,z,A⟩:=D;exact⟨fun e=>by rcases e with e|e;exact A e;exact z e,⟨B,aJ,C⟩,fun e=>m.ne z aJ e,A⟩
 refine⟨AK t 3 _,E,h.aW,fun e=>l (bF e),?_,fun k e=>?_,fun q d=>?_⟩
 ·rw[bE];exact x.setCell _ _ (fun e=>l (bF e))
 ·obtain rfl:=bF e;exact⟨j.1,by simpa using v,j.2⟩
 ·rcases bO.1 d with d|d
  ·exact y _ _ (h.aS q d)
  ·simp at d;subst d;exact y _ _ G
theorem Args.done{w wr:World}{c:Option Nat}{X:Nat}{s:ByteArray}{i:Value}{acc:List (Nat×List AB)}(h:Args w wr c X s i acc)(n:1<=acc.length)(o:acc.length<=4):dn (New w wr c) wr X (⟨3,s,0,acc.length⟩::(acc.map (·.2)).flatten):=by
 have g:∀(l:List (Nat×List AB)),(∀q∈l,dn (fun k=>New w wr c k/\i.ownBlock≠some k/\k≠X) wr q.1 q.2)->∃d,∀q∈l,cu (New w wr c) wr d q.1 q.2:=by
  intro l
  induction l with
  |nil=>exact fun _=>⟨0,fun q b=>by simp at b⟩
  |cons a l t=>
   intro m;obtain⟨d,j⟩:=t (fun q b=>m q (bA _ b));obtain⟨p,f⟩:=m a List.mem_cons_self;refine⟨max d p,fun q b=>?_⟩;rcases bP.1 b with rfl|b
   ·exact(cu.keptBy (M:=fun _=>False) (Kept.refl _ _) (fun k _ r=>⟨fun e=>e,r.1⟩) f).up aD
   ·exact(j q b).up aD
 obtain⟨d,j⟩:=g acc h.aS;exact⟨d+1,⟨h.new,AD h.blk,h.aW⟩,.inr (.inr (.inr ⟨s,i,acc,h.blk,h.row,h.au,n,o,j,rfl⟩))⟩
def XD(f:Nat):Prop:=∀(b g:Nat) (a:Option Nat) (l:List Rf.Tok) (ns:List ByteArray) (w:World),Rd w b g a l ns->l.length<=f->Calls prog 97 #[.pointer (some ⟨b,0,none⟩)] w fun r w'=>ou w b g a (AM f l ns) r w'
theorem gQ(b g:Nat)(c:Option Nat)(u:Rf.Tok)(l:List Rf.Tok)(ns:List ByteArray)(s:ByteArray)(w:World)(h:Rd w b g c (u::l) ns)(j: (u.k !=40)=true):Calls prog 139 #[.pointer (some ⟨b,0,none⟩),.string s] w fun r w'=>ou w b g c (.ok ([⟨3,s,0,0⟩],u::l,ns)) r w':=by
 have H:=aO h;clear h;go_enter func139,ntmps139
 go_wp2_with (first
  |(go_at_call 68;refine(CO b g c u l ns _ H.o).mono ?_;rintro e i ⟨rfl,a⟩))
 go_ret;have f:=a.size;have d:=((H.o.below a).alloc (.cells #[.int .u8 u.k,.int .i64 u.at_,.string u.s,.int .i64 u.e] 149))
 refine⟨_,rfl,aD,⟨_,_,_,_,_,_,AZ _ _ _ aE⟩,((Kept.of_below a _).alloc _).alloc _,c,d.alloc _,.inl rfl,1,⟨aD,aE,fun e=>?_⟩,.inr (.inr (.inl ⟨s,AZ _ _ _ aE,rfl⟩))⟩;have:=(d.lt.2.2.1 _ e).1;simp at this
theorem yP{rd:List Rf.Tok->List ByteArray->Except (Int×Nat) (List (List AB)×List Rf.Tok×List ByteArray)}(t:Rf.Tok){u:Rf.Tok}{l:List Rf.Tok}{ns:List ByteArray}(a:u.k=40):Hid (∀e,rd l ns= .error e->EF rd t (u::l) ns= .error e):=by
 intro e h;simp only[EF];rw[bD a,h]
theorem aAH{rd:List Rf.Tok->List ByteArray->Except (Int×Nat) (List (List AB)×List Rf.Tok×List ByteArray)}(t:Rf.Tok){u:Rf.Tok}{l:List Rf.Tok}{ns:List ByteArray}(d:u.k=40):Hid (∀a c b,rd l ns= .ok (a,c,b)->EF rd t (u::l) ns= .ok (⟨3,t.s,0,a.length⟩::a.flatten,c,b)):=by
 intro a c b h;simp only[EF];rw[bD d,h]
def aC1(w:World)(b g:Nat)(nb:Option Nat)(X:Nat)(s:ByteArray)(f:Nat)(want:Except (Int×Nat) (List (List AB)×List Rf.Tok×List ByteArray))(m:Nat)(wr:World):Prop:=
  Kept (May b nb) w wr/\aBG wr X/\w.heap.size<=X/\((∃ k acc l1 ns1 nb1 vA, m = k + 1 /\ k < 4 /\ k + 1 + acc.length = 4 /\ Rd wr b g nb1 l1 ns1 /\ Nb w nb nb1 /\ l1.length <= f /\ Args w wr nb1 X s vA acc /\ Hid (want = A7 (AM f) (k + 1) (acc.map (·.2)) l1 ns1)) \/
   (∃(e:Int) (q:Nat),m=0/\RdE wr b e q/\Hid (want= .error (e,q))))
theorem Dc.none{w wr:World}{b:Option Nat}{X:Nat}{s:ByteArray}{a:Value}{acc:List (Nat×List AB)}(h:Args w wr b X s a acc):∀k,k<w.heap.size->¬Dc X a k:=by
 intro k d c;rcases c with e|e
 ·have:=h.new;omega
 ·have:=(h.au k e).1;omega
theorem Rd.pushed{w h i:World}{b g:Nat}{o:Obj}{d:Option Nat}{X:Nat}{s:ByteArray}{j v2:Value}{acc:List (Nat×List AB)}{l:List Rf.Tok}{ns:List ByteArray}(m:Rd h b g d l ns)(a:Args w h d X s j acc)(n:b<w.heap.size)(p:g<w.heap.size) (c: (h.alloc o).grownBy i j.ownBlock):Rd (i.setCell ⟨X,3,none⟩ v2) b g d l ns:=
 m.keptBy (JB c) (Dc.none a b n) (Dc.none a g p) (fun k e f=>by
  rcases f with rfl|f
  ·exact a.aW e
  ·exact(a.au k f).2.2 e)
theorem Q6{w wr c q:World}{b g:Nat}{o:Obj}{nb1 a:Option Nat}{X:Nat}{s:ByteArray}{r:Value}{acc:List (Nat×List AB)}{p:Nat}{ps:List AB}{l:List Rf.Tok}{ns:List ByteArray}{f n m:Nat} (A:w.heap.size<=wr.heap.size) (u:Args w wr nb1 X s r acc) (j:Args w c a X s r acc) (t:dn (New wr c a) c p ps) (h:Rd c b g a l ns) (z:b<w.heap.size) (y:g<w.heap.size) (d: (c.alloc o).grownBy q r.ownBlock) (x:Nb (c.alloc o) r.ownBlock (some f)) (v:aj q 0 100 1 BQ (.slice (some ⟨f,0,none⟩) n m) ((acc.map (·.1))++[p])):Args w (q.setCell ⟨X,3,none⟩ (.slice (some ⟨f,0,none⟩) n m)) a X s (.slice (some ⟨f,0,none⟩) n m) (acc++[(p,ps)])/\Rd (q.setCell ⟨X,3,none⟩ (.slice (some ⟨f,0,none⟩) n m)) b g a l ns:=by
 have B:=AD u.blk;refine⟨j.push (t.keptBy (Kept.refl (fun _=>False) _) (fun k _ i=>⟨fun e=>e,⟨by have:=i.1;omega,i.2.1,i.2.2⟩,fun e=>?_,fun e=>?_⟩)) (fun k e=>(h.lt.2.2.1 k e).1) d x v,h.pushed j z y d⟩
 ·have:=(u.au k e).2.1;have:=i.1;omega
 ·have:=i.1;omega
theorem L9{w w':World}{p:Nat}{k n:Int}{s:ByteArray}{v:Value}{row:Option Nat}(b:w.grownBy w' row)(h:TmB w p k n s v)(a:row≠some p):TmB w' p k n s v:=(b.block p (AD h) (fun e=>a e.symm)).trans h
theorem gV(f:Nat)(IH:XD f)(b g:Nat)(nb:Option Nat)(u:Rf.Tok)(l:List Rf.Tok)(ns:List ByteArray)(t:Rf.Tok)(w:World)(h:Rd w b g nb (u::l) ns)(hu: (u.k !=40)=false)(hl:l.length<=f):Calls prog 139 #[.pointer (some ⟨b,0,none⟩),.string t.s] w fun r w'=>ou w b g nb (EF (A7 (AM f) 4 []) t (u::l) ns) r w':=by
 have Ej:u.k=40:=by simpa using hu
 have H:=aO h;have HI:=aO IH;have H0:Hid (u.k≠0):=by unfold Hid;omega
 have e2:Hid (u.k≠63):=by unfold Hid;omega
 have Hw:=yP (rd:=A7 (AM f) 4 []) t (l:=l) (ns:=ns) Ej;have Hv:=aAH (rd:=A7 (AM f) 4 []) t (l:=l) (ns:=ns) Ej;obtain⟨v,a6,_⟩:=h.lt;clear h IH Ej;go_enter func139,ntmps139
 go_wp2_with (first
  |(go_at_call 68;refine(CO b g nb u l ns _ H.o).mono ?_;rintro e w1 ⟨rfl,b6⟩;obtain⟨vL,vN,I,hB,hI,hN⟩:=(H.o.below b6).next H0.o e2.o;obtain⟨q0,q1,q2,q3,q4,qf,qb⟩:=hB.facts))
 have e6:=b6.size;generalize hX:w1.heap.size+1=X;have HX:=aO hX;clear hX;go_loopg [7,8] 4 (fun m _ _ wr=>aC1 w b g nb X t.s f (A7 (AM f) 4 [] l ns) m wr)
 case atStart=>
  have c8:w.heap.size<=X:=by have:=HX.o;omega
  have b3:TmB (((w1.setCell ⟨b,1,none⟩ (.int .i64 ((I:Int)+1))).alloc (.cells #[.int .u8 u.k,.int .i64 u.at_,.string u.s,.int .i64 u.e] 149)).alloc (.cells #[.int .u8 99,.int .i64 0,.string t.s,.slice none 0 0] 102)) X 99 0 t.s (.slice none 0 0):=AZ _ _ _ (by rw[<-HX.o];simp);refine⟨(((Kept.of_below b6 (May b nb)).setCell (p:=⟨b,1,none⟩) (.inr (.inl rfl)) _).alloc _).alloc _,⟨_,_,_,_,_,_,b3⟩,c8,.inl ⟨3,[],l,ns,nb,.slice none 0 0,rfl,aD,rfl,(hN.alloc _).alloc _,.inl rfl,hl,?_,rfl⟩⟩;refine⟨b3,c8,fun e=>?_,by simp[Value.ownBlock],aj.nil _ _ _ _ _,fun k e=>by simp[Value.ownBlock] at e,fun q hq=>by simp at hq⟩;have:=(hN.lt.2.2.1 _ e).1;have:=HX.o;simp at*;omega
 case round=>
  obtain⟨A,Bh,Z,e3⟩:=hrel;rcases e3 with⟨k,acc,l1,Q,nb1,S,rfl,f1,e9,hR,U,Y,hA,o⟩|⟨e,q,rfl,hE,o⟩
  ·cases T:AM f l1 Q with
   |error x=>
    obtain⟨e,q⟩:=x;have HR:=aO T;clear T;obtain⟨c6,I',a',n',c',W⟩:=hR.err;obtain⟨y0,y1,y2,y3,y4,yf,yb⟩:=W.facts;clear W q0 q1 q2 q3 q4 qf
    go_wp2_with (first
     |(go_at_call 97;refine(HI.o b g nb1 l1 Q _ hR Y).mono ?_;rintro r w2 ⟨p,rfl,hp,_,j,y⟩;have a:=hA.over v j (.inl rfl);rw[HR.o] at y;obtain⟨a1,I2,a2,n2,c2,N,d5⟩:=RdE.ex y;have x3:w2.cell? ⟨X,3,none⟩=some S:=AA a.blk 3;have xf:=AE a.blk;have xl:=AD a.blk)
     |(at_builtin;refine AY Tryz.uj BQ DH ET _ rfl (.tmp 38) (.tmp 40) rfl 0 _ (acc.map (·.1)) rfl (a.row.alloc _) ⟨_,0,none⟩ 1 p rfl (BL _ _ rfl _ _) aJ (bK _) ?_;intro gA gu w3 c B jh;rw[aZ] at c;have n:=L9 B (AF a.blk _) a.apart;have L:S.ownBlock≠some b:=(fun e=>by have:=(a.au b e).1;omega);have G:=RdB.grown B (AF N _) L;obtain⟨z0,z1,z2,z3,z4,zf,zb⟩:=G.facts;have t3:w3.cell? ⟨X,3,none⟩=some S:=AA n 3;have tf:=AE n;have a0:b≠X:=aD;have c1: (e==0)=false:=aY.2 d5))
    go_ret;have K:A7 (AM f) 4 [] l ns= .error (e,q):=by rw[o.o,A7,HR.o]
    rw[Hw.o _ K];exact⟨X,rfl,Z,⟨_,_,_,_,_,_,AK n 3 _⟩,((A.trans j (May.of U)).trans (JB B) (fun k hk y=>absurd y (Dc.none a k hk))),⟨_,_,_,_,_,(cF _ _ _ _ a0).trans G,d5⟩⟩
   |ok x=>
    obtain⟨ps,l2,E⟩:=x;have HR:=aO T;have b5:=GY f l1 Q ps l2 E T;clear T;obtain⟨c6,I',a',n',c',W⟩:=hR.err;obtain⟨y0,y1,y2,y3,y4,yf,yb⟩:=W.facts;clear W q0 q1 q2 q3 q4 qf
    cases l2 with
    |nil=>
     go_wp2_with (go_at_call 97;refine(HI.o b g nb1 l1 Q _ hR Y).mono ?_;rintro r w2 ⟨p,rfl,hp,_,j,y⟩;rw[HR.o] at y;obtain⟨d,s,F,O⟩:=y;exact absurd rfl s.ended.ne)
    |cons C l3=>
     cases J: (C.k==63)
     ·cases c3: (C.k==44)
      ·have P:C.k≠44:=aY.1 c3
       cases b2: (C.k !=41)
       ·have a3:C.k=41:=by simpa using b2
        have a4:Hid (C.k≠0):=by unfold Hid;omega
        have K:Hid (A7 (AM f) 4 [] l ns= .ok (acc.map (·.2)++[ps],l3,E)):=by
         unfold Hid;rw[o.o,A7,HR.o];simp only[];rw[bC P,bD a3]
        clear P a3
        go_wp2_with (first
         |(go_at_call 97;refine(HI.o b g nb1 l1 Q _ hR Y).mono ?_;rintro r w2 ⟨p,rfl,hp,_,j,y⟩;rw[HR.o] at y;obtain⟨d,s,F,O⟩:=y;have a:=hA.over v j F;obtain⟨a1,I2,a2,n2,c2,N⟩:=s.err;have x3:w2.cell? ⟨X,3,none⟩=some S:=AA a.blk 3;have xf:=AE a.blk;have xl:=AD a.blk)
         |(at_builtin;refine AY Tryz.uj BQ DH ET _ rfl (.tmp 38) (.tmp 40) rfl 0 _ (acc.map (·.1)) rfl (a.row.alloc _) ⟨_,0,none⟩ 1 p rfl (BL _ _ rfl _ _) aJ (bK _) ?_;intro gA gu w3 c B jh;rw[aZ] at c;have n:=L9 B (AF a.blk _) a.apart;have L:S.ownBlock≠some b:=(fun e=>by have:=(a.au b e).1;omega);have G:=RdB.grown B (AF N _) L;obtain⟨z0,z1,z2,z3,z4,zf,zb⟩:=G.facts;have t3:w3.cell? ⟨X,3,none⟩=some S:=AA n 3;have tf:=AE n;have a0:b≠X:=aD;obtain⟨z,D⟩:=Q6 A.size hA a O s v a6 B jh c)
         |(go_at_call 100;refine(KV b g d C l3 E 44 _ D J).mono ?_;rintro r w5 ⟨rfl,i⟩;have M:=D.below i;obtain⟨b0,d2,I5,R,c0,b7⟩:=M.next a4.o (aY.1 J);obtain⟨v0,v1,v2,v3,v4,vf,vb⟩:=R.facts;have V:=(i.block X (AD z.blk)).trans z.blk;have s3:w5.cell? ⟨X,3,none⟩=some (.slice (some ⟨gA,0,none⟩) (acc.length+1) gu):=AA V 3;have sl:=AD V)
         |(go_at_call 71;refine(QY b g d C l3 E 41 _ M b2 a4.o (aY.1 J)).mono ?_;rintro r w6 ⟨rfl,e1,a8⟩))
        go_ret;rw[Hv.o _ _ _ K.o];have b1:=z.over v ((Kept.of_below i (May b d)).trans a8 (fun _ _ e=>Or.inl e)) (.inl rfl);have e0:=b1.done aE aJ;refine⟨X,rfl,Z,⟨_,_,_,_,_,_,b1.blk⟩,(((A.trans j (May.of U)).trans (JB B) (fun k hk y=>absurd y (Dc.none a k hk))).trans (Kept.of_below i (May b nb)) (fun _ _ e=>e)).trans a8 (fun _ _ e=>Or.inl e),d,e1,U.trans F A.size,?_⟩;simpa using e0
       ·have a3:C.k≠41:=by simpa using b2
        have K:Hid (A7 (AM f) 4 [] l ns= .error (BR C 2)):=by
         unfold Hid;rw[o.o,A7,HR.o];simp only[];rw[bC P,bC a3]
        clear P a3
        go_wp2_with (first
         |(go_at_call 97;refine(HI.o b g nb1 l1 Q _ hR Y).mono ?_;rintro r w2 ⟨p,rfl,hp,_,j,y⟩;rw[HR.o] at y;obtain⟨d,s,F,O⟩:=y;have a:=hA.over v j F;obtain⟨a1,I2,a2,n2,c2,N⟩:=s.err;have x3:w2.cell? ⟨X,3,none⟩=some S:=AA a.blk 3;have xf:=AE a.blk;have xl:=AD a.blk)
         |(at_builtin;refine AY Tryz.uj BQ DH ET _ rfl (.tmp 38) (.tmp 40) rfl 0 _ (acc.map (·.1)) rfl (a.row.alloc _) ⟨_,0,none⟩ 1 p rfl (BL _ _ rfl _ _) aJ (bK _) ?_;intro gA gu w3 c B jh;rw[aZ] at c;have n:=L9 B (AF a.blk _) a.apart;have L:S.ownBlock≠some b:=(fun e=>by have:=(a.au b e).1;omega);have G:=RdB.grown B (AF N _) L;obtain⟨z0,z1,z2,z3,z4,zf,zb⟩:=G.facts;have t3:w3.cell? ⟨X,3,none⟩=some S:=AA n 3;have tf:=AE n;have a0:b≠X:=aD;obtain⟨z,D⟩:=Q6 A.size hA a O s v a6 B jh c)
         |(go_at_call 100;refine(KV b g d C l3 E 44 _ D J).mono ?_;rintro r w5 ⟨rfl,i⟩;have M:=D.below i;obtain⟨b0,I5,a5,n5,c5,R⟩:=M.err;obtain⟨v0,v1,v2,v3,v4,vf,vb⟩:=R.facts)
         |(go_at_call 71;refine(OK b g d C l3 E 41 _ M b2).mono ?_;rintro r w6 ⟨rfl,d9,a8⟩))
        go_ret;rw[Hw.o _ K.o];have b1:=z.over v ((Kept.of_below i (May b d)).trans a8 (fun _ _ e=>Or.inl e)) (.inl rfl);exact⟨X,rfl,Z,⟨_,_,_,_,_,_,b1.blk⟩,(((A.trans j (May.of U)).trans (JB B) (fun k hk y=>absurd y (Dc.none a k hk))).trans (Kept.of_below i (May b nb)) (fun _ _ e=>e)).trans a8 (fun _ _ e=>Or.inl e),d9⟩
      ·have P:C.k=44:=bT c3;have a4:Hid (C.k≠0):=by unfold Hid;omega
       by_cases f0:k=0
       ·have K:Hid (A7 (AM f) 4 [] l ns= .error (3,C.at_)):=by
         unfold Hid;rw[o.o,A7,HR.o];simp only[];rw[bD P,bD aJ]
        have HE:=aO (F0 C 3 J);have h4: ((acc.length:Int)+1==4)=true:=by rw[beq_iff_eq];omega
        clear P
        go_wp2_with (first
         |(go_at_call 97;refine(HI.o b g nb1 l1 Q _ hR Y).mono ?_;rintro r w2 ⟨p,rfl,hp,_,j,y⟩;rw[HR.o] at y;obtain⟨d,s,F,O⟩:=y;have a:=hA.over v j F;obtain⟨a1,I2,a2,n2,c2,N⟩:=s.err;have x3:w2.cell? ⟨X,3,none⟩=some S:=AA a.blk 3;have xf:=AE a.blk;have xl:=AD a.blk)
         |(at_builtin;refine AY Tryz.uj BQ DH ET _ rfl (.tmp 38) (.tmp 40) rfl 0 _ (acc.map (·.1)) rfl (a.row.alloc _) ⟨_,0,none⟩ 1 p rfl (BL _ _ rfl _ _) aJ (bK _) ?_;intro gA gu w3 c B jh;rw[aZ] at c;have n:=L9 B (AF a.blk _) a.apart;have L:S.ownBlock≠some b:=(fun e=>by have:=(a.au b e).1;omega);have G:=RdB.grown B (AF N _) L;obtain⟨z0,z1,z2,z3,z4,zf,zb⟩:=G.facts;have t3:w3.cell? ⟨X,3,none⟩=some S:=AA n 3;have tf:=AE n;have a0:b≠X:=aD;obtain⟨z,D⟩:=Q6 A.size hA a O s v a6 B jh c)
         |(go_at_call 100;refine(KV b g d C l3 E 44 _ D J).mono ?_;rintro r w5 ⟨rfl,i⟩;have M:=D.below i;obtain⟨b0,d2,I5,R,c0,b7⟩:=M.next a4.o (aY.1 J);obtain⟨v0,v1,v2,v3,v4,vf,vb⟩:=R.facts;have V:=(i.block X (AD z.blk)).trans z.blk;have s3:w5.cell? ⟨X,3,none⟩=some (.slice (some ⟨gA,0,none⟩) (acc.length+1) gu):=AA V 3;have sl:=AD V)
         |(go_at_call 68;refine(CO b g d C l3 E _ M).mono ?_;rintro r w6 ⟨rfl,b4⟩)
         |(go_at_call 99;refine(OP b g d (C::l3) E C 3 _ (M.below b4) (by rw[HE.o];show(3:Int)≠0;decide)).mono ?_;rintro r w7 ⟨rfl,d7,d3⟩;rw[HE.o] at d7;obtain⟨e7,I7,a7,n7,c7,d1,e5⟩:=d7.ex;obtain⟨r0,r1,r2,r3,r4,rf,rb⟩:=d1.facts))
        go_roundg 0
        case measure=>omega
        case rel=>
         have d4:Kept (May b d) _ w7:=(((Kept.of_below i (May b d)).trans (Kept.of_below b4 (May b d)) (fun _ _ e=>e)).trans d3 (fun _ _ e=>Or.inl e))
         have e4:=z.over v d4 (.inl rfl);refine⟨(((((A.trans j (May.of U)).trans (JB B) (fun k hk y=>absurd y (Dc.none a k hk))).trans (Kept.of_below i (May b nb)) (fun _ _ e=>e)).trans (Kept.of_below b4 (May b nb)) (fun _ _ e=>e)).trans d3 (fun _ _ e=>Or.inl e)).setCell (p:=⟨b,1,none⟩) (.inr (.inl rfl)) _,⟨_,_,_,_,_,_,(cF _ _ _ _ (fun e=>a0 e.symm)).trans e4.blk⟩,Z,.inr ⟨3,C.at_,rfl,⟨_,_,_,_,_,AK d1 1 _,aF⟩,K⟩⟩
       ·have K:Hid (A7 (AM f) 4 [] l ns=A7 (AM f) (k-1+1) ((acc++[((0:Nat),ps)]).map (fun q=>q.2)) l3 E):=by
         unfold Hid;rw[o.o,A7,HR.o];simp only[];rw[bD P,bC aJ,show k-1+1=k by omega,bE];rfl
        have h4: ((acc.length:Int)+1==4)=false:=by rw[aY];omega
        clear P
        go_wp2_with (first
         |(go_at_call 97;refine(HI.o b g nb1 l1 Q _ hR Y).mono ?_;rintro r w2 ⟨p,rfl,hp,_,j,y⟩;rw[HR.o] at y;obtain⟨d,s,F,O⟩:=y;have a:=hA.over v j F;obtain⟨a1,I2,a2,n2,c2,N⟩:=s.err;have x3:w2.cell? ⟨X,3,none⟩=some S:=AA a.blk 3;have xf:=AE a.blk;have xl:=AD a.blk)
         |(at_builtin;refine AY Tryz.uj BQ DH ET _ rfl (.tmp 38) (.tmp 40) rfl 0 _ (acc.map (·.1)) rfl (a.row.alloc _) ⟨_,0,none⟩ 1 p rfl (BL _ _ rfl _ _) aJ (bK _) ?_;intro gA gu w3 c B jh;rw[aZ] at c;have n:=L9 B (AF a.blk _) a.apart;have L:S.ownBlock≠some b:=(fun e=>by have:=(a.au b e).1;omega);have G:=RdB.grown B (AF N _) L;obtain⟨z0,z1,z2,z3,z4,zf,zb⟩:=G.facts;have t3:w3.cell? ⟨X,3,none⟩=some S:=AA n 3;have tf:=AE n;have a0:b≠X:=aD;obtain⟨z,D⟩:=Q6 A.size hA a O s v a6 B jh c)
         |(go_at_call 100;refine(KV b g d C l3 E 44 _ D J).mono ?_;rintro r w5 ⟨rfl,i⟩;have M:=D.below i;obtain⟨b0,d2,I5,R,c0,b7⟩:=M.next a4.o (aY.1 J);obtain⟨v0,v1,v2,v3,v4,vf,vb⟩:=R.facts;have V:=(i.block X (AD z.blk)).trans z.blk;have s3:w5.cell? ⟨X,3,none⟩=some (.slice (some ⟨gA,0,none⟩) (acc.length+1) gu):=AA V 3;have sl:=AD V))
        go_roundg k
        case measure=>omega
        case rel=>
         have d6:Kept (May b d) _ (w5.setCell ⟨b,1,none⟩ (.int .i64 ((I5:Int)+1))):=(Kept.of_below i (May b d)).setCell (p:=⟨b,1,none⟩) (.inr (.inl rfl)) _;have a9:=z.over v d6 (.inl rfl);refine⟨(((A.trans j (May.of U)).trans (JB B) (fun k hk y=>absurd y (Dc.none a k hk))).trans (Kept.of_below i (May b nb)) (fun _ _ e=>e)).setCell (p:=⟨b,1,none⟩) (.inr (.inl rfl)) _,⟨_,_,_,_,_,_,a9.blk⟩,Z,.inl ⟨k-1,acc++[(p,ps)],l3,E,d,_,aD,aD,aJ,b7,U.trans F A.size,by simp at b5;omega,a9,?_⟩⟩;have h9:=K.o;simp only[List.map_append,List.map_cons,List.map_nil] at h9⊢;exact h9
     ·have K:Hid (A7 (AM f) 4 [] l ns= .error (C.e,C.at_)):=by
       have e8:C.k=63:=bT J;unfold Hid;rw[o.o,A7,HR.o];simp only[];rw[bC aD,bC aD,MW _ _ J]
      go_wp2_with (first
       |(go_at_call 97;refine(HI.o b g nb1 l1 Q _ hR Y).mono ?_;rintro r w2 ⟨p,rfl,hp,_,j,y⟩;rw[HR.o] at y;obtain⟨d,s,F,O⟩:=y;have a:=hA.over v j F;obtain⟨a1,I2,a2,n2,c2,N⟩:=s.err;have x3:w2.cell? ⟨X,3,none⟩=some S:=AA a.blk 3;have xf:=AE a.blk;have xl:=AD a.blk)
       |(at_builtin;refine AY Tryz.uj BQ DH ET _ rfl (.tmp 38) (.tmp 40) rfl 0 _ (acc.map (·.1)) rfl (a.row.alloc _) ⟨_,0,none⟩ 1 p rfl (BL _ _ rfl _ _) aJ (bK _) ?_;intro gA gu w3 c B jh;rw[aZ] at c;have n:=L9 B (AF a.blk _) a.apart;have L:S.ownBlock≠some b:=(fun e=>by have:=(a.au b e).1;omega);have G:=RdB.grown B (AF N _) L;obtain⟨z0,z1,z2,z3,z4,zf,zb⟩:=G.facts;have t3:w3.cell? ⟨X,3,none⟩=some S:=AA n 3;have tf:=AE n;have a0:b≠X:=aD;obtain⟨z,D⟩:=Q6 A.size hA a O s v a6 B jh c)
       |(go_at_call 100;refine(j4 b g d C l3 E 44 _ D J).mono ?_;rintro r w5 ⟨rfl,d0,c9⟩;obtain⟨b0,I5,a5,n5,c5,R,c4⟩:=d0.ex;obtain⟨v0,v1,v2,v3,v4,vf,vb⟩:=R.facts;have c1: (C.e==0)=false:=aY.2 c4))
      go_ret;rw[Hw.o _ K.o];have a9:=z.over v (c9.mono (M':=May b d) (fun _ _ e=>Or.inl e)) (.inl rfl);exact⟨X,rfl,Z,⟨_,_,_,_,_,_,a9.blk⟩,((A.trans j (May.of U)).trans (JB B) (fun k hk y=>absurd y (Dc.none a k hk))).trans c9 (fun _ _ e=>Or.inl e),d0⟩
  ·obtain⟨c6,I',a',n',c',W,d8⟩:=hE.ex;obtain⟨y0,y1,y2,y3,y4,yf,yb⟩:=W.facts;have c1: (e==0)=false:=aY.2 d8;clear W q0 q1 q2 q3 q4 qf;go_wp2_with fail;go_ret;rw[Hw.o _ o.o];exact⟨X,rfl,Z,Bh,A,hE⟩
theorem ou.lift{w j w':World}{b g:Nat}{c:Option Nat}{a:Except (Int×Nat) (List AB×List Rf.Tok×List ByteArray)}{r:Ending}(h:ou j b g c a r w')(i:Kept (May b c) w j):ou w b g c a r w':=by
 obtain⟨p,e,u,s,m,l⟩:=h;have q:=i.size;refine⟨p,e,aD,s,i.trans m (fun _ _ x=>x),?_⟩
 cases a with
 |error x=>exact l
 |ok x=>
  obtain⟨d,n,t,o⟩:=l;exact⟨d,n,Nb.trans (.inl rfl) t q,o.keptBy (Kept.refl (fun _=>False) _) (fun k _ f=>⟨fun x=>x,by have:=f.1;omega,f.2.1,f.2.2⟩)⟩
theorem vU(f:Nat)(IH:XD f):XD (f+1):=by
 intro b g d Y ns w h B
 obtain⟨t,l,rfl⟩:∃t l,Y=t::l:=by
  cases Y with
  |nil=>exact absurd rfl h.ended.ne
  |cons t l=>exact⟨t,l,rfl⟩
 have hl:l.length<=f:=by simp at B;omega
 have Fp:=h.ended.fine;have H:=aO h;have HI:=aO IH;have Hf:=aO Fp;obtain⟨a0,a2,_⟩:=h.lt;clear h IH B Fp
 cases F: (t.k==118)
 ·cases V: (t.k==110)
  ·cases A: (t.k==97)
   ·have i:Hid (AM (f+1) (t::l) ns= .error (BR t 2)):=by
     unfold Hid;rw[AM,bC (aY.1 F),bC (aY.1 V),bC (aY.1 A)]
    have HE:=aO (WG H.o.ended (e:=2) aF);go_enter func97,ntmps97
    go_wp2_with (first
     |(go_at_call 68;refine(CO b g d t l ns _ H.o).mono ?_;rintro e D ⟨rfl,a⟩)
     |(go_at_call 99;refine(OP b g d (t::l) ns t 2 _ ((H.o.below a).alloc _) HE.o).mono ?_;rintro e E ⟨rfl,hE,hK⟩))
    go_ret;rw[i.o];have J:=a.size;have x:=hK.size;simp only[World.size_alloc] at x;exact⟨_,rfl,aD,⟨_,_,_,_,_,_,AZ _ _ _ rfl⟩,(((Kept.of_below a (May b d)).alloc _).trans hK (fun _ _ e=>Or.inl e)).alloc _,hE.below ((bZ _ _).alloc (aX _) _)⟩
   ·have y:t.k=97:=bT A;have o:Hid (t.k≠0):=by unfold Hid;omega
    have c:Hid (t.k≠63):=by unfold Hid;omega
    have i:Hid (AM (f+1) (t::l) ns=EF (A7 (AM f) 4 []) t l ns):=by
     unfold Hid;rw[AM,bC (aY.1 F),bC (aY.1 V),bD y]
    have q:=H.o.ended.tail o.o c.o;clear y
    cases l with
    |nil=>exact absurd rfl q.ne
    |cons u s=>
     have a1:=aO q;clear q;have X:s.length<=f:=by simp at hl;omega
     cases M: (u.k !=40)
     ·go_enter func97,ntmps97
      go_wp2_with (first
       |(go_at_call 68;refine(CO b g d t (u::s) ns _ H.o).mono ?_;rintro e D ⟨rfl,a⟩;obtain⟨K,R,I,m,Q,n⟩:=(H.o.below a).next o.o c.o;obtain⟨L,P,G,N,T,U,O⟩:=m.facts)
       |(go_at_call 139;refine(gV f HI.o b g d u s ns t _ (n.alloc _) M X).mono ?_;rintro r E ⟨p,rfl,C⟩))
      go_ret;rw[i.o];exact ou.lift ⟨p,rfl,C⟩ (((Kept.of_below a (May b d)).setCell (p:=⟨b,1,none⟩) (.inr (.inl rfl)) _).alloc _)
     ·have hn:Hid (EF (A7 (AM f) 4 []) t (u::s) ns= .ok ([⟨3,t.s,0,0⟩],u::s,ns)):=by
       unfold Hid;simp only[EF];rw[bC (by simpa using M)]
      go_enter func97,ntmps97
      go_wp2_with (first
       |(go_at_call 68;refine(CO b g d t (u::s) ns _ H.o).mono ?_;rintro e D ⟨rfl,a⟩;obtain⟨K,R,I,m,Q,n⟩:=(H.o.below a).next o.o c.o;obtain⟨L,P,G,N,T,U,O⟩:=m.facts)
       |(go_at_call 139;refine(gQ b g d u s ns t.s _ (n.alloc _) M).mono ?_;rintro r E ⟨p,rfl,C⟩))
      go_ret;rw[i.o,hn.o];exact ou.lift ⟨p,rfl,C⟩ (((Kept.of_below a (May b d)).setCell (p:=⟨b,1,none⟩) (.inr (.inl rfl)) _).alloc _)
  ·have W:t.k=110:=bT V;have o:Hid (t.k≠0):=by unfold Hid;omega
   have c:Hid (t.k≠63):=by unfold Hid;omega
   have i:Hid (AM (f+1) (t::l) ns= .ok ([⟨2,⟨#[]⟩,EV t.s,0⟩],l,ns)):=by
    unfold Hid;rw[AM,bC (aY.1 F),bD W]
   obtain⟨S,v,Z,_⟩:=Hf.o.1 W;have Hv:=aO Z;clear W Z;go_enter func97,ntmps97
   go_wp2_with (first
    |(go_at_call 68;refine(CO b g d t l ns _ H.o).mono ?_;rintro e D ⟨rfl,a⟩;obtain⟨K,R,I,m,Q,n⟩:=(H.o.below a).next o.o c.o;obtain⟨L,P,G,N,T,U,O⟩:=m.facts)
    |(go_at_call 138;refine(p9 t.s v _ S Hv.o).mono ?_;rintro r E ⟨rfl,k⟩))
   go_ret;rw[i.o];have J:=a.size;have x:=k.size;simp at x;have z:=(n.alloc (.cells #[.int .u8 t.k,.int .i64 t.at_,.string t.s,.int .i64 t.e] 149)).below k;refine⟨_,rfl,aD,⟨_,_,_,_,_,_,AZ _ _ _ rfl⟩,((((Kept.of_below a (May b d)).setCell (p:=⟨b,1,none⟩) (.inr (.inl rfl)) _).alloc _).trans (Kept.of_below k (May b d)) (fun _ _ e=>e)).alloc _,d,z.alloc _,.inl rfl,1,⟨aD,aE,fun e=>?_⟩,.inr (.inl ⟨_,AZ _ _ _ rfl,rfl⟩)⟩;have:=(z.lt.2.2.1 _ e).1;omega
 ·have j:t.k=118:=bT F;have o:Hid (t.k≠0):=by unfold Hid;omega
  have c:Hid (t.k≠63):=by unfold Hid;omega
  have i:Hid (AM (f+1) (t::l) ns=G6 t l ns):=by
   unfold Hid;rw[AM,bD j]
  clear j;go_enter func97,ntmps97
  go_wp2_with (first
   |(go_at_call 68;refine(CO b g d t l ns _ H.o).mono ?_;rintro e D ⟨rfl,a⟩;obtain⟨K,R,I,m,Q,n⟩:=(H.o.below a).next o.o c.o;obtain⟨L,P,G,N,T,U,O⟩:=m.facts)
   |(go_at_call 137;refine(kB b g d t l ns _ (n.alloc _) (aY.2 c.o)).mono ?_;rintro r E ⟨p,rfl,C⟩))
  go_ret;rw[i.o];exact ou.lift ⟨p,rfl,C⟩ (((Kept.of_below a (May b d)).setCell (p:=⟨b,1,none⟩) (.inr (.inl rfl)) _).alloc _)
theorem GI:∀f,XD f
 |0=>fun b g a l ns w h c=>absurd (List.eq_nil_of_length_eq_zero aD) h.ended.ne
 |f+1=>vU f (GI f)
theorem DN(p:Nat)(k n:Int)(s:ByteArray)(a:Option Addr)(b c:Nat)(w:World)(h:TmB w p k n s (.slice a b c)):Calls prog 98 #[.pointer (some ⟨p,0,none⟩)] w fun r w'=>r= .returned (.bool (B3 s b))/\w'=w:=by
 have e:w.cell? ⟨p,2,none⟩=some (.string s):=AA h 2;have f:w.cell? ⟨p,3,none⟩=some (.slice a b c):=AA h 3;clear h;have d:=aO (VI s b);rcases(show b=0\/b=1\/b=2\/b=3\/4<=b by omega) with rfl|rfl|rfl|rfl|g
 all_goals
  go_enter func98,ntmps98;go_wp2
 all_goals
  go_ret;refine⟨C5 ?_,rfl⟩;rw[d.o];clear d e f
 all_goals
  unfold SQ
  first|(simp[*];done)|(simp;done)|(simp[*];omega)
def Af(F:Nat->Prop)(w:World)(a:Value)(ps:List AB):Prop:=(a= .pointer none/\ps=[⟨4,⟨#[]⟩,0,0⟩])\/∃p,a= .pointer (some ⟨p,0,none⟩)/\dn F w p ps/\(ps.head?.map (·.kind))=some 3
def OX(w:World)(b g:Nat)(d:Option Nat)(c:Except (Int×Nat) (List AB×List Rf.Tok×List ByteArray))(r:Ending)(w':World):Prop:=∃x:Option Addr,r= .returned (.agg #[.pointer x,.int .i64 0])/\Kept (May b d) w w'/\(match c with
   | .ok (ps,l',ns')=>∃a,Rd w' b g a l' ns'/\Nb w d a/\Af (New w w' a) w' (.pointer x) ps
   | .error (e,q)=>RdE w' b e q)
theorem dn.kind{F:Nat->Prop}{w:World}{p:Nat}{ps:List AB}(h:dn F w p ps):∃k n s a l c,TmB w p k n s (.slice a l c)/\((((k==118)=true\/((k==118)=false/\(k==110)=true))/\(ps.head?.map (·.kind))≠some 3/\(∃y,ps=[y]))\/((k==118)=false/\(k==110)=false/\(ps.head?.map (·.kind))=some 3/\(∃rest,ps=⟨3,s,0,l⟩::rest))):=by
 obtain⟨d,h⟩:=h
 cases d with
 |zero=>exact h.elim
 |succ d=>
  rcases h.2 with⟨i,b,e⟩|⟨n,b,e⟩|⟨s,b,e⟩|⟨s,v,qs,b,g,_,j,_,_,e⟩
  ·exact⟨_,_,_,_,_,_,b,.inl ⟨.inl rfl,by rw[e];simp,_,e⟩⟩
  ·exact⟨_,_,_,_,_,_,b,.inl ⟨.inr ⟨rfl,rfl⟩,by rw[e];simp,_,e⟩⟩
  ·exact⟨_,_,_,_,_,_,b,.inr ⟨rfl,rfl,by rw[e];simp,_,e⟩⟩
  ·rcases g.shape with⟨rfl,f⟩|⟨m,o,rfl,_⟩
   ·have:=congrArg List.length f;rw[aZ,dA] at this;omega
   ·rw[aZ] at b;exact⟨_,_,_,_,_,_,b,.inr ⟨rfl,rfl,by rw[e];simp,_,e⟩⟩
theorem TM{f:Nat}{t:Rf.Tok}{l:List Rf.Tok}{ns:List ByteArray}{x:List AB×List Rf.Tok×List ByteArray}(h:AM f (t::l) ns= .ok x): (t.k==63)=false:=by
 rw[aY];intro e
 cases f with
 |zero=>cases h
 |succ f=>
  rw[AM,bC aD,bC aD,bC aD] at h
  cases h
theorem Dh{w:World}{b g:Nat}{a:Option Nat}{l:List Rf.Tok}{ns:List ByteArray}(h:Rd w b g a l ns):∀k,w.heap.size<=k->¬May b a k:=by
 intro k c e;rcases e with e|e
 ·have:=h.lt.1;omega
 ·have:=(h.lt.2.2.1 k e.symm).1;omega
theorem Rd.setOther{w:World}{b g:Nat}{a:Option Nat}{l:List Rf.Tok}{ns:List ByteArray}(h:Rd w b g a l ns)(N i:Nat)(v:Value)(d:b≠N)(f:g≠N)(c:a≠some N):Rd (w.setCell ⟨N,i,none⟩ v) b g a l ns:=
 h.keptBy ((Kept.refl (fun k=>k=N) w).setCell (p:=⟨N,i,none⟩) (.inr rfl) v) d f (fun k e x=>c (by rw[e,x]))
theorem RdE.setOther{w:World}{b:Nat}{E P:Int}(h:RdE w b E P)(N i:Nat)(v:Value)(a:b≠N):RdE (w.setCell ⟨N,i,none⟩ v) b E P:=
 h.keptBy ((Kept.refl (fun k=>k=N) w).setCell (p:=⟨N,i,none⟩) (.inr rfl) v) a
theorem aAI(f b g:Nat)(c:Option Nat)(t:Rf.Tok)(l:List Rf.Tok)(ns:List ByteArray)(w:World)(h:Rd w b g c (t::l) ns)(B: (t.k==33)=true):Calls prog 101 #[.pointer (some ⟨b,0,none⟩)] w fun r w'=>OX w b g c (BS f (t::l) ns) r w':=by
 have j:t.k=33:=bT B;have A:Hid (BS f (t::l) ns= .ok ([⟨4,⟨#[]⟩,0,0⟩],l,ns)):=by unfold Hid;simp only[BS];rw[bD j]
 have D:Hid (t.k≠0):=by unfold Hid;omega
 have q:Hid (t.k≠63):=by unfold Hid;omega
 have H:=aO h;obtain⟨F,G,n,_⟩:=h.lt;clear h j;go_enter func101,ntmps101;go_wp2_with (go_at_call 68;refine(CO b g c t l ns _ (H.o.alloc _)).mono ?_;rintro e s ⟨rfl,a⟩;have k:=(a.block w.heap.size aE).trans (AJ _ _);have x:w.heap.size+1<=s.heap.size:=(by have:=a.size;simpa using this);have o:=(H.o.alloc _).below a;have⟨y,E⟩:=cI k;simp at y E;have J:=AE k;have m:¬b=w.heap.size:=aD;have U:¬w.heap.size=b:=aD;have u:w.heap.size<s.heap.size:=aD;obtain⟨L,R,I,z,Q,C⟩:=o.next D.o q.o;obtain⟨M,P,K,N,S,T,O⟩:=z.facts);refine bodyPost_ret (v:= .agg #[.pointer none,.int .i64 0]) (by simp[results,results101,go_sem, *]) rfl ?_;rw[A.o];have d:g≠w.heap.size:=aD;have i:c≠some w.heap.size:=fun e=>by have:=(n _ e).1;omega
 refine⟨none,rfl,?_,c,((C.setOther _ _ _ m d i).setOther _ _ _ m d i).alloc _,.inl rfl,.inl ⟨rfl,rfl⟩⟩;exact(((((((Kept.refl (May b c) w).alloc _).trans (Kept.of_below a (May b c)) (fun _ _ e=>e)).setCell (p:=⟨b,1,none⟩) (.inr (.inl rfl)) _).setCell (p:=⟨w.heap.size,0,none⟩) (.inl (aX _)) _).setCell (p:=⟨w.heap.size,1,none⟩) (.inl (aX _)) _).alloc _)
theorem aBt(f b g:Nat)(d:Option Nat)(t:Rf.Tok)(l:List Rf.Tok)(ns:List ByteArray)(w:World)(h:Rd w b g d (t::l) ns)(M: (t::l).length<=f)(K: (t.k==33)=false)(z:Int)(C:Nat)(x:AM f (t::l) ns= .error (z,C)):Calls prog 101 #[.pointer (some ⟨b,0,none⟩)] w fun r w'=>OX w b g d (BS f (t::l) ns) r w':=by
 have J:Hid (BS f (t::l) ns= .error (z,C)):=by unfold Hid;simp only[BS];rw[bC (aY.1 K),x]
 have N:=aO x;clear x;have H:=aO h;obtain⟨R,T,E,_⟩:=h.lt;clear h;go_enter func101,ntmps101
 go_wp2_with (first
  |(go_at_call 68;refine(CO b g d t l ns _ (H.o.alloc _)).mono ?_;rintro e j ⟨rfl,a⟩;have o:=(a.block w.heap.size aE).trans (AJ _ _);have F:w.heap.size+1<=j.heap.size:=(by have:=a.size;simpa using this);have A:=(H.o.alloc _).below a;have⟨G,P⟩:=cI o;simp at G P;have W:=AE o;have n:¬b=w.heap.size:=aD;have Lm:¬w.heap.size=b:=aD;have D:w.heap.size<j.heap.size:=aD)
  |(go_at_call 97;refine(GI f b g d (t::l) ns _ (A.alloc _) M).mono ?_;rintro r m ⟨p,rfl,hp,I,c,y⟩;rw[N.o] at y;have q:=Dh H.o;have k:=(c.block w.heap.size aJ (q _ (aX _))).trans (AF o _);have i:Box m j.heap.size t:=(c.block j.heap.size aE (q _ aD)).trans (AJ _ _);have U:j.heap.size+1<=m.heap.size:=(by have:=c.size;simpa using this);obtain⟨O,Y,ss,V,ll,cc,L⟩:=I;have X:m.cell? ⟨p,0,none⟩=some (.int .u8 O):=AA L 0;have x0:m.cell? ⟨j.heap.size,0,none⟩=some (.int .u8 t.k):=AA i 0;have x1:m.cell? ⟨j.heap.size,1,none⟩=some (.int .i64 t.at_):=AA i 1;have x2:m.cell? ⟨j.heap.size,2,none⟩=some (.string t.s):=AA i 2;have x3:m.cell? ⟨j.heap.size,3,none⟩=some (.int .i64 t.e):=AA i 3;have u0:m.cell? ⟨w.heap.size,0,none⟩=some (.pointer none):=AA k 0;have u1:m.cell? ⟨w.heap.size,1,none⟩=some (.int .i64 0):=AA k 1;have uf:=AE k)
  |(go_at_call 99;refine(oU b t 5 z C _ y).mono ?_;rintro r Z ⟨rfl,B,s⟩;have u:=(s.block w.heap.size aD).trans k;have⟨Q,S⟩:=cI u;simp at Q S;have vf:=AE u))
 all_goals
  refine bodyPost_ret (v:= .agg #[.pointer (some ⟨p,0,none⟩),.int .i64 0]) (by simp[results,results101,go_sem, *]) rfl ?_;rw[J.o]
  first
  |exact⟨_,rfl,(((((((Kept.refl (May b d) w).alloc _).trans (Kept.of_below a (May b d)) (fun _ _ e=>e)).alloc _).trans c (fun _ _ e=>e)).trans (Kept.of_below s (May b d)) (fun _ _ e=>e)).setCell (p:=⟨w.heap.size,0,none⟩) (.inl (aX _)) _).setCell (p:=⟨w.heap.size,1,none⟩) (.inl (aX _)) _,(B.setOther _ _ _ n).setOther _ _ _ n⟩
  |exact⟨_,rfl,((((((Kept.refl (May b d) w).alloc _).trans (Kept.of_below a (May b d)) (fun _ _ e=>e)).alloc _).trans c (fun _ _ e=>e)).setCell (p:=⟨w.heap.size,0,none⟩) (.inl (aX _)) _).setCell (p:=⟨w.heap.size,1,none⟩) (.inl (aX _)) _,(RdE.setOther y _ _ _ n).setOther _ _ _ n⟩
theorem aCO(f b g:Nat)(q:Option Nat)(t:Rf.Tok)(l:List Rf.Tok)(ns:List ByteArray)(w:World)(h:Rd w b g q (t::l) ns)(V: (t::l).length<=f)(T: (t.k==33)=false)(ps:List AB)(O:List Rf.Tok)(B:List ByteArray)(D:AM f (t::l) ns= .ok (ps,O,B))(K: (ps.head?.map (·.kind))=some 3):Calls prog 101 #[.pointer (some ⟨b,0,none⟩)] w fun r w'=>OX w b g q (BS f (t::l) ns) r w':=by
 have S:Hid (BS f (t::l) ns= .ok (ps,O,B)):=by unfold Hid;simp only[BS];rw[bC (aY.1 T),D];simp only[];rw[bD K]
 have W:=aO D;have L:=TM D;clear D;have P:=aO K;clear K;have H:=aO h;obtain⟨Z,a0,F,_⟩:=h.lt;clear h;go_enter func101,ntmps101
 go_wp2_with (first
  |(go_at_call 68;refine(CO b g q t l ns _ (H.o.alloc _)).mono ?_;rintro e d ⟨rfl,i⟩;have o:=(i.block w.heap.size aE).trans (AJ _ _);have Q:w.heap.size+1<=d.heap.size:=(by have:=i.size;simpa using this);have G:=(H.o.alloc _).below i;have⟨R,Y⟩:=cI o;simp at R Y;have gf:=AE o;have A:¬b=w.heap.size:=aD;have Lm:¬w.heap.size=b:=aD;have N:w.heap.size<d.heap.size:=aD)
  |(go_at_call 97;refine(GI f b g q (t::l) ns _ (G.alloc _) V).mono ?_;rintro r a ⟨p,rfl,hp,Bh,j,M⟩;rw[W.o] at M;have y:=Dh H.o;have n:=(j.block w.heap.size aJ (y _ (aX _))).trans (AF o _);have c:Box a d.heap.size t:=(j.block d.heap.size aE (y _ aD)).trans (AJ _ _);have a1:d.heap.size+1<=a.heap.size:=(by have:=j.size;simpa using this);obtain⟨z,I,C,u⟩:=M;obtain⟨X,nn,ss,aa,ll,cc,U,J⟩:=u.kind;obtain⟨Dk,Ef,_,_⟩:=J.resolve_left (fun x=>x.2.1 P.o);have k0:a.cell? ⟨p,0,none⟩=some (.int .u8 X):=AA U 0;have x0:a.cell? ⟨d.heap.size,0,none⟩=some (.int .u8 t.k):=AA c 0;have x1:a.cell? ⟨d.heap.size,1,none⟩=some (.int .i64 t.at_):=AA c 1;have x2:a.cell? ⟨d.heap.size,2,none⟩=some (.string t.s):=AA c 2;have x3:a.cell? ⟨d.heap.size,3,none⟩=some (.int .i64 t.e):=AA c 3;have u0:a.cell? ⟨w.heap.size,0,none⟩=some (.pointer none):=AA n 0;have u1:a.cell? ⟨w.heap.size,1,none⟩=some (.int .i64 0):=AA n 1;have uf:=AE n))
 refine bodyPost_ret (v:= .agg #[.pointer (some ⟨p,0,none⟩),.int .i64 0]) (by simp[results,results101,go_sem, *]) rfl ?_;rw[S.o];have s:g≠w.heap.size:=aD;have m:z≠some w.heap.size:=C.ne (fun e=>by have:=(F _ e).1;omega) aJ;refine⟨_,rfl,((((((Kept.refl (May b q) w).alloc _).trans (Kept.of_below i (May b q)) (fun _ _ e=>e)).alloc _).trans j (fun _ _ e=>e)).setCell (p:=⟨w.heap.size,0,none⟩) (.inl (aX _)) _).setCell (p:=⟨w.heap.size,1,none⟩) (.inl (aX _)) _,z,(I.setOther _ _ _ A s m).setOther _ _ _ A s m,Nb.trans (.inl rfl) C aJ,.inr ⟨p,rfl,?_,P.o⟩⟩;refine u.keptBy (((Kept.refl (fun k=>k=w.heap.size) a).setCell (p:=⟨w.heap.size,0,none⟩) (.inr rfl) _).setCell (p:=⟨w.heap.size,1,none⟩) (.inr rfl) _) (fun k _ E=>⟨fun e=>?_,?_,?_,E.2.2⟩)
 ·have:=E.1;simp at this;omega
 ·have:=E.1;simp at this;omega
 ·have:=E.2.1;simpa using this
theorem aAy(f b g:Nat)(o:Option Nat)(t:Rf.Tok)(l:List Rf.Tok)(ns:List ByteArray)(w:World)(h:Rd w b g o (t::l) ns)(T: (t::l).length<=f)(R: (t.k==33)=false)(ps:List AB)(M:List Rf.Tok)(A:List ByteArray)(C:AM f (t::l) ns= .ok (ps,M,A))(I: (ps.head?.map (·.kind))≠some 3):Calls prog 101 #[.pointer (some ⟨b,0,none⟩)] w fun r w'=>OX w b g o (BS f (t::l) ns) r w':=by
 have Q:Hid (BS f (t::l) ns= .error (5,t.at_)):=by unfold Hid;simp only[BS];rw[bC (aY.1 R),C];simp only[];rw[bC I]
 have U:=aO C;have q:=TM C;clear C;have L:=aO (F0 t 5 q);have H3:=aO I;clear I;have H:=aO h;obtain⟨Z,a0,N,_⟩:=h.lt;clear h;go_enter func101,ntmps101
 go_wp2_with (first
  |(go_at_call 68;refine(CO b g o t l ns _ (H.o.alloc _)).mono ?_;rintro e c ⟨rfl,j⟩;have m:=(j.block w.heap.size aE).trans (AJ _ _);have O:w.heap.size+1<=c.heap.size:=(by have:=j.size;simpa using this);have E:=(H.o.alloc _).below j;have⟨P,X⟩:=cI m;simp at P X;have gf:=AE m;have z:¬b=w.heap.size:=aD;have Lm:¬w.heap.size=b:=aD;have K:w.heap.size<c.heap.size:=aD)
  |(go_at_call 97;refine(GI f b g o (t::l) ns _ (E.alloc _) T).mono ?_;rintro r i ⟨p,rfl,hp,Bh,k,J⟩;rw[U.o] at J;have s:=Dh H.o;have d:=(k.block w.heap.size aJ (s _ (aX _))).trans (AF m _);have a:Box i c.heap.size t:=(k.block c.heap.size aE (s _ aD)).trans (AJ _ _);have a2:c.heap.size+1<=i.heap.size:=(by have:=k.size;simpa using this);obtain⟨G,F,a1,D⟩:=J;obtain⟨V,nn,ss,aa,ll,cc,S,n⟩:=D.kind;obtain⟨n,_,_⟩:=n.resolve_right (fun x=>H3.o x.2.2.1);have k0:i.cell? ⟨p,0,none⟩=some (.int .u8 V):=AA S 0;have x0:i.cell? ⟨c.heap.size,0,none⟩=some (.int .u8 t.k):=AA a 0;have x1:i.cell? ⟨c.heap.size,1,none⟩=some (.int .i64 t.at_):=AA a 1;have x2:i.cell? ⟨c.heap.size,2,none⟩=some (.string t.s):=AA a 2;have x3:i.cell? ⟨c.heap.size,3,none⟩=some (.int .i64 t.e):=AA a 3;have u0:i.cell? ⟨w.heap.size,0,none⟩=some (.pointer none):=AA d 0;have u1:i.cell? ⟨w.heap.size,1,none⟩=some (.int .i64 0):=AA d 1;have uf:=AE d;rcases n with W|⟨W,Ef⟩)
  |(go_at_call 99;refine(OP b g G M A t 5 _ F (by rw[L.o];show(5:Int)≠0;decide)).mono ?_;rintro r w3 ⟨rfl,u,B⟩;rw[L.o] at u;have y:=(B.block w.heap.size aD Lm).trans d;have⟨Y,v1⟩:=cI y;simp at Y v1;have vf:=AE y))
 all_goals
  refine bodyPost_ret (v:= .agg #[.pointer (some ⟨p,0,none⟩),.int .i64 0]) (by simp[results,results101,go_sem, *]) rfl ?_;rw[Q.o];exact⟨_,rfl,(((((((Kept.refl (May b o) w).alloc _).trans (Kept.of_below j (May b o)) (fun _ _ e=>e)).alloc _).trans k (fun _ _ e=>e)).trans B (fun _ _ e=>Or.inl e)).setCell (p:=⟨w.heap.size,0,none⟩) (.inl (aX _)) _).setCell (p:=⟨w.heap.size,1,none⟩) (.inl (aX _)) _,(u.setOther _ _ _ z).setOther _ _ _ z⟩
theorem L6(f b g:Nat)(a:Option Nat)(l:List Rf.Tok)(ns:List ByteArray)(w:World)(h:Rd w b g a l ns)(d:l.length<=f):Calls prog 101 #[.pointer (some ⟨b,0,none⟩)] w fun r w'=>OX w b g a (BS f l ns) r w':=by
 cases l with
 |nil=>exact absurd rfl h.ended.ne
 |cons t l=>
  cases c: (t.k==33)
  ·cases e:AM f (t::l) ns with
   |error x=>exact aBt f b g a t l ns w h d c x.1 x.2 e
   |ok x=>
    by_cases i: (x.1.head?.map (·.kind))=some 3
    ·exact aCO f b g a t l ns w h d c x.1 x.2.1 x.2.2 e i
    ·exact aAy f b g a t l ns w h d c x.1 x.2.1 x.2.2 e i
  ·exact aAI f b g a t l ns w h c
end Go.Proofs.Q
