import Derived.Test.YthenokfmcjmfkaaGreatDoorYaf
set_option maxRecDepth 100000
set_option maxHeartbeats 2000000
namespace Go.Proofs.Q
open Rf _root_.Go.Proofs.Tryz
open Go.RowKit
theorem Pr.kind{w:World}{r:Nat}{a:ByteArray}{b:Option Nat}{t:Rf.Tok}{l:List Rf.Tok}{ns:List ByteArray}(h:Pr w r a b (t::l) ns):w.cell? ⟨r,1,none⟩=some (.int .i64 (BV t.k))/\(∃s,w.cell? ⟨r,0,none⟩=some (.string s))/\r<w.heap.size:=by
 obtain⟨K,f,d,C,q,i,c,_⟩:=h.toks;obtain⟨e,g,u,o,v,k,m,n,p,j⟩:=i.facts;rw[<-c.1];exact⟨g,⟨_,e⟩,j⟩
theorem pV(r:Nat)(a:ByteArray)(c:Option Nat)(t u:Rf.Tok)(l:List Rf.Tok)(ns:List ByteArray)(w:World)(h:Pr w r a c (t::u::l) ns)(p:t.k=97)(y: (BV u.k !=5)=true):Calls prog 147 #[.pointer (some ⟨r,0,none⟩)] w fun x w'=>tu w r a c (.ok ([⟨3,t.s,0,0⟩],u::l,ns)) x w':=by
 have k:Hid (t.k≠0):=by unfold Hid;omega
 have g:Hid (t.k≠63):=by unfold Hid;omega
 have H:=aO h;clear h p;go_enter func147,ntmps147
 go_wp2_with (first
  |(go_at_call 148;refine(V6 _ r a c t (u::l) ns H.o k.o g.o).mono ?_;rintro e j ⟨rfl,b⟩)
  |(go_at_call 50;refine(EN _ r a c t (u::l) ns ((H.o.below b).alloc _) k.o g.o).mono ?_;rintro e q ⟨rfl,d,f⟩;obtain⟨B,⟨_,A⟩,z⟩:=d.kind))
 refine bodyPost_ret (v:= .tuple #[.slice (some ⟨j.heap.size,0,none⟩) 1 1,.bool true]) (by simp[results,results147,go_sem]) rfl ?_;obtain⟨o,i,m⟩:=H.o.lt;have s:=b.size;have n:q.heap[j.heap.size]?=some (.cells #[.int .i64 3,.string t.s,.int .i64 0,.int .i64 0] 129 (0,0)):=(f.block j.heap.size aE (fun e=>by omega)).trans (AJ _ _);exact⟨((Kept.of_below b (May r c)).alloc _).trans f (fun _ _ e=>Or.inl e),_,_,_,c,rfl,d,.inl rfl,N8 n rfl rfl aD,fun e=>by have:=i _ e;omega⟩
def aBL(w:World)(r:Nat)(a:ByteArray)(d:Option Nat)(s:ByteArray)(f:Nat)(b:Except (Int×Nat) (List (List AB)×List Rf.Tok×List ByteArray))(m:Nat)(v:Value)(wr:World):Prop:=
 Kept (May r d) w wr/\∃(k:Nat) (acc:List (List AB)) (u:Rf.Tok) (l1:List Rf.Tok) (ns1:List ByteArray) (nb1:Option Nat) (g n c:Nat),m=k+1/\k+1+acc.length=4/\v= .slice (some ⟨g,0,none⟩) n c/\Pr wr r a nb1 (u::l1) ns1/\(u.k=40\/u.k=44)/\Nb w d nb1/\l1.length<=f/\
  jy wr w.heap.size (.slice (some ⟨g,0,none⟩) n c) (⟨3,s,0,acc.length⟩::acc.flatten)/\nb1≠some g/\Hid (n=acc.flatten.length+1)/\1<=n/\n<=1+402*acc.length/\Hid (b=A7 (AM f) (k+1) acc l1 ns1)
theorem jy.lt{w:World}{base g n c:Nat}{ps:List AB}(h:jy w base (.slice (some ⟨g,0,none⟩) n c) ps):base<=g/\g<w.heap.size:=aj.lt h g rfl
theorem jy.keptBy{M:Nat->Prop}{w w':World}{base g n c:Nat}{ps:List AB}(h:jy w base (.slice (some ⟨g,0,none⟩) n c) ps)(b:Kept M w w')(a:¬M g):jy w' base (.slice (some ⟨g,0,none⟩) n c) ps:=
 aj.keptBy h b (fun k e=>by cases e;exact a)
theorem jy.over{wr b d:World}{base r g n c:Nat}{nb1:Option Nat}{ps:List AB}(h:jy wr base (.slice (some ⟨g,0,none⟩) n c) ps)(i:r<base)(a:nb1≠some g)(e:Kept (fun k=>k=r) wr b)(f:Kept (May r nb1) b d):jy d base (.slice (some ⟨g,0,none⟩) n c) ps:=by
 have:=h.lt;exact(h.keptBy e aD).keptBy f (fun x=>by rcases x with x|x;omega;exact a x.symm)
theorem qG{w w':World}{row:Option Nat}(h:w.grownBy w' row):Kept (fun k=>row=some k) w w':=(Kept.refl _ w).grown h (fun _ e=>Or.inr e)
theorem R1{i o:World}{base r g n c b:Nat}{d:ByteArray}{a:Option Nat}{l:List Rf.Tok}{ns:List ByteArray}{ps:List AB}(p:Pr i r d a l ns)(q:jy i base (.slice (some ⟨g,0,none⟩) n c) ps)(u:r<base)(h:a≠some g) (j:i.grownBy o (Value.slice (some ⟨g,0,none⟩) n c).ownBlock) (m:Nb i (Value.slice (some ⟨g,0,none⟩) n c).ownBlock (some b)):¬b=r/\¬r=b/\base<=b/\a≠some b/\Pr o r d a l ns:=by
 have v:=q.lt;have s:=p.lt
 have f:base<=b/\(b=g\/i.heap.size<=b):=by
  rcases m with e|⟨k,e,t⟩
  ·have:=bF e;simp at this;exact⟨aD,.inl this⟩
  ·have:=bF e;exact⟨aD,.inr aD⟩
 refine⟨aD,aD,f.1,fun e=>?_,p.keptBy (qG j) (fun e=>?_) (fun k e x=>?_)⟩
 ·rcases f.2 with x|x
  ·exact h (by rw[e,x])
  ·have:=s.2.1 _ e;omega
 ·have:=bF e;simp at this;omega
 ·exact h (by rw[e];exact x.symm)
theorem SL{b:World}{base a c d:Nat}{s:ByteArray}{acc:List (List AB)}{ps:List AB}(h:aj b base 129 4 AH (.slice (some ⟨a,0,none⟩) c d) ((⟨3,s,0,acc.length⟩::acc.flatten)++ps)):jy (b.setCell ⟨a,3,none⟩ (.int .i64 ((acc.length:Int)+1))) base (.slice (some ⟨a,0,none⟩) c d) (⟨3,s,0,((acc++[ps]).length:Nat)⟩::(acc++[ps]).flatten):=by
 have e: (acc++[ps]).flatten=acc.flatten++ps:=aE;rw[e];refine mU (x:=⟨3,s,0,acc.length⟩) h 3 _ (by simp[AH]) ?_;simp[AH]
theorem Pr.setOther{w:World}{r g i:Nat}{a:ByteArray}{b:Option Nat}{l:List Rf.Tok}{ns:List ByteArray}(h:Pr w r a b l ns)(v:Value)(d:¬r=g)(c:b≠some g):Pr (w.setCell ⟨g,i,none⟩ v) r a b l ns:=
 h.keptBy ((Kept.refl (fun k=>k=g) w).setCell (p:=⟨g,i,none⟩) (Or.inr rfl) v) d (fun k e x=>c (by rw[e,x]))
theorem SR{rd}{t u:Rf.Tok}{l:List Rf.Tok}{ns:List ByteArray}{e:Int×Nat}(a:u.k=40)(h:rd l ns= .error e):EF rd t (u::l) ns= .error e:=by simp only[EF];rw[bD a,h]
theorem xD{rd}{t u:Rf.Tok}{l:List Rf.Tok}{ns:List ByteArray}{b:List (List AB)}{c:List Rf.Tok}{a:List ByteArray}(d:u.k=40)(h:rd l ns= .ok (b,c,a)):EF rd t (u::l) ns= .ok (⟨3,t.s,0,b.length⟩::b.flatten,c,a):=by simp only[EF];rw[bD d,h]
theorem qY(f:Nat)(IH:UU f)(r:Nat)(a:ByteArray)(nb:Option Nat)(t u:Rf.Tok)(l:List Rf.Tok)(ns:List ByteArray)(w:World)(h:Pr w r a nb (t::u::l) ns)(hk:t.k=97)(hu:u.k=40)(hl:l.length<=f):Calls prog 147 #[.pointer (some ⟨r,0,none⟩)] w fun x w'=>tu w r a nb (EF (A7 (AM f) 4 []) t (u::l) ns) x w':=by
 have H0:Hid (t.k≠0):=by unfold Hid;omega
 have b3:Hid (t.k≠63):=by unfold Hid;omega
 have HU:=aO hu;have d2: (BV u.k !=5)=false:=by rw[hu];decide
 have H:=aO h;have HI:=aO IH;obtain⟨B,b6,d6⟩:=h.lt;clear h hk hu IH;go_enter func147,ntmps147
 go_wp2_with (first
  |(go_at_call 148;refine(V6 _ r a nb t (u::l) ns H.o H0.o b3.o).mono ?_;rintro e w1 ⟨rfl,a7⟩)
  |(go_at_call 50;refine(EN _ r a nb t (u::l) ns ((H.o.below a7).alloc _) H0.o b3.o).mono ?_;rintro e w2 ⟨rfl,b0,a9⟩;obtain⟨q1,⟨_,q0⟩,ql⟩:=b0.kind))
 have d4:=a7.size;have hN:w2.heap[w1.heap.size]?=some (.cells #[.int .i64 3,.string t.s,.int .i64 0,.int .i64 0] 129 (0,0)):=(a9.block w1.heap.size aE (fun e=>by omega)).trans (AJ _ _);have HN:=aO hN;clear hN q0 q1;go_loopg [4] 4 (fun m v wr=>aBL w r a nb t.s f (A7 (AM f) 4 [] l ns) m v wr)
 case atStart=>exact⟨((Kept.of_below a7 (May r nb)).alloc _).trans a9 (fun _ _ e=>Or.inl e),3,[],u,l,ns,nb,_,_,_,rfl,rfl,rfl,b0,.inl HU.o,.inl rfl,hl,N8 HN.o rfl rfl aD,fun e=>by have:=b6 _ e;omega,rfl,aD,aD,rfl⟩
 case round=>
  obtain⟨O,k,acc,u1,R,o,nb1,g,n,c,rfl,d5,rfl,hP,c0,L,V,hT,D,hn,d7,d1,z⟩:=hrel;have M:Hid (u1.k≠0):=by unfold Hid;omega
  have Ja:Hid (u1.k≠63):=by unfold Hid;omega
  have HT:=aO hT;have HP:=aO hP;clear hT hP c0;have d0:=O.size
  cases G:AM f R o with
  |error x=>
   obtain⟨e,q⟩:=x;have P:=aO G;clear G
   go_wp2_with (first
    |(go_at_call 50;refine(EN _ r a nb1 u1 R o HP.o M.o Ja.o).mono ?_;rintro e w3 ⟨rfl,A,i⟩)
    |(go_at_call 117;refine(HI.o r a nb1 R o _ A V).mono ?_;rintro x w4 ⟨d,I⟩;rw[P.o] at I;obtain⟨rfl,b4⟩:=I))
   refine bodyPost_ret (v:= .tuple #[.slice none 0 0,.bool false]) (by simp[results,results147,go_sem]) rfl ?_;rw[SR HU.o (show A7 (AM f) 4 [] l ns= .error (e,q) by rw[z.o,A7,P.o])];exact⟨(O.trans i (fun _ _ e=>Or.inl e)).trans d (May.of L),rfl,b4⟩
  |ok x=>
   obtain⟨ps,l2,C⟩:=x;have P:=aO G;clear G;have a5:=LQ f R o ps l2 C (HP.o.ended.tail M.o Ja.o) HP.o.n16 P.o;have K:=sZ P.o;have a2:=HP.o.len;obtain⟨_,_,a1,Ip⟩:=a5;have HS:=aO a1;have c9:ps.length<=402:=by simp at a2;omega
   clear a1 a2
   cases l2 with
   |nil=>exact absurd rfl Ip.ne
   |cons u2 l3=>
    have b5:l3.length<=f:=by have:=HS.o;simp at this;omega
    have c8:=aO Ip;clear Ip;have c3: (acc.length:Int)<=3:=aD;have a4:∀w3 j,Nb w3 nb1 j->wr.heap.size<=w3.heap.size->Nb w nb j:=fun w3 j h1 h2=>Nb.trans L h1 aD
    cases c6: (BV u2.k==6)
    ·have b2:Hid (u2.k≠41):=wJ c6
     cases c7: (BV u2.k !=7)
     ·have Q:Hid (u2.k=44):=jI c7;by_cases c1:k=0
      ·subst c1;have Jm: (acc.length:Int)+1=4:=aD
       have HW:Hid (A7 (AM f) 4 [] l ns= .error (3,u2.at_)):=by
        unfold Hid;rw[z.o,A7,P.o];simp only[];rw[bD Q.o,bD aD]
       have HX:Hid (BR u2 3=(3,u2.at_)):=F0 u2 3 (by rw[Q.o];decide);go_wp2_with (first
       |(go_at_call 50;refine(EN _ r a nb1 u1 R o HP.o M.o Ja.o).mono ?_;rintro e w3 ⟨rfl,A,i⟩)
       |(go_at_call 117;refine(HI.o r a nb1 R o _ A V).mono ?_;rintro x w4 ⟨d,I⟩;rw[P.o] at I;obtain⟨g4,n4,c4,j,rfl,F,X,E,Og⟩:=I;have U:=i.size;have a6:=d.size;have a8:=jy.lt HT.o;have S:=jy.over HT.o B D i d)
       |(at_builtin;refine LL Tryz.lg AH BC DX _ rfl (.tmp 29) (.tmp 30) rfl w.heap.size _ (⟨3,t.s,0,acc.length⟩::acc.flatten) rfl S g4 n4 c4 ps K rfl E ?_ ?_ ?_;have:=hn.o;simp only[bM];omega;omega;intro J n5 c5 w5 a0 Oh s b Ei;obtain⟨Lj,Gu,Gx,W,y⟩:=R1 F S B (X.ne D aD) b Ei;obtain⟨k1,⟨_,k0⟩,kl⟩:=y.kind;have a3:=aj.cells BC s 0 _ rfl 3 _ rfl;have af:=ID s;have Ol:=(aj.lt s J rfl).2;have T:=aO (SL s);clear s)
       |(go_at_call 83;refine(F9 _ r a j u2 l3 C 3 (y.setOther _ Gu W) aF).mono ?_;rintro e w7 ⟨rfl,Z,N⟩;rw[HX.o] at Z))
       refine bodyPost_ret (v:= .tuple #[.slice none 0 0,.bool false]) (by simp[results,results147,go_sem]) rfl ?_;rw[SR HU.o HW.o];exact⟨(((((O.trans i (fun _ _ e=>Or.inl e)).trans d (May.of L)).grown b (fun k e=>Or.inl (by have:=bF e;simp at this;omega))).setCell (p:=⟨J,3,none⟩) (Or.inl Gx) _)).trans N (fun _ _ e=>Or.inl e),rfl,Z⟩
      ·have Jm: (acc.length:Int)+1<4:=aD
       have HW:Hid (A7 (AM f) 4 [] l ns=A7 (AM f) k (acc++[ps]) l3 C):=by
        unfold Hid;rw[z.o,A7,P.o];simp only[];rw[bD Q.o,bC aD]
       go_wp2_with (first
       |(go_at_call 50;refine(EN _ r a nb1 u1 R o HP.o M.o Ja.o).mono ?_;rintro e w3 ⟨rfl,A,i⟩)
       |(go_at_call 117;refine(HI.o r a nb1 R o _ A V).mono ?_;rintro x w4 ⟨d,I⟩;rw[P.o] at I;obtain⟨g4,n4,c4,j,rfl,F,X,E,Og⟩:=I;have U:=i.size;have a6:=d.size;have a8:=jy.lt HT.o;have S:=jy.over HT.o B D i d)
       |(at_builtin;refine LL Tryz.lg AH BC DX _ rfl (.tmp 29) (.tmp 30) rfl w.heap.size _ (⟨3,t.s,0,acc.length⟩::acc.flatten) rfl S g4 n4 c4 ps K rfl E ?_ ?_ ?_;have:=hn.o;simp only[bM];omega;omega;intro J n5 c5 w5 a0 Oh s b Ei;obtain⟨Lj,Gu,Gx,W,y⟩:=R1 F S B (X.ne D aD) b Ei;obtain⟨k1,⟨_,k0⟩,kl⟩:=y.kind;have a3:=aj.cells BC s 0 _ rfl 3 _ rfl;have af:=ID s;have Ol:=(aj.lt s J rfl).2;have T:=aO (SL s);clear s))
       go_roundg k
       case measure=>omega
       case rel=>
        have d3:=hn.o;have b1:=a0.o;simp only[bM] at b1;refine⟨(((((O.trans i (fun _ _ e=>Or.inl e)).trans d (May.of L)).grown b (fun k e=>Or.inl (by have:=bF e;simp at this;omega))).setCell (p:=⟨J,3,none⟩) (Or.inl Gx) _)),k-1,acc++[ps],u2,l3,C,j,J,n5,c5,aD,aJ,rfl,y.setOther _ Gu W,.inr Q.o,a4 _ _ X U,b5,T.o,W,?_,aD,?_,?_⟩
        ·show n5=(acc++[ps]).flatten.length+1;rw[List.flatten_append,bL];simp only[List.flatten_cons,List.flatten_nil,List.append_nil];omega
        ·rw[bL];simp only[bM,dA];omega
        ·show _=A7 (AM f) (k-1+1) (acc++[ps]) l3 C;rw[show k-1+1=k by omega];exact HW.o
     ·have Q:Hid (u2.k≠44):=eJ c7
      have HW:Hid (A7 (AM f) 4 [] l ns= .error (BR u2 2)):=by
       unfold Hid;rw[z.o,A7,P.o];simp only[];rw[bC Q.o,bC b2.o]
      go_wp2_with (first
       |(go_at_call 50;refine(EN _ r a nb1 u1 R o HP.o M.o Ja.o).mono ?_;rintro e w3 ⟨rfl,A,i⟩)
       |(go_at_call 117;refine(HI.o r a nb1 R o _ A V).mono ?_;rintro x w4 ⟨d,I⟩;rw[P.o] at I;obtain⟨g4,n4,c4,j,rfl,F,X,E,Og⟩:=I;have U:=i.size;have a6:=d.size;have a8:=jy.lt HT.o;have S:=jy.over HT.o B D i d)
       |(at_builtin;refine LL Tryz.lg AH BC DX _ rfl (.tmp 29) (.tmp 30) rfl w.heap.size _ (⟨3,t.s,0,acc.length⟩::acc.flatten) rfl S g4 n4 c4 ps K rfl E ?_ ?_ ?_;have:=hn.o;simp only[bM];omega;omega;intro J n5 c5 w5 a0 Oh s b Ei;obtain⟨Lj,Gu,Gx,W,y⟩:=R1 F S B (X.ne D aD) b Ei;obtain⟨k1,⟨_,k0⟩,kl⟩:=y.kind;have a3:=aj.cells BC s 0 _ rfl 3 _ rfl;have af:=ID s;have Ol:=(aj.lt s J rfl).2;have T:=aO (SL s);clear s)
       |(go_at_call 83;refine(F9 _ r a j u2 l3 C 2 (y.setOther _ Gu W) aF).mono ?_;rintro e w7 ⟨rfl,Z,N⟩))
      refine bodyPost_ret (v:= .tuple #[.slice none 0 0,.bool false]) (by simp[results,results147,go_sem]) rfl ?_;rw[SR HU.o HW.o];exact⟨(((((O.trans i (fun _ _ e=>Or.inl e)).trans d (May.of L)).grown b (fun k e=>Or.inl (by have:=bF e;simp at this;omega))).setCell (p:=⟨J,3,none⟩) (Or.inl Gx) _)).trans N (fun _ _ e=>Or.inl e),rfl,Z⟩
    ·have Y:Hid (u2.k=41):=aAh c6;have b7:Hid (u2.k≠0):=by unfold Hid;rw[Y.o];decide
     have Qd:Hid (u2.k≠63):=by unfold Hid;rw[Y.o];decide
     have HW:Hid (A7 (AM f) 4 [] l ns= .ok (acc++[ps],l3,C)):=by
      unfold Hid;rw[z.o,A7,P.o];simp only[];rw[bC (by rw[Y.o];decide),bD Y.o]
     go_wp2_with (first
       |(go_at_call 50;refine(EN _ r a nb1 u1 R o HP.o M.o Ja.o).mono ?_;rintro e w3 ⟨rfl,A,i⟩)
       |(go_at_call 117;refine(HI.o r a nb1 R o _ A V).mono ?_;rintro x w4 ⟨d,I⟩;rw[P.o] at I;obtain⟨g4,n4,c4,j,rfl,F,X,E,Og⟩:=I;have U:=i.size;have a6:=d.size;have a8:=jy.lt HT.o;have S:=jy.over HT.o B D i d)
       |(at_builtin;refine LL Tryz.lg AH BC DX _ rfl (.tmp 29) (.tmp 30) rfl w.heap.size _ (⟨3,t.s,0,acc.length⟩::acc.flatten) rfl S g4 n4 c4 ps K rfl E ?_ ?_ ?_;have:=hn.o;simp only[bM];omega;omega;intro J n5 c5 w5 a0 Oh s b Ei;obtain⟨Lj,Gu,Gx,W,y⟩:=R1 F S B (X.ne D aD) b Ei;obtain⟨k1,⟨_,k0⟩,kl⟩:=y.kind;have a3:=aj.cells BC s 0 _ rfl 3 _ rfl;have af:=ID s;have Ol:=(aj.lt s J rfl).2;have T:=aO (SL s);clear s)
       |(go_at_call 50;refine(EN _ r a j u2 l3 C (y.setOther _ Gu W) b7.o Qd.o).mono ?_;rintro e w7 ⟨rfl,c2,N⟩))
     refine bodyPost_ret (v:= .tuple #[.slice (some ⟨J,0,none⟩) n5 c5,.bool true]) (by simp[results,results147,go_sem]) rfl ?_;rw[xD HU.o HW.o];exact⟨(((((O.trans i (fun _ _ e=>Or.inl e)).trans d (May.of L)).grown b (fun k e=>Or.inl (by have:=bF e;simp at this;omega))).setCell (p:=⟨J,3,none⟩) (Or.inl Gx) _)).trans N (fun _ _ e=>Or.inl e),J,n5,c5,j,rfl,c2,a4 _ _ X U,jy.keptBy T.o N Lj,W⟩
end Go.Proofs.Q
namespace Rf
theorem SP{k:Int}(h: (k==118)=false): (BV k==3)=false:=by
 rw[aY] at*;unfold BV;repeat' split
 all_goals omega
theorem Q8{k:Int}(h: (k==110)=false): (BV k==4)=false:=by
 rw[aY] at*;unfold BV;repeat' split
 all_goals omega
theorem p4{k:Int}(h: (k==97)=false): (BV k==2)=false:=by
 rw[aY] at*;unfold BV;repeat' split
 all_goals omega
theorem pG{k:Int}(h:k≠40): (BV k !=5)=true:=by
 rw[bne_iff_ne];unfold BV;repeat' split
 all_goals omega
end Rf
namespace Go.Proofs.Q
open Rf _root_.Go.Proofs.Tryz
open Go.RowKit
theorem tu.tuple{w w':World}{r:Nat}{d:ByteArray}{f:Option Nat}{e:Except (Int×Nat) (List AB×List Rf.Tok×List ByteArray)}{x:Ending}(h:tu w r d f e x w'):∃a n c b,x= .returned (.tuple #[.slice a n c,.bool b]):=by
 obtain⟨_,h⟩:=h
 cases e with
 |error x=>exact⟨_,_,_,_,h.1⟩
 |ok x=>obtain⟨g,n,c,j,i,_⟩:=h;exact⟨_,_,_,_,i⟩
theorem qM(f:Nat)(IH:UU f):UU (f+1):=by
 intro r d p l0 ns w h L
 obtain⟨t,l,rfl⟩:∃t l,l0=t::l:=by
  cases l0 with
  |nil=>exact absurd rfl h.ended.ne
  |cons t l=>exact⟨t,l,rfl⟩
 have hl:l.length<=f:=by simp at L;omega
 have H:=aO h;have HI:=aO IH;obtain⟨a6,a2,a5⟩:=h.lt;obtain⟨V,⟨_,q0⟩,ql⟩:=h.kind;clear h IH L
 cases A: (t.k==118)
 ·cases D: (t.k==110)
  ·cases y: (t.k==97)
   ·have o:Hid (AM (f+1) (t::l) ns= .error (BR t 2)):=by
     unfold Hid;rw[AM,bC (aY.1 A),bC (aY.1 D),bC (aY.1 y)]
    have k3:=SP A;have k4:=Q8 D;have k2:=p4 y;go_enter func117,ntmps117;go_wp2_with (go_at_call 83;refine(F9 _ r d p t l ns 2 H.o aF).mono ?_;rintro e w7 ⟨rfl,Z,a1⟩);refine bodyPost_ret (v:= .tuple #[.slice none 0 0,.bool false]) (by simp[results,results117,go_sem]) rfl ?_;rw[o.o];exact⟨a1.mono (fun _ _ e=>Or.inl e),rfl,Z⟩
   ·have m:t.k=97:=bT y
    have o:Hid (AM (f+1) (t::l) ns=EF (A7 (AM f) 4 []) t l ns):=by
     unfold Hid;rw[AM,bC (aY.1 A),bC (aY.1 D),bD m]
    have I:=H.o.ended.tail aD aD;have z:BV t.k=2:=by rw[m];rfl
    rw[z] at V;have J:=aO m;clear m z y D A
    cases l with
    |nil=>exact absurd rfl I.ne
    |cons u O=>
     clear I;have X:O.length<=f:=by simp at hl;omega
     by_cases R:u.k=40
     ·go_enter func117,ntmps117;go_wp2_with (go_at_call 147;refine(qY f HI.o r d p t u O ns _ H.o J.o R X).mono ?_;intro x N M;obtain⟨a,n,c,b,rfl⟩:=M.tuple);refine bodyPost_ret (v:= .tuple #[.slice a n c,.bool b]) (by simp[results,results117,go_sem]) rfl ?_;rw[o.o];exact M
     ·have hn:Hid (EF (A7 (AM f) 4 []) t (u::O) ns= .ok ([⟨3,t.s,0,0⟩],u::O,ns)):=by
       unfold Hid;simp only[EF];rw[bC R]
      have T:=pG R;go_enter func117,ntmps117;go_wp2_with (go_at_call 147;refine(pV r d p t u O ns _ H.o J.o T).mono ?_;intro x N M;obtain⟨a,n,c,b,rfl⟩:=M.tuple);refine bodyPost_ret (v:= .tuple #[.slice a n c,.bool b]) (by simp[results,results117,go_sem]) rfl ?_;rw[o.o,hn.o];exact M
  ·have P:t.k=110:=bT D;have Y:Hid (t.k≠0):=by unfold Hid;omega
   have C:Hid (t.k≠63):=by unfold Hid;omega
   have o:Hid (AM (f+1) (t::l) ns= .ok ([⟨2,⟨#[]⟩,EV t.s,0⟩],l,ns)):=by
    unfold Hid;rw[AM,bC (aY.1 A),bD P]
   have z:BV t.k=4:=by rw[P];rfl
   rw[z] at V;have F:=aO P;clear P z D A;go_enter func117,ntmps117
   go_wp2_with (first
    |(go_at_call 146;refine(s9 _ r d p t l ns H.o F.o).mono ?_;rintro x w1 ⟨rfl,B⟩)
    |(go_at_call 50;refine(EN _ r d p t l ns (H.o.below B) Y.o C.o).mono ?_;rintro e N ⟨rfl,k,j⟩))
   refine bodyPost_ret (v:= .tuple #[.slice (some ⟨N.heap.size,0,none⟩) 1 1,.bool true]) (by simp[results,results117,go_sem]) rfl ?_;rw[o.o];have a0:=B.size;have U:=j.size;exact⟨((Kept.of_below B (May r p)).trans j (fun _ _ e=>Or.inl e)).alloc _,_,_,_,p,rfl,k.alloc _,.inl rfl,N8 (AJ _ _) rfl rfl aD,fun e=>by have:=a2 _ e;omega⟩
 ·have g:t.k=118:=bT A;have Y:Hid (t.k≠0):=by unfold Hid;omega
  have C:Hid (t.k≠63):=by unfold Hid;omega
  have o:Hid (AM (f+1) (t::l) ns=G6 t l ns):=by
   unfold Hid;rw[AM,bD g]
  have z:BV t.k=3:=by rw[g];rfl
  rw[z] at V;have Kz:=aO g;clear g z A
  cases Q:GR t ns with
  |error x=>
   obtain⟨e,q⟩:=x;have E:=aO Q;clear Q;have S:Hid (G6 t l ns= .error (e,q)):=by unfold Hid G6;rw[E.o]
   go_enter func117,ntmps117;go_wp2_with (go_at_call 119;refine(O2 _ r d p t l ns H.o Kz.o).mono ?_;rintro x w1 ⟨s,G⟩;rw[E.o] at G;obtain⟨rfl,W⟩:=G);refine bodyPost_ret (v:= .tuple #[.slice none 0 0,.bool false]) (by simp[results,results117,go_sem]) rfl ?_;rw[o.o,S.o];exact⟨s,rfl,W⟩
  |ok x=>
   obtain⟨i,K⟩:=x;have E:=aO Q;clear Q;have S:Hid (G6 t l ns= .ok ([⟨1,⟨#[]⟩,i,0⟩],l,K)):=by unfold Hid G6;rw[E.o]
   go_enter func117,ntmps117
   go_wp2_with (first
    |(go_at_call 119;refine(O2 _ r d p t l ns H.o Kz.o).mono ?_;rintro x w1 ⟨s,G⟩;rw[E.o] at G;obtain⟨rfl,a4,nb1,a3,Cj⟩:=G)
    |(go_at_call 50;refine(EN _ r d nb1 t l K a3 Y.o C.o).mono ?_;rintro e N ⟨rfl,k,j⟩))
   refine bodyPost_ret (v:= .tuple #[.slice (some ⟨N.heap.size,0,none⟩) 1 1,.bool true]) (by simp[results,results117,go_sem]) rfl ?_;rw[o.o,S.o];have a0:=s.size;have U:=j.size;exact⟨(s.trans j (fun _ _ e=>Or.inl e)).alloc _,_,_,_,nb1,rfl,k.alloc _,Cj,N8 (AJ _ _) rfl rfl aD,fun e=>by have:=k.lt.2.1 _ e;omega⟩
theorem NA:∀f,UU f
 |0=>fun r a c l ns w h b=>absurd (List.eq_nil_of_length_eq_zero aD) h.ended.ne
 |f+1=>qM f (NA f)
end Go.Proofs.Q
namespace Go
open Go.RowKit
structure Seen{α:Type}(w:World)(e:TypeId)(C:α->List Value)(v:Value)(xs:List α):Prop where
 ex: (v= .slice none 0 0/\xs=[])\/∃(g off cap:Nat) (cur:Array Value),v= .slice (some ⟨g,off,none⟩) xs.length cap/\w.heap[g]?=some (.cells cur e (0,0))/\xs.length<=cap/\cap<=maxLen/\∀j u,(xs.flatMap C)[j]?=some u->cur[off+j]?=some u
variable {α : Type} {w w' : World} {e : TypeId} {C : α -> List Value} {v : Value} {xs : List α}
theorem aj.seen{base size:Nat}(h:aj w base e size C v xs):Seen w e C v xs:=by
 obtain⟨n,a⟩:=h.own;rcases a with⟨a,f⟩|⟨g,d,b,k,a,f,i,l,o,m⟩
 ·exact⟨.inl ⟨a,List.eq_nil_of_length_eq_zero f⟩⟩
 ·refine⟨.inr ⟨g,0,d,b,k,f,i,l,fun j u c=>?_⟩⟩;have p:j<(xs.flatMap C).length:=(bS.1 c).1;rw[<-m,List.getElem?_take,bD aD] at c;simpa using c
theorem Seen.nil:Seen w e C (.slice none 0 0) ([]:List α):=⟨.inl ⟨rfl,rfl⟩⟩
theorem Seen.shape(h:Seen w e C v xs): (v= .slice none 0 0/\xs=[])\/∃g off a,v= .slice (some ⟨g,off,none⟩) xs.length a/\g<w.heap.size/\xs.length<=a/\a<=maxLen:=by
 rcases h.ex with h|⟨g,off,a,b,i,f,d,c,_⟩
 ·exact .inl h
 ·exact .inr ⟨g,off,a,i,(Array.getElem?_eq_some_iff.1 f).1,d,c⟩
theorem Seen.slice(h:Seen w e C v xs):∃a c,v= .slice a xs.length c:=by
 rcases h.ex with⟨rfl,rfl⟩|⟨g,off,f,b,d,_⟩
 ·exact⟨none,0,rfl⟩
 ·exact⟨_,_,d⟩
theorem Seen.len{a:Option Addr}{n c:Nat}(h:Seen w e C (.slice a n c) xs):n=xs.length:=by
 obtain⟨d,f,b⟩:=h.slice;injection b
theorem Seen.cap{a:Option Addr}{n c:Nat}(h:Seen w e C (.slice a n c) xs):xs.length<=c/\c<=maxLen:=by
 rcases h.shape with⟨b,rfl⟩|⟨g,off,i,b,_,f,d⟩
 ·injection b with _ _ b;subst b;simp
 ·injection b with _ _ b;subst b;exact⟨f,d⟩
theorem Seen.pos{a:Option Addr}{n c:Nat}(h:Seen w e C (.slice a n c) xs)(f:1<=xs.length):∃g off,a=some ⟨g,off,none⟩:=by
 rcases h.shape with⟨_,rfl⟩|⟨g,off,d,b,_⟩
 ·simp at f
 ·injection b with b;exact⟨g,off,b⟩
theorem Seen.lt{g off n c:Nat}(h:Seen w e C (.slice (some ⟨g,off,none⟩) n c) xs):g<w.heap.size:=by
 rcases h.shape with⟨a,_⟩|⟨i,b,d,a,f,_⟩
 ·cases a
 ·injection a with a;injection a with a;injection a with a;rw[a];exact f
theorem Seen.Ew{b:Addr}{n c:Nat}(h:Seen w e C (.slice (some b) n c) xs):∀j u,(xs.flatMap C)[j]?=some u->w.cell? (b.add j)=some u:=by
 rcases h.ex with⟨a,_⟩|⟨g,off,i,d,a,k,_,_,l⟩
 ·cases a
 ·obtain rfl:b=⟨g,off,none⟩:=by injection a with a;injection a
  intro j u f;rw[Addr.add_lit];simp only[World.cell?,k];exact l j u f
theorem aCs{size:Nat}(d:∀x,(C x).length=size){x:α}{j:Nat}{u:Value}(c: (C x)[j]?=some u):∀(b:List α) (i:Nat),b[i]?=some x->(b.flatMap C)[i*size+j]?=some u:=by
 intro b
 induction b with
 |nil=>intro i a;simp at a
 |cons y f e=>
  intro i a;rw[List.flatMap_cons]
  cases i with
  |zero=>
   simp at a;subst a;rw[Nat.zero_mul,Nat.zero_add,List.getElem?_append_left (by exact(bS.1 c).1)];exact c
  |succ i=>
   simp at a;rw[List.getElem?_append_right (by rw[d];rw[Nat.add_mul];omega),d];have:=e i a
   rwa [show(i+1)*size+j-size=i*size+j by rw[Nat.add_mul];omega]
theorem Seen.cells{size:Nat}(c:∀x,(C x).length=size){g off n a:Nat}(h:Seen w e C (.slice (some ⟨g,off,none⟩) n a) xs)(i:Nat)(x:α)(hx:xs[i]?=some x)(j:Nat)(u:Value)(b: (C x)[j]?=some u):w.cell? ⟨g,off+(i*size+j),none⟩=some u:=by
 have:=h.Ew _ u (aCs c b xs i hx)
 rwa [Addr.add_lit] at this
theorem Seen.drop{size:Nat}(o:∀x,(C x).length=size){g off n a:Nat}(h:Seen w e C (.slice (some ⟨g,off,none⟩) n a) xs)(k:Nat)(l:k<=xs.length):Seen w e C (.slice (some ⟨g,off+k*size,none⟩) (xs.length -k) (a-k)) (xs.drop k):=by
 rcases h.ex with⟨b,_⟩|⟨r,c,d,f,b,s,A,z,t⟩
 ·cases b
 ·obtain⟨rfl,rfl,rfl⟩:g=r/\off=c/\a=d:=by injection b with b y v;injection b with b;injection b with q p;exact⟨q,p,v⟩
  refine⟨.inr ⟨g,off+k*size,a-k,f,aE,s,aJ,aD,fun j u m=>?_⟩⟩;rw[Nat.add_assoc];refine t _ _ ?_;rw[<-List.take_append_drop k xs,List.flatMap_append];have i:=GZ C o (xs.take k);rw[bW,Nat.min_eq_left l] at i;rw[List.getElem?_append_right aD,i];simpa using m
theorem Seen.dropEnd{g off n a:Nat}(h:Seen w e C (.slice (some ⟨g,off,none⟩) n a) xs)(k:Nat)(s:a=k):Seen w e C (.slice (some ⟨g,off,none⟩) (xs.length -k) 0) (xs.drop k):=by
 rcases h.ex with⟨b,_⟩|⟨o,c,d,f,b,p,x,v,y⟩
 ·cases b
 ·obtain⟨rfl,rfl,rfl⟩:g=o/\off=c/\a=d:=by injection b with b t r;injection b with b;injection b with m l;exact⟨m,l,r⟩
  have q:xs.drop k=[]:=List.drop_of_length_le aD;rw[q];refine⟨.inr ⟨g,off,0,f,aJ,p,aE,aD,fun j u i=>by simp at i⟩⟩
theorem Seen.take{g off n a:Nat}(h:Seen w e C (.slice (some ⟨g,off,none⟩) n a) xs)(k:Nat)(A:k<=xs.length):Seen w e C (.slice (some ⟨g,off,none⟩) k a) (xs.take k):=by
 rcases h.ex with⟨b,_⟩|⟨t,c,d,f,b,v,y,s,p⟩
 ·cases b
 ·obtain⟨rfl,rfl,rfl⟩:g=t/\off=c/\a=d:=by injection b with b z x;injection b with b;injection b with r q;exact⟨r,q,x⟩
  have i: (xs.take k).length=k:=by rw[bW];omega
  refine⟨.inr ⟨g,off,a,f,by rw[i],v,aD,s,fun j u m=>p j u ?_⟩⟩;have:∃o,xs.flatMap C=(xs.take k).flatMap C++o:=⟨(xs.drop k).flatMap C,by rw[<-List.flatMap_append,List.take_append_drop]⟩
  obtain⟨o,l⟩:=this;rw[l,List.getElem?_append_left ((bS.1 m).1)];exact m
theorem Seen.kept{M:Nat->Prop}(h:Seen w e C v xs)(f:Kept M w w')(d:∀k cs,w.heap[k]?=some (.cells cs e (0,0))->¬M k):Seen w' e C v xs:=by
 rcases h.ex with h|⟨g,off,b,a,j,c,i⟩
 ·exact⟨.inl h⟩
 ·refine⟨.inr ⟨g,off,b,a,j,?_,i⟩⟩;rw[f.block g (Array.getElem?_eq_some_iff.1 c).1 (d g a c)];exact c
theorem Seen.below(h:Seen w e C v xs)(a:Below w.heap.size w w'):Seen w' e C v xs:=h.kept (Kept.of_below a (fun _=>False)) (fun _ _ _ e=>e)
theorem Seen.alloc(h:Seen w e C v xs)(o:Obj):Seen (w.alloc o) e C v xs:=h.below ((bZ _ w).alloc (aX _) o)
theorem Seen.drew(h:Seen w e C v xs):Seen w.drew e C v xs:=h.below (bZ _ w).drew
theorem Seen.grown{row:Option Nat}(h:Seen w e C v xs)(a:w.grownBy w' row)(b:∀k cs,w.heap[k]?=some (.cells cs e (0,0))->row≠some k):Seen w' e C v xs:=
 h.kept (M:=fun k=>row=some k) ⟨a.os,a.tape,a.output,a.size,fun k d g=>a.block k d (fun e=>g e.symm)⟩ (fun k cs f c=>b k cs f c)
theorem Seen.setCell(h:Seen w e C v xs)(p:Addr)(u:Value)(a:∀cs,w.heap[p.block]?≠some (.cells cs e (0,0))):Seen (w.setCell p u) e C v xs:=
 h.kept (M:=fun k=>k=p.block) (Kept.setCell (Kept.refl (fun k=>k=p.block) w) (Or.inr rfl) u) (fun k cs c b=>by subst b;exact a cs c)
theorem aA3{P:Program}{t e:TypeId}{size a:Nat}{z:Value}(F:D7 P t e size a z)(C:α->List Value)(K:∀x,(C x).length=size)(I:∀x,∀u∈C x,u.oneCell'=true) (w:World) (p:TypeId) (base:Nat) (v:Value) (c:List α) (b:aj w base e size C v c) (u:Value) (d:List α) (r:Seen w e C u d) (L: (c.length+d.length)*a<=140737488355328) (f:base<=w.heap.size):∃k w',(Builtin.append_ #[t,t] p #[v,u]).run P w= .ok k w'/\aj w' base e size C k (c++d)/\w.grownBy w' v.ownBlock:=by
 obtain⟨q,B,A,E,J⟩:=F;obtain⟨i,s,H,n,o⟩:=info_parts B;rcases r.ex with⟨rfl,rfl⟩|⟨g,off,m,G,rfl,R,N,Q,O⟩
 ·refine⟨v,w,run_append_owned_none (P:=P) w base t p e i size q s v c.length (c.flatMap C) b.own,by rw[List.append_nil];exact b,⟨rfl,rfl,rfl,aX _,fun _ _ _=>rfl⟩⟩
 ·have D:c.length+d.length<=maxLen:=by
   have:=Nat.le_mul_of_pos_right (c.length+d.length) J;unfold maxLen;omega
  have h:∀u∈d.flatMap C,u.oneCell'=true:=by
   intro u l;obtain⟨y,_,l⟩:=List.mem_flatMap.1 l;exact I y u l
  obtain⟨k,w',j,k1,M,_⟩:=run_append_own (P:=P) w base t p e i z size a q s H n o A E v c.length (c.flatMap C) b.own ⟨g,off,none⟩ d.length m (d.flatMap C) (GZ C K d) r.Ew h D L f;exact⟨k,w',j,⟨by rw[bL,List.flatMap_append];exact k1⟩,M⟩
theorem GV{P:Program}{t e:TypeId}{size b:Nat}{z:Value}(l:D7 P t e size b z)(C:α->List Value)(r:∀x,(C x).length=size)(n:∀x,∀u∈C x,u.oneCell'=true) (w:World) {d:Array Oper} {rest:List Oper} {o:Oper} {a:Act} {Q:Exit->Act->World->Prop} (k:o.guard=none) (s x:Operand) (q:o.op= .call { callee:= .builtin .append,args:=#[s,x],argTypes:=#[t,t] }) (base:Nat) (v:Value) (g:List α) (m:a.eval s=v) (f:aj w base e size C v g) (u:Value) (j:List α) (hx:a.eval x=u) (y:Seen w e C u j) (B: (g.length+j.length)*b<=140737488355328) (c:base<=w.heap.size) (h:∀i w',aj w' base e size C i (g++j)->w.grownBy w' v.ownBlock->wpList P d Q rest (a.put o.dst i) w'):wpList P d Q (o::rest) a w:=by
 refine wpList_plain k fun _ p=>?_;obtain⟨i,w',A,k1,D⟩:=aA3 l C r n w o.type base v g f u j y B c;unfold Oper.wp execOp;simp only[q,resolve,invoke,builtin,Sem.run_bind,Sem.run_pure,Result.andThen_ok,List.map_toArray,List.map_cons,List.map_nil,m,hx,A];exact p _ _ (h i w' k1 D)
end Go
namespace Rf
theorem aAJ{k:Int}(h: (k==33)=false): (BV k==9)=false:=by
 rw[aY] at*;unfold BV;repeat' split
 all_goals omega
theorem ZD{f:Nat}{t:Tok}{l:List Tok}{ns:List ByteArray}{p:List AB}{c:List Tok}{a:List ByteArray}(d:t.k≠118)(g:t.k≠110)(h:AM f (t::l) ns= .ok (p,c,a)):∃x q,p=x::q/\x.kind=3:=by
 cases f with
 |zero=>simp[AM] at h
 |succ f=>
  rw[AM,bC d,bC g] at h;split at h
  ·cases l with
   |nil=>cases h
   |cons u e=>
    simp only[EF] at h;split at h
    ·cases b:A7 (AM f) 4 [] e ns with
     |error x=>rw[b] at h;cases h
     |ok x=>
      rw[b] at h;simp only[cX,cY] at h;obtain⟨rfl,_⟩:=h;exact⟨_,_,rfl,rfl⟩
    ·simp only[cX,cY] at h;obtain⟨rfl,_⟩:=h;exact⟨_,_,rfl,rfl⟩
  ·cases h
theorem qD{f:Nat}{t:Tok}{l:List Tok}{ns:List ByteArray}(a:t.k≠33)(b:t.k≠118)(g:t.k≠110):BS f (t::l) ns=AM f (t::l) ns:=by
 simp only[BS];rw[bC a]
 cases d:AM f (t::l) ns with
 |error e=>rfl
 |ok x=>
  obtain⟨p,i,h⟩:=x;obtain⟨y,q,rfl,c⟩:=ZD b g d;simp only[];rw[bD (by simp[c])]
end Rf
namespace Go.Proofs.Q
open Rf _root_.Go.Proofs.Tryz
open Go.RowKit
def PT(F:Nat->Prop)(w:World)(v:Value)(ps:List AB):Prop:=aj w 0 129 4 AH v ps/\∀k,v.ownBlock=some k->F k
theorem PT.keptBy{F F' M:Nat->Prop}{w w':World}{v:Value}{ps:List AB}(h:PT F w v ps)(b:Kept M w w')(a:∀k,k<w.heap.size->F k->¬M k/\F' k):PT F' w' v ps:=
 ⟨h.1.keptBy b (fun k e=>(a k (h.1.lt k e).2 (h.2 k e)).1),fun k e=>(a k (h.1.lt k e).2 (h.2 k e)).2⟩
theorem jy.pt{w w':World}{g n c:Nat}{a:Option Nat}{ps:List AB}(h:jy w' w.heap.size (.slice (some ⟨g,0,none⟩) n c) ps)(b:a≠some g):PT (New w w' a) w' (.slice (some ⟨g,0,none⟩) n c) ps:=by
 have:=h.lt;exact⟨⟨FI h.own (fun _ _=>bK _)⟩,fun k e=>by cases e;exact⟨this.1,this.2,b⟩⟩
theorem lO(g off n c:Nat)(p:AB)(rest:List AB)(w:World)(h:Seen w 129 AH (.slice (some ⟨g,off,none⟩) n c) (p::rest)):Calls prog 122 #[.slice (some ⟨g,off,none⟩) n c] w fun r w'=>r= .returned (.agg #[.int .i64 p.kind,.string p.name,.int .i64 p.value,.int .i64 p.args])/\Below w.heap.size w w':=by
 have e:=h.cells BC 0 p rfl 0 _ rfl;have a:=h.cells BC 0 p rfl 1 _ rfl;have b:=h.cells BC 0 p rfl 2 _ rfl;have d:=h.cells BC 0 p rfl 3 _ rfl;simp only[Nat.zero_mul,Nat.zero_add,dG] at e a b d;have i:1<=n:=by rw[h.len];simp
 have f:=h.lt;clear h;go_enter func122,ntmps122;go_wp2;refine bodyPost_ret (v:= .agg #[.int .i64 p.kind,.string p.name,.int .i64 p.value,.int .i64 p.args]) (by simp[results,results122,go_sem, *]) rfl ?_;exact⟨rfl,aM⟩
theorem OJ(g off n c:Nat)(p:AB)(rest:List AB)(w:World)(h:Seen w 129 AH (.slice (some ⟨g,off,none⟩) n c) (p::rest))(b:p.kind=3):Calls prog 118 #[.slice (some ⟨g,off,none⟩) n c] w fun r w'=>r= .returned (.bool (B3 p.name p.args))/\Below w.heap.size w w':=by
 have j:=aO (VI p.name p.args);have H:=aO h;have m:=aO b;clear h b
 rcases(show p.args=0\/p.args=1\/p.args=2\/p.args=3\/((p.args==0)=false/\(p.args==1)=false/\(p.args==2)=false/\(p.args==3)=false) by
  generalize p.args=a;by_cases i:a=0
  ·exact .inl i
  ·by_cases l:a=1
   ·exact .inr (.inl l)
   ·by_cases k:a=2
    ·exact .inr (.inr (.inl k))
    ·by_cases b:a=3
     ·exact .inr (.inr (.inr (.inl b)))
     ·exact .inr (.inr (.inr (.inr ⟨aY.2 i,aY.2 l,aY.2 k,aY.2 b⟩)))) with e|e|e|e|⟨s,t,q,o⟩
 all_goals
  go_enter func118,ntmps118;go_wp2_with (go_at_call 122;refine(lO g off n c p rest _ (Seen.below H.o aM)).mono ?_;rintro r u ⟨rfl,d⟩;have b:=m.o;have f:=d.size)
 all_goals
  go_ret;refine⟨C5 ?_,d.alloc f _⟩;rw[j.o];clear j
 all_goals
  unfold SQ
  first|(simp[*];done)|(simp;done)|(simp[*];omega)
theorem PM(f:Nat)(r:Nat)(d:ByteArray)(s:Option Nat)(F:List Rf.Tok)(ns:List ByteArray)(w:World)(h:Pr w r d s F ns)(D:F.length<=f):Calls prog 82 #[.pointer (some ⟨r,0,none⟩)] w fun x w'=>tu w r d s (BS f F ns) x w':=by
 obtain⟨t,l,rfl⟩:∃t l,F=t::l:=by
  cases F with
  |nil=>exact absurd rfl h.ended.ne
  |cons t l=>exact⟨t,l,rfl⟩
 obtain⟨p,rfl⟩:∃p,f=p+1:=⟨f-1,by simp at D;omega⟩
 have H:=aO h;obtain⟨a0,Q,Y⟩:=h.lt;obtain⟨M,⟨_,q0⟩,ql⟩:=h.kind;clear h
 cases j: (t.k==33)
 ·cases E: (t.k==118)
  ·cases G: (t.k==110)
   ·have o:Hid (BS (p+1) (t::l) ns=AM (p+1) (t::l) ns):=qD (aY.1 j) (aY.1 E) (aY.1 G);have k9:=aAJ j;have k3:=SP E;have k4:=Q8 G;go_enter func82,ntmps82;go_wp2_with (go_at_call 117;refine(NA (p+1) r d s (t::l) ns _ H.o D).mono ?_;intro x V T;obtain⟨a,n,c,b,rfl⟩:=T.tuple);refine bodyPost_ret (v:= .tuple #[.slice a n c,.bool b]) (by simp[results,results82,go_sem]) rfl ?_;rw[o.o];exact T
   ·have J:t.k=110:=bT G
    have o:Hid (BS (p+1) (t::l) ns= .error (5,t.at_)):=by
     unfold Hid;simp only[BS];rw[bC aD,AM,bC aD,bD J];rfl
    have P:Hid (BR t 5=(5,t.at_)):=F0 t 5 (by rw[J];decide);have m:BV t.k=4:=by rw[J];rfl
    rw[m] at M;clear J m G E j;go_enter func82,ntmps82;go_wp2_with (go_at_call 83;refine(F9 _ r d s t l ns 5 H.o aF).mono ?_;rintro e X ⟨rfl,k,z⟩;rw[P.o] at k);refine bodyPost_ret (v:= .tuple #[.slice none 0 0,.bool false]) (by simp[results,results82,go_sem]) rfl ?_;rw[o.o];exact⟨z.mono (fun _ _ e=>Or.inl e),rfl,k⟩
  ·have g:t.k=118:=bT E
   have o:Hid (BS (p+1) (t::l) ns=match GR t ns with| .error e=> .error e| .ok _=> .error (5,t.at_)):=by
    unfold Hid;simp only[BS];rw[bC aD,AM,bD g];unfold G6
    cases GR t ns<;>rfl
   have P:Hid (BR t 5=(5,t.at_)):=F0 t 5 (by rw[g];decide);have m:BV t.k=3:=by rw[g];rfl
   rw[m] at M;have S:=aO g;clear g m E j
   cases I:GR t ns with
   |error x=>
    obtain⟨e,q⟩:=x;have A:=aO I;clear I;go_enter func82,ntmps82;go_wp2_with (go_at_call 119;refine(O2 _ r d s t l ns H.o S.o).mono ?_;rintro x w1 ⟨u,B⟩;rw[A.o] at B;obtain⟨rfl,N⟩:=B);refine bodyPost_ret (v:= .tuple #[.slice none 0 0,.bool false]) (by simp[results,results82,go_sem]) rfl ?_;rw[o.o,A.o];exact⟨u,rfl,N⟩
   |ok x=>
    obtain⟨i,O⟩:=x;have A:=aO I;clear I;go_enter func82,ntmps82
    go_wp2_with (first
     |(go_at_call 119;refine(O2 _ r d s t l ns H.o S.o).mono ?_;rintro x w1 ⟨u,B⟩;rw[A.o] at B;obtain⟨rfl,U,nb1,R,Cj⟩:=B)
     |(go_at_call 83;refine(F9 _ r d nb1 t l O 5 R aF).mono ?_;rintro e X ⟨rfl,k,z⟩;rw[P.o] at k))
    refine bodyPost_ret (v:= .tuple #[.slice none 0 0,.bool false]) (by simp[results,results82,go_sem]) rfl ?_;rw[o.o,A.o];exact⟨u.trans z (fun _ _ e=>Or.inl e),rfl,k⟩
 ·have y:t.k=33:=bT j;have Z:Hid (t.k≠0):=by unfold Hid;omega
  have L:Hid (t.k≠63):=by unfold Hid;omega
  have o:Hid (BS (p+1) (t::l) ns= .ok ([⟨4,⟨#[]⟩,0,0⟩],l,ns)):=by unfold Hid;simp only[BS];rw[bD y]
  have m:BV t.k=9:=by rw[y];rfl
  rw[m] at M;clear y m j;go_enter func82,ntmps82;go_wp2_with (go_at_call 50;refine(EN _ r d s t l ns H.o Z.o L.o).mono ?_;rintro e V ⟨rfl,K,C⟩);refine bodyPost_ret (v:= .tuple #[.slice (some ⟨V.heap.size,0,none⟩) 1 1,.bool true]) (by simp[results,results82,go_sem]) rfl ?_;rw[o.o];have W:=C.size;exact⟨(C.mono (fun _ _ e=>Or.inl e)).alloc _,_,_,_,s,rfl,K.alloc _,.inl rfl,N8 (AJ _ _) rfl rfl aD,fun e=>by have:=Q _ e;omega⟩
end Go.Proofs.Q
namespace Rf
def IT(f:Nat)(l:List Tok):Except (Int×Nat) (List AB×List Tok×List ByteArray):=
 match l with
 |[]=> .error (2,0)
 |t::_=>match AM f l [] with
  | .error e=> .error e
  | .ok (p,l1,ns1)=>if F7 p=true then .ok (p,l1,ns1) else .error (4,t.at_)
theorem r7{f:Nat}{t:Tok}{l:List Tok}(h:t.k=118):IT (f+1) (t::l)= .error (4,t.at_):=by
 simp only[IT];rw[AM,bD h];unfold G6 GR N5;have: (if t.s=JT then none else List.findIdx? (fun n=>decide (n=t.s)) ([]:List ByteArray))=none:=by split<;>rfl
 rw[this];rfl
theorem wQ{f:Nat}{t:Tok}{l:List Tok}(h:t.k=110):IT (f+1) (t::l)= .error (4,t.at_):=by
 simp only[IT];rw[AM,bC aD,bD h];rfl
end Rf
namespace Go.Proofs.Q
open Rf _root_.Go.Proofs.Tryz
open Go.RowKit
theorem K5(f:Nat)(r:Nat)(a:ByteArray)(m:Option Nat)(J:List Rf.Tok)(w:World)(h:Pr w r a m J [])(D:J.length<=f):Calls prog 81 #[.pointer (some ⟨r,0,none⟩)] w fun x w'=>tu w r a m (IT f J) x w':=by
 obtain⟨t,l,rfl⟩:∃t l,J=t::l:=by
  cases J with
  |nil=>exact absurd rfl h.ended.ne
  |cons t l=>exact⟨t,l,rfl⟩
 obtain⟨s,rfl⟩:∃s,f=s+1:=⟨f-1,by simp at D;omega⟩
 have H:=aO h;obtain⟨a3,V,a6⟩:=h.lt;obtain⟨K,fr,a2,C,vN,hB,Y,_⟩:=h.toks;obtain⟨q0,T,q2,q3,q4,q5,q6,q7,qf,ql⟩:=hB.facts;rw[Y.1] at T;rw[Y.2.1] at q2;clear h hB Y
 cases W: (t.k==118)
 ·cases Ae: (t.k==110)
  ·have k3:=SP W;have k4:=Q8 Ae
   cases z:AM (s+1) (t::l) [] with
   |error x=>
    obtain⟨e,q⟩:=x;have B:Hid (IT (s+1) (t::l)= .error (e,q)):=by unfold Hid;simp only[IT];rw[z]
    have O:=aO z;clear z;go_enter func81,ntmps81;go_wp2_with (go_at_call 117;refine(NA (s+1) r a m (t::l) [] _ (H.o.alloc _) D).mono ?_;rintro x Q ⟨j,E⟩;rw[O.o] at E;obtain⟨rfl,U⟩:=E);refine bodyPost_ret (v:= .tuple #[.slice none 0 0,.bool false]) (by simp[results,results81,go_sem]) rfl ?_;rw[B.o];exact⟨((Kept.refl (May r m) w).alloc _).trans j (fun _ _ e=>e),rfl,U⟩
   |ok x=>
    obtain⟨p,l1,a0⟩:=x;obtain⟨y,q,rfl,R⟩:=ZD (aY.1 W) (aY.1 Ae) z;have Hy:=aO R
    cases hb:B3 y.name y.args
    ·have B:Hid (IT (s+1) (t::l)= .ok (y::q,l1,a0)):=by unfold Hid;simp only[IT];rw[z];simp only[];rw[bD (by simp[F7,hb,R])]
     have O:=aO z;clear z R;go_enter func81,ntmps81
     go_wp2_with (first
      |(go_at_call 117;refine(NA (s+1) r a m (t::l) [] _ (H.o.alloc _) D).mono ?_;rintro x Q ⟨j,E⟩;rw[O.o] at E;obtain⟨g,n,c,L,rfl,G,Ec,o,Ea⟩:=E;have b:aj Q 0 129 4 AH (.slice (some ⟨g,0,none⟩) n c) (y::q):=⟨FI o.own (fun _ _=>bK _)⟩)
      |(go_at_call 118;refine(OJ g 0 n c y q _ b.seen Hy.o).mono ?_;rintro x w3 ⟨rfl,i⟩;have I:=G.below i;have A:=j.trans (Kept.of_below i (fun _=>False)) (fun _ _ e=>e.elim)))
     refine bodyPost_ret (v:= .tuple #[.slice (some ⟨g,0,none⟩) n c,.bool true]) (by simp[results,results81,go_sem]) rfl ?_;rw[B.o];have S:=j.size;simp at S;exact⟨((Kept.refl (May r m) w).alloc _).trans A (fun _ _ e=>e),_,_,_,L,rfl,I,Nb.trans (.inl rfl) Ec aE,⟨FI (aj.below o i).own (fun k e=>by have:=(aj.lt o k e).1;simp at this;omega)⟩,Ea⟩
    ·have B:Hid (IT (s+1) (t::l)= .error (4,t.at_)):=by unfold Hid;simp only[IT];rw[z];simp only[];rw[bC (by simp[F7,hb])]
     have O:=aO z;clear z R;go_enter func81,ntmps81
     go_wp2_with (first
      |(go_at_call 117;refine(NA (s+1) r a m (t::l) [] _ (H.o.alloc _) D).mono ?_;rintro x Q ⟨j,E⟩;rw[O.o] at E;obtain⟨g,n,c,L,rfl,G,Ec,o,Ea⟩:=E;have b:aj Q 0 129 4 AH (.slice (some ⟨g,0,none⟩) n c) (y::q):=⟨FI o.own (fun _ _=>bK _)⟩)
      |(go_at_call 118;refine(OJ g 0 n c y q _ b.seen Hy.o).mono ?_;rintro x w3 ⟨rfl,i⟩;have I:=G.below i;have A:=j.trans (Kept.of_below i (fun _=>False)) (fun _ _ e=>e.elim);obtain⟨t9,l9,K9,f9,a5,C9,a9,c9,_,N,_⟩:=I.shape;obtain⟨z0,z1,z2,z3,z4,z5,z6,z7,zf,zl⟩:=N.facts;have X:=(A.block w.heap.size aE (fun e=>by rcases e with e|e;omega;have:=V _ e.symm;omega)).trans (AJ _ _);have n1:w3.cell? ⟨w.heap.size,1,none⟩=some (.int .i64 t.at_):=AA X 1;have a1:¬r=w.heap.size:=aD;have a4:¬w.heap.size=r:=aD))
     refine bodyPost_ret (v:= .tuple #[.slice none 0 0,.bool false]) (by simp[results,results81,go_sem]) rfl ?_;rw[B.o];exact⟨((((Kept.refl (May r m) w).alloc _).trans A (fun _ _ e=>e)).setCell (p:=⟨r,6,none⟩) (.inr (.inl rfl)) _).setCell (p:=⟨r,7,none⟩) (.inr (.inl rfl)) _,rfl,⟨_,_,_,_,_,_,_,_,AK (AK N 6 _) 7 _,aF⟩⟩
  ·have P:t.k=110:=bT Ae;have B:=aO (wQ (f:=s) (l:=l) P);have Z:Hid (BR t 4=(4,t.at_)):=F0 t 4 (by rw[P];decide);have M:BV t.k=4:=by rw[P];rfl
   rw[M] at T;clear P M;go_enter func81,ntmps81;go_wp2_with (go_at_call 83;refine(F9 _ r a m t l [] 4 (H.o.alloc _) aF).mono ?_;rintro e w7 ⟨rfl,u,F⟩;rw[Z.o] at u);refine bodyPost_ret (v:= .tuple #[.slice none 0 0,.bool false]) (by simp[results,results81,go_sem]) rfl ?_;rw[B.o];exact⟨((Kept.refl (May r m) w).alloc _).trans F (fun _ _ e=>Or.inl e),rfl,u⟩
 ·have d:t.k=118:=bT W;have B:=aO (r7 (f:=s) (l:=l) d);have Z:Hid (BR t 4=(4,t.at_)):=F0 t 4 (by rw[d];decide);have M:BV t.k=3:=by rw[d];rfl
  rw[M] at T;clear d M;go_enter func81,ntmps81;go_wp2_with (go_at_call 83;refine(F9 _ r a m t l [] 4 (H.o.alloc _) aF).mono ?_;rintro e w7 ⟨rfl,u,F⟩;rw[Z.o] at u);refine bodyPost_ret (v:= .tuple #[.slice none 0 0,.bool false]) (by simp[results,results81,go_sem]) rfl ?_;rw[B.o];exact⟨((Kept.refl (May r m) w).alloc _).trans F (fun _ _ e=>Or.inl e),rfl,u⟩
end Go.Proofs.Q
