import Derived.Test.YthenokfmcjmfkaaGreatDoorYbk
set_option maxRecDepth 100000
set_option maxHeartbeats 8000000
namespace Go.Proofs.Q
open Rf _root_.Go.Proofs.Tryz
open Go.RowKit
theorem aBJ(w:World)(y N:Nat)(K:Int)(M:Nat)(D:SD)(q:QD)(h:jd w y D)(hq:D.q=some q)(hO:DOk D)(hD:CfD D.cls N K q.cf)(hN:N+7+14*D.lim<=20000)(hK:K+16+32*D.lim<=1000000000000000)(hR:MT q.aW M (DE D q))(wu:qo y w)(hz: (BB D.cls q.cf).1=0):Calls prog 29 #[.pointer (some ⟨y,0,none⟩)] w fun r w'=>r= .returned (GF (FB D).1)/\jd w' y (FB D).2/\Kept (fun k=>k=y) w w':=by
 obtain⟨vC,j0,aN,nN,cN,aG,nG,cG,aT,nT,cT,aC,nC,cC,fr,G,a1,hQ⟩:=h.ex;rw[hq] at hQ;obtain⟨i3,e5,i6⟩:=hQ;subst i3;obtain⟨_,_,_,_,_,_,_,_,_,e,hc,_⟩:=i6;injection e with e;simp at e;obtain⟨-, -,⟨rfl,rfl,rfl⟩,i1⟩:=e;subst i1;have y1:w.cell? ⟨y,1,none⟩=some (.int .i64 (D.lim:Nat)):=AA G 1;have y2:w.cell? ⟨y,2,none⟩=some (.bool true):=AA G 2;have y4:=AA G 4;have y5:=AA G 5;have y6:=AA G 6;have y7:=AA G 7;have yl:=AD G;simp at y4 y5 y6 y7;have E:Below w.heap.size w (w.alloc (Obj.cells #[.int .i64 0,.string ⟨#[]⟩,.int .i64 0,.int .i64 0] 65)):=(bZ _ w).alloc (aX _) _;have f8:Hid (Calls prog 48 #[.pointer (some ⟨y,0,none⟩),.agg #[.slice aG nG cG,.slice aT nT cT,.slice aC nC cC,.int .i64 q.cf.now.aQ]] (w.alloc (Obj.cells #[.int .i64 0,.string ⟨#[]⟩,.int .i64 0,.int .i64 0] 65)) fun r w'=>ig (w.alloc (Obj.cells #[.int .i64 0,.string ⟨#[]⟩,.int .i64 0,.int .i64 0] 65)) (BB D.cls q.cf) r w'):=W1 _ y N K vC _ _ _ _ _ _ _ D.cls q.cf aG aT aC nG cG nT cT nC cC ((E.block y yl).trans G) (a1.doc (DK.below E)) hO.ok hO.h16 (hc.doc (DK.below E)) hD aD aD;have Z:=aO hO;have HB:=aO G;have b4:=aO a1;have g4:=aO e5;have Ho:=aO wu;have HR:=aO hR;have HW:Hid (FB D=DD D q.aW (DE D q)):=by unfold Hid FB;rw[hq]
 have HD:=aO hD
 have h0:Hid (∀X:World,DK AW w X->Kept (fun k=>w.heap.size<=k) w X->∀J V P L F Q O W R z,StR X (.agg #[.slice J V P,.slice L F Q,.slice O W R,.int .i64 z]) (DE D q)->∀kk,kk=CM (DE D q).1->Calls prog 47 #[.pointer (some ⟨y,0,none⟩),.agg #[.slice J V P,.slice L F Q,.slice O W R,.int .i64 z],.int .i64 kk] X fun r w'=>∃k1 t1 c1 p1,r= .returned (.agg #[.int .i64 k1,.string t1,.int .i64 c1,.int .i64 p1])/\Hid ((DD D q.aW (DE D q)).1=⟨k1,t1,c1,p1⟩)/\jd w' y (DD D q.aW (DE D q)).2/\Kept (fun k=>k=y) X w'):=fun X hd hk J V P L F Q O W R z hs kk i2=>by
  subst i2;refine(TU X y D q.aW M (DE D q) vC _ _ _ _ _ aN J L O nN cN V P F Q W R z ((hk.block y yl aD).trans HB.o) (b4.o.doc hd) (Seen.dk g4.o hd (.inr (.inr (.inr (.inr (.inr (.inr rfl))))))) hs HR.o (Ho.o.on (hk.below (Nat.le_of_lt yl) (fun k j2 e=>by have e':w.heap.size<=k:=e;omega)))).mono ?_;rintro r w' ⟨rfl,h1,h2⟩;exact⟨_,_,_,_,rfl,rfl,h1,h2⟩
 have f0:DE D q=DB D.cls D.lim (BB D.cls q.cf).2:=by unfold DE;rw[bD hz]
 have b3:=aO E;have a6:CM (BB D.cls q.cf).1=0:=by rw[hz];rfl
 have HZ:=aO hz;have b6:=aO f0
 have g5:Hid (∀X:World,Below w.heap.size w X->∀J V P L F Q O W R z,StR X (.agg #[.slice J V P,.slice L F Q,.slice O W R,.int .i64 z]) (BB D.cls q.cf)->Calls prog 46 #[.pointer (some ⟨y,0,none⟩),.agg #[.slice J V P,.slice L F Q,.slice O W R,.int .i64 z],.int .i64 (D.lim:Nat)] X fun r w'=>ig X (DB D.cls D.lim (BB D.cls q.cf).2) r w'):=fun X H J V P L F Q O W R z hs=>by
  obtain⟨_,_,_,_,_,_,_,_,_,e,h1,h2⟩:=hs;obtain⟨h3,h4⟩:=h2 (.inl HZ.o);injection e with e;simp at e;obtain⟨⟨rfl,rfl,rfl⟩,⟨rfl,rfl,rfl⟩,⟨rfl,rfl,rfl⟩,rfl⟩:=e;exact oR X y (N+7) (K+16) vC _ _ _ _ _ _ _ D.cls _ D.lim J L O V P F Q W R ((H.block y yl).trans HB.o) (b4.o.doc (DK.below H)) Z.o.l30 Z.o.ok Z.o.d Z.o.h16 h3 h4 h1 (QA Z.o.d Z.o.h16 HD.o) aD aD Z.o.lim
 clear G a1 e5 wu hR hD hO h E f0 hz hc hN hK;go_enter func29,ntmps29;go_wp2_with (go_at_call 48;refine f8.o.mono ?_;rintro r t hp;obtain⟨b,l,f,c,m,g,d,n,j,o,f1,jm,a5⟩:=ig.agg hp;rw[a6] at f1;subst f1;clear hp;have ny:=aO jm;have Fa:Hid (Below w.heap.size w t):=b3.o.trans (a5.mono b3.o.size);have B:=(a5.block w.heap.size aE).trans (AJ w _);have T:RsB t y vC (D.lim:Nat) true (.slice aN nN cN) (.slice aG nG cG) (.slice aT nT cT) (.slice aC nC cC) q.cf.now.aQ:=(Fa.o.block y yl).trans HB.o;have F:t.cell? ⟨y,1,none⟩=some (.int .i64 (D.lim:Nat)):=AA T 1;have ml:=AD T;have⟨q0,q1,q2,q3⟩:=cM B;have qf:=AE B;have ql:=AD B;simp at q0 q1 q2 q3;have g6:=aO B;have f7:=aO T;clear B T a5 jm);have a4:Below t.heap.size t (t.alloc (Obj.cells #[.slice b l f,.slice c m g,.slice d n j,.int .i64 o] 59)):=(bZ _ t).alloc (aX _) _;have x: (t.alloc (Obj.cells #[.slice b l f,.slice c m g,.slice d n j,.int .i64 o] 59)).heap[t.heap.size]?=_:=AJ t _;have a0:=AF f7.o (Obj.cells #[.slice b l f,.slice c m g,.slice d n j,.int .i64 o] 59);have e7:=AF g6.o (Obj.cells #[.slice b l f,.slice c m g,.slice d n j,.int .i64 o] 59);have c8:Hid (StR (t.alloc (Obj.cells #[.slice b l f,.slice c m g,.slice d n j,.int .i64 o] 59)) (.agg #[.slice b l f,.slice c m g,.slice d n j,.int .i64 o]) (BB D.cls q.cf)):=ny.o.doc (DK.below a4);have I:Hid (Below w.heap.size w (t.alloc (Obj.cells #[.slice b l f,.slice c m g,.slice d n j,.int .i64 o] 59))):=Fa.o.trans (a4.mono Fa.o.size);have i9:t.heap.size≥w.heap.size+1:=by have:=ql;omega
 obtain⟨NV,e4⟩:∃NV,NV=t.heap.size:=⟨_,rfl⟩
 rw[<-e4] at x i9⊢;generalize (t.alloc (Obj.cells #[.slice b l f,.slice c m g,.slice d n j,.int .i64 o] 59))=w8 at*;have⟨v0,v1,v2,v3⟩:=cM x;have vf:=AE x;have vl:=AD x;have n1:w8.cell? ⟨y,1,none⟩=some (.int .i64 (D.lim:Nat)):=AA a0 1;have nl:=AD a0;simp at v0 v1 v2 v3;have h6:=aO x;have c6:=aO e7;have b7:Hid (∀X:World,Below w8.heap.size w8 X->Calls prog 46 #[.pointer (some ⟨y,0,none⟩),.agg #[.slice b l f,.slice c m g,.slice d n j,.int .i64 o],.int .i64 (D.lim:Nat)] X fun r w'=>ig w8 (DB D.cls D.lim (BB D.cls q.cf).2) r w'):=fun X H=>(g5.o X (I.o.trans (H.mono I.o.size)) _ _ _ _ _ _ _ _ _ _ (c8.o.doc (DK.below H))).mono (fun _ _ hp=>ig.over H hp);clear x e7 a0 a4 q0 q1 q2 q3 qf y1 y2 y4 y5 y6 y7 F e4;refine Z9 6 (S:=fun X:World=>X=w8.drew) aK ?_;refine ay.qj (i:=0) 23 (v:=?_) rfl rfl aK aK aK (fun _ _ _ h=>h) aK (Or.inl ⟨by rfl,?_⟩) rfl ?_
 rotate_left
 ·(intro X _;first|(go_simp;done)|(go_simp;with_reducible rfl))
 simp only[Act.put,dB,dC,dD];refine ay.takeD (i:=1) 24 (v:=?_) [1,6] rfl rfl aK aK aK (fun _ _ _ h=>h) aK (Or.inl ⟨by rfl,?_⟩) rfl ?_
 rotate_left
 ·(intro X H;subst H;first|(go_simp;done)|(go_simp;with_reducible rfl))
 simp only[Act.put,dB,dC,dD];refine ay.qj (i:=2) 25 (v:=?_) rfl rfl aK aK aK (fun _ _ _ h=>h) aK (Or.inl ⟨by rfl,?_⟩) rfl ?_
 rotate_left
 ·(intro X _;first|(go_simp;done)|(go_simp;with_reducible rfl))
 simp only[Act.put,dB,dC,dD];refine ay.qj (i:=3) 26 (v:=?_) rfl rfl aK aK aK (fun _ _ _ h=>h) aK (Or.inl ⟨by rfl,?_⟩) rfl ?_
 rotate_left
 ·(intro X _;first|(go_simp;done)|(go_simp;with_reducible rfl))
 simp only[Act.put,dB,dC,dD];refine ay.qj (i:=4) 27 (v:=?_) rfl rfl aK aK aK (fun _ _ _ h=>h) aK (Or.inl ⟨by rfl,?_⟩) rfl ?_
 rotate_left
 ·(intro X _;first|(go_simp;done)|(go_simp;with_reducible rfl))
 simp only[Act.put,dB,dC,dD];refine ay.takeD (i:=5) 28 (v:=?_) [5,6] rfl rfl aK aK aK (fun _ _ _ h=>h) aK (Or.inl ⟨by rfl,?_⟩) rfl ?_
 rotate_left
 ·(intro X H;subst H;first|(go_simp;done)|(go_simp;with_reducible rfl))
 simp only[Act.put,dB,dC,dD];refine ay.last aK ?_;refine wpAny_ready (rs:=[6]) aK aE ?_;refine AllReady.cons rfl (fun K9 a2=>?_) AllReady.nil;go_wp2_with (go_at_call 46;refine(b7.o _ aM).mono ?_;rintro r w5 hp;obtain⟨d3,f2,d7,d4,f3,d8,d5,f4,d9,f5,i4,Y,U⟩:=ig.agg hp;subst i4;clear hp;have c7:=aO Y;have C:=(U.block _ vl).trans h6.o;have e6:=(U.block _ (AD c6.o)).trans c6.o;have⟨c0,d6,c2,c3⟩:=cM C;have h7:=AE C;have j1:=AD C;simp at c0 d6 c2 c3;have h5:=aO C;have c4:=aO e6;have f6:=aO U;clear C e6 U Y);refine MM (i:=7) 22 (v:=?_) rfl rfl aK aK aK (fun _ _ _ h=>h) (Or.inl ⟨by rfl,?_⟩) ?_
 rotate_left
 ·(intro X;first|(go_simp;done)|(go_simp;with_reducible rfl))
 simp only[Act.put,dB,dC,dD];refine MM (i:=8) 30 (v:=?_) rfl rfl aK aK aK (fun _ _ _ h=>h) (Or.inl ⟨by rfl,?_⟩) ?_
 rotate_left
 ·(intro X;first|(go_simp;done)|(go_simp;with_reducible rfl))
 simp only[Act.put,dB,dC,dD];refine MM (i:=9) 31 (v:=?_) rfl rfl aK aK aK (fun _ _ _ h=>h) (Or.inl ⟨by rfl,?_⟩) ?_
 rotate_left
 ·(intro X;first|(go_simp;done)|(go_simp;with_reducible rfl))
 simp only[Act.put,dB,dC,dD];refine wpAny_ready (rs:=[10]) aK aE ?_;refine AllReady.cons rfl (fun K9 a2=>?_) AllReady.nil;go_simp;refine a2 _ _ ?_;clear a2 K9;refine MM (i:=11) 4 (v:=?_) rfl rfl aK aK aK (fun _ _ _ h=>h) (Or.inl ⟨by rfl,?_⟩) ?_
 rotate_left
 ·(intro X;first|(go_simp;done)|(go_simp;with_reducible rfl))
 simp only[Act.put,dB,dC,dD];refine wpAny_done aK ?_ _;obtain⟨wA,i7,a7,a3,a9⟩:=JQ (u0:= .slice d3 f2 d7) (u1:= .slice d4 f3 d8) (u2:= .slice d5 f4 d9) (u3:= .int .i64 f5) h5.o;rw[<-i7.o];have e8:=(a9.block w.heap.size (AD c4.o) aD).trans c4.o;have⟨g0,g1,g2,g3⟩:=cM a3;have gl:=AD a3;simp at g0 g1 g2 g3;have g9:=aO e8;have Oq:Below w.heap.size w w5:=I.o.trans (f6.o.mono I.o.size);have s:Hid (Kept (fun k=>w.heap.size<=k) w wA):=(Kept.of_below Oq (fun k=>w.heap.size<=k)).trans a9 (fun k _ e=>by have e':k=NV:=e;omega);have f9:Hid (DK AW w wA):=(DK.below Oq).trans a7;have c9:Hid (StR wA (.agg #[.slice d3 f2 d7,.slice d4 f3 d8,.slice d5 f4 d9,.int .i64 f5]) (DB D.cls D.lim (BB D.cls q.cf).2)):=c7.o.doc a7;clear e8 a9 a7 a3 Oq c0 d6 c2 c3 h7 v0 v1 v2 v3 vf;go_wp2_with (go_at_call 47;refine(h0.o wA f9.o s.o _ _ _ _ _ _ _ _ _ _ (by rw[b6.o];exact c9.o) _ (by rw[b6.o])).mono ?_;rintro r w6 ⟨k1,t1,c1,p1,rfl,i5,e9,a8⟩;have A:=(a8.block w.heap.size (bH (Nat.lt_succ_self _) (by have:=gl;omega)) aD).trans g9.o;have⟨e0,e1,e2,e3⟩:=cM A;have ef:=AE A;have el:=AD A;simp at e0 e1 e2 e3;have c5:=aO A;have b5:=aO e9;have u:=aO a8;clear A e9 a8);have iw:=EU (u0:= .int .i64 k1) (u1:= .string t1) (u2:= .int .i64 c1) (u3:= .int .i64 p1) c5.o;have a:Kept (fun k=>k=w.heap.size) w6 ((((w6.setCell ⟨w.heap.size,0,none⟩ (.int .i64 k1)).setCell ⟨w.heap.size,1,none⟩ (.string t1)).setCell ⟨w.heap.size,2,none⟩ (.int .i64 c1)).setCell ⟨w.heap.size,3,none⟩ (.int .i64 p1)):=((((Kept.refl (fun k=>k=w.heap.size) w6).setCell (p:=⟨w.heap.size,0,none⟩) (.inr rfl) _).setCell (p:=⟨w.heap.size,1,none⟩) (.inr rfl) _).setCell (p:=⟨w.heap.size,2,none⟩) (.inr rfl) _).setCell (p:=⟨w.heap.size,3,none⟩) (.inr rfl) _;generalize ((((w6.setCell ⟨w.heap.size,0,none⟩ (.int .i64 k1)).setCell ⟨w.heap.size,1,none⟩ (.string t1)).setCell ⟨w.heap.size,2,none⟩ (.int .i64 c1)).setCell ⟨w.heap.size,3,none⟩ (.int .i64 p1))=wX at*;have⟨z0,z1,z2,z3⟩:=cM iw;simp at z0 z1 z2 z3;refine bodyPost_ret (v:= .agg #[.int .i64 k1,.string t1,.int .i64 c1,.int .i64 p1]) (by simp[results,results29,go_sem,z0,z1,z2,z3]) rfl ?_;rw[HW.o]
 have i0:DK AW w6 wX:=DK.kept a (fun k cs e hc he em=>by
  have h8:k=w.heap.size:=em;subst h8;have h9:=hc.symm.trans c5.o;injection h9 with h9;injection h9 with _ h9;have hN:¬AW 65:=by unfold AW;decide
  exact hN (h9 ▸ he))
 refine⟨by rw[i5.o];rfl,b5.o.dk i0 (a.block y b5.o.lt aD),?_⟩;exact⟨a.os.trans (u.o.os.trans s.o.os),a.tape.trans (u.o.tape.trans s.o.tape),a.output.trans (u.o.output.trans s.o.output),bN s.o.size (bN u.o.size a.size),fun k hk e=>(a.block k (bH hk (bN s.o.size u.o.size)) (fun e2=>by have e3:k=w.heap.size:=e2;omega)).trans ((u.o.block k (bH hk s.o.size) e).trans (s.o.block k hk aD))⟩
theorem vZ(w:World)(y N:Nat)(K:Int)(M:Nat)(D:SD)(h:jd w y D)(f:DOk D)(j:∀q,D.q=some q->CfD D.cls N K q.cf/\MT q.aW M (DE D q))(e:N+7+14*D.lim<=20000)(d:K+16+32*D.lim<=1000000000000000)(i:qo y w):Calls prog 29 #[.pointer (some ⟨y,0,none⟩)] w fun r w'=>r= .returned (GF (FB D).1)/\jd w' y (FB D).2/\Kept (fun k=>k=y) w w':=by
 cases a:D.q with
 |none=>exact tI w y D h a
 |some q=>
  obtain⟨b,c⟩:=j q a;by_cases g: (BB D.cls q.cf).1=0
  ·exact aBJ w y N K M D q h a f b e d c i g
  ·exact zD w y N K M D q h a f b e d c i g
end Go.Proofs.Q
namespace Rf
def II(f:Nat)(l:List Tok):Except (Int×Nat) (List (List AB)×List ByteArray):=
 match BN f 8 [] l [] with
 | .error e=> .error e
 | .ok (gs,l1,ns)=>match l1 with
  |[]=> .error (2,0)
  | u :: l2 => if u.k = 46 then (match l2 with
    |[]=> .error (2,0)
    |y::_=>if y.k=0 then .ok (gs,ns) else .error (BR y 2))
   else .error (BR u 2)
theorem PY(f:Nat)(l:List Tok):GL f l=II f l:=by
 unfold GL II;rw[SB]
 cases BZ f 8 [] l [] with
 |error e=>rfl
 |ok x=>
  obtain⟨gs,a,ns⟩:=x
  cases a with
  |nil=>rfl
  |cons u b=>
   show _=(match(X2 (.ok (gs,u::b,ns))) with| .error e=>_| .ok (gs,a,ns)=>_);unfold X2;simp only;by_cases h:u.k=63
   ·rw[bD h,bC (by rw[h];decide)]
   ·rw[bC h];rfl
end Rf
namespace Go.Proofs.Q
open Rf _root_.Go.Proofs.Tryz
open Go.RowKit
def K7(w:World)(res:Except (Int×Nat) (List (List AB)×List ByteArray))(r:Ending)(w':World):Prop:=
  Below w.heap.size w w'/\(match res with
   | .ok (gs,ns)=>∃a n c aN nN cN,r= .returned (.tuple #[.slice a n c,.slice aN nN cN,.int .i64 0,.int .i64 0])/\DGs w' (.slice a n c) gs/\Seen w' 9 A3 (.slice aN nN cN) ns
   | .error (e,q)=>r= .returned (.tuple #[.slice none 0 0,.slice none 0 0,.int .i64 e,.int .i64 (q:Nat)])/\e≠0)
theorem Gs.dgs{w wr:World}{r:Option Nat}{v:Value}{acc:List (Option Addr×List AB)}(h:Gs w wr r v acc):DGs wr v (acc.map (·.2)):=by
 refine⟨acc.map (fun q=>((q.1,(0:Int)),q.2)),?_,fun q o=>?_,aE⟩
 ·have n:=h.row.seen;have e: (acc.map (fun q=>((q.1,(0:Int)),q.2))).map (·.1)=(acc.map (·.1)).map (fun x=>(x,(0:Int))):=aE;rw[e];rcases n.ex with⟨a,b⟩|⟨g,off,f,i,a,b,c,j,k⟩
  ·exact⟨.inl ⟨a,by rw[b];rfl⟩⟩
  ·refine⟨.inr ⟨g,off,f,i,by rw[aZ];exact a,b,by rw[aZ];exact c,j,?_⟩⟩
   have m: ((acc.map (·.1)).map (fun x=>(x,(0:Int)))).flatMap ES=(acc.map (·.1)).flatMap E3:=by
    rw[List.flatMap_map];rfl
   rw[m];exact k
 ·obtain⟨x,hx,rfl⟩:=bQ.1 o;rcases h.aV x hx with⟨a,b⟩|⟨p,a,b,c⟩
  ·injection a with a;exact .inl ⟨a,b⟩
  ·injection a with a;refine .inr ⟨p,a,b.any,?_⟩;unfold AI
   cases d:x.2 with
   |nil=>rw[d] at c;cases c
   |cons y l=>rw[d] at c;simpa using c
theorem DGs.dkg{w w':World}{v:Value}{gs:List (List AB)}(h:DGs w v gs){b:Nat}{cs:Array Value}(g:w.heap[b]?=some (.cells cs 147 (0,0)))(m:Kept (fun k=>k=b) w w'):DGs w' v gs:=h.doc (DK.kept m (fun k d e j l f=>by
 have c:k=b:=f;subst c;have a:=j.symm.trans g;injection a with a;injection a with _ a;have i:¬AW 147:=by unfold AW;decide
 exact i (a ▸ l)))
theorem aAN(b g:Nat)(v:Option Nat)(t:Rf.Tok)(l:List Rf.Tok)(ns:List ByteArray)(w:World)(h:Rd w b g v (t::l) ns)(u:t.k=0):Calls prog 71 #[.pointer (some ⟨b,0,none⟩),.int .u8 0] w fun r w'=>r= .returned (.tuple #[])/\(∃G I a n c,RdB w' b G I (.slice a n c) 0 0/\aj w' 0 9 1 A3 (.slice a n c) ns)/\Kept (fun k=>k=b) w w':=by
 have H:=aO h;have K: (t.k !=0)=false:=by rw[u];rfl
 clear h u;go_enter func71,ntmps71
 go_wp2_with (first
  |(go_at_call 68;refine(CO b g v t l ns _ H.o).mono ?_;rintro e T ⟨rfl,i⟩;have f:=(H.o.below i);obtain⟨B,I,S,z,s,j,_,F,_,d,m,_,o,_,_⟩:=f.ex;obtain⟨y,A,C⟩:=d.seen.slice;subst C;have x:=aO s;have q:=aO d;have J:I<=401:=(by have D:=congrArg List.length j;rw[List.length_drop,bM] at D;omega);have E: (I:Int)<=401:=aD;have p:Hid ((Value.slice y ns.length A).ownBlock≠some b):=(by unfold Hid;rw[m];exact o);obtain⟨L,M,N,O,P,R,Q⟩:=s.facts;clear s d j f m o))
 go_end0;exact⟨rfl,⟨_,_,_,_,_,AF (AK x.o 1 _) _,(q.o.setCell _ _ p.o).alloc _⟩,(Kept.of_below i _).trans (by repeat'(first|exact QE _ _|refine QL ?_ ?_ _|refine P6 ?_|refine QU ?_ _|refine QN ?_ _|exact Or.inr rfl|exact Or.inr (Or.inl rfl)|(refine Or.inl ?_;simp;done)|(refine Or.inl ?_;simp;omega))) (fun _ _ h=>h)⟩
theorem pR(s:ByteArray)(w:World)(c:400<s.size):Calls prog 44 #[.string s] w fun r w'=>K7 w (BM s) r w':=by
 have b:Hid (BM s= .error (1,0)):=by unfold Hid BM;rw[bD c]
 have d: (400:Int)<(s.size:Int):=aD;generalize BM s=a at*;go_enter func44,ntmps44;go_wp2_with fail;refine bodyPost_ret (v:= .tuple #[.slice none 0 0,.slice none 0 0,.int .i64 1,.int .i64 0]) (by simp[results,results44,go_sem]) rfl ?_;rw[b.o];exact⟨bZ _ _,rfl,aF⟩
theorem aBp(s:ByteArray)(w:World)(P:s.size<=400)(e:Int)(q:Nat)(E:BN (AU s).length 8 [] (AU s) []= .error (e,q)):Calls prog 44 #[.string s] w fun r w'=>K7 w (BM s) r w':=by
 have H:Hid (BM s=II (AU s).length (AU s)):=by unfold Hid BM;rw[bC aD,PY]
 have m: (AU s).length<=401:=by have:=FG s s.size 0;unfold AU;omega
 have d:iq (AU s):=EI s _ _;have Q: (s.size:Int)<=400:=aD;generalize D:AU s=L at*;have F:=aO D;clear D;have B:=aO d;have C:=aO E;clear d E;have G:Hid (II L.length L= .error (e,q)):=by unfold Hid II;rw[C.o]
 go_enter func44,ntmps44
 go_wp2_with (first
  |(have O:=A;go_at_call 70;refine(J2 L.length n.heap.size h none L [] _ u.o (aX _)).mono ?_;rintro r S ⟨T,V,U,rfl,j,f⟩;rw[C.o] at f;have R:=z;have p:Hid (Below w.heap.size w S):=g.o.trans (j.below g.o.size (fun k W e=>by rcases e with e|e;omega;cases e));obtain⟨yL,yI,ya,yn,yc,i,c⟩:=RdE.ex f;obtain⟨Y,Z,y2,y3,y4,yf,yb⟩:=i.facts;have K: (e==0)=false:=aY.2 c;have M: (e !=0)=true:=(by simpa using c);have t:=aO c;clear f i c j)
  |(go_at_call 67;refine(LK s _ P).mono ?_;rintro r n ⟨X,rfl,a,b⟩;rw[F.o] at a;obtain⟨h,o,rfl,y,l,I,J⟩:=a.shape.resolve_left (fun x=>B.o.ne x.2);have A:=l;have N:h<n.heap.size:=l;have u:Hid (Rd (n.alloc (Obj.cells #[.slice (some ⟨h,0,none⟩) L.length o,.int .i64 0,.slice none 0 0,.int .i64 0,.int .i64 0] 147)) n.heap.size h none L []):=⟨o,0,.slice none 0 0,L,AZ _ _ _ rfl,rfl,B.o,m,aj.alloc ⟨FI a.own (fun _ _=>bK _)⟩ _,aj.nil _ _ _ _ _,rfl,aD,aE,aE,aE⟩;have g:Hid (Below w.heap.size w (n.alloc (Obj.cells #[.slice (some ⟨h,0,none⟩) L.length o,.int .i64 0,.slice none 0 0,.int .i64 0,.int .i64 0] 147))):=b.alloc b.size _;have z:=b.size;clear a b y))
 go_region;go_wp2_with fail;refine bodyPost_ret (v:= .tuple #[.slice none 0 0,.slice none 0 0,.int .i64 e,.int .i64 (q:Nat)]) (by simp[results,results44,go_sem]) rfl ?_;rw[H.o,G.o];exact⟨p.o.drew,rfl,t.o⟩
theorem aA5(s:ByteArray)(w:World)(hs:s.size<=400)(gs:List (List AB))(u:Rf.Tok)(V:List Rf.Tok)(ns:List ByteArray)(T:BN (AU s).length 8 [] (AU s) []= .ok (gs,u::V,ns))(U: (u.k !=46)=true)(e:Int)(q:Nat)(G:BR u 2=(e,q)):Calls prog 44 #[.string s] w fun r w'=>K7 w (BM s) r w':=by
 have hS:Hid (BM s=II (AU s).length (AU s)):=by unfold Hid BM;rw[bC aD,PY]
 have y: (AU s).length<=401:=by have:=FG s s.size 0;unfold AU;omega
 have f:iq (AU s):=EI s _ _;have a6: (s.size:Int)<=400:=aD;generalize S:AU s=L at*;have HL:=aO S;clear S;have P:=aO f;have R:=aO T;clear f T;have HQ:Hid (II L.length L= .error (e,q)):=by unfold Hid II;rw[R.o];simp only;rw[bC (by simpa using U),G]
 have C:=aO G;clear G;go_enter func44,ntmps44
 go_wp2_with (first
  |(have J:=N;go_at_call 71;refine(OK i.heap.size j O u V ns 46 _ E.o U).mono ?_;rintro r w3 ⟨rfl,g,p⟩;have B:Hid (Below w.heap.size w w3):=m.o.trans (p.below m.o.size (fun k hk e=>by have e':k=i.heap.size:=e;omega));rw[C.o] at g;obtain⟨yL,yI,ya,yn,yc,b,d⟩:=RdE.ex g;obtain⟨y0,y1,y2,y3,y4,yf,yb⟩:=b.facts;have a2: (e==0)=false:=aY.2 d;have a3: (e !=0)=true:=(by simpa using d);have D:=aO d;clear g b d p)
  |(have J:=M;go_at_call 70;refine(J2 L.length i.heap.size j none L [] _ F.o (aX _)).mono ?_;rintro r W ⟨ga,gn,gc,rfl,o,z⟩;rw[R.o] at z;have N:=K;have m:Hid (Below w.heap.size w W):=l.o.trans (o.below l.o.size (fun k hk e=>by rcases e with e|e;omega;cases e));obtain⟨O,eu,h,I,n,Q,a5⟩:=z;obtain⟨yL,yI,ya,yn,yc,b⟩:=h.err;obtain⟨y0,y1,y2,y3,y4,yf,yb⟩:=b.facts;have X:=aO b;have E:=aO h;have Y:Hid (DGs W (.slice ga gn gc) (eu.map (·.2))):=n.dgs;have Z:=aO Q;clear h n Q b o I)
  |(go_at_call 67;refine(LK s _ hs).mono ?_;rintro r i ⟨vT,rfl,a,c⟩;rw[HL.o] at a;obtain⟨j,A,rfl,H,t,a0,a1⟩:=a.shape.resolve_left (fun x=>P.o.ne x.2);have M:=t;have a4:j<i.heap.size:=t;have F:Hid (Rd (i.alloc (Obj.cells #[.slice (some ⟨j,0,none⟩) L.length A,.int .i64 0,.slice none 0 0,.int .i64 0,.int .i64 0] 147)) i.heap.size j none L []):=⟨A,0,.slice none 0 0,L,AZ _ _ _ rfl,rfl,P.o,y,aj.alloc ⟨FI a.own (fun _ _=>bK _)⟩ _,aj.nil _ _ _ _ _,rfl,aD,aE,aE,aE⟩;have l:Hid (Below w.heap.size w (i.alloc (Obj.cells #[.slice (some ⟨j,0,none⟩) L.length A,.int .i64 0,.slice none 0 0,.int .i64 0,.int .i64 0] 147))):=c.alloc c.size _;have K:=c.size;clear a c H))
 go_region;go_wp2_with fail;refine bodyPost_ret (v:= .tuple #[.slice none 0 0,.slice none 0 0,.int .i64 e,.int .i64 (q:Nat)]) (by simp[results,results44,go_sem]) rfl ?_;rw[hS.o,HQ.o];exact⟨B.o.drew,rfl,D.o⟩
theorem yX(s:ByteArray)(w:World)(hs:s.size<=400)(gs:List (List AB))(u:Rf.Tok)(l2:List Rf.Tok)(ns:List ByteArray)(hg:BN (AU s).length 8 [] (AU s) []= .ok (gs,u::l2,ns))(y:Rf.Tok)(Y:List Rf.Tok)(hl:l2=y::Y)(hu: (u.k !=46)=false)(hy: (y.k !=0)=true)(e:Int)(q:Nat)(V:BR y 2=(e,q)):Calls prog 44 #[.string s] w fun r w'=>K7 w (BM s) r w':=by
 have hS:Hid (BM s=II (AU s).length (AU s)):=by unfold Hid BM;rw[bC aD,PY]
 have E: (AU s).length<=401:=by have:=FG s s.size 0;unfold AU;omega
 have f:iq (AU s):=EI s _ _;have b1: (s.size:Int)<=400:=aD;generalize hL:AU s=L at*;have HL:=aO hL;clear hL;have Bc:=aO f;have HG:=aO hg;clear f hg;subst hl;have J:u.k=46:=by simpa using hu
 have U:Hid (u.k≠0):=by unfold Hid;rw[J];decide
 have Iz:Hid (u.k≠63):=by unfold Hid;rw[J];decide
 have HQ:Hid (II L.length L= .error (e,q)):=by unfold Hid II;rw[HG.o];simp only;rw[bD J,bC (by simpa using hy),V]
 have O:=aO V;clear V J;go_enter func44,ntmps44
 go_wp2_with (first
  |(have G:=a1;go_at_call 71;refine(OK d.heap.size g I y Y ns 0 _ S.o hy).mono ?_;rintro r w4 ⟨rfl,j,C⟩;have M:Hid (Below w.heap.size w w4):=t.o.trans (C.below t.o.size (fun k hk e=>by have e':k=d.heap.size:=e;omega));rw[O.o] at j;obtain⟨zL,zI,za,zn,zc,z,c⟩:=RdE.ex j;obtain⟨z0,z1,z2,z3,z4,zf,zb⟩:=z.facts;have a7: (e==0)=false:=aY.2 c;have a8: (e !=0)=true:=(by simpa using c);have Q:=aO c;clear j z c C)
  |(have G:=a0;go_at_call 71;refine(QY d.heap.size g I u (y::Y) ns 46 _ R.o hu U.o Iz.o).mono ?_;rintro r w3 ⟨rfl,n,l⟩;have a1:=H;have t:Hid (Below w.heap.size w w3):=p.o.trans (l.below p.o.size (fun k hk e=>by have e':k=d.heap.size:=e;omega));have a3:Hid (DGs w3 (.slice ga gn gc) (eu.map (·.2))):=P.o.dkg N.o l;obtain⟨xL,xI,xa,xn,xc,i⟩:=n.err;obtain⟨x0,x1,x2,x3,x4,xf,xb⟩:=i.facts;have a2:=aO i;have S:=aO n;clear n l i)
  |(have G:=Z;go_at_call 70;refine(J2 L.length d.heap.size g none L [] _ T.o (aX _)).mono ?_;rintro r w2 ⟨ga,gn,gc,rfl,B,F⟩;rw[HG.o] at F;have a0:=H;have p:Hid (Below w.heap.size w w2):=o.o.trans (B.below o.o.size (fun k hk e=>by rcases e with e|e;omega;cases e));obtain⟨I,eu,m,X,A,Fj,b0⟩:=F;obtain⟨yL,yI,ya,yn,yc,h⟩:=m.err;obtain⟨y0,y1,y2,y3,y4,yf,yb⟩:=h.facts;have N:=aO h;have R:=aO m;have P:Hid (DGs w2 (.slice ga gn gc) (eu.map (·.2))):=A.dgs;have a4:=aO Fj;clear m A Fj h B X)
  |(go_at_call 67;refine(LK s _ hs).mono ?_;rintro r d ⟨vT,rfl,a,b⟩;rw[HL.o] at a;obtain⟨g,K,rfl,W,D,a5,a6⟩:=a.shape.resolve_left (fun x=>Bc.o.ne x.2);have Z:=D;have a9:g<d.heap.size:=D;have T:Hid (Rd (d.alloc (Obj.cells #[.slice (some ⟨g,0,none⟩) L.length K,.int .i64 0,.slice none 0 0,.int .i64 0,.int .i64 0] 147)) d.heap.size g none L []):=⟨K,0,.slice none 0 0,L,AZ _ _ _ rfl,rfl,Bc.o,E,aj.alloc ⟨FI a.own (fun _ _=>bK _)⟩ _,aj.nil _ _ _ _ _,rfl,aD,aE,aE,aE⟩;have o:Hid (Below w.heap.size w (d.alloc (Obj.cells #[.slice (some ⟨g,0,none⟩) L.length K,.int .i64 0,.slice none 0 0,.int .i64 0,.int .i64 0] 147))):=b.alloc b.size _;have H:=b.size;clear a b W))
 go_region;go_wp2_with fail;refine bodyPost_ret (v:= .tuple #[.slice none 0 0,.slice none 0 0,.int .i64 e,.int .i64 (q:Nat)]) (by simp[results,results44,go_sem]) rfl ?_;rw[hS.o,HQ.o];exact⟨M.o.drew,rfl,Q.o⟩
theorem aA4(s:ByteArray)(w:World)(hs:s.size<=400)(gs:List (List AB))(u:Rf.Tok)(l2:List Rf.Tok)(ns:List ByteArray)(hg:BN (AU s).length 8 [] (AU s) []= .ok (gs,u::l2,ns))(y:Rf.Tok)(l3:List Rf.Tok)(hl:l2=y::l3)(hu: (u.k !=46)=false)(hy:y.k=0):Calls prog 44 #[.string s] w fun r w'=>K7 w (BM s) r w':=by
 have hS:Hid (BM s=II (AU s).length (AU s)):=by unfold Hid BM;rw[bC aD,PY]
 have D: (AU s).length<=401:=by have:=FG s s.size 0;unfold AU;omega
 have f:iq (AU s):=EI s _ _;have b1: (s.size:Int)<=400:=aD;generalize hL:AU s=L at*;have HL:=aO hL;clear hL;have Bc:=aO f;have HG:=aO hg;clear f hg;subst hl;have I:u.k=46:=by simpa using hu
 have Z:Hid (u.k≠0):=by unfold Hid;rw[I];decide
 have Iz:Hid (u.k≠63):=by unfold Hid;rw[I];decide
 have HQ:Hid (II L.length L= .ok (gs,ns)):=by unfold Hid II;rw[HG.o];simp only;rw[bD I,bD hy]
 have a0:=aO hy;clear hy I;go_enter func44,ntmps44
 go_wp2_with (first
  |(have F:=a6;go_at_call 71;refine(aAN d.heap.size g H y l3 ns _ X.o a0.o).mono ?_;rintro r N ⟨rfl,⟨b2,I4,a4,n4,c4,z,b⟩,l⟩;have P:Hid (Below w.heap.size w N):=q.o.trans (l.below q.o.size (fun k hk e=>by have e':k=d.heap.size:=e;omega));have U:Hid (DGs N (.slice J M K) (eu.map (·.2))):=T.o.dkg R.o l;have t:Hid (Seen N 9 A3 (.slice a4 n4 c4) ns):=b.seen;obtain⟨z0,z1,z2,z3,z4,zf,zb⟩:=z.facts;clear b z l)
  |(have F:=a5;go_at_call 71;refine(QY d.heap.size g H u (y::l3) ns 46 _ W.o hu Z.o Iz.o).mono ?_;rintro r w3 ⟨rfl,n,j⟩;have a6:=G;have q:Hid (Below w.heap.size w w3):=p.o.trans (j.below p.o.size (fun k hk e=>by have e':k=d.heap.size:=e;omega));have T:Hid (DGs w3 (.slice J M K) (eu.map (·.2))):=S.o.dkg Q.o j;obtain⟨xL,xI,xa,xn,xc,i⟩:=n.err;obtain⟨x0,x1,x2,x3,x4,xf,xb⟩:=i.facts;have R:=aO i;have X:=aO n;clear n j i)
  |(have F:=a3;go_at_call 70;refine(J2 L.length d.heap.size g none L [] _ Y.o (aX _)).mono ?_;rintro r w2 ⟨J,M,K,rfl,B,E⟩;rw[HG.o] at E;have a5:=G;have p:Hid (Below w.heap.size w w2):=o.o.trans (B.below o.o.size (fun k hk e=>by rcases e with e|e;omega;cases e));obtain⟨H,eu,m,a2,A,Fj,b0⟩:=E;obtain⟨yL,yI,ya,yn,yc,h⟩:=m.err;obtain⟨y0,y1,y2,y3,y4,yf,yb⟩:=h.facts;have Q:=aO h;have W:=aO m;have S:Hid (DGs w2 (.slice J M K) (eu.map (·.2))):=A.dgs;have V:=aO Fj;clear m A Fj h B a2)
  |(go_at_call 67;refine(LK s _ hs).mono ?_;rintro r d ⟨vT,rfl,a,c⟩;rw[HL.o] at a;obtain⟨g,O,rfl,a1,C,a7,a8⟩:=a.shape.resolve_left (fun x=>Bc.o.ne x.2);have a3:=C;have a9:g<d.heap.size:=C;have Y:Hid (Rd (d.alloc (Obj.cells #[.slice (some ⟨g,0,none⟩) L.length O,.int .i64 0,.slice none 0 0,.int .i64 0,.int .i64 0] 147)) d.heap.size g none L []):=⟨O,0,.slice none 0 0,L,AZ _ _ _ rfl,rfl,Bc.o,D,aj.alloc ⟨FI a.own (fun _ _=>bK _)⟩ _,aj.nil _ _ _ _ _,rfl,aD,aE,aE,aE⟩;have o:Hid (Below w.heap.size w (d.alloc (Obj.cells #[.slice (some ⟨g,0,none⟩) L.length O,.int .i64 0,.slice none 0 0,.int .i64 0,.int .i64 0] 147))):=c.alloc c.size _;have G:=c.size;clear a c a1))
 go_region;go_wp2_with fail;refine bodyPost_ret (v:= .tuple #[.slice J M K,.slice a4 n4 c4,.int .i64 0,.int .i64 0]) (by simp[results,results44,go_sem]) rfl ?_;rw[hS.o,HQ.o];exact⟨P.o.drew,_,_,_,_,_,_,rfl,by rw[V.o];exact U.o.doc (DK.below (bZ _ _).drew),Seen.kept t.o (Kept.refl (fun _=>False) N).drew (fun _ _ _ e=>e)⟩
theorem T4(s:ByteArray)(w:World):Calls prog 44 #[.string s] w fun r w'=>K7 w (BM s) r w':=by
 by_cases f:s.size<=400
 ·cases c:BN (AU s).length 8 [] (AU s) [] with
  |error x=>exact aBp s w f x.1 x.2 c
  |ok x=>
   obtain⟨gs,l,ns⟩:=x
   have b:iq l:=by
    have a:=SB (AU s).length 8 [] (AU s) [];rw[c] at a
    cases h:BZ (AU s).length 8 [] (AU s) [] with
    |error e=>rw[h] at a;cases a
    |ok z=>
     obtain⟨o,i,p⟩:=z;have j:=(MR _ 8 [] _ [] o i p (EI s _ _) aE aE (by have:=FG s s.size 0;omega) h).2.2;rw[h] at a;unfold X2 at a
     cases i with
     |nil=>exact absurd rfl j.ne
     |cons u g=>
      simp only at a;split at a
      ·cases a
      ·cases a;exact j
   cases l with
   |nil=>exact absurd rfl b.ne
   |cons u g=>
    by_cases d:u.k=46
    ·have n:iq g:=b.tail (by rw[d];decide) (by rw[d];decide)
     cases g with
     |nil=>exact absurd rfl n.ne
     |cons y m=>
      by_cases k:y.k=0
      ·exact aA4 s w f gs u _ ns c y m rfl (by simpa using d) k
      ·exact yX s w f gs u _ ns c y m rfl (by simpa using d) (by simpa using k) _ _ rfl
    ·exact aA5 s w f gs u g ns c (by simpa using d) _ _ rfl
 ·exact pR s w aD
theorem U5{w b:World}{y:Nat}{D:SD}{k1 c1 p1:Int}{t1:ByteArray}{u0 u1 u2 u3:Value}(l:b.heap[w.heap.size]?=some (.cells #[u0,u1,u2,u3] 65 (0,0)))(f:jd b y D)(c:Kept (fun k=>k=y) w b)(t:y<w.heap.size):∃h:World,Hid (h=((((b.setCell ⟨w.heap.size,0,none⟩ (.int .i64 k1)).setCell ⟨w.heap.size,1,none⟩ (.string t1)).setCell ⟨w.heap.size,2,none⟩ (.int .i64 c1)).setCell ⟨w.heap.size,3,none⟩ (.int .i64 p1)))/\h.heap[w.heap.size]?=some (.cells #[.int .i64 k1,.string t1,.int .i64 c1,.int .i64 p1] 65 (0,0))/\jd h y D/\Kept (fun k=>k=y) w h:=by
 have a:Kept (fun k=>k=w.heap.size) b ((((b.setCell ⟨w.heap.size,0,none⟩ (.int .i64 k1)).setCell ⟨w.heap.size,1,none⟩ (.string t1)).setCell ⟨w.heap.size,2,none⟩ (.int .i64 c1)).setCell ⟨w.heap.size,3,none⟩ (.int .i64 p1)):=((((Kept.refl (fun k=>k=w.heap.size) b).setCell (p:=⟨w.heap.size,0,none⟩) (.inr rfl) _).setCell (p:=⟨w.heap.size,1,none⟩) (.inr rfl) _).setCell (p:=⟨w.heap.size,2,none⟩) (.inr rfl) _).setCell (p:=⟨w.heap.size,3,none⟩) (.inr rfl) _
 have j:DK AW b _:=DK.kept a (fun k cs e q r n=>by
  have i:k=w.heap.size:=n;subst i;have d:=q.symm.trans l;injection d with d;injection d with _ d;have o:¬AW 65:=by unfold AW;decide
  exact o (d ▸ r))
 exact⟨_,rfl,EU l,f.dk j (a.block y f.lt aD),⟨a.os.trans c.os,a.tape.trans c.tape,a.output.trans c.output,bN c.size a.size,fun k g e=>(a.block k (bH g c.size) (fun m=>by have s:k=w.heap.size:=m;omega)).trans (c.block k g e)⟩⟩
theorem aBQ(w:World)(y:Nat)(D:SD)(a:ByteArray)(h:jd w y D)(e:Int)(q:Nat)(G:BM a= .error (e,q)):Calls prog 28 #[.pointer (some ⟨y,0,none⟩),.string a] w fun r w'=>r= .returned (GF (H7 D a).1)/\jd w' y (H7 D a).2/\Kept (fun k=>k=y) w w':=by
 obtain⟨vC,n,Q,nN,U,P,nG,T,R,nT,V,O,nC,S,W,d,g,X⟩:=h.ex;have N:Hid (H7 D a=(⟨4,⟨#[]⟩,e,(q:Nat)⟩,⟨D.lim,D.cls,none⟩)):=by unfold Hid H7;rw[G]
 have y2:w.cell? ⟨y,2,none⟩=some (.bool n):=AA d 2;have yf:=AE d;have yl:=AD d;have HB:=aO d;have s:=aO g;have A:=aO G;have f:=AK d 2 (.bool false);have j:Kept (fun k=>k=y) w (w.setCell ⟨y,2,none⟩ (.bool false)):=(Kept.refl (fun k=>k=y) w).setCell (p:=⟨y,2,none⟩) (.inr rfl) _;have i:DK AW w (w.setCell ⟨y,2,none⟩ (.bool false)):=DK.setCell d (by unfold AW;decide) 2 _;have o:=aO f;have z:=aO j;have u:=aO i;clear d g X h G f j i;go_enter func28,ntmps28;go_wp2_with (go_at_call 44;refine(T4 a _).mono ?_;rintro r I ⟨c,l⟩;rw[A.o] at l;obtain⟨rfl,m⟩:=l;have Y: (e !=0)=true:=(by simpa using m);have b:=(c.block w.heap.size (by simp[World.setCell])).trans (AZ _ _ _ (by simp[World.setCell]));have⟨q0,q1,q2,q3⟩:=cM b;have qf:=AE b;have ql:=AD b;simp at q0 q1 q2 q3;have B:=aO b;have x:Hid (Kept (fun k=>k=y) w I):=(z.o.alloc _).trans (Kept.of_below c _) (fun _ _ e=>e);have t:Hid (DK AW w I):=(u.o.trans (DK.below ((bZ _ _).alloc (aX _) _))).trans (DK.below c);have C:Hid (RsB I y vC (D.lim:Nat) false (.slice Q nN U) (.slice P nG T) (.slice R nT V) (.slice O nC S) W):=(c.block y (by simp[World.setCell];omega)).trans (AF o.o _);clear b c m);obtain⟨wX,H,Z,E,F⟩:=U5 (k1:=4) (t1:=⟨#[]⟩) (c1:=e) (p1:=(q:Nat)) (D:=⟨D.lim,D.cls,none⟩) B.o ⟨_,_,_,_,_,_,_,_,_,_,_,_,_,_,_,C.o,s.o.doc t.o,rfl⟩ x.o yl;rw[<-H.o];have⟨J,K,L,M⟩:=cM Z;simp at J K L M;refine bodyPost_ret (v:=GF ⟨4,⟨#[]⟩,e,(q:Nat)⟩) (by simp[results,results28,go_sem,GF,J,K,L,M]) rfl ?_;rw[N.o];exact⟨rfl,E,F⟩
end Go.Proofs.Q
