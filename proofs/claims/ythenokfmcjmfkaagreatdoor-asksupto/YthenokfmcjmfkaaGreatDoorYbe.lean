import Derived.Test.YthenokfmcjmfkaaGreatDoorYbd
set_option maxRecDepth 100000
set_option maxHeartbeats 8000000
namespace Go.Proofs.Q
open Rf _root_.Go.Proofs.Tryz
open Go.RowKit
structure ChD where
 g:Option Addr
 ra:Option Addr
 rn:Nat
 rc:Nat
 ta:Option Addr
 tn:Nat
 tc:Nat
 ca:Option Addr
 cn:Nat
 cc:Nat
def J6(x:ChD):List Value:=[.pointer x.g,.slice x.ra x.rn x.rc,.slice x.ta x.tn x.tc,.slice x.ca x.cn x.cc]
theorem ON(x:ChD): (J6 x).length=4:=rfl
theorem TW(x:ChD):∀u∈J6 x,u.oneCell'=true:=by
 intro u a;simp only[J6,List.mem_cons,dF,or_false] at a;rcases a with rfl|rfl|rfl|rfl<;>rfl
theorem Tryz.Ih:D7 prog 57 161 4 80 (.agg #[.pointer none,.slice none 0 0,.slice none 0 0,.slice none 0 0]):=⟨underlying57,aK,rfl,aF,aF⟩
def K8(x:Int):List Value:=[.int .i64 x]
theorem MK(x:Int): (K8 x).length=1:=rfl
theorem mA(x:Int):∀u∈K8 x,u.oneCell'=true:=by intro u a;simp[K8] at a;subst a;rfl
theorem Tryz.Ls:D7 prog 24 3 1 8 (.int .i64 0):=⟨underlying24,aK,rfl,aF,aF⟩
def DI(_:World)(x:Int)(y:Nat):Prop:=x=(y:Int)
def DIs(w:World)(v:Value)(a:List Nat):Prop:=jo 3 K8 DI w v a
def DCh(w:World)(x:ChD)(c:Ch):Prop:=
  DTs w (.slice x.ta x.tn x.tc) c.st.aS/\((x.g = none /\ c.cls = [] /\ DGs w (.slice x.ra x.rn x.rc) c.st.aV) \/
   ∃p g gs,x.g=some ⟨p,0,none⟩/\c.cls≠[]/\c.st.aV=g::gs/\DTm w p g/\(AI g).kind=3/\DGs w (.slice x.ra x.rn x.rc) gs/\DIs w (.slice x.ca x.cn x.cc) c.cls)
def Fe(e:TypeId):Prop:=e=102\/e=100\/e=158\/e=3
theorem DGs.dc{w w':World}{v:Value}{gs:List (List AB)}(h:DGs w v gs)(a:DK Fe w w'):DGs w' v gs:=jo.dk h a (.inr (.inr (.inl rfl))) (fun _ _ b=>b.tm (a.mono (fun _ e=>e.elim .inl (fun e=> .inr (.inl e)))))
theorem DTs.dc{w w':World}{v:Value}{ts:List (List AB)}(h:DTs w v ts)(a:DK Fe w w'):DTs w' v ts:=jo.dk h a (.inr (.inl rfl)) (fun _ _ b=>b.tm (a.mono (fun _ e=>e.elim .inl (fun e=> .inr (.inl e)))))
theorem DTm.dc{w w':World}{p:Nat}{ps:List AB}(h:DTm w p ps)(a:DK Fe w w'):DTm w' p ps:=h.tm (a.mono (fun _ e=>e.elim .inl (fun e=> .inr (.inl e))))
theorem DIs.dc{w w':World}{v:Value}{a:List Nat}(h:DIs w v a)(b:DK Fe w w'):DIs w' v a:=jo.dk h b (.inr (.inr (.inr rfl))) (fun _ _ e=>e)
theorem DCh.dc{w w':World}{x:ChD}{c:Ch}(h:DCh w x c)(a:DK Fe w w'):DCh w' x c:=by
 refine⟨h.1.dc a,?_⟩;rcases h.2 with⟨b,d,e⟩|⟨p,g,gs,b,d,e,f,i,j,k⟩
 ·exact .inl ⟨b,d,e.dc a⟩
 ·exact .inr ⟨p,g,gs,b,d,e,f.dc a,i,j.dc a,k.dc a⟩
theorem Fe.doc{e:TypeId}(h:Fe e):AW e:=by
 rcases h with h|h|h|h
 ·exact .inl h
 ·exact .inr (.inl h)
 ·exact .inr (.inr (.inl h))
 ·exact .inr (.inr (.inr (.inr (.inr (.inl h)))))
def jk(w:World)(v:Value)(cs:List Ch):Prop:=jo 161 J6 DCh w v cs
theorem jk.doc{w w':World}{v:Value}{cs:List Ch}(h:jk w v cs)(a:DK AW w w'):jk w' v cs:=jo.dk h a (.inr (.inr (.inr (.inl rfl)))) (fun _ _ b=>b.dc (a.mono (fun _ e=>e.doc)))
theorem o8:¬Fe 161:=by unfold Fe;decide
theorem gY{w:World}{a:Option Addr}{n c:Nat}{cs:List Ch}(h:jk w (.slice a n c) cs){i:Nat}(f:i<cs.length):∃g off x,a=some ⟨g,off,none⟩/\g<w.heap.size/\w.cell? ⟨g,off+i*4,none⟩=some (.pointer x.g)/\w.cell? ⟨g,off+i*4+1,none⟩=some (.slice x.ra x.rn x.rc)/\w.cell? ⟨g,off+i*4+2,none⟩=some (.slice x.ta x.tn x.tc)/\w.cell? ⟨g,off+i*4+3,none⟩=some (.slice x.ca x.cn x.cc)/\DCh w x cs[i]:=by
 obtain⟨g,off,x,e,j,d,b⟩:=jo.at ON h f;exact⟨g,off,x,e,j,b 0 _ rfl,b 1 _ rfl,b 2 _ rfl,b 3 _ rfl,d⟩
theorem TP(w:World)(N:Nat)(b:N=w.heap.size)(x y z u:Value)(t:TypeId):∀j v,[x,y,z,u][j]?=some v->(w.alloc (.cells #[x,y,z,u] t)).cell? ((⟨N,0,none⟩:Addr).add j)=some v:=by
 subst b;intro j v a
 match j,a with
 |0,a=>simp at a;subst a;simp[Addr.add]
 |1,a=>simp at a;subst a;simp[Addr.add]
 |2,a=>simp at a;subst a;simp[Addr.add]
 |3,a=>simp at a;subst a;simp[Addr.add]
 |(j+4),a=>simp at a
def gJ(w:World)(cs:List Ch)(r:Ending)(w':World):Prop:=∃v acc,r= .returned v/\RMk 161 4 J6 DCh w.heap.size w' v acc/\acc.map (·.2)=cs/\Below w.heap.size w w'
theorem XW(w:World)(v:Value)(cs:List Ch)(n:Int)(h:jk w v cs)(P:cs.length<=1000):Calls prog 75 #[v,.int .i64 n] w fun r w'=>gJ w (cs.take n.toNat) r w':=by
 obtain⟨a,c,rfl⟩:=h.slice;have A:=aO h;clear h;go_enter func75,ntmps75;go_wp2_with fail;go_loopw [5,6] (fun G s wr=>∃(t:Value) (i:Nat) (acc:List (ChD×Ch)),t=G/\i<=cs.length/\i<=n.toNat/\s= .int .i64 i/\RMk 161 4 J6 DCh w.heap.size wr t acc/\Hid (acc.map (·.2)=cs.take i)/\Below w.heap.size w wr) (fun _ s _=>cs.length -(intOf s).toNat)
 case atStart=>exact⟨_,0,[],rfl,aD,aD,rfl,RMk.nil,rfl,bZ _ _⟩
 case round=>
  obtain⟨t,i,acc,rfl,O,q,rfl,k,b,d⟩:=hrel;have o:acc.length=i:=by have:=congrArg List.length b.o;simp at this;omega
  have F:=d.size;by_cases D: (i:Int)<n
  ·by_cases f:i<cs.length
   ·obtain⟨g,off,x,rfl,M,I,c1,J,K,u⟩:=gY (A.o.doc (DK.below d)) f;have B:=aO u
    have E:Hid ((acc++[(x,cs[i])]).map (·.2)=cs.take (i+1)):=by
     unfold Hid;rw[bE,b.o,bJ f];rfl
    have j:Hid (Below wr.heap.size wr (wr.alloc (Obj.cells #[.pointer x.g,.slice x.ra x.rn x.rc,.slice x.ta x.tn x.tc,.slice x.ca x.cn x.cc] 161))):=(bZ _ wr).alloc (aX _) _;clear u;generalize cs[i]=C at*;go_wp2_with (at_builtin;refine AY Tryz.Ih J6 ON TW _ rfl (.tmp 18) (.tmp 23) rfl 0 _ (acc.map (·.1)) rfl (k.row.alloc _) ⟨_,0,none⟩ 1 x rfl (TP _ _ rfl _ _ _ _ _) aJ (bK _) ?_;intro L N Q e z H;rw[aZ,o] at e;have m:=(DK.below j.o).trans (DK.grown z (k.jw j.o) o8);have l:=k.push (y:=C) j.o aD z H e (fun _ _ h=>h.dc m) (B.o.dc m));go_roundw
    case rel=>exact⟨_,i+1,_,rfl,aD,aD,by go_num,l.1,E.o,l.2 w d⟩
    case measure=>simp[intOf];omega
   ·obtain rfl:i=cs.length:=aD;go_wp2_with fail;go_ret;exact⟨_,acc,rfl,k,by rw[b.o,bR (aX _),bR q],d⟩
  ·have p:i=n.toNat:=aD;go_wp2_with fail;go_ret;exact⟨_,acc,rfl,k,by rw[b.o,p],d⟩
theorem fJ(w:World)(v:Value)(cs:List Ch)(n:Int)(h:jk w v cs)(a:cs.length<=1000)(_: -1000000<=n)(_:n<=1000000):Calls prog 75 #[v,.int .i64 n] w fun r w'=>gJ w (cs.take n.toNat) r w':=XW w v cs n h a
def RsB(w:World)(y:Nat)(vC:Value)(lim:Int)(a:Bool)(e c f d:Value)(b:Int):Prop:=
 w.heap[y]?=some (.cells #[vC,.int .i64 lim,.bool a,e,c,f,d,.int .i64 b] 61 (0,0))
theorem aCF(lim:Int)(w:World)(h:lim<1\/1000<lim):Calls prog 9 #[.int .i64 lim] w fun r w'=>r= .returned (.tuple #[.pointer none,.bool false])/\w'=w:=by
 rcases h with h|h
 ·go_enter func9,ntmps9;go_wp2;go_ret2;exact⟨rfl,rfl⟩
 ·have a:1<=lim:=aD;go_enter func9,ntmps9;go_wp2;go_ret2;exact⟨rfl,rfl⟩
theorem aDt(lim:Int)(w:World)(h:1<=lim)(a:lim<=1000):Calls prog 9 #[.int .i64 lim] w fun r w'=>r= .returned (.tuple #[.pointer (some ⟨w.heap.size,0,none⟩),.bool true])/\Below w.heap.size w w'/\w'.heap.size=w.heap.size+1/\ RsB w' w.heap.size (.slice none 0 0) lim false (.slice none 0 0) (.slice none 0 0) (.slice none 0 0) (.slice none 0 0) 0:=by
 go_enter func9,ntmps9;go_wp2;go_ret2;exact⟨rfl,(bZ _ _).alloc (aX _) _,aE,AJ _ _⟩
end Go.Proofs.Q
namespace Rf
theorem aCk(e:Eqn): (CM (AL e).1!=2)=decide ((AL e).1≠ -1):=by
 rcases PD e with h|h|h|h<;>rw[h]<;>decide
theorem V1(S:St):∀(a b:List Cl) (i:Nat),AR S i (a++b)=AR S i a++AR S (i+a.length) b
 |[],b,i=>by simp[AR]
 |c::a,b,i=>by
  rw[List.cons_append,AR,AR,V1 S a b (i+1),List.append_assoc,bM];congr 3;omega
theorem lW(S:St){cs:List Cl}{i:Nat}(h:i<cs.length):AR S 0 (cs.take (i+1))=AR S 0 (cs.take i)++(if FV S cs[i]=true then [i] else []):=by
 rw[bJ h,V1];have a: (cs.take i).length=i:=by rw[bW];omega
 rw[a,AR,AR];simp
theorem pA(S:St){cs:List Cl}{i:Nat}(h:i<cs.length):CV S (cs.take (i+1))=(CV S (cs.take i)||DJ S cs[i]):=by
 unfold CV;rw[bJ h,List.any_append];simp
theorem I9{B:Nat}:∀{ts:List (List AB)},(∀t∈ts,t.length<=B)->AO ts<=ts.length*B
 |[],_=>by simp[AO]
 |t::ts,h=>by
  have:=I9 (B:=B) (ts:=ts) (fun x hx=>h x (bA _ hx));have:=h t aE;rw[AO,bM,Nat.add_mul];omega
theorem OI(off h:Int)(t:List AB): (A5 off h t).length=t.length:=by unfold A5;simp
theorem lI{N:Nat}{K:Int}{S:St}{c:Cl}{h:Int}{g:List AB}{rest:List (List AB)}(a:StG N K S)(v:N<=20000)(e:S.aV=g::rest)(d:ClG c): (A4 [(g,A5 S.aQ h c.head)] (c.body.map (A5 S.aQ h)) rest S.aS).size<=10000000/\rest.length<=900000:=by
 have i:=a.gl;have j:=a.tl;have k:=d.bl;have p:g.length<=400:=(a.g g (by rw[e];simp)).1;have r:=I9 (B:=400) (ts:=rest) (fun t b=>(a.g t (by rw[e];exact bA _ b)).1);have s:=I9 (B:=400) (ts:=S.aS) (fun t b=>(a.t t b).1)
 have f:=I9 (B:=400) (ts:=c.body.map (A5 S.aQ h)) (fun t b=>by
  obtain⟨q,l,rfl⟩:=bQ.1 b;rw[OI];exact(d.bd q l).1)
 have u:=d.hd.1;rw[e,bM] at i;rw[aZ] at f;rw[GQ,J0,DY,DY,OI];refine⟨?_,aD⟩;have m:rest.length*400<=20000*400:=Nat.mul_le_mul_right _ aD;have n:S.aS.length*400<=16*400:=Nat.mul_le_mul_right _ j;have o:c.body.length*400<=8*400:=Nat.mul_le_mul_right _ k;show g.length+c.head.length+0+_+_<=_;omega
end Rf
namespace Go.Proofs.Q
open Rf _root_.Go.Proofs.Tryz
open Go.RowKit
theorem DTm.Nu{w:World}{p:Nat}{t:List AB}(h:DTm w p t)(b: (AI t).kind=3):∃k s a n c,TmB w p k 0 s (.slice a n c)/\AI t=⟨3,s,0,(n:Nat)⟩:=by
 obtain⟨k,n,s,a,c,qs,f,_,_,_,d⟩:=h.top;rcases d with⟨rfl,_,_,e⟩|⟨rfl,_,_,e⟩|⟨rfl,rfl,rfl,e⟩|⟨rfl,rfl,_,e⟩
 ·rw[e] at b;exact absurd b (by simp[AI])
 ·rw[e] at b;exact absurd b (by simp[AI])
 ·exact⟨_,s,a,_,c,f,by rw[e];rfl⟩
 ·exact⟨_,s,a,_,c,f,by rw[e];rfl⟩
theorem aBH{w:World}{a:Option Addr}{n c:Nat}{cs:List Cl}(h:vw w (.slice a n c) cs){i:Nat}(f:i<cs.length):∃g off x,a=some ⟨g,off,none⟩/\g<w.heap.size/\w.cell? ⟨g,off+i*3,none⟩=some (.pointer (some ⟨x.p,0,none⟩))/\w.cell? ⟨g,off+i*3+1,none⟩=some (.slice x.a x.n x.c)/\w.cell? ⟨g,off+i*3+2,none⟩=some (.int .i64 x.k)/\DCl w x cs[i]:=by
 obtain⟨g,off,x,e,j,d,b⟩:=jo.at KQ h f;exact⟨g,off,x,e,j,b 0 _ rfl,b 1 _ rfl,b 2 _ rfl,d⟩
theorem pK(w:World)(N:Nat)(a:N=w.heap.size)(x:Int):∀j v,(K8 x)[j]?=some v->(w.alloc (.cells #[.int .i64 x] 3)).cell? ((⟨N,0,none⟩:Addr).add j)=some v:=BL w N a _ _
theorem M8(w:World)(y:Nat)(vC vN v4 v5 v6:Value)(lim fr:Int)(H:Bool)(cls:List Cl)(S:St)(g:List AB)(rest:List (List AB))(F N:Nat)(K:Int)(aG o aH:Option Addr)(nG cG D p nH cH:Nat)(vR:Value)(hB:RsB w y vC lim H vN v4 v5 v6 fr)(hC:vw w vC cls)(hl:cls.length<=30)(b3:∀c∈cls,Rf.ClG c/\(AI c.head).kind=3)(hg:S.aV=g::rest)(t:DTm w F g)(b4: (AI g).kind=3)(hR:DGs w vR rest)(hT:DTs w (.slice o D p) S.aS)(hS:Rf.StG N K S)(hN:N<=20000)(hK:K<=1000000000000000):Calls prog 140 #[.pointer (some ⟨y,0,none⟩),.agg #[.slice aG nG cG,.slice o D p,.slice aH nH cH,.int .i64 S.aQ],.pointer (some ⟨F,0,none⟩),vR] w fun r w'=>∃v,r= .returned (.tuple #[v,.bool (CV S cls)])/\DIs w' v (AR S 0 cls)/\Below w.heap.size w w':=by
 obtain⟨aC,O,rfl⟩:=hC.slice;obtain⟨aR,cR,rfl⟩:=hR.slice;obtain⟨kg,I,ag,ng,cg,b5,b7⟩:=t.Nu b4;have f0:=hS.f0;have f1:S.aQ<=1000000000000000:=by have:=hS.f1;omega
 have e5:=hS.tl;have HB:=aO hB;have HC:=aO hC;have d0:=aO b3;have d2:=aO t;have HR:Hid (DGs w (.slice aR rest.length cR) rest):=hR;have HT:=aO hT;have d1:=aO b5;have d3:Hid (AI (CH S)=⟨3,I,0,(ng:Nat)⟩):=by unfold Hid CH;rw[hg];exact b7
 have d6:Hid (∀c,Rf.ClG c->(A4 [(g,A5 S.aQ 0 c.head)] (c.body.map (A5 S.aQ 0)) rest S.aS).size<=10000000/\rest.length<=900000):=fun c hc=>lI hS hN hg hc;have d7:Hid (∀c,BH S c 0=A4 [(g,A5 S.aQ 0 c.head)] (c.body.map (A5 S.aQ 0)) rest S.aS):=fun c=>XF S c 0 hg;have yl:=AD hB;have d8:=t.lt;clear hB hC b3 t hR hT b5 b7 hg b4 hS hK hN;go_enter func140,ntmps140;go_wp2_with fail;generalize C:w.alloc _=w0;have b0:Below w.heap.size w w0:=by rw[<-C];exact(bZ _ w).alloc (aX _) _
 have a9:w0.heap[w.heap.size]?=some (.cells #[.slice aG nG cG,.slice o D p,.slice aH nH cH,.int .i64 S.aQ] 59 (0,0)):=by rw[<-C];exact AJ w _
 have d4:=aO a9;have f3:w.heap.size+1=w0.heap.size:=by rw[<-C];simp
 clear C a9;go_loopw [10,11,12,13,14,15,16] (fun lv kv iv _ _ _ _ wr=>∃(vl:Value) (i:Nat) (acc:List (Int×Nat)),vl=lv/\i<=cls.length/\iv= .int .i64 i/\kv= .bool (CV S (cls.take i))/\RMk 3 1 K8 DI w0.heap.size wr vl acc/\Hid (acc.map (·.2)=AR S 0 (cls.take i))/\acc.length<=i/\Below w0.heap.size w0 wr) (fun _ _ iv _ _ _ _ _=>cls.length -(intOf iv).toNat)
 case atStart=>exact⟨_,0,[],rfl,aD,rfl,rfl,RMk.nil,rfl,aE,bZ _ _⟩
 case round=>
  obtain⟨vl,i,acc,rfl,hi,rfl,rfl,q,f,e9,d⟩:=hrel;have f4:=d.size;have k:Below w.heap.size w wr:=b0.trans (d.mono b0.size);have T:RsB wr y (.slice aC cls.length O) lim H vN v4 v5 v6 fr:=(k.block y yl).trans HB.o;have y0:wr.cell? ⟨y,0,none⟩=some (.slice aC cls.length O):=AA T 0;have e6:=AD T;clear T;by_cases z:i<cls.length
  ·obtain⟨a,off,x,rfl,gl,c0,c1,c2,hD⟩:=aBH (HC.o.doc (DK.below k)) z;obtain⟨b2,b1⟩:=d0.o _ (bG z);obtain⟨kh,sh,ah,nh,ch,u,c3⟩:=hD.1.Nu b1;have Lh:TmB wr F kg 0 I (.slice ag ng cg):=(k.block F d8).trans d1.o;have g2:wr.cell? ⟨F,2,none⟩=some (.string I):=AA Lh 2;have g3:wr.cell? ⟨F,3,none⟩=some (.slice ag ng cg):=AA Lh 3;have h2:wr.cell? ⟨x.p,2,none⟩=some (.string sh):=AA u 2;have h3:wr.cell? ⟨x.p,3,none⟩=some (.slice ah nh ch):=AA u 3;have e7:=AD Lh;have f2:=AD u;have c4:=pA S z;have c5:=lW S z
   have B:DJ S cls[i]=(decide (sh=I)&&((nh:Int)==ng)):=by
    unfold DJ;rw[d3.o,c3];simp[FW]
   have n:=aO c4;have j:=aO c5;have HD:=aO hD;have J:=aO b2;clear hD u c3 Lh b2 b1 c4 c5;by_cases hp:sh=I/\nh=ng
   ·obtain⟨E,e2⟩:=hp;subst E;subst e2;have Y:DJ S cls[i]=true:=by rw[B];simp
    have m:Hid (CV S (cls.take (i+1))=true):=by unfold Hid;rw[n.o,Y];simp
    obtain⟨R,G⟩:∃R,R=CM (AL (A4 [(g,A5 S.aQ 0 cls[i].head)] (cls[i].body.map (A5 S.aQ 0)) rest S.aS)).1:=⟨_,rfl⟩
    have V:=aO G;clear G
    have A:Hid (FV S cls[i]=(R !=2)):=by
     unfold Hid FV;rw[Y,V.o,aCk,NS,d7.o];simp
    have s:=(d.block w.heap.size aD).trans d4.o;have c7:=AA s 1;have c8:=AA s 3;have c9:=AD s;simp at c7 c8
    have HU:Hid (∀X:World,Below wr.heap.size wr X->Calls prog 107 #[.agg #[.pointer (some ⟨x.p,0,none⟩),.slice x.a x.n x.c,.int .i64 x.k],.pointer (some ⟨F,0,none⟩),.slice aR rest.length cR,.slice o D p,.int .i64 S.aQ,.int .i64 0] X fun r w'=>∃L a0 P M a3 Q,r= .returned (.tuple #[.int .i64 R,.slice L a0 P,.slice M a3 Q])/\Below wr.heap.size wr w'):=fun X l=>by
     have Z:=k.trans (l.mono k.size);have hz:=d6.o _ J.o;refine(oL X x cls[i] F g _ _ rest S.aS S.aQ 0 (HD.o.doc (DK.below l)) J.o (DTm.below d2.o Z) (HR.o.doc (DK.below Z)) (HT.o.doc (DK.below Z)) f0 f1 hz.1 hz.2 e5).mono ?_;rintro r w' ⟨f6,f7,e8,f5,rfl,d9,e0,e4,_⟩;obtain⟨a1,c1,rfl⟩:=e0.slice;obtain⟨a2,c2,rfl⟩:=e4.slice;exact⟨_,_,_,_,_,_,by rw[V.o],l.trans (d9.mono l.size)⟩
    have HK:Hid (∀X:World,Below wr.heap.size wr X->(fun X:World=>Below wr.heap.size wr X/\X.cell? ⟨y,0,none⟩=some (.slice (some ⟨a,off,none⟩) cls.length O)/\X.cell? ⟨a,off+i*3,none⟩=some (.pointer (some ⟨x.p,0,none⟩))/\X.cell? ⟨a,off+i*3+1,none⟩=some (.slice x.a x.n x.c)/\X.cell? ⟨a,off+i*3+2,none⟩=some (.int .i64 x.k)/\X.cell? ⟨w.heap.size,1,none⟩=some (.slice o D p)/\X.cell? ⟨w.heap.size,3,none⟩=some (.int .i64 S.aQ)) X):=fun X l=>⟨l,(cD (l.block y e6)).trans y0,(cD (l.block a gl)).trans c0,(cD (l.block a gl)).trans c1,(cD (l.block a gl)).trans c2,(cD (l.block w.heap.size c9)).trans c7,(cD (l.block w.heap.size c9)).trans c8⟩
    have a6:=aO q;clear B Y s V HD J q;by_cases hm:R=2
    ·have U: (R !=2)=false:=by rw[hm];rfl
     have h:Hid (AR S 0 (cls.take (i+1))=AR S 0 (cls.take i)):=by unfold Hid;rw[j.o,A.o,U];simp
     clear hm A j n;go_wp2_with fail;go_quiet (fail);go_wp2_with fail;have d5: (fun X:World=>Below wr.heap.size wr X/\X.cell? ⟨y,0,none⟩=some (.slice (some ⟨a,off,none⟩) cls.length O)/\X.cell? ⟨a,off+i*3,none⟩=some (.pointer (some ⟨x.p,0,none⟩))/\X.cell? ⟨a,off+i*3+1,none⟩=some (.slice x.a x.n x.c)/\X.cell? ⟨a,off+i*3+2,none⟩=some (.int .i64 x.k)/\X.cell? ⟨w.heap.size,1,none⟩=some (.slice o D p)/\X.cell? ⟨w.heap.size,3,none⟩=some (.int .i64 S.aQ)) (wr.drewN nq).drew:=HK.o _ ((bZ _ _).drewN _).drew;go_region_held2 (fun X:World=>Below wr.heap.size wr X/\X.cell? ⟨y,0,none⟩=some (.slice (some ⟨a,off,none⟩) cls.length O)/\X.cell? ⟨a,off+i*3,none⟩=some (.pointer (some ⟨x.p,0,none⟩))/\X.cell? ⟨a,off+i*3+1,none⟩=some (.slice x.a x.n x.c)/\X.cell? ⟨a,off+i*3+2,none⟩=some (.int .i64 x.k)/\X.cell? ⟨w.heap.size,1,none⟩=some (.slice o D p)/\X.cell? ⟨w.heap.size,3,none⟩=some (.int .i64 S.aQ)) (first|assumption|exact HK.o _ b|exact HK.o _ b.drew) ((go_at_call 107;refine(HU.o _ aM).mono ?_;rintro r w5 ⟨L,a0,P,M,a3,Q,rfl,b⟩));go_wp2_with fail;go_roundw
     case rel=>exact⟨_,i+1,acc,rfl,aD,by go_num,by rw[m.o],a6.o.over b (fun _ _ e=>e),by unfold Hid;rw[h.o];exact f.o,aD,d.trans (b.mono d.size)⟩
     case measure=>simp[intOf];omega
    ·have U: (R !=2)=true:=bne_iff_ne.2 hm;have h:Hid (AR S 0 (cls.take (i+1))=AR S 0 (cls.take i)++[i]):=by unfold Hid;rw[j.o,A.o,U];simp
     clear hm A j n;go_wp2_with fail;go_quiet (fail);go_wp2_with fail;have d5: (fun X:World=>Below wr.heap.size wr X/\X.cell? ⟨y,0,none⟩=some (.slice (some ⟨a,off,none⟩) cls.length O)/\X.cell? ⟨a,off+i*3,none⟩=some (.pointer (some ⟨x.p,0,none⟩))/\X.cell? ⟨a,off+i*3+1,none⟩=some (.slice x.a x.n x.c)/\X.cell? ⟨a,off+i*3+2,none⟩=some (.int .i64 x.k)/\X.cell? ⟨w.heap.size,1,none⟩=some (.slice o D p)/\X.cell? ⟨w.heap.size,3,none⟩=some (.int .i64 S.aQ)) (wr.drewN nq).drew:=HK.o _ ((bZ _ _).drewN _).drew;go_region_held2 (fun X:World=>Below wr.heap.size wr X/\X.cell? ⟨y,0,none⟩=some (.slice (some ⟨a,off,none⟩) cls.length O)/\X.cell? ⟨a,off+i*3,none⟩=some (.pointer (some ⟨x.p,0,none⟩))/\X.cell? ⟨a,off+i*3+1,none⟩=some (.slice x.a x.n x.c)/\X.cell? ⟨a,off+i*3+2,none⟩=some (.int .i64 x.k)/\X.cell? ⟨w.heap.size,1,none⟩=some (.slice o D p)/\X.cell? ⟨w.heap.size,3,none⟩=some (.int .i64 S.aQ)) (first|assumption|exact HK.o _ b|exact HK.o _ b.drew) ((go_at_call 107;refine(HU.o _ aM).mono ?_;rintro r w5 ⟨L,a0,P,M,a3,Q,rfl,b⟩));have a7:=a6.o.over b (fun _ _ e=>e);have a4:=aO b;go_wp2_with (at_builtin;refine AY Tryz.Ls K8 MK mA _ rfl (.tmp 76) (.tmp 78) rfl 0 vl (acc.map (·.1)) rfl (a7.row.alloc _) ⟨_,0,none⟩ 1 (i:Int) rfl (pK _ _ rfl _) aJ (bK _) ?_;intro gA gu w6 Nk b6 c6;have a8:=a7.push (y:=i) ((bZ _ w5).alloc (aX _) _) (by have:=a4.o.size;omega) b6 c6 Nk (fun _ _ e=>e) rfl;have a5:=aO a8;clear a8 Nk);go_roundw
     case rel=>exact⟨_,i+1,acc++[((i:Int),i)],rfl,aD,by go_num,by rw[m.o],by have:=a5.o.1;simpa using this,by unfold Hid;rw[h.o,bE,f.o];rfl,aJ,a5.o.2 w0 (d.trans (a4.o.mono d.size))⟩
     case measure=>simp[intOf];omega
   ·have W:DJ S cls[i]=false:=by
     rw[B];by_cases E:sh=I
     ·have:¬((nh:Int)=ng):=fun e=>hp ⟨E,aD⟩;simp[E,this]
     ·simp[E]
    have m:Hid (CV S (cls.take (i+1))=CV S (cls.take i)):=by unfold Hid;rw[n.o,W];simp
    have h:Hid (AR S 0 (cls.take (i+1))=AR S 0 (cls.take i)):=by unfold Hid;rw[j.o];unfold FV;rw[W];simp
    clear B W n j;by_cases E:sh=I
    ·subst E;have e3: ((nh:Int)!=ng)=true:=by simp;exact fun e=>hp ⟨rfl,aD⟩
     clear hp;go_wp2_with fail;go_quiet (fail);go_wp2_with fail;go_roundw
     case rel=>exact⟨_,i+1,acc,rfl,aD,by go_num,by rw[m.o],⟨q.row.below ((bZ _ _).drewN _),q.new,q.els⟩,by unfold Hid;rw[h.o];exact f.o,aD,d.drewN _⟩
     case measure=>simp[intOf];omega
    ·have e3: (sh.toList==I.toList)=false:=by rw[beq_toList];exact decide_eq_false E
     clear hp;go_wp2_with fail;go_quiet (fail);go_wp2_with fail;go_roundw
     case rel=>exact⟨_,i+1,acc,rfl,aD,by go_num,by rw[m.o],⟨q.row.below ((bZ _ _).drewN _),q.new,q.els⟩,by unfold Hid;rw[h.o];exact f.o,aD,d.drewN _⟩
     case measure=>simp[intOf];omega
  ·obtain rfl:i=cls.length:=aD;have hv:=q.seen;rw[f.o,bR (aX _)] at hv;have HV:=aO hv;clear hv;go_wp2_with fail;go_ret2;refine⟨vl,?_,HV.o,k⟩;simp
theorem WW(w:World)(v:Value)(cs:List Ch)(x:ChD)(m:Ch)(h:jk w v cs)(hx:DCh w x m)(A:cs.length<=1000):Calls prog 76 #[v,.agg #[.pointer x.g,.slice x.ra x.rn x.rc,.slice x.ta x.tn x.tc,.slice x.ca x.cn x.cc]] w fun r w'=>∃s,r= .returned s/\jk w' s (cs++[m])/\Below w.heap.size w w':=by
 obtain⟨a,c,rfl⟩:=h.slice;have j:Below w.heap.size w (w.alloc (Obj.cells #[.pointer x.g,.slice x.ra x.rn x.rc,.slice x.ta x.tn x.tc,.slice x.ca x.cn x.cc] 161)):=(bZ _ w).alloc (aX _) _;have t:Hid (jk (w.alloc (Obj.cells #[.pointer x.g,.slice x.ra x.rn x.rc,.slice x.ta x.tn x.tc,.slice x.ca x.cn x.cc] 161)) (.slice a cs.length c) cs):=h.doc (DK.below j);have u:=aO hx;clear h hx j;go_enter func76,ntmps76
 go_wp2_with (first
  |(at_builtin;refine AY Tryz.Ih J6 ON TW _ rfl (.tmp 10) (.tmp 12) rfl 0 _ (acc.map (·.1)) rfl (n.row.alloc _) ⟨_,0,none⟩ 1 x rfl (TP _ _ rfl _ _ _ _ _) aJ (bK _) ?_;intro G H J f q B;have e:Below l.heap.size l (l.alloc (Obj.cells #[.pointer x.g,.slice x.ra x.rn x.rc,.slice x.ta x.tn x.tc,.slice x.ca x.cn x.cc] 161)):=(bZ _ l).alloc (aX _) _;have k:=(DK.below e).trans (DK.grown q (n.jw e) o8);have g:=n.push (y:=m) e (by have:=b.size;simpa using this) q B f (fun _ _ h=>h.dc k) ((u.o.dc (DK.below p)).dc k))
  |(go_at_call 75;refine(fJ _ _ cs (cs.length:Nat) t.o A aD aD).mono ?_;rintro r l ⟨I,acc,rfl,n,d,b⟩;have o:acc.length=cs.length:=(by have z:=congrArg List.length d;simpa using z);have p:Below w.heap.size w l:=((bZ _ w).alloc (aX _) _).trans (b.mono aE);have i:=(b.block w.heap.size aE).trans (AJ w _);have⟨C,D,E,F⟩:=cM i;have K:=AD i;simp at C D E F))
 go_ret;refine⟨_,rfl,?_,((bZ _ w).alloc (aX _) _).trans ((g.2 _ b).mono aE)⟩;have:=g.1.seen;rw[bE,d,aZ,o] at this;unfold jk;simpa using this
theorem EO(w:World)(p:Nat)(ps:List AB)(h:DTm w p ps):Calls prog 142 #[.pointer (some ⟨p,0,none⟩)] w fun r w'=>r= .returned (.int .i64 (AV (AI ps)))/\w'=w:=by
 obtain⟨k,n,s,a,c,qs,d,g,i,f,b⟩:=h.top;have j:w.cell? ⟨p,0,none⟩=some (.int .u8 k):=AA d 0;clear d g f h;rcases b with⟨rfl,_,_,e⟩|⟨rfl,_,_,e⟩|⟨rfl,_,_,e⟩|⟨rfl,_,_,e⟩
 all_goals
  subst e;go_enter func142,ntmps142;go_wp2_with fail;go_ret;exact⟨rfl,rfl⟩
def aB8(w:World)(a:Int×Eqn)(vC:Value)(F:Int)(r:Ending)(w':World):Prop:=∃b d c e gs ts,r= .returned (.tuple #[.agg #[.slice b gs.length d,.slice c ts.length e,vC,.int .i64 F],.int .i64 (CM a.1)])/\Below w.heap.size w w'/\DGs w' (.slice b gs.length d) gs/\DTs w' (.slice c ts.length e) ts/\(a.1=0->gs=a.2.body++a.2.behind/\ts=a.2.aS)
theorem aBY{w o a:World}{b:Nat}{y z A B:Value}{c d u0 u1 u2 u3:Value}{gs ts:List (List AB)}(l:Below w.heap.size w o)(m:a.heap[w.heap.size]?=some (.cells #[y,z,A,B] 59 (0,0)))(t:a.heap[w.heap.size+1]?=some (.cells #[.slice none 0 0,.slice none 0 0,.slice none 0 0,.int .i64 0] 59 (0,0)))(v:Kept (fun k=>k=b) o a)(D:w.heap.size<=b)(s:DGs a c gs)(u:DTs a d ts):Below w.heap.size w ((((((a.setCell ⟨w.heap.size,0,none⟩ c).setCell ⟨w.heap.size,1,none⟩ d).setCell ⟨w.heap.size+1,0,none⟩ u0).setCell ⟨w.heap.size+1,1,none⟩ u1).setCell ⟨w.heap.size+1,2,none⟩ u2).setCell ⟨w.heap.size+1,3,none⟩ u3)/\ DGs ((((((a.setCell ⟨w.heap.size,0,none⟩ c).setCell ⟨w.heap.size,1,none⟩ d).setCell ⟨w.heap.size+1,0,none⟩ u0).setCell ⟨w.heap.size+1,1,none⟩ u1).setCell ⟨w.heap.size+1,2,none⟩ u2).setCell ⟨w.heap.size+1,3,none⟩ u3) c gs/\ DTs ((((((a.setCell ⟨w.heap.size,0,none⟩ c).setCell ⟨w.heap.size,1,none⟩ d).setCell ⟨w.heap.size+1,0,none⟩ u0).setCell ⟨w.heap.size+1,1,none⟩ u1).setCell ⟨w.heap.size+1,2,none⟩ u2).setCell ⟨w.heap.size+1,3,none⟩ u3) d ts:=by
 have f:¬AW 59:=by unfold AW;decide
 have r:Below w.heap.size w a:=l.trans (v.below l.size (fun k x e=>by have C:k=b:=e;omega));have p:=AK m 0 c;have h: (a.setCell ⟨w.heap.size,0,none⟩ c).heap[w.heap.size+1]?=_:=(cF _ _ _ _ (show w.heap.size+1≠w.heap.size by omega)).trans t;have g: ((a.setCell ⟨w.heap.size,0,none⟩ c).setCell ⟨w.heap.size,1,none⟩ d).heap[w.heap.size+1]?=_:=(cF _ _ _ _ (show w.heap.size+1≠w.heap.size by omega)).trans h;have i:=AK g 0 u0;have j:=AK i 1 u1;have q:=AK j 2 u2;have n:DK AW a _:=((((((DK.setCell m f 0 c).trans (DK.setCell p f 1 d)).trans (DK.setCell g f 0 u0)).trans (DK.setCell i f 1 u1)).trans (DK.setCell j f 2 u2)).trans (DK.setCell q f 3 u3))
 exact⟨(((((r.setCell aE _).setCell aE _).setCell aE _).setCell aE _).setCell aE _).setCell aE _,s.doc n,u.doc n⟩
theorem sR(w:World)(U V:Nat)(ta tb:List AB)(H o:Option Addr)(M I q p:Nat)(vR vT:Value)(rest ts:List (List AB))(F:Int)(S:DTm w U ta)(T:DTm w V tb)(K:DGs w vR rest)(L:DTs w vT ts)(hz: (A4 [(ta,tb)] [] rest ts).size<=10000000)(a0:rest.length<=900000)(a1:ts.length<=16):Calls prog 103 #[.agg #[.slice H M I,vT,.slice o q p,.int .i64 F],.pointer (some ⟨U,0,none⟩),.pointer (some ⟨V,0,none⟩),vR] w fun r w'=>aB8 w (AL (A4 [(ta,tb)] [] rest ts)) (.slice o q p) F r w':=by
 obtain⟨aR,cR,rfl⟩:=K.slice;obtain⟨P,Q,rfl⟩:=L.slice;obtain⟨i,a⟩:∃i,Hid (i=(w.alloc (Obj.cells #[.slice H M I,.slice P ts.length Q,.slice o q p,.int .i64 F] 59)).alloc (Obj.cells #[.slice none 0 0,.slice none 0 0,.slice none 0 0,.int .i64 0] 59)):=⟨_,rfl⟩
 have b:Below w.heap.size w i:=by rw[a.o];exact((bZ _ w).alloc (aX _) _).alloc aE _
 have h:i.heap.size=w.heap.size+2:=by rw[a.o];simp
 obtain⟨W,X,Y,Z,q5⟩:=iQ (S.below b) (T.below b) (K.doc (DK.below b)) (L.doc (DK.below b));have O:=aO (Y6 _ (i.heap.size+1) _ _ _ [(ta,tb)] [] rest ts W X Y Z hz aJ aD);have B:=aO b;have Q5:=aO q5;have z:i.heap[w.heap.size]?=some (Obj.cells #[.slice H M I,.slice P ts.length Q,.slice o q p,.int .i64 F] 59 (0,0)):=by rw[a.o];exact AF (AJ w _) _
 have y:i.heap[w.heap.size+1]?=some (Obj.cells #[.slice none 0 0,.slice none 0 0,.slice none 0 0,.int .i64 0] 59 (0,0)):=by rw[a.o];exact AZ _ _ _ aE
 have E:=aO z;have D:=aO y;clear W X Y Z q5 S T K L b z y;go_enter func103,ntmps103;go_wp2_with fail;have J:=O.o;rw[h,a.o] at J;refine Calls.mono (show Calls prog 141 #[.pointer (some ⟨w.heap.size+2+1,0,none⟩)] _ (fun r w'=>rT (w.heap.size+2+1) _ _ r w') from J) ?_;rintro r w7 ⟨rfl,A,a3,a2,a4,j,n,f,l,m,N⟩
 have g:Kept (fun k=>k=w.heap.size+2+1) i w7:=by
  have:=(Kept.of_below Q5.o (fun k=>k=w.heap.size+2+1))
  rw[h] at this;have R:=A;rw[<-a.o] at R;exact this.trans R (fun _ _ e=>e)
 obtain⟨s,u,rfl⟩:=l.slice;obtain⟨t,x,rfl⟩:=m.slice;have d:=(g.block w.heap.size aD aD).trans E.o;have c:=(g.block (w.heap.size+1) aD aD).trans D.o;have g1:=AA f 1;have g2:=AA f 2;have gl:=AD f;have⟨s0,s1,s2,s3⟩:=cM d;have sf:=AE d;have sl:=AD d;have⟨r0,r1,r2,r3⟩:=cM c;have rf:=AE c;have rl:=AD c;simp at g1 g2 s0 s1 s2 s3 r0 r1 r2 r3;have G:=aO (aBY (u0:= .slice s j.length u) (u1:= .slice t n.length x) (u2:= .slice o q p) (u3:= .int .i64 F) B.o d c g aD l m);have C:=aO N;clear d c f A g l m N J O a;go_wp2_with fail;refine bodyPost_ret (v:= .tuple #[.agg #[.slice s j.length u,.slice t n.length x,.slice o q p,.int .i64 F],.int .i64 (CM (AL (A4 [(ta,tb)] [] rest ts)).1)]) (by simp[results,results103,go_sem, *]) rfl ?_;exact⟨_,_,_,_,j,n,rfl,G.o.1,G.o.2.1,G.o.2.2,C.o⟩
def StR(w:World)(v:Value)(r:Int×Cf):Prop:=∃b h e c i f a g d,v= .agg #[.slice b h e,.slice c i f,.slice a g d,.int .i64 r.2.now.aQ]/\jk w (.slice a g d) r.2.chs.reverse/\(r.1=0\/r.1=1->DGs w (.slice b h e) r.2.now.aV/\DTs w (.slice c i f) r.2.now.aS)
def ig(w:World)(a:Int×Cf)(r:Ending)(w':World):Prop:=∃v,r= .returned (.tuple #[v,.int .i64 (CM a.1)])/\StR w' v a/\Below w.heap.size w w'
theorem DU{w w':World}{N:Nat}{c f:Array Value}(h:w.heap[N]?=some (.cells c 59 (0,0)))(g:w.heap[N+1]?=some (.cells f 59 (0,0)))(i:Kept (fun k=>k=N\/k=N+1) w w'):DK AW w w':=by
 have b:¬AW 59:=by unfold AW;decide
 refine DK.kept i (fun k cs e a d j=>?_);rcases j with rfl|rfl
 ·rw[h] at a;injection a with a;injection a with _ a;exact b (a ▸ d)
 ·rw[g] at a;injection a with a;injection a with _ a;exact b (a ▸ d)
theorem D3{a w w':World}{N:Nat}(b:Below a.heap.size a w)(f:a.heap.size<=N)(c:Kept (fun k=>k=N\/k=N+1) w w'):Below a.heap.size a w':=b.trans (c.below b.size (fun k d e=>by rcases e with e|e<;>omega))
theorem j6(w:World)(n o:Nat)(ta tb:List AB)(cf:Cf)(q a d:Option Addr)(v s m i g f:Nat)(p:Value)(F:DTm w n ta)(G:DTm w o tb)(D:DGs w p cf.now.aV.tail)(E:DTs w (.slice a m i) cf.now.aS)(C:jk w (.slice d g f) cf.chs.reverse)(M: (A4 [(ta,tb)] [] cf.now.aV.tail cf.now.aS).size<=10000000)(k:cf.now.aV.tail.length<=900000)(l:cf.now.aS.length<=16):Calls prog 103 #[.agg #[.slice q v s,.slice a m i,.slice d g f,.int .i64 cf.now.aQ],.pointer (some ⟨n,0,none⟩),.pointer (some ⟨o,0,none⟩),p] w fun r w'=>ig w (BJ cf ta tb) r w':=by
 refine(sR w n o ta tb q d v s g f p (.slice a m i) _ _ cf.now.aQ F G D E M k l).mono ?_;rintro r w' ⟨x,z,y,A,gs,ts,rfl,b,J,L,c⟩;have e:A4 [(ta,tb)] [] cf.now.aV.tail cf.now.aS=BT cf ta tb:=by unfold A4 ED FX BT;simp
 have j: (AL (BT cf ta tb)).2.body=[]:=List.eq_nil_of_length_eq_zero (KF (BT cf ta tb)).1;rw[e] at c⊢;unfold BJ;refine⟨_,rfl,?_,b⟩;have I: (if(AL (BT cf ta tb)).1=0 then(⟨⟨(AL (BT cf ta tb)).2.behind,(AL (BT cf ta tb)).2.aS,cf.now.aQ⟩,cf.chs⟩:Cf) else cf).now.aQ=cf.now.aQ:=by split<;>rfl
 have H: (if(AL (BT cf ta tb)).1=0 then(⟨⟨(AL (BT cf ta tb)).2.behind,(AL (BT cf ta tb)).2.aS,cf.now.aQ⟩,cf.chs⟩:Cf) else cf).chs=cf.chs:=by split<;>rfl
 refine⟨x,_,z,y,_,A,d,g,f,by rw[I],by rw[H];exact C.doc (DK.below b),fun h=>?_⟩;have K:=R5 (BT cf ta tb);unfold G9 at K
 have u: (AL (BT cf ta tb)).1=0:=by
  rcases h with h|h
  ·exact h
  ·have N: (AL (BT cf ta tb)).1=1:=h;omega
 obtain⟨t,B⟩:=c u;rw[bD u];rw[j,List.nil_append] at t;exact⟨by rw[<-t];exact J,by rw[<-B];exact L⟩
theorem JW(w:World)(b c v2 d:Value):∃a:World,Hid (a=(w.alloc (Obj.cells #[b,c,v2,d] 59)).alloc (Obj.cells #[.slice none 0 0,.slice none 0 0,.slice none 0 0,.int .i64 0] 59))/\Below w.heap.size w a/\a.heap.size=w.heap.size+2/\a.heap[w.heap.size]?=some (Obj.cells #[b,c,v2,d] 59 (0,0))/\a.heap[w.heap.size+1]?=some (Obj.cells #[.slice none 0 0,.slice none 0 0,.slice none 0 0,.int .i64 0] 59 (0,0)):=
 ⟨_,rfl,((bZ _ w).alloc (aX _) _).alloc aE _,aE,AF (AJ w _) _,AZ _ _ _ aE⟩
theorem tE{a:World}{p h N:Nat}{t:List AB}(c:N=a.heap.size)(f:DTm a p t)(e: (AI t).kind=3):DGs ((a.alloc (Obj.cells #[.int .u8 97,.int .i64 0,.string ⟨#[102,97,105,108]⟩,.slice none 0 0] 102)).alloc (Obj.cells #[.pointer (some ⟨p,0,none⟩),.int .i64 0,.pointer none,.int .i64 (h:Int),.pointer (some ⟨N,0,none⟩),.int .i64 0] 158)) (.slice (some ⟨N+1,0,none⟩) 3 3) [t,BY h,D6]:=by
 subst c;have d:Below a.heap.size a ((a.alloc (Obj.cells #[.int .u8 97,.int .i64 0,.string ⟨#[102,97,105,108]⟩,.slice none 0 0] 102)).alloc (Obj.cells #[.pointer (some ⟨p,0,none⟩),.int .i64 0,.pointer none,.int .i64 (h:Int),.pointer (some ⟨a.heap.size,0,none⟩),.int .i64 0] 158)):=((bZ _ a).alloc (aX _) _).alloc aE _;refine⟨[((some ⟨p,0,none⟩,0),t),((none,(h:Int)),BY h),((some ⟨a.heap.size,0,none⟩,0),D6)],⟨.inr ⟨a.heap.size+1,0,3,_,rfl,AZ _ _ _ aE,aE,by unfold maxLen;omega,fun j u g=>?_⟩⟩,fun q b=>?_,rfl⟩
 ·simpa[ES] using g
 ·simp only[List.mem_cons,dF,or_false] at b;rcases b with rfl|rfl|rfl
  ·exact .inr ⟨p,rfl,f.below d,e⟩
  ·exact .inl ⟨rfl,rfl⟩
  ·exact .inr ⟨a.heap.size,rfl,⟨1,trivial,.inr (.inr (.inl ⟨_,AF (AJ a _) _,rfl⟩))⟩,rfl⟩
theorem aBW(w:World)(p:Nat)(t:List AB)(cf:Cf)(G d x O:Option Addr)(I H m h Y y V P:Nat)(ht:DTm w p t)(hR:DGs w (.slice O V P) cf.now.aV.tail)(hT:DTs w (.slice d m h) cf.now.aS)(X:jk w (.slice x Y y) cf.chs.reverse)(hl:cf.chs.length<=20):Calls prog 104 #[.agg #[.slice G I H,.slice d m h,.slice x Y y,.int .i64 cf.now.aQ],.pointer (some ⟨p,0,none⟩),.slice O V P] w fun r w'=>ig w (D2 cf t) r w':=by
 obtain⟨k,n,s,a,c,qs,hb,_,_,_,C⟩:=ht.top;obtain⟨E,b0,g,b4,S,R⟩:=JW w (.slice G I H) (.slice d m h) (.slice x Y y) (.int .i64 cf.now.aQ);have a8:Y=cf.chs.length:=by obtain⟨a9,c9,e⟩:=X.slice;injection e with _ e _;rw[e,bX]
 subst a8;have k0:w.cell? ⟨p,0,none⟩=some (.int .u8 k):=AA hb 0;have kl:=AD hb;have u:Hid (∀w':World,DK AW w w'->∀f,f≠0->f≠1->StR w' (.agg #[.slice G I H,.slice d m h,.slice x cf.chs.length y,.int .i64 cf.now.aQ]) (f,cf)):=fun w' hd f h0 h1=>⟨_,_,_,_,_,_,_,_,_,rfl,X.doc hd,fun e=>by rcases e with e|e;exact absurd e h0;exact absurd e h1⟩
 have a5:=aO S;have a4:=aO R;have J:=aO g;have N:Hid (DTs E (.slice d m h) cf.now.aS):=hT.doc (DK.below g);have a1:Hid (DGs E (.slice O V P) cf.now.aV.tail):=hR.doc (DK.below g);have Z:Hid (jk E (.slice x cf.chs.length y) cf.chs.reverse):=X.doc (DK.below g);have a3:Hid (DTm E p t):=ht.below g;clear hT hR X ht S R hb g;by_cases b:JS t=0
 ·have⟨U,b2,b3⟩: (AI t).kind=3/\(k==118)=false/\(k==110)=false:=by
   rcases C with⟨rfl,_,_,e⟩|⟨rfl,_,_,e⟩|⟨rfl,_,_,e⟩|⟨rfl,_,_,e⟩
   ·rw[e] at b;exact absurd b (by simp[JS,AI])
   ·rw[e] at b;exact absurd b (by simp[JS,AI])
   ·rw[e];exact⟨rfl,rfl,rfl⟩
   ·rw[e];exact⟨rfl,rfl,rfl⟩
  have a2:=aO U;clear U C;by_cases Q:20<=cf.chs.length
  ·have o:Hid (D2 cf t=(6,cf)):=by unfold Hid D2;rw[bD b,bD Q]
   go_enter func104,ntmps104;go_wp2_with fail;refine bodyPost_ret (v:= .tuple #[.agg #[.slice G I H,.slice d m h,.slice x cf.chs.length y,.int .i64 cf.now.aQ],.int .i64 6]) (by simp[results,results104,go_sem, *]) rfl ?_;exact⟨_,by rw[o.o];rfl,by rw[o.o];exact u.o _ (DK.below aM) 6 aF aF,aM⟩
  ·have o:Hid (D2 cf t=(0,⟨⟨[t,BY cf.chs.length,D6],cf.now.aS,cf.now.aQ⟩,⟨⟨cf.now.aV.tail,cf.now.aS,cf.now.aQ⟩,[]⟩::cf.chs⟩)):=by unfold Hid D2;rw[bD b,bC Q]
   have HX:Hid (DCh E ⟨none,O,V,P,d,m,h,none,0,0⟩ ⟨⟨cf.now.aV.tail,cf.now.aS,cf.now.aQ⟩,[]⟩):=⟨N.o,.inl ⟨rfl,rfl,a1.o⟩⟩
   clear u b;go_enter func104,ntmps104;go_wp2_with (go_at_call 76;rw[<-b0.o];refine(WW E _ cf.chs.reverse ⟨none,O,V,P,d,m,h,none,0,0⟩ _ Z.o HX.o (by rw[bX];omega)).mono ?_;rintro r W ⟨v7,rfl,z,q⟩;obtain⟨a7,c7,e7⟩:=z.slice;rw[bL,bX] at e7;subst e7;have j:=(q.block w.heap.size aD).trans a5.o;have i:=(q.block (w.heap.size+1) aD).trans a4.o;have⟨s0,s1,s2,s3⟩:=cM j;have sf:=AE j;have sl:=AD j;have⟨r0,r1,r2,r3⟩:=cM i;have rf:=AE i;have rl:=AD i;simp at s0 s1 s2 s3 r0 r1 r2 r3;have M:=aO j;have L:=aO i;have a0:=aO z;have K:=aO q;clear j i z q);refine bodyPost_ret (v:= .tuple #[.agg #[.slice (some ⟨W.heap.size+1,0,none⟩) 3 3,.slice d m h,.slice a7 (cf.chs.length+1) c7,.int .i64 cf.now.aQ],.int .i64 0]) (by simp[results,results104,go_sem, *]) rfl ?_;generalize D:World.setCell _ (⟨w.heap.size+1,3,none⟩:Addr) _=F;have B:Kept (fun k=>k=w.heap.size\/k=w.heap.size+1) W F:=by rw[<-D];exact(((((((Kept.refl (fun k=>k=w.heap.size\/k=w.heap.size+1) W).setCell (p:=⟨w.heap.size,2,none⟩) (Or.inr (Or.inl rfl)) _).setCell (p:=⟨w.heap.size,0,none⟩) (Or.inr (Or.inl rfl)) _).setCell (p:=⟨w.heap.size+1,0,none⟩) (Or.inr (Or.inr rfl)) _).setCell (p:=⟨w.heap.size+1,1,none⟩) (Or.inr (Or.inr rfl)) _).setCell (p:=⟨w.heap.size+1,2,none⟩) (Or.inr (Or.inr rfl)) _).setCell (p:=⟨w.heap.size+1,3,none⟩) (Or.inr (Or.inr rfl)) _)
   have b1:W.heap.size=F.heap.size:=by rw[<-D];simp[World.setCell]
   have T:DK AW E F:=(DK.below K.o).trans (DU M.o L.o B);have a6:DK AW W F:=DU M.o L.o B;have A:Below w.heap.size w F:=D3 (J.o.trans (K.o.mono J.o.size)) (aX _) B;clear D;rw[o.o];refine⟨_,rfl,⟨_,_,_,_,_,_,_,_,_,rfl,?_,fun _=>⟨?_,?_⟩⟩,(A.alloc (by have:=A.size;exact this) _).alloc (by have:=A.size;simp;omega) _⟩
   ·rw[List.reverse_cons];exact(a0.o.doc a6).doc (DK.below (((bZ _ F).alloc (aX _) _).alloc aE _))
   ·exact tE b1 (a3.o.doc T) a2.o
   ·exact(N.o.doc T).doc (DK.below (((bZ _ F).alloc (aX _) _).alloc aE _))
 ·have o:Hid (D2 cf t=(JS t,cf)):=by unfold Hid D2;rw[bC b]
  rcases C with⟨rfl,_,_,e⟩|⟨rfl,_,_,e⟩|⟨rfl,_,_,e⟩|⟨rfl,_,_,e⟩
  ·have l:Hid (JS t=9):=by unfold Hid;rw[e];rfl
   clear e b;go_enter func104,ntmps104;go_wp2_with fail;refine bodyPost_ret (v:= .tuple #[.agg #[.slice G I H,.slice d m h,.slice x cf.chs.length y,.int .i64 cf.now.aQ],.int .i64 9]) (by simp[results,results104,go_sem, *]) rfl ?_;exact⟨_,by rw[o.o,l.o];rfl,by rw[o.o,l.o];exact u.o _ (DK.below aM) 9 aF aF,aM⟩
  ·have l:Hid (JS t=10):=by unfold Hid;rw[e];rfl
   clear e b;go_enter func104,ntmps104;go_wp2_with fail;refine bodyPost_ret (v:= .tuple #[.agg #[.slice G I H,.slice d m h,.slice x cf.chs.length y,.int .i64 cf.now.aQ],.int .i64 10]) (by simp[results,results104,go_sem, *]) rfl ?_;exact⟨_,by rw[o.o,l.o];rfl,by rw[o.o,l.o];exact u.o _ (DK.below aM) 10 aF aF,aM⟩
  ·exact absurd (by rw[e];rfl) b
  ·exact absurd (by rw[e];rfl) b
end Go.Proofs.Q
