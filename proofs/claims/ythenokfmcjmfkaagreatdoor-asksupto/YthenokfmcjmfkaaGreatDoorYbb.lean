import Derived.Test.YthenokfmcjmfkaaGreatDoorYba
set_option maxRecDepth 100000
set_option maxHeartbeats 4000000
namespace Go.Proofs.Q
open Rf _root_.Go.Proofs.Tryz
open Go.RowKit
def FY(_:Nat):Prop:=True
def DTm(w:World)(p:Nat)(ps:List AB):Prop:=dn FY w p ps
structure DK(E:TypeId->Prop)(w w':World):Prop where
 size:w.heap.size<=w'.heap.size
 block:∀(k:Nat) (cs:Array Value) (e:TypeId),w.heap[k]?=some (Obj.cells cs e (0,0))->E e->w'.heap[k]?=some (Obj.cells cs e (0,0))
def TmT(e:TypeId):Prop:=e=102\/e=100
def AW(e:TypeId):Prop:=e=102\/e=100\/e=158\/e=161\/e=114\/e=3\/e=9
theorem DK.refl(E:TypeId->Prop)(w:World):DK E w w:=⟨aX _,fun _ _ _ h _=>h⟩
theorem DK.trans{E:TypeId->Prop}{a b c:World}(h:DK E a b)(d:DK E b c):DK E a c:=⟨bN h.size d.size,fun k cs e g f=>d.block k cs e (h.block k cs e g f) f⟩
theorem DK.below{E:TypeId->Prop}{w w':World}(h:Below w.heap.size w w'):DK E w w':=⟨h.size,fun k _ _ a _=>(h.block k (AD a)).trans a⟩
theorem DK.mono{E a:TypeId->Prop}{w w':World}(h:DK E w w')(b:∀e,a e->E e):DK a w w':=⟨h.size,fun k cs e c d=>h.block k cs e c (b e d)⟩
theorem DK.kept{E:TypeId->Prop}{M:Nat->Prop}{w w':World}(h:Kept M w w')(b:∀(k:Nat) (cs:Array Value) (e:TypeId),w.heap[k]?=some (Obj.cells cs e (0,0))->E e->¬M k):DK E w w':=⟨h.size,fun k cs e a c=>(h.block k (AD a) (b k cs e a c)).trans a⟩
theorem DK.setCell{E:TypeId->Prop}{w:World}{b:Nat}{cs:Array Value}{t:TypeId}(h:w.heap[b]?=some (.cells cs t (0,0)))(d:¬E t)(i:Nat)(v:Value):DK E w (w.setCell ⟨b,i,none⟩ v):=by
 refine⟨by simp[World.setCell],fun k c e a f=>(cF _ _ _ _ ?_).trans a⟩;rintro rfl;rw[h] at a;injection a with a;injection a with _ a;exact d (a ▸ f)
theorem DK.grown{E:TypeId->Prop}{w w':World}{row:Option Nat}{t:TypeId}(c:w.grownBy w' row)(i:∀k,row=some k->∃cs,w.heap[k]?=some (.cells cs t (0,0)))(g:¬E t):DK E w w':=by
 refine⟨c.size,fun k cs e b h=>(c.block k (AD b) (fun f=>?_)).trans b⟩;obtain⟨d,a⟩:=i k f.symm;rw[b] at a;injection a with a;injection a with _ a;exact g (a ▸ h)
theorem TmT.doc{e:TypeId}(h:TmT e):AW e:=by
 rcases h with h|h
 ·exact .inl h
 ·exact .inr (.inl h)
theorem cu.dk{E:TypeId->Prop}{F F':Nat->Prop}{w w':World}(o:DK E w w')(l:∀e,TmT e->E e)(m:∀(k:Nat) (cs:Array Value) (e:TypeId),w.heap[k]?=some (Obj.cells cs e (0,0))->TmT e->F k->F' k):∀{d:Nat} {p:Nat} {ps:List AB},cu F w d p ps->cu F' w' d p ps
 |0,_,_,h=>h.elim
 |d+1,p,ps,h=>by
  obtain⟨G,h⟩:=h;have a:∀{k n s v},TmB w p k n s v->TmB w' p k n s v/\F' p:=fun b=>⟨o.block p _ _ b (l _ (.inl rfl)),m p _ _ b (.inl rfl) G⟩
  rcases h with⟨i,h,e⟩|⟨n,h,e⟩|⟨s,h,e⟩|⟨s,v,qs,t,j,u,x,y,z,A⟩
  ·exact⟨(a h).2,.inl ⟨i,(a h).1,e⟩⟩
  ·exact⟨(a h).2,.inr (.inl ⟨n,(a h).1,e⟩)⟩
  ·exact⟨(a h).2,.inr (.inr (.inl ⟨s,(a h).1,e⟩))⟩
  ·have I:aj w' 0 100 1 BQ v (qs.map (·.1)):=by
    refine⟨j.own.1,?_⟩;rcases j.own.2 with D|⟨g,c,f,e,b,C,r⟩
    ·exact .inl D
    ·exact .inr ⟨g,c,f,e,b,o.block g _ _ C (l _ (.inr rfl)),r⟩
   refine⟨(a t).2,.inr (.inr (.inr ⟨s,v,qs,(a t).1,I,fun k e=>?_,x,y,fun q H=>cu.dk o l m (z q H),A⟩))⟩;obtain⟨cs,B⟩:=j.typed k e;exact m k cs _ B (.inr rfl) (u k e)
theorem DTm.dk{E:TypeId->Prop}{w w':World}{p:Nat}{ps:List AB}(h:DTm w p ps)(b:DK E w w')(a:∀e,TmT e->E e):DTm w' p ps:=⟨_,cu.dk b a (fun _ _ _ _ _ _=>trivial) h.choose_spec⟩
theorem DTm.tm{w w':World}{p:Nat}{ps:List AB}(h:DTm w p ps)(a:DK TmT w w'):DTm w' p ps:=h.dk a (fun _ h=>h)
theorem DTm.below{w w':World}{p:Nat}{ps:List AB}(h:DTm w p ps)(a:Below w.heap.size w w'):DTm w' p ps:=h.tm (DK.below a)
theorem dn.any{F:Nat->Prop}{w:World}{p:Nat}{ps:List AB}(h:dn F w p ps):DTm w p ps:=h.mono (fun _ _ _=>trivial)
theorem DTm.lt{w:World}{p:Nat}{ps:List AB}(h:DTm w p ps):p<w.heap.size:=h.ptrLt.2
theorem DTm.w1{w:World}{p:Nat}{ps:List AB}(h:DTm w p ps):Rf.Whole ps 1:=dn.whole h
structure jo{α β:Type}(e:TypeId)(C:α->List Value)(P:World->α->β->Prop)(w:World)(v:Value)(ys:List β):Prop where
 ex:∃acc:List (α×β),Seen w e C v (acc.map (·.1))/\(∀q∈acc,P w q.1 q.2)/\ys=acc.map (·.2)
variable {α β : Type} {e : TypeId} {C : α -> List Value} {P : World -> α -> β -> Prop} {w w' : World} {v : Value} {ys : List β}
theorem Seen.dk{γ:Type}{D:γ->List Value}{c:List γ}{E:TypeId->Prop}(h:Seen w e D v c)(j:DK E w w')(k:E e):Seen w' e D v c:=by
 rcases h.ex with h|⟨g,off,b,a,d,f,i⟩
 ·exact⟨.inl h⟩
 ·exact⟨.inr ⟨g,off,b,a,d,j.block g a e f k,i⟩⟩
theorem jo.dk{E:TypeId->Prop}(h:jo e C P w v ys)(f:DK E w w')(g:E e)(d:∀x y,P w x y->P w' x y):jo e C P w' v ys:=by
 obtain⟨acc,a,b,c⟩:=h.ex;exact⟨acc,Seen.dk a f g,fun q i=>d _ _ (b q i),c⟩
theorem jo.nil:jo e C P w (.slice none 0 0) ([]:List β):=⟨[],Seen.nil,aE,rfl⟩
theorem jo.slice(h:jo e C P w v ys):∃a c,v= .slice a ys.length c:=by
 obtain⟨acc,b,d,rfl⟩:=h.ex;obtain⟨a,c,e⟩:=b.slice;rw[aZ] at e;exact⟨a,c,by rw[aZ];exact e⟩
theorem jo.drop{size:Nat}(f:∀x,(C x).length=size){g off n a:Nat}(h:jo e C P w (.slice (some ⟨g,off,none⟩) n a) ys)(k:Nat)(b:k<=ys.length):jo e C P w (.slice (some ⟨g,off+k*size,none⟩) (ys.length -k) (a-k)) (ys.drop k):=by
 obtain⟨acc,c,d,rfl⟩:=h.ex;rw[aZ] at b;have:=c.drop f k (by rw[aZ];exact b);rw[aZ,<-List.map_drop] at this;refine⟨acc.drop k,by rw[aZ];exact this,fun q i=>d q (bV i),List.map_drop.symm⟩
theorem jo.dropEnd{g off n a:Nat}(h:jo e C P w (.slice (some ⟨g,off,none⟩) n a) ys)(k:Nat)(d:a=k):jo e C P w (.slice (some ⟨g,off,none⟩) (ys.length -k) 0) (ys.drop k):=by
 obtain⟨acc,b,c,rfl⟩:=h.ex;have:=b.dropEnd k d;rw[aZ,<-List.map_drop] at this;refine⟨acc.drop k,by rw[aZ];exact this,fun q f=>c q (bV f),List.map_drop.symm⟩
theorem jo.at{size:Nat}(k:∀x,(C x).length=size){a:Option Addr}{n c:Nat}(h:jo e C P w (.slice a n c) ys){i:Nat}(l:i<ys.length):∃g off x,a=some ⟨g,off,none⟩/\g<w.heap.size/\P w x ys[i]/\∀j u,(C x)[j]?=some u->w.cell? ⟨g,off+(i*size+j),none⟩=some u:=by
 obtain⟨acc,d,f,rfl⟩:=h.ex;have b:i<acc.length:=by simpa using l
 obtain⟨g,off,rfl⟩:=d.pos aJ;refine⟨g,off,acc[i].1,rfl,d.lt,?_,fun j u m=>d.cells k i _ (by simp[b]) j u m⟩;have:=f acc[i] (bG b);simpa using this
structure RMk{α β:Type}(e:TypeId)(size:Nat)(C:α->List Value)(P:World->α->β->Prop)(B:Nat)(wr:World)(v:Value)(acc:List (α×β)):Prop where
 row:aj wr 0 e size C v (acc.map (·.1))
 new:∀k,v.ownBlock=some k->B<=k
 els:∀q∈acc,P wr q.1 q.2
variable {size B : Nat} {wr w1 wA w2 : World} {acc : List (α × β)}
theorem RMk.nil:RMk e size C P B wr (.slice none 0 0) []:=⟨aj.nil _ _ _ _ _,fun k e=>by simp[Value.ownBlock] at e,aE⟩
theorem RMk.over(h:RMk e size C P B wr v acc)(b:Below wr.heap.size wr w1)(a:∀x y,P wr x y->P w1 x y):RMk e size C P B w1 v acc:=⟨h.row.below b,h.new,fun q c=>a _ _ (h.els q c)⟩
theorem RMk.push(h:RMk e size C P B w1 v acc)(a:Below w1.heap.size w1 wA)(t:B<=w1.heap.size){g n c:Nat}{x:α}{y:β}(f:wA.grownBy w2 v.ownBlock)(o:Nb wA v.ownBlock (some g))(p:aj w2 0 e size C (.slice (some ⟨g,0,none⟩) n c) (acc.map (·.1)++[x]))(m:∀x y,P w1 x y->P w2 x y)(hx:P w2 x y):RMk e size C P B w2 (.slice (some ⟨g,0,none⟩) n c) (acc++[(x,y)])/\(∀j:World,Below B j w1->Below B j w2):=by
 have r:=a.size;refine⟨⟨by rw[bE];exact p,fun k e=>?_,fun q b=>?_⟩,fun j d=>⟨f.os.trans (a.os.trans d.os),f.tape.trans (a.tape.trans d.tape),f.output.trans (a.output.trans d.output),bN d.size (bN a.size f.size),fun k l=>?_⟩⟩
 ·obtain rfl:=bF e;rcases o with i|⟨k,i,l⟩
  ·exact h.new _ i.symm
  ·have s:=bF i;show B<=g;omega
 ·rcases bO.1 b with b|b
  ·exact m _ _ (h.els q b)
  ·simp at b;subst b;exact hx
 ·refine(f.block k aD (fun e=>?_)).trans ((a.block k aD).trans (d.block k l));have:=h.new k e.symm;omega
theorem RMk.jw(h:RMk e size C P B w1 v acc)(b:Below w1.heap.size w1 wA):∀k,v.ownBlock=some k->∃cs,wA.heap[k]?=some (.cells cs e (0,0)):=fun k c=>by
 obtain⟨cs,a⟩:=h.row.typed k c;exact⟨cs,(b.block k (AD a)).trans a⟩
theorem RMk.seen(h:RMk e size C P B wr v acc):jo e C P wr v (acc.map (·.2)):=⟨acc,h.row.seen,h.els,rfl⟩
def ES(x:Option Addr×Int):List Value:=[.pointer x.1,.int .i64 x.2]
theorem IL(x:Option Addr×Int): (ES x).length=2:=rfl
theorem KN(x:Option Addr×Int):∀u∈ES x,u.oneCell'=true:=by
 intro u a;simp only[ES,List.mem_cons,dF,or_false] at a;rcases a with rfl|rfl<;>rfl
def FK(x:Nat×Nat):List Value:=[.pointer (some ⟨x.1,0,none⟩),.pointer (some ⟨x.2,0,none⟩)]
theorem IK(x:Nat×Nat): (FK x).length=2:=rfl
theorem KO(x:Nat×Nat):∀u∈FK x,u.oneCell'=true:=by
 intro u a;simp only[FK,List.mem_cons,dF,or_false] at a;rcases a with rfl|rfl<;>rfl
theorem Tryz.zk:D7 prog 55 158 2 16 (.agg #[.pointer none,.int .i64 0]):=⟨underlying55,aK,rfl,aF,aF⟩
theorem Tryz.Am:D7 prog 104 156 2 16 (.agg #[.pointer none,.pointer none]):=⟨underlying104,aK,rfl,aF,aF⟩
def DG(w:World)(x:Option Addr×Int)(ps:List AB):Prop:=(x.1=none/\ps=BY x.2)\/∃p,x.1=some ⟨p,0,none⟩/\DTm w p ps/\(AI ps).kind=3
def DP(w:World)(x:Nat×Nat)(y:List AB×List AB):Prop:=DTm w x.1 y.1/\DTm w x.2 y.2
def DGs(w:World)(v:Value)(gs:List (List AB)):Prop:=jo 158 ES DG w v gs
def DPs(w:World)(v:Value)(l:List (List AB×List AB)):Prop:=jo 156 FK DP w v l
def DTs(w:World)(v:Value)(ts:List (List AB)):Prop:=jo 100 BQ DTm w v ts
theorem DG.tm{w w':World}{x:Option Addr×Int}{ps:List AB}(h:DG w x ps)(d:DK TmT w w'):DG w' x ps:=by
 rcases h with h|⟨p,a,b,c⟩
 ·exact .inl h
 ·exact .inr ⟨p,a,b.tm d,c⟩
theorem DP.tm{w w':World}{x:Nat×Nat}{y:List AB×List AB}(h:DP w x y)(a:DK TmT w w'):DP w' x y:=⟨h.1.tm a,h.2.tm a⟩
theorem DGs.doc{w w':World}{v:Value}{gs:List (List AB)}(h:DGs w v gs)(a:DK AW w w'):DGs w' v gs:=jo.dk h a (.inr (.inr (.inl rfl))) (fun _ _ b=>b.tm (a.mono (fun _ e=>e.doc)))
theorem DTs.doc{w w':World}{v:Value}{ts:List (List AB)}(h:DTs w v ts)(a:DK AW w w'):DTs w' v ts:=jo.dk h a (.inr (.inl rfl)) (fun _ _ b=>b.tm (a.mono (fun _ e=>e.doc)))
theorem DTm.doc{w w':World}{p:Nat}{ps:List AB}(h:DTm w p ps)(a:DK AW w w'):DTm w' p ps:=h.tm (a.mono (fun _ e=>e.doc))
def QC(e:TypeId):Prop:=AW e\/e=156
theorem DPs.dp{w w':World}{v:Value}{l:List (List AB×List AB)}(h:DPs w v l)(a:DK QC w w'):DPs w' v l:=jo.dk h a (.inr rfl) (fun _ _ b=>b.tm (a.mono (fun _ e=> .inl e.doc)))
theorem DGs.dp{w w':World}{v:Value}{gs:List (List AB)}(h:DGs w v gs)(a:DK QC w w'):DGs w' v gs:=h.doc (a.mono (fun _ e=> .inl e))
theorem DTs.dp{w w':World}{v:Value}{ts:List (List AB)}(h:DTs w v ts)(a:DK QC w w'):DTs w' v ts:=h.doc (a.mono (fun _ e=> .inl e))
theorem rB{w:World}{a:Option Addr}{n c:Nat}{ts:List (List AB)}(h:DTs w (.slice a n c) ts){i:Nat}(f:i<ts.length):∃g off p,a=some ⟨g,off,none⟩/\g<w.heap.size/\w.cell? ⟨g,off+i,none⟩=some (.pointer (some ⟨p,0,none⟩))/\DTm w p ts[i]:=by
 obtain⟨g,off,x,e,j,b,d⟩:=jo.at DH h f;have:=d 0 _ rfl;simp only[Nat.mul_one,dG] at this;exact⟨g,off,x,e,j,this,b⟩
theorem gX{w:World}{a:Option Addr}{n c:Nat}{gs:List (List AB)}(h:DGs w (.slice a n c) gs){i:Nat}(f:i<gs.length):∃g off x,a=some ⟨g,off,none⟩/\g<w.heap.size/\w.cell? ⟨g,off+i*2,none⟩=some (.pointer x.1)/\w.cell? ⟨g,off+i*2+1,none⟩=some (.int .i64 x.2)/\DG w x gs[i]:=by
 obtain⟨g,off,x,e,j,d,b⟩:=jo.at IL h f;exact⟨g,off,x,e,j,b 0 _ rfl,b 1 _ rfl,d⟩
theorem qQ{w:World}{a:Option Addr}{n c:Nat}{l:List (List AB×List AB)}(h:DPs w (.slice a n c) l){i:Nat}(f:i<l.length):∃g off p q,a=some ⟨g,off,none⟩/\g<w.heap.size/\w.cell? ⟨g,off+i*2,none⟩=some (.pointer (some ⟨p,0,none⟩))/\w.cell? ⟨g,off+i*2+1,none⟩=some (.pointer (some ⟨q,0,none⟩))/\DTm w p l[i].1/\DTm w q l[i].2:=by
 obtain⟨g,off,x,e,j,b,d⟩:=jo.at IK h f;exact⟨g,off,x.1,x.2,e,j,d 0 _ rfl,d 1 _ rfl,b.1,b.2⟩
def WkB(w:World)(b:Nat)(c a d:Value):Prop:=w.heap[b]?=some (.cells #[c,a,d] 106 (0,0))
theorem aj.putStr{w:World}{base g n b i:Nat}{bs:List ByteArray}(h:aj w base 9 1 A3 (.slice (some ⟨g,0,none⟩) n b) bs)(_:i<bs.length)(s:ByteArray):aj (w.setCell ⟨g,i,none⟩ (.string s)) base 9 1 A3 (.slice (some ⟨g,0,none⟩) n b) (bs.set i s):=by
 obtain⟨r,t⟩:=h.own
 have f:∀l:List ByteArray,l.flatMap A3=l.map Value.string:=fun l=>by
  induction l with
  |nil=>rfl
  |cons a l z=>rw[List.flatMap_cons,z];rfl
 rcases t with⟨e,_⟩|⟨A,k,c,e,u,v,y,x,j,m⟩
 ·cases e
 ·injection e with d o p;injection d with d;injection d with d _ _;subst d o p;rw[f] at r m;refine⟨by rw[f,List.length_set];simp,.inr ⟨g,b,c.setIfInBounds i (.string s),by rw[List.length_set],u,AK v i _,by rw[List.length_set];exact y,x,by simpa using j,?_⟩⟩;rw[f,List.length_set];have q: (c.setIfInBounds i (Value.string s)).toList=c.toList.set i (.string s):=aE;rw[q,List.take_set,m,List.map_set]
def qo(B:Nat)(w:World):Prop:=Lib.TabBelow prog B w "internal/strconv.uint64pow10" .u64 Lib.pow10Tab
theorem qo.tab{B:Nat}{w:World}(h:qo B w):Tab w:=Lib.TabBelow.here h
theorem qo.on{B:Nat}{w w':World}(h:qo B w)(a:Below B w w'):qo B w':=Lib.TabBelow.on h a
def iS(w:World)(base M:Nat)(b:List Int)(r:Ending)(w':World):Prop:=∃c a,r= .returned (.tuple #[c,.int .i64 (b.length:Nat)])/\aj w' base 9 1 A3 c a/\yj b a/\a.length<=M/\Below base w w'/\DK TmT w w'
def jN(d:Nat):Prop:=∀(F:Nat->Prop) (w:World) (p:Nat) (ps:List AB) (v:Value) (bs:List ByteArray) (ns:List Int) (base M:Nat),cu F w d p ps->(∀x∈ps,x.kind=1->0<=x.value/\x.value<(M:Int))->aj w base 9 1 A3 v bs->yj ns bs->bs.length<=M->M<=8000000000000->base<=w.heap.size->ns.length+ps.length<=1000000->qo base w->Calls prog 106 #[.pointer (some ⟨p,0,none⟩),v,.int .i64 (ns.length:Nat)] w fun r w'=>iS w base M (AQ ns ps).2 r w'
theorem WZ:¬TmT 9:=by unfold TmT;decide
theorem wM(w:World)(p:Nat)(v:Value)(bs:List ByteArray)(ns:List Int)(base M i:Nat)(L:TmB w p 118 (i:Nat) ⟨#[]⟩ (.slice none 0 0))(hi:i<M)(q:aj w base 9 1 A3 v bs)(N:yj ns bs)(a2:bs.length<=M)(hM:M<=8000000000000)(a0:base<=w.heap.size)(c5:ns.length+1<=1000000)(hT:qo base w):Calls prog 106 #[.pointer (some ⟨p,0,none⟩),v,.int .i64 (ns.length:Nat)] w fun r w'=>iS w base M (CY ns (i:Nat)) r w':=by
 have HT:=aO hT;have b4:=aO L;have k0:w.cell? ⟨p,0,none⟩=some (.int .u8 118):=AA L 0;have c6:=AD L;obtain⟨a9,c9,e9⟩:=q.seen.slice;subst e9;have E:=aO q;have V:=aO N;have R:Hid (∀X:World,DK TmT w X->TmB X p 118 (i:Nat) ⟨#[]⟩ (.slice none 0 0)):=fun X hd=>hd.block p _ _ L (.inl rfl);clear hT L q N;go_enter func106,ntmps106;go_wp2_with fail;go_loopw [1] (fun W wr=>∃(a:Option Addr) (c:Nat) (h:List ByteArray),W= .slice a h.length c/\Hid (aj wr base 9 1 A3 (.slice a h.length c) h)/\Hid (yj ns h)/\h.length<=M/\Below base w wr/\Hid (DK TmT w wr)) (fun W _=>i+1-(match W with| .slice _ n _=>n|_=>0))
 case atStart=>exact⟨_,_,bs,rfl,E,V,a2,bZ _ _,DK.refl _ _⟩
 case round=>
  obtain⟨a,c,h,rfl,l,S,O,f,o⟩:=hrel;have c7:=f.size;have C:=R.o _ o.o;have y1:wr.cell? ⟨p,1,none⟩=some (.int .i64 (i:Nat)):=AA C 1;have yl:=AD C;clear C;by_cases c4:h.length<=i
  ·have c3: (h.length:Int)<=(i:Int):=aD;go_wp2_with (at_builtin;refine AY Tryz.Aa A3 C7 HJ _ rfl (.tmp 21) (.tmp 22) rfl base (.slice a h.length c) h rfl (l.o.alloc _) ⟨_,0,none⟩ 1 ⟨#[]⟩ rfl (BL _ _ aE _ _) aD aJ ?_;intro gA gu w4 F H qm);go_roundw
   case rel=>
    have m:Below wr.heap.size wr (wr.alloc (Obj.cells #[.string ⟨#[]⟩] 9)):=(bZ _ wr).alloc (aX _) _;have Z:Below base w w4:=⟨H.os.trans f.os,H.tape.trans f.tape,H.output.trans f.output,bN f.size (bN m.size H.size),fun k hk=>(H.block k (by have:=m.size;omega) (fun e=>by have:=(l.o.lt k e.symm).1;omega)).trans ((m.block k aD).trans (f.block k hk))⟩
    have a3:DK TmT w w4:=o.o.trans ((DK.below m).trans (DK.grown H (fun k e=>by
     obtain⟨cs,s⟩:=l.o.typed k e;exact⟨cs,(m.block k (AD s)).trans s⟩) WZ))
    refine⟨some ⟨gA,0,none⟩,gu,h++[(⟨#[]⟩:ByteArray)],?_,?_,show Hid _ from S.o.more,aJ,Z,a3⟩
    ·simp
    ·unfold Hid;simpa using F
   case measure=>simp;omega
  ·have D:i<h.length:=aD;have a8:¬(h.length:Int)<=(i:Int):=aD;have b0: (i:Int)<(h.length:Int):=aD
   obtain⟨g,rfl⟩:∃g,a=some ⟨g,0,none⟩:=by
    rcases l.o.shape with⟨e,Q⟩|⟨gv,cv,e,_⟩
    ·have h7:=congrArg List.length Q;rw[dA] at h7;omega
    ·injection e with e1 _ _;exact⟨gv,e1⟩
   have x:g<wr.heap.size:=(l.o.lt g rfl).2;have a4:base<=g:=(l.o.lt g rfl).1;have a1:base<=wr.heap.size:=aD;have j:=l.o.cells C7 i _ (S.o.at' i D) 0 _ rfl;simp only[Nat.mul_one,dG] at j;by_cases G: (i:Int)∈ns
   ·have J:Hid (CY ns (i:Nat)=ns):=aBf G;have P:GA ns (i:Nat)≠⟨#[]⟩:=uH G
    have b7: (GA ns (i:Nat)).toList.isEmpty=false:=by
     rw[List.isEmpty_eq_false_iff,ByteArray.toList_eq];intro e;exact P (by cases hq:GA ns (i:Nat) with|mk d=>rw[hq] at e;simp at e;rw[e])
    clear P;generalize GA ns (i:Nat)=nm at*;go_wp2_with fail;go_ret2;exact⟨_,h,by rw[J.o];rfl,l.o,by rw[J.o];exact S.o,O,f,o.o⟩
   ·have J:Hid (CY ns (i:Nat)=ns++[(i:Int)]):=aAT G;have he:GA ns (i:Nat)=⟨#[]⟩:=by unfold GA;rw[bC G]
    rw[he] at j
    have c1:wr.frozen? ⟨g,i,none⟩=false:=by
     obtain⟨cs,s⟩:=l.o.typed g rfl;exact AE s i
    have b2: (ns.length:Int)+1<=1000000:=aD
    have HI:Hid (∀X:World,Below wr.heap.size wr X->∀z:Int,z=(ns.length:Int)+1->Calls prog 108 #[.int .i64 z] X fun r w'=>∃t:ByteArray,r= .returned (.string t)/\Hid (t=FR ((ns.length:Nat)+1))/\t.size<=30/\Below wr.heap.size wr w'):=fun X Y z hz=>by
     subst hz;refine(Tryz.strconv_Itoa ((ns.length:Int)+1) aD aD X (Tab.below (qo.tab (HT.o.on f)) Y)).mono ?_;rintro r w1 ⟨rfl,k,os,rfl⟩;refine⟨_,rfl,rfl,?_,Y.trans ((NU _ _ _).mono Y.size)⟩;have:=Go.Lib.itoa_length_le ((ns.length:Int)+1) aD aD;simp[ByteArray.size];omega
    have HM:=aO G;clear he G;go_wp2_with fail;have b5: (fun X:World=>DK TmT wr X/\X.cell? ⟨p,1,none⟩=some (.int .i64 (i:Nat))) wr.drew:=⟨DK.below (bZ _ _).drew,y1⟩
    have a5:p≠g:=fun e=>by
     obtain⟨cs,s⟩:=l.o.typed g rfl;have B:=R.o _ o.o;unfold TmB at B;rw[e,s] at B;injection B with B;injection B with _ B;exact absurd B aF
    have K:Hid (∃cs,wr.heap[g]?=some (.cells cs 9 (0,0))):=l.o.typed g rfl;go_region_held2 (fun X:World=>DK TmT wr X/\X.cell? ⟨p,1,none⟩=some (.int .i64 (i:Nat))) (first|(with_reducible assumption)|exact y|exact A _) ((go_at_call 108;refine(HI.o _ aM _ rfl).mono ?_;rintro r I ⟨t8,rfl,a6,b3,b⟩;have y: (fun X:World=>DK TmT wr X/\X.cell? ⟨p,1,none⟩=some (.int .i64 (i:Nat))) I:=⟨DK.below b,(cD (b.block p yl)).trans y1⟩;have A:∀u,(fun X:World=>DK TmT wr X/\X.cell? ⟨p,1,none⟩=some (.int .i64 (i:Nat))) (I.setCell ⟨g,i,none⟩ u):=(fun u=>by obtain⟨cs,s⟩:=K.o;exact⟨(DK.below b).trans (DK.setCell ((b.block g x).trans s) WZ i u),(World.cell?_setCell_other _ _ _ _ (by intro e;injection e with e;exact a5 e.symm)).trans y.2⟩);have b6:I.cell? ⟨g,i,none⟩=some (.string ⟨#[]⟩):=(cD (b.block g x)).trans j;have c0:I.frozen? ⟨g,i,none⟩=false:=(by obtain⟨cs,s⟩:=K.o;exact AE ((b.block g x).trans s) i);have c2:g<I.heap.size:=bH x b.size;have a7:¬9223372036854775807<1+t8.size:=aD;have T:=aO b;have U:Hid (aj I base 9 1 A3 (.slice (some ⟨g,0,none⟩) h.length c) h):=l.o.below b;clear b));go_wp2_with fail;go_ret2;refine⟨_,h.set i (⟨#[95]⟩++t8),by rw[J.o,bL];rfl,aj.putStr U.o D _,by rw[J.o,a6.o];exact S.o.name D HM.o,by rw[List.length_set];exact O,(f.trans (T.o.mono a1)).setCell a4 _,o.o.trans (A _).1⟩
theorem DK.Nv{E:TypeId->Prop}{w w':World}{a:Option Addr}{n c:Nat}{b:List Nat}(h:Seen w 100 BQ (.slice a n c) b)(e:DK E w w')(d:E 100):Seen w' 100 BQ (.slice a n c) b:=Seen.dk h e d
theorem QH(d:Nat)(IH:jN d)(F:Nat->Prop)(w:World)(p:Nat)(ps:List AB)(v:Value)(bs:List ByteArray)(ns:List Int)(base M:Nat)(k n:Int)(s:ByteArray)(I:Option Addr)(J:Nat)(qs:List (Nat×List AB))(hk:k≠118)(a7:qs.length<=4)(K:TmB w p k n s (.slice I qs.length J))(hs:Seen w 100 BQ (.slice I qs.length J) (qs.map (·.1)))(hq:∀q∈qs,cu F w d q.1 q.2)(f:∃x:AB,x.kind≠1/\ps=x::(qs.map (·.2)).flatten)(hv:∀x∈ps,x.kind=1->0<=x.value/\x.value<(M:Int))(l:aj w base 9 1 A3 v bs)(C:yj ns bs)(S:bs.length<=M)(hM:M<=8000000000000)(R:base<=w.heap.size)(E:ns.length+ps.length<=1000000)(hT:qo base w):Calls prog 106 #[.pointer (some ⟨p,0,none⟩),v,.int .i64 (ns.length:Nat)] w fun r w'=>iS w base M (AQ ns ps).2 r w':=by
 obtain⟨x,hx,f⟩:=f;have HW:Hid ((AQ ns ps).2=(AQ ns (qs.map (·.2)).flatten).2):=by unfold Hid;rw[f];exact vX x hx _ _
 have HV:Hid (∀q∈qs,∀x∈q.2,x.kind=1->0<=x.value/\x.value<(M:Int)):=fun q X y hy=>hv y (by rw[f];exact bA _ (List.mem_flatten.2 ⟨q.2,List.mem_map_of_mem X,hy⟩));have a5:ns.length+(qs.map (·.2)).flatten.length<=1000000:=by rw[f,bM] at E;omega
 obtain⟨a9,c9,e9⟩:=l.seen.slice;subst e9;have HT:=aO hT;have HI:=aO IH;have Hs:=aO hs;have Hq:=aO hq;have HB:=aO K;have k0:w.cell? ⟨p,0,none⟩=some (.int .u8 k):=AA K 0;have a3: (k==118)=false:=by rw[aY];exact hk
 have A:=aO l;have N:=aO C;have a6:=AD K;clear hT IH hs hq K l C f hv E hk;go_enter func106,ntmps106;go_wp2_with fail;go_loopg [1,2,8] (qs.length+1) (fun m bv nv iv wr=>∃(j:Nat) (a:Option Addr) (c:Nat) (t:List ByteArray),j<=qs.length/\m=qs.length+1-j/\iv= .int .i64 (j:Nat)/\nv= .int .i64 ((AQ ns ((qs.map (·.2)).take j).flatten).2.length:Nat)/\bv= .slice a t.length c/\Hid (aj wr base 9 1 A3 (.slice a t.length c) t)/\Hid (yj (AQ ns ((qs.map (·.2)).take j).flatten).2 t)/\t.length<=M/\Below base w wr/\Hid (DK TmT w wr))
 case atStart=>exact⟨0,_,_,bs,aD,rfl,rfl,rfl,rfl,A,N,S,bZ _ _,DK.refl _ _⟩
 case round=>
  obtain⟨j,a,c,t,hj,rfl,rfl,rfl,rfl,oz,L,D,o,i⟩:=hrel;have a8:=o.size;have z:TmB wr p k n s (.slice I qs.length J):=i.o.block p _ _ HB.o (.inl rfl);have y3:wr.cell? ⟨p,3,none⟩=some (.slice I qs.length J):=AA z 3;have yl:=AD z;clear z;have a4:=M4 ((qs.map (·.2)).take j).flatten ns;have a1:=LH (qs.map (·.2)) j;by_cases b:j<qs.length
  ·have a0: (j:Int)<(qs.length:Int):=aD;obtain⟨g,off,rfl,hc,gl⟩:=G0 (DK.Nv Hs.o i.o (.inr rfl)) b;have u:qs[j]∈qs:=bG b;have O:Hid (cu F wr d qs[j].1 qs[j].2):=cu.dk i.o (fun _ h=>h) (fun _ _ _ _ _ h=>h) (Hq.o _ u);have P:Hid (∀x∈qs[j].2,x.kind=1->0<=x.value/\x.value<(M:Int)):=HV.o _ u
   have G:Hid ((AQ ns ((qs.map (·.2)).take (j+1)).flatten).2=(AQ (AQ ns ((qs.map (·.2)).take j).flatten).2 qs[j].2).2):=by
    unfold Hid;rw[xW (qs.map (·.2)) j (by simpa using b) ns];simp
   have V: (AQ ns ((qs.map (·.2)).take j).flatten).2.length+qs[j].2.length<=1000000:=by
    have h2:=LH (qs.map (·.2)) (j+1);rw[ZA (qs:=qs.map (·.2)) (k:=j) (by simpa using b)] at h2;have e: (qs.map (·.2))[j]'(by simpa using b)=qs[j].2:=aE;rw[e] at h2;omega
   have Z:=aO b;generalize W: (AQ ns ((qs.map (·.2)).take j).flatten).2=ms at*;clear W;generalize qs[j]=q at*;go_wp2_with (go_at_call 106;refine(HI.o F wr q.1 q.2 _ t ms base M O.o P.o oz.o L.o D hM aD V (HT.o.on o)).mono ?_;rintro r w2 ⟨v2,b2,rfl,H,Q,U,B,T⟩;obtain⟨a2,c2,e2⟩:=H.seen.slice;subst e2);go_roundg (qs.length -j)
   case measure=>have:=Z.o;omega
   case rel=>exact⟨j+1,_,_,b2,Z.o,(Nat.add_sub_add_right qs.length 1 j).symm,by go_num,by rw[G.o],rfl,H,(by rw[G.o];exact Q),U,o.trans B,i.o.trans T⟩
  ·obtain rfl:j=qs.length:=aD;have Y: (qs.map (·.2)).take qs.length=qs.map (·.2):=bR aE;rw[Y] at L⊢;go_wp2_with fail;go_ret2;exact⟨_,t,by rw[HW.o];rfl,oz.o,by rw[HW.o];exact L.o,D,o,i.o⟩
theorem qP(d:Nat)(r:jN d):jN (d+1):=by
 intro F w p ps v bs ns base M h q b f c m a g o;rcases h.2 with⟨i,k,e⟩|⟨n,k,e⟩|⟨s,k,e⟩|⟨s,E,qs,k,l,_,D,z,A,e⟩
 ·subst e;obtain⟨B,C⟩:=q ⟨1,⟨#[]⟩,i,0⟩ aE rfl;obtain⟨j,rfl⟩:=Int.eq_ofNat_of_zero_le B;have y: (AQ ns [⟨1,⟨#[]⟩,((j:Nat):Int),0⟩]).2=CY ns (j:Nat):=by simp[AQ,BU]
  rw[y];exact wM w p v bs ns base M j k (by have: ((j:Nat):Int)<(M:Int):=C;omega) b f c m a (by simpa using g) o
 ·exact QH d r F w p ps v bs ns base M 110 n _ none 0 [] aF aE k Seen.nil aE ⟨⟨2,⟨#[]⟩,n,0⟩,(show(2:Int)≠1 by decide),by simpa using e⟩ q b f c m a g o
 ·exact QH d r F w p ps v bs ns base M 97 0 s none 0 [] aF aE k Seen.nil aE ⟨⟨3,s,0,0⟩,(show(3:Int)≠1 by decide),by simpa using e⟩ q b f c m a g o
 ·obtain⟨u,x,t⟩:=l.seen.slice;rw[aZ] at t;subst t;exact QH d r F w p ps v bs ns base M 99 0 s u x qs aF z k l.seen A ⟨⟨3,s,0,(qs.length:Nat)⟩,(show(3:Int)≠1 by decide),e⟩ q b f c m a g o
theorem UQ:∀d,jN d
 |0=>fun _ _ _ _ _ _ _ _ _ h=>h.elim
 |d+1=>qP d (UQ d)
end Go.Proofs.Q
namespace Rf
theorem NZ{ts:List (List AB)}{k:Nat}(h:k<ts.length):AO (ts.take (k+1))=AO (ts.take k)+ts[k].length:=by
 rw[bJ h,J0];simp[AO]
theorem RS(ts:List (List AB))(k:Nat):AO (ts.take k)<=AO ts:=by
 have:=J0 (ts.take k) (ts.drop k);rw[List.take_append_drop] at this;omega
theorem PB:∀(a b:List (List AB×List AB)),DY (a++b)=DY a+DY b
 |[],b=>by simp[DY]
 |t::a,b=>by rw[List.cons_append,DY,DY,PB a b];omega
theorem rL{ts:List (List AB×List AB)}{k:Nat}(h:k<ts.length):DY (ts.take (k+1))=DY (ts.take k)+ts[k].1.length+ts[k].2.length:=by
 rw[bJ h,PB];simp[DY];omega
theorem k7(ts:List (List AB×List AB))(k:Nat):DY (ts.take k)<=DY ts:=by
 have:=PB (ts.take k) (ts.drop k);rw[List.take_append_drop] at this;omega
end Rf
namespace Go.Proofs.Q
open Rf _root_.Go.Proofs.Tryz
open Go.RowKit
theorem MZ(w:World)(b:Nat)(U T V:Value)(l:List (List AB×List AB))(gs ts:List (List AB))(O:WkB w b U T V)(L:DPs w U l)(K:DGs w T gs)(M:DTs w V ts)(hz:DY l+AO gs+AO ts<=1000000000000000):Calls prog 45 #[.pointer (some ⟨b,0,none⟩)] w fun r w'=>r= .returned (.int .i64 (DY l+AO gs+AO ts:Nat))/\w'=w:=by
 obtain⟨aP,cP,rfl⟩:=L.slice;obtain⟨aG,cG,rfl⟩:=K.slice;obtain⟨aT,cT,rfl⟩:=M.slice;have⟨k0,k1,k2⟩:=cJ O;simp at k0 k1 k2;have kl:=AD O;have Y:=aO L;have X:=aO K;have Z:=aO M;obtain⟨zP,n⟩:∃z,Hid (z=DY l):=⟨_,rfl⟩
 obtain⟨zG,m⟩:∃z,Hid (z=AO gs):=⟨_,rfl⟩
 obtain⟨zT,o⟩:∃z,Hid (z=AO ts):=⟨_,rfl⟩
 rw[<-n.o,<-m.o,<-o.o] at hz⊢;have a1:l.length<=9223372036854775807:=by obtain⟨acc,C,_,rfl⟩:=L.ex;have:=C.cap;simp[maxLen] at this⊢;omega
 have a0:gs.length<=9223372036854775807:=by obtain⟨acc,C,_,rfl⟩:=K.ex;have:=C.cap;simp[maxLen] at this⊢;omega
 have a2:ts.length<=9223372036854775807:=by obtain⟨acc,C,_,rfl⟩:=M.ex;have:=C.cap;simp[maxLen] at this⊢;omega
 clear O L K M;go_enter func45,ntmps45;go_wp2_with fail;go_loopw [3,4,5,6] (fun I h _ _ wr=>∃i z:Nat,i<=l.length/\h= .int .i64 i/\I= .int .i64 z/\Hid (z=DY (l.take i))/\wr=w) (fun _ h _ _ _=>l.length -(intOf h).toNat)
 case atStart=>exact⟨0,0,aD,rfl,rfl,rfl,rfl⟩
 case round=>
  obtain⟨i,z,R,rfl,rfl,f,E⟩:=hrel;subst wr;have d:=k7 l i;rw[<-f.o,<-n.o] at d;by_cases c:i<l.length
  ·obtain⟨g,off,p,q,rfl,Q,P,c1,t1,S⟩:=qQ Y.o c;have j:Hid (DY (l.take (i+1))=z+l[i].1.length+l[i].2.length):=by unfold Hid;rw[rL c,f.o]
   have a:=k7 l (i+1);rw[j.o,<-n.o] at a;have v:=aO t1;have T2:=aO S;clear t1 S;generalize l[i]=x at*
   go_wp2_with (first
    |(go_at_call_of 72 (Value.pointer (some ⟨p,0,none⟩));refine(O5 v.o aD).mono ?_;rintro r u ⟨rfl,N⟩;subst u)
    |(go_at_call 72;refine(O5 T2.o aD).mono ?_;rintro r u ⟨rfl,N⟩;subst u))
   go_roundw
   case rel=>exact⟨i+1,z+x.1.length+x.2.length,aD,by go_num,by go_num,j.o.symm,by first|rfl|trivial⟩
   case measure=>simp[intOf];omega
  ·obtain rfl:i=l.length:=aD;rw[bR (aX _),<-n.o] at f;have H:z=zP:=f.o;subst H;clear f d;go_wp2_with fail;go_loopw [3,7,8] (fun I h _ wr=>∃i y:Nat,i<=gs.length/\h= .int .i64 i/\I= .int .i64 (z+y:Nat)/\Hid (y=AO (gs.take i))/\wr=w) (fun _ h _ _=>gs.length -(intOf h).toNat)
   case atStart=>exact⟨0,0,aD,rfl,rfl,rfl,rfl⟩
   case round=>
    obtain⟨i,y,R,rfl,rfl,e,E⟩:=hrel;subst wr;have d:=RS gs i;rw[<-e.o,<-m.o] at d;by_cases c:i<gs.length
    ·obtain⟨g,off,x,rfl,Q,P,c1,J⟩:=gX X.o c;have j:Hid (AO (gs.take (i+1))=y+gs[i].length):=by unfold Hid;rw[NZ c,e.o]
     have a:=RS gs (i+1);rw[j.o,<-m.o] at a;obtain⟨W,x2⟩:=x;rcases J with⟨A,B⟩|⟨p,A,B,_⟩
     ·have s:W=none:=A;subst s;have D:gs[i].length=1:=by rw[B];rfl
      rw[D] at j a;clear A B D;go_wp2_with fail;go_roundw
      case rel=>exact⟨i+1,y+1,aD,by go_num,by go_num,j.o.symm,by first|rfl|trivial⟩
      case measure=>simp[intOf];omega
     ·have s:W=some ⟨p,0,none⟩:=A;subst s;have v:=aO B;clear A B;generalize gs[i]=t at*;go_wp2_with (go_at_call 72;refine(O5 v.o aD).mono ?_;rintro r u ⟨rfl,N⟩;subst u);go_roundw
      case rel=>exact⟨i+1,y+t.length,aD,by go_num,by go_num,j.o.symm,by first|rfl|trivial⟩
      case measure=>simp[intOf];omega
    ·obtain rfl:i=gs.length:=aD;rw[bR (aX _),<-m.o] at e;have G:y=zG:=e.o;subst G;clear e d;go_wp2_with fail;go_loopw [3,9,10] (fun I h _ wr=>∃i x:Nat,i<=ts.length/\h= .int .i64 i/\I= .int .i64 (z+y+x:Nat)/\Hid (x=AO (ts.take i))/\wr=w) (fun _ h _ _=>ts.length -(intOf h).toNat)
     case atStart=>exact⟨0,0,aD,rfl,rfl,rfl,rfl⟩
     case round=>
      obtain⟨i,x,R,rfl,rfl,k,E⟩:=hrel;subst wr;have d:=RS ts i;rw[<-k.o,<-o.o] at d;by_cases c:i<ts.length
      ·obtain⟨g,off,p,rfl,Q,P,J⟩:=rB Z.o c;have j:Hid (AO (ts.take (i+1))=x+ts[i].length):=by unfold Hid;rw[NZ c,k.o]
       have a:=RS ts (i+1);rw[j.o,<-o.o] at a;have v:=aO J;clear J;generalize ts[i]=t at*;go_wp2_with (go_at_call 72;refine(O5 v.o aD).mono ?_;rintro r u ⟨rfl,N⟩;subst u);go_roundw
       case rel=>exact⟨i+1,x+t.length,aD,by go_num,by go_num,j.o.symm,by first|rfl|trivial⟩
       case measure=>simp[intOf];omega
      ·obtain rfl:i=ts.length:=aD;rw[bR (aX _),<-o.o] at k;have F:x=zT:=k.o;subst F;go_wp2_with fail;go_ret;exact⟨rfl,rfl⟩
end Go.Proofs.Q
namespace Rf
theorem aAj{v h:Int}{x:List AB}:AP v x (BY h)=BY h:=SV (by simp[isV])
theorem zM{v:Int}{x ps:List AB}(h: (AI ps).kind=3): (AI (AP v x ps)).kind=3:=by
 cases ps with
 |nil=>exact absurd h aF
 |cons p t=>
  have a:p.kind=3:=h;rw[AP,bC (by simp[isV,a])];exact a
end Rf
namespace Go.Proofs.Q
open Rf _root_.Go.Proofs.Tryz
open Go.RowKit
theorem mQ(w:World)(N:Nat)(b:N=w.heap.size)(x y:Value)(t:TypeId):∀j v,[x,y][j]?=some v->(w.alloc (.cells #[x,y] t)).cell? ((⟨N,0,none⟩:Addr).add j)=some v:=by
 subst b;intro j v a
 match j,a with
 |0,a=>simp at a;subst a;simp[Addr.add]
 |1,a=>simp at a;subst a;simp[Addr.add]
 |(j+2),a=>simp at a
theorem L7:¬TmT 156:=by unfold TmT;decide
theorem K6:¬TmT 158:=by unfold TmT;decide
structure xw(B:Nat)(wr:World)(v:Value)(acc:List (Nat×List AB)):Prop where
 row:aj wr 0 100 1 BQ v (acc.map (·.1))
 new:∀k,v.ownBlock=some k->B<=k
 els:∀q∈acc,dn (fun k=>v.ownBlock≠some k) wr q.1 q.2
theorem xw.nil{B:Nat}{wr:World}:xw B wr (.slice none 0 0) []:=⟨aj.nil _ _ _ _ _,fun k e=>by simp[Value.ownBlock] at e,aE⟩
theorem xw.over{B:Nat}{wr b:World}{v:Value}{acc:List (Nat×List AB)}(h:xw B wr v acc)(a:Below wr.heap.size wr b):xw B b v acc:=⟨h.row.below a,h.new,fun q c=>(h.els q c).over a (fun _ _ e=>e)⟩
theorem xw.push{B:Nat}{b o f:World}{v:Value}{acc:List (Nat×List AB)}(h:xw B b v acc)(r:Below b.heap.size b o)(C:B<=b.heap.size){g n c p:Nat}{ps:List AB}(w:o.grownBy f v.ownBlock)(t:Nb o v.ownBlock (some g))(y:aj f 0 100 1 BQ (.slice (some ⟨g,0,none⟩) n c) (acc.map (·.1)++[p]))(hx:dn (fun k=>v.ownBlock≠some k) b p ps):xw B f (.slice (some ⟨g,0,none⟩) n c) (acc++[(p,ps)])/\(∀m:World,Below B m b->Below B m f):=by
 have z:=r.size;have d:Kept (fun k=>v.ownBlock=some k) b f:=(Kept.of_below r (fun k=>v.ownBlock=some k)).grown w (fun k e=> .inr e);have u:∀q qs,dn (fun k=>v.ownBlock≠some k) b q qs->dn (fun k=>(Value.slice (some ⟨g,0,none⟩) n c).ownBlock≠some k) f q qs:=fun q qs a=>a.keptBy d (fun k x s=>⟨fun e=>s e,fun e=>t.ne s aD e⟩);refine⟨⟨by rw[bE];exact y,fun k e=>?_,fun q a=>?_⟩,fun m i=>⟨d.os.trans i.os,d.tape.trans i.tape,d.output.trans i.output,bN i.size d.size,fun k l=>(d.block k aD (fun e=>by have:=h.new k e;omega)).trans (i.block k l)⟩⟩
 ·obtain rfl:=bF e;rcases t with j|⟨k,j,d⟩
  ·exact h.new _ j.symm
  ·have A:=bF j;show B<=g;omega
 ·rcases bO.1 a with a|a
  ·exact u _ _ (h.els q a)
  ·simp at a;subst a;exact u _ _ hx
theorem xw.seen{B:Nat}{wr:World}{v:Value}{acc:List (Nat×List AB)}(h:xw B wr v acc):DTs wr v (acc.map (·.2)):=⟨acc,h.row.seen,fun q a=>(h.els q a).any,rfl⟩
theorem TZ{wr a:World}{c c1 u:Value}{lit:Obj}(b:Below (wr.alloc (.cells #[c,c1] 158)).heap.size (wr.alloc (.cells #[c,c1] 158)) a):a.heap[wr.heap.size]?=some (.cells #[c,c1] 158 (0,0))/\Below wr.heap.size wr a/\Below wr.heap.size wr ((a.setCell ⟨wr.heap.size,0,none⟩ u).alloc lit)/\DK TmT a ((a.setCell ⟨wr.heap.size,0,none⟩ u).alloc lit):=by
 have e:a.heap[wr.heap.size]?=some (.cells #[c,c1] 158 (0,0)):=(b.block _ aE).trans (AJ wr _);have d:Below wr.heap.size wr a:=((bZ _ wr).alloc (aX _) _).trans (b.mono aE);have f:=d.size;exact⟨e,d,(d.setCell aE _).alloc (by simpa[World.setCell] using f) _,(DK.setCell e K6 0 u).trans (DK.below ((bZ _ _).alloc (aX _) _))⟩
def WO(w:World)(b:Nat)(v:Int)(a:List AB)(l:List (List AB×List AB))(gs ts:List (List AB))(r:Ending)(w':World):Prop:=
 r= .returned (.tuple #[])/\Kept (fun k=>k=b) w w'/\∃d c e,WkB w' b d c e/\DPs w' d (l.map (LM v a))/\DGs w' c (gs.map (AP v a))/\DTs w' e (ts.map (AP v a))
theorem kR(w:World)(b x:Nat)(v:Int)(n:List AB)(vP vG vT:Value)(l:List (List AB×List AB))(gs ts:List (List AB))(hB:WkB w b vP vG vT)(hP:DPs w vP l)(hG:DGs w vG gs)(hT:DTs w vT ts)(hx:DTm w x n)(c3:l.length<=1000000000000)(c4:gs.length<=1000000000000)(c5:ts.length<=1000000000000):Calls prog 167 #[.pointer (some ⟨b,0,none⟩),.int .i64 v,.pointer (some ⟨x,0,none⟩)] w fun r w'=>WO w b v n l gs ts r w':=by
 obtain⟨aP,cP,rfl⟩:=hP.slice;obtain⟨aG,cG,rfl⟩:=hG.slice;obtain⟨aT,cT,rfl⟩:=hT.slice;have k0:w.cell? ⟨b,0,none⟩=some (.slice aP l.length cP):=AA hB 0;have O:=AD hB;have M:=aO hB;have HP:=aO hP;have HG:=aO hG;have HT:=aO hT;have HX:=aO hx;clear hB hP hG hT hx;go_enter func167,ntmps167;go_wp2_with fail;go_loopw [6,7,8,9] (fun lv G _ _ wr=>∃(vl:Value) (i:Nat) (acc:List ((Nat×Nat)×(List AB×List AB))),vl=lv/\i<=l.length/\G= .int .i64 i/\RMk 156 2 FK DP w.heap.size wr vl acc/\Hid (acc.map (·.2)=(l.take i).map (LM v n))/\Below w.heap.size w wr) (fun _ G _ _ _=>l.length -(intOf G).toNat)
 case atStart=>exact⟨_,0,[],rfl,aD,rfl,RMk.nil,rfl,bZ _ _⟩
 case round=>
  obtain⟨vl,i,acc,rfl,hi,rfl,s,c,m⟩:=hrel;have z:acc.length=i:=by have:=congrArg List.length c.o;simp at this;omega
  have b5:=m.size;by_cases B:i<l.length
  ·have y0:wr.cell? ⟨b,0,none⟩=some (.slice aP l.length cP):=AA ((m.block b O).trans M.o) 0;obtain⟨g,off,p,q,rfl,gl,c0,c1,t1,t2⟩:=qQ (HP.o.dp (DK.below m)) B;have T1:=aO t1;have T2:=aO t2;have X:Hid (DTm wr x n):=DTm.below HX.o m
   have Y:Hid (∀P:Nat×Nat,(acc++[(P,LM v n l[i])]).map (·.2)=(l.take (i+1)).map (LM v n)):=fun P=>by
    rw[bE,c.o,H8 _ B];rfl
   clear t1 t2 k0;generalize l[i]=e at*
   go_wp2_with (first
    |(at_builtin;refine AY Tryz.Am FK IK KO _ rfl (.tmp 47) (.tmp 51) rfl 0 _ (acc.map (·.1)) rfl (T.row.alloc _) ⟨_,0,none⟩ 1 (I,q2) rfl (mQ _ _ rfl _ _ _) aJ (bK _) ?_;intro gA gu w4 a H U;rw[aZ,z] at a;have o:=(bZ _ w3).alloc (aX _) (Obj.cells #[.pointer (some ⟨I,0,none⟩),.pointer (some ⟨q2,0,none⟩)] 156);have C:=(DK.below o).trans (DK.grown H (T.jw o) L7);have j:=T.push (y:=LM v n e) o aD H U a (fun _ _ h=>h.tm C) ⟨(F.any.below f).tm C,b0.any.tm C⟩)
    |(go_at_call_of 179 (Value.pointer (some ⟨p,0,none⟩));refine(VB v (fun _ _=>trivial) T1.o X.o).mono ?_;rintro r L ⟨I,rfl,F,d⟩;have Y0:L.cell? ⟨b,0,none⟩=some (.slice (some ⟨g,off,none⟩) l.length cP):=(cD (d.block b aD)).trans y0;have Y1:L.cell? ⟨g,off+i*2+1,none⟩=some (.pointer (some ⟨q,0,none⟩)):=(cD (d.block g gl)).trans c1;have a9:=DTm.below T2.o d;have R:=DTm.below X.o d;have c2:g<L.heap.size:=bH gl d.size;have K:=s.over d (fun _ _ h=>h.tm (DK.below d)))
    |(go_at_call 179;refine(VB v (fun _ _=>trivial) a9 R).mono ?_;rintro r w3 ⟨q2,rfl,b0,f⟩;have T:=K.over f (fun _ _ h=>h.tm (DK.below f));have c6:=bN d.size f.size))
   go_roundw
   case rel=>exact⟨_,i+1,_,rfl,aD,by go_num,j.1,Y.o _,j.2 w (m.trans ((d.trans (f.mono d.size)).mono m.size))⟩
   case measure=>simp[intOf];omega
  ·obtain rfl:i=l.length:=aD
   have a0:Hid (DPs wr vl (l.map (LM v n))):=by
    have:=s.seen;rw[c.o,bR (aX _)] at this;exact this
   have y1:wr.cell? ⟨b,0,none⟩=some (.slice aP l.length cP):=AA ((m.block b O).trans M.o) 0;have z1:wr.cell? ⟨b,1,none⟩=some (.slice aG gs.length cG):=AA ((m.block b O).trans M.o) 1;obtain⟨W,b6⟩:∃W,W=wr:=⟨_,rfl⟩
   subst b6;clear s c k0 z acc;go_wp2_with fail;go_loopw [10,11,12] (fun lv G _ wr=>∃(vg:Value) (i:Nat) (acc:List ((Option Addr×Int)×List AB)),vg=lv/\i<=gs.length/\G= .int .i64 i/\RMk 158 2 ES DG W.heap.size wr vg acc/\Hid (acc.map (·.2)=(gs.take i).map (AP v n))/\Below W.heap.size W wr) (fun _ G _ _=>gs.length -(intOf G).toNat)
   case atStart=>exact⟨_,0,[],rfl,aD,rfl,RMk.nil,rfl,bZ _ _⟩
   case round=>
    obtain⟨vg,i,acc,rfl,hi,rfl,s,c,d⟩:=hrel;have z:acc.length=i:=by have:=congrArg List.length c.o;simp at this;omega
    have a7:=d.size;have A:Below w.heap.size w wr:=m.trans (d.mono m.size);by_cases B:i<gs.length
    ·have y0:wr.cell? ⟨b,1,none⟩=some (.slice aG gs.length cG):=AA ((A.block b O).trans M.o) 1;obtain⟨g,off,e,rfl,gl,c0,c1,hD⟩:=gX (HG.o.doc (DK.below A)) B;have X:Hid (DTm wr x n):=DTm.below HX.o A
     have Y:Hid (∀P:Option Addr×Int,(acc++[(P,AP v n gs[i])]).map (·.2)=(gs.take (i+1)).map (AP v n)):=fun P=>by
      rw[bE,c.o,H8 _ B];rfl
     obtain⟨x1,J⟩:=e;clear y1 z1;rcases hD with⟨e1,e2⟩|⟨p,e1,e2,e3⟩
     ·have S:x1=none:=e1;subst S;have b3:Hid (AP v n gs[i]=BY J):=by unfold Hid;rw[e2];exact aAj
      clear e1 e2;have o:Below wr.heap.size wr ((wr.alloc (Obj.cells #[.pointer none,.int .i64 J] 158)).alloc (Obj.cells #[.pointer none,.int .i64 J] 158)):=((bZ _ wr).alloc (aX _) _).alloc aE _;have Q:=aO o;clear o;go_wp2_with (at_builtin;refine AY Tryz.zk ES IL KN _ rfl (.tmp 78) (.tmp 80) rfl 0 _ (acc.map (·.1)) rfl ((s.row.alloc _).alloc _) ⟨_,0,none⟩ 1 (none,J) rfl (EX _ _ aE _ _ _) aJ (bK _) ?_;intro gA gu w4 a H U;rw[aZ,z] at a;have C:=(DK.below Q.o).trans (DK.grown H (s.jw Q.o) K6);have j:=s.push (y:=BY J) Q.o aD H U a (fun _ _ h=>h.tm C) (.inl ⟨rfl,rfl⟩));go_roundw
      case rel=>
       refine⟨_,i+1,_,rfl,aD,by go_num,j.1,?_,j.2 W d⟩;have:=Y.o (none,J);rw[b3.o] at this;exact this
      case measure=>simp[intOf];omega
     ·have S:x1=some ⟨p,0,none⟩:=e1;subst S;have T1:Hid (DTm (wr.alloc (Obj.cells #[.pointer (some ⟨p,0,none⟩),.int .i64 J] 158)) p gs[i]):=e2.below ((bZ _ wr).alloc (aX _) _);have R:Hid (DTm (wr.alloc (Obj.cells #[.pointer (some ⟨p,0,none⟩),.int .i64 J] 158)) x n):=DTm.below X.o ((bZ _ wr).alloc (aX _) _);have b2:Hid ((AI (AP v n gs[i])).kind=3):=zM e3;clear e1 e2 e3;generalize gs[i]=t at*
      go_wp2_with (first
       |(at_builtin;obtain⟨_,f,o,b1⟩:=TZ (u:= .pointer (some ⟨I,0,none⟩)) (lit:=Obj.cells #[.pointer (some ⟨I,0,none⟩),.int .i64 J] 158) E;have b4:aj (L.setCell ⟨wr.heap.size,0,none⟩ (.pointer (some ⟨I,0,none⟩))) 0 158 2 ES vg (acc.map (·.1)):=(s.row.below f).setCell _ _ (fun e=>by have h9:=(s.row.lt _ e).2;simp at h9);refine AY Tryz.zk ES IL KN _ rfl (.tmp 78) (.tmp 80) rfl 0 _ (acc.map (·.1)) rfl (b4.alloc _) ⟨_,0,none⟩ 1 (some ⟨I,0,none⟩,J) rfl (EX _ _ (by simp[World.setCell]) _ _ _) aJ (bK _) ?_;intro gA gu w4 a H U;rw[aZ,z] at a;have a6:=DK.grown H (s.jw o) K6;have C:=(DK.below o).trans a6;have j:=s.push (y:=AP v n t) o aD H U a (fun _ _ h=>h.tm C) (.inr ⟨I,rfl,(F.any.tm b1).tm a6,b2.o⟩))
       |(go_at_call 179;refine(VB v (fun _ _=>trivial) T1.o R.o).mono ?_;rintro r L ⟨I,rfl,F,E⟩;obtain⟨hY,f,_,_⟩:=TZ (u:= .pointer none) (lit:=Obj.cells #[] 158) E;have⟨Y0,Y1⟩:=cI hY;simp at Y0 Y1;have Yf:=AE hY;have Yl:=AD hY))
      go_roundw
      case rel=>exact⟨_,i+1,_,rfl,aD,by go_num,j.1,Y.o _,j.2 W d⟩
      case measure=>simp[intOf];omega
    ·obtain rfl:i=gs.length:=aD
     have a1:Hid (DGs wr vg (gs.map (AP v n))):=by
      have:=s.seen;rw[c.o,bR (aX _)] at this;exact this
     have N:Hid (DPs wr vl (l.map (LM v n))):=a0.o.dp (DK.below d);have y2:wr.cell? ⟨b,1,none⟩=some (.slice aG gs.length cG):=AA ((A.block b O).trans M.o) 1;have z2:wr.cell? ⟨b,2,none⟩=some (.slice aT ts.length cT):=AA ((A.block b O).trans M.o) 2;obtain⟨Z,b7⟩:∃Z,Z=wr:=⟨_,rfl⟩
     subst b7;have c7:=A.size;clear s c z acc y1 z1 a0 a7 d m b5;go_wp2_with fail;go_loopw [13,14,15] (fun lv G _ wr=>∃(V:Value) (i:Nat) (acc:List (Nat×List AB)),V=lv/\i<=ts.length/\G= .int .i64 i/\xw Z.heap.size wr V acc/\Hid (acc.map (·.2)=(ts.take i).map (AP v n))/\Below Z.heap.size Z wr) (fun _ G _ _=>ts.length -(intOf G).toNat)
     case atStart=>exact⟨_,0,[],rfl,aD,rfl,xw.nil,rfl,bZ _ _⟩
     case round=>
      obtain⟨V,i,acc,rfl,hi,rfl,s,c,f⟩:=hrel;have z:acc.length=i:=by have:=congrArg List.length c.o;simp at this;omega
      have a8:=f.size;have D:Below w.heap.size w wr:=A.trans (f.mono A.size);clear y2 z2;by_cases B:i<ts.length
      ·have y0:wr.cell? ⟨b,2,none⟩=some (.slice aT ts.length cT):=AA ((D.block b O).trans M.o) 2;obtain⟨g,off,p,rfl,a5,a4,hD⟩:=rB HT.o B;have c0:wr.cell? ⟨g,off+i,none⟩=some (.pointer (some ⟨p,0,none⟩)):=(cD (D.block g a5)).trans a4;have gl:g<wr.heap.size:=aD;have T1:Hid (dn (fun k=>V.ownBlock≠some k) wr p ts[i]):=dn.over hD D (fun k hk _ e=>by have:=s.new k e;omega);have X:Hid (dn (fun k=>V.ownBlock≠some k) wr x n):=dn.over HX.o D (fun k hk _ e=>by have:=s.new k e;omega);have hF:Hid (∀k,wr.heap.size<=k->V.ownBlock≠some k):=fun k hk e=>by have:=(s.row.lt k e).2;omega
       have Y:Hid (∀P:Nat,(acc++[(P,AP v n ts[i])]).map (·.2)=(ts.take (i+1)).map (AP v n)):=fun P=>by
        rw[bE,c.o,H8 _ B];rfl
       clear hD a4 a5;generalize ts[i]=t at*
       go_wp2_with (first
        |(at_builtin;refine AY Tryz.uj BQ DH ET _ rfl (.tmp 101) (.tmp 103) rfl 0 _ (acc.map (·.1)) rfl (K.row.alloc _) ⟨_,0,none⟩ 1 I rfl (BL _ _ rfl _ _) aJ (bK _) ?_;intro gA gu w4 a H U;rw[aZ,z] at a;have j:=K.push ((bZ _ L).alloc (aX _) _) (bN a8 E.size) H U a F)
        |(go_at_call 179;refine(VB v hF.o T1.o X.o).mono ?_;rintro r L ⟨I,rfl,F,E⟩;have K:=s.over E))
       go_roundw
       case rel=>exact⟨_,i+1,_,rfl,aD,by go_num,j.1,Y.o _,j.2 Z (f.trans (E.mono f.size))⟩
       case measure=>simp[intOf];omega
      ·obtain rfl:i=ts.length:=aD
       have a2:Hid (DTs wr V (ts.map (AP v n))):=by
        have:=s.seen;rw[c.o,bR (aX _)] at this;exact this
       have hW:WkB wr b (.slice aP l.length cP) (.slice aG gs.length cG) (.slice aT ts.length cT):=(D.block b O).trans M.o;have HW:=aO hW;have⟨w0,w1,L⟩:=cJ hW;have wf:=AE hW;have wl:=AD hW;simp at w0 w1 L;obtain⟨al,cl,q1⟩:=N.o.slice;rw[aZ] at q1;subst q1;obtain⟨ag,cg,q2⟩:=a1.o.slice;rw[aZ] at q2;subst q2;obtain⟨a3,ct,q3⟩:=a2.o.slice;rw[aZ] at q3;subst q3;clear hW s c;go_wp2_with fail;go_end0;have h1:=AK HW.o 0 (.slice al l.length cl);have h2:=AK h1 1 (.slice ag gs.length cg);have h3:=AK h2 2 (.slice a3 ts.length ct);have hN:¬QC 106:=by unfold QC AW;decide
       have hd:=((DK.setCell HW.o hN 0 _).trans (DK.setCell h1 hN 1 _)).trans (DK.setCell h2 hN 2 (.slice a3 ts.length ct));exact⟨rfl,(Kept.of_below D _).trans (by repeat'(first|exact QE _ _|refine QL ?_ ?_ _|refine P6 ?_|refine QU ?_ _|refine QN ?_ _|exact Or.inr rfl|exact Or.inr (Or.inl rfl)|(refine Or.inl ?_;simp;done)|(refine Or.inl ?_;simp;omega))) (fun _ _ e=>e),_,_,_,h3,(N.o.dp (DK.below f)).dp hd,(a1.o.dp (DK.below f)).dp hd,a2.o.dp hd⟩
end Go.Proofs.Q
