import Derived.Lib.Atoi
import Derived.Lib.ItoaNum
import Derived.Lib.ItoaLen
theorem aD{p:Prop}(h:p:=by omega):p:=h
theorem aE{p:Prop}(h:p:=by simp):p:=h
theorem aF{p:Prop}(h:p:=by decide):p:=h
theorem aI{p:Prop}(h:p:=by simp<;>omega):p:=h
theorem aJ{p:Prop}(h:p:=by simp;omega):p:=h
theorem aX:type_of% @Nat.le_refl:=@Nat.le_refl
theorem aY:type_of% @beq_eq_false_iff_ne:=@beq_eq_false_iff_ne
theorem aZ:type_of% @List.length_map:=@List.length_map
theorem bA:type_of% @List.mem_cons_of_mem:=@List.mem_cons_of_mem
theorem bC:type_of% @if_neg:=@if_neg
theorem bD:type_of% @if_pos:=@if_pos
theorem bE:type_of% @List.map_append:=@List.map_append
theorem bF:type_of% @Option.some.inj:=@Option.some.inj
theorem bG:type_of% @List.getElem_mem:=@List.getElem_mem
theorem bH:type_of% @Nat.lt_of_lt_of_le:=@Nat.lt_of_lt_of_le
theorem bI:type_of% @ByteArray.size_append:=@ByteArray.size_append
theorem bJ:type_of% @List.take_succ_eq_append_getElem:=@List.take_succ_eq_append_getElem
theorem bK:type_of% @Nat.zero_le:=@Nat.zero_le
theorem bL:type_of% @List.length_append:=@List.length_append
theorem bM:type_of% @List.length_cons:=@List.length_cons
theorem bN:type_of% @Nat.le_trans:=@Nat.le_trans
theorem bO:type_of% @List.mem_append:=@List.mem_append
theorem bP:type_of% @List.mem_cons:=@List.mem_cons
theorem bQ:type_of% @List.mem_map:=@List.mem_map
theorem bR:type_of% @List.take_of_length_le:=@List.take_of_length_le
theorem bS:type_of% @List.getElem?_eq_some_iff:=@List.getElem?_eq_some_iff
theorem bT:type_of% @eq_of_beq:=@eq_of_beq
theorem bU:type_of% @List.getElem?_eq_getElem:=@List.getElem?_eq_getElem
theorem bV:type_of% @List.mem_of_mem_drop:=@List.mem_of_mem_drop
theorem bW:type_of% @List.length_take:=@List.length_take
theorem bX:type_of% @List.length_reverse:=@List.length_reverse
theorem cX:type_of% @Except.ok.injEq:=@Except.ok.injEq
theorem cY:type_of% @Prod.mk.injEq:=@Prod.mk.injEq
theorem dA:type_of% @List.length_nil:=@List.length_nil
theorem dB:type_of% @List.setIfInBounds_toArray:=@List.setIfInBounds_toArray
theorem dC:type_of% @List.set_cons_zero:=@List.set_cons_zero
theorem dD:type_of% @List.set_cons_succ:=@List.set_cons_succ
theorem dE:type_of% @ByteArray.append_assoc:=@ByteArray.append_assoc
theorem dF:type_of% @List.not_mem_nil:=@List.not_mem_nil
theorem dG:type_of% @Nat.add_zero:=@Nat.add_zero
namespace Rf
def BA(s:ByteArray)(k:Nat):Int:=((s.data.toList)[k]?.getD 0).toNat
theorem BF(s:ByteArray)(k:Nat)(h:k<s.size): (s[k].toNat:Int)=BA s k:=by
 unfold BA;have a:k<s.data.toList.length:=by simpa using h
 rw[bU a];rfl
def A9(c:Int):Bool:=decide (48<=c)&&decide (c<=57)
def B9(c:Int):Bool:=(decide (97<=c)&&decide (c<=122))||(decide (65<=c)&&decide (c<=90))||c==95||(decide (48<=c)&&decide (c<=57))
def okB(a:Bool)(c:Int):Bool:=B9 c&&(!a||A9 c)
def AN(s:ByteArray)(a:Bool)(n:Nat):Nat:=((s.data.toList.drop n).takeWhile fun c=>okB a c.toNat).length
theorem LB(s:ByteArray)(n:Nat)(h:n<s.size):s.data.toList.drop n=s[n]::s.data.toList.drop (n+1):=by
 have a:n<s.data.toList.length:=by simpa using h
 rw[List.drop_eq_getElem_cons a];rfl
theorem JH(s:ByteArray)(a:Bool)(n:Nat)(h:n<s.size)(b:okB a (BA s n)=true):AN s a n=AN s a (n+1)+1:=by
 unfold AN;rw[LB s n h,List.takeWhile_cons,bD (by rw[BF s n h];exact b)];simp
theorem PQ(s:ByteArray)(a:Bool)(n:Nat)(h:n<s.size)(b:okB a (BA s n)=false):AN s a n=0:=by
 unfold AN;rw[LB s n h,List.takeWhile_cons,bC (by rw[BF s n h,b];simp)];rfl
theorem LS(s:ByteArray)(a:Bool)(n:Nat)(h:s.size<=n):AN s a n=0:=by
 unfold AN;rw[List.drop_of_length_le (by simpa using h)];rfl
theorem GD(s:ByteArray)(a:Bool)(n:Nat):AN s a n<=s.size -n:=by
 unfold AN;refine bN (List.takeWhile_sublist _).length_le ?_;simp
def DQ(s:ByteArray)(a:Bool)(n:Nat):ByteArray:=s.extract n (n+AN s a n)
theorem FM(s:ByteArray)(a:Bool)(n:Nat): (DQ s a n).size=AN s a n:=by
 have:=GD s a n;unfold DQ;rw[ByteArray.size_extract];by_cases h:n<=s.size
 ·omega
 ·have:=LS s a n aD;omega
structure Tok where
 k:Int
 at_:Nat
 s:ByteArray
 e:Int
def bad(a:Nat)(e:Int):Tok:=⟨63,a,⟨#[]⟩,e⟩
def CU(a:Nat)(b:Bool)(w:ByteArray):Tok:=
 if w.size=0 then bad a 2 else if 9<w.size then bad a 3 else⟨110,a,if b then⟨#[45]⟩++w else w,0⟩
def DS(a:Nat)(c:Int)(w:ByteArray):Tok:=
 if 12<w.size then bad a 3 else if 97<=c/\c<=122 then⟨97,a,w,0⟩ else⟨118,a,w,0⟩
def FC(c:Int):Bool:=c==40||c==41||c==44||c==46||c==33
def AG(s:ByteArray)(n:Nat):Tok:=
 if BA s n=45 then CU n true (DQ s true (n+1))
 else if A9 (BA s n)=true then CU n false (DQ s true n)
 else if B9 (BA s n)=true then DS n (BA s n) (DQ s false n)
 else if FC (BA s n)=true then⟨BA s n,n,s.extract n (n+1),0⟩
 else if BA s n=58/\n+1<s.size/\BA s (n+1)=45 then⟨58,n,⟨#[58,45]⟩,0⟩
 else bad n 2
theorem SJ(W:ByteArray): (⟨#[45]⟩++W:ByteArray).size=W.size+1:=by
 rw[bI];show 1+W.size=_;omega
theorem YY(n:Nat)(a:Bool)(W:ByteArray)(h: (CU n a W).k≠63): (CU n a W).s.size=W.size+(if a then 1 else 0)/\1<=W.size:=by
 unfold CU at*;split at h
 ·simp[bad] at h
 ·split at h
  ·simp[bad] at h
  ·rename_i b c;rw[bC b,bC c]
   cases a
   ·simp;omega
   ·show(⟨#[45]⟩++W:ByteArray).size=W.size+1/\1<=W.size;rw[SJ];omega
theorem VK(n:Nat)(c:Int)(W:ByteArray)(h: (DS n c W).k≠63): (DS n c W).s=W:=by
 unfold DS at*;split at h
 ·simp[bad] at h
 ·rename_i a;rw[bC a];split<;>rfl
theorem kG(c:Int)(h:A9 c=true):B9 c=true:=by
 unfold A9 at h;unfold B9;simp at h;simp;omega
theorem rM(s:ByteArray)(a:Bool)(n:Nat)(h:n<s.size)(b:okB a (BA s n)=true):1<=AN s a n:=by
 rw[JH s a n h b];omega
theorem ME(s:ByteArray)(n:Nat)(e:n<s.size)(h: (AG s n).k≠63):1<=(AG s n).s.size/\n+(AG s n).s.size<=s.size:=by
 have i:=GD s true (n+1);have g:=GD s true n;have j:=GD s false n;unfold AG at*;split at h
 ·rename_i d;rw[bD d];have:=YY _ _ _ h;rw[FM] at this;simp at this;omega
 ·rename_i d;rw[bC d];split at h
  ·rename_i c;rw[bD c];have:=YY _ _ _ h;rw[FM] at this;simp at this;omega
  ·rename_i c;rw[bC c];split at h
   ·rename_i a;rw[bD a];have:=VK _ _ _ h;rw[this,FM];have:=rM s false n e (by simp[okB,a]);omega
   ·rename_i a;rw[bC a];split at h
    ·rename_i b;rw[bD b];simp only[ByteArray.size_extract];omega
    ·rename_i b;rw[bC b];split at h
     ·rename_i f;rw[bD f];exact⟨by show 1<=2;omega,by show n+2<=_;omega⟩
     ·simp[bad] at h
def FE(s:ByteArray):Tok:=⟨0,s.size,⟨#[]⟩,0⟩
def GJ(c:Int):Bool:=c==32||c==10
def toks(s:ByteArray):Nat->Nat->List Tok
  |0,_=>[FE s]
  |f+1,n=>if n<s.size then
      (if GJ (BA s n) = true then toks s f (n + 1)
       else if(AG s n).k=63 then [AG s n] else AG s n::toks s f (n+(AG s n).s.size))
      else [FE s]
def AU(s:ByteArray):List Tok:=toks s s.size 0
theorem OD(s:ByteArray)(f n:Nat)(h:s.size<=n):toks s f n=[FE s]:=by
 cases f with
 |zero=>rfl
 |succ f=>rw[toks,bC aD]
theorem XV(s:ByteArray)(f n:Nat)(h:n<s.size)(b:s.size<=n+f)(a:GJ (BA s n)=true):toks s f n=toks s (f-1) (n+1):=by
 cases f with
 |zero=>omega
 |succ f=>rw[toks,bD h,bD a];rfl
theorem jW(s:ByteArray)(f n:Nat)(h:n<s.size)(c:s.size<=n+f)(a:GJ (BA s n)=false)(b: (AG s n).k=63):toks s f n=[AG s n]:=by
 cases f with
 |zero=>omega
 |succ f=>rw[toks,bD h,bC (by simp[a]),bD b]
theorem kE(s:ByteArray)(f n:Nat)(h:n<s.size)(c:s.size<=n+f)(a:GJ (BA s n)=false)(b: (AG s n).k≠63):toks s f n=AG s n::toks s (f-1) (n+(AG s n).s.size):=by
 cases f with
 |zero=>omega
 |succ f=>rw[toks,bD h,bC (by simp[a]),bC b];rfl
theorem FG(s:ByteArray):∀(f n:Nat),(toks s f n).length<=f+1
 |0,_=>by simp[toks]
 |f+1,n=>by
  rw[toks];split
  ·split
   ·have:=FG s f (n+1);omega
   ·split
    ·simp
    ·have:=FG s f (n+(AG s n).s.size);simp;omega
  ·simp
theorem uM(s:ByteArray)(a:Bool)(n:Nat): (DQ s a n).data.toList=(s.data.toList.drop n).takeWhile fun c=>okB a c.toNat:=by
 unfold DQ;rw[ByteArray.data_extract,Array.toList_extract,List.extract_eq_take_drop];have h:=List.prefix_iff_eq_take.1 (List.takeWhile_prefix (l:=s.data.toList.drop n) (fun c:UInt8=>okB a c.toNat));rw[h];congr 1;unfold AN;omega
theorem Q7:∀(l:List UInt8) (acc:Nat),(l.all fun c=>A9 c.toNat)=true->∃v,Go.Lib.decFrom acc l=some v/\v+1<=(acc+1)*10 ^ l.length
 |[],acc,_=>⟨acc,rfl,aE⟩
 |c::l,acc,h=>by
  simp only[List.all_cons,Bool.and_eq_true] at h;have a:=h.1;unfold A9 at a;simp only[Bool.and_eq_true,decide_eq_true_eq] at a;obtain⟨v,d,b⟩:=Q7 l (acc*10+(c.toNat -48)) h.2;refine⟨v,?_,bN b ?_⟩
  ·rw[Go.Lib.decFrom,Go.Lib.digitVal,bD aD];exact d
  ·rw[bM,Nat.pow_succ,Nat.mul_comm (10 ^ l.length) 10,<-Nat.mul_assoc];exact Nat.mul_le_mul_right _ aD
def dI(t:Tok):Prop:=(t.k=110->t.s.size<=10/\∃v,Go.Lib.atoi t.s.data.toList=some v/\ -999999999<=v/\v<=999999999)/\(t.k=97->t.s.size<=12)
theorem V3(n:Nat)(d:Bool)(W:ByteArray)(h: (W.data.toList.all fun c=>A9 c.toNat)=true):dI (CU n d W):=by
 unfold CU;split
 ·exact⟨fun h=>by simp[bad] at h,fun h=>by simp[bad] at h⟩
 ·split
  ·exact⟨fun h=>by simp[bad] at h,fun h=>by simp[bad] at h⟩
  ·rename_i q p;refine⟨fun _=>?_,fun h=>by simp at h⟩;obtain⟨v,j,k⟩:=Q7 W.data.toList 0 h;have a:W.data.toList.length=W.size:=aE;have r:10 ^ W.data.toList.length<=10 ^ 9:=Nat.pow_le_pow_right aD aD
   have i:v<=999999999:=by
    simp only[Nat.zero_add,Nat.one_mul] at k;have o: (10:Nat) ^ 9=1000000000:=aF;omega
   have b:Go.Lib.decNat W.data.toList=some v:=by
    unfold Go.Lib.decNat;rw[bC (by rw[List.isEmpty_iff];intro e;rw[e] at a;simp at a;omega)];exact j
   cases d with
   |true=>
    refine⟨by show(⟨#[45]⟩++W:ByteArray).size<=10;rw[SJ];omega, -(v:Int),?_,aD,aD⟩;show Go.Lib.atoi (⟨#[45]⟩++W:ByteArray).data.toList=_;rw[ByteArray.data_append];simp[Go.Lib.atoi,b]
   |false=>
    refine⟨by show W.size<=10;omega,(v:Int),?_,aD,aD⟩;show Go.Lib.atoi W.data.toList=_
    cases g:W.data.toList with
    |nil=>rw[g] at a;simp at a;omega
    |cons c l=>
     rw[g] at h b;simp only[List.all_cons,Bool.and_eq_true] at h;have f:=h.1;unfold A9 at f;simp only[Bool.and_eq_true,decide_eq_true_eq] at f;have c1: (c==45)=false:=by rw[aY];rintro rfl;revert f;decide
     have m: (c==43)=false:=by rw[aY];rintro rfl;revert f;decide
     simp[Go.Lib.atoi,c1,m,b]
theorem N4(s:ByteArray)(n:Nat): ((DQ s true n).data.toList.all fun c=>A9 c.toNat)=true:=by
 rw[uM,List.all_eq_true];intro c a;have:=List.all_eq_true.1 (List.all_takeWhile (p:=fun c:UInt8=>okB true c.toNat) (l:=s.data.toList.drop n)) c a;unfold okB at this;simp at this;exact this.2
theorem OZ(s:ByteArray)(n:Nat):dI (AG s n):=by
 have a:∀c:Int,FC c=true->c≠110/\c≠97:=by intro c h;unfold FC at h;simp at h;omega
 unfold AG;split
 ·exact V3 _ _ _ (N4 _ _)
 ·split
  ·exact V3 _ _ _ (N4 _ _)
  ·split
   ·unfold DS;split
    ·exact⟨fun h=>by simp[bad] at h,fun h=>by simp[bad] at h⟩
    ·split
     ·exact⟨fun h=>by simp at h,fun _=>by show(DQ s false n).size<=12;omega⟩
     ·exact⟨fun h=>by simp at h,fun h=>by simp at h⟩
   ·split
    ·rename_i h;exact⟨fun e=>absurd e (a _ h).1,fun e=>absurd e (a _ h).2⟩
    ·split
     ·exact⟨fun h=>by simp at h,fun h=>by simp at h⟩
     ·exact⟨fun h=>by simp[bad] at h,fun h=>by simp[bad] at h⟩
def iq:List Tok->Prop
 |[]=>False
 |[t]=>t.k=0\/(t.k=63/\t.e≠0)
 |t::u::l=>((t.k≠0/\t.k≠63)/\dI t)/\iq (u::l)
theorem iq.tail{t:Tok}{l:List Tok}(h:iq (t::l))(b:t.k≠0)(a:t.k≠63):iq l:=by
 cases l with
 |nil=>rcases h with h|⟨h,_⟩<;>contradiction
 |cons u l=>exact h.2
theorem iq.fine{t:Tok}{l:List Tok}(h:iq (t::l)):dI t:=by
 cases l with
 |nil=>rcases h with h|⟨h,_⟩<;>exact⟨fun e=>by omega,fun e=>by omega⟩
 |cons u l=>exact h.1.2
theorem iq.bad{t:Tok}{l:List Tok}(h:iq (t::l))(a:t.k=63):t.e≠0:=by
 cases l with
 |nil=>
  rcases h with h|⟨_,h⟩
  ·omega
  ·exact h
 |cons u l=>exact absurd a h.1.1.2
theorem iq.ne{l:List Tok}(h:iq l):l≠[]:=by cases l with
 |nil=>exact h.elim
 |cons=>simp
theorem iq.cons{t:Tok}{l:List Tok}(h:iq l)(b:t.k≠0)(a:t.k≠63)(c:dI t):iq (t::l):=by
 cases l with
 |nil=>exact h.elim
 |cons u l=>exact⟨⟨⟨b,a⟩,c⟩,h⟩
theorem SY(s:ByteArray)(n:Nat): (AG s n).k≠0:=by
 have a:∀c:Int,FC c=true->c≠0:=by intro c h;unfold FC at h;simp at h;omega
 unfold AG CU DS bad
 repeat' split
 all_goals(first|(simp;done)|(exact a _ ‹_›))
theorem mK(s:ByteArray)(n:Nat): (AG s n).k=63->(AG s n).e≠0:=by
 have a:∀c:Int,FC c=true->c≠63:=by intro c h;unfold FC at h;simp at h;omega
 unfold AG CU DS bad
 repeat' split
 all_goals(first|(simp;done)|(exact fun h=>absurd h (a _ ‹_›)))
theorem EI(s:ByteArray):∀(f n:Nat),iq (toks s f n)
 |0,_=> .inl rfl
 |f+1,n=>by
  rw[toks];split
  ·split
   ·exact EI s f _
   ·split
    ·rename_i h;exact .inr ⟨h,mK s n h⟩
    ·rename_i h;exact(EI s f _).cons (SY s n) h (OZ s n)
  ·exact .inl rfl
def BR(t:Tok)(e:Int):Int×Nat:=(if t.k=63 then t.e else e,t.at_)
structure AB where
 kind:Int
 name:ByteArray
 value:Int
 args:Int
def JT:ByteArray:=⟨#[95]⟩
def EV(s:ByteArray):Int:=(Go.Lib.atoi s.data.toList).getD 0
def N5(s:ByteArray)(ns:List ByteArray):Option Nat:=if s=JT then none else ns.findIdx? (fun n=>n=s)
def GR(t:Tok)(ns:List ByteArray):Except (Int×Nat) (Nat×List ByteArray):=
 match N5 t.s ns with
 |some i=> .ok (i,ns)
 |none=>if ns.length=16 then .error (3,t.at_) else .ok (ns.length,ns++[t.s])
def A7(rd:List Tok->List ByteArray->Except (Int×Nat) (List AB×List Tok×List ByteArray)):Nat->List (List AB)->List Tok->List ByteArray->Except (Int×Nat) (List (List AB)×List Tok×List ByteArray)
 |0,_,_,_=> .error (2,0)
 |k+1,acc,l,ns=>match rd l ns with
  | .error e=> .error e
  | .ok (p,l1,ns1)=>match l1 with
   |[]=> .error (2,0)
   |u::l2=>if u.k=44 then(if acc.length+1=4 then .error (3,u.at_) else A7 rd k (acc++[p]) l2 ns1)
    else if u.k=41 then .ok (acc++[p],l2,ns1) else .error (BR u 2)
def EF(rd:List Tok->List ByteArray->Except (Int×Nat) (List (List AB)×List Tok×List ByteArray))(t:Tok)(l:List Tok)(ns:List ByteArray):Except (Int×Nat) (List AB×List Tok×List ByteArray):=
 match l with
 |[]=> .error (2,0)
 | u :: l' => if u.k = 40 then (match rd l' ns with
   | .error e=> .error e
   | .ok (a1,l2,ns2)=> .ok (⟨3,t.s,0,a1.length⟩::a1.flatten,l2,ns2))
  else .ok ([⟨3,t.s,0,0⟩],u::l',ns)
def G6(t:Tok)(l:List Tok)(ns:List ByteArray):Except (Int×Nat) (List AB×List Tok×List ByteArray):=
 match GR t ns with
 | .error e=> .error e
 | .ok (i,ns')=> .ok ([⟨1,⟨#[]⟩,i,0⟩],l,ns')
def AM:Nat->List Tok->List ByteArray->Except (Int×Nat) (List AB×List Tok×List ByteArray)
 |0,_,_=> .error (2,0)
 |_+1,[],_=> .error (2,0)
 |f+1,t::l,ns=>
  if t.k=118 then G6 t l ns
  else if t.k=110 then .ok ([⟨2,⟨#[]⟩,EV t.s,0⟩],l,ns)
  else if t.k=97 then EF (A7 (AM f) 4 []) t l ns
  else .error (BR t 2)
theorem fN(rd:List Tok->List ByteArray->Except (Int×Nat) (List AB×List Tok×List ByteArray))(B:Nat) (h:∀l ns p b a,l.length<=B->rd l ns= .ok (p,b,a)->b.length<l.length):∀(k:Nat) (acc:List (List AB)) (l:List Tok) (ns:List ByteArray) (as:List (List AB)) (l2:List Tok) (ns2:List ByteArray),l.length<=B->A7 rd k acc l ns= .ok (as,l2,ns2)->l2.length<l.length
 |0,_,_,_,_,_,_,_,e=>by simp[A7] at e
 |k+1,acc,l,ns,as,l2,ns2,hl,e=>by
  rw[A7] at e
  cases c:rd l ns with
  |error x=>rw[c] at e;cases e
  |ok x=>
   obtain⟨p,b,a⟩:=x;have f:=h l ns p b a hl c;rw[c] at e
   cases b with
   |nil=>cases e
   |cons u d=>
    simp only at e;simp only[bM] at f;split at e
    ·split at e
     ·cases e
     ·have:=fN rd B h k _ d a as l2 ns2 aD e;omega
    ·split at e
     ·simp only[cX,cY] at e;obtain⟨_,rfl,_⟩:=e;omega
     ·cases e
theorem GY:∀(f:Nat) (l:List Tok) (ns:List ByteArray) (p:List AB) (b:List Tok) (a:List ByteArray),AM f l ns= .ok (p,b,a)->b.length<l.length
 |0,_,_,_,_,_,e=>by simp[AM] at e
 |_+1,[],_,_,_,_,e=>by simp[AM] at e
 |f+1,t::l,ns,p,b,a,e=>by
  rw[AM] at e;split at e
  ·unfold G6 at e;split at e
   ·cases e
   ·simp only[cX,cY] at e;obtain⟨_,rfl,_⟩:=e;simp
  ·split at e
   ·simp only[cX,cY] at e;obtain⟨_,rfl,_⟩:=e;simp
   ·split at e
    ·cases l with
     |nil=>cases e
     |cons u c=>
      simp only[EF] at e;split at e
      ·cases g:A7 (AM f) 4 [] c ns with
       |error x=>rw[g] at e;cases e
       |ok x=>
        obtain⟨i,j,d⟩:=x;rw[g] at e;simp only[cX,cY] at e;obtain⟨_,rfl,_⟩:=e;have:=fN (AM f) c.length (fun l ns p b a _ h=>GY f l ns p b a h) 4 [] c ns i j d (aX _) g;simp;omega
      ·simp only[cX,cY] at e;obtain⟨_,rfl,_⟩:=e;simp
    ·cases e
def BS(f:Nat)(l:List Tok)(ns:List ByteArray):Except (Int×Nat) (List AB×List Tok×List ByteArray):=
 match l with
 |[]=> .error (2,0)
 |t::l'=>if t.k=33 then .ok ([⟨4,⟨#[]⟩,0,0⟩],l',ns)
  else match AM f (t::l') ns with
   | .error e=> .error e
   | .ok (p,l1,ns1)=>if(p.head?.map (·.kind))=some 3 then .ok (p,l1,ns1) else .error (5,t.at_)
def BN(f:Nat):Nat->List (List AB)->List Tok->List ByteArray->Except (Int×Nat) (List (List AB)×List Tok×List ByteArray)
 |0,_,_,_=> .error (2,0)
 |k+1,acc,l,ns=>match BS f l ns with
  | .error e=> .error e
  | .ok (p,l1,ns1)=>match l1 with
   |[]=> .error (2,0)
   |u::l2=>if u.k=44 then(if acc.length+1=8 then .error (3,u.at_) else BN f k (acc++[p]) l2 ns1)
    else if u.k=63 then .error (BR u 2) else .ok (acc++[p],u::l2,ns1)
structure Cl where
 head:List AB
 body:List (List AB)
 vars:Nat
def B3(s:ByteArray)(n:Int):Bool:=(n==0&&(decide (s=⟨#[116,114,117,101]⟩)||decide (s=⟨#[102,97,105,108]⟩)))||(n==1&&decide (s=⟨#[110,111,116]⟩))||(n==2&&(decide (s=⟨#[101,113]⟩)||decide (s=⟨#[108,101,115,115]⟩)))||(n==3&&decide (s=⟨#[112,108,117,115]⟩))
def F7(p:List AB):Bool:=match p with
 |[]=>false
 |h::_=>h.kind==3&&!B3 h.name h.args
def JF(c:List AB×List (List AB))(l:List Tok)(ns:List ByteArray):Except (Int×Nat) (Cl×List Tok):=
 match l with
 |[]=> .error (2,0)
 |u::l1=>if u.k=46 then .ok (⟨c.1,c.2,ns.length⟩,l1) else .error (BR u 2)
def BP(f:Nat)(l:List Tok):Except (Int×Nat) (Cl×List Tok):=
 match l with
 |[]=> .error (2,0)
 |t::_=>match AM f l [] with
  | .error e=> .error e
  | .ok (p, l1, ns1) => if F7 p = true then (match l1 with
    |[]=> .error (2,0)
    | u :: l2 => if u.k = 58 then (match BN f 8 [] l2 ns1 with
      | .error e=> .error e
      | .ok (gs,l3,ns2)=>JF (p,gs) l3 ns2)
     else JF (p,[]) (u::l2) ns1)
   else .error (4,t.at_)
def CF(f:Nat):Nat->List Cl->List Tok->Except (Int×Nat) (List Cl)
 |0,_,_=> .error (2,0)
 |_+1,_,[]=> .error (2,0)
 |k+1,acc,t::l=>if t.k=0 then .ok acc else match BP f (t::l) with
  | .error e=> .error e
  | .ok (c,l1)=>CF f k (acc++[c]) l1
def CR(s:ByteArray):Except (Int×Nat) (List Cl):=
 if 400<s.size then .error (1,0) else CF (AU s).length ((AU s).length+1) [] (AU s)
theorem V0(rd:List Tok->List ByteArray->Except (Int×Nat) (List AB×List Tok×List ByteArray)) (h:∀l ns p b a,iq l->rd l ns= .ok (p,b,a)->iq b):∀(k:Nat) (acc:List (List AB)) (l:List Tok) (ns:List ByteArray) (a1:List (List AB)) (l2:List Tok) (ns2:List ByteArray),iq l->A7 rd k acc l ns= .ok (a1,l2,ns2)->iq l2
 |0,_,_,_,_,_,_,_,e=>by simp[A7] at e
 |k+1,acc,l,ns,a1,l2,ns2,hl,e=>by
  rw[A7] at e
  cases c:rd l ns with
  |error x=>rw[c] at e;cases e
  |ok x=>
   obtain⟨p,b,a⟩:=x;have d:=h l ns p b a hl c;rw[c] at e
   cases b with
   |nil=>cases e
   |cons u f=>
    simp only at e;split at e
    ·split at e
     ·cases e
     ·exact V0 rd h k _ f a a1 l2 ns2 (d.tail aD aD) e
    ·split at e
     ·simp only[cX,cY] at e;obtain⟨_,rfl,_⟩:=e;exact d.tail aD aD
     ·cases e
theorem VW:∀(f:Nat) (l:List Tok) (ns:List ByteArray) (p:List AB) (b:List Tok) (a:List ByteArray),iq l->AM f l ns= .ok (p,b,a)->iq b
 |0,_,_,_,_,_,_,e=>by simp[AM] at e
 |_+1,[],_,_,_,_,h,_=>h.elim
 |f+1,t::l,ns,p,b,a,h,e=>by
  rw[AM] at e;split at e
  ·unfold G6 at e;split at e
   ·cases e
   ·simp only[cX,cY] at e;obtain⟨_,rfl,_⟩:=e;exact h.tail aD aD
  ·split at e
   ·simp only[cX,cY] at e;obtain⟨_,rfl,_⟩:=e;exact h.tail aD aD
   ·split at e
    ·have g:=h.tail aD aD
     cases l with
     |nil=>cases e
     |cons u i=>
      simp only[EF] at e;split at e
      ·cases d:A7 (AM f) 4 [] i ns with
       |error x=>rw[d] at e;cases e
       |ok x=>
        obtain⟨m,n,c⟩:=x;rw[d] at e;simp only[cX,cY] at e;obtain⟨_,rfl,_⟩:=e;exact V0 (AM f) (fun l ns p b a j k=>VW f l ns p b a j k) 4 [] i ns m n c (g.tail aD aD) d
      ·simp only[cX,cY] at e;obtain⟨_,rfl,_⟩:=e;exact g
    ·cases e
theorem qK{f:Nat}{l:List Tok}{ns:List ByteArray}{p:List AB}{c:List Tok}{b:List ByteArray}(h:BS f l ns= .ok (p,c,b)):c.length<l.length:=by
 cases l with
 |nil=>cases h
 |cons t l=>
  simp only[BS] at h;split at h
  ·simp only[cX,cY] at h;obtain⟨_,rfl,_⟩:=h;simp
  ·cases a:AM f (t::l) ns with
   |error x=>rw[a] at h;cases h
   |ok x=>
    obtain⟨g,e,d⟩:=x;rw[a] at h;simp only at h;split at h
    ·simp only[cX,cY] at h;obtain⟨_,rfl,_⟩:=h;exact GY f _ _ _ _ _ a
    ·cases h
theorem RZ(f:Nat):∀(k:Nat) (acc:List (List AB)) (l:List Tok) (ns:List ByteArray) (a1:List (List AB)) (l2:List Tok) (ns2:List ByteArray),BN f k acc l ns= .ok (a1,l2,ns2)->l2.length<l.length/\∃y a,l2=y::a
 |0,_,_,_,_,_,_,e=>by simp[BN] at e
 |k+1,acc,l,ns,a1,l2,ns2,e=>by
  rw[BN] at e
  cases b:BS f l ns with
  |error x=>rw[b] at e;cases e
  |ok x=>
   obtain⟨p,d,c⟩:=x;have g:=qK b;rw[b] at e
   cases d with
   |nil=>cases e
   |cons u a=>
    simp only at e;simp only[bM] at g;split at e
    ·split at e
     ·cases e
     ·have:=RZ f k _ a c a1 l2 ns2 e;exact⟨aD,this.2⟩
    ·split at e
     ·cases e
     ·simp only[cX,cY] at e;obtain⟨_,rfl,_⟩:=e;exact⟨aJ,_,_,rfl⟩
theorem iJ{c:List AB×List (List AB)}{l:List Tok}{ns:List ByteArray}{b:Cl}{a:List Tok}(h:JF c l ns= .ok (b,a)):a.length<l.length:=by
 cases l with
 |nil=>cases h
 |cons u l=>
  simp only[JF] at h;split at h
  ·simp only[cX,cY] at h;obtain⟨_,rfl⟩:=h;simp
  ·cases h
theorem MP{f:Nat}{l:List Tok}{j:Cl}{d:List Tok}(h:BP f l= .ok (j,d)):d.length<l.length:=by
 cases l with
 |nil=>cases h
 |cons t l=>
  simp only[BP] at h
  cases b:AM f (t::l) [] with
  |error x=>rw[b] at h;cases h
  |ok x=>
   obtain⟨p,i,a⟩:=x;have k:=GY f _ _ _ _ _ b;rw[b] at h;simp only at h;split at h
   ·cases i with
    |nil=>cases h
    |cons u g=>
     simp only at h;simp only[bM] at k⊢;split at h
     ·cases c:BN f 8 [] g a with
      |error x=>rw[c] at h;cases h
      |ok x=>
       obtain⟨gs,o,m⟩:=x;rw[c] at h;simp only at h;have n:=(RZ f _ _ _ _ _ _ _ c).1;have e:=iJ h;omega
     ·have e:=iJ h;simp only[bM] at e;omega
   ·cases h
def FR(n:Int):ByteArray:=⟨(Go.Lib.itoa n).toArray⟩
def L5(i:Int):ByteArray:=if 0<=i/\i<16 then⟨#[UInt8.ofNat (65+i.toNat)]⟩ else⟨#[95]⟩
def JV(p:AB):ByteArray:=if p.kind=1 then L5 p.value else if p.kind=2 then FR p.value else if p.kind=4 then⟨#[33]⟩ else p.name
def CI:List Nat->ByteArray×List Nat
 |[]=>(⟨#[]⟩,[])
 |k::st=>if 1<k then(⟨#[44]⟩,(k-1)::st) else(⟨#[41]⟩++(CI st).1,(CI st).2)
def rN:List AB->List Nat->ByteArray
 |[],_=>⟨#[]⟩
 |p::ps,st=>if 0<p.args then JV p++(⟨#[40]⟩++rN ps (p.args.toNat::st)) else JV p++((CI st).1++rN ps (CI st).2)
def txt(ps:List AB):ByteArray:=rN ps []
def Wf:Nat->List AB->Prop
 |0,_=>False
 |d+1,ps=>(∃p:AB,ps=[p]/\p.args=0)\/(∃(s:ByteArray) (qs:List (List AB)),1<=qs.length/\(∀q∈qs,Wf d q)/\ps=⟨3,s,0,qs.length⟩::qs.flatten)
theorem N7(a:ByteArray): (⟨#[]⟩:ByteArray)++a=a:=ByteArray.empty_append
theorem JP(a:ByteArray):a++(⟨#[]⟩:ByteArray)=a:=ByteArray.append_empty
def aDb(s:ByteArray)(gs:List (List AB)):Nat->ByteArray
 |0=>s
 |i+1=>if i=0 then(s++⟨#[58,45]⟩)++txt (gs.getD 0 []) else(aDb s gs i++⟨#[44]⟩)++txt (gs.getD i [])
def Good(p:AB):Prop:=(p.kind=1->0<=p.value/\p.value<16)/\(p.kind=2-> -999999999<=p.value/\p.value<=999999999)/\p.name.size<=12
theorem tM(p:AB)(h:Good p): (JV p).size<=21:=by
 unfold JV;split
 ·unfold L5;split
  ·show 1<=21;omega
  ·show 1<=21;omega
 ·split
  ·rename_i a;have b:=h.2.1 a;have:=Go.Lib.itoa_length_le p.value aD aD;unfold FR;simpa[ByteArray.size] using this
  ·split
   ·show 1<=21;omega
   ·have:=h.2.2;omega
theorem R4:∀st:List Nat,(CI st).1.size+(CI st).2.length<=st.length+1
 |[]=>by simp[CI,ByteArray.size]
 |k::st=>by
  rw[CI];split
  ·show 1+_<=_;simp;omega
  ·have:=R4 st;simp only[ByteArray.size_append,bM];have a: (⟨#[41]⟩:ByteArray).size=1:=rfl;omega
theorem tC{t:Tok}{ns b:List ByteArray}{i:Nat}(h:GR t ns= .ok (i,b))(c:ns.length<=16):i<16/\b.length<=16:=by
 unfold GR at h
 cases a:N5 t.s ns with
 |some j=>
  rw[a] at h;simp only[cX,cY] at h;obtain⟨rfl,rfl⟩:=h;unfold N5 at a;split at a
  ·cases a
  ·have:=(List.findIdx?_eq_some_iff_getElem.1 a).1;omega
 |none=>
  rw[a] at h;simp only at h;split at h
  ·cases h
  ·simp only[cX,cY] at h;obtain⟨rfl,rfl⟩:=h;simp;omega
def kF(rd:List Tok->List ByteArray->Except (Int×Nat) (List AB×List Tok×List ByteArray)):Prop:=
 ∀l ns p b a,iq l->ns.length<=16->rd l ns= .ok (p,b,a)->(∀x∈p,Good x)/\a.length<=16/\p.length+b.length<=l.length/\iq b
theorem XI(rd:List Tok->List ByteArray->Except (Int×Nat) (List AB×List Tok×List ByteArray))(h:kF rd):∀(k:Nat) (acc:List (List AB)) (l:List Tok) (ns:List ByteArray) (a1:List (List AB)) (l2:List Tok) (ns2:List ByteArray),iq l->ns.length<=16->(∀q∈acc,∀x∈q,Good x)->A7 rd k acc l ns= .ok (a1,l2,ns2)->(∀q∈a1,∀x∈q,Good x)/\ns2.length<=16/\a1.flatten.length+l2.length<=acc.flatten.length+l.length/\iq l2
 |0,_,_,_,_,_,_,_,_,_,e=>by simp[A7] at e
 |k+1,acc,l,ns,a1,l2,ns2,hl,hn,hacc,e=>by
  rw[A7] at e
  cases d:rd l ns with
  |error x=>rw[d] at e;cases e
  |ok x=>
   obtain⟨p,f,c⟩:=x;obtain⟨o,i,j,g⟩:=h l ns p f c hl hn d;rw[d] at e
   cases f with
   |nil=>cases e
   |cons u m=>
    simp only at e;simp only[bM] at j
    have a:∀q∈acc++[p],∀x∈q,Good x:=fun q b=>by
     rcases bO.1 b with b|b
     ·exact hacc q b
     ·simp at b;subst b;exact o
    have n: (acc++[p]).flatten.length=acc.flatten.length+p.length:=aE;split at e
    ·split at e
     ·cases e
     ·have:=XI rd h k _ m c a1 l2 ns2 (g.tail aD aD) i a e;exact⟨this.1,this.2.1,aD,this.2.2.2⟩
    ·split at e
     ·simp only[cX,cY] at e;obtain⟨rfl,rfl,rfl⟩:=e;exact⟨a,i,aD,g.tail aD aD⟩
     ·cases e
theorem LQ:∀(f:Nat),kF (AM f)
 |0=>fun _ _ _ _ _ _ _ e=>by simp[AM] at e
 |f+1=>fun l ns p E C h b e=>by
  cases l with
  |nil=>exact h.elim
  |cons t l=>
  have w:=h.fine;rw[AM] at e;split at e
  ·unfold G6 at e;split at e
   ·cases e
   ·rename_i i D o;have a:=tC o b;simp only[cX,cY] at e;obtain⟨rfl,rfl,rfl⟩:=e;refine⟨fun x hx=>?_,a.2,aJ,h.tail aD aD⟩;simp at hx;subst hx;exact⟨fun _=>⟨aE,aJ⟩,fun h=>by simp at h,by simp[ByteArray.size]⟩
  ·split at e
   ·rename_i B;obtain⟨_,v,o,n,d⟩:=w.1 B;simp only[cX,cY] at e;obtain⟨rfl,rfl,rfl⟩:=e;refine⟨fun x hx=>?_,b,aJ,h.tail aD aD⟩;simp at hx;subst hx;have k:EV t.s=v:=by unfold EV;rw[o];rfl
    exact⟨fun h=>by simp at h,fun _=>by show-999999999<=EV t.s/\EV t.s<=999999999;rw[k];exact⟨n,d⟩,by simp[ByteArray.size]⟩
   ·split at e
    ·rename_i g;have s:=w.2 g;have r:=h.tail aD aD
     cases l with
     |nil=>cases e
     |cons u y=>
      simp only[EF] at e;split at e
      ·cases j:A7 (AM f) 4 [] y ns with
       |error x=>rw[j] at e;cases e
       |ok x=>
        obtain⟨z,A,m⟩:=x;rw[j] at e;simp only[cX,cY] at e;obtain⟨rfl,rfl,rfl⟩:=e;have a:=XI (AM f) (LQ f) 4 [] y ns z A m (r.tail aD aD) b (fun q c=>by simp at c) j;refine⟨fun x hx=>?_,a.2.1,?_,a.2.2.2⟩
        ·rcases bP.1 hx with rfl|hx
         ·exact⟨fun h=>by simp at h,fun h=>by simp at h,s⟩
         ·obtain⟨q,c,hx⟩:=List.mem_flatten.1 hx;exact a.1 q c x hx
        ·have:=a.2.2.1;simp only[List.flatten_nil,dA,bM] at this⊢;omega
      ·simp only[cX,cY] at e;obtain⟨rfl,rfl,rfl⟩:=e;refine⟨fun x hx=>?_,b,aJ,r⟩;simp at hx;subst hx;exact⟨fun h=>by simp at h,fun h=>by simp at h,s⟩
    ·cases e
theorem R6(f:Nat):kF (BS f):=fun l ns p g c h b e=>by
 cases l with
 |nil=>exact h.elim
 |cons t l=>
  simp only[BS] at e;split at e
  ·simp only[cX,cY] at e;obtain⟨rfl,rfl,rfl⟩:=e;refine⟨fun x hx=>?_,b,aJ,h.tail aD aD⟩;simp at hx;subst hx;exact⟨fun h=>by simp at h,fun h=>by simp at h,by simp[ByteArray.size]⟩
  ·cases a:AM f (t::l) ns with
   |error x=>rw[a] at e;cases e
   |ok x=>
    obtain⟨j,i,d⟩:=x;rw[a] at e;simp only at e;split at e
    ·simp only[cX,cY] at e;obtain⟨rfl,rfl,rfl⟩:=e;exact LQ f _ _ _ _ _ h b a
    ·cases e
theorem VZ(f:Nat):∀(k:Nat) (acc:List (List AB)) (l:List Tok) (ns:List ByteArray) (a1:List (List AB)) (l2:List Tok) (ns2:List ByteArray),iq l->ns.length<=16->(∀q∈acc,(∀x∈q,Good x)/\q.length<=400)->l.length<=401->BN f k acc l ns= .ok (a1,l2,ns2)->(∀q∈a1,(∀x∈q,Good x)/\q.length<=400)/\ns2.length<=16/\iq l2
 |0,_,_,_,_,_,_,_,_,_,_,e=>by simp[BN] at e
 |k+1,acc,l,ns,a1,l2,ns2,hl,hn,hacc,Dx,e=>by
  rw[BN] at e
  cases d:BS f l ns with
  |error x=>rw[d] at e;cases e
  |ok x=>
   obtain⟨p,g,c⟩:=x;obtain⟨n,i,j,h⟩:=R6 f l ns p g c hl hn d;rw[d] at e
   cases g with
   |nil=>cases e
   |cons u m=>
    simp only at e;simp only[bM] at j
    have a:∀q∈acc++[p],(∀x∈q,Good x)/\q.length<=400:=fun q b=>by
     rcases bO.1 b with b|b
     ·exact hacc q b
     ·simp at b;subst b;exact⟨n,aD⟩
    split at e
    ·split at e
     ·cases e
     ·exact VZ f k _ m c a1 l2 ns2 (h.tail aD aD) i a aD e
    ·split at e
     ·cases e
     ·simp only[cX,cY] at e;obtain⟨rfl,rfl,rfl⟩:=e;exact⟨a,i,h⟩
def O1(c:Cl):Prop:=(∀x∈c.head,Good x)/\c.head.length<=400/\(∀q∈c.body,(∀x∈q,Good x)/\q.length<=400)
theorem dW{c:List AB×List (List AB)}{l:List Tok}{ns:List ByteArray}{b:Cl}{a:List Tok}(h:JF c l ns= .ok (b,a))(d:iq l)(e:O1 ⟨c.1,c.2,0⟩):O1 b/\iq a:=by
 cases l with
 |nil=>cases h
 |cons u l=>
  simp only[JF] at h;split at h
  ·simp only[cX,cY] at h;obtain⟨rfl,rfl⟩:=h;exact⟨e,d.tail aD aD⟩
  ·cases h
theorem j7{f:Nat}{l:List Tok}{i:Cl}{e:List Tok}(m:iq l)(s:l.length<=401)(h:BP f l= .ok (i,e)):O1 i/\iq e:=by
 cases l with
 |nil=>cases h
 |cons t l=>
  simp only[BP] at h
  cases c:AM f (t::l) [] with
  |error x=>rw[c] at h;cases h
  |ok x=>
   obtain⟨p,r,a⟩:=x;obtain⟨j,w,k,g⟩:=LQ f _ _ _ _ _ m aE c;rw[c] at h;simp only at h;split at h
   ·cases r with
    |nil=>cases h
    |cons u o=>
     simp only at h;simp only[bM] at k s;split at h
     ·cases d:BN f 8 [] o a with
      |error x=>rw[d] at h;cases h
      |ok x=>
       obtain⟨gs,y,v⟩:=x;rw[d] at h;simp only at h;obtain⟨k1,z,n⟩:=VZ f _ _ _ _ _ _ _ (g.tail aD aD) w (fun q b=>by simp at b) aD d;exact dW h n ⟨j,by show p.length<=400;omega,k1⟩
     ·exact dW h g ⟨j,by show p.length<=400;omega,fun q b=>by simp at b⟩
   ·cases h
theorem S5(f:Nat):∀(k:Nat) (acc:List Cl) (l:List Tok) (a:List Cl),iq l->l.length<=401->(∀c∈acc,O1 c)->CF f k acc l= .ok a->(∀c∈a,O1 c)/\a.length<=acc.length+l.length
 |0,_,_,_,_,_,_,e=>by simp[CF] at e
 |_+1,_,[],_,h,_,_,_=>h.elim
 |k+1,acc,t::l,a,he,Dx,hacc,e=>by
  rw[CF] at e;split at e
  ·simp only[cX] at e;subst e;exact⟨hacc,aD⟩
  ·cases d:BP f (t::l) with
   |error x=>rw[d] at e;cases e
   |ok x=>
    obtain⟨c,i⟩:=x;rw[d] at e;have g:=j7 he Dx d;have b:=MP d
    have:=S5 f k (acc++[c]) i a g.2 aD (fun x hx=>by
     rcases bO.1 hx with hx|hx
     ·exact hacc x hx
     ·simp at hx;subst hx;exact g.1) e
    refine⟨this.1,?_⟩;have j:=this.2;simp only[List.length_append,bM,dA] at j b⊢;omega
theorem SM{s:ByteArray}{a:List Cl}(h:CR s= .ok a):a.length<=402/\∀c∈a,O1 c:=by
 unfold CR at h;split at h
 ·cases h
 ·have b: (AU s).length<=401:=by have:=FG s s.size 0;unfold AU;omega
  have:=S5 _ _ [] _ a (EI s _ _) b (fun c d=>by simp at d) h;refine⟨?_,this.1⟩;have e:=this.2;have f: (AU s).length=(toks s s.size 0).length:=rfl;simp only[dA] at e;omega
def B8(s:ByteArray)(n:Nat):Nat:=((s.data.toList.drop n).takeWhile fun c=>GJ c.toNat).length
theorem VL(s:ByteArray)(n:Nat)(h:n<s.size)(a:GJ (BA s n)=true):B8 s n=B8 s (n+1)+1:=by
 unfold B8;rw[LB s n h,List.takeWhile_cons,bD (by rw[BF s n h];exact a)];simp
theorem XA(s:ByteArray)(n:Nat)(h:n<s.size)(a:GJ (BA s n)=false):B8 s n=0:=by
 unfold B8;rw[LB s n h,List.takeWhile_cons,bC (by rw[BF s n h,a];simp)];rfl
theorem QR(s:ByteArray)(n:Nat)(h:s.size<=n):B8 s n=0:=by
 unfold B8;rw[List.drop_of_length_le (by simpa using h)];rfl
theorem RY(s:ByteArray)(n:Nat):B8 s n<=s.size -n:=by
 unfold B8;refine bN (List.takeWhile_sublist _).length_le ?_;simp
def BO(s:ByteArray)(n:Nat):Tok:=if n+B8 s n<s.size then AG s (n+B8 s n) else FE s
def rest(s:ByteArray)(n:Nat):List Tok:=toks s (s.size -n) n
theorem TS(s:ByteArray):∀(f g n:Nat),s.size<=n+f->s.size<=n+g->toks s f n=toks s g n
 |0,g,n,hf,_=>by rw[OD s g n aD];rfl
 |f+1,0,n,_,hg=>by rw[OD s (f+1) n aD];rfl
 |f+1,g+1,n,hf,hg=>by
  rw[toks,toks];split
  ·rename_i a;split
   ·exact TS s f g (n+1) aD aD
   ·split
    ·rfl
    ·rename_i b;have:=(ME s n a b).1;rw[TS s f g (n+(AG s n).s.size) aD aD]
  ·rfl
theorem oS(s:ByteArray):∀(f n:Nat),s.size<=n+f->n<=s.size->rest s n=(if(BO s n).k=0\/(BO s n).k=63 then [BO s n] else BO s n::rest s ((BO s n).at_+(BO s n).s.size))
 |0,n,hf,hn=>by
  have e:n=s.size:=aD;subst e;have:BO s s.size=FE s:=by unfold BO;rw[QR s _ (aX _),bC aD]
  rw[this,bD (.inl rfl)];unfold rest;rw[OD s _ _ (aX _)]
 |f+1,n,hf,hn=>by
  by_cases a:n<s.size
  ·cases d:GJ (BA s n)
   ·have b:BO s n=AG s n:=by unfold BO;rw[XA s n a d,dG,bD a]
    rw[b]
    have g: (AG s n).at_=n:=by
     unfold AG CU DS bad
     repeat' split
     all_goals rfl
    unfold rest;by_cases c: (AG s n).k=63
    ·rw[bD (.inr c),jW s _ n a aD d c]
    ·have i:=ME s n a c;rw[bC (by intro h;rcases h with h|h;exact SY s n h;exact c h),kE s _ n a aD d c,g];rw[TS s (s.size -n-1) (s.size -(n+(AG s n).s.size)) _ aD aD]
   ·have b:BO s n=BO s (n+1):=by
     unfold BO;rw[VL s n a d,show n+(B8 s (n+1)+1)=n+1+B8 s (n+1) by omega]
    have j:rest s n=rest s (n+1):=by
     unfold rest;rw[XV s _ n a aD d,show s.size -n-1=s.size -(n+1) by omega]
    rw[j,b];exact oS s f (n+1) aD aD
  ·have e:n=s.size:=aD;subst e;have:BO s s.size=FE s:=by unfold BO;rw[QR s _ (aX _),bC aD]
   rw[this,bD (.inl rfl)];unfold rest;rw[OD s _ _ (aX _)]
def BV(k:Int):Int:=if k=0 then 0 else if k=63 then 1 else if k=97 then 2 else if k=118 then 3 else if k=110 then 4 else if k=40 then 5 else if k=41 then 6 else if k=44 then 7 else if k=46 then 8 else if k=33 then 9 else 10
def IE(c:Int):Bool:=decide (97<=c)&&decide (c<=122)
def IX(c:Int):Bool:=decide (65<=c)&&decide (c<=90)
theorem PJ(c:Int):okB true c=A9 c:=by
 unfold okB
 cases h:A9 c
 ·simp
 ·simp[kG c h]
theorem XQ(c:Int):okB false c=B9 c:=by unfold okB;simp
def LR(L:Nat)(K:Int):Int:=if 12<L then 1 else K
def LY(L:Nat):Int:=if 12<L then 3 else 0
def T6(s:ByteArray)(n:Nat):Int:=if n+1<s.size/\BA s (n+1)=45 then 10 else 1
def TR(s:ByteArray)(n:Nat):Int:=if n+1<s.size/\BA s (n+1)=45 then(n:Int)+2 else(n:Int)+1
def T5(s:ByteArray)(n:Nat):Int:=if n+1<s.size/\BA s (n+1)=45 then 0 else 2
def LW(L:Nat):Int:=if L=0 then 1 else if 9<L then 1 else 4
def LP(L:Nat):Int:=if L=0 then 2 else if 9<L then 3 else 0
def JU(c:Int):Int:=if c=40 then 5 else if c=41 then 6 else if c=44 then 7 else if c=46 then 8 else if c=33 then 9 else 1
def KT(c:Int):Int:=if FC c=true then 0 else 2
def LI(p:AB):Prop:=0<=p.args/\p.args<=4
theorem fD(rd:List Tok->List ByteArray->Except (Int×Nat) (List AB×List Tok×List ByteArray))(h:∀l ns p d b,rd l ns= .ok (p,d,b)->∀x∈p,LI x):∀(k:Nat) (acc:List (List AB)) (l:List Tok) (ns:List ByteArray) (a1:List (List AB)) (l2:List Tok) (ns2:List ByteArray),(∀q∈acc,∀x∈q,LI x)->A7 rd k acc l ns= .ok (a1,l2,ns2)->(∀q∈a1,∀x∈q,LI x)/\a1.length<=acc.length+k
 |0,_,_,_,_,_,_,_,e=>by simp[A7] at e
 |k+1,acc,l,ns,a1,l2,ns2,hacc,e=>by
  rw[A7] at e
  cases f:rd l ns with
  |error x=>rw[f] at e;cases e
  |ok x=>
   obtain⟨p,d,b⟩:=x;have j:=h l ns p d b f;rw[f] at e
   cases d with
   |nil=>cases e
   |cons u g=>
    simp only at e
    have a:∀q∈acc++[p],∀x∈q,LI x:=fun q c=>by
     rcases bO.1 c with c|c
     ·exact hacc q c
     ·simp at c;subst c;exact j
    split at e
    ·split at e
     ·cases e
     ·have:=fD rd h k _ g b a1 l2 ns2 a e;refine⟨this.1,?_⟩;have i:=this.2;simp only[List.length_append,bM,dA] at i;omega
    ·split at e
     ·simp only[cX,cY] at e;obtain⟨rfl,rfl,rfl⟩:=e;exact⟨a,aE⟩
     ·cases e
theorem UM:∀(f:Nat) (l:List Tok) (ns:List ByteArray) (p:List AB) (h:List Tok) (a:List ByteArray),AM f l ns= .ok (p,h,a)->∀x∈p,LI x
 |0,_,_,_,_,_,e=>by simp[AM] at e
 |_+1,[],_,_,_,_,e=>by simp[AM] at e
 |f+1,t::l,ns,p,h,a,e=>by
  rw[AM] at e;split at e
  ·unfold G6 at e;split at e
   ·cases e
   ·simp only[cX,cY] at e;obtain⟨rfl,_⟩:=e;intro x hx;simp at hx;subst hx;exact⟨aE,aE⟩
  ·split at e
   ·simp only[cX,cY] at e;obtain⟨rfl,_⟩:=e;intro x hx;simp at hx;subst hx;exact⟨aE,aE⟩
   ·split at e
    ·cases l with
     |nil=>cases e
     |cons u i=>
      simp only[EF] at e;split at e
      ·cases g:A7 (AM f) 4 [] i ns with
       |error x=>rw[g] at e;cases e
       |ok x=>
        obtain⟨b,k,c⟩:=x;rw[g] at e;simp only[cX,cY] at e;obtain⟨rfl,_⟩:=e;have j:=fD (AM f) (UM f) 4 [] i ns b k c (fun q d=>by simp at d) g;intro x hx;rcases bP.1 hx with rfl|hx
        ·have:=j.2;simp only[dA] at this;exact⟨by show(0:Int)<=(b.length:Int);omega,by show(b.length:Int)<=4;omega⟩
        ·obtain⟨q,d,hx⟩:=List.mem_flatten.1 hx;exact j.1 q d x hx
      ·simp only[cX,cY] at e;obtain⟨rfl,_⟩:=e;intro x hx;simp at hx;subst hx;exact⟨aE,aE⟩
    ·cases e
theorem uU{f:Nat}{l:List Tok}{ns:List ByteArray}{p:List AB}{c:List Tok}{b:List ByteArray}(e:BS f l ns= .ok (p,c,b)):∀x∈p,LI x:=by
 cases l with
 |nil=>cases e
 |cons t l=>
  simp only[BS] at e;split at e
  ·simp only[cX,cY] at e;obtain⟨rfl,rfl,rfl⟩:=e;intro x hx;simp at hx;subst hx;exact⟨aE,aE⟩
  ·cases a:AM f (t::l) ns with
   |error x=>rw[a] at e;cases e
   |ok x=>
    obtain⟨h,g,d⟩:=x;rw[a] at e;simp only at e;split at e
    ·simp only[cX,cY] at e;obtain⟨rfl,rfl,rfl⟩:=e;exact UM f _ _ _ _ _ a
    ·cases e
theorem X9(f:Nat):∀(k:Nat) (acc:List (List AB)) (l:List Tok) (ns:List ByteArray) (a1:List (List AB)) (l2:List Tok) (ns2:List ByteArray),(∀q∈acc,∀x∈q,LI x)->BN f k acc l ns= .ok (a1,l2,ns2)->∀q∈a1,∀x∈q,LI x
 |0,_,_,_,_,_,_,_,e=>by simp[BN] at e
 |k+1,acc,l,ns,a1,l2,ns2,hacc,e=>by
  rw[BN] at e
  cases c:BS f l ns with
  |error x=>rw[c] at e;cases e
  |ok x=>
   obtain⟨p,g,d⟩:=x;have i:=uU c;rw[c] at e
   cases g with
   |nil=>cases e
   |cons u h=>
    simp only at e
    have a:∀q∈acc++[p],∀x∈q,LI x:=fun q b=>by
     rcases bO.1 b with b|b
     ·exact hacc q b
     ·simp at b;subst b;exact i
    split at e
    ·split at e
     ·cases e
     ·exact X9 f k _ h d a1 l2 ns2 a e
    ·split at e
     ·cases e
     ·simp only[cX,cY] at e;obtain⟨rfl,rfl,rfl⟩:=e;exact a
def MF(c:Cl):Prop:=(∀x∈c.head,LI x)/\(∀q∈c.body,∀x∈q,LI x)
theorem iE{c:List AB×List (List AB)}{l:List Tok}{ns:List ByteArray}{a:Cl}{b:List Tok}(h:JF c l ns= .ok (a,b))(d:MF ⟨c.1,c.2,0⟩):MF a:=by
 cases l with
 |nil=>cases h
 |cons u l=>
  simp only[JF] at h;split at h
  ·simp only[cX,cY] at h;obtain⟨rfl,rfl⟩:=h;exact d
  ·cases h
theorem lV{f:Nat}{l:List Tok}{e:Cl}{i:List Tok}(h:BP f l= .ok (e,i)):MF e:=by
 cases l with
 |nil=>cases h
 |cons t l=>
  simp only[BP] at h
  cases c:AM f (t::l) [] with
  |error x=>rw[c] at h;cases h
  |ok x=>
   obtain⟨p,k,a⟩:=x;have g:=UM f _ _ _ _ _ c;rw[c] at h;simp only at h;split at h
   ·cases k with
    |nil=>cases h
    |cons u j=>
     simp only at h;split at h
     ·cases d:BN f 8 [] j a with
      |error x=>rw[d] at h;cases h
      |ok x=>
       obtain⟨gs,n,m⟩:=x;rw[d] at h;simp only at h;exact iE h ⟨g,X9 f _ _ _ _ _ _ _ (fun q b=>by simp at b) d⟩
     ·exact iE h ⟨g,fun q b=>by simp at b⟩
   ·cases h
theorem UG(f:Nat):∀(k:Nat) (acc:List Cl) (l:List Tok) (a:List Cl),(∀c∈acc,MF c)->CF f k acc l= .ok a->∀c∈a,MF c
 |0,_,_,_,_,e=>by simp[CF] at e
 |_+1,_,[],_,_,e=>by simp[CF] at e
 |k+1,acc,t::l,a,hacc,e=>by
  rw[CF] at e;split at e
  ·simp only[cX] at e;subst e;exact hacc
  ·cases b:BP f (t::l) with
   |error x=>rw[b] at e;cases e
   |ok x=>
    obtain⟨c,d⟩:=x;rw[b] at e
    exact UG f k (acc++[c]) d a (fun x hx=>by
     rcases bO.1 hx with hx|hx
     ·exact hacc x hx
     ·simp at hx;subst hx;exact lV b) e
theorem s8{s:ByteArray}{a:List Cl}(h:CR s= .ok a):∀c∈a,MF c:=by
 unfold CR at h;split at h
 ·cases h
 ·exact UG _ _ [] _ a (fun c b=>by simp at b) h
theorem G3(s:ByteArray)(a b:Nat): (s.extract a b).data.toList=(s.data.toList.drop a).take (b-a):=by
 rw[ByteArray.data_extract,Array.toList_extract,List.extract_eq_take_drop]
theorem WN{a b:ByteArray}(h:a.data.toList=b.data.toList):a=b:=by
 cases a;cases b;simp at h;rw[h]
theorem Z0(s:ByteArray)(n:Nat)(h:n<s.size)(c:UInt8)(a:BA s n=c.toNat):s.data.toList.drop n=c::s.data.toList.drop (n+1):=by
 rw[LB s n h];have:=BF s n h;rw[a] at this;rw[UInt8.toNat_inj.1 (Int.ofNat_inj.1 this)]
theorem jJ(s:ByteArray)(n:Nat)(i:n<s.size)(h: (AG s n).k≠63):s.extract n (n+(AG s n).s.size)=(AG s n).s:=by
 have a:∀g,s.extract n (n+(DQ s g n).size)=DQ s g n:=by intro g;rw[FM];rfl
 unfold AG at*;split at h
 ·rename_i e;rw[bD e];unfold CU at*;split at h
  ·simp[bad] at h
  ·split at h
   ·simp[bad] at h
   ·rename_i d b;rw[bC d,bC b];show s.extract n (n+(⟨#[45]⟩++DQ s true (n+1):ByteArray).size)=⟨#[45]⟩++DQ s true (n+1);refine WN ?_;rw[SJ,G3,Z0 s n i 45 (by rw[e];rfl),ByteArray.data_append,Array.toList_append,FM];have:n+(AN s true (n+1)+1)-n=AN s true (n+1)+1:=aD;rw[this,List.take_succ_cons];have j:=G3 s (n+1) (n+1+AN s true (n+1));rw[show n+1+AN s true (n+1)-(n+1)=AN s true (n+1) by omega] at j;rw[<-j];rfl
 ·rename_i e;rw[bC e];split at h
  ·rename_i d;rw[bD d];unfold CU at*;split at h
   ·simp[bad] at h
   ·split at h
    ·simp[bad] at h
    ·rename_i b c;rw[bC b,bC c];exact a true
  ·rename_i d;rw[bC d];split at h
   ·rename_i b;rw[bD b,VK _ _ _ h];exact a false
   ·rename_i b;rw[bC b];split at h
    ·rename_i c;rw[bD c];show s.extract n (n+(s.extract n (n+1)).size)=s.extract n (n+1);rw[ByteArray.size_extract,show min (n+1) s.size -n=1 by omega]
    ·rename_i c;rw[bC c];split at h
     ·rename_i f;rw[bD f];show s.extract n (n+2)=⟨#[58,45]⟩;refine WN ?_;rw[G3,Z0 s n i 58 (by rw[f.1];rfl),Z0 s (n+1) f.2.1 45 (by rw[f.2.2];rfl),show n+2-n=2 by omega];rfl
     ·simp[bad] at h
def LG(v:Nat)(c:UInt8):Nat:=if A9 c.toNat=true then v*10+(c.toNat -48) else v
def vOf(l:List UInt8):Nat:=l.foldl LG 0
theorem aBv(l:List UInt8)(j:Nat)(h:j<l.length):vOf (l.take (j+1))=LG (vOf (l.take j)) l[j]:=by
 unfold vOf;rw[bJ h,List.foldl_append];rfl
theorem iX:∀(l:List UInt8) (acc:Nat),l.foldl LG acc+1<=(acc+1)*10 ^ l.length
 |[],acc=>by simp
 |c::l,acc=>by
  refine bN (iX l (LG acc c)) ?_;rw[bM,Nat.pow_succ,Nat.mul_comm (10 ^ l.length) 10,<-Nat.mul_assoc];refine Nat.mul_le_mul_right _ ?_;unfold LG A9;split
  ·rename_i h;simp at h;omega
  ·omega
theorem aC5(l:List UInt8)(n:Nat)(h:l.length<=n):vOf l+1<=10 ^ n:=by
 have:=iX l 0;simp only[Nat.zero_add,Nat.one_mul] at this;exact bN this (Nat.pow_le_pow_right aD h)
theorem UH:∀(l:List UInt8) (acc:Nat),(l.all fun c=>A9 c.toNat)=true->Go.Lib.decFrom acc l=some (l.foldl LG acc)
 |[],acc,_=>rfl
 |c::l,acc,h=>by
  simp only[List.all_cons,Bool.and_eq_true] at h;have a:=h.1;unfold A9 at a;simp only[Bool.and_eq_true,decide_eq_true_eq] at a;rw[Go.Lib.decFrom,Go.Lib.digitVal,bD aD,List.foldl_cons];show Go.Lib.decFrom (acc*10+(c.toNat -48)) l=_;rw[UH l _ h.2];unfold LG;rw[bD h.1]
def ZN(c:Int)(v:Nat):Int:=if c=45 then-(v:Int) else v
theorem qF(s:ByteArray)(n:Nat)(a: (AG s n).k=110):EV (AG s n).s=ZN (BA s n) (vOf (AG s n).s.data.toList):=by
 have f:∀(b:Bool) (W:ByteArray),(W.data.toList.all fun c=>A9 c.toNat)=true->(CU n b W).k=110->EV (CU n b W).s=if b=true then-(vOf (CU n b W).s.data.toList:Int) else vOf (CU n b W).s.data.toList:=by
  intro b W j a;unfold CU at*;split at a
  ·simp[bad] at a
  ·split at a
   ·simp[bad] at a
   ·rename_i d k;rw[bC d,bC k];have o:=UH W.data.toList 0 j
    have g:Go.Lib.decNat W.data.toList=some (vOf W.data.toList):=by
     unfold Go.Lib.decNat;rw[bC (by rw[List.isEmpty_iff];intro e;apply d;simpa using congrArg List.length e)];exact o
    cases b with
    |true=>
     show EV (⟨#[45]⟩++W:ByteArray)=-(vOf (⟨#[45]⟩++W:ByteArray).data.toList:Int);unfold EV;rw[ByteArray.data_append,Array.toList_append];have:vOf ((#[45]:Array UInt8).toList++W.data.toList)=vOf W.data.toList:=by unfold vOf;rw[List.foldl_append];rfl
     rw[this];simp[Go.Lib.atoi,g]
    |false=>
     show EV W=(vOf W.data.toList:Int);unfold EV
     cases m:W.data.toList with
     |nil=>exact absurd (by simpa using congrArg List.length m) d
     |cons c l=>
      rw[m] at j g;simp only[List.all_cons,Bool.and_eq_true] at j;have i:=j.1;unfold A9 at i;simp only[Bool.and_eq_true,decide_eq_true_eq] at i;have c1: (c==45)=false:=by rw[aY];rintro rfl;revert i;decide
      have p: (c==43)=false:=by rw[aY];rintro rfl;revert i;decide
      simp[Go.Lib.atoi,c1,p,g]
 have q:∀c:Int,FC c=true->c≠110:=by intro c h;unfold FC at h;simp at h;omega
 unfold ZN;unfold AG at*;split at a
 ·rename_i d;rw[bD d,bD d,f true _ (N4 _ _) a,bD rfl]
 ·rename_i d;rw[bC d,bC d];split at a
  ·rename_i k;rw[bD k,f false _ (N4 _ _) a,bC aF]
  ·split at a
   ·unfold DS at a;split at a
    ·simp[bad] at a
    ·split at a<;>simp at a
   ·split at a
    ·rename_i h;exact absurd a (q _ h)
    ·split at a
     ·simp at a
     ·simp[bad] at a
end Rf
