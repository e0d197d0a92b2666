import Derived.Test.YthenokfmcjmfkaaGreatDoorYai
set_option maxRecDepth 100000
set_option maxHeartbeats 1000000
namespace Go.Proofs.Q
open Rf _root_.Go.Proofs.Tryz
open Go.RowKit
theorem E0(c:Int)(w:World):Calls prog 134 #[.int .u8 c] w fun e w'=>e= .returned (.bool (A9 c))/\w'=w:=by
 go_enter func134,ntmps134;go_wp2
 all_goals go_ret
 all_goals refine⟨C5 ?_,rfl⟩
 all_goals(unfold A9;rw[Bool.eq_iff_iff];simp;try omega)
theorem EJ(c:Int)(w:World):Calls prog 135 #[.int .u8 c] w fun e w'=>e= .returned (.bool (B9 c))/\w'=w:=by
 go_enter func135,ntmps135;go_wp2
 all_goals go_ret
 all_goals refine⟨C5 ?_,rfl⟩
 all_goals(unfold B9;rw[Bool.eq_iff_iff];simp;try omega)
theorem dK(s:ByteArray)(n:Nat)(dg:Bool)(w:World)(hs:s.size<=maxLen)(hn:n<=s.size):Calls prog 136 #[.string s,.int .i64 n,.bool dg] w fun e w'=>e= .returned (.string (DQ s dg n))/\w'=w:=by
  unfold maxLen at hs;have hle:=GD s dg n;go_enter func136,ntmps136;go_wp2;go_loop [7,8,9] (fun i _ _=>∃k:Nat,n<=k/\k<=s.size/\i= .int .i64 k/\k+AN s dg k=n+AN s dg n) (fun i _ _=>s.size -(intOf i).toNat)
  case atStart=>exact⟨n,aD,aD,rfl,rfl⟩
  case round=>
    obtain⟨k,hk1,hk2,rfl,hk⟩:=hrel;have Hk:=aO hk;clear hk;by_cases hlt:k<s.size
    · have hb:=BF s k hlt
      have hy:Rf.okB dg (s[k].toNat:Int)=true->k+1+AN s dg (k+1)=n+AN s dg n:=by
        intro h;rw[hb] at h;have:=JH s dg k hlt h;have:=Hk.o;omega
      have hno:Rf.okB dg (s[k].toNat:Int)=false->k=n+AN s dg n:=by
        intro h;rw[hb] at h;have:=PQ s dg k hlt h;have:=Hk.o;omega
      clear hb;have Hy:=aO hy;have Hno:=aO hno;clear hy hno
      cases hl:B9 (s[k].toNat:Int)<;>cases hd:A9 (s[k].toNat:Int)<;>cases dg
      all_goals
        go_wp2_with (first|(go_at_call 135;refine(EJ _ _).mono ?_;rintro e w' ⟨rfl,rfl⟩)|(go_at_call 134;refine(E0 _ _).mono ?_;rintro e w' ⟨rfl,rfl⟩))
        first
        | (go_round
           case rel=>exact⟨k+1,aD,aD,by go_num,Hy.o (by simp[Rf.okB,hl,hd])⟩
           case measure=>simp[intOf];omega)
        | (go_ret
           exact⟨E7 (by unfold DQ;rw[<-Hno.o (by simp[Rf.okB,hl,hd])]),rfl⟩)
    · have hend:k=n+AN s dg n:=by have:=LS s dg k aD;have:=Hk.o;omega
      have He:=aO hend;clear hend;go_wp2;go_ret;exact⟨E7 (by unfold DQ;rw[<-He.o]),rfl⟩
abbrev BW(t:Rf.Tok):Value:= .agg #[.int .u8 t.k,.int .i64 t.at_,.string t.s,.int .i64 t.e]
theorem UR(W:ByteArray):W.toList.isEmpty=decide (W.size=0):=by
 rw[<-decide_eq_emptyBytes W,decide_eq_decide];constructor
 ·rintro rfl;rfl
 ·intro h;have:W.data.size=0:=h
  cases W with
  |mk d=>simp at this;subst this;rfl
theorem xT(s:ByteArray)(n:Nat)(w:World)(g:s.size<=maxLen)(l:n<s.size)(m: (s[n].toNat:Int)=45):Calls prog 96 #[.string s,.int .i64 n] w fun e w'=>e= .returned (BW (AG s n))/\Below w.heap.size w w':=by
 have b:=g;unfold maxLen at g;have p:A9 45=false:=aF;have o:B9 45=false:=aF
 have i:Hid (AG s n=CU n true (DQ s true (n+1))):=by
  unfold Hid AG;rw[<-BF s n l,m];simp
 have j:=FM s true (n+1);have d:=GD s true (n+1);generalize h:DQ s true (n+1)=W at*;generalize AN s true (n+1)=L at*;have k:=aO h;clear h;have q:W.size<=s.size:=aD;clear j d;have a:=UR W;rcases(show W.size=0\/(0<W.size/\W.size<=9)\/(0<W.size/\9<W.size) by omega) with f|⟨f,c⟩|⟨f,c⟩
 all_goals
  first|rw[decide_eq_true f] at a|rw[decide_eq_false aD] at a
  go_enter func96,ntmps96;go_wp2_with (first|(go_at_call 135;refine(EJ _ _).mono ?_;rintro e w' ⟨rfl,rfl⟩)|(go_at_call 134;refine(E0 _ _).mono ?_;rintro e w' ⟨rfl,rfl⟩)|(go_at_call 136;refine(dK s (n+1) true _ b aD).mono ?_;rintro e w' ⟨rfl,rfl⟩;rw[k.o]));refine bodyPost_ret (v:=BW (AG s n)) ?_ rfl ⟨rfl,(bZ _ _).alloc (aX _) _⟩;rw[i.o];unfold CU;split
  all_goals(try split)
  all_goals(first|(exfalso;omega)|(simp[results,results96,go_sem,BW,Rf.bad];done))
theorem rZ(s:ByteArray)(n:Nat)(w:World)(h:s.size<=maxLen)(m:n<s.size)(d:A9 (s[n].toNat:Int)=true):Calls prog 96 #[.string s,.int .i64 n] w fun e w'=>e= .returned (BW (AG s n))/\Below w.heap.size w w':=by
 have b:=h;unfold maxLen at h
 have o: ((s[n].toNat:Int)==45)=false:=by
  unfold A9 at d;simp at d;rw[aY];omega
 have j:Hid (AG s n=CU n false (DQ s true n)):=by
  unfold Hid AG;rw[<-BF s n m,bC (aY.1 o),bD d]
 have k:=FM s true n;have f:=GD s true n;generalize i:DQ s true n=W at*;generalize AN s true n=L at*;have l:=aO i;clear i;have p:W.size<=s.size:=aD;clear k f;have a:=UR W;rcases(show W.size=0\/(0<W.size/\W.size<=9)\/(0<W.size/\9<W.size) by omega) with g|⟨g,c⟩|⟨g,c⟩
 all_goals
  first|rw[decide_eq_true g] at a|rw[decide_eq_false aD] at a
  go_enter func96,ntmps96;go_wp2_with (first|(go_at_call 135;refine(EJ _ _).mono ?_;rintro e w' ⟨rfl,rfl⟩)|(go_at_call 134;refine(E0 _ _).mono ?_;rintro e w' ⟨rfl,rfl⟩)|(go_at_call 136;refine(dK s n true _ b aD).mono ?_;rintro e w' ⟨rfl,rfl⟩;rw[l.o]));refine bodyPost_ret (v:=BW (AG s n)) ?_ rfl ⟨rfl,(bZ _ _).alloc (aX _) _⟩;rw[j.o];unfold CU;split
  all_goals(try split)
  all_goals(first|(exfalso;omega)|(simp[results,results96,go_sem,BW,Rf.bad];done))
theorem uQ(s:ByteArray)(n:Nat)(w:World)(c:s.size<=maxLen)(j:n<s.size)(l: ((s[n].toNat:Int)==45)=false)(k:A9 (s[n].toNat:Int)=false)(g:B9 (s[n].toNat:Int)=true):Calls prog 96 #[.string s,.int .i64 n] w fun e w'=>e= .returned (BW (AG s n))/\Below w.heap.size w w':=by
  have a:=c;unfold maxLen at c
  have f:Hid (AG s n=DS n (s[n].toNat:Int) (DQ s false n)):=by
    unfold Hid AG;rw[<-BF s n j,bC (aY.1 l),bC (by simp[k]),bD g]
  have h:=FM s false n;have b:=GD s false n;generalize d:DQ s false n=W at*;generalize AN s false n=L at*;have i:=aO d;clear d;have o:W.size<=s.size:=aD;clear h b;rcases(show W.size<=12\/12<W.size by omega) with m|m
  all_goals
    go_enter func96,ntmps96;go_wp2_with (first|(go_at_call 135;refine(EJ _ _).mono ?_;rintro e w' ⟨rfl,rfl⟩)|(go_at_call 134;refine(E0 _ _).mono ?_;rintro e w' ⟨rfl,rfl⟩)|(go_at_call 136;refine(dK s n false _ a aD).mono ?_;rintro e w' ⟨rfl,rfl⟩;rw[i.o]))
    all_goals
     refine bodyPost_ret (v:=BW (AG s n)) ?_ rfl ⟨rfl,(bZ _ _).alloc (aX _) _⟩;rw[f.o];unfold DS;split
     all_goals(try split)
     all_goals(first|(exfalso;omega)|(simp[results,results96,go_sem,BW,Rf.bad];done))
theorem uI(s:ByteArray)(n:Nat)(w:World)(f:s.size<=maxLen)(c:n<s.size)(d: (s[n].toNat:Int)=40):Calls prog 96 #[.string s,.int .i64 n] w fun e w'=>e= .returned (BW (AG s n))/\Below w.heap.size w w':=by
 unfold maxLen at f;have g:A9 40=false:=aF;have a:B9 40=false:=aF
 have b:Hid (AG s n=⟨40,n,s.extract n (n+1),0⟩):=by
  unfold Hid AG;rw[<-BF s n c,d];simp[g,a,FC]
 go_enter func96,ntmps96;go_wp2_with (first|(go_at_call 135;refine(EJ _ _).mono ?_;rintro e w' ⟨rfl,rfl⟩)|(go_at_call 134;refine(E0 _ _).mono ?_;rintro e w' ⟨rfl,rfl⟩));refine bodyPost_ret (v:=BW (AG s n)) ?_ rfl ⟨rfl,(bZ _ _).alloc (aX _) _⟩;rw[b.o];simp[results,results96,go_sem,BW]
theorem yH(s:ByteArray)(n:Nat)(w:World)(f:s.size<=maxLen)(c:n<s.size)(d: (s[n].toNat:Int)=41):Calls prog 96 #[.string s,.int .i64 n] w fun e w'=>e= .returned (BW (AG s n))/\Below w.heap.size w w':=by
 unfold maxLen at f;have g:A9 41=false:=aF;have a:B9 41=false:=aF
 have b:Hid (AG s n=⟨41,n,s.extract n (n+1),0⟩):=by
  unfold Hid AG;rw[<-BF s n c,d];simp[g,a,FC]
 go_enter func96,ntmps96;go_wp2_with (first|(go_at_call 135;refine(EJ _ _).mono ?_;rintro e w' ⟨rfl,rfl⟩)|(go_at_call 134;refine(E0 _ _).mono ?_;rintro e w' ⟨rfl,rfl⟩));refine bodyPost_ret (v:=BW (AG s n)) ?_ rfl ⟨rfl,(bZ _ _).alloc (aX _) _⟩;rw[b.o];simp[results,results96,go_sem,BW]
theorem sL(s:ByteArray)(n:Nat)(w:World)(f:s.size<=maxLen)(c:n<s.size)(d: (s[n].toNat:Int)=44):Calls prog 96 #[.string s,.int .i64 n] w fun e w'=>e= .returned (BW (AG s n))/\Below w.heap.size w w':=by
 unfold maxLen at f;have g:A9 44=false:=aF;have a:B9 44=false:=aF
 have b:Hid (AG s n=⟨44,n,s.extract n (n+1),0⟩):=by
  unfold Hid AG;rw[<-BF s n c,d];simp[g,a,FC]
 go_enter func96,ntmps96;go_wp2_with (first|(go_at_call 135;refine(EJ _ _).mono ?_;rintro e w' ⟨rfl,rfl⟩)|(go_at_call 134;refine(E0 _ _).mono ?_;rintro e w' ⟨rfl,rfl⟩));refine bodyPost_ret (v:=BW (AG s n)) ?_ rfl ⟨rfl,(bZ _ _).alloc (aX _) _⟩;rw[b.o];simp[results,results96,go_sem,BW]
theorem xY(s:ByteArray)(n:Nat)(w:World)(f:s.size<=maxLen)(c:n<s.size)(d: (s[n].toNat:Int)=46):Calls prog 96 #[.string s,.int .i64 n] w fun e w'=>e= .returned (BW (AG s n))/\Below w.heap.size w w':=by
 unfold maxLen at f;have g:A9 46=false:=aF;have a:B9 46=false:=aF
 have b:Hid (AG s n=⟨46,n,s.extract n (n+1),0⟩):=by
  unfold Hid AG;rw[<-BF s n c,d];simp[g,a,FC]
 go_enter func96,ntmps96;go_wp2_with (first|(go_at_call 135;refine(EJ _ _).mono ?_;rintro e w' ⟨rfl,rfl⟩)|(go_at_call 134;refine(E0 _ _).mono ?_;rintro e w' ⟨rfl,rfl⟩));refine bodyPost_ret (v:=BW (AG s n)) ?_ rfl ⟨rfl,(bZ _ _).alloc (aX _) _⟩;rw[b.o];simp[results,results96,go_sem,BW]
theorem x9(s:ByteArray)(n:Nat)(w:World)(f:s.size<=maxLen)(c:n<s.size)(d: (s[n].toNat:Int)=33):Calls prog 96 #[.string s,.int .i64 n] w fun e w'=>e= .returned (BW (AG s n))/\Below w.heap.size w w':=by
 unfold maxLen at f;have g:A9 33=false:=aF;have a:B9 33=false:=aF
 have b:Hid (AG s n=⟨33,n,s.extract n (n+1),0⟩):=by
  unfold Hid AG;rw[<-BF s n c,d];simp[g,a,FC]
 go_enter func96,ntmps96;go_wp2_with (first|(go_at_call 135;refine(EJ _ _).mono ?_;rintro e w' ⟨rfl,rfl⟩)|(go_at_call 134;refine(E0 _ _).mono ?_;rintro e w' ⟨rfl,rfl⟩));refine bodyPost_ret (v:=BW (AG s n)) ?_ rfl ⟨rfl,(bZ _ _).alloc (aX _) _⟩;rw[b.o];simp[results,results96,go_sem,BW]
theorem mO(s:ByteArray)(n:Nat)(w:World)(k:s.size<=maxLen)(i:n<s.size)(j: (s[n].toNat:Int)=58):Calls prog 96 #[.string s,.int .i64 n] w fun e w'=>e= .returned (BW (AG s n))/\Below w.heap.size w w':=by
 unfold maxLen at k;have l:A9 58=false:=aF;have g:B9 58=false:=aF
 have b:Hid (AG s n=if n+1<s.size/\BA s (n+1)=45 then⟨58,n,⟨#[58,45]⟩,0⟩ else Rf.bad n 2):=by
  unfold Hid AG;rw[<-BF s n i,j];simp[l,g,FC]
 by_cases f:n+1<s.size
 ·have c:=BF s (n+1) f;by_cases d: (s[n+1].toNat:Int)=45
  ·have a:Hid (AG s n=⟨58,n,⟨#[58,45]⟩,0⟩):=by unfold Hid;rw[b.o,bD ⟨f,by rw[<-c];exact d⟩]
   clear c b;go_enter func96,ntmps96;go_wp2_with (first|(go_at_call 135;refine(EJ _ _).mono ?_;rintro e w' ⟨rfl,rfl⟩)|(go_at_call 134;refine(E0 _ _).mono ?_;rintro e w' ⟨rfl,rfl⟩));refine bodyPost_ret (v:=BW (AG s n)) ?_ rfl ⟨rfl,(bZ _ _).alloc (aX _) _⟩;rw[a.o];simp[results,results96,go_sem,BW]
  ·have a:Hid (AG s n=Rf.bad n 2):=by unfold Hid;rw[b.o,bC (by rw[<-c];exact fun h=>d h.2)]
   have m: ((s[n+1].toNat:Int)==45)=false:=aY.2 d;clear c b d;go_enter func96,ntmps96;go_wp2_with (first|(go_at_call 135;refine(EJ _ _).mono ?_;rintro e w' ⟨rfl,rfl⟩)|(go_at_call 134;refine(E0 _ _).mono ?_;rintro e w' ⟨rfl,rfl⟩));refine bodyPost_ret (v:=BW (AG s n)) ?_ rfl ⟨rfl,(bZ _ _).alloc (aX _) _⟩;rw[a.o];simp[results,results96,go_sem,BW,Rf.bad]
 ·have a:Hid (AG s n=Rf.bad n 2):=by unfold Hid;rw[b.o,bC (fun h=>f h.1)]
  clear b;go_enter func96,ntmps96;go_wp2_with (first|(go_at_call 135;refine(EJ _ _).mono ?_;rintro e w' ⟨rfl,rfl⟩)|(go_at_call 134;refine(E0 _ _).mono ?_;rintro e w' ⟨rfl,rfl⟩));refine bodyPost_ret (v:=BW (AG s n)) ?_ rfl ⟨rfl,(bZ _ _).alloc (aX _) _⟩;rw[a.o];simp[results,results96,go_sem,BW,Rf.bad]
theorem mL(s:ByteArray)(n:Nat)(w:World)(_hs:s.size<=maxLen)(i:n<s.size)(l:A9 (s[n].toNat:Int)=false)(c:B9 (s[n].toNat:Int)=false) (c1: ((s[n].toNat:Int)==45)=false) (d: ((s[n].toNat:Int)==40)=false) (f: ((s[n].toNat:Int)==41)=false) (j: ((s[n].toNat:Int)==44)=false) (a: ((s[n].toNat:Int)==46)=false) (k: ((s[n].toNat:Int)==33)=false) (g: ((s[n].toNat:Int)==58)=false):Calls prog 96 #[.string s,.int .i64 n] w fun e w'=>e= .returned (BW (AG s n))/\Below w.heap.size w w':=by
 have b:Hid (AG s n=Rf.bad n 2):=by
  unfold Hid AG;rw[<-BF s n i,bC (aY.1 c1),bC (by simp[l]),bC (by simp[c]),bC (by simp[FC,d,f,j,a,k]),bC (fun h=>aY.1 g h.1)]
 go_enter func96,ntmps96;go_wp2_with (first|(go_at_call 135;refine(EJ _ _).mono ?_;rintro e w' ⟨rfl,rfl⟩)|(go_at_call 134;refine(E0 _ _).mono ?_;rintro e w' ⟨rfl,rfl⟩));refine bodyPost_ret (v:=BW (AG s n)) ?_ rfl ⟨rfl,(bZ _ _).alloc (aX _) _⟩;rw[b.o];simp[results,results96,go_sem,BW,Rf.bad]
theorem eY(s:ByteArray)(n:Nat)(w:World)(b:s.size<=maxLen)(a:n<s.size):Calls prog 96 #[.string s,.int .i64 n] w fun e w'=>e= .returned (BW (AG s n))/\Below w.heap.size w w':=by
 by_cases c: (s[n].toNat:Int)=45
 ·exact xT s n w b a c
 cases d:A9 (s[n].toNat:Int) with
 |true=>exact rZ s n w b a d
 |false=>
 cases g:B9 (s[n].toNat:Int) with
 |true=>exact uQ s n w b a (aY.2 c) d g
 |false=>
 by_cases k: (s[n].toNat:Int)=40
 ·exact uI s n w b a k
 by_cases f: (s[n].toNat:Int)=41
 ·exact yH s n w b a f
 by_cases i: (s[n].toNat:Int)=44
 ·exact sL s n w b a i
 by_cases j: (s[n].toNat:Int)=46
 ·exact xY s n w b a j
 by_cases l: (s[n].toNat:Int)=33
 ·exact x9 s n w b a l
 by_cases h: (s[n].toNat:Int)=58
 ·exact mO s n w b a h
 exact mL s n w b a d g (aY.2 c) (aY.2 k) (aY.2 f) (aY.2 i) (aY.2 j) (aY.2 l) (aY.2 h)
def IQ(t:Rf.Tok):List Value:=[.int .u8 t.k,.int .i64 t.at_,.string t.s,.int .i64 t.e]
theorem LO(t:Rf.Tok): (IQ t).length=4:=rfl
theorem OS(t:Rf.Tok):∀u∈IQ t,u.oneCell'=true:=by
 intro u a;simp only[IQ,List.mem_cons,dF,or_false] at a;rcases a with rfl|rfl|rfl|rfl<;>rfl
theorem Tryz.Es:D7 prog 144 149 4 40 (.agg #[.int .u8 0,.int .i64 0,.string ⟨#[]⟩,.int .i64 0]):=⟨underlying144,aK,rfl,aF,aF⟩
theorem OR(w:World)(N:Nat)(b:N=w.heap.size)(x y z u:Value)(t:TypeId):∀j v,[x,y,z,u][j]?=some v->(w.alloc (.cells #[x,y,z,u] t)).cell? ((⟨N,0,none⟩:Addr).add j)=some v:=by
 subst b;intro j v a
 match j,a with
 |0,a=>simp at a;subst a;simp[Addr.add]
 |1,a=>simp at a;subst a;simp[Addr.add]
 |2,a=>simp at a;subst a;simp[Addr.add]
 |3,a=>simp at a;subst a;simp[Addr.add]
 |(j+4),a=>simp at a
theorem oB(X:Rf.Tok){w b:World}{N:Nat}{o:Obj}{row:Option Nat}(f:World.grownBy ((w.alloc (.cells #[.int .u8 X.k,.int .i64 X.at_,.string X.s,.int .i64 X.e] N)).alloc o) b row)(d:row≠some w.heap.size):b.cell? ⟨w.heap.size,0,none⟩=some (.int .u8 X.k)/\b.cell? ⟨w.heap.size,2,none⟩=some (.string X.s):=by
 have c:=f.block w.heap.size aJ (fun e=>d e.symm);exact⟨(cD (a:=⟨w.heap.size,0,none⟩) c).trans aE,(cD (a:=⟨w.heap.size,2,none⟩) c).trans aE⟩
theorem LK(s:ByteArray)(w:World)(P:s.size<=400):Calls prog 67 #[.string s] w fun e w'=>∃v,e= .returned v/\aj w' w.heap.size 149 4 IQ v (AU s)/\Below w.heap.size w w':=by
 go_enter func67,ntmps67;go_wp2;go_loopw [3,4,5] (fun l i _ wr=>∃(k f:Nat) (b:List Rf.Tok),k<=s.size/\s.size<=k+f/\f<=s.size/\i= .int .i64 k/\b.length+f<=s.size/\aj wr w.heap.size 149 4 IQ l b/\Below w.heap.size w wr/\Hid (b++Rf.toks s f k=AU s)) (fun _ i _ _=>s.size -(intOf i).toNat)
 case atStart=>exact⟨0,s.size,[],aD,aD,aD,rfl,aE,aj.nil _ _ _ _ _,bZ _ _,rfl⟩
 case round=>
  obtain⟨k,f,b,Q,r,O,rfl,H,q,B,E⟩:=hrel;have z:=B.size;by_cases m:k<s.size
  ·have t:=BF s k m
   cases c:GJ (s[k].toNat:Int) with
   |true=>
    have n:Hid (b++Rf.toks s (f-1) (k+1)=AU s):=by
     unfold Hid;rw[<-XV s f k m r (by rw[<-t];exact c)];exact E.o
    have C: (s[k].toNat:Int)=32\/((s[k].toNat:Int)==32)=false/\((s[k].toNat:Int)==10)=true:=by
     unfold GJ at c;simp at c⊢;omega
    clear t c;rcases C with x|⟨x,F⟩
    all_goals
     go_wp2_with fail;go_roundw
     case rel=>exact⟨k+1,f-1,b,aD,aD,aD,by go_num,aD,q,B,n⟩
     case measure=>simp[intOf];omega
   |false=>
    have x: ((s[k].toNat:Int)==32)=false:=by unfold GJ at c;simp at c⊢;omega
    have F: ((s[k].toNat:Int)==10)=false:=by unfold GJ at c;simp at c⊢;omega
    have p:=ME s k m;by_cases o: (AG s k).k=63
    ·have n:Hid (AU s=b++[AG s k]):=by
      unfold Hid;rw[<-jW s f k m r (by rw[<-t];exact c) o];exact E.o.symm
     clear p t c;generalize A:AG s k=X at*;have G:=aO A;have D: (X.k==63)=true:=beq_iff_eq.2 o;clear A o
     go_wp2_with (first
      |(go_at_call 96;refine(eY s k _ (by unfold maxLen;omega) m).mono ?_;rintro e L ⟨rfl,a⟩;rw[G.o])
      |(at_builtin;refine AY Tryz.Es IQ LO OS _ rfl (.tmp 25) (.tmp 27) rfl w.heap.size _ b rfl (((q.below a).alloc _).alloc _) ⟨_,0,none⟩ 1 X rfl (OR _ _ aE _ _ _ _ _) aD (by have:=a.size;simp;omega) ?_;intro g u I d h _;obtain⟨K,J⟩:=oB X h (fun e=>by have:=(q.lt _ e).2;have:=a.size;omega)))
     go_ret;refine⟨_,rfl,?_,?_⟩
     ·rw[n.o];exact d
     ·exact(((B.trans (a.mono z)).alloc (by have:=a.size;omega) _).alloc (by have:=a.size;simp;omega) _).grown h (by have:=a.size;simp;omega) (fun j y=>(q.lt j y).1)
    ·obtain⟨N,M⟩:=p o
     have n:Hid ((b++[AG s k])++Rf.toks s (f-1) (k+(AG s k).s.size)=AU s):=by
      unfold Hid;rw[List.append_assoc,List.singleton_append,<-kE s f k m r (by rw[<-t];exact c) o];exact E.o
     clear p t c;generalize A:AG s k=X at*;have G:=aO A;have D: (X.k==63)=false:=aY.2 o;clear A o
     go_wp2_with (first
      |(go_at_call 96;refine(eY s k _ (by unfold maxLen;omega) m).mono ?_;rintro e L ⟨rfl,a⟩;rw[G.o])
      |(at_builtin;refine AY Tryz.Es IQ LO OS _ rfl (.tmp 25) (.tmp 27) rfl w.heap.size _ b rfl (((q.below a).alloc _).alloc _) ⟨_,0,none⟩ 1 X rfl (OR _ _ aE _ _ _ _ _) aD (by have:=a.size;simp;omega) ?_;intro g u I d h _;obtain⟨K,J⟩:=oB X h (fun e=>by have:=(q.lt _ e).2;have:=a.size;omega)))
     go_roundw
     case rel=>
      refine⟨k+X.s.size,f-1,b++[X],aD,aD,aD,by go_num,aJ,d,?_,n⟩;exact(((B.trans (a.mono z)).alloc (by have:=a.size;omega) _).alloc (by have:=a.size;simp;omega) _).grown h (by have:=a.size;simp;omega) (fun j y=>(q.lt j y).1)
     case measure=>simp[intOf];omega
  ·have n:Hid (AU s=b++[FE s]):=by
    unfold Hid;rw[<-OD s f k aD];exact E.o.symm
   go_wp2_with (at_builtin;refine AY Tryz.Es IQ LO OS _ rfl (.tmp 38) (.tmp 42) rfl w.heap.size _ b rfl (q.alloc _) ⟨_,0,none⟩ 1 (FE s) rfl (OR _ _ aE _ _ _ _ _) aD aJ ?_;intro g u I d h _);go_ret;refine⟨_,rfl,?_,?_⟩
   ·rw[n.o];exact d
   ·exact(B.alloc aD _).grown h aJ (fun j y=>(q.lt j y).1)
def RdB(w:World)(b:Nat)(c:Value)(I:Int)(a:Value)(E P:Int):Prop:=
 w.heap[b]?=some (.cells #[c,.int .i64 I,a,.int .i64 E,.int .i64 P] 147 (0,0))
theorem RdB.facts{w:World}{b:Nat}{c:Value}{I:Int}{a:Value}{E P:Int}(h:RdB w b c I a E P):w.cell? ⟨b,0,none⟩=some c/\w.cell? ⟨b,1,none⟩=some (.int .i64 I)/\w.cell? ⟨b,2,none⟩=some a/\w.cell? ⟨b,3,none⟩=some (.int .i64 E)/\w.cell? ⟨b,4,none⟩=some (.int .i64 P)/\(∀i,w.frozen? ⟨b,i,none⟩=false)/\b<w.heap.size:=
 ⟨AA h 0,AA h 1,AA h 2,AA h 3,AA h 4,AE h,AD h⟩
structure Rd(w:World)(b g:Nat)(nb:Option Nat)(l:List Rf.Tok)(ns:List ByteArray):Prop where
 ex:∃(cap I:Nat) (vN:Value) (all:List Rf.Tok),RdB w b (.slice (some ⟨g,0,none⟩) all.length cap) I vN 0 0/\all.drop I=l/\iq l/\all.length<=401/\aj w 0 149 4 IQ (.slice (some ⟨g,0,none⟩) all.length cap) all/\
  aj w 0 9 1 A3 vN ns/\vN.ownBlock=nb/\b≠g/\nb≠some b/\nb≠some g/\ns.length<=16
structure RdE(w:World)(b:Nat)(E P:Int):Prop where
 ex:∃(vL:Value) (I:Int) (a:Option Addr) (n c:Nat),RdB w b vL I (.slice a n c) E P/\E≠0
theorem aCT(b g n a I:Nat)(t:Rf.Tok)(w:World)(_hn:n<=401)(l:I<n)(i:b<w.heap.size)(j:g<w.heap.size) (h:w.cell? ⟨b,0,none⟩=some (.slice (some ⟨g,0,none⟩) n a)) (d:w.cell? ⟨b,1,none⟩=some (.int .i64 I)) (k:w.cell? ⟨g,I*4,none⟩=some (.int .u8 t.k)) (k1:w.cell? ⟨g,I*4+1,none⟩=some (.int .i64 t.at_)) (c:w.cell? ⟨g,I*4+2,none⟩=some (.string t.s)) (f:w.cell? ⟨g,I*4+3,none⟩=some (.int .i64 t.e)):Calls prog 68 #[.pointer (some ⟨b,0,none⟩)] w fun e w'=>e= .returned (BW t)/\Below w.heap.size w w':=by
  go_enter func68,ntmps68;go_wp2;go_quiet (fail);go_wp2;go_region;go_wp2;exact bodyPost_ret (v:=BW t) (by simp[results,results68,go_sem,BW]) rfl ⟨rfl,aM⟩
theorem CO(b g:Nat)(n:Option Nat)(t:Rf.Tok)(l:List Rf.Tok)(ns:List ByteArray)(w:World)(h:Rd w b g n (t::l) ns):Calls prog 68 #[.pointer (some ⟨b,0,none⟩)] w fun e w'=>e= .returned (BW t)/\Below w.heap.size w w':=by
 obtain⟨j,I,s,c,q,r,_,d,a,_⟩:=h.ex;obtain⟨o,m,_,_,_,_,p⟩:=q.facts
 have k:c[I]?=some t:=by
  have:=congrArg (fun l=>l[0]?) r;simpa using this
 have i:=(bS.1 k).1;have f:=a.cells LO I t k;exact aCT b g c.length j I t w d i p ((a.lt g rfl).2) o m (f 0 _ rfl) (f 1 _ rfl) (f 2 _ rfl) (f 3 _ rfl)
theorem Rd.below{w w':World}{b g:Nat}{f:Option Nat}{l:List Rf.Tok}{ns:List ByteArray}(h:Rd w b g f l ns)(d:Below w.heap.size w w'):Rd w' b g f l ns:=by
 obtain⟨c,I,m,e,i,o,p,j,a,k,n⟩:=h.ex;exact⟨c,I,m,e,(d.block b (AD i)).trans i,o,p,j,a.below d,k.below d,n⟩
theorem RdE.below{w w':World}{b:Nat}{E P:Int}(h:RdE w b E P)(g:Below w.heap.size w w'):RdE w' b E P:=by
 obtain⟨f,I,a,n,c,d,e⟩:=h.ex;exact⟨f,I,a,n,c,(g.block b (AD d)).trans d,e⟩
theorem MW(t:Rf.Tok)(e:Int)(h: (t.k==63)=true):BR t e=(t.e,t.at_):=by
 unfold BR;rw[bD (beq_iff_eq.1 h)]
theorem jT(b:Nat)(I:Int)(f d:Value)(t:Rf.Tok)(e:Int)(w:World)(h:RdB w b f I d 0 0):Calls prog 99 #[.pointer (some ⟨b,0,none⟩),.int .i64 e,BW t] w fun r w'=>r= .returned (.tuple #[])/\RdB w' b f I d (BR t e).1 (BR t e).2/\Kept (fun k=>k=b) w w':=by
 obtain⟨m,i,o,g,j,l,n⟩:=h.facts;have H:=aO h;clear h
 cases c:t.k==63
 ·have a:=aO (F0 t e c);go_enter func99,ntmps99;go_wp2;go_end0;rw[a.o];refine⟨rfl,?_,(by repeat'(first|exact QE _ _|refine QL ?_ ?_ _|refine P6 ?_|refine QU ?_ _|refine QN ?_ _|exact Or.inr rfl|exact Or.inr (Or.inl rfl)|(refine Or.inl ?_;simp;done)|(refine Or.inl ?_;simp;omega)))⟩;exact AF (AK (AK H.o 3 _) 4 _) _
 ·have a:=aO (MW t e c);go_enter func99,ntmps99;go_wp2;go_end0;rw[a.o];refine⟨rfl,?_,(by repeat'(first|exact QE _ _|refine QL ?_ ?_ _|refine P6 ?_|refine QU ?_ _|refine QN ?_ _|exact Or.inr rfl|exact Or.inr (Or.inl rfl)|(refine Or.inl ?_;simp;done)|(refine Or.inl ?_;simp;omega)))⟩;exact AF (AK (AK (AK H.o 3 _) 4 _) 3 _) _
theorem aAk(b:Nat)(I:Int)(c a:Value)(t:Rf.Tok)(e E P:Int)(w:World)(h:RdB w b c I a E P)(j: (E==0)=false):Calls prog 99 #[.pointer (some ⟨b,0,none⟩),.int .i64 e,BW t] w fun r w'=>r= .returned (.tuple #[])/\Below w.heap.size w w':=by
 obtain⟨k,f,m,d,g,i,l⟩:=h.facts;go_enter func99,ntmps99;go_wp2;go_end0;exact⟨rfl,aM⟩
theorem Rd.err{w:World}{b g:Nat}{i:Option Nat}{l:List Rf.Tok}{ns:List ByteArray}(h:Rd w b g i l ns):∃(j:Value) (I:Int) (a:Option Addr) (n c:Nat),RdB w b j I (.slice a n c) 0 0:=by
 obtain⟨f,I,m,k,d,_,_,_,_,e,_⟩:=h.ex;rcases e.shape with⟨rfl,_⟩|⟨p,o,rfl,_⟩
 ·exact⟨_,_,_,_,_,d⟩
 ·exact⟨_,_,_,_,_,d⟩
theorem OP(b g:Nat)(f:Option Nat)(l:List Rf.Tok)(ns:List ByteArray)(t:Rf.Tok)(e:Int)(w:World)(h:Rd w b g f l ns)(i: (BR t e).1≠0):Calls prog 99 #[.pointer (some ⟨b,0,none⟩),.int .i64 e,BW t] w fun r w'=>r= .returned (.tuple #[])/\RdE w' b (BR t e).1 (BR t e).2/\Kept (fun k=>k=b) w w':=by
 obtain⟨j,I,a,n,c,o⟩:=h.err;refine(jT b I j _ t e w o).mono ?_;rintro r w' ⟨rfl,d,m⟩;exact⟨rfl,⟨_,_,_,_,_,d,i⟩,m⟩
theorem oU(b:Nat)(t:Rf.Tok)(e E P:Int)(w:World)(h:RdE w b E P):Calls prog 99 #[.pointer (some ⟨b,0,none⟩),.int .i64 e,BW t] w fun r w'=>r= .returned (.tuple #[])/\RdE w' b E P/\Below w.heap.size w w':=by
 obtain⟨g,I,a,n,c,i,f⟩:=h.ex;refine(aAk b I g _ t e E P w i (aY.2 f)).mono ?_;rintro r w' ⟨rfl,d⟩;exact⟨rfl,h.below d,d⟩
theorem Rd.alloc{w:World}{b g:Nat}{a:Option Nat}{l:List Rf.Tok}{ns:List ByteArray}(h:Rd w b g a l ns)(o:Obj):Rd (w.alloc o) b g a l ns:=h.below ((bZ _ _).alloc (aX _) _)
theorem Rd.ended{w:World}{b g:Nat}{a:Option Nat}{l:List Rf.Tok}{ns:List ByteArray}(h:Rd w b g a l ns):iq l:=by
 obtain⟨_,_,_,_,_,_,h,_⟩:=h.ex;exact h
theorem j4(b g:Nat)(i:Option Nat)(t:Rf.Tok)(l:List Rf.Tok)(ns:List ByteArray)(c:Int)(w:World)(h:Rd w b g i (t::l) ns)(m: (t.k==63)=true):Calls prog 100 #[.pointer (some ⟨b,0,none⟩),.int .u8 c] w fun r w'=>r= .returned (.bool false)/\RdE w' b t.e t.at_/\Kept (fun k=>k=b) w w':=by
 have f: (t.e==0)=false:=aY.2 (h.ended.bad (beq_iff_eq.1 m));have o:=aO (MW t t.e m);have H:=aO h;clear h;go_enter func100,ntmps100
 go_wp2_with (first
  |(go_at_call 68;refine(CO b g i t l ns _ H.o).mono ?_;rintro e z ⟨rfl,d⟩)
  |(go_at_call 99;refine(OP b g i (t::l) ns t t.e _ ((H.o.below d).alloc _) (by rw[o.o];exact aY.1 f)).mono ?_;rintro e B ⟨rfl,j,q⟩;rw[o.o] at j;obtain⟨u,I,a,n,E,p,_⟩:=j.ex;obtain⟨v,A,s,x,C,D,y⟩:=p.facts))
 go_ret;exact⟨rfl,j,((Kept.of_below d _).alloc _).trans q (fun _ _ h=>h)⟩
theorem KV(b g:Nat)(f:Option Nat)(t:Rf.Tok)(l:List Rf.Tok)(ns:List ByteArray)(c:Int)(w:World)(h:Rd w b g f (t::l) ns)(j: (t.k==63)=false):Calls prog 100 #[.pointer (some ⟨b,0,none⟩),.int .u8 c] w fun r w'=>r= .returned (.bool (t.k==c))/\Below w.heap.size w w':=by
 have H:=aO h;clear h;go_enter func100,ntmps100
 go_wp2_with (first
  |(go_at_call 68;refine(CO b g f t l ns _ H.o).mono ?_;rintro e u ⟨rfl,d⟩;obtain⟨q,I,a,n,k,i⟩:=(H.o.below d).err;obtain⟨p,x,m,y,o,v,s⟩:=i.facts))
 go_ret;exact⟨rfl,d.alloc d.size _⟩
theorem Rd.next{w:World}{b g:Nat}{k:Option Nat}{t:Rf.Tok}{l:List Rf.Tok}{ns:List ByteArray}(h:Rd w b g k (t::l) ns)(u:t.k≠0)(j:t.k≠63):∃(r f:Value) (I:Nat),RdB w b r I f 0 0/\(I:Int)<=401/\Rd (w.setCell ⟨b,1,none⟩ (.int .i64 ((I:Int)+1))) b g k l ns:=by
 obtain⟨i,I,f,a,m,p,x,s,d,q,c,o,n,v⟩:=h.ex
 have y:I<a.length:=by
  have:=congrArg List.length p;simp at this;omega
 refine⟨_,f,I,m,aD,⟨i,I+1,f,a,AK m 1 _,?_,x.tail u j,s,d.setCell _ _ ?_,q.setCell _ _ ?_,c,o,n,v⟩⟩
 ·rw[<-List.drop_drop];have:=congrArg (List.drop 1) p;simpa[List.drop_drop,Nat.add_comm] using this
 ·simp[Value.ownBlock];exact fun e=>o e.symm
 ·rw[c];exact n
theorem QY(b g:Nat)(f:Option Nat)(t:Rf.Tok)(l:List Rf.Tok)(ns:List ByteArray)(c:Int)(w:World)(h:Rd w b g f (t::l) ns)(v: (t.k !=c)=false)(j:t.k≠0)(d:t.k≠63):Calls prog 71 #[.pointer (some ⟨b,0,none⟩),.int .u8 c] w fun r w'=>r= .returned (.tuple #[])/\Rd w' b g f l ns/\Kept (fun k=>k=b) w w':=by
 have H:=aO h;have o:=aO j;have i:=aO d;clear h j d;go_enter func71,ntmps71
 go_wp2_with (first
  |(go_at_call 68;refine(CO b g f t l ns _ H.o).mono ?_;rintro e y ⟨rfl,a⟩;obtain⟨s,B,I,m,A,n⟩:=(H.o.below a).next o.o i.o;obtain⟨q,z,p,u,C,D,x⟩:=m.facts))
 go_end0;exact⟨rfl,n.alloc _,(Kept.of_below a _).trans (by repeat'(first|exact QE _ _|refine QL ?_ ?_ _|refine P6 ?_|refine QU ?_ _|refine QN ?_ _|exact Or.inr rfl|exact Or.inr (Or.inl rfl)|(refine Or.inl ?_;simp;done)|(refine Or.inl ?_;simp;omega))) (fun _ _ h=>h)⟩
theorem OK(b g:Nat)(d:Option Nat)(t:Rf.Tok)(l:List Rf.Tok)(ns:List ByteArray)(c:Int)(w:World)(h:Rd w b g d (t::l) ns)(j: (t.k !=c)=true):Calls prog 71 #[.pointer (some ⟨b,0,none⟩),.int .u8 c] w fun r w'=>r= .returned (.tuple #[])/\RdE w' b (BR t 2).1 (BR t 2).2/\Kept (fun k=>k=b) w w':=by
 have H:=aO h;clear h;go_enter func71,ntmps71
 go_wp2_with (first
  |(go_at_call 68;refine(CO b g d t l ns _ H.o).mono ?_;rintro e m ⟨rfl,a⟩)
  |(go_at_call 99;refine(OP b g d (t::l) ns t 2 _ ((H.o.below a).alloc _) (WG H.o.ended aF)).mono ?_;rintro e n ⟨rfl,f,i⟩))
 exact bodyPost_ret (v:= .tuple #[]) (by simp[results,results71,go_sem]) rfl ⟨rfl,f,((Kept.of_below a _).alloc _).trans i (fun _ _ h=>h)⟩
def BQ(p:Nat):List Value:=[.pointer (some ⟨p,0,none⟩)]
def TmB(w:World)(p:Nat)(k n:Int)(s:ByteArray)(v:Value):Prop:=
 w.heap[p]?=some (.cells #[.int .u8 k,.int .i64 n,.string s,v] 102 (0,0))
def cu(F:Nat->Prop)(w:World):Nat->Nat->List AB->Prop
  |0,_,_=>False
  |d+1,p,ps=>F p/\((∃ i : Int, TmB w p 118 i ⟨#[]⟩ (.slice none 0 0) /\ ps = [⟨1, ⟨#[]⟩, i, 0⟩]) \/
     (∃n:Int,TmB w p 110 n ⟨#[]⟩ (.slice none 0 0)/\ps=[⟨2,⟨#[]⟩,n,0⟩])\/
     (∃s:ByteArray,TmB w p 97 0 s (.slice none 0 0)/\ps=[⟨3,s,0,0⟩])\/
     (∃ (s : ByteArray) (v : Value) (qs : List (Nat × List AB)), TmB w p 99 0 s v /\ aj w 0 100 1 BQ v (qs.map (·.1)) /\ (∀ k, v.ownBlock = some k -> F k) /\ 1 <= qs.length /\ qs.length <= 4 /\(∀q∈qs,cu F w d q.1 q.2)/\ps=⟨3,s,0,qs.length⟩::(qs.map (·.2)).flatten))
def dn(F:Nat->Prop)(w:World)(p:Nat)(ps:List AB):Prop:=∃d,cu F w d p ps
theorem cu.up{F:Nat->Prop}{w:World}:∀{d d':Nat} {p:Nat} {ps:List AB},d<=d'->cu F w d p ps->cu F w d' p ps
 |0,_,_,_,_,h=>h.elim
 |d+1,0,_,_,hd,_=>by omega
 |d+1,d'+1,p,ps,hd,h=>by
  obtain⟨g,h⟩:=h;refine⟨g,?_⟩;rcases h with h|h|h|⟨s,v,qs,c,i,a,e,f,j,b⟩
  ·exact .inl h
  ·exact .inr (.inl h)
  ·exact .inr (.inr (.inl h))
  ·exact .inr (.inr (.inr ⟨s,v,qs,c,i,a,e,f,fun q k=>cu.up aD (j q k),b⟩))
theorem cu.keptBy{F F' M:Nat->Prop}{w w':World}(f:Kept M w w')(b:∀k,k<w.heap.size->F k->¬M k/\F' k):∀{d:Nat} {p:Nat} {ps:List AB},cu F w d p ps->cu F' w' d p ps
 |0,_,_,h=>h.elim
 |d+1,p,ps,h=>by
  obtain⟨l,h⟩:=h;have a:∀{k n s v},TmB w p k n s v->TmB w' p k n s v/\F' p:=fun c=>⟨(f.block p (AD c) (b p (AD c) l).1).trans c,(b p (AD c) l).2⟩
  rcases h with⟨i,h,e⟩|⟨n,h,e⟩|⟨s,h,e⟩|⟨s,v,qs,m,g,j,r,t,u,o⟩
  ·exact⟨(a h).2,.inl ⟨i,(a h).1,e⟩⟩
  ·exact⟨(a h).2,.inr (.inl ⟨n,(a h).1,e⟩)⟩
  ·exact⟨(a h).2,.inr (.inr (.inl ⟨s,(a h).1,e⟩))⟩
  ·refine⟨(a m).2,.inr (.inr (.inr ⟨s,v,qs,(a m).1,g.keptBy f (fun k e=>(b k (g.lt k e).2 (j k e)).1),fun k e=>(b k (g.lt k e).2 (j k e)).2,r,t,fun q x=>cu.keptBy f b (u q x),o⟩))⟩
theorem dn.keptBy{F F' M:Nat->Prop}{w w':World}{p:Nat}{ps:List AB}(h:dn F w p ps)(a:Kept M w w')(b:∀k,k<w.heap.size->F k->¬M k/\F' k):dn F' w' p ps:=⟨_,cu.keptBy a b h.choose_spec⟩
def aBG(w:World)(p:Nat):Prop:=∃k n s a l c,TmB w p k n s (.slice a l c)
def ou(w:World)(b g:Nat)(d:Option Nat)(c:Except (Int×Nat) (List AB×List Rf.Tok×List ByteArray))(r:Ending)(w':World):Prop:=∃p,r= .returned (.pointer (some ⟨p,0,none⟩))/\w.heap.size<=p/\aBG w' p/\Kept (May b d) w w'/\(match c with
   | .ok (ps,l',ns')=>∃a,Rd w' b g a l' ns'/\Nb w d a/\dn (New w w' a) w' p ps
   | .error (e,q)=>RdE w' b e q)
theorem DH(s:Nat): (BQ s).length=1:=rfl
theorem ET(s:Nat):∀u∈BQ s,u.oneCell'=true:=by intro u a;simp[BQ] at a;subst a;rfl
theorem Tryz.uj:D7 prog 56 100 1 8 (.pointer none):=⟨underlying56,aK,rfl,aF,aF⟩
def Box(w:World)(N:Nat)(t:Rf.Tok):Prop:=w.heap[N]?=some (.cells #[.int .u8 t.k,.int .i64 t.at_,.string t.s,.int .i64 t.e] 149 (0,0))
theorem Rd.drewN{w:World}{b g:Nat}{a:Option Nat}{l:List Rf.Tok}{ns:List ByteArray}(h:Rd w b g a l ns)(n:Nat):Rd (w.drewN n) b g a l ns:=h.below ((bZ _ _).drewN n)
theorem RdB.grown{w w':World}{b:Nat}{c:Value}{I:Int}{a:Value}{E P:Int}{row:Option Nat}(f:w.grownBy w' row)(h:RdB w b c I a E P)(d:row≠some b):RdB w' b c I a E P:=(f.block b (AD h) (fun e=>d e.symm)).trans h
theorem ZG{wr W o:World}{b g d I:Nat}{m:Value}{p:Option Nat}{a l:List Rf.Tok}{ns:List ByteArray}{s:ByteArray}{h z:Nat} (y:RdB wr b (.slice (some ⟨g,0,none⟩) a.length d) I m 0 0) (D:a.drop I=l) (q:iq l) (j:a.length<=401) (c:aj wr 0 149 4 IQ (.slice (some ⟨g,0,none⟩) a.length d) a) (u:m.ownBlock=p) (n:b≠g) (B:p≠some b) (A:p≠some g) (F:ns.length<16) (w:Below wr.heap.size wr W) (i:W.grownBy o m.ownBlock) (x:Nb W m.ownBlock (some h)) (f:aj o 0 9 1 A3 (.slice (some ⟨h,0,none⟩) (ns.length+1) z) (ns++[s])):Rd (o.setCell ⟨b,2,none⟩ (.slice (some ⟨h,0,none⟩) (ns.length+1) z)) b g (some h) l (ns++[s]):=by
 subst u;have t:=AD y;have E:=(c.lt g rfl).2;have C:=w.size;have v:RdB o b _ I m 0 0:=RdB.grown i ((w.block b t).trans y) B;have k:h≠b:=fun e=>x.ne B aD (by rw[e]);have r:h≠g:=fun e=>x.ne A aD (by rw[e]);refine⟨d,I,_,a,AK v 2 _,D,q,j,aj.setCell ⟨((c.below w).own.kept i (.inr (fun e=>A e.symm)))⟩ _ _ (fun e=>n (bF e).symm),f.setCell _ _ (fun e=>k (bF e)),rfl,n,fun e=>k (bF e),fun e=>r (bF e),aJ⟩
theorem kB(b g:Nat)(A:Option Nat)(t:Rf.Tok)(l:List Rf.Tok)(ns:List ByteArray)(w:World)(h:Rd w b g A l ns)(hk: (t.k==63)=false):Calls prog 137 #[.pointer (some ⟨b,0,none⟩),BW t] w fun r w'=>ou w b g A (G6 t l ns) r w':=by
 have a2:Hid (b<w.heap.size):=by obtain⟨_,_,_,_,L,_⟩:=h.ex;exact AD L
 go_enter func137,ntmps137;go_wp2;go_loopw [5] (fun i wr=>∃k:Nat,i= .int .i64 k/\k<=ns.length/\Rd wr b g A l ns/\Box wr w.heap.size t/\Below w.heap.size w wr/\Hid (∀j,j<k->Cm t ns j)) (fun i _=>ns.length -(intOf i).toNat)
 case atStart=>exact⟨0,rfl,aD,h.alloc _,AJ _ _,(bZ _ _).alloc (aX _) _,fun j hj=>by omega⟩
 case round=>
  obtain⟨k,rfl,a5,Y,V,c,W⟩:=hrel;obtain⟨a6,I,vN,a9,L,hd,M,s,v,z,O,U,Il,Fg,a7⟩:=Y.ex;have a8:=c.size;have a0:=AD V;obtain⟨q0,q1,q2,q3,q4,qf,qb⟩:=L.facts;have⟨x0,x1,x2,x3⟩:=cM V;simp only[List.getElem?_toArray,List.getElem?_cons_zero,List.getElem?_cons_succ] at x0 x1 x2 x3;have HX:=aO V;have R:=aO L;have Hd:=aO hd;have d:=aO O;have oz:=aO v;have S:=aO M;clear V L hd O v M;by_cases C:k<ns.length
  ·rcases z.shape with⟨_,o⟩|⟨gn,Mc,rfl,_,a1,Nl,D⟩
   ·rw[o] at C;simp at C
   ·obtain⟨G,y⟩:∃G,ns[k]?=some G:=⟨ns[k],by simp[C]⟩
    have E:=z.cells C7 k G y 0 _ rfl;simp only[Nat.mul_one,dG] at E;have N:=aO y;clear y;have a3: (k:Int)<ns.length:=aD
    have e1: (t.s.toList==[95])=decide (t.s=JT):=by
     rw[<-beq_toList t.s JT];simp[JT,ByteArray.toList_eq]
    have P: (G.toList==t.s.toList)=decide (G=t.s):=beq_toList G t.s;by_cases K:t.s=JT
    ·rw[decide_eq_true K] at e1;have Hu:=aO K;clear K P;go_wp2_with fail;go_quiet (fail);go_wp2_with fail;go_roundw
     case rel=>exact⟨k+1,by go_num,aD,Y.drewN _,HX.o,c.drewN _,Cm.step W.o (.inl Hu.o)⟩
     case measure=>simp[intOf];omega
    ·rw[decide_eq_false K] at e1;have Hu:=aO K;clear K;by_cases H:G=t.s
     ·rw[decide_eq_true H] at P;have Hs:=aO H;clear H;go_wp2_with fail;go_quiet (fail);go_wp2_with fail;go_ret;refine⟨_,rfl,aD,⟨_,_,_,_,_,_,AJ _ _⟩,((Kept.of_below c _).drewN _).alloc _,?_⟩;unfold G6 GR;rw[dT Hu.o (by rw[<-Hs.o];exact N.o) W.o];exact⟨A,(Y.drewN _).alloc _,.inl rfl,1,⟨aD,aE,fun e=>by have:=(z.lt _ (d.o.trans e)).2;simp at this⟩,.inl ⟨_,AJ _ _,rfl⟩⟩
     ·rw[decide_eq_false H] at P;have Hs:=aO H;clear H;go_wp2_with fail;go_quiet (fail);go_wp2_with fail;go_roundw
      case rel=>exact⟨k+1,by go_num,aD,Y.drewN _,HX.o,c.drewN _,Cm.step W.o (.inr (by rw[N.o];exact fun e=>Hs.o (bF e)))⟩
      case measure=>simp[intOf];omega
  ·obtain rfl:k=ns.length:=aD;have hL:=eC W.o;have HL:=aO hL;clear hL;rcases z.shape with⟨rfl,o⟩|⟨gn,Mc,rfl,_,a1,Nl,D⟩
   ·subst o;have n: (Value.slice none 0 0).ownBlock≠some b:=by simp[Value.ownBlock]
    go_wp2_with fail;go_region_law (refine IM Tryz.Aa A3 C7 HJ rfl (.tmp 46) (.tmp 49) rfl 0 _ ([]:List ByteArray) rfl ?_ ⟨_,0,none⟩ 1 t.s rfl ?_ ?_ (bK _) ?_;exact⟨(z.alloc _).own⟩;exact BL wr _ rfl (.string t.s) 9;(first|omega|(simp;done));intro u Ey x a f J;have m:=RdB.grown (b:=b) (I:=I) f (AF R.o _) n;obtain⟨r0,r1,r2,r3,r4,rf,rb⟩:=m.facts)
    all_goals
     go_wp2_with fail;go_ret;have Q:wr.heap.size+1<=x.heap.size:=by have T:=f.size;simp at T;omega
     refine⟨_,rfl,aD,⟨_,_,_,_,_,_,AZ _ _ _ aE⟩,(((((Kept.of_below c (May b A)).alloc _).drew).grown f (fun k e=>Or.inr (Or.inr (e.symm.trans d.o)))).setCell (p:=⟨b,2,none⟩) (Or.inr (Or.inl rfl)) _).alloc _,?_⟩;unfold G6 GR;rw[HL.o];simp only[];rw[bC aE];exact⟨some u,(ZG R.o Hd.o S.o s oz.o d.o U Il Fg aE (((bZ _ _).alloc (aX _) _).drew) f J a).alloc _,Nb.trans (.inl d.o) J aJ,1,⟨aD,aE,fun e=>by have h8:u<x.heap.size:=(a.lt u rfl).2;simp at e;omega⟩,.inl ⟨_,AZ _ _ _ aE,rfl⟩⟩
   ·have n: (Value.slice (some ⟨gn,0,none⟩) ns.length Mc).ownBlock≠some b:=by rw[d.o];exact Il
    cases Oz: ((ns.length:Int)==16)
    ·have X:Hid (ns.length≠16):=fun e=>by rw[e] at Oz;exact absurd Oz aF
     go_wp2_with fail;go_region_law (refine IM Tryz.Aa A3 C7 HJ rfl (.tmp 46) (.tmp 49) rfl 0 _ ns rfl ?_ ⟨_,0,none⟩ 1 t.s rfl ?_ ?_ (bK _) ?_;exact⟨(z.alloc _).own⟩;exact BL wr _ rfl (.string t.s) 9;(first|omega|(simp;done));intro u Ey x a f J;have m:=RdB.grown (b:=b) (I:=I) f (AF R.o _) n;obtain⟨r0,r1,r2,r3,r4,rf,rb⟩:=m.facts)
     all_goals
      go_wp2_with fail;go_ret;have Q:wr.heap.size+1<=x.heap.size:=by have T:=f.size;simp at T;omega
      refine⟨_,rfl,aD,⟨_,_,_,_,_,_,AZ _ _ _ aE⟩,(((((Kept.of_below c (May b A)).alloc _).drew).grown f (fun k e=>Or.inr (Or.inr (e.symm.trans d.o)))).setCell (p:=⟨b,2,none⟩) (Or.inr (Or.inl rfl)) _).alloc _,?_⟩;unfold G6 GR;rw[HL.o];simp only[];rw[bC X.o];exact⟨some u,(ZG R.o Hd.o S.o s oz.o d.o U Il Fg (by have:=X.o;omega) (((bZ _ _).alloc (aX _) _).drew) f J a).alloc _,Nb.trans (.inl d.o) J aJ,1,⟨aD,aE,fun e=>by have h8:u<x.heap.size:=(a.lt u rfl).2;simp at e;omega⟩,.inl ⟨_,AZ _ _ _ aE,rfl⟩⟩
    ·have X:Hid (ns.length=16):=by have:=bT Oz;unfold Hid;omega
     have HE:=aO (F0 t 3 hk);have Z:b≠w.heap.size:=by have h7:=a2.o;omega
     go_wp2_with (go_at_call 99;refine(jT b I _ _ t 3 _ R.o).mono ?_;rintro e w2 ⟨rfl,F,q⟩;rw[HE.o] at F;obtain⟨y0,y1,y2,y3,y4,yf,yb⟩:=F.facts;have z2:=(q.cell (p:=⟨w.heap.size,2,none⟩) a0 (fun e=>Z e.symm)).trans x2;have B:=z.keptBy q (fun k e P=>n (e.trans (by rw[P])));have a4:=q.size);go_wp2_with fail;go_region_law (refine IM Tryz.Aa A3 C7 HJ rfl (.tmp 46) (.tmp 49) rfl 0 _ ns rfl ?_ ⟨_,0,none⟩ 1 t.s rfl ?_ ?_ (bK _) ?_;exact⟨(B.alloc _).own⟩;exact BL w2 _ rfl (.string t.s) 9;(first|omega|(simp;done));intro u Ey x a f J;have m:=RdB.grown (b:=b) (I:=I) f (AF F _) n;obtain⟨r0,r1,r2,r3,r4,rf,rb⟩:=m.facts)
     all_goals
      go_wp2_with fail;go_ret;have Q:w2.heap.size+1<=x.heap.size:=by have T:=f.size;simp at T;omega
      refine⟨_,rfl,aD,⟨_,_,_,_,_,_,AZ _ _ _ aE⟩,((((((Kept.of_below c (May b A)).trans q (fun k _ e=>Or.inl e)).alloc _).drew).grown f (fun k e=>Or.inr (Or.inr (e.symm.trans d.o)))).setCell (p:=⟨b,2,none⟩) (Or.inr (Or.inl rfl)) _).alloc _,?_⟩;unfold G6 GR;rw[HL.o];simp only[];rw[bD X.o];exact⟨_,_,_,_,_,AF (AK m 2 _) _,aF⟩
theorem p9(s:ByteArray)(v:Int)(w:World)(d:s.size<=10)(h:Lib.atoi s.data.toList=some v):Calls prog 138 #[.string s] w fun e w'=>e= .returned (.int .i64 (EV s))/\Below w.heap.size w w':=by
 have a:Hid (EV s=v):=by unfold Hid EV;rw[h];rfl
 have H:=aO h;clear h;go_enter func138,ntmps138;go_wp2_with (go_at_call 163;refine(Tryz.strconv_Atoi s v aD H.o _).mono ?_;rintro e f ⟨rfl,t,c⟩);go_ret;exact⟨CL a.o.symm,⟨rfl,rfl,rfl,by rw[Lib.bytesWorld_size];omega,fun j b=>Lib.bytesWorld_at_old w 5 t j b⟩⟩
end Go.Proofs.Q
