import Derived.Test.YthenokfmcjmfkaaGreatDoorYak
import Derived.Test.YthenokfmcjmfkaaGreatDoorYad
import Derived.OwnWalk
set_option maxRecDepth 100000
set_option maxHeartbeats 2000000
namespace Go.Proofs.Q
open Rf _root_.Go.Proofs.Tryz
open Go.RowKit
theorem FH{w:World}{b:Nat}{p:AB}(h:w.heap[b]?=some (.cells #[.int .i64 p.kind,.string p.name,.int .i64 p.value,.int .i64 p.args] 129 (0,0))):w.cell? ⟨b,0,none⟩=some (.int .i64 p.kind)/\w.cell? ⟨b,1,none⟩=some (.string p.name)/\w.cell? ⟨b,2,none⟩=some (.int .i64 p.value)/\w.cell? ⟨b,3,none⟩=some (.int .i64 p.args)/\b<w.heap.size:=⟨AA h 0,AA h 1,AA h 2,AA h 3,AD h⟩
theorem Seen.Ph{α:Type}{w:World}{e:TypeId}{C:α->List Value}{size:Nat}{g off n a:Nat}{b:List α}(h:Seen w e C (.slice (some ⟨g,off,none⟩) n a) b)(c:∀x,(C x).length=size)(k:Nat)(f:k<=b.length):Seen w e C (.slice (if a=k then some ⟨g,off,none⟩ else some ⟨g,off+k*size,none⟩) (b.length -k) (a-k)) (b.drop k):=by
 split
 ·rename_i d;have:=h.dropEnd k d;rw[show a-k=0 by omega];exact this
 ·exact h.drop c k f
theorem CD(a:Option Addr)(n c:Nat)(ps:List AB)(w:World)(h:Seen w 129 AH (.slice a n c) ps):Calls prog 122 #[.slice a n c] w fun r w'=>r= .returned (.agg #[.int .i64 (AI ps).kind,.string (AI ps).name,.int .i64 (AI ps).value,.int .i64 (AI ps).args])/\Below w.heap.size w w':=by
 cases ps with
 |nil=>
  have b:n=0:=h.len;subst b;clear h;go_enter func122,ntmps122;go_wp2;refine bodyPost_ret (v:= .agg #[.int .i64 0,.string ⟨#[]⟩,.int .i64 0,.int .i64 0]) (by simp[results,results122,go_sem, *]) rfl ?_;exact⟨rfl,aM⟩
 |cons p rest=>
  obtain⟨g,off,rfl⟩:=h.pos aE;exact lO g off n c p rest w h
theorem IV(p:AB)(w:World):Calls prog 187 #[.agg #[.int .i64 p.kind,.string p.name,.int .i64 p.value,.int .i64 p.args]] w fun r w'=>r= .returned (.int .i64 (AV p))/\Below w.heap.size w w':=by
 have d:Hid (AV p=if p.kind=1 then 9 else if p.kind=2 then 0 else 10):=rfl;by_cases a:p.kind=1
 ·have b:Hid (AV p=9):=by unfold Hid;rw[d.o,bD a]
  go_enter func187,ntmps187;go_wp2;go_ret;exact⟨CL b.o.symm,aM⟩
 ·have e: (p.kind==1)=false:=aY.2 a;by_cases c:p.kind=2
  ·have b:Hid (AV p=0):=by unfold Hid;rw[d.o,bC a,bD c]
   go_enter func187,ntmps187;go_wp2;go_ret;exact⟨CL b.o.symm,aM⟩
  ·have f: (p.kind==2)=false:=aY.2 c;have b:Hid (AV p=10):=by unfold Hid;rw[d.o,bC a,bC c]
   clear a c;go_enter func187,ntmps187;go_wp2;go_ret;exact⟨CL b.o.symm,aM⟩
theorem TT(s:ByteArray)(w:World):Calls prog 54 #[.string s] w fun r w'=>r= .returned (.bool (D5 s))/\w'=w:=by
 by_cases a:0<s.size
 ·have b:Hid (D5 s=((s[0].toNat:Int)!=95)):=by
   unfold Hid D5;rw[BF s 0 a];generalize BA s 0=x;simp only[a,decide_true,Bool.true_and];by_cases hx:x=95
   ·subst hx;rfl
   ·rw[decide_eq_true hx];exact(bne_iff_ne.2 hx).symm
  go_enter func54,ntmps54;go_wp2;go_ret;exact⟨C5 b.o.symm,rfl⟩
 ·have b:Hid (D5 s=false):=by unfold Hid D5;simp[a]
  go_enter func54,ntmps54;go_wp2;go_ret;exact⟨C5 b.o.symm,rfl⟩
theorem WY(a:Option Addr)(n c i:Nat)(ps:List AB)(w:World)(h:Seen w 129 AH (.slice a n c) ps)(Z:CZ ps)(hl:ps.length<=400)(hi:i<=10):Calls prog 152 #[.slice a n c,.int .i64 (i:Nat)] w fun r w'=>∃s z u,r= .returned (.slice s z u)/\Seen w' 129 AH (.slice s z u) (AX ps i)/\Below w.heap.size w w':=by
 cases ps with
 |nil=>
  have W:n=0:=h.len;subst W;have N:Hid (AX [] i=[]):=rfl;clear h;go_enter func152,ntmps152;go_wp2;go_ret;exact⟨_,_,_,rfl,by rw[N.o];exact Seen.nil,bZ _ _⟩
 |cons p t=>
  obtain⟨g,off,rfl⟩:=h.pos aE;have W:n=t.length+1:=h.len;subst W;have K:=h.cap;have N:Hid (AX (p::t) i=F2 i t):=rfl;have H:=aO h;have H4:Hid (CZ t):=fun x hx=>Z x (bA _ hx);simp only[bM] at hl K;clear h Z;go_enter func152,ntmps152;have f:∀(s:Option Addr) (z u:Nat),Seen w 129 AH (.slice s z u) t->∃(k:Nat) (rs:List AB) (E:Option Addr) (A l:Nat),k<=i/\(.int .i64 (0:Int):Value)= .int .i64 (k:Nat)/\(.slice s z u:Value)= .slice E A l/\Seen w 129 AH (.slice E A l) rs/\CZ rs/\rs.length<=400/\Hid (F2 i t=F2 (i-k) rs)/\Below w.heap.size w w:=fun s z u h3=>⟨0,t,s,z,u,bK _,rfl,rfl,h3,H4.o,aD,rfl,bZ _ _⟩
  have P:Hid (c=1->Seen w 129 AH (.slice (some ⟨g,off,none⟩) t.length 0) t):=fun hc=>by have T:=H.o.dropEnd 1 hc;simpa using T
  have Q:Hid (Seen w 129 AH (.slice (some ⟨g,off+4,none⟩) t.length (c-1)) t):=by unfold Hid;have T:=H.o.drop BC 1 aE;simpa using T
  have F:=aO f;clear f;go_wp2_with fail
  all_goals
   go_loopw [5,6] (fun rv Y wr=>∃(k:Nat) (rs:List AB) (E:Option Addr) (A l:Nat),k<=i/\Y= .int .i64 (k:Nat)/\rv= .slice E A l/\Seen wr 129 AH (.slice E A l) rs/\CZ rs/\rs.length<=400/\Hid (F2 i t=F2 (i-k) rs)/\Below w.heap.size w wr) (fun _ Y _=>i-(intOf Y).toNat)
   case atStart=>first|exact F.o _ _ _ (P.o ‹_›)|exact F.o _ _ _ Q.o
   case round=>
    obtain⟨k,rs,E,A,l,hk,rfl,rfl,m,I,a5,b,j⟩:=hrel;have X:A=rs.length:=m.len;subst X;have q:=j.size;have o:=Z8 rs;have a2:=m.cap;have D:=aO m;have C:=aO I;by_cases a4:k<i
    ·have a1: (k:Int)<(i:Nat):=aD;rw[show i-k=(i-(k+1))+1 by omega,F2] at b;rcases m.shape with⟨e,rfl⟩|⟨G,M,c1,e,V,_,_⟩
     ·injection e with v S y;subst v;subst y;clear m I;go_wp2_with (go_at_call 173;refine(I6 _ none 0 0 [] D.o C.o aE).mono ?_;rintro r B ⟨rfl,d⟩);go_roundw
      case rel=>exact⟨k+1,[],none,0,0,aD,by go_num,rfl,Seen.nil,C.o,aE,b,j.trans (d.mono q)⟩
      case measure=>simp[intOf];omega
     ·injection e with v S y;subst v;subst y;obtain⟨L,J⟩:∃L,Hid (CN rs=L):=⟨_,rfl⟩
      rw[J.o] at o b;clear m I;have R:Hid (∀B,Below wr.heap.size wr B->Seen B 129 AH (.slice (if l=L then some ⟨G,M,none⟩ else some ⟨G,M+L*4,none⟩) (rs.length -L) (l-L)) (rs.drop L)):=fun B hb=>Seen.Ph (D.o.below hb) BC L o;have O:Hid (CZ (rs.drop L)):=fun x hx=>C.o x (bV hx);have U: (rs.drop L).length<=400:=by rw[List.length_drop];omega
      have a0:Hid ((rs.drop L).length=rs.length -L):=List.length_drop;go_wp2_with (go_at_call 173;refine(I6 _ (some ⟨G,M,none⟩) _ l rs D.o C.o aD).mono ?_;rintro r B ⟨rfl,d⟩;rw[J.o])
      all_goals
       go_roundw
       case rel=>exact⟨k+1,rs.drop L,_,_,_,aD,by go_num,rfl,R.o _ d,O.o,U,b,j.trans (d.mono q)⟩
       case measure=>simp[intOf];omega
    ·obtain rfl:k=i:=aD;rw[Nat.sub_self,F2] at b;rcases m.shape with⟨e,rfl⟩|⟨G,M,c1,e,V,_,_⟩
     ·injection e with v S y;subst v;subst y;clear m I;go_wp2_with (go_at_call 173;refine(I6 _ none 0 0 [] D.o C.o aE).mono ?_;rintro r B ⟨rfl,d⟩);go_ret;refine⟨_,_,_,rfl,?_,j.trans (d.mono q)⟩;rw[N.o,b.o];exact Seen.nil
     ·injection e with v S y;subst v;subst y;obtain⟨L,J⟩:∃L,Hid (CN rs=L):=⟨_,rfl⟩
      rw[J.o] at o b;clear m I;go_wp2_with (go_at_call 173;refine(I6 _ (some ⟨G,M,none⟩) _ l rs D.o C.o aD).mono ?_;rintro r B ⟨rfl,d⟩;rw[J.o]);go_ret;refine⟨_,_,_,rfl,?_,j.trans (d.mono q)⟩;rw[N.o,b.o];exact(D.o.below d).take L o
theorem M3(a:Option Addr)(n c:Nat)(ps:List AB)(w:World)(h:Seen w 129 AH (.slice a n c) ps)(f:CZ ps)(g:ps.length<=400):Calls prog 152 #[.slice a n c,.int .i64 0] w fun r w'=>∃b e d,r= .returned (.slice b e d)/\Seen w' 129 AH (.slice b e d) (AX ps 0)/\Below w.heap.size w w':=WY a n c 0 ps w h f g aD
theorem PE(a:Option Addr)(n c:Nat)(ps:List AB)(w:World)(h:Seen w 129 AH (.slice a n c) ps)(f:CZ ps)(g:ps.length<=400):Calls prog 152 #[.slice a n c,.int .i64 1] w fun r w'=>∃b e d,r= .returned (.slice b e d)/\Seen w' 129 AH (.slice b e d) (AX ps 1)/\Below w.heap.size w w':=WY a n c 1 ps w h f g aD
theorem tX(a:Option Addr)(n c:Nat)(ps:List AB)(w:World)(h:Seen w 129 AH (.slice a n c) ps)(f:CZ ps)(g:ps.length<=400):Calls prog 152 #[.slice a n c,.int .i64 2] w fun r w'=>∃b e d,r= .returned (.slice b e d)/\Seen w' 129 AH (.slice b e d) (AX ps 2)/\Below w.heap.size w w':=WY a n c 2 ps w h f g aD
theorem G4(a:Option Addr)(n c:Nat)(ps:List AB)(w:World)(h:Seen w 129 AH (.slice a n c) ps)(h4:CZ ps)(M:ps.length<=400):Calls prog 174 #[.slice a n c] w fun r w'=>∃x y,r= .returned (.tuple #[.int .i64 x,.int .i64 y,.int .i64 (A8 ps)])/\(A8 ps=0->x=CC ps/\y=CB ps)/\Below w.heap.size w w':=by
 have H:=aO h;have J:=aO h4;obtain⟨Q,e0⟩:∃K,Hid (AV (AI (AX ps 0))=K):=⟨_,rfl⟩
 obtain⟨K1,e1⟩:∃K,Hid (AV (AI (AX ps 1))=K):=⟨_,rfl⟩
 have HK:Hid (A8 ps=if Q=0 then K1 else Q):=by unfold Hid A8;rw[e0.o,e1.o]
 clear h h4;by_cases h0:Q=0
 ·subst h0;by_cases h1:K1=0
  ·subst h1;go_enter func174,ntmps174
   go_wp2_with (first
    |(go_at_call 152;first
     |(have W:=o;refine(PE a n c ps _ (z.o.below aM) J.o M).mono ?_;rintro r w3 ⟨S,n3,U,rfl,v,g⟩;have f:Below w.heap.size w w3:=b.trans (Below.trans ((bZ _ j).alloc A _) (g.mono (by rw[cE];omega))))
     |(refine(M3 a n c ps _ H.o J.o M).mono ?_;rintro r w1 ⟨R,Z,c1,rfl,u,m⟩))
    |(go_at_call 122;first
     |(refine(CD S n3 U _ _ v).mono ?_;rintro r s ⟨rfl,q⟩;have D:Below w.heap.size w s:=f.trans (q.mono f.size);have B:=D.size;have C:=(q.block j.heap.size (by have:=g.size;rw[cE] at this;omega)).trans ((g.block j.heap.size (by rw[cE];omega)).trans (AJ j _));obtain⟨c0,T,c2,V,l0⟩:=FH C;obtain⟨p1,l⟩:∃p,Hid (AI (AX ps 1)=p):=⟨_,rfl⟩;rw[l.o])
     |(refine(CD R Z c1 _ _ u).mono ?_;rintro r j ⟨rfl,o⟩;have b:Below w.heap.size w j:=m.trans (o.mono m.size);have A:=b.size;have z:=aO (H.o.below b);obtain⟨N,k⟩:∃p,Hid (AI (AX ps 0)=p):=⟨_,rfl⟩;rw[k.o]))
    |(go_at_call 187;first
     |(have W:=d;refine(IV p1 _).mono ?_;rintro r w6 ⟨rfl,i⟩;have G:Below w.heap.size w w6:=t.trans (i.mono t.size);have O:=(i.block j.heap.size X).trans E;have P:=(i.block s.heap.size Y).trans F;obtain⟨q0,q1,q2,q3,l7⟩:=FH O;obtain⟨r0,r1,r2,r3,l8⟩:=FH P;rw[<-l.o,e1.o])
     |(refine(IV N _).mono ?_;rintro r w5 ⟨rfl,d⟩;have t:Below w.heap.size w w5:=D.trans (Below.trans ((bZ _ s).alloc B _) (d.mono (by rw[cE];omega)));have E:=(d.block j.heap.size (by rw[cE];omega)).trans (AF C _);have F:=(d.block s.heap.size (by rw[cE];omega)).trans (AJ s _);obtain⟨d0,d1,d2,d3,X⟩:=FH E;obtain⟨f0,f1,f2,f3,Y⟩:=FH F;rw[<-k.o,e0.o])))
   go_quiet (fail);go_wp2_with fail;go_ret3;have I:A8 ps=0:=by have L:=HK.o;simpa using L
   refine⟨N.value,p1.value,by rw[I];rfl,fun _=>⟨by rw[<-k.o];rfl,by rw[<-l.o];rfl⟩,?_⟩
   first|exact G|exact G.drew|exact G.drewN _
  ·have a2: (K1==0)=false:=aY.2 h1;go_enter func174,ntmps174
   go_wp2_with (first
    |(go_at_call 152;first
     |(have W:=o;refine(PE a n c ps _ (z.o.below aM) J.o M).mono ?_;rintro r w3 ⟨S,n3,U,rfl,v,g⟩;have f:Below w.heap.size w w3:=b.trans (Below.trans ((bZ _ j).alloc A _) (g.mono (by rw[cE];omega))))
     |(refine(M3 a n c ps _ H.o J.o M).mono ?_;rintro r w1 ⟨R,Z,c1,rfl,u,m⟩))
    |(go_at_call 122;first
     |(refine(CD S n3 U _ _ v).mono ?_;rintro r s ⟨rfl,q⟩;have D:Below w.heap.size w s:=f.trans (q.mono f.size);have B:=D.size;have C:=(q.block j.heap.size (by have:=g.size;rw[cE] at this;omega)).trans ((g.block j.heap.size (by rw[cE];omega)).trans (AJ j _));obtain⟨c0,T,c2,V,l0⟩:=FH C;obtain⟨p1,l⟩:∃p,Hid (AI (AX ps 1)=p):=⟨_,rfl⟩;rw[l.o])
     |(refine(CD R Z c1 _ _ u).mono ?_;rintro r j ⟨rfl,o⟩;have b:Below w.heap.size w j:=m.trans (o.mono m.size);have A:=b.size;have z:=aO (H.o.below b);obtain⟨N,k⟩:∃p,Hid (AI (AX ps 0)=p):=⟨_,rfl⟩;rw[k.o]))
    |(go_at_call 187;first
     |(have W:=d;refine(IV p1 _).mono ?_;rintro r w6 ⟨rfl,i⟩;have G:Below w.heap.size w w6:=t.trans (i.mono t.size);have O:=(i.block j.heap.size X).trans E;have P:=(i.block s.heap.size Y).trans F;obtain⟨q0,q1,q2,q3,l7⟩:=FH O;obtain⟨r0,r1,r2,r3,l8⟩:=FH P;rw[<-l.o,e1.o])
     |(refine(IV N _).mono ?_;rintro r w5 ⟨rfl,d⟩;have t:Below w.heap.size w w5:=D.trans (Below.trans ((bZ _ s).alloc B _) (d.mono (by rw[cE];omega)));have E:=(d.block j.heap.size (by rw[cE];omega)).trans (AF C _);have F:=(d.block s.heap.size (by rw[cE];omega)).trans (AJ s _);obtain⟨d0,d1,d2,d3,X⟩:=FH E;obtain⟨f0,f1,f2,f3,Y⟩:=FH F;rw[<-k.o,e0.o])))
   go_ret3;have I:A8 ps=K1:=by have L:=HK.o;simpa using L
   refine⟨0,0,by rw[I];rfl,fun e=>absurd (I.symm.trans e) h1,?_⟩
   first|exact G|exact G.drew|exact G.drewN _
 ·have a0: (Q==0)=false:=aY.2 h0;go_enter func174,ntmps174
  go_wp2_with (first
   |(go_at_call 152;first
    |(have W:=o;refine(PE a n c ps _ (z.o.below aM) J.o M).mono ?_;rintro r w3 ⟨S,n3,U,rfl,v,g⟩;have f:Below w.heap.size w w3:=b.trans (Below.trans ((bZ _ j).alloc A _) (g.mono (by rw[cE];omega))))
    |(refine(M3 a n c ps _ H.o J.o M).mono ?_;rintro r w1 ⟨R,Z,c1,rfl,u,m⟩))
   |(go_at_call 122;first
    |(refine(CD S n3 U _ _ v).mono ?_;rintro r s ⟨rfl,q⟩;have D:Below w.heap.size w s:=f.trans (q.mono f.size);have B:=D.size;have C:=(q.block j.heap.size (by have:=g.size;rw[cE] at this;omega)).trans ((g.block j.heap.size (by rw[cE];omega)).trans (AJ j _));obtain⟨c0,T,c2,V,l0⟩:=FH C;obtain⟨p1,l⟩:∃p,Hid (AI (AX ps 1)=p):=⟨_,rfl⟩;rw[l.o])
    |(refine(CD R Z c1 _ _ u).mono ?_;rintro r j ⟨rfl,o⟩;have b:Below w.heap.size w j:=m.trans (o.mono m.size);have A:=b.size;have z:=aO (H.o.below b);obtain⟨N,k⟩:∃p,Hid (AI (AX ps 0)=p):=⟨_,rfl⟩;rw[k.o]))
   |(go_at_call 187;first
    |(have W:=d;refine(IV p1 _).mono ?_;rintro r w6 ⟨rfl,i⟩;have G:Below w.heap.size w w6:=t.trans (i.mono t.size);have O:=(i.block j.heap.size X).trans E;have P:=(i.block s.heap.size Y).trans F;obtain⟨q0,q1,q2,q3,l7⟩:=FH O;obtain⟨r0,r1,r2,r3,l8⟩:=FH P;rw[<-l.o,e1.o])
    |(refine(IV N _).mono ?_;rintro r w5 ⟨rfl,d⟩;have t:Below w.heap.size w w5:=D.trans (Below.trans ((bZ _ s).alloc B _) (d.mono (by rw[cE];omega)));have E:=(d.block j.heap.size (by rw[cE];omega)).trans (AF C _);have F:=(d.block s.heap.size (by rw[cE];omega)).trans (AJ s _);obtain⟨d0,d1,d2,d3,X⟩:=FH E;obtain⟨f0,f1,f2,f3,Y⟩:=FH F;rw[<-k.o,e0.o])))
  go_ret3;have I:A8 ps=Q:=by have L:=HK.o;rw[bC h0] at L;exact L
  refine⟨0,0,by rw[I];rfl,fun e=>absurd (I.symm.trans e) h0,?_⟩
  first|exact t|exact t.drew|exact t.drewN _
end Go.Proofs.Q
namespace Rf
def NK(ns:List Int)(v:Int):Int:=if v∈ns then(ns.idxOf v:Nat)+1 else 0
theorem X6{l:List Int}{x v:Int}(h:x≠v): (x::l).idxOf v=l.idxOf v+1:=by
 rw[List.idxOf_cons,aY.2 h];rfl
theorem TH:∀{ns:List Int} {v:Int},v∉ns->(ns++[v]).idxOf v=ns.length
 |[],v,_=>by simp
 |u::ns,v,h=>by
  have a:u≠v:=fun e=>h (by simp[e]);have:=TH (ns:=ns) (v:=v) (fun e=>h (bA _ e));rw[List.cons_append,X6 a,this];rfl
theorem dV:∀{ns:List Int} {u v:Int},u∈ns->(ns++[v]).idxOf u=ns.idxOf u
 |[],_,_,h=>by cases h
 |x::ns,u,v,h=>by
  by_cases hx:x=u
  ·subst hx;simp
  ·have a:u∈ns:=by
    rcases bP.1 h with rfl|h
    ·exact absurd rfl hx
    ·exact h
   rw[List.cons_append,X6 hx,X6 hx,dV a]
theorem W6:∀(ns:List Int) (v:Int),ns.idxOf v<=ns.length
 |[],_=>by simp
 |x::ns,v=>by
  by_cases hx:x=v
  ·subst hx;simp
  ·rw[X6 hx];have:=W6 ns v;simp;omega
theorem yZ{ns:List Int}{v:Int}(h:v∉ns):NK (ns++[v]) v=(ns.length:Int)+1:=by
 unfold NK;rw[bD aE,TH h]
theorem aA7{ns:List Int}{u v:Int}(h:u≠v):NK (ns++[v]) u=NK ns u:=by
 unfold NK;by_cases a:u∈ns
 ·rw[bD (by simp[a]),bD a,dV a]
 ·rw[bC (by simp[a,h]),bC a]
end Rf
namespace Go.Proofs.Q
open Rf _root_.Go.Proofs.Tryz
open Go.RowKit
structure ku(w:World)(nb g past:Nat)(ns:List Int):Prop where
 n:w.heap[nb]?=some (.cells #[.slice (some ⟨g,0,none⟩) past past,.int .i64 (ns.length:Nat)] 225 (0,0))
 r:∃cur:Array Value,w.heap[g]?=some (.cells cur 3 (0,0))/\cur.size=past/\∀v,v<past->cur[v]?=some (.int .i64 (NK ns v))
 ne:g≠nb
 small:past<=1000000
theorem mV(w:World)(b g a:Nat)(ns:List Int)(v:Nat)(h:ku w b g a ns)(K:v<a)(P:ns.length<=1000000000):Calls prog 175 #[.pointer (some ⟨b,0,none⟩),.int .i64 (v:Int)] w fun r w'=>r= .returned (.int .i64 ((CY ns v).idxOf (v:Int):Nat))/\ku w' b g a (CY ns v)/\Kept (fun k=>k=b\/k=g) w w':=by
 obtain⟨o,⟨j,x,m,d⟩,c,G⟩:=h;have⟨M,k1⟩:=cI o;have R:=AE o;have S:=AD o;have N:=AE x;have O:=AD x;simp at M k1;have z:w.cell? ⟨g,v,none⟩=some (.int .i64 (NK ns v)):=by rw[AA x];exact d v K
 have q:b≠g:=Ne.symm c;have s:¬b=g:=q;have t:¬g=b:=c;have E:=aO o;have F:=aO x;have i:=aO d;have L: (v:Int)<a:=aD;clear o x d;by_cases e: (v:Int)∈ns
 ·have f:Hid (CY ns v=ns):=by unfold Hid CY;rw[bD e]
  have l:NK ns v=(ns.idxOf (v:Int):Nat)+1:=by unfold NK;rw[bD e]
  have B:=W6 ns v;rw[l] at z;clear e l;obtain⟨C,n⟩:∃C,Hid (C=ns.idxOf (v:Int)):=⟨_,rfl⟩
  rw[<-n.o] at z B;have Q: (((C:Nat):Int)+1==0)=false:=aY.2 aD;go_enter func175,ntmps175;go_wp2_with fail;go_ret;refine⟨CL (by rw[f.o];rw[n.o]),by rw[f.o];exact⟨E.o,⟨j,F.o,m,i.o⟩,c,G⟩,Kept.refl _ _⟩
 ·have f:Hid (CY ns v=ns++[(v:Int)]):=by unfold Hid CY;rw[bC e]
  have l:NK ns v=0:=by unfold NK;rw[bC e]
  have D:=aO e;rw[l] at z;clear l e;go_enter func175,ntmps175;go_wp2_with fail;go_region
  all_goals go_wp2_with fail
  all_goals
   go_ret;refine⟨CL (by rw[f.o,TH D.o]<;>omega),?_,?_⟩
   ·rw[f.o];refine⟨?_,⟨j.setIfInBounds v (.int .i64 ((ns.length:Int)+1)),?_,by simpa using m,fun u J=>?_⟩,c,G⟩
    ·have H:=AK E.o 1 (.int .i64 ((ns.length:Int)+1));have A:∀(X:World) u,(X.setCell ⟨g,v,none⟩ u).heap[b]?=X.heap[b]?:=fun X u=>cF _ _ _ _ s;have I: (((ns++[(v:Int)]).length:Nat):Int)=(ns.length:Int)+1:=aE;rw[I];exact(A _ _).trans H
    ·have A:∀u,(w.setCell ⟨b,1,none⟩ u).heap[g]?=w.heap[g]?:=fun u=>cF _ _ _ _ t;exact AK ((A _).trans F.o) v _
    ·by_cases y:u=v
     ·subst y;rw[yZ D.o,Array.getElem?_setIfInBounds_self_of_lt aD]
     ·rw[aA7 aD,Array.getElem?_setIfInBounds_ne (Ne.symm y)];exact i.o u J
   ·exact(((Kept.refl _ w).setCell (p:=⟨b,1,none⟩) (Or.inr (Or.inl rfl)) _).setCell (p:=⟨g,v,none⟩) (Or.inr (Or.inr rfl)) _).drew
end Go.Proofs.Q
namespace Rf
theorem eR:∀(t:List AB) (ns:List Int) (p:AB),AQ ns (t++[p])=((AQ ns t).1++[IW (AQ ns t).2 p],BU (AQ ns t).2 p)
 |[],ns,p=>rfl
 |q::t,ns,p=>by
  rw[List.cons_append,AQ,eR t (BU ns q) p,AQ];rfl
theorem lQ(ns:List Int)(v:Int): (CY ns v).length<=ns.length+1:=by
 unfold CY;split
 ·omega
 ·simp
theorem vB(ns:List Int)(p:AB): (BU ns p).length<=ns.length+1:=by
 unfold BU;split
 ·exact lQ _ _
 ·omega
theorem W2:∀(t:List AB) (ns:List Int),(AQ ns t).1.length=t.length/\(AQ ns t).2.length<=ns.length+t.length
 |[],ns=>by simp[AQ]
 |q::t,ns=>by
  have a:=W2 t (BU ns q);have b:=vB ns q;rw[AQ];simp only[bM];omega
end Rf
namespace Go.Proofs.Q
open Rf _root_.Go.Proofs.Tryz
open Go.RowKit
theorem ku.types{w:World}{e g a:Nat}{ns:List Int}(h:ku w e g a ns):∀k cs,w.heap[k]?=some (.cells cs 129 (0,0))->¬(k=e\/k=g):=by
 intro k cs b i;rcases i with rfl|rfl
 ·rw[h.n] at b;injection b with c;injection c with _ d;exact absurd d aF
 ·obtain⟨f,j,_⟩:=h.r;rw[j] at b;injection b with c;injection c with _ d;exact absurd d aF
theorem ku.Nr{w:World}{e g a:Nat}{ns:List Int}(h:ku w e g a ns):∀k cs,w.heap[k]?=some (.cells cs 84 (0,0))->¬(k=e\/k=g):=by
 intro k cs b i;rcases i with rfl|rfl
 ·rw[h.n] at b;injection b with c;injection c with _ d;exact absurd d aF
 ·obtain⟨f,j,_⟩:=h.r;rw[j] at b;injection b with c;injection c with _ d;exact absurd d aF
theorem ku.lt{w:World}{b g a:Nat}{ns:List Int}(h:ku w b g a ns):b<w.heap.size/\g<w.heap.size:=by
 obtain⟨c,d,_⟩:=h.r;exact⟨AD h.n,AD d⟩
theorem ku.kept{M:Nat->Prop}{w w':World}{b g a:Nat}{ns:List Int}(h:ku w b g a ns)(d:Kept M w w')(f:¬M b)(i:¬M g):ku w' b g a ns:=by
 obtain⟨c,e,j⟩:=h.r;exact⟨(d.block b (AD h.n) f).trans h.n,⟨c,(d.block g (AD e) i).trans e,j⟩,h.ne,h.small⟩
theorem ku.below{w w':World}{b g a:Nat}{ns:List Int}(h:ku w b g a ns)(c:Below w.heap.size w w'):ku w' b g a ns:=h.kept (Kept.of_below c (fun _=>False)) (fun e=>e) (fun e=>e)
theorem gR(w:World)(y g i:Nat)(ns:List Int)(a:Option Addr)(n c:Nat)(ps:List AB)(hN:ku w y g i ns)(hS:Seen w 129 AH (.slice a n c) ps)(hl:ps.length<=100000)(hv:∀p∈ps,p.kind=1->0<=p.value/\p.value<i)(b5:ns.length<=900000000):Calls prog 158 #[.pointer (some ⟨y,0,none⟩),.slice a n c] w fun r w'=>∃(a3:Option Addr) (n3 c3:Nat),r= .returned (.slice a3 n3 c3)/\Seen w' 129 AH (.slice a3 n3 c3) (AQ ns ps).1/\ku w' y g i (AQ ns ps).2/\Kept (fun k=>k=y\/k=g) w w':=by
 have hn:n=ps.length:=hS.len;subst hn;have Z:=aO hS;have HV:=aO hv;have HN:=aO hN;obtain⟨b4,a8⟩:=hN.lt;clear hS hv hN;go_enter func158,ntmps158;go_wp2_with fail;go_loopw [5,6,12] (fun cv rv iv wr=>∃(k:Nat) (b:Bool),k<=ps.length/\iv= .int .i64 k/\cv= .bool b/\Hid (b=false->(AQ ns (ps.take k)).1=ps.take k)/\aj wr w.heap.size 129 4 AH rv (AQ ns (ps.take k)).1/\ku wr y g i (AQ ns (ps.take k)).2/\Kept (fun k=>k=y\/k=g) w wr) (fun _ _ iv _=>ps.length -(intOf iv).toNat)
 case atStart=>exact⟨0,false,aD,rfl,rfl,fun _=>rfl,aj.nil _ _ _ _ _,HN.o,Kept.refl _ _⟩
 case round=>
  obtain⟨k,b,hk,rfl,rfl,hb,d,q,m⟩:=hrel;have X:=m.size;obtain⟨H,I,a5⟩:=CJ d;subst a5;have o:=W2 (ps.take k) ns;have Y: (ps.take k).length<=k:=by rw[bW];omega
  by_cases L:k<ps.length
  ·obtain⟨gp,off,rfl⟩:=Z.o.pos aD;have b2:=Z.o.lt;have D:ps[k]∈ps:=bG L;obtain⟨e0,e1,e2,e3⟩:=Seen.parts (Z.o.kept m HN.o.types) k ps[k] (by simp[L]);have z:=HV.o _ D;have O:ps.take (k+1)=ps.take k++[ps[k]]:=bJ L;have f:Hid (AQ ns (ps.take (k+1))=((AQ ns (ps.take k)).1++[IW (AQ ns (ps.take k)).2 ps[k]],BU (AQ ns (ps.take k)).2 ps[k])):=by unfold Hid;rw[O,eR]
   have R:=aO O;clear D O;generalize ps[k]=p at*;have Ci:gp<wr.heap.size:=aD;have b0: (k:Int)<ps.length:=aD;obtain⟨acc,B⟩:∃acc,Hid (acc=(AQ ns (ps.take k)).1):=⟨_,rfl⟩
   obtain⟨t,a1⟩:∃t,Hid (t=(AQ ns (ps.take k)).2):=⟨_,rfl⟩
   rw[<-B.o] at d o f hb;rw[<-a1.o] at o q f;rw[<-B.o];have b3:acc.length<=100000:=aD;have b1:t.length<=900100000:=aD;clear o;obtain⟨A,G,pv,F⟩:=p;simp only at e0 e1 e2 e3 z
   cases k1: (A==1)
   ·have s:IW t ⟨A,G,pv,F⟩=⟨A,G,pv,F⟩/\BU t ⟨A,G,pv,F⟩=t:=by unfold IW BU;rw[bC (aY.1 k1),bC (aY.1 k1)];exact⟨rfl,rfl⟩
    rw[s.1,s.2] at f;clear s z;go_wp2_with (at_builtin;refine AY Tryz.lg AH BC DX _ rfl (.tmp 32) (.tmp 34) rfl w.heap.size (.slice H acc.length I) acc rfl ((d.alloc _).alloc _) ⟨_,0,none⟩ 1 ⟨A,G,pv,F⟩ rfl (FD _ _ aE _ _ _ _ _) aD aJ ?_;intro gA gu w3 l u jh);go_roundw
    case rel=>
     refine⟨k+1,b,aD,by go_num,rfl,?_,by rw[f.o];exact l,?_,?_⟩
     ·intro T;rw[f.o,R.o];show acc++_=_;rw[hb.o T]
     ·rw[f.o];exact((q.below aM:ku ((wr.alloc _).alloc _) y g i t)).kept (M:=fun k=>(Value.slice H acc.length I).ownBlock=some k) ⟨u.os,u.tape,u.output,u.size,fun j hj hr=>u.block j hj (fun e=>hr e.symm)⟩ (fun e=>by have:=(d.lt _ e).1;omega) (fun e=>by have:=(d.lt _ e).1;omega)
     ·exact((m.alloc _).alloc _).grown u (fun j e=> .inl (d.lt j e).1)
    case measure=>simp[intOf];omega
   ·obtain⟨v0,v1⟩:=z (bT k1);obtain⟨v,rfl⟩:=Int.eq_ofNat_of_zero_le v0;have a6:v<i:=aD;have s:IW t ⟨A,G,(v:Int),F⟩=⟨A,G,((CY t v).idxOf (v:Int):Nat),F⟩/\BU t ⟨A,G,(v:Int),F⟩=CY t v:=by unfold IW BU;rw[bD (bT k1),bD (bT k1)];exact⟨rfl,rfl⟩
    rw[s.1,s.2] at f;have U:=W6 (CY t v) v;have V:=lQ t v;obtain⟨P,W⟩:∃P,Hid (P=(CY t v).idxOf (v:Int)):=⟨_,rfl⟩
    rw[<-W.o] at f U;have a9: (P:Int)<=900100001:=aD;have a2:¬(wr.heap.size=y\/wr.heap.size=g):=aD;have E: (Value.slice H acc.length I).ownBlock≠some wr.heap.size:=fun e=>by have:=(d.lt _ e).2;omega
    have Q:=aO E;have a0:Hid (∀j,(Value.slice H acc.length I).ownBlock=some j->¬(j=y\/j=g)):=fun j e he=>by have:=(d.lt j e).1;rcases he with rfl|rfl<;>omega
    clear s z v0 v1 U V E
    cases b
    all_goals
     go_wp2_with (first
      |(go_at_call 175;refine(mV _ y g i t v (q.below aM) a6 aD).mono ?_;rintro r w2 ⟨rfl,S,x⟩;rw[<-W.o];have a7:=x.size;simp at a7;have K:=(x.block wr.heap.size aE a2).trans (AJ _ _);have⟨p0,p1,p2,p3⟩:=cM K;have pf:=AE K;have pl:=AD K;simp at p0 p1 p2 p3;have N:=((d.alloc _).keptBy x a0.o).setCell ⟨wr.heap.size,2,none⟩ (.int .i64 P) Q.o)
      |(at_builtin;refine AY Tryz.lg AH BC DX _ rfl (.tmp 32) (.tmp 34) rfl w.heap.size (.slice H acc.length I) acc rfl (N.alloc _) ⟨_,0,none⟩ 1 ⟨A,G,(P:Int),F⟩ rfl (FD _ _ aE _ _ _ _ _) aD aJ ?_;intro gA gu w3 l u jh))
    ·go_roundw
     case rel=>
      refine⟨k+1,((P:Int)!=(v:Int)),aD,by go_num,rfl,?_,by rw[f.o];exact l,?_,(((((m.alloc _).trans x (fun _ _ h=>h)).setCell (p:=⟨wr.heap.size,2,none⟩) (Or.inl X) _).alloc _).grown u (fun j e=> .inl (d.lt j e).1))⟩
      ·intro T;have J: (P:Int)=v:=by simpa using T
       rw[f.o,R.o];show acc++_=_;rw[hb.o (by trivial),J]
      ·rw[f.o];exact(S.kept (M:=fun k=>k=wr.heap.size\/(Value.slice H acc.length I).ownBlock=some k) ((((Kept.refl _ w2).setCell (p:=⟨wr.heap.size,2,none⟩) (Or.inr (Or.inl rfl)) _).alloc _).grown u (fun j e=> .inr (.inr e))) (fun e=>by rcases e with e|e;omega;have:=(d.lt _ e).1;omega) (fun e=>by rcases e with e|e;omega;have:=(d.lt _ e).1;omega))
     case measure=>simp[intOf];omega
    ·go_roundw
     case rel=>
      refine⟨k+1,true,aD,by go_num,rfl,(fun T=>by cases T),by rw[f.o];exact l,?_,(((((m.alloc _).trans x (fun _ _ h=>h)).setCell (p:=⟨wr.heap.size,2,none⟩) (Or.inl X) _).alloc _).grown u (fun j e=> .inl (d.lt j e).1))⟩;rw[f.o];exact(S.kept (M:=fun k=>k=wr.heap.size\/(Value.slice H acc.length I).ownBlock=some k) ((((Kept.refl _ w2).setCell (p:=⟨wr.heap.size,2,none⟩) (Or.inr (Or.inl rfl)) _).alloc _).grown u (fun j e=> .inr (.inr e))) (fun e=>by rcases e with e|e;omega;have:=(d.lt _ e).1;omega) (fun e=>by rcases e with e|e;omega;have:=(d.lt _ e).1;omega))
     case measure=>simp[intOf];omega
  ·obtain rfl:k=ps.length:=aD
   cases b
   ·have C: (AQ ns ps).1=ps:=by have J:=hb.o rfl;rw[List.take_length] at J;exact J
    have Bc:=aO C;rw[List.take_length] at q;clear C o Y;go_wp2_with fail;go_ret;exact⟨_,_,_,rfl,by rw[Bc.o];exact Z.o.kept m HN.o.types,q,m⟩
   ·rw[List.take_length] at q;clear o Y;go_wp2_with fail;go_ret;exact⟨_,_,_,rfl,by have J:=d.seen;simp only[List.take_length] at J⊢;exact J,q,m⟩
end Go.Proofs.Q
namespace Rf
theorem YB:∀(ts:List (List AB)) (ns:List Int) (t:List AB),AT ns (ts++[t])=((AT ns ts).1++[(AQ (AT ns ts).2 t).1],(AQ (AT ns ts).2 t).2)
 |[],ns,t=>rfl
 |u::ts,ns,t=>by
  rw[List.cons_append,AT,YB ts (AQ ns u).2 t,AT];rfl
theorem dS:∀(ts:List (List AB)) (ns:List Int),(∀t∈ts,t.length<=400)->(AT ns ts).2.length<=ns.length+ts.length*400
 |[],ns,_=>by simp[AT]
 |t::ts,ns,h=>by
  have b:=dS ts (AQ ns t).2 (fun u a=>h u (bA _ a));have c:=(W2 t ns).2;have d:=h t aE;rw[AT];simp only[bM];omega
end Rf
namespace Go.Proofs.Q
open Rf _root_.Go.Proofs.Tryz
open Go.RowKit
theorem ku.made{w:World}{g a:Nat}{o:Obj}(h:w.ownsRow 0 3 1 (.slice (some ⟨g,0,none⟩) a a) a (madeCells (Value.int .i64 0).cells (a*1)).toList)(n:a<=1000000)(m:o= .cells #[.slice (some ⟨g,0,none⟩) a a,.int .i64 0] 225):ku (w.alloc o) w.heap.size g a []:=by
 subst m;rcases h.2 with⟨e,_⟩|⟨k,d,c,e,_,f,q,r,s,l⟩
 ·cases e
 ·obtain⟨rfl,rfl⟩:g=k/\a=d:=by injection e with b _ j;injection b with b;injection b with b;exact⟨b,j⟩
  refine⟨AJ _ _,⟨c,AF f _,aD,fun v p=>?_⟩,by have:=AD f;omega,n⟩
  have i: (c.toList.take (a*1))[v]?=some (.int .i64 0):=by
   rw[l];simp[madeCells,Value.cells,Nat.mod_one,p]
  rw[List.getElem?_take,bD aD] at i;simpa[NK] using i
theorem rC{ts:List (List AB)}(b:∀t∈ts,∀p∈t,p.kind=1->0<=p.value/\p.value<1000000):0<=DV 0 ts/\DV 0 ts<=1000000:=by
 have c:∀(ts:List (List AB)) (a:Int),(∀t∈ts,∀p∈t,p.kind=1->0<=p.value/\p.value<1000000)->0<=a->a<=1000000->0<=DV a ts/\DV a ts<=1000000:=by
  intro ts
  induction ts with
  |nil=>intro a _ d e;exact⟨d,e⟩
  |cons t ts h=>
   intro a b d e;rw[DV];have f:0<=EK t/\EK t<=1000000:=MB (b t aE) (a:=0) aD aD;refine h _ (fun q g=>b q (bA _ g)) ?_ ?_
   ·unfold EW;split<;>omega
   ·unfold EW;split<;>omega
 exact c ts 0 b aD aD
theorem je.keptN{base:Nat}{w w':World}{v:Value}{acc:List (SlV×List AB)}{b g a:Nat}{ns:List Int}(h:je base w v acc)(c:Kept (fun k=>k=b\/k=g) w w')(d:ku w b g a ns)(j:b<base)(l:g<base):je base w' v acc:=
 ⟨h.row.keptBy c (fun k e f=>by have:=(h.row.lt k e).1;rcases f with rfl|rfl<;>omega),fun q i=>(h.each q i).kept c d.types⟩
theorem S9(w:World)(vt:Value)(ts:List (List AB))(h:ak w vt ts)(hl:ts.length<=20000)(O:∀t∈ts,t.length<=400)(hv:∀t∈ts,∀p∈t,p.kind=1->0<=p.value/\p.value<1000000):Calls prog 126 #[vt] w fun r w'=>∃W n3 X,r= .returned (.tuple #[.slice W n3 X,.int .i64 ((AT [] ts).2.length:Nat)])/\ak w' (.slice W n3 X) (AT [] ts).1/\Below w.heap.size w w':=by
 obtain⟨acc,hT,hE,rfl⟩:=h.ex;obtain⟨a,c,rfl⟩:=hT.slice;rw[aZ] at hl;have a2:∀q∈acc,Seen w 129 AH (slv q.1) q.2/\q.2.length<=400/\(∀p∈q.2,p.kind=1->0<=p.value/\p.value<1000000)/\(∀p∈q.2,p.kind=1->p.value<DV 0 (acc.map (·.2))):=fun q hq=>⟨hE q hq,O q.2 (List.mem_map_of_mem hq),hv q.2 (List.mem_map_of_mem hq),fun p hp Z=>SX (List.mem_map_of_mem hq) hp Z⟩
 have c9:=rC hv;have V:=aO hT;have HE:=aO a2;have HL:=aO O;clear h hT hE O a2 hv;rw[aZ];obtain⟨P,hP⟩:∃P:Nat,Hid (DV 0 (acc.map (·.2))=P):=⟨(DV 0 (acc.map (·.2))).toNat,by unfold Hid;omega⟩
 have b6:P<=1000000:=by have:=hP.o;omega
 clear c9;go_enter func126,ntmps126;go_wp2_with fail;go_loopw [4,14] (fun mv S wr=>∃(k:Nat) (m:Int),k<=acc.length/\S= .int .i64 k/\mv= .int .i64 m/\0<=m/\m<=1000000/\Below w.heap.size w wr/\Hid (DV 0 (acc.map (·.2))=DV m ((acc.drop k).map (·.2)))) (fun _ S _=>acc.length -(intOf S).toNat)
 case atStart=>exact⟨0,0,aD,rfl,rfl,aD,aD,bZ _ _,rfl⟩
 case round=>
  obtain⟨k,m,Z,rfl,rfl,c5,c6,y,d⟩:=hrel;have R:=y.size;by_cases Q:k<acc.length
  ·obtain⟨g,off,rfl⟩:=V.o.pos aJ;have c1:=V.o.lt;have i:acc[k]∈acc:=bG Q;have l:=Seen.yx (V.o.below y) k acc[k].1 (by simp[Q]);obtain⟨hS,K,f,_⟩:=HE.o _ i;have z:acc.drop k=acc[k]::acc.drop (k+1):=List.drop_eq_getElem_cons Q;rw[z,List.map_cons,DV] at d;clear i z;generalize acc[k]=q at*;obtain⟨⟨qa,qn,qc⟩,F⟩:=q;simp only at l K f d;have HS:=aO hS;have I:=aO f;have d0:0<=EK F/\EK F<=1000000:=MB f (a:=0) aD aD;clear hS f;have Ci:g<wr.heap.size:=aD;have b1: (k:Int)<acc.length:=aD
   go_wp2_with (first
    |(go_at_call 157;refine(SE _ qa qn qc F (HS.o.below y) aD I.o).mono ?_;rintro r s ⟨rfl,G⟩)
    |(go_at_call 156;refine(OG m (EK F) _).mono ?_;rintro r w3 ⟨rfl,d5⟩;subst w3))
   go_roundw
   case rel=>exact⟨k+1,EW m (EK F),aD,by go_num,rfl,(by unfold EW;split<;>omega),(by unfold EW;split<;>omega),y.trans (G.mono R),d⟩
   case measure=>simp[intOf];omega
  ·obtain rfl:k=acc.length:=aD;have c7:m=(P:Nat):=by have u:=d.o;rw[List.drop_length,hP.o] at u;exact u.symm
   subst c7;clear d c5 c6;have HI:=aO (info_parts Tryz.Df.2.1);have d8:w.heap.size<=wr.heap.size:=R;go_wp2_with (at_make;obtain⟨iI,a7,a8,a9,b0⟩:=HI.o;refine wpList_make_full _ rfl (.tmp 23) (.tmp 23) 24 rfl 0 3 iI (.int .i64 0) 1 Tryz.Df.1 a7 a8 a9 .i64 .i64 P P P rfl rfl rfl rfl (by rw[b0];omega) (by unfold maxLen;omega) (bK _) ?_;intro s D Dn;clear a7 a8 a9 b0);have n:=ku.made (o:= .cells #[.slice (some ⟨wr.heap.size,0,none⟩) P P,.int .i64 0] 225) D b6 rfl;have G:Below w.heap.size w s:=y.grown Dn R (fun k e=>by cases e);have d6:wr.heap.size+1<=s.heap.size:=by have:=n.lt.2;simp at this;obtain⟨d1,hc,_⟩:=n.r;have u:=n.ne;omega
   have a6:Below w.heap.size w (s.alloc (.cells #[.slice (some ⟨wr.heap.size,0,none⟩) P P,.int .i64 0] 225)):=G.alloc G.size _;obtain⟨U,rfl⟩:∃U:World,U=wr:=⟨_,rfl⟩
   have a0:=aO n;have J:=aO a6;clear D Dn;go_loopw [8,28] (fun lv S wx=>∃(k:Nat) (b:List (SlV×List AB)),k<=acc.length/\S= .int .i64 k/\je (s.heap.size+1) wx lv b/\b.length=k/\Hid (b.map (·.2)=(AT [] ((acc.take k).map (·.2))).1)/\ku wx s.heap.size U.heap.size P (AT [] ((acc.take k).map (·.2))).2/\Kept (fun k=>k=s.heap.size\/k=U.heap.size) (s.alloc (.cells #[.slice (some ⟨U.heap.size,0,none⟩) P P,.int .i64 0] 225)) wx) (fun _ S _=>acc.length -(intOf S).toNat)
   case atStart=>exact⟨0,[],aD,rfl,je.nil _ _,rfl,rfl,n,Kept.refl _ _⟩
   case round=>
    obtain⟨k,b,d2,rfl,Y,c2,d,v,B⟩:=hrel;obtain rfl:=c2;clear n a6;have b3:=B.size;simp at b3;obtain⟨a4,c4,b4⟩:=CJ Y.row;rw[aZ] at b4;subst b4
    have b2:=dS ((acc.take b.length).map (·.2)) [] (fun t ht=>by
     obtain⟨q,hq,rfl⟩:=bQ.1 ht;exact HL.o _ (List.mem_map_of_mem (List.mem_of_mem_take hq)))
    have Oe: (AT [] ((acc.take b.length).map (·.2))).2.length<=900000000:=by
     simp only[dA,List.length_map,List.length_take,Nat.zero_add] at b2;have:min b.length acc.length*400<=20000*400:=Nat.mul_le_mul_right _ aD;omega
    clear b2;by_cases C:b.length<acc.length
    ·obtain⟨g,off,rfl⟩:=V.o.pos aJ;have c1:=V.o.lt;have i:acc[b.length]∈acc:=bG C;have l:=Seen.yx ((V.o.below J.o).kept B a0.o.Nr) b.length acc[b.length].1 (by simp[C]);obtain⟨hS,K,f,L⟩:=HE.o _ i;have H:Hid (AT [] ((acc.take (b.length+1)).map (·.2))=((AT [] ((acc.take b.length).map (·.2))).1++[(AQ (AT [] ((acc.take b.length).map (·.2))).2 acc[b.length].2).1],(AQ (AT [] ((acc.take b.length).map (·.2))).2 acc[b.length].2).2)):=by unfold Hid;rw[bJ C,bE];exact YB _ _ _
     clear i;generalize acc[b.length]=q at*;obtain⟨⟨qa,qn,qc⟩,F⟩:=q;simp only at l K f L H;obtain⟨nn,c8⟩:∃nn,Hid (nn=(AT [] ((acc.take b.length).map (·.2))).2):=⟨_,rfl⟩
     rw[<-c8.o] at H v Oe;have HS:Hid (Seen wr 129 AH (.slice qa qn qc) F):=Seen.kept (Seen.below hS J.o) B a0.o.types;have I:Hid (∀p∈F,p.kind=1->0<=p.value/\p.value<P):=fun p hp Z=>⟨(f p hp Z).1,by have:=L p hp Z;rw[hP.o] at this;exact this⟩
     clear hS f L;have Ci:g<wr.heap.size:=aD;have b1: (b.length:Int)<acc.length:=aD;have d3:¬(s.heap.size+1<=s.heap.size):=aD
     go_wp2_with (first
      |(go_at_call 158;refine(gR _ s.heap.size U.heap.size P nn qa qn qc F v HS.o aD I.o Oe).mono ?_;rintro r w3 ⟨W,n3,X,rfl,b7,b5,N⟩;have d7:=N.size;have a1:=je.keptN Y N v aD aD)
      |(at_builtin;refine AY Tryz.mg B5 DZ F8 _ rfl (.tmp 34) (.tmp 36) rfl (s.heap.size+1) (.slice a4 b.length c4) _ rfl (a1.row.alloc _) ⟨_,0,none⟩ 1 ⟨W,n3,X⟩ rfl (BL _ _ rfl _ _) (by rw[aZ];omega) (by rw[cE];omega) ?_;intro gA gu w4 E T qm;rw[aZ] at E))
     go_roundw
     case rel=>
      refine⟨b.length+1,b++[(⟨W,n3,X⟩,(AQ nn F).1)],aD,by go_num,je.app (a1.below ((bZ _ w3).alloc (aX _) _)) (x:=⟨W,n3,X⟩) (Seen.alloc b7 _) T E,aE,?_,?_,?_⟩
      ·unfold Hid;rw[H.o,bE,d.o];rfl
      ·rw[H.o];exact(b5.below ((bZ _ w3).alloc (aX _) _)).kept (M:=fun k=>(Value.slice a4 b.length c4).ownBlock=some k) ⟨T.os,T.tape,T.output,T.size,fun j hj hr=>T.block j hj (fun e=>hr e.symm)⟩ (fun e=>by have:=(Y.row.lt _ e).1;omega) (fun e=>by have:=(Y.row.lt _ e).1;omega)
      ·exact((B.trans N (fun _ _ h=>h)).alloc _).grown T (fun j e=> .inl (by have:=(Y.row.lt j e).1;simpa using this))
     case measure=>simp[intOf];omega
    ·have A:b.length=acc.length:=aD;have uz:Hid (b.map (·.2)=(AT [] (acc.map (·.2))).1):=by have u:=d.o;rw[A,List.take_length] at u;exact u
     have a5:ku wr s.heap.size U.heap.size P (AT [] (acc.map (·.2))).2:=by have u:=v;rw[A,List.take_length] at u;exact u
     have n1:=AA a5.n 1;simp at n1;have c0:¬((b.length:Int)<acc.length):=aD;have d4:=a5.lt.1;clear A v Oe;go_wp2_with fail;go_quiet (fail);go_wp2_with fail;go_ret2;refine⟨a4,_,c4,rfl,?_,?_⟩
     ·have u:=Y.seen;rw[uz.o] at u;exact u.below ((bZ _ wr).drewN _)
     ·exact(J.o.trans (B.below aJ (fun k Z e=>by omega))).drewN _
variable {nm : Value}
structure ChV where
 g:SlV
 t:SlV
 f:Int
 c:SlV
def E6(x:ChV):List Value:=[.slice x.g.a x.g.n x.g.c,.slice x.t.a x.t.n x.t.c,.int .i64 x.f,.slice x.c.a x.c.n x.c.c]
theorem DM(s:ChV): (E6 s).length=4:=rfl
theorem ML(s:ChV):∀u∈E6 s,u.oneCell'=true:=by
 intro u a;simp only[E6,List.mem_cons,dF,or_false] at a;rcases a with rfl|rfl|rfl|rfl<;>rfl
theorem Tryz.Eu:D7 prog 125 133 4 80 (.agg #[.slice none 0 0,.slice none 0 0,.int .i64 0,.slice none 0 0]):=⟨underlying125,aK,rfl,aF,aF⟩
structure Ai(w:World)(x:ChV)(c:Ch):Prop where
 st:xq w (slv x.g) (slv x.t) x.f c.st
 cl:Seen w 3 DT (slv x.c) c.cls
theorem Ai.below{w w':World}{x:ChV}{c:Ch}(h:Ai w x c)(a:Below w.heap.size w w'):Ai w' x c:=⟨h.st.below a,h.cl.below a⟩
def QB(w:World)(q:Nat)(b c d:Value)(a:Int)(vC:Value):Prop:=w.heap[q]?=some (.cells #[b,c,d,.int .i64 a,vC] 127 (0,0))
structure zx(w:World)(v:Value)(chs:List Ch):Prop where
 ex:∃acc:List (ChV×Ch),aj w 0 133 4 E6 v (acc.map (·.1))/\(∀x∈acc,Ai w x.1 x.2)/\acc.map (·.2)=chs.reverse
structure QIs(w:World)(q:Nat)(rb:Option Nat)(vN vg vt:Value)(fr:Int)(vC:Value)(aW:List ByteArray)(cf:Cf):Prop where
 b:QB w q vN vg vt fr vC
 n:Seen w 9 A3 vN aW
 s:xq w vg vt fr cf.now
 r:zx w vC cf.chs
 o:vC.ownBlock=rb
structure QAt(nm:Value)(w:World)(q:Nat)(rb:Option Nat)(aW:List ByteArray)(cf:Cf):Prop where
 ex:∃vg vt fr vC,QIs w q rb nm vg vt fr vC aW cf
theorem QIs.at{w:World}{q:Nat}{b:Option Nat}{c e f vC:Value}{d:Int}{a:List ByteArray}{cf:Cf}(h:QIs w q b c e f d vC a cf):QAt c w q b a cf:=⟨_,_,_,_,h⟩
theorem QIs.types{w:World}{q:Nat}{g:Option Nat}{p r s vC:Value}{l:Int}{i:List ByteArray}{cf:Cf}(h:QIs w q g p r s l vC i cf){t:TypeId}(m:t≠127)(n:t≠133):∀k cs,w.heap[k]?=some (.cells cs t (0,0))->¬May q g k:=by
 intro k cs a e;rcases e with rfl|e
 ·have f:=h.b;unfold QB at f;rw[f] at a;injection a with b;injection b with _ c;exact m c.symm
 ·obtain⟨acc,o,_,_⟩:=h.r.ex;obtain⟨j,d⟩:=o.typed k (h.o.trans e.symm);rw[d] at a;injection a with b;injection b with _ c;exact n c.symm
theorem ak.Bz{w w':World}{M:Nat->Prop}{v:Value}{ts:List (List AB)}(h:ak w v ts)(a:Kept M w w')(e:∀k cs,w.heap[k]?=some (.cells cs 129 (0,0))->¬M k)(f:∀k cs,w.heap[k]?=some (.cells cs 84 (0,0))->¬M k):ak w' v ts:=by
 obtain⟨acc,b,c,d⟩:=h.ex;exact⟨acc,b.kept a f,fun q g=>(c q g).kept a e,d⟩
structure Free(w:World)(M:Nat->Prop):Prop where
 p:∀k cs,w.heap[k]?=some (.cells cs 129 (0,0))->¬M k
 t:∀k cs,w.heap[k]?=some (.cells cs 84 (0,0))->¬M k
 i:∀k cs,w.heap[k]?=some (.cells cs 3 (0,0))->¬M k
 s:∀k cs,w.heap[k]?=some (.cells cs 9 (0,0))->¬M k
 c:∀k cs,w.heap[k]?=some (.cells cs 86 (0,0))->¬M k
theorem QIs.free{w:World}{q:Nat}{a:Option Nat}{d e f vC:Value}{c:Int}{b:List ByteArray}{cf:Cf}(h:QIs w q a d e f c vC b cf):Free w (May q a):=
 ⟨h.types aF aF,h.types aF aF,h.types aF aF,h.types aF aF,h.types aF aF⟩
theorem Free.none(w:World):Free w (fun _=>False):=⟨fun _ _ _ h=>h,fun _ _ _ h=>h,fun _ _ _ h=>h,fun _ _ _ h=>h,fun _ _ _ h=>h⟩
theorem xq.kept{w w':World}{M:Nat->Prop}{d e:Value}{b:Int}{S:St}(h:xq w d e b S)(c:Kept M w w')(a:Free w M):xq w' d e b S:=⟨h.g.Bz c a.p a.t,h.t.Bz c a.p a.t,h.f⟩
theorem Ai.kept{w w':World}{M:Nat->Prop}{x:ChV}{c:Ch}(h:Ai w x c)(b:Kept M w w')(a:Free w M):Ai w' x c:=⟨h.st.kept b a,Seen.kept h.cl b a.i⟩
theorem zx.kept{w w':World}{M:Nat->Prop}{v:Value}{chs:List Ch}(h:zx w v chs)(a:Kept M w w')(e:Free w M)(f:∀k,v.ownBlock=some k->¬M k):zx w' v chs:=by
 obtain⟨acc,b,c,d⟩:=h.ex;exact⟨acc,b.keptBy a f,fun x hx=>(c x hx).kept a e,d⟩
theorem QIs.Bz{w w':World}{M:Nat->Prop}{q:Nat}{c:Option Nat}{g i j vC:Value}{f:Int}{d:List ByteArray}{cf:Cf}(h:QIs w q c g i j f vC d cf)(a:Kept M w w')(b:Free w M)(l:¬M q)(m:∀k,c=some k->¬M k):QIs w' q c g i j f vC d cf:=
 ⟨(a.block q (AD h.b) l).trans h.b,Seen.kept h.n a b.s,h.s.kept a b,h.r.kept a b (fun k e=>m k (h.o.symm.trans e)),h.o⟩
theorem QIs.below{w w':World}{q:Nat}{c:Option Nat}{d f g vC:Value}{b:Int}{a:List ByteArray}{cf:Cf}(h:QIs w q c d f g b vC a cf)(i:Below w.heap.size w w'):QIs w' q c d f g b vC a cf:=
 h.Bz (Kept.of_below i (fun _=>False)) (Free.none w) (fun e=>e) (fun _ _ e=>e)
theorem QAt.below{w w':World}{q:Nat}{b:Option Nat}{a:List ByteArray}{cf:Cf}(h:QAt nm w q b a cf)(c:Below w.heap.size w w'):QAt nm w' q b a cf:=by
 obtain⟨_,_,_,_,h⟩:=h.ex;exact(h.below c).at
theorem QB.facts{w:World}{q:Nat}{b c d vC:Value}{a:Int}(h:QB w q b c d a vC):w.cell? ⟨q,0,none⟩=some b/\w.cell? ⟨q,1,none⟩=some c/\w.cell? ⟨q,2,none⟩=some d/\w.cell? ⟨q,3,none⟩=some (.int .i64 a)/\w.cell? ⟨q,4,none⟩=some vC/\(∀i,w.frozen? ⟨q,i,none⟩=false)/\q<w.heap.size:=
 ⟨AA h 0,AA h 1,AA h 2,AA h 3,AA h 4,AE h,AD h⟩
structure ji(w:World)(v:Value)(cls:List Cl):Prop where
 ex:∃acc:List (NI×Cl),Seen w 86 IN v (acc.map (·.1))/\(∀x∈acc,pq w x.1.h x.1.b x.2)/\cls=acc.map (·.2)
theorem pq.kept{w w':World}{M:Nat->Prop}{hx bx:SlV}{b:Cl}(h:pq w hx bx b)(c:Kept M w w')(a:Free w M):pq w' hx bx b:=⟨Seen.kept h.head c a.p,h.body.Bz c a.p a.t⟩
theorem ji.kept{w w':World}{M:Nat->Prop}{v:Value}{cls:List Cl}(h:ji w v cls)(b:Kept M w w')(a:Free w M):ji w' v cls:=by
 obtain⟨acc,c,d,e⟩:=h.ex;exact⟨acc,c.kept b a.c,fun x hx=>(d x hx).kept b a,e⟩
theorem ji.below{w w':World}{v:Value}{cls:List Cl}(h:ji w v cls)(a:Below w.heap.size w w'):ji w' v cls:=h.kept (Kept.of_below a (fun _=>False)) (Free.none w)
theorem ji.slice{w:World}{v:Value}{cls:List Cl}(h:ji w v cls):∃a c,v= .slice a cls.length c:=by
 obtain⟨acc,b,_,rfl⟩:=h.ex;obtain⟨a,c,e⟩:=b.slice;exact⟨a,c,by rw[e,aZ,aZ]⟩
theorem StG.ok{N:Nat}{S:St}{F:Int}(h:Rf.StG N F S)(c:F<=1000000):yV S N:=
 ⟨h.gl,fun t a=>⟨(h.g t a).1,fun p b=>((h.g t a).2 p b).1⟩,h.tl,fun t a=>⟨(h.t t a).1,fun p b=>((h.t t a).2 p b).1⟩,h.f0,by have:=h.f1;omega⟩
theorem ClG.ok{c:Cl}(h:Rf.ClG c):ZE c:=
 ⟨⟨h.hd.1,fun p a d=>(h.hd.2 p a).2.1 d,h.bl,fun t b=>⟨(h.bd t b).1,fun p a d=>((h.bd t b).2 p a).2.1 d⟩⟩,fun p a=>(h.hd.2 p a).1,fun t b p a=>((h.bd t b).2 p a).1⟩
end Go.Proofs.Q
