import Derived.Test.YthenokfmcjmfkaaGreatDoorYae
import Derived.Deep.RegionWith
import Derived.Laws.IdiomStrings
set_option maxRecDepth 100000
set_option maxHeartbeats 1000000
namespace Go.Proofs.Q
open Rf _root_.Go.Proofs.Tryz
open Go.RowKit
theorem pU(s:ByteArray)(n m:Nat)(w:World)(i:s.size<=400)(A:n<=s.size)(d:n+B8 s n=m)(g:m<s.size)(u:IE (s[m].toNat:Int)=true):Calls prog 80 #[.string s,.int .i64 n] w fun r w'=>JD s n w r w':=by
 have j:=BF s m g;have k:Hid (BO s n=AG s m):=by unfold Hid BO;rw[d,bD g]
 have z:Hid (GP (AG s m) (LR (AN s false m) 2) m ((m:Int)+AN s false m) (LY (AN s false m))):=by
  have a:=u;rw[j] at a;unfold IE at a;simp at a;have y:B9 (BA s m)=true:=by unfold B9;simp;omega
  have B:A9 (BA s m)=false:=by unfold A9;simp;omega
  exact R2 s m 2 97 rfl aF (by unfold AG;rw[bC aD,bC (by simp[B]),bD y]) (fun W h=>by unfold DS;rw[bC h,bD a])
 have l:=aO d;clear d j;go_enter func80,ntmps80
 go_wp2_with (first
  |(go_at_call 109;refine(E8 s n _ i A).mono ?_;rintro e f ⟨rfl,rfl⟩;rw[l.o])
  |(go_at_call 110;refine(GW _ _).mono ?_;rintro e f ⟨rfl,rfl⟩)
  |(go_at_call 112;refine(GX _ _).mono ?_;rintro e f ⟨rfl,rfl⟩)
  |(go_at_call 113;refine(CP _ _).mono ?_;rintro e f ⟨rfl,rfl⟩)
  |(go_at_call 111;refine(OH s m 2 _ i aD).mono ?_;rintro e D ⟨rfl,c⟩;have b:=(c.block w.heap.size aE).trans (AJ _ _);have⟨t,o,x,q⟩:=cM b;simp at t o x q;have C:=AE b))
 refine bodyPost_ret (v:= .agg #[.int .i64 (LR (AN s false m) 2),.int .i64 m,.int .i64 ((m:Int)+AN s false m),.int .i64 (LY (AN s false m))]) (by simp[results,results80,go_sem, *]) rfl ⟨_,_,_,_,rfl,?_,?_⟩
 ·rw[k.o];exact z.o
 ·exact(((((((bZ _ w).alloc (aX _) _).trans (c.mono aE)).setCell (p:=⟨w.heap.size,0,none⟩) (aX _) _).setCell (p:=⟨w.heap.size,1,none⟩) (aX _) _).setCell (p:=⟨w.heap.size,2,none⟩) (aX _) _).setCell (p:=⟨w.heap.size,3,none⟩) (aX _) _)
theorem qU(s:ByteArray)(n m:Nat)(w:World)(i:s.size<=400)(A:n<=s.size)(d:n+B8 s n=m)(g:m<s.size)(D:IE (s[m].toNat:Int)=false)(u:IX (s[m].toNat:Int)=true):Calls prog 80 #[.string s,.int .i64 n] w fun r w'=>JD s n w r w':=by
 have j:=BF s m g;have k:Hid (BO s n=AG s m):=by unfold Hid BO;rw[d,bD g]
 have z:Hid (GP (AG s m) (LR (AN s false m) 3) m ((m:Int)+AN s false m) (LY (AN s false m))):=by
  have a:=u;rw[j] at a;unfold IX at a;simp at a;have y:B9 (BA s m)=true:=by unfold B9;simp;omega
  have B:A9 (BA s m)=false:=by unfold A9;simp;omega
  exact R2 s m 3 118 rfl aF (by unfold AG;rw[bC aD,bC (by simp[B]),bD y]) (fun W h=>by unfold DS;rw[bC h,bC aD])
 have l:=aO d;clear d j;go_enter func80,ntmps80
 go_wp2_with (first
  |(go_at_call 109;refine(E8 s n _ i A).mono ?_;rintro e f ⟨rfl,rfl⟩;rw[l.o])
  |(go_at_call 110;refine(GW _ _).mono ?_;rintro e f ⟨rfl,rfl⟩)
  |(go_at_call 112;refine(GX _ _).mono ?_;rintro e f ⟨rfl,rfl⟩)
  |(go_at_call 113;refine(CP _ _).mono ?_;rintro e f ⟨rfl,rfl⟩)
  |(go_at_call 111;refine(OH s m 3 _ i aD).mono ?_;rintro e E ⟨rfl,c⟩;have b:=(c.block w.heap.size aE).trans (AJ _ _);have⟨t,o,x,q⟩:=cM b;simp at t o x q;have C:=AE b))
 refine bodyPost_ret (v:= .agg #[.int .i64 (LR (AN s false m) 3),.int .i64 m,.int .i64 ((m:Int)+AN s false m),.int .i64 (LY (AN s false m))]) (by simp[results,results80,go_sem, *]) rfl ⟨_,_,_,_,rfl,?_,?_⟩
 ·rw[k.o];exact z.o
 ·exact(((((((bZ _ w).alloc (aX _) _).trans (c.mono aE)).setCell (p:=⟨w.heap.size,0,none⟩) (aX _) _).setCell (p:=⟨w.heap.size,1,none⟩) (aX _) _).setCell (p:=⟨w.heap.size,2,none⟩) (aX _) _).setCell (p:=⟨w.heap.size,3,none⟩) (aX _) _)
theorem pT(s:ByteArray)(n m:Nat)(w:World)(i:s.size<=400)(A:n<=s.size)(d:n+B8 s n=m)(g:m<s.size)(E:IE (s[m].toNat:Int)=false)(D:IX (s[m].toNat:Int)=false)(o: ((s[m].toNat:Int)==95)=true):Calls prog 80 #[.string s,.int .i64 n] w fun r w'=>JD s n w r w':=by
 have j:=BF s m g;have k:Hid (BO s n=AG s m):=by unfold Hid BO;rw[d,bD g]
 have z:Hid (GP (AG s m) (LR (AN s false m) 3) m ((m:Int)+AN s false m) (LY (AN s false m))):=by
  have a:BA s m=95:=by rw[<-j];exact bT o
  have y:B9 (BA s m)=true:=by rw[a];decide
  have B:A9 (BA s m)=false:=by rw[a];decide
  exact R2 s m 3 118 rfl aF (by unfold AG;rw[bC aD,bC (by simp[B]),bD y]) (fun W h=>by unfold DS;rw[bC h,bC aD])
 have l:=aO d;clear d j;go_enter func80,ntmps80
 go_wp2_with (first
  |(go_at_call 109;refine(E8 s n _ i A).mono ?_;rintro e f ⟨rfl,rfl⟩;rw[l.o])
  |(go_at_call 110;refine(GW _ _).mono ?_;rintro e f ⟨rfl,rfl⟩)
  |(go_at_call 112;refine(GX _ _).mono ?_;rintro e f ⟨rfl,rfl⟩)
  |(go_at_call 113;refine(CP _ _).mono ?_;rintro e f ⟨rfl,rfl⟩)
  |(go_at_call 111;refine(OH s m 3 _ i aD).mono ?_;rintro e F ⟨rfl,c⟩;have b:=(c.block w.heap.size aE).trans (AJ _ _);have⟨u,q,x,t⟩:=cM b;simp at u q x t;have C:=AE b))
 refine bodyPost_ret (v:= .agg #[.int .i64 (LR (AN s false m) 3),.int .i64 m,.int .i64 ((m:Int)+AN s false m),.int .i64 (LY (AN s false m))]) (by simp[results,results80,go_sem, *]) rfl ⟨_,_,_,_,rfl,?_,?_⟩
 ·rw[k.o];exact z.o
 ·exact(((((((bZ _ w).alloc (aX _) _).trans (c.mono aE)).setCell (p:=⟨w.heap.size,0,none⟩) (aX _) _).setCell (p:=⟨w.heap.size,1,none⟩) (aX _) _).setCell (p:=⟨w.heap.size,2,none⟩) (aX _) _).setCell (p:=⟨w.heap.size,3,none⟩) (aX _) _)
theorem pS(s:ByteArray)(n m:Nat)(w:World)(i:s.size<=400)(y:n<=s.size)(g:n+B8 s n=m)(f:m<s.size)(D:IE (s[m].toNat:Int)=false)(C:IX (s[m].toNat:Int)=false)(B: ((s[m].toNat:Int)==95)=false)(j:A9 (s[m].toNat:Int)=true):Calls prog 80 #[.string s,.int .i64 n] w fun r w'=>JD s n w r w':=by
 have k:=BF s m f;have l:Hid (BO s n=AG s m):=by unfold Hid BO;rw[g,bD f]
 have c: ((s[m].toNat:Int)==45)=false:=by
  have a:=j;unfold A9 at a;simp at a;rw[aY];omega
 have z:Hid (GP (AG s m) (LW (AN s true m)) m ((m:Int)+AN s true m) (LP (AN s true m))):=by
  exact eG s m false m aE (by unfold AG;rw[<-k,bC (aY.1 c),bD j])
 have o:=aO g;clear g k;go_enter func80,ntmps80
 go_wp2_with (first
  |(go_at_call 109;refine(E8 s n _ i y).mono ?_;rintro e h ⟨rfl,rfl⟩;rw[o.o])
  |(go_at_call 110;refine(GW _ _).mono ?_;rintro e h ⟨rfl,rfl⟩)
  |(go_at_call 112;refine(GX _ _).mono ?_;rintro e h ⟨rfl,rfl⟩)
  |(go_at_call 113;refine(CP _ _).mono ?_;rintro e h ⟨rfl,rfl⟩)
  |(go_at_call 114;refine(dO s m _ i f c).mono ?_;rintro e E ⟨rfl,d⟩;have b:=(d.block w.heap.size aE).trans (AJ _ _);have⟨u,q,x,t⟩:=cM b;simp at u q x t;have A:=AE b))
 refine bodyPost_ret (v:= .agg #[.int .i64 (LW (AN s true m)),.int .i64 m,.int .i64 ((m:Int)+AN s true m),.int .i64 (LP (AN s true m))]) (by simp[results,results80,go_sem, *]) rfl ⟨_,_,_,_,rfl,?_,?_⟩
 ·rw[l.o];exact z.o
 ·exact(((((((bZ _ w).alloc (aX _) _).trans (d.mono aE)).setCell (p:=⟨w.heap.size,0,none⟩) (aX _) _).setCell (p:=⟨w.heap.size,1,none⟩) (aX _) _).setCell (p:=⟨w.heap.size,2,none⟩) (aX _) _).setCell (p:=⟨w.heap.size,3,none⟩) (aX _) _)
theorem aAB(s:ByteArray)(n m:Nat)(w:World)(h:s.size<=400)(u:n<=s.size)(f:n+B8 s n=m)(d:m<s.size)(C:IE (s[m].toNat:Int)=false)(B:IX (s[m].toNat:Int)=false)(z: ((s[m].toNat:Int)==95)=false)(A:A9 (s[m].toNat:Int)=false)(b: ((s[m].toNat:Int)==45)=true):Calls prog 80 #[.string s,.int .i64 n] w fun r w'=>JD s n w r w':=by
 have i:=BF s m d;have j:Hid (BO s n=AG s m):=by unfold Hid BO;rw[f,bD d]
 have x:Hid (GP (AG s m) (LW (AN s true (m+1))) m (((m+1:Nat):Int)+AN s true (m+1)) (LP (AN s true (m+1)))):=by
  exact eG s m true (m+1) aE (by unfold AG;rw[<-i,bD (bT b)])
 have k:=aO f;clear f i;go_enter func80,ntmps80
 go_wp2_with (first
  |(go_at_call 109;refine(E8 s n _ h u).mono ?_;rintro e g ⟨rfl,rfl⟩;rw[k.o])
  |(go_at_call 110;refine(GW _ _).mono ?_;rintro e g ⟨rfl,rfl⟩)
  |(go_at_call 112;refine(GX _ _).mono ?_;rintro e g ⟨rfl,rfl⟩)
  |(go_at_call 113;refine(CP _ _).mono ?_;rintro e g ⟨rfl,rfl⟩)
  |(go_at_call 114;refine(ZZ s m _ h d b).mono ?_;rintro e D ⟨rfl,c⟩;have a:=(c.block w.heap.size aE).trans (AJ _ _);have⟨q,l,t,o⟩:=cM a;simp at q l t o;have y:=AE a))
 refine bodyPost_ret (v:= .agg #[.int .i64 (LW (AN s true (m+1))),.int .i64 m,.int .i64 (((m+1:Nat):Int)+AN s true (m+1)),.int .i64 (LP (AN s true (m+1)))]) (by simp[results,results80,go_sem, *]) rfl ⟨_,_,_,_,rfl,?_,?_⟩
 ·rw[j.o];exact x.o
 ·exact(((((((bZ _ w).alloc (aX _) _).trans (c.mono aE)).setCell (p:=⟨w.heap.size,0,none⟩) (aX _) _).setCell (p:=⟨w.heap.size,1,none⟩) (aX _) _).setCell (p:=⟨w.heap.size,2,none⟩) (aX _) _).setCell (p:=⟨w.heap.size,3,none⟩) (aX _) _)
theorem aAx(s:ByteArray)(n m:Nat)(w:World)(h:s.size<=400)(x:n<=s.size)(d:n+B8 s n=m)(c:m<s.size)(D:IE (s[m].toNat:Int)=false)(C:IX (s[m].toNat:Int)=false)(A: ((s[m].toNat:Int)==95)=false)(B:A9 (s[m].toNat:Int)=false)(t: ((s[m].toNat:Int)==45)=false)(f: ((s[m].toNat:Int)==58)=true):Calls prog 80 #[.string s,.int .i64 n] w fun r w'=>JD s n w r w':=by
 have i:=BF s m c;have j:Hid (BO s n=AG s m):=by unfold Hid BO;rw[d,bD c]
 have y:Hid (GP (AG s m) (T6 s m) m (TR s m) (T5 s m)):=vM s m (by rw[<-i];exact bT f);have k:=aO d;clear d i;go_enter func80,ntmps80
 go_wp2_with (first
  |(go_at_call 109;refine(E8 s n _ h x).mono ?_;rintro e g ⟨rfl,rfl⟩;rw[k.o])
  |(go_at_call 110;refine(GW _ _).mono ?_;rintro e g ⟨rfl,rfl⟩)
  |(go_at_call 112;refine(GX _ _).mono ?_;rintro e g ⟨rfl,rfl⟩)
  |(go_at_call 113;refine(CP _ _).mono ?_;rintro e g ⟨rfl,rfl⟩)
  |(go_at_call 115;refine(ZM s m _ h c).mono ?_;rintro e E ⟨rfl,b⟩;have a:=(b.block w.heap.size aE).trans (AJ _ _);have⟨q,l,u,o⟩:=cM a;simp at q l u o;have z:=AE a))
 refine bodyPost_ret (v:= .agg #[.int .i64 (T6 s m),.int .i64 m,.int .i64 (TR s m),.int .i64 (T5 s m)]) (by simp[results,results80,go_sem, *]) rfl ⟨_,_,_,_,rfl,?_,?_⟩
 ·rw[j.o];exact y.o
 ·exact(((((((bZ _ w).alloc (aX _) _).trans (b.mono aE)).setCell (p:=⟨w.heap.size,0,none⟩) (aX _) _).setCell (p:=⟨w.heap.size,1,none⟩) (aX _) _).setCell (p:=⟨w.heap.size,2,none⟩) (aX _) _).setCell (p:=⟨w.heap.size,3,none⟩) (aX _) _)
theorem wK(s:ByteArray)(n m:Nat)(w:World)(z:s.size<=400)(B:n<=s.size)(g:n+B8 s n=m)(f:m<s.size)(l:IE (s[m].toNat:Int)=false)(k:IX (s[m].toNat:Int)=false)(j: ((s[m].toNat:Int)==95)=false)(h:A9 (s[m].toNat:Int)=false)(c: ((s[m].toNat:Int)==45)=false)(a: ((s[m].toNat:Int)==58)=false):Calls prog 80 #[.string s,.int .i64 n] w fun r w'=>JD s n w r w':=by
 have o:=BF s m f;have q:Hid (BO s n=AG s m):=by unfold Hid BO;rw[g,bD f]
 have C:Hid (GP (AG s m) (JU (s[m].toNat:Int)) m ((m:Int)+1) (KT (s[m].toNat:Int))):=by
  rw[o] at l k j h c a⊢;exact qW s m f (aY.1 c) h (by rw[nY,l,k,j,h];rfl) (aY.1 a)
 have t:=aO g;clear g o;go_enter func80,ntmps80
 go_wp2_with (first
  |(go_at_call 109;refine(E8 s n _ z B).mono ?_;rintro e i ⟨rfl,rfl⟩;rw[t.o])
  |(go_at_call 110;refine(GW _ _).mono ?_;rintro e i ⟨rfl,rfl⟩)
  |(go_at_call 112;refine(GX _ _).mono ?_;rintro e i ⟨rfl,rfl⟩)
  |(go_at_call 113;refine(CP _ _).mono ?_;rintro e i ⟨rfl,rfl⟩)
  |(go_at_call 116;refine(iP _ m _ aD).mono ?_;rintro e E ⟨rfl,d⟩;have b:=(d.block w.heap.size aE).trans (AJ _ _);have⟨y,u,A,x⟩:=cM b;simp at y u A x;have D:=AE b))
 refine bodyPost_ret (v:= .agg #[.int .i64 (JU (s[m].toNat:Int)),.int .i64 m,.int .i64 ((m:Int)+1),.int .i64 (KT (s[m].toNat:Int))]) (by simp[results,results80,go_sem, *]) rfl ⟨_,_,_,_,rfl,?_,?_⟩
 ·rw[q.o];exact C.o
 ·exact(((((((bZ _ w).alloc (aX _) _).trans (d.mono aE)).setCell (p:=⟨w.heap.size,0,none⟩) (aX _) _).setCell (p:=⟨w.heap.size,1,none⟩) (aX _) _).setCell (p:=⟨w.heap.size,2,none⟩) (aX _) _).setCell (p:=⟨w.heap.size,3,none⟩) (aX _) _)
theorem zE(s:ByteArray)(n:Nat)(w:World)(b:s.size<=400)(a:n<=s.size):Calls prog 80 #[.string s,.int .i64 n] w fun r w'=>JD s n w r w':=by
 by_cases c:n+B8 s n<s.size
 ·obtain⟨m,d⟩:∃m,n+B8 s n=m:=⟨_,rfl⟩
  rw[d] at c
  cases f:IE (s[m].toNat:Int)
  ·cases g:IX (s[m].toNat:Int)
   ·cases h: ((s[m].toNat:Int)==95)
    ·cases j:A9 (s[m].toNat:Int)
     ·cases e: ((s[m].toNat:Int)==45)
      ·cases i: ((s[m].toNat:Int)==58)
       ·exact wK s n m w b a d c f g h j e i
       ·exact aAx s n m w b a d c f g h j e i
      ·exact aAB s n m w b a d c f g h j e
     ·exact pS s n m w b a d c f g h j
    ·exact pT s n m w b a d c f g h
   ·exact qU s n m w b a d c f g
  ·exact pU s n m w b a d c f
 ·exact yW s n w b a aD
end Go.Proofs.Q
namespace Rf
def At(a:ByteArray)(l:List Tok)(K f b C:Int):Prop:=∃t c,l=t::c/\GP t K f b C/\(t.k≠0->t.k≠63->(c=rest a (t.at_+t.s.size)/\t.at_+t.s.size<=a.size)/\t.at_<a.size/\t=AG a t.at_)/\(t.k=0->t.at_+t.s.size<=a.size)
theorem iK(a:ByteArray)(n:Nat)(h: (BO a n).k=0): (BO a n).at_+(BO a n).s.size<=a.size:=by
 unfold BO at h⊢;by_cases b:n+B8 a n<a.size
 ·rw[bD b] at h;exact absurd h (SY _ _)
 ·rw[bC b];exact aX _
theorem aBT(a:ByteArray)(n:Nat)(l:n<=a.size)(K f c C:Int)(h:GP (BO a n) K f c C):At a (rest a n) K f c C:=by
  have d:=oS a (a.size -n) n aD l;have m:=RY a n;by_cases b: (BO a n).k=0\/(BO a n).k=63
  · rw[bD b] at d;exact⟨BO a n,[],d,h,(fun g e=>by rcases b with b|b<;>contradiction),iK a n⟩
  · rw[bC b] at d;refine⟨BO a n,_,d,h,fun g e=>⟨⟨rfl,?_⟩,?_⟩,iK a n⟩
    all_goals
     unfold BO at g e⊢;by_cases j:n+B8 a n<a.size
     · rw[bD j] at e⊢;have k:=ME a _ j e
       have i: (AG a (n+B8 a n)).at_=n+B8 a n:=by
         unfold AG CU DS bad
         repeat' split
         all_goals rfl
       first|omega|exact⟨aD,by rw[i]⟩
     · rw[bC j] at g;exact absurd rfl g
end Rf
namespace Go.Proofs.Q
open Rf _root_.Go.Proofs.Tryz
open Go.RowKit
def PrB(w:World)(r:Nat)(b:ByteArray)(K f d C:Int)(e:Value)(c a:Int):Prop:=
 w.heap[r]?=some (.cells #[.string b,.int .i64 K,.int .i64 f,.int .i64 d,.int .i64 C,e,.int .i64 c,.int .i64 a] 118 (0,0))
theorem PrB.facts{w:World}{r:Nat}{b:ByteArray}{K f d C:Int}{e:Value}{c a:Int}(h:PrB w r b K f d C e c a):w.cell? ⟨r,0,none⟩=some (.string b)/\w.cell? ⟨r,1,none⟩=some (.int .i64 K)/\w.cell? ⟨r,2,none⟩=some (.int .i64 f)/\w.cell? ⟨r,3,none⟩=some (.int .i64 d)/\w.cell? ⟨r,4,none⟩=some (.int .i64 C)/\w.cell? ⟨r,5,none⟩=some e/\w.cell? ⟨r,6,none⟩=some (.int .i64 c)/\w.cell? ⟨r,7,none⟩=some (.int .i64 a)/\(∀i,w.frozen? ⟨r,i,none⟩=false)/\r<w.heap.size:=
 ⟨AA h 0,AA h 1,AA h 2,AA h 3,AA h 4,AA h 5,AA h 6,AA h 7,AE h,AD h⟩
structure Pr(w:World)(r:Nat)(text:ByteArray)(nb:Option Nat)(l:List Rf.Tok)(ns:List ByteArray):Prop where
 ex:∃K f toE C vN,PrB w r text K f toE C vN 0 0/\At text l K f toE C/\iq l/\text.size<=400/\aj w 0 9 1 A3 vN ns/\vN.ownBlock=nb/\nb≠some r/\ns.length<=16
structure PrE(w:World)(r:Nat)(E P:Int):Prop where
 ex:∃text K f toE C a n c,PrB w r text K f toE C (.slice a n c) E P/\E≠0
theorem qA(w:World)(r:Nat)(a:ByteArray)(K f b C e:Int)(m:Value)(h:PrB w r a K f b C m 0 0)(t:Rf.Tok)(n:GP t K f b C):Calls prog 83 #[.pointer (some ⟨r,0,none⟩),.int .i64 e] w fun x w'=>x= .returned (.tuple #[])/\PrB w' r a K f b C m (BR t e).1 (BR t e).2/\Kept (fun k=>k=r) w w':=by
 obtain⟨B,y,v,p,u,q,s,z,D,A⟩:=h.facts;obtain⟨t1,g,l,_⟩:=n;have H:=aO h;clear h;by_cases d:t.k=63
 ·have o: (K==1)=true:=by rw[t1,d];rfl
  have c:Hid (BR t e=(C,t.at_)/\f=t.at_):=⟨by unfold BR;rw[bD d,l],g⟩
  clear t1 g l d;go_enter func83,ntmps83;go_wp2;go_end0;rw[c.o.1];refine⟨rfl,?_,(by repeat'(first|exact QE _ _|refine QL ?_ ?_ _|refine P6 ?_|refine QU ?_ _|refine QN ?_ _|exact Or.inr rfl|exact Or.inr (Or.inl rfl)|(refine Or.inl ?_;simp;done)|(refine Or.inl ?_;simp;omega)))⟩;have i:=AK (AK (AK H.o 6 (.int .i64 e)) 6 (.int .i64 C)) 7 (.int .i64 f);have j:=c.o.2;unfold PrB;show _=some (Obj.cells #[_,_,_,_,_,_,_,.int .i64 (t.at_:Int)] _ _);rw[<-j];exact i
 ·have o: (K==1)=false:=by
   rw[t1,aY];unfold BV
   repeat' split
   all_goals(first|contradiction|decide)
  have c:Hid (BR t e=(e,t.at_)/\f=t.at_):=⟨by unfold BR;rw[bC d],g⟩
  clear t1 g l d;go_enter func83,ntmps83;go_wp2;go_end0;rw[c.o.1];refine⟨rfl,?_,(by repeat'(first|exact QE _ _|refine QL ?_ ?_ _|refine P6 ?_|refine QU ?_ _|refine QN ?_ _|exact Or.inr rfl|exact Or.inr (Or.inl rfl)|(refine Or.inl ?_;simp;done)|(refine Or.inl ?_;simp;omega)))⟩;have i:=AK (AK H.o 6 (.int .i64 e)) 7 (.int .i64 f);have j:=c.o.2;unfold PrB;show _=some (Obj.cells #[_,_,_,_,_,_,_,.int .i64 (t.at_:Int)] _ _);rw[<-j];exact i
theorem Pr.shape{w:World}{r:Nat}{d:ByteArray}{n:Option Nat}{l:List Rf.Tok}{ns:List ByteArray}(h:Pr w r d n l ns):∃t i K f b C a c,l=t::i/\PrB w r d K f b C (.slice a ns.length c) 0 0/\GP t K f b C:=by
 obtain⟨K,f,b,C,o,m,⟨t,i,j,k,_⟩,_,_,e,_⟩:=h.ex;rcases e.shape with⟨rfl,rfl⟩|⟨g,c,rfl,_⟩
 ·exact⟨t,i,K,f,b,C,_,_,j,m,k⟩
 ·exact⟨t,i,K,f,b,C,_,_,j,m,k⟩
theorem Pr.ended{w:World}{r:Nat}{a:ByteArray}{b:Option Nat}{l:List Rf.Tok}{ns:List ByteArray}(h:Pr w r a b l ns):iq l:=by
 obtain⟨_,_,_,_,_,_,_,h,_⟩:=h.ex;exact h
theorem F9(w:World)(r:Nat)(b:ByteArray)(n:Option Nat)(t:Rf.Tok)(l:List Rf.Tok)(ns:List ByteArray)(e:Int)(h:Pr w r b n (t::l) ns)(m:e≠0):Calls prog 83 #[.pointer (some ⟨r,0,none⟩),.int .i64 e] w fun x w'=>x= .returned (.tuple #[])/\PrE w' r (BR t e).1 (BR t e).2/\Kept (fun k=>k=r) w w':=by
 obtain⟨q,p,K,f,d,C,a,c,j,s,o⟩:=h.shape;obtain⟨rfl,rfl⟩:t=q/\l=p:=by injection j with i g;exact⟨i,g⟩
 refine(qA w r b K f d C e _ s t o).mono ?_;rintro x w' ⟨rfl,i,g⟩;exact⟨rfl,⟨_,_,_,_,_,_,_,_,i,WG h.ended m⟩,g⟩
theorem Kept.Ij{w w':World}{n:Nat}(h:Below (w.drewN n).heap.size (w.drewN n) w')(M:Nat->Prop):Kept M w w':=(Kept.drewN (Kept.refl M w) n).trans (Kept.of_below h M) (fun _ _ e=>e)
theorem KY(w:World)(r:Nat)(a:ByteArray)(K f C:Int)(n:Nat)(l:Value)(h:PrB w r a K f n C l 0 0)(p:a.size<=400)(s:n<=a.size):Calls prog 50 #[.pointer (some ⟨r,0,none⟩)] w fun x w'=>∃d j b i,x= .returned (.tuple #[])/\PrB w' r a d j b i l 0 0/\GP (BO a n) d j b i/\Kept (fun k=>k=r) w w':=by
 obtain⟨P,L,J,v,I,y,B,N,Q,q⟩:=h.facts;have H:=aO h;clear h;go_enter func50,ntmps50;go_region_with (go_at_call 80;refine(zE a n _ p s).mono ?_;rintro e m ⟨d,j,b,i,rfl,o,c⟩;have g:PrB m r a K f n C l 0 0:=(c.block r q).trans H.o;obtain⟨D,E,M,F,A,G,R,u,O,z⟩:=g.facts)
 all_goals
  go_end0;refine⟨d,j,b,i,rfl,AK (AK (AK (AK g 1 (.int .i64 d)) 2 (.int .i64 j)) 3 (.int .i64 b)) 4 (.int .i64 i),o,?_⟩;have t:Kept (fun k=>k=r) w m:=by first|exact Kept.of_below c _|exact Kept.Ij c _|exact Kept.of_below1 c _
  repeat' (first|exact t|exact Or.inr rfl|refine Kept.setCell ?_ ?_ _|refine Kept.drew ?_|refine Kept.drewN ?_ _)
theorem Pr.toks{w:World}{r:Nat}{a:ByteArray}{e:Option Nat}{t:Rf.Tok}{l:List Rf.Tok}{ns:List ByteArray}(h:Pr w r a e (t::l) ns):∃K f b C d,PrB w r a K f b C d 0 0/\GP t K f b C/\(t.k≠0->t.k≠63->(l=Rf.rest a (t.at_+t.s.size)/\t.at_+t.s.size<=a.size)/\t.at_<a.size/\t=AG a t.at_)/\iq (t::l)/\a.size<=400/\aj w 0 9 1 A3 d ns/\d.ownBlock=e/\e≠some r/\ns.length<=16:=by
 obtain⟨K,f,b,C,d,m,⟨o,v,u,n,x,_⟩,k,p,c,g,j,i⟩:=h.ex;obtain⟨rfl,rfl⟩:t=o/\l=v:=by injection u with s q;exact⟨s,q⟩
 exact⟨K,f,b,C,d,m,n,x,k,p,c,g,j,i⟩
theorem Pr.mk'{w:World}{r:Nat}{a:ByteArray}{e:Option Nat}{n:Nat}{ns:List ByteArray}{K f b C:Int}{d:Value}(l:PrB w r a K f b C d 0 0)(j:GP (BO a n) K f b C)(i:n<=a.size)(k:a.size<=400)(c:aj w 0 9 1 A3 d ns)(h:d.ownBlock=e)(m:e≠some r)(g:ns.length<=16):Pr w r a e (Rf.rest a n) ns:=
 ⟨K,f,b,C,d,l,aBT a n i K f b C j,EI a _ _,k,c,h,m,g⟩
theorem EN(w:World)(r:Nat)(a:ByteArray)(q:Option Nat)(t:Rf.Tok)(l:List Rf.Tok)(ns:List ByteArray)(h:Pr w r a q (t::l) ns)(B:t.k≠0)(c:t.k≠63):Calls prog 50 #[.pointer (some ⟨r,0,none⟩)] w fun x w'=>x= .returned (.tuple #[])/\Pr w' r a q l ns/\Kept (fun k=>k=r) w w':=by
 obtain⟨K,f,j,C,E,v,z,D,F,s,d,g,i,o⟩:=h.toks;obtain⟨⟨A,b⟩,_⟩:=D B c;have m:j=((t.at_+t.s.size:Nat):Int):=by rw[z.2.2.2 c];omega
 subst m;refine(KY w r a K f C _ E v s b).mono ?_;rintro x w' ⟨G,I,y,H,rfl,p,n,u⟩;refine⟨rfl,?_,u⟩;rw[A];exact Pr.mk' p n b s (d.keptBy u (fun k e x=>i (by rw[<-g,e,x]))) g i o
theorem aAc(w:World)(r:Nat)(a:ByteArray)(s:Option Nat)(t:Rf.Tok)(l:List Rf.Tok)(ns:List ByteArray)(h:Pr w r a s (t::l) ns)(G:t.k=0):Calls prog 50 #[.pointer (some ⟨r,0,none⟩)] w fun x w'=>x= .returned (.tuple #[])/\(∃o,Pr w' r a s o ns)/\Kept (fun k=>k=r) w w':=by
 obtain⟨K,f,j,C,H,y,⟨B,o,F,A,_,c⟩,I,u,d,g,i,p⟩:=h.ex;obtain⟨rfl,rfl⟩:t=B/\l=o:=by injection F with E D;exact⟨E,D⟩
 have b:=c G;have m:j=((t.at_+t.s.size:Nat):Int):=by rw[A.2.2.2 aD];omega
 subst m;refine(KY w r a K f C _ H y u b).mono ?_;rintro x w' ⟨J,M,z,L,rfl,q,n,v⟩;exact⟨rfl,⟨_,Pr.mk' q n b u (d.keptBy v (fun k e x=>i (by rw[<-g,e,x]))) g i p⟩,v⟩
theorem Pr.text{w:World}{r:Nat}{a:ByteArray}{o:Option Nat}{t:Rf.Tok}{l:List Rf.Tok}{ns:List ByteArray}(h:Pr w r a o (t::l) ns)(s:t.k≠0)(c:t.k≠63):∃K C j,PrB w r a K t.at_ (t.at_+t.s.size:Nat) C j 0 0/\a.size<=400/\t.at_+t.s.size<=a.size/\t.at_<a.size/\a.extract t.at_ (t.at_+t.s.size)=t.s/\t=AG a t.at_:=by
 obtain⟨K,f,g,C,j,n,k,x,z,p,m,q,y,v⟩:=h.toks;obtain⟨⟨_,e⟩,d,b⟩:=x s c;have i:g=((t.at_+t.s.size:Nat):Int):=by rw[k.2.2.2 c];omega
 have u:f=t.at_:=k.2.1;subst i;subst u;refine⟨K,C,j,n,p,e,d,?_,b⟩;have:=jJ a t.at_ d (by rw[<-b];exact c)
 rwa [<-b] at this
def ZR(w:World)(s:ByteArray):Nat:=grownCap w s.size 0 5
def U4(w:World)(s:ByteArray):Obj:= .cells (bytesRow s (ZR w s)) 5 ((bytesRow s (ZR w s)).size,(bytesRow s (ZR w s)).size+1)
theorem aAC(w:World)(s:ByteArray): (convert 9 88 (.string s)).run prog w= .ok (.slice (some ⟨w.heap.size,0,none⟩) s.size (ZR w s)) (w.drew.alloc (U4 w s)):=
 run_bytes_of_string w _ _ _ s underlying9 underlying88 underlying5
theorem aBI(w d:World)(s:ByteArray)(N c:Nat)(b:w.heap[N]?=some (U4 d s)): (convert 88 9 (.slice (some ⟨N,0,none⟩) s.size c)).run prog w= .ok (.string s) w:=by
 have h:=run_convert_bytes_back (P:=prog) w 88 9 5 ⟨N,0,none⟩ c s.data.toList underlying88 underlying5 underlying9 ?_
 ·simpa using h
 ·intro j e;have a:j<s.size:=by simpa using e
  rw[Addr.add_lit,Nat.zero_add];unfold U4 at b;simp only[World.cell?,b];show(bytesRow s (ZR d s))[j]?=_;unfold bytesRow;rw[Array.getElem?_append_left (by simpa using a)];rw[Array.getElem?_map,Array.getElem?_eq_getElem (by simpa using a)];simp
theorem V6(w:World)(r:Nat)(d:ByteArray)(p:Option Nat)(t:Rf.Tok)(l:List Rf.Tok)(ns:List ByteArray)(h:Pr w r d p (t::l) ns)(m:t.k≠0)(e:t.k≠63):Calls prog 148 #[.pointer (some ⟨r,0,none⟩)] w fun x w'=>x= .returned (.string t.s)/\Below w.heap.size w w':=by
 obtain⟨K,C,J,j,F,k,o,i,_⟩:=h.text m e;obtain⟨A,B,G,D,z,E,I,v,H,y⟩:=j.facts;clear j h m e;generalize u:t.at_+t.s.size=b at*;have n:t.at_<=b:=aD;clear u;generalize t.at_=a at*;generalize s:t.s=X at*;have q:=aO i;clear i s;have k1:=aAC;have f: (d.extract a b).size=b-a:=by rw[ByteArray.size_extract];omega
 have L:∀(w g:World) (c:Nat),(convert 88 9 (.slice (some ⟨w.heap.size,0,none⟩) (b-a) c)).run prog (w.alloc (U4 g (d.extract a b))).drew.drew= .ok (.string X) (w.alloc (U4 g (d.extract a b))).drew.drew:=by
  intro w g c;have:=aBI (w.alloc (U4 g (d.extract a b))).drew.drew g (d.extract a b) w.heap.size c (AJ _ _);rw[f] at this;rw[this,q.o]
 clear f;go_enter func148,ntmps148;go_wp2;go_region
 all_goals
  go_wp2;go_ret;exact⟨rfl,aM⟩
theorem s9(w:World)(r:Nat)(a:ByteArray)(P:Option Nat)(t:Rf.Tok)(l:List Rf.Tok)(ns:List ByteArray)(h:Pr w r a P (t::l) ns)(I:t.k=110):Calls prog 146 #[.pointer (some ⟨r,0,none⟩)] w fun x w'=>x= .returned (.int .i64 (EV t.s))/\Below w.heap.size w w':=by
 obtain⟨K,C,vN,B,hs,E,s,o,c⟩:=h.text aD aD;obtain⟨Y,Z,q2,q3,W,q5,q6,U,qf,V⟩:=B.facts
 have q:Hid (EV t.s=ZN (a[t.at_].toNat:Int) (vOf t.s.data.toList)):=by
  have D:=qF a t.at_ (by rw[<-c];exact I);rw[<-c] at D;unfold Hid;rw[D,<-BF a t.at_ s]
 have S:t.s.size<=10:=(h.ended.fine.1 I).1
 have n:∀j,(p:j<t.s.data.toList.length)->∃X:t.at_+j<a.size,t.s.data.toList[j]=a[t.at_+j]:=by
  intro j p;have Q:j<t.s.size:=by simpa using p
  refine⟨aD,?_⟩;have:=congrArg (fun b:ByteArray=>b.data.toList[j]?) o;simp only[G3] at this;rw[bU p,List.getElem?_take,bD aD,List.getElem?_drop,bU aJ] at this;exact(bF this).symm
 have F:t.s.data.toList.length=t.s.size:=aE;generalize M:t.s.data.toList=L at*;have N:=aO n;clear o B h n c M;go_enter func146,ntmps146;go_wp2_with fail;go_loop [3,4] (fun v i=>∃j:Nat,j<=t.s.size/\i= .int .i64 ((t.at_:Int)+j)/\v= .int .i64 (vOf (L.take j))) (fun _ i=>t.at_+t.s.size -(intOf i).toNat)
 case atStart=>exact⟨0,aD,by go_num,rfl⟩
 case round=>
  obtain⟨j,p,rfl,rfl⟩:=hrel;have O:vOf (L.take j)+1<=10 ^ 10:=aC5 _ 10 aJ;by_cases G:j<t.s.size
  ·obtain⟨hx,A⟩:=N.o j aD;have u:=aO (aBv L j aD);rw[A] at u;clear A;have m:A9 (a[t.at_+j].toNat:Int)=true->48<=(a[t.at_+j].toNat:Int)/\(a[t.at_+j].toNat:Int)<=57:=by unfold A9;simp
   have H: ((t.at_:Int)+(j:Int)).toNat=t.at_+j:=aD
   cases z:A9 (a[t.at_+j].toNat:Int)
   ·have g:Hid (vOf (L.take (j+1))=vOf (L.take j)):=by have:=u.o;unfold LG at this;rw[bC (by rw[z];decide)] at this;exact this
    go_wp2_with (first|(go_at_call 113;refine(CP _ _).mono ?_;rintro e R ⟨rfl,rfl⟩));go_round
    case rel=>exact⟨j+1,aD,by go_num,by rw[g.o]⟩
    case measure=>simp[intOf];omega
   ·have g:Hid (vOf (L.take (j+1))=vOf (L.take j)*10+(a[t.at_+j].toNat-48)):=by have:=u.o;unfold LG at this;rw[bD z] at this;exact this
    obtain⟨T,J⟩:=m z;go_wp2_with (first|(go_at_call 113;refine(CP _ _).mono ?_;rintro e R ⟨rfl,rfl⟩));go_round
    case rel=>exact⟨j+1,aD,by go_num,by rw[g.o];congr 1;omega⟩
    case measure=>simp[intOf];omega
  ·have y:j=t.s.size:=aD;subst y;have d:L.take t.s.size=L:=bR aD
   cases f: ((a[t.at_].toNat:Int)==45)
   ·have k:Hid (EV t.s=(vOf (L.take t.s.size):Int)):=by rw[d];unfold Hid;rw[q.o];unfold ZN;rw[bC (aY.1 f)]
    clear q d;go_wp2;go_quiet (fail);go_wp2;go_ret;exact⟨CL k.o.symm,aM⟩
   ·have k:Hid (EV t.s=-(vOf (L.take t.s.size):Int)):=by rw[d];unfold Hid;rw[q.o];unfold ZN;rw[bD (bT f)]
    clear q d;go_wp2;go_quiet (fail);go_wp2;go_ret;exact⟨CL k.o.symm,aM⟩
theorem Pr.keptBy{M:Nat->Prop}{w w':World}{r:Nat}{a:ByteArray}{d:Option Nat}{l:List Rf.Tok}{ns:List ByteArray}(h:Pr w r a d l ns)(n:Kept M w w')(t:¬M r)(p:∀k,d=some k->¬M k):Pr w' r a d l ns:=by
 obtain⟨K,f,i,C,u,o,g,q,s,b,c,m,j⟩:=h.ex;exact⟨K,f,i,C,u,(n.block r (AD o) t).trans o,g,q,s,b.keptBy n (fun k e=>p k (by rw[<-c,e])),c,m,j⟩
theorem Pr.below{w w':World}{r:Nat}{a:ByteArray}{b:Option Nat}{l:List Rf.Tok}{ns:List ByteArray}(h:Pr w r a b l ns)(c:Below w.heap.size w w'):Pr w' r a b l ns:=h.keptBy (Kept.of_below c (fun _=>False)) (fun x=>x) (fun _ _ x=>x)
theorem Pr.alloc{w:World}{r:Nat}{a:ByteArray}{b:Option Nat}{l:List Rf.Tok}{ns:List ByteArray}(h:Pr w r a b l ns)(o:Obj):Pr (w.alloc o) r a b l ns:=h.below ((bZ _ _).alloc (aX _) _)
theorem Pr.lt{w:World}{r:Nat}{b:ByteArray}{c:Option Nat}{l:List Rf.Tok}{ns:List ByteArray}(h:Pr w r b c l ns):r<w.heap.size/\(∀k,c=some k->k<w.heap.size)/\c≠some r:=by
 obtain⟨K,f,j,C,q,n,i,o,p,a,g,d,m⟩:=h.ex;exact⟨AD n,fun k e=>(a.lt k (by rw[g,e])).2,d⟩
theorem PrE.keptBy{M:Nat->Prop}{w w':World}{r:Nat}{E P:Int}(h:PrE w r E P)(g:Kept M w w')(i:¬M r):PrE w' r E P:=by
 obtain⟨b,K,f,d,C,a,n,c,e,j⟩:=h.ex;exact⟨b,K,f,d,C,a,n,c,(g.block r (AD e) i).trans e,j⟩
theorem CJ{α:Type}{w:World}{base:Nat}{e:TypeId}{size:Nat}{C:α->List Value}{v:Value}{b:List α}(h:aj w base e size C v b):∃a c,v= .slice a b.length c:=by
 rcases h.shape with⟨rfl,rfl⟩|⟨g,c,rfl,_⟩
 ·exact⟨_,_,rfl⟩
 ·exact⟨_,_,rfl⟩
theorem PrB.grown{w w':World}{r:Nat}{a:ByteArray}{K f b C:Int}{c:Value}{E P:Int}{row:Option Nat}(g:w.grownBy w' row)(h:PrB w r a K f b C c E P)(d:row≠some r):PrB w' r a K f b C c E P:=(g.block r (AD h) (fun e=>d e.symm)).trans h
def yE(w:World)(r:Nat)(text:ByteArray)(nb:Option Nat)(l:List Rf.Tok)(res:Except (Int×Nat) (Nat×List ByteArray))(x:Ending)(w':World):Prop:=
  Kept (May r nb) w w'/\(match res with
   | .ok (i,ns')=>x= .returned (.tuple #[.int .i64 (i:Int),.bool true])/\i<16/\∃nb',Pr w' r text nb' l ns'/\Nb w nb nb'
   | .error (e,q)=>x= .returned (.tuple #[.int .i64 0,.bool false])/\PrE w' r e q)
theorem O2(w:World)(r:Nat)(d:ByteArray)(B:Option Nat)(t:Rf.Tok)(l:List Rf.Tok)(ns:List ByteArray)(h:Pr w r d B (t::l) ns)(hk:t.k=118):Calls prog 119 #[.pointer (some ⟨r,0,none⟩)] w fun x w'=>yE w r d B (t::l) (GR t ns) x w':=by
 have H0:Hid (t.k≠0):=by unfold Hid;omega
 have O:Hid (t.k≠63):=by unfold Hid;omega
 have HK:=aO hk;have H:=aO h;clear h hk;go_enter func119,ntmps119;go_wp2_with (go_at_call 148;refine(V6 _ r d B t l ns H.o H0.o O.o).mono ?_;rintro e w1 ⟨rfl,b⟩;obtain⟨K,f,a1,C,vN,U,ht,hr,he,m,g,N,T,a2⟩:=(H.o.below b).toks;obtain⟨a,c,rfl⟩:=CJ g;obtain⟨q0,q1,q2,q3,q4,q5,q6,q7,qf,ql⟩:=U.facts);have a4:=b.size;have HT:=aO ht;have HB:=aO U;have HE:=aO he;have HR:=aO hr;have z:=aO N;clear ht U he hr N;go_loop [14] (fun i=>∃k:Nat,i= .int .i64 k/\k<=ns.length/\Hid (∀j,j<k->Cm t ns j)) (fun i=>ns.length -(intOf i).toNat)
 case atStart=>exact⟨0,rfl,aD,fun j hj=>by omega⟩
 case round=>
  obtain⟨k,rfl,a5,P⟩:=hrel;by_cases q:k<ns.length
  ·rcases g.shape with⟨_,D⟩|⟨gn,Mc,G,_,a3,Nl,S⟩
   ·rw[D] at q;simp at q
   ·obtain⟨rfl,rfl⟩:a=some ⟨gn,0,none⟩/\c=Mc:=by injection G with Q R e3;exact⟨Q,e3⟩
    clear G;obtain⟨u,o⟩:∃u,ns[k]?=some u:=⟨ns[k],by simp[q]⟩
    have s:=g.cells C7 k u o 0 _ rfl;simp only[Nat.mul_one,dG] at s;have E:=aO o;clear o;have a0: (k:Int)<ns.length:=aD
    have Q: (t.s.toList==[95])=decide (t.s=JT):=by
     rw[<-beq_toList t.s JT];simp[JT,ByteArray.toList_eq]
    have R: (u.toList==t.s.toList)=decide (u=t.s):=beq_toList u t.s;by_cases m:u=t.s
    ·rw[decide_eq_true m] at R;have Z:=aO m;clear m;by_cases A:t.s=JT
     ·rw[decide_eq_true A] at Q;have Y:=aO A;clear A;go_wp2_with fail;go_round
      case rel=>exact⟨k+1,by go_num,aD,Cm.step P.o (.inl Y.o)⟩
      case measure=>simp[intOf];omega
     ·rw[decide_eq_false A] at Q;have Y:=aO A;clear A;go_wp2_with fail;refine bodyPost_ret (v:= .tuple #[.int .i64 k,.bool true]) (by simp[results,results119,go_sem]) rfl ?_;refine⟨Kept.of_below b _,?_⟩;unfold GR;rw[dT Y.o (by rw[<-Z.o];exact E.o) P.o];exact⟨rfl,aD,B,H.o.below b,.inl rfl⟩
    ·rw[decide_eq_false m] at R;have Z:=aO m;clear m;go_wp2_with fail;go_round
     case rel=>exact⟨k+1,by go_num,aD,Cm.step P.o (.inr (by rw[E.o];exact fun e=>Z.o (bF e)))⟩
     case measure=>simp[intOf];omega
  ·obtain rfl:k=ns.length:=aD;have HL:=aO (eC P.o);by_cases n:ns.length=16
   ·have X:Hid (GR t ns= .error (3,t.at_)):=by unfold Hid GR;rw[HL.o];simp only[];rw[bD n]
    go_wp2_with (go_at_call 83;refine(F9 _ r d B t l ns 3 (H.o.below b) aF).mono ?_;rintro e w2 ⟨rfl,F,V⟩;have L:BR t 3=(3,t.at_):=F0 t 3 (aY.2 O.o);rw[L] at F;clear L);refine bodyPost_ret (v:= .tuple #[.int .i64 0,.bool false]) (by simp[results,results119,go_sem]) rfl ?_;rw[X.o];exact⟨(Kept.of_below b _).trans V (fun _ _ e=>Or.inl e),rfl,F⟩
   ·have X:Hid (GR t ns= .ok (ns.length,ns++[t.s])):=by unfold Hid GR;rw[HL.o];simp only[];rw[bC n]
    have J: (Value.slice a ns.length c).ownBlock≠some r:=by rw[z.o];exact T
    go_wp2_with (at_builtin;refine AY Tryz.Aa A3 C7 HJ _ rfl (.tmp 40) (.tmp 42) rfl 0 _ ns rfl (g.alloc _) ⟨_,0,none⟩ 1 t.s rfl (BL _ _ rfl _ _) aD (bK _) ?_;intro W Ey w3 y dw jh;have I:=PrB.grown dw (AF HB.o _) J;obtain⟨z0,z1,z2,z3,z4,z5,z6,z7,zf,zl⟩:=I.facts);have M:W≠r:=fun e=>jh.ne J aJ (by rw[e]);refine bodyPost_ret (v:= .tuple #[.int .i64 (ns.length:Int),.bool true]) (by simp[results,results119,go_sem]) rfl ?_;rw[X.o];refine⟨?_,rfl,aD,some W,⟨_,_,_,_,_,AK I 5 _,⟨t,l,rfl,HT.o,HR.o,fun e=>absurd e H0.o⟩,HE.o,m,y.setCell _ _ (fun e=>M (bF e)),rfl,fun e=>M (bF e),aJ⟩,?_⟩
    ·exact(((Kept.of_below b (May r B)).alloc _).grown dw (fun k e=>Or.inr (Or.inr (e.symm.trans z.o)))).setCell (p:=⟨r,5,none⟩) (Or.inr (Or.inl rfl)) _
    ·have h9:Nb (w1.alloc (Obj.cells #[Value.string t.s] 9)) (Value.slice a ns.length c).ownBlock (some W):=jh;rw[z.o] at h9;exact Nb.trans (.inl rfl) h9 aJ
end Go.Proofs.Q
namespace Go
open Go.RowKit
theorem mU{α:Type}{w:World}{base:Nat}{e:TypeId}{size:Nat}{C:α->List Value}{g n a:Nat}{x x':α}{b:List α}(h:aj w base e size C (.slice (some ⟨g,0,none⟩) n a) (x::b))(j:Nat)(u:Value)(o:j<(C x).length)(hx:C x'=(C x).set j u):aj (w.setCell ⟨g,j,none⟩ u) base e size C (.slice (some ⟨g,0,none⟩) n a) (x'::b):=by
 obtain⟨l,k⟩:=h.own;rcases k with⟨k,_⟩|⟨y,f,i,z,p,v,q,s,A,t⟩
 ·cases k
 ·obtain⟨rfl,rfl,rfl⟩:g=y/\n=(x::b).length/\a=f:=by injection z with c r m;injection c with c;injection c with c;exact⟨c,r,m⟩
  refine⟨?_,.inr ⟨g,a,i.setIfInBounds j u,rfl,p,?_,q,s,by simpa using A,?_⟩⟩
  ·rw[List.flatMap_cons,bL,hx,List.length_set];rw[List.flatMap_cons,bL] at l;simpa using l
  ·simp[World.setCell,Array.getElem?_modify,v]
  ·rw[Array.toList_setIfInBounds,List.take_set];have d: ((x'::b).length)=(x::b).length:=rfl;rw[d,t,List.flatMap_cons,List.flatMap_cons,List.set_append_left _ _ o,hx]
theorem N8{α:Type}{w:World}{base:Nat}{e:TypeId}{size:Nat}{C:α->List Value}{x:α}{cs:Array Value}{N:Nat}(c:w.heap[N]?=some (.cells cs e (0,0)))(a:cs.toList=C x)(b: (C x).length=size)(d:base<=N):aj w base e size C (.slice (some ⟨N,0,none⟩) 1 1) [x]:=by
 refine⟨by simp[b],.inr ⟨N,1,cs,rfl,d,c,aE,by unfold maxLen;omega,?_,?_⟩⟩
 ·rw[<-Array.length_toList,a,b];omega
 ·rw[a,OY,bR (by rw[b];simp)]
theorem ID{α:Type}{w:World}{base:Nat}{e:TypeId}{size:Nat}{C:α->List Value}{g n b:Nat}{j:List α}(h:aj w base e size C (.slice (some ⟨g,0,none⟩) n b) j)(i:Nat):w.frozen? ⟨g,i,none⟩=false:=by
 obtain⟨o,c⟩:=h.own;rcases c with⟨c,_⟩|⟨l,d,f,m,s,k,t,r,v,u⟩
 ·cases c
 ·obtain rfl:g=l:=by injection m with a q p;injection a with a;injection a
  simp[World.frozen?,k]
theorem Z6{α:Type}{w:World}{base:Nat}{e:TypeId}{size:Nat}{C:α->List Value}{a:Option Addr}{n d:Nat}{f:List α}(h:aj w base e size C (.slice a n d) f):n=f.length:=by
 rcases h.shape with⟨b,rfl⟩|⟨g,c,b,_⟩
 ·injection b
 ·injection b
theorem LL{P:Program}{α:Type}{t e:TypeId}{size b:Nat}{z:Value}(B:D7 P t e size b z)(C:α->List Value)(G:∀x,(C x).length=size)(E:∀x,∀u∈C x,u.oneCell'=true) (w:World) {j:Array Oper} {rest:List Oper} {o:Oper} {a:Act} {Q:Exit->Act->World->Prop} (p:o.guard=none) (s x:Operand) (F:o.op= .call { callee:= .builtin .append,args:=#[s,x],argTypes:=#[t,t] }) (base:Nat) (v:Value) (k:List α) (D:a.eval s=v) (m:aj w base e size C v k) (r y q:Nat) (i:List α) (H:1<=i.length) (hx:a.eval x= .slice (some ⟨r,0,none⟩) y q) {f:Nat} (l:aj w f e size C (.slice (some ⟨r,0,none⟩) y q) i) (I: (k.length+i.length)*b<=140737488355328) (d:base<=w.heap.size) (h : ∀ g n c w', Hid (n = k.length + i.length) -> 1 <= n -> aj w' base e size C (.slice (some ⟨g, 0, none⟩) n c) (k ++ i) -> w.grownBy w' v.ownBlock -> Nb w v.ownBlock (some g) ->wpList P j Q rest (a.put o.dst (.slice (some ⟨g,0,none⟩) n c)) w'):wpList P j Q (o::rest) a w:=by
 obtain rfl:=Z6 l;exact QF B C G E w p s x F base v k D m ⟨r,0,none⟩ q i H hx (l.own.cells rfl) I d (fun g c w' k1 J A=>h g _ c w' rfl aD k1 J A)
end Go
namespace Rf
theorem sZ:∀{f:Nat} {l:List Tok} {ns:List ByteArray} {p:List AB} {l1:List Tok} {ns1:List ByteArray},AM f l ns= .ok (p,l1,ns1)->1<=p.length
 |0,_,_,_,_,_,e=>by simp[AM] at e
 |_+1,[],_,_,_,_,e=>by simp[AM] at e
 |f+1,t::l,ns,p,l1,ns1,e=>by
  rw[AM] at e;split at e
  ·unfold G6 at e;split at e
   ·cases e
   ·simp only[cX,cY] at e;obtain⟨rfl,_⟩:=e;simp
  ·split at e
   ·simp only[cX,cY] at e;obtain⟨rfl,_⟩:=e;simp
   ·split at e
    ·cases l with
     |nil=>cases e
     |cons u b=>
      simp only[EF] at e;split at e
      ·cases a:A7 (AM f) 4 [] b ns with
       |error x=>rw[a] at e;cases e
       |ok x=>
        rw[a] at e;simp only[cX,cY] at e;obtain⟨rfl,_⟩:=e;simp
      ·simp only[cX,cY] at e;obtain⟨rfl,_⟩:=e;simp
    ·cases e
theorem aAh{k:Int}: (BV k==6)=true->k=41:=by
 unfold BV;repeat' split
 all_goals(intro h;first|omega|(simp at h))
theorem wJ{k:Int}: (BV k==6)=false->k≠41:=by rintro h rfl;exact absurd h aF
theorem jI{k:Int}: (BV k !=7)=false->k=44:=by
 unfold BV;repeat' split
 all_goals(intro h;first|omega|(simp at h))
theorem eJ{k:Int}: (BV k !=7)=true->k≠44:=by rintro h rfl;exact absurd h aF
end Rf
namespace Go.Proofs.Q
open Rf _root_.Go.Proofs.Tryz
open Go.RowKit
theorem Pr.len{w:World}{r:Nat}{a:ByteArray}{d:Option Nat}{l:List Rf.Tok}{ns:List ByteArray}(h:Pr w r a d l ns):l.length<=402:=by
 cases l with
 |nil=>simp
 |cons t l=>
  obtain⟨K,f,g,C,q,p,n,j,b,o,c,m,k,i⟩:=h.toks
  cases l with
  |nil=>simp
  |cons u l=>
   obtain⟨⟨e,_⟩,_⟩:=j b.1.1.1 b.1.1.2;have:=FG a (a.size -(t.at_+t.s.size)) (t.at_+t.s.size);rw[e];unfold Rf.rest;simp;omega
theorem Pr.n16{w:World}{r:Nat}{a:ByteArray}{d:Option Nat}{l:List Rf.Tok}{ns:List ByteArray}(h:Pr w r a d l ns):ns.length<=16:=by
 obtain⟨K,f,g,C,o,n,e,k,m,c,j,i,b⟩:=h.ex;exact b
def AH(p:AB):List Value:=[.int .i64 p.kind,.string p.name,.int .i64 p.value,.int .i64 p.args]
theorem BC(s:AB): (AH s).length=4:=rfl
theorem DX(s:AB):∀u∈AH s,u.oneCell'=true:=by
 intro u a;simp only[AH,List.mem_cons,dF,or_false] at a;rcases a with rfl|rfl|rfl|rfl<;>rfl
theorem Tryz.lg:D7 prog 84 129 4 40 (.agg #[.int .i64 0,.string ⟨#[]⟩,.int .i64 0,.int .i64 0]):=⟨underlying84,aK,rfl,aF,aF⟩
def jy(w:World)(base:Nat)(v:Value)(ps:List AB):Prop:=aj w base 129 4 AH v ps
def tu(w:World)(r:Nat)(text:ByteArray)(nb:Option Nat)(res:Except (Int×Nat) (List AB×List Rf.Tok×List ByteArray))(x:Ending)(w':World):Prop:=
  Kept (May r nb) w w'/\(match res with
   | .ok (ps,l',ns')=>∃(g n c:Nat) (nb':Option Nat),x= .returned (.tuple #[.slice (some ⟨g,0,none⟩) n c,.bool true])/\Pr w' r text nb' l' ns'/\Nb w nb nb'/\jy w' w.heap.size (.slice (some ⟨g,0,none⟩) n c) ps/\nb'≠some g
   | .error (e,q)=>x= .returned (.tuple #[.slice none 0 0,.bool false])/\PrE w' r e q)
def UU(f:Nat):Prop:=∀(r:Nat) (a:ByteArray) (b:Option Nat) (l:List Rf.Tok) (ns:List ByteArray) (w:World),Pr w r a b l ns->l.length<=f->Calls prog 117 #[.pointer (some ⟨r,0,none⟩)] w fun x w'=>tu w r a b (AM f l ns) x w'
end Go.Proofs.Q
