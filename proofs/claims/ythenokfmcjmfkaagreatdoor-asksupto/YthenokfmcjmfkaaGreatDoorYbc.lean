import Derived.Test.YthenokfmcjmfkaaGreatDoorYbb
set_option maxRecDepth 100000
set_option maxHeartbeats 4000000
namespace Go.Proofs.Q
open Rf _root_.Go.Proofs.Tryz
open Go.RowKit
theorem TL{w b:World}{d f:Obj}(a: ((w.alloc d).alloc f).grownBy b (Value.slice none 0 0).ownBlock):Below w.heap.size w b/\b.heap[w.heap.size]?=some d/\b.heap[w.heap.size+1]?=some f:=by
 have c:∀k,some k≠(Value.slice none 0 0).ownBlock:=fun k e=>by simp[Value.ownBlock] at e
 refine⟨(((bZ _ w).alloc (aX _) _).alloc aE _).trans ⟨a.os,a.tape,a.output,a.size,fun k g=>a.block k aJ (c k)⟩,?_,?_⟩
 ·exact(a.block _ aJ (c _)).trans (AF (AJ w _) _)
 ·exact(a.block _ aE (c _)).trans (AZ _ _ _ aE)
theorem eD{w d:World}{b:Nat}{x l m a:Value}{p q:Nat}{v:Obj}{acc:List ((Nat×Nat)×(List AB×List AB))}(t: ((w.alloc (.cells #[.pointer none,.pointer none] 156)).alloc v).grownBy d (Value.slice none 0 0).ownBlock)(y:b<w.heap.size)(j:WkB d b x l m)(c:aj d (w.heap.size+2) 156 2 FK a (acc.map (·.1)))(n:∀r∈acc,DP w r.1 r.2):Kept (fun k=>k=b) w (((d.setCell ⟨b,0,none⟩ a).setCell ⟨w.heap.size,0,none⟩ (.pointer (some ⟨p,0,none⟩))).setCell ⟨w.heap.size,1,none⟩ (.pointer (some ⟨q,0,none⟩)))/\WkB (((d.setCell ⟨b,0,none⟩ a).setCell ⟨w.heap.size,0,none⟩ (.pointer (some ⟨p,0,none⟩))).setCell ⟨w.heap.size,1,none⟩ (.pointer (some ⟨q,0,none⟩))) b a l m/\DPs (((d.setCell ⟨b,0,none⟩ a).setCell ⟨w.heap.size,0,none⟩ (.pointer (some ⟨p,0,none⟩))).setCell ⟨w.heap.size,1,none⟩ (.pointer (some ⟨q,0,none⟩))) a (acc.map (·.2)):=by
 obtain⟨i,o,_⟩:=TL t;have g: (d.setCell ⟨b,0,none⟩ a).heap[w.heap.size]?=some (.cells #[.pointer none,.pointer none] 156 (0,0)):=(cF _ _ _ _ (show w.heap.size≠b by omega)).trans o;have h:=AK g 0 (.pointer (some ⟨p,0,none⟩));have s:DK TmT w (((d.setCell ⟨b,0,none⟩ a).setCell ⟨w.heap.size,0,none⟩ (.pointer (some ⟨p,0,none⟩))).setCell ⟨w.heap.size,1,none⟩ (.pointer (some ⟨q,0,none⟩))):=(((DK.below i).trans (DK.setCell j (by unfold TmT;decide) 0 a)).trans (DK.setCell g L7 0 _)).trans (DK.setCell h L7 1 _);refine⟨(((Kept.of_below i (fun k=>k=b)).setCell (p:=⟨b,0,none⟩) (.inr rfl) _).setCell (p:=⟨w.heap.size,0,none⟩) (.inl (aX _)) _).setCell (p:=⟨w.heap.size,1,none⟩) (.inl (aX _)) _,?_,⟨acc,?_,fun r u=>(n r u).tm s,rfl⟩⟩
 ·exact(cF _ _ _ _ (show b≠w.heap.size by omega)).trans ((cF _ _ _ _ (show b≠w.heap.size by omega)).trans (AK j 0 a))
 ·have f:∀k,a.ownBlock=some k->w.heap.size+2<=k:=fun k e=>(c.lt k e).1;exact(((c.setCell _ _ (fun e=>by have:=f _ e;simp at this;omega)).setCell _ _ (fun e=>by have:=f _ e;simp at this;omega)).setCell _ _ (fun e=>by have:=f _ e;simp at this;omega)).seen
theorem oG:¬QC 106:=by unfold QC AW;decide
theorem IG(w:World)(b g off h p q:Nat)(F G:Value)(x:List AB×List AB)(l:List (List AB×List AB))(u:WkB w b (.slice (some ⟨g,off,none⟩) (l.length+1) h) F G)(D:DPs w (.slice (some ⟨g,off,none⟩) (l.length+1) h) (x::l))(gl:g<w.heap.size)(c0:w.cell? ⟨g,off,none⟩=some (.pointer (some ⟨p,0,none⟩)))(c1:w.cell? ⟨g,off+1,none⟩=some (.pointer (some ⟨q,0,none⟩)))(hl:l.length<=1000000000000):Calls prog 164 #[.pointer (some ⟨b,0,none⟩)] w fun r w'=>∃C,r= .returned (.agg #[.pointer (some ⟨p,0,none⟩),.pointer (some ⟨q,0,none⟩)])/\Kept (fun k=>k=b) w w'/\WkB w' b C F G/\DPs w' C l:=by
 obtain⟨t,m,y⟩:∃t,Hid (t=if h=1 then .slice (some ⟨g,off,none⟩) l.length 0 else .slice (some ⟨g,off+2,none⟩) l.length (h-1))/\DPs w t l:=by
  by_cases e:h=1
  ·refine⟨_,rfl,?_⟩;rw[bD e];have:=jo.dropEnd D 1 e;unfold DPs;simpa using this
  ·refine⟨_,rfl,?_⟩;rw[bC e];have:=jo.drop IK D 1 aE;unfold DPs;simpa using this
 obtain⟨acc,U,T,i⟩:=y.ex;have S:=aO U;have R:=aO T;have P:=aO i;have a0:acc.length<=1000000000000:=by have:=congrArg List.length i;simp at this;omega
 have k0:w.cell? ⟨b,0,none⟩=some (.slice (some ⟨g,off,none⟩) (l.length+1) h):=AA u 0;have E:=AD u;have kf:=AE u;have Q:=aO u;have j:l.length+1<=h/\h<=maxLen:=by obtain⟨acc,h1,_,e⟩:=D.ex;have:=h1.cap;have h9:=congrArg List.length e;simp at h9;simp at this;omega
 have J:=j.1;have A:=j.2;unfold maxLen at A;clear u D j U T i y;have V:w.heap.size≠b:=aD;have I:w.heap.size+1≠b:=aD;by_cases z:h=1
 ·have K:Hid (t= .slice (some ⟨g,off,none⟩) l.length 0):=by unfold Hid;rw[m.o,bD z]
  have W:=aO z;rw[z] at k0;clear m z J A;go_enter func164,ntmps164;go_wp2_with (at_builtin;refine GV Tryz.Am FK IK KO _ rfl (.tmp 11) (.tmp 16) rfl (w.heap.size+2) (.slice none 0 0) [] rfl (aj.nil _ _ _ _ _) t (acc.map (·.1)) (by rw[K.o];rfl) ((S.o.alloc _).alloc _) aJ aE ?_;intro v4 O a B;rw[List.nil_append] at a;obtain⟨X,c4,rfl⟩:=a.seen.slice;obtain⟨o,d,f⟩:=TL B;have c:WkB O b (.slice (some ⟨g,off,none⟩) (l.length+1) h) F G:=(o.block b E).trans Q.o;have H:=AA c 0;have Y:=AE c;have Z:=AD c;have⟨L,p1⟩:=cI f;have pl:=AD f;have⟨M,N⟩:=cI d;have rf:=AE d;have rl:=AD d;simp at H L p1 M N;have n:=aO c;clear c f d);refine bodyPost_ret (v:= .agg #[.pointer (some ⟨p,0,none⟩),.pointer (some ⟨q,0,none⟩)]) (by simp[results,results164,go_sem, *]) rfl ?_;have s:=eD (p:=p) (q:=q) B E n.o a R.o;rw[aZ] at s;rw[<-P.o] at s;exact⟨_,rfl,s⟩
 ·have K:Hid (t= .slice (some ⟨g,off+2,none⟩) l.length (h-1)):=by unfold Hid;rw[m.o,bC z]
  clear m;go_enter func164,ntmps164;go_wp2_with (at_builtin;refine GV Tryz.Am FK IK KO _ rfl (.tmp 11) (.tmp 16) rfl (w.heap.size+2) (.slice none 0 0) [] rfl (aj.nil _ _ _ _ _) t (acc.map (·.1)) (by rw[K.o];rfl) ((S.o.alloc _).alloc _) aJ aE ?_;intro v4 O a B;rw[List.nil_append] at a;obtain⟨X,c4,rfl⟩:=a.seen.slice;obtain⟨o,d,f⟩:=TL B;have c:WkB O b (.slice (some ⟨g,off,none⟩) (l.length+1) h) F G:=(o.block b E).trans Q.o;have H:=AA c 0;have Y:=AE c;have Z:=AD c;have⟨L,p1⟩:=cI f;have pl:=AD f;have⟨M,N⟩:=cI d;have rf:=AE d;have rl:=AD d;simp at H L p1 M N;have n:=aO c;clear c f d);refine bodyPost_ret (v:= .agg #[.pointer (some ⟨p,0,none⟩),.pointer (some ⟨q,0,none⟩)]) (by simp[results,results164,go_sem, *]) rfl ?_;have s:=eD (p:=p) (q:=q) B E n.o a R.o;rw[aZ] at s;rw[<-P.o] at s;exact⟨_,rfl,s⟩
theorem uR(w:World)(b p q:Nat)(vP vG vT:Value)(s s':ByteArray)(a a':Option Addr)(c K:Nat)(qs d:List (Nat×List AB))(l:List (List AB×List AB))(hB:WkB w b vP vG vT)(hP:DPs w vP l)(hl:l.length<=1000000000000) (hp:TmB w p 99 0 s (.slice a qs.length c)) (hq:TmB w q 99 0 s' (.slice a' d.length K)) (hS:Seen w 100 BQ (.slice a qs.length c) (qs.map (·.1))) (Y:Seen w 100 BQ (.slice a' d.length K) (d.map (·.1))) (h4:qs.length<=4) (he:qs.length=d.length) (hT:∀x∈qs,DTm w x.1 x.2) (a0:∀x∈d,DTm w x.1 x.2):Calls prog 168 #[.pointer (some ⟨b,0,none⟩),.agg #[.pointer (some ⟨p,0,none⟩),.pointer (some ⟨q,0,none⟩)]] w fun r w'=>r= .returned (.tuple #[])/\Kept (fun k=>k=b) w w'/\∃a7,WkB w' b a7 vG vT/\DPs w' a7 ((qs.map (·.2)).zip (d.map (·.2))++l):=by
 obtain⟨aP,cP,rfl⟩:=hP.slice;have HB:=aO hB;have HP:=aO hP;have Hp:=aO hp;have Hq:=aO hq;have HS:=aO hS;have b1:Hid (Seen w 100 BQ (.slice a' d.length K) (d.map (·.1))):=Y;have HE:=aO he;have HT:=aO hT;have b4:Hid (∀x∈d,DTm w x.1 x.2):=a0;have kl:=AD hB;have pl:=AD hp;have ql:=AD hq;clear hB hP hp hq hS Y he hT a0;go_enter func168,ntmps168;go_wp2_with fail;generalize D:w.alloc _=I;have a1:Below w.heap.size w I:=by rw[<-D];exact(bZ _ w).alloc (aX _) _
 have W:I.heap[w.heap.size]?=some (.cells #[.pointer (some ⟨p,0,none⟩),.pointer (some ⟨q,0,none⟩)] 156 (0,0)):=by rw[<-D];exact AJ w _
 have a9:=aO W;have c3:w.heap.size+1=I.heap.size:=by rw[<-D];simp
 clear D W;go_loopw [4,5] (fun lv iv wr=>∃(z:Value) (i:Nat) (acc:List ((Nat×Nat)×(List AB×List AB))),z=lv/\i<=qs.length/\iv= .int .i64 i/\RMk 156 2 FK DP I.heap.size wr z acc/\Hid (acc.map (·.2)=((qs.map (·.2)).zip (d.map (·.2))).take i)/\Below I.heap.size I wr) (fun _ iv _=>qs.length -(intOf iv).toNat)
 case atStart=>exact⟨_,0,[],rfl,aD,rfl,RMk.nil,rfl,bZ _ _⟩
 case round=>
  obtain⟨z,i,acc,rfl,hi,rfl,L,u,C⟩:=hrel;have Q: ((qs.map (·.2)).zip (d.map (·.2))).length=qs.length:=by have:=HE.o;simp[List.length_zip];omega
  have O:acc.length=i:=by have:=congrArg List.length u.o;simp[List.length_zip] at this;have:=HE.o;omega
  have c5:=C.size;have m:Below w.heap.size w wr:=a1.trans (C.mono a1.size);have M:=(C.block _ aD).trans a9.o;have⟨p0,p1⟩:=cI M;have a6:=AD M;simp at p0 p1;have a3:wr.cell? ⟨p,3,none⟩=some (.slice a qs.length c):=AA ((m.block p pl).trans Hp.o) 3;have b3:wr.cell? ⟨q,3,none⟩=some (.slice a' qs.length K):=by rw[HE.o];exact AA ((m.block q ql).trans Hq.o) 3
  clear M;by_cases P:i<qs.length
  ·have H:i<d.length:=by have:=HE.o;omega
   obtain⟨g,off,rfl,a2,gl⟩:=G0 HS.o P;obtain⟨F,j,rfl,G,b5⟩:=G0 b1.o H;have hc:=(cD (m.block g gl)).trans a2;have b6:=(cD (m.block F b5)).trans G;clear a2 G;have T1:Hid (DTm wr qs[i].1 qs[i].2):=(HT.o _ (bG P)).below m;have T2:Hid (DTm wr d[i].1 d[i].2):=(b4.o _ (bG H)).below m
   have hn:Hid ((acc++[((qs[i].1,d[i].1),(qs[i].2,d[i].2))]).map (·.2)=((qs.map (·.2)).zip (d.map (·.2))).take (i+1)):=by
    unfold Hid;rw[bE,u.o,bJ (by rw[Q];exact P)];simp
   clear Q;generalize qs[i]=x at*;generalize d[i]=x' at*;have o:∀k,k<I.heap.size->¬z.ownBlock=some k:=fun k hk e=>by have:=L.new k e;omega
   have HK:Hid (∀X:World,Kept (fun k=>z.ownBlock=some k) wr X->(fun X:World=>Kept (fun k=>z.ownBlock=some k) wr X/\X.cell? ⟨w.heap.size,0,none⟩=some (.pointer (some ⟨p,0,none⟩))/\X.cell? ⟨w.heap.size,1,none⟩=some (.pointer (some ⟨q,0,none⟩))/\X.cell? ⟨p,3,none⟩=some (.slice (some ⟨g,off,none⟩) qs.length c)/\X.cell? ⟨q,3,none⟩=some (.slice (some ⟨F,j,none⟩) qs.length K)/\X.cell? ⟨g,off+i,none⟩=some (.pointer (some ⟨x.1,0,none⟩))/\X.cell? ⟨F,j+i,none⟩=some (.pointer (some ⟨x'.1,0,none⟩))) X):=fun X N=>⟨N,(N.cell (p:=⟨w.heap.size,0,none⟩) a6 (o _ aJ)).trans p0,(N.cell (p:=⟨w.heap.size,1,none⟩) a6 (o _ aJ)).trans p1,(N.cell (p:=⟨p,3,none⟩) aJ (o _ aJ)).trans a3,(N.cell (p:=⟨q,3,none⟩) aJ (o _ aJ)).trans b3,(N.cell (p:=⟨g,off+i,none⟩) aJ (o _ aJ)).trans hc,(N.cell (p:=⟨F,j+i,none⟩) aJ (o _ aJ)).trans b6⟩
   have c2: (fun X:World=>Kept (fun k=>z.ownBlock=some k) wr X/\X.cell? ⟨w.heap.size,0,none⟩=some (.pointer (some ⟨p,0,none⟩))/\X.cell? ⟨w.heap.size,1,none⟩=some (.pointer (some ⟨q,0,none⟩))/\X.cell? ⟨p,3,none⟩=some (.slice (some ⟨g,off,none⟩) qs.length c)/\X.cell? ⟨q,3,none⟩=some (.slice (some ⟨F,j,none⟩) qs.length K)/\X.cell? ⟨g,off+i,none⟩=some (.pointer (some ⟨x.1,0,none⟩))/\X.cell? ⟨F,j+i,none⟩=some (.pointer (some ⟨x'.1,0,none⟩))) wr.drew:=HK.o _ (Kept.refl _ _).drew;have HM:=aO L;clear o L;go_wp2_with fail;go_region_held2 (fun X:World=>Kept (fun k=>z.ownBlock=some k) wr X/\X.cell? ⟨w.heap.size,0,none⟩=some (.pointer (some ⟨p,0,none⟩))/\X.cell? ⟨w.heap.size,1,none⟩=some (.pointer (some ⟨q,0,none⟩))/\X.cell? ⟨p,3,none⟩=some (.slice (some ⟨g,off,none⟩) qs.length c)/\X.cell? ⟨q,3,none⟩=some (.slice (some ⟨F,j,none⟩) qs.length K)/\X.cell? ⟨g,off+i,none⟩=some (.pointer (some ⟨x.1,0,none⟩))/\X.cell? ⟨F,j+i,none⟩=some (.pointer (some ⟨x'.1,0,none⟩))) (first|assumption|exact HK.o _ v|exact HK.o _ (Kept.drew v)|exact HK.o _ (by repeat'(first|exact QE _ _|refine QL ?_ ?_ _|refine P6 ?_|refine QU ?_ _|refine QN ?_ _|exact Or.inr rfl|exact Or.inr (Or.inl rfl)|(refine Or.inl ?_;simp;done)|(refine Or.inl ?_;simp;omega)))) ((refine IM Tryz.Am FK IK KO rfl (.tmp 16) (.tmp 34) rfl 0 z (acc.map (·.1)) rfl (HM.o.row.below aM) ⟨_,0,none⟩ 1 (x.1,x'.1) rfl (EX _ _ aE _ _ _) (by rw[aZ];omega) (bK _) ?_;intro gA gu w4 f A qm;rw[aZ,O] at f;have B:Below wr.heap.size wr _:=(aM:Below wr.heap.size wr ((wr.alloc (Obj.cells #[.pointer (some ⟨x.1,0,none⟩),.pointer (some ⟨x'.1,0,none⟩)] 156)).drew));have n:=(DK.below B).trans (DK.grown A (HM.o.jw B) L7);have V:=HM.o.push (y:=(x.2,x'.2)) B aD A qm f (fun _ _ h=>h.tm n) ⟨T1.o.tm n,T2.o.tm n⟩;have T:=aO V;have v:Kept (fun k=>z.ownBlock=some k) wr w4:=(Kept.of_below B _).grown A (fun k e=> .inr e);clear V n));rw[aZ,O];go_wp2_with fail;go_roundw
   case rel=>exact⟨_,i+1,_,rfl,aD,by go_num,T.o.1,hn.o,T.o.2 I C⟩
   case measure=>simp[intOf];omega
  ·obtain rfl:i=qs.length:=aD;obtain⟨R,Z,U,Dt⟩:=(HP.o.dp (DK.below m)).ex;have b2:=aO Z;have a8:=aO U;have Ko:=aO Dt;have c1:R.length<=1000000000000:=by have:=congrArg List.length Dt;simp at this;omega
   have hW:WkB wr b (.slice aP l.length cP) vG vT:=(m.block b kl).trans HB.o;have HW:=aO hW;have c0:=AA hW 0;have wl:=AD hW;simp at c0;clear Z U Dt hW;go_wp2_with (at_builtin;refine GV Tryz.Am FK IK KO _ rfl (.tmp 36) (.tmp 40) rfl 0 z (acc.map (·.1)) rfl L.row (.slice aP l.length cP) (R.map (·.1)) rfl b2.o aJ (bK _) ?_;intro v4 w4 f A;rw[<-bE] at f;obtain⟨a4,c4,rfl⟩:=f.seen.slice;have n:=DK.grown (E:=TmT) A (L.jw (bZ _ wr)) L7;have v:Below w.heap.size w w4:=m.trans ⟨A.os,A.tape,A.output,A.size,fun k hk=>A.block k aD (fun e=>by have:=L.new k e.symm;omega)⟩;have t:WkB w4 b (.slice aP l.length cP) vG vT:=(v.block b kl).trans HB.o;have b0:=AA t 0;have bf:=AE t;have bl:=AD t;simp at b0;have J:=aO t;clear t);go_end0;have b7: (List.map (fun x=>x.1) (acc++R)).length=qs.length+R.length:=by rw[aZ,bL,O]
   rw[b7] at f;have a5:=DK.setCell (E:=TmT) J.o (by unfold TmT;decide) 0 (.slice a4 (qs.length+R.length) c4);refine⟨rfl,(Kept.of_below v (fun k=>k=b)).setCell (p:=⟨b,0,none⟩) (.inr rfl) _,_,AK J.o 0 _,⟨acc++R,?_,fun r hr=>?_,?_⟩⟩
   ·refine(f.setCell ⟨b,0,none⟩ _ (fun e=>?_)).seen;obtain⟨cs,S⟩:=f.typed b e;rw[J.o] at S;injection S with S;injection S with _ S;exact absurd S aF
   ·rcases bO.1 hr with hr|hr
    ·exact((L.els r hr).tm n).tm a5
    ·exact((a8.o r hr).tm n).tm a5
   ·rw[bE,u.o,<-Ko.o,bR (by rw[Q];exact aX _)]
end Go.Proofs.Q
namespace Rf
def CM(k:Int):Int:=if k=-1 then 2 else k
theorem nK{e:Eqn}{v:Int}{x:List AB}(h:0<A0 v x): (LZ (A6 e v x)).1=8:=by
 unfold A6;rw[bD h];rfl
theorem nW{e:Eqn}{v:Int}{x:List AB}(h:¬0<A0 v x)(a:200<(e.put v x).size): (LZ (A6 e v x)).1=7:=by
 unfold A6;rw[bC h,bD a];rfl
theorem u9{e:Eqn}{v:Int}{x:List AB}(h:¬0<A0 v x)(a:¬200<(e.put v x).size):LZ (A6 e v x)=AL (e.put v x)/\A6 e v x=(0,e.put v x):=by
 have:A6 e v x=(0,e.put v x):=by unfold A6;rw[bC h,bC a]
 rw[this];exact⟨rfl,rfl⟩
theorem WU{x:List AB×List AB}{l:List (List AB×List AB)}{p:AB}(h:p∈x.1):p∈ED (x::l):=by unfold ED;simp[h]
theorem WM{x:List AB×List AB}{l:List (List AB×List AB)}{p:AB}(h:p∈x.2):p∈FX (x::l):=by unfold FX;simp[h]
theorem W4{x:List AB×List AB}{l:List (List AB×List AB)}{p:AB}(h:p∈ED l):p∈ED (x::l):=by unfold ED at*;rw[List.map_cons,List.flatten_cons];exact List.mem_append_right _ h
theorem WK{x:List AB×List AB}{l:List (List AB×List AB)}{p:AB}(h:p∈FX l):p∈FX (x::l):=by unfold FX at*;rw[List.map_cons,List.flatten_cons];exact List.mem_append_right _ h
theorem iH(x:List AB×List AB)(l:List (List AB×List AB)): (ED (x::l)).length=x.1.length+(ED l).length:=by unfold ED;simp
theorem fC{t:List AB}(h:Whole t 1):1<=t.length:=by
 cases t with
 |nil=>exact absurd (show(1:Int)=0 from h) aF
 |cons p t=>simp
theorem iW{m:Nat}{x:List AB×List AB}{l:List (List AB×List AB)}{c b d:List (List AB)}(h:Msr m (A4 (x::l) c b d))(e:Whole x.1 1):0<m/\Msr (m-1) (A4 l c b d):=
 lN h (fun _ a=>W4 a) (fun _ a=>WK a) (by show(ED l).length<(ED (x::l)).length;rw[iH];have:=fC e;omega)
theorem nX{m:Nat}{n:Int}{x:List AB×List AB}{l:List (List AB×List AB)}{c b d:List (List AB)}{y:List AB}(h:Msr m (A4 (x::l) c b d))(j:∃p:AB,(p∈x.1\/p∈x.2)/\p.kind=1/\p.value=n)(k:∀p∈y,p∈x.1\/p∈x.2)(f:A6 (A4 l c b d) n y=(0,(A4 l c b d).put n y)):0<m/\Msr (m-1) ((A4 l c b d).put n y):=by
 have:=aCC (e:=A4 (x::l) c b d) (e0:=A4 l c b d) (v:=n) (x:=y) h (fun _ a=>W4 a) (fun _ a=>WK a) ?_ ?_ (by rw[f])
 ·rw[f] at this;exact this
 ·obtain⟨p,a,g,i⟩:=j;exact⟨p,a.imp (fun h=>WU h) (fun h=>WM h),g,i⟩
 ·exact fun p a=>(k p a).imp (fun h=>WU h) (fun h=>WM h)
theorem aBg{m:Nat}{p:AB}{b c:List (List AB)}{l:List (List AB×List AB)}{f e j:List (List AB)}(i:b.length=c.length)(h:Msr m (A4 ((p::b.flatten,p::c.flatten)::l) f e j)):0<m/\Msr (m-1) (A4 (b.zip c++l) f e j):=by
 have g:ED (b.zip c++l)=b.flatten++ED l:=by unfold ED;rw[bE,List.flatten_append,U6 i]
 have k:FX (b.zip c++l)=c.flatten++FX l:=by unfold FX;rw[bE,List.flatten_append,UT i]
 refine lN h (fun q d=>?_) (fun q d=>?_) ?_
 ·have a:q∈ED (b.zip c++l):=d;rw[g] at a;rcases bO.1 a with h|h
  ·exact WU (bA _ h)
  ·exact W4 h
 ·have a:q∈FX (b.zip c++l):=d;rw[k] at a;rcases bO.1 a with h|h
  ·exact WM (bA _ h)
  ·exact WK h
 ·show(ED (b.zip c++l)).length<(ED ((p::b.flatten,p::c.flatten)::l)).length;rw[g,iH,bL];simp
theorem PN(x:List AB×List AB)(l:List (List AB×List AB))(b a c:List (List AB)): (A4 (x::l) b a c).size=x.1.length+x.2.length+(A4 l b a c).size:=by
 rw[GQ,GQ,DY];omega
theorem xF{p:AB}{a b:List (List AB)}(e:a.length=b.length)(l:List (List AB×List AB))(d c f:List (List AB)): (A4 (a.zip b++l) d c f).size<=(A4 ((p::a.flatten,p::b.flatten)::l) d c f).size:=by
 rw[GQ,GQ,DY,PB,WI (a.zip b)];unfold ED FX;rw[U6 e,UT e];simp only[bM];omega
theorem eQ:∀(l:List (List AB×List AB)),(∀x∈l,Whole x.1 1)->l.length<=DY l
 |[],_=>by simp
 |x::l,h=>by
  have:=eQ l (fun y a=>h y (bA _ a));have:=fC (h x aE);rw[bM,DY];omega
end Rf
namespace Go.Proofs.Q
open Rf _root_.Go.Proofs.Tryz
open Go.RowKit
def aC2(b c d:Nat)(a:Int×Eqn)(w:World)(m:Nat)(wr:World):Prop:=∃(l:List (List AB×List AB)) (bo be te:List (List AB)) (vP vG vT:Value),Msr m (A4 l bo be te)/\(A4 l bo be te).size<=10000000/\WkB wr b vP vG vT/\DPs wr vP l/\DGs wr vG (bo++be)/\DTs wr vT te/\(bo++be).length=c/\te.length=d/\Hid (a=AL (A4 l bo be te))/\Kept (fun k=>k=b) w wr
def rT(b:Nat)(a:Int×Eqn)(w:World)(r:Ending)(w':World):Prop:=
 r= .returned (.int .i64 (CM a.1))/\Kept (fun k=>k=b) w w'/\∃e c d gs ts,WkB w' b e c d/\DGs w' c gs/\DTs w' d ts/\(a.1=0->gs=a.2.body++a.2.behind/\ts=a.2.aS)
theorem DPs.whole{w:World}{v:Value}{l:List (List AB×List AB)}(h:DPs w v l):∀x∈l,Rf.Whole x.1 1:=by
 obtain⟨acc,_,a,rfl⟩:=h.ex;intro x hx;obtain⟨q,b,rfl⟩:=bQ.1 hx;exact(a q b).1.w1
theorem DPs.len{w:World}{v:Value}{l:List (List AB×List AB)}{b a d:List (List AB)}(h:DPs w v l)(c: (A4 l b a d).size<=10000000):l.length<=10000000:=by
 have:=eQ l h.whole;rw[GQ] at c;omega
theorem DTm.top{w:World}{p:Nat}{ps:List AB}(h:DTm w p ps):∃(k n:Int) (s:ByteArray) (a:Option Addr) (c:Nat) (qs:List (Nat×List AB)),TmB w p k n s (.slice a qs.length c)/\Seen w 100 BQ (.slice a qs.length c) (qs.map (·.1))/\qs.length<=4/\(∀q∈qs,DTm w q.1 q.2)/\ ((k=118/\s=⟨#[]⟩/\qs=[]/\ps=[⟨1,⟨#[]⟩,n,0⟩])\/(k=110/\s=⟨#[]⟩/\qs=[]/\ps=[⟨2,⟨#[]⟩,n,0⟩])\/(k=97/\n=0/\qs=[]/\ps=[⟨3,s,0,0⟩])\/(k=99/\n=0/\1<=qs.length/\ps=⟨3,s,0,qs.length⟩::(qs.map (·.2)).flatten)):=by
 obtain⟨d,h⟩:=h
 cases d with
 |zero=>exact h.elim
 |succ d=>
  obtain⟨k,n,s,a,c,qs,b,e,f,g,i⟩:=h.args;exact⟨k,n,s,a,c,qs,b,e,f,fun q j=>⟨d,g q j⟩,i⟩
theorem yO{w:World}{b p:Nat}{g f h:Value}{k n:Int}{s:ByteArray}{v:Value}(d:WkB w b g f h)(e:TmB w p k n s v):p≠b:=by
 rintro rfl;have c:w.heap[p]?=_:=d;have a:w.heap[p]?=_:=e;rw[c] at a;injection a with a;injection a with _ a;exact absurd a aF
theorem tP{k n k' j:Int}{s i:ByteArray}{qs c:List (Nat×List AB)}{f g:List AB} (h: (k=118/\s=⟨#[]⟩/\qs=[]/\f=[⟨1,⟨#[]⟩,n,0⟩])\/(k=110/\s=⟨#[]⟩/\qs=[]/\f=[⟨2,⟨#[]⟩,n,0⟩])\/(k=97/\n=0/\qs=[]/\f=[⟨3,s,0,0⟩])\/(k=99/\n=0/\1<=qs.length/\f=⟨3,s,0,qs.length⟩::(qs.map (·.2)).flatten)) (l: (k'=118/\i=⟨#[]⟩/\c=[]/\g=[⟨1,⟨#[]⟩,j,0⟩])\/(k'=110/\i=⟨#[]⟩/\c=[]/\g=[⟨2,⟨#[]⟩,j,0⟩])\/(k'=97/\j=0/\c=[]/\g=[⟨3,i,0,0⟩])\/(k'=99/\j=0/\1<=c.length/\g=⟨3,i,0,c.length⟩::(c.map (·.2)).flatten)) (v:k≠118) (m:k'≠118) (hx:f≠g) (w:¬(k=99/\k'=99/\s=i/\qs.length=c.length)):∃p q r x,f=p::r/\g=q::x/\p≠q/\p.kind≠1/\q.kind≠1:=by
 rcases h with⟨e,_⟩|⟨e,_,_,d⟩|⟨e,_,_,d⟩|⟨e,_,z,d⟩
 ·exact absurd e v
 ·rcases l with⟨b,_⟩|⟨b,_,_,a⟩|⟨b,_,_,a⟩|⟨b,_,o,a⟩
  ·exact absurd b m
  ·exact⟨_,_,_,_,d,a,fun e=>hx (by rw[d,a,e]),aE,aE⟩
  ·exact⟨_,_,_,_,d,a,fun e=>by injection e with e;exact absurd e aF,aE,aE⟩
  ·exact⟨_,_,_,_,d,a,fun e=>by injection e with e;exact absurd e aF,aE,aE⟩
 ·rcases l with⟨b,_⟩|⟨b,_,_,a⟩|⟨b,_,_,a⟩|⟨b,_,o,a⟩
  ·exact absurd b m
  ·exact⟨_,_,_,_,d,a,fun e=>by injection e with e;exact absurd e aF,aE,aE⟩
  ·exact⟨_,_,_,_,d,a,fun e=>hx (by rw[d,a,e]),aE,aE⟩
  ·exact⟨_,_,_,_,d,a,fun e=>by injection e with _ _ _ e;omega,aE,aE⟩
 ·rcases l with⟨b,_⟩|⟨b,_,_,a⟩|⟨b,_,_,a⟩|⟨b,_,o,a⟩
  ·exact absurd b m
  ·exact⟨_,_,_,_,d,a,fun e=>by injection e with e;exact absurd e aF,aE,aE⟩
  ·exact⟨_,_,_,_,d,a,fun e=>by injection e with _ _ _ e;omega,aE,aE⟩
  ·exact⟨_,_,_,_,d,a,fun t=>by injection t with _ u _ y;exact w ⟨e,b,u,aD⟩,aE,aE⟩
theorem nQ{b:Nat}{w w':World}{i g j:Value}(h:Kept (fun z=>z=b) w w')(d:WkB w b i g j):DK QC w w':=DK.kept h (fun k cs e a f c=>by subst c;rw[d] at a;injection a with a;injection a with _ a;exact oG (a ▸ f))
structure xu(wr w1 w3:World)(b p q:Nat)(vP vG vT:Value)(l:List (List AB×List AB))(gs te xa xb:List (List AB))(k n k' n':Int)(s s':ByteArray)(v v':Value):Prop where
 kb:Kept (fun z=>z=b) wr w3
 pr:w3.heap[w1.heap.size]?=some (.cells #[.pointer (some ⟨p,0,none⟩),.pointer (some ⟨q,0,none⟩)] 156 (0,0))
 bb:WkB w3 b vP vG vT
 ps:DPs w3 vP l
 gs:DGs w3 vG gs
 ts:DTs w3 vT te
 tp:TmB w3 p k n s v
 tq:TmB w3 q k' n' s' v'
 da:∀t∈xa,DTm w3 p t
 db:∀t∈xb,DTm w3 q t
 lw:wr.heap.size<=w1.heap.size
 nb:w1.heap.size≠b
 row:∀g,(∃off n c,vP= .slice (some ⟨g,off,none⟩) n c)->g≠w1.heap.size
theorem xu.all{wr d a:World}{b p q:Nat}{e o r:Value}{l:List (List AB×List AB)}{gs t:List (List AB)}{u w:List AB}{k n k' f:Int}{s j:ByteArray}{v m:Value}(h:xu wr d a b p q e o r l gs t [u] [w] k n k' f s j v m):wr.heap.size<=d.heap.size/\d.heap.size≠b/\Hid (∀g,(∃off n c,e= .slice (some ⟨g,off,none⟩) n c)->g≠d.heap.size)/\a.cell? ⟨d.heap.size,0,none⟩=some (.pointer (some ⟨p,0,none⟩))/\a.cell? ⟨d.heap.size,1,none⟩=some (.pointer (some ⟨q,0,none⟩))/\(∀i,a.frozen? ⟨d.heap.size,i,none⟩=false)/\d.heap.size<a.heap.size/\ a.cell? ⟨p,0,none⟩=some (.int .u8 k)/\a.cell? ⟨p,1,none⟩=some (.int .i64 n)/\a.cell? ⟨p,2,none⟩=some (.string s)/\a.cell? ⟨p,3,none⟩=some v/\a.cell? ⟨q,0,none⟩=some (.int .u8 k')/\a.cell? ⟨q,1,none⟩=some (.int .i64 f)/\a.cell? ⟨q,2,none⟩=some (.string j)/\a.cell? ⟨q,3,none⟩=some m/\p<a.heap.size/\q<a.heap.size/\ Hid (a.heap[d.heap.size]?=some (.cells #[.pointer (some ⟨p,0,none⟩),.pointer (some ⟨q,0,none⟩)] 156 (0,0)))/\Hid (WkB a b e o r)/\Hid (DPs a e l)/\Hid (DGs a o gs)/\Hid (DTs a r t)/\Hid (TmB a p k n s v)/\Hid (TmB a q k' f j m)/\Hid (DTm a p u)/\Hid (DTm a q w)/\Hid (Kept (fun z=>z=b) wr a):=
 ⟨h.lw,h.nb,h.row,AA h.pr 0,AA h.pr 1,AE h.pr,AD h.pr,AA h.tp 0,AA h.tp 1,AA h.tp 2,AA h.tp 3,AA h.tq 0,AA h.tq 1,AA h.tq 2,AA h.tq 3,AD h.tp,AD h.tq,h.pr,h.bb,h.ps,h.gs,h.ts,h.tp,h.tq,h.da _ aE,h.db _ aE,h.kb⟩
theorem NF{wr d:World}{b p q m:Nat}{R h w x:Value}{l:List (List AB×List AB)}{gs D:List (List AB)}{F G:List AB}{k n k' B:Int}{s C:ByteArray}{v E:Value}(I:WkB wr b R w x)(f:Kept (fun z=>z=b) wr d)(j:WkB d b h w x)(o:DPs d h l)(J:DGs wr w gs)(K:DTs wr x D)(P:TmB wr p k n s v)(Q:TmB wr q k' B C E)(L:DTm wr p F)(M:DTm wr q G):xu wr d ((d.alloc (.cells #[.pointer (some ⟨p,0,none⟩),.pointer (some ⟨q,0,none⟩)] 156)).drewN m) b p q h w x l gs D [F] [G] k n k' B s C v E:=by
 have N:DK QC wr d:=DK.kept f (fun k cs e i O A=>by subst A;rw[I] at i;injection i with i;injection i with _ i;exact oG (i ▸ O));have u:Below d.heap.size d ((d.alloc (.cells #[.pointer (some ⟨p,0,none⟩),.pointer (some ⟨q,0,none⟩)] 156)).drewN m):=((bZ _ d).alloc (aX _) _).drewN m;have a:DK QC wr _:=N.trans (DK.below u);have y:=AD j;refine⟨f.trans (Kept.of_below u (fun z=>z=b)) (fun _ _ e=>e),AJ d _,(u.block b y).trans j,o.dp (DK.below u),J.dp a,K.dp a,a.block p _ _ P (.inl (.inl rfl)),a.block q _ _ Q (.inl (.inl rfl)),fun t r=>?_,fun t r=>?_,f.size,aD,?_⟩
 ·simp at r;subst r;exact L.dk a (fun _ e=> .inl e.doc)
 ·simp at r;subst r;exact M.dk a (fun _ e=> .inl e.doc)
 ·rintro g ⟨off,n,c,rfl⟩ e;obtain⟨acc,H,_⟩:=o.ex;have:=H.lt;omega
theorem jo.blk{α β:Type}{e:TypeId}{C:α->List Value}{P:World->α->β->Prop}{w:World}{g off n c:Nat}{j:List β}(h:jo e C P w (.slice (some ⟨g,off,none⟩) n c) j):∃cs,w.heap[g]?=some (.cells cs e (0,0)):=by
 obtain⟨acc,f,_,_⟩:=h.ex;rcases f.ex with⟨e,_⟩|⟨k,b,d,a,e,i,_⟩
 ·cases e
 ·injection e with e;injection e with e;injection e with e;subst e;exact⟨a,i⟩
theorem sM(w:World)(e:Value)(a:List ByteArray)(b:Option Addr)(c:Nat)(aS:List (List AB))(d:a=[]):Calls prog 74 #[.slice b 0 c,e] w fun r w'=>r= .returned (.string (EB a aS))/\Below w.heap.size w w':=by
 have hx:Hid (EB a aS=⟨#[121,101,115]⟩):=by unfold Hid EB;rw[bD d];rfl
 go_enter func74,ntmps74;go_wp2_with fail;go_ret;exact⟨E7 hx.o.symm,bZ _ _⟩
theorem yD(w:World)(F:Int)(M:Nat)(vN vT:Value)(b:List ByteArray)(aS:List (List AB))(hN:Seen w 9 A3 vN b)(hT:DTs w vT aS)(hl:b.length=aS.length)(d7:b.length<=16)(Oi:∀n∈b,n.size<=12)(L:∀t∈aS,TmG F t)(hF:F<=(M:Int))(hM:M<=8000000000000)(V:b≠[])(wu:qo w.heap.size w):Calls prog 74 #[vN,vT] w fun r w'=>r= .returned (.string (EB b aS))/\Below w.heap.size w w':=by
 obtain⟨aN,cN,e⟩:=hN.slice;subst e;obtain⟨aT,cT,e⟩:=jo.slice hT;subst e;have hx:Hid (KL b aS b.length=EB b aS):=aAf hl V;have a6:Hid (∀i,i<=b.length->(KL b aS i).size<=10000*i):=fun i hi=>fQ hl Oi L i hi aD;have a5:Hid (∀i,i<=aS.length->(nsT aS i).length<=400*i):=ZU (fun t ht=>(L t ht).1);have H:=aO hN;have HT:=aO hT;have c6:=aO L;have c1:=aO Oi;have y:=aO wu;have d4:0<b.length:=List.length_pos_iff.2 V;have e3: ((b.length:Int)==0)=false:=by rw[aY];omega
 have d0: (b.length:Int)<=16:=aD;have b5: (aS.length:Int)=(b.length:Int):=aD;have c5:Hid (aS.length=b.length):=hl.symm;rw[hl.symm] at HT a5;clear hN hT L Oi wu V b5 hl;have a0:Hid (KL b aS 0=⟨#[]⟩):=by unfold Hid;simp[KL,EY]
 have b0:Hid (nsT aS 0=[]):=by unfold Hid;simp[nsT,AT]
 go_enter func74,ntmps74;go_wp2_with fail;go_loopg [5,6,7,8,9] (b.length+1) (fun m bv sv nv iv _ wr=>∃(j:Nat) (a:Option Addr) (c:Nat) (N:List ByteArray),j<=b.length/\m=b.length+1-j/\iv= .int .i64 (j:Nat)/\nv= .int .i64 ((nsT aS j).length:Nat)/\sv= .string (KL b aS j)/\bv= .slice a N.length c/\Hid (aj wr w.heap.size 9 1 A3 (.slice a N.length c) N)/\Hid (yj (nsT aS j) N)/\N.length<=M/\Below w.heap.size w wr)
 case atStart=>exact⟨0,none,0,[],aD,rfl,rfl,by rw[b0.o];rfl,by rw[a0.o],rfl,aj.nil _ _ _ _ _,(by rw[b0.o];exact yj.nil),bK _,bZ _ _⟩
 case round=>
  obtain⟨j,a,c,N,hj,rfl,rfl,rfl,rfl,rfl,oz,a4,b4,k⟩:=hrel;have b7:=k.size;clear b0;by_cases A:j<b.length
  ·have d3: (j:Int)<(b.length:Int):=aD;have K:j<aS.length:=by rw[c5.o];exact A
   obtain⟨g,off,p,rfl,gl,hc,hD⟩:=rB (HT.o.doc (DK.below k)) K
   have Z:Hid (∀X:World,DK TmT wr X->X.cell? ⟨g,off+j,none⟩=some (.pointer (some ⟨p,0,none⟩))):=fun X hd=>by
    obtain⟨cs,a9⟩:=jo.blk (HT.o.doc (DK.below k));exact(cD ((hd.block g cs _ a9 (.inr rfl)).trans a9.symm)).trans hc
   obtain⟨z,on,rfl⟩:=H.o.pos aD;have T:=(Seen.dk H.o (DK.below (E:=AW) k) (.inr (.inr (.inr (.inr (.inr (.inr rfl))))))).cells C7 j b[j] (by simp[A]) 0 _ rfl;simp only[Nat.mul_one,dG] at T;have d6:z<wr.heap.size:=bH H.o.lt k.size;have e1:=a5.o j aD;have e4:=a6.o j hj;have d5:=a6.o (j+1) A;have D:=c6.o aS[j] (bG K);have e0:=c1.o b[j] (bG A);have a3:Hid (KL b aS (j+1)=(if j=0 then⟨#[]⟩ else KL b aS j++⟨#[44,32]⟩)++b[j]++⟨#[32,61,32]⟩++KM (AQ (nsT aS j) aS[j]).1):=eS A K;have I:Hid (nsT aS (j+1)=(AQ (nsT aS j) aS[j]).2):=iF K;have Hx:Hid (KM (AQ (nsT aS j) aS[j]).1=FO (C2 (AQ (nsT aS j) aS[j]).2) aS[j]):=aBC (List.prefix_refl _);have c8:Hid (VIn (· ∈(AQ (nsT aS j) aS[j]).2) aS[j]):=(MD aS[j] (nsT aS j) _ (List.prefix_refl _)).2
   have b6: (AQ (nsT aS j) aS[j]).2.length<=1000000:=by
    have h1:=M4 aS[j] (nsT aS j);have h2:=D.1;omega
   have c7:Hid ((FO (C2 (AQ (nsT aS j) aS[j]).2) aS[j]).size<=24*aS[j].length):=O6 _ (fun q W=>MS b6 (D.2 q W));have e5:aS[j].length<=400:=D.1;have Q:=aO D;obtain⟨d,a7⟩:=hD;have P:=aO a7;clear a7 D;generalize aS[j]=t at*;generalize b[j]=nm at*;generalize nsT aS j=ns at*;have HL:=aO A
   have a1:Hid (∀(X:World) (v2:Value) (G:List ByteArray),DK TmT wr X->qo w.heap.size X->aj X w.heap.size 9 1 A3 v2 G->yj (AQ ns t).2 G->Calls prog 79 #[.pointer (some ⟨p,0,none⟩),v2] X fun r w'=>∃x:ByteArray,r= .returned (.string x)/\Hid (x=KM (AQ ns t).1)/\x.size<=9600/\Below X.heap.size X w'):=fun X v2 G hd d2 o s=>by
    refine(UE d FY X p t v2 G (AQ ns t).2 (cu.dk hd (fun _ h=>h) (fun _ _ _ _ _ h=>h) P.o) (fun q W=>⟨F,Q.o.2 q W⟩) aD o.seen s c8.o b6 d2.tab).mono ?_;rintro r w' ⟨rfl,hb⟩;exact⟨_,rfl,Hx.o.symm,by have:=c7.o;omega,hb⟩
   rcases Nat.eq_zero_or_pos j with J|J
   ·have c4:=aO J;have d8:¬(0:Int)<(j:Int):=aD;have d9: (j:Int)<=0:=aD;have c3:Hid (KL b aS j=⟨#[]⟩):=by unfold Hid;rw[J];exact a0.o
    clear J;go_wp2_with (first|(have d1:=S;go_at_call 79;refine(a1.o v _ G O.o (y.o.on f.o) C.o Kw.o).mono ?_;rintro r w3 ⟨x3,rfl,Y,c0,u⟩;have B:=aO u;have a8:w3.cell? ⟨z,on+j,none⟩=some (.string nm):=(cD (u.block z R)).trans Om;clear u)|(go_at_call 106;refine(UQ d FY wr p t _ N ns w.heap.size M P.o (fun q W hk=>by have:=(Q.o.2 q W).2.1 hk;omega) oz.o a4.o b4 hM b7 aD (y.o.on k)).mono ?_;rintro r v ⟨v2,G,rfl,o,Jo,U,s,l⟩;obtain⟨a2,c2,e2⟩:=o.seen.slice;subst e2;have C:=aO o;have Kw:=aO Jo;have f:Hid (Below w.heap.size w v):=k.trans s;have O:=aO l;have S:=f;have R:z<v.heap.size:=bH H.o.lt f.o.size;have c9:g<v.heap.size:=bH gl l.size;have Om:v.cell? ⟨z,on+j,none⟩=some (.string nm):=(cD (f.o.block z H.o.lt)).trans ((cD (k.block z H.o.lt)).symm.trans T);have b3:v.cell? ⟨g,off+j,none⟩=some (.pointer (some ⟨p,0,none⟩)):=Z.o v l;clear o Jo s l));go_roundg (b.length -j)
    case measure=>have:=HL.o;omega
    case rel=>exact⟨j+1,a2,c2,G,HL.o,(Nat.add_sub_add_right b.length 1 j).symm,by go_num,by rw[I.o],by rw[a3.o,bD c4.o,Y.o,c3.o],rfl,C.o.below B.o,(by rw[I.o];exact Kw.o),U,f.o.trans (B.o.mono f.o.size)⟩
   ·go_wp2_with (first|(have d1:=S;go_at_call 79;refine(a1.o v _ G O.o (y.o.on f.o) C.o Kw.o).mono ?_;rintro r w3 ⟨x3,rfl,Y,c0,u⟩;have B:=aO u;have a8:w3.cell? ⟨z,on+j,none⟩=some (.string nm):=(cD (u.block z R)).trans Om;clear u)|(go_at_call 106;refine(UQ d FY wr p t _ N ns w.heap.size M P.o (fun q W hk=>by have:=(Q.o.2 q W).2.1 hk;omega) oz.o a4.o b4 hM b7 aD (y.o.on k)).mono ?_;rintro r v ⟨v2,G,rfl,o,Jo,U,s,l⟩;obtain⟨a2,c2,e2⟩:=o.seen.slice;subst e2;have C:=aO o;have Kw:=aO Jo;have f:Hid (Below w.heap.size w v):=k.trans s;have O:=aO l;have S:=f;have R:z<v.heap.size:=bH H.o.lt f.o.size;have c9:g<v.heap.size:=bH gl l.size;have Om:v.cell? ⟨z,on+j,none⟩=some (.string nm):=(cD (f.o.block z H.o.lt)).trans ((cD (k.block z H.o.lt)).symm.trans T);have b3:v.cell? ⟨g,off+j,none⟩=some (.pointer (some ⟨p,0,none⟩)):=Z.o v l;clear o Jo s l));go_roundg (b.length -j)
    case measure=>have:=HL.o;omega
    case rel=>exact⟨j+1,a2,c2,G,HL.o,(Nat.add_sub_add_right b.length 1 j).symm,by go_num,by rw[I.o],by rw[a3.o,bC aD,Y.o],rfl,C.o.below B.o,(by rw[I.o];exact Kw.o),U,f.o.trans (B.o.mono f.o.size)⟩
  ·obtain rfl:j=b.length:=aD;go_wp2_with fail;go_ret;exact⟨E7 hx.o,k⟩
end Go.Proofs.Q
