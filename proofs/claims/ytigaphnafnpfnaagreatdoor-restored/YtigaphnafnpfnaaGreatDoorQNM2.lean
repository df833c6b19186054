import Derived.Test.YtigaphnafnpfnaaGreatDoorQNE11
import Derived.ProofKit
import Derived.LaidMore
import Derived.LaidSub
import Derived.Lay
import Derived.Stop.Joined
import Derived.Lib.LaidTab
import Derived.Shelf.Vars
set_option linter.unusedVariables false
set_option linter.unusedSimpArgs false
set_option maxHeartbeats 8000000
set_option maxRecDepth 100000
namespace Go.Proofs.YtigaphnafnpfnaaGreatDoor
theorem eG.lQ{lt lt':Nat->Nat->Bool}{n:Nat}{h:Nat->Nat}(ok:eG lt n h)(he:∀j k,j<n->k<n->lt' (h j) (h k)=lt (h j) (h k)):eG lt' n h:=by
 intro k h0 hk;rw[he k (par k) hk (by unfold par;omega)];exact ok k h0 hk
theorem uj{om dK:Nat->Ord}{x y:Nat}(hx:(dK x).side=(om x).side/\(dK x).af=(om x).af/\(dK x).place=(om x).place)(hy:(dK y).af=(om y).af/\(dK y).place=(om y).place):fP dK x y=fP om x y:=by
 unfold fP mg kY;rw[hx.1,hx.2.1,hx.2.2,hy.1,hy.2]
structure GB(B:Bk)(om:Nat->Ord)(sym:ByteArray)(L:Nat->Prop):Prop where
 lL:B.sym=sym
 mem:∀s,s<2->∀x,Mem (B.n s) (B.h s) x↔(L x/\(om x).sym=sym/\(om x).side=(s:Int)/\0<(om x).aO)
 heap:∀s,s<2->eG (fP om) (B.n s) (B.h s)
 inj:∀s,s<2->ry (B.n s) (B.h s)
 iE:∀x y,Mem (B.n 0) (B.h 0) x->Mem (B.n 1) (B.h 1) y->(om x).af<(om y).af
theorem GB.side{B:Bk}{om:Nat->Ord}{sym:ByteArray}{L:Nat->Prop}(h:GB B om sym L){s k:Nat}(hs:s<2)(hk:k<B.n s):(om (B.h s k)).side=(s:Int):=((h.mem s hs _).1 ⟨k,hk,rfl⟩).2.2.1
theorem GB.lQ{B:Bk}{om dK:Nat->Ord}{sym:ByteArray}{L L':Nat->Prop}(h:GB B om sym L)(hL:∀x,(L' x/\(dK x).sym=sym/\0<(dK x).aO)↔(L x/\(om x).sym=sym/\0<(om x).aO))(he:∀x,L x->(om x).sym=sym->0<(om x).aO->(dK x).side=(om x).side/\(dK x).af=(om x).af/\(dK x).place=(om x).place):GB B dK sym L':=by
 have hm:∀s,s<2->∀x,Mem (B.n s) (B.h s) x->(dK x).side=(om x).side/\(dK x).af=(om x).af/\(dK x).place=(om x).place:=fun s hs x hx=>by
  obtain⟨a,b,_,d⟩:=(h.mem s hs x).1 hx;exact he x a b d
 refine⟨h.lL,fun s hs x=>?_,fun s hs=>(h.heap s hs).lQ (fun j k hj hk=>?_),h.inj,fun x y hx hy=>?_⟩
 ·rw[h.mem s hs x];constructor
  ·rintro⟨a,b,c,d⟩;obtain⟨a',b',d'⟩:=(hL x).2 ⟨a,b,d⟩;exact⟨a',b',by rw[(he x a b d).1];exact c,d'⟩
  ·rintro⟨a,b,c,d⟩;obtain⟨a',b',d'⟩:=(hL x).1 ⟨a,b,d⟩;exact⟨a',b',by rw[<-(he x a' b' d').1];exact c,d'⟩
 ·exact uj (hm s hs _ ⟨j,hj,rfl⟩) (hm s hs _ ⟨k,hk,rfl⟩).2
 ·rw[(hm 0 (by omega) x hx).2.1,(hm 1 (by omega) y hy).2.1];exact h.iE x y hx hy
theorem zB{kind side af p:Int}(h:jc kind side af p=false)(hk:kind≠5):if side=0 then af<p else p<af:=by
 unfold jc at h;rw[if_neg hk]at h;split at h
 ·rename_i e;rw[if_pos e];simpa using h
 ·rename_i e;rw[if_neg e];simpa using h
theorem PT{B:Bk}{om:Nat->Ord}{lg:Lg}{sym:ByteArray}{L:Nat->Prop}{M:Int}{oc s t g cap':Nat}(hM:M<=1000000000000000)(hs:s<2)(ht:t=1-s)
 (hL:L oc) (dR:(om oc).sym=sym) (hside:(om oc).side=(t:Int)) (hq:∀x,L x->Qo M (om x)) (gb:GB B om sym (fun x=>L x/\x≠oc)) :
 sV oc s ⟨B,om,lg⟩/\GB (eu oc t g cap' (mF oc s ⟨B,om,lg⟩)) (aH oc (mF oc s ⟨B,om,lg⟩)) sym L/\(∀x,L x->Qo M (aH oc (mF oc s ⟨B,om,lg⟩) x)) /\
  PH oc s M ⟨B,om,lg⟩ (mF oc s ⟨B,om,lg⟩)/\(∀x,x≠oc->pX (om x) (aH oc (mF oc s ⟨B,om,lg⟩) x))/\(∀x,x≠oc->((om x).sym≠sym\/¬0<(om x).aO\/¬L x)->aH oc (mF oc s ⟨B,om,lg⟩) x=om x):=by
 have t2:t<2:=by omega
 have hts:(t:Int)≠(s:Int):=by omega
 have iv:sV oc s ⟨B,om,lg⟩:=by
  refine⟨fun k hk=>?_,gb.inj s hs,(hq oc hL).o0,?_,by show (om oc).side=_;rw[hside];omega⟩
  ·obtain⟨⟨a,a'⟩,b,c,d⟩:=(gb.mem s hs _).1 ⟨k,hk,rfl⟩;have q:=hq _ a;exact⟨c,d,by have:=q.sum;have:=q.f0;have:=q.c0;have:=q.e0;have:=q.hi;show (om (B.h s k)).aO<=_;omega,a'⟩
  ·have q:=hq oc hL;have:=q.sum;have:=q.f0;have:=q.c0;have:=q.e0;have:=q.hi;show (om oc).aO<=_;omega
 have YH:∀x,Mem (B.n s) (B.h s) x->L x/\x≠oc:=fun x hx=>((gb.mem s hs x).1 hx).1
 have run:PH oc s M ⟨B,om,lg⟩ (mF oc s ⟨B,om,lg⟩):=Nz hM _ _ iv (gb.heap s hs) (fun x hx=>by
  rcases hx with rfl | hx
  ·exact hq _ hL
  ·exact hq x (YH x hx).1)
 have stp:stops oc s (mF oc s ⟨B,om,lg⟩)=true:=Gt _ _ iv (Nat.le_refl _);obtain⟨f1,f2,f3,f4,f5⟩:=jy oc s (mu oc s ⟨B,om,lg⟩) ⟨B,om,lg⟩;change ∀t,t≠s->(mF oc s ⟨B,om,lg⟩).B.n t=B.n t/\(mF oc s ⟨B,om,lg⟩).B.h t=B.h t at f1;change (mF oc s ⟨B,om,lg⟩).B.sym=B.sym at f4;have fst:=f1 t (by omega);generalize hst:mF oc s ⟨B,om,lg⟩=st at *;have rq:=run.q;have NP:=run.mem;have Y0:=run.gone;have Y1:=run.heap;have QM:=run.lY;have vV:=run.dN;simp only at rq NP Y0 QM vV;have YW:Qo M (st.om oc):=rq oc (.inl rfl);have soc:=vV oc;have q1:∀x,L x->Qo M (st.om x):=fun x hx=>by
  by_cases e:x=oc
  ·rw[e];exact YW
  ·by_cases hm:Mem (B.n s) (B.h s) x
   ·exact rq x (.inr hm)
   ·rw[QM x e hm];exact hq x hx
 have tX:∀x,x≠oc->aH oc st x=st.om x:=fun x h=>rD oc st h
 have coc:Qo M (aH oc st oc)/\(aH oc st oc).sym=sym/\(aH oc st oc).side=(t:Int)/\(aH oc st oc).af=(st.om oc).af/\(dB (st.om oc)=true->(aH oc st oc).aO=(st.om oc).aO)/\(dB (st.om oc)=false->(aH oc st oc).aO=0):=by
  unfold aH;cases hw:dB (st.om oc)
  ·simp only[Bool.false_eq_true,if_false,ai];exact⟨(YW.bZ hM).1,soc.2.2.1.trans dR,soc.2.2.2.1.trans hside,by first | rfl | trivial,fun h=>by simp at h,fun _=>by first | rfl | trivial⟩
  ·simp only[if_true,ai];exact⟨⟨YW.sum,YW.o0,YW.f0,YW.c0,YW.e0,YW.hi⟩,soc.2.2.1.trans dR,soc.2.2.2.1.trans hside,by first | rfl | trivial,fun _=>by first | rfl | trivial,fun h=>by simp at h⟩
 obtain⟨c1,c2,c3,c4,c5,c6⟩:=coc;have memT:∀x,Mem (B.n t) (B.h t) x->(L x/\x≠oc)/\aH oc st x=om x:=fun x hx=>by
  obtain⟨a,b,c,d⟩:=(gb.mem t t2 x).1 hx;refine⟨a,?_⟩;rw[tX x a.2];exact QM x a.2 (fun hm=>hts ((((gb.mem t t2 x).1 hx).2.2.1).symm.trans ((gb.mem s hs x).1 hm).2.2.1))
 have Jy:∀x,Mem (st.B.n s) (st.B.h s) x->(L x/\x≠oc)/\0<(st.om x).aO:=fun x hx=>by
  refine⟨YH x (NP x hx),?_⟩;obtain⟨k,hk,e⟩:=hx;rw[e];exact (run.inv.mem k hk).2.1
 have inS:∀x,L x->x≠oc->(st.om x).sym=sym->(st.om x).side=(s:Int)->0<(st.om x).aO->Mem (st.B.n s) (st.B.h s) x:=fun x h1 h2 h3 h4 h5=>by
  by_cases hm:Mem (B.n s) (B.h s) x
  ·by_cases hm1:Mem (st.B.n s) (st.B.h s) x
   ·exact hm1
   ·have:=Y0 x hm hm1;omega
  ·rw[QM x h2 hm]at h3 h4 h5;exact absurd ((gb.mem s hs x).2 ⟨⟨h1,h2⟩,h3,h4,h5⟩) hm
 have inT:∀x,L x->x≠oc->(st.om x).sym=sym->(st.om x).side=(t:Int)->0<(st.om x).aO->Mem (B.n t) (B.h t) x:=fun x h1 h2 h3 h4 h5=>by
  have hm:¬Mem (B.n s) (B.h s) x:=fun hm=>hts (((vV x).2.2.2.1.symm.trans h4).symm.trans ((gb.mem s hs x).1 hm).2.2.1)
  rw[QM x h2 hm]at h3 h4 h5;exact (gb.mem t t2 x).2 ⟨⟨h1,h2⟩,h3,h4,h5⟩
 have ltS:eG (fP (aH oc st)) (st.B.n s) (st.B.h s):=Y1.lQ (fun j k hj hk=>by
  have h1:=(Jy _ ⟨j,hj,rfl⟩).1.2;have h2:=(Jy _ ⟨k,hk,rfl⟩).1.2;exact uj (by rw[tX _ h1];exact⟨rfl,rfl,rfl⟩) (by rw[tX _ h2];exact⟨rfl,rfl⟩))
 have ltT:eG (fP (aH oc st)) (B.n t) (B.h t):=(gb.heap t t2).lQ (fun j k hj hk=>by
  have h1:=(memT _ ⟨j,hj,rfl⟩).2;have h2:=(memT _ ⟨k,hk,rfl⟩).2;exact uj (by rw[h1];exact⟨rfl,rfl,rfl⟩) (by rw[h2];exact⟨rfl,rfl⟩))
 have Cf:∀x,Mem (st.B.n s) (st.B.h s) x->(aH oc st x).af=(om x).af:=fun x hx=>by
  rw[tX x (Jy x hx).1.2];exact (vV x).2.2.2.2.2.1
 have aco:∀x,x≠oc->pX (om x) (aH oc st x):=fun x hx=>by rw[tX x hx];exact vV x
 have keep':∀x,x≠oc->((om x).sym≠sym\/¬0<(om x).aO\/¬L x)->aH oc st x=om x:=fun x hx h=>by
  rw[tX x hx];refine QM x hx (fun hm=>?_);obtain⟨⟨a,_⟩,b,_,d⟩:=(gb.mem s hs x).1 hm;rcases h with h | h | h
  ·exact h b
  ·exact h d
  ·exact h a
 have tC:∀x,x<2->x=s\/x=t:=by omega
 refine⟨iv,?_,fun x hx=>?_,run,aco,keep'⟩
 ·cases hw:dB (st.om oc)
  ·have hB:eu oc t g cap' st=st.B:=by unfold eu;rw[hw];rfl
   rw[hB];have o0:=c6 hw;refine⟨f4.trans gb.lL,fun y hy x=>?_,fun y hy=>?_,fun y hy=>?_,fun x y hx hy=>?_⟩
   ·rcases tC y hy with rfl | rfl
    ·constructor
     ·intro hx;obtain⟨⟨a,b⟩,d⟩:=Jy x hx;have h0:=(gb.mem y hs x).1 (NP x hx);exact⟨a,by rw[tX x b];exact (vV x).2.2.1.trans h0.2.1,by rw[tX x b];exact (vV x).2.2.2.1.trans h0.2.2.1,by rw[tX x b];exact d⟩
     ·rintro⟨a,b,c,d⟩;have hne:x≠oc:=fun e=>by rw[e,o0]at d;omega
      rw[tX x hne]at b c d;exact inS x a hne b c d
    ·rw[fst.1,fst.2];constructor
     ·intro hx;obtain⟨⟨a,b⟩,e⟩:=memT x hx;have h0:=(gb.mem y t2 x).1 hx;rw[e];exact⟨a,h0.2⟩
     ·rintro⟨a,b,c,d⟩;have hne:x≠oc:=fun e=>by rw[e,o0]at d;omega
      rw[tX x hne]at b c d;exact inT x a hne b c d
   ·rcases tC y hy with rfl | rfl
    ·exact ltS
    ·rw[fst.1,fst.2];exact ltT
   ·rcases tC y hy with rfl | rfl
    ·exact run.inv.inj
    ·rw[fst.1,fst.2];exact gb.inj y t2
   ·have key:∀z,(z=0\/z=1)->∀x,Mem (st.B.n z) (st.B.h z) x->Mem (B.n z) (B.h z) x/\(aH oc st x).af=(om x).af:=fun z hz x hx=>by
     rcases tC z (by omega) with e | e
     ·rw[e]at hx ⊢;exact⟨NP x hx,Cf x hx⟩
     ·rw[e,fst.1,fst.2]at hx;rw[e];exact⟨hx,by rw[(memT x hx).2]⟩
    obtain⟨a1,a2⟩:=key 0 (.inl rfl) x hx;obtain⟨b1,b2⟩:=key 1 (.inr rfl) y hy;rw[a2,b2];exact gb.iE x y a1 b1
  ·have hB:eu oc t g cap' st=st.B.rest (aH oc st) t oc g cap':=by unfold eu;rw[hw];rfl
   rw[hB];have hop:0<(st.om oc).aO:=by simp[dB]at hw;exact hw.1
   have hk5:(st.om oc).kind≠5:=by
    simp only[dB,fD,Bool.and_eq_true,Bool.or_eq_true,beq_iff_eq]at hw;omega
   have oo:=c5 hw;have nS:(st.B.rest (aH oc st) t oc g cap').n s=st.B.n s:=by simp only[Bk.rest];rw[ah _ _ (by omega)]
   have hS:(st.B.rest (aH oc st) t oc g cap').h s=st.B.h s:=by simp only[Bk.rest];rw[ah _ _ (by omega)]
   have nT:(st.B.rest (aH oc st) t oc g cap').n t=B.n t+1:=by simp only[Bk.rest,ai,fst.1]
   have hT:(st.B.rest (aH oc st) t oc g cap').h t=vF (fP (aH oc st)) (fun k=>if k=B.n t then oc else B.h t k) (B.n t):=by simp only[Bk.rest,ai,fst.1,fst.2]
   have mT:∀x,Mem ((st.B.rest (aH oc st) t oc g cap').n t) ((st.B.rest (aH oc st) t oc g cap').h t) x↔Mem (B.n t) (B.h t) x\/x=oc:=fun x=>by rw[nT,hT];exact jh _ _ _
   have bad:∀y,Mem (st.B.n s) (st.B.h s) y->if (t:Int)=0 then (aH oc st oc).af<(om y).af else (om y).af<(aH oc st oc).af:=by
    intro y hy;have hf:dJ st.B st.om (dm (st.om oc)) s=none:=by
     simp only[stops,Bool.or_eq_true,Bool.not_eq_true',decide_eq_false_iff_not]at stp;rcases stp with h | h
     ·exact absurd hop h
     ·simpa using h
    obtain⟨k,hk,e⟩:=hy;have hn0:st.B.n s≠0:=by omega
    unfold dJ at hf;rw[if_neg hn0]at hf;have hg:jc (dm (st.om oc)).kind (dm (st.om oc)).side (dm (st.om oc)).af (st.om (st.B.h s 0)).af=false:=by
     split at hf
     ·simp at hf
     ·rename_i h;simpa using h
    have hb:=zB hg hk5;have hsd:(dm (st.om oc)).side=(t:Int):=soc.2.2.2.1.trans hside;rw[hsd]at hb;have wC:∀k,k<st.B.n s->(st.om (st.B.h s k)).side=(s:Int):=fun k hk=>(run.inv.mem k hk).1
    have hmin:=CE (lV st.om (s:Int)) Y1 wC k hk;have hless:=(iF _ _).1 hmin;rw[wC k hk]at hless;have hp0:(st.om y).af=(om y).af:=(vV y).2.2.2.2.2.1;rw[c4];rw[<-e]at hless;rw[hp0]at hless;show if (t:Int)=0 then (st.om oc).af<(om y).af else (om y).af<(st.om oc).af
    have hap:(dm (st.om oc)).af=(st.om oc).af:=rfl;rw[hap]at hb;by_cases e0:(t:Int)=0
    ·rw[if_pos e0]at hb ⊢;have es:¬(s:Int)=0:=by omega
     rw[if_neg es]at hless;omega
    ·rw[if_neg e0]at hb ⊢;have es:(s:Int)=0:=by omega
     rw[if_pos es]at hless;omega
   refine⟨f4.trans gb.lL,fun y hy x=>?_,fun y hy=>?_,fun y hy=>?_,fun x y hx hy=>?_⟩
   ·rcases tC y hy with e | e
    ·rw[e,nS,hS];constructor
     ·intro hx;obtain⟨⟨a,b⟩,d⟩:=Jy x hx;have h0:=(gb.mem s hs x).1 (NP x hx);exact⟨a,by rw[tX x b];exact (vV x).2.2.1.trans h0.2.1,by rw[tX x b];exact (vV x).2.2.2.1.trans h0.2.2.1,by rw[tX x b];exact d⟩
     ·rintro⟨a,b,c,d⟩;have hne:x≠oc:=fun e=>by rw[e,c3]at c;exact hts c
      rw[tX x hne]at b c d;exact inS x a hne b c d
    ·rw[e,mT x];constructor
     ·rintro (hx | hx)
      ·obtain⟨⟨a,b⟩,e⟩:=memT x hx;have h0:=(gb.mem t t2 x).1 hx;rw[e];exact⟨a,h0.2⟩
      ·rw[hx];exact⟨hL,c2,c3,by rw[oo];exact hop⟩
     ·rintro⟨a,b,c,d⟩;by_cases hne:x=oc
      ·exact .inr hne
      ·rw[tX x hne]at b c d;exact .inl (inT x a hne b c d)
   ·rcases tC y hy with e | e
    ·rw[e,nS,hS];exact ltS
    ·rw[e,nT,hT];refine GN (lV (aH oc st) (t:Int)) _ _ c3 (fun k hk=>?_) ltT;rw[(memT _ ⟨k,hk,rfl⟩).2];exact gb.side t2 hk
   ·rcases tC y hy with e | e
    ·rw[e,nS,hS];exact run.inv.inj
    ·rw[e,nT,hT];refine ry.up ?_ (by omega);intro a b ha hb e2;simp only at e2;have hno:∀k,k<B.n t->B.h t k≠oc:=fun k hk=>((memT _ ⟨k,hk,rfl⟩).1).2
     by_cases ea:a=B.n t <;> by_cases eb:b=B.n t
     ·omega
     ·rw[if_pos ea,if_neg eb]at e2;exact absurd e2.symm (hno b (by omega))
     ·rw[if_neg ea,if_pos eb]at e2;exact absurd e2 (hno a (by omega))
     ·rw[if_neg ea,if_neg eb]at e2;exact gb.inj t t2 a b (by omega) (by omega) e2
   ·have h01:(s=0/\t=1)\/(s=1/\t=0):=by omega
    rcases h01 with⟨rfl,rfl⟩ | ⟨rfl,rfl⟩
    ·rw[nS,hS]at hx;rw[mT y]at hy;rcases hy with hy | hy
     ·rw[Cf x hx,(memT y hy).2];exact gb.iE x y (NP x hx) hy
     ·have:=bad x hx;rw[if_neg (by decide)]at this;rw[hy,Cf x hx];exact this
    ·rw[mT x]at hx;rw[nS,hS]at hy;rcases hx with hx | hx
     ·rw[Cf y hy,(memT x hx).2];exact gb.iE x y hx (NP y hy)
     ·have:=bad y hy;rw[if_pos (by decide)]at this;rw[hx,Cf y hy];exact this
 ·by_cases e:x=oc
  ·rw[e];exact c1
  ·rw[tX x e];exact q1 x hx
open Go.RowKit Go.Maps
attribute [local go_sem ↓] Go.wp_at_zero Go.wp_at_succ
def Lg.dI(G:Lg)(b:Nat)(o:Ord):Lg:=G.begun.aX [.left b,.gp b o]
theorem O6(tmps:Array Value)(H:Nat)(w:World)(a b c d e E:Int)(ht:tmps.getD 8 undef=PP H)(hu:tmps.getD 9 undef=II E)(hb:aA w H #[II a,II b,II c,II d,II e] 87) :
 (results Tryz.f38 tmps).run Tryz.prog w=.ok (.tuple #[.agg #[II a,II b,II c,II d,II e],II E]) w:=by
 obtain⟨c0,c1,c2,c3,c4⟩:=hb.c5;simp only[Array.getD_eq_getD_getElem?]at ht hu;simp[results,Tryz.results38,go_sem,ht,hu,c0,c1,c2,c3,c4]
theorem Cm(bv bm bo b:Nat)(V:aS)(id af aK:Int)(w:World)(R:dS w bv bm bo V)(hid:(Lit.int .i64 id).wf=true)(hn:V.aW id=some b)(h0:(V.om b).aO=0) :
 CT 38 #[PP bv,II id,II af,II aK] w fun e w'=>e=.returned (.tuple #[.agg #[II 0,II 0,II 0,II 0,II 0],II 10])/\aj aJ w w':=by
 have k1:aj aJ w (w.alloc (.cells #[II 0,II 0,II 0,II 0,II 0] 87)):=(aj.refl aJ w).alloc _;have L2:=(R.aB k1).xO hid;rw[hn]at L2;simp only[ji]at L2;obtain⟨-,ix,ho⟩:=R.bz id b hn;have o8:w.cell? ⟨b,8,none⟩=some (II 0):=by rw[<-h0];exact ho.cell 8
 have v1:CC w bv 1 (.map (some bo)):=R.dC.cell 1;have lv:=R.dC.lt;have lo:=ho.lt;clear R hn ho h0;go_enter Tryz.func38,Tryz.ntmps38;go_wp2;refine bodyPost_ret (O6 _ w.heap.size _ 0 0 0 0 0 10 rfl rfl ?_) rfl ⟨rfl,?_⟩
 ·exact aA.new w _ _
 ·exact (aj.refl aJ w).alloc _
def dV(o:Ord)(af aK:Int):Ord:={ o with af:=af,entered:=wrap64 (o.entered+wrap64 (aK-o.aO)),aO:=aK }
theorem PK(b:Nat)(o:Ord)(ix af aK:Int)(w:World)(ho:df w b o ix) :
 CT 69 #[PP b,II af,II aK] w fun e w'=>e=.returned (.func (.func 151) #[] #[PP (w.heap.size+1),PP w.heap.size])/\yG w' w.heap.size b o/\df w' b (dV o af aK) ix/\aj (fun x=>x=b) w w':=by
 have HA:=au (oC b o ix w ho);have lo:=ho.lt;go_enter Tryz.func69,Tryz.ntmps69;go_wp2_with fail;refine (ae HA).mono ?_;rintro e w1 ⟨rfl,n1,k1⟩;have ho1:=k1.aF ho aU;have h7:CC w1 b 7 (II o.entered):=aA.cell ho1 7;have h8:CC w1 b 8 (II o.aO):=aA.cell ho1 8;have h5:CC w1 b 5 (II o.af):=aA.cell ho1 5;have f7:=aA.frozen ho1 7;have f8:=aA.frozen ho1 8;have f5:=aA.frozen ho1 5;go_wp2;go_region;go_wp2;go_ret;have k2:=((((aj.refl (fun x=>x=b) w1).setCell (p:=⟨b,7,none⟩) (.inl rfl) (II (wrap64 (o.entered+wrap64 (aK-o.aO))))).setCell (p:=⟨b,8,none⟩) (.inl rfl) (II aK)).setCell (p:=⟨b,5,none⟩) (.inl rfl) (II af)).drew;refine⟨rfl,n1.aC k2 (by omega) (by omega),?_,k1.bI.trans k2⟩;have:=((ho1.set 7 (II (wrap64 (o.entered+wrap64 (aK-o.aO))))).set 8 (II aK)).set 5 (II af);exact this
theorem Iy(bb b:Nat)(B:Bk)(om:Nat->Ord)(L:Nat->Prop)(af aK:Int)(w:World)(m:Mk w bb B om L)(hb:L b) :
 CT 69 #[PP b,II af,II aK] w fun e w'=>∃fn cp,e=.returned (.func fn #[] cp)/\jS w' b (om b) w.heap.size fn cp/\Mk w' bb B (aQ om b (dV (om b) af aK)) L/\aj (fun x=>x=b) w w':=by
 obtain⟨ix,ho⟩:=m.bz b hb;refine (PK b (om b) ix af aK w ho).mono ?_;rintro e w' ⟨rfl,h0,h1,h2⟩;exact⟨_,_,rfl,⟨rfl,_,Nat.le_refl _,rfl,h0⟩,m.aQ ho h2 h1,h2⟩
open Go.RowKit
def BK : List (String × DataW Unit) := [("math/bits.deBruijn32tab", Rows.laid_math_bits_deBruijn32tab), ("math/bits.deBruijn64tab", Rows.laid_math_bits_deBruijn64tab), ("internal/strconv.uint64pow10", Rows.laid_internal_strconv_uint64pow10), ("unicode/utf8.acceptRanges", Rows.laid_unicode_utf8_acceptRanges), ("strconv.ErrRange", Rows.laid_strconv_ErrRange), ("strconv.ErrSyntax", Rows.laid_strconv_ErrSyntax), ("unicode/utf8.first", Rows.laid_unicode_utf8_first)]
theorem QR:(Tryz.prog.globals[lh]?).map (·.type)=some 287:=by kernel_rfl
theorem Hq{W:World}(h:laidMetH Tryz.prog BK W):kP W:=by
 have h1 : laidMetH Tryz.prog [("internal/strconv.uint64pow10", Lib.tabData .u64 Lib.pow10Tab)] W := h.filter (fun x => x.1 == "internal/strconv.uint64pow10")
 rw[MakeChecks.laidMetH_plain _ _ _ (by kernel_rfl)]at h1;exact Lib.tabIs_of_head NZ QR Tryz.underlying287 Tryz.underlying253 (by kernel_rfl) (by kernel_rfl) h1
theorem Qr(os:Os)(args:Array Value):laidMetH Tryz.prog BK ((World.laidAll Tryz.prog os BK).forCall (fun _ _=>0) ⟨#[],args,[]⟩).memory:=by
 rw[MakeChecks.laidMetH_plain _ _ _ (by kernel_rfl)];exact laidMet_laidAll _ (by kernel_rfl) (by kernel_rfl)
theorem Gl(os:Os)(args:Array Value):((World.laidAll Tryz.prog os BK).forCall (fun _ _=>0) ⟨#[],args,[]⟩).Shaped Tryz.prog :=
 World.shaped_of_ZipB (by kernel_rfl) (by kernel_rfl)
theorem Uy{W:World}(h:W.ShapedOpen Tryz.prog):∃m,W.cell? ⟨0,0,none⟩=some (II m) :=
 cell_of_shapedOpen_int (zero:=#[II 0]) (t:=3) h (of_decide_eq_true (by kernel_rfl)) (by kernel_rfl) rfl (by kernel_rfl) (by kernel_rfl) Tryz.underlying3
end Go.Proofs.YtigaphnafnpfnaaGreatDoor
