import Derived.Test.YtigaphnafnpfnaaGreatDoorQVE12
set_option linter.unusedVariables false
set_option linter.unusedSimpArgs false
set_option maxHeartbeats 8000000
set_option maxRecDepth 100000
namespace Go.Proofs.YtigaphnafnpfnaaGreatDoor
open Go.RowKit Go.Maps
attribute [local go_sem ↓] Go.wp_at_zero Go.wp_at_succ
theorem dN.JM{w:World}{bv bm bo:Nat}{V:aQ}(R:dN w bv bm bo V){i:Nat}(hi:i<V.nb)(hlen:(V.B i).sym.size<=maxLen)(q:Nat) :
 (Instr.lookup 94 (.map (some bm)) (.string (V.B i).sym) false).run Tryz.prog (w.drewN q)=.ok (.pointer (some ⟨V.bk i,0,none⟩)) (w.drewN q) :=
 (R.aH ((au.refl aP w).drewN q)).zM hi hlen
theorem Tz(bv bm bo i s:Nat)(V:aQ)(w:World)(R:dN w bv bm bo V)(hi:i<V.nb)(hs:s<2)(hlen:(V.B i).sym.size<=maxLen)(hside:∀j,j<(V.B i).n s->(V.om ((V.B i).h s j)).side=(s:Int)) :
 Calls Tryz.prog 25 #[.pointer (some ⟨bv,0,none⟩),.string (V.B i).sym,.int .i64 s] w fun e w'=>∃v,e=.returned (.tuple #[v,.int .i64 0])/\yT V.om ((V.B i).n s) ((V.B i).h s) w v w':=by
 have L1:=R.zM hi hlen
 have v0:w.cell? ⟨bv,0,none⟩=some (.map (some bm)):=R.dA.cell 0
 have hsb:lQ (s:Int)=true:=by
  have:s=0\/s=1:=by omega
  rcases this with rfl|rfl <;> rfl
 have HL:=ai (JB (V.bk i) s (V.B i) V.om w (R.aW i hi) hs hside)
 clear R hside
 go_enter Tryz.func25,Tryz.ntmps25
 go_wp2_with (first|(go_at_call 47;refine (eP _ _).mono ?_;rintro e w' ⟨rfl,rfl⟩)|(go_at_call 48;refine (ae HL).mono ?_;rintro e w2 ⟨v,rfl,hp⟩))
 go_ret2
 exact⟨v,rfl,hp⟩
theorem dX.kJ{lt lt':Nat->Nat->Bool}{n:Nat}{h:Nat->Nat}(ok:dX lt n h)(he:∀j k,j<n->k<n->lt' (h j) (h k)=lt (h j) (h k)):dX lt' n h:=by
 intro k h0 hk
 rw[he k (par k) hk (by unfold par;omega)]
 exact ok k h0 hk
theorem rD{om dG:Nat->Ord}{x y:Nat}(hx:(dG x).side=(om x).side/\(dG x).af=(om x).af/\(dG x).place=(om x).place)(hy:(dG y).af=(om y).af/\(dG y).place=(om y).place):fG dG x y=fG om x y:=by
 unfold fG kU jQ
 rw[hx.1,hx.2.1,hx.2.2,hy.1,hy.2]
structure GB(B:Bk)(om:Nat->Ord)(sym:ByteArray)(L:Nat->Prop):Prop where
 kE:B.sym=sym
 mem:∀s,s<2->∀x,Mem (B.n s) (B.h s) x↔(L x/\(om x).sym=sym/\(om x).side=(s:Int)/\0<(om x).aK)
 heap:∀s,s<2->dX (fG om) (B.n s) (B.h s)
 inj:∀s,s<2->qf (B.n s) (B.h s)
 gK:∀x y,Mem (B.n 0) (B.h 0) x->Mem (B.n 1) (B.h 1) y->(om x).af<(om y).af
theorem GB.side{B:Bk}{om:Nat->Ord}{sym:ByteArray}{L:Nat->Prop}(h:GB B om sym L){s k:Nat}(hs:s<2)(hk:k<B.n s):(om (B.h s k)).side=(s:Int):=((h.mem s hs _).1 ⟨k,hk,rfl⟩).2.2.1
theorem GB.kJ{B:Bk}{om dG:Nat->Ord}{sym:ByteArray}{L L':Nat->Prop}(h:GB B om sym L)(hL:∀x,(L' x/\(dG x).sym=sym/\0<(dG x).aK)↔(L x/\(om x).sym=sym/\0<(om x).aK))(he:∀x,L x->(om x).sym=sym->0<(om x).aK->(dG x).side=(om x).side/\(dG x).af=(om x).af/\(dG x).place=(om x).place):GB B dG sym L':=by
 have hm:∀s,s<2->∀x,Mem (B.n s) (B.h s) x->(dG x).side=(om x).side/\(dG x).af=(om x).af/\(dG x).place=(om x).place:=fun s hs x hx=>by
  obtain⟨a,b,_,d⟩:=(h.mem s hs x).1 hx
  exact he x a b d
 refine⟨h.kE,fun s hs x=>?_,fun s hs=>(h.heap s hs).kJ (fun j k hj hk=>?_),h.inj,fun x y hx hy=>?_⟩
 ·rw[h.mem s hs x]
  constructor
  ·rintro⟨a,b,c,d⟩
   obtain⟨a',b',d'⟩:=(hL x).2 ⟨a,b,d⟩
   exact⟨a',b',by rw[(he x a b d).1];exact c,d'⟩
  ·rintro⟨a,b,c,d⟩
   obtain⟨a',b',d'⟩:=(hL x).1 ⟨a,b,d⟩
   exact⟨a',b',by rw[<-(he x a' b' d').1];exact c,d'⟩
 ·exact rD (hm s hs _ ⟨j,hj,rfl⟩) (hm s hs _ ⟨k,hk,rfl⟩).2
 ·rw[(hm 0 (by omega) x hx).2.1,(hm 1 (by omega) y hy).2.1]
  exact h.gK x y hx hy
theorem xX{kind side af p:Int}(h:iJ kind side af p=false)(hk:kind≠5):if side=0 then af<p else p<af:=by
 unfold iJ at h
 rw[if_neg hk]at h
 split at h
 ·rename_i e;rw[if_pos e];simpa using h
 ·rename_i e;rw[if_neg e];simpa using h
theorem Me{B:Bk}{om:Nat->Ord}{lg:Lg}{sym:ByteArray}{L:Nat->Prop}{M:Int}{oc s t g cap':Nat}(hM:M<=1000000000000000)(hs:s<2)(ht:t=1-s)
 (hL:L oc) (dM:(om oc).sym=sym) (hside:(om oc).side=(t:Int)) (hq:∀x,L x->Qo M (om x)) (gb:GB B om sym (fun x=>L x/\x≠oc)) :
 qN oc s ⟨B,om,lg⟩/\GB (dV oc t g cap' (mF oc s ⟨B,om,lg⟩)) (aF oc (mF oc s ⟨B,om,lg⟩)) sym L/\(∀x,L x->Qo M (aF oc (mF oc s ⟨B,om,lg⟩) x)) /\
  LW oc s M ⟨B,om,lg⟩ (mF oc s ⟨B,om,lg⟩)/\(∀x,x≠oc->oz (om x) (aF oc (mF oc s ⟨B,om,lg⟩) x))/\(∀x,x≠oc->((om x).sym≠sym\/¬0<(om x).aK\/¬L x)->aF oc (mF oc s ⟨B,om,lg⟩) x=om x):=by
 have t2:t<2:=by omega
 have hts:(t:Int)≠(s:Int):=by omega
 have iv:qN oc s ⟨B,om,lg⟩:=by
  refine⟨fun k hk=>?_,gb.inj s hs,(hq oc hL).o0,?_,by show (om oc).side=_;rw[hside];omega⟩
  ·obtain⟨⟨a,a'⟩,b,c,d⟩:=(gb.mem s hs _).1 ⟨k,hk,rfl⟩
   have q:=hq _ a
   exact⟨c,d,by have:=q.sum;have:=q.f0;have:=q.c0;have:=q.e0;have:=q.hi;show (om (B.h s k)).aK<=_;omega,a'⟩
  ·have q:=hq oc hL
   have:=q.sum;have:=q.f0;have:=q.c0;have:=q.e0;have:=q.hi
   show (om oc).aK<=_;omega
 have VB:∀x,Mem (B.n s) (B.h s) x->L x/\x≠oc:=fun x hx=>((gb.mem s hs x).1 hx).1
 have run:LW oc s M ⟨B,om,lg⟩ (mF oc s ⟨B,om,lg⟩):=JQ hM _ _ iv (gb.heap s hs) (fun x hx=>by
  rcases hx with rfl|hx
  ·exact hq _ hL
  ·exact hq x (VB x hx).1)
 have stp:stops oc s (mF oc s ⟨B,om,lg⟩)=true:=En _ _ iv (Nat.le_refl _)
 obtain⟨f1,f2,f3,f4,f5⟩:=jd oc s (mu oc s ⟨B,om,lg⟩) ⟨B,om,lg⟩
 change ∀t,t≠s->(mF oc s ⟨B,om,lg⟩).B.n t=B.n t/\(mF oc s ⟨B,om,lg⟩).B.h t=B.h t at f1
 change (mF oc s ⟨B,om,lg⟩).B.sym=B.sym at f4
 have fst:=f1 t (by omega)
 generalize hst:mF oc s ⟨B,om,lg⟩=st at *
 have rq:=run.q;have JZ:=run.mem;have VR:=run.gone;have VS:=run.heap;have NL:=run.kQ;have uu:=run.dH
 simp only at rq JZ VR NL uu
 have VP:Qo M (st.om oc):=rq oc (.inl rfl)
 have soc:=uu oc
 have q1:∀x,L x->Qo M (st.om x):=fun x hx=>by
  by_cases e:x=oc
  ·rw[e];exact VP
  ·by_cases hm:Mem (B.n s) (B.h s) x
   ·exact rq x (.inr hm)
   ·rw[NL x e hm];exact hq x hx
 have qY:∀x,x≠oc->aF oc st x=st.om x:=fun x h=>qh oc st h
 have coc:Qo M (aF oc st oc)/\(aF oc st oc).sym=sym/\(aF oc st oc).side=(t:Int)/\(aF oc st oc).af=(st.om oc).af/\(dm (st.om oc)=true->(aF oc st oc).aK=(st.om oc).aK)/\(dm (st.om oc)=false->(aF oc st oc).aK=0):=by
  unfold aF
  cases hw:dm (st.om oc)
  ·simp only[Bool.false_eq_true,if_false,aj]
   exact⟨(VP.bQ hM).1,soc.2.2.1.trans dM,soc.2.2.2.1.trans hside,by first|rfl|trivial,fun h=>by simp at h,fun _=>by first|rfl|trivial⟩
  ·simp only[if_true,aj]
   exact⟨⟨VP.sum,VP.o0,VP.f0,VP.c0,VP.e0,VP.hi⟩,soc.2.2.1.trans dM,soc.2.2.2.1.trans hside,by first|rfl|trivial,fun _=>by first|rfl|trivial,fun h=>by simp at h⟩
 obtain⟨c1,c2,c3,c4,c5,c6⟩:=coc
 have memT:∀x,Mem (B.n t) (B.h t) x->(L x/\x≠oc)/\aF oc st x=om x:=fun x hx=>by
  obtain⟨a,b,c,d⟩:=(gb.mem t t2 x).1 hx
  refine⟨a,?_⟩
  rw[qY x a.2]
  exact NL x a.2 (fun hm=>hts ((((gb.mem t t2 x).1 hx).2.2.1).symm.trans ((gb.mem s hs x).1 hm).2.2.1))
 have Gu:∀x,Mem (st.B.n s) (st.B.h s) x->(L x/\x≠oc)/\0<(st.om x).aK:=fun x hx=>by
  refine⟨VB x (JZ x hx),?_⟩
  obtain⟨k,hk,e⟩:=hx
  rw[e];exact (run.inv.mem k hk).2.1
 have inS:∀x,L x->x≠oc->(st.om x).sym=sym->(st.om x).side=(s:Int)->0<(st.om x).aK->Mem (st.B.n s) (st.B.h s) x:=fun x h1 h2 h3 h4 h5=>by
  by_cases hm:Mem (B.n s) (B.h s) x
  ·by_cases hm1:Mem (st.B.n s) (st.B.h s) x
   ·exact hm1
   ·have:=VR x hm hm1;omega
  ·rw[NL x h2 hm]at h3 h4 h5
   exact absurd ((gb.mem s hs x).2 ⟨⟨h1,h2⟩,h3,h4,h5⟩) hm
 have inT:∀x,L x->x≠oc->(st.om x).sym=sym->(st.om x).side=(t:Int)->0<(st.om x).aK->Mem (B.n t) (B.h t) x:=fun x h1 h2 h3 h4 h5=>by
  have hm:¬Mem (B.n s) (B.h s) x:=fun hm=>hts (((uu x).2.2.2.1.symm.trans h4).symm.trans ((gb.mem s hs x).1 hm).2.2.1)
  rw[NL x h2 hm]at h3 h4 h5
  exact (gb.mem t t2 x).2 ⟨⟨h1,h2⟩,h3,h4,h5⟩
 have ltS:dX (fG (aF oc st)) (st.B.n s) (st.B.h s):=VS.kJ (fun j k hj hk=>by
  have h1:=(Gu _ ⟨j,hj,rfl⟩).1.2
  have h2:=(Gu _ ⟨k,hk,rfl⟩).1.2
  exact rD (by rw[qY _ h1];exact⟨rfl,rfl,rfl⟩) (by rw[qY _ h2];exact⟨rfl,rfl⟩))
 have ltT:dX (fG (aF oc st)) (B.n t) (B.h t):=(gb.heap t t2).kJ (fun j k hj hk=>by
  have h1:=(memT _ ⟨j,hj,rfl⟩).2
  have h2:=(memT _ ⟨k,hk,rfl⟩).2
  exact rD (by rw[h1];exact⟨rfl,rfl,rfl⟩) (by rw[h2];exact⟨rfl,rfl⟩))
 have Ae:∀x,Mem (st.B.n s) (st.B.h s) x->(aF oc st x).af=(om x).af:=fun x hx=>by
  rw[qY x (Gu x hx).1.2];exact (uu x).2.2.2.2.2.1
 have aaB:∀x,x≠oc->oz (om x) (aF oc st x):=fun x hx=>by rw[qY x hx];exact uu x
 have keep':∀x,x≠oc->((om x).sym≠sym\/¬0<(om x).aK\/¬L x)->aF oc st x=om x:=fun x hx h=>by
  rw[qY x hx]
  refine NL x hx (fun hm=>?_)
  obtain⟨⟨a,_⟩,b,_,d⟩:=(gb.mem s hs x).1 hm
  rcases h with h|h|h
  ·exact h b
  ·exact h d
  ·exact h a
 have uw:∀x,x<2->x=s\/x=t:=by omega
 refine⟨iv,?_,fun x hx=>?_,run,aaB,keep'⟩
 ·cases hw:dm (st.om oc)
  ·have hB:dV oc t g cap' st=st.B:=by unfold dV;rw[hw];rfl
   rw[hB]
   have o0:=c6 hw
   refine⟨f4.trans gb.kE,fun y hy x=>?_,fun y hy=>?_,fun y hy=>?_,fun x y hx hy=>?_⟩
   ·rcases uw y hy with rfl|rfl
    ·constructor
     ·intro hx
      obtain⟨⟨a,b⟩,d⟩:=Gu x hx
      have h0:=(gb.mem y hs x).1 (JZ x hx)
      exact⟨a,by rw[qY x b];exact (uu x).2.2.1.trans h0.2.1,by rw[qY x b];exact (uu x).2.2.2.1.trans h0.2.2.1,by rw[qY x b];exact d⟩
     ·rintro⟨a,b,c,d⟩
      have hne:x≠oc:=fun e=>by rw[e,o0]at d;omega
      rw[qY x hne]at b c d
      exact inS x a hne b c d
    ·rw[fst.1,fst.2]
     constructor
     ·intro hx
      obtain⟨⟨a,b⟩,e⟩:=memT x hx
      have h0:=(gb.mem y t2 x).1 hx
      rw[e]
      exact⟨a,h0.2⟩
     ·rintro⟨a,b,c,d⟩
      have hne:x≠oc:=fun e=>by rw[e,o0]at d;omega
      rw[qY x hne]at b c d
      exact inT x a hne b c d
   ·rcases uw y hy with rfl|rfl
    ·exact ltS
    ·rw[fst.1,fst.2];exact ltT
   ·rcases uw y hy with rfl|rfl
    ·exact run.inv.inj
    ·rw[fst.1,fst.2];exact gb.inj y t2
   ·have key:∀z,(z=0\/z=1)->∀x,Mem (st.B.n z) (st.B.h z) x->Mem (B.n z) (B.h z) x/\(aF oc st x).af=(om x).af:=fun z hz x hx=>by
     rcases uw z (by omega) with e|e
     ·rw[e]at hx ⊢;exact⟨JZ x hx,Ae x hx⟩
     ·rw[e,fst.1,fst.2]at hx
      rw[e];exact⟨hx,by rw[(memT x hx).2]⟩
    obtain⟨a1,a2⟩:=key 0 (.inl rfl) x hx
    obtain⟨b1,b2⟩:=key 1 (.inr rfl) y hy
    rw[a2,b2];exact gb.gK x y a1 b1
  ·have hB:dV oc t g cap' st=st.B.rest (aF oc st) t oc g cap':=by unfold dV;rw[hw];rfl
   rw[hB]
   have hop:0<(st.om oc).aK:=by simp[dm]at hw;exact hw.1
   have hk5:(st.om oc).kind≠5:=by
    simp only[dm,eU,Bool.and_eq_true,Bool.or_eq_true,beq_iff_eq]at hw
    omega
   have oo:=c5 hw
   have nS:(st.B.rest (aF oc st) t oc g cap').n s=st.B.n s:=by simp only[Bk.rest];rw[ah _ _ (by omega)]
   have hS:(st.B.rest (aF oc st) t oc g cap').h s=st.B.h s:=by simp only[Bk.rest];rw[ah _ _ (by omega)]
   have nT:(st.B.rest (aF oc st) t oc g cap').n t=B.n t+1:=by simp only[Bk.rest,aj,fst.1]
   have hT:(st.B.rest (aF oc st) t oc g cap').h t=tV (fG (aF oc st)) (fun k=>if k=B.n t then oc else B.h t k) (B.n t):=by simp only[Bk.rest,aj,fst.1,fst.2]
   have mT:∀x,Mem ((st.B.rest (aF oc st) t oc g cap').n t) ((st.B.rest (aF oc st) t oc g cap').h t) x↔Mem (B.n t) (B.h t) x\/x=oc:=fun x=>by rw[nT,hT];exact iP _ _ _
   have bad:∀y,Mem (st.B.n s) (st.B.h s) y->if (t:Int)=0 then (aF oc st oc).af<(om y).af else (om y).af<(aF oc st oc).af:=by
    intro y hy
    have hf:dF st.B st.om (cZ (st.om oc)) s=none:=by
     simp only[stops,Bool.or_eq_true,Bool.not_eq_true',decide_eq_false_iff_not]at stp
     rcases stp with h|h
     ·exact absurd hop h
     ·simpa using h
    obtain⟨k,hk,e⟩:=hy
    have hn0:st.B.n s≠0:=by omega
    unfold dF at hf
    rw[if_neg hn0]at hf
    have hg:iJ (cZ (st.om oc)).kind (cZ (st.om oc)).side (cZ (st.om oc)).af (st.om (st.B.h s 0)).af=false:=by
     split at hf
     ·simp at hf
     ·rename_i h;simpa using h
    have hb:=xX hg hk5
    have hsd:(cZ (st.om oc)).side=(t:Int):=soc.2.2.2.1.trans hside
    rw[hsd]at hb
    have uI:∀k,k<st.B.n s->(st.om (st.B.h s k)).side=(s:Int):=fun k hk=>(run.inv.mem k hk).1
    have hmin:=Aj (kL st.om (s:Int)) VS uI k hk
    have hless:=(gQ _ _).1 hmin
    rw[uI k hk]at hless
    have hp0:(st.om y).af=(om y).af:=(uu y).2.2.2.2.2.1
    rw[c4]
    rw[<-e]at hless
    rw[hp0]at hless
    show if (t:Int)=0 then (st.om oc).af<(om y).af else (om y).af<(st.om oc).af
    have hap:(cZ (st.om oc)).af=(st.om oc).af:=rfl
    rw[hap]at hb
    by_cases e0:(t:Int)=0
    ·rw[if_pos e0]at hb ⊢
     have es:¬(s:Int)=0:=by omega
     rw[if_neg es]at hless
     omega
    ·rw[if_neg e0]at hb ⊢
     have es:(s:Int)=0:=by omega
     rw[if_pos es]at hless
     omega
   refine⟨f4.trans gb.kE,fun y hy x=>?_,fun y hy=>?_,fun y hy=>?_,fun x y hx hy=>?_⟩
   ·rcases uw y hy with e|e
    ·rw[e,nS,hS]
     constructor
     ·intro hx
      obtain⟨⟨a,b⟩,d⟩:=Gu x hx
      have h0:=(gb.mem s hs x).1 (JZ x hx)
      exact⟨a,by rw[qY x b];exact (uu x).2.2.1.trans h0.2.1,by rw[qY x b];exact (uu x).2.2.2.1.trans h0.2.2.1,by rw[qY x b];exact d⟩
     ·rintro⟨a,b,c,d⟩
      have hne:x≠oc:=fun e=>by rw[e,c3]at c;exact hts c
      rw[qY x hne]at b c d
      exact inS x a hne b c d
    ·rw[e,mT x]
     constructor
     ·rintro (hx|hx)
      ·obtain⟨⟨a,b⟩,e⟩:=memT x hx
       have h0:=(gb.mem t t2 x).1 hx
       rw[e]
       exact⟨a,h0.2⟩
      ·rw[hx];exact⟨hL,c2,c3,by rw[oo];exact hop⟩
     ·rintro⟨a,b,c,d⟩
      by_cases hne:x=oc
      ·exact .inr hne
      ·rw[qY x hne]at b c d
       exact .inl (inT x a hne b c d)
   ·rcases uw y hy with e|e
    ·rw[e,nS,hS];exact ltS
    ·rw[e,nT,hT]
     refine EG (kL (aF oc st) (t:Int)) _ _ c3 (fun k hk=>?_) ltT
     rw[(memT _ ⟨k,hk,rfl⟩).2];exact gb.side t2 hk
   ·rcases uw y hy with e|e
    ·rw[e,nS,hS];exact run.inv.inj
    ·rw[e,nT,hT]
     refine qf.up ?_ (by omega)
     intro a b ha hb e2
     simp only at e2
     have hno:∀k,k<B.n t->B.h t k≠oc:=fun k hk=>((memT _ ⟨k,hk,rfl⟩).1).2
     by_cases ea:a=B.n t <;> by_cases eb:b=B.n t
     ·omega
     ·rw[if_pos ea,if_neg eb]at e2;exact absurd e2.symm (hno b (by omega))
     ·rw[if_neg ea,if_pos eb]at e2;exact absurd e2 (hno a (by omega))
     ·rw[if_neg ea,if_neg eb]at e2;exact gb.inj t t2 a b (by omega) (by omega) e2
   ·have h01:(s=0/\t=1)\/(s=1/\t=0):=by omega
    rcases h01 with⟨rfl,rfl⟩|⟨rfl,rfl⟩
    ·rw[nS,hS]at hx
     rw[mT y]at hy
     rcases hy with hy|hy
     ·rw[Ae x hx,(memT y hy).2];exact gb.gK x y (JZ x hx) hy
     ·have:=bad x hx
      rw[if_neg (by decide)]at this
      rw[hy,Ae x hx];exact this
    ·rw[mT x]at hx
     rw[nS,hS]at hy
     rcases hx with hx|hx
     ·rw[Ae y hy,(memT x hx).2];exact gb.gK x y hx (JZ y hy)
     ·have:=bad y hy
      rw[if_pos (by decide)]at this
      rw[hx,Ae y hy];exact this
 ·by_cases e:x=oc
  ·rw[e];exact c1
  ·rw[qY x e];exact q1 x hx
def lG(o:Ord):Ord:={ o with place:=0 }
theorem fE{a b:Ord}(h:lG a=lG b):a.id=b.id/\a.aA=b.aA/\a.sym=b.sym/\a.side=b.side/\a.kind=b.kind/\a.af=b.af/\a.aI=b.aI/\a.entered=b.entered/\a.aK=b.aK/\a.filled=b.filled/\a.bQ=b.bQ/\a.exp=b.exp:=by
 obtain⟨a1,a2,a3,a4,a5,a6,a7,a8,a9,a10,a11,a12,a13⟩:=a
 obtain⟨b1,b2,b3,b4,b5,b6,b7,b8,b9,b10,b11,b12,b13⟩:=b
 simp only[lG,Ord.mk.injEq]at h
 obtain⟨h1,h2,h3,h4,h5,h6,h7,h8,h9,h10,h11,h12,_⟩:=h
 exact⟨h1,h2,h3,h4,h5,h6,h7,h8,h9,h10,h11,h12⟩
theorem Lc{a b:Ord}(h:lG a=lG b):cZ a=cZ b:=by
 obtain⟨h1,h2,h3,h4,h5,h6,h7,_⟩:=fE h
 simp only[cZ,h1,h2,h3,h4,h5,h6,h7]
theorem JA{a b c:Ord}(h1:a.side=b.side)(h2:b.side=c.side)(hab:kU a b=false)(hcb:kU c b=true):kU a c=false:=by
 rw[gQ]at hab ⊢
 rw[pG]at hcb
 rw[h1,h2]at hab ⊢
 split at hab <;> split at hcb <;> (try split) <;> omega
theorem jV(l:List Ord)(o:iL):∀n,jY l o n=none↔∀k,k<n->ku o (ax l k)=false
 | 0=>by simp[jY]
 | n+1=>by
   have ih:=jV l o n
   unfold jY
   by_cases hg:ku o (ax l n)=true
   ·rw[if_pos hg]
    constructor
    ·intro h
     split at h
     ·simp at h
     ·split at h <;> simp at h
    ·intro h
     have:=h n (by omega)
     rw[hg]at this
     exact absurd this (by decide)
   ·rw[if_neg hg,ih]
    constructor
    ·intro h k hk
     by_cases e:k=n
     ·subst e;simpa using hg
     ·exact h k (by omega)
    ·intro h k hk;exact h k (by omega)
theorem rX(l:List Ord)(o:iL)(s:Int)(hs:∀k,ku o (ax l k)=true->(ax l k).side=s):∀n b,jY l o n=some b->∀k,k<n->ku o (ax l k)=true->kU (ax l k) (ax l b)=false
 | 0,b,h,k,hk,_=>by omega
 | n+1,b,h,k,hk,hgk=>by
   unfold jY at h
   by_cases hg:ku o (ax l n)=true
   ·rw[if_pos hg]at h
    cases hb:jY l o n with
    | none =>
      rw[hb]at h
      simp at h
      subst h
      have:=(jV l o n).1 hb
      by_cases e:k=n
      ·subst e
       rw[gQ]
       split <;> omega
      ·have:=this k (by omega)
       rw[hgk]at this
       exact absurd this (by decide)
    | some b' =>
      rw[hb]at h
      simp only at h
      have hgb:=ni l o n b' hb
      by_cases hl:kU (ax l n) (ax l b')=true
      ·rw[if_pos hl]at h
       simp at h
       subst h
       by_cases e:k=n
       ·subst e
        rw[gQ]
        split <;> omega
       ·exact JA (by rw[hs k hgk,hs b' hgb]) (by rw[hs b' hgb,hs n hg]) (rX l o s hs n b' hb k (by omega) hgk) hl
      ·rw[if_neg hl]at h
       simp at h
       subst h
       by_cases e:k=n
       ·subst e;simpa using hl
       ·exact rX l o s hs n b' hb k (by omega) hgk
   ·rw[if_neg hg]at h
    by_cases e:k=n
    ·subst e;exact absurd hgk hg
    ·exact rX l o s hs n b h k (by omega) hgk
structure ve(p:Nat->Nat)(oc i s:Nat)(B:Bk)(om:Nat->Ord)(l:List Ord)(sym:ByteArray):Prop where
 il:i<l.length
 pi:p i=oc
 inj:∀a b,a<l.length->b<l.length->p a=p b->a=b
 same:∀k,k<l.length->k≠i->lG (om (p k))=lG (ax l k)
 self:lG { om oc with aK:=0 }=lG (ax l i)
 place:∀a b,a<l.length->b<l.length->a≠i->b≠i->(ax l a).sym=(ax l b).sym->0<(ax l a).aK->0<(ax l b).aK->((om (p a)).place<(om (p b)).place↔(ax l a).place<(ax l b).place)
 vw:∀a b,a<l.length->b<l.length->a≠i->b≠i->a≠b->(ax l a).sym=(ax l b).sym->0<(ax l a).aK->0<(ax l b).aK->(ax l a).place≠(ax l b).place
 mem:∀x,Mem (B.n s) (B.h s) x↔∃k,k<l.length/\k≠i/\p k=x/\(ax l k).sym=sym/\(ax l k).side=(s:Int)/\0<(ax l k).aK
 UC:(ax l i).sym=sym
 Lh:(ax l i).side=1-(s:Int)
 side:∀k,k<l.length->(ax l k).side=0\/(ax l k).side=1
 aK:∀k,k<l.length->0<=(ax l k).aK
section
variable {p : Nat -> Nat} {oc i s : Nat} {B : Bk} {om : Nat -> Ord} {l : List Ord} {sym : ByteArray}
theorem ve.ask(h:ve p oc i s B om l sym):cZ (om oc)=cZ (ax l i):=by
 have:=Lc h.self
 rw[<-this]
 rfl
theorem QI{l:List Ord}{k:Nat}(h:¬k<l.length):(ax l k).aK=0:=by
 unfold ax
 rw[List.getD_eq_getElem?_getD,List.getElem?_eq_none (by omega)]
 rfl
theorem ve.Jo(h:ve p oc i s B om l sym)(hs:s<2)(k:Nat):ku (cZ (ax l i)) (ax l k)=true↔(k<l.length/\k≠i/\(ax l k).sym=sym/\(ax l k).side=(s:Int)/\0<(ax l k).aK/\iJ (ax l i).kind (ax l i).side (ax l i).af (ax l k).af=true):=by
 unfold ku
 simp only[Bool.and_eq_true,Bool.not_eq_true',beq_eq_false_iff_ne,ne_eq,decide_eq_true_eq]
 simp only[cZ]
 rw[h.UC]
 constructor
 ·rintro⟨⟨⟨h1,h2⟩,h3⟩,h4⟩
  have hk:k<l.length:=by
   by_cases hk:k<l.length
   ·exact hk
   ·exact absurd (QI hk) h1
  have:=h.aK k hk
  have:=h.side k hk
  have:=h.Lh
  exact⟨hk,fun e=>by subst e;exact h3 rfl,h2,by omega,by omega,h4⟩
 ·rintro⟨h1,h2,h3,h4,h5,h6⟩
  have:=h.Lh
  exact⟨⟨⟨by omega,h3⟩,by rw[h4,this];omega⟩,h6⟩
theorem ve.abH(h:ve p oc i s B om l sym){a b:Nat}(ha:a<l.length)(hb:b<l.length)(hai:a≠i)(hbi:b≠i)(hsy:(ax l a).sym=(ax l b).sym)(h1:0<(ax l a).aK)(h2:0<(ax l b).aK):kU (om (p a)) (om (p b))=kU (ax l a) (ax l b):=by
 obtain⟨_,_,_,s1,_,p1,_⟩:=fE (h.same a ha hai)
 obtain⟨_,_,_,s2,_,p2,_⟩:=fE (h.same b hb hbi)
 have pl:=h.place a b ha hb hai hbi hsy h1 h2
 rw[Bool.eq_iff_iff,pG,pG,s1,p1,p2]
 exact or_congr Iff.rfl (and_congr Iff.rfl pl)
theorem ve.BI(h:ve p oc i s B om l sym)(hs:s<2)(hh:dX (fG om) (B.n s) (B.h s)):(gz l (cZ (ax l i))).map p=dF B om (cZ (om oc)) s:=by
 have hsd:∀k,ku (cZ (ax l i)) (ax l k)=true->(ax l k).side=(s:Int):=fun k hk=>((h.Jo hs k).1 hk).2.2.2.1
 have aai:∀k,ku (cZ (ax l i)) (ax l k)=true->Mem (B.n s) (B.h s) (p k):=fun k hk=>by
  obtain⟨a,b,c,d,e,_⟩:=(h.Jo hs k).1 hk
  exact (h.mem _).2 ⟨k,a,b,rfl,c,d,e⟩
 have uI:∀k,k<B.n s->(om (B.h s k)).side=(s:Int):=fun k hk=>by
  obtain⟨j,j1,j2,j3,_,j5,_⟩:=(h.mem _).1 ⟨k,hk,rfl⟩
  rw[<-j3,(fE (h.same j j1 j2)).2.2.2.1]
  exact j5
 have hmin:=Aj (kL om (s:Int)) hh uI
 by_cases hn:B.n s=0
 ·have:gz l (cZ (ax l i))=none:=by
   unfold gz
   rw[jV]
   intro k hk
   cases hg:ku (cZ (ax l i)) (ax l k)
   ·rfl
   ·obtain⟨j,hj,_⟩:=aai k hg
    omega
  rw[this]
  unfold dF
  rw[if_pos hn]
  rfl
 ·obtain⟨r,r1,r2,r3,r4,r5,r6⟩:=(h.mem _).1 ⟨0,by omega,rfl⟩
  have hpr:(om (B.h s 0)).af=(ax l r).af:=by rw[<-r3];exact (fE (h.same r r1 r2)).2.2.2.2.2.1
  have hmr:∀k,ku (cZ (ax l i)) (ax l k)=true->kU (ax l k) (ax l r)=false:=fun k hk=>by
   obtain⟨a,b,c,d,e,_⟩:=(h.Jo hs k).1 hk
   rw[<-h.abH a r1 b r2 (by rw[c,r4]) e r6]
   obtain⟨j,hj,e2⟩:=aai k hk
   have:=hmin j hj
   rw[<-e2,<-r3]at this
   exact this
  have hask:=h.ask
  unfold dF
  rw[if_neg hn,hask,hpr]
  by_cases hg:iJ (ax l i).kind (ax l i).side (ax l i).af (ax l r).af=true
  ·rw[if_pos (show iJ (cZ (ax l i)).kind (cZ (ax l i)).side (cZ (ax l i)).af (ax l r).af=true from hg)]
   have hgr:ku (cZ (ax l i)) (ax l r)=true:=(h.Jo hs r).2 ⟨r1,r2,r4,r5,r6,hg⟩
   cases hb:gz l (cZ (ax l i)) with
   | none =>
     have:=(jV l _ _).1 hb r r1
     rw[hgr]at this
     exact absurd this (by decide)
   | some b =>
     have hgb:=ni l _ _ b hb
     have m1:=rX l _ (s:Int) hsd _ b hb r r1 hgr
     have m2:=hmr b hgb
     obtain⟨b1,b2,b3,b4,b5,_⟩:=(h.Jo hs b).1 hgb
     have e:b=r:=by
      by_cases e:b=r
      ·exact e
      ·have:=h.vw b r b1 r1 b2 r2 e (by rw[b3,r4]) b5 r6
       rw[gQ]at m1 m2
       rw[r5]at m1
       rw[b4]at m2
       split at m1 <;> split at m2 <;> omega
     subst e
     simp[r3]
  ·rw[if_neg (show ¬iJ (cZ (ax l i)).kind (cZ (ax l i)).side (cZ (ax l i)).af (ax l r).af=true from hg)]
   have:gz l (cZ (ax l i))=none:=by
    unfold gz
    rw[jV]
    intro k hk
    cases hgk:ku (cZ (ax l i)) (ax l k)
    ·rfl
    ·exfalso
     apply hg
     obtain⟨a,b,c,d,e,f⟩:=(h.Jo hs k).1 hgk
     have m2:=hmr k hgk
     rw[gQ]at m2
     have os:=h.Lh
     unfold iJ at f ⊢
     rw[d]at m2
     split at f
     ·rename_i h5;rw[if_pos h5]
     ·rename_i h5
      rw[if_neg h5]
      split at f
      ·rename_i h6
       rw[if_pos h6]
       simp only[decide_eq_true_eq]at f ⊢
       rw[if_neg (by omega)]at m2
       omega
      ·rename_i h6
       rw[if_neg h6]
       simp only[decide_eq_true_eq]at f ⊢
       rw[if_pos (by omega)]at m2
       omega
   rw[this]
   rfl
end
def Lg.dE(G:Lg)(b:Nat)(o:Ord):Lg:=G.begun.aV [.left b,.fA b o]
theorem Ls(tmps:Array Value)(H:Nat)(w:World)(a b c d e E:Int)(ht:tmps.getD 8 undef=.pointer (some ⟨H,0,none⟩))(hu:tmps.getD 9 undef=.int .i64 E)(hb:az w H #[.int .i64 a,.int .i64 b,.int .i64 c,.int .i64 d,.int .i64 e] 87) :
 (results Tryz.f38 tmps).run Tryz.prog w=.ok (.tuple #[.agg #[.int .i64 a,.int .i64 b,.int .i64 c,.int .i64 d,.int .i64 e],.int .i64 E]) w:=by
 have c0:w.cell? ⟨H,0,none⟩=some (.int .i64 a):=hb.cell 0
 have c1:w.cell? ⟨H,1,none⟩=some (.int .i64 b):=hb.cell 1
 have c2:w.cell? ⟨H,2,none⟩=some (.int .i64 c):=hb.cell 2
 have c3:w.cell? ⟨H,3,none⟩=some (.int .i64 d):=hb.cell 3
 have c4:w.cell? ⟨H,4,none⟩=some (.int .i64 e):=hb.cell 4
 simp only[Array.getD_eq_getD_getElem?]at ht hu
 simp[results,Tryz.results38,go_sem,ht,hu,c0,c1,c2,c3,c4]
theorem Ah(bv bm bo b:Nat)(V:aQ)(id af aI:Int)(w:World)(R:dN w bv bm bo V)(hid:(Lit.int .i64 id).wf=true)(hn:V.aU id=some b)(h0:(V.om b).aK=0) :
 Calls Tryz.prog 38 #[.pointer (some ⟨bv,0,none⟩),.int .i64 id,.int .i64 af,.int .i64 aI] w fun e w'=>e=.returned (.tuple #[.agg #[.int .i64 0,.int .i64 0,.int .i64 0,.int .i64 0,.int .i64 0],.int .i64 10])/\au aP w w':=by
 have k1:au aP w (w.alloc (.cells #[.int .i64 0,.int .i64 0,.int .i64 0,.int .i64 0,.int .i64 0] 87)):=(au.refl aP w).alloc _
 have L2:=(R.aH k1).vN hid
 rw[hn]at L2
 simp only[iR]at L2
 obtain⟨-,ix,ho⟩:=R.bg id b hn
 have o8:w.cell? ⟨b,8,none⟩=some (.int .i64 0):=by rw[<-h0];exact ho.cell 8
 have v1:w.cell? ⟨bv,1,none⟩=some (.map (some bo)):=R.dA.cell 1
 have lv:=R.dA.lt
 have lo:=ho.lt
 clear R hn ho h0
 go_enter Tryz.func38,Tryz.ntmps38
 go_wp2
 refine bodyPost_ret (Ls _ w.heap.size _ 0 0 0 0 0 10 rfl rfl ?_) rfl ⟨rfl,?_⟩
 ·exact az.new w _ _
 ·exact (au.refl aP w).alloc _
def dP(o:Ord)(af aI:Int):Ord:={ o with af:=af,entered:=wrap64 (o.entered+wrap64 (aI-o.aK)),aK:=aI }
theorem LY(b:Nat)(o:Ord)(ix af aI:Int)(w:World)(ho:df w b o ix) :
 Calls Tryz.prog 69 #[.pointer (some ⟨b,0,none⟩),.int .i64 af,.int .i64 aI] w fun e w'=>e=.returned (.func (.func 151) #[] #[.pointer (some ⟨w.heap.size+1,0,none⟩),.pointer (some ⟨w.heap.size,0,none⟩)])/\wQ w' w.heap.size b o/\df w' b (dP o af aI) ix/\au (fun x=>x=b) w w':=by
 have HA:=ai (mQ b o ix w ho)
 have lo:=ho.lt
 go_enter Tryz.func69,Tryz.ntmps69
 go_wp2_with fail
 refine (ae HA).mono ?_
 rintro e w1 ⟨rfl,n1,k1⟩
 have ho1:=k1.aB ho (fun x=>x)
 have h7:w1.cell? ⟨b,7,none⟩=some (.int .i64 o.entered):=az.cell ho1 7
 have h8:w1.cell? ⟨b,8,none⟩=some (.int .i64 o.aK):=az.cell ho1 8
 have h5:w1.cell? ⟨b,5,none⟩=some (.int .i64 o.af):=az.cell ho1 5
 have f7:=az.frozen ho1 7
 have f8:=az.frozen ho1 8
 have f5:=az.frozen ho1 5
 go_wp2
 go_region
 go_wp2
 go_ret
 have k2:=((((au.refl (fun x=>x=b) w1).setCell (p:=⟨b,7,none⟩) (.inl rfl) (.int .i64 (wrap64 (o.entered+wrap64 (aI-o.aK))))).setCell (p:=⟨b,8,none⟩) (.inl rfl) (.int .i64 aI)).setCell (p:=⟨b,5,none⟩) (.inl rfl) (.int .i64 af)).drew
 refine⟨rfl,n1.aC k2 (by omega) (by omega),?_,k1.bI.trans k2⟩
 have:=((ho1.set 7 (.int .i64 (wrap64 (o.entered+wrap64 (aI-o.aK))))).set 8 (.int .i64 aI)).set 5 (.int .i64 af)
 exact this
theorem Fp(bb b:Nat)(B:Bk)(om:Nat->Ord)(L:Nat->Prop)(af aI:Int)(w:World)(m:Mk w bb B om L)(hb:L b) :
 Calls Tryz.prog 69 #[.pointer (some ⟨b,0,none⟩),.int .i64 af,.int .i64 aI] w fun e w'=>∃fn cp,e=.returned (.func fn #[] cp)/\jr w' b (om b) w.heap.size fn cp/\Mk w' bb B (aN om b (dP (om b) af aI)) L/\au (fun x=>x=b) w w':=by
 obtain⟨ix,ho⟩:=m.bg b hb
 refine (LY b (om b) ix af aI w ho).mono ?_
 rintro e w' ⟨rfl,h0,h1,h2⟩
 exact⟨_,_,rfl,⟨rfl,_,Nat.le_refl _,rfl,h0⟩,m.aN ho h2 h1,h2⟩
open Go.RowKit
def xN(s:Int)(last:Option Int)(p:Int):Bool:=match last with
 | none=>true
 | some q=>if s=0 then decide (p<q) else decide (q<p)
def OZ(s:Int)(b:jM)(p:Int):Bool:=if b.num=0 then true else if s=0 then decide (b.af<p) else decide (p<b.af)
def vO(b:jM)(o:Ord):jM:=⟨b.af,wrap64 (b.aI+o.aK),wrap64 (b.num+1)⟩
def OX(sym:ByteArray)(s:Int)(last:Option Int)(b:jM)(o:Ord):jM :=
 if o.sym≠sym\/o.side≠s\/o.aK=0 then b else if xN s last o.af=false then b
 else if OZ s b o.af=true then vO ⟨o.af,0,0⟩ o else if o.af=b.af then vO b o else b
def bkX(l:List Ord)(sym:ByteArray)(s:Int)(last:Option Int):Nat->jM
 | 0=>⟨0,0,0⟩
 | i+1=>OX sym s last (bkX l sym s last i) (ax l i)
def nX(out:List jM):Option Int:=out.getLast?.map jM.af
def oI(l:List Ord)(sym:ByteArray)(s:Int)(out:List jM):jM:=bkX l sym s (nX out) l.length
inductive mY (l:List Ord) (sym:ByteArray) (s:Int):Nat->List jM->List jM->Prop
 | stop (f:Nat) (out:List jM) (h:(oI l sym s out).num=0):mY l sym s f out out
 | go (f:Nat) (out out':List jM) (h:(oI l sym s out).num≠0) (e:mY l sym s f (out++[oI l sym s out]) out'):mY l sym s (f+1) out out'
theorem mY.inv{l:List Ord}{sym:ByteArray}{s:Int}{q:Nat}{out out':List jM}(h:mY l sym s q out out'):(out'=out/\(oI l sym s out).num=0)\/∃f,q=f+1/\(oI l sym s out).num≠0/\mY l sym s f (out++[oI l sym s out]) out':=by
 cases h with
 | stop _ _ hs=>exact .inl ⟨rfl,hs⟩
 | go f _ _ h e=>exact .inr ⟨f,rfl,h,e⟩
def ET(o:Ord)(n:Int):Ord:={ o with filled:=wrap64 (o.filled-n) }
def RS.rQ(S:RS)(i:Nat)(n:Int):RS:=S.gX i (ET (ax S.l i) n)
def RS.mi(S:RS)(i:Nat)(n:Int)(again:Bool):Bool:=again && (eU (ax S.l i).kind && (gz (S.rQ i n).l (cZ (ax S.l i))).isNone)
def RS.fQ(S:RS)(i:Nat)(n:Int)(again:Bool):RS :=
 if S.mi i n again=true then (S.rQ i n).pV i n else S.gX i { ET (ax S.l i) n with bQ:=wrap64 ((ax S.l i).bQ+n) }
end Go.Proofs.YtigaphnafnpfnaaGreatDoor
