import Derived.Test.YtigaphnafnpfnaaGreatDoorQNL2
import Derived.Test.YtigaphnafnpfnaaGreatDoorQVJ3
import Derived.Laws.ResultCell
import Derived.Lib.BufferWrite
import Derived.Lib.UnsafeStr
import Derived.Deep.OwnRows
set_option linter.unusedVariables false
set_option linter.unusedSimpArgs false
set_option maxHeartbeats 8000000
set_option maxRecDepth 100000
namespace Go.Proofs.YtigaphnafnpfnaaGreatDoor
open Go.RowKit Go.Maps
attribute [local go_sem ↓] Go.wp_at_zero Go.wp_at_succ
theorem UE{oc s:Nat}{st:MS}:(∀x,((bF oc s st).om x).id=(st.om x).id/\((bF oc s st).om x).side=(st.om x).side/\((bF oc s st).om x).sym=(st.om x).sym/\((bF oc s st).om x).af=(st.om x).af/\((bF oc s st).om x).place=(st.om x).place/\((bF oc s st).om x).aG=(st.om x).aG/\((bF oc s st).om x).kind=(st.om x).kind/\((bF oc s st).om x).aK=(st.om x).aK)/\(∀x,x≠oc->x≠st.B.h s 0->(bF oc s st).om x=st.om x):=by
 unfold bF;split
 ·refine⟨fun x=>?_,fun x _ h=>ah _ _ h⟩;simp only;by_cases e:x=st.B.h s 0
  ·rw[e,ai];exact⟨rfl,rfl,rfl,rfl,rfl,rfl,rfl,rfl⟩
  ·rw[ah _ _ e];exact⟨rfl,rfl,rfl,rfl,rfl,rfl,rfl,rfl⟩
 ·refine⟨fun x=>?_,fun x h1 h2=>?_⟩
  ·simp only[aV];by_cases e:x=st.B.h s 0
   ·rw[e,ai];exact⟨rfl,rfl,rfl,rfl,rfl,rfl,rfl,rfl⟩
   ·rw[ah _ _ e];by_cases e2:x=oc
    ·rw[e2,ai];exact⟨rfl,rfl,rfl,rfl,rfl,rfl,rfl,rfl⟩
    ·rw[ah _ _ e2];exact⟨rfl,rfl,rfl,rfl,rfl,rfl,rfl,rfl⟩
  ·simp only[aV];rw[ah _ _ h2,ah _ _ h1]
theorem ny{oc s:Nat}{st:MS}(h:¬stops oc s st=true):0<st.B.n s/\0<(st.om oc).aO:=by
 simp only[stops,Bool.or_eq_true,Bool.not_eq_true',decide_eq_false_iff_not,not_or,Decidable.not_not]at h;obtain⟨h1,h2⟩:=h;cases hf:dJ st.B st.om (dm (st.om oc)) s
 ·rw[hf]at h2;simp at h2
 ·exact⟨(uf hf).1,h1⟩
theorem yQ{oc s:Nat}:∀(f:Nat) (st:MS),sV oc s st ->
 (∀x,((aZ oc s f st).om x).id=(st.om x).id/\((aZ oc s f st).om x).side=(st.om x).side/\((aZ oc s f st).om x).sym=(st.om x).sym/\((aZ oc s f st).om x).af=(st.om x).af/\((aZ oc s f st).om x).place=(st.om x).place/\((aZ oc s f st).om x).aG=(st.om x).aG/\((aZ oc s f st).om x).kind=(st.om x).kind/\((aZ oc s f st).om x).aK=(st.om x).aK) /\
 (∀x,x≠oc->¬dG st.B s x->(aZ oc s f st).om x=st.om x)/\(∀b,dG (aZ oc s f st).B s b->dG st.B s b)/\sV oc s (aZ oc s f st):=by
 intro f
 induction f with
 | zero=>exact fun st iv=>⟨fun _=>⟨rfl,rfl,rfl,rfl,rfl,rfl,rfl,rfl⟩,fun _ _ _=>rfl,fun _ h=>h,iv⟩
 | succ f ih =>
   intro st iv;rw[aZ];split
   ·exact⟨fun _=>⟨rfl,rfl,rfl,rfl,rfl,rfl,rfl,rfl⟩,fun _ _ _=>rfl,fun _ h=>h,iv⟩
   ·rename_i hst;obtain⟨hn,hp⟩:=ny hst;obtain⟨OJ,_,sub⟩:=oV iv hn hp;obtain⟨a1,a2,a3,a4⟩:=ih (bF oc s st) OJ;obtain⟨b1,b2⟩:=UE (oc:=oc) (s:=s) (st:=st);refine⟨fun x=>?_,fun x h1 h2=>?_,fun b hb=>sub b (a3 b hb),a4⟩
    ·obtain⟨c1,c2,c3,c4,c5,c6,c7,c8⟩:=a1 x;obtain⟨d1,d2,d3,d4,d5,d6,d7,d8⟩:=b1 x;exact⟨c1.trans d1,c2.trans d2,c3.trans d3,c4.trans d4,c5.trans d5,c6.trans d6,c7.trans d7,c8.trans d8⟩
    ·rw[a2 x h1 (fun h=>h2 (sub x h)),b2 x h1 (fun e=>h2 (.inr ⟨0,hn,e⟩))]
def Lg.bf(G:Lg)(id:Int):Lg:=G.begun.aX [.entered id]
def aS.enter(V:aS)(i b s t g cap':Nat)(o:iT)(bM:Lm):aS :=
 { V with B:=aQ V.B i (eu b t g cap' (mF b s ⟨V.B i,aQ V.om b (aN o),V.lg.bf o.id⟩)),om:=aH b (mF b s ⟨V.B i,aQ V.om b (aN o),V.lg.bf o.id⟩),aW:=fun id=>if id=o.id then some b else V.aW id,no:=V.no+1,lg:=iC b (mF b s ⟨V.B i,aQ V.om b (aN o),V.lg.bf o.id⟩),lm:=bM }
theorem yL(oc:Nat)(st:MS)(x:Nat):(aH oc st x).id=(st.om x).id:=by
 unfold aH;split
 ·by_cases e:x=oc
  ·rw[e,ai]
  ·rw[ah _ _ e]
 ·by_cases e:x=oc
  ·rw[e,ai];rfl
  ·rw[ah _ _ e]
theorem rD(oc:Nat)(st:MS){x:Nat}(h:x≠oc):aH oc st x=st.om x:=by
 unfold aH;split <;> rw[ah _ _ h]
theorem Ba{oc t g cap':Nat}{st:MS}{x b:Nat}(h:dG (eu oc t g cap' st) x b):dG st.B x b\/b=oc\/b=g:=by
 unfold eu at h;split at h
 ·by_cases e:x=t
  ·subst e;rcases h with h | ⟨k,hk,h⟩
   ·simp only[Bk.rest,ai,ig,Option.some.injEq]at h;exact .inr (.inr h.symm)
   ·simp only[Bk.rest,ai]at hk h;rcases (jh (lt:=fP (aH oc st)) (st.B.h x) oc _).1 ⟨k,hk,rfl⟩ with h' | h'
    ·obtain⟨k',hk',e'⟩:=h';exact .inl (.inr ⟨k',hk',by rw[h,e']⟩)
    ·exact .inr (.inl (by rw[h,h']))
  ·left;unfold dG at h ⊢;simp only[Bk.rest,ah _ _ e]at h;exact h
 ·exact .inl h
theorem oD{oc t g cap':Nat}{st:MS}:(eu oc t g cap' st).sym=st.B.sym:=by
 unfold eu;split <;> rfl
theorem dS.enter{w w5 w':World}{bv bm bo:Nat}{V:aS}(R:dS w bv bm bo V){i b s t g cap':Nat}{o:iT}{L:Nat->Prop}(hi:i<V.nb)(hs:s<2)(ht:t=1-s)(hno:V.no<200)(hfree:V.aW o.id=none)
 (hb:w.heap.size<=b) (hbo:df w5 b (aN o) 0) {vw:Lm} (hv5:bG w5 bv bm bo (V.lg.bf o.id) vw) (Qd:∀x,vw.F x->V.lm.F x\/w.heap.size<=x) (k5:aj (fun x=>x=bo\/x=bv\/V.lm.F x) w w5) (m5:∃fO,kG w5 3 bo fO (V.no+1)/\(∀id,fO (.int .i64 id)=if id=o.id then some b else V.aW id)) (iv:sV b s ⟨V.B i,aQ V.om b (aN o),V.lg.bf o.id⟩) (hL:L=fun x=>x=b\/∃id,V.aW id=some x)
 (m:Mk w' (V.bk i) (eu b t g cap' (mF b s ⟨V.B i,aQ V.om b (aN o),V.lg.bf o.id⟩)) (aH b (mF b s ⟨V.B i,aQ V.om b (aN o),V.lg.bf o.id⟩)) L) {bM:Lm} (hv:bG w' bv bm bo (iC b (mF b s ⟨V.B i,aQ V.om b (aN o),V.lg.bf o.id⟩)) bM)
 (k:aj (fun x=>x=bv\/vw.F x\/x=V.bk i\/x=b\/dG (V.B i) s x\/dG (V.B i) t x) w5 w') (hg:ig ((V.B i).sl t)=some g\/w5.heap.size<=g):dS w' bv bm bo (V.enter i b s t g cap' o bM):=by
 obtain⟨a1,a2,a3,a4⟩:=yQ (mu b s ⟨V.B i,aQ V.om b (aN o),V.lg.bf o.id⟩) ⟨V.B i,aQ V.om b (aN o),V.lg.bf o.id⟩ iv;obtain⟨f1,f2,f3,f4,f5⟩:=jy b s (mu b s ⟨V.B i,aQ V.om b (aN o),V.lg.bf o.id⟩) ⟨V.B i,aQ V.om b (aN o),V.lg.bf o.id⟩;change ∀x,((mF b s ⟨V.B i,aQ V.om b (aN o),V.lg.bf o.id⟩).om x).id=_/\_ at a1;change ∀x,x≠b->¬dG (V.B i) s x->(mF b s ⟨V.B i,aQ V.om b (aN o),V.lg.bf o.id⟩).om x=aQ V.om b (aN o) x at a2;change ∀x,dG (mF b s ⟨V.B i,aQ V.om b (aN o),V.lg.bf o.id⟩).B s x->dG (V.B i) s x at a3;change ∀t,t≠s->(mF b s ⟨V.B i,aQ V.om b (aN o),V.lg.bf o.id⟩).B.n t=(V.B i).n t/\(mF b s ⟨V.B i,aQ V.om b (aN o),V.lg.bf o.id⟩).B.h t=(V.B i).h t at f1;change (mF b s ⟨V.B i,aQ V.om b (aN o),V.lg.bf o.id⟩).B.sl=(V.B i).sl at f2;change (mF b s ⟨V.B i,aQ V.om b (aN o),V.lg.bf o.id⟩).B.sym=(V.B i).sym at f4;simp only at a1;unfold aS.enter;generalize mF b s ⟨V.B i,aQ V.om b (aN o),V.lg.bf o.id⟩=st1 at *;have t2:t<2:=by omega
 have tC:∀x,x<2->x=s\/x=t:=by omega
 have JZ:∀j,j<V.nb->∀x,x<2->∀y,dG (V.B j) x y->y<w.heap.size:=fun j hj x hx y h=>by
  rcases h with h | ⟨l,hl,rfl⟩
  ·exact ((R.aY j hj).side x hx).lt h
  ·exact (((R.aY j hj).side x hx).bz hl).lt
 have acg:∀x,x<2->∀y,dG st1.B x y->dG (V.B i) x y:=fun x hx y h=>by
  rcases tC x hx with rfl | rfl
  ·exact a3 y h
  ·by_cases e:x=s
   ·rw[e]at h ⊢;exact a3 y h
   ·unfold dG at h ⊢;rw[f2,(f1 x e).1,(f1 x e).2]at h;exact h
 have Cb:∀x,x≠b->¬dG (V.B i) s x->aH b st1 x=V.om x:=fun x h1 h2=>by rw[rD _ _ h1,a2 x h1 h2,ah _ _ h1]
 have acN:∀j,j<V.nb->j≠i->cO w' (V.bk j) (V.B j) (aH b st1):=fun j hj hne=>by
  have hbk:=R.aY j hj;have h5:cO w5 (V.bk j) (V.B j) V.om:=hbk.aC k5 (by
   obtain⟨fO,mO,_⟩:=R.fH;have key:∀{x c t},aA w x c t->(t=158\/t=114\/t=116)->¬(x=bo\/x=bv\/V.lm.F x):=by
    rintro x c t hx ht (e | e | e)
    ·exact mO.ne hx e.symm
    ·exact aA.ne hx R.dC (by rcases ht with rfl | rfl | rfl <;> decide) e
    ·exact R.aP.aP.ne hx (by rcases ht with rfl | rfl | rfl <;> decide) (by rcases ht with rfl | rfl | rfl <;> decide) (by rcases ht with rfl | rfl | rfl <;> decide) (by rcases ht with rfl | rfl | rfl <;> decide) (by rcases ht with rfl | rfl | rfl <;> decide) e
   rintro x (rfl | ⟨y,hy,h⟩)
   ·exact key hbk.aF (.inl rfl)
   ·rcases h with h | ⟨l,hl,rfl⟩
    ·rcases (hbk.side y hy) with⟨h0,_⟩ | ⟨ab,hab,hsd⟩
     ·rw[h0]at h;simp[ig]at h
     ·obtain⟨cs,hcs,_⟩:=hsd.sJ;rw[hab]at h;simp[ig]at h;rw[h]at hcs;exact key hcs (.inr (.inl rfl))
    ·exact key ((hbk.side y hy).bz hl) (.inr (.inr rfl)))
  have nS:∀x,(x=V.bk j\/∃y,y<2/\dG (V.B j) y x)->¬(x=bv\/vw.F x\/x=V.bk i\/x=b\/dG (V.B i) s x\/dG (V.B i) t x):=by
   have hbi:=(R.aY i hi).aF;rintro x (rfl | ⟨y,hy,h⟩) (e | e | e | e | e | e)
   ·exact aA.ne hbk.aF R.dC (by decide) e
   ·rcases Qd _ e with e | e
    ·exact R.aP.aP.ne hbk.aF (by decide) (by decide) (by decide) (by decide) (by decide) e
    ·have:=hbk.aF.lt;omega
   ·exact R.sS j i hj hi hne e
   ·have:=hbk.aF.lt;omega
   ·rcases e with e | ⟨l,hl,e⟩
    ·exact ((R.aY i hi).side s hs).ne hbk.aF (by decide) e
    ·exact aA.ne hbk.aF (((R.aY i hi).side s hs).bz hl) (by decide) e
   ·rcases e with e | ⟨l,hl,e⟩
    ·exact ((R.aY i hi).side t t2).ne hbk.aF (by decide) e
    ·exact aA.ne hbk.aF (((R.aY i hi).side t t2).bz hl) (by decide) e
   ·rw[e]at h;rcases h with h | ⟨l,hl,h⟩
    ·exact (hbk.side y hy).ne R.dC (by decide) h
    ·exact aA.ne R.dC ((hbk.side y hy).bz hl) (by decide) h
   ·have hxl:=JZ j hj y hy x h;have e:V.lm.F x:=(Qd x e).elim id (fun h=>by omega);obtain⟨c,t',hc,ht'⟩:=R.aP.aP.gK e;rcases h with h | ⟨l,hl,h⟩
    ·exact (hbk.side y hy).ne hc (by rcases ht' with rfl | rfl | rfl | rfl | rfl | rfl <;> decide) h
    ·subst h;exact aA.ne hc ((hbk.side y hy).bz hl) (by rcases ht' with rfl | rfl | rfl | rfl | rfl | rfl <;> decide) rfl
   ·rw[e]at h;rcases h with h | ⟨l,hl,h⟩
    ·exact (hbk.side y hy).ne hbi (by decide) h
    ·exact aA.ne hbi ((hbk.side y hy).bz hl) (by decide) h
   ·have:=JZ j hj y hy x h;omega
   ·exact R.nM j i hj hi hne y s hy hs x h e
   ·exact R.nM j i hj hi hne y t hy t2 x h e
  have h6:cO w' (V.bk j) (V.B j) V.om:=h5.aC k (fun x h=>nS x (by
   rcases h with h | ⟨y,hy,h⟩
   ·exact .inl h
   ·exact .inr ⟨y,hy,h⟩))
  refine⟨h6.aF,fun y hy=>(h6.side y hy).om (fun l hl=>?_),h6.apart,h6.vZ⟩;have hsd:dG (V.B j) y ((V.B j).h y l):=.inr ⟨l,hl,rfl⟩;refine Cb _ ?_ (R.nM j i hj hi hne y s hy hs _ hsd);have:=JZ j hj y hy _ hsd;omega
 have hgl:∀x,x<w.heap.size->(ig ((V.B i).sl t)=some x\/x≠g):=fun x hx=>by
  rcases hg with h | h
  ·by_cases e:x=g
   ·exact .inl (by rw[e];exact h)
   ·exact .inr e
  ·right;have:=k5.size;omega
 obtain⟨fB,mB,qh,uM⟩:=R.iM;obtain⟨fO5,mO5,acS⟩:=m5;have abw:kG w5 9 bm fB V.nb:=mB.aC k5 (by
  rintro (e | e | e)
  ·exact R.Ia e
  ·exact mB.ne R.dC e
  ·obtain⟨c,t',hc,_⟩:=R.aP.aP.gK e;exact mB.ne hc rfl)
 have notS:∀z,(∀b' c t',aA w5 b' c t'->z≠b')->¬(z=bv\/vw.F z\/z=V.bk i\/z=b\/dG (V.B i) s z\/dG (V.B i) t z):=by
  intro z hz;have bov:∀{b' c t'},aA w b' c t'->b'≠bo->(t'=158\/t'=114\/t'=116)->aA w5 b' c t':=fun h hne ht=>k5.aF h (by
   rintro (e | e | e)
   ·exact hne e
   ·exact aA.ne h R.dC (by rcases ht with rfl | rfl | rfl <;> decide) e
   ·exact R.aP.aP.ne h (by rcases ht with rfl | rfl | rfl <;> decide) (by rcases ht with rfl | rfl | rfl <;> decide) (by rcases ht with rfl | rfl | rfl <;> decide) (by rcases ht with rfl | rfl | rfl <;> decide) (by rcases ht with rfl | rfl | rfl <;> decide) e)
  obtain⟨fO,mO,_⟩:=R.fH;have acf:∀x,x<2->¬dG (V.B i) x z:=by
   rintro x hx (e | ⟨l,hl,e⟩)
   ·rcases ((R.aY i hi).side x hx) with⟨h0,_⟩ | ⟨ab,hab,hsd⟩
    ·rw[h0]at e;simp[ig]at e
    ·obtain⟨cs,hcs,_⟩:=hsd.sJ;rw[hab]at e;simp[ig]at e;exact hz ab _ _ (bov hcs (Ne.symm (mO.ne hcs)) (by simp)) e.symm
   ·have h:=((R.aY i hi).side x hx).bz hl;exact hz _ _ _ (bov h (Ne.symm (mO.ne h)) (by simp)) e
  rintro (e | e | e | e | e | e)
  ·exact hz bv _ _ hv5.dC e
  ·obtain⟨c,t',hc,_⟩:=hv5.aP.gK e;exact hz z _ _ hc rfl
  ·exact hz _ _ _ (bov (R.aY i hi).aF (Ne.symm (mO.ne (R.aY i hi).aF)) (by simp)) e
  ·exact hz b _ _ hbo e
  ·exact acf s hs e
  ·exact acf t t2 e
 refine⟨hv,⟨fB,abw.aC k (notS bm (fun b' c t' h=>abw.ne h)),?_,?_⟩,⟨fO5,mO5.aC k (notS bo (fun b' c t' h=>mO5.ne h)),acS⟩,R.Ia,?_,?_,?_,R.sS,?_,by show V.no+1<=200;omega⟩
 ·intro j hj;by_cases e:j=i
  ·subst e;simp only[ai,oD,f4];exact qh j hj
  ·simp only[ah _ _ e];exact qh j hj
 ·intro s' b' h;obtain⟨j,hj,e1,e2⟩:=uM s' b' h;refine⟨j,hj,e1,?_⟩;by_cases e:j=i
  ·subst e;simp only[ai,oD,f4];exact e2
  ·simp only[ah _ _ e];exact e2
 ·intro j hj;by_cases e:j=i
  ·subst e;simp only[ai];exact m.aY
  ·simp only[ah _ _ e];exact acN j hj e
 ·intro id x hx;simp only at hx ⊢;rw[yL,(a1 x).1];by_cases e:id=o.id
  ·rw[if_pos e]at hx;simp only[Option.some.injEq]at hx;rw[<-hx,ai];exact⟨e.symm,m.bz b (by rw[hL];exact .inl rfl)⟩
  ·rw[if_neg e]at hx;obtain⟨h1,ix,h2⟩:=R.bz id x hx;have:=h2.lt;rw[ah _ _ (by omega)];exact⟨h1,m.bz x (by rw[hL];exact .inr ⟨id,hx⟩)⟩
 ·intro j hj x hx l hl;simp only at hj hl ⊢;by_cases e:j=i
  ·subst e;simp only[ai]at hl ⊢;have:=m.mem x hx l hl;rw[hL]at this;rcases this with h | ⟨id,h⟩
   ·exact⟨o.id,by rw[if_pos rfl,h]⟩
   ·by_cases e:id=o.id
    ·rw[e,hfree]at h;simp at h
    ·exact⟨id,by rw[if_neg e];exact h⟩
  ·simp only[ah _ _ e]at hl ⊢;obtain⟨id,h⟩:=R.mem j hj x hx l hl;by_cases e:id=o.id
   ·rw[e,hfree]at h;simp at h
   ·exact⟨id,by rw[if_neg e];exact h⟩
 ·intro p q hp hq hne x y hx hy z h1 h2;have half:∀p q,p<V.nb->q<V.nb->p≠q->p=i->∀x y,x<2->y<2->∀z,dG (eu b t g cap' st1) x z->dG (V.B q) y z->False:=by
   intro p q hp hq hne e x y hx hy z h1 h2;have hz:=JZ q hq y hy z h2;rcases Ba h1 with h | h | h
   ·exact R.nM i q hi hq (by omega) x y hx hy z (acg x hx z h) h2
   ·omega
   ·rcases hgl z hz with h' | h'
    ·exact R.nM i q hi hq (by omega) t y t2 hy z (.inl h') h2
    ·exact h' h
  by_cases e:p=i
  ·simp only[e,ai]at h1;simp only[ah _ _ (show q≠i by omega)]at h2;exact half p q hp hq hne e x y hx hy z h1 h2
  ·simp only[ah _ _ e]at h1;by_cases e2:q=i
   ·simp only[e2,ai]at h2;exact half q p hq hp (fun h=>hne h.symm) e2 y x hy hx z h2 h1
   ·simp only[ah _ _ e2]at h2;exact R.nM p q hp hq hne x y hx hy z h1 h2
open Go.RowKit
theorem xM(f:Nat->Int)(word:ByteArray):∀k,word.size<=(fJ f word k).size
 | 0=>Nat.le_refl _
 | k+1=>by
   have:=xM f word k;simp only[fJ,ByteArray.size_append];omega
theorem IX(id aG:Int)(sym:ByteArray)(side kind af aK:Int)(hs:sym.size<=100)(h1:iI id)(h2:iI aG)(h3:iI side)(h4:iI kind)(h5:iI af)(h6:iI aK) :
 0<(oN id aG sym side kind af aK).size/\(oN id aG sym side kind af aK).size<=290:=by
 have z1:=jX (tC id aG) qy 2 (fun i hi=>by match i,hi with | 0,_=>exact h1 | 1,_=>exact h2);have z2:=jX (MI side kind af aK) sym 4 (fun i hi=>by match i,hi with | 0,_=>exact h3 | 1,_=>exact h4 | 2,_=>exact h5 | 3,_=>exact h6);have g1:=xM (tC id aG) qy 2;have zE:qy.size=5:=by decide
 rw[zE]at z1 g1;have e:(ByteArray.mk #[32]).size=1:=rfl;simp only[oN,ByteArray.size_append,e];omega
theorem Nl(id aG:Int)(sym:ByteArray)(side kind af aK:Int)(w:World)(hT:kP w)(hs:sym.size<=100)(h1:iI id)(h2:iI aG)(h3:iI side)(h4:iI kind)(h5:iI af)(h6:iI aK) :
 ∀W,aj aJ w W->CT 113 #[.agg #[II id,II aG,.string sym,II side,II kind,II af,II aK]] W fun e w'=>e=.returned (.string (oN id aG sym side kind af aK))/\aj aJ w w':=by
 intro W k;refine (zW id aG sym side kind af aK W (hT.aB k) (by omega) h1 h2 h3 h4 h5 h6).mono ?_;rintro e w' ⟨rfl,k2⟩;exact⟨rfl,k.trans k2⟩
theorem oQ{n:Int}(h:-1000000<=n/\n<=1000000):iI n:=⟨by omega,by omega⟩
def DW(o:iT):Array Value:=#[II o.id,II o.aG,.string o.sym,II o.side,II o.kind,II o.af,II o.aK]
theorem dS.aB{w w':World}{bv bm bo:Nat}{V:aS}(R:dS w bv bm bo V)(k:aj aJ w w'):dS w' bv bm bo V:=by
 obtain⟨fB,mB,h1,h2⟩:=R.iM;obtain⟨fO,mO,h3⟩:=R.fH;exact⟨R.aP.aB k,⟨fB,mB.aC k aU,h1,h2⟩,⟨fO,mO.aC k aU,h3⟩,R.Ia,fun i hi=>(R.aY i hi).aC k (fun _ _ x=>x),fun id b h=>⟨(R.bz id b h).1,(R.bz id b h).2.elim fun ix ho=>⟨ix,k.aF ho aU⟩⟩,R.mem,R.sS,R.nM,R.gV⟩
def dO(bv bm bo:Nat)(V:aS)(x:Nat):Prop:=x=bv\/x=bm\/x=bo\/(∃i,i<V.nb/\(x=V.bk i\/∃s,s<2/\dG (V.B i) s x))\/(∃id,V.aW id=some x)\/V.lm.F x
theorem dS.kU{w:World}{bv bm bo:Nat}{V:aS}(R:dS w bv bm bo V){x:Nat}{c:Array Value}{t:TypeId}(hb:aA w x c t)(h1:t≠100)(h2:t≠158)(h3:t≠114)(h4:t≠116)(h5:t≠103)(h6:t≠62)(h7:t≠105)(h8:t≠109:=by decide)(h9:t≠1/\t≠5:=by decide):¬dO bv bm bo V x:=by
 obtain⟨fB,mB,_⟩:=R.iM;obtain⟨fO,mO,_⟩:=R.fH;rintro (e | e | e | ⟨i,hi,e | ⟨s,hs,e | ⟨k,hk,e⟩⟩⟩ | ⟨id,e⟩ | e)
 ·exact aA.ne hb R.dC h1 e
 ·exact mB.ne hb e.symm
 ·exact mO.ne hb e.symm
 ·exact aA.ne hb (R.aY i hi).aF h2 e
 ·exact ((R.aY i hi).side s hs).ne hb h3 e
 ·exact aA.ne hb (((R.aY i hi).side s hs).bz hk) h4 e
 ·obtain⟨_,ix,ho⟩:=R.bz id x e;exact aA.ne hb ho h4 rfl
 ·exact R.aP.aP.ne hb h5 h6 h7 h8 h9 e
theorem dS.Xf{w:World}{bv bm bo:Nat}{V:aS}(R:dS w bv bm bo V){x:Nat}(h:dO bv bm bo V x):x<w.heap.size:=by
 obtain⟨fB,mB,_⟩:=R.iM;obtain⟨fO,mO,_⟩:=R.fH;rcases h with rfl | rfl | rfl | ⟨i,hi,rfl | ⟨s,hs,e | ⟨k,hk,rfl⟩⟩⟩ | ⟨id,e⟩ | e
 ·exact R.dC.lt
 ·exact mB.lt
 ·exact mO.lt
 ·exact (R.aY i hi).aF.lt
 ·exact ((R.aY i hi).side s hs).lt e
 ·exact (((R.aY i hi).side s hs).bz hk).lt
 ·obtain⟨_,ix,ho⟩:=R.bz id x e;exact ho.lt
 ·exact R.aP.aP.lt e
theorem JX(o o':Ord)(tr tr':Int):∃f r c a n,lG o o' tr tr'=.agg #[II f,II r,II c,II a,II n]:=by
 unfold lG;split <;> exact⟨_,_,_,_,_,rfl⟩
theorem adw(tmps:Array Value)(H:Nat)(w:World)(a b c d e:Int)(ht:tmps.getD 4 undef=PP H)(hu:tmps.getD 5 undef=II 0)(hb:aA w H #[II a,II b,II c,II d,II e] 87) :
 (results Tryz.f64 tmps).run Tryz.prog w=.ok (.tuple #[.agg #[II a,II b,II c,II d,II e],II 0]) w:=by
 obtain⟨c0,c1,c2,c3,c4⟩:=hb.c5;simp only[Array.getD_eq_getD_getElem?]at ht hu;simp[results,Tryz.results64,go_sem,ht,hu,c0,c1,c2,c3,c4]
theorem cO.jF{w w':World}{bb:Nat}{B:Bk}{om:Nat->Ord}(hb:cO w bb B om){S:Nat->Prop}(k:aj S w w')(hS:∀x c t,aA w x c t->(t=158\/t=114\/t=116)->¬S x):cO w' bb B om:=by
 refine hb.aC k ?_;rintro x (rfl | ⟨y,hy,h⟩)
 ·exact hS _ _ _ hb.aF (.inl rfl)
 ·rcases h with h | ⟨l,hl,rfl⟩
  ·rcases (hb.side y hy) with⟨h0,_⟩ | ⟨ab,hab,hsd⟩
   ·rw[h0]at h;simp[ig]at h
   ·obtain⟨cs,hcs,_⟩:=hsd.sJ;rw[hab]at h;simp[ig]at h;rw[h]at hcs;exact hS _ _ _ hcs (.inr (.inl rfl))
  ·exact hS _ _ _ ((hb.side y hy).bz hl) (.inr (.inr rfl))
theorem dS.jM{w w':World}{bv bm bo:Nat}{V:aS}(R:dS w bv bm bo V){G':Lg}{bM:Lm}(hl:bG w' bv bm bo G' bM)(k:aj (fun x=>x=bv\/V.lm.F x) w w'):dS w' bv bm bo { V with lg:=G',lm:=bM }:=by
 obtain⟨fB,mB,g1,g2⟩:=R.iM;obtain⟨fO,mO,g3⟩:=R.fH;have key:∀{x c t},aA w x c t->(t=158\/t=114\/t=116)->¬(x=bv\/V.lm.F x):=by
  rintro x c t hx ht (e | e)
  ·exact aA.ne hx R.dC (by rcases ht with rfl | rfl | rfl <;> decide) e
  ·exact R.aP.aP.ne hx (by rcases ht with rfl | rfl | rfl <;> decide) (by rcases ht with rfl | rfl | rfl <;> decide) (by rcases ht with rfl | rfl | rfl <;> decide) (by rcases ht with rfl | rfl | rfl <;> decide) (by rcases ht with rfl | rfl | rfl <;> decide) e
 have abY:∀z,(∀b c t,aA w b c t->z≠b)->¬(z=bv\/V.lm.F z):=by
  rintro z hz (e | e)
  ·exact hz _ _ _ R.dC e
  ·obtain⟨c,t,hc,_⟩:=R.aP.aP.gK e;exact hz _ _ _ hc rfl
 refine⟨hl,⟨fB,mB.aC k (abY bm (fun b c t hb=>mB.ne hb)),g1,g2⟩,⟨fO,mO.aC k (abY bo (fun b c t hb=>mO.ne hb)),g3⟩,R.Ia,fun j hj=>(R.aY j hj).aC k ?_,fun id x h=>⟨(R.bz id x h).1,(R.bz id x h).2.elim fun ix ho=>⟨ix,k.aF ho (key ho (.inr (.inr rfl)))⟩⟩,R.mem,R.sS,R.nM,R.gV⟩;rintro x (rfl | ⟨y,hy,h⟩)
 ·exact key (R.aY j hj).aF (.inl rfl)
 ·rcases h with h | ⟨l,hl,rfl⟩
  ·rcases ((R.aY j hj).side y hy) with⟨h0,_⟩ | ⟨ab,hab,hsd⟩
   ·rw[h0]at h;simp[ig]at h
   ·obtain⟨cs,hcs,_⟩:=hsd.sJ;rw[hab]at h;simp[ig]at h;rw[h]at hcs;exact key hcs (.inr (.inl rfl))
  ·exact key (((R.aY j hj).side y hy).bz hl) (.inr (.inr rfl))
open Go.RowKit Go.Maps Go.Lib
theorem abR:(Tryz.prog.info? 5).map (fun i=>(i.zero,i.size,i.bytes))=some (some (.int .u8 0),1,1):=by kernel_rfl
theorem ZE:Tryz.prog.cellsOf 5=1:=by kernel_rfl
theorem aA.setRow{w:World}{b:Nat}{c:Array Value}{t:TypeId}(h:aA w b c t)(cs:Array Value):aA (w.setRow b cs) b cs t:=by
 unfold aA at h ⊢;simp[World.setRow,Array.getElem?_modify,h]
theorem aA.shape{w:World}{b:Nat}{c:Array Value}{t:TypeId}(h:aA w b c t):w.shape? b=some (t,c.size):=by
 unfold aA at h;unfold World.shape?;rw[h]
theorem I7(w:World)(a:Addr)(n k:Nat)(h:k≠a.block):(w.freeze a n).heap[k]?=w.heap[k]?:=by
 unfold World.freeze;split
 ·rfl
 ·simp only[Array.getElem?_modify];rw[if_neg (by omega)]
theorem aj.setRow{S:Nat->Prop}{a w:World}(h:aj S a w){b:Nat}(hb:S b\/a.heap.size<=b)(cs:Array Value):aj S a (w.setRow b cs) :=
 ⟨h.os,h.tape,h.output,by have:=h.size;simpa [World.setRow] using this,fun k hk hs=>by
  have hne:k≠b:=by rintro rfl;rcases hb with hb | hb;exact hs hb;omega
  have:(w.setRow b cs).heap[k]?=w.heap[k]?:=by simp only[World.setRow,Array.getElem?_modify];rw[if_neg (by omega)]
  rw[this];exact h.block k hk hs⟩
theorem aj.freeze{S:Nat->Prop}{a w:World}(h:aj S a w){p:Addr}(hp:S p.block\/a.heap.size<=p.block)(n:Nat):aj S a (w.freeze p n):=by
 refine⟨?_,?_,?_,?_,fun k hk hs=>?_⟩
 ·unfold World.freeze;split <;> exact h.os
 ·unfold World.freeze;split <;> exact h.tape
 ·unfold World.freeze;split <;> exact h.output
 ·unfold World.freeze;split
  ·exact h.size
  ·have:=h.size;simpa using this
 ·rw[I7 _ _ _ _ (by rintro rfl;rcases hp with hp | hp;exact hs hp;omega)];exact h.block k hk hs
theorem D5(s:ByteArray)(w:World)(hs:s.size<=100000):CT 84 #[.string s] w fun e w'=>e=.returned (.string s)/\aj aJ w w':=by
 by_cases h0:s.size=0
 ·have e0:((s.size:Int) == 0)=true:=by rw[h0];rfl
  have hse:Hid (s=ByteArray.empty):=by
   show s=_;exact ByteArray.ext (Array.eq_empty_of_size_eq_zero h0)
  clear h0;go_enter Tryz.func84,Tryz.ntmps84;go_wp2;go_ret;exact⟨by rw[ae hse];rfl,aj.refl _ _⟩
 ·have e0:((s.size:Int) == 0)=false:=beq_eq_false_iff_ne.2 (by omega);have p0:0<s.size:=by omega
  have hmk:=run_make_row' (P:=Tryz.prog) 98 5 (.int .u8 0) 1 Tryz.underlying98 abR rfl .i64 .i64 s.size (by omega) (by omega);have ZL:aA (w.alloc (.cells (madeCells #[.int .u8 0] s.size) 5)) w.heap.size (madeCells #[.int .u8 0] s.size) 5:=aA.new w _ _;have hcp:=fun ty=>run_copy_row_string (P:=Tryz.prog) (w.alloc (.cells (madeCells #[.int .u8 0] s.size) 5)) 98 9 ty 5 w.heap.size 0 s.size s.size s (madeCells #[.int .u8 0] s.size) 5 Tryz.underlying98 (by kernel_rfl) ZL (Nat.le_refl _) (by rw[size_madeCells];omega)
  have hl:s.data.toList.length=s.size:=by rw[Array.length_toList];rfl
  obtain⟨X,hX⟩:=kL ((byteCells s.data.toList++List.drop s.size (madeCells #[.int .u8 0] s.size).toList).toArray);have hbB:=ZL.setRow X;have hXs:X.size=s.size:=by rw[hX];simp[byteCells_length,size_madeCells,hl]
  have hus:=fun ty=>run_unsafeString_row (P:=Tryz.prog) (w:=(w.alloc (.cells (madeCells #[.int .u8 0] s.size) 5)).setRow w.heap.size X) 191 3 ty 5 Tryz.underlying191 ZE w.heap.size X.size (hbB.shape) s.data.toList (by intro e;rw[e]at hl;simp at hl;omega) (by rw[hl,hXs];omega) (by rw[hl];omega) (by
   intro j x hj;refine World.news_of_block hbB j _ ?_;have hj':j<s.data.toList.length:=(List.getElem?_eq_some_iff.1 hj).1;rw[hX];simp only[List.toList_toArray];rw[List.getElem?_append_left (by rw[byteCells_length];exact hj')];simp only[byteCells,List.getElem?_map,hj,Option.map_some])
  have hfin:(⟨s.data.toList.toArray⟩:ByteArray)=s:=by simp
  rw[hl,hfin,hX]at hus;clear hbB ZL hXs hX h0 hl hfin;go_enter Tryz.func84,Tryz.ntmps84;go_wp2;go_ret;exact⟨rfl,(((aj.refl aJ w).alloc _).setRow (.inr (Nat.le_refl _)) _).freeze (.inr (Nat.le_refl _)) _⟩
theorem yJ(s:ByteArray)(w:World)(hs:s.size<=100000):CT 49 #[.string s] w fun e w'=>e=.returned (.string s)/\aj aJ w w':=by
 go_enter Tryz.func49,Tryz.ntmps49;go_wp2_with fail;refine (D5 s w hs).mono ?_;rintro e w' ⟨rfl,k⟩;go_wp2;go_ret;exact⟨rfl,k⟩
def kE:Array Value:=#[II 0,II 0,.string ⟨#[]⟩,II 0,II 0,II 0,II 0,II 0,II 0,II 0,II 0,II 0]
theorem YX(tmps:Array Value)(H:Nat)(w:World)(x:Int)(c0 c1 c3 c4 c5 c6 c7 c8 c9 c10 c11:Int)(c2:ByteArray)(ht:tmps.getD 4 undef=PP H)(hu:tmps.getD 5 undef=II x)
 (hb:aA w H #[II c0,II c1,.string c2,II c3,II c4,II c5,II c6,II c7,II c8,II c9,II c10,II c11] 54) :
 (results Tryz.f26 tmps).run Tryz.prog w=.ok (.tuple #[.agg #[II c0,II c1,.string c2,II c3,II c4,II c5,II c6,II c7,II c8,II c9,II c10,II c11],II x]) w:=by
 obtain⟨k0,k1,k2,k3,k4,k5,k6,k7,k8,k9,k10,k11⟩:=hb.Oy;simp only[Array.getD_eq_getD_getElem?]at ht hu;simp[results,Tryz.results26,go_sem,ht,hu,k0,k1,k2,k3,k4,k5,k6,k7,k8,k9,k10,k11]
theorem aci{w:World}{H:Nat}(hr:aA w H kE 54)(v0 v1 v2 v3 v4 v5 v6 v7 v8 v9 v10 v11:Value):aA ((((((((((((w.setCell ⟨H,0,none⟩ v0).setCell ⟨H,1,none⟩ v1).setCell ⟨H,2,none⟩ v2).setCell ⟨H,3,none⟩ v3).setCell ⟨H,4,none⟩ v4).setCell ⟨H,5,none⟩ v5).setCell ⟨H,6,none⟩ v6).setCell ⟨H,7,none⟩ v7).setCell ⟨H,8,none⟩ v8).setCell ⟨H,9,none⟩ v9).setCell ⟨H,10,none⟩ v10).setCell ⟨H,11,none⟩ v11) H #[v0,v1,v2,v3,v4,v5,v6,v7,v8,v9,v10,v11] 54:=by
 have h:=((((((((((((hr.set 0 v0).set 1 v1).set 2 v2).set 3 v3).set 4 v4).set 5 v5).set 6 v6).set 7 v7).set 8 v8).set 9 v9).set 10 v10).set 11 v11);have e:((((((((((((kE.setIfInBounds 0 v0).setIfInBounds 1 v1).setIfInBounds 2 v2).setIfInBounds 3 v3).setIfInBounds 4 v4).setIfInBounds 5 v5).setIfInBounds 6 v6).setIfInBounds 7 v7).setIfInBounds 8 v8).setIfInBounds 9 v9).setIfInBounds 10 v10).setIfInBounds 11 v11)=#[v0,v1,v2,v3,v4,v5,v6,v7,v8,v9,v10,v11]:=by simp[kE]
 rw[e]at h;exact h
theorem KO(bv bm bo:Nat)(V:aS)(id:Int)(w:World)(R:dS w bv bm bo V)(hwf:(Lit.int .i64 id).wf=true)(hid:V.aW id=none) :
 CT 26 #[PP bv,II id] w fun e w'=>e=.returned (.tuple #[.agg kE,II 6])/\aj aJ w w':=by
 obtain⟨fO,mO,vK⟩:=R.fH;have k1:aj aJ w (w.alloc (.cells kE 54)):=(aj.refl aJ w).alloc _;have L2:(Instr.lookup 95 (.map (some bo)) (II id) false).run Tryz.prog (w.alloc (.cells kE 54))=.ok (.pointer none) (w.alloc (.cells kE 54)):=by
  rw[(mO.aC k1 aU).look zU Tryz.underlying95 (wU _) (keyOf_int_mk Tryz.underlying3 hwf),vK,hid];rfl
 simp only[kE]at L2;have v1:CC w bv 1 (.map (some bo)):=R.dC.cell 1;have lv:=R.dC.lt;clear mO vK R;go_enter Tryz.func26,Tryz.ntmps26;go_wp2;refine bodyPost_ret (YX _ w.heap.size _ 6 0 0 0 0 0 0 0 0 0 0 0 ⟨#[]⟩ rfl rfl ?_) rfl ⟨rfl,?_⟩
 ·exact aA.new w _ _
 ·exact (aj.refl aJ w).alloc _
theorem KQ(bv bm bo b:Nat)(V:aS)(id:Int)(w:World)(R:dS w bv bm bo V)(hwf:(Lit.int .i64 id).wf=true)(hid:V.aW id=some b)(hsz:(V.om b).sym.size<=100000) :
 CT 26 #[PP bv,II id] w fun e w'=>e=.returned (.tuple #[.agg (jd (V.om b)),II 0])/\aj aJ w w':=by
 obtain⟨fO,mO,vK⟩:=R.fH;have k1:aj aJ w (w.alloc (.cells kE 54)):=(aj.refl aJ w).alloc _;have L2:(Instr.lookup 95 (.map (some bo)) (II id) false).run Tryz.prog (w.alloc (.cells kE 54))=.ok (PP b) (w.alloc (.cells kE 54)):=by
  rw[(mO.aC k1 aU).look zU Tryz.underlying95 (wU _) (keyOf_int_mk Tryz.underlying3 hwf),vK,hid];rfl
 simp only[kE]at L2;have v1:CC w bv 1 (.map (some bo)):=R.dC.cell 1;have lv:=R.dC.lt;obtain⟨-,ix,ho⟩:=R.bz id b hid;have lo:=ho.lt;generalize V.om b=o at *;obtain⟨c0,c1,c2,c3,c4,c5,c6,c7,c8,c9,c10,c11⟩:=ho.Oy;obtain⟨w1,hw1⟩:=kL ((w.alloc (.cells #[II 0,II 0,.string ⟨#[]⟩,II 0,II 0,II 0,II 0,II 0,II 0,II 0,II 0,II 0] 54)).alloc (.cells #[II o.id,II o.aG,.string o.sym,II o.side,II o.kind,II o.af,II o.aK,II o.entered,II o.aO,II o.filled,II o.bZ,II o.exp] 54));have kw1:aj aJ w w1:=by rw[hw1];exact ((aj.refl aJ w).alloc _).alloc _
 have hr1:aA w1 w.heap.size kE 54:=by rw[hw1];exact (aA.new w _ _).alloc _
 have hs1:aA w1 (w.heap.size+1) (jd o) 54:=by rw[hw1];exact aA.sQ w _ _ _
 have HW1:=au hw1;clear mO vK R hw1 hid;go_enter Tryz.func26,Tryz.ntmps26;go_wp2_with fail;rw[<-ae HW1];refine (yJ o.sym w1 hsz).mono ?_;rintro e w2 ⟨rfl,k2⟩;clear c0 c1 c2 c3 c4 c5 c6 c7 c8 c9 c10 c11 L2 v1;have hr2:=k2.aF hr1 aU;have hs2:=k2.aF hs1 aU;have hne:w.heap.size+1≠w.heap.size:=by omega
 obtain⟨s0,s1,s2,s3,s4,s5,s6,s7,s8,s9,s10,s11⟩:=hs2.Oy;have t2:=hs2.frozen 2;obtain⟨r0,r1,r2,r3,r4,r5,r6,r7,r8,r9,r10,r11⟩:=hr2.Oy;have q0:=hr2.frozen 0;have q1:=hr2.frozen 1;have q2:=hr2.frozen 2;have q3:=hr2.frozen 3;have q4:=hr2.frozen 4;have q5:=hr2.frozen 5;have q6:=hr2.frozen 6;have q7:=hr2.frozen 7;have q8:=hr2.frozen 8;have q9:=hr2.frozen 9;have q10:=hr2.frozen 10;have q11:=hr2.frozen 11;go_wp2;refine bodyPost_ret (YX _ w.heap.size _ 0 o.id o.aG o.side o.kind o.af o.aK o.entered o.aO o.filled o.bZ o.exp o.sym rfl rfl ?_) rfl ⟨rfl,?_⟩
 ·exact aci (hr2.other (a:=⟨w.heap.size+1,2,none⟩) (fun e=>hne e.symm) _) _ _ _ _ _ _ _ _ _ _ _ _
 ·have kk:aj aJ w w2:=kw1.trans k2;exact ((((((((((((((kk).setCell (p:=⟨w.heap.size+1,2,none⟩) (.inr (Nat.le_succ _)) _).setCell (p:=⟨w.heap.size,0,none⟩) (.inr (Nat.le_refl _)) _).setCell (p:=⟨w.heap.size,1,none⟩) (.inr (Nat.le_refl _)) _).setCell (p:=⟨w.heap.size,2,none⟩) (.inr (Nat.le_refl _)) _).setCell (p:=⟨w.heap.size,3,none⟩) (.inr (Nat.le_refl _)) _).setCell (p:=⟨w.heap.size,4,none⟩) (.inr (Nat.le_refl _)) _).setCell (p:=⟨w.heap.size,5,none⟩) (.inr (Nat.le_refl _)) _).setCell (p:=⟨w.heap.size,6,none⟩) (.inr (Nat.le_refl _)) _).setCell (p:=⟨w.heap.size,7,none⟩) (.inr (Nat.le_refl _)) _).setCell (p:=⟨w.heap.size,8,none⟩) (.inr (Nat.le_refl _)) _).setCell (p:=⟨w.heap.size,9,none⟩) (.inr (Nat.le_refl _)) _).setCell (p:=⟨w.heap.size,10,none⟩) (.inr (Nat.le_refl _)) _).setCell (p:=⟨w.heap.size,11,none⟩) (.inr (Nat.le_refl _)) _)
def lI(l:List Ord)(o:iT):Nat->Option Nat
 | 0=>none
 | i+1=>if lJ o (ax l i) then (match lI l o i with
     | none=>some i
     | some b=>if mg (ax l i) (ax l b) then some i else some b) else lI l o i
theorem AP(l:List Ord)(o:iT):∀i b,lI l o i=some b->b<i
 | 0,b,h=>by simp[lI]at h
 | i+1,b,h=>by
   unfold lI at h;split at h
   ·split at h
    ·simp at h;omega
    ·rename_i b' hb';have:=AP l o i b' hb';split at h <;> simp at h <;> omega
   ·have:=AP l o i b h;omega
def gZ(l:List Ord)(o:iT):Option Nat:=lI l o l.length
end Go.Proofs.YtigaphnafnpfnaaGreatDoor
