import Derived.Test.YtigaphnafnpfnaaGreatDoorQVY2
import Derived.Test.YtigaphnafnpfnaaGreatDoorQVV8
import Derived.Maps.RangeWalk
import Derived.Deep.CutRange
set_option linter.unusedVariables false
set_option linter.unusedSimpArgs false
set_option maxHeartbeats 8000000
set_option maxRecDepth 100000
namespace Go.Proofs.YtigaphnafnpfnaaGreatDoor
open Go.RowKit
theorem sV{l:List Ord}{k:Nat}{o:Ord}(h:o.place=(ax l k).place)(a:Nat):(ax (l.set k o) a).place=(ax l a).place:=by
 by_cases e:k=a
 ·subst e
  by_cases hk:k<l.length
  ·rw[oM hk,h]
  ·rw[List.set_eq_of_length_le (by omega)]
 ·rw[x8 e]
theorem J5(c:RC)(i k a:Nat):(ax (c.step i k).S.l a).place=(ax c.S.l a).place:=by
 unfold RC.step
 split
 ·simp only[RS.gX]
  exact sV (by rfl) a
 ·simp only[RS.oV,RS.xW,RS.gX]
  rw[sV,sV]
  ·rfl
  ·rw[sV]
   rfl
theorem qV.Zj{p:Nat->Nat}{oc i s:Nat}{sym:ByteArray}{R0:List Rc}{xE f0 M:Int}(hM:M<=1000000000000000)(hs:s<2)(Xp:0<=xE):∀(f:Nat) (st:MS) (c:RC),qV p oc i s sym R0 xE f0 st c->qN oc s st->dX (fG st.om) (st.B.n s) (st.B.h s)->(∀x,(x=oc\/kX st s x)->Qo M (st.om x))->mu oc s st<=f->st.tr+f<1000000000 ->
 ∃c',DC i f c c'/\qV p oc i s sym R0 xE f0 (aZ oc s f st) c'/\c'.S.sy=c.S.sy/\c'.S.places=c.S.places/\c'.S.l.length=c.S.l.length/\(∀a,(ax c'.S.l a).place=(ax c.S.l a).place)/\c'.S.t.length<=c.S.t.length+f/\c'.S.told.length<=c.S.told.length+f:=by
 intro f
 induction f with
 | zero =>
   intro st c h iv hh hq hmu htr
   refine⟨c,DC.stop 0 c (.inr ?_),h,rfl,rfl,rfl,fun _=>rfl,by omega,by omega⟩
   have hn:st.B.n s=0:=by unfold mu at hmu;omega
   have hb:=h.lu.BI hs hh
   unfold dF at hb
   rw[if_pos hn]at hb
   show gz c.S.l (cZ (ax c.S.l i))=none
   simpa using hb
 | succ f ih =>
   intro st c h iv hh hq hmu htr
   have hb:=h.lu.BI hs hh
   rw[aZ]
   by_cases hst:stops oc s st=true
   ·rw[if_pos hst]
    refine⟨c,DC.stop _ c ?_,h,rfl,rfl,rfl,fun _=>rfl,by omega,by omega⟩
    unfold stops at hst
    simp only[Bool.or_eq_true,Bool.not_eq_true',decide_eq_false_iff_not]at hst
    rcases hst with e|e
    ·left;rw[h.left];exact e
    ·right
     have:dF st.B st.om (cZ (st.om oc)) s=none:=by simpa using e
     rw[this]at hb
     show gz c.S.l (cZ (ax c.S.l i))=none
     simpa using hb
   ·rw[if_neg hst]
    obtain⟨hn,hp⟩:=lS hst
    have hso:∃k,c.BI i=some k:=by
     cases hbk:c.BI i with
     | some k=>exact⟨k,rfl⟩
     | none =>
       have e:gz c.S.l (cZ (ax c.S.l i))=none:=hbk
       rw[e]at hb
       exfalso
       apply hst
       unfold stops
       rw[<-hb]
       simp
    obtain⟨k,hk⟩:=hso
    have h1:=h.step hM hs iv hh hq hp hk (by omega) Xp
    have r1:=xx hM iv hn hp hh hq
    obtain⟨KU,abY,_⟩:=nH iv hn hp
    have ZZ:(bz oc s st).tr<=st.tr+1:=by
     have a:=h1.tr
     have b:=h.tr
     have:=J6 c i k
     unfold MS.tr
     rw[a,b]
     omega
    obtain⟨c',he,hs',sy,pl,ln,pc,tl,ol⟩:=ih (bz oc s st) (c.step i k) h1 r1.inv r1.heap (fun x hx=>r1.q x (hx.imp_right (r1.mem x))) (by omega) (by omega)
    have q1:(c.step i k).S.sy=c.S.sy/\(c.step i k).S.places=c.S.places:=by
     unfold RC.step
     split
     ·exact⟨rfl,rfl⟩
     ·exact⟨rfl,rfl⟩
    exact⟨c',DC.go f k c c' (by rw[h.left];exact hp) hk he,hs',sy.trans q1.1,pl.trans q1.2,ln.trans (Rk c i k),fun a=>(pc a).trans (J5 c i k a),by have:=(J6 c i k).1;omega,by have:=(J6 c i k).2;omega⟩
theorem Qo.mono{M M':Int}{o:Ord}(h:Qo M o)(hm:M<=M'):Qo M' o:=⟨h.sum,h.o0,h.f0,h.c0,h.e0,by have:=h.hi;omega⟩
theorem uK{B:Bk}{om:Nat->Ord}{sym:ByteArray}{L:Nat->Prop}(h:GB B om sym L){s k:Nat}(hs:s<2)(hk:k<B.n s):GB (B.leave om s k) om sym (fun x=>L x/\x≠B.h s k):=by
 have other:∀y,y≠s->(B.leave om s k).n y=B.n y/\(B.leave om s k).h y=B.h y:=fun y hy=>by simp only[Bk.leave];rw[ah _ _ hy,ah _ _ hy];exact⟨rfl,rfl⟩
 have iff:=kz (om:=om) (h.inj s hs) hk
 have ne:∀y,y<2->y≠s->∀x,Mem (B.n y) (B.h y) x->x≠B.h s k:=fun y hy hne x hx e=>by
  have a:=((h.mem y hy x).1 hx).2.2.1
  have b:=((h.mem s hs _).1 ⟨k,hk,rfl⟩).2.2.1
  rw[e,b]at a
  omega
 have sub:∀y,y<2->∀x,Mem ((B.leave om s k).n y) ((B.leave om s k).h y) x->Mem (B.n y) (B.h y) x:=fun y hy x hx=>by
  by_cases e:y=s
  ·rw[e]at hx ⊢;exact ((iff x).1 hx).1
  ·rw[(other y e).1,(other y e).2]at hx;exact hx
 refine⟨h.kE,fun y hy x=>?_,fun y hy=>?_,fun y hy=>?_,fun x y hx hy=>h.gK x y (sub 0 (by omega) x hx) (sub 1 (by omega) y hy)⟩
 ·by_cases e:y=s
  ·rw[e,iff x,h.mem s hs x]
   exact⟨fun ⟨⟨a,b⟩,c⟩=>⟨⟨a,c⟩,b⟩,fun ⟨⟨a,c⟩,b⟩=>⟨⟨a,b⟩,c⟩⟩
  ·rw[(other y e).1,(other y e).2]
   constructor
   ·intro hx
    obtain⟨a,b⟩:=(h.mem y hy x).1 hx
    exact⟨⟨a,ne y hy e x hx⟩,b⟩
   ·rintro⟨⟨a,_⟩,b⟩
    exact (h.mem y hy x).2 ⟨a,b⟩
 ·by_cases e:y=s
  ·rw[e];exact uM rfl (fun k hk=>h.side hs hk) (h.heap s hs) hk
  ·rw[(other y e).1,(other y e).2];exact h.heap y hy
 ·by_cases e:y=s
  ·rw[e]
   have h0:qf (B.n s-1+1) (B.h s):=by rw[show B.n s-1+1=B.n s by omega];exact h.inj s hs
   simp only[Bk.leave,aj]
   exact fun a b ha hb e=>(h0.oP (lt:=fG om) (i:=k) (by omega)) a b (by omega) (by omega) e
  ·rw[(other y e).1,(other y e).2];exact h.inj y hy
def VL(V:aQ)(x:Nat):Prop:=∃id,V.aU id=some x
structure GW(V:aQ)(M:Int):Prop where
 gb:∀i,i<V.nb->GB (V.B i) V.om (V.B i).sym (VL V)
 kM:∀i j,i<V.nb->j<V.nb->(V.B i).sym=(V.B j).sym->i=j
 q:∀x,VL V x->Qo M (V.om x)
 sym:∀x,VL V x->∃i,i<V.nb/\(V.om x).sym=(V.B i).sym
 side:∀x,VL V x->(V.om x).side=0\/(V.om x).side=1
theorem zf{BB:Nat->Bk}{nb:Nat}{nm:Nat->ByteArray}(kM:∀i j,i<nb->j<nb->nm i=nm j->i=j){i oc s t g cap':Nat}{B0:Bk}{lW:Nat->Ord}{lg:Lg}{L:Nat->Prop}{M:Int}(hM:M<=1000000000000000)(hi:i<nb)(hs:s<2)(ht:t=1-s)(hL:L oc)(dM:(lW oc).sym=nm i)(hside:(lW oc).side=(t:Int))(hq:∀x,L x->Qo M (lW x))
 (gi:GB B0 lW (nm i) (fun x=>L x/\x≠oc)) (gj:∀j,j<nb->j≠i->GB (BB j) lW (nm j) L) :
 (∀j,j<nb->GB (aN BB i (dV oc t g cap' (mF oc s ⟨B0,lW,lg⟩)) j) (aF oc (mF oc s ⟨B0,lW,lg⟩)) (nm j) L)/\(∀x,L x->Qo M (aF oc (mF oc s ⟨B0,lW,lg⟩) x))/\LW oc s M ⟨B0,lW,lg⟩ (mF oc s ⟨B0,lW,lg⟩) /\
  (∀x,(aF oc (mF oc s ⟨B0,lW,lg⟩) x).sym=(lW x).sym/\(aF oc (mF oc s ⟨B0,lW,lg⟩) x).side=(lW x).side)/\qN oc s ⟨B0,lW,lg⟩:=by
 obtain⟨iv,g1,g2,run,dH,bG⟩:=Me (g:=g) (cap':=cap') (lg:=lg) hM hs ht hL dM hside hq gi
 have sy:∀x,(aF oc (mF oc s ⟨B0,lW,lg⟩) x).sym=(lW x).sym/\(aF oc (mF oc s ⟨B0,lW,lg⟩) x).side=(lW x).side:=fun x=>by
  by_cases e:x=oc
  ·have h1:=run.dH oc
   rw[e]
   unfold aF
   split
   ·rw[aj];exact⟨h1.2.2.1,h1.2.2.2.1⟩
   ·rw[aj];exact⟨h1.2.2.1,h1.2.2.2.1⟩
  ·exact⟨(dH x e).2.2.1,(dH x e).2.2.2.1⟩
 refine⟨fun j hj=>?_,g2,run,sy,iv⟩
 by_cases e:j=i
 ·rw[e,aj];exact g1
 ·rw[ah _ _ e]
  have ns:nm j≠nm i:=fun h=>e (kM j i hj hi h)
  have same:∀x,(lW x).sym=nm j->aF oc (mF oc s ⟨B0,lW,lg⟩) x=lW x:=fun x hx=>bG x (fun e2=>ns (by rw[<-hx,e2];exact dM)) (.inl (by rw[hx];exact ns))
  refine (gj j hj e).kJ (fun x=>?_) (fun x _ hx _=>by rw[same x hx];exact⟨rfl,rfl,rfl⟩)
  rw[(sy x).1]
  constructor
  ·rintro⟨a,b,c⟩;rw[same x b]at c;exact⟨a,b,c⟩
  ·rintro⟨a,b,c⟩;rw[same x b];exact⟨a,b,c⟩
theorem zV{o:iL}{M:Int}(h1:0<=o.aI)(h2:o.aI<=M):Qo M (aJ o):=by
 refine⟨?_,h1,?_,?_,?_,h2⟩ <;> simp only[aJ] <;> omega
theorem zQ{oc s:Nat}:∀(f:Nat) (st:MS),(aZ oc s f st).B.sym=st.B.sym:=by
 intro f
 induction f with
 | zero=>intro st;rfl
 | succ f ih =>
   intro st
   rw[aZ]
   split
   ·rfl
   ·rw[ih]
    unfold bz
    split
    ·rfl
    ·simp only[dO]
     split <;> rfl
theorem GW.enter{V:aQ}{M:Int}(h:GW V M)(hM:M<=1000000000000000){i b s t g cap':Nat}{o:iL}{bH:Lm}(hi:i<V.nb)(hs:s<2)(ht:t=1-s)(dM:o.sym=(V.B i).sym)(hside:o.side=(t:Int))(hq1:0<=o.aI)(hq2:o.aI<=M)(hfree:V.aU o.id=none)(hb:¬VL V b) :
 GW (V.enter i b s t g cap' o bH) M/\LW b s M ⟨V.B i,aN V.om b (aJ o),V.lg.aX o.id⟩ (mF b s ⟨V.B i,aN V.om b (aJ o),V.lg.aX o.id⟩)/\qN b s ⟨V.B i,aN V.om b (aJ o),V.lg.aX o.id⟩/\(∀j,((V.enter i b s t g cap' o bH).B j).sym=(V.B j).sym)/\(∀x,VL (V.enter i b s t g cap' o bH) x↔(VL V x\/x=b))/\GB (V.B i) (aN V.om b (aJ o)) (V.B i).sym (fun x=>VL (V.enter i b s t g cap' o bH) x/\x≠b):=by
 have hBs:∀j,((V.enter i b s t g cap' o bH).B j).sym=(V.B j).sym:=fun j=>by
  simp only[aQ.enter]
  by_cases e:j=i
  ·rw[e,aj,mV];unfold mF;rw[zQ]
  ·rw[ah _ _ e]
 have ug:∀x,VL (V.enter i b s t g cap' o bH) x↔(VL V x\/x=b):=fun x=>by
  constructor
  ·rintro⟨id,hx⟩
   simp only[aQ.enter]at hx
   split at hx
   ·exact .inr (Option.some.inj hx).symm
   ·exact .inl ⟨id,hx⟩
  ·rintro (⟨id,hx⟩|rfl)
   ·refine⟨id,?_⟩
    simp only[aQ.enter]
    rw[if_neg (fun e=>by rw[e,hfree]at hx;simp at hx)]
    exact hx
   ·exact⟨o.id,by simp[aQ.enter]⟩
 have lW:∀x,VL V x->aN V.om b (aJ o) x=V.om x:=fun x hx=>ah _ _ (fun e=>hb (e▸hx))
 have gi:GB (V.B i) (aN V.om b (aJ o)) ((V.B i).sym) (fun x=>VL (V.enter i b s t g cap' o bH) x/\x≠b):=by
  refine (h.gb i hi).kJ (fun x=>?_) (fun x hx _ _=>by rw[lW x hx];exact⟨rfl,rfl,rfl⟩)
  rw[ug x]
  constructor
  ·rintro⟨⟨a|a,a'⟩,c⟩
   ·rw[lW x a]at c;exact⟨a,c⟩
   ·exact absurd a a'
  ·rintro⟨a,c⟩
   rw[lW x a];exact⟨⟨.inl a,fun e=>hb (e▸a)⟩,c⟩
 have gj:∀j,j<V.nb->j≠i->GB (V.B j) (aN V.om b (aJ o)) ((V.B j).sym) (VL (V.enter i b s t g cap' o bH)):=fun j hj hne=>by
  refine (h.gb j hj).kJ (fun x=>?_) (fun x hx _ _=>by rw[lW x hx];exact⟨rfl,rfl,rfl⟩)
  rw[ug x]
  constructor
  ·rintro⟨a|a,c⟩
   ·rw[lW x a]at c;exact⟨a,c⟩
   ·rw[a,aj]at c
    exact absurd (h.kM i j hi hj (dM.symm.trans c.1)) (fun e=>hne e.symm)
  ·rintro⟨a,c⟩
   rw[lW x a];exact⟨.inl a,c⟩
 obtain⟨c1,c2,c3,c4,c5⟩:=zf h.kM (BB:=V.B) (g:=g) (cap':=cap') (lg:=V.lg.aX o.id) hM hi hs ht ((ug b).2 (.inr rfl)) (by rw[aj];exact dM) (by rw[aj];exact hside) (fun x hx=>by
  rcases (ug x).1 hx with a|a
  ·rw[lW x a];exact h.q x a
  ·rw[a,aj];exact zV hq1 hq2) gi gj
 refine⟨⟨fun j hj=>?_,fun a c ha hc e=>?_,c2,fun x hx=>?_,fun x hx=>?_⟩,c3,c5,hBs,ug,gi⟩
 ·rw[hBs j];exact c1 j hj
 ·rw[hBs a,hBs c]at e;exact h.kM a c ha hc e
 ·show ∃j,j<V.nb/\((aF b (mF b s ⟨V.B i,aN V.om b (aJ o),V.lg.aX o.id⟩)) x).sym=((V.enter i b s t g cap' o bH).B j).sym
  rw[(c4 x).1]
  rcases (ug x).1 hx with a|a
  ·rw[lW x a]
   obtain⟨j,hj,e⟩:=h.sym x a
   exact⟨j,hj,by rw[hBs j];exact e⟩
  ·rw[a,aj]
   exact⟨i,hi,by rw[hBs i];exact dM⟩
 ·show ((aF b (mF b s ⟨V.B i,aN V.om b (aJ o),V.lg.aX o.id⟩)) x).side=0\/((aF b (mF b s ⟨V.B i,aN V.om b (aJ o),V.lg.aX o.id⟩)) x).side=1
  rw[(c4 x).2]
  rcases (ug x).1 hx with a|a
  ·rw[lW x a];exact h.side x a
  ·rw[a,aj]
   show o.side=0\/o.side=1
   omega
theorem GW.Qj{V:aQ}{M M':Int}(h:GW V M)(hM:M<=M'){b:Nat}{o':Ord}(hb:VL V b)(h1:o'.sym=(V.om b).sym)(h2:o'.side=(V.om b).side)(h3:o'.af=(V.om b).af)(h4:o'.place=(V.om b).place)(h5:0<o'.aK↔0<(V.om b).aK)(hq:Qo M' o')(i:Nat):GW (V.turn i (V.B i) (aN V.om b o')) M':=by
 have hB:∀j,aN V.B i (V.B i) j=V.B j:=fun j=>by
  by_cases e:j=i
  ·rw[e,aj]
  ·rw[ah _ _ e]
 have key:∀x,(aN V.om b o' x).sym=(V.om x).sym/\(aN V.om b o' x).side=(V.om x).side/\(aN V.om b o' x).af=(V.om x).af/\(aN V.om b o' x).place=(V.om x).place/\(0<(aN V.om b o' x).aK↔0<(V.om x).aK):=fun x=>by
  by_cases e:x=b
  ·rw[e,aj];exact⟨h1,h2,h3,h4,h5⟩
  ·rw[ah _ _ e];exact⟨rfl,rfl,rfl,rfl,Iff.rfl⟩
 refine⟨fun j hj=>?_,fun a c ha hc e=>?_,fun x hx=>?_,fun x hx=>?_,fun x hx=>by show (aN V.om b o' x).side=_\/(aN V.om b o' x).side=_;rw[(key x).2.1];exact h.side x hx⟩
 ·show GB (aN V.B i (V.B i) j) (aN V.om b o') (aN V.B i (V.B i) j).sym (VL V)
  rw[hB j]
  refine (h.gb j hj).kJ (fun x=>?_) (fun x _ _ _=>⟨(key x).2.1,(key x).2.2.1,(key x).2.2.2.1⟩)
  rw[(key x).1,(key x).2.2.2.2]
 ·simp only[aQ.turn]at e
  rw[hB a,hB c]at e
  exact h.kM a c ha hc e
 ·show Qo M' (aN V.om b o' x)
  by_cases e:x=b
  ·rw[e,aj];exact hq
  ·rw[ah _ _ e];exact (h.q x hx).mono hM
 ·obtain⟨j,hj,e⟩:=h.sym x hx
  refine⟨j,hj,?_⟩
  show (aN V.om b o' x).sym=(aN V.B i (V.B i) j).sym
  rw[(key x).1,hB j];exact e
theorem GW.Qn{V:aQ}{M:Int}(h:GW V M){i s k:Nat}(hi:i<V.nb)(hs:s<2)(hk:k<(V.B i).n s){o':Ord}(h1:o'.sym=(V.om ((V.B i).h s k)).sym)(h2:o'.side=(V.om ((V.B i).h s k)).side)(h0:o'.aK=0)(hq:Qo M o'):GW (V.turn i ((V.B i).leave V.om s k) (aN V.om ((V.B i).h s k) o')) M:=by
 have hm:=((h.gb i hi).mem s hs _).1 ⟨k,hk,rfl⟩
 generalize hbb:(V.B i).h s k=b at *
 have key:∀x,(aN V.om b o' x).sym=(V.om x).sym/\(aN V.om b o' x).side=(V.om x).side:=fun x=>by
  by_cases e:x=b
  ·rw[e,aj];exact⟨h1,h2⟩
  ·rw[ah _ _ e];exact⟨rfl,rfl⟩
 have hBs:∀j,(aN V.B i ((V.B i).leave V.om s k) j).sym=(V.B j).sym:=fun j=>by
  by_cases e:j=i
  ·rw[e,aj];rfl
  ·rw[ah _ _ e]
 refine⟨fun j hj=>?_,fun a c ha hc e=>h.kM a c ha hc (by rw[<-hBs a,<-hBs c];exact e),fun x hx=>?_,fun x hx=>?_,fun x hx=>by show (aN V.om b o' x).side=_\/(aN V.om b o' x).side=_;rw[(key x).2];exact h.side x hx⟩
 ·show GB (aN V.B i ((V.B i).leave V.om s k) j) (aN V.om b o') (aN V.B i ((V.B i).leave V.om s k) j).sym (VL V)
  rw[hBs j]
  have fin:∀{B:Bk} {L:Nat->Prop},GB B V.om ((V.B j).sym) L->(∀x,(VL V x/\(V.om x).sym=(V.B j).sym/\0<(V.om x).aK/\x≠b)↔(L x/\(V.om x).sym=(V.B j).sym/\0<(V.om x).aK))->GB B (aN V.om b o') ((V.B j).sym) (VL V):=by
   intro B L hB hL
   refine hB.kJ (fun x=>?_) (fun x a b' c=>?_)
   ·rw[(key x).1,<-hL x]
    constructor
    ·rintro⟨a,b',c⟩
     have hne:x≠b:=fun e=>by rw[e,aj,h0]at c;omega
     rw[ah _ _ hne]at c
     exact⟨a,b',c,hne⟩
    ·rintro⟨a,b',c,hne⟩
     rw[ah _ _ hne];exact⟨a,b',c⟩
   ·have hne:x≠b:=((hL x).2 ⟨a,b',c⟩).2.2.2
    rw[ah _ _ hne];exact⟨rfl,rfl,rfl⟩
  by_cases e:j=i
  ·rw[e,aj]
   have:=uK (h.gb i hi) hs hk
   rw[hbb]at this
   rw[e]at fin
   exact fin this (fun x=>⟨fun ⟨a,b',c,d⟩=>⟨⟨a,d⟩,b',c⟩,fun ⟨⟨a,d⟩,b',c⟩=>⟨a,b',c,d⟩⟩)
  ·rw[ah _ _ e]
   refine fin (h.gb j hj) (fun x=>⟨fun ⟨a,b',c,d⟩=>⟨a,b',c⟩,fun ⟨a,b',c⟩=>⟨a,b',c,fun e2=>e ?_⟩⟩)
   rw[e2,hm.2.1]at b'
   exact (h.kM i j hi hj b').symm
 ·show Qo M (aN V.om b o' x)
  by_cases e:x=b
  ·rw[e,aj];exact hq
  ·rw[ah _ _ e];exact h.q x hx
 ·obtain⟨j,hj,e⟩:=h.sym x hx
  exact⟨j,hj,by show (aN V.om b o' x).sym=(aN V.B i ((V.B i).leave V.om s k) j).sym;rw[(key x).1,hBs j];exact e⟩
theorem QM:∀(m n:Nat) (f:Nat->Nat),(∀a b,a<n->b<n->f a=f b->a=b)->(∀k,k<n->f k<m)->n<=m:=by
 intro m
 induction m with
 | zero =>
   intro n f _ h
   rcases Nat.eq_zero_or_pos n with h0|h0
   ·omega
   ·exact absurd (h 0 h0) (Nat.not_lt_zero _)
 | succ m ih =>
   intro n f hi h
   rcases Nat.eq_zero_or_pos n with h0|h0
   ·omega
   ·
    obtain⟨n',rfl⟩:∃n',n=n'+1:=⟨n-1,by omega⟩
    have key:n'<=m:=by
     refine ih n' (fun k=>if f k=m then f n' else f k) (fun a b ha hb e=>?_) (fun k hk=>?_)
     ·by_cases e1:f a=m <;> by_cases e2:f b=m
      ·exact hi a b (by omega) (by omega) (e1.trans e2.symm)
      ·rw[if_pos e1,if_neg e2]at e
       exact absurd (hi n' b (by omega) (by omega) e) (by omega)
      ·rw[if_neg e1,if_pos e2]at e
       exact absurd (hi a n' (by omega) (by omega) e) (by omega)
      ·rw[if_neg e1,if_neg e2]at e
       exact hi a b (by omega) (by omega) e
     ·have hk1:=h k (by omega)
      have hn1:=h n' (by omega)
      split
      ·rename_i e1
       have:f n'≠m:=fun e2=>by
        have:=hi k n' (by omega) (by omega) (e1.trans e2.symm)
        omega
       omega
      ·omega
    omega
theorem JP{oc s:Nat}:∀(f:Nat) (st:MS),(aZ oc s f st).lg.tr.length<=st.lg.tr.length+f/\(aZ oc s f st).lg.tp.length<=st.lg.tp.length+f:=by
 intro f
 induction f with
 | zero=>intro st;exact⟨Nat.le_refl _,Nat.le_refl _⟩
 | succ f ih =>
   intro st
   rw[aZ]
   split
   ·exact⟨by omega,by omega⟩
   ·have h:=ih (bz oc s st)
    have e:(bz oc s st).lg.tr.length<=st.lg.tr.length+1/\(bz oc s st).lg.tp.length<=st.lg.tp.length+1:=by
     unfold bz
     split
     ·simp only[Lg.aV];exact⟨by omega,by omega⟩
     ·simp[Lg.jG,Lg.told,Lg.aC,Lg.aV,gu,mX]
    omega
theorem JO{oc s:Nat}{st:MS}:(mF oc s st).lg.tr.length<=st.lg.tr.length+(st.B.n s+1)/\(mF oc s st).lg.tp.length<=st.lg.tp.length+(st.B.n s+1):=by
 have h:=JP (oc:=oc) (s:=s) (mu oc s st) st
 have hm:mu oc s st<=st.B.n s+1:=by unfold mu;split <;> omega
 unfold mF
 omega
def aQ.oG(V:aQ)(i b s t k g cap':Nat)(o':Ord)(bH:Lm):aQ :=
 { V with B:=aN V.B i (dV b t g cap' (mF b s ⟨(V.B i).leave V.om t k,aN V.om b o',V.lg.dE b (V.om b)⟩)),om:=aF b (mF b s ⟨(V.B i).leave V.om t k,aN V.om b o',V.lg.dE b (V.om b)⟩),lg:=gJ b (mF b s ⟨(V.B i).leave V.om t k,aN V.om b o',V.lg.dE b (V.om b)⟩),lm:=bH }
theorem GW.oG{V:aQ}{M M':Int}(h:GW V M)(hMM:M<=M')(hM:M'<=1000000000000000){i b s t k g cap':Nat}{o':Ord}{bH:Lm}(hi:i<V.nb)(hs:s<2)(ht:t=1-s)(hk:k<(V.B i).n t)(hb:(V.B i).h t k=b)(h1:o'.sym=(V.om b).sym)(h2:o'.side=(V.om b).side)(hq:Qo M' o') :
 GW (V.oG i b s t k g cap' o' bH) M'/\LW b s M' ⟨(V.B i).leave V.om t k,aN V.om b o',V.lg.dE b (V.om b)⟩ (mF b s ⟨(V.B i).leave V.om t k,aN V.om b o',V.lg.dE b (V.om b)⟩)/\qN b s ⟨(V.B i).leave V.om t k,aN V.om b o',V.lg.dE b (V.om b)⟩/\(∀j,((V.oG i b s t k g cap' o' bH).B j).sym=(V.B j).sym)/\GB ((V.B i).leave V.om t k) (aN V.om b o') (V.B i).sym (fun x=>VL V x/\x≠b):=by
 have hBs:∀j,((V.oG i b s t k g cap' o' bH).B j).sym=(V.B j).sym:=fun j=>by
  simp only[aQ.oG]
  by_cases e:j=i
  ·rw[e,aj,mV];unfold mF;rw[zQ];rfl
  ·rw[ah _ _ e]
 have t2:t<2:=by omega
 have hm:=((h.gb i hi).mem t t2 _).1 ⟨k,hk,rfl⟩
 rw[hb]at hm
 have ug:VL V b:=hm.1
 have gi:GB ((V.B i).leave V.om t k) (aN V.om b o') ((V.B i).sym) (fun x=>VL V x/\x≠b):=by
  have:=uK (h.gb i hi) t2 hk
  rw[hb]at this
  refine this.kJ (fun x=>?_) (fun x hx _ _=>by rw[ah _ _ hx.2];exact⟨rfl,rfl,rfl⟩)
  constructor
  ·rintro⟨⟨a,a'⟩,c⟩;rw[ah _ _ a']at c;exact⟨⟨a,a'⟩,c⟩
  ·rintro⟨⟨a,a'⟩,c⟩;rw[ah _ _ a'];exact⟨⟨a,a'⟩,c⟩
 have gj:∀j,j<V.nb->j≠i->GB (V.B j) (aN V.om b o') ((V.B j).sym) (VL V):=fun j hj hne=>by
  have nb:∀x,(V.om x).sym=(V.B j).sym->x≠b:=fun x hx e=>hne (by rw[e,hm.2.1]at hx;exact (h.kM i j hi hj hx).symm)
  refine (h.gb j hj).kJ (fun x=>?_) (fun x _ hx _=>by rw[ah _ _ (nb x hx)];exact⟨rfl,rfl,rfl⟩)
  constructor
  ·rintro⟨a,c,d⟩
   have hxs:(V.om x).sym=(V.B j).sym:=by
    by_cases e:x=b
    ·rw[e,aj,h1]at c;rw[e];exact c
    ·rw[ah _ _ e]at c;exact c
   rw[ah _ _ (nb x hxs)]at d
   exact⟨a,hxs,d⟩
  ·rintro⟨a,c,d⟩
   rw[ah _ _ (nb x c)]
   exact⟨a,c,d⟩
 obtain⟨c1,c2,c3,c4,c5⟩:=zf h.kM (BB:=V.B) (g:=g) (cap':=cap') (lg:=V.lg.dE b (V.om b)) hM hi hs ht ug (by rw[aj,h1];exact hm.2.1) (by rw[aj,h2];exact hm.2.2.1) (fun x hx=>by
  by_cases e:x=b
  ·rw[e,aj];exact hq
  ·rw[ah _ _ e];exact (h.q x hx).mono hMM) gi gj
 have o0:∀x,(aN V.om b o' x).sym=(V.om x).sym/\(aN V.om b o' x).side=(V.om x).side:=fun x=>by
  by_cases e:x=b
  ·rw[e,aj];exact⟨h1,h2⟩
  ·rw[ah _ _ e];exact⟨rfl,rfl⟩
 refine⟨⟨fun j hj=>?_,fun a c ha hc e=>?_,c2,fun x hx=>?_,fun x hx=>?_⟩,c3,c5,hBs,gi⟩
 ·rw[hBs j];exact c1 j hj
 ·rw[hBs a,hBs c]at e;exact h.kM a c ha hc e
 ·show ∃j,j<V.nb/\(aF b (mF b s ⟨(V.B i).leave V.om t k,aN V.om b o',V.lg.dE b (V.om b)⟩) x).sym=((V.oG i b s t k g cap' o' bH).B j).sym
  rw[(c4 x).1,(o0 x).1]
  obtain⟨j,hj,e⟩:=h.sym x hx
  exact⟨j,hj,by rw[hBs j];exact e⟩
 ·show (aF b (mF b s ⟨(V.B i).leave V.om t k,aN V.om b o',V.lg.dE b (V.om b)⟩) x).side=_\/(aF b (mF b s ⟨(V.B i).leave V.om t k,aN V.om b o',V.lg.dE b (V.om b)⟩) x).side=_
  rw[(c4 x).2,(o0 x).2];exact h.side x hx
theorem GW.cO{V:aQ}{M:Int}(h:GW V M){s:ByteArray}{b:Nat}{bH:Lm}(hfree:∀i,i<V.nb->(V.B i).sym≠s):GW (V.cO s b bH) M:=by
 have old:∀j,j<V.nb->(V.cO s b bH).B j=V.B j:=fun j hj=>by
  show aN V.B V.nb (kK s) j=V.B j
  exact ah _ _ (by omega)
 have new:(V.cO s b bH).B V.nb=kK s:=aj _ _ _
 have hnew:(kK s).sym=s:=rfl
 have hnb:(V.cO s b bH).nb=V.nb+1:=rfl
 refine⟨fun j hj=>?_,fun a c ha hc e=>?_,h.q,fun x hx=>?_,h.side⟩
 ·by_cases e:j<V.nb
  ·rw[old j e];exact h.gb j e
  ·obtain rfl:j=V.nb:=by omega
   rw[new,hnew]
   have n0:∀y,(kK s).n y=0:=fun y=>rfl
   refine⟨rfl,fun y hy x=>?_,fun y hy k h0 hk=>?_,fun y hy a c ha=>?_,fun x y hx=>?_⟩
   ·rw[n0]
    constructor
    ·rintro⟨k,hk,_⟩;omega
    ·rintro⟨a,c,_⟩
     obtain⟨j,hj,e2⟩:=h.sym x a
     exact absurd (e2.symm.trans c) (hfree j hj)
   ·rw[n0]at hk;omega
   ·rw[n0]at ha;omega
   ·obtain⟨k,hk,_⟩:=hx;rw[n0]at hk;omega
 ·by_cases ea:a<V.nb <;> by_cases ec:c<V.nb
  ·rw[old a ea,old c ec]at e;exact h.kM a c ea ec e
  ·obtain rfl:c=V.nb:=by omega
   rw[old a ea,new,hnew]at e;exact absurd e (hfree a ea)
  ·obtain rfl:a=V.nb:=by omega
   rw[old c ec,new,hnew]at e;exact absurd e.symm (hfree c ec)
  ·omega
 ·obtain⟨j,hj,e⟩:=h.sym x hx
  exact⟨j,by omega,by rw[old j hj];exact e⟩
open Go.RowKit Go.Maps
attribute [local go_sem ↓] Go.wp_at_zero Go.wp_at_succ
def Tr.at(t:Tr)(p:Int):Tr:={ t with af:=p }
def Lg.jf(G:Lg)(k:Nat)(x:Tg)(p:Int):Lg:={ G with tr:=G.tr.set k ⟨x.t.at p,x.holds⟩ }
theorem fP.jf{w:World}{bv bm bo k b:Nat}{G:Lg}{m:Lm}{x:Tg}(h:bu w bv bm bo G m)(hx:G.tr[k]?=some x)(hb:m.tb[k]?=some b)(p:Int):bu (w.setCell ⟨b,2,none⟩ (.int .i64 p)) bv bm bo (G.jf k x p) m:=by
 have hblk:=h.aO.aB k b x hb hx
 have kk:au (fun y=>y=b) w (w.setCell ⟨b,2,none⟩ (.int .i64 p)):=(au.refl (fun y=>y=b) w).setCell (p:=⟨b,2,none⟩) (.inl rfl) _
 refine⟨kk.aB h.dA (az.ne h.dA hblk (by decide)),?_⟩
 have ht:=aG h.aO.jq kk (fun y hy e=>bV h.aO.jq hy hblk (by decide) e)
 refine⟨?_,aG h.aO.iF kk (fun y hy e=>bV h.aO.iF hy hblk (by decide) e),by simp[Lg.jf,h.aO.len],fun i b' g hi hg=>?_,h.aO.nodup,h.aO.act.aC kk (fun y hy e=>?_),aG h.aO.kH kk (fun y hy e=>bV h.aO.kH hy hblk (by decide) e),h.aO.jb⟩
 ·simp only[Lg.jf,List.length_set];exact ht
 ·simp only[Lg.jf]at hg
  by_cases e:i=k
  ·subst e
   obtain rfl:b'=b:=by rw[hb]at hi;exact (Option.some.inj hi).symm
   have hlt:i<G.tr.length:=(List.getElem?_eq_some_iff.1 hx).1
   rw[List.getElem?_set_self hlt]at hg
   obtain rfl:=Option.some.inj hg
   exact hblk.set 2 _
  ·rw[List.getElem?_set_ne (fun h=>e h.symm)]at hg
   refine kk.aB (h.aO.aB i b' g hi hg) (fun e2=>e ?_)
   subst e2
   obtain⟨h1,e1⟩:=List.getElem?_eq_some_iff.1 hi
   obtain⟨h2,e2⟩:=List.getElem?_eq_some_iff.1 hb
   rcases Nat.lt_trichotomy i k with hlt|hlt|hlt
   ·exact absurd (e1.trans e2.symm) (List.pairwise_iff_getElem.1 h.aO.nodup i k h1 h2 hlt)
   ·exact hlt
   ·exact absurd (e2.trans e1.symm) (List.pairwise_iff_getElem.1 h.aO.nodup k i h2 h1 hlt)
 ·obtain⟨c,t,hc,ht'⟩:=h.aO.act.fZ hy
  subst e
  exact az.ne hc hblk (by rcases ht' with rfl|rfl <;> decide) rfl
def held(tr:List Tg):List Tr:=(tr.filter (·.holds)).map (·.t)
theorem dD(a b:List Tg):held (a++b)=held a++held b:=by simp[held,List.filter_append]
theorem jy(x:Tg):held [x]=if x.holds then [x.t] else []:=by
 unfold held
 cases h:x.holds <;> simp[h]
theorem zG{tr:List Tg}{t:Tr}(h:t∈held tr):∃x∈tr,x.t=t:=by
 simp only[held,List.mem_map,List.mem_filter]at h
 obtain⟨x,⟨hx,_⟩,e⟩:=h
 exact⟨x,hx,e⟩
theorem Ar{tr:List Tg}{k:Nat}{x:Tg}(hx:tr[k]?=some x):tr=tr.take k++[x]++tr.drop (k+1):=by
 obtain⟨hk,e⟩:=List.getElem?_eq_some_iff.1 hx
 rw[<-e,List.append_assoc,List.singleton_append,List.getElem_cons_drop,List.take_append_drop]
theorem pU{tr:List Tg}{k:Nat}{x:Tg}(hk:k<tr.length):tr.set k x=tr.take k++[x]++tr.drop (k+1):=by
 rw[List.set_eq_take_append_cons_drop,if_pos hk,List.append_assoc,List.singleton_append]
def uQ(f:Tr->Int):List Tr->Int
 | []=>0
 | t :: l=>f t+uQ f l
theorem iY(f:Tr->Int)(a b:List Tr):uQ f (a++b)=uQ f a+uQ f b:=by
 induction a with
 | nil=>simp[uQ]
 | cons t l ih=>simp only[List.cons_append,uQ,ih];omega
theorem NS{f:Tr->Int}{l:List Tr}(h:∀t∈l,f t=0):uQ f l=0:=by
 induction l with
 | nil=>rfl
 | cons t l ih=>simp only[uQ];rw[h t (by simp),ih (fun x hx=>h x (by simp[hx]))];omega
theorem Io{f:Tr->Int}{l:List Tr}(h:∀t∈l,0<=f t):0<=uQ f l:=by
 induction l with
 | nil=>exact Int.le_refl _
 | cons t l ih =>
   simp only[uQ]
   have:=h t (by simp)
   have:=ih (fun x hx=>h x (by simp[hx]))
   omega
def tq(side id:Int)(t:Tr):Int:=if side=0 then (if t.kZ=id then t.aI else 0) else (if t.fM=id then t.aI else 0)
theorem NY{side id:Int}{t:Tr}(h:0<=t.aI):0<=tq side id t:=by unfold tq;repeat (first|split|omega)
structure TW(om:Nat->Ord)(aU:Int->Option Nat)(t:Tr):Prop where
 kZ:∃b,aU t.kZ=some b/\(om b).sym=t.sym/\(om b).side=0
 fM:∃b,aU t.fM=some b/\(om b).sym=t.sym/\(om b).side=1
 aI:1<=t.aI
structure FL(om:Nat->Ord)(aU:Int->Option Nat)(hl:List Tr)(ex:Int->Int):Prop where
 tw:∀t∈hl,TW om aU t
 sK:∀id b,aU id=some b->(om b).id=id
 eq:∀id b,aU id=some b->(om b).filled=uQ (tq (om b).side id) hl+ex id
theorem TW.kJ{om dG:Nat->Ord}{aU:Int->Option Nat}{t:Tr}(h:TW om aU t)(he:∀x,(dG x).sym=(om x).sym/\(dG x).side=(om x).side):TW dG aU t:=by
 obtain⟨⟨b,h1,h2,h3⟩,⟨c,g1,g2,g3⟩,hq⟩:=h
 exact⟨⟨b,h1,by rw[(he b).1];exact h2,by rw[(he b).2];exact h3⟩,⟨c,g1,by rw[(he c).1];exact g2,by rw[(he c).2];exact g3⟩,hq⟩
theorem FL.kJ{om dG:Nat->Ord}{aU:Int->Option Nat}{hl:List Tr}{ex:Int->Int}(h:FL om aU hl ex)(he:∀x,(dG x).sym=(om x).sym/\(dG x).side=(om x).side/\(dG x).id=(om x).id/\(dG x).filled=(om x).filled):FL dG aU hl ex :=
 ⟨fun t ht=>(h.tw t ht).kJ (fun x=>⟨(he x).1,(he x).2.1⟩),fun id b hb=>(he b).2.2.1.trans (h.sK id b hb),fun id b hb=>by rw[(he b).2.2.2,(he b).2.1];exact h.eq id b hb⟩
theorem Px{oc s:Nat}{M:Int}{st:MS}{aU:Int->Option Nat}(hM:M<=1000000000000000)(iv:qN oc s st)(hn:0<st.B.n s)(hp:0<(st.om oc).aK)(hq:∀x,(x=oc\/kX st s x)->Qo M (st.om x))
 (hs:s<2) (hoc:aU (st.om oc).id=some oc) (how:∀x,kX st s x->aU (st.om x).id=some x/\(st.om x).sym=st.B.sym) (dM:(st.om oc).sym=st.B.sym)
 (h:FL st.om aU (held st.lg.tr) (fun _=>0)):FL (bz oc s st).om aU (held (bz oc s st).lg.tr) (fun _=>0):=by
 obtain⟨B,om,lg⟩:=st
 simp only at hn hp hoc how dM h hq
 have hr:=iv.mem 0 hn
 simp only at hr
 obtain⟨hs0,hpos,hmax,hne⟩:=hr
 have hrm:kX ⟨B,om,lg⟩ s (B.h s 0):=⟨0,hn,rfl⟩
 have qr:Qo M (om (B.h s 0)):=hq _ (.inr hrm)
 have qc:Qo M (om oc):=hq _ (.inl rfl)
 have hsc:(om oc).side=1-(s:Int):=iv.side
 obtain⟨ho1,ho2⟩:=how _ hrm
 unfold bz
 simp only
 generalize B.h s 0=ow at *
 by_cases ho:(om ow).aA=(om oc).aA
 ·rw[if_pos ho]
  refine h.kJ (fun x=>?_)
  by_cases e:x=ow
  ·simp only[e,aj];exact⟨rfl,rfl,rfl,rfl⟩
  ·simp only[ah _ _ e];exact⟨trivial,trivial,trivial,trivial⟩
 ·rw[if_neg ho]
  simp only
  have q1:0<=min (om oc).aK (om ow).aK:=by omega
  obtain⟨_,_,c3⟩:=qc.fill (q:=min (om oc).aK (om ow).aK) q1 (by omega) hM
  obtain⟨_,_,w3⟩:=qr.fill (q:=min (om oc).aK (om ow).aK) q1 (by omega) hM
  have eoc:aT om oc ow oc=iI (om oc) (min (om oc).aK (om ow).aK):=by simp only[aT];rw[ah _ _ (fun e=>hne e.symm),aj]
  have eow:aT om oc ow ow=iI (om ow) (min (om oc).aK (om ow).aK):=by simp only[aT,aj]
  have eot:∀x,x≠oc->x≠ow->aT om oc ow x=om x:=fun x h1 h2=>by simp only[aT];rw[ah _ _ h2,ah _ _ h1]
  have dH:∀x,(aT om oc ow x).sym=(om x).sym/\(aT om oc ow x).side=(om x).side/\(aT om oc ow x).id=(om x).id:=fun x=>by
   by_cases e1:x=oc
   ·rw[e1,eoc];exact⟨rfl,rfl,rfl⟩
   ·by_cases e2:x=ow
    ·rw[e2,eow];exact⟨rfl,rfl,rfl⟩
    ·rw[eot x e1 e2];exact⟨rfl,rfl,rfl⟩
  have htr:held ((dh lg om oc ow).jG (iG B om oc ow)).tr=held lg.tr++[(dh lg om oc ow).iC (iG B om oc ow)]:=by
   show held ((dh lg om oc ow).tr++[⟨(dh lg om oc ow).iC (iG B om oc ow),true⟩])=_
   rw[dD,jy,gu]
   rfl
  rw[htr]
  have hT:∀side id,tq side id ((dh lg om oc ow).iC (iG B om oc ow))=if side=0 then (if (if (om oc).side=1 then (om ow).id else (om oc).id)=id then min (om oc).aK (om ow).aK else 0) else (if (if (om oc).side=1 then (om oc).id else (om ow).id)=id then min (om oc).aK (om ow).aK else 0):=fun side id=>rfl
  have s01:s=0\/s=1:=by omega
  refine⟨fun t ht=>?_,fun id b hb=>(dH b).2.2.trans (h.sK id b hb),fun id b hb=>?_⟩
  ·rcases List.mem_append.1 ht with ht|ht
   ·exact (h.tw t ht).kJ (fun x=>⟨(dH x).1,(dH x).2.1⟩)
   ·simp only[List.mem_singleton]at ht
    subst ht
    have hqq:1<=min (om oc).aK (om ow).aK:=by omega
    rcases s01 with e|e
    ·subst e
     have hs1:(om oc).side=1:=by simpa using hsc
     refine⟨⟨ow,?_,(dH ow).1.trans ho2,(dH ow).2.1.trans (by simpa using hs0)⟩,⟨oc,?_,(dH oc).1.trans dM,(dH oc).2.1.trans hs1⟩,hqq⟩
     ·show aU (if (om oc).side=1 then (om ow).id else (om oc).id)=_
      rw[if_pos hs1];exact ho1
     ·show aU (if (om oc).side=1 then (om oc).id else (om ow).id)=_
      rw[if_pos hs1];exact hoc
    ·subst e
     have hs1:(om oc).side=0:=by simpa using hsc
     refine⟨⟨oc,?_,(dH oc).1.trans dM,(dH oc).2.1.trans hs1⟩,⟨ow,?_,(dH ow).1.trans ho2,(dH ow).2.1.trans (by simpa using hs0)⟩,hqq⟩
     ·show aU (if (om oc).side=1 then (om ow).id else (om oc).id)=_
      rw[if_neg (by omega)];exact hoc
     ·show aU (if (om oc).side=1 then (om oc).id else (om ow).id)=_
      rw[if_neg (by omega)];exact ho1
  ·rw[iY,(dH b).2.1]
   have h0:=h.eq id b hb
   have hid:=h.sK id b hb
   simp only[uQ,hT,Int.add_zero]at h0 ⊢
   by_cases e1:b=oc
   ·subst e1
    rw[eoc,c3,h0]
    rcases s01 with e|e
    ·subst e
     have hs1:(om b).side=1:=by simpa using hsc
     simp[hs1,hid]
    ·subst e
     have hs1:(om b).side=0:=by simpa using hsc
     simp[hs1,hid]
   ·by_cases e2:b=ow
    ·subst e2
     rw[eow,w3,h0]
     rcases s01 with e|e
     ·subst e
      have hs1:(om oc).side=1:=by simpa using hsc
      have hsw:(om b).side=0:=by simpa using hs0
      simp[hs1,hsw,hid]
     ·subst e
      have hs1:(om oc).side=0:=by simpa using hsc
      have hsw:(om b).side=1:=by simpa using hs0
      simp[hs1,hsw,hid]
    ·rw[eot b e1 e2,h0]
     have n1:(om oc).id≠id:=fun e=>e1 (by rw[e,hb]at hoc;exact Option.some.inj hoc)
     have n2:(om ow).id≠id:=fun e=>e2 (by rw[e,hb]at ho1;exact Option.some.inj ho1)
     have z1:(if (om oc).side=1 then (om ow).id else (om oc).id)≠id:=by split <;> assumption
     have z2:(if (om oc).side=1 then (om oc).id else (om ow).id)≠id:=by split <;> assumption
     rw[if_neg z1,if_neg z2]
     split <;> omega
theorem Cj{oc s:Nat}{M:Int}{aU:Int->Option Nat}(hM:M<=1000000000000000)(hs:s<2):∀(f:Nat) (st:MS),qN oc s st->dX (fG st.om) (st.B.n s) (st.B.h s)->(∀x,(x=oc\/kX st s x)->Qo M (st.om x)) ->
 aU (st.om oc).id=some oc->(∀x,kX st s x->aU (st.om x).id=some x/\(st.om x).sym=st.B.sym)->(st.om oc).sym=st.B.sym ->
 FL st.om aU (held st.lg.tr) (fun _=>0)->FL (aZ oc s f st).om aU (held (aZ oc s f st).lg.tr) (fun _=>0):=by
 intro f
 induction f with
 | zero=>intro st _ _ _ _ _ _ h;exact h
 | succ f ih =>
   intro st iv hh hq hoc how dM h
   rw[aZ]
   split
   ·exact h
   ·rename_i hst
    obtain⟨hn,hp⟩:=lS hst
    have r1:=xx hM iv hn hp hh hq
    have hb:(bz oc s st).B.sym=st.B.sym:=by
     unfold bz
     split
     ·rfl
     ·show (dO st.B st.om oc (st.B.h s 0) s).sym=_
      unfold dO
      split <;> rfl
    refine ih _ r1.inv r1.heap (fun x hx=>r1.q x (hx.imp_right (r1.mem x))) ?_ (fun x hx=>?_) ?_ (Px hM iv hn hp hq hs hoc how dM h)
    ·rw[(r1.dH oc).1];exact hoc
    ·obtain⟨a,b⟩:=how x (r1.mem x hx)
     exact⟨by rw[(r1.dH x).1];exact a,by rw[(r1.dH x).2.2.1,hb];exact b⟩
    ·rw[(r1.dH oc).2.2.1,hb];exact dM
theorem KJ{oc:Nat}{st:MS}{aU:Int->Option Nat}{hl:List Tr}{ex:Int->Int}(h:FL st.om aU hl ex):FL (aF oc st) aU hl ex:=by
 refine h.kJ (fun x=>?_)
 by_cases e:x=oc
 ·subst e
  unfold aF
  split
  ·simp only[aj];exact⟨trivial,trivial,trivial,trivial⟩
  ·simp only[aj,fU];exact⟨trivial,trivial,trivial,trivial⟩
 ·rw[qh oc st e];exact⟨rfl,rfl,rfl,rfl⟩
theorem Vz{om:Nat->Ord}{b:Nat}{o':Ord}{n:Nat}{h:Nat->Nat}(hp:dX (fG om) n h)(hb:∀k,k<n->h k≠b):dX (fG (aN om b o')) n h :=
 hp.kJ (fun j k hj hk=>rD (by rw[ah _ _ (hb j hj)];exact⟨rfl,rfl,rfl⟩) (by rw[ah _ _ (hb k hk)];exact⟨rfl,rfl⟩))
theorem FL.enter{om:Nat->Ord}{aU:Int->Option Nat}{hl:List Tr}(h:FL om aU hl (fun _=>0)){b:Nat}{o:iL}(hfree:aU o.id=none)(hb:∀id,aU id≠some b) :
 FL (aN om b (aJ o)) (fun id=>if id=o.id then some b else aU id) hl (fun _=>0):=by
 have lW:∀id x,aU id=some x->aN om b (aJ o) x=om x:=fun id x hx=>ah _ _ (fun e=>hb id (e▸hx))
 have nid:∀id x,aU id=some x->id≠o.id:=fun id x hx e=>by rw[e,hfree]at hx;simp at hx
 have tw:∀t∈hl,TW (aN om b (aJ o)) (fun id=>if id=o.id then some b else aU id) t:=fun t ht=>by
  obtain⟨⟨x,h1,h2,h3⟩,⟨y,g1,g2,g3⟩,hq⟩:=h.tw t ht
  exact⟨⟨x,by rw[if_neg (nid _ x h1)];exact h1,by rw[lW _ x h1];exact h2,by rw[lW _ x h1];exact h3⟩,⟨y,by rw[if_neg (nid _ y g1)];exact g1,by rw[lW _ y g1];exact g2,by rw[lW _ y g1];exact g3⟩,hq⟩
 refine⟨tw,fun id x hx=>?_,fun id x hx=>?_⟩
 ·by_cases e:id=o.id
  ·rw[if_pos e]at hx
   obtain rfl:=Option.some.inj hx
   rw[aj,e];rfl
  ·rw[if_neg e]at hx
   rw[lW id x hx];exact h.sK id x hx
 ·by_cases e:id=o.id
  ·rw[if_pos e]at hx
   obtain rfl:=Option.some.inj hx
   rw[aj]
   rw[NS (fun t ht=>?_)]
   ·rfl
   ·obtain⟨⟨x,h1,_⟩,⟨y,g1,_⟩,_⟩:=h.tw t ht
    unfold tq
    rw[e,if_neg (nid _ x h1),if_neg (nid _ y g1)]
    split <;> rfl
  ·rw[if_neg e]at hx
   rw[lW id x hx];exact h.eq id x hx
def LX(lg:Lg):Prop:=∀x∈lg.tr,x.t.sym.size<=100000
def oD(R:List Rc):Prop:=∀(i:Nat) (r:Rc),R[i]?=some r->r.num=(i:Int)+1/\r.t.sym.size<=100000
theorem oD.nil:oD []:=fun i r h=>by simp at h
theorem oD.iT{R:List Rc}(h:oD R){r:Rc}(h1:r.num=(R.length:Int)+1)(h2:r.t.sym.size<=100000):oD (R++[r]):=fun i x hx=>by
 by_cases hi:i<R.length
 ·rw[List.getElem?_append_left hi]at hx;exact h i x hx
 ·rw[List.getElem?_append_right (by omega)]at hx
  have e:i-R.length=0:=by
   cases e:i-R.length with
   | zero=>rfl
   | succ m=>rw[e]at hx;simp at hx
  rw[e]at hx
  simp only[List.getElem?_cons_zero,Option.some.injEq]at hx
  subst hx
  have:i=R.length:=by omega
  rw[this];exact⟨h1,h2⟩
theorem Qy{oc s:Nat}{st:MS}(hb:st.B.sym.size<=100000)(h1:LX st.lg)(h2:oD st.lg.tp):(bz oc s st).B.sym.size<=100000/\LX (bz oc s st).lg/\oD (bz oc s st).lg.tp:=by
 unfold bz
 split
 ·exact⟨hb,h1,h2⟩
 ·refine⟨?_,fun x hx=>?_,?_⟩
  ·simp only[dO];split <;> exact hb
  ·simp only[Lg.jG,Lg.told,Lg.aC,Lg.aV,gu,List.mem_append,List.mem_singleton]at hx
   rcases hx with hx|hx
   ·exact h1 x hx
   ·subst hx;exact hb
  ·simp only[Lg.jG,Lg.told,Lg.aC,Lg.aV,mX]
   exact h2.iT rfl hb
theorem CS{oc s:Nat}:∀(f:Nat) (st:MS),st.B.sym.size<=100000->LX st.lg->oD st.lg.tp->LX (aZ oc s f st).lg/\oD (aZ oc s f st).lg.tp:=by
 intro f
 induction f with
 | zero=>intro st _ h1 h2;exact⟨h1,h2⟩
 | succ f ih =>
   intro st hb h1 h2
   rw[aZ]
   split
   ·exact⟨h1,h2⟩
   ·obtain⟨a,b,c⟩:=Qy (oc:=oc) (s:=s) hb h1 h2
    exact ih _ a b c
def Fh(lg:Lg):Prop:=∀(k:Nat) (x:Tg),lg.tr[k]?=some x->x.t.num=(k:Int)+1
theorem Fh.set{G G':Lg}(h:Fh G){k:Nat}{x y:Tg}(hx:G.tr[k]?=some x)(hn:y.t.num=x.t.num)(e:G'.tr=G.tr.set k y):Fh G':=fun j z hz=>by
 rw[e]at hz
 have hk:=(List.getElem?_eq_some_iff.1 hx).1
 by_cases c:k=j
 ·subst c
  rw[List.getElem?_set_self hk]at hz
  rw[<-Option.some.inj hz,hn];exact h k x hx
 ·rw[List.getElem?_set_ne c]at hz
  exact h j z hz
theorem Qw{oc s:Nat}{st:MS}(h:Fh st.lg):Fh (bz oc s st).lg:=by
 unfold bz
 split
 ·exact h
 ·intro j x hx
  simp only[Lg.jG,Lg.told,Lg.aC,Lg.aV,gu]at hx
  by_cases hj:j<st.lg.tr.length
  ·rw[List.getElem?_append_left hj]at hx;exact h j x hx
  ·rw[List.getElem?_append_right (by omega)]at hx
   have e:j-st.lg.tr.length=0:=by
    cases e:j-st.lg.tr.length with
    | zero=>rfl
    | succ m=>rw[e]at hx;simp at hx
   rw[e]at hx
   simp only[List.getElem?_cons_zero,Option.some.injEq]at hx
   rw[<-hx]
   show ((dh st.lg st.om oc (st.B.h s 0)).tr.length:Int)+1=_
   rw[gu]
   omega
theorem xk{oc s:Nat}:∀(f:Nat) (st:MS),Fh st.lg->Fh (aZ oc s f st).lg
 | 0,st,h=>h
 | f+1,st,h=>by
   rw[aZ]
   split
   ·exact h
   ·exact xk f _ (Qw h)
theorem xg{oc s:Nat}:∀(f:Nat) (st:MS),(aZ oc s f st).lg.day=st.lg.day
 | 0,st=>rfl
 | f+1,st=>by
   rw[aZ]
   split
   ·rfl
   ·rw[xg f _]
    unfold bz
    split
    ·rfl
    ·show (dh st.lg st.om oc (st.B.h s 0)).day=_
     rw[qC]
structure uB(V:aQ):Prop where
 sz:∀i,i<V.nb->(V.B i).sym.size<=100
 fl:FL V.om V.aU (held V.lg.tr) (fun _=>0)
 sy:LX V.lg
 tp:oD V.lg.tp
 nm:Fh V.lg
 dy:-9223372036854775808<=V.lg.day/\V.lg.day<9223372036854775808
theorem uB.enter{V:aQ}{M:Int}(h:uB V)(g:GW V M)(hM:M<=1000000000000000){i b s t g' cap':Nat}{o:iL}{bH:Lm}(hi:i<V.nb)(hs:s<2)(dM:o.sym=(V.B i).sym)(hq1:0<=o.aI)(hq2:o.aI<=M)(hfree:V.aU o.id=none)(hb:¬VL V b)(iv:qN b s ⟨V.B i,aN V.om b (aJ o),V.lg.aX o.id⟩)(hBs:∀j,((V.enter i b s t g' cap' o bH).B j).sym=(V.B j).sym) :
 uB (V.enter i b s t g' cap' o bH):=by
 have Zu:∀id,V.aU id≠some b:=fun id e=>hb ⟨id,e⟩
 have f1:=h.fl.enter (o:=o) hfree Zu
 have Gw:∀x,Mem ((V.B i).n s) ((V.B i).h s) x->VL V x/\(V.om x).sym=(V.B i).sym:=fun x hx=>⟨(((g.gb i hi).mem s hs x).1 hx).1,(((g.gb i hi).mem s hs x).1 hx).2.1⟩
 have neb:∀x,Mem ((V.B i).n s) ((V.B i).h s) x->x≠b:=fun x hx e=>hb (e▸(Gw x hx).1)
 have f2:=Cj (M:=M) (aU:=fun id=>if id=o.id then some b else V.aU id) hM hs (mu b s ⟨V.B i,aN V.om b (aJ o),V.lg.aX o.id⟩) ⟨V.B i,aN V.om b (aJ o),V.lg.aX o.id⟩ iv
  (Vz ((g.gb i hi).heap s hs) (fun k hk=>neb _ ⟨k,hk,rfl⟩)) (fun x hx=>by
   rcases hx with rfl|hx
   ·simp only[aj];exact zV hq1 hq2
   ·simp only;rw[ah _ _ (neb x hx)];exact g.q x (Gw x hx).1) (by simp only[aj];exact if_pos rfl) (fun x hx=>by
   obtain⟨⟨id,hid⟩,hsy⟩:=Gw x hx
   have e1:=h.fl.sK id x hid
   simp only
   rw[ah _ _ (neb x hx),e1,if_neg (fun e=>by rw[e,hfree]at hid;simp at hid)]
   exact⟨hid,hsy⟩) (by simp only[aj];exact dM) f1
 obtain⟨y1,y2⟩:=CS (oc:=b) (s:=s) (mu b s ⟨V.B i,aN V.om b (aJ o),V.lg.aX o.id⟩) ⟨V.B i,aN V.om b (aJ o),V.lg.aX o.id⟩ (by show (V.B i).sym.size<=_;have:=h.sz i hi;omega) h.sy h.tp
 exact⟨fun j hj=>by rw[hBs j];exact h.sz j hj,KJ f2,y1,y2,xk _ _ h.nm,by show _<=(mF _ _ _).lg.day/\(mF _ _ _).lg.day<_;unfold mF;rw[xg];exact h.dy⟩
theorem uB.oG{V:aQ}{M M':Int}(h:uB V)(g:GW V M)(hMM:M<=M')(hM:M'<=1000000000000000){i b s t k g' cap':Nat}{o':Ord}{bH:Lm}(hi:i<V.nb)(hs:s<2)(ht:t=1-s)(hk:k<(V.B i).n t)(hb:(V.B i).h t k=b)(h1:o'.sym=(V.om b).sym)(h2:o'.side=(V.om b).side)(h3:o'.id=(V.om b).id)(h4:o'.filled=(V.om b).filled)(hq:Qo M' o')(iv:qN b s ⟨(V.B i).leave V.om t k,aN V.om b o',V.lg.dE b (V.om b)⟩)(hBs:∀j,((V.oG i b s t k g' cap' o' bH).B j).sym=(V.B j).sym) :
 uB (V.oG i b s t k g' cap' o' bH):=by
 have t2:t<2:=by omega
 have hmb:=((g.gb i hi).mem t t2 _).1 ⟨k,hk,rfl⟩
 rw[hb]at hmb
 have eN:((V.B i).leave V.om t k).n s=(V.B i).n s:=by simp only[Bk.leave];rw[ah _ _ (by omega)]
 have eH:((V.B i).leave V.om t k).h s=(V.B i).h s:=by simp only[Bk.leave];rw[ah _ _ (by omega)]
 have f1:FL (aN V.om b o') V.aU (held V.lg.tr) (fun _=>0):=h.fl.kJ (fun x=>by
  by_cases e:x=b
  ·rw[e,aj];exact⟨h1,h2,h3,h4⟩
  ·rw[ah _ _ e];exact⟨rfl,rfl,rfl,rfl⟩)
 have Gw:∀x,Mem ((V.B i).n s) ((V.B i).h s) x->VL V x/\(V.om x).sym=(V.B i).sym/\x≠b:=fun x hx=>by
  have m:=((g.gb i hi).mem s hs x).1 hx
  exact⟨m.1,m.2.1,fun e=>by have a:=m.2.2.1;rw[e,hmb.2.2.1]at a;omega⟩
 obtain⟨⟨idb,ZE⟩,hsb,_⟩:=hmb
 have f2:=Cj (M:=M') (aU:=V.aU) hM hs (mu b s ⟨(V.B i).leave V.om t k,aN V.om b o',V.lg.dE b (V.om b)⟩) ⟨(V.B i).leave V.om t k,aN V.om b o',V.lg.dE b (V.om b)⟩ iv
  (by simp only[eN,eH];exact Vz ((g.gb i hi).heap s hs) (fun k hk=>(Gw _ ⟨k,hk,rfl⟩).2.2)) (fun x hx=>by
   rcases hx with rfl|hx
   ·simp only[aj];exact hq
   ·simp only[kX,eN,eH]at hx
    simp only;rw[ah _ _ (Gw x hx).2.2];exact (g.q x (Gw x hx).1).mono hMM) (by simp only[aj];rw[h3,h.fl.sK idb b ZE];exact ZE) (fun x hx=>by
   simp only[kX,eN,eH]at hx
   obtain⟨⟨id,hid⟩,hsy,hne⟩:=Gw x hx
   have e1:=h.fl.sK id x hid
   simp only
   rw[ah _ _ hne,e1]
   exact⟨hid,hsy⟩) (by simp only[aj];rw[h1,hsb];rfl) f1
 obtain⟨y1,y2⟩:=CS (oc:=b) (s:=s) (mu b s ⟨(V.B i).leave V.om t k,aN V.om b o',V.lg.dE b (V.om b)⟩) ⟨(V.B i).leave V.om t k,aN V.om b o',V.lg.dE b (V.om b)⟩ (by show (V.B i).sym.size<=_;have:=h.sz i hi;omega) h.sy h.tp
 exact⟨fun j hj=>by rw[hBs j];exact h.sz j hj,KJ f2,y1,y2,xk _ _ h.nm,by show _<=(mF _ _ _).lg.day/\(mF _ _ _).lg.day<_;unfold mF;rw[xg];exact h.dy⟩
theorem uB.of{V:aQ}(h:uB V){V':aQ}(hnb:V'.nb=V.nb)(hB:∀j,(V'.B j).sym=(V.B j).sym)(ho:V'.aU=V.aU)(hm:∀x,(V'.om x).sym=(V.om x).sym/\(V'.om x).side=(V.om x).side/\(V'.om x).id=(V.om x).id/\(V'.om x).filled=(V.om x).filled)(h1:V'.lg.tr=V.lg.tr)(h2:V'.lg.tp=V.lg.tp)(h3:V'.lg.day=V.lg.day):uB V':=by
 refine⟨fun i hi=>by rw[hB i];exact h.sz i (by omega),by rw[ho,h1];exact h.fl.kJ hm,fun x hx=>h.sy x (by rw[h1]at hx;exact hx),by rw[h2];exact h.tp,fun k x hx=>h.nm k x (by rw[<-h1];exact hx),by rw[h3];exact h.dy⟩
theorem FL.mi{om dG:Nat->Ord}{aU:Int->Option Nat}{hl:List Tr}{ex Ci:Int->Int}(h:FL om aU hl ex){id q:Int}{b:Nat}(hid:aU id=some b)(kQ:∀x,x≠b->dG x=om x)
 (h1:(dG b).sym=(om b).sym) (h2:(dG b).side=(om b).side) (h3:(dG b).id=(om b).id) (h4:(dG b).filled=(om b).filled-q) (e1:Ci id=ex id-q) (e2:∀j,j≠id->Ci j=ex j):FL dG aU hl Ci:=by
 have st:∀x,(dG x).sym=(om x).sym/\(dG x).side=(om x).side/\(dG x).id=(om x).id:=fun x=>by
  by_cases e:x=b
  ·rw[e];exact⟨h1,h2,h3⟩
  ·rw[kQ x e];exact⟨rfl,rfl,rfl⟩
 refine⟨fun t ht=>(h.tw t ht).kJ (fun x=>⟨(st x).1,(st x).2.1⟩),fun j x hx=>(st x).2.2.trans (h.sK j x hx),fun j x hx=>?_⟩
 rw[(st x).2.1]
 have h0:=h.eq j x hx
 by_cases e:j=id
 ·subst e
  rw[hid]at hx
  obtain rfl:=Option.some.inj hx
  rw[h4,e1,h0];omega
 ·have hne:x≠b:=fun e2=>e (by rw[<-h.sK j x hx,e2];exact h.sK id b hid)
  rw[kQ x hne,e2 j e,h0]
def TJ(t:Tr)(j:Int):Int:=(if j=t.kZ then t.aI else 0)+(if j=t.fM then t.aI else 0)
theorem FL.lC{om:Nat->Ord}{aU:Int->Option Nat}{tr:List Tg}{k:Nat}{x:Tg}(h:FL om aU (held tr) (fun _=>0))(hx:tr[k]?=some x)(hh:x.holds=true):FL om aU (held (tr.set k ⟨x.t,false⟩)) (TJ x.t)/\TW om aU x.t:=by
 have hl:=(List.getElem?_eq_some_iff.1 hx).1
 have e:held tr=held (tr.take k)++(if x.holds then [x.t] else [])++held (tr.drop (k+1)):=by
  have e:=congrArg held (Ar hx)
  rw[dD,dD,jy]at e
  exact e
 rw[hh,if_pos rfl]at e
 have e2:held (tr.set k ⟨x.t,false⟩)=held (tr.take k)++held (tr.drop (k+1)):=by
  rw[pU hl,dD,dD,jy]
  simp
 have hT:TW om aU x.t:=h.tw x.t (by rw[e];simp)
 rw[e2]
 rw[e]at h
 refine⟨⟨fun t ht=>h.tw t (by
  rcases List.mem_append.1 ht with a|a
  ·simp[a]
  ·simp[a]),h.sK,fun id b hb=>?_⟩,hT⟩
 have h0:=h.eq id b hb
 rw[iY,iY]at h0
 rw[iY,h0]
 simp only[uQ]
 obtain⟨⟨bx,b1,b2,b3⟩,⟨sx,s1,s2,s3⟩,_⟩:=hT
 have key:tq (om b).side id x.t=TJ x.t id:=by
  unfold tq TJ
  by_cases c1:id=x.t.kZ
  ·have hb':b=bx:=by rw[c1,b1]at hb;exact (Option.some.inj hb).symm
   have n2:¬id=x.t.fM:=fun c2=>by
    rw[c2,s1]at hb
    have:sx=bx:=(Option.some.inj hb).trans hb'
    rw[this,b3]at s3
    omega
   rw[hb',b3,if_pos rfl,if_pos c1.symm,if_pos c1,if_neg n2];omega
  ·by_cases c2:id=x.t.fM
   ·have hs':b=sx:=by rw[c2,s1]at hb;exact (Option.some.inj hb).symm
    rw[hs',s3,if_neg (by decide),if_pos c2.symm,if_neg c1,if_pos c2];omega
   ·have n1:¬x.t.kZ=id:=fun e=>c1 e.symm
    have n2:¬x.t.fM=id:=fun e=>c2 e.symm
    simp only[if_neg n1,if_neg n2,if_neg c1,if_neg c2]
    split <;> rfl
 omega
theorem zq(b:Nat)(o:Ord)(ix:Int)(w:World)(ho:df w b o ix) :
 Calls Tryz.prog 78 #[.pointer (some ⟨b,0,none⟩)] w fun e w'=>e=.returned (.func (.func 151) #[] #[.pointer (some ⟨w.heap.size+1,0,none⟩),.pointer (some ⟨w.heap.size,0,none⟩)])/\wQ w' w.heap.size b o/\df w' b { o with aK:=0,exp:=wrap64 (o.exp+o.aK) } ix/\au (fun x=>x=b) w w':=by
 have HA:=ai (mQ b o ix w ho)
 have lo:=ho.lt
 go_enter Tryz.func78,Tryz.ntmps78
 go_wp2_with fail
 refine (ae HA).mono ?_
 rintro e w1 ⟨rfl,n1,k1⟩
 have ho1:=k1.aB ho (fun x=>x)
 have h8:w1.cell? ⟨b,8,none⟩=some (.int .i64 o.aK):=az.cell ho1 8
 have h10:w1.cell? ⟨b,11,none⟩=some (.int .i64 o.exp):=az.cell ho1 11
 have f8:=az.frozen ho1 8
 have f10:=az.frozen ho1 11
 go_wp2
 go_region
 go_wp2
 go_ret
 have k2:=(((au.refl (fun x=>x=b) w1).setCell (p:=⟨b,11,none⟩) (.inl rfl) (.int .i64 (wrap64 (o.exp+o.aK)))).setCell (p:=⟨b,8,none⟩) (.inl rfl) (.int .i64 0)).drew
 refine⟨rfl,n1.aC k2 (by omega) (by omega),?_,k1.bI.trans k2⟩
 have:=(ho1.set 11 (.int .i64 (wrap64 (o.exp+o.aK)))).set 8 (.int .i64 0)
 exact this
theorem BN(bb b:Nat)(B:Bk)(om:Nat->Ord)(L:Nat->Prop)(w:World)(m:Mk w bb B om L)(hb:L b) :
 Calls Tryz.prog 78 #[.pointer (some ⟨b,0,none⟩)] w fun e w'=>∃fn cp,e=.returned (.func fn #[] cp)/\jr w' b (om b) w.heap.size fn cp/\Mk w' bb B (aN om b (gm (om b))) L/\au (fun x=>x=b) w w':=by
 obtain⟨ix,ho⟩:=m.bg b hb
 refine (zq b (om b) ix w ho).mono ?_
 rintro e w' ⟨rfl,h0,h1,h2⟩
 exact⟨_,_,rfl,⟨rfl,_,Nat.le_refl _,rfl,h0⟩,m.aN ho h2 h1,h2⟩
theorem Qo.WV{M:Int}{o:Ord}(h:Qo M o)(hM:M<=1000000000000000):Qo M (gm o)/\(gm o).aK=0:=by
 obtain⟨a,b,c,d,e,f⟩:=h
 have e1:(gm o).exp=o.exp+o.aK:=by simp only[gm];exact aS (by omega) (by omega)
 refine⟨⟨?_,Int.le_refl _,c,d,by rw[e1];omega,f⟩,rfl⟩
 show o.entered=0+o.filled+o.bQ+(gm o).exp
 rw[e1];omega
theorem yG{w:World}{ops:Array Oper}{rest:List Oper}{o:Oper}{a:Act}{Q:Exit->Act->World->Prop}(hg:o.guard=none)(it:Operand)(hop:o.op=Op.next it false)(b r n:Nat)(D:DataW Unit)(left:Lit->Bool)(cnt:Nat)(f:Lit->Option Nat)
 (hit:a.eval it=.pointer (some ⟨r,0,none⟩)) (h:w.ranges Tryz.prog 3 je b r n D left cnt) (hf:∀kl,D.atKey kl .nil=GM (f kl)) (hl:∀kl,left kl=true->(f kl).isSome=true)
 (hDone:cnt=0->wpList Tryz.prog ops Q rest (a.put o.dst (.tuple #[.bool false])) w)
 (hMore:∀(id:Int) (x:Nat) (w':World) (cnt':Nat),left (.int .i64 id)=true->f (.int .i64 id)=some x->w'.ranges Tryz.prog 3 je b r n D (fun z=>left z && !z.sameKey (.int .i64 id)) cnt'->cnt'<cnt->w.grownBy w' (some r)->w'.heap.size=w.heap.size ->
   (Instr.entry (.pointer (some ⟨r,0,none⟩))).run Tryz.prog w'=.ok (.tuple #[.int .i64 id,.pointer (some ⟨x,0,none⟩)]) w'->wpList Tryz.prog ops Q rest (a.put o.dst (.tuple #[.bool true,.int .i64 id,.pointer (some ⟨x,0,none⟩)])) w') :
 wpList Tryz.prog ops Q (o :: rest) a w:=by
 refine wpList_plain hg fun K' hK'=>?_
 unfold Oper.wp
 rcases h.next yu o.type with⟨h0,_,hrun⟩|⟨key,v,kl,y,w',cnt',hkey,hlk,hv,hat,hrun,hrg,hlt,hgr,hsz,hen⟩
 ·simp[execOp,hop,hit,hrun,Result.andThen]
  exact hK' _ _ (hDone h0)
 ·obtain⟨x,rfl,rfl,_⟩:=Maps.keyOf_int_inv Tryz.underlying3 hkey
  have h1:=hat .nil
  rw[hf]at h1
  have h2:je v=some (GM (f (.int .i64 x)),y.2):=by rw[hv,h1]
  have h3:=yc h2
  obtain⟨c,hc⟩:=Option.isSome_iff_exists.1 (hl _ hlk)
  rw[hc]at h3
  simp only[iR]at h3
  subst h3
  simp[execOp,hop,hit,hrun,Result.andThen]
  exact hK' _ _ (hMore x c w' cnt' hlk hc hrg hlt hgr hsz hen)
theorem GV{w w':World}{b r n:Nat}{D:DataW Unit}{left:Lit->Bool}{cnt:Nat}{S:Nat->Prop}(h:w.ranges Tryz.prog 3 je b r n D left cnt)(k:au S w w')(hb':¬S b)(hr':¬S r):w'.ranges Tryz.prog 3 je b r n D left cnt:=by
 have h1:=h.owns.lt
 have h2:=h.lt
 obtain⟨es,clock,since,seen,c0,hb,F,hs,hD,hr,rest⟩:=h
 exact⟨es,clock,since,seen,c0,(k.block b h1 hb').trans hb,F,hs,hD,(k.block r h2 hr').trans hr,rest⟩
theorem sS{w:World}{b r n:Nat}{D:DataW Unit}{left:Lit->Bool}{cnt:Nat}(h:w.ranges Tryz.prog 3 je b r n D left cnt){y:Nat}{c:Array Value}{t:TypeId}(hy:az w y c t):b≠y/\r≠y:=by
 obtain⟨es,clock,since,seen,c0,hb,F,hs,hD,hr,rest⟩:=h
 unfold az at hy
 constructor
 ·rintro rfl;rw[hb]at hy;simp at hy
 ·rintro rfl;rw[hr]at hy;simp at hy
theorem dN.MN{w:World}{bv bm bo:Nat}{V:aQ}(R:dN w bv bm bo V){x:Nat}{a:Option Nat}{b:Nat}{c:Array Nat}{d:Nat}(hb:w.heap[x]?=some (.mapIter a b c d)):¬dI bv bm bo V x:=by
 obtain⟨fB,⟨_,⟨_,_,mB,_⟩,_⟩,_⟩:=R.ik
 obtain⟨fO,⟨_,⟨_,_,mO,_⟩,_⟩,_⟩:=R.fD
 have no:∀{y c t},az w y c t->x≠y:=fun h e=>by
  subst e
  unfold az at h
  rw[hb]at h
  simp at h
 rintro (e|e|e|⟨i,hi,e|⟨s,hs,e⟩⟩|⟨id,e⟩|e)
 ·exact no R.dA e
 ·rw[e,mB]at hb;simp at hb
 ·rw[e,mO]at hb;simp at hb
 ·exact no (R.aW i hi).aB e
 ·obtain⟨c,t,hc,_⟩:=(R.qQ hi).fZ (.inr (.inr ⟨s,hs,e⟩))
  exact no hc rfl
 ·obtain⟨_,ix,ho⟩:=R.bg id x e
  exact no ho rfl
 ·obtain⟨c,t,hc,_⟩:=R.aO.aO.fZ e
  exact no hc rfl
theorem fP.QV{w:World}{bv bm bo:Nat}{G:Lg}{m:Lm}(h:bu w bv bm bo G m)(d:Int):bu (w.setCell ⟨bv,4,none⟩ (.int .i64 d)) bv bm bo { G with day:=d } m/\au (fun y=>y=bv) w (w.setCell ⟨bv,4,none⟩ (.int .i64 d)):=by
 have kk:au (fun y=>y=bv) w (w.setCell ⟨bv,4,none⟩ (.int .i64 d)):=(au.refl (fun y=>y=bv) w).setCell (p:=⟨bv,4,none⟩) (.inl rfl) _
 have hl:=h.aO.aC kk (fun y hy e=>h.Jb (e▸hy))
 exact⟨⟨h.dA.set 4 _,⟨hl.jq,hl.iF,hl.len,hl.aB,hl.nodup,hl.act,hl.kH,hl.jb⟩⟩,kk⟩
theorem Qo.eY{M:Int}{o:Ord}(h:Qo M o)(hM:M<=1000000000000000){q:Int}(h1:0<=q)(h2:q<=o.filled):Qo M (eY o q)/\(Go.Proofs.YtigaphnafnpfnaaGreatDoor.eY o q).filled=o.filled-q:=by
 obtain⟨a,b,c,d,e,f⟩:=h
 have e1:(Go.Proofs.YtigaphnafnpfnaaGreatDoor.eY o q).filled=o.filled-q:=by simp only[Go.Proofs.YtigaphnafnpfnaaGreatDoor.eY];exact aS (by omega) (by omega)
 have e2:(Go.Proofs.YtigaphnafnpfnaaGreatDoor.eY o q).bQ=o.bQ+q:=by simp only[Go.Proofs.YtigaphnafnpfnaaGreatDoor.eY];exact aS (by omega) (by omega)
 refine⟨⟨?_,b,by rw[e1];omega,by rw[e2];omega,e,f⟩,e1⟩
 show o.entered=o.aK+(Go.Proofs.YtigaphnafnpfnaaGreatDoor.eY o q).filled+(Go.Proofs.YtigaphnafnpfnaaGreatDoor.eY o q).bQ+o.exp
 rw[e1,e2];omega
theorem Qo.fF{M:Int}{o:Ord}(h:Qo M o)(hM:M<=1000000000000000){q:Int}(h1:0<=q)(h2:q<=o.filled)(p:Int):Qo M { fF o q with place:=p }/\(Go.Proofs.YtigaphnafnpfnaaGreatDoor.fF o q).filled=o.filled-q/\(Go.Proofs.YtigaphnafnpfnaaGreatDoor.fF o q).aK=o.aK+q:=by
 obtain⟨a,b,c,d,e,f⟩:=h
 have e1:(Go.Proofs.YtigaphnafnpfnaaGreatDoor.fF o q).filled=o.filled-q:=by simp only[Go.Proofs.YtigaphnafnpfnaaGreatDoor.fF];exact aS (by omega) (by omega)
 have e2:(Go.Proofs.YtigaphnafnpfnaaGreatDoor.fF o q).aK=o.aK+q:=by simp only[Go.Proofs.YtigaphnafnpfnaaGreatDoor.fF];exact aS (by omega) (by omega)
 refine⟨⟨?_,?_,?_,d,e,f⟩,e1,e2⟩
 ·show o.entered=(Go.Proofs.YtigaphnafnpfnaaGreatDoor.fF o q).aK+(Go.Proofs.YtigaphnafnpfnaaGreatDoor.fF o q).filled+o.bQ+o.exp
  rw[e1,e2];omega
 ·show 0<=(Go.Proofs.YtigaphnafnpfnaaGreatDoor.fF o q).aK
  rw[e2];omega
 ·show 0<=(Go.Proofs.YtigaphnafnpfnaaGreatDoor.fF o q).filled
  rw[e1];omega
theorem LC{B:Bk}{dG:Nat->Ord}{t b g cap' y x:Nat}(h:dC (B.rest dG t b g cap') y x):dC B y x\/x=b\/x=g:=by
 by_cases e:y=t
 ·subst e
  rcases h with h|⟨k,hk,h⟩
  ·simp only[Bk.rest,aj,gG,Option.some.injEq]at h
   exact .inr (.inr h.symm)
  ·simp only[Bk.rest,aj]at hk h
   rcases (iP (lt:=fG dG) (B.h y) b _).1 ⟨k,hk,rfl⟩ with h'|h'
   ·obtain⟨k',hk',e'⟩:=h'
    exact .inl (.inr ⟨k',hk',by rw[h,e']⟩)
   ·exact .inr (.inl (by rw[h,h']))
 ·left
  unfold dC at h ⊢
  simp only[Bk.rest,ah _ _ e]at h
  exact h
theorem Gs{B:Bk}{om:Nat->Ord}{t k y x:Nat}(hinj:qf (B.n t) (B.h t))(hk:k<B.n t)(h:dC (B.leave om t k) y x):dC B y x:=by
 by_cases e:y=t
 ·subst e
  rcases h with h|h
  ·exact .inl h
  ·have m:=(kz (om:=om) hinj hk x).1 h
   exact .inr m.1
 ·unfold dC at h ⊢
  simp only[Bk.leave,ah _ _ e]at h
  exact h
theorem qW(V:aQ)(i b:Nat)(q:Int){x:Nat}(h:x≠b):bY V i b q x=V.om x:=by unfold bY;rw[ah _ _ h,ah _ _ h]
theorem dU(V:aQ)(i b:Nat)(q:Int):bY V i b q b={ fF (V.om b) q with place:=wrap64 ((V.B i).places+1) }:=by unfold bY;rw[aj]
theorem DU{B:Bk}{om:Nat->Ord}{sym:ByteArray}{L:Nat->Prop}(gb:GB B om sym L){s t:Nat}(hs:s<2)(ht:t=1-s){o:Ord}(hk5:o.kind≠5)(hside:o.side=(t:Int))(hf:dF B om (cZ o) s=none) :
 ∀y,Mem (B.n s) (B.h s) y->if (t:Int)=0 then o.af<(om y).af else (om y).af<o.af:=by
 intro y hy
 obtain⟨k,hk,e⟩:=hy
 have hn0:B.n s≠0:=by omega
 unfold dF at hf
 rw[if_neg hn0]at hf
 have hg:iJ (cZ o).kind (cZ o).side (cZ o).af (om (B.h s 0)).af=false:=by
  split at hf
  ·simp at hf
  ·rename_i h;simpa using h
 have hb:=xX hg hk5
 have hsd:(cZ o).side=(t:Int):=hside
 rw[hsd]at hb
 have uI:∀k,k<B.n s->(om (B.h s k)).side=(s:Int):=fun k hk=>gb.side hs hk
 have hmin:=Aj (kL om (s:Int)) (gb.heap s hs) uI k hk
 have hless:=(gQ _ _).1 hmin
 rw[uI k hk]at hless
 have hap:(cZ o).af=o.af:=rfl
 rw[hap]at hb
 rw[<-e]at hless
 by_cases e0:(t:Int)=0
 ·rw[if_pos e0]at hb ⊢
  have es:¬(s:Int)=0:=by omega
  rw[if_neg es]at hless
  omega
 ·rw[if_neg e0]at hb ⊢
  have es:(s:Int)=0:=by omega
  rw[if_pos es]at hless
  omega
theorem Dl{B:Bk}{om dG:Nat->Ord}{sym:ByteArray}{L:Nat->Prop}{b s t g cap':Nat}(hs:s<2)(ht:t=1-s)(gb:GB B om sym (fun x=>L x/\x≠b))(hL:L b)(kQ:∀x,x≠b->dG x=om x)
 (h1:(dG b).sym=sym) (h2:(dG b).side=(t:Int)) (h3:0<(dG b).aK) (bad:∀y,Mem (B.n s) (B.h s) y->if (t:Int)=0 then (dG b).af<(om y).af else (om y).af<(dG b).af) :
 GB (B.rest dG t b g cap') dG sym L:=by
 have t2:t<2:=by omega
 have hts:(t:Int)≠(s:Int):=by omega
 have uw:∀x,x<2->x=s\/x=t:=by omega
 have nS:(B.rest dG t b g cap').n s=B.n s:=by simp only[Bk.rest];rw[ah _ _ (by omega)]
 have hS:(B.rest dG t b g cap').h s=B.h s:=by simp only[Bk.rest];rw[ah _ _ (by omega)]
 have nT:(B.rest dG t b g cap').n t=B.n t+1:=by simp only[Bk.rest,aj]
 have hT:(B.rest dG t b g cap').h t=tV (fG dG) (fun k=>if k=B.n t then b else B.h t k) (B.n t):=by simp only[Bk.rest,aj]
 have mT:∀x,Mem ((B.rest dG t b g cap').n t) ((B.rest dG t b g cap').h t) x↔Mem (B.n t) (B.h t) x\/x=b:=fun x=>by rw[nT,hT];exact iP _ _ _
 have ne:∀y,y<2->∀x,Mem (B.n y) (B.h y) x->x≠b/\dG x=om x:=fun y hy x hx=>by
  have:=((gb.mem y hy x).1 hx).1.2
  exact⟨this,kQ x this⟩
 have lt':∀y,y<2->dX (fG dG) (B.n y) (B.h y):=fun y hy=>(gb.heap y hy).kJ (fun j k hj hk=>by
  have a:=(ne y hy _ ⟨j,hj,rfl⟩).2
  have c:=(ne y hy _ ⟨k,hk,rfl⟩).2
  exact rD (by rw[a];exact⟨rfl,rfl,rfl⟩) (by rw[c];exact⟨rfl,rfl⟩))
 refine⟨gb.kE,fun y hy x=>?_,fun y hy=>?_,fun y hy=>?_,fun x y hx hy=>?_⟩
 ·rcases uw y hy with e|e
  ·rw[e,nS,hS]
   constructor
   ·intro hx
    obtain⟨a,c⟩:=ne s hs x hx
    have h0:=(gb.mem s hs x).1 hx
    rw[c]
    exact⟨h0.1.1,h0.2⟩
   ·rintro⟨a,c,d,f⟩
    have hne:x≠b:=fun e=>by rw[e,h2]at d;exact hts d
    rw[kQ x hne]at c d f
    exact (gb.mem s hs x).2 ⟨⟨a,hne⟩,c,d,f⟩
  ·rw[e,mT x]
   constructor
   ·rintro (hx|hx)
    ·obtain⟨a,c⟩:=ne t t2 x hx
     have h0:=(gb.mem t t2 x).1 hx
     rw[c]
     exact⟨h0.1.1,h0.2⟩
    ·rw[hx];exact⟨hL,h1,h2,h3⟩
   ·rintro⟨a,c,d,f⟩
    by_cases hne:x=b
    ·exact .inr hne
    ·rw[kQ x hne]at c d f
     exact .inl ((gb.mem t t2 x).2 ⟨⟨a,hne⟩,c,d,f⟩)
 ·rcases uw y hy with e|e
  ·rw[e,nS,hS];exact lt' s hs
  ·rw[e,nT,hT]
   refine EG (kL dG (t:Int)) _ _ h2 (fun k hk=>?_) (lt' t t2)
   rw[(ne t t2 _ ⟨k,hk,rfl⟩).2];exact gb.side t2 hk
 ·rcases uw y hy with e|e
  ·rw[e,nS,hS];exact gb.inj s hs
  ·rw[e,nT,hT]
   refine qf.up ?_ (by omega)
   intro j k hj hk e
   simp only at e
   by_cases ej:j=B.n t
   ·by_cases ek:k=B.n t
    ·omega
    ·rw[if_pos ej,if_neg ek]at e
     exact absurd e.symm (ne t t2 _ ⟨k,by omega,rfl⟩).1
   ·by_cases ek:k=B.n t
    ·rw[if_neg ej,if_pos ek]at e
     exact absurd e (ne t t2 _ ⟨j,by omega,rfl⟩).1
    ·rw[if_neg ej,if_neg ek]at e
     exact gb.inj t t2 j k (by omega) (by omega) e
 ·have h01:(s=0/\t=1)\/(s=1/\t=0):=by omega
  rcases h01 with⟨rfl,rfl⟩|⟨rfl,rfl⟩
  ·rw[nS,hS]at hx
   rw[mT y]at hy
   have hpx:(dG x).af=(om x).af:=by rw[(ne 0 hs x hx).2]
   rcases hy with hy|hy
   ·rw[hpx,(ne 1 t2 y hy).2];exact gb.gK x y hx hy
   ·have:=bad x hx
    rw[if_neg (by decide)]at this
    rw[hy,hpx];exact this
  ·rw[mT x]at hx
   rw[nS,hS]at hy
   have hpy:(dG y).af=(om y).af:=by rw[(ne 1 hs y hy).2]
   rcases hx with hx|hx
   ·rw[hpy,(ne 0 t2 x hx).2];exact gb.gK x y hx hy
   ·have:=bad y hy
    rw[if_pos (by decide)]at this
    rw[hx,hpy];exact this
theorem XK{o:Ord}{p on:Int}(h1:o.af=p)(h2:o.aK=on):vO ⟨o.af,0,0⟩ o=⟨p,wrap64 on,1⟩:=by
 unfold vO
 rw[h1,h2,Int.zero_add]
 have e:wrap64 (0+1)=1:=aS (by decide) (by decide)
 simp only
 rw[e]
end Go.Proofs.YtigaphnafnpfnaaGreatDoor
