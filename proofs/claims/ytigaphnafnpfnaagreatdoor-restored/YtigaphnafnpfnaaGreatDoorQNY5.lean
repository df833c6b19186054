import Derived.Test.YtigaphnafnpfnaaGreatDoorQNV21
import Derived.Deep.CutRange
import Derived.Deep.Cut
set_option linter.unusedVariables false
set_option linter.unusedSimpArgs false
set_option maxHeartbeats 8000000
set_option maxRecDepth 100000
namespace Go.Proofs.YtigaphnafnpfnaaGreatDoor
open Go.RowKit
theorem tJ.fin{p:Nat->Nat}{oc i s:Nat}{sym:ByteArray}{R0:List Rc}{yZ f0 M:Int}{st:MS}{c:RC}(h:tJ p oc i s sym R0 yZ f0 st c)(hM:M<=1000000000000000)(q:Qo M (st.om oc)) :
 (∀k,k<c.S.l.length->mW (aH oc st (p k))=mW (ax (yU i c).l k))/\(yU i c).l.length=c.S.l.length/\(∀k,k≠i->ax (yU i c).l k=ax c.S.l k) /\
  (dB (st.om oc)=true->(ax (yU i c).l i).place=wrap64 (c.S.places+1)/\(yU i c).places=wrap64 (c.S.places+1))/\(dB (st.om oc)=false->(ax (yU i c).l i).aO=0/\(yU i c).places=c.S.places)/\(yU i c).t=c.S.t/\(yU i c).told=c.S.told/\(yU i c).day=c.S.day/\(yU i c).sy=c.S.sy:=by
 obtain⟨eX,hleft,Jc,htp,TF,hbs,hfil,hcnt,TJ,hle,hf0,hf1⟩:=h;have il:=eX.il;have hself:=fK eX.self;obtain⟨s1,s2,s3,s4,s5,s6,s7,s8,s9,s10,s11,s12⟩:=hself;simp only at s1 s2 s3 s4 s5 s6 s7 s8 s9 s10 s11 s12;have pni:∀a,a<c.S.l.length->a≠i->p a≠oc:=fun a ha e e2=>e (eX.inj a i ha il (by rw[e2,eX.pi]))
 have o0:=q.o0;have Cb:∀k,k<c.S.l.length->k≠i->aH oc st (p k)=st.om (p k):=fun k hk e=>by
  unfold aH;split <;> exact ah _ _ (pni k hk e)
 have bnd:(st.om oc).aO<=1000000000000000/\(st.om oc).bZ<=1000000000000000:=by have:=q.hi;have:=q.sum;have:=q.f0;have:=q.c0;have:=q.e0;omega
 have hk':(st.om oc).kind=(ax c.S.l i).kind:=s5;unfold yU;by_cases hz:c.left=0
 ·have hw:dB (st.om oc)=false:=by unfold dB;rw[<-hleft,hz];rfl
  rw[if_pos hz];refine⟨fun k hk=>?_,rfl,fun k _=>rfl,fun e=>absurd e (by rw[hw];decide),fun _=>⟨s9.symm,rfl⟩,rfl,rfl,rfl,rfl⟩;by_cases e:k=i
  ·subst e;rw[eX.pi];unfold aH;rw[hw];simp only[Bool.false_eq_true,if_false,ai];rw[<-eX.self];show mW (gz (st.om oc))=mW { st.om oc with aO:=0 };unfold gz;rw[<-hleft,hz,Int.add_zero,aT (by have:=q.c0;omega) (by omega)]
  ·rw[Cb k hk e];exact eX.same k hk e
 ·rw[if_neg hz];have hp:0<(st.om oc).aO:=by omega
  by_cases hr:fD (ax c.S.l i).kind=true
  ·have hw:dB (st.om oc)=true:=by unfold dB;rw[hk',hr];simpa using hp
   rw[if_pos hr];refine⟨fun k hk=>?_,by simp[RS.qW],fun k e=>?_,fun _=>⟨?_,rfl⟩,fun e=>absurd e (by rw[hw];decide),rfl,rfl,rfl,rfl⟩
   ·simp only[RS.qW];rw[fE il];by_cases e:k=i
    ·subst e;rw[if_pos rfl,eX.pi];unfold aH;rw[hw];simp only[if_true,ai];have e1:wrap64 ((ax c.S.l k).aO+c.left)=(st.om oc).aO:=by rw[<-s9,hleft,Int.zero_add];exact aT (by omega) (by omega)
     have:=eX.self;show mW (st.om oc)={ mW (ax c.S.l k) with aO:=wrap64 ((ax c.S.l k).aO+c.left) };rw[<-this,e1]
     rfl
    ·rw[if_neg e,Cb k hk e];exact eX.same k hk e
   ·simp only[RS.qW];rw[fE il,if_neg e]
   ·simp only[RS.qW];rw[fE il,if_pos rfl]
  ·have hw:dB (st.om oc)=false:=by
    unfold dB;rw[hk'];cases hx:fD (ax c.S.l i).kind
    ·simp
    ·exact absurd hx hr
   rw[if_neg hr];refine⟨fun k hk=>?_,by simp[RS.ik],fun k e=>?_,fun e=>absurd e (by rw[hw];decide),fun _=>⟨?_,rfl⟩,rfl,rfl,rfl,rfl⟩
   ·simp only[RS.ik];rw[fE il];by_cases e:k=i
    ·subst e;rw[if_pos rfl,eX.pi];unfold aH;rw[hw];simp only[Bool.false_eq_true,if_false,ai];have:=eX.self;show mW (gz (st.om oc))={ mW (ax c.S.l k) with bZ:=wrap64 ((ax c.S.l k).bZ+c.left) };rw[<-this,<-s11,hleft]
     rfl
    ·rw[if_neg e,Cb k hk e];exact eX.same k hk e
   ·simp only[RS.ik];rw[fE il,if_neg e]
   ·simp only[RS.ik];rw[fE il,if_pos rfl];exact s9.symm
theorem tJ.report{p:Nat->Nat}{oc i s:Nat}{sym:ByteArray}{R0:List Rc}{yZ f0 M:Int}{st:MS}{c:RC}(h:tJ p oc i s sym R0 yZ f0 st c)(hM:M<=1000000000000000)(q:Qo M (st.om oc))(o0:Ord)(e1:o0.filled=f0)(e2:o0.bZ=(st.om oc).bZ)(htr:st.tr<=1000000000)(aab:0<=yZ) :
 lG o0 (aH oc st oc) yZ st.tr=rcV i c:=by
 obtain⟨eX,hleft,Jc,htp,TF,hbs,hfil,hcnt,TJ,hle,hf0,hf1⟩:=h;have hself:=fK eX.self;have hk':(st.om oc).kind=(ax c.S.l i).kind:=hself.2.2.2.2.1;have q1:=q.o0;have q2:=q.f0;have q3:=q.c0;have q4:=q.e0;have q5:=q.sum;have q6:=q.hi;have key:∀O:Ord,O.filled=(st.om oc).filled->lG o0 O yZ st.tr=mM c.filled O.aO (wrap64 (O.bZ-(st.om oc).bZ)) c.first c.count:=fun O hO=>by
  unfold lG;rw[hO,e1,e2,aT (x:=(st.om oc).filled-f0) (by omega) (by omega),hfil,TJ,hcnt];split
  ·rw[if_neg (by omega),aT (x:=yZ+1) (by omega) (by omega),aT (x:=st.tr-yZ) (by omega) (by omega)]
  ·rw[if_pos (by omega),show st.tr-yZ=0 by omega]
 unfold rcV;by_cases hz:c.left=0
 ·have hw:dB (st.om oc)=false:=by unfold dB;rw[<-hleft,hz];rfl
  rw[if_pos hz];have e:aH oc st oc=gz (st.om oc):=by unfold aH;rw[hw];simp[ai]
  rw[e,key (gz (st.om oc)) rfl];show mM c.filled 0 (wrap64 (wrap64 ((st.om oc).bZ+(st.om oc).aO)-(st.om oc).bZ)) c.first c.count=_;rw[<-hleft,hz,Int.add_zero,aT (x:=(st.om oc).bZ) (by omega) (by omega),Int.sub_self,aT (by decide) (by decide)]
 ·rw[if_neg hz];have hp:0<(st.om oc).aO:=by omega
  by_cases hr:fD (ax c.S.l i).kind=true
  ·have hw:dB (st.om oc)=true:=by unfold dB;rw[hk',hr];simpa using hp
   rw[if_pos hr];have e:aH oc st oc={ st.om oc with place:=wrap64 (st.B.places+1) }:=by unfold aH;rw[hw];simp[ai]
   rw[e,key { st.om oc with place:=wrap64 (st.B.places+1) } rfl];show mM c.filled (st.om oc).aO (wrap64 ((st.om oc).bZ-(st.om oc).bZ)) c.first c.count=_;rw[Int.sub_self,aT (by decide) (by decide),hleft]
  ·have hw:dB (st.om oc)=false:=by
    unfold dB;rw[hk'];cases hx:fD (ax c.S.l i).kind
    ·simp
    ·exact absurd hx hr
   rw[if_neg hr];have e:aH oc st oc=gz (st.om oc):=by unfold aH;rw[hw];simp[ai]
   rw[e,key (gz (st.om oc)) rfl];show mM c.filled 0 (wrap64 (wrap64 ((st.om oc).bZ+(st.om oc).aO)-(st.om oc).bZ)) c.first c.count=_;rw[aT (x:=(st.om oc).bZ+(st.om oc).aO) (by omega) (by omega),show (st.om oc).bZ+(st.om oc).aO-(st.om oc).bZ=(st.om oc).aO by omega,aT (by omega) (by omega),hleft]
attribute [local go_sem ↓] Go.wp_at_zero Go.wp_at_succ
def Gx(o:iT):Ord:=⟨o.id,o.aG,o.sym,o.side,o.kind,o.af,o.aK,o.aK,0,0,0,0,0⟩
def RS.add(S:RS)(o:iT):RS:={ S with l:=S.l++[Gx o] }
def mN(N:Nat):Int:=1000000 * ((N:Int)+1)
structure dA(p:Nat->Nat)(V:aS)(S:RS)(N:Nat):Prop where
 gw:GW V (mN N)
 nb:V.nb=S.sy.length
 sym:∀i,i<V.nb->S.sy[i]?=some (V.B i).sym
 no:V.no=S.l.length
 aW:∀k,k<S.l.length->V.aW (ax S.l k).id=some (p k)
 zY:∀id b,V.aW id=some b->∃k,k<S.l.length/\(ax S.l k).id=id/\p k=b
 inj:∀a b,a<S.l.length->b<S.l.length->p a=p b->a=b
 same:∀k,k<S.l.length->mW (V.om (p k))=mW (ax S.l k)
 place:∀a b,a<S.l.length->b<S.l.length->(ax S.l a).sym=(ax S.l b).sym->0<(ax S.l a).aO->0<(ax S.l b).aO->((V.om (p a)).place<(V.om (p b)).place↔(ax S.l a).place<(ax S.l b).place)
 xy:∀a b,a<S.l.length->b<S.l.length->a≠b->(ax S.l a).sym=(ax S.l b).sym->0<(ax S.l a).aO->0<(ax S.l b).aO->(ax S.l a).place≠(ax S.l b).place
 O3:∀k,k<S.l.length->0<(ax S.l k).aO->∀i,i<V.nb->(V.B i).sym=(ax S.l k).sym->(V.om (p k)).place<=(V.B i).places
 O4:∀k,k<S.l.length->0<(ax S.l k).aO->(ax S.l k).place<=S.places
 EU:∀i,i<V.nb->0<=(V.B i).places/\(V.B i).places<=2 * (N:Int)
 Rx:0<=S.places/\S.places<=2 * (N:Int)
 tr:V.lg.tr=S.t
 day:V.lg.day=S.day
 yu:V.lg.tr.length<=300 * N
 DJ:V.lg.tp.length<=300 * N
 zX:V.lg.ud+V.lg.na<=N
 gV:V.no<=200
 UJ:V.nb<=6
 rJ:∀k,k<S.l.length->dX (ax S.l k).id=true
section
variable {p : Nat -> Nat} {V : aS} {S : RS} {N : Nat}
theorem dA.vl(h:dA p V S N)(x:Nat):VL V x↔∃k,k<S.l.length/\p k=x:=by
 constructor
 ·rintro⟨id,hx⟩;obtain⟨k,hk,_,e⟩:=h.zY id x hx;exact⟨k,hk,e⟩
 ·rintro⟨k,hk,rfl⟩;exact⟨_,h.aW k hk⟩
theorem dA.aO(h:dA p V S N){k:Nat}(hk:k<S.l.length):0<=(ax S.l k).aO/\(ax S.l k).aO<=mN N:=by
 have q:=h.gw.q (p k) ((h.vl _).2 ⟨k,hk,rfl⟩);have e:=(fK (h.same k hk)).2.2.2.2.2.2.2.2.1;rw[<-e];have:=q.o0;have:=q.f0;have:=q.c0;have:=q.e0;have:=q.sum;have:=q.hi;omega
theorem dA.side(h:dA p V S N){k:Nat}(hk:k<S.l.length):(ax S.l k).side=0\/(ax S.l k).side=1:=by
 have e:=(fK (h.same k hk)).2.2.2.1;rw[<-e];exact h.gw.side (p k) ((h.vl _).2 ⟨k,hk,rfl⟩)
theorem dA.count(h:dA p V S N){i s:Nat}(hi:i<V.nb)(hs:s<2):(V.B i).n s<=V.no:=by
 have hm:∀k,k<(V.B i).n s->∃j,j<S.l.length/\p j=(V.B i).h s k:=fun k hk=>(h.vl _).1 ((((h.gw.gb i hi).mem s hs _).1 ⟨k,hk,rfl⟩).1)
 rw[h.no];have hj:∃f:Nat->Nat,∀k,k<(V.B i).n s->f k<S.l.length/\p (f k)=(V.B i).h s k:=by
  refine⟨fun k=>if hk:k<(V.B i).n s then (hm k hk).choose else 0,fun k hk=>?_⟩;dsimp only;rw[dif_pos hk];exact (hm k hk).choose_spec
 obtain⟨f,hf⟩:=hj;refine UY S.l.length _ f (fun a b ha hb e=>?_) (fun k hk=>(hf k hk).1);have:=(hf a ha).2;rw[e,(hf b hb).2]at this;exact (h.gw.gb i hi).inj s hs a b ha hb this.symm
end
theorem GW.mono{V:aS}{M M':Int}(h:GW V M)(hm:M<=M'):GW V M':=⟨h.gb,h.lW,fun x hx=>(h.q x hx).mono hm,h.sym,h.side⟩
theorem su{N N':Nat}(h:N<=N'):mN N<=mN N':=by unfold mN;omega
theorem qi{oc s:Nat}:∀(f:Nat) (st:MS),(aZ oc s f st).B.places=st.B.places:=by
 intro f
 induction f with
 | zero=>intro st;rfl
 | succ f ih =>
   intro st;rw[aZ];split
   ·rfl
   ·rw[ih];unfold bF;split
    ·rfl
    ·simp only[dU];split <;> rfl
theorem FQ(oc t g cap':Nat)(st:MS):(eu oc t g cap' st).places=if dB (st.om oc) then wrap64 (st.B.places+1) else st.B.places:=by
 unfold eu;split <;> rfl
theorem dA.UU{p:Nat->Nat}{V V':aS}{N:Nat}{oc i s t g cap' ib:Nat}{st:MS}{c:RC}{R0:List Rc}{yZ f0:Int}(hN:N<3000000)(hib:ib<V.nb)
 (hr:tJ p oc i s (V.B ib).sym R0 yZ f0 st c) (q:Qo (mN (N+1)) (st.om oc))
 (gw:GW V' (mN (N+1))) (hnb:V'.nb=V.nb) (hB:V'.B=aQ V.B ib (eu oc t g cap' st)) (jK:V'.om=aH oc st) (hlg:V'.lg=iC oc st)
 (hBs:∀j,(V'.B j).sym=(V.B j).sym) (hpb:st.B.places=(V.B ib).places) (EU:∀i,i<V.nb->0<=(V.B i).places/\(V.B i).places<=2 * (N:Int))
 (ade:V.nb=c.S.sy.length) (adm:∀i,i<V.nb->c.S.sy[i]?=some (V.B i).sym) (hno:V'.no=c.S.l.length) (rH:∀k,k<c.S.l.length->V'.aW (ax c.S.l k).id=some (p k)) (abD:∀id b,V'.aW id=some b->∃k,k<c.S.l.length/\(ax c.S.l k).id=id/\p k=b)
 (O3:∀k,k<c.S.l.length->k≠i->0<(ax c.S.l k).aO->∀j,j<V.nb->(V.B j).sym=(ax c.S.l k).sym->(st.om (p k)).place<=(V.B j).places)
 (O4:∀k,k<c.S.l.length->k≠i->0<(ax c.S.l k).aO->(ax c.S.l k).place<=c.S.places) (Rx:0<=c.S.places/\c.S.places<=2 * (N:Int))
 (yu:st.lg.tr.length<=300 * (N+1)) (DJ:st.lg.tp.length<=300 * (N+1)) (zX:st.lg.ud+st.lg.na<=N+1) (gV:V'.no<=200) (hn6:V.nb<=6) (ac8:∀k,k<c.S.l.length->dX (ax c.S.l k).id=true):dA p V' (yU i c) (N+1):=by
 have hM:mN (N+1)<=1000000000000000:=by unfold mN;omega
 obtain⟨f1,f2,f3,f4,f5,f6,f7,f8,f9⟩:=hr.fin hM q;have eX:=hr.oz;have il:=eX.il;have pni:∀a,a<c.S.l.length->a≠i->p a≠oc:=fun a ha e e2=>e (eX.inj a i ha il (by rw[e2,eX.pi]))
 have Cb:∀k,k<c.S.l.length->k≠i->aH oc st (p k)=st.om (p k):=fun k hk e=>by
  unfold aH;split <;> exact ah _ _ (pni k hk e)
 have idk:∀k,k<c.S.l.length->(ax (yU i c).l k).id=(ax c.S.l k).id:=fun k hk=>by
  by_cases e:k=i
  ·subst e;have a:=(fK (f1 k hk)).1;have b:=(fK eX.self).1;simp only at b;rw[<-a,<-b,eX.pi,yL]
  ·rw[f3 k e]
 have VC:(ax (yU i c).l i).sym=(V.B ib).sym:=by
  have a:=(fK (f1 i il)).2.2.1;have b:=(fK eX.self).2.2.1;simp only at b;rw[<-a,eX.pi,<-eX.XO,<-b];unfold aH;split <;> rw[ai]
  rfl
 have wb:wrap64 ((V.B ib).places+1)=(V.B ib).places+1:=aT (by have:=EU ib hib;omega) (by have:=EU ib hib;omega);have ws:wrap64 (c.S.places+1)=c.S.places+1:=aT (by omega) (by omega);have vz:∀j,(V'.B j).places=if j=ib/\dB (st.om oc)=true then (V.B ib).places+1 else (V.B j).places:=fun j=>by
  rw[hB];by_cases e:j=ib
  ·subst e;rw[ai,FQ,hpb];split
   ·rename_i hw;rw[if_pos ⟨rfl,hw⟩,wb]
   ·rename_i hw;rw[if_neg (fun h=>hw h.2)]
  ·rw[ah _ _ e,if_neg (fun h=>e h.1)]
 have QE:0<(ax (yU i c).l i).aO->dB (st.om oc)=true:=fun h0=>by
  cases hw:dB (st.om oc)
  ·have:=(f5 hw).1;omega
  ·rfl
 have NG:dB (st.om oc)=true->(aH oc st oc).place=(V.B ib).places+1:=fun hw=>by
  unfold aH;rw[if_pos hw,ai];show wrap64 (st.B.places+1)=_;rw[hpb,wb]
 have JH:∀k,k<c.S.l.length->k≠i->0<(ax c.S.l k).aO->(ax c.S.l k).sym=(V.B ib).sym->(st.om (p k)).place<=(V.B ib).places/\(ax c.S.l k).place<=c.S.places:=fun k hk e h0 hsy=>⟨O3 k hk e h0 ib hib hsy.symm,O4 k hk e h0⟩
 refine⟨gw,?_,?_,?_,?_,?_,?_,?_,?_,?_,?_,?_,?_,?_,?_,?_,?_,?_,?_,?_,by rw[hnb];exact hn6,fun k hk=>by rw[f2]at hk;rw[idk k hk];exact ac8 k hk⟩
 ·rw[hnb,f9];exact ade
 ·intro j hj;rw[f9,hBs j];exact adm j (by omega)
 ·rw[hno,f2]
 ·intro k hk;rw[f2]at hk;rw[idk k hk];exact rH k hk
 ·intro id b hb;obtain⟨k,hk,e1,e2⟩:=abD id b hb;exact⟨k,by rw[f2];exact hk,by rw[idk k hk];exact e1,e2⟩
 ·intro a b ha hb e;rw[f2]at ha hb;exact eX.inj a b ha hb e
 ·intro k hk;rw[f2]at hk;rw[jK];exact f1 k hk
 ·intro a b ha hb hsy h1 h2;rw[f2]at ha hb;rw[jK];by_cases ea:a=i <;> by_cases eb:b=i
  ·rw[ea,eb];exact⟨fun h=>by omega,fun h=>by omega⟩
  ·subst ea;have hw:=QE h1;rw[f3 b eb]at hsy h2 ⊢;obtain⟨o1,o2⟩:=JH b hb eb h2 (by rw[<-hsy];exact VC);rw[eX.pi,NG hw,Cb b hb eb,(f4 hw).1,ws];omega
  ·subst eb;have hw:=QE h2;rw[f3 a ea]at hsy h1 ⊢;obtain⟨o1,o2⟩:=JH a ha ea h1 (by rw[hsy];exact VC);rw[eX.pi,NG hw,Cb a ha ea,(f4 hw).1,ws];omega
  ·rw[f3 a ea,f3 b eb]at hsy ⊢;rw[f3 a ea]at h1;rw[f3 b eb]at h2;rw[Cb a ha ea,Cb b hb eb];exact eX.place a b ha hb ea eb hsy h1 h2
 ·intro a b ha hb hab hsy h1 h2;rw[f2]at ha hb;by_cases ea:a=i <;> by_cases eb:b=i
  ·omega
  ·subst ea;have hw:=QE h1;rw[f3 b eb]at hsy h2 ⊢;obtain⟨o1,o2⟩:=JH b hb eb h2 (by rw[<-hsy];exact VC);rw[(f4 hw).1,ws];omega
  ·subst eb;have hw:=QE h2;rw[f3 a ea]at hsy h1 ⊢;obtain⟨o1,o2⟩:=JH a ha ea h1 (by rw[hsy];exact VC);rw[(f4 hw).1,ws];omega
  ·rw[f3 a ea,f3 b eb]at hsy ⊢;rw[f3 a ea]at h1;rw[f3 b eb]at h2;exact eX.xy a b ha hb ea eb hab hsy h1 h2
 ·intro k hk h0 j hj hsy;rw[f2]at hk;rw[hBs j]at hsy;rw[jK,vz j];by_cases e:k=i
  ·subst e;have hw:=QE h0;have ej:j=ib:=gw.lW j ib hj (by rw[hnb];exact hib) (by rw[hBs j,hBs ib,hsy];exact VC);rw[eX.pi,NG hw,if_pos ⟨ej,hw⟩];omega
  ·rw[f3 k e]at h0 hsy;rw[Cb k hk e];have:=O3 k hk e h0 j (by omega) hsy;split
   ·rename_i hx;rw[hx.1]at this;omega
   ·exact this
 ·intro k hk h0;rw[f2]at hk;have hp:c.S.places<=(yU i c).places:=by
   cases hw:dB (st.om oc)
   ·rw[(f5 hw).2];omega
   ·rw[(f4 hw).2,ws];omega
  by_cases e:k=i
  ·subst e;have hw:=QE h0;rw[(f4 hw).1,(f4 hw).2];omega
  ·rw[f3 k e]at h0 ⊢;have:=O4 k hk e h0;omega
 ·intro j hj;rw[vz j];have h1:=EU j (by omega);have h2:=EU ib hib;split <;> (push_cast;omega)
 ·cases hw:dB (st.om oc)
  ·rw[(f5 hw).2];push_cast;omega
  ·rw[(f4 hw).2,ws];push_cast;omega
 ·rw[hlg,f6];exact hr.tr
 ·rw[hlg,f8];exact hr.day
 ·rw[hlg];exact yu
 ·rw[hlg];exact DJ
 ·rw[hlg];exact zX
 ·exact gV
open Go.RowKit Go.Maps
theorem Qo.fF{M:Int}{o:Ord}(h:Qo M o)(hM:M<=1000000000000000){q:Int}(h1:0<=q)(h2:q<=o.filled):Qo M (fF o q)/\(Go.Proofs.YtigaphnafnpfnaaGreatDoor.fF o q).filled=o.filled-q:=by
 obtain⟨a,b,c,d,e,f⟩:=h;have e1:(Go.Proofs.YtigaphnafnpfnaaGreatDoor.fF o q).filled=o.filled-q:=by simp only[Go.Proofs.YtigaphnafnpfnaaGreatDoor.fF];exact aT (by omega) (by omega)
 have e2:(Go.Proofs.YtigaphnafnpfnaaGreatDoor.fF o q).bZ=o.bZ+q:=by simp only[Go.Proofs.YtigaphnafnpfnaaGreatDoor.fF];exact aT (by omega) (by omega)
 refine⟨⟨?_,b,by rw[e1];omega,by rw[e2];omega,e,f⟩,e1⟩;show o.entered=o.aO+(Go.Proofs.YtigaphnafnpfnaaGreatDoor.fF o q).filled+(Go.Proofs.YtigaphnafnpfnaaGreatDoor.fF o q).bZ+o.exp;rw[e1,e2];omega
theorem Qo.fM{M:Int}{o:Ord}(h:Qo M o)(hM:M<=1000000000000000){q:Int}(h1:0<=q)(h2:q<=o.filled)(p:Int):Qo M { fM o q with place:=p }/\(Go.Proofs.YtigaphnafnpfnaaGreatDoor.fM o q).filled=o.filled-q/\(Go.Proofs.YtigaphnafnpfnaaGreatDoor.fM o q).aO=o.aO+q:=by
 obtain⟨a,b,c,d,e,f⟩:=h;have e1:(Go.Proofs.YtigaphnafnpfnaaGreatDoor.fM o q).filled=o.filled-q:=by simp only[Go.Proofs.YtigaphnafnpfnaaGreatDoor.fM];exact aT (by omega) (by omega)
 have e2:(Go.Proofs.YtigaphnafnpfnaaGreatDoor.fM o q).aO=o.aO+q:=by simp only[Go.Proofs.YtigaphnafnpfnaaGreatDoor.fM];exact aT (by omega) (by omega)
 refine⟨⟨?_,?_,?_,d,e,f⟩,e1,e2⟩
 ·show o.entered=(Go.Proofs.YtigaphnafnpfnaaGreatDoor.fM o q).aO+(Go.Proofs.YtigaphnafnpfnaaGreatDoor.fM o q).filled+o.bZ+o.exp;rw[e1,e2];omega
 ·show 0<=(Go.Proofs.YtigaphnafnpfnaaGreatDoor.fM o q).aO;rw[e2];omega
 ·show 0<=(Go.Proofs.YtigaphnafnpfnaaGreatDoor.fM o q).filled;rw[e1];omega
theorem O9{B:Bk}{dK:Nat->Ord}{t b g cap' y x:Nat}(h:dG (B.rest dK t b g cap') y x):dG B y x\/x=b\/x=g:=by
 by_cases e:y=t
 ·subst e;rcases h with h | ⟨k,hk,h⟩
  ·simp only[Bk.rest,ai,ig,Option.some.injEq]at h;exact .inr (.inr h.symm)
  ·simp only[Bk.rest,ai]at hk h;rcases (jh (lt:=fP dK) (B.h y) b _).1 ⟨k,hk,rfl⟩ with h' | h'
   ·obtain⟨k',hk',e'⟩:=h';exact .inl (.inr ⟨k',hk',by rw[h,e']⟩)
   ·exact .inr (.inl (by rw[h,h']))
 ·left;unfold dG at h ⊢;simp only[Bk.rest,ah _ _ e]at h;exact h
theorem Js{B:Bk}{om:Nat->Ord}{t k y x:Nat}(hinj:ry (B.n t) (B.h t))(hk:k<B.n t)(h:dG (B.leave om t k) y x):dG B y x:=by
 by_cases e:y=t
 ·subst e;rcases h with h | h
  ·exact .inl h
  ·have m:=(lK (om:=om) hinj hk x).1 h;exact .inr m.1
 ·unfold dG at h ⊢;simp only[Bk.leave,ah _ _ e]at h;exact h
theorem tK(V:aS)(i b:Nat)(q:Int){x:Nat}(h:x≠b):cZ V i b q x=V.om x:=by unfold cZ;rw[ah _ _ h,ah _ _ h]
theorem dZ(V:aS)(i b:Nat)(q:Int):cZ V i b q b={ fM (V.om b) q with place:=wrap64 ((V.B i).places+1) }:=by unfold cZ;rw[ai]
theorem FN{B:Bk}{om:Nat->Ord}{sym:ByteArray}{L:Nat->Prop}(gb:GB B om sym L){s t:Nat}(hs:s<2)(ht:t=1-s){o:Ord}(hk5:o.kind≠5)(hside:o.side=(t:Int))(hf:dJ B om (dm o) s=none) :
 ∀y,Mem (B.n s) (B.h s) y->if (t:Int)=0 then o.af<(om y).af else (om y).af<o.af:=by
 intro y hy;obtain⟨k,hk,e⟩:=hy;have hn0:B.n s≠0:=by omega
 unfold dJ at hf;rw[if_neg hn0]at hf;have hg:jc (dm o).kind (dm o).side (dm o).af (om (B.h s 0)).af=false:=by
  split at hf
  ·simp at hf
  ·rename_i h;simpa using h
 have hb:=zB hg hk5;have hsd:(dm o).side=(t:Int):=hside;rw[hsd]at hb;have wC:∀k,k<B.n s->(om (B.h s k)).side=(s:Int):=fun k hk=>gb.side hs hk
 have hmin:=CE (lV om (s:Int)) (gb.heap s hs) wC k hk;have hless:=(iF _ _).1 hmin;rw[wC k hk]at hless;have hap:(dm o).af=o.af:=rfl;rw[hap]at hb;rw[<-e]at hless;by_cases e0:(t:Int)=0
 ·rw[if_pos e0]at hb ⊢;have es:¬(s:Int)=0:=by omega
  rw[if_neg es]at hless;omega
 ·rw[if_neg e0]at hb ⊢;have es:(s:Int)=0:=by omega
  rw[if_pos es]at hless;omega
theorem Fa{B:Bk}{om dK:Nat->Ord}{sym:ByteArray}{L:Nat->Prop}{b s t g cap':Nat}(hs:s<2)(ht:t=1-s)(gb:GB B om sym (fun x=>L x/\x≠b))(hL:L b)(lY:∀x,x≠b->dK x=om x)
 (h1:(dK b).sym=sym) (h2:(dK b).side=(t:Int)) (h3:0<(dK b).aO) (bad:∀y,Mem (B.n s) (B.h s) y->if (t:Int)=0 then (dK b).af<(om y).af else (om y).af<(dK b).af) :
 GB (B.rest dK t b g cap') dK sym L:=by
 have t2:t<2:=by omega
 have hts:(t:Int)≠(s:Int):=by omega
 have tC:∀x,x<2->x=s\/x=t:=by omega
 have nS:(B.rest dK t b g cap').n s=B.n s:=by simp only[Bk.rest];rw[ah _ _ (by omega)]
 have hS:(B.rest dK t b g cap').h s=B.h s:=by simp only[Bk.rest];rw[ah _ _ (by omega)]
 have nT:(B.rest dK t b g cap').n t=B.n t+1:=by simp only[Bk.rest,ai]
 have hT:(B.rest dK t b g cap').h t=vF (fP dK) (fun k=>if k=B.n t then b else B.h t k) (B.n t):=by simp only[Bk.rest,ai]
 have mT:∀x,Mem ((B.rest dK t b g cap').n t) ((B.rest dK t b g cap').h t) x↔Mem (B.n t) (B.h t) x\/x=b:=fun x=>by rw[nT,hT];exact jh _ _ _
 have ne:∀y,y<2->∀x,Mem (B.n y) (B.h y) x->x≠b/\dK x=om x:=fun y hy x hx=>by
  have:=((gb.mem y hy x).1 hx).1.2;exact⟨this,lY x this⟩
 have lt':∀y,y<2->eG (fP dK) (B.n y) (B.h y):=fun y hy=>(gb.heap y hy).lQ (fun j k hj hk=>by
  have a:=(ne y hy _ ⟨j,hj,rfl⟩).2;have c:=(ne y hy _ ⟨k,hk,rfl⟩).2;exact uj (by rw[a];exact⟨rfl,rfl,rfl⟩) (by rw[c];exact⟨rfl,rfl⟩))
 refine⟨gb.lL,fun y hy x=>?_,fun y hy=>?_,fun y hy=>?_,fun x y hx hy=>?_⟩
 ·rcases tC y hy with e | e
  ·rw[e,nS,hS];constructor
   ·intro hx;obtain⟨a,c⟩:=ne s hs x hx;have h0:=(gb.mem s hs x).1 hx;rw[c];exact⟨h0.1.1,h0.2⟩
   ·rintro⟨a,c,d,f⟩;have hne:x≠b:=fun e=>by rw[e,h2]at d;exact hts d
    rw[lY x hne]at c d f;exact (gb.mem s hs x).2 ⟨⟨a,hne⟩,c,d,f⟩
  ·rw[e,mT x];constructor
   ·rintro (hx | hx)
    ·obtain⟨a,c⟩:=ne t t2 x hx;have h0:=(gb.mem t t2 x).1 hx;rw[c];exact⟨h0.1.1,h0.2⟩
    ·rw[hx];exact⟨hL,h1,h2,h3⟩
   ·rintro⟨a,c,d,f⟩;by_cases hne:x=b
    ·exact .inr hne
    ·rw[lY x hne]at c d f;exact .inl ((gb.mem t t2 x).2 ⟨⟨a,hne⟩,c,d,f⟩)
 ·rcases tC y hy with e | e
  ·rw[e,nS,hS];exact lt' s hs
  ·rw[e,nT,hT];refine GN (lV dK (t:Int)) _ _ h2 (fun k hk=>?_) (lt' t t2);rw[(ne t t2 _ ⟨k,hk,rfl⟩).2];exact gb.side t2 hk
 ·rcases tC y hy with e | e
  ·rw[e,nS,hS];exact gb.inj s hs
  ·rw[e,nT,hT];refine ry.up ?_ (by omega);intro j k hj hk e;simp only at e;by_cases ej:j=B.n t
   ·by_cases ek:k=B.n t
    ·omega
    ·rw[if_pos ej,if_neg ek]at e;exact absurd e.symm (ne t t2 _ ⟨k,by omega,rfl⟩).1
   ·by_cases ek:k=B.n t
    ·rw[if_neg ej,if_pos ek]at e;exact absurd e (ne t t2 _ ⟨j,by omega,rfl⟩).1
    ·rw[if_neg ej,if_neg ek]at e;exact gb.inj t t2 j k (by omega) (by omega) e
 ·have h01:(s=0/\t=1)\/(s=1/\t=0):=by omega
  rcases h01 with⟨rfl,rfl⟩ | ⟨rfl,rfl⟩
  ·rw[nS,hS]at hx;rw[mT y]at hy;have hpx:(dK x).af=(om x).af:=by rw[(ne 0 hs x hx).2]
   rcases hy with hy | hy
   ·rw[hpx,(ne 1 t2 y hy).2];exact gb.iE x y hx hy
   ·have:=bad x hx;rw[if_neg (by decide)]at this;rw[hy,hpx];exact this
  ·rw[mT x]at hx;rw[nS,hS]at hy;have hpy:(dK y).af=(om y).af:=by rw[(ne 1 hs y hy).2]
   rcases hx with hx | hx
   ·rw[hpy,(ne 0 t2 x hx).2];exact gb.iE x y hx hy
   ·have:=bad y hy;rw[if_pos (by decide)]at this;rw[hx,hpy];exact this
theorem GW.apart{V:aS}{M:Int}(g:GW V M){w:World}{bv bm bo:Nat}(R:dS w bv bm bo V){i x:Nat}(hx:VL V x)(hs:(V.om x).sym=(V.B i).sym)(hi:i<V.nb):pz V i x:=by
 intro j hj hne t ht hsd;rcases hsd with e | ⟨l,hl,e⟩
 ·obtain⟨id,hid⟩:=hx;obtain⟨_,ix,ho⟩:=R.bz id x hid;exact ((R.aY j hj).side t ht).ne ho (by decide) e
 ·have:=((g.gb j hj).mem t ht _).1 ⟨l,hl,rfl⟩;rw[<-e,hs]at this;exact hne (g.lW i j hi hj this.2.1).symm
theorem GW.idx{V:aS}{M:Int}(g:GW V M){x:Nat}(hx:VL V x):∃i t:Nat,i<V.nb/\t<2/\(V.om x).sym=(V.B i).sym/\(V.om x).side=(t:Int):=by
 obtain⟨i,hi,e⟩:=g.sym x hx;rcases g.side x hx with h | h
 ·exact⟨i,0,hi,by omega,e,h⟩
 ·exact⟨i,1,hi,by omega,e,h⟩
theorem GW.U4{V:aS}{M:Int}(g:GW V M)(G':Lg)(bM:Lm):GW { V with lg:=G',lm:=bM } M:=⟨g.gb,g.lW,g.q,g.sym,g.side⟩
theorem OE{V:aS}{M:Int}(g:GW V M){i b:Nat}{B':Bk}{dK:Nat->Ord}{G':Lg}{bM:Lm}(hi:i<V.nb)(hb:VL V b)(hsb:(V.om b).sym=(V.B i).sym)(lY:∀x,x≠b->dK x=V.om x)(h1:(dK b).sym=(V.om b).sym)(h2:(dK b).side=(V.om b).side)(hq:Qo M (dK b))(hBs:B'.sym=(V.B i).sym)(gi:GB B' dK (V.B i).sym (VL V)) :
 GW { V.turn i B' dK with lg:=G',lm:=bM } M:=by
 have st:∀x,(dK x).sym=(V.om x).sym/\(dK x).side=(V.om x).side:=fun x=>by
  by_cases e:x=b
  ·rw[e];exact⟨h1,h2⟩
  ·rw[lY x e];exact⟨rfl,rfl⟩
 have sy:∀j,(aQ V.B i B' j).sym=(V.B j).sym:=fun j=>by
  by_cases e:j=i
  ·rw[e,ai];exact hBs
  ·rw[ah _ _ e]
 refine⟨fun j hj=>?_,fun a c ha hc e=>?_,fun x hx=>?_,fun x hx=>?_,fun x hx=>?_⟩
 ·show GB (aQ V.B i B' j) dK (aQ V.B i B' j).sym (VL V);rw[sy j];by_cases e:j=i
  ·subst e;rw[ai];exact gi
  ·rw[ah _ _ e];have ns:(V.B i).sym≠(V.B j).sym:=fun h=>e (g.lW i j hi hj h).symm
   refine (g.gb j hj).lQ (fun x=>?_) (fun x _ hs _=>?_)
   ·by_cases ex:x=b
    ·subst ex;constructor
     ·rintro⟨_,c,_⟩;exact absurd ((h1.trans hsb).symm.trans c) ns
     ·rintro⟨_,c,_⟩;exact absurd (hsb.symm.trans c) ns
    ·rw[lY x ex]
   ·have ex:x≠b:=fun e2=>ns (by rw[e2]at hs;exact hsb.symm.trans hs)
    rw[lY x ex];exact⟨rfl,rfl,rfl⟩
 ·refine g.lW a c ha hc ?_;have e':(aQ V.B i B' a).sym=(aQ V.B i B' c).sym:=e;rw[sy a,sy c]at e';exact e'
 ·show Qo M (dK x);by_cases e:x=b
  ·rw[e];exact hq
  ·rw[lY x e];exact g.q x hx
 ·obtain⟨j,hj,e⟩:=g.sym x hx;refine⟨j,hj,?_⟩;show (dK x).sym=(aQ V.B i B' j).sym;rw[(st x).1,sy j];exact e
 ·show (dK x).side=0\/(dK x).side=1;rw[(st x).2];exact g.side x hx
structure Zu(V:aS)(M:Int)(i s b:Nat)(q:Int)(again:Bool)(V':aS):Prop where
 gw:GW V' M
 aW:V'.aW=V.aW
 no:V'.no=V.no
 nb:V'.nb=V.nb
 lL:∀j,(V'.B j).sym=(V.B j).sym
 way:((again=false\/fD (V.om b).kind=false\/(dJ (V.B i) V.om (dm (V.om b)) s).isSome=true)/\V'.om=aQ V.om b (fF (V.om b) q)/\∀j,(V'.B j).places=(V.B j).places) \/
  (again=true/\fD (V.om b).kind=true/\dJ (V.B i) V.om (dm (V.om b)) s=none/\V'.om=cZ V i b q/\∀j,(V'.B j).places=if j=i then wrap64 ((V.B i).places+1) else (V.B j).places)
theorem yx{V:aS}{i:Nat}{B':Bk}{α:Type}(f:Bk->α)(h:f B'=f (V.B i))(j:Nat):f (aQ V.B i B' j)=f (V.B j):=by
 by_cases e:j=i
 ·rw[e,ai,h]
 ·rw[ah _ _ e]
def RS.none:RS:=⟨[],[],[],1,0,[]⟩
def zk(s:Int)(last:Option Int)(p:Int):Bool:=match last with
 | none=>true
 | some q=>if s=0 then decide (p<q) else decide (q<p)
def Su(s:Int)(b:kQ)(p:Int):Bool:=if b.num=0 then true else if s=0 then decide (b.af<p) else decide (p<b.af)
def xQ(b:kQ)(o:Ord):kQ:=⟨b.af,wrap64 (b.aK+o.aO),wrap64 (b.num+1)⟩
def Sm(sym:ByteArray)(s:Int)(last:Option Int)(b:kQ)(o:Ord):kQ :=
 if o.sym≠sym\/o.side≠s\/o.aO=0 then b else if zk s last o.af=false then b
 else if Su s b o.af=true then xQ ⟨o.af,0,0⟩ o else if o.af=b.af then xQ b o else b
def bkX(l:List Ord)(sym:ByteArray)(s:Int)(last:Option Int):Nat->kQ
 | 0=>⟨0,0,0⟩
 | i+1=>Sm sym s last (bkX l sym s last i) (ax l i)
def pM(out:List kQ):Option Int:=out.getLast?.map kQ.af
def qf(l:List Ord)(sym:ByteArray)(s:Int)(out:List kQ):kQ:=bkX l sym s (pM out) l.length
inductive oI (l:List Ord) (sym:ByteArray) (s:Int):Nat->List kQ->List kQ->Prop
 | stop (f:Nat) (out:List kQ) (h:(qf l sym s out).num=0):oI l sym s f out out
 | go (f:Nat) (out out':List kQ) (h:(qf l sym s out).num≠0) (e:oI l sym s f (out++[qf l sym s out]) out'):oI l sym s (f+1) out out'
theorem oI.inv{l:List Ord}{sym:ByteArray}{s:Int}{q:Nat}{out out':List kQ}(h:oI l sym s q out out'):(out'=out/\(qf l sym s out).num=0)\/∃f,q=f+1/\(qf l sym s out).num≠0/\oI l sym s f (out++[qf l sym s out]) out':=by
 cases h with
 | stop _ _ hs=>exact .inl ⟨rfl,hs⟩
 | go f _ _ h e=>exact .inr ⟨f,rfl,h,e⟩
theorem Aa(bv bm bo:Nat)(V:aS)(id af aK:Int)(w:World)(R:dS w bv bm bo V)(hid:(Lit.int .i64 id).wf=true)(hn:V.aW id=none) :
 CT 38 #[PP bv,II id,II af,II aK] w fun e w'=>e=.returned (.tuple #[.agg #[II 0,II 0,II 0,II 0,II 0],II 6])/\aj aJ w w':=by
 have k1:aj aJ w (w.alloc (.cells #[II 0,II 0,II 0,II 0,II 0] 87)):=(aj.refl aJ w).alloc _;have L2:=(R.aB k1).xO hid;rw[hn]at L2;simp only[ji]at L2;have v1:CC w bv 1 (.map (some bo)):=R.dC.cell 1;have lv:=R.dC.lt;clear R hn;go_enter Tryz.func38,Tryz.ntmps38;go_wp2;refine bodyPost_ret (O6 _ w.heap.size _ 0 0 0 0 0 6 rfl rfl ?_) rfl ⟨rfl,?_⟩
 ·exact aA.new w _ _
 ·exact (aj.refl aJ w).alloc _
theorem Nq(bv bm bo:Nat)(V:aS)(s:ByteArray)(w:World)(R:dS w bv bm bo V)(hn:tH s true)(hlen:s.size<=maxLen)(hfree:∀i,i<V.nb->(V.B i).sym≠s)(hnb:6<=V.nb):CT 27 #[PP bv,.string s] w fun e w'=>e=.returned (II 7)/\aj aJ w w':=by
 obtain⟨fB,mB,qh,uM⟩:=R.iM;have hl:fB (sl s)=none:=by
  cases h:fB (sl s) with
  | none=>rfl
  | some b =>
    obtain⟨i,hi,_,h2⟩:=uM s b h;exact absurd h2 (hfree i hi)
 have HL:=au hl;obtain⟨n,hnn⟩:=mf V.nb;have e6:decide ((6:Int)<=(n:Int))=true:=by simp;omega
 have hK:∀w',aj aJ w w'->(Instr.lookup 94 (.map (some bm)) (.string s) false).run Tryz.prog w'=.ok (.pointer none) w'/\w'.cell? ⟨bv,0,none⟩=some (.map (some bm))/\(Builtin.len_ #[94] 3 #[.map (some bm)]).run Tryz.prog w'=.ok (II (n:Int)) w':=fun w' k=>by
  refine⟨?_,(k.aF R.dC aU).cell 0,by rw[<-hnn];exact (mB.aC k aU).len Tryz.underlying94 _⟩;rw[(mB.aC k aU).look zV Tryz.underlying94 (qA _) (WideMaps.keyOf_string_mk Tryz.underlying9 hlen)];show _=Result.ok (ji none) _;rw[<-ae HL];rfl
 have lv:=R.dC.lt;have HK:=au hK;clear hl R hK hnn mB qh uM;go_enter Tryz.func27,Tryz.ntmps27;go_wp2_with fail;refine (hn _).mono ?_;rintro e w' ⟨rfl,k⟩;have k2:=((aj.refl aJ w).alloc (.cells #[PP bv] 35)).trans k;obtain⟨g1,g2,g3⟩:=ae HK w' k2;have hb:aA w' w.heap.size #[PP bv] 35:=k.aF (aA.new w _ _) aU;have g4:CC w' w.heap.size 0 (PP bv):=hb.cell 0;have zn:=au k2;clear k k2 hb;go_wp2;go_ret;exact⟨rfl,ae zn⟩
theorem FO(bv bm bo:Nat)(V:aS)(s:ByteArray)(side:Int)(w:World)(R:dS w bv bm bo V)(hlen:s.size<=maxLen)(hfree:∀i,i<V.nb->(V.B i).sym≠s) :
 CT 25 #[PP bv,.string s,II side] w fun e w'=>e=.returned (.tuple #[.slice none 0 0,II 6])/\aj aJ w w':=by
 obtain⟨fB,mB,qh,uM⟩:=R.iM;have hl:fB (sl s)=none:=by
  cases h:fB (sl s) with
  | none=>rfl
  | some b =>
    obtain⟨i,hi,_,h2⟩:=uM s b h;exact absurd h2 (hfree i hi)
 have L1:(Instr.lookup 94 (.map (some bm)) (.string s) false).run Tryz.prog w=.ok (.pointer none) w:=by
  rw[mB.look zV Tryz.underlying94 (qA _) (WideMaps.keyOf_string_mk Tryz.underlying9 hlen)];show _=Result.ok (ji none) _;rw[<-hl];rfl
 have v0:CC w bv 0 (.map (some bm)):=R.dC.cell 0;clear R hl mB qh uM;go_enter Tryz.func25,Tryz.ntmps25;go_wp2;go_ret2;exact⟨rfl,aj.refl _ _⟩
theorem Gf(c:Nat)(w:World):CT 85 #[.int .i32 (c:Int)] w fun e w'=>e=.returned (.bool (Ae c))/\w'=w:=by
 have hcs:(65<=c/\c<=90/\Ae c=true)\/(¬(65<=c/\c<=90)/\((48<=c/\c<=57/\Ae c=true)\/(¬(48<=c/\c<=57)/\((c=930/\Ae c=false)\/(c≠930/\((913<=c/\c<=937/\Ae c=true)\/(¬(913<=c/\c<=937)/\Ae c=false))))))):=by
  by_cases h1:65<=c/\c<=90
  ·left;exact⟨h1.1,h1.2,by simp[Ae,h1]⟩
  ·right;refine⟨h1,?_⟩;by_cases h2:48<=c/\c<=57
   ·left;exact⟨h2.1,h2.2,by simp[Ae,h2]⟩
   ·right;refine⟨h2,?_⟩;by_cases h3:c=930
    ·left;exact⟨h3,by subst h3;decide⟩
    ·right;refine⟨h3,?_⟩;by_cases h4:913<=c/\c<=937
     ·left;exact⟨h4.1,h4.2,by simp[Ae,h4,h3]⟩
     ·right;refine⟨h4,?_⟩;simp only[Ae,Bool.or_eq_false_iff,Bool.and_eq_false_iff,decide_eq_false_iff_not,Bool.not_eq_false',beq_iff_eq];omega
 obtain⟨b,hb⟩:=mf (Ae c);rw[hb]at hcs ⊢;clear hb;have d:∀k:Nat,decide ((k:Int)<=(c:Int))=decide (k<=c):=fun k=>by simp
 rcases hcs with⟨a1,a2,rfl⟩ | ⟨a1,⟨a2,a3,rfl⟩ | ⟨a2,⟨a3,rfl⟩ | ⟨a3,⟨a4,a5,rfl⟩ | ⟨a4,rfl⟩⟩⟩⟩
 ·go_enter Tryz.func85,Tryz.ntmps85;go_wp2;go_ret;exact⟨rfl,rfl⟩
 ·by_cases h65:65<=c
  ·exfalso;omega
  ·go_enter Tryz.func85,Tryz.ntmps85;go_wp2;go_ret;exact⟨rfl,rfl⟩
 ·subst a3;go_enter Tryz.func85,Tryz.ntmps85;go_wp2;go_ret;exact⟨rfl,rfl⟩
 ·have e:((c:Int) == 930)=false:=by simp;omega
  go_enter Tryz.func85,Tryz.ntmps85;go_wp2;go_ret;refine⟨?_,rfl⟩
  first | rfl | (simp;omega)
 ·have e:((c:Int) == 930)=false:=by simp;omega
  have hc3:(c<48)\/(57<c/\c<65)\/(90<c/\c<913)\/937<c:=by omega
  clear a1 a2 a4;rcases hc3 with h | ⟨h,h'⟩ | ⟨h,h'⟩ | h
  all_goals
   go_enter Tryz.func85,Tryz.ntmps85;go_wp2;go_ret;refine⟨?_,rfl⟩
   first | rfl | (simp;omega)
theorem FT(s:ByteArray)(i:Nat):(Utf8.decode s i).1<=1114111/\1<=(Utf8.decode s i).2:=by
 unfold Utf8.decode;simp only;have hv:∀r:Nat,Utf8.valid (r:Int)=true->r<=1114111:=fun r h=>by simp[Utf8.valid]at h;omega
 split
 ·rename_i h;exact⟨Nat.le_trans (Nat.le_of_lt h) (by decide),Nat.le_refl _⟩
 ·split
  ·split
   ·exact⟨by simp;omega,by simp⟩
   ·exact⟨by decide,by simp⟩
  ·split
   ·split
    ·rename_i h;simp at h;exact⟨hv _ (by simpa using h.2),by simp⟩
    ·exact⟨by decide,by simp⟩
   ·split
    ·split
     ·rename_i h;simp at h;exact⟨hv _ (by simpa using h.2),by simp⟩
     ·exact⟨by decide,by simp⟩
    ·exact⟨by decide,by simp⟩
theorem MO(s:ByteArray)(hs:s.size<=1000000000):tH s (nX s):=by
 intro w;have HL:Hid (∀(c:Nat) W,CT 85 #[.int .i32 (c:Int)] W fun e w'=>e=.returned (.bool (Ae c))/\w'=W):=Gf;have HE:Hid (∀pos,¬pos<s.size->∀ty,(Instr.next (PP w.heap.size) true ty).run Tryz.prog (w.iter s pos)=.ok (.tuple #[.bool false]) (w.iter s pos)):=fun pos h ty=>run_next_end w s pos ty h
 have HD:Hid (∀pos c n,pos<s.size->Utf8.decode s pos=(c,n)->∀ty,(Instr.next (PP w.heap.size) true ty).run Tryz.prog (w.iter s pos)=.ok (.tuple #[.bool true,II pos,.int .i32 c]) (w.iter s (pos+n))):=fun pos c n h hd ty=>Hg w s pos c n ty h hd
 have HK:Hid (∀pos,aj aJ w (w.iter s pos)):=fun pos=>(aj.refl aJ w).alloc _
 go_enter Tryz.func50,Tryz.ntmps50;go_wp2;go_loopg [3] (s.size+1) (fun q nv wr=>∃pos n:Nat,nv=II (n:Int)/\wr=w.iter s pos/\qN s q pos n=nX s/\s.size<pos+q/\n<=6/\pos<=s.size)
 case atStart=>exact⟨0,0,rfl,rfl,rfl,by omega,by omega,by omega⟩
 case round =>
  obtain⟨pos,n,rfl,rfl,hF,hq,hn6,hps⟩:=hrel;by_cases hp:pos<s.size
  ·obtain⟨q,rfl⟩:∃q,gk=q+1:=⟨gk-1,by omega⟩;have hdb:=FT s pos;obtain⟨⟨c,k⟩,hd⟩:∃x,Utf8.decode s pos=x:=⟨_,rfl⟩;have n0:=ae HD pos c k hp hd;rw[hd]at hdb;simp only at hdb;have hF2:qN s (q+1) pos n=(if Ae (JE s pos).1 then qN s q (pos+(JE s pos).2) (n+1) else false):=by
    conv=>lhs;unfold qN
    rw[if_pos hp]
   by_cases h6:n=6
   ·have hR:nX s=false:=by
     rw[<-hF,hF2];split
     ·exact BU _ _ _ _ (by omega)
     ·rfl
    have HR:=au hR;subst h6;clear hF hF2 hR hd;go_wp2;go_ret;exact⟨by rw[ae HR];rfl,ae HK _⟩
   ·cases hu:Ae (JE s pos).1
    ·have hc:Ae c=false:=by have:=Xa hp hu;rw[hd]at this;exact this
     have hR:nX s=false:=by rw[<-hF,hF2,hu];rfl
     obtain⟨HR,HC⟩:=dE hR (ae HL c);rw[hc]at HC;clear hF hF2 hR hd hc hu;go_wp2_with fail;refine (ae HC _).mono ?_;rintro e w' ⟨rfl,rfl⟩;go_wp2;go_ret;exact⟨by rw[ae HR];rfl,ae HK _⟩
    ·have he:=ZG hp hu;rw[hd]at he;have hc:Ae c=true:=by rw[<-he]at hu;exact hu
     have hpk:pos+k<=s.size:=by have:=(XM s pos).2.2.1 hp;rw[<-he]at this;exact this
     have hR:qN s q (pos+k) (n+1)=nX s:=by rw[<-hF,hF2,hu,<-he];rfl
     obtain⟨HR,HC⟩:=dE hR (ae HL c);rw[hc]at HC;clear hF hF2 hR hd hc hu he;go_wp2_with fail;refine (ae HC _).mono ?_;rintro e w' ⟨rfl,rfl⟩;go_wp2;go_roundg q
     case measure=>omega
     case rel=>exact⟨pos+k,n+1,by push_cast;rfl,rfl,ae HR,by omega,by omega,hpk⟩
  ·have n0:=ae HE pos hp;obtain⟨q,rfl⟩:∃q,gk=q+1:=by
    cases gk with
    | zero=>exfalso;omega
    | succ q=>exact⟨q,rfl⟩
   have hR:nX s=decide (0<n):=by
    rw[<-hF];unfold qN;rw[if_neg hp];have:decide (n<=6)=true:=by simpa using hn6
    rw[this,Bool.and_true]
    rfl
   have HR:=au hR;clear hF hR;go_wp2;go_ret;exact⟨by rw[ae HR];simp,ae HK _⟩
def Hw(o:Ord)(n:Int):Ord:={ o with filled:=wrap64 (o.filled-n) }
def RS.uB(S:RS)(i:Nat)(n:Int):RS:=S.ik i (Hw (ax S.l i) n)
def RS.nH(S:RS)(i:Nat)(n:Int)(again:Bool):Bool:=again && (fD (ax S.l i).kind && (gZ (S.uB i n).l (dm (ax S.l i))).isNone)
def RS.gm(S:RS)(i:Nat)(n:Int)(again:Bool):RS :=
 if S.nH i n again=true then (S.uB i n).qW i n else S.ik i { Hw (ax S.l i) n with bZ:=wrap64 ((ax S.l i).bZ+n) }
def RS.acj(S:RS)(k:Nat)(g:Tg):RS:={ S with t:=S.t.set k g }
end Go.Proofs.YtigaphnafnpfnaaGreatDoor
