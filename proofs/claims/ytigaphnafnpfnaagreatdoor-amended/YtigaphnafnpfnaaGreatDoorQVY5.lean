import Derived.Test.YtigaphnafnpfnaaGreatDoorQVJ5
import Derived.Test.YtigaphnafnpfnaaGreatDoorQVY4
import Derived.Test.YtigaphnafnpfnaaGreatDoorQVF1
import Derived.Test.YtigaphnafnpfnaaGreatDoorQVX11
import Derived.Deep.CutRange
import Derived.Test.YtigaphnafnpfnaaGreatDoorQVF3
import Derived.Maps.RangeWalk
set_option linter.unusedVariables false
set_option linter.unusedSimpArgs false
set_option maxHeartbeats 8000000
set_option maxRecDepth 100000
namespace Go.Proofs.YtigaphnafnpfnaaGreatDoor
open Go.RowKit
theorem oW.fin{p:Nat→Nat}{oc i s:Nat}{sym:ByteArray}{R0:List Rc}{uV f0 M:Int}{st:MS}{c:RC}(h:oW p oc i s sym R0 uV f0 st c)(hM:M≤1000000000000000)(q:Qo M (st.om oc)) :
 (∀k,k<c.S.l.length→jV (aA oc st (p k))=jV (ah (nN i c).l k))∧(nN i c).l.length=c.S.l.length∧(∀k,k≠i→ah (nN i c).l k=ah c.S.l k) ∧
  (dh (st.om oc)=true→(ah (nN i c).l i).place=wrap64 (c.S.places+1)∧(nN i c).places=wrap64 (c.S.places+1))∧(dh (st.om oc)=false→(ah (nN i c).l i).opn=0∧(nN i c).places=c.S.places)∧(nN i c).t=c.S.t∧(nN i c).told=c.S.told∧(nN i c).day=c.S.day∧(nN i c).sy=c.S.sy:=by
 obtain⟨dJ,hleft,KZ,htp,Oj,hbs,hfil,hcnt,uF,hle,hf0,hf1⟩:=h
 have il:=dJ.il
 have hself:=dI dJ.self
 obtain⟨s1,s2,s3,s4,s5,s6,s7,s8,s9,s10,s11,s12⟩:=hself
 simp only at s1 s2 s3 s4 s5 s6 s7 s8 s9 s10 s11 s12
 have VD:∀a,a<c.S.l.length→a≠i→p a≠oc:=fun a ha e e2=>e (dJ.inj a i ha il (by rw[e2,dJ.pi]))
 have o0:=q.o0
 have yC:∀k,k<c.S.l.length→k≠i→aA oc st (p k)=st.om (p k):=fun k hk e=>by
  unfold aA
  split <;> exact af _ _ (VD k hk e)
 have bnd:(st.om oc).opn≤1000000000000000∧(st.om oc).aG≤1000000000000000:=by have:=q.hi;have:=q.sum;have:=q.f0;have:=q.c0;have:=q.e0;omega
 have hk':(st.om oc).kind=(ah c.S.l i).kind:=s5
 unfold nN
 by_cases hz:c.left=0
 ·have hw:dh (st.om oc)=false:=by unfold dh;rw[←hleft,hz];rfl
  rw[if_pos hz]
  refine⟨fun k hk=>?_,rfl,fun k _=>rfl,fun e=>absurd e (by rw[hw];decide),fun _=>⟨s9.symm,rfl⟩,rfl,rfl,rfl,rfl⟩
  by_cases e:k=i
  ·subst e
   rw[dJ.pi]
   unfold aA
   rw[hw]
   simp only[Bool.false_eq_true,if_false,upd_same]
   rw[←dJ.self]
   show jV (fA (st.om oc))=jV { st.om oc with opn:=0 }
   unfold fA
   rw[←hleft,hz,Int.add_zero,aF (by have:=q.c0;omega) (by omega)]
  ·rw[yC k hk e];exact dJ.same k hk e
 ·rw[if_neg hz]
  have hp:0<(st.om oc).opn:=by omega
  by_cases hr:di (ah c.S.l i).kind=true
  ·have hw:dh (st.om oc)=true:=by unfold dh;rw[hk',hr];simpa using hp
   rw[if_pos hr]
   refine⟨fun k hk=>?_,by simp[RS.stand],fun k e=>?_,fun _=>⟨?_,rfl⟩,fun e=>absurd e (by rw[hw];decide),rfl,rfl,rfl,rfl⟩
   ·simp only[RS.stand]
    rw[dG il]
    by_cases e:k=i
    ·subst e
     rw[if_pos rfl,dJ.pi]
     unfold aA
     rw[hw]
     simp only[if_true,upd_same]
     have e1:wrap64 ((ah c.S.l k).opn+c.left)=(st.om oc).opn:=by rw[←s9,hleft,Int.zero_add];exact aF (by omega) (by omega)
     have:=dJ.self
     show jV (st.om oc)={ jV (ah c.S.l k) with opn:=wrap64 ((ah c.S.l k).opn+c.left) }
     rw[←this,e1]
     rfl
    ·rw[if_neg e,yC k hk e];exact dJ.same k hk e
   ·simp only[RS.stand];rw[dG il,if_neg e]
   ·simp only[RS.stand];rw[dG il,if_pos rfl]
  ·have hw:dh (st.om oc)=false:=by
    unfold dh;rw[hk']
    cases hx:di (ah c.S.l i).kind
    ·simp
    ·exact absurd hx hr
   rw[if_neg hr]
   refine⟨fun k hk=>?_,by simp[RS.cu],fun k e=>?_,fun e=>absurd e (by rw[hw];decide),fun _=>⟨?_,rfl⟩,rfl,rfl,rfl,rfl⟩
   ·simp only[RS.cu]
    rw[dG il]
    by_cases e:k=i
    ·subst e
     rw[if_pos rfl,dJ.pi]
     unfold aA
     rw[hw]
     simp only[Bool.false_eq_true,if_false,upd_same]
     have:=dJ.self
     show jV (fA (st.om oc))={ jV (ah c.S.l k) with aG:=wrap64 ((ah c.S.l k).aG+c.left) }
     rw[←this,←s11,hleft]
     rfl
    ·rw[if_neg e,yC k hk e];exact dJ.same k hk e
   ·simp only[RS.cu];rw[dG il,if_neg e]
   ·simp only[RS.cu];rw[dG il,if_pos rfl];exact s9.symm
theorem oW.report{p:Nat→Nat}{oc i s:Nat}{sym:ByteArray}{R0:List Rc}{uV f0 M:Int}{st:MS}{c:RC}(h:oW p oc i s sym R0 uV f0 st c)(hM:M≤1000000000000000)(q:Qo M (st.om oc))(o0:Ord)(e1:o0.filled=f0)(e2:o0.aG=(st.om oc).aG)(htr:st.tr≤1000000000)(Uw:0≤uV) :
 rep o0 (aA oc st oc) uV st.tr=F5 i c:=by
 obtain⟨dJ,hleft,KZ,htp,Oj,hbs,hfil,hcnt,uF,hle,hf0,hf1⟩:=h
 have hself:=dI dJ.self
 have hk':(st.om oc).kind=(ah c.S.l i).kind:=hself.2.2.2.2.1
 have q1:=q.o0;have q2:=q.f0;have q3:=q.c0;have q4:=q.e0;have q5:=q.sum;have q6:=q.hi
 have key:∀O:Ord,O.filled=(st.om oc).filled→rep o0 O uV st.tr=bu c.filled O.opn (wrap64 (O.aG-(st.om oc).aG)) c.first c.count:=fun O hO=>by
  unfold rep
  rw[hO,e1,e2,aF (x:=(st.om oc).filled-f0) (by omega) (by omega),hfil,uF,hcnt]
  split
  ·rw[if_neg (by omega),aF (x:=uV+1) (by omega) (by omega),aF (x:=st.tr-uV) (by omega) (by omega)]
  ·rw[if_pos (by omega),show st.tr-uV=0 by omega]
 unfold F5
 by_cases hz:c.left=0
 ·have hw:dh (st.om oc)=false:=by unfold dh;rw[←hleft,hz];rfl
  rw[if_pos hz]
  have e:aA oc st oc=fA (st.om oc):=by unfold aA;rw[hw];simp[upd_same]
  rw[e,key (fA (st.om oc)) rfl]
  show bu c.filled 0 (wrap64 (wrap64 ((st.om oc).aG+(st.om oc).opn)-(st.om oc).aG)) c.first c.count=_
  rw[←hleft,hz,Int.add_zero,aF (x:=(st.om oc).aG) (by omega) (by omega),Int.sub_self,aF (by decide) (by decide)]
 ·rw[if_neg hz]
  have hp:0<(st.om oc).opn:=by omega
  by_cases hr:di (ah c.S.l i).kind=true
  ·have hw:dh (st.om oc)=true:=by unfold dh;rw[hk',hr];simpa using hp
   rw[if_pos hr]
   have e:aA oc st oc={ st.om oc with place:=wrap64 (st.B.places+1) }:=by unfold aA;rw[hw];simp[upd_same]
   rw[e,key { st.om oc with place:=wrap64 (st.B.places+1) } rfl]
   show bu c.filled (st.om oc).opn (wrap64 ((st.om oc).aG-(st.om oc).aG)) c.first c.count=_
   rw[Int.sub_self,aF (by decide) (by decide),hleft]
  ·have hw:dh (st.om oc)=false:=by
    unfold dh;rw[hk']
    cases hx:di (ah c.S.l i).kind
    ·simp
    ·exact absurd hx hr
   rw[if_neg hr]
   have e:aA oc st oc=fA (st.om oc):=by unfold aA;rw[hw];simp[upd_same]
   rw[e,key (fA (st.om oc)) rfl]
   show bu c.filled 0 (wrap64 (wrap64 ((st.om oc).aG+(st.om oc).opn)-(st.om oc).aG)) c.first c.count=_
   rw[aF (x:=(st.om oc).aG+(st.om oc).opn) (by omega) (by omega),show (st.om oc).aG+(st.om oc).opn-(st.om oc).aG=(st.om oc).opn by omega,aF (by omega) (by omega),hleft]
def mN(N:Nat):Int:=1000000 * ((N:Int)+1)
structure bF(p:Nat→Nat)(V:aW)(S:RS)(N:Nat):Prop where
 gw:GW V (mN N)
 nb:V.nb=S.sy.length
 sym:∀i,i<V.nb→S.sy[i]?=some (V.B i).sym
 no:V.no=S.l.length
 aO:∀k,k<S.l.length→V.aO (ah S.l k).id=some (p k)
 yD:∀id b,V.aO id=some b→∃k,k<S.l.length∧(ah S.l k).id=id∧p k=b
 inj:∀a b,a<S.l.length→b<S.l.length→p a=p b→a=b
 same:∀k,k<S.l.length→jV (V.om (p k))=jV (ah S.l k)
 place:∀a b,a<S.l.length→b<S.l.length→(ah S.l a).sym=(ah S.l b).sym→0<(ah S.l a).opn→0<(ah S.l b).opn→((V.om (p a)).place<(V.om (p b)).place↔(ah S.l a).place<(ah S.l b).place)
 uz:∀a b,a<S.l.length→b<S.l.length→a≠b→(ah S.l a).sym=(ah S.l b).sym→0<(ah S.l a).opn→0<(ah S.l b).opn→(ah S.l a).place≠(ah S.l b).place
 LM:∀k,k<S.l.length→0<(ah S.l k).opn→∀i,i<V.nb→(V.B i).sym=(ah S.l k).sym→(V.om (p k)).place≤(V.B i).places
 LQ:∀k,k<S.l.length→0<(ah S.l k).opn→(ah S.l k).place≤S.places
 GU:∀i,i<V.nb→0≤(V.B i).places∧(V.B i).places≤2 * (N:Int)
 Pq:0≤S.places∧S.places≤2 * (N:Int)
 tr:V.lg.tr=S.t
 day:V.lg.day=S.day
 Bl:V.lg.tr.length≤300 * N
 tpN:V.lg.tp.length≤300 * N
 zG:V.lg.na≤N
 eF:V.no≤200
 OZ:V.nb≤6
 ids:∀k,k<S.l.length→bg (ah S.l k).id=true
section
variable {p : Nat → Nat} {V : aW} {S : RS} {N : Nat}
theorem bF.vl(h:bF p V S N)(x:Nat):VL V x↔∃k,k<S.l.length∧p k=x:=by
 constructor
 ·rintro⟨id,hx⟩
  obtain⟨k,hk,_,e⟩:=h.yD id x hx
  exact⟨k,hk,e⟩
 ·rintro⟨k,hk,rfl⟩
  exact⟨_,h.aO k hk⟩
theorem bF.opn(h:bF p V S N){k:Nat}(hk:k<S.l.length):0≤(ah S.l k).opn∧(ah S.l k).opn≤mN N:=by
 have q:=h.gw.q (p k) ((h.vl _).2 ⟨k,hk,rfl⟩)
 have e:=(dI (h.same k hk)).2.2.2.2.2.2.2.2.1
 rw[←e]
 have:=q.o0;have:=q.f0;have:=q.c0;have:=q.e0;have:=q.sum;have:=q.hi
 omega
theorem bF.side(h:bF p V S N){k:Nat}(hk:k<S.l.length):(ah S.l k).side=0∨(ah S.l k).side=1:=by
 have e:=(dI (h.same k hk)).2.2.2.1
 rw[←e]
 exact h.gw.side (p k) ((h.vl _).2 ⟨k,hk,rfl⟩)
theorem bF.count(h:bF p V S N){i s:Nat}(hi:i<V.nb)(hs:s<2):(V.B i).n s≤V.no:=by
 have hm:∀k,k<(V.B i).n s→∃j,j<S.l.length∧p j=(V.B i).h s k:=fun k hk=>(h.vl _).1 ((((h.gw.gb i hi).mem s hs _).1 ⟨k,hk,rfl⟩).1)
 rw[h.no]
 have hj:∃f:Nat→Nat,∀k,k<(V.B i).n s→f k<S.l.length∧p (f k)=(V.B i).h s k:=by
  refine⟨fun k=>if hk:k<(V.B i).n s then (hm k hk).choose else 0,fun k hk=>?_⟩
  dsimp only
  rw[dif_pos hk]
  exact (hm k hk).choose_spec
 obtain⟨f,hf⟩:=hj
 refine UY S.l.length _ f (fun a b ha hb e=>?_) (fun k hk=>(hf k hk).1)
 have:=(hf a ha).2
 rw[e,(hf b hb).2]at this
 exact (h.gw.gb i hi).inj s hs a b ha hb this.symm
end
theorem GW.mono{V:aW}{M M':Int}(h:GW V M)(hm:M≤M'):GW V M':=⟨h.gb,h.kG,fun x hx=>(h.q x hx).mono hm,h.sym,h.side⟩
theorem qf{N N':Nat}(h:N≤N'):mN N≤mN N':=by unfold mN;omega
theorem qZ{oc s:Nat}:∀(f:Nat) (st:MS),(aZ oc s f st).B.places=st.B.places:=by
 intro f
 induction f with
 | zero=>intro st;rfl
 | succ f ih =>
   intro st
   rw[aZ]
   split
   ·rfl
   ·rw[ih]
    unfold bV
    split
    ·rfl
    ·simp only[dM]
     split <;> rfl
theorem BM(oc t g cap':Nat)(st:MS):(dS oc t g cap' st).places=if dh (st.om oc) then wrap64 (st.B.places+1) else st.B.places:=by
 unfold dS
 split <;> rfl
theorem bF.O8{p:Nat→Nat}{V V':aW}{N:Nat}{oc i s t g cap' ib:Nat}{st:MS}{c:RC}{R0:List Rc}{uV f0:Int}(hN:N<3000000)(hib:ib<V.nb)
 (hr:oW p oc i s (V.B ib).sym R0 uV f0 st c) (q:Qo (mN (N+1)) (st.om oc))
 (gw:GW V' (mN (N+1))) (hnb:V'.nb=V.nb) (hB:V'.B=upd V.B ib (dS oc t g cap' st)) (oL:V'.om=aA oc st) (XA:V'.lg=l9 oc st)
 (hBs:∀j,(V'.B j).sym=(V.B j).sym) (hpb:st.B.places=(V.B ib).places) (GU:∀i,i<V.nb→0≤(V.B i).places∧(V.B i).places≤2 * (N:Int))
 (aap:V.nb=c.S.sy.length) (aaw:∀i,i<V.nb→c.S.sy[i]?=some (V.B i).sym) (hno:V'.no=c.S.l.length) (Ib:∀k,k<c.S.l.length→V'.aO (ah c.S.l k).id=some (p k)) (XH:∀id b,V'.aO id=some b→∃k,k<c.S.l.length∧(ah c.S.l k).id=id∧p k=b)
 (LM:∀k,k<c.S.l.length→k≠i→0<(ah c.S.l k).opn→∀j,j<V.nb→(V.B j).sym=(ah c.S.l k).sym→(st.om (p k)).place≤(V.B j).places)
 (LQ:∀k,k<c.S.l.length→k≠i→0<(ah c.S.l k).opn→(ah c.S.l k).place≤c.S.places) (Pq:0≤c.S.places∧c.S.places≤2 * (N:Int))
 (Bl:st.lg.tr.length≤300 * (N+1)) (tpN:st.lg.tp.length≤300 * (N+1)) (zG:st.lg.na≤N+1) (eF:V'.no≤200) (hn6:V.nb≤6) (aao:∀k,k<c.S.l.length→bg (ah c.S.l k).id=true):bF p V' (nN i c) (N+1):=by
 have hM:mN (N+1)≤1000000000000000:=by unfold mN;omega
 obtain⟨f1,f2,f3,f4,f5,f6,f7,f8,f9⟩:=hr.fin hM q
 have dJ:=hr.nH
 have il:=dJ.il
 have VD:∀a,a<c.S.l.length→a≠i→p a≠oc:=fun a ha e e2=>e (dJ.inj a i ha il (by rw[e2,dJ.pi]))
 have yC:∀k,k<c.S.l.length→k≠i→aA oc st (p k)=st.om (p k):=fun k hk e=>by
  unfold aA
  split <;> exact af _ _ (VD k hk e)
 have idk:∀k,k<c.S.l.length→(ah (nN i c).l k).id=(ah c.S.l k).id:=fun k hk=>by
  by_cases e:k=i
  ·subst e
   have a:=(dI (f1 k hk)).1
   have b:=(dI dJ.self).1
   simp only at b
   rw[←a,←b,dJ.pi,uy]
  ·rw[f3 k e]
 have PN:(ah (nN i c).l i).sym=(V.B ib).sym:=by
  have a:=(dI (f1 i il)).2.2.1
  have b:=(dI dJ.self).2.2.1
  simp only at b
  rw[←a,dJ.pi,←dJ.Rj,←b]
  unfold aA
  split <;> rw[upd_same]
  rfl
 have wb:wrap64 ((V.B ib).places+1)=(V.B ib).places+1:=aF (by have:=GU ib hib;omega) (by have:=GU ib hib;omega)
 have ws:wrap64 (c.S.places+1)=c.S.places+1:=aF (by omega) (by omega)
 have plc:∀j,(V'.B j).places=if j=ib∧dh (st.om oc)=true then (V.B ib).places+1 else (V.B j).places:=fun j=>by
  rw[hB]
  by_cases e:j=ib
  ·subst e
   rw[upd_same,BM,hpb]
   split
   ·rename_i hw;rw[if_pos ⟨rfl,hw⟩,wb]
   ·rename_i hw;rw[if_neg (fun h=>hw h.2)]
  ·rw[af _ _ e,if_neg (fun h=>e h.1)]
 have LG:0<(ah (nN i c).l i).opn→dh (st.om oc)=true:=fun h0=>by
  cases hw:dh (st.om oc)
  ·have:=(f5 hw).1;omega
  ·rfl
 have IK:dh (st.om oc)=true→(aA oc st oc).place=(V.B ib).places+1:=fun hw=>by
  unfold aA
  rw[if_pos hw,upd_same]
  show wrap64 (st.B.places+1)=_
  rw[hpb,wb]
 have FO:∀k,k<c.S.l.length→k≠i→0<(ah c.S.l k).opn→(ah c.S.l k).sym=(V.B ib).sym→(st.om (p k)).place≤(V.B ib).places∧(ah c.S.l k).place≤c.S.places:=fun k hk e h0 hsy=>⟨LM k hk e h0 ib hib hsy.symm,LQ k hk e h0⟩
 refine⟨gw,?_,?_,?_,?_,?_,?_,?_,?_,?_,?_,?_,?_,?_,?_,?_,?_,?_,?_,?_,by rw[hnb];exact hn6,fun k hk=>by rw[f2]at hk;rw[idk k hk];exact aao k hk⟩
 ·rw[hnb,f9];exact aap
 ·intro j hj;rw[f9,hBs j];exact aaw j (by omega)
 ·rw[hno,f2]
 ·intro k hk;rw[f2]at hk;rw[idk k hk];exact Ib k hk
 ·intro id b hb
  obtain⟨k,hk,e1,e2⟩:=XH id b hb
  exact⟨k,by rw[f2];exact hk,by rw[idk k hk];exact e1,e2⟩
 ·intro a b ha hb e;rw[f2]at ha hb;exact dJ.inj a b ha hb e
 ·intro k hk;rw[f2]at hk;rw[oL];exact f1 k hk
 ·intro a b ha hb hsy h1 h2
  rw[f2]at ha hb
  rw[oL]
  by_cases ea:a=i <;> by_cases eb:b=i
  ·rw[ea,eb];exact⟨fun h=>by omega,fun h=>by omega⟩
  ·subst ea
   have hw:=LG h1
   rw[f3 b eb]at hsy h2 ⊢
   obtain⟨o1,o2⟩:=FO b hb eb h2 (by rw[←hsy];exact PN)
   rw[dJ.pi,IK hw,yC b hb eb,(f4 hw).1,ws]
   omega
  ·subst eb
   have hw:=LG h2
   rw[f3 a ea]at hsy h1 ⊢
   obtain⟨o1,o2⟩:=FO a ha ea h1 (by rw[hsy];exact PN)
   rw[dJ.pi,IK hw,yC a ha ea,(f4 hw).1,ws]
   omega
  ·rw[f3 a ea,f3 b eb]at hsy ⊢
   rw[f3 a ea]at h1
   rw[f3 b eb]at h2
   rw[yC a ha ea,yC b hb eb]
   exact dJ.place a b ha hb ea eb hsy h1 h2
 ·intro a b ha hb hab hsy h1 h2
  rw[f2]at ha hb
  by_cases ea:a=i <;> by_cases eb:b=i
  ·omega
  ·subst ea
   have hw:=LG h1
   rw[f3 b eb]at hsy h2 ⊢
   obtain⟨o1,o2⟩:=FO b hb eb h2 (by rw[←hsy];exact PN)
   rw[(f4 hw).1,ws]
   omega
  ·subst eb
   have hw:=LG h2
   rw[f3 a ea]at hsy h1 ⊢
   obtain⟨o1,o2⟩:=FO a ha ea h1 (by rw[hsy];exact PN)
   rw[(f4 hw).1,ws]
   omega
  ·rw[f3 a ea,f3 b eb]at hsy ⊢
   rw[f3 a ea]at h1
   rw[f3 b eb]at h2
   exact dJ.uz a b ha hb ea eb hab hsy h1 h2
 ·intro k hk h0 j hj hsy
  rw[f2]at hk
  rw[hBs j]at hsy
  rw[oL,plc j]
  by_cases e:k=i
  ·subst e
   have hw:=LG h0
   have ej:j=ib:=gw.kG j ib hj (by rw[hnb];exact hib) (by rw[hBs j,hBs ib,hsy];exact PN)
   rw[dJ.pi,IK hw,if_pos ⟨ej,hw⟩]
   omega
  ·rw[f3 k e]at h0 hsy
   rw[yC k hk e]
   have:=LM k hk e h0 j (by omega) hsy
   split
   ·rename_i hx;rw[hx.1]at this;omega
   ·exact this
 ·intro k hk h0
  rw[f2]at hk
  have hp:c.S.places≤(nN i c).places:=by
   cases hw:dh (st.om oc)
   ·rw[(f5 hw).2];omega
   ·rw[(f4 hw).2,ws];omega
  by_cases e:k=i
  ·subst e
   have hw:=LG h0
   rw[(f4 hw).1,(f4 hw).2];omega
  ·rw[f3 k e]at h0 ⊢
   have:=LQ k hk e h0
   omega
 ·intro j hj
  rw[plc j]
  have h1:=GU j (by omega)
  have h2:=GU ib hib
  split <;> (push_cast;omega)
 ·cases hw:dh (st.om oc)
  ·rw[(f5 hw).2];push_cast;omega
  ·rw[(f4 hw).2,ws];push_cast;omega
 ·rw[XA,f6];exact hr.tr
 ·rw[XA,f8];exact hr.day
 ·rw[XA];exact Bl
 ·rw[XA];exact tpN
 ·rw[XA];exact zG
 ·exact eF
end Go.Proofs.YtigaphnafnpfnaaGreatDoor
namespace Go.Proofs.YtigaphnafnpfnaaGreatDoor
open Go.RowKit
attribute [local go_sem ↓] Go.wp_at_zero Go.wp_at_succ
theorem QR:(Tryz.prog.info? 169).map (fun i=>(i.zero.map (fun z=>z.cells.size),i.size,i.bytes))=some (some 13,13,120):=by kernel_rfl
theorem zy:∃i z,Tryz.prog.info? 169=some i∧i.zero=some z∧i.size=13∧i.bytes=120∧z.cells.size=13:=by
 have h:=QR
 cases hi:Tryz.prog.info? 169 with
 | none=>rw[hi]at h;simp at h
 | some i =>
   rw[hi]at h
   simp at h
   obtain⟨⟨z,hz,hs⟩,h2,h3⟩:=h
   exact⟨i,z,rfl,hz,h2,h3,hs⟩
theorem Td(tmps:Array Value)(H:Nat)(w:World)(a b c d e E:Int)(ht:tmps.getD 4 undef=.pointer (some ⟨H,0,none⟩))(hu:tmps.getD 5 undef=.int .i64 E)(hb:ai w H #[.int .i64 a,.int .i64 b,.int .i64 c,.int .i64 d,.int .i64 e] 87) :
 (results Tryz.f99 tmps).run Tryz.prog w=.ok (.tuple #[bu a b c d e,.int .i64 E]) w:=by
 have c0:w.cell? ⟨H,0,none⟩=some (.int .i64 a):=hb.cell 0
 have c1:w.cell? ⟨H,1,none⟩=some (.int .i64 b):=hb.cell 1
 have c2:w.cell? ⟨H,2,none⟩=some (.int .i64 c):=hb.cell 2
 have c3:w.cell? ⟨H,3,none⟩=some (.int .i64 d):=hb.cell 3
 have c4:w.cell? ⟨H,4,none⟩=some (.int .i64 e):=hb.cell 4
 simp only[Array.getD_eq_getD_getElem?]at ht hu
 simp[results,Tryz.results99,go_sem,ht,hu,c0,c1,c2,c3,c4,bu]
theorem RV.Ns{w1 w2:World}{base rb n H g cap:Nat}{A:List aP}{R:List Rc}{L:ByteArray}{av rv:Value}{x:aP}(h:RV w1 base rb A R L av rv)(hn:A.length=n)(hown:w2.ownsRow base 169 13 (.slice (some ⟨g,0,none⟩) (n+1) cap) (n+1) (EG A++vY x))(hgrow:w1.grownBy w2 av.ownBlock)(hat:av.ownBlock=some g∨g=H)(hH:w1.heap.size=H) :
 zV base rb (A++[x]) R L av rv w1 (w2.setCell ⟨rb,0,none⟩ (.slice (some ⟨g,0,none⟩) (n+1) cap)):=by
 have hne:av.ownBlock≠some rb:=fun e=>by obtain⟨cs,hc⟩:=ay h.xm e;exact ai.ne hc h.blk (by decide) rfl
 have hb2:ai w2 rb _ 129:=(hgrow.block rb h.blk.lt (fun e=>hne e.symm)).trans h.blk
 have k1:ag (fun b=>av.ownBlock=some b) w1 w2:=(ag.refl _ w1).grown hgrow (fun k e=>.inl e)
 have k2:ag (fun b=>b=rb) w2 (w2.setCell ⟨rb,0,none⟩ (.slice (some ⟨g,0,none⟩) (n+1) cap)):=(ag.refl (fun b=>b=rb) w2).setCell (p:=⟨rb,0,none⟩) (.inl rfl) _
 refine⟨.slice (some ⟨g,0,none⟩) (n+1) cap,rv,⟨h.ge,hb2.set 0 _,?_,?_⟩,?_,?_⟩
 ·simp only[List.length_append,List.length_cons,List.length_nil,hn,EG,uB]
  exact aJ (t:=0) hown k2 (fun b hb=>by subst hb;exact⟨_,_,hb2,by decide⟩)
 ·have r1:=aJ (t:=0) h.uS k1 (fun b hb=>by obtain⟨cs,hc⟩:=ay h.xm hb;exact⟨cs,_,hc,by decide⟩)
  exact aJ (t:=0) r1 k2 (fun b hb=>by subst hb;exact⟨_,_,hb2,by decide⟩)
 ·rintro b (rfl | hb | hb)
  ·exact .inl (.inl rfl)
  ·simp only[Value.ownBlock,Option.some.injEq]at hb
   rcases hat with e | e
   ·exact .inl (.inr (.inl (by rw[e,hb])))
   ·right;omega
  ·exact .inl (.inr (.inr hb))
 ·exact (k1.mono (fun b hb=>.inr (.inl hb))).trans (k2.mono (fun b hb=>.inl hb))
theorem RV.X4{w:World}{base rb:Nat}{A:List aP}{R:List Rc}{L:ByteArray}{av rv:Value}(h:RV w base rb A R L av rv)(L':ByteArray):zV base rb A R L' av rv w (w.setCell ⟨rb,2,none⟩ (.string L')):=by
 have k:ag (fun b=>b=rb) w (w.setCell ⟨rb,2,none⟩ (.string L')):=(ag.refl (fun b=>b=rb) w).setCell (p:=⟨rb,2,none⟩) (.inl rfl) _
 exact⟨av,rv,⟨h.ge,h.blk.set 2 _,aJ (t:=0) h.xm k (fun b hb=>by subst hb;exact⟨_,_,h.blk,by decide⟩),aJ (t:=0) h.uS k (fun b hb=>by subst hb;exact⟨_,_,h.blk,by decide⟩)⟩,fun b hb=>.inl hb,k.mono (fun b hb=>.inl hb)⟩
theorem Ya(w:World)(x:aP):∀j u,(vY x)[j]?=some u→(w.alloc (.cells #[.int .u8 x.kind,.string x.s,.int .i64 x.o.id,.int .i64 x.o.owner,.string x.o.sym,.int .i64 x.o.side,.int .i64 x.o.kind,.int .i64 x.o.price,.int .i64 x.o.qty,.int .i64 x.a,.int .i64 x.b,.int .i64 x.c,.bool x.again] 169)).cell? (Addr.add ⟨w.heap.size,0,none⟩ j)=some u:=by
 intro j u hj
 have hb:=ai.new w #[.int .u8 x.kind,.string x.s,.int .i64 x.o.id,.int .i64 x.o.owner,.string x.o.sym,.int .i64 x.o.side,.int .i64 x.o.kind,.int .i64 x.o.price,.int .i64 x.o.qty,.int .i64 x.a,.int .i64 x.b,.int .i64 x.c,.bool x.again] 169
 have e:Addr.add ⟨w.heap.size,0,none⟩ j=⟨w.heap.size,j,none⟩:=by simp[Addr.add];omega
 rw[e,hb.cell,←hj]
 simp[vY]
structure Dn(w:World)(base rb:Nat)(A:List aP)(R:List Rc)(L:ByteArray)(av rv:Value)(S':RS)(m:SM)(act:Array Value)(w3:World):Prop where
 rv:RV w3 base rb A R L av rv
 st:bH w3 (w.heap.size+2) (w.heap.size+2) S' m
 act:ai w3 w.heap.size act 169
 z:ai w3 (w.heap.size+1) aB 87
 k:ag ak w w3
theorem Dn.of{w w2 w3:World}{base rb:Nat}{A:List aP}{R:List Rc}{L:ByteArray}{av rv:Value}{S S':RS}{m:SM}{act:Array Value}(h:RV w base rb A R L av rv)(k2:ag ak ((w.alloc (.cells act 169)).alloc (.cells aB 87)) w2)(st:bH w2 (w.heap.size+2) (w.heap.size+2) S m)(hn:fP (w.heap.size+2) (w.heap.size+2) S' m w2 w3):∃m',Dn w base rb A R L av rv S' m' act w3:=by
 obtain⟨m',p,q,kk⟩:=hn
 have e1:((w.alloc (.cells act 169)).alloc (.cells aB 87)).heap.size=w.heap.size+2:=by simp
 have k3:ag ak ((w.alloc (.cells act 169)).alloc (.cells aB 87)) w3:=k2.from (kk.mono (fun b hb=>.inr (by rw[e1];exact (st.lt hb).1)))
 have k0:ag ak w ((w.alloc (.cells act 169)).alloc (.cells aB 87)):=((ag.refl ak w).alloc _).alloc _
 exact⟨m',h.aj (k0.trans k3),p,k3.blk ((ai.new w act 169).alloc _) (fun x=>x),k3.blk (ai.jR w _ _ _) (fun x=>x),k0.trans k3⟩
theorem Rt(base rb:Nat)(A:List aP)(R:List Rc)(L:ByteArray)(av rv:Value)(S S':RS)(x:aP)(ra MR rc rd re E:Int)(w:World)(h:RV w base rb A R L av rv)(hh:Hist A S)(hn:A.length≤1000000000)(hd:iD S x S' (bu ra MR rc rd re) E)(hE:E≠0) :
 Calls Tryz.prog 99 #[.pointer (some ⟨rb,0,none⟩),x.val] w fun e w'=>e=.returned (.tuple #[bu ra MR rc rd re,.int .i64 E])∧ag ak w w':=by
 have e0:(E == 0)=false:=by simpa using hE
 obtain⟨kind,s,⟨id,owner,sym,side,ax,price,qty⟩,a,b,c,again⟩:=x
 obtain⟨W1,hW1⟩:∃W1,W1=((w.alloc (.cells #[.int .u8 kind,.string s,.int .i64 id,.int .i64 owner,.string sym,.int .i64 side,.int .i64 ax,.int .i64 price,.int .i64 qty,.int .i64 a,.int .i64 b,.int .i64 c,.bool again] 169)).alloc (.cells aB 87)):=⟨_,rfl⟩
 have k1:ag ak w W1:=by rw[hW1];exact ((ag.refl ak w).alloc _).alloc _
 have hs1:W1.heap.size=w.heap.size+2:=by rw[hW1];simp
 have b0:ai W1 w.heap.size #[.int .u8 kind,.string s,.int .i64 id,.int .i64 owner,.string sym,.int .i64 side,.int .i64 ax,.int .i64 price,.int .i64 qty,.int .i64 a,.int .i64 b,.int .i64 c,.bool again] 169:=by rw[hW1];exact (ai.new w _ _).alloc _
 have HST:=hide (gX base rb A R L av rv S W1 (h.aj k1) hh hn)
 rw[hs1]at HST
 have HD:=hide hd
 have HB0:=hide b0
 have kV:=hide k1
 have HW1:=hide hW1
 have Vj:=hide h
 simp only[aP.val,aP.cells,aB]at HW1 ⊢
 clear hd hh h k1 hs1 b0 hW1
 go_enter Tryz.func99,Tryz.ntmps99
 go_wp2_with fail
 rw[←ae HW1]
 refine (ae HST).mono ?_
 rintro e w2 ⟨rfl,⟨m,st⟩,k2⟩
 have b2:=k2.blk (ae HB0) (fun x=>x)
 have x0:w2.cell? ⟨w.heap.size,0,none⟩=some (.int .u8 kind):=b2.cell 0
 have x1:w2.cell? ⟨w.heap.size,1,none⟩=some (.string s):=b2.cell 1
 have x2:w2.cell? ⟨w.heap.size,2,none⟩=some (.int .i64 id):=b2.cell 2
 have x3:w2.cell? ⟨w.heap.size,3,none⟩=some (.int .i64 owner):=b2.cell 3
 have x4:w2.cell? ⟨w.heap.size,4,none⟩=some (.string sym):=b2.cell 4
 have x5:w2.cell? ⟨w.heap.size,5,none⟩=some (.int .i64 side):=b2.cell 5
 have x6:w2.cell? ⟨w.heap.size,6,none⟩=some (.int .i64 ax):=b2.cell 6
 have x7:w2.cell? ⟨w.heap.size,7,none⟩=some (.int .i64 price):=b2.cell 7
 have x8:w2.cell? ⟨w.heap.size,8,none⟩=some (.int .i64 qty):=b2.cell 8
 have x9:w2.cell? ⟨w.heap.size,9,none⟩=some (.int .i64 a):=b2.cell 9
 have x10:w2.cell? ⟨w.heap.size,10,none⟩=some (.int .i64 b):=b2.cell 10
 have x11:w2.cell? ⟨w.heap.size,11,none⟩=some (.int .i64 c):=b2.cell 11
 have x12:w2.cell? ⟨w.heap.size,12,none⟩=some (.bool again):=b2.cell 12
 have HD2:=hide (ae HD _ _ m w2 st)
 rw[ae HW1]at k2
 have jC:=hide k2
 have J9:=hide st
 simp only[aP.val,aP.cells,bu]at HD2
 clear HD st k2 b2
 go_wp2_with fail
 refine (ae HD2).mono ?_
 rintro e w3 ⟨rfl,hn3⟩
 obtain⟨m3,d3⟩:=Dn.of (ae Vj) (ae jC) (ae J9) hn3
 have z0:w3.cell? ⟨w.heap.size+1,0,none⟩=some (.int .i64 0):=d3.z.cell 0
 have z1:w3.cell? ⟨w.heap.size+1,1,none⟩=some (.int .i64 0):=d3.z.cell 1
 have z2:w3.cell? ⟨w.heap.size+1,2,none⟩=some (.int .i64 0):=d3.z.cell 2
 have z3:w3.cell? ⟨w.heap.size+1,3,none⟩=some (.int .i64 0):=d3.z.cell 3
 have z4:w3.cell? ⟨w.heap.size+1,4,none⟩=some (.int .i64 0):=d3.z.cell 4
 have fz0:=d3.z.frozen 0
 have BV:=d3.z.frozen 1
 have BX:=d3.z.frozen 2
 have fz3:=d3.z.frozen 3
 have BZ:=d3.z.frozen 4
 have lz:=d3.z.lt
 have HD3:=hide d3
 clear hn3 d3 x0 x1 x2 x3 x4 x5 x6 x7 x8 x9 x10 x11 x12 HD2 HST
 go_wp2
 refine bodyPost_ret (Td _ (w.heap.size+1) _ ra MR rc rd re E rfl rfl ?_) rfl ⟨rfl,?_⟩
 ·exact (qj (ae HD3).z _ _ _ _ _).alloc _
 ·exact ((ae HD3).k.from ((mX _ _ _ _ _).mono (fun b hb=>.inr (by omega)))).alloc _
end Go.Proofs.YtigaphnafnpfnaaGreatDoor
namespace Go.Proofs.YtigaphnafnpfnaaGreatDoor
open Go.RowKit Go.Maps
def aW.mD(V:aW)(i:Nat)(B':Bk)(df:Nat→Ord)(G':Lg)(aY:Lm):aW:={ V with B:=upd V.B i B',om:=df,lg:=G',lm:=aY }
def Next(bv bm bo:Nat)(V:aW)(Q:aW→Prop)(w w':World):Prop :=
 ∃V2,Rep w' bv bm bo V2∧Q V2∧ag (dX bv bm bo V) w w'∧∀x,dX bv bm bo V2 x→dX bv bm bo V x∨w.heap.size≤x
theorem Next.of{w w':World}{bv bm bo i:Nat}{V:aW}(R:Rep w bv bm bo V)(hi:i<V.nb){B':Bk}{df:Nat→Ord}{G':Lg}{aY:Lm}{S:Nat→Prop}(Q:aW→Prop)
 (hm:Mk w' (V.bk i) B' df (fun x=>∃id,V.aO id=some x)) (hl:aK w' bv bm bo G' aY) (hf:∀x,aY.F x→V.lm.F x∨w.heap.size≤x) (k:ag S w w')
 (hS:∀x,S x→x=bv∨V.lm.F x∨x=V.bk i∨(∃s,s<2∧bQ (V.B i) s x)∨((∃id,V.aO id=some x)∧Apart V i x))
 (oL:∀j,j<V.nb→j≠i→∀s,s<2→∀l,l<(V.B j).n s→df ((V.B j).h s l)=V.om ((V.B j).h s l)) (hid:∀x,(df x).id=(V.om x).id) (bY:B'.sym=(V.B i).sym)
 (hsd:∀s,s<2→∀x,bQ B' s x→(∃t,t<2∧bQ (V.B i) t x)∨((∃id,V.aO id=some x)∧Apart V i x)∨w.heap.size≤x) (hQ:Q (V.mD i B' df G' aY)):Next bv bm bo V Q w w':=by
 have typ:∀x,S x→∃c t,ai w x c t:=fun x hx=>by
  rcases hS x hx with rfl | h | h | h | ⟨h,_⟩
  ·exact⟨_,_,R.cZ⟩
  ·obtain⟨c,t,hc,_⟩:=R.log.log.typ h;exact⟨c,t,hc⟩
  ·obtain⟨c,t,hc,_⟩:=(R.zk hi).typ (.inl h);exact⟨c,t,hc⟩
  ·obtain⟨c,t,hc,_⟩:=(R.zk hi).typ (.inr (.inr h));exact⟨c,t,hc⟩
  ·obtain⟨c,t,hc,_⟩:=(R.zk hi).typ (.inr (.inl h));exact⟨c,t,hc⟩
 obtain⟨fB,mB,pK,ui⟩:=R.books
 obtain⟨fO,mO,wB⟩:=R.orders
 have nB:¬S bm:=fun h=>by obtain⟨c,t,hc⟩:=typ bm h;exact mB.ne hc rfl
 have nO:¬S bo:=fun h=>by obtain⟨c,t,hc⟩:=typ bo h;exact mO.ne hc rfl
 have Gq:∀j,j<V.nb→∀x,x<2→∀y,bQ (V.B j) x y→y<w.heap.size:=fun j hj x hx y h=>by
  rcases h with h | ⟨l,hl,rfl⟩
  ·exact ((R.book j hj).side x hx).lt h
  ·exact (((R.book j hj).side x hx).aQ hl).lt
 have uq:∀s,s<2→∀x,bQ (V.B i) s x→Apart V i x:=fun s hs x hx j hj hne t ht h=>R.oG i j hi hj (fun e=>hne e.symm) s t hs ht x hx h
 have Zp:∀j,j<V.nb→∀y,y<2→∀x c t,ai w x c t→t≠114→t≠116→¬bQ (V.B j) y x:=fun j hj y hy x c t hb h1 h2 h=>by
  rcases h with h | ⟨l,hl,h⟩
  ·exact ((R.book j hj).side y hy).ne hb h1 h
  ·rw[h]at hb;exact ai.ne hb (((R.book j hj).side y hy).aQ hl) h2 rfl
 have far:∀j,j<V.nb→j≠i→aX w' (V.bk j) (V.B j) df:=fun j hj hne=>by
  have h6:aX w' (V.bk j) (V.B j) V.om:=(R.book j hj).kept k (by
   rintro x (rfl | ⟨y,hy,h⟩) hx
   ·rcases hS _ hx with h | h | h | ⟨s,hs,h⟩ | ⟨⟨id,h⟩,_⟩
    ·exact ai.ne (R.book j hj).blk R.cZ (by decide) h
    ·exact R.log.log.ne (R.book j hj).blk (by decide) (by decide) (by decide) (by decide) (by decide) h
    ·exact R.uT j i hj hi hne h
    ·exact Zp i hi s hs _ _ _ (R.book j hj).blk (by decide) (by decide) h
    ·obtain⟨_,ix,ho⟩:=R.aQ id _ h
     exact ai.ne (R.book j hj).blk ho (by decide) rfl
   ·rcases hS _ hx with e | e | e | ⟨s,hs,e⟩ | ⟨_,e⟩
    ·rw[e]at h;exact Zp j hj y hy _ _ _ R.cZ (by decide) (by decide) h
    ·obtain⟨c,t,hc,ht⟩:=R.log.log.typ e
     exact Zp j hj y hy _ _ _ hc (by rcases ht with rfl | rfl | rfl | rfl | rfl | rfl <;> decide) (by rcases ht with rfl | rfl | rfl | rfl | rfl | rfl <;> decide) h
    ·rw[e]at h;exact Zp j hj y hy _ _ _ (R.book i hi).blk (by decide) (by decide) h
    ·exact uq s hs x e j hj hne y hy h
    ·exact e j hj hne y hy h)
  exact⟨h6.blk,fun y hy=>(h6.side y hy).om (fun l hl=>oL j hj hne y hy l hl),h6.apart,h6.sZ⟩
 have hRep:Rep w' bv bm bo (V.mD i B' df G' aY):=by
  refine⟨hl,⟨fB,mB.kept k nB,?_,?_⟩,⟨fO,mO.kept k nO,wB⟩,R.MQ,?_,?_,?_,R.uT,?_,R.eF⟩
  ·intro j hj
   by_cases e:j=i
   ·subst e;simp only[aW.mD,upd_same,bY];exact pK j hj
   ·simp only[aW.mD,af _ _ e];exact pK j hj
  ·intro s' b' h
   obtain⟨j,hj,e1,e2⟩:=ui s' b' h
   refine⟨j,hj,e1,?_⟩
   by_cases e:j=i
   ·subst e;simp only[aW.mD,upd_same,bY];exact e2
   ·simp only[aW.mD,af _ _ e];exact e2
  ·intro j hj
   by_cases e:j=i
   ·subst e;simp only[aW.mD,upd_same];exact hm.book
   ·simp only[aW.mD,af _ _ e];exact far j hj e
  ·intro id x hx
   simp only[aW.mD]at hx ⊢
   rw[hid]
   exact⟨(R.aQ id x hx).1,hm.aQ x ⟨id,hx⟩⟩
  ·intro j hj x hx l hl
   simp only[aW.mD]at hj hl ⊢
   by_cases e:j=i
   ·subst e
    simp only[upd_same]at hl ⊢
    exact hm.mem x hx l hl
   ·simp only[af _ _ e]at hl ⊢
    exact R.mem j hj x hx l hl
  ·intro p q hp hq hne x y hx hy z h1 h2
   have half:∀q,q<V.nb→q≠i→∀x y,x<2→y<2→∀z,bQ B' x z→bQ (V.B q) y z→False:=by
    intro q hq hne x y hx hy z h1 h2
    rcases hsd x hx z h1 with⟨t,ht,h⟩ | ⟨_,h⟩ | h
    ·exact uq t ht z h q hq hne y hy h2
    ·exact h q hq hne y hy h2
    ·have:=Gq q hq y hy z h2;omega
   simp only[aW.mD]at h1 h2
   by_cases e:p=i
   ·rw[e,upd_same]at h1
    rw[af _ _ (show q≠i by omega)]at h2
    exact half q hq (by omega) x y hx hy z h1 h2
   ·rw[af _ _ e]at h1
    by_cases e2:q=i
    ·rw[e2,upd_same]at h2
     exact half p hp e y x hy hx z h2 h1
    ·rw[af _ _ e2]at h2
     exact R.oG p q hp hq hne x y hx hy z h1 h2
 refine⟨_,hRep,hQ,k.mono (fun x hx=>?_),fun x hx=>?_⟩
 ·rcases hS x hx with h | h | h | ⟨s,hs,h⟩ | ⟨h,_⟩
  ·exact .inl h
  ·exact .inr (.inr (.inr (.inr (.inr h))))
  ·exact .inr (.inr (.inr (.inl ⟨i,hi,.inl h⟩)))
  ·exact .inr (.inr (.inr (.inl ⟨i,hi,.inr ⟨s,hs,h⟩⟩)))
  ·exact .inr (.inr (.inr (.inr (.inl h))))
 ·rcases hx with h | h | h | ⟨j,hj,h⟩ | h | h
  ·exact .inl (.inl h)
  ·exact .inl (.inr (.inl h))
  ·exact .inl (.inr (.inr (.inl h)))
  ·rcases h with h | ⟨s,hs,h⟩
   ·exact .inl (.inr (.inr (.inr (.inl ⟨j,hj,.inl h⟩))))
   ·by_cases e:j=i
    ·subst e
     simp only[aW.mD,upd_same]at h
     rcases hsd s hs x h with⟨t,ht,h⟩ | ⟨h,_⟩ | h
     ·exact .inl (.inr (.inr (.inr (.inl ⟨j,hj,.inr ⟨t,ht,h⟩⟩))))
     ·exact .inl (.inr (.inr (.inr (.inr (.inl h)))))
     ·exact .inr h
    ·simp only[aW.mD,af _ _ e]at h
     exact .inl (.inr (.inr (.inr (.inl ⟨j,hj,.inr ⟨s,hs,h⟩⟩))))
  ·exact .inl (.inr (.inr (.inr (.inr (.inl h)))))
  ·rcases hf x h with h | h
   ·exact .inl (.inr (.inr (.inr (.inr (.inr h)))))
   ·exact .inr h
theorem Next.keep{w w' w'':World}{bv bm bo:Nat}{V:aW}{Q:aW→Prop}(h:Next bv bm bo V Q w w'){x:Nat}{c:Array Value}(hb:ai w' x c 87)(hx:w.heap.size≤x)(k:ag (fun y=>y=x) w' w''):Next bv bm bo V Q w w'':=by
 obtain⟨V2,R2,q2,k2,f2⟩:=h
 have nf:¬dX bv bm bo V2 x:=R2.foot hb (by decide) (by decide) (by decide) (by decide) (by decide) (by decide) (by decide)
 obtain⟨gB,nB,g1,g2⟩:=R2.books
 obtain⟨gO,nO,g3⟩:=R2.orders
 have Vz:∀y,dX bv bm bo V2 y→¬y=x:=fun y h e=>nf (e▸h)
 refine⟨V2,⟨R2.log.kept k (Vz _ (.inl rfl)) (fun y hy=>Vz y (.inr (.inr (.inr (.inr (.inr hy)))))),⟨gB,nB.kept k (Vz _ (.inr (.inl rfl))),g1,g2⟩,⟨gO,nO.kept k (Vz _ (.inr (.inr (.inl rfl)))),g3⟩,R2.MQ,fun j hj=>(R2.book j hj).kept k (fun y hy=>Vz y (by
  rcases hy with h | ⟨z,hz,h⟩
  ·exact .inr (.inr (.inr (.inl ⟨j,hj,.inl h⟩)))
  ·exact .inr (.inr (.inr (.inl ⟨j,hj,.inr ⟨z,hz,h⟩⟩))))),fun id y h=>⟨(R2.aQ id y h).1,(R2.aQ id y h).2.elim fun ix ho=>⟨ix,k.blk ho (Vz y (.inr (.inr (.inr (.inr (.inl ⟨id,h⟩))))))⟩⟩,R2.mem,R2.uT,R2.oG,R2.eF⟩,q2,k2.from (k.mono (fun y h=>.inr (by omega))),f2⟩
end Go.Proofs.YtigaphnafnpfnaaGreatDoor
namespace Go.Proofs.YtigaphnafnpfnaaGreatDoor
open Go.RowKit Go.Maps
attribute [local go_sem ↓] Go.wp_at_zero Go.wp_at_succ
theorem xJ(b:Nat)(o:Ord)(ix:Int)(w:World)(ho:bC w b o ix) :
 Calls Tryz.prog 78 #[.pointer (some ⟨b,0,none⟩)] w fun e w'=>e=.returned (.func (.func 151) #[] #[.pointer (some ⟨w.heap.size+1,0,none⟩),.pointer (some ⟨w.heap.size,0,none⟩)])∧wX w' w.heap.size b o∧bC w' b { o with opn:=0,exp:=wrap64 (o.exp+o.opn) } ix∧ag (fun x=>x=b) w w':=by
 have HA:=hide (kX b o ix w ho)
 have lo:=ho.lt
 go_enter Tryz.func78,Tryz.ntmps78
 go_wp2_with fail
 refine (ae HA).mono ?_
 rintro e w1 ⟨rfl,n1,k1⟩
 have ho1:=k1.blk ho (fun x=>x)
 have h8:w1.cell? ⟨b,8,none⟩=some (.int .i64 o.opn):=ai.cell ho1 8
 have h10:w1.cell? ⟨b,11,none⟩=some (.int .i64 o.exp):=ai.cell ho1 11
 have f8:=ai.frozen ho1 8
 have f10:=ai.frozen ho1 11
 go_wp2
 go_region
 go_wp2
 go_ret
 have k2:=(((ag.refl (fun x=>x=b) w1).setCell (p:=⟨b,11,none⟩) (.inl rfl) (.int .i64 (wrap64 (o.exp+o.opn)))).setCell (p:=⟨b,8,none⟩) (.inl rfl) (.int .i64 0)).drew
 refine⟨rfl,n1.kept k2 (by omega) (by omega),?_,k1.aC.trans k2⟩
 have:=(ho1.set 11 (.int .i64 (wrap64 (o.exp+o.opn)))).set 8 (.int .i64 0)
 exact this
theorem zu(bb b:Nat)(B:Bk)(om:Nat→Ord)(L:Nat→Prop)(w:World)(m:Mk w bb B om L)(hb:L b) :
 Calls Tryz.prog 78 #[.pointer (some ⟨b,0,none⟩)] w fun e w'=>∃fn cp,e=.returned (.func fn #[] cp)∧um w' b (om b) w.heap.size fn cp∧Mk w' bb B (upd om b (fD (om b))) L∧ag (fun x=>x=b) w w':=by
 obtain⟨ix,ho⟩:=m.aQ b hb
 refine (xJ b (om b) ix w ho).mono ?_
 rintro e w' ⟨rfl,h0,h1,h2⟩
 exact⟨_,_,rfl,⟨rfl,_,Nat.le_refl _,rfl,h0⟩,m.upd ho h2 h1,h2⟩
theorem Qo.expire{M:Int}{o:Ord}(h:Qo M o)(hM:M≤1000000000000000):Qo M (fD o)∧(fD o).opn=0:=by
 obtain⟨a,b,c,d,e,f⟩:=h
 have e1:(fD o).exp=o.exp+o.opn:=by simp only[fD];exact aF (by omega) (by omega)
 refine⟨⟨?_,Int.le_refl _,c,d,by rw[e1];omega,f⟩,rfl⟩
 show o.entered=0+o.filled+o.aG+(fD o).exp
 rw[e1];omega
theorem wL{w:World}{ops:Array Oper}{rest:List Oper}{o:Oper}{a:Act}{Q:Exit→Act→World→Prop}(hg:o.guard=none)(it:Operand)(hop:o.op=Op.next it false)(b r n:Nat)(D:DataW Unit)(left:Lit→Bool)(cnt:Nat)(f:Lit→Option Nat)
 (hit:a.eval it=.pointer (some ⟨r,0,none⟩)) (h:w.ranges Tryz.prog 3 gW b r n D left cnt) (hf:∀kl,D.atKey kl .nil=FU (f kl)) (hl:∀kl,left kl=true→(f kl).isSome=true)
 (hDone:cnt=0→wpList Tryz.prog ops Q rest (a.put o.dst (.tuple #[.bool false])) w)
 (hMore:∀(id:Int) (x:Nat) (w':World) (cnt':Nat),left (.int .i64 id)=true→f (.int .i64 id)=some x→w'.ranges Tryz.prog 3 gW b r n D (fun z=>left z && !z.sameKey (.int .i64 id)) cnt'→cnt'<cnt→w.grownBy w' (some r)→w'.heap.size=w.heap.size →
   (Instr.entry (.pointer (some ⟨r,0,none⟩))).run Tryz.prog w'=.ok (.tuple #[.int .i64 id,.pointer (some ⟨x,0,none⟩)]) w'→wpList Tryz.prog ops Q rest (a.put o.dst (.tuple #[.bool true,.int .i64 id,.pointer (some ⟨x,0,none⟩)])) w') :
 wpList Tryz.prog ops Q (o :: rest) a w:=by
 refine wpList_plain hg fun K' hK'=>?_
 unfold Oper.wp
 rcases h.next law3 o.type with⟨h0,_,hrun⟩ | ⟨key,v,kl,y,w',cnt',hkey,hlk,hv,hat,hrun,hrg,hlt,hgr,hsz,hen⟩
 ·simp[execOp,hop,hit,hrun,Result.andThen]
  exact hK' _ _ (hDone h0)
 ·obtain⟨x,rfl,rfl,_⟩:=Maps.keyOf_int_inv Tryz.underlying3 hkey
  have h1:=hat .nil
  rw[hf]at h1
  have h2:gW v=some (FU (f (.int .i64 x)),y.2):=by rw[hv,h1]
  have h3:=vT h2
  obtain⟨c,hc⟩:=Option.isSome_iff_exists.1 (hl _ hlk)
  rw[hc]at h3
  simp only[fV]at h3
  subst h3
  simp[execOp,hop,hit,hrun,Result.andThen]
  exact hK' _ _ (hMore x c w' cnt' hlk hc hrg hlt hgr hsz hen)
theorem FX{w w':World}{b r n:Nat}{D:DataW Unit}{left:Lit→Bool}{cnt:Nat}{S:Nat→Prop}(h:w.ranges Tryz.prog 3 gW b r n D left cnt)(k:ag S w w')(hb':¬S b)(hr':¬S r):w'.ranges Tryz.prog 3 gW b r n D left cnt:=by
 have h1:=h.owns.lt
 have h2:=h.lt
 obtain⟨es,clock,since,seen,c0,hb,F,hs,hD,hr,rest⟩:=h
 exact⟨es,clock,since,seen,c0,(k.block b h1 hb').trans hb,F,hs,hD,(k.block r h2 hr').trans hr,rest⟩
theorem uK{w:World}{b r n:Nat}{D:DataW Unit}{left:Lit→Bool}{cnt:Nat}(h:w.ranges Tryz.prog 3 gW b r n D left cnt){y:Nat}{c:Array Value}{t:TypeId}(hy:ai w y c t):b≠y∧r≠y:=by
 obtain⟨es,clock,since,seen,c0,hb,F,hs,hD,hr,rest⟩:=h
 unfold ai at hy
 constructor
 ·rintro rfl;rw[hb]at hy;simp at hy
 ·rintro rfl;rw[hr]at hy;simp at hy
end Go.Proofs.YtigaphnafnpfnaaGreatDoor
