import Derived.Test.YtigaphnafnpfnaaGreatDoorQVY5
import Derived.Test.YtigaphnafnpfnaaGreatDoorQVX14
import Derived.Test.YtigaphnafnpfnaaGreatDoorQVN3
import Derived.Test.YtigaphnafnpfnaaGreatDoorQVU1
set_option linter.unusedVariables false
set_option linter.unusedSimpArgs false
set_option maxHeartbeats 8000000
set_option maxRecDepth 100000
namespace Go.Proofs.YtigaphnafnpfnaaGreatDoor
open Go.RowKit
theorem oz{l:List Ord}{o:Ord}{k:Nat}(h:k<l.length):ah (l++[o]) k=ah l k:=by
 unfold ah;rw[List.getD_eq_getElem?_getD,List.getD_eq_getElem?_getD,List.getElem?_append_left h]
theorem kQ{l:List Ord}{o:Ord}:ah (l++[o]) l.length=o:=by
 unfold ah;rw[List.getD_eq_getElem?_getD,List.getElem?_append_right (Nat.le_refl _)];simp
theorem SL(oc s:Nat)(st:MS):(mF oc s st).lg.na=st.lg.na:=(uH oc s _ st).1
theorem bF.comes{p:Nat→Nat}{V:aW}{S:RS}{N:Nat}(h:bF p V S N){o:Ask}{ib b s t:Nat}(hib:ib<V.nb)(hs:s<2)(ht:t=1-s)(bY:o.sym=(V.B ib).sym)(hside:o.side=(t:Int))(hb:¬VL V b) :
 sU (upd p S.l.length b) b S.l.length s (V.B ib) (upd V.om b (aI o)) (S.fresh.add o).l (V.B ib).sym:=by
 have pb:∀k,k<S.l.length→p k≠b:=fun k hk e=>hb ((h.vl b).2 ⟨k,hk,e⟩)
 have kE:∀k,k<S.l.length→upd V.om b (aI o) (p k)=V.om (p k):=fun k hk=>af _ _ (pb k hk)
 have len0:(S.fresh.add o).l.length=S.l.length+1:=by simp[RS.add,RS.fresh]
 have l0:(S.fresh.add o).l=S.l++[tK o]:=rfl
 have nl:∀k,k<S.l.length→ah (S.fresh.add o).l k=ah S.l k:=fun k hk=>by rw[l0];exact oz hk
 have nn:ah (S.fresh.add o).l S.l.length=tK o:=by rw[l0];exact kQ
 have pk:∀k,k<S.l.length→upd p S.l.length b k=p k:=fun k hk=>af _ _ (by omega)
 have pl:upd p S.l.length b S.l.length=b:=upd_same _ _ _
 have sides:o.side=0∨o.side=1:=by omega
 refine⟨by omega,pl,fun a c ha hc e=>?_,fun k hk hne=>?_,?_,fun a c ha hc hna hnc hsy h1 h2=>?_,fun a c ha hc hna hnc hac hsy h1 h2=>?_,fun x=>?_,?_,?_,fun k hk=>?_,fun k hk=>?_⟩
 ·rw[len0]at ha hc
  by_cases ea:a=S.l.length <;> by_cases ec:c=S.l.length
  ·omega
  ·rw[ea,pl,pk c (by omega)]at e;exact absurd e.symm (pb c (by omega))
  ·rw[ec,pl,pk a (by omega)]at e;exact absurd e (pb a (by omega))
  ·rw[pk a (by omega),pk c (by omega)]at e;exact h.inj a c (by omega) (by omega) e
 ·rw[len0]at hk
  rw[pk k (by omega),kE k (by omega),nl k (by omega)]
  exact h.same k (by omega)
 ·rw[upd_same,nn];rfl
 ·rw[len0]at ha hc
  rw[nl a (by omega),nl c (by omega)]at hsy ⊢
  rw[nl a (by omega)]at h1
  rw[nl c (by omega)]at h2
  rw[pk a (by omega),pk c (by omega),kE a (by omega),kE c (by omega)]
  exact h.place a c (by omega) (by omega) hsy h1 h2
 ·rw[len0]at ha hc
  rw[nl a (by omega),nl c (by omega)]at hsy ⊢
  rw[nl a (by omega)]at h1
  rw[nl c (by omega)]at h2
  exact h.uz a c (by omega) (by omega) hac hsy h1 h2
 ·rw[(h.gw.gb ib hib).mem s hs x,h.vl x,len0]
  constructor
  ·rintro⟨⟨k,hk,rfl⟩,a1,a2,a3⟩
   obtain⟨_,_,e3,e4,_,_,_,_,e9,_⟩:=dI (h.same k hk)
   refine⟨k,by omega,by omega,pk k hk,?_,?_,?_⟩ <;> rw[nl k hk]
   ·rw[←e3];exact a1
   ·rw[←e4];exact a2
   ·rw[←e9];exact a3
  ·rintro⟨k,hk,hne,e,a1,a2,a3⟩
   have hk':k<S.l.length:=by omega
   obtain⟨_,_,e3,e4,_,_,_,_,e9,_⟩:=dI (h.same k hk')
   rw[nl k hk']at a1 a2 a3
   rw[pk k hk']at e
   subst e
   exact⟨⟨k,hk',rfl⟩,by rw[e3];exact a1,by rw[e4];exact a2,by rw[e9];exact a3⟩
 ·rw[nn];exact bY
 ·rw[nn]
  show o.side=_
  omega
 ·rw[len0]at hk
  by_cases e:k=S.l.length
  ·rw[e,nn];exact sides
  ·rw[nl k (by omega)];exact h.side (by omega)
 ·rw[len0]at hk
  by_cases e:k=S.l.length
  ·rw[e,nn];exact Int.le_refl _
  ·rw[nl k (by omega)];exact (h.opn (by omega)).1
theorem bF.enter{p:Nat→Nat}{V:aW}{S:RS}{N:Nat}(h:bF p V S N)(hN:N<2900000){o:Ask}{ib b s t g cap':Nat}{aY:Lm}(hib:ib<V.nb)(hs:s<2)(ht:t=1-s)(bY:o.sym=(V.B ib).sym)(hside:o.side=(t:Int))(hq1:1≤o.qty)(hq2:o.qty≤1000000)(hfree:V.aO o.id=none)(hb:¬VL V b)(aaj:V.no<200)(Ul:bg o.id=true) :
 ∃c' f,Ends S.l.length f ⟨S.fresh.add o,o.qty,0,0,0⟩ c'∧f≤201∧bF (upd p S.l.length b) (V.enter ib b s t g cap' o aY) (nN S.l.length c') (N+1)∧rep (aI o) ((V.enter ib b s t g cap' o aY).om b) V.tr (V.enter ib b s t g cap' o aY).tr=F5 S.l.length c'∧(V.enter ib b s t g cap' o aY).lg.tp=recs V.lg.tp (nN S.l.length c').told∧(nN S.l.length c').told.length≤201:=by
 have hM:mN (N+1)≤1000000000000000:=by unfold mN;omega
 have hmN:1000000≤mN (N+1):=by unfold mN;omega
 obtain⟨gw',run,iv,hBs,rP,gi⟩:=(h.gw.mono (qf (Nat.le_add_right N 1))).enter (b:=b) (g:=g) (cap':=cap') (aY:=aY) hM hib hs ht bY hside (by omega) (by omega) hfree hb
 obtain⟨st0,iH⟩:∃st0:MS,st0=⟨V.B ib,upd V.om b (aI o),V.lg.opened o.id⟩:=⟨_,rfl⟩
 rw[←iH]at run iv
 have pb:∀k,k<S.l.length→p k≠b:=fun k hk e=>hb ((h.vl b).2 ⟨k,hk,e⟩)
 have kE:∀k,k<S.l.length→upd V.om b (aI o) (p k)=V.om (p k):=fun k hk=>af _ _ (pb k hk)
 have len0:(S.fresh.add o).l.length=S.l.length+1:=by simp[RS.add,RS.fresh]
 have l0:(S.fresh.add o).l=S.l++[tK o]:=rfl
 have nl:∀k,k<S.l.length→ah (S.fresh.add o).l k=ah S.l k:=fun k hk=>by rw[l0];exact oz hk
 have nn:ah (S.fresh.add o).l S.l.length=tK o:=by rw[l0];exact kQ
 have pk:∀k,k<S.l.length→upd p S.l.length b k=p k:=fun k hk=>af _ _ (by omega)
 have pl:upd p S.l.length b S.l.length=b:=upd_same _ _ _
 have sides:o.side=0∨o.side=1:=by omega
 have U2:=h.comes hib hs ht bY hside hb
 have hcs:=h.count hib hs
 have hmu:mu b s st0≤201:=by
  rw[iH]
  unfold mu
  simp only
  split <;> omega
 have hR:oW (upd p S.l.length b) b S.l.length s (V.B ib).sym V.lg.tp V.tr 0 st0 ⟨S.fresh.add o,o.qty,0,0,0⟩:=by
  rw[iH]
  refine⟨U2,?_,h.tr,rfl,h.day,rfl,?_,?_,?_,Int.le_refl _,Int.le_refl _,by decide⟩
  ·simp only[upd_same];rfl
  ·simp only[upd_same];rfl
  ·show (0:Int)=MS.tr ⟨V.B ib,upd V.om b (aI o),V.lg.opened o.id⟩-V.tr
   unfold MS.tr aW.tr
   show (0:Int)=(V.lg.tr.length:Int)-V.lg.tr.length
   omega
  ·show (0:Int)=if MS.tr ⟨V.B ib,upd V.om b (aI o),V.lg.opened o.id⟩=V.tr then 0 else V.tr+1
   exact (if_pos (show MS.tr ⟨V.B ib,upd V.om b (aI o),V.lg.opened o.id⟩=V.tr from rfl)).symm
 have hqx:∀x,(x=b∨jK st0 s x)→Qo (mN (N+1)) (st0.om x):=fun x hx=>by
  rw[iH]at hx ⊢
  rcases hx with e | e
  ·simp only[e,upd_same];exact yz (by omega) (by omega)
  ·have hvx:=(((h.gw.gb ib hib).mem s hs x).1 e).1
   simp only
   rw[af _ _ (fun e2=>hb (by rw[←e2];exact hvx))]
   exact (h.gw.q x hvx).mono (qf (Nat.le_add_right N 1))
 have hheap:dH (dW st0.om) (st0.B.n s) (st0.B.h s):=by rw[iH];exact gi.heap s hs
 have aay:=h.Bl
 have aax:=h.tpN
 have aaq:=h.eF
 have Ic:st0.tr=V.tr:=by rw[iH];rfl
 have H9:V.tr=(V.lg.tr.length:Int):=rfl
 obtain⟨c',he,hR',hsy,hpl,hln,hpc,htl,hol⟩:=oW.ends hM hs (by rw[H9];omega) (mu b s st0) st0 _ hR iv hheap hqx (Nat.le_refl _) (by rw[Ic,H9];omega)
 change oW _ _ _ _ _ _ _ _ (mF b s st0) c' at hR'
 have Oy:c'.S.sy=S.sy:=hsy
 have hpl':c'.S.places=S.places:=hpl
 rw[len0]at hln
 have q:=run.q b (.inl rfl)
 have hlen:=OT (oc:=b) (s:=s) (st:=st0)
 have e0:st0.lg.tr.length=V.lg.tr.length∧st0.lg.tp.length=V.lg.tp.length∧st0.B.n s=(V.B ib).n s∧st0.lg.na=V.lg.na+1:=by rw[iH];exact⟨rfl,rfl,rfl,rfl⟩
 obtain⟨e01,e02,Y1,e04⟩:=e0
 rw[e01,e02,Y1]at hlen
 have old:∀k,k<S.l.length→(ah c'.S.l k).id=(ah S.l k).id∧(ah c'.S.l k).sym=(ah S.l k).sym∧((mF b s st0).om (p k)).place=(V.om (p k)).place∧(0<(ah c'.S.l k).opn→0<(ah S.l k).opn)∧(ah c'.S.l k).place=(ah S.l k).place:=fun k hk=>by
  obtain⟨f1,_,f3,_,_,_,_,_,f9,_⟩:=dI (hR'.nH.same k (by rw[hln];omega) (by omega))
  rw[pk k hk]at f1 f3 f9
  obtain⟨g1,_,g3,_,_,_,_,g8,_⟩:=run.stat (p k)
  have e1:st0.om (p k)=V.om (p k):=by rw[iH];exact kE k hk
  rw[e1]at g1 g3 g8
  obtain⟨k1,_,k3,_,_,_,_,_,k9,_⟩:=dI (h.same k hk)
  refine⟨by rw[←f1,g1,k1],by rw[←f3,g3,k3],g8,fun h0=>?_,by rw[hpc k];exact congrArg Ord.place (nl k hk)⟩
  rw[←f9]at h0
  rw[←k9]
  by_cases hm:jK st0 s (p k)
  ·rw[iH]at hm
   exact (((h.gw.gb ib hib).mem s hs _).1 hm).2.2.2
  ·rw[run.far _ (pb k hk) hm,e1]at h0
   exact h0
 have new:(ah c'.S.l S.l.length).id=o.id:=by
  have f1:=(dI hR'.nH.self).1
  simp only at f1
  rw[←f1,(run.stat b).1,iH]
  simp only[upd_same]
  rfl
 refine⟨c',mu b s st0,he,hmu,?_,?_,?_,?_⟩
 ·refine bF.O8 (V:=V) (g:=g) (cap':=cap') (t:=t) (by omega) hib hR' q gw' rfl (by rw[iH];rfl) (by rw[iH];rfl) (by rw[iH];rfl) hBs (by unfold mF;rw[qZ,iH]) h.GU (by rw[Oy];exact h.nb) (by rw[Oy];exact h.sym) (by rw[hln,←h.no];rfl) (fun k hk=>?_) (fun id b2 hb2=>?_) (fun k hk hne h0 j hj hsj=>?_) (fun k hk hne h0=>?_) (by rw[hpl'];exact h.Pq) (by omega) (by omega) (by rw[SL,e04];have:=h.zG;omega) (by show V.no+1≤200;omega) h.OZ (fun k hk=>?_)
  ·rw[hln]at hk
   show (if (ah c'.S.l k).id=o.id then some b else V.aO (ah c'.S.l k).id)=_
   by_cases e:k=S.l.length
   ·rw[e,new,if_pos rfl,pl]
   ·have hk':k<S.l.length:=by omega
    rw[(old k hk').1,pk k hk']
    have:=h.aO k hk'
    rw[if_neg (fun e2=>by rw[e2,hfree]at this;simp at this)]
    exact this
  ·have hb3:(if id=o.id then some b else V.aO id)=some b2:=hb2
   by_cases e:id=o.id
   ·rw[if_pos e]at hb3
    refine⟨S.l.length,by rw[hln];omega,by rw[new,e],?_⟩
    rw[pl];exact Option.some.inj hb3
   ·rw[if_neg e]at hb3
    obtain⟨k,hk,e1,e2⟩:=h.yD id b2 hb3
    exact⟨k,by rw[hln];omega,by rw[(old k hk).1];exact e1,by rw[pk k hk];exact e2⟩
  ·rw[hln]at hk
   have hk':k<S.l.length:=by omega
   obtain⟨_,o2,o3,o4,_⟩:=old k hk'
   rw[pk k hk',o3]
   rw[o2]at hsj
   exact h.LM k hk' (o4 h0) j hj hsj
  ·rw[hln]at hk
   have hk':k<S.l.length:=by omega
   obtain⟨_,_,_,o4,o5⟩:=old k hk'
   rw[o5,hpl']
   exact h.LQ k hk' (o4 h0)
  ·rw[hln]at hk
   by_cases e:k=S.l.length
   ·rw[e,new];exact Ul
   ·rw[(old k (by omega)).1];exact h.ids k (by omega)
 ·have hrep:=hR'.report hM q (aI o) rfl (by rw[run.aG,iH];simp only[upd_same]) (by unfold MS.tr;omega) (by rw[H9];omega)
  rw[←hrep]
  show rep (aI o) (aA b (mF b s ⟨V.B ib,upd V.om b (aI o),V.lg.opened o.id⟩) b) V.tr ((l9 b (mF b s ⟨V.B ib,upd V.om b (aI o),V.lg.opened o.id⟩)).tr.length:Int)=_
  rw[←iH]
  rfl
 ·obtain⟨_,_,_,_,_,_,f7,_⟩:=hR'.fin hM q
  rw[f7,←hR'.tp]
  show (l9 b (mF b s ⟨V.B ib,upd V.om b (aI o),V.lg.opened o.id⟩)).tp=_
  rw[←iH]
  rfl
 ·obtain⟨_,_,_,_,_,_,f7,_⟩:=hR'.fin hM q
  rw[f7]
  have:(S.fresh.add o).told.length=0:=rfl
  have aas:c'.S.told.length≤(S.fresh.add o).told.length+mu b s st0:=hol
  omega
theorem bF.turned{p:Nat→Nat}{V V':aW}{S S':RS}{N:Nat}(h:bF p V S N)(gw:GW V' (mN (N+1)))(hnb:V'.nb=V.nb)(hBs:∀j,(V'.B j).sym=(V.B j).sym)(hpl:∀j,(V'.B j).places=(V.B j).places)(hno:V'.no=V.no)(Ib:V'.aO=V.aO)
 (hsy:S'.sy=S.sy) (hlen:S'.l.length=S.l.length) (hps:S'.places=S.places) (ht:S'.t=S.t) (hd:S'.day=S.day) (same:∀k,k<S.l.length→jV (V'.om (p k))=jV (ah S'.l k))
 (stat:∀k,k<S.l.length→(ah S'.l k).id=(ah S.l k).id∧(ah S'.l k).sym=(ah S.l k).sym∧(ah S'.l k).place=(ah S.l k).place∧(0<(ah S'.l k).opn→0<(ah S.l k).opn)∧(V'.om (p k)).place=(V.om (p k)).place)
 (htr:V'.lg.tr=V.lg.tr) (htp:V'.lg.tp=V.lg.tp) (hdy:V'.lg.day=V.lg.day) (hna:V'.lg.na=V.lg.na+1):bF p V' S' (N+1):=by
 refine⟨gw,by rw[hnb,hsy];exact h.nb,fun i hi=>by rw[hsy,hBs i];exact h.sym i (by omega),by rw[hno,hlen];exact h.no,fun k hk=>?_,fun id b hb=>?_,fun a b ha hb=>h.inj a b (by omega) (by omega),fun k hk=>same k (by omega),fun a b ha hb hs h1 h2=>?_,fun a b ha hb hab hs h1 h2=>?_,fun k hk h0 i hi hs=>?_,fun k hk h0=>?_,fun i hi=>?_,?_,by rw[htr,ht];exact h.tr,by rw[hdy,hd];exact h.day,by rw[htr];have:=h.Bl;omega,by rw[htp];have:=h.tpN;omega,by rw[hna];have:=h.zG;omega,by rw[hno];exact h.eF,by rw[hnb];exact h.OZ,fun k hk=>by rw[(stat k (by omega)).1];exact h.ids k (by omega)⟩
 ·rw[Ib,(stat k (by omega)).1];exact h.aO k (by omega)
 ·rw[Ib]at hb
  obtain⟨k,hk,e1,e2⟩:=h.yD id b hb
  exact⟨k,by omega,by rw[(stat k hk).1];exact e1,e2⟩
 ·obtain⟨_,a2,a3,a4,a5⟩:=stat a (by omega)
  obtain⟨_,b2,b3,b4,b5⟩:=stat b (by omega)
  rw[a5,b5,a3,b3]
  exact h.place a b (by omega) (by omega) (by rw[←a2,←b2];exact hs) (a4 h1) (b4 h2)
 ·obtain⟨_,a2,a3,a4,a5⟩:=stat a (by omega)
  obtain⟨_,b2,b3,b4,b5⟩:=stat b (by omega)
  rw[a3,b3]
  exact h.uz a b (by omega) (by omega) hab (by rw[←a2,←b2];exact hs) (a4 h1) (b4 h2)
 ·obtain⟨_,a2,a3,a4,a5⟩:=stat k (by omega)
  rw[a5,hpl i]
  exact h.LM k (by omega) (a4 h0) i (by omega) (by rw[←hBs i,hs,a2])
 ·obtain⟨_,a2,a3,a4,a5⟩:=stat k (by omega)
  rw[a3,hps]
  exact h.LQ k (by omega) (a4 h0)
 ·rw[hpl i]
  have:=h.GU i (by omega)
  push_cast;omega
 ·rw[hps]
  have:=h.Pq
  push_cast;omega
theorem bF.listed{p:Nat→Nat}{V:aW}{S:RS}{N:Nat}(h:bF p V S N){s:ByteArray}{b:Nat}{aY:Lm}(hfree:∀i,i<V.nb→(V.B i).sym≠s)(h6:V.nb<6):bF p (V.listed s b aY) (S.fresh.lists s) (N+1):=by
 have old:∀j,j<V.nb→(V.listed s b aY).B j=V.B j:=fun j hj=>by
  show upd V.B V.nb (jZ s) j=V.B j
  exact af _ _ (by omega)
 have new:(V.listed s b aY).B V.nb=jZ s:=upd_same _ _ _
 have hnb:(V.listed s b aY).nb=V.nb+1:=rfl
 have hl:(S.fresh.lists s).l=S.l:=rfl
 have hsy:(S.fresh.lists s).sy=S.sy++[s]:=rfl
 refine⟨(h.gw.mono (qf (Nat.le_add_right N 1))).listed hfree,by rw[hnb,hsy,h.nb];simp,fun i hi=>?_,h.no,h.aO,h.yD,h.inj,h.same,h.place,h.uz,fun k hk h0 i hi hs=>?_,h.LQ,fun i hi=>?_,?_,h.tr,h.day,?_,?_,?_,h.eF,by rw[hnb];omega,h.ids⟩
 ·by_cases e:i<V.nb
  ·rw[old i e,hsy,List.getElem?_append_left (by rw[←h.nb];exact e)];exact h.sym i e
  ·obtain rfl:i=V.nb:=by omega
   rw[new,hsy,h.nb,List.getElem?_append_right (Nat.le_refl _)]
   simp[jZ]
 ·by_cases e:i<V.nb
  ·rw[old i e]at hs ⊢;exact h.LM k hk h0 i e hs
  ·obtain rfl:i=V.nb:=by omega
   rw[new]at hs
   exfalso
   obtain⟨j,hj,e2⟩:=h.gw.sym (p k) ((h.vl _).2 ⟨k,hk,rfl⟩)
   have e3:=(dI (h.same k hk)).2.2.1
   exact hfree j hj (by rw[←e2,e3];exact hs.symm)
 ·by_cases e:i<V.nb
  ·rw[old i e];have:=h.GU i e;push_cast;omega
  ·obtain rfl:i=V.nb:=by omega
   rw[new]
   show (0:Int)≤0∧(0:Int)≤2 * ((N+1:Nat):Int)
   exact⟨by omega,by omega⟩
 ·have:=h.Pq
  show 0≤S.places∧S.places≤_
  push_cast;omega
 ·have:=h.Bl
  show V.lg.tr.length≤_
  omega
 ·have:=h.tpN
  show V.lg.tp.length≤_
  omega
 ·have:=h.zG
  show V.lg.na+1≤_
  omega
theorem bF.found{p:Nat→Nat}{V:aW}{S:RS}{N:Nat}(h:bF p V S N)(id:Int):V.aO id=(fK S.l id).map p:=by
 cases hx:fK S.l id with
 | some k =>
   obtain⟨h1,h2⟩:=gV hx
   rw[←h2]
   exact h.aO k h1
 | none =>
   cases hv:V.aO id with
   | none=>rfl
   | some b =>
     exfalso
     obtain⟨k,hk,e1,e2⟩:=h.yD id b hv
     unfold fK at hx
     rw[List.findIdx?_eq_none_iff]at hx
     have:=hx (ah S.l k) (List.mem_of_getElem? (jr hk))
     simp[e1]at this
theorem qA(S:RS):S.fresh.l=S.l:=rfl
theorem bF.cancel{p:Nat→Nat}{V:aW}{S:RS}{N:Nat}(h:bF p V S N)(hN:N<2900000){i s k j:Nat}{ds:List Back}{aY:Lm}(hi:i<V.nb)(hs:s<2)(hk:k<(V.B i).n s)(hj:j<S.l.length)(MO:p j=(V.B i).h s k) :
 bF p { V.turn i ((V.B i).leave V.om s k) (upd V.om ((V.B i).h s k) (fA (V.om ((V.B i).h s k)))) with lg:=V.lg.begun.aS ds,lm:=aY } (S.fresh.cancel j) (N+1):=by
 have hM:mN (N+1)≤1000000000000000:=by unfold mN;omega
 have hv:VL V ((V.B i).h s k):=(h.vl _).2 ⟨j,hj,MO⟩
 have q:=h.gw.q _ hv
 have g:=(h.gw.mono (qf (Nat.le_add_right N 1))).leaves (o':=fA (V.om ((V.B i).h s k))) hi hs hk rfl rfl rfl ((q.mono (qf (Nat.le_add_right N 1))).aG hM).1
 have nk:∀a,ah (S.fresh.cancel j).l a=if a=j then { ah S.l j with aG:=wrap64 ((ah S.l j).aG+(ah S.l j).opn),opn:=0 } else ah S.l a:=fun a=>by
  simp only[RS.cancel,RS.cu,qA]
  exact dG hj a
 have Df:∀a,a<S.l.length→a≠j→p a≠(V.B i).h s k:=fun a ha e e2=>e (h.inj a j ha hj (by rw[e2,MO]))
 refine h.turned ⟨g.gb,g.kG,g.q,g.sym,g.side⟩ rfl (fun a=>?_) (fun a=>?_) rfl rfl rfl (by simp[RS.cancel,RS.cu,qA]) rfl rfl rfl (fun a ha=>?_) (fun a ha=>?_) rfl rfl rfl rfl
 ·show (upd V.B i _ a).sym=_
  by_cases e:a=i
  ·rw[e,upd_same];rfl
  ·rw[af _ _ e]
 ·show (upd V.B i _ a).places=_
  by_cases e:a=i
  ·rw[e,upd_same];rfl
  ·rw[af _ _ e]
 ·show jV (upd V.om ((V.B i).h s k) (fA (V.om ((V.B i).h s k))) (p a))=_
  rw[nk a]
  by_cases e:a=j
  ·subst e
   rw[MO,upd_same,if_pos rfl]
   have:=h.same a ha
   rw[MO]at this
   show fA (jV (V.om ((V.B i).h s k)))=jV _
   rw[this]
   rfl
  ·rw[af _ _ (Df a ha e),if_neg e]
   exact h.same a ha
 ·show _∧_∧_∧_∧(upd V.om ((V.B i).h s k) (fA (V.om ((V.B i).h s k))) (p a)).place=_
  rw[nk a]
  by_cases e:a=j
  ·subst e
   rw[MO,upd_same,if_pos rfl]
   exact⟨rfl,rfl,rfl,fun h=>absurd h (by simp),rfl⟩
  ·rw[af _ _ (Df a ha e),if_neg e]
   exact⟨rfl,rfl,rfl,fun h=>h,rfl⟩
theorem Dl{M M':Int}{o:Ord}(q:Qo M o)(hM:M+1000000≤M')(hM':M'≤1000000000000000){price qty:Int}(h1:1≤qty)(h2:qty≤1000000):Qo M' (fZ o price qty)∧(fZ o price qty).entered=o.entered+qty-o.opn∧wrap64 (wrap64 (o.entered+qty)-o.opn)=o.entered+qty-o.opn:=by
 have a:=q.sum;have b:=q.o0;have c:=q.f0;have d:=q.c0;have e:=q.e0;have f:=q.hi
 have w1:wrap64 (qty-o.opn)=qty-o.opn:=aF (by omega) (by omega)
 have w2:wrap64 (o.entered+(qty-o.opn))=o.entered+(qty-o.opn):=aF (by omega) (by omega)
 have w3:wrap64 (o.entered+qty)=o.entered+qty:=aF (by omega) (by omega)
 have w4:wrap64 (o.entered+qty-o.opn)=o.entered+qty-o.opn:=aF (by omega) (by omega)
 have e1:(fZ o price qty).entered=o.entered+qty-o.opn:=by show wrap64 (o.entered+wrap64 (qty-o.opn))=_;rw[w1,w2];omega
 refine⟨⟨?_,by show 0≤qty;omega,c,d,e,by rw[e1];omega⟩,e1,by rw[w3,w4]⟩
 rw[e1]
 show _=qty+o.filled+o.aG+o.exp
 omega
theorem bF.keeps{p:Nat→Nat}{V:aW}{S:RS}{N:Nat}(h:bF p V S N)(hN:N<2900000){i j:Nat}{price qty:Int}{ds:List Back}{aY:Lm}(hj:j<S.l.length)(hpr:price=(V.om (p j)).price)(h1:1≤qty)(h2:qty≤1000000)(h3:0<(V.om (p j)).opn) :
 bF p { V.turn i (V.B i) (upd V.om (p j) (fZ (V.om (p j)) price qty)) with lg:=V.lg.begun.aS ds,lm:=aY } (S.fresh.cu j (I4 (ah S.l j) qty)) (N+1):=by
 have hM:mN (N+1)≤1000000000000000:=by unfold mN;omega
 have hMN:mN N+1000000≤mN (N+1):=by unfold mN;push_cast;omega
 have hv:VL V (p j):=(h.vl _).2 ⟨j,hj,rfl⟩
 have q:=h.gw.q _ hv
 obtain⟨q1,q2,q3⟩:=Dl (price:=price) q hMN hM h1 h2
 have g:=h.gw.OH (o':=fZ (V.om (p j)) price qty) (qf (Nat.le_add_right N 1)) hv rfl rfl hpr rfl ⟨fun _=>h3,fun _=>by show 0<qty;omega⟩ q1 i
 obtain⟨e1,e2,e3,e4,e5,e6,e7,e8,e9,e10,e11,e12⟩:=dI (h.same j hj)
 have nk:∀a,ah (S.fresh.cu j (I4 (ah S.l j) qty)).l a=if a=j then I4 (ah S.l j) qty else ah S.l a:=fun a=>by
  simp only[RS.cu,qA]
  exact dG hj a
 have Df:∀a,a<S.l.length→a≠j→p a≠p j:=fun a ha e e2=>e (h.inj a j ha hj e2)
 have hB:∀a,upd V.B i (V.B i) a=V.B a:=fun a=>by
  by_cases e:a=i
  ·rw[e,upd_same]
  ·rw[af _ _ e]
 refine h.turned ⟨g.gb,g.kG,g.q,g.sym,g.side⟩ rfl (fun a=>?_) (fun a=>?_) rfl rfl rfl (by simp[RS.cu,qA]) rfl rfl rfl (fun a ha=>?_) (fun a ha=>?_) rfl rfl rfl rfl
 ·show (upd V.B i (V.B i) a).sym=_
  rw[hB a]
 ·show (upd V.B i (V.B i) a).places=_
  rw[hB a]
 ·show jV (upd V.om (p j) (fZ (V.om (p j)) price qty) (p a))=_
  rw[nk a]
  by_cases e:a=j
  ·subst e
   rw[upd_same,if_pos rfl]
   have:=h.same a ha
   show ({ jV (V.om (p a)) with price:=price,entered:=(fZ (V.om (p a)) price qty).entered,opn:=qty }:Ord)={ jV (ah S.l a) with entered:=wrap64 (wrap64 ((ah S.l a).entered+qty)-(ah S.l a).opn),opn:=qty }
   rw[q2,←e8,←e9,q3,this,hpr,e6]
   rfl
  ·rw[af _ _ (Df a ha e),if_neg e]
   exact h.same a ha
 ·show _∧_∧_∧_∧(upd V.om (p j) (fZ (V.om (p j)) price qty) (p a)).place=_
  rw[nk a]
  by_cases e:a=j
  ·subst e
   rw[upd_same,if_pos rfl]
   exact⟨rfl,rfl,rfl,fun _=>by rw[←e9];exact h3,rfl⟩
  ·rw[af _ _ (Df a ha e),if_neg e]
   exact⟨rfl,rfl,rfl,fun h=>h,rfl⟩
theorem bF.anew{p:Nat→Nat}{V:aW}{S:RS}{N:Nat}(h:bF p V S N)(hN:N<2900000){ib s t k j g cap':Nat}{price qty:Int}{aY:Lm}(hib:ib<V.nb)(hs:s<2)(ht:t=1-s)(hk:k<(V.B ib).n t)(hj:j<S.l.length)(MO:(V.B ib).h t k=p j)(h1:1≤qty)(h2:qty≤1000000) :
 Inv (p j) s ⟨(V.B ib).leave V.om t k,upd V.om (p j) (fZ (V.om (p j)) price qty),V.lg.moved (p j) (V.om (p j))⟩ ∧
 ∃c' f,Ends j f ⟨S.fresh.cu j (uP (ah S.l j) price qty),qty,0,0,0⟩ c'∧f≤201∧bF p (V.anew ib (p j) s t k g cap' (fZ (V.om (p j)) price qty) aY) (nN j c') (N+1) ∧
  rep (fZ (V.om (p j)) price qty) ((V.anew ib (p j) s t k g cap' (fZ (V.om (p j)) price qty) aY).om (p j)) V.tr (V.anew ib (p j) s t k g cap' (fZ (V.om (p j)) price qty) aY).tr=F5 j c'∧(V.anew ib (p j) s t k g cap' (fZ (V.om (p j)) price qty) aY).lg.tp=recs V.lg.tp (nN j c').told∧(nN j c').told.length≤201:=by
 have hM:mN (N+1)≤1000000000000000:=by unfold mN;omega
 have hMN:mN N+1000000≤mN (N+1):=by unfold mN;push_cast;omega
 have t2:t<2:=by omega
 have hts:t≠s:=by omega
 have hv:VL V (p j):=(h.vl _).2 ⟨j,hj,rfl⟩
 have q0:=h.gw.q _ hv
 obtain⟨q1,q2,q3⟩:=Dl (price:=price) q0 hMN hM h1 h2
 obtain⟨gw',run,iv,hBs,gi⟩:=h.gw.anew (g:=g) (cap':=cap') (aY:=aY) (qf (Nat.le_add_right N 1)) hM hib hs ht hk MO (o':=fZ (V.om (p j)) price qty) rfl rfl q1
 refine⟨iv,?_⟩
 obtain⟨st0,iH⟩:∃st0:MS,st0=⟨(V.B ib).leave V.om t k,upd V.om (p j) (fZ (V.om (p j)) price qty),V.lg.moved (p j) (V.om (p j))⟩:=⟨_,rfl⟩
 rw[←iH]at run iv
 have hm:=((h.gw.gb ib hib).mem t t2 _).1 ⟨k,hk,rfl⟩
 rw[MO]at hm
 obtain⟨e1,e2,e3,e4,e5,e6,e7,e8,e9,e10,e11,e12⟩:=dI (h.same j hj)
 have Df:∀a,a<S.l.length→a≠j→p a≠p j:=fun a ha e e2=>e (h.inj a j ha hj e2)
 have kE:∀a,a<S.l.length→a≠j→upd V.om (p j) (fZ (V.om (p j)) price qty) (p a)=V.om (p a):=fun a ha e=>af _ _ (Df a ha e)
 have nk:∀a,ah (S.fresh.cu j (uP (ah S.l j) price qty)).l a=if a=j then uP (ah S.l j) price qty else ah S.l a:=fun a=>by
  simp only[RS.cu,qA]
  exact dG hj a
 have nl:∀a,a≠j→ah (S.fresh.cu j (uP (ah S.l j) price qty)).l a=ah S.l a:=fun a e=>by rw[nk a,if_neg e]
 have nn:ah (S.fresh.cu j (uP (ah S.l j) price qty)).l j=uP (ah S.l j) price qty:=by rw[nk j,if_pos rfl]
 have len0:(S.fresh.cu j (uP (ah S.l j) price qty)).l.length=S.l.length:=by simp[RS.cu,qA]
 have FO:((V.B ib).leave V.om t k).n s=(V.B ib).n s∧((V.B ib).leave V.om t k).h s=(V.B ib).h s:=by simp only[Bk.leave];rw[af _ _ (fun e=>hts e.symm),af _ _ (fun e=>hts e.symm)];exact⟨rfl,rfl⟩
 have Tm:(ah S.l j).side=(t:Int):=by rw[←e4];exact hm.2.2.1
 have U2:sU p (p j) j s ((V.B ib).leave V.om t k) (upd V.om (p j) (fZ (V.om (p j)) price qty)) (S.fresh.cu j (uP (ah S.l j) price qty)).l (V.B ib).sym:=by
  refine⟨by omega,rfl,fun a c ha hc e=>h.inj a c (by omega) (by omega) e,fun a ha hne=>?_,?_,fun a c ha hc hna hnc hsy g1 g2=>?_,fun a c ha hc hna hnc hac hsy g1 g2=>?_,fun x=>?_,?_,?_,fun a ha=>?_,fun a ha=>?_⟩
  ·rw[len0]at ha
   rw[kE a ha hne,nl a hne]
   exact h.same a ha
  ·rw[upd_same,nn]
   have:=h.same j hj
   show ({ jV (V.om (p j)) with price:=price,entered:=(fZ (V.om (p j)) price qty).entered,opn:=0 }:Ord)={ jV (ah S.l j) with entered:=wrap64 (wrap64 ((ah S.l j).entered+qty)-(ah S.l j).opn),opn:=0,price:=price }
   rw[q2,←e8,←e9,q3,this]
  ·rw[len0]at ha hc
   rw[nl a hna,nl c hnc]at hsy ⊢
   rw[nl a hna]at g1
   rw[nl c hnc]at g2
   rw[kE a ha hna,kE c hc hnc]
   exact h.place a c ha hc hsy g1 g2
  ·rw[len0]at ha hc
   rw[nl a hna,nl c hnc]at hsy ⊢
   rw[nl a hna]at g1
   rw[nl c hnc]at g2
   exact h.uz a c ha hc hac hsy g1 g2
  ·rw[FO.1,FO.2,(h.gw.gb ib hib).mem s hs x,h.vl x,len0]
   constructor
   ·rintro⟨⟨a,ha,rfl⟩,a1,a2,a3⟩
    obtain⟨_,_,k3,k4,_,_,_,_,k9,_⟩:=dI (h.same a ha)
    have hne:a≠j:=fun e=>by
     subst e
     rw[k4,Tm]at a2
     omega
    refine⟨a,ha,hne,rfl,?_,?_,?_⟩ <;> rw[nl a hne]
    ·rw[←k3];exact a1
    ·rw[←k4];exact a2
    ·rw[←k9];exact a3
   ·rintro⟨a,ha,hne,e,a1,a2,a3⟩
    obtain⟨_,_,k3,k4,_,_,_,_,k9,_⟩:=dI (h.same a ha)
    rw[nl a hne]at a1 a2 a3
    subst e
    exact⟨⟨a,ha,rfl⟩,by rw[k3];exact a1,by rw[k4];exact a2,by rw[k9];exact a3⟩
  ·rw[nn]
   show (ah S.l j).sym=_
   rw[←e3];exact hm.2.1
  ·rw[nn]
   show (ah S.l j).side=_
   rw[Tm];omega
  ·rw[len0]at ha
   by_cases e:a=j
   ·subst e;rw[nn];exact h.side ha
   ·rw[nl a e];exact h.side ha
  ·rw[len0]at ha
   by_cases e:a=j
   ·subst e;rw[nn];exact Int.le_refl _
   ·rw[nl a e];exact (h.opn ha).1
 have hcs:=h.count hib hs
 have aaq:=h.eF
 have Y1:st0.B.n s=(V.B ib).n s:=by rw[iH];exact FO.1
 have hmu:mu (p j) s st0≤201:=by
  unfold mu
  rw[Y1]
  split <;> omega
 have hf1:(V.om (p j)).filled≤1000000000000000:=by have:=q0.f0;have:=q0.o0;have:=q0.c0;have:=q0.e0;have:=q0.sum;have:=q0.hi;omega
 have hR:oW p (p j) j s (V.B ib).sym V.lg.tp V.tr (V.om (p j)).filled st0 ⟨S.fresh.cu j (uP (ah S.l j) price qty),qty,0,0,0⟩:=by
  rw[iH]
  refine⟨U2,?_,h.tr,rfl,h.day,rfl,?_,?_,?_,Int.le_refl _,q0.f0,hf1⟩
  ·simp only[upd_same];rfl
  ·simp only[upd_same]
   show (0:Int)=(V.om (p j)).filled-(V.om (p j)).filled
   omega
  ·show (0:Int)=(V.lg.tr.length:Int)-V.lg.tr.length
   omega
  ·exact (if_pos (show MS.tr ⟨(V.B ib).leave V.om t k,upd V.om (p j) (fZ (V.om (p j)) price qty),V.lg.moved (p j) (V.om (p j))⟩=V.tr from rfl)).symm
 have hqx:∀x,(x=p j∨jK st0 s x)→Qo (mN (N+1)) (st0.om x):=fun x hx=>by
  rw[iH]at hx ⊢
  simp only
  by_cases e:x=p j
  ·rw[e,upd_same];exact q1
  ·rw[af _ _ e]
   rcases hx with e2 | e2
   ·exact absurd e2 e
   ·have e3:Mem ((V.B ib).n s) ((V.B ib).h s) x:=by have:=e2;simp only[jK]at this;rw[FO.1,FO.2]at this;exact this
    exact (h.gw.q x (((h.gw.gb ib hib).mem s hs x).1 e3).1).mono (qf (Nat.le_add_right N 1))
 have hheap:dH (dW st0.om) (st0.B.n s) (st0.B.h s):=by rw[iH];exact gi.heap s hs
 have aay:=h.Bl
 have aax:=h.tpN
 have Ic:st0.tr=V.tr:=by rw[iH];rfl
 have H9:V.tr=(V.lg.tr.length:Int):=rfl
 obtain⟨c',he,hR',hsy,hpl,hln,hpc,htl,hol⟩:=oW.ends hM hs (by rw[H9];omega) (mu (p j) s st0) st0 _ hR iv hheap hqx (Nat.le_refl _) (by rw[Ic,H9];omega)
 change oW _ _ _ _ _ _ _ _ (mF (p j) s st0) c' at hR'
 have Oy:c'.S.sy=S.sy:=hsy
 have hpl':c'.S.places=S.places:=hpl
 rw[len0]at hln
 have q:=run.q (p j) (.inl rfl)
 have hlen:=OT (oc:=p j) (s:=s) (st:=st0)
 have e0:st0.lg.tr.length=V.lg.tr.length∧st0.lg.tp.length=V.lg.tp.length∧st0.lg.na=V.lg.na+1:=by rw[iH];exact⟨rfl,rfl,rfl⟩
 obtain⟨e01,e02,e04⟩:=e0
 rw[e01,e02,Y1]at hlen
 have idj:∀a,a<S.l.length→(ah c'.S.l a).id=(ah S.l a).id:=fun a ha=>by
  by_cases e:a=j
  ·subst e
   have f1:=(dI hR'.nH.self).1
   simp only at f1
   rw[←f1,(run.stat (p a)).1,iH]
   simp only[upd_same]
   exact e1
  ·have f1:=(dI (hR'.nH.same a (by rw[hln];exact ha) e)).1
   rw[←f1,(run.stat (p a)).1,iH]
   simp only
   rw[kE a ha e]
   exact (dI (h.same a ha)).1
 have old:∀a,a<S.l.length→a≠j→(ah c'.S.l a).sym=(ah S.l a).sym∧((mF (p j) s st0).om (p a)).place=(V.om (p a)).place∧(0<(ah c'.S.l a).opn→0<(ah S.l a).opn)∧(ah c'.S.l a).place=(ah S.l a).place:=fun a ha hne=>by
  obtain⟨f1,_,f3,_,_,_,_,_,f9,_⟩:=dI (hR'.nH.same a (by rw[hln];exact ha) hne)
  obtain⟨g1,_,g3,_,_,_,_,g8,_⟩:=run.stat (p a)
  have e1:st0.om (p a)=V.om (p a):=by rw[iH];exact kE a ha hne
  rw[e1]at g1 g3 g8
  obtain⟨k1,_,k3,_,_,_,_,_,k9,_⟩:=dI (h.same a ha)
  refine⟨by rw[←f3,g3,k3],g8,fun h0=>?_,by rw[hpc a];exact congrArg Ord.place (nl a hne)⟩
  rw[←f9]at h0
  rw[←k9]
  by_cases hm:jK st0 s (p a)
  ·rw[iH]at hm
   have e3:Mem ((V.B ib).n s) ((V.B ib).h s) (p a):=by have:=hm;simp only[jK]at this;rw[FO.1,FO.2]at this;exact this
   exact (((h.gw.gb ib hib).mem s hs _).1 e3).2.2.2
  ·rw[run.far _ (Df a ha hne) hm,e1]at h0
   exact h0
 refine⟨c',mu (p j) s st0,he,hmu,?_,?_,?_,?_⟩
 ·refine bF.O8 (V:=V) (g:=g) (cap':=cap') (t:=t) (by omega) hib hR' q gw' rfl (by rw[iH];rfl) (by rw[iH];rfl) (by rw[iH];rfl) hBs (by unfold mF;rw[qZ,iH];rfl) h.GU (by rw[Oy];exact h.nb) (by rw[Oy];exact h.sym) (by rw[hln,←h.no];rfl) (fun a ha=>?_) (fun id b2 hb2=>?_) (fun a ha hne h0 i hi hsj=>?_) (fun a ha hne h0=>?_) (by rw[hpl'];exact h.Pq) (by omega) (by omega) (by rw[SL,e04];have:=h.zG;omega) (by show V.no≤200;omega) h.OZ (fun a ha=>by rw[hln]at ha;rw[idj a ha];exact h.ids a ha)
  ·rw[hln]at ha
   rw[idj a ha]
   exact h.aO a ha
  ·obtain⟨a,ha,x1,x2⟩:=h.yD id b2 hb2
   exact⟨a,by rw[hln];exact ha,by rw[idj a ha];exact x1,x2⟩
  ·rw[hln]at ha
   obtain⟨o2,o3,o4,_⟩:=old a ha hne
   rw[o3]
   rw[o2]at hsj
   exact h.LM a ha (o4 h0) i hi hsj
  ·rw[hln]at ha
   obtain⟨_,_,o4,o5⟩:=old a ha hne
   rw[o5,hpl']
   exact h.LQ a ha (o4 h0)
 ·have hrep:=hR'.report hM q (fZ (V.om (p j)) price qty) rfl (by rw[run.aG,iH];simp only[upd_same]) (by unfold MS.tr;omega) (by rw[H9];omega)
  rw[←hrep,iH]
  rfl
 ·obtain⟨_,_,_,_,_,_,f7,_⟩:=hR'.fin hM q
  rw[f7,←hR'.tp,iH]
  rfl
 ·obtain⟨_,_,_,_,_,_,f7,_⟩:=hR'.fin hM q
  rw[f7]
  have aas:c'.S.told.length≤0+mu (p j) s st0:=hol
  omega
end Go.Proofs.YtigaphnafnpfnaaGreatDoor
namespace Go.Proofs.YtigaphnafnpfnaaGreatDoor
open Go.RowKit
attribute [local go_sem ↓] Go.wp_at_zero Go.wp_at_succ
def nM(o:Ord)(n:Int):Ord:={ o with filled:=wrap64 (o.filled-n) }
def RS.iU(S:RS)(i:Nat)(n:Int):RS:=S.cu i (nM (ah S.l i) n)
def RS.back(S:RS)(i:Nat)(n:Int)(again:Bool):Bool:=again && (di (ah S.l i).kind && (dD (S.iU i n).l (aV (ah S.l i))).isNone)
def RS.bf(S:RS)(i:Nat)(n:Int)(again:Bool):RS :=
 if S.back i n again=true then (S.iU i n).stand i n else S.cu i { nM (ah S.l i) n with aG:=wrap64 ((ah S.l i).aG+n) }
theorem Bc(base sb i:Nat)(S:RS)(m:SM)(id n:Int)(again:Bool)(w:World)(h:bH w base sb S m)(hlen:S.l.length≤1000)(hid:fK S.l id=some i) :
 Calls Tryz.prog 206 #[.pointer (some ⟨sb,0,none⟩),.int .i64 id,.int .i64 n,.bool again] w fun e w'=>e=.returned (.tuple #[])∧bH w' base sb (S.bf i n again) m∧ag (SF sb m) w w':=by
 have hi:=(gV hid).1
 obtain⟨N,hN⟩:∃N,S.l.length=N:=⟨_,rfl⟩
 have hiN:i<N:=by omega
 obtain⟨o,ho⟩:∃o,ah S.l i=o:=⟨_,rfl⟩
 have HO:Hid (Calls Tryz.prog 141 #[.pointer (some ⟨sb,0,none⟩),.int .i64 id] w fun e w'=>e=.returned (.int .i64 (i:Int))∧w'=w):=by
  have:=lT base sb S m id w h hlen
  rw[hid]at this
  exact this
 obtain⟨g,c,v1,hlv,hsg,lg,ni,hcl,hf⟩:=h.see hN (by omega)
 have hcl':=hcl i hiN
 rw[ho]at hcl'
 have c9:w.cell? ⟨g,i * 13+9,none⟩=some (.int .i64 o.filled):=hcl' 9 _ rfl
 have f9:=hf (i * 13+9)
 have uj:=h.blk.lt
 obtain⟨W1,hW1⟩:∃W1,W1=(w.setCell ⟨g,i * 13+9,none⟩ (.int .i64 (wrap64 (o.filled-n)))).drew:=⟨_,rfl⟩
 obtain⟨p0,q0⟩:=h.fM hlv hi (j:=9) (by omega) (.int .i64 (wrap64 (o.filled-n))) (nM o n) (by rw[ho];rfl)
 have p1:bH W1 base sb (S.iU i n) m:=by
  rw[hW1]
  have:S.iU i n={ S with l:=S.l.set i (nM o n) }:=by unfold RS.iU RS.cu;rw[ho]
  rw[this]
  exact p0.aj (ag.refl ak _).drew
 have k1:ag (SF sb m) w W1:=by rw[hW1];exact q0.drew
 have hl1:(S.iU i n).l.length=N:=by simp[RS.iU,RS.cu,hN]
 have hn1:ah (S.iU i n).l i=nM o n:=by unfold RS.iU RS.cu;simp only;rw[bG hi,ho]
 obtain⟨g',c',v1',Um,aav,lg',Uk,Xp,hf'⟩:=p1.see hl1 (by omega)
 obtain⟨rfl,rfl⟩:g'=g∧c'=c:=by
  have e:=hlv.symm.trans Um
  rw[hl1,hN]at e
  simp only[Value.slice.injEq,Option.some.injEq,Addr.mk.injEq,and_true,true_and]at e
  exact⟨e.1.symm,e.2.symm⟩
 have qX:=Xp i hiN
 rw[hn1]at qX
 have d0:W1.cell? ⟨g',i * 13,none⟩=some (.int .i64 o.id):=qX 0 _ rfl
 have d1:W1.cell? ⟨g',i * 13+1,none⟩=some (.int .i64 o.owner):=qX 1 _ rfl
 have d2:W1.cell? ⟨g',i * 13+2,none⟩=some (.string o.sym):=qX 2 _ rfl
 have d3:W1.cell? ⟨g',i * 13+3,none⟩=some (.int .i64 o.side):=qX 3 _ rfl
 have d4:W1.cell? ⟨g',i * 13+4,none⟩=some (.int .i64 o.kind):=qX 4 _ rfl
 have d5:W1.cell? ⟨g',i * 13+5,none⟩=some (.int .i64 o.price):=qX 5 _ rfl
 have d6:W1.cell? ⟨g',i * 13+6,none⟩=some (.int .i64 o.qty):=qX 6 _ rfl
 have d10:W1.cell? ⟨g',i * 13+10,none⟩=some (.int .i64 o.aG):=qX 10 _ rfl
 have f10:=hf' (i * 13+10)
 have HR:=hide (sD o.kind W1)
 have HB:Hid (Calls Tryz.prog 199 #[.pointer (some ⟨sb,0,none⟩),.agg #[.int .i64 o.id,.int .i64 o.owner,.string o.sym,.int .i64 o.side,.int .i64 o.kind,.int .i64 o.price,.int .i64 o.qty]] W1 fun e w'=>e=.returned (.int .i64 (oi (dD (S.iU i n).l (aV o))))∧ag ak W1 w'):=uM base sb (S.iU i n) m (aV o) W1 p1 (by omega)
 have J9:Hid (∀W,ag ak W1 W→Calls Tryz.prog 203 #[.pointer (some ⟨sb,0,none⟩),.int .i64 (i:Int),.int .i64 n] W fun e w'=>e=.returned (.tuple #[])∧bH w' base sb ((S.iU i n).stand i n) m∧ag (SF sb m) W w'):=fun W k=>PD base sb i (S.iU i n) m n W (p1.aj k) (by rw[hl1];omega) (by rw[hl1];exact hiN)
 have Tq:Hid (∀W,ag ak W1 W→bH (W.setCell ⟨g',i * 13+10,none⟩ (.int .i64 (wrap64 (o.aG+n)))) base sb (S.cu i { nM o n with aG:=wrap64 (o.aG+n) }) m∧ag (SF sb m) W (W.setCell ⟨g',i * 13+10,none⟩ (.int .i64 (wrap64 (o.aG+n))))):=fun W k=>by
  obtain⟨a1,a2⟩:=(p1.aj k).fM (i:=i) Um (by rw[hl1];exact hiN) (j:=10) (by omega) (.int .i64 (wrap64 (o.aG+n))) { nM o n with aG:=wrap64 (o.aG+n) } (by rw[hn1];rfl)
  refine⟨?_,a2⟩
  have:({ S.iU i n with l:=(S.iU i n).l.set i { nM o n with aG:=wrap64 (o.aG+n) } }:RS)=S.cu i { nM o n with aG:=wrap64 (o.aG+n) }:=by
   unfold RS.iU RS.cu;simp only[List.set_set]
  rw[←this];exact a1
 have kV:=hide k1
 have HW1:=hide hW1
 obtain⟨bst,Uh⟩:∃bst,dD (S.iU i n).l (aV o)=bst:=⟨_,rfl⟩
 obtain⟨rs,hrs⟩:∃rs,di o.kind=rs:=⟨_,rfl⟩
 have HU:Hid (S.bf i n again=if (again && (rs && bst.isNone))=true then (S.iU i n).stand i n else S.cu i { nM o n with aG:=wrap64 (o.aG+n) }):=by
  show _=_
  unfold RS.bf RS.back;rw[ho,Uh,hrs]
 rw[Uh]at HB
 rw[hrs]at HR
 have sS:=hide p1
 clear h p0 q0 p1 k1 hcl hcl' Xp qX hf hf' hlv Um ni Uk ho hid hn1 hl1 hW1 Uh hrs hN hlen hi aav hsg
 have tH:sb<W1.heap.size:=(ae sS).blk.lt
 go_enter Tryz.func206,Tryz.ntmps206
 go_wp2_with fail
 refine (ae HO).mono ?_
 rintro e w2 ⟨rfl,hw2⟩
 rw[hw2]
 clear hw2 w2 HO
 go_wp2
 go_region
 rw[←ae HW1]
 go_wp2_with fail
 refine (ae HR).mono ?_
 rintro e w2 ⟨rfl,hw2⟩
 rw[hw2]
 clear hw2 w2 HR c9 f9 v1 lg
 cases again
 ·have hU:S.bf i n false=S.cu i { nM o n with aG:=wrap64 (o.aG+n) }:=(ae HU).trans (if_neg (by simp))
  have hcn:=ae Tq W1 (ag.refl ak W1)
  have hfin:bH ((W1.setCell ⟨g',i * 13+10,none⟩ (.int .i64 (wrap64 (o.aG+n)))).drew) base sb (S.bf i n false) m∧ag (SF sb m) w ((W1.setCell ⟨g',i * 13+10,none⟩ (.int .i64 (wrap64 (o.aG+n)))).drew):=by
   rw[hU]
   exact⟨hcn.1.aj (ag.refl ak _).drew,((ae kV).trans ((ag.refl (SF sb m) W1).trans hcn.2)).drew⟩
  have HF:=hide hfin
  clear hfin hcn hU
  go_wp2
  go_region
  go_wp2
  go_end0
  exact⟨rfl,ae HF⟩
 ·cases rs
  ·have hU:S.bf i n true=S.cu i { nM o n with aG:=wrap64 (o.aG+n) }:=(ae HU).trans (if_neg (by simp))
   have hcn:=ae Tq W1 (ag.refl ak W1)
   have hfin:bH ((W1.setCell ⟨g',i * 13+10,none⟩ (.int .i64 (wrap64 (o.aG+n)))).drew) base sb (S.bf i n true) m∧ag (SF sb m) w ((W1.setCell ⟨g',i * 13+10,none⟩ (.int .i64 (wrap64 (o.aG+n)))).drew):=by
    rw[hU]
    exact⟨hcn.1.aj (ag.refl ak _).drew,((ae kV).trans ((ag.refl (SF sb m) W1).trans hcn.2)).drew⟩
   have HF:=hide hfin
   clear hfin hcn hU
   go_wp2
   go_region
   go_wp2
   go_end0
   exact⟨rfl,ae HF⟩
  ·go_wp2_with fail
   refine (ae HB).mono ?_
   rintro e w2 ⟨rfl,k2⟩
   have e0:w2.cell? ⟨sb,1,none⟩=some (.slice (some ⟨g',0,none⟩) N c'):=k2.cell v1' (fun z=>z)
   have e10:w2.cell? ⟨g',i * 13+10,none⟩=some (.int .i64 o.aG):=k2.cell d10 (fun z=>z)
   have aaL:w2.frozen? ⟨g',i * 13+10,none⟩=false:=by
    obtain⟨cs,hcs⟩:=ay (ae sS).bI (b:=g') (by obtain⟨a,c,hv⟩:=az (ae sS).bI;have:=(ae sS).blk.cell 1;rw[hv]at this;rw[hv];have h3:=this.symm.trans v1';simp at h3;rw[h3.1];rfl)
    exact (k2.blk hcs (fun z=>z)).frozen _
   have Q5:g'<w2.heap.size:=Nat.lt_of_lt_of_le lg' k2.size
   have Q8:sb<w2.heap.size:=Nat.lt_of_lt_of_le tH k2.size
   cases bst with
   | none =>
     have HT:=hide (ae J9 w2 k2)
     have hU:S.bf i n true=(S.iU i n).stand i n:=(ae HU).trans (if_pos rfl)
     have jC:=hide k2
     have HUU:=hide hU
     clear k2 hU
     simp only[oi]
     go_wp2_with fail
     refine (ae HT).mono ?_
     rintro e w3 ⟨rfl,a1,a3⟩
     have HF:Hid (bH w3 base sb (S.bf i n true) m∧ag (SF sb m) w w3):=by
      show bH w3 base sb (S.bf i n true) m∧ag (SF sb m) w w3
      rw[ae HUU]
      exact⟨a1,(ae kV).trans ((ae jC).aC.trans a3)⟩
     clear a1 a3
     go_wp2
     refine bodyPost_ret (results_none rfl _ _ _) rfl ?_
     exact⟨rfl,ae HF⟩
   | some b =>
     have hU:S.bf i n true=S.cu i { nM o n with aG:=wrap64 (o.aG+n) }:=(ae HU).trans (if_neg (by simp))
     have hcn:=ae Tq w2 k2
     have hfin:bH ((w2.setCell ⟨g',i * 13+10,none⟩ (.int .i64 (wrap64 (o.aG+n)))).drew) base sb (S.bf i n true) m∧ag (SF sb m) w ((w2.setCell ⟨g',i * 13+10,none⟩ (.int .i64 (wrap64 (o.aG+n)))).drew):=by
      rw[hU]
      exact⟨hcn.1.aj (ag.refl ak _).drew,((ae kV).trans (k2.aC.trans hcn.2)).drew⟩
     have HF:=hide hfin
     have hb0:¬((b:Nat):Int)<0:=by omega
     clear hfin hcn hU k2
     simp only[oi]
     go_wp2
     go_region
     go_wp2
     go_end0
     exact⟨rfl,ae HF⟩
end Go.Proofs.YtigaphnafnpfnaaGreatDoor
namespace Go.Proofs.YtigaphnafnpfnaaGreatDoor
open Go.RowKit Go.Maps
theorem Rep.KQ{w:World}{bv bm bo:Nat}{V:aW}(R:Rep w bv bm bo V){x:Nat}{a:Option Nat}{b:Nat}{c:Array Nat}{d:Nat}(hb:w.heap[x]?=some (.mapIter a b c d)):¬dX bv bm bo V x:=by
 obtain⟨fB,⟨_,⟨_,_,mB,_⟩,_⟩,_⟩:=R.books
 obtain⟨fO,⟨_,⟨_,_,mO,_⟩,_⟩,_⟩:=R.orders
 have no:∀{y c t},ai w y c t→x≠y:=fun h e=>by
  subst e
  unfold ai at h
  rw[hb]at h
  simp at h
 rintro (e | e | e | ⟨i,hi,e | ⟨s,hs,e⟩⟩ | ⟨id,e⟩ | e)
 ·exact no R.cZ e
 ·rw[e,mB]at hb;simp at hb
 ·rw[e,mO]at hb;simp at hb
 ·exact no (R.book i hi).blk e
 ·obtain⟨c,t,hc,_⟩:=(R.zk hi).typ (.inr (.inr ⟨s,hs,e⟩))
  exact no hc rfl
 ·obtain⟨_,ix,ho⟩:=R.aQ id x e
  exact no ho rfl
 ·obtain⟨c,t,hc,_⟩:=R.log.log.typ e
  exact no hc rfl
theorem eP.I9{w:World}{bv bm bo:Nat}{G:Lg}{m:Lm}(h:aK w bv bm bo G m)(d:Int):aK (w.setCell ⟨bv,4,none⟩ (.int .i64 d)) bv bm bo { G with day:=d } m∧ag (fun y=>y=bv) w (w.setCell ⟨bv,4,none⟩ (.int .i64 d)):=by
 have kk:ag (fun y=>y=bv) w (w.setCell ⟨bv,4,none⟩ (.int .i64 d)):=(ag.refl (fun y=>y=bv) w).setCell (p:=⟨bv,4,none⟩) (.inl rfl) _
 have hl:=h.log.kept kk (fun y hy e=>h.Hg (e▸hy))
 exact⟨⟨h.cZ.set 4 _,⟨hl.dE,hl.fU,hl.len,hl.blk,hl.nodup,hl.act,hl.mJ,hl.jb⟩⟩,kk⟩
end Go.Proofs.YtigaphnafnpfnaaGreatDoor
