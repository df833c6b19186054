import Derived.Test.YtigaphnafnpfnaaGreatDoorQNY5
set_option linter.unusedVariables false
set_option linter.unusedSimpArgs false
namespace Go.Proofs.YtigaphnafnpfnaaGreatDoor
open Go.RowKit
theorem rQ{l:List Ord}{o:Ord}{k:Nat}(h:k<l.length):ax (l++[o]) k=ax l k:=by
 unfold ax;rw[List.getD_eq_getElem?_getD,List.getD_eq_getElem?_getD,List.getElem?_append_left h]
theorem oh{l:List Ord}{o:Ord}:ax (l++[o]) l.length=o:=by
 unfold ax;rw[List.getD_eq_getElem?_getD,List.getElem?_append_right (Nat.le_refl _)];simp
theorem YQ(oc s:Nat)(st:MS):(mF oc s st).lg.na=st.lg.na:=(qM oc s _ st).1
theorem UG(oc s:Nat)(st:MS):(bF oc s st).lg.ud=st.lg.ud:=by
 unfold bF;split
 ·rfl
 ·simp only[Lg.jT,Lg.told,Lg.aC,Lg.aX,dn];split <;> rfl
theorem EO(oc s:Nat):∀(f:Nat) (st:MS),(aZ oc s f st).lg.ud=st.lg.ud
 | 0,st=>rfl
 | f+1,st=>by
   rw[aZ];split
   ·rfl
   ·rw[EO oc s f,UG]
theorem UB(oc s:Nat)(st:MS):(bF oc s st).lg.js=st.lg.js:=by
 unfold bF;split
 ·rfl
 ·simp only[Lg.jT,Lg.told,Lg.aC,Lg.aX,dn];split <;> rfl
theorem EM(oc s:Nat):∀(f:Nat) (st:MS),(aZ oc s f st).lg.js=st.lg.js
 | 0,st=>rfl
 | f+1,st=>by
   rw[aZ];split
   ·rfl
   ·rw[EM oc s f,UB]
theorem YP(oc s:Nat)(st:MS):(mF oc s st).lg.js=st.lg.js:=EM oc s _ st
theorem YR(oc s:Nat)(st:MS):(mF oc s st).lg.ud=st.lg.ud:=EO oc s _ st
theorem dA.Yy{p:Nat->Nat}{V:aS}{S:RS}{N:Nat}(h:dA p V S N){o:iT}{ib b s t:Nat}(hib:ib<V.nb)(hs:s<2)(ht:t=1-s)(dR:o.sym=(V.B ib).sym)(hside:o.side=(t:Int))(hb:¬VL V b) :
 xg (aQ p S.l.length b) b S.l.length s (V.B ib) (aQ V.om b (aN o)) (S.fresh.add o).l (V.B ib).sym:=by
 have pb:∀k,k<S.l.length->p k≠b:=fun k hk e=>hb ((h.vl b).2 ⟨k,hk,e⟩)
 have nK:∀k,k<S.l.length->aQ V.om b (aN o) (p k)=V.om (p k):=fun k hk=>ah _ _ (pb k hk)
 have len0:(S.fresh.add o).l.length=S.l.length+1:=by simp[RS.add,RS.fresh]
 have l0:(S.fresh.add o).l=S.l++[Gx o]:=rfl;have nl:∀k,k<S.l.length->ax (S.fresh.add o).l k=ax S.l k:=fun k hk=>by rw[l0];exact rQ hk
 have nn:ax (S.fresh.add o).l S.l.length=Gx o:=by rw[l0];exact oh
 have pk:∀k,k<S.l.length->aQ p S.l.length b k=p k:=fun k hk=>ah _ _ (by omega)
 have pl:aQ p S.l.length b S.l.length=b:=ai _ _ _;have sides:o.side=0\/o.side=1:=by omega
 refine⟨by omega,pl,fun a c ha hc e=>?_,fun k hk hne=>?_,?_,fun a c ha hc hna hnc hsy h1 h2=>?_,fun a c ha hc hna hnc hac hsy h1 h2=>?_,fun x=>?_,?_,?_,fun k hk=>?_,fun k hk=>?_⟩
 ·rw[len0]at ha hc;by_cases ea:a=S.l.length <;> by_cases ec:c=S.l.length
  ·omega
  ·rw[ea,pl,pk c (by omega)]at e;exact absurd e.symm (pb c (by omega))
  ·rw[ec,pl,pk a (by omega)]at e;exact absurd e (pb a (by omega))
  ·rw[pk a (by omega),pk c (by omega)]at e;exact h.inj a c (by omega) (by omega) e
 ·rw[len0]at hk;rw[pk k (by omega),nK k (by omega),nl k (by omega)];exact h.same k (by omega)
 ·rw[ai,nn];rfl
 ·rw[len0]at ha hc;rw[nl a (by omega),nl c (by omega)]at hsy ⊢;rw[nl a (by omega)]at h1;rw[nl c (by omega)]at h2;rw[pk a (by omega),pk c (by omega),nK a (by omega),nK c (by omega)];exact h.place a c (by omega) (by omega) hsy h1 h2
 ·rw[len0]at ha hc;rw[nl a (by omega),nl c (by omega)]at hsy ⊢;rw[nl a (by omega)]at h1;rw[nl c (by omega)]at h2;exact h.xy a c (by omega) (by omega) hac hsy h1 h2
 ·rw[(h.gw.gb ib hib).mem s hs x,h.vl x,len0];constructor
  ·rintro⟨⟨k,hk,rfl⟩,a1,a2,a3⟩;obtain⟨_,_,e3,e4,_,_,_,_,e9,_⟩:=fK (h.same k hk);refine⟨k,by omega,by omega,pk k hk,?_,?_,?_⟩ <;> rw[nl k hk]
   ·rw[<-e3];exact a1
   ·rw[<-e4];exact a2
   ·rw[<-e9];exact a3
  ·rintro⟨k,hk,hne,e,a1,a2,a3⟩;have hk':k<S.l.length:=by omega
   obtain⟨_,_,e3,e4,_,_,_,_,e9,_⟩:=fK (h.same k hk');rw[nl k hk']at a1 a2 a3;rw[pk k hk']at e;subst e;exact⟨⟨k,hk',rfl⟩,by rw[e3];exact a1,by rw[e4];exact a2,by rw[e9];exact a3⟩
 ·rw[nn];exact dR
 ·rw[nn];show o.side=_;omega
 ·rw[len0]at hk;by_cases e:k=S.l.length
  ·rw[e,nn];exact sides
  ·rw[nl k (by omega)];exact h.side (by omega)
 ·rw[len0]at hk;by_cases e:k=S.l.length
  ·rw[e,nn];exact Int.le_refl _
  ·rw[nl k (by omega)];exact (h.aO (by omega)).1
theorem dA.enter{p:Nat->Nat}{V:aS}{S:RS}{N:Nat}(h:dA p V S N)(hN:N<2900000){o:iT}{ib b s t g cap':Nat}{bM:Lm}(hib:ib<V.nb)(hs:s<2)(ht:t=1-s)(dR:o.sym=(V.B ib).sym)(hside:o.side=(t:Int))(hq1:1<=o.aK)(hq2:o.aK<=1000000)(hfree:V.aW o.id=none)(hb:¬VL V b)(acT:V.no<200)(ac7:dX o.id=true) :
 ∃c' f,wW S.l.length f ⟨S.fresh.add o,o.aK,0,0,0⟩ c'/\f<=201/\dA (aQ p S.l.length b) (V.enter ib b s t g cap' o bM) (yU S.l.length c') (N+1)/\lG (aN o) ((V.enter ib b s t g cap' o bM).om b) V.tr (V.enter ib b s t g cap' o bM).tr=rcV S.l.length c'/\(V.enter ib b s t g cap' o bM).lg.tp=kZ V.lg.tp (yU S.l.length c').told/\(yU S.l.length c').told.length<=201:=by
 have hM:mN (N+1)<=1000000000000000:=by unfold mN;omega
 have hmN:1000000<=mN (N+1):=by unfold mN;omega
 obtain⟨gw',run,iv,hBs,vM,gi⟩:=(h.gw.mono (su (Nat.le_add_right N 1))).enter (b:=b) (g:=g) (cap':=cap') (bM:=bM) hM hib hs ht dR hside (by omega) (by omega) hfree hb;obtain⟨st0,jP⟩:∃st0:MS,st0=⟨V.B ib,aQ V.om b (aN o),V.lg.bf o.id⟩:=⟨_,rfl⟩;rw[<-jP]at run iv;have pb:∀k,k<S.l.length->p k≠b:=fun k hk e=>hb ((h.vl b).2 ⟨k,hk,e⟩)
 have nK:∀k,k<S.l.length->aQ V.om b (aN o) (p k)=V.om (p k):=fun k hk=>ah _ _ (pb k hk)
 have len0:(S.fresh.add o).l.length=S.l.length+1:=by simp[RS.add,RS.fresh]
 have l0:(S.fresh.add o).l=S.l++[Gx o]:=rfl;have nl:∀k,k<S.l.length->ax (S.fresh.add o).l k=ax S.l k:=fun k hk=>by rw[l0];exact rQ hk
 have nn:ax (S.fresh.add o).l S.l.length=Gx o:=by rw[l0];exact oh
 have pk:∀k,k<S.l.length->aQ p S.l.length b k=p k:=fun k hk=>ah _ _ (by omega)
 have pl:aQ p S.l.length b S.l.length=b:=ai _ _ _;have sides:o.side=0\/o.side=1:=by omega
 have aaD:=h.Yy hib hs ht dR hside hb;have hcs:=h.count hib hs;have hmu:mu b s st0<=201:=by
  rw[jP];unfold mu;simp only;split <;> omega
 have hR:tJ (aQ p S.l.length b) b S.l.length s (V.B ib).sym V.lg.tp V.tr 0 st0 ⟨S.fresh.add o,o.aK,0,0,0⟩:=by
  rw[jP];refine⟨aaD,?_,h.tr,rfl,h.day,rfl,?_,?_,?_,Int.le_refl _,Int.le_refl _,by decide⟩
  ·simp only[ai];rfl
  ·simp only[ai];rfl
  ·show (0:Int)=MS.tr ⟨V.B ib,aQ V.om b (aN o),V.lg.bf o.id⟩-V.tr;unfold MS.tr aS.tr;show (0:Int)=(V.lg.tr.length:Int)-V.lg.tr.length;omega
  ·show (0:Int)=if MS.tr ⟨V.B ib,aQ V.om b (aN o),V.lg.bf o.id⟩=V.tr then 0 else V.tr+1
   exact (if_pos (show MS.tr ⟨V.B ib,aQ V.om b (aN o),V.lg.bf o.id⟩=V.tr from rfl)).symm
 have hqx:∀x,(x=b\/mD st0 s x)->Qo (mN (N+1)) (st0.om x):=fun x hx=>by
  rw[jP]at hx ⊢;rcases hx with e | e
  ·simp only[e,ai];exact BX (by omega) (by omega)
  ·have hvx:=(((h.gw.gb ib hib).mem s hs x).1 e).1;simp only;rw[ah _ _ (fun e2=>hb (by rw[<-e2];exact hvx))];exact (h.gw.q x hvx).mono (su (Nat.le_add_right N 1))
 have hheap:eG (fP st0.om) (st0.B.n s) (st0.B.h s):=by rw[jP];exact gi.heap s hs
 have ado:=h.yu;have adn:=h.DJ;have adf:=h.gV;have MM:st0.tr=V.tr:=by rw[jP];rfl
 have MJ:V.tr=(V.lg.tr.length:Int):=rfl;obtain⟨c',he,hR',hsy,hpl,hln,hpc,htl,hol⟩:=tJ.aa9 hM hs (by rw[MJ];omega) (mu b s st0) st0 _ hR iv hheap hqx (Nat.le_refl _) (by rw[MM,MJ];omega);change tJ _ _ _ _ _ _ _ _ (mF b s st0) c' at hR';have TV:c'.S.sy=S.sy:=hsy;have hpl':c'.S.places=S.places:=hpl;rw[len0]at hln;have q:=run.q b (.inl rfl);have hlen:=Nw (oc:=b) (s:=s) (st:=st0);have e0:st0.lg.tr.length=V.lg.tr.length/\st0.lg.tp.length=V.lg.tp.length/\st0.B.n s=(V.B ib).n s/\st0.lg.na=V.lg.na+1/\st0.lg.ud=V.lg.ud:=by rw[jP];exact⟨rfl,rfl,rfl,rfl,rfl⟩
 obtain⟨e01,e02,e03,e04,e05⟩:=e0;rw[e01,e02,e03]at hlen;have old:∀k,k<S.l.length->(ax c'.S.l k).id=(ax S.l k).id/\(ax c'.S.l k).sym=(ax S.l k).sym/\((mF b s st0).om (p k)).place=(V.om (p k)).place/\(0<(ax c'.S.l k).aO->0<(ax S.l k).aO)/\(ax c'.S.l k).place=(ax S.l k).place:=fun k hk=>by
  obtain⟨f1,_,f3,_,_,_,_,_,f9,_⟩:=fK (hR'.oz.same k (by rw[hln];omega) (by omega));rw[pk k hk]at f1 f3 f9;obtain⟨g1,_,g3,_,_,_,_,g8,_⟩:=run.dN (p k);have e1:st0.om (p k)=V.om (p k):=by rw[jP];exact nK k hk
  rw[e1]at g1 g3 g8;obtain⟨k1,_,k3,_,_,_,_,_,k9,_⟩:=fK (h.same k hk);refine⟨by rw[<-f1,g1,k1],by rw[<-f3,g3,k3],g8,fun h0=>?_,by rw[hpc k];exact congrArg Ord.place (nl k hk)⟩;rw[<-f9]at h0;rw[<-k9];by_cases hm:mD st0 s (p k)
  ·rw[jP]at hm;exact (((h.gw.gb ib hib).mem s hs _).1 hm).2.2.2
  ·rw[run.lY _ (pb k hk) hm,e1]at h0;exact h0
 have new:(ax c'.S.l S.l.length).id=o.id:=by
  have f1:=(fK hR'.oz.self).1;simp only at f1;rw[<-f1,(run.dN b).1,jP];simp only[ai]
  rfl
 refine⟨c',mu b s st0,he,hmu,?_,?_,?_,?_⟩
 ·refine dA.UU (V:=V) (g:=g) (cap':=cap') (t:=t) (by omega) hib hR' q gw' rfl (by rw[jP];rfl) (by rw[jP];rfl) (by rw[jP];rfl) hBs (by unfold mF;rw[qi,jP]) h.EU (by rw[TV];exact h.nb) (by rw[TV];exact h.sym) (by rw[hln,<-h.no];rfl) (fun k hk=>?_) (fun id b2 hb2=>?_) (fun k hk hne h0 j hj hsj=>?_) (fun k hk hne h0=>?_) (by rw[hpl'];exact h.Rx) (by omega) (by omega) (by rw[YR,YQ,e04,e05];have:=h.zX;omega) (by show V.no+1<=200;omega) h.UJ (fun k hk=>?_)
  ·rw[hln]at hk;show (if (ax c'.S.l k).id=o.id then some b else V.aW (ax c'.S.l k).id)=_;by_cases e:k=S.l.length
   ·rw[e,new,if_pos rfl,pl]
   ·have hk':k<S.l.length:=by omega
    rw[(old k hk').1,pk k hk'];have:=h.aW k hk';rw[if_neg (fun e2=>by rw[e2,hfree]at this;simp at this)];exact this
  ·have hb3:(if id=o.id then some b else V.aW id)=some b2:=hb2;by_cases e:id=o.id
   ·rw[if_pos e]at hb3;refine⟨S.l.length,by rw[hln];omega,by rw[new,e],?_⟩;rw[pl];exact Option.some.inj hb3
   ·rw[if_neg e]at hb3;obtain⟨k,hk,e1,e2⟩:=h.zY id b2 hb3;exact⟨k,by rw[hln];omega,by rw[(old k hk).1];exact e1,by rw[pk k hk];exact e2⟩
  ·rw[hln]at hk;have hk':k<S.l.length:=by omega
   obtain⟨_,o2,o3,o4,_⟩:=old k hk';rw[pk k hk',o3];rw[o2]at hsj;exact h.O3 k hk' (o4 h0) j hj hsj
  ·rw[hln]at hk;have hk':k<S.l.length:=by omega
   obtain⟨_,_,_,o4,o5⟩:=old k hk';rw[o5,hpl'];exact h.O4 k hk' (o4 h0)
  ·rw[hln]at hk;by_cases e:k=S.l.length
   ·rw[e,new];exact ac7
   ·rw[(old k (by omega)).1];exact h.rJ k (by omega)
 ·have hrep:=hR'.report hM q (aN o) rfl (by rw[run.bZ,jP];simp only[ai]) (by unfold MS.tr;omega) (by rw[MJ];omega);rw[<-hrep];show lG (aN o) (aH b (mF b s ⟨V.B ib,aQ V.om b (aN o),V.lg.bf o.id⟩) b) V.tr ((iC b (mF b s ⟨V.B ib,aQ V.om b (aN o),V.lg.bf o.id⟩)).tr.length:Int)=_;rw[<-jP]
  rfl
 ·obtain⟨_,_,_,_,_,_,f7,_⟩:=hR'.fin hM q;rw[f7,<-hR'.tp];show (iC b (mF b s ⟨V.B ib,aQ V.om b (aN o),V.lg.bf o.id⟩)).tp=_;rw[<-jP]
  rfl
 ·obtain⟨_,_,_,_,_,_,f7,_⟩:=hR'.fin hM q;rw[f7];have:(S.fresh.add o).told.length=0:=rfl;have adi:c'.S.told.length<=(S.fresh.add o).told.length+mu b s st0:=hol;omega
attribute [local go_sem ↓] Go.wp_at_zero Go.wp_at_succ
def mi(sy:List ByteArray)(s:ByteArray):Int:=if nX s=false then 3 else if jI sy s=true then 2 else if 6<=sy.length then 7 else 0
theorem Np(sy:List ByteArray)(s:ByteArray):(nX s=false/\mi sy s=3)\/(nX s=true/\jI sy s=true/\mi sy s=2)\/(nX s=true/\jI sy s=false/\decide ((sy.length:Int)>=6)=true/\mi sy s=7)\/(nX s=true/\jI sy s=false/\decide ((sy.length:Int)>=6)=false/\mi sy s=0):=by
 unfold mi;cases h1:nX s
 ·left;simp
 ·cases h2:jI sy s
  ·by_cases h3:6<=sy.length
   ·right;right;left;refine⟨rfl,rfl,?_,?_⟩
    ·simp;omega
    ·simp[h3]
   ·right;right;right;refine⟨rfl,rfl,?_,?_⟩
    ·simp;omega
    ·simp[h3]
  ·right;left;simp
def RS.lists(S:RS)(s:ByteArray):RS:={ S with sy:=S.sy++[s] }
theorem dA.VN{p:Nat->Nat}{V V':aS}{S S':RS}{N:Nat}(h:dA p V S N)(gw:GW V' (mN (N+1)))(hnb:V'.nb=V.nb)(hBs:∀j,(V'.B j).sym=(V.B j).sym)(hpl:∀j,(V'.B j).places=(V.B j).places)(hno:V'.no=V.no)(rH:V'.aW=V.aW)
 (hsy:S'.sy=S.sy) (hlen:S'.l.length=S.l.length) (hps:S'.places=S.places) (ht:S'.t=S.t) (hd:S'.day=S.day) (same:∀k,k<S.l.length->mW (V'.om (p k))=mW (ax S'.l k))
 (dN:∀k,k<S.l.length->(ax S'.l k).id=(ax S.l k).id/\(ax S'.l k).sym=(ax S.l k).sym/\(ax S'.l k).place=(ax S.l k).place/\(0<(ax S'.l k).aO->0<(ax S.l k).aO)/\(V'.om (p k)).place=(V.om (p k)).place)
 (htr:V'.lg.tr=V.lg.tr) (htp:V'.lg.tp=V.lg.tp) (hdy:V'.lg.day=V.lg.day) (hna:V'.lg.ud+V'.lg.na=V.lg.ud+V.lg.na+1):dA p V' S' (N+1):=by
 refine⟨gw,by rw[hnb,hsy];exact h.nb,fun i hi=>by rw[hsy,hBs i];exact h.sym i (by omega),by rw[hno,hlen];exact h.no,fun k hk=>?_,fun id b hb=>?_,fun a b ha hb=>h.inj a b (by omega) (by omega),fun k hk=>same k (by omega),fun a b ha hb hs h1 h2=>?_,fun a b ha hb hab hs h1 h2=>?_,fun k hk h0 i hi hs=>?_,fun k hk h0=>?_,fun i hi=>?_,?_,by rw[htr,ht];exact h.tr,by rw[hdy,hd];exact h.day,by rw[htr];have:=h.yu;omega,by rw[htp];have:=h.DJ;omega,by rw[hna];have:=h.zX;omega,by rw[hno];exact h.gV,by rw[hnb];exact h.UJ,fun k hk=>by rw[(dN k (by omega)).1];exact h.rJ k (by omega)⟩
 ·rw[rH,(dN k (by omega)).1];exact h.aW k (by omega)
 ·rw[rH]at hb;obtain⟨k,hk,e1,e2⟩:=h.zY id b hb;exact⟨k,by omega,by rw[(dN k hk).1];exact e1,e2⟩
 ·obtain⟨_,a2,a3,a4,a5⟩:=dN a (by omega);obtain⟨_,b2,b3,b4,b5⟩:=dN b (by omega);rw[a5,b5,a3,b3];exact h.place a b (by omega) (by omega) (by rw[<-a2,<-b2];exact hs) (a4 h1) (b4 h2)
 ·obtain⟨_,a2,a3,a4,a5⟩:=dN a (by omega);obtain⟨_,b2,b3,b4,b5⟩:=dN b (by omega);rw[a3,b3];exact h.xy a b (by omega) (by omega) hab (by rw[<-a2,<-b2];exact hs) (a4 h1) (b4 h2)
 ·obtain⟨_,a2,a3,a4,a5⟩:=dN k (by omega);rw[a5,hpl i];exact h.O3 k (by omega) (a4 h0) i (by omega) (by rw[<-hBs i,hs,a2])
 ·obtain⟨_,a2,a3,a4,a5⟩:=dN k (by omega);rw[a3,hps];exact h.O4 k (by omega) (a4 h0)
 ·rw[hpl i];have:=h.EU i (by omega);push_cast;omega
 ·rw[hps];have:=h.Rx;push_cast;omega
theorem dA.di{p:Nat->Nat}{V:aS}{S:RS}{N:Nat}(h:dA p V S N){s:ByteArray}{b:Nat}{bM:Lm}(hfree:∀i,i<V.nb->(V.B i).sym≠s)(h6:V.nb<6):dA p (V.di s b bM) (S.fresh.lists s) (N+1):=by
 have old:∀j,j<V.nb->(V.di s b bM).B j=V.B j:=fun j hj=>by
  show aQ V.B V.nb (lS s) j=V.B j;exact ah _ _ (by omega)
 have new:(V.di s b bM).B V.nb=lS s:=ai _ _ _;have hnb:(V.di s b bM).nb=V.nb+1:=rfl;have hl:(S.fresh.lists s).l=S.l:=rfl;have hsy:(S.fresh.lists s).sy=S.sy++[s]:=rfl;refine⟨(h.gw.mono (su (Nat.le_add_right N 1))).di hfree,by rw[hnb,hsy,h.nb];simp,fun i hi=>?_,h.no,h.aW,h.zY,h.inj,h.same,h.place,h.xy,fun k hk h0 i hi hs=>?_,h.O4,fun i hi=>?_,?_,h.tr,h.day,?_,?_,?_,h.gV,by rw[hnb];omega,h.rJ⟩
 ·by_cases e:i<V.nb
  ·rw[old i e,hsy,List.getElem?_append_left (by rw[<-h.nb];exact e)];exact h.sym i e
  ·obtain rfl:i=V.nb:=by omega
   rw[new,hsy,h.nb,List.getElem?_append_right (Nat.le_refl _)];simp[lS]
 ·by_cases e:i<V.nb
  ·rw[old i e]at hs ⊢;exact h.O3 k hk h0 i e hs
  ·obtain rfl:i=V.nb:=by omega
   rw[new]at hs;exfalso;obtain⟨j,hj,e2⟩:=h.gw.sym (p k) ((h.vl _).2 ⟨k,hk,rfl⟩);have e3:=(fK (h.same k hk)).2.2.1;exact hfree j hj (by rw[<-e2,e3];exact hs.symm)
 ·by_cases e:i<V.nb
  ·rw[old i e];have:=h.EU i e;push_cast;omega
  ·obtain rfl:i=V.nb:=by omega
   rw[new];show (0:Int)<=0/\(0:Int)<=2 * ((N+1:Nat):Int);exact⟨by omega,by omega⟩
 ·have:=h.Rx;show 0<=S.places/\S.places<=_;push_cast;omega
 ·have:=h.yu;show V.lg.tr.length<=_;omega
 ·have:=h.DJ;show V.lg.tp.length<=_;omega
 ·have:=h.zX;show V.lg.ud+(V.lg.na+1)<=_;omega
theorem dA.found{p:Nat->Nat}{V:aS}{S:RS}{N:Nat}(h:dA p V S N)(id:Int):V.aW id=(iU S.l id).map p:=by
 cases hx:iU S.l id with
 | some k =>
   obtain⟨h1,h2⟩:=xW hx;rw[<-h2];exact h.aW k h1
 | none =>
   cases hv:V.aW id with
   | none=>rfl
   | some b =>
     exfalso;obtain⟨k,hk,e1,e2⟩:=h.zY id b hv;unfold iU at hx;rw[List.findIdx?_eq_none_iff]at hx;have:=hx (ax S.l k) (List.mem_of_getElem? (QC hk));simp[e1]at this
theorem uO(S:RS):S.fresh.l=S.l:=rfl
theorem dA.gy{p:Nat->Nat}{V:aS}{S:RS}{N:Nat}(h:dA p V S N)(hN:N<2900000){i s k j:Nat}{ds:List dY}{bM:Lm}(hi:i<V.nb)(hs:s<2)(hk:k<(V.B i).n s)(hj:j<S.l.length)(Rt:p j=(V.B i).h s k) :
 dA p { V.turn i ((V.B i).leave V.om s k) (aQ V.om ((V.B i).h s k) (gz (V.om ((V.B i).h s k)))) with lg:=V.lg.begun.aX ds,lm:=bM } (S.fresh.gy j) (N+1):=by
 have hM:mN (N+1)<=1000000000000000:=by unfold mN;omega
 have hv:VL V ((V.B i).h s k):=(h.vl _).2 ⟨j,hj,Rt⟩;have q:=h.gw.q _ hv;have g:=(h.gw.mono (su (Nat.le_add_right N 1))).Us (o':=gz (V.om ((V.B i).h s k))) hi hs hk rfl rfl rfl ((q.mono (su (Nat.le_add_right N 1))).bZ hM).1;have nk:∀a,ax (S.fresh.gy j).l a=if a=j then { ax S.l j with bZ:=wrap64 ((ax S.l j).bZ+(ax S.l j).aO),aO:=0 } else ax S.l a:=fun a=>by
  simp only[RS.gy,RS.ik,uO];exact fE hj a
 have GL:∀a,a<S.l.length->a≠j->p a≠(V.B i).h s k:=fun a ha e e2=>e (h.inj a j ha hj (by rw[e2,Rt]))
 refine h.VN ⟨g.gb,g.lW,g.q,g.sym,g.side⟩ rfl (fun a=>?_) (fun a=>?_) rfl rfl rfl (by simp[RS.gy,RS.ik,uO]) rfl rfl rfl (fun a ha=>?_) (fun a ha=>?_) rfl rfl rfl rfl
 ·show (aQ V.B i _ a).sym=_;by_cases e:a=i
  ·rw[e,ai];rfl
  ·rw[ah _ _ e]
 ·show (aQ V.B i _ a).places=_;by_cases e:a=i
  ·rw[e,ai];rfl
  ·rw[ah _ _ e]
 ·show mW (aQ V.om ((V.B i).h s k) (gz (V.om ((V.B i).h s k))) (p a))=_;rw[nk a];by_cases e:a=j
  ·subst e;rw[Rt,ai,if_pos rfl];have:=h.same a ha;rw[Rt]at this;show gz (mW (V.om ((V.B i).h s k)))=mW _;rw[this]
   rfl
  ·rw[ah _ _ (GL a ha e),if_neg e];exact h.same a ha
 ·show _/\_/\_/\_/\(aQ V.om ((V.B i).h s k) (gz (V.om ((V.B i).h s k))) (p a)).place=_;rw[nk a];by_cases e:a=j
  ·subst e;rw[Rt,ai,if_pos rfl];exact⟨rfl,rfl,rfl,fun h=>absurd h (by simp),rfl⟩
  ·rw[ah _ _ (GL a ha e),if_neg e];exact⟨rfl,rfl,rfl,fun h=>h,rfl⟩
theorem GX{M M':Int}{o:Ord}(q:Qo M o)(hM:M+1000000<=M')(hM':M'<=1000000000000000){af aK:Int}(h1:1<=aK)(h2:aK<=1000000):Qo M' (dV o af aK)/\(dV o af aK).entered=o.entered+aK-o.aO/\wrap64 (wrap64 (o.entered+aK)-o.aO)=o.entered+aK-o.aO:=by
 have a:=q.sum;have b:=q.o0;have c:=q.f0;have d:=q.c0;have e:=q.e0;have f:=q.hi;have w1:wrap64 (aK-o.aO)=aK-o.aO:=aT (by omega) (by omega);have w2:wrap64 (o.entered+(aK-o.aO))=o.entered+(aK-o.aO):=aT (by omega) (by omega);have w3:wrap64 (o.entered+aK)=o.entered+aK:=aT (by omega) (by omega);have w4:wrap64 (o.entered+aK-o.aO)=o.entered+aK-o.aO:=aT (by omega) (by omega);have e1:(dV o af aK).entered=o.entered+aK-o.aO:=by show wrap64 (o.entered+wrap64 (aK-o.aO))=_;rw[w1,w2];omega
 refine⟨⟨?_,by show 0<=aK;omega,c,d,e,by rw[e1];omega⟩,e1,by rw[w3,w4]⟩;rw[e1];show _=aK+o.filled+o.bZ+o.exp;omega
theorem dA.keeps{p:Nat->Nat}{V:aS}{S:RS}{N:Nat}(h:dA p V S N)(hN:N<2900000){i j:Nat}{af aK:Int}{ds:List dY}{bM:Lm}(hj:j<S.l.length)(hpr:af=(V.om (p j)).af)(h1:1<=aK)(h2:aK<=1000000)(h3:0<(V.om (p j)).aO) :
 dA p { V.turn i (V.B i) (aQ V.om (p j) (dV (V.om (p j)) af aK)) with lg:=V.lg.begun.aX ds,lm:=bM } (S.fresh.ik j (XW (ax S.l j) aK)) (N+1):=by
 have hM:mN (N+1)<=1000000000000000:=by unfold mN;omega
 have hMN:mN N+1000000<=mN (N+1):=by unfold mN;push_cast;omega
 have hv:VL V (p j):=(h.vl _).2 ⟨j,hj,rfl⟩;have q:=h.gw.q _ hv;obtain⟨q1,q2,q3⟩:=GX (af:=af) q hMN hM h1 h2;have g:=h.gw.Uj (o':=dV (V.om (p j)) af aK) (su (Nat.le_add_right N 1)) hv rfl rfl hpr rfl ⟨fun _=>h3,fun _=>by show 0<aK;omega⟩ q1 i;obtain⟨e1,e2,e3,e4,e5,e6,e7,e8,e9,e10,e11,e12⟩:=fK (h.same j hj);have nk:∀a,ax (S.fresh.ik j (XW (ax S.l j) aK)).l a=if a=j then XW (ax S.l j) aK else ax S.l a:=fun a=>by
  simp only[RS.ik,uO];exact fE hj a
 have GL:∀a,a<S.l.length->a≠j->p a≠p j:=fun a ha e e2=>e (h.inj a j ha hj e2)
 have hB:∀a,aQ V.B i (V.B i) a=V.B a:=fun a=>by
  by_cases e:a=i
  ·rw[e,ai]
  ·rw[ah _ _ e]
 refine h.VN ⟨g.gb,g.lW,g.q,g.sym,g.side⟩ rfl (fun a=>?_) (fun a=>?_) rfl rfl rfl (by simp[RS.ik,uO]) rfl rfl rfl (fun a ha=>?_) (fun a ha=>?_) rfl rfl rfl rfl
 ·show (aQ V.B i (V.B i) a).sym=_;rw[hB a]
 ·show (aQ V.B i (V.B i) a).places=_;rw[hB a]
 ·show mW (aQ V.om (p j) (dV (V.om (p j)) af aK) (p a))=_;rw[nk a];by_cases e:a=j
  ·subst e;rw[ai,if_pos rfl];have:=h.same a ha;show ({ mW (V.om (p a)) with af:=af,entered:=(dV (V.om (p a)) af aK).entered,aO:=aK }:Ord)={ mW (ax S.l a) with entered:=wrap64 (wrap64 ((ax S.l a).entered+aK)-(ax S.l a).aO),aO:=aK };rw[q2,<-e8,<-e9,q3,this,hpr,e6]
   rfl
  ·rw[ah _ _ (GL a ha e),if_neg e];exact h.same a ha
 ·show _/\_/\_/\_/\(aQ V.om (p j) (dV (V.om (p j)) af aK) (p a)).place=_;rw[nk a];by_cases e:a=j
  ·subst e;rw[ai,if_pos rfl];exact⟨rfl,rfl,rfl,fun _=>by rw[<-e9];exact h3,rfl⟩
  ·rw[ah _ _ (GL a ha e),if_neg e];exact⟨rfl,rfl,rfl,fun h=>h,rfl⟩
theorem dA.rC{p:Nat->Nat}{V:aS}{S:RS}{N:Nat}(h:dA p V S N)(hN:N<2900000){ib s t k j g cap':Nat}{af aK:Int}{bM:Lm}(hib:ib<V.nb)(hs:s<2)(ht:t=1-s)(hk:k<(V.B ib).n t)(hj:j<S.l.length)(Rt:(V.B ib).h t k=p j)(h1:1<=aK)(h2:aK<=1000000) :
 sV (p j) s ⟨(V.B ib).leave V.om t k,aQ V.om (p j) (dV (V.om (p j)) af aK),V.lg.dI (p j) (V.om (p j))⟩ /\
 ∃c' f,wW j f ⟨S.fresh.ik j (Eh (ax S.l j) af aK),aK,0,0,0⟩ c'/\f<=201/\dA p (V.rC ib (p j) s t k g cap' (dV (V.om (p j)) af aK) bM) (yU j c') (N+1) /\
  lG (dV (V.om (p j)) af aK) ((V.rC ib (p j) s t k g cap' (dV (V.om (p j)) af aK) bM).om (p j)) V.tr (V.rC ib (p j) s t k g cap' (dV (V.om (p j)) af aK) bM).tr=rcV j c'/\(V.rC ib (p j) s t k g cap' (dV (V.om (p j)) af aK) bM).lg.tp=kZ V.lg.tp (yU j c').told/\(yU j c').told.length<=201:=by
 have hM:mN (N+1)<=1000000000000000:=by unfold mN;omega
 have hMN:mN N+1000000<=mN (N+1):=by unfold mN;push_cast;omega
 have t2:t<2:=by omega
 have hts:t≠s:=by omega
 have hv:VL V (p j):=(h.vl _).2 ⟨j,hj,rfl⟩;have q0:=h.gw.q _ hv;obtain⟨q1,q2,q3⟩:=GX (af:=af) q0 hMN hM h1 h2;obtain⟨gw',run,iv,hBs,gi⟩:=h.gw.rC (g:=g) (cap':=cap') (bM:=bM) (su (Nat.le_add_right N 1)) hM hib hs ht hk Rt (o':=dV (V.om (p j)) af aK) rfl rfl q1;refine⟨iv,?_⟩;obtain⟨st0,jP⟩:∃st0:MS,st0=⟨(V.B ib).leave V.om t k,aQ V.om (p j) (dV (V.om (p j)) af aK),V.lg.dI (p j) (V.om (p j))⟩:=⟨_,rfl⟩;rw[<-jP]at run iv;have hm:=((h.gw.gb ib hib).mem t t2 _).1 ⟨k,hk,rfl⟩;rw[Rt]at hm;obtain⟨e1,e2,e3,e4,e5,e6,e7,e8,e9,e10,e11,e12⟩:=fK (h.same j hj);have GL:∀a,a<S.l.length->a≠j->p a≠p j:=fun a ha e e2=>e (h.inj a j ha hj e2)
 have nK:∀a,a<S.l.length->a≠j->aQ V.om (p j) (dV (V.om (p j)) af aK) (p a)=V.om (p a):=fun a ha e=>ah _ _ (GL a ha e)
 have nk:∀a,ax (S.fresh.ik j (Eh (ax S.l j) af aK)).l a=if a=j then Eh (ax S.l j) af aK else ax S.l a:=fun a=>by
  simp only[RS.ik,uO];exact fE hj a
 have nl:∀a,a≠j->ax (S.fresh.ik j (Eh (ax S.l j) af aK)).l a=ax S.l a:=fun a e=>by rw[nk a,if_neg e]
 have nn:ax (S.fresh.ik j (Eh (ax S.l j) af aK)).l j=Eh (ax S.l j) af aK:=by rw[nk j,if_pos rfl]
 have len0:(S.fresh.ik j (Eh (ax S.l j) af aK)).l.length=S.l.length:=by simp[RS.ik,uO]
 have JH:((V.B ib).leave V.om t k).n s=(V.B ib).n s/\((V.B ib).leave V.om t k).h s=(V.B ib).h s:=by simp only[Bk.leave];rw[ah _ _ (fun e=>hts e.symm),ah _ _ (fun e=>hts e.symm)];exact⟨rfl,rfl⟩
 have Y4:(ax S.l j).side=(t:Int):=by rw[<-e4];exact hm.2.2.1
 have aaD:xg p (p j) j s ((V.B ib).leave V.om t k) (aQ V.om (p j) (dV (V.om (p j)) af aK)) (S.fresh.ik j (Eh (ax S.l j) af aK)).l (V.B ib).sym:=by
  refine⟨by omega,rfl,fun a c ha hc e=>h.inj a c (by omega) (by omega) e,fun a ha hne=>?_,?_,fun a c ha hc hna hnc hsy g1 g2=>?_,fun a c ha hc hna hnc hac hsy g1 g2=>?_,fun x=>?_,?_,?_,fun a ha=>?_,fun a ha=>?_⟩
  ·rw[len0]at ha;rw[nK a ha hne,nl a hne];exact h.same a ha
  ·rw[ai,nn];have:=h.same j hj;show ({ mW (V.om (p j)) with af:=af,entered:=(dV (V.om (p j)) af aK).entered,aO:=0 }:Ord)={ mW (ax S.l j) with entered:=wrap64 (wrap64 ((ax S.l j).entered+aK)-(ax S.l j).aO),aO:=0,af:=af };rw[q2,<-e8,<-e9,q3,this]
  ·rw[len0]at ha hc;rw[nl a hna,nl c hnc]at hsy ⊢;rw[nl a hna]at g1;rw[nl c hnc]at g2;rw[nK a ha hna,nK c hc hnc];exact h.place a c ha hc hsy g1 g2
  ·rw[len0]at ha hc;rw[nl a hna,nl c hnc]at hsy ⊢;rw[nl a hna]at g1;rw[nl c hnc]at g2;exact h.xy a c ha hc hac hsy g1 g2
  ·rw[JH.1,JH.2,(h.gw.gb ib hib).mem s hs x,h.vl x,len0];constructor
   ·rintro⟨⟨a,ha,rfl⟩,a1,a2,a3⟩;obtain⟨_,_,k3,k4,_,_,_,_,k9,_⟩:=fK (h.same a ha);have hne:a≠j:=fun e=>by
     subst e;rw[k4,Y4]at a2;omega
    refine⟨a,ha,hne,rfl,?_,?_,?_⟩ <;> rw[nl a hne]
    ·rw[<-k3];exact a1
    ·rw[<-k4];exact a2
    ·rw[<-k9];exact a3
   ·rintro⟨a,ha,hne,e,a1,a2,a3⟩;obtain⟨_,_,k3,k4,_,_,_,_,k9,_⟩:=fK (h.same a ha);rw[nl a hne]at a1 a2 a3;subst e;exact⟨⟨a,ha,rfl⟩,by rw[k3];exact a1,by rw[k4];exact a2,by rw[k9];exact a3⟩
  ·rw[nn];show (ax S.l j).sym=_;rw[<-e3];exact hm.2.1
  ·rw[nn];show (ax S.l j).side=_;rw[Y4];omega
  ·rw[len0]at ha;by_cases e:a=j
   ·subst e;rw[nn];exact h.side ha
   ·rw[nl a e];exact h.side ha
  ·rw[len0]at ha;by_cases e:a=j
   ·subst e;rw[nn];exact Int.le_refl _
   ·rw[nl a e];exact (h.aO ha).1
 have hcs:=h.count hib hs;have adf:=h.gV;have e03:st0.B.n s=(V.B ib).n s:=by rw[jP];exact JH.1
 have hmu:mu (p j) s st0<=201:=by
  unfold mu;rw[e03];split <;> omega
 have hf1:(V.om (p j)).filled<=1000000000000000:=by have:=q0.f0;have:=q0.o0;have:=q0.c0;have:=q0.e0;have:=q0.sum;have:=q0.hi;omega
 have hR:tJ p (p j) j s (V.B ib).sym V.lg.tp V.tr (V.om (p j)).filled st0 ⟨S.fresh.ik j (Eh (ax S.l j) af aK),aK,0,0,0⟩:=by
  rw[jP];refine⟨aaD,?_,h.tr,rfl,h.day,rfl,?_,?_,?_,Int.le_refl _,q0.f0,hf1⟩
  ·simp only[ai];rfl
  ·simp only[ai];show (0:Int)=(V.om (p j)).filled-(V.om (p j)).filled;omega
  ·show (0:Int)=(V.lg.tr.length:Int)-V.lg.tr.length;omega
  ·exact (if_pos (show MS.tr ⟨(V.B ib).leave V.om t k,aQ V.om (p j) (dV (V.om (p j)) af aK),V.lg.dI (p j) (V.om (p j))⟩=V.tr from rfl)).symm
 have hqx:∀x,(x=p j\/mD st0 s x)->Qo (mN (N+1)) (st0.om x):=fun x hx=>by
  rw[jP]at hx ⊢;simp only;by_cases e:x=p j
  ·rw[e,ai];exact q1
  ·rw[ah _ _ e];rcases hx with e2 | e2
   ·exact absurd e2 e
   ·have e3:Mem ((V.B ib).n s) ((V.B ib).h s) x:=by have:=e2;simp only[mD]at this;rw[JH.1,JH.2]at this;exact this
    exact (h.gw.q x (((h.gw.gb ib hib).mem s hs x).1 e3).1).mono (su (Nat.le_add_right N 1))
 have hheap:eG (fP st0.om) (st0.B.n s) (st0.B.h s):=by rw[jP];exact gi.heap s hs
 have ado:=h.yu;have adn:=h.DJ;have MM:st0.tr=V.tr:=by rw[jP];rfl
 have MJ:V.tr=(V.lg.tr.length:Int):=rfl;obtain⟨c',he,hR',hsy,hpl,hln,hpc,htl,hol⟩:=tJ.aa9 hM hs (by rw[MJ];omega) (mu (p j) s st0) st0 _ hR iv hheap hqx (Nat.le_refl _) (by rw[MM,MJ];omega);change tJ _ _ _ _ _ _ _ _ (mF (p j) s st0) c' at hR';have TV:c'.S.sy=S.sy:=hsy;have hpl':c'.S.places=S.places:=hpl;rw[len0]at hln;have q:=run.q (p j) (.inl rfl);have hlen:=Nw (oc:=p j) (s:=s) (st:=st0);have e0:st0.lg.tr.length=V.lg.tr.length/\st0.lg.tp.length=V.lg.tp.length/\st0.lg.na=V.lg.na+1/\st0.lg.ud=V.lg.ud:=by rw[jP];exact⟨rfl,rfl,rfl,rfl⟩
 obtain⟨e01,e02,e04,e05⟩:=e0;rw[e01,e02,e03]at hlen;have idj:∀a,a<S.l.length->(ax c'.S.l a).id=(ax S.l a).id:=fun a ha=>by
  by_cases e:a=j
  ·subst e;have f1:=(fK hR'.oz.self).1;simp only at f1;rw[<-f1,(run.dN (p a)).1,jP];simp only[ai];exact e1
  ·have f1:=(fK (hR'.oz.same a (by rw[hln];exact ha) e)).1;rw[<-f1,(run.dN (p a)).1,jP];simp only;rw[nK a ha e];exact (fK (h.same a ha)).1
 have old:∀a,a<S.l.length->a≠j->(ax c'.S.l a).sym=(ax S.l a).sym/\((mF (p j) s st0).om (p a)).place=(V.om (p a)).place/\(0<(ax c'.S.l a).aO->0<(ax S.l a).aO)/\(ax c'.S.l a).place=(ax S.l a).place:=fun a ha hne=>by
  obtain⟨f1,_,f3,_,_,_,_,_,f9,_⟩:=fK (hR'.oz.same a (by rw[hln];exact ha) hne);obtain⟨g1,_,g3,_,_,_,_,g8,_⟩:=run.dN (p a);have e1:st0.om (p a)=V.om (p a):=by rw[jP];exact nK a ha hne
  rw[e1]at g1 g3 g8;obtain⟨k1,_,k3,_,_,_,_,_,k9,_⟩:=fK (h.same a ha);refine⟨by rw[<-f3,g3,k3],g8,fun h0=>?_,by rw[hpc a];exact congrArg Ord.place (nl a hne)⟩;rw[<-f9]at h0;rw[<-k9];by_cases hm:mD st0 s (p a)
  ·rw[jP]at hm;have e3:Mem ((V.B ib).n s) ((V.B ib).h s) (p a):=by have:=hm;simp only[mD]at this;rw[JH.1,JH.2]at this;exact this
   exact (((h.gw.gb ib hib).mem s hs _).1 e3).2.2.2
  ·rw[run.lY _ (GL a ha hne) hm,e1]at h0;exact h0
 refine⟨c',mu (p j) s st0,he,hmu,?_,?_,?_,?_⟩
 ·refine dA.UU (V:=V) (g:=g) (cap':=cap') (t:=t) (by omega) hib hR' q gw' rfl (by rw[jP];rfl) (by rw[jP];rfl) (by rw[jP];rfl) hBs (by unfold mF;rw[qi,jP];rfl) h.EU (by rw[TV];exact h.nb) (by rw[TV];exact h.sym) (by rw[hln,<-h.no];rfl) (fun a ha=>?_) (fun id b2 hb2=>?_) (fun a ha hne h0 i hi hsj=>?_) (fun a ha hne h0=>?_) (by rw[hpl'];exact h.Rx) (by omega) (by omega) (by rw[YR,YQ,e04,e05];have:=h.zX;omega) (by show V.no<=200;omega) h.UJ (fun a ha=>by rw[hln]at ha;rw[idj a ha];exact h.rJ a ha)
  ·rw[hln]at ha;rw[idj a ha];exact h.aW a ha
  ·obtain⟨a,ha,x1,x2⟩:=h.zY id b2 hb2;exact⟨a,by rw[hln];exact ha,by rw[idj a ha];exact x1,x2⟩
  ·rw[hln]at ha;obtain⟨o2,o3,o4,_⟩:=old a ha hne;rw[o3];rw[o2]at hsj;exact h.O3 a ha (o4 h0) i hi hsj
  ·rw[hln]at ha;obtain⟨_,_,o4,o5⟩:=old a ha hne;rw[o5,hpl'];exact h.O4 a ha (o4 h0)
 ·have hrep:=hR'.report hM q (dV (V.om (p j)) af aK) rfl (by rw[run.bZ,jP];simp only[ai]) (by unfold MS.tr;omega) (by rw[MJ];omega);rw[<-hrep,jP]
  rfl
 ·obtain⟨_,_,_,_,_,_,f7,_⟩:=hR'.fin hM q;rw[f7,<-hR'.tp,jP]
  rfl
 ·obtain⟨_,_,_,_,_,_,f7,_⟩:=hR'.fin hM q;rw[f7];have adi:c'.S.told.length<=0+mu (p j) s st0:=hol;omega
theorem aat{o:Ord}{p on:Int}(h1:o.af=p)(h2:o.aO=on):xQ ⟨o.af,0,0⟩ o=⟨p,wrap64 on,1⟩:=by
 unfold xQ;rw[h1,h2,Int.zero_add];have e:wrap64 (0+1)=1:=aT (by decide) (by decide);simp only;rw[e]
def RS.dM(S:RS)(k:Nat)(x:Tg)(b:Int):RS:=(S.acj k ⟨{ x.t with af:=b },x.holds⟩).acu 3 { x.t with af:=b }
end Go.Proofs.YtigaphnafnpfnaaGreatDoor
