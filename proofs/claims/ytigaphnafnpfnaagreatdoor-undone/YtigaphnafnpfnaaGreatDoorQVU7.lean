import Derived.Test.YtigaphnafnpfnaaGreatDoorQVU5
import Derived.Test.YtigaphnafnpfnaaGreatDoorQVD2
set_option linter.unusedVariables false
set_option linter.unusedSimpArgs false
namespace Go.Proofs.YtigaphnafnpfnaaGreatDoor
open Go.RowKit
attribute [local go_sem ↓] Go.wp_at_zero Go.wp_at_succ
open Go.RowKit Go.Maps
theorem C9(x:Tg)(day:Int):pO x day≠0\/(pO x day=0/\x.holds=true):=by
 unfold pO
 cases h:x.holds
 ·simp
 ·by_cases e:x.t.day=day
  ·simp[e]
  ·simp[e]
theorem di.MF{p:Nat->Nat}{V:aQ}{S:RS}{N k tb:Nat}{x:Tg}{b:Int}{bH:Lm}(h:di p V S N)(hx:S.t[k]?=some x):di p { V with lg:=V.lg.lI k tb x b,lm:=bH } (S.fresh.iw k x b) (N+1):=by
 have hl:=(List.getElem?_eq_some_iff.1 hx).1
 refine⟨⟨h.gw.gb,h.gw.kM,fun y hy=>?_,h.gw.sym,h.gw.side⟩,h.nb,h.sym,h.no,h.aU,h.yz,h.inj,h.same,h.place,h.vw,h.Lj,h.Ll,fun i hi=>?_,?_,?_,h.day,?_,?_,?_,h.gp,h.QB,h.sK⟩
 ·have q:=h.gw.q y hy
  exact⟨q.sum,q.o0,q.f0,q.c0,q.e0,by have:=q.hi;unfold mN at this ⊢;push_cast;omega⟩
 ·have h5:=h.CZ i hi;exact⟨h5.1,by show (V.B i).places<=_;push_cast;have:=h5.2;omega⟩
 ·have h5:=h.Ox;exact⟨h5.1,by show S.places<=_;push_cast;have:=h5.2;omega⟩
 ·show V.lg.tr.set k ⟨x.t.at b,x.holds⟩=S.t.set k ⟨{ x.t with af:=b },x.holds⟩
  rw[h.tr];rfl
 ·show (V.lg.tr.set k ⟨x.t.at b,x.holds⟩).length<=_
  rw[List.length_set];have:=h.uV;omega
 ·show (V.lg.tp++[(⟨(V.lg.tp.length:Int)+1,3,x.t.at b⟩:Rc)]).length<=_
  rw[List.length_append,List.length_singleton];have:=h.yE;omega
 ·show V.lg.ud+(V.lg.na+1)<=N+1
  have:=h.yK;omega
theorem FL.af{om:Nat->Ord}{aU:Int->Option Nat}{tr:List Tg}{k:Nat}{x:Tg}{ex:Int->Int}{b:Int}(h:FL om aU (held tr) ex)(hx:tr[k]?=some x):FL om aU (held (tr.set k ⟨x.t.at b,x.holds⟩)) ex:=by
 have hl:=(List.getElem?_eq_some_iff.1 hx).1
 have e:held tr=held (tr.take k)++(if x.holds then [x.t] else [])++held (tr.drop (k+1)):=by
  have e:=congrArg held (Ar hx)
  rw[dD,dD,jy]at e
  exact e
 have e2:held (tr.set k ⟨x.t.at b,x.holds⟩)=held (tr.take k)++(if x.holds then [x.t.at b] else [])++held (tr.drop (k+1)):=by
  rw[pU hl,dD,dD,jy]
 rw[e]at h
 rw[e2]
 refine⟨fun t ht=>?_,h.sK,fun id c hc=>?_⟩
 ·simp only[List.mem_append]at ht
  rcases ht with (a|a)|a
  ·exact h.tw t (by simp[a])
  ·cases hh:x.holds
   ·rw[hh]at a;simp at a
   ·rw[hh]at a
    simp at a
    subst a
    have:=h.tw x.t (by simp[hh])
    exact⟨this.kZ,this.fM,this.aI⟩
  ·exact h.tw t (by simp[a])
 ·rw[h.eq id c hc,iY,iY,iY,iY]
  cases hh:x.holds <;> simp[uQ,tq,Tr.at]
theorem uB.iE{V:aQ}{k tb:Nat}{x:Tg}{b:Int}{bH:Lm}(h:uB V)(hx:V.lg.tr[k]?=some x):uB { V with lg:=V.lg.lI k tb x b,lm:=bH }:=by
 have hs:=h.sy x (List.mem_of_getElem? hx)
 refine⟨h.sz,h.fl.af hx,fun y hy=>?_,h.tp.iT rfl hs,h.nm.set hx (y:=⟨x.t.at b,x.holds⟩) rfl rfl,h.dy⟩
 have hy':y∈V.lg.tr.set k ⟨x.t.at b,x.holds⟩:=hy
 rcases List.mem_or_eq_of_mem_set hy' with hh|hh
 ·exact h.sy y hh
 ·rw[hh];exact hs
theorem di.aaE{p:Nat->Nat}{V V':aQ}{S S':RS}{N:Nat}(h:di p V S N)(gw:GW V' (mN N))(hnb:V'.nb=V.nb)(hBs:∀j,(V'.B j).sym=(V.B j).sym)(hpl:∀j,(V'.B j).places=(V.B j).places)(hno:V'.no=V.no)(qj:V'.aU=V.aU)
 (hsy:S'.sy=S.sy) (hlen:S'.l.length=S.l.length) (hps:S'.places=S.places) (ht:S'.t=S.t) (hd:S'.day=S.day) (same:∀k,k<S.l.length->lG (V'.om (p k))=lG (ax S'.l k))
 (dH:∀k,k<S.l.length->(ax S'.l k).id=(ax S.l k).id/\(ax S'.l k).sym=(ax S.l k).sym/\(ax S'.l k).place=(ax S.l k).place/\(0<(ax S'.l k).aK->0<(ax S.l k).aK)/\(V'.om (p k)).place=(V.om (p k)).place)
 (htr:V'.lg.tr=V.lg.tr) (htp:V'.lg.tp=V.lg.tp) (hdy:V'.lg.day=V.lg.day) (hna:V'.lg.ud+V'.lg.na=V.lg.ud+V.lg.na):di p V' S' N:=by
 refine⟨gw,by rw[hnb,hsy];exact h.nb,fun i hi=>by rw[hsy,hBs i];exact h.sym i (by omega),by rw[hno,hlen];exact h.no,fun k hk=>?_,fun id b hb=>?_,fun a b ha hb=>h.inj a b (by omega) (by omega),fun k hk=>same k (by omega),fun a b ha hb hs h1 h2=>?_,fun a b ha hb hab hs h1 h2=>?_,fun k hk h0 i hi hs=>?_,fun k hk h0=>?_,fun i hi=>?_,?_,by rw[htr,ht];exact h.tr,by rw[hdy,hd];exact h.day,by rw[htr];have:=h.uV;omega,by rw[htp];have:=h.yE;omega,by rw[hna];have:=h.yK;omega,by rw[hno];exact h.gp,by rw[hnb];exact h.QB,fun k hk=>by rw[(dH k (by omega)).1];exact h.sK k (by omega)⟩
 ·rw[qj,(dH k (by omega)).1];exact h.aU k (by omega)
 ·rw[qj]at hb
  obtain⟨k,hk,e1,e2⟩:=h.yz id b hb
  exact⟨k,by omega,by rw[(dH k hk).1];exact e1,e2⟩
 ·obtain⟨_,a2,a3,a4,a5⟩:=dH a (by omega)
  obtain⟨_,b2,b3,b4,b5⟩:=dH b (by omega)
  rw[a5,b5,a3,b3]
  exact h.place a b (by omega) (by omega) (by rw[<-a2,<-b2];exact hs) (a4 h1) (b4 h2)
 ·obtain⟨_,a2,a3,a4,a5⟩:=dH a (by omega)
  obtain⟨_,b2,b3,b4,b5⟩:=dH b (by omega)
  rw[a3,b3]
  exact h.vw a b (by omega) (by omega) hab (by rw[<-a2,<-b2];exact hs) (a4 h1) (b4 h2)
 ·obtain⟨_,a2,a3,a4,a5⟩:=dH k (by omega)
  rw[a5,hpl i]
  exact h.Lj k (by omega) (a4 h0) i (by omega) (by rw[<-hBs i,hs,a2])
 ·obtain⟨_,a2,a3,a4,a5⟩:=dH k (by omega)
  rw[a3,hps]
  exact h.Ll k (by omega) (a4 h0)
 ·rw[hpl i]
  exact h.CZ i (by omega)
 ·rw[hps]
  exact h.Ox
theorem L6{S:RS}{j:Nat}{q:Int}(hj:j<S.l.length)(o:iL):(gz (S.rQ j q).l o).isNone=(gz S.l o).isNone:=by
 have nk:∀a,ax (S.rQ j q).l a=if a=j then ET (ax S.l j) q else ax S.l a:=fun a=>by
  simp only[RS.rQ,RS.gX]
  exact eX hj a
 have hl:(S.rQ j q).l.length=S.l.length:=by simp[RS.rQ,RS.gX]
 have hg:∀a,ku o (ax (S.rQ j q).l a)=ku o (ax S.l a):=fun a=>by
  rw[nk a]
  by_cases e:a=j
  ·rw[if_pos e,e];rfl
  ·rw[if_neg e]
 rw[Bool.eq_iff_iff,Option.isNone_iff_eq_none,Option.isNone_iff_eq_none]
 unfold gz
 rw[jV,jV,hl]
 constructor
 ·intro h k hk;rw[<-hg k];exact h k hk
 ·intro h k hk;rw[hg k];exact h k hk
theorem di.Y8{p:Nat->Nat}{V:aQ}{S:RS}{N:Nat}(h:di p V S N){j i s t:Nat}{q:Int}{again:Bool}(hj:j<S.l.length)(hi:i<V.nb)(hs:s<2)(hst:t=1-s)(hsb:(V.om (p j)).sym=(V.B i).sym)(hside:(V.om (p j)).side=(t:Int)) :
 S.mi j q again=(again && (eU (V.om (p j)).kind && (dF (V.B i) V.om (cZ (V.om (p j))) s).isNone)):=by
 have e:=h.same j hj
 obtain⟨e1,e2,e3,e4,e5,e6,e7,e8,e9,e10,e11,e12⟩:=fE e
 have hc:=h.gK (o:=cZ (ax S.l j)) hi hs hst (by show (ax S.l j).sym=_;rw[<-e3];exact hsb) (by show (ax S.l j).side=_;rw[<-e4];exact hside)
 unfold RS.mi
 rw[L6 hj,Lc e,e5]
 congr 2
 rw[<-Option.not_isSome,<-Option.not_isSome,hc]
theorem di.fQ{p:Nat->Nat}{V V':aQ}{S:RS}{N:Nat}(h:di p V S N)(hN:N<3000000){j i s t:Nat}{q P:Int}{again:Bool}(hj:j<S.l.length)(hi:i<V.nb)(hs:s<2)(hst:t=1-s)(hsb:(V.om (p j)).sym=(V.B i).sym)(hside:(V.om (p j)).side=(t:Int))
 (hP:∀a,a<V.nb->(V.B a).places<=P) (hPS:S.places<=P) (hP2:P+1<=2 * (N:Int)) (hq:1<=q) (hq2:q<=(V.om (p j)).filled) (tb:WI V (mN N) i s (p j) q again V') (lk:WB V.lg V'.lg 3) :
 di p V' (S.fQ j q again) N/\(∀a,a<V'.nb->(V'.B a).places<=P+1)/\(S.fQ j q again).places<=P+1/\(S.fQ j q again).told=S.told/\(S.fQ j q again).l.length=S.l.length:=by
 have hbk:=h.Y8 (q:=q) (again:=again) hj hi hs hst hsb hside
 have es:=h.same j hj
 obtain⟨e1,e2,e3,e4,e5,e6,e7,e8,e9,e10,e11,e12⟩:=fE es
 obtain⟨l1,l2,l3,l4,l5⟩:=lk
 have EE:∀a,a<S.l.length->a≠j->p a≠p j:=fun a ha e e2=>e (h.inj a j ha hj e2)
 have hpi:=h.CZ i hi
 have hps:=h.Ox
 have hv:VL V (p j):=(h.vl _).2 ⟨j,hj,rfl⟩
 have q1:=(h.gw.q _ hv).sum;have q2:=(h.gw.q _ hv).o0;have q3:=(h.gw.q _ hv).f0;have q4:=(h.gw.q _ hv).c0;have q5:=(h.gw.q _ hv).e0;have q6:=(h.gw.q _ hv).hi
 have hmN:mN N<=1000000000000000:=by unfold mN;omega
 rcases tb.way with⟨hc,jk,hpl⟩|⟨ha,hr,hf,jk,hpl⟩
 ·have hb0:S.mi j q again=false:=by
   rw[hbk]
   rcases hc with hc|hc|hc
   ·rw[hc];rfl
   ·rw[hc];simp
   ·have:(dF (V.B i) V.om (cZ (V.om (p j))) s).isNone=false:=by rw[<-Option.not_isSome,hc];rfl
    rw[this];simp
  have hS:S.fQ j q again=S.gX j { ET (ax S.l j) q with bQ:=wrap64 ((ax S.l j).bQ+q) }:=by
   unfold RS.fQ;rw[hb0];simp
  rw[hS]
  have nk:∀a,ax (S.gX j { ET (ax S.l j) q with bQ:=wrap64 ((ax S.l j).bQ+q) }).l a=if a=j then { ET (ax S.l j) q with bQ:=wrap64 ((ax S.l j).bQ+q) } else ax S.l a:=fun a=>by
   simp only[RS.gX]
   exact eX hj a
  refine⟨h.aaE tb.gw tb.nb tb.kE hpl tb.no tb.aU rfl (by simp[RS.gX]) rfl rfl rfl (fun a ha=>?_) (fun a ha=>?_) l1 l2 l3 (by omega),fun a ha=>?_,?_,rfl,by simp[RS.gX]⟩
  ·rw[jk,nk a]
   by_cases e:a=j
   ·rw[e,aj,if_pos rfl]
    show eY (lG (V.om (p j))) q=eY (lG (ax S.l j)) q
    rw[es]
   ·rw[ah _ _ (EE a ha e),if_neg e]
    exact h.same a ha
  ·rw[jk,nk a]
   by_cases e:a=j
   ·rw[e,aj,if_pos rfl]
    exact⟨rfl,rfl,rfl,fun h=>h,rfl⟩
   ·rw[ah _ _ (EE a ha e),if_neg e]
    exact⟨rfl,rfl,rfl,fun h=>h,rfl⟩
  ·rw[hpl a];have:=hP a (by rw[<-tb.nb];exact ha);omega
  ·show S.places<=_;omega
 ·have hb1:S.mi j q again=true:=by
   rw[hbk,ha,hr,hf];rfl
  have hS:S.fQ j q again=(S.rQ j q).pV j q:=by
   unfold RS.fQ;rw[hb1];simp
  rw[hS]
  have wb:wrap64 ((V.B i).places+1)=(V.B i).places+1:=aS (by omega) (by omega)
  have ws:wrap64 (S.places+1)=S.places+1:=aS (by omega) (by omega)
  have hu:ax (S.rQ j q).l j=ET (ax S.l j) q:=by simp only[RS.rQ,RS.gX];rw[eX hj,if_pos rfl]
  have hl:((S.rQ j q).pV j q).l.length=S.l.length:=by simp[RS.pV,RS.rQ,RS.gX]
  have nk:∀a,ax ((S.rQ j q).pV j q).l a=if a=j then { ET (ax S.l j) q with place:=S.places+1,aK:=wrap64 ((ax S.l j).aK+q) } else ax S.l a:=fun a=>by
   simp only[RS.pV]
   rw[hu]
   simp only[RS.rQ,RS.gX,List.set_set]
   rw[eX hj a,ws]
   rfl
  have Xk:((S.rQ j q).pV j q).places=S.places+1:=by
   show wrap64 (S.places+1)=_
   exact ws
  have Yo:∀a,a<S.l.length->a≠j->V'.om (p a)=V.om (p a):=fun a ha e=>by rw[jk];exact qW V i (p j) q (EE a ha e)
  have omj:V'.om (p j)={ fF (V.om (p j)) q with place:=(V.B i).places+1 }:=by rw[jk,dU,wb]
  have GL:∀k,k<S.l.length->k≠j->0<(ax S.l k).aK->(ax S.l k).sym=(V.B i).sym->(V.om (p k)).place<=(V.B i).places/\(ax S.l k).place<=S.places:=fun k hk e h0 hsy=>⟨h.Lj k hk h0 i hi hsy.symm,h.Ll k hk h0⟩
  have Rt:(ax S.l j).sym=(V.B i).sym:=by rw[<-e3];exact hsb
  refine⟨⟨tb.gw,by rw[tb.nb];exact h.nb,fun a ha=>by rw[tb.kE a];exact h.sym a (by rw[<-tb.nb];exact ha),by rw[tb.no,hl];exact h.no,fun k hk=>?_,fun id b hb=>?_,fun a b ha hb=>h.inj a b (by omega) (by omega),fun k hk=>?_,fun a b ha hb hsy h1 h2=>?_,fun a b ha hb hab hsy h1 h2=>?_,fun k hk h0 a ha hsy=>?_,fun k hk h0=>?_,fun a ha=>?_,?_,by rw[l1];exact h.tr,by rw[l3];exact h.day,by rw[l1];exact h.uV,by rw[l2];exact h.yE,by have:=h.yK;omega,by rw[tb.no];exact h.gp,by rw[tb.nb];exact h.QB,fun k hk=>?_⟩,fun a ha=>?_,by rw[Xk];omega,rfl,hl⟩
  ·rw[hl]at hk
   rw[tb.aU,nk k]
   by_cases e:k=j
   ·rw[if_pos e,e];exact h.aU j hj
   ·rw[if_neg e];exact h.aU k hk
  ·rw[tb.aU]at hb
   obtain⟨k,hk,x1,x2⟩:=h.yz id b hb
   refine⟨k,by rw[hl];exact hk,?_,x2⟩
   rw[nk k]
   by_cases e:k=j
   ·rw[if_pos e];rw[e]at x1;exact x1
   ·rw[if_neg e];exact x1
  ·rw[hl]at hk
   rw[nk k]
   by_cases e:k=j
   ·rw[if_pos e,e,omj]
    show fF (lG (V.om (p j))) q=fF (lG (ax S.l j)) q
    rw[es]
   ·rw[if_neg e,Yo k hk e];exact h.same k hk
  ·rw[hl]at ha hb
   rw[nk a]at hsy h1 ⊢
   rw[nk b]at hsy h2 ⊢
   by_cases ea:a=j <;> by_cases eb:b=j
   ·rw[ea,eb];exact⟨fun h=>by omega,fun h=>by omega⟩
   ·rw[if_neg eb]at hsy h2 ⊢
    rw[if_pos ea]at hsy ⊢
    obtain⟨o1,o2⟩:=GL b hb eb h2 (by rw[<-hsy];exact Rt)
    rw[ea,omj,Yo b hb eb]
    show (V.B i).places+1<(V.om (p b)).place↔S.places+1<(ax S.l b).place
    omega
   ·rw[if_neg ea]at hsy h1 ⊢
    rw[if_pos eb]at hsy ⊢
    obtain⟨o1,o2⟩:=GL a ha ea h1 (by rw[hsy];exact Rt)
    rw[eb,omj,Yo a ha ea]
    show (V.om (p a)).place<(V.B i).places+1↔(ax S.l a).place<S.places+1
    omega
   ·rw[if_neg ea]at hsy h1 ⊢
    rw[if_neg eb]at hsy h2 ⊢
    rw[Yo a ha ea,Yo b hb eb]
    exact h.place a b ha hb hsy h1 h2
  ·rw[hl]at ha hb
   rw[nk a]at hsy h1 ⊢
   rw[nk b]at hsy h2 ⊢
   by_cases ea:a=j <;> by_cases eb:b=j
   ·omega
   ·rw[if_neg eb]at hsy h2 ⊢
    rw[if_pos ea]at hsy ⊢
    obtain⟨o1,o2⟩:=GL b hb eb h2 (by rw[<-hsy];exact Rt)
    show S.places+1≠(ax S.l b).place
    omega
   ·rw[if_neg ea]at hsy h1 ⊢
    rw[if_pos eb]at hsy ⊢
    obtain⟨o1,o2⟩:=GL a ha ea h1 (by rw[hsy];exact Rt)
    show (ax S.l a).place≠S.places+1
    omega
   ·rw[if_neg ea]at hsy h1 ⊢
    rw[if_neg eb]at hsy h2 ⊢
    exact h.vw a b ha hb hab hsy h1 h2
  ·rw[hl]at hk
   rw[tb.nb]at ha
   rw[tb.kE a]at hsy
   rw[nk k]at hsy h0
   rw[hpl a]
   by_cases e:k=j
   ·rw[if_pos e]at hsy
    have ej:a=i:=h.gw.kM a i ha hi (by rw[hsy];exact Rt)
    rw[e,omj,if_pos ej,wb]
    show (V.B i).places+1<=(V.B i).places+1
    omega
   ·rw[if_neg e]at hsy h0
    rw[Yo k hk e]
    have:=h.Lj k hk h0 a ha hsy
    split
    ·rename_i hx;rw[hx]at this;rw[wb];omega
    ·exact this
  ·rw[hl]at hk
   rw[nk k]at h0 ⊢
   rw[Xk]
   by_cases e:k=j
   ·rw[if_pos e];show S.places+1<=_;omega
   ·rw[if_neg e]at h0 ⊢
    have:=h.Ll k hk h0
    omega
  ·rw[tb.nb]at ha
   rw[hpl a]
   have:=h.CZ a ha
   have:=hP i hi
   split
   ·rw[wb];omega
   ·omega
  ·rw[Xk];omega
  ·rw[hl]at hk
   rw[nk k]
   by_cases e:k=j
   ·rw[if_pos e];exact h.sK j hj
   ·rw[if_neg e];exact h.sK k hk
  ·rw[tb.nb]at ha
   rw[hpl a]
   have:=hP a ha
   have:=hP i hi
   split
   ·rw[wb];omega
   ·omega
theorem WI.fl{V V':aQ}{M:Int}{i s b:Nat}{q id:Int}{again:Bool}{hl:List Tr}{ex Ci:Int->Int}(tb:WI V M i s b q again V')(f:FL V.om V.aU hl ex)(hid:V.aU id=some b)(hM:M<=1000000000000000)(hQ:Qo M (V.om b))(hq:1<=q)(hq2:q<=(V.om b).filled)(e1:Ci id=ex id-q)(e2:∀j,j≠id->Ci j=ex j):FL V'.om V'.aU hl Ci:=by
 rw[tb.aU]
 rcases tb.way with⟨_,jk,_⟩|⟨_,_,_,jk,_⟩
 ·rw[jk]
  exact f.mi hid (fun x h=>ah _ _ h) (by rw[aj];rfl) (by rw[aj];rfl) (by rw[aj];rfl) (by rw[aj];exact (hQ.eY hM (by omega) hq2).2) e1 e2
 ·rw[jk]
  exact f.mi hid (fun x h=>qW V i b q h) (by rw[dU];rfl) (by rw[dU];rfl) (by rw[dU];rfl) (by rw[dU];exact (hQ.fF hM (by omega) hq2 0).2.1) e1 e2
theorem di.gV{p:Nat->Nat}{V:aQ}{S:RS}{N k tb:Nat}{x:Tg}{bH:Lm}(h:di p V S N)(hx:S.t[k]?=some x):di p { V with lg:=V.lg.gV k tb x.t,lm:=bH } (S.fresh.Vm k x) (N+1):=by
 have hl:=(List.getElem?_eq_some_iff.1 hx).1
 refine⟨⟨h.gw.gb,h.gw.kM,fun y hy=>?_,h.gw.sym,h.gw.side⟩,h.nb,h.sym,h.no,h.aU,h.yz,h.inj,h.same,h.place,h.vw,h.Lj,h.Ll,fun i hi=>?_,?_,?_,h.day,?_,?_,?_,h.gp,h.QB,h.sK⟩
 ·have q:=h.gw.q y hy
  exact⟨q.sum,q.o0,q.f0,q.c0,q.e0,by have:=q.hi;unfold mN at this ⊢;push_cast;omega⟩
 ·have h5:=h.CZ i hi;exact⟨h5.1,by show (V.B i).places<=_;push_cast;have:=h5.2;omega⟩
 ·have h5:=h.Ox;exact⟨h5.1,by show S.places<=_;push_cast;have:=h5.2;omega⟩
 ·show V.lg.tr.set k ⟨x.t,false⟩=S.t.set k ⟨x.t,false⟩
  rw[h.tr]
 ·show (V.lg.tr.set k ⟨x.t,false⟩).length<=_
  rw[List.length_set];have:=h.uV;omega
 ·show (V.lg.tp++[(⟨(V.lg.tp.length:Int)+1,2,x.t⟩:Rc)]).length<=_
  rw[List.length_append,List.length_singleton];have:=h.yE;omega
 ·show V.lg.ud+(V.lg.na+1)<=N+1
  have:=h.yK;omega
theorem di.index{p:Nat->Nat}{V:aQ}{S:RS}{N:Nat}(h:di p V S N){id:Int}{b:Nat}(hb:V.aU id=some b):∃j,jX S.l id=some j/\j<S.l.length/\p j=b:=by
 have hf:=h.found id
 rw[hb]at hf
 cases hx:jX S.l id with
 | none=>rw[hx]at hf;simp at hf
 | some j =>
   rw[hx]at hf
   simp at hf
   exact⟨j,rfl,(vS hx).1,hf.symm⟩
theorem iM.with{bv bm bo:Nat}{V:aQ}{Q Q':aQ->World->Prop}{w w':World}(h:iM bv bm bo V Q w w')(hq:∀V2,Q V2 w'->WB V.lg V2.lg 3->V2.aU=V.aU->Q' V2 w'):iM bv bm bo V Q' w w':=by
 obtain⟨V2,a,b,c,d,e,f⟩:=h
 exact⟨V2,a,hq V2 b c e,c,d,e,f⟩
def BuQ(p:Nat->Nat)(V:aQ)(S:RS)(N:Nat)(hl:List Tr)(ex:Int->Int)(V2:aQ):Prop :=
 di p V2 S N/\FL V2.om V2.aU hl ex/\V2.nb=V.nb/\∀j,(V2.B j).sym=(V.B j).sym
def Oc(bv:Nat)(V0:aQ)(bk:Nat->Nat)(lw:Nat)(l:List Nat)(B:List (Int × Tr))(V:aQ)(W:World):Prop :=
 ∃Ts cl,jm bk (KK l) V.lg.nt Ts V0 V/\Ts.flatten=B/\V.bk=V0.bk/\gI W bv bk lw true (V0.lm.ac.map Prod.snd) V.lg.nt V0.lm.tb V.lm cl/\yY V cl
theorem Oc.aH{bv:Nat}{V0:aQ}{bk:Nat->Nat}{lw:Nat}{l:List Nat}{B:List (Int × Tr)}{V:aQ}{W W':World}(h:Oc bv V0 bk lw l B V W)(k:au aP W W'):Oc bv V0 bk lw l B V W':=by
 obtain⟨Ts,cl,h1,h2,h3,h4,h5⟩:=h
 exact⟨Ts,cl,h1,h2,h3,h4.aH k,h5⟩
theorem Oc.tb{bv:Nat}{V0:aQ}{bk:Nat->Nat}{lw:Nat}{l:List Nat}{B:List (Int × Tr)}{V V2:aQ}{W W2:World}{M q:Int}{i s t b:Nat}{again:Bool}(h:Oc bv V0 bk lw l B V W)(hK:KK l V)(g:GW V M)(hv:WI V M i s b q again V2)(hc:∃old dQ,TbC bv V i s t b again bk lw old dQ V2 W2/\old=V0.lm.ac.map Prod.snd/\dQ=V0.lm.tb)(hb:VL V b)(hi:i<V.nb)(ht:t<2)(hsb:(V.om b).sym=(V.B i).sym)(hsd:(V.om b).side=(t:Int))(hbk0:bk b=V.bk i)(h0:0<=(V.B i).places)(h1:(V.B i).places<=1000000000000)
 (hM:M<=1000000000000000) (hq:1<=q) (hq2:q<=(V.om b).filled) (htr:V2.lg.tr=V.lg.tr) (hdy:V2.lg.day=V.lg.day):Oc bv V0 bk lw l B V2 W2:=by
 obtain⟨Ts,cl,u,e1,e2,cu,sp⟩:=h
 obtain⟨old,dQ,⟨c1,c2,c3,Vr,Vt,sp2⟩,rfl,rfl⟩:=hc
 obtain⟨Ts2,u2⟩:=X5 (bk:=bk) g hv hK hb hi ht hsb hsd hbk0 h0 h1 hM hq hq2 c1 htr hdy (Vt.tb.trans cu.tb.symm)
 obtain⟨b1,b2,b3⟩:=LZ V i s b again
 refine⟨Ts++Ts2,Vr,by rw[c2];exact u.append u2,by rw[List.flatten_append,e1,u2.kG b2,b1,List.append_nil],c1.trans e2,Vt,sp2⟩
theorem Ry(bv bm bo b N:Nat)(V0 V:aQ)(p:Nat->Nat)(S:RS)(id q P:Int)(again:Bool)(hl:List Tr)(ex Ci:Int->Int)(w:World)(bk:Nat->Nat)(lw:Nat)(l:List Nat)(B:List (Int × Tr))(hn:Oc bv V0 bk lw l B V w)(Sz:lw<=w.heap.size)(hbk:∀i,i<V.nb->(V.om b).sym=(V.B i).sym->bk b=V.bk i)(qH:∀i t:Nat,i<V.nb->t<2->(V.om b).side=(t:Int)->∀g,gG ((V.B i).sl t)=some g->g<lw)(hK:KK l V)(R:dN w bv bm bo V)(h:di p V S N)(hN:N<3000000)(hb:BuQ p V0 S N hl ex V)(hid:V.aU id=some b)(hsz:∀i,i<V.nb->(V.B i).sym.size<=100){j:Nat}(hj:j<S.l.length)(Oq:p j=b)
 (hP:∀a,a<V.nb->(V.B a).places<=P) (hPS:S.places<=P) (hP2:P+1<=2 * (N:Int)) (hq:1<=q) (hq2:q<=(V.om b).filled) (e1:Ci id=ex id-q) (e2:∀j,j≠id->Ci j=ex j) (hna:0<V.lg.na) (hnt:V.lg.nt.length+3<1000000000) :
 Calls Tryz.prog 75 #[.pointer (some ⟨bv,0,none⟩),.pointer (some ⟨b,0,none⟩),.int .i64 q,.bool again] w fun e w'=>e=.returned (.tuple #[])/\iM bv bm bo V (fun V2 W=>(BuQ p V0 (S.fQ j q again) N hl Ci V2/\(∀a,a<V2.nb->(V2.B a).places<=P+1)/\WB V.lg V2.lg 3)/\Oc bv V0 bk lw l B V2 W/\(∀j y:Nat,(y:Int)≠(V.om b).side->(V2.B j).sl y=(V.B j).sl y)/\∀y,(V2.om y).sym=(V.om y).sym/\(V2.om y).side=(V.om y).side) w w':=by
 subst Oq
 have hv:VL V (p j):=⟨id,hid⟩
 obtain⟨i,t,hi,t2,hsb,hside⟩:=h.gw.idx hv
 obtain⟨s,hs,hst⟩:∃s,s<2/\t=1-s:=⟨1-t,by omega,by omega⟩
 have hM:mN N<=1000000000000000:=by unfold mN;omega
 have hcn:=h.count hi t2
 have aa7:=h.gp
 have gZ:=h.yK
 have hpb:=h.CZ i hi
 obtain⟨Ts,cl,u,ef,eb,cu,sp⟩:=hn
 refine (NU bv bm bo (p j) i s t V (mN N) id q again w bk lw _ _ cl cu sp Sz (hbk i hi hsb) (qH i t hi t2 hside) R h.gw hM (by omega) hid hi hs hst hsb hside (hsz i hi) hq hq2 hna (by omega) hnt).mono ?_
 rintro e w' ⟨rfl,ht⟩
 refine⟨rfl,ht.with (fun V2 hh lk ho=>?_)⟩
 obtain⟨tb,tc⟩:=hh
 obtain⟨s1,s2,s3,s4,s5⟩:=h.fQ hN hj hi hs hst hsb hside hP hPS hP2 hq hq2 tb lk
 obtain⟨_,f,b3,b4⟩:=hb
 refine⟨⟨⟨s1,tb.fl f hid hM (h.gw.q _ hv) hq hq2 e1 e2,tb.nb.trans b3,fun j=>(tb.kE j).trans (b4 j)⟩,s2,lk⟩,Oc.tb ⟨Ts,cl,u,ef,eb,cu,sp⟩ hK h.gw tb ⟨_,_,tc,rfl,rfl⟩ hv hi t2 hsb hside (hbk i hi hsb) hpb.1 (by omega) hM hq hq2 lk.1 lk.2.2.1,fun j y hy=>tc.2.2.1 j y (fun e=>hy ?_),fun y=>?_⟩
 ·rw[e.2,hside]
 ·rcases tb.way with⟨_,jk,_⟩|⟨_,_,_,jk,_⟩
  ·rw[jk]
   by_cases e:y=p j
   ·rw[e,aj];exact⟨rfl,rfl⟩
   ·rw[ah _ _ e];exact⟨rfl,rfl⟩
  ·rw[jk]
   by_cases e:y=p j
   ·rw[e];exact⟨by simp[bY,aj,fF],by simp[bY,aj,fF]⟩
   ·exact⟨by simp only[bY,ah _ _ e],by simp only[bY,ah _ _ e]⟩
theorem QH{l:List Ord}{f:Ord->Ord}{k:Nat}(h:k<l.length):ax (l.map f) k=f (ax l k):=by
 unfold ax
 rw[List.getD_eq_getElem?_getD,List.getD_eq_getElem?_getD,List.getElem?_map,List.getElem?_eq_getElem h]
 rfl
theorem Pq{M:Int}{a b:Ord}(h:lG a=lG b)(q:Qo M a)(hM:M<=1000000000000000):lG (BM a)=lG (D5 b):=by
 obtain⟨e1,e2,e3,e4,e5,e6,e7,e8,e9,e10,e11,e12⟩:=fE h
 have q1:=q.sum;have q2:=q.o0;have q3:=q.f0;have q4:=q.c0;have q5:=q.e0;have q6:=q.hi
 unfold BM D5
 by_cases hk:a.kind=1
 ·rw[if_pos (show b.kind=1 by rw[<-e5];exact hk)]
  by_cases ho:0<a.aK
  ·rw[if_pos ⟨hk,ho⟩]
   show gm (lG a)=gm (lG b)
   rw[h]
  ·rw[if_neg (fun x=>ho x.2)]
   have h0:b.aK=0:=by rw[<-e9];omega
   rw[h0,Int.add_zero,aS (x:=b.exp) (by rw[<-e12];omega) (by rw[<-e12];omega),h]
   show lG b=lG { b with aK:=0 }
   rw[<-h0]
 ·rw[if_neg (fun x=>hk x.1),if_neg (show ¬b.kind=1 by rw[<-e5];exact hk)]
  exact h
theorem ML(o:Ord):(D5 o).id=o.id/\(D5 o).sym=o.sym/\(D5 o).place=o.place/\(0<(D5 o).aK->0<o.aK):=by
 unfold D5
 split
 ·exact⟨rfl,rfl,rfl,fun h=>absurd h (by simp)⟩
 ·exact⟨rfl,rfl,rfl,fun h=>h⟩
theorem Jh(o:Ord):(BM o).place=o.place:=by unfold BM;split <;> rfl
theorem di.closed{p:Nat->Nat}{V V':aQ}{S:RS}{N:Nat}(h:di p V S N)(hN:N<2900000)(c:ClV V (mN N) V'):di p V' S.fresh.qg (N+1):=by
 have hM:mN N<=1000000000000000:=by unfold mN;omega
 have hlen:S.fresh.qg.l.length=S.l.length:=by simp[RS.qg,RS.fresh]
 have nk:∀k,k<S.l.length->ax S.fresh.qg.l k=D5 (ax S.l k):=fun k hk=>QH hk
 have omk:∀k,k<S.l.length->V'.om (p k)=BM (V.om (p k)):=fun k hk=>c.om _ _ (h.aU k hk)
 have dH:∀k,k<S.l.length->(ax S.fresh.qg.l k).id=(ax S.l k).id/\(ax S.fresh.qg.l k).sym=(ax S.l k).sym/\(ax S.fresh.qg.l k).place=(ax S.l k).place/\(0<(ax S.fresh.qg.l k).aK->0<(ax S.l k).aK)/\(V'.om (p k)).place=(V.om (p k)).place:=fun k hk=>by
  rw[nk k hk,omk k hk]
  obtain⟨a,b,c,d⟩:=ML (ax S.l k)
  exact⟨a,b,c,d,Jh _⟩
 have hps:S.fresh.qg.places=S.places:=rfl
 refine⟨c.gw.mono (qI (Nat.le_add_right N 1)),by rw[c.nb];exact h.nb,fun i hi=>by rw[c.kE i];exact h.sym i (by rw[<-c.nb];exact hi),by rw[c.no,hlen];exact h.no,fun k hk=>?_,fun id b hb=>?_,fun a b ha hb=>h.inj a b (by omega) (by omega),fun k hk=>?_,fun a b ha hb hs h1 h2=>?_,fun a b ha hb hab hs h1 h2=>?_,fun k hk h0 i hi hs=>?_,fun k hk h0=>?_,fun i hi=>?_,?_,by rw[c.tr];exact h.tr,?_,by rw[c.tr];have:=h.uV;omega,by rw[c.tp,List.length_append,List.length_singleton];have:=h.yE;omega,by have:=h.yK;have:=c.na;have:=c.ud;omega,by rw[c.no];exact h.gp,by rw[c.nb];exact h.QB,fun k hk=>by rw[(dH k (by omega)).1];exact h.sK k (by omega)⟩
 ·rw[c.aU,(dH k (by omega)).1];exact h.aU k (by omega)
 ·rw[c.aU]at hb
  obtain⟨k,hk,e1,e2⟩:=h.yz id b hb
  exact⟨k,by omega,by rw[(dH k hk).1];exact e1,e2⟩
 ·have hk':k<S.l.length:=by omega
  rw[nk k hk',omk k hk']
  exact Pq (h.same k hk') (h.gw.q _ ((h.vl _).2 ⟨k,hk',rfl⟩)) hM
 ·obtain⟨_,a2,a3,a4,a5⟩:=dH a (by omega)
  obtain⟨_,b2,b3,b4,b5⟩:=dH b (by omega)
  rw[a5,b5,a3,b3]
  exact h.place a b (by omega) (by omega) (by rw[<-a2,<-b2];exact hs) (a4 h1) (b4 h2)
 ·obtain⟨_,a2,a3,a4,a5⟩:=dH a (by omega)
  obtain⟨_,b2,b3,b4,b5⟩:=dH b (by omega)
  rw[a3,b3]
  exact h.vw a b (by omega) (by omega) hab (by rw[<-a2,<-b2];exact hs) (a4 h1) (b4 h2)
 ·obtain⟨_,a2,a3,a4,a5⟩:=dH k (by omega)
  rw[a5,c.OY i]
  exact h.Lj k (by omega) (a4 h0) i (by rw[<-c.nb];exact hi) (by rw[<-c.kE i,hs,a2])
 ·obtain⟨_,a2,a3,a4,a5⟩:=dH k (by omega)
  rw[a3,hps]
  exact h.Ll k (by omega) (a4 h0)
 ·rw[c.OY i]
  have:=h.CZ i (by rw[<-c.nb];exact hi)
  push_cast;omega
 ·rw[hps]
  have:=h.Ox
  push_cast;omega
 ·rw[c.day,h.day];rfl
end Go.Proofs.YtigaphnafnpfnaaGreatDoor
