import Derived.Test.YtigaphnafnpfnaaGreatDoorQVP1
import Derived.Test.YtigaphnafnpfnaaGreatDoorQVU7
set_option linter.unusedVariables false
set_option linter.unusedSimpArgs false
set_option maxHeartbeats 8000000
set_option maxRecDepth 100000
namespace Go.Proofs.YtigaphnafnpfnaaGreatDoor
open Go.RowKit Go.Maps Go.Shelf
theorem Jz(bv bm bo N:Nat)(V:aQ)(p:Nat->Nat)(S:RS)(o:iL)(w:World)(R:dN w bv bm bo V)(hT:oC w)(h:di p V S N)(hN:N<2900000)(hz:uB V)(hlen:o.sym.size<=1000000000)(hid:(Lit.int .i64 o.id).wf=true)(Y6:gW o.aA)(Y5:gW o.kind)(Y7:gW o.af) :
 Calls Tryz.prog 64 #[.pointer (some ⟨bv,0,none⟩),o.val] w fun e w'=>∃f r n a c,e=.returned (.tuple #[lq f r n a c,.int .i64 (rJ S o)])/\(rJ S o=0->f+r+n=o.aI/\0<=f/\0<=r/\0<=n/\(c=0↔f=0))/\IW bv bm bo V S N (fun x=>x=o.id) IE (rJ S o) w w':=by
 have hM:mN N<=1000000000000000:=by unfold mN;omega
 have hml:o.sym.size<=maxLen:=by unfold maxLen;omega
 have hlS:S.l.length<=200:=by have:=h.no;have:=h.gp;omega
 have hsy:S.sy.length<=1000:=by have:=h.nb;have:=h.QB;omega
 have hop:∀k,k<S.l.length->0<=(ax S.l k).aK/\(ax S.l k).aK<=1000000000000000:=fun k hk=>by have:=h.aK hk;omega
 have uV:=h.uV
 have yE:=h.yE
 have yK:=h.yK
 have hrf:=GZ bv bm bo h hN o hml hid
 by_cases hE:rJ S o=0
 ·have PY:=h.XU o
  rw[hE]at PY
  rcases nU o (V.aU o.id).isSome (kN S.sy o.sym) (decide (200<=V.no)) (gz S.l o).isSome (decide (rG S.l o S.l.length<o.aI)) with⟨_,e⟩|⟨_,_,e⟩|⟨g1,g2,⟨_,e⟩|⟨_,_,e⟩|⟨g3,g4,⟨_,e⟩|⟨g5,⟨_,e⟩|⟨_,_,e⟩|⟨g6,g7,⟨g8,e⟩|⟨g8,g9,e⟩|⟨g8,g9,e⟩⟩⟩⟩⟩
  case inr.inr.inr.inr.inr.inr.inr.inr.inr =>
   have h2:V.aU o.id=none:=by simpa using g2
   have h8:V.no<200:=by simp at g9;omega
   obtain⟨i,hi,dM⟩:=(h.fV _).1 g8
   have hsd:o.side=0\/o.side=1:=by
    unfold lQ at g4
    simp at g4
    exact g4
   obtain⟨t,ht,hst⟩:∃t:Nat,t<2/\o.side=(t:Int):=by
    rcases hsd with e|e
    ·exact⟨0,by omega,e⟩
    ·exact⟨1,by omega,e⟩
   obtain⟨s,hs,hts⟩:∃s,s<2/\t=1-s:=⟨1-t,by omega,by omega⟩
   have KR:1<=o.aI/\o.aI<=1000000:=by simpa [fH] using g6
   have ZU:o.sym.size<=100:=by rw[<-dM];exact hz.sz i hi
   have hinv:∀k,k<(V.B i).n s->(V.om ((V.B i).h s k)).side=(s:Int)/\0<(V.om ((V.B i).h s k)).aK/\(V.om ((V.B i).h s k)).aK<=1000000000000000:=fun k hk=>by
    obtain⟨a,b,c,d⟩:=((h.gw.gb i hi).mem s hs _).1 ⟨k,hk,rfl⟩
    have q:=h.gw.q _ a
    exact⟨c,d,by have:=q.sum;have:=q.f0;have:=q.c0;have:=q.e0;have:=q.hi;omega⟩
   rw[hE]at hrf
   obtain⟨ol,hol,hov⟩:=h.ol
   obtain⟨Vl,Zt⟩:∃f:Nat->Nat,f=fun x=>if x<w.heap.size then FB V x else V.bk i:=⟨_,rfl⟩
   have bk1:∀y,y<2->∀l,l<(V.B i).n y->Vl ((V.B i).h y l)=V.bk i:=fun y hy l hl=>by
    obtain⟨id',Xh⟩:=R.mem i hi y hy l hl
    obtain⟨_,ix,ho⟩:=R.bg id' _ Xh
    rw[Zt]
    simp only[if_pos ho.lt]
    exact rY h.gw hi hy hl
   have bk2:∀x,w.heap.size<=x->Vl x=V.bk i:=fun x hx=>by
    rw[Zt]
    simp only[if_neg (show ¬x<w.heap.size by omega)]
   refine (TG bv bm bo i s t V o w Vl bk1 bk2 R hT hi dM ZU Y6 Y5 Y7 g1 h2 g6 h8 hrf hs hts hst hinv (h.count hi (by omega)) (h.count hi hs) (by omega) (by omega) (by omega)).mono ?_
   rintro e w' ⟨v,rfl,b,g,cap',bH,hb,rfl,R',k,hF,_,ext,cl,cu,hsg⟩
   have hbn:¬VL V b:=fun ⟨id,hx⟩=>by
    obtain⟨_,ix,hob⟩:=R.bg id b hx
    have:=hob.lt;omega
   obtain⟨c',f,hEn,ZA,eu,hrep,htp,htold⟩:=h.enter (g:=g) (cap':=cap') (bH:=bH) hN hi hs hts dM.symm hst KR.1 KR.2 h2 hbn h8 g1
   obtain⟨gv,run,ivz,hBs,_⟩:=h.gw.enter (b:=b) (g:=g) (cap':=cap') (bH:=bH) hM hi hs hts dM.symm hst (by omega) (by unfold mN;omega) h2 hbn
   have ZZ:(mF b s ⟨V.B i,aN V.om b (aJ o),V.lg.aX o.id⟩).lg.tr.length<=_:=eu.uV
   have hcs:=h.count hi hs
   have hpb:=h.CZ i hi
   obtain⟨did,tn⟩:=MI (l:=ol++[b]) R h.gw (fun x hx=>List.mem_append_left _ (hov x hx)) (by simp) (by simp;omega) hi hs hts hid h2 hb (by omega) ivz (by omega) (fun k hk=>bk1 s hs k hk) (bk2 b hb) hpb.1 (by omega) R' cu hsg
   obtain⟨xf,xr,xc,xa,xm,hx,hsum⟩:=NK (o:=o) (b:=b) (s:=s) (B:=V.B i) (om:=V.om) (lg:=V.lg.aX o.id) hM run (by show V.lg.tr.length+_<=_;omega)
   rw[hE]
   refine⟨xf,xr,xc,xa,xm,?_,fun _=>⟨hsum.1,hsum.2.1,hsum.2.2.1,hsum.2.2.2.1,hsum.2.2.2.2.1⟩,.inr ⟨rfl,_,R',⟨yA S.l.length c',_,eu,htp,htold,?_,by rw[tn.vH htp];exact did,⟨fun id=>?_,rfl,fun j hj=>hBs j,fun j z hz=>by simp[IE]at hz,by rw[tn.vH htp];exact TT.O7 (st:=⟨V.B i,aN V.om b (aJ o),V.lg.aX o.id⟩) kY.refl,fun z=>Dt (st:=⟨V.B i,aN V.om b (aJ o),V.lg.aX o.id⟩) z,Nat.le_refl _⟩⟩,k,hF⟩⟩
   ·rw[<-hx];simp only[aQ.tr,aQ.enter,qZ];rfl
   ·exact hz.enter h.gw hM hi hs dM.symm (by omega) (by unfold mN;omega) h2 hbn ivz hBs
   ·show (if id=o.id then some b else V.aU id).isSome=true↔_
    by_cases e:id=o.id
    ·rw[if_pos e];exact⟨fun _=>.inr e,fun _=>rfl⟩
    ·rw[if_neg e];exact⟨.inl,fun h=>h.elim (fun z=>z) (fun z=>absurd z e)⟩
  all_goals
   rw[e]at PY
   exact absurd PY (by decide)
 ·refine (MK bv o (rJ S o) w hE (fun W kW=>hrf W (R.aH kW))).mono ?_
  rintro e w' ⟨rfl,k⟩
  exact⟨0,0,0,0,0,rfl,fun h=>absurd h hE,.inl ⟨hE,k⟩⟩
theorem Lp(x:Tg)(day:Int):pO x day=0\/pO x day=6\/pO x day=10\/pO x day=11:=by
 unfold pO
 split
 ·exact .inr (.inr (.inl rfl))
 ·split
  ·exact .inr (.inr (.inr rfl))
  ·exact .inl rfl
theorem Ee(bv bm bo N:Nat)(V:aQ)(p:Nat->Nat)(S:RS)(n b:Int)(w:World)(R:dN w bv bm bo V)(hT:oC w)(h:di p V S N)(hN:N<2900000)(hz:uB V)(hb:fH b=true) :
 Calls Tryz.prog 40 #[.pointer (some ⟨bv,0,none⟩),.int .i64 n,.int .i64 b] w fun e w'=>∃E,e=.returned (.int .i64 E)/\(E=0\/E=6\/E=10\/E=11)/\IW bv bm bo V S N Sv IE E w w':=by
 have hN1:=h.uV
 have Om:=h.yE
 have hN3:=h.yK
 have hl:S.t.length<=1000000000:=by rw[<-h.tr];omega
 by_cases hr:n<1\/(V.lg.tr.length:Int)<n
 ·refine (xQ bv n 6 b none w (by decide) (fun W kW=>Bi bv bm bo V.lg V.lm n W (R.aO.aH kW) hr)).mono ?_
  rintro e w' ⟨rfl,kk⟩
  exact⟨6,rfl,by decide,.inl ⟨by decide,kk⟩⟩
 ·obtain⟨k,hk⟩:∃k:Nat,n-1=(k:Int):=⟨(n-1).toNat,by omega⟩
  have hkl:k<V.lg.tr.length:=by omega
  obtain⟨x,hx⟩:∃x,V.lg.tr[k]?=some x:=⟨_,List.getElem?_eq_getElem hkl⟩
  obtain⟨tb,htb⟩:∃tb,V.lm.tb[k]?=some tb:=⟨_,List.getElem?_eq_getElem (by rw[R.aO.aO.len];exact hkl)⟩
  have hxS:S.t[k]?=some x:=by rw[<-h.tr];exact hx
  have hd:V.lg.day=S.day:=h.day
  rcases C9 x V.lg.day with hne|⟨h0,hh⟩
  ·refine (xQ bv n (pO x V.lg.day) b none w hne (fun W kW=>(wE bv bm bo k tb V.lg V.lm n x W (R.aO.aH kW) hk hx htb (by omega)).mono (fun e w' hh=>?_))).mono ?_
   ·rw[if_neg hne]at hh;exact hh
   ·rintro e w' ⟨rfl,kk⟩
    exact⟨_,rfl,Lp x _,.inl ⟨hne,kk⟩⟩
  ·obtain⟨ol,hol,hov⟩:=h.ol
   refine (MC bv bm bo k tb V n b x w (FB V) R hT hk hx htb (by omega) (by omega) h0 hb (by omega)).mono ?_
   rintro e w' ⟨rfl,bH,hL,hF,kc,cl,cu⟩
   have R':=R.jH hL kc
   have hinv:vH S.t (S.fresh.iw k x b).told=[(3,x.t)]:=by
    have e1:x.t.num=(k:Int)+1:=hz.nm k x hx
    show List.filterMap (Qa S.t) [⟨0,3,{ x.t with af:=b }⟩]=_
    simp only[List.filterMap_cons,Qa]
    rw[show ((x.t.num-1).toNat)=k by omega,hxS]
    rfl
   refine⟨0,rfl,by decide,.inr ⟨rfl,_,R',⟨S.fresh.iw k x b,p,h.MF hxS,rfl,by show 1<=201;omega,hz.iE hx,by rw[hinv];exact FT R hov (by omega) (by omega) hx htb R' cu,by rw[hinv];exact BF.plain rfl rfl (fun _ _=>rfl) (by show kY V.lg.tr _ (V.lg.tr.set k ⟨x.t.at b,x.holds⟩);rw[hh];exact kY.iw (B:=[]) kY.refl (by rw[hx];cases x;simp only at hh;rw[hh]) rfl) (fun z=>Told.lI (G:=V.lg) z hx hh) (Nat.le_succ _)⟩,kc.mono (fun y hy=>?_),fun y hy=>?_⟩⟩
   ·rcases hy with hy|hy
    ·exact .inl hy
    ·exact .inr (.inr (.inr (.inr (.inr hy))))
   ·rcases hy with hy|hy|hy|hy|hy|hy
    ·exact .inl (.inl hy)
    ·exact .inl (.inr (.inl hy))
    ·exact .inl (.inr (.inr (.inl hy)))
    ·exact .inl (.inr (.inr (.inr (.inl hy))))
    ·exact .inl (.inr (.inr (.inr (.inr (.inl hy)))))
    ·exact (hF y hy).imp_left (fun z=>.inr (.inr (.inr (.inr (.inr z)))))
theorem Np(bv bm bo N:Nat)(V:aQ)(p:Nat->Nat)(S:RS)(n:Int)(again:Bool)(w:World)(R:dN w bv bm bo V)(hT:oC w)(h:di p V S N)(hN:N<2900000)(hz:uB V) :
 Calls Tryz.prog 39 #[.pointer (some ⟨bv,0,none⟩),.int .i64 n,.bool again] w fun e w'=>∃E,e=.returned (.int .i64 E)/\(E=0\/E=6\/E=10\/E=11)/\IW bv bm bo V S N Sv IE E w w':=by
 have hN1:=h.uV
 have Om:=h.yE
 have hN3:=h.yK
 have hl0:S.t.length<=1000000000:=by rw[<-h.tr];omega
 by_cases hr:n<1\/(V.lg.tr.length:Int)<n
 ·refine (FI bv n 6 again none w (by decide) (fun W kW=>Bi bv bm bo V.lg V.lm n W (R.aO.aH kW) hr)).mono ?_
  rintro e w' ⟨rfl,kk⟩
  exact⟨6,rfl,by decide,.inl ⟨by decide,kk⟩⟩
 ·obtain⟨k,hk⟩:∃k:Nat,n-1=(k:Int):=⟨(n-1).toNat,by omega⟩
  have hkl:k<V.lg.tr.length:=by omega
  obtain⟨x,hx⟩:∃x,V.lg.tr[k]?=some x:=⟨_,List.getElem?_eq_getElem hkl⟩
  obtain⟨tb,htb⟩:∃tb,V.lm.tb[k]?=some tb:=⟨_,List.getElem?_eq_getElem (by rw[R.aO.aO.len];exact hkl)⟩
  have hxS:S.t[k]?=some x:=by rw[<-h.tr];exact hx
  have hd:V.lg.day=S.day:=h.day
  rcases C9 x V.lg.day with hne|⟨h0,hh⟩
  ·refine (FI bv n (pO x V.lg.day) again none w hne (fun W kW=>(wE bv bm bo k tb V.lg V.lm n x W (R.aO.aH kW) hk hx htb (by omega)).mono (fun e w' hh=>?_))).mono ?_
   ·rw[if_neg hne]at hh;exact hh
   ·rintro e w' ⟨rfl,kk⟩
    exact⟨_,rfl,Lp x _,.inl ⟨hne,kk⟩⟩
  ·obtain⟨f1,tw⟩:=hz.fl.lC hx hh
   obtain⟨⟨bx,b1,b2,b3⟩,⟨sx,s1,s2,s3⟩,q1⟩:=tw
   have nbs:x.t.kZ≠x.t.fM:=fun e=>by
    rw[e,s1]at b1
    rw[Option.some.inj b1,b3]at s3
    omega
   obtain⟨jb,ob,jbl,pjb⟩:=h.index b1
   obtain⟨js,os,jsl,pjs⟩:=h.index s1
   have aaH:∀id y,V.aU id=some y->(Lit.int .i64 id).wf=true:=fun id y hy=>by
    obtain⟨j,hj1,hj2,_⟩:=h.index hy
    have e:=(vS hj1).2
    have:=h.sK j hj2
    rw[e]at this
    unfold fH at this
    simp at this
    exact WalkArith.wf_i64 (by omega)
   obtain⟨hl,hhl⟩:∃hl,held (V.lg.tr.set k ⟨x.t,false⟩)=hl:=⟨_,rfl⟩
   rw[hhl]at f1
   have nn:∀side id,0<=uQ (tq side id) hl:=fun side id=>Io (fun t ht=>NY (by have:=(f1.tw t ht).aI;omega))
   obtain⟨TI,PR⟩:∃TI:Int->Int,TI=fun j=>if j=x.t.fM then x.t.aI else 0:=⟨_,rfl⟩
   have e11:TI x.t.kZ=TJ x.t x.t.kZ-x.t.aI:=by
    rw[PR];simp[TJ,nbs]
   have e12:∀j,j≠x.t.kZ->TI j=TJ x.t j:=fun j hj=>by
    rw[PR];simp only[TJ];rw[if_neg hj];omega
   have e21:(fun _=>(0:Int)) x.t.fM=TI x.t.fM-x.t.aI:=by rw[PR];simp
   have e22:∀j,j≠x.t.fM->(fun _=>(0:Int)) j=TI j:=fun j hj=>by rw[PR];simp[hj]
   have fb1:x.t.aI<=(V.om bx).filled:=by
    have h1:=f1.eq _ _ b1
    have h2:=nn (V.om bx).side x.t.kZ
    simp[TJ,nbs]at h1
    omega
   obtain⟨S1,hS1⟩:∃S1,S1=S.fresh.Vm k x:=⟨_,rfl⟩
   have PI:S1.l=S.l:=by rw[hS1];rfl
   have hps:=h.Ox
   obtain⟨ol,hol,hov⟩:=h.ol
   have xt:V.lg.tr[k]?=some ⟨x.t,true⟩:=by
    have e:x=⟨x.t,true⟩:=by cases x;simp only at hh;rw[hh]
    rw[<-e];exact hx
   have oH:∀j,j<V.nb->∀y,y<2->∀a,gG ((V.B j).sl y)=some a->a<w.heap.size:=fun j hj y hy a ha=>((R.aW j hj).side y hy).lt ha
   refine (WL bv bm bo k tb bx sx V n x again w R hT hk hx htb (by omega) (by omega) h0 b1 s1 (aaH _ _ b1) (aaH _ _ s1) (FB V)
    (fun V2 W=>(BuQ p V (S1.fQ jb x.t.aI again) (N+1) hl TI V2/\(∀a,a<V2.nb->(V2.B a).places<=2 * (N:Int)+1)/\(S1.fQ jb x.t.aI again).places<=2 * (N:Int)+1)/\Oc bv V (FB V) w.heap.size ol [(1,x.t)] V2 W/\((∀j y:Nat,(y:Int)≠(V.om bx).side->(V2.B j).sl y=(V.B j).sl y)/\∀y,(V2.om y).sym=(V.om y).sym/\(V2.om y).side=(V.om y).side)/\WB (V.lg.gV k tb x.t) V2.lg 3)
    (fun V3 W=>BuQ p V ((S1.fQ jb x.t.aI again).fQ js x.t.aI again) (N+1) hl (fun _=>0) V3/\Oc bv V (FB V) w.heap.size ol [(1,x.t)] V3 W) (fun V2 W W' hq k=>⟨hq.1,hq.2.1.aH k,hq.2.2⟩) (by omega) (fun w1 EZ Vq R1 hw1 Yf=>?_) (fun V2 w2 hQ2 hw2 R2 ho2 gZ PV=>?_)).mono ?_
   ·have hs1:di p { V with lg:=V.lg.gV k tb x.t,lm:=EZ } S1 (N+1):=by rw[hS1];exact h.gV hxS
    have hP:∀a,a<V.nb->(V.B a).places<=2 * (N:Int):=fun a ha=>(h.CZ a ha).2
    have hPS:S1.places<=2 * (N:Int):=by rw[hS1];exact hps.2
    have K0:KK ol V:=⟨hov,by omega⟩
    have K1:KK ol { V with lg:=V.lg.gV k tb x.t,lm:=EZ }:=⟨hov,by show (V.lg.tr.set k ⟨x.t,false⟩).length<_;rw[List.length_set];omega⟩
    have bn1:Oc bv V (FB V) w.heap.size ol [(1,x.t)] { V with lg:=V.lg.gV k tb x.t,lm:=EZ } w1 :=
     ⟨[[(1,x.t)]],Vq,jm.one K0 (I5 xt htb ⟨rfl,fun _ _=>rfl,fun _ _=>rfl,fun _ _=>rfl,fun _ _ _ _ _=>Iff.rfl,rfl,rfl,fun _ _=>rfl,rfl,rfl,Yf.tb⟩) K1,rfl,rfl,Yf,Am R Yf rfl (fun _ _ _ _=>rfl)⟩
    have hq:=Ry bv bm bo bx (N+1) V { V with lg:=V.lg.gV k tb x.t,lm:=EZ } p S1 x.t.kZ x.t.aI (2 * (N:Int)) again hl (TJ x.t) TI w1 (FB V) w.heap.size ol [(1,x.t)] bn1 hw1 (fun i hi hs=>y9 h.gw hi hs) (fun i t hi ht _ g hg=>oH i hi t ht g hg) K1 R1 hs1 (by omega) ⟨hs1,f1,rfl,fun _=>rfl⟩ b1 hz.sz (j:=jb) (by rw[PI];exact jbl) pjb hP hPS (by push_cast;omega) q1 fb1 e11 e12 (by show 0<V.lg.na+1;omega) (by show 1+3<1000000000;omega)
    refine hq.mono (fun e w' hh=>⟨hh.1,hh.2.with (fun V2 h2 lk ho=>⟨⟨h2.1.1,h2.1.2.1,?_⟩,h2.2.1,h2.2.2,lk⟩)⟩)
    have hpl:(S1.fQ jb x.t.aI again).places<=S1.places+1:=by
     unfold RS.fQ
     split
     ·show wrap64 (S1.places+1)<=_
      rw[aS (by rw[hS1];show (-9223372036854775808:Int)<=S.places+1;omega) (by omega)]
      omega
     ·show S1.places<=_;omega
    omega
   ·obtain⟨⟨⟨g2,f2,n2,y2⟩,p2,pS2⟩,bn2,⟨sl2,st2⟩,Ei⟩:=hQ2
    have vl2:∀y,VL V2 y↔VL V y:=fun y=>by unfold VL;rw[ho2]
    have K2:KK ol V2:=⟨fun y hy=>hov y ((vl2 y).1 hy),by rw[Ei.1];show (V.lg.tr.set k ⟨x.t,false⟩).length<_;rw[List.length_set];omega⟩
    have bk2:V2.bk=V.bk:=by obtain⟨_,_,_,_,e,_⟩:=bn2;exact e
    have hbk2:∀i,i<V2.nb->(V2.om sx).sym=(V2.B i).sym->FB V sx=V2.bk i:=fun i hi hs=>by
     rw[bk2]
     exact y9 h.gw (by omega) (by rw[<-(st2 sx).1,hs,y2 i])
    have abI:∀i t:Nat,i<V2.nb->t<2->(V2.om sx).side=(t:Int)->∀g,gG ((V2.B i).sl t)=some g->g<w.heap.size:=fun i t hi ht hs g hg=>by
     rw[(st2 sx).2,s3]at hs
     rw[sl2 i t (by rw[b3];omega)]at hg
     exact oH i (by omega) t ht g hg
    have s2':V2.aU x.t.fM=some sx:=by rw[ho2];exact s1
    have fs:x.t.aI<=(V2.om sx).filled:=by
     have h1:=f2.eq _ _ s2'
     have h2:=nn (V2.om sx).side x.t.fM
     rw[PR]at h1
     simp only[if_pos]at h1
     omega
    have hlen2:(S1.fQ jb x.t.aI again).l.length=S.l.length:=by rw[(RS.rU S1 (i:=jb) (by rw[PI];exact jbl) x.t.aI again 0).2,PI]
    have hq:=Ry bv bm bo sx (N+1) V V2 p (S1.fQ jb x.t.aI again) x.t.fM x.t.aI (2 * (N:Int)+1) again hl TI (fun _=>0) w2 (FB V) w.heap.size ol [(1,x.t)] bn2 hw2 hbk2 abI K2 R2 g2 (by omega) ⟨g2,f2,n2,y2⟩ s2' (fun i hi=>by rw[y2 i];exact hz.sz i (by omega)) (j:=js) (by omega) pjs p2 pS2 (by push_cast;omega) q1 fs e21 e22 (by rw[gZ];omega) (by omega)
    exact hq.mono (fun e w' hh=>⟨hh.1,hh.2.with (fun V3 h3 lk ho=>⟨h3.1.1,h3.2.1⟩)⟩)
   ·rintro e w' ⟨rfl,V3,⟨⟨g3,f3,n3,y3⟩,Ts3,rZ,u3,ef3,eb3,FP,sp3⟩,o3',R3,lk,kc,hF⟩
    obtain⟨l1,l2,l3,l4,l5⟩:=lk
    have ht:V3.lg.tr=V.lg.tr.set k ⟨x.t,false⟩:=l1
    have hsx:=hz.sy x (List.mem_of_getElem? hx)
    have htl:∀(T:RS) (j:Nat) (q:Int) (b:Bool),(T.fQ j q b).told=T.told:=fun T j q b=>by
     unfold RS.fQ
     split <;> rfl
    have htold:((S1.fQ jb x.t.aI again).fQ js x.t.aI again).told=[⟨0,2,x.t⟩]:=by
     rw[htl,htl,hS1];rfl
    have hl2:(S1.fQ jb x.t.aI again).l.length=S.l.length:=by rw[(RS.rU S1 (i:=jb) (by rw[PI];exact jbl) x.t.aI again 0).2,PI]
    have abu:V3.no<=V.no+1:=by rw[g3.no,(RS.rU _ (i:=js) (by rw[hl2];exact jsl) x.t.aI again 0).2,hl2,h.no];exact Nat.le_succ _
    refine⟨0,rfl,by decide,.inr ⟨rfl,V3,R3,⟨_,p,g3,?_,by rw[htold];show 1<=201;omega,⟨fun i hi=>?_,?_,fun y hy=>?_,?_,hz.nm.set hx (y:=⟨x.t,false⟩) rfl ht,by rw[l3];exact hz.dy⟩,?_⟩,kc,hF⟩⟩
    ·rw[htold,l2];rfl
    ·rw[y3 i];exact hz.sz i (by omega)
    ·rw[ht,hhl];exact f3
    ·rw[ht]at hy
     rcases List.mem_or_eq_of_mem_set hy with hy|hy
     ·exact hz.sy y hy
     ·rw[hy];exact hsx
    ·rw[l2];exact hz.tp.iT rfl hsx
    ·rw[htold]
     have hp:0<V3.lg.nt.length:=by
      rw[<-u3.len]
      cases Ts3 with
      | nil=>simp at ef3
      | cons a b=>simp
     have e1:(V.lg.gV k tb x.t).nt.length=1:=rfl
     exact⟨BC.of R3 FP sp3 rfl u3 (by omega) hp (by omega) ef3,BF.plain o3' n3 (fun i _=>y3 i) (by rw[ht];exact kY.wU (B:=[]) kY.refl xt) (fun z=>by rw[ht,l2];exact Told.wU z hx hh rfl rfl rfl) abu⟩
theorem Jy(bv bm bo N:Nat)(V:aQ)(p:Nat->Nat)(S:RS)(w:World)(R:dN w bv bm bo V)(hT:oC w)(h:di p V S N)(hN:N<2900000)(hz:uB V) :
 Calls Tryz.prog 41 #[.pointer (some ⟨bv,0,none⟩)] w fun e w'=>e=.returned (.tuple #[])/\SL bv bm bo V S N Sv IE w w':=by
 have Om:=h.yE
 have hN3:=h.yK
 have uV:=h.uV
 obtain⟨ol,hol,hov⟩:=h.ol
 have hM:mN N<=1000000000000000:=by unfold mN;omega
 refine (TC bv bm bo V.no V (mN N) w (FB V) (fun i hi y hy l hl=>rY h.gw hi hy hl) (fun i x hi hx hs=>y9 h.gw hi hs) R h.gw rfl hz.sz (by unfold mN;omega) h.gp (by omega) (by omega)).mono ?_
 rintro e w' ⟨rfl,hcl⟩
 have hdy:=hz.dy
 obtain⟨V',R',⟨c,did⟩,kc,hF⟩:=MH hM R h.gw hov (by omega) (by omega) hdy.1 hdy.2 (fun i x hi hx hs=>y9 h.gw hi hs) hcl
 refine⟨rfl,V',R',⟨_,p,h.closed hN c,?_,by show 1<=201;omega,⟨fun i hi=>?_,?_,fun x hx=>?_,?_,fun k x hx=>hz.nm k x (by rw[<-c.tr];exact hx),by rw[c.day];unfold wrap64;omega⟩,did,BF.plain c.aU c.nb (fun i _=>c.kE i) (by rw[c.tr];exact kY.refl) (fun z=>by rw[c.tr,c.tp];exact Told.close z rfl rfl) (by rw[c.no];exact Nat.le_succ _)⟩,kc,hF⟩
 ·rw[c.tp,h.day];rfl
 ·rw[c.kE i];exact hz.sz i (by rw[<-c.nb];exact hi)
 ·rw[c.aU,c.tr];exact hz.fl.kJ c.dH
 ·rw[c.tr]at hx;exact hz.sy x hx
 ·rw[c.tp];exact hz.tp.iT rfl (by show 0<=100000;omega)
def pz(H:List (lK × RS)):RS:=(H.getLast?.map Prod.snd).getD RS.none
theorem zK(H:List (lK × RS))(n:lK)(S:RS):pz (H++[(n,S)])=S:=by simp[pz]
def KP(M:Nat)(H:List (lK × RS))(V:aQ):Prop :=
 ∃(V0:aQ) (p:Nat->Nat) (N:Nat),di p V0 (pz H) N/\N<=M/\uB V0/\dK V0 V/\(pz H).l.length<=M /\
  ∀H' n S,H=H'++[(n,S)]->kY (pz H').t n.Ts.flatten S.t/\n.Ts.flatten.length<=201/\∀q∈n.Ts.flatten,q.2.sym.size<=100000
theorem KP.JC{M:Nat}(H:List (lK × RS))(V V':aQ)(h:KP M H V)(l:dK V V'):KP M H V':=by
 obtain⟨V0,p,N,h1,h2,h3,h4,h5⟩:=h
 exact⟨V0,p,N,h1,h2,h3,h4.trans l,h5⟩
theorem KP.mono{M M':Nat}(hM:M<=M')(H:List (lK × RS))(V:aQ)(h:KP M H V):KP M' H V:=by
 obtain⟨V0,p,N,h1,h2,h3,h4,h5,h6⟩:=h
 exact⟨V0,p,N,h1,by omega,h3,h4,by omega,h6⟩
structure Kx where
 bv:Nat
 bm:Nat
 bo:Nat
 V:aQ
 p:Nat->Nat
 N:Nat
 H:List (lK × RS)
def Kx.S(x:Kx):RS:=pz x.H
structure nN(w:World)(x:Kx):Prop where
 jE:dN w x.bv x.bm x.bo x.V
 lu:di x.p x.V x.S x.N
 sz:uB x.V
 XR:ou (KP x.N) x.H x.V
 mem:yU x.bv x.bm x.bo x.V x.H w
 told:Told x.V.lg.tr x.V.lg.tp
 no:x.S.l.length<=x.N
def KF(x:Kx)(b:Nat):Prop:=dI x.bv x.bm x.bo x.V b\/Bx x.H b
theorem nN.lt{w:World}{x:Kx}(h:nN w x){b:Nat}(hb:KF x b):b<w.heap.size:=by
 rcases hb with hb|hb
 ·exact h.jE.TK hb
 ·exact h.mem.lt hb
theorem nN.aC{w w':World}{x:Kx}(h:nN w x){K:Nat->Prop}(k:au K w w')(hK:∀b,KF x b->¬K b):nN w' x :=
 ⟨h.jE.aad k (fun b hb=>hK b (.inl hb)),h.lu,h.sz,h.XR,h.mem.aC k (fun b hb=>hK b (.inr hb)),h.told,h.no⟩
theorem nN.aH{w w':World}{x:Kx}(h:nN w x)(k:au aP w w'):nN w' x:=h.aC k (fun _ _ z=>z)
theorem nN.off{w:World}{x:Kx}(h:nN w x){b:Nat}{c:Array Value}{t:TypeId}(hb:az w b c t)(h1:t≠100/\t≠158/\t≠114/\t≠116/\t≠103/\t≠62/\t≠105/\t≠109/\t≠1/\t≠5/\t≠54/\t≠111/\t≠3/\t≠35/\t≠52/\t≠9/\t≠56):¬KF x b:=by
 obtain⟨a1,a2,a3,a4,a5,a6,a7,a8,a9,a10,b1,b2,b3,b4,b5,b6,b7⟩:=h1
 rintro (hf|⟨y,hy,cc,hc,hcb⟩)
 ·exact h.jE.mD hb a1 a2 a3 a4 a5 a6 a7 a8 ⟨a9,a10⟩ hf
 ·have f:=h.mem.fns y hy
  obtain⟨i,hi,rfl⟩:=List.mem_iff_getElem.1 hc
  have hi':i<y.1.ds.length:=by rw[<-f.len];exact hi
  obtain⟨cs,t',ht,hx⟩:=(f.mi i _ _ (List.getElem?_eq_getElem hi') (List.getElem?_eq_getElem hi)).fZ hcb
  have:=wF ht hb
  subst this
  rcases hx with e|e|e|e|e|e|e|e|⟨_,e⟩ <;> contradiction
def KN(x:Kx)(w w':World)(Q:Kx->Prop):Prop:=∃x',nN w' x'/\au (KF x) w w'/\(∀b,KF x' b->KF x b\/w.heap.size<=b)/\x'.bv=x.bv/\x'.N<=x.N+1/\(∃Z,x'.V.lg.tp=x.V.lg.tp++Z)/\Q x'
structure Kn(S:RS)(n:Nat):Prop where
 sK:∀id,(jX S.l id).isSome=true↔(1<=id/\id<=(n:Int))
 sA:kN S.sy Go.Proofs.YtigaphnafnpfnaaGreatDoor.sA=true
 sG:kN S.sy Go.Proofs.YtigaphnafnpfnaaGreatDoor.sG=true
theorem di.Jn{p:Nat->Nat}{V:aQ}{S:RS}{N:Nat}(h:di p V S N)(id:Int):(V.aU id).isSome=(jX S.l id).isSome:=by
 rw[h.found];cases jX S.l id <;> rfl
theorem Dh:∀(t R:List Rc),∃Z,lY R t=R++Z
 | [],R=>⟨[],by simp[lY]⟩
 | r :: t,R=>by
   obtain⟨Z,hZ⟩:=Dh t (R++[{ r with num:=(R.length:Int)+1 }])
   exact⟨{ r with num:=(R.length:Int)+1 } :: Z,by show lY _ t=_;rw[hZ];simp⟩
theorem yf:∀(B:List (Int × Tr)) (R:List Rc),∃Z,oU R B=R++Z
 | [],R=>⟨[],by simp[oU]⟩
 | b :: B,R=>by
   obtain⟨Z,hZ⟩:=yf B (R++[⟨(R.length:Int)+1,b.1,b.2⟩])
   exact⟨⟨(R.length:Int)+1,b.1,b.2⟩ :: Z,by show oU (R++[_]) B=_;rw[hZ];simp⟩
theorem Qe{x:Kx}{new:Int->Prop}{QG:List ByteArray}{w w1:World}(h:nN w x)(hO:SL x.bv x.bm x.bo x.V x.S x.N new QG w w1) :
 KN x w w1 (fun x'=>(∃n S',x'.H=x.H++[(n,S')])/\(∀id,(jX x'.S.l id).isSome=true↔((jX x.S.l id).isSome=true\/new id))/\x'.S.sy=x.S.sy++QG):=by
 obtain⟨V',R',⟨S',p',hs',htp,htold,hsz,⟨nt,ol,und,hol,hds,hB,hac,hnt,fns,hlo⟩,ak⟩,k,hf⟩:=hO
 have m1:yU x.bv x.bm x.bo V' (x.H++[(nt,S')]) w1:=h.mem.did (B:=[]) k hf hac hnt fns
 have eS:pz (x.H++[(nt,S')])=S':=zK _ _ _
 obtain⟨Z,hZ⟩:=Dh S'.told x.V.lg.tp
 have hln:S'.l.length<=x.N+1:=by have:=h.no;have:=ak.no;have:=h.lu.no;have:=hs'.no;omega
 refine⟨⟨x.bv,x.bm,x.bo,V',p',x.N+1,x.H++[(nt,S')]⟩,?_,k.mono (fun b hb=>.inl hb),?_,rfl,Nat.le_refl _,⟨Z,by rw[<-hZ];exact htp⟩,⟨nt,S',rfl⟩,fun id=>?_,?_⟩
 ·refine⟨R',by show di p' V' (pz _) _;rw[eS];exact hs',hsz,?_,m1,ak.told h.told,by show (pz _).l.length<=_;rw[eS];exact hln⟩
  refine ou.iT (h.XR.mono (KP.mono (Nat.le_add_right _ 1))) und (dK.refl _) hol hds ⟨V',p',x.N+1,by rw[eS];exact hs',Nat.le_refl _,hsz,dK.refl _,by rw[eS];exact hln,fun H' n' a' e=>?_⟩
  obtain⟨e1,e2⟩:=List.append_inj' e rfl
  simp only[List.cons.injEq,Prod.mk.injEq,and_true]at e2
  obtain⟨rfl,rfl⟩:=e2
  subst e1
  refine⟨?_,?_,?_⟩
  ·have:=ak.turn
   rw[<-hB,h.lu.tr,hs'.tr]at this
   exact this
  ·rw[hB];have:=Uc x.S.t S'.told;omega
  ·rw[hB]
   exact Qb (fun y hy=>h.sz.sy y (by rw[h.lu.tr];exact hy)) (RF hsz.tp htp)
 ·intro b hb
  rcases hb with hb|hb
  ·rcases hf b hb with hx|hx
   ·exact .inl (.inl hx)
   ·exact .inr hx
  ·obtain⟨y,hy,c,hc,hcb⟩:=hb
   rcases List.mem_append.1 hy with hy|hy
   ·exact .inl (.inr ⟨y,hy,c,hc,hcb⟩)
   ·rw[List.mem_singleton.1 hy]at hc
    exact .inr (hlo c hc b hcb)
 ·show (jX (pz _).l id).isSome=true↔_
  rw[eS,<-hs'.Jn,<-h.lu.Jn];exact ak.aU id
 ·show (pz _).sy=_
  rw[eS]
  have l1:S'.sy.length=x.S.sy.length+QG.length:=by rw[<-hs'.nb,<-h.lu.nb];exact ak.nb
  have e1:=h.lu.nb
  have e2:=ak.nb
  refine List.ext_getElem? (fun i=>?_)
  by_cases hi:i<x.S.sy.length
  ·rw[List.getElem?_append_left hi,hs'.sym i (by omega),h.lu.sym i (by omega),ak.sy i (by omega)]
  ·rw[List.getElem?_append_right (by omega)]
   cases hj:QG[i-x.S.sy.length]? with
   | none =>
     have:=List.getElem?_eq_none_iff.1 hj
     exact List.getElem?_eq_none (by omega)
   | some s =>
     have h3:=(List.getElem?_eq_some_iff.1 hj).1
     have h4:=ak.ns _ _ hj
     rw[show x.V.nb+(i-x.S.sy.length)=i by omega]at h4
     rw[hs'.sym i (by omega),h4]
theorem vK{α:Type}(l:List α):l=[]\/∃l' a,l=l'++[a]:=by
 rcases List.eq_nil_or_concat l with h|⟨l',a,h⟩
 ·exact .inl h
 ·exact .inr ⟨l',a,by rw[h,List.concat_eq_append]⟩
theorem Gh{x:Kx}{w:World}(h:nN w x)(h0:x.H=[]) :
 Calls Tryz.prog 23 #[.pointer (some ⟨x.bv,0,none⟩)] w fun e w1=>e=.returned (.int .i64 12)/\au aP w w1:=by
 have hac:x.V.lm.ac=[]:=by
  have e:=h.mem.Y1
  rw[h0]at e
  simpa using e
 exact N8 x.bv x.bm x.bo x.V w h.jE (by rw[<-h.jE.aO.aO.act.len,hac];rfl)
theorem Qi{x:Kx}{H:List (lK × RS)}{n:lK}{S:RS}{w:World}(h:nN w x)(hN:x.N<2000000)(h0:x.H=H++[(n,S)]) :
 Calls Tryz.prog 23 #[.pointer (some ⟨x.bv,0,none⟩)] w fun e w1=>e=.returned (.int .i64 0)/\KN x w w1 (fun x'=>x'.H=H):=by
 have hm:=h.mem
 have hp:=h.XR
 rw[h0]at hm hp
 obtain⟨A,y,e1,e2,e3⟩:∃A y,x.V.lm.ac=A++[y]/\y.2=n.cl/\A.map Prod.snd=H.map (fun h=>h.1.cl):=by
  have e:=hm.Y1
  rw[List.map_append]at e
  rcases vK x.V.lm.ac with h0|⟨A,y,h0⟩
  ·rw[h0]at e;simp at e
  ·rw[h0,List.map_append]at e
   obtain⟨e1,e2⟩:=List.append_inj' e rfl
   simp at e2
   exact⟨A,y,h0,e2,e1⟩
 obtain⟨V0,V1,l,p0,u,l1,hll,hd0,hd1⟩:=hp.last
 have yE:=h.lu.yE
 have yK:=h.lu.yK
 obtain⟨Ld,ZL⟩:∃Ld,Ld=(H.getLast?.map (fun h=>h.1.ds)).getD []:=⟨_,rfl⟩
 have hnt:∀z,A.getLast?=some z->z.2.length=Ld.length:=fun z hz=>by
  have e4:=congrArg List.getLast? e3
  rw[List.getLast?_map,List.getLast?_map,hz]at e4
  cases hg:H.getLast? with
  | none=>rw[hg]at e4;simp at e4
  | some g =>
    rw[hg]at e4
    simp at e4
    rw[ZL,hg,e4]
    show g.1.cl.length=g.1.ds.length
    exact (hm.fns g (List.mem_append_left _ (List.mem_of_getLast? hg))).len
 refine (RP x.bv x.bm x.bo x.V V0 V1 n l A y Ld w h.jE h.lu.gw.hs e1 e2 (hm.fns (n,S) (by simp)) u l1 hll hd0 hd1 hnt (by omega) (by omega)).mono ?_
 rintro e w1 ⟨rfl,V',R',hs',l',htp,hna,hud,PV,hac,k,hf⟩
 have sub:∀b,Bx H b->Bx x.H b:=fun b ⟨y,hy,c,hc,hcb⟩=>⟨y,by rw[h0];exact List.mem_append_left _ hy,c,hc,hcb⟩
 have aa8:V'.lm.ac.map Prod.snd=H.map (fun h=>h.1.cl):=by rw[<-e3];exact hac
 have m1:yU x.bv x.bm x.bo V' H w1:=⟨fun y hy=>(h.mem.fns y (by rw[h0];exact List.mem_append_left _ hy)).aC k hf,aa8,fun y hy=>by rw[PV,ZL,hy];rfl⟩
 obtain⟨V00,p0',N0,abO,hN0,sz0,l0,hln,_⟩:=p0.Zz
 have lk:=l0.trans l'
 obtain⟨_,_,_,_,_,_,_,_,hrel⟩:=hp.Zz
 obtain⟨htu,hTl,hTs⟩:=hrel H n S rfl
 have etp:V'.lg.tp=oU x.V.lg.tp n.Ts.flatten.reverse:=by rw[htp,ES]
 have etl:V'.lg.tp.length=x.V.lg.tp.length+n.Ts.flatten.length:=by rw[etp,Ak,List.length_reverse]
 have hsz:uB V':=sz0.JC lk (by
  rw[etp]
  exact oD.lT h.sz.tp (fun q hq=>hTs q (List.mem_reverse.1 hq)))
 have eu:di p0' V' (pz H) (x.N+1):=lk.abP hs' abO (by omega) (by omega) (by omega)
 obtain⟨Z,hZ⟩:=yf n.Ts.flatten.reverse x.V.lg.tp
 refine⟨rfl,⟨x.bv,x.bm,x.bo,V',p0',x.N+1,H⟩,⟨R',eu,hsz,(p0.JC (fun H V V'=>KP.JC H V V') l').mono (KP.mono (Nat.le_add_right _ 1)),m1,?_,Nat.le_succ_of_le hln⟩,k.mono (fun b hb=>.inl hb),fun b hb=>?_,rfl,Nat.le_refl _,⟨Z,by rw[<-hZ];exact etp⟩,rfl⟩
 ·show Told V'.lg.tr V'.lg.tp
  rw[etp,eu.tr]
  refine htu.mi ?_
  have:=h.told
  rw[h.lu.tr]at this
  rw[show S=x.S by unfold Kx.S;rw[h0,zK]]
  exact this
 ·rcases hb with hb|hb
  ·rcases hf b hb with hx|hx
   ·exact .inl (.inl hx)
   ·exact .inr hx
  ·exact .inl (.inr (sub b hb))
open Go.RowKit Go.Maps Go.Lib
attribute [local go_sem ↓] Go.wp_at_zero Go.wp_at_succ
def EP(i:Nat):ByteArray:=if i=0 then sA else sG
theorem X3:sA≠sG:=fun h=>absurd (congrArg ByteArray.size h) (by decide)
theorem QL(c n:Int)(w:World)(hn:0<n)(hn2:n<=1000000)(h1:-9223372036854775808<=c)(h2:c<=9223372036854775807):Calls Tryz.prog 29 #[.int .i64 c,.int .i64 n] w fun e w'=>∃v,e=.returned (.int .i64 v)/\0<=v/\v<n/\w'=w:=by
 have e0:(n == 0)=false:=beq_eq_false_iff_ne.2 (by omega)
 by_cases hc:c<0
 ·have w1:wrap64 (c+1)=c+1:=aS (by omega) (by omega)
  have w2:wrap64 (-(c+1)) = -(c+1):=aS (by omega) (by omega)
  have ev:-((c+1).tmod n)=(-(c+1)) % n:=by rw[<-Int.neg_tmod,Int.tmod_eq_emod_of_nonneg (by omega)]
  have EV:=ai ev
  clear w1 w2 ev
  go_enter Tryz.func29,Tryz.ntmps29
  go_wp2
  go_ret
  refine⟨_,rfl,?_,?_,rfl⟩
  ·rw[ae EV];exact Int.emod_nonneg _ (by omega)
  ·rw[ae EV];exact Int.emod_lt_of_pos _ hn
 ·go_enter Tryz.func29,Tryz.ntmps29
  go_wp2
  go_ret
  exact⟨_,rfl,Int.emod_nonneg _ (by omega),Int.emod_lt_of_pos _ hn,rfl⟩
structure Code(w:World)(ao:Option Addr)(len:Nat)(zs:Nat->Int):Prop where
 cell:∀i,i<len->∃b off,ao=some ⟨b,off,none⟩/\w.cell? ⟨b,off+i,none⟩=some (.int .i64 (zs i))
 SH:∀i,i<len->-9223372036854775808<=zs i/\zs i<=9223372036854775807
 small:len<=9223372036854775807
theorem QD(D:Nat)(ao:Option Addr)(len cap at_:Nat)(zs:Nat->Int)(n:Int)(w:World)(hb:az w D #[.slice ao len cap,.int .i64 at_] 28)(hc:Code w ao len zs)(hat:at_<=len)(hn:0<n)(hn2:n<=1000000) :
 Calls Tryz.prog 35 #[.pointer (some ⟨D,0,none⟩),.int .i64 n] w fun e w'=>∃v at',e=.returned (.int .i64 v)/\0<=v/\v<n/\at'<=len/\az w' D #[.slice ao len cap,.int .i64 (at':Nat)] 28/\au (fun x=>x=D) w w':=by
 have d0:w.cell? ⟨D,0,none⟩=some (.slice ao len cap):=hb.cell 0
 have d1:w.cell? ⟨D,1,none⟩=some (.int .i64 (at_:Int)):=hb.cell 1
 have f1:=hb.frozen 1
 by_cases h:at_<len
 ·obtain⟨b,off,rfl,hcell⟩:=hc.cell at_ h
  obtain⟨g1,g2⟩:=hc.SH at_ h
  have hsm:=hc.small
  have i0:(0:Int)<=(at_:Int):=by omega
  have i1:(at_:Int)<(len:Int):=by omega
  have hpk:=fun q=>QL (zs at_) n (w.drewN q) hn hn2 g1 g2
  have HP:=ai hpk
  clear hpk hc g1 g2
  go_enter Tryz.func35,Tryz.ntmps35
  go_wp2
  go_quiet (fail)
  go_wp2
  go_region_held3 (fun w'=>w'.cell? ⟨D,0,none⟩=some (.slice (some ⟨b,off,none⟩) len cap)/\w'.cell? ⟨D,1,none⟩=some (.int .i64 (at_:Int))/\w'.cell? ⟨b,off+at_,none⟩=some (.int .i64 (zs at_))) (go_keep)
   (first|(go_at_call 29;refine (ae HP _).mono ?_;rintro e w2 ⟨v,rfl,v0,v1,rfl⟩))
  go_wp2
  go_ret
  refine⟨v,at_+1,rfl,v0,v1,by omega,?_,?_⟩
  ·rw[show ((at_+1:Nat):Int)=(at_:Int)+1 from by omega]
   first|exact (hb.drewN _).set 1 _|exact ((hb.drewN _).drewN _).set 1 _|exact (hb.set 1 _).drewN _|exact ((hb.drewN _).drew).set 1 _
  ·exact ((au.refl (fun x=>x=D) w).drewN _).setCell (p:=⟨D,1,none⟩) (.inl rfl) _
 ·have e1:decide ((len:Int)<=(at_:Int))=true:=by simp;omega
  go_enter Tryz.func35,Tryz.ntmps35
  go_wp2
  go_quiet (fail)
  go_wp2
  go_ret
  exact⟨0,at_,rfl,by omega,hn,hat,hb.drewN _,(au.refl _ w).drewN _⟩
theorem Code.at{w w':World}{ao:Option Addr}{len:Nat}{zs:Nat->Int}(c:Code w ao len zs){S:Nat->Prop}(k:au S w w')(h:0<len->∀a,ao=some a->¬S a.block):Code w' ao len zs :=
 ⟨fun i hi=>by obtain⟨b,off,e,hc⟩:=c.cell i hi;exact⟨b,off,e,k.cell hc (h (by omega) ⟨b,off,none⟩ e)⟩,c.SH,c.small⟩
structure Oy(o:iL)(n i t:Nat):Prop where
 id:o.id=(n:Int)+1
 own:0<=o.aA/\o.aA<=9
 sym:o.sym=EP i
 side:o.side=(t:Int)
 kind:0<=o.kind/\o.kind<=5
 af:iQ o.kind o.af=true
 aI:1<=o.aI/\o.aI<=9
structure Dc(D:Nat)(ao:Option Addr)(len cap:Nat)(zs:Nat->Int)(base:Nat)(w:World):Prop where
 vk:∃at_:Nat,at_<=len/\az w D #[.slice ao len cap,.int .i64 (at_:Int)] 28
 code:Code w ao len zs
 old:0<len->∀a,ao=some a->a.block<base
 bD:base<=D
 Yr:oC w
 bT:qJ<base
theorem Dc.bG{D:Nat}{ao:Option Addr}{len cap:Nat}{zs:Nat->Int}{base:Nat}{w w':World}(h:Dc D ao len cap zs base w){S:Nat->Prop}(k:au S w w')(h1:¬S D)(h2:∀x,S x->base<=x):Dc D ao len cap zs base w':=by
 obtain⟨a,ha,hb⟩:=h.vk
 exact⟨⟨a,ha,k.aB hb h1⟩,h.code.at k (fun hl a e hx=>by have:=h.old hl a e;have:=h2 _ hx;omega),h.old,h.bD,h.Yr.aC k (fun hx=>by have:=h2 _ hx;have:=h.bT;omega),h.bT⟩
theorem Dc.Gj{D:Nat}{ao:Option Addr}{len cap:Nat}{zs:Nat->Int}{base:Nat}{w w':World}(h:Dc D ao len cap zs base w)(k:au aP w w'):Dc D ao len cap zs base w':=h.bG k (fun x=>x) (fun _ x=>x.elim)
theorem Ew(D:Nat)(ao:Option Addr)(len cap:Nat)(zs:Nat->Int)(base:Nat)(n:Int)(w:World)(h:Dc D ao len cap zs base w)(h1:0<n)(h2:n<=1000000) :
 Calls Tryz.prog 35 #[.pointer (some ⟨D,0,none⟩),.int .i64 n] w fun e w'=>∃v:Nat,e=.returned (.int .i64 (v:Int))/\(v:Int)<n/\Dc D ao len cap zs base w'/\au (fun x=>x=D) w w':=by
 obtain⟨a,ha,hb⟩:=h.vk
 refine (QD D ao len cap a zs n w hb h.code ha h1 h2).mono ?_
 rintro e w' ⟨v,a',rfl,hv0,hv1,hat,hD2,k2⟩
 obtain⟨m,rfl⟩:∃m:Nat,v=(m:Int):=⟨v.toNat,by omega⟩
 exact⟨m,rfl,hv1,⟨⟨a',hat,hD2⟩,h.code.at k2 (fun hl b e hx=>by have:=h.old hl b e;have:=h.bD;omega),h.old,h.bD,h.Yr.aC k2 (fun hx=>by have:=h.bD;have:=h.bT;omega),h.bT⟩,k2⟩
def fC(j:Nat):Int:=if j<4 then 0 else (j:Int)-3
def XF:Array Value:=#[.int .i64 0,.int .i64 0,.int .i64 0,.int .i64 0,.int .i64 1,.int .i64 2,.int .i64 3,.int .i64 4,.int .i64 5]
theorem Nl{j:Nat}(hj:j<9):XF[j]?=some (.int .i64 (fC j)):=by
 have:j=0\/j=1\/j=2\/j=3\/j=4\/j=5\/j=6\/j=7\/j=8:=by omega
 rcases this with rfl|rfl|rfl|rfl|rfl|rfl|rfl|rfl|rfl <;> rfl
def KE(D:Nat)(ao:Option Addr)(len cap:Nat)(zs:Nat->Int)(base n:Nat)(w:World)(v:Value)(w':World):Prop :=
 ∃o:iL,v=o.val/\(∃i t,i<2/\t<2/\Oy o n i t)/\Dc D ao len cap zs base w'/\au (fun x=>x=D) w w'
def DJ(D:Nat)(ao:Option Addr)(len cap:Nat)(zs:Nat->Int)(base P bv n:Nat):Prop :=
 ∀(W:World) (acts:Int),Dc D ao len cap zs base W->az W P #[.pointer (some ⟨bv,0,none⟩),.int .i64 n,.int .i64 acts] 37->Calls Tryz.prog 63 #[.pointer (some ⟨P,0,none⟩),.pointer (some ⟨D,0,none⟩)] W fun e w'=>∃v,e=.returned v/\KE D ao len cap zs base n W v w'
end Go.Proofs.YtigaphnafnpfnaaGreatDoor
