import Derived.Test.YtigaphnafnpfnaaGreatDoorQVV21
set_option linter.unusedVariables false
set_option linter.unusedSimpArgs false
set_option maxHeartbeats 8000000
set_option maxRecDepth 100000
namespace Go.Proofs.YtigaphnafnpfnaaGreatDoor
open Go.RowKit
def HS(V:aQ):Prop:=∀i,i<V.nb->∀s,s<2->dX (fG V.om) ((V.B i).n s) ((V.B i).h s)/\qf ((V.B i).n s) ((V.B i).h s)/\∀k,k<(V.B i).n s->(V.om ((V.B i).h s k)).side=(s:Int)
structure dK(V V':aQ):Prop where
 nb:V'.nb=V.nb
 bk:∀i,i<V.nb->V'.bk i=V.bk i
 sym:∀i,i<V.nb->(V'.B i).sym=(V.B i).sym
 tK:∀i,i<V.nb->(V'.B i).places=(V.B i).places
 mem:∀i,i<V.nb->∀s,s<2->∀x,Mem ((V'.B i).n s) ((V'.B i).h s) x↔Mem ((V.B i).n s) ((V.B i).h s) x
 aU:V'.aU=V.aU
 no:V'.no=V.no
 om:∀x,VL V x->V'.om x=V.om x
 tr:V'.lg.tr=V.lg.tr
 day:V'.lg.day=V.lg.day
 tb:V'.lm.tb=V.lm.tb
theorem dK.refl(V:aQ):dK V V:=⟨rfl,fun _ _=>rfl,fun _ _=>rfl,fun _ _=>rfl,fun _ _ _ _ _=>Iff.rfl,rfl,rfl,fun _ _=>rfl,rfl,rfl,rfl⟩
theorem dK.vl{V V':aQ}(h:dK V V')(x:Nat):VL V' x↔VL V x:=by unfold VL;rw[h.aU]
theorem dK.trans{V V' V2:aQ}(h:dK V V')(h':dK V' V2):dK V V2:=by
 have e:=h.nb
 exact⟨h'.nb.trans h.nb,fun i hi=>(h'.bk i (by omega)).trans (h.bk i hi),fun i hi=>(h'.sym i (by omega)).trans (h.sym i hi),fun i hi=>(h'.tK i (by omega)).trans (h.tK i hi),fun i hi s hs x=>(h'.mem i (by omega) s hs x).trans (h.mem i hi s hs x),h'.aU.trans h.aU,h'.no.trans h.no,fun x hx=>(h'.om x ((h.vl x).2 hx)).trans (h.om x hx),h'.tr.trans h.tr,h'.day.trans h.day,h'.tb.trans h.tb⟩
theorem dK.symm{V V':aQ}(h:dK V V'):dK V' V:=by
 have e:=h.nb
 exact⟨h.nb.symm,fun i hi=>(h.bk i (by omega)).symm,fun i hi=>(h.sym i (by omega)).symm,fun i hi=>(h.tK i (by omega)).symm,fun i hi s hs x=>(h.mem i (by omega) s hs x).symm,h.aU.symm,h.no.symm,fun x hx=>(h.om x ((h.vl x).1 hx)).symm,h.tr.symm,h.day.symm,h.tb.symm⟩
theorem dK.gw{V V':aQ}{M:Int}(h:dK V V')(hs:HS V')(g:GW V M):GW V' M:=by
 have e:=h.nb
 refine⟨fun i hi=>?_,fun i j hi hj he=>?_,fun x hx=>?_,fun x hx=>?_,fun x hx=>?_⟩
 ·have hi':i<V.nb:=by omega
  have gb:=g.gb i hi'
  refine⟨rfl,fun s hs x=>?_,fun s h2=>(hs i hi s h2).1,fun s h2=>(hs i hi s h2).2.1,fun x y hx hy=>?_⟩
  ·rw[h.mem i hi' s hs x,gb.mem s hs x,h.sym i hi']
   constructor
   ·rintro⟨a,b⟩
    rw[h.om x a]
    exact⟨(h.vl x).2 a,b⟩
   ·rintro⟨a,b⟩
    have a':=(h.vl x).1 a
    rw[h.om x a']at b
    exact⟨a',b⟩
  ·have hx':=(h.mem i hi' 0 (by omega) x).1 hx
   have hy':=(h.mem i hi' 1 (by omega) y).1 hy
   rw[h.om x ((gb.mem 0 (by omega) x).1 hx').1,h.om y ((gb.mem 1 (by omega) y).1 hy').1]
   exact gb.gK x y hx' hy'
 ·rw[h.sym i (by omega),h.sym j (by omega)]at he
  exact g.kM i j (by omega) (by omega) he
 ·have hx':=(h.vl x).1 hx
  rw[h.om x hx']
  exact g.q x hx'
 ·have hx':=(h.vl x).1 hx
  obtain⟨i,hi,e'⟩:=g.sym x hx'
  exact⟨i,by omega,by rw[h.om x hx',h.sym i hi];exact e'⟩
 ·have hx':=(h.vl x).1 hx
  rw[h.om x hx']
  exact g.side x hx'
theorem GW.hs{V:aQ}{M:Int}(g:GW V M):HS V:=fun i hi s h2=>⟨(g.gb i hi).heap s h2,(g.gb i hi).inj s h2,fun k hk=>(g.gb i hi).side h2 hk⟩
theorem dK.abP{p:Nat->Nat}{V V':aQ}{S:RS}{N N':Nat}(h:dK V V')(hs:HS V')(g:di p V S N)(hN:N<=N')(htp:V'.lg.tp.length<=300 * N')(hna:V'.lg.ud+V'.lg.na<=N'):di p V' S N':=by
 have e:=h.nb
 have vl:∀k,k<S.l.length->VL V (p k):=fun k hk=>⟨_,g.aU k hk⟩
 have pb:=g.CZ
 have ps:=g.Ox
 have tn:=g.uV
 refine⟨(h.gw hs g.gw).mono (qI hN),h.nb.trans g.nb,fun i hi=>?_,h.no.trans g.no,fun k hk=>by rw[h.aU];exact g.aU k hk,fun id b hb=>g.yz id b (by rw[<-h.aU];exact hb),g.inj,fun k hk=>by rw[h.om _ (vl k hk)];exact g.same k hk,fun a b ha hb=>by rw[h.om _ (vl a ha),h.om _ (vl b hb)];exact g.place a b ha hb,g.vw,fun k hk ho i hi hsy=>?_,g.Ll,fun i hi=>?_,⟨ps.1,by omega⟩,h.tr.trans g.tr,h.day.trans g.day,by rw[h.tr];omega,htp,hna,by rw[h.no];exact g.gp,by rw[h.nb];exact g.QB,g.sK⟩
 ·rw[h.sym i (by omega)];exact g.sym i (by omega)
 ·rw[h.sym i (by omega)]at hsy
  rw[h.om _ (vl k hk),h.tK i (by omega)]
  exact g.Lj k hk ho i (by omega) hsy
 ·have:=pb i (by omega)
  rw[h.tK i (by omega)]
  exact⟨this.1,by omega⟩
open Go.RowKit Go.Maps
theorem dN.XX{w w':World}{bv bm bo b:Nat}{V:aQ}{o':Ord}{ix:Int}(R:dN w bv bm bo V)(ho:df w b (V.om b) ix)(k:au (fun x=>x=b) w w')(ho':df w' b o' ix)(hid:o'.id=(V.om b).id):dN w' bv bm bo { V with om:=aN V.om b o' }:=by
 obtain⟨fB,mB,oK,sF⟩:=R.ik
 obtain⟨fO,mO,tZ⟩:=R.fD
 refine⟨R.aO.aC k (fun e=>az.ne R.dA ho (by decide) e) (fun y hy e=>?_),⟨fB,mB.aC k (mB.ne ho),oK,sF⟩,⟨fO,mO.aC k (mO.ne ho),tZ⟩,R.E5,fun i hi=>(R.aW i hi).aN ho k ho',fun id x hx=>?_,R.mem,R.qL,R.lZ,R.gp⟩
 ·subst e
  exact R.aO.aO.ne ho (by decide) (by decide) (by decide) (by decide) (by decide) hy
 ·obtain⟨e1,jx,hx'⟩:=R.bg id x hx
  by_cases e:x=b
  ·subst e
   simp only[aj]
   exact⟨by rw[hid];exact e1,ix,ho'⟩
  ·simp only[ah _ _ e]
   exact⟨e1,jx,k.aB hx' e⟩
theorem Uz(bv bm bo b H:Nat)(o:Ord)(V:aQ)(w:World)(R:dN w bv bm bo V)(hb:VL V b)(hid:o.id=(V.om b).id)(hn:wQ w H b o) :
 Calls Tryz.prog 151 #[dn (H+1),dn H] w fun e w'=>e=.returned (.tuple #[])/\dN w' bv bm bo { V with om:=aN V.om b { o with place:=(V.om b).place } }/\au (fun x=>x=b) w w':=by
 obtain⟨id,Xh⟩:=hb
 obtain⟨_,ix,ho⟩:=R.bg id b Xh
 refine (QF b H o (V.om b) ix w ho hn).mono ?_
 rintro e w' ⟨rfl,h1,h2⟩
 exact⟨rfl,R.XX ho h2 h1 hid,h2⟩
theorem Qp(bv bm bo b H i s:Nat)(V:aQ)(w:World)(R:dN w bv bm bo V)(hi:i<V.nb)(hs:s<2)(hb:VL V b)(hside:(V.om b).side=(s:Int))(hout:∀j,j<V.nb->∀t,t<2->∀k,k<(V.B j).n t->(V.B j).h t k≠b)(hn:(V.B i).n s<1000)(hp:uY w H (V.bk i) b) :
 Calls Tryz.prog 117 #[dn H,dn (H+1)] w fun e w'=>e=.returned (.tuple #[])/\∃g cap',dN w' bv bm bo { V with B:=aN V.B i ((V.B i).push V.om s b g cap') }/\au (fun x=>x=V.bk i\/x=b\/dC (V.B i) s x) w w'/\∀x,dI bv bm bo { V with B:=aN V.B i ((V.B i).push V.om s b g cap') } x->dI bv bm bo V x\/w.heap.size<=x:=by
 have m:=R.qQ hi
 refine (Um (V.bk i) b s H (V.B i) V.om (VL V) w m hb hp hs hside (hout i hi) hn).mono ?_
 rintro e w' ⟨rfl,g,cap',m',k',hg⟩
 have hap:nM V i b:=fun j hj hne t ht h=>by
  rcases h with h|⟨k,hk,e⟩
  ·obtain⟨id,hid⟩:=hb
   obtain⟨_,ix,ho⟩:=R.bg id b hid
   exact ((R.aW j hj).side t ht).ne ho (by decide) h
  ·exact hout j hj t ht k hk e.symm
 have hN:=Next.of (V:=V) R hi (B':=(V.B i).push V.om s b g cap') (dG:=V.om) (G':=V.lg) (bH:=V.lm) (fun V2=>V2={ V with B:=aN V.B i ((V.B i).push V.om s b g cap') }) m' (R.aO.jg k' (fun x h=>m.fZ (by
  rcases h with h|h|h
  ·exact .inl h
  ·exact .inr (.inl (by rw[h];exact hb))
  ·exact .inr (.inr ⟨s,hs,h⟩)))) (fun x hx=>.inl hx) k' (fun x hx=>by
  rcases hx with h|h|h
  ·exact .inr (.inr (.inl h))
  ·exact .inr (.inr (.inr (.inr (by rw[h];exact⟨hb,hap⟩))))
  ·exact .inr (.inr (.inr (.inl ⟨s,hs,h⟩)))) (fun _ _ _ _ _ _ _=>rfl) (fun _=>rfl) rfl (fun t ht x hx=>?_) rfl
 ·obtain⟨V2,R2,rfl,k2,f2⟩:=hN
  exact⟨rfl,g,cap',R2,k',f2⟩
 ·by_cases e:t=s
  ·subst e
   rcases hx with hx|⟨k,hk,rfl⟩
   ·simp only[Bk.push,aj,gG,Option.map_some,Option.some.injEq]at hx
    rcases hg with h|h
    ·exact .inl ⟨t,ht,.inl (by rw[h,hx])⟩
    ·exact .inr (.inr (by omega))
   ·simp only[Bk.push,aj]at hk ⊢
    rcases (iP (lt:=fG V.om) ((V.B i).h t) b _).1 ⟨k,hk,rfl⟩ with⟨k',hk',e'⟩|e'
    ·exact .inl ⟨t,ht,.inr ⟨k',hk',e'⟩⟩
    ·rw[e'];exact .inr (.inl ⟨hb,hap⟩)
  ·refine .inl ⟨t,ht,?_⟩
   rcases hx with hx|⟨k,hk,rfl⟩
   ·simp only[Bk.push,ah _ _ e]at hx;exact .inl hx
   ·simp only[Bk.push,ah _ _ e]at hk ⊢;exact .inr ⟨k,hk,rfl⟩
attribute [local go_sem ↓] Go.wp_at_zero Go.wp_at_succ
theorem dN.aac{w w':World}{bv bm bo x:Nat}{V:aQ}(R:dN w bv bm bo V)(k:au (fun y=>y=x) w w')(hx:¬dI bv bm bo V x):dN w' bv bm bo V:=by
 obtain⟨gB,nB,g1,g2⟩:=R.ik
 obtain⟨gO,nO,g3⟩:=R.fD
 have nf:∀y,dI bv bm bo V y->¬y=x:=fun y h e=>hx (e▸h)
 exact⟨R.aO.aC k (nf _ (.inl rfl)) (fun y hy=>nf y (.inr (.inr (.inr (.inr (.inr hy)))))),⟨gB,nB.aC k (nf _ (.inr (.inl rfl))),g1,g2⟩,⟨gO,nO.aC k (nf _ (.inr (.inr (.inl rfl)))),g3⟩,R.E5,fun j hj=>(R.aW j hj).aC k (fun y hy=>nf y (by
  rcases hy with h|⟨z,hz,h⟩
  ·exact .inr (.inr (.inr (.inl ⟨j,hj,.inl h⟩)))
  ·exact .inr (.inr (.inr (.inl ⟨j,hj,.inr ⟨z,hz,h⟩⟩))))),fun id y h=>⟨(R.bg id y h).1,(R.bg id y h).2.elim fun ix ho=>⟨ix,k.aB ho (nf y (.inr (.inr (.inr (.inr (.inl ⟨id,h⟩))))))⟩⟩,R.mem,R.qL,R.lZ,R.gp⟩
structure ExV(V:aQ)(M:Int)(b:Nat)(V':aQ):Prop where
 gw:GW V' M
 aU:V'.aU=V.aU
 no:V'.no=V.no
 nb:V'.nb=V.nb
 kE:∀j,(V'.B j).sym=(V.B j).sym
 OY:∀j,(V'.B j).places=(V.B j).places
 om:V'.om=aN V.om b (gm (V.om b))
theorem Zk{V:aQ}{M:Int}(g:GW V M)(hM:M<=1000000000000000){i b s k:Nat}{G':Lg}{bH:Lm}(hi:i<V.nb)(hs:s<2)(hk:k<(V.B i).n s)(hkb:(V.B i).h s k=b):ExV V M b { V.turn i ((V.B i).leave V.om s k) (aN V.om b (gm (V.om b))) with lg:=G',lm:=bH }:=by
 subst hkb
 have hm:=((g.gb i hi).mem s hs _).1 ⟨k,hk,rfl⟩
 obtain⟨q1,q2⟩:=(g.q _ hm.1).WV hM
 have g2:=g.Qn (o':=gm (V.om ((V.B i).h s k))) hi hs hk rfl rfl q2 q1
 exact⟨⟨g2.gb,g2.kM,g2.q,g2.sym,g2.side⟩,rfl,rfl,rfl,wG (·.sym) rfl,wG (·.places) rfl,rfl⟩
def BM(o:Ord):Ord:=if o.kind=1/\0<o.aK then gm o else o
def wX(day:Int):Tr:=⟨0,⟨#[]⟩,0,0,0,0,day⟩
structure ClV(V:aQ)(M:Int)(V':aQ):Prop where
 gw:GW V' M
 aU:V'.aU=V.aU
 no:V'.no=V.no
 nb:V'.nb=V.nb
 kE:∀j,(V'.B j).sym=(V.B j).sym
 OY:∀j,(V'.B j).places=(V.B j).places
 dH:∀x,(V'.om x).sym=(V.om x).sym/\(V'.om x).side=(V.om x).side/\(V'.om x).id=(V.om x).id/\(V'.om x).filled=(V.om x).filled
 om:∀id x,V.aU id=some x->V'.om x=BM (V.om x)
 tr:V'.lg.tr=V.lg.tr
 tp:V'.lg.tp=V.lg.tp++[⟨(V.lg.tp.length:Int)+1,4,wX V.lg.day⟩]
 day:V'.lg.day=wrap64 (V.lg.day+1)
 na:V'.lg.na=V.lg.na+1
 ud:V'.lg.ud=V.lg.ud
theorem di.RH{p:Nat->Nat}{V V':aQ}{S S':RS}{N:Nat}(h:di p V S N)(gw:GW V' (mN (N+1)))(hnb:V'.nb=V.nb)(hBs:∀j,(V'.B j).sym=(V.B j).sym)(hpl:∀j,(V'.B j).places=(V.B j).places)(hno:V'.no=V.no)(qj:V'.aU=V.aU)
 (hsy:S'.sy=S.sy) (hlen:S'.l.length=S.l.length) (hps:S'.places=S.places) (ht:S'.t=S.t) (hd:S'.day=S.day) (same:∀k,k<S.l.length->lG (V'.om (p k))=lG (ax S'.l k))
 (dH:∀k,k<S.l.length->(ax S'.l k).id=(ax S.l k).id/\(ax S'.l k).sym=(ax S.l k).sym/\(ax S'.l k).place=(ax S.l k).place/\(0<(ax S'.l k).aK->0<(ax S.l k).aK)/\(V'.om (p k)).place=(V.om (p k)).place)
 (htr:V'.lg.tr=V.lg.tr) (htp:V'.lg.tp=V.lg.tp) (hdy:V'.lg.day=V.lg.day) (hna:V'.lg.ud+V'.lg.na=V.lg.ud+V.lg.na+1):di p V' S' (N+1):=by
 refine⟨gw,by rw[hnb,hsy];exact h.nb,fun i hi=>by rw[hsy,hBs i];exact h.sym i (by omega),by rw[hno,hlen];exact h.no,fun k hk=>?_,fun id b hb=>?_,fun a b ha hb=>h.inj a b (by omega) (by omega),fun k hk=>same k (by omega),fun a b ha hb hs h1 h2=>?_,fun a b ha hb hab hs h1 h2=>?_,fun k hk h0 i hi hs=>?_,fun k hk h0=>?_,fun i hi=>?_,?_,by rw[htr,ht];exact h.tr,by rw[hdy,hd];exact h.day,by rw[htr];have:=h.uV;omega,by rw[htp];have:=h.yE;omega,by rw[hna];have:=h.yK;omega,by rw[hno];exact h.gp,by rw[hnb];exact h.QB,fun k hk=>by rw[(dH k (by omega)).1];exact h.sK k (by omega)⟩
 ·rw[qj,(dH k (by omega)).1];exact h.aU k (by omega)
 ·rw[qj]at hb
  obtain⟨k,hk,e1,e2⟩:=h.yz id b hb
  exact⟨k,by omega,by rw[(dH k hk).1];exact e1,e2⟩
 ·obtain⟨_,a2,a3,a4,a5⟩:=dH a (by omega)
  obtain⟨_,b2,b3,b4,b5⟩:=dH b (by omega)
  rw[a5,b5,a3,b3]
  exact h.place a b (by omega) (by omega) (by rw[<-a2,<-b2];exact hs) (a4 h1) (b4 h2)
 ·obtain⟨_,a2,a3,a4,a5⟩:=dH a (by omega)
  obtain⟨_,b2,b3,b4,b5⟩:=dH b (by omega)
  rw[a3,b3]
  exact h.vw a b (by omega) (by omega) hab (by rw[<-a2,<-b2];exact hs) (a4 h1) (b4 h2)
 ·obtain⟨_,a2,a3,a4,a5⟩:=dH k (by omega)
  rw[a5,hpl i]
  exact h.Lj k (by omega) (a4 h0) i (by omega) (by rw[<-hBs i,hs,a2])
 ·obtain⟨_,a2,a3,a4,a5⟩:=dH k (by omega)
  rw[a3,hps]
  exact h.Ll k (by omega) (a4 h0)
 ·rw[hpl i]
  have:=h.CZ i (by omega)
  push_cast;omega
 ·rw[hps]
  have:=h.Ox
  push_cast;omega
theorem di.cO{p:Nat->Nat}{V:aQ}{S:RS}{N:Nat}(h:di p V S N){s:ByteArray}{b:Nat}{bH:Lm}(hfree:∀i,i<V.nb->(V.B i).sym≠s)(h6:V.nb<6):di p (V.cO s b bH) (S.fresh.lists s) (N+1):=by
 have old:∀j,j<V.nb->(V.cO s b bH).B j=V.B j:=fun j hj=>by
  show aN V.B V.nb (kK s) j=V.B j
  exact ah _ _ (by omega)
 have new:(V.cO s b bH).B V.nb=kK s:=aj _ _ _
 have hnb:(V.cO s b bH).nb=V.nb+1:=rfl
 have hl:(S.fresh.lists s).l=S.l:=rfl
 have hsy:(S.fresh.lists s).sy=S.sy++[s]:=rfl
 refine⟨(h.gw.mono (qI (Nat.le_add_right N 1))).cO hfree,by rw[hnb,hsy,h.nb];simp,fun i hi=>?_,h.no,h.aU,h.yz,h.inj,h.same,h.place,h.vw,fun k hk h0 i hi hs=>?_,h.Ll,fun i hi=>?_,?_,h.tr,h.day,?_,?_,?_,h.gp,by rw[hnb];omega,h.sK⟩
 ·by_cases e:i<V.nb
  ·rw[old i e,hsy,List.getElem?_append_left (by rw[<-h.nb];exact e)];exact h.sym i e
  ·obtain rfl:i=V.nb:=by omega
   rw[new,hsy,h.nb,List.getElem?_append_right (Nat.le_refl _)]
   simp[kK]
 ·by_cases e:i<V.nb
  ·rw[old i e]at hs ⊢;exact h.Lj k hk h0 i e hs
  ·obtain rfl:i=V.nb:=by omega
   rw[new]at hs
   exfalso
   obtain⟨j,hj,e2⟩:=h.gw.sym (p k) ((h.vl _).2 ⟨k,hk,rfl⟩)
   have e3:=(fE (h.same k hk)).2.2.1
   exact hfree j hj (by rw[<-e2,e3];exact hs.symm)
 ·by_cases e:i<V.nb
  ·rw[old i e];have:=h.CZ i e;push_cast;omega
  ·obtain rfl:i=V.nb:=by omega
   rw[new]
   show (0:Int)<=0/\(0:Int)<=2 * ((N+1:Nat):Int)
   exact⟨by omega,by omega⟩
 ·have:=h.Ox
  show 0<=S.places/\S.places<=_
  push_cast;omega
 ·have:=h.uV
  show V.lg.tr.length<=_
  omega
 ·have:=h.yE
  show V.lg.tp.length<=_
  omega
 ·have:=h.yK
  show V.lg.ud+(V.lg.na+1)<=_
  omega
theorem di.found{p:Nat->Nat}{V:aQ}{S:RS}{N:Nat}(h:di p V S N)(id:Int):V.aU id=(jX S.l id).map p:=by
 cases hx:jX S.l id with
 | some k =>
   obtain⟨h1,h2⟩:=vS hx
   rw[<-h2]
   exact h.aU k h1
 | none =>
   cases hv:V.aU id with
   | none=>rfl
   | some b =>
     exfalso
     obtain⟨k,hk,e1,e2⟩:=h.yz id b hv
     unfold jX at hx
     rw[List.findIdx?_eq_none_iff]at hx
     have:=hx (ax S.l k) (List.mem_of_getElem? (NC hk))
     simp[e1]at this
theorem sJ(S:RS):S.fresh.l=S.l:=rfl
theorem di.uC{p:Nat->Nat}{V:aQ}{S:RS}{N:Nat}(h:di p V S N)(hN:N<2900000){i s k j:Nat}{ds:List dS}{bH:Lm}(hi:i<V.nb)(hs:s<2)(hk:k<(V.B i).n s)(hj:j<S.l.length)(Oq:p j=(V.B i).h s k) :
 di p { V.turn i ((V.B i).leave V.om s k) (aN V.om ((V.B i).h s k) (fU (V.om ((V.B i).h s k)))) with lg:=V.lg.begun.aV ds,lm:=bH } (S.fresh.uC j) (N+1):=by
 have hM:mN (N+1)<=1000000000000000:=by unfold mN;omega
 have hv:VL V ((V.B i).h s k):=(h.vl _).2 ⟨j,hj,Oq⟩
 have q:=h.gw.q _ hv
 have g:=(h.gw.mono (qI (Nat.le_add_right N 1))).Qn (o':=fU (V.om ((V.B i).h s k))) hi hs hk rfl rfl rfl ((q.mono (qI (Nat.le_add_right N 1))).bQ hM).1
 have nk:∀a,ax (S.fresh.uC j).l a=if a=j then { ax S.l j with bQ:=wrap64 ((ax S.l j).bQ+(ax S.l j).aK),aK:=0 } else ax S.l a:=fun a=>by
  simp only[RS.uC,RS.gX,sJ]
  exact eX hj a
 have EE:∀a,a<S.l.length->a≠j->p a≠(V.B i).h s k:=fun a ha e e2=>e (h.inj a j ha hj (by rw[e2,Oq]))
 refine h.RH ⟨g.gb,g.kM,g.q,g.sym,g.side⟩ rfl (fun a=>?_) (fun a=>?_) rfl rfl rfl (by simp[RS.uC,RS.gX,sJ]) rfl rfl rfl (fun a ha=>?_) (fun a ha=>?_) rfl rfl rfl rfl
 ·show (aN V.B i _ a).sym=_
  by_cases e:a=i
  ·rw[e,aj];rfl
  ·rw[ah _ _ e]
 ·show (aN V.B i _ a).places=_
  by_cases e:a=i
  ·rw[e,aj];rfl
  ·rw[ah _ _ e]
 ·show lG (aN V.om ((V.B i).h s k) (fU (V.om ((V.B i).h s k))) (p a))=_
  rw[nk a]
  by_cases e:a=j
  ·subst e
   rw[Oq,aj,if_pos rfl]
   have:=h.same a ha
   rw[Oq]at this
   show fU (lG (V.om ((V.B i).h s k)))=lG _
   rw[this]
   rfl
  ·rw[ah _ _ (EE a ha e),if_neg e]
   exact h.same a ha
 ·show _/\_/\_/\_/\(aN V.om ((V.B i).h s k) (fU (V.om ((V.B i).h s k))) (p a)).place=_
  rw[nk a]
  by_cases e:a=j
  ·subst e
   rw[Oq,aj,if_pos rfl]
   exact⟨rfl,rfl,rfl,fun h=>absurd h (by simp),rfl⟩
  ·rw[ah _ _ (EE a ha e),if_neg e]
   exact⟨rfl,rfl,rfl,fun h=>h,rfl⟩
theorem EJ{M M':Int}{o:Ord}(q:Qo M o)(hM:M+1000000<=M')(hM':M'<=1000000000000000){af aI:Int}(h1:1<=aI)(h2:aI<=1000000):Qo M' (dP o af aI)/\(dP o af aI).entered=o.entered+aI-o.aK/\wrap64 (wrap64 (o.entered+aI)-o.aK)=o.entered+aI-o.aK:=by
 have a:=q.sum;have b:=q.o0;have c:=q.f0;have d:=q.c0;have e:=q.e0;have f:=q.hi
 have w1:wrap64 (aI-o.aK)=aI-o.aK:=aS (by omega) (by omega)
 have w2:wrap64 (o.entered+(aI-o.aK))=o.entered+(aI-o.aK):=aS (by omega) (by omega)
 have w3:wrap64 (o.entered+aI)=o.entered+aI:=aS (by omega) (by omega)
 have w4:wrap64 (o.entered+aI-o.aK)=o.entered+aI-o.aK:=aS (by omega) (by omega)
 have e1:(dP o af aI).entered=o.entered+aI-o.aK:=by show wrap64 (o.entered+wrap64 (aI-o.aK))=_;rw[w1,w2];omega
 refine⟨⟨?_,by show 0<=aI;omega,c,d,e,by rw[e1];omega⟩,e1,by rw[w3,w4]⟩
 rw[e1]
 show _=aI+o.filled+o.bQ+o.exp
 omega
theorem di.keeps{p:Nat->Nat}{V:aQ}{S:RS}{N:Nat}(h:di p V S N)(hN:N<2900000){i j:Nat}{af aI:Int}{ds:List dS}{bH:Lm}(hj:j<S.l.length)(hpr:af=(V.om (p j)).af)(h1:1<=aI)(h2:aI<=1000000)(h3:0<(V.om (p j)).aK) :
 di p { V.turn i (V.B i) (aN V.om (p j) (dP (V.om (p j)) af aI)) with lg:=V.lg.begun.aV ds,lm:=bH } (S.fresh.gX j (XV (ax S.l j) aI)) (N+1):=by
 have hM:mN (N+1)<=1000000000000000:=by unfold mN;omega
 have hMN:mN N+1000000<=mN (N+1):=by unfold mN;push_cast;omega
 have hv:VL V (p j):=(h.vl _).2 ⟨j,hj,rfl⟩
 have q:=h.gw.q _ hv
 obtain⟨q1,q2,q3⟩:=EJ (af:=af) q hMN hM h1 h2
 have g:=h.gw.Qj (o':=dP (V.om (p j)) af aI) (qI (Nat.le_add_right N 1)) hv rfl rfl hpr rfl ⟨fun _=>h3,fun _=>by show 0<aI;omega⟩ q1 i
 obtain⟨e1,e2,e3,e4,e5,e6,e7,e8,e9,e10,e11,e12⟩:=fE (h.same j hj)
 have nk:∀a,ax (S.fresh.gX j (XV (ax S.l j) aI)).l a=if a=j then XV (ax S.l j) aI else ax S.l a:=fun a=>by
  simp only[RS.gX,sJ]
  exact eX hj a
 have EE:∀a,a<S.l.length->a≠j->p a≠p j:=fun a ha e e2=>e (h.inj a j ha hj e2)
 have hB:∀a,aN V.B i (V.B i) a=V.B a:=fun a=>by
  by_cases e:a=i
  ·rw[e,aj]
  ·rw[ah _ _ e]
 refine h.RH ⟨g.gb,g.kM,g.q,g.sym,g.side⟩ rfl (fun a=>?_) (fun a=>?_) rfl rfl rfl (by simp[RS.gX,sJ]) rfl rfl rfl (fun a ha=>?_) (fun a ha=>?_) rfl rfl rfl rfl
 ·show (aN V.B i (V.B i) a).sym=_
  rw[hB a]
 ·show (aN V.B i (V.B i) a).places=_
  rw[hB a]
 ·show lG (aN V.om (p j) (dP (V.om (p j)) af aI) (p a))=_
  rw[nk a]
  by_cases e:a=j
  ·subst e
   rw[aj,if_pos rfl]
   have:=h.same a ha
   show ({ lG (V.om (p a)) with af:=af,entered:=(dP (V.om (p a)) af aI).entered,aK:=aI }:Ord)={ lG (ax S.l a) with entered:=wrap64 (wrap64 ((ax S.l a).entered+aI)-(ax S.l a).aK),aK:=aI }
   rw[q2,<-e8,<-e9,q3,this,hpr,e6]
   rfl
  ·rw[ah _ _ (EE a ha e),if_neg e]
   exact h.same a ha
 ·show _/\_/\_/\_/\(aN V.om (p j) (dP (V.om (p j)) af aI) (p a)).place=_
  rw[nk a]
  by_cases e:a=j
  ·subst e
   rw[aj,if_pos rfl]
   exact⟨rfl,rfl,rfl,fun _=>by rw[<-e9];exact h3,rfl⟩
  ·rw[ah _ _ (EE a ha e),if_neg e]
   exact⟨rfl,rfl,rfl,fun h=>h,rfl⟩
theorem di.oG{p:Nat->Nat}{V:aQ}{S:RS}{N:Nat}(h:di p V S N)(hN:N<2900000){ib s t k j g cap':Nat}{af aI:Int}{bH:Lm}(hib:ib<V.nb)(hs:s<2)(ht:t=1-s)(hk:k<(V.B ib).n t)(hj:j<S.l.length)(Oq:(V.B ib).h t k=p j)(h1:1<=aI)(h2:aI<=1000000) :
 qN (p j) s ⟨(V.B ib).leave V.om t k,aN V.om (p j) (dP (V.om (p j)) af aI),V.lg.dE (p j) (V.om (p j))⟩ /\
 ∃c' f,DC j f ⟨S.fresh.gX j (EI (ax S.l j) af aI),aI,0,0,0⟩ c'/\f<=201/\di p (V.oG ib (p j) s t k g cap' (dP (V.om (p j)) af aI) bH) (yA j c') (N+1) /\
  jE (dP (V.om (p j)) af aI) ((V.oG ib (p j) s t k g cap' (dP (V.om (p j)) af aI) bH).om (p j)) V.tr (V.oG ib (p j) s t k g cap' (dP (V.om (p j)) af aI) bH).tr=Yq j c'/\(V.oG ib (p j) s t k g cap' (dP (V.om (p j)) af aI) bH).lg.tp=lY V.lg.tp (yA j c').told/\(yA j c').told.length<=201:=by
 have hM:mN (N+1)<=1000000000000000:=by unfold mN;omega
 have hMN:mN N+1000000<=mN (N+1):=by unfold mN;push_cast;omega
 have t2:t<2:=by omega
 have hts:t≠s:=by omega
 have hv:VL V (p j):=(h.vl _).2 ⟨j,hj,rfl⟩
 have q0:=h.gw.q _ hv
 obtain⟨q1,q2,q3⟩:=EJ (af:=af) q0 hMN hM h1 h2
 obtain⟨gw',run,iv,hBs,gi⟩:=h.gw.oG (g:=g) (cap':=cap') (bH:=bH) (qI (Nat.le_add_right N 1)) hM hib hs ht hk Oq (o':=dP (V.om (p j)) af aI) rfl rfl q1
 refine⟨iv,?_⟩
 obtain⟨st0,jo⟩:∃st0:MS,st0=⟨(V.B ib).leave V.om t k,aN V.om (p j) (dP (V.om (p j)) af aI),V.lg.dE (p j) (V.om (p j))⟩:=⟨_,rfl⟩
 rw[<-jo]at run iv
 have hm:=((h.gw.gb ib hib).mem t t2 _).1 ⟨k,hk,rfl⟩
 rw[Oq]at hm
 obtain⟨e1,e2,e3,e4,e5,e6,e7,e8,e9,e10,e11,e12⟩:=fE (h.same j hj)
 have EE:∀a,a<S.l.length->a≠j->p a≠p j:=fun a ha e e2=>e (h.inj a j ha hj e2)
 have lW:∀a,a<S.l.length->a≠j->aN V.om (p j) (dP (V.om (p j)) af aI) (p a)=V.om (p a):=fun a ha e=>ah _ _ (EE a ha e)
 have nk:∀a,ax (S.fresh.gX j (EI (ax S.l j) af aI)).l a=if a=j then EI (ax S.l j) af aI else ax S.l a:=fun a=>by
  simp only[RS.gX,sJ]
  exact eX hj a
 have nl:∀a,a≠j->ax (S.fresh.gX j (EI (ax S.l j) af aI)).l a=ax S.l a:=fun a e=>by rw[nk a,if_neg e]
 have nn:ax (S.fresh.gX j (EI (ax S.l j) af aI)).l j=EI (ax S.l j) af aI:=by rw[nk j,if_pos rfl]
 have len0:(S.fresh.gX j (EI (ax S.l j) af aI)).l.length=S.l.length:=by simp[RS.gX,sJ]
 have GL:((V.B ib).leave V.om t k).n s=(V.B ib).n s/\((V.B ib).leave V.om t k).h s=(V.B ib).h s:=by simp only[Bk.leave];rw[ah _ _ (fun e=>hts e.symm),ah _ _ (fun e=>hts e.symm)];exact⟨rfl,rfl⟩
 have VT:(ax S.l j).side=(t:Int):=by rw[<-e4];exact hm.2.2.1
 have XY:ve p (p j) j s ((V.B ib).leave V.om t k) (aN V.om (p j) (dP (V.om (p j)) af aI)) (S.fresh.gX j (EI (ax S.l j) af aI)).l (V.B ib).sym:=by
  refine⟨by omega,rfl,fun a c ha hc e=>h.inj a c (by omega) (by omega) e,fun a ha hne=>?_,?_,fun a c ha hc hna hnc hsy g1 g2=>?_,fun a c ha hc hna hnc hac hsy g1 g2=>?_,fun x=>?_,?_,?_,fun a ha=>?_,fun a ha=>?_⟩
  ·rw[len0]at ha
   rw[lW a ha hne,nl a hne]
   exact h.same a ha
  ·rw[aj,nn]
   have:=h.same j hj
   show ({ lG (V.om (p j)) with af:=af,entered:=(dP (V.om (p j)) af aI).entered,aK:=0 }:Ord)={ lG (ax S.l j) with entered:=wrap64 (wrap64 ((ax S.l j).entered+aI)-(ax S.l j).aK),aK:=0,af:=af }
   rw[q2,<-e8,<-e9,q3,this]
  ·rw[len0]at ha hc
   rw[nl a hna,nl c hnc]at hsy ⊢
   rw[nl a hna]at g1
   rw[nl c hnc]at g2
   rw[lW a ha hna,lW c hc hnc]
   exact h.place a c ha hc hsy g1 g2
  ·rw[len0]at ha hc
   rw[nl a hna,nl c hnc]at hsy ⊢
   rw[nl a hna]at g1
   rw[nl c hnc]at g2
   exact h.vw a c ha hc hac hsy g1 g2
  ·rw[GL.1,GL.2,(h.gw.gb ib hib).mem s hs x,h.vl x,len0]
   constructor
   ·rintro⟨⟨a,ha,rfl⟩,a1,a2,a3⟩
    obtain⟨_,_,k3,k4,_,_,_,_,k9,_⟩:=fE (h.same a ha)
    have hne:a≠j:=fun e=>by
     subst e
     rw[k4,VT]at a2
     omega
    refine⟨a,ha,hne,rfl,?_,?_,?_⟩ <;> rw[nl a hne]
    ·rw[<-k3];exact a1
    ·rw[<-k4];exact a2
    ·rw[<-k9];exact a3
   ·rintro⟨a,ha,hne,e,a1,a2,a3⟩
    obtain⟨_,_,k3,k4,_,_,_,_,k9,_⟩:=fE (h.same a ha)
    rw[nl a hne]at a1 a2 a3
    subst e
    exact⟨⟨a,ha,rfl⟩,by rw[k3];exact a1,by rw[k4];exact a2,by rw[k9];exact a3⟩
  ·rw[nn]
   show (ax S.l j).sym=_
   rw[<-e3];exact hm.2.1
  ·rw[nn]
   show (ax S.l j).side=_
   rw[VT];omega
  ·rw[len0]at ha
   by_cases e:a=j
   ·subst e;rw[nn];exact h.side ha
   ·rw[nl a e];exact h.side ha
  ·rw[len0]at ha
   by_cases e:a=j
   ·subst e;rw[nn];exact Int.le_refl _
   ·rw[nl a e];exact (h.aK ha).1
 have hcs:=h.count hib hs
 have abt:=h.gp
 have e03:st0.B.n s=(V.B ib).n s:=by rw[jo];exact GL.1
 have hmu:mu (p j) s st0<=201:=by
  unfold mu
  rw[e03]
  split <;> omega
 have hf1:(V.om (p j)).filled<=1000000000000000:=by have:=q0.f0;have:=q0.o0;have:=q0.c0;have:=q0.e0;have:=q0.sum;have:=q0.hi;omega
 have hR:qV p (p j) j s (V.B ib).sym V.lg.tp V.tr (V.om (p j)).filled st0 ⟨S.fresh.gX j (EI (ax S.l j) af aI),aI,0,0,0⟩:=by
  rw[jo]
  refine⟨XY,?_,h.tr,rfl,h.day,rfl,?_,?_,?_,Int.le_refl _,q0.f0,hf1⟩
  ·simp only[aj];rfl
  ·simp only[aj]
   show (0:Int)=(V.om (p j)).filled-(V.om (p j)).filled
   omega
  ·show (0:Int)=(V.lg.tr.length:Int)-V.lg.tr.length
   omega
  ·exact (if_pos (show MS.tr ⟨(V.B ib).leave V.om t k,aN V.om (p j) (dP (V.om (p j)) af aI),V.lg.dE (p j) (V.om (p j))⟩=V.tr from rfl)).symm
 have hqx:∀x,(x=p j\/kX st0 s x)->Qo (mN (N+1)) (st0.om x):=fun x hx=>by
  rw[jo]at hx ⊢
  simp only
  by_cases e:x=p j
  ·rw[e,aj];exact q1
  ·rw[ah _ _ e]
   rcases hx with e2|e2
   ·exact absurd e2 e
   ·have e3:Mem ((V.B ib).n s) ((V.B ib).h s) x:=by have:=e2;simp only[kX]at this;rw[GL.1,GL.2]at this;exact this
    exact (h.gw.q x (((h.gw.gb ib hib).mem s hs x).1 e3).1).mono (qI (Nat.le_add_right N 1))
 have hheap:dX (fG st0.om) (st0.B.n s) (st0.B.h s):=by rw[jo];exact gi.heap s hs
 have abC:=h.uV
 have abB:=h.yE
 have Js:st0.tr=V.tr:=by rw[jo];rfl
 have Jp:V.tr=(V.lg.tr.length:Int):=rfl
 obtain⟨c',he,hR',hsy,hpl,hln,hpc,htl,hol⟩:=qV.Zj hM hs (by rw[Jp];omega) (mu (p j) s st0) st0 _ hR iv hheap hqx (Nat.le_refl _) (by rw[Js,Jp];omega)
 change qV _ _ _ _ _ _ _ _ (mF (p j) s st0) c' at hR'
 have P5:c'.S.sy=S.sy:=hsy
 have hpl':c'.S.places=S.places:=hpl
 rw[len0]at hln
 have q:=run.q (p j) (.inl rfl)
 have hlen:=JO (oc:=p j) (s:=s) (st:=st0)
 have e0:st0.lg.tr.length=V.lg.tr.length/\st0.lg.tp.length=V.lg.tp.length/\st0.lg.na=V.lg.na+1/\st0.lg.ud=V.lg.ud:=by rw[jo];exact⟨rfl,rfl,rfl,rfl⟩
 obtain⟨e01,e02,e04,e05⟩:=e0
 rw[e01,e02,e03]at hlen
 have idj:∀a,a<S.l.length->(ax c'.S.l a).id=(ax S.l a).id:=fun a ha=>by
  by_cases e:a=j
  ·subst e
   have f1:=(fE hR'.lu.self).1
   simp only at f1
   rw[<-f1,(run.dH (p a)).1,jo]
   simp only[aj]
   exact e1
  ·have f1:=(fE (hR'.lu.same a (by rw[hln];exact ha) e)).1
   rw[<-f1,(run.dH (p a)).1,jo]
   simp only
   rw[lW a ha e]
   exact (fE (h.same a ha)).1
 have old:∀a,a<S.l.length->a≠j->(ax c'.S.l a).sym=(ax S.l a).sym/\((mF (p j) s st0).om (p a)).place=(V.om (p a)).place/\(0<(ax c'.S.l a).aK->0<(ax S.l a).aK)/\(ax c'.S.l a).place=(ax S.l a).place:=fun a ha hne=>by
  obtain⟨f1,_,f3,_,_,_,_,_,f9,_⟩:=fE (hR'.lu.same a (by rw[hln];exact ha) hne)
  obtain⟨g1,_,g3,_,_,_,_,g8,_⟩:=run.dH (p a)
  have e1:st0.om (p a)=V.om (p a):=by rw[jo];exact lW a ha hne
  rw[e1]at g1 g3 g8
  obtain⟨k1,_,k3,_,_,_,_,_,k9,_⟩:=fE (h.same a ha)
  refine⟨by rw[<-f3,g3,k3],g8,fun h0=>?_,by rw[hpc a];exact congrArg Ord.place (nl a hne)⟩
  rw[<-f9]at h0
  rw[<-k9]
  by_cases hm:kX st0 s (p a)
  ·rw[jo]at hm
   have e3:Mem ((V.B ib).n s) ((V.B ib).h s) (p a):=by have:=hm;simp only[kX]at this;rw[GL.1,GL.2]at this;exact this
   exact (((h.gw.gb ib hib).mem s hs _).1 e3).2.2.2
  ·rw[run.kQ _ (EE a ha hne) hm,e1]at h0
   exact h0
 refine⟨c',mu (p j) s st0,he,hmu,?_,?_,?_,?_⟩
 ·refine di.QJ (V:=V) (g:=g) (cap':=cap') (t:=t) (by omega) hib hR' q gw' rfl (by rw[jo];rfl) (by rw[jo];rfl) (by rw[jo];rfl) hBs (by unfold mF;rw[oL,jo];rfl) h.CZ (by rw[P5];exact h.nb) (by rw[P5];exact h.sym) (by rw[hln,<-h.no];rfl) (fun a ha=>?_) (fun id b2 hb2=>?_) (fun a ha hne h0 i hi hsj=>?_) (fun a ha hne h0=>?_) (by rw[hpl'];exact h.Ox) (by omega) (by omega) (by rw[VJ,VI,e04,e05];have:=h.yK;omega) (by show V.no<=200;omega) h.QB (fun a ha=>by rw[hln]at ha;rw[idj a ha];exact h.sK a ha)
  ·rw[hln]at ha
   rw[idj a ha]
   exact h.aU a ha
  ·obtain⟨a,ha,x1,x2⟩:=h.yz id b2 hb2
   exact⟨a,by rw[hln];exact ha,by rw[idj a ha];exact x1,x2⟩
  ·rw[hln]at ha
   obtain⟨o2,o3,o4,_⟩:=old a ha hne
   rw[o3]
   rw[o2]at hsj
   exact h.Lj a ha (o4 h0) i hi hsj
  ·rw[hln]at ha
   obtain⟨_,_,o4,o5⟩:=old a ha hne
   rw[o5,hpl']
   exact h.Ll a ha (o4 h0)
 ·have hrep:=hR'.report hM q (dP (V.om (p j)) af aI) rfl (by rw[run.bQ,jo];simp only[aj]) (by unfold MS.tr;omega) (by rw[Jp];omega)
  rw[<-hrep,jo]
  rfl
 ·obtain⟨_,_,_,_,_,_,f7,_⟩:=hR'.fin hM q
  rw[f7,<-hR'.tp,jo]
  rfl
 ·obtain⟨_,_,_,_,_,_,f7,_⟩:=hR'.fin hM q
  rw[f7]
  have abx:c'.S.told.length<=0+mu (p j) s st0:=hol
  omega
theorem di.fV{p:Nat->Nat}{V:aQ}{S:RS}{N:Nat}(h:di p V S N)(s:ByteArray):kN S.sy s=true↔∃i,i<V.nb/\(V.B i).sym=s:=by
 constructor
 ·intro hx
  rw[kN,List.any_eq_true]at hx
  obtain⟨x,hx,e⟩:=hx
  simp only[decide_eq_true_eq]at e
  subst e
  obtain⟨i,hi⟩:=List.getElem?_of_mem hx
  have hl:=(List.getElem?_eq_some_iff.1 hi).1
  rw[<-h.nb]at hl
  have:=h.sym i hl
  rw[hi]at this
  exact⟨i,hl,(Option.some.inj this).symm⟩
 ·rintro⟨i,hi,rfl⟩
  exact sW (h.sym i hi)
theorem below(f:Nat->Nat):∀n,∃b,∀k,k<n->f k<b
 | 0=>⟨0,fun k hk=>by omega⟩
 | n+1=>by
   obtain⟨b,hb⟩:=below f n
   refine⟨b+f n+1,fun k hk=>?_⟩
   by_cases e:k=n
   ·subst e;omega
   ·have:=hb k (by omega);omega
theorem di.free{p:Nat->Nat}{V:aQ}{S:RS}{N:Nat}(h:di p V S N):∃b,¬VL V b:=by
 obtain⟨b,hb⟩:=below p S.l.length
 refine⟨b,fun hv=>?_⟩
 obtain⟨k,hk,e⟩:=(h.vl b).1 hv
 have:=hb k hk
 omega
theorem xO{l l':List Ord}(o:iL):∀n,(∀k,k<n->ax l k=ax l' k)->jY l o n=jY l' o n
 | 0,_=>rfl
 | n+1,h=>by
   have ih:=xO o n (fun k hk=>h k (by omega))
   unfold jY
   rw[ih,h n (by omega)]
   cases hb:jY l' o n with
   | none=>rfl
   | some b =>
     have hlt:=yZ l' o n b hb
     simp only
     rw[h b (by omega)]
theorem di.gK{p:Nat->Nat}{V:aQ}{S:RS}{N:Nat}(h:di p V S N){o:iL}{ib s t:Nat}(hib:ib<V.nb)(hs:s<2)(ht:t=1-s)(dM:o.sym=(V.B ib).sym)(hside:o.side=(t:Int)):(dF (V.B ib) V.om o s).isSome=(gz S.l o).isSome:=by
 obtain⟨b,hb⟩:=h.free
 have hc:=h.Vs hib hs ht dM hside hb
 have hm:∀k,k<(V.B ib).n s->VL V ((V.B ib).h s k):=fun k hk=>(((h.gw.gb ib hib).mem s hs _).1 ⟨k,hk,rfl⟩).1
 have hh:dX (fG (aN V.om b (aJ o))) ((V.B ib).n s) ((V.B ib).h s):=((h.gw.gb ib hib).heap s hs).kJ (fun j k hj hk=>by
  have h1:(V.B ib).h s j≠b:=fun e=>hb (e▸hm j hj)
  have h2:(V.B ib).h s k≠b:=fun e=>hb (e▸hm k hk)
  unfold fG
  rw[ah _ _ h1,ah _ _ h2])
 have CB:=hc.BI hs hh
 have l0:(S.fresh.add o).l=S.l++[Et o]:=rfl
 rw[l0]at CB
 rw[mM,aj]at CB
 have e1:cZ (Et o)=o:=rfl
 have e2:cZ (aJ o)=o:=rfl
 rw[e1,e2]at CB
 have e3:gz (S.l++[Et o]) o=gz S.l o:=by
  unfold gz
  rw[List.length_append,List.length_singleton]
  rw[jY]
  have hg:ku o (ax (S.l++[Et o]) S.l.length)=false:=by rw[mM];rfl
  rw[hg]
  simp only[Bool.false_eq_true,if_false]
  exact xO o _ (fun k hk=>qx hk)
 rw[e3]at CB
 have e4:dF (V.B ib) (aN V.om b (aJ o)) o s=dF (V.B ib) V.om o s:=by
  unfold dF
  by_cases e:(V.B ib).n s=0
  ·rw[if_pos e,if_pos e]
  ·have hne:(V.B ib).h s 0≠b:=fun e2=>hb (e2▸hm 0 (by omega))
   rw[if_neg e,if_neg e,ah _ _ hne]
 rw[e4]at CB
 rw[<-CB]
 cases gz S.l o <;> rfl
def pW:List Int->Int
 | []=>0
 | x :: l=>x+pW l
theorem rO(a b:List Int):pW (a++b)=pW a+pW b:=by
 induction a with
 | nil=>simp[pW]
 | cons x l ih=>simp only[List.cons_append,pW,ih];omega
theorem Dp{a b:List Int}(h:a.Perm b):pW a=pW b:=by
 induction h with
 | nil=>rfl
 | cons x _ ih=>simp only[pW,ih]
 | swap x y l=>simp only[pW];omega
 | trans _ _ h1 h2=>rw[h1,h2]
theorem NI{l₁ l₂:List Nat}(h1:l₁.Nodup)(h2:l₂.Nodup)(h:∀a,a∈l₁↔a∈l₂):l₁.Perm l₂:=by
 induction l₁ generalizing l₂ with
 | nil =>
   have:l₂=[]:=by
    cases l₂ with
    | nil=>rfl
    | cons x l=>exact absurd ((h x).2 (by simp)) (by simp)
   rw[this]
 | cons x l ih =>
   have hx:x∈l₂:=(h x).1 (by simp)
   rw[List.nodup_cons]at h1
   have hp:=List.perm_cons_erase hx
   refine List.Perm.trans (List.Perm.cons x (ih h1.2 (h2.erase x) (fun a=>?_))) hp.symm
   rw[h2.mem_erase_iff]
   constructor
   ·intro ha
    exact⟨fun e=>h1.1 (e▸ha),(h a).1 (by simp[ha])⟩
   ·rintro⟨hne,ha⟩
    have:=(h a).2 ha
    simp only[List.mem_cons]at this
    exact this.resolve_left hne
def idx(l:List Ord)(sym:ByteArray)(s:Nat):List Nat:=(List.range l.length).filter (fun k=>decide ((ax l k).sym=sym/\(ax l k).side=(s:Int)/\0<(ax l k).aK))
theorem GU(n:Nat):(List.range n).Pairwise (fun a b=>a≠b/\a<n/\b<n):=by
 rw[List.pairwise_iff_getElem]
 intro a b ha hb hab
 simp only[List.length_range]at ha hb
 simp only[List.getElem_range]
 omega
theorem yJ{l:List Ord}{sym:ByteArray}{s k:Nat}:k∈idx l sym s↔(k<l.length/\(ax l k).sym=sym/\(ax l k).side=(s:Int)/\0<(ax l k).aK):=by
 unfold idx
 rw[List.mem_filter,List.mem_range,decide_eq_true_eq]
theorem di.perm{p:Nat->Nat}{V:aQ}{S:RS}{N:Nat}(h:di p V S N){i s:Nat}(hi:i<V.nb)(hs:s<2):(upto ((V.B i).h s) ((V.B i).n s)).Perm ((idx S.l (V.B i).sym s).map p):=by
 refine NI ?_ ?_ (fun x=>?_)
 ·unfold upto
  refine List.Pairwise.map _ (R:=fun a b=>a≠b/\a<(V.B i).n s/\b<(V.B i).n s) (fun a b hab e=>hab.1 ((h.gw.gb i hi).inj s hs a b hab.2.1 hab.2.2 e)) (GU _)
 ·refine List.Pairwise.map _ (R:=fun a b=>a≠b/\a<S.l.length/\b<S.l.length) (fun a b hab e=>hab.1 (h.inj a b hab.2.1 hab.2.2 e)) ?_
  exact List.Pairwise.filter _ (GU _)
 ·constructor
  ·intro hx
   unfold upto at hx
   rw[List.mem_map]at hx
   obtain⟨k,hk,rfl⟩:=hx
   rw[List.mem_range]at hk
   obtain⟨a,b,c,d⟩:=((h.gw.gb i hi).mem s hs _).1 ⟨k,hk,rfl⟩
   obtain⟨j,hj,e⟩:=(h.vl _).1 a
   obtain⟨_,_,e3,e4,_,_,_,_,e9,_⟩:=fE (h.same j hj)
   rw[e]at e3 e4 e9
   rw[List.mem_map]
   exact⟨j,yJ.2 ⟨hj,by rw[<-e3];exact b,by rw[<-e4];exact c,by rw[<-e9];exact d⟩,e⟩
  ·intro hx
   rw[List.mem_map]at hx
   obtain⟨j,hj,rfl⟩:=hx
   obtain⟨hj,b,c,d⟩:=yJ.1 hj
   obtain⟨_,_,e3,e4,_,_,_,_,e9,_⟩:=fE (h.same j hj)
   obtain⟨k,hk,e⟩:=((h.gw.gb i hi).mem s hs (p j)).2 ⟨(h.vl _).2 ⟨j,hj,rfl⟩,by rw[e3];exact b,by rw[e4];exact c,by rw[e9];exact d⟩
   unfold upto
   rw[List.mem_map]
   exact⟨k,List.mem_range.2 hk,e.symm⟩
def JR(o:iL)(x:Ord):Int:=if x.aA≠o.aA/\iJ o.kind o.side o.af x.af=true then x.aK else 0
theorem Ip(om:Nat->Ord)(h:Nat->Nat)(o:iL):∀n,uS om h o n=pW ((upto h n).map (fun x=>JR o (om x)))
 | 0=>rfl
 | n+1=>by
   rw[uS,Ip om h o n]
   unfold upto
   rw[List.range_succ,List.map_append,List.map_append,rO]
   simp only[List.map_cons,List.map_nil,pW,JR]
   omega
theorem GH(l:List Ord)(o:iL)(s:Nat)(hs:s<2)(hside:o.side=1-(s:Int))(sd:∀k,k<l.length->(ax l k).side=0\/(ax l k).side=1)(op:∀k,k<l.length->0<=(ax l k).aK):∀n,n<=l.length->rG l o n=pW (((List.range n).filter (fun k=>decide ((ax l k).sym=o.sym/\(ax l k).side=(s:Int)/\0<(ax l k).aK))).map (fun k=>JR o (ax l k)))
 | 0,_=>rfl
 | n+1,hn=>by
   rw[rG,GH l o s hs hside sd op n (by omega),List.range_succ,List.filter_append,List.map_append,rO]
   congr 1
   have h1:=sd n (by omega)
   have h2:=op n (by omega)
   unfold ku
   by_cases c1:(ax l n).sym=o.sym/\(ax l n).side=(s:Int)/\0<(ax l n).aK
   ·obtain⟨a,b,c⟩:=c1
    have hne:¬(ax l n).side=o.side:=by omega
    have hop:¬(ax l n).aK=0:=by omega
    rw[List.filter_cons_of_pos (by simp[a,b,c])]
    simp only[List.filter_nil,List.map_cons,List.map_nil,pW,JR,Int.add_zero]
    simp only[Bool.and_eq_true,Bool.not_eq_true',beq_eq_false_iff_ne,ne_eq,decide_eq_true_eq,a,hne,hop,not_false_eq_true,true_and,and_true]
    by_cases c2:iJ o.kind o.side o.af (ax l n).af=true <;> by_cases c3:(ax l n).aA=o.aA <;> simp[c2,c3]
   ·rw[List.filter_cons_of_neg (by simpa using c1)]
    simp only[List.filter_nil,List.map_nil,pW]
    rw[if_neg]
    rintro⟨hg,_⟩
    simp only[Bool.and_eq_true,Bool.not_eq_true',beq_eq_false_iff_ne,ne_eq,decide_eq_true_eq]at hg
    obtain⟨⟨⟨g1,g2⟩,g3⟩,_⟩:=hg
    exact c1 ⟨g2,by omega,by omega⟩
theorem di.whole{p:Nat->Nat}{V:aQ}{S:RS}{N:Nat}(h:di p V S N){o:iL}{ib s t:Nat}(hib:ib<V.nb)(hs:s<2)(ht:t=1-s)(dM:o.sym=(V.B ib).sym)(hside:o.side=(t:Int)):uS V.om ((V.B ib).h s) o ((V.B ib).n s)=rG S.l o S.l.length:=by
 rw[Ip,GH S.l o s hs (by omega) (fun k hk=>h.side hk) (fun k hk=>(h.aK hk).1) _ (Nat.le_refl _),Dp (List.Perm.map _ (h.perm hib hs)),List.map_map,dM]
 have:∀k∈idx S.l (V.B ib).sym s,((fun x=>JR o (V.om x))∘p) k=JR o (ax S.l k):=fun k hk=>by
  obtain⟨_,e2,_,_,_,e6,_,_,e9,_⟩:=fE (h.same k (yJ.1 hk).1)
  simp only[Function.comp,JR,e2,e6,e9]
 rw[List.map_congr_left this]
 rfl
theorem Eb(c:Nat)(w:World):Calls Tryz.prog 85 #[.int .i32 (c:Int)] w fun e w'=>e=.returned (.bool (yF c))/\w'=w:=by
 have hcs:(65<=c/\c<=90/\yF c=true)\/(¬(65<=c/\c<=90)/\((48<=c/\c<=57/\yF c=true)\/(¬(48<=c/\c<=57)/\((c=930/\yF c=false)\/(c≠930/\((913<=c/\c<=937/\yF c=true)\/(¬(913<=c/\c<=937)/\yF c=false))))))):=by
  by_cases h1:65<=c/\c<=90
  ·left;exact⟨h1.1,h1.2,by simp[yF,h1]⟩
  ·right;refine⟨h1,?_⟩
   by_cases h2:48<=c/\c<=57
   ·left;exact⟨h2.1,h2.2,by simp[yF,h2]⟩
   ·right;refine⟨h2,?_⟩
    by_cases h3:c=930
    ·left;exact⟨h3,by subst h3;decide⟩
    ·right;refine⟨h3,?_⟩
     by_cases h4:913<=c/\c<=937
     ·left;exact⟨h4.1,h4.2,by simp[yF,h4,h3]⟩
     ·right;refine⟨h4,?_⟩
      simp only[yF,Bool.or_eq_false_iff,Bool.and_eq_false_iff,decide_eq_false_iff_not,Bool.not_eq_false',beq_iff_eq]
      omega
 obtain⟨b,hb⟩:∃b,yF c=b:=⟨_,rfl⟩
 rw[hb]at hcs ⊢
 clear hb
 have d:∀k:Nat,decide ((k:Int)<=(c:Int))=decide (k<=c):=fun k=>by simp
 rcases hcs with⟨a1,a2,rfl⟩|⟨a1,⟨a2,a3,rfl⟩|⟨a2,⟨a3,rfl⟩|⟨a3,⟨a4,a5,rfl⟩|⟨a4,rfl⟩⟩⟩⟩
 ·go_enter Tryz.func85,Tryz.ntmps85
  go_wp2
  go_ret
  exact⟨rfl,rfl⟩
 ·by_cases h65:65<=c
  ·exfalso;omega
  ·go_enter Tryz.func85,Tryz.ntmps85
   go_wp2
   go_ret
   exact⟨rfl,rfl⟩
 ·subst a3
  go_enter Tryz.func85,Tryz.ntmps85
  go_wp2
  go_ret
  exact⟨rfl,rfl⟩
 ·have e:((c:Int) == 930)=false:=by simp;omega
  go_enter Tryz.func85,Tryz.ntmps85
  go_wp2
  go_ret
  refine⟨?_,rfl⟩
  first|rfl|(simp;omega)
 ·have e:((c:Int) == 930)=false:=by simp;omega
  have hc3:(c<48)\/(57<c/\c<65)\/(90<c/\c<913)\/937<c:=by omega
  clear a1 a2 a4
  rcases hc3 with h|⟨h,h'⟩|⟨h,h'⟩|h
  all_goals
   go_enter Tryz.func85,Tryz.ntmps85
   go_wp2
   go_ret
   refine⟨?_,rfl⟩
   first|rfl|(simp;omega)
theorem DY(s:ByteArray)(i:Nat):(Utf8.decode s i).1<=1114111/\1<=(Utf8.decode s i).2:=by
 unfold Utf8.decode
 simp only
 have hv:∀r:Nat,Utf8.valid (r:Int)=true->r<=1114111:=fun r h=>by simp[Utf8.valid]at h;omega
 split
 ·rename_i h
  exact⟨Nat.le_trans (Nat.le_of_lt h) (by decide),Nat.le_refl _⟩
 ·split
  ·split
   ·exact⟨by simp;omega,by simp⟩
   ·exact⟨by decide,by simp⟩
  ·split
   ·split
    ·rename_i h;simp at h;exact⟨hv _ (by simpa using h.2),by simp⟩
    ·exact⟨by decide,by simp⟩
   ·split
    ·split
     ·rename_i h;simp at h;exact⟨hv _ (by simpa using h.2),by simp⟩
     ·exact⟨by decide,by simp⟩
    ·exact⟨by decide,by simp⟩
theorem Jt(s:ByteArray)(hs:s.size<=1000000000):qU s (mf s):=by
 intro w
 have HL:Hid (∀(c:Nat) W,Calls Tryz.prog 85 #[.int .i32 (c:Int)] W fun e w'=>e=.returned (.bool (yF c))/\w'=W):=Eb
 have HE:Hid (∀pos,¬pos<s.size->∀ty,(Instr.next (.pointer (some ⟨w.heap.size,0,none⟩)) true ty).run Tryz.prog (w.iter s pos)=.ok (.tuple #[.bool false]) (w.iter s pos)):=fun pos h ty=>run_next_end w s pos ty h
 have HD:Hid (∀pos c n,pos<s.size->Utf8.decode s pos=(c,n)->∀ty,(Instr.next (.pointer (some ⟨w.heap.size,0,none⟩)) true ty).run Tryz.prog (w.iter s pos)=.ok (.tuple #[.bool true,.int .i64 pos,.int .i32 c]) (w.iter s (pos+n))):=fun pos c n h hd ty=>EM w s pos c n ty h hd
 have HK:Hid (∀pos,au aP w (w.iter s pos)):=fun pos=>(au.refl aP w).alloc _
 go_enter Tryz.func50,Tryz.ntmps50
 go_wp2
 go_loopg [3] (s.size+1) (fun q nv wr=>∃pos n:Nat,nv=.int .i64 (n:Int)/\wr=w.iter s pos/\pJ s q pos n=mf s/\s.size<pos+q/\n<=6/\pos<=s.size)
 case atStart=>exact⟨0,0,rfl,rfl,rfl,by omega,by omega,by omega⟩
 case round =>
  obtain⟨pos,n,rfl,rfl,hF,hq,hn6,hps⟩:=hrel
  by_cases hp:pos<s.size
  ·obtain⟨q,rfl⟩:∃q,gk=q+1:=⟨gk-1,by omega⟩
   have Yh:=DY s pos
   obtain⟨⟨c,k⟩,hd⟩:∃x,Utf8.decode s pos=x:=⟨_,rfl⟩
   have n0:=ae HD pos c k hp hd
   rw[hd]at Yh
   simp only at Yh
   have hF2:pJ s (q+1) pos n=(if yF (Gz s pos).1 then pJ s q (pos+(Gz s pos).2) (n+1) else false):=by
    conv=>lhs;unfold pJ
    rw[if_pos hp]
   by_cases h6:n=6
   ·have hR:mf s=false:=by
     rw[<-hF,hF2]
     split
     ·exact zT _ _ _ _ (by omega)
     ·rfl
    have HR:=ai hR
    subst h6
    clear hF hF2 hR hd
    go_wp2
    go_ret
    exact⟨by rw[ae HR];rfl,ae HK _⟩
   ·cases hu:yF (Gz s pos).1
    ·have hc:yF c=false:=by have:=TD hp hu;rw[hd]at this;exact this
     have hR:mf s=false:=by rw[<-hF,hF2,hu];rfl
     have HR:=ai hR
     have HC:=ai (ae HL c)
     rw[hc]at HC
     clear hF hF2 hR hd hc hu
     go_wp2_with fail
     refine (ae HC _).mono ?_
     rintro e w' ⟨rfl,rfl⟩
     go_wp2
     go_ret
     exact⟨by rw[ae HR];rfl,ae HK _⟩
    ·have he:=WU hp hu
     rw[hd]at he
     have hc:yF c=true:=by rw[<-he]at hu;exact hu
     have hpk:pos+k<=s.size:=by have:=(UA s pos).2.2.1 hp;rw[<-he]at this;exact this
     have hR:pJ s q (pos+k) (n+1)=mf s:=by rw[<-hF,hF2,hu,<-he];rfl
     have HR:=ai hR
     have HC:=ai (ae HL c)
     rw[hc]at HC
     clear hF hF2 hR hd hc hu he
     go_wp2_with fail
     refine (ae HC _).mono ?_
     rintro e w' ⟨rfl,rfl⟩
     go_wp2
     go_roundg q
     case measure=>omega
     case rel=>exact⟨pos+k,n+1,by push_cast;rfl,rfl,ae HR,by omega,by omega,hpk⟩
  ·have n0:=ae HE pos hp
   obtain⟨q,rfl⟩:∃q,gk=q+1:=by
    cases gk with
    | zero=>exfalso;omega
    | succ q=>exact⟨q,rfl⟩
   have hR:mf s=decide (0<n):=by
    rw[<-hF]
    unfold pJ
    rw[if_neg hp]
    have:decide (n<=6)=true:=by simpa using hn6
    rw[this,Bool.and_true]
    rfl
   have HR:=ai hR
   clear hF hR
   go_wp2
   go_ret
   exact⟨by rw[ae HR];simp,ae HK _⟩
end Go.Proofs.YtigaphnafnpfnaaGreatDoor
