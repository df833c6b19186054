import Derived.Test.YtigaphnafnpfnaaGreatDoorQNY5
import Derived.Test.YtigaphnafnpfnaaGreatDoorQNV11
set_option linter.unusedVariables false
set_option linter.unusedSimpArgs false
namespace Go.Proofs.YtigaphnafnpfnaaGreatDoor
open Go.RowKit
def HS(V:aS):Prop:=∀i,i<V.nb->∀s,s<2->eG (fP V.om) ((V.B i).n s) ((V.B i).h s)/\ry ((V.B i).n s) ((V.B i).h s)/\∀k,k<(V.B i).n s->(V.om ((V.B i).h s k)).side=(s:Int)
structure dQ(V V':aS):Prop where
 nb:V'.nb=V.nb
 bk:∀i,i<V.nb->V'.bk i=V.bk i
 sym:∀i,i<V.nb->(V'.B i).sym=(V.B i).sym
 vz:∀i,i<V.nb->(V'.B i).places=(V.B i).places
 mem:∀i,i<V.nb->∀s,s<2->∀x,Mem ((V'.B i).n s) ((V'.B i).h s) x↔Mem ((V.B i).n s) ((V.B i).h s) x
 aW:V'.aW=V.aW
 no:V'.no=V.no
 om:∀x,VL V x->V'.om x=V.om x
 tr:V'.lg.tr=V.lg.tr
 day:V'.lg.day=V.lg.day
 tb:V'.lm.tb=V.lm.tb
theorem dQ.refl(V:aS):dQ V V:=⟨rfl,fun _ _=>rfl,fun _ _=>rfl,fun _ _=>rfl,fun _ _ _ _ _=>Iff.rfl,rfl,rfl,fun _ _=>rfl,rfl,rfl,rfl⟩
theorem dQ.vl{V V':aS}(h:dQ V V')(x:Nat):VL V' x↔VL V x:=by unfold VL;rw[h.aW]
theorem dQ.trans{V V' V2:aS}(h:dQ V V')(h':dQ V' V2):dQ V V2:=by
 have e:=h.nb;exact⟨h'.nb.trans h.nb,fun i hi=>(h'.bk i (by omega)).trans (h.bk i hi),fun i hi=>(h'.sym i (by omega)).trans (h.sym i hi),fun i hi=>(h'.vz i (by omega)).trans (h.vz i hi),fun i hi s hs x=>(h'.mem i (by omega) s hs x).trans (h.mem i hi s hs x),h'.aW.trans h.aW,h'.no.trans h.no,fun x hx=>(h'.om x ((h.vl x).2 hx)).trans (h.om x hx),h'.tr.trans h.tr,h'.day.trans h.day,h'.tb.trans h.tb⟩
theorem dQ.symm{V V':aS}(h:dQ V V'):dQ V' V:=by
 have e:=h.nb;exact⟨h.nb.symm,fun i hi=>(h.bk i (by omega)).symm,fun i hi=>(h.sym i (by omega)).symm,fun i hi=>(h.vz i (by omega)).symm,fun i hi s hs x=>(h.mem i (by omega) s hs x).symm,h.aW.symm,h.no.symm,fun x hx=>(h.om x ((h.vl x).1 hx)).symm,h.tr.symm,h.day.symm,h.tb.symm⟩
theorem dQ.gw{V V':aS}{M:Int}(h:dQ V V')(hs:HS V')(g:GW V M):GW V' M:=by
 have e:=h.nb;refine⟨fun i hi=>?_,fun i j hi hj he=>?_,fun x hx=>?_,fun x hx=>?_,fun x hx=>?_⟩
 ·have hi':i<V.nb:=by omega
  have gb:=g.gb i hi';refine⟨rfl,fun s hs x=>?_,fun s h2=>(hs i hi s h2).1,fun s h2=>(hs i hi s h2).2.1,fun x y hx hy=>?_⟩
  ·rw[h.mem i hi' s hs x,gb.mem s hs x,h.sym i hi'];constructor
   ·rintro⟨a,b⟩;rw[h.om x a];exact⟨(h.vl x).2 a,b⟩
   ·rintro⟨a,b⟩;have a':=(h.vl x).1 a;rw[h.om x a']at b;exact⟨a',b⟩
  ·have hx':=(h.mem i hi' 0 (by omega) x).1 hx;have hy':=(h.mem i hi' 1 (by omega) y).1 hy;rw[h.om x ((gb.mem 0 (by omega) x).1 hx').1,h.om y ((gb.mem 1 (by omega) y).1 hy').1];exact gb.iE x y hx' hy'
 ·rw[h.sym i (by omega),h.sym j (by omega)]at he;exact g.lW i j (by omega) (by omega) he
 ·have hx':=(h.vl x).1 hx;rw[h.om x hx'];exact g.q x hx'
 ·have hx':=(h.vl x).1 hx;obtain⟨i,hi,e'⟩:=g.sym x hx';exact⟨i,by omega,by rw[h.om x hx',h.sym i hi];exact e'⟩
 ·have hx':=(h.vl x).1 hx;rw[h.om x hx'];exact g.side x hx'
theorem GW.hs{V:aS}{M:Int}(g:GW V M):HS V:=fun i hi s h2=>⟨(g.gb i hi).heap s h2,(g.gb i hi).inj s h2,fun k hk=>(g.gb i hi).side h2 hk⟩
theorem dQ.ack{p:Nat->Nat}{V V':aS}{S:RS}{N N':Nat}(h:dQ V V')(hs:HS V')(g:dA p V S N)(hN:N<=N')(htp:V'.lg.tp.length<=300 * N')(hna:V'.lg.ud+V'.lg.na<=N'):dA p V' S N':=by
 have e:=h.nb;have vl:∀k,k<S.l.length->VL V (p k):=fun k hk=>⟨_,g.aW k hk⟩
 have pb:=g.EU;have ps:=g.Rx;have tn:=g.yu;refine⟨(h.gw hs g.gw).mono (su hN),h.nb.trans g.nb,fun i hi=>?_,h.no.trans g.no,fun k hk=>by rw[h.aW];exact g.aW k hk,fun id b hb=>g.zY id b (by rw[<-h.aW];exact hb),g.inj,fun k hk=>by rw[h.om _ (vl k hk)];exact g.same k hk,fun a b ha hb=>by rw[h.om _ (vl a ha),h.om _ (vl b hb)];exact g.place a b ha hb,g.xy,fun k hk ho i hi hsy=>?_,g.O4,fun i hi=>?_,⟨ps.1,by omega⟩,h.tr.trans g.tr,h.day.trans g.day,by rw[h.tr];omega,htp,hna,by rw[h.no];exact g.gV,by rw[h.nb];exact g.UJ,g.rJ⟩
 ·rw[h.sym i (by omega)];exact g.sym i (by omega)
 ·rw[h.sym i (by omega)]at hsy;rw[h.om _ (vl k hk),h.vz i (by omega)];exact g.O3 k hk ho i (by omega) hsy
 ·have:=pb i (by omega);rw[h.vz i (by omega)];exact⟨this.1,by omega⟩
open Go.RowKit Go.Maps
theorem dS.aaC{w w':World}{bv bm bo b:Nat}{V:aS}{o':Ord}{ix:Int}(R:dS w bv bm bo V)(ho:df w b (V.om b) ix)(k:aj (fun x=>x=b) w w')(ho':df w' b o' ix)(hid:o'.id=(V.om b).id):dS w' bv bm bo { V with om:=aQ V.om b o' }:=by
 obtain⟨fB,mB,qh,uM⟩:=R.iM;obtain⟨fO,mO,vK⟩:=R.fH;refine⟨R.aP.aC k (fun e=>aA.ne R.dC ho (by decide) e) (fun y hy e=>?_),⟨fB,mB.aC k (mB.ne ho),qh,uM⟩,⟨fO,mO.aC k (mO.ne ho),vK⟩,R.Ia,fun i hi=>(R.aY i hi).aQ ho k ho',fun id x hx=>?_,R.mem,R.sS,R.nM,R.gV⟩
 ·subst e;exact R.aP.aP.ne ho (by decide) (by decide) (by decide) (by decide) (by decide) hy
 ·obtain⟨e1,jx,hx'⟩:=R.bz id x hx;by_cases e:x=b
  ·subst e;simp only[ai];exact⟨by rw[hid];exact e1,ix,ho'⟩
  ·simp only[ah _ _ e];exact⟨e1,jx,k.aF hx' e⟩
theorem XK(bv bm bo b H:Nat)(o:Ord)(V:aS)(w:World)(R:dS w bv bm bo V)(hb:VL V b)(hid:o.id=(V.om b).id)(hn:yG w H b o) :
 CT 151 #[dD (H+1),dD H] w fun e w'=>e=.returned (.tuple #[])/\dS w' bv bm bo { V with om:=aQ V.om b { o with place:=(V.om b).place } }/\aj (fun x=>x=b) w w':=by
 obtain⟨id,ZV⟩:=hb;obtain⟨_,ix,ho⟩:=R.bz id b ZV;refine (UQ b H o (V.om b) ix w ho hn).mono ?_;rintro e w' ⟨rfl,h1,h2⟩;exact⟨rfl,R.aaC ho h2 h1 hid,h2⟩
theorem Ut(bv bm bo b H i s:Nat)(V:aS)(w:World)(R:dS w bv bm bo V)(hi:i<V.nb)(hs:s<2)(hb:VL V b)(hside:(V.om b).side=(s:Int))(hout:∀j,j<V.nb->∀t,t<2->∀k,k<(V.B j).n t->(V.B j).h t k≠b)(hn:(V.B i).n s<1000)(hp:wY w H (V.bk i) b) :
 CT 117 #[dD H,dD (H+1)] w fun e w'=>e=.returned (.tuple #[])/\∃g cap',dS w' bv bm bo { V with B:=aQ V.B i ((V.B i).push V.om s b g cap') }/\aj (fun x=>x=V.bk i\/x=b\/dG (V.B i) s x) w w'/\∀x,dO bv bm bo { V with B:=aQ V.B i ((V.B i).push V.om s b g cap') } x->dO bv bm bo V x\/w.heap.size<=x:=by
 have m:=R.tu hi;refine (Xz (V.bk i) b s H (V.B i) V.om (VL V) w m hb hp hs hside (hout i hi) hn).mono ?_;rintro e w' ⟨rfl,g,cap',m',k',hg⟩;have hap:pz V i b:=fun j hj hne t ht h=>by
  rcases h with h | ⟨k,hk,e⟩
  ·obtain⟨id,hid⟩:=hb;obtain⟨_,ix,ho⟩:=R.bz id b hid;exact ((R.aY j hj).side t ht).ne ho (by decide) h
  ·exact hout j hj t ht k hk e.symm
 have hN:=Next.of (V:=V) R hi (B':=(V.B i).push V.om s b g cap') (dK:=V.om) (G':=V.lg) (bM:=V.lm) (fun V2=>V2={ V with B:=aQ V.B i ((V.B i).push V.om s b g cap') }) m' (R.aP.jF k' (fun x h=>m.gK (by
  rcases h with h | h | h
  ·exact .inl h
  ·exact .inr (.inl (by rw[h];exact hb))
  ·exact .inr (.inr ⟨s,hs,h⟩)))) (fun x hx=>.inl hx) k' (fun x hx=>by
  rcases hx with h | h | h
  ·exact lN h
  ·exact QF (by rw[h];exact⟨hb,hap⟩)
  ·exact jZ ⟨s,hs,h⟩) (fun _ _ _ _ _ _ _=>rfl) (fun _=>rfl) rfl (fun t ht x hx=>?_) rfl
 ·obtain⟨V2,R2,rfl,k2,f2⟩:=hN;exact⟨rfl,g,cap',R2,k',f2⟩
 ·by_cases e:t=s
  ·subst e;rcases hx with hx | ⟨k,hk,rfl⟩
   ·simp only[Bk.push,ai,ig,Option.map_some,Option.some.injEq]at hx;rcases hg with h | h
    ·exact .inl ⟨t,ht,.inl (by rw[h,hx])⟩
    ·exact .inr (.inr (by omega))
   ·simp only[Bk.push,ai]at hk ⊢;rcases (jh (lt:=fP V.om) ((V.B i).h t) b _).1 ⟨k,hk,rfl⟩ with⟨k',hk',e'⟩ | e'
    ·exact .inl ⟨t,ht,.inr ⟨k',hk',e'⟩⟩
    ·rw[e'];exact .inr (.inl ⟨hb,hap⟩)
  ·refine .inl ⟨t,ht,?_⟩;rcases hx with hx | ⟨k,hk,rfl⟩
   ·simp only[Bk.push,ah _ _ e]at hx;exact .inl hx
   ·simp only[Bk.push,ah _ _ e]at hk ⊢;exact .inr ⟨k,hk,rfl⟩
def AO(V:aS)(cl:List Value):Prop:=∀j,j<V.nb->∀y,y<2->∀a,ig ((V.B j).sl y)=some a->∀c∈cl,∀x,yA c x->x≠a
def VF(V:aS)(i s b:Nat)(again:Bool):List dY :=
 if again=false\/fD (V.om b).kind=false\/(dJ (V.B i) V.om (dm (V.om b)) s).isSome=true then [.gp b (V.om b)] else (if 0<(V.om b).aO then [.left b] else [])++[.gp b (V.om b),.fC b (V.om b).place]
def TbC(bv:Nat)(V:aS)(i s t b:Nat)(again:Bool)(bk:Nat->Nat)(lw:Nat)(old:List (List Value))(dW:List Nat)(V2:aS)(W:World):Prop :=
 V2.bk=V.bk/\V2.lg.nt=V.lg.nt++VF V i s b again/\(∀j y,¬(j=i/\y=t)->(V2.B j).sl y=(V.B j).sl y)/\∃Yx,iw W bv bk lw true old V2.lg.nt dW V2.lm Yx/\AO V2 Yx
theorem adx{w:World}{V V2:aS}{cl cl':List Value}(sJ:∀j,j<V.nb->∀y,y<2->∀a,ig ((V.B j).sl y)=some a->a<w.heap.size)(hs:AO V cl)(hn:RQ w cl cl')(hB:∀j y,(V2.B j).sl y=(V.B j).sl y)(hnb:V2.nb=V.nb:=by rfl):AO V2 cl':=by
 obtain⟨news,rfl,hnw⟩:=hn;intro j hj y hy a ha c hc x hx;rw[hB j y]at ha;rw[hnb]at hj;rcases List.mem_append.1 hc with h | h
 ·exact hs j hj y hy a ha c h x hx
 ·have:=hnw c h x hx;have:=sJ j hj y hy a ha;omega
theorem ach{w:World}{V V2:aS}{cl cl':List Value}{i t g:Nat}(sJ:∀j,j<V.nb->∀y,y<2->∀a,ig ((V.B j).sl y)=some a->a<w.heap.size)(hold:∀c∈cl,∀x,yA c x->x<w.heap.size)(hs:AO V cl)(hn:LK w cl g cl')(hg:ig ((V.B i).sl t)=some g\/w.heap.size<=g)(hB:∀j y,¬(j=i/\y=t)->(V2.B j).sl y=(V.B j).sl y)(hat:∀a,ig ((V2.B i).sl t)=some a->a=g)(hnb:V2.nb=V.nb:=by rfl):AO V2 cl':=by
 obtain⟨news,rfl,hnw⟩:=hn;intro j hj y hy a ha c hc x hx;rw[hnb]at hj;by_cases e:j=i/\y=t
 ·obtain⟨rfl,rfl⟩:=e;have:=hat a ha;subst this;rcases List.mem_append.1 hc with h | h
  ·rcases hg with h' | h'
   ·exact hs j hj y hy a h' c h x hx
   ·have:=hold c h x hx;omega
  ·exact (hnw c h x hx).2
 ·rw[hB j y e]at ha;rcases List.mem_append.1 hc with h | h
  ·exact hs j hj y hy a ha c h x hx
  ·have:=(hnw c h x hx).1;have:=sJ j hj y hy a ha;omega
theorem Ap{V:aS}{Q:Bk}{dK:Nat->Ord}{i t b g cap':Nat}(hQ:Q.sl=(V.B i).sl)(j y:Nat)(h:¬(j=i/\y=t)):(aQ V.B i (Q.rest dK t b g cap') j).sl y=(V.B j).sl y:=by
 by_cases e:j=i
 ·subst e;have ey:y≠t:=fun e=>h ⟨rfl,e⟩
  rw[ai];simp only[Bk.rest];rw[ah _ _ ey,hQ]
 ·rw[ah _ _ e]
theorem O8{V:aS}{Q:Bk}{dK:Nat->Ord}{i t b g cap' a:Nat}(h:ig ((aQ V.B i (Q.rest dK t b g cap') i).sl t)=some a):a=g:=by
 rw[ai]at h;simp only[Bk.rest,ai,ig,Option.some.injEq]at h;exact h.symm
theorem je.of{w w':World}{bv bm bo i:Nat}{V:aS}(R:dS w bv bm bo V)(hi:i<V.nb){B':Bk}{dK:Nat->Ord}{S:Nat->Prop}(Q:aS->World->Prop){bk:Nat->Nat}{lw:Nat}{tq:Bool}{old:List (List Value)}{dW:List Nat}{P:List Value->Prop}{ds:List dY}(hds:ds.length<=3)(hn:vW bv bm bo V.lg V.lm bk lw tq old dW P ds w w')
 (hm:Mk w' (V.bk i) B' dK (fun x=>∃id,V.aW id=some x)) (k:aj (fun x=>S x\/gY V.lm.av V.lm.ac x) w w') (hS:∀x,S x->x=V.bk i\/(∃s,s<2/\dG (V.B i) s x)\/((∃id,V.aW id=some x)/\pz V i x))
 (jK:∀x,pz V i x\/dK x=V.om x) (hid:∀x,(dK x).id=(V.om x).id) (dR:B'.sym=(V.B i).sym)
 (hsd:∀s,s<2->∀x,dG B' s x->(∃t,t<2/\dG (V.B i) t x)\/((∃id,V.aW id=some x)/\pz V i x)\/w.heap.size<=x) (hQ:∀bM cl',iw w' bv bk lw tq old (V.lg.aX ds).nt dW bM cl'->P cl'->Q { V.turn i B' dK with lg:=V.lg.aX ds,lm:=bM } w'):je bv bm bo V Q w w':=by
 have yH:∀s,s<2->∀x,dG (V.B i) s x->pz V i x:=fun s hs x hx j hj hne t ht h=>R.nM i j hi hj (fun e=>hne e.symm) s t hs ht x hx h
 obtain⟨bM,cl',hl,hF,TE,hP⟩:=hn;refine⟨{ V.turn i B' dK with lg:=V.lg.aX ds,lm:=bM },R.acw hi hm hl (k.mono (fun x h=>h.imp_right (fun h=>DR h))) hS (fun j hj hne s hs l hl=>?_) hid dR (fun s hs x hx=>?_),hQ _ _ TE hP,⟨rfl,rfl,rfl,rfl,(by simp only[Lg.aX,List.length_append];omega),rfl,rfl⟩,fun b c t hb ht=>?_,rfl,k.mono (fun x hx=>?_),fun x hx=>?_⟩
 ·rcases jK ((V.B j).h s l) with h | h
  ·exact absurd (.inr ⟨l,hl,rfl⟩) (h j hj hne s hs)
  ·exact h
 ·rcases hsd s hs x hx with⟨t,ht,h⟩ | ⟨_,h⟩ | h
  ·exact .inl (yH t ht x h)
  ·exact .inl h
  ·exact .inr h
 ·refine k.aF hb ?_;rintro (h | h)
  ·obtain⟨c',t',hc,ht'⟩:=(R.tu hi).gK (b:=b) (by
    rcases hS b h with h | h | ⟨h,_⟩
    ·exact .inl h
    ·exact .inr (.inr h)
    ·exact .inr (.inl h))
   exact aA.ne hb hc (by rcases ht with rfl | rfl | rfl <;> rcases ht' with rfl | rfl | rfl <;> decide) rfl
  ·obtain⟨c',t',hc,ht'⟩:=R.aP.aP.act.gK h;exact aA.ne hb hc (by rcases ht with rfl | rfl | rfl <;> rcases ht' with rfl | rfl <;> decide) rfl
 ·rcases hx with hx | hx
  ·rcases hS x hx with h | ⟨s,hs,h⟩ | ⟨h,_⟩
   ·exact jZ ⟨i,hi,.inl h⟩
   ·exact jZ ⟨i,hi,.inr ⟨s,hs,h⟩⟩
   ·exact qm h
  ·exact or8 hx
 ·rcases hx with h | h | h | ⟨j,hj,h⟩ | h | h
  ·exact .inl (.inl h)
  ·exact .inl (.inr (.inl h))
  ·exact .inl (lN h)
  ·rcases h with h | ⟨s,hs,h⟩
   ·exact .inl (jZ ⟨j,hj,.inl h⟩)
   ·by_cases e:j=i
    ·subst e;simp only[aS.turn,ai]at h;rcases hsd s hs x h with⟨t,ht,h⟩ | ⟨h,_⟩ | h
     ·exact .inl (jZ ⟨j,hj,.inr ⟨t,ht,h⟩⟩)
     ·exact .inl (qm h)
     ·exact .inr h
    ·simp only[aS.turn,ah _ _ e]at h;exact .inl (jZ ⟨j,hj,.inr ⟨s,hs,h⟩⟩)
  ·exact .inl (qm h)
  ·exact (hF x h).imp_left (fun h=>vU h)
theorem QT(bv bm bo b i s t:Nat)(V:aS)(M id q:Int)(again:Bool)(w:World)(bk:Nat->Nat)(lw:Nat)(old:List (List Value))(dW:List Nat)(cl:List Value)(hC:iw w bv bk lw true old V.lg.nt dW V.lm cl)(hsep:AO V cl)(Wh:lw<=w.heap.size)(hbk:bk b=V.bk i)(uP:∀g,ig ((V.B i).sl t)=some g->g<lw)(R:dS w bv bm bo V)(g:GW V M)(hM:M<=1000000000000000)(hcn:(V.B i).n t<1000)(hid:V.aW id=some b)(hi:i<V.nb)(hs:s<2)(hst:t=1-s)(hsb:(V.om b).sym=(V.B i).sym)(hside:(V.om b).side=(t:Int))(hsz:(V.B i).sym.size<=100)(hq:1<=q)(hq2:q<=(V.om b).filled)
 (hna:0<V.lg.na) (iJ:V.lg.na<=3000000) (hnt:V.lg.nt.length+3<1000000000) :
 CT 75 #[PP bv,PP b,II q,.bool again] w fun e w'=>e=.returned (.tuple #[])/\je bv bm bo V (fun V2 W=>Zu V M i s b q again V2/\TbC bv V i s t b again bk lw old dW V2 W) w w':=by
 have vM:VL V b:=⟨id,hid⟩;have t2:t<2:=by omega
 have hi':i<V.nb:=hi;have Z7:(V.om b).side=1-(s:Int):=by rw[hside];omega
 have dR:(V.om b).sym=(V.B i).sym:=hsb;have hlen:(V.B i).sym.size<=maxLen:=by unfold maxLen;omega
 have hap:=g.apart R vM hsb hi;have qb:=g.q b vM;have sJ:∀j,j<V.nb->∀y,y<2->∀a,ig ((V.B j).sl y)=some a->a<w.heap.size:=fun j hj y hy a ha=>((R.aY j hj).side y hy).lt ha
 have hold:∀c∈cl,∀x,yA c x->x<w.heap.size:=fun c hc x hx=>(hC.cap hc hx).2
 by_cases hc:again=false\/fD (V.om b).kind=false\/(dJ (V.B i) V.om (dm (V.om b)) s).isSome=true
 ·refine (yj bv bm bo i b s V id q again w bk lw true old dW cl hC Wh hbk R hi' hid dR hlen hs Z7 hc hna iJ hnt).mono ?_;rintro e w' ⟨rfl,hm,hnd,k⟩;obtain⟨q1,q2⟩:=qb.fF hM (by omega) hq2;have lY:∀x,x≠b->aQ V.om b (fF (V.om b) q) x=V.om x:=fun x h=>ah _ _ h
  refine⟨rfl,je.of (S:=fun x=>x=b) R hi' _ (by simp) hnd hm k (fun x hx=>.inr (.inr (by subst hx;exact⟨⟨id,hid⟩,hap⟩))) (fun x=>?_) (fun x=>?_) rfl (fun s hs x hx=>.inl ⟨s,hs,hx⟩) (fun bM cl' TE hP=>⟨?_,rfl,by rw[VF,if_pos hc];rfl,fun j y _=>yx (fun B=>B.sl y) rfl j,cl',TE,adx sJ hsep hP (fun j y=>yx (fun B=>B.sl y) rfl j)⟩)⟩
  ·by_cases e:x=b
   ·exact .inl (e▸hap)
   ·exact .inr (lY x e)
  ·by_cases e:x=b
   ·rw[e,ai];rfl
   ·rw[lY x e]
  ·refine⟨OE g hi vM hsb lY (by rw[ai];rfl) (by rw[ai];rfl) (by rw[ai];exact q1) rfl ((g.gb i hi).lQ (fun x=>?_) (fun x _ _ _=>?_)),rfl,rfl,rfl,yx (·.sym) rfl,.inl ⟨hc,rfl,yx (·.places) rfl⟩⟩
   ·by_cases e:x=b
    ·rw[e,ai];exact Iff.rfl
    ·rw[lY x e]
   ·by_cases e:x=b
    ·rw[e,ai];exact⟨rfl,rfl,rfl⟩
    ·rw[lY x e];exact⟨rfl,rfl,rfl⟩
 ·have ha:again=true:=by
   cases again
   ·exact absurd (.inl rfl) hc
   ·rfl
  have hr:fD (V.om b).kind=true:=by
   cases h:fD (V.om b).kind
   ·exact absurd (.inr (.inl h)) hc
   ·rfl
  have hf:dJ (V.B i) V.om (dm (V.om b)) s=none:=by
   cases h:dJ (V.B i) V.om (dm (V.om b)) s with
   | none=>rfl
   | some y=>exact absurd (.inr (.inr (by rw[h];rfl))) hc
  subst ha;have hk5:(V.om b).kind≠5:=fun e=>by rw[e]at hr;simp[fD]at hr
  have bad:=FN (g.gb i hi) hs hst hk5 hside hf;have lY:∀x,x≠b->cZ V i b q x=V.om x:=fun x h=>tK V i b q h
  obtain⟨q1,q2,q3⟩:=qb.fM hM (by omega) hq2 (wrap64 ((V.B i).places+1));have jK:∀x,pz V i x\/cZ V i b q x=V.om x:=fun x=>by
   by_cases e:x=b
   ·exact .inl (e▸hap)
   ·exact .inr (lY x e)
  have hidx:∀x,(cZ V i b q x).id=(V.om x).id:=fun x=>by
   by_cases e:x=b
   ·rw[e,dZ];rfl
   ·rw[lY x e]
  have fin:∀(B':Bk) (G':Lg) (bM:Lm),B'.sym=(V.B i).sym->B'.places=wrap64 ((V.B i).places+1)->GB B' (cZ V i b q) (V.B i).sym (VL V)->Zu V M i s b q true { V.turn i B' (cZ V i b q) with lg:=G',lm:=bM }:=fun B' G' bM hb1 hb2 gb =>
   ⟨OE g hi vM hsb lY (by rw[dZ];rfl) (by rw[dZ];rfl) (by rw[dZ];exact q1) hb1 gb,rfl,rfl,rfl,yx (·.sym) hb1,.inr ⟨rfl,hr,hf,rfl,fun j=>by
    show (aQ V.B i B' j).places=_;by_cases e:j=i
    ·rw[e,ai,if_pos rfl];exact hb2
    ·rw[ah _ _ e,if_neg e]⟩⟩
  have p1:(cZ V i b q b).sym=(V.B i).sym:=by rw[dZ];exact hsb
  have p2:(cZ V i b q b).side=(t:Int):=by rw[dZ];exact hside
  have p3:0<(cZ V i b q b).aO:=by
   rw[dZ];show 0<(fM (V.om b) q).aO;rw[q3];have:=qb.o0;omega
  have p4:(cZ V i b q b).af=(V.om b).af:=by rw[dZ];rfl
  have tC:∀x,x<2->x=s\/x=t:=by omega
  by_cases h0:0<(V.om b).aO
  ·obtain⟨k,hk,hkb⟩:Mem ((V.B i).n t) ((V.B i).h t) b:=((g.gb i hi).mem t t2 b).2 ⟨vM,hsb,hside,h0⟩;refine (Ad bv bm bo i b s t k V id q w bk lw true old dW cl hC Wh hbk uP R hi' hid dR hlen hs hst hside hr hf h0 hk hkb.symm (by omega) hna iJ hnt).mono ?_;rintro e w' ⟨rfl,g',cap',hm,hnd,kc,hg'⟩;have gl:GB ((V.B i).leave V.om t k) V.om (V.B i).sym (fun x=>VL V x/\x≠b):=by
    have:=wF (g.gb i hi) t2 hk;rw[<-hkb]at this;exact this
   have eN:((V.B i).leave V.om t k).n s=(V.B i).n s:=by simp only[Bk.leave];rw[ah _ _ (by omega)]
   have eH:((V.B i).leave V.om t k).h s=(V.B i).h s:=by simp only[Bk.leave];rw[ah _ _ (by omega)]
   refine⟨rfl,je.of (S:=fun x=>x=V.bk i\/x=b\/dG (V.B i) t x) R hi' _ (by simp) hnd hm kc (fun x hx=>?_) jK hidx rfl (fun y hy x hx=>?_) (fun bM cl' TE hP=>⟨fin _ _ bM rfl rfl (Fa hs hst gl vM lY p1 p2 p3 (fun y hy=>?_)),rfl,by rw[VF,if_neg hc,if_pos h0];rfl,Ap (V:=V) (Q:=(V.B i).leave V.om t k) rfl,cl',TE,ach sJ hold hsep hP hg' (Ap (V:=V) (Q:=(V.B i).leave V.om t k) rfl) (fun a ha=>O8 ha)⟩)⟩
   ·rcases hx with h | h | h
    ·exact .inl h
    ·exact .inr (.inr (by subst h;exact⟨⟨id,hid⟩,hap⟩))
    ·exact .inr (.inl ⟨t,t2,h⟩)
   ·rcases O9 hx with h | h | h
    ·exact .inl ⟨y,hy,Js ((g.gb i hi).inj t t2) hk h⟩
    ·exact .inr (.inl (by subst h;exact⟨⟨id,hid⟩,hap⟩))
    ·rcases hg' with hg | hg
     ·exact .inl ⟨t,t2,.inl (by rw[hg,h])⟩
     ·exact .inr (.inr (by omega))
   ·rw[eN,eH]at hy;rw[p4];exact bad y hy
  ·have hno:∀x,x<2->∀k,k<(V.B i).n x->(V.B i).h x k≠b:=fun x hx k hk e=>by
    have:=(((g.gb i hi).mem x hx _).1 ⟨k,hk,rfl⟩).2.2.2;rw[e]at this;exact h0 this
   refine (Dz bv bm bo i b s t V id q w bk lw true old dW cl hC Wh hbk uP R hi' hid dR hlen hs hst hside hr hf h0 hno (by omega) hna iJ hnt).mono ?_;rintro e w' ⟨rfl,g',cap',hm,hnd,kc,hg'⟩;have gl:GB (V.B i) V.om (V.B i).sym (fun x=>VL V x/\x≠b):=(g.gb i hi).lQ (fun x=>by
    constructor
    ·rintro⟨⟨a,_⟩,c⟩;exact⟨a,c⟩
    ·rintro⟨a,c⟩;exact⟨⟨a,fun e=>h0 (e▸c.2)⟩,c⟩) (fun x _ _ _=>⟨rfl,rfl,rfl⟩)
   refine⟨rfl,je.of (S:=fun x=>x=V.bk i\/x=b\/dG (V.B i) t x) R hi' _ (by simp) hnd hm kc (fun x hx=>?_) jK hidx rfl (fun y hy x hx=>?_) (fun bM cl' TE hP=>⟨fin _ _ bM rfl rfl (Fa hs hst gl vM lY p1 p2 p3 (fun y hy=>?_)),rfl,by rw[VF,if_neg hc,if_neg h0];rfl,Ap (V:=V) (Q:=V.B i) rfl,cl',TE,ach sJ hold hsep hP hg' (Ap (V:=V) (Q:=V.B i) rfl) (fun a ha=>O8 ha)⟩)⟩
   ·rcases hx with h | h | h
    ·exact .inl h
    ·exact .inr (.inr (by subst h;exact⟨⟨id,hid⟩,hap⟩))
    ·exact .inr (.inl ⟨t,t2,h⟩)
   ·rcases O9 hx with h | h | h
    ·exact .inl ⟨y,hy,h⟩
    ·exact .inr (.inl (by subst h;exact⟨⟨id,hid⟩,hap⟩))
    ·rcases hg' with hg | hg
     ·exact .inl ⟨t,t2,.inl (by rw[hg,h])⟩
     ·exact .inr (.inr (by omega))
   ·rw[p4];exact bad y hy
attribute [local go_sem ↓] Go.wp_at_zero Go.wp_at_succ
theorem dS.abT{w w':World}{bv bm bo x:Nat}{V:aS}(R:dS w bv bm bo V)(k:aj (fun y=>y=x) w w')(hx:¬dO bv bm bo V x):dS w' bv bm bo V:=by
 obtain⟨gB,nB,g1,g2⟩:=R.iM;obtain⟨gO,nO,g3⟩:=R.fH;have nf:∀y,dO bv bm bo V y->¬y=x:=fun y h e=>hx (e▸h)
 exact⟨R.aP.aC k (nf _ (.inl rfl)) (fun y hy=>nf y (vU hy)),⟨gB,nB.aC k (nf _ (.inr (.inl rfl))),g1,g2⟩,⟨gO,nO.aC k (nf _ (lN rfl)),g3⟩,R.Ia,fun j hj=>(R.aY j hj).aC k (fun y hy=>nf y (by
  rcases hy with h | ⟨z,hz,h⟩
  ·exact jZ ⟨j,hj,.inl h⟩
  ·exact jZ ⟨j,hj,.inr ⟨z,hz,h⟩⟩)),fun id y h=>⟨(R.bz id y h).1,(R.bz id y h).2.elim fun ix ho=>⟨ix,k.aF ho (nf y (qm ⟨id,h⟩))⟩⟩,R.mem,R.sS,R.nM,R.gV⟩
structure ExV(V:aS)(M:Int)(b:Nat)(V':aS):Prop where
 gw:GW V' M
 aW:V'.aW=V.aW
 no:V'.no=V.no
 nb:V'.nb=V.nb
 lL:∀j,(V'.B j).sym=(V.B j).sym
 Sr:∀j,(V'.B j).places=(V.B j).places
 om:V'.om=aQ V.om b (gQ (V.om b))
theorem aba{V:aS}{M:Int}(g:GW V M)(hM:M<=1000000000000000){i b s k:Nat}{G':Lg}{bM:Lm}(hi:i<V.nb)(hs:s<2)(hk:k<(V.B i).n s)(hkb:(V.B i).h s k=b):ExV V M b { V.turn i ((V.B i).leave V.om s k) (aQ V.om b (gQ (V.om b))) with lg:=G',lm:=bM }:=by
 subst hkb;have hm:=((g.gb i hi).mem s hs _).1 ⟨k,hk,rfl⟩;obtain⟨q1,q2⟩:=(g.q _ hm.1).ZH hM;have g2:=g.Us (o':=gQ (V.om ((V.B i).h s k))) hi hs hk rfl rfl q2 q1;exact⟨⟨g2.gb,g2.lW,g2.q,g2.sym,g2.side⟩,rfl,rfl,rfl,yx (·.sym) rfl,yx (·.places) rfl,rfl⟩
def D7(o:Ord):Ord:=if o.kind=1/\0<o.aO then gQ o else o
def yK(day:Int):Tr:=⟨0,⟨#[]⟩,0,0,0,0,day⟩
structure ClV(V:aS)(M:Int)(V':aS):Prop where
 gw:GW V' M
 aW:V'.aW=V.aW
 no:V'.no=V.no
 nb:V'.nb=V.nb
 lL:∀j,(V'.B j).sym=(V.B j).sym
 Sr:∀j,(V'.B j).places=(V.B j).places
 dN:∀x,(V'.om x).sym=(V.om x).sym/\(V'.om x).side=(V.om x).side/\(V'.om x).id=(V.om x).id/\(V'.om x).filled=(V.om x).filled
 om:∀id x,V.aW id=some x->V'.om x=D7 (V.om x)
 tr:V'.lg.tr=V.lg.tr
 tp:V'.lg.tp=V.lg.tp++[⟨(V.lg.tp.length:Int)+1,4,yK V.lg.day⟩]
 day:V'.lg.day=wrap64 (V.lg.day+1)
 na:V'.lg.na=V.lg.na+1
 ud:V'.lg.ud=V.lg.ud
 js:V'.lg.js=V.lg.js++[V.lg.pl]
def ExC(bv:Nat)(V:aS)(M:Int)(b:Nat)(bk:Nat->Nat)(lw:Nat)(old:List (List Value))(dW:List Nat)(V2:aS)(W:World):Prop :=
 ExV V M b V2/\V2.lg.nt=V.lg.nt++[.left b,.gp b (V.om b)]/\(∀j y,(V2.B j).sl y=(V.B j).sl y)/\(∀j,V2.bk j=V.bk j)/\∃Yx,iw W bv bk lw true old V2.lg.nt dW V2.lm Yx
theorem D9(bv bm bo i b s k:Nat)(V:aS)(M id:Int)(w:World)(bk:Nat->Nat)(lw:Nat)(old:List (List Value))(dW:List Nat)(cl:List Value)(hC:iw w bv bk lw true old V.lg.nt dW V.lm cl)(Wh:lw<=w.heap.size)(hbk:bk b=V.bk i)(uP:∀g,ig ((V.B i).sl s)=some g->g<lw)(R:dS w bv bm bo V)(g:GW V M)(hM:M<=1000000000000000)(hi:i<V.nb)(hs:s<2)(hk:k<(V.B i).n s)(hkb:(V.B i).h s k=b)(hid:V.aW id=some b)(hna:0<V.lg.na)(iJ:V.lg.na<=3000000)(hnt:V.lg.nt.length+3<1000000000) :
 ∀q w2 w3 uN cp2 oP cp3,Mk w2 (V.bk i) ((V.B i).leave V.om s k) V.om (fun x=>∃id,V.aW id=some x)->aj (fun x=>x=V.bk i\/dG (V.B i) s x) (w.drewN q) w2->Mk w3 (V.bk i) ((V.B i).leave V.om s k) (aQ V.om b (gQ (V.om b))) (fun x=>∃id,V.aW id=some x)->aj (fun x=>x=b) w2 w3->jo w2 (V.bk i) b (w.drewN q).heap.size uN cp2->jS w3 b (V.om b) w2.heap.size oP cp3 ->
  CT 53 #[PP bv,.slice (some ⟨w3.heap.size,0,none⟩) 2 2] (w3.alloc (.cells #[.func uN #[] cp2,.func oP #[] cp3] 1)) fun e w'=>e=.returned (.tuple #[]) /\
   je bv bm bo V (ExC bv V M b bk lw old dW) w w'/\aj (fun x=>(x=V.bk i\/dG (V.B i) s x)\/gY V.lm.av V.lm.ac x) w w'/\Mk w' (V.bk i) ((V.B i).leave V.om s k) (aQ V.om b (gQ (V.om b))) (fun x=>∃id,V.aW id=some x):=by
 intro q w2 w3 uN cp2 oP cp3 m2 k2 m3 k3 f2 f3;have hi':i<V.nb:=hi;have hm:=((g.gb i hi).mem s hs _).1 ⟨k,hk,rfl⟩;rw[hkb]at hm;have hap:=g.apart R hm.1 hm.2.1 hi;have kq:aj aJ w (w.drewN q):=(aj.refl aJ w).drewN q;have h2:=(R.aP.aB kq).jF k2 (fun x h=>((R.aB kq).tu hi').gK (by
  rcases h with h | h
  ·exact .inl h
  ·exact .inr (.inr ⟨s,hs,h⟩)))
 have h3:=h2.jF k3 (fun x h=>by subst h;exact m2.gK (.inr (.inl ⟨id,hid⟩)));have mq:=(R.aB kq).tu hi';have o2:nP (w.drewN q) lw true (fun x=>x=V.bk i\/dG (V.B i) s x):=uo mq hs uP;have o3:nP w2 lw true (fun x=>x=b):=jL m2 ⟨id,hid⟩;have c3:=((hC.aB kq).aC k2 o2).aC k3 o3;have i2:bU w2 bv bk lw (.left b) (.func uN #[] cp2):=⟨_,_,rfl,by
  show jo w2 (bk b) b lw uN cp2;rw[hbk];exact f2.mono (by have:=kq.size;omega)⟩
 have i2':=i2.aC (q:=true) (fun _=>rfl) k3 o3;have i3:bU w3 bv bk lw (.gp b (V.om b)) (.func oP #[] cp3):=⟨_,_,rfl,f3.mono (by have:=kq.size;have:=k2.size;omega)⟩;refine (wJ bv bm bo V.lg V.lm (.left b) (.gp b (V.om b)) uN oP cp2 cp3 w3 bk lw true old dW cl h3 c3 (fun _=>rfl) (fun _=>rfl) i2' i3 hna iJ (by omega)).mono ?_;rintro e w' ⟨rfl,bM,a1,a2,a3,a4,a5⟩;have sdb:dG (V.B i) s b:=.inr ⟨k,hk,hkb.symm⟩;have k23:aj (fun x=>x=V.bk i\/dG (V.B i) s x) w w3:=(kq.bI.trans k2).trans (k3.mono (fun x h=>.inr (by rw[h];exact sdb)));have kc:aj (fun x=>(x=V.bk i\/dG (V.B i) s x)\/gY V.lm.av V.lm.ac x) w w':=(k23.mono (fun x h=>.inl h)).trans (a3.mono (fun x h=>.inr h));have hmk:=m3.jw h3 (a3.mono (fun x h=>QF h));have lY:∀x,x≠b->aQ V.om b (gQ (V.om b)) x=V.om x:=fun x h=>ah _ _ h
 refine⟨rfl,je.of (P:=fun _=>True) (S:=fun x=>x=V.bk i\/dG (V.B i) s x) R hi' _ (ds:=[.left b,.gp b (V.om b)]) (by simp) ⟨bM,_,a1,fun x hx=>(a2 x hx).imp_right (fun h=>Nat.le_trans k23.size h),a5,trivial⟩ hmk kc (fun x hx=>?_) (fun x=>?_) (fun x=>?_) rfl (fun y hy x hx=>.inl ⟨y,hy,Js ((g.gb i hi).inj s hs) hk hx⟩) (fun adQ acO TE _=>⟨aba g hM hi hs hk hkb,rfl,fun j y=>yx (V:=V) (i:=i) (B':=(V.B i).leave V.om s k) (fun B=>B.sl y) rfl j,fun _=>rfl,acO,TE⟩),kc,hmk⟩
 ·rcases hx with h | h
  ·exact .inl h
  ·exact .inr (.inl ⟨s,hs,h⟩)
 ·by_cases e:x=b
  ·exact .inl (e▸hap)
  ·exact .inr (lY x e)
 ·by_cases e:x=b
  ·rw[e,ai];rfl
  ·rw[lY x e]
structure Ry(bv bm bo n:Nat)(M:Int)(V:aS)(r:Nat)(D:DataW Unit)(f:Lit->Option Nat)(bk:Nat->Nat)(w wr:World)(cnt:Nat)(V':aS)(left:Lit->Bool)(cur:Option Int)(ex:List Nat):Prop where
 nt:V'.lg.nt=ex.flatMap (fun x=>[.left x,.gp x (V.om x)])
 exn:ex.Nodup
 exm:∀id x,V.aW id=some x->(x∈ex↔(left (.int .i64 id)=false/\cur≠some id/\(V.om x).kind=1/\0<(V.om x).aO))
 sl:∀j y,(V'.B j).sl y=(V.B j).sl y
 Yt:∀j,V'.bk j=V.bk j
 cu:∃cl,iw wr bv bk w.heap.size true (V.lm.ac.map Prod.snd) V'.lg.nt V.lm.tb V'.lm cl
 exo:∀x∈ex,VL V x
 lG:dS wr bv bm bo V'
 gw:GW V' M
 aW:V'.aW=V.aW
 no:V'.no=V.no
 nb:V'.nb=V.nb
 lL:∀j,(V'.B j).sym=(V.B j).sym
 Sr:∀j,(V'.B j).places=(V.B j).places
 dN:∀x,(V'.om x).sym=(V.om x).sym/\(V'.om x).side=(V.om x).side/\(V'.om x).id=(V.om x).id/\(V'.om x).filled=(V.om x).filled
 om:∀id x,V.aW id=some x->V'.om x=if left (.int .i64 id)=true\/cur=some id then V.om x else D7 (V.om x)
 lg:Zp V.lg.begun V'.lg (3 * (n-cnt))
 Ws:wr.ranges Tryz.prog 3 jA bo r n D left cnt
 le:∀kl,left kl=true->(f kl).isSome=true
 kU:∀y,dO bv bm bo V' y->dO bv bm bo V y\/w.heap.size<=y
 cn:cnt<=n
 box:aA wr w.heap.size #[PP bv] 35
 jV:aj (dO bv bm bo V) w wr
 rr:w.heap.size<=r
theorem Ry.step{bv bm bo n:Nat}{M:Int}{V:aS}{r:Nat}{D:DataW Unit}{f:Lit->Option Nat}{bk:Nat->Nat}{w wr W:World}{ex:List Nat}{cnt cnt':Nat}{V':aS}{left:Lit->Bool}{id:Int}(h:Ry bv bm bo n M V r D f bk w wr cnt V' left none ex)(hid:left (.int .i64 id)=true)(hr:W.ranges Tryz.prog 3 jA bo r n D (fun z=>left z && !z.sameKey (.int .i64 id)) cnt')(hlt:cnt'<cnt)(hg:wr.grownBy W (some r)) :
 Ry bv bm bo n M V r D f bk w W cnt' V' (fun z=>left z && !z.sameKey (.int .i64 id)) (some id) ex:=by
 have kr:aj (fun y=>y=r) wr W:=(aj.refl _ wr).grown hg (fun k e=>.inl (by simpa using e.symm));have nf:¬dO bv bm bo V' r:=by
  obtain⟨es,clock,since,seen,c0,_,_,_,_,hh,_⟩:=h.Ws;exact h.lG.Qc hh
 have bx:w.heap.size≠r:=fun e=>(uU h.Ws h.box).2 e.symm
 obtain⟨l1,l2,l3,l4,l5⟩:=h.lg;have:=h.cn;have adu:nP wr w.heap.size true (fun y=>y=r):=fun b hb=>.inr (fun c t hc _=>(uU h.Ws hc).2 hb.symm)
 obtain⟨cl,hcl⟩:=h.cu;refine⟨h.nt,h.exn,fun vO x hx=>?_,h.sl,h.Yt,⟨cl,hcl.aC kr adu⟩,h.exo,h.lG.abT kr nf,h.gw,h.aW,h.no,h.nb,h.lL,h.Sr,h.dN,fun vO x hx=>?_,⟨l1,l2,l3,l4,by omega,by omega,l5.2.2⟩,hr,fun kl e=>h.le kl (by simp at e;exact e.1),h.kU,by omega,kr.aF h.box bx,h.jV.from (kr.mono (fun y e=>.inr (by rw[e];exact h.rr))),h.rr⟩
 ·rw[h.exm vO x hx];by_cases e:vO=id
  ·subst e;simp[hid]
  ·have e1:(Lit.int .i64 vO).sameKey (.int .i64 id)=false:=by simp[Lit.sameKey,e]
   have e2:¬(some id=some vO):=fun h=>e (Option.some.inj h).symm
   simp[e1,e2]
 rw[h.om vO x hx];by_cases e:vO=id
 ·subst e;rw[if_pos (.inl hid),if_pos (.inr rfl)]
 ·have e1:(Lit.int .i64 vO).sameKey (.int .i64 id)=false:=by simp[Lit.sameKey,e]
  have e2:¬(some id=some vO):=fun h=>e (Option.some.inj h).symm
  simp only[e1,Bool.not_false,Bool.and_true,e2,or_false,reduceCtorEq]
theorem Ry.skip{bv bm bo n:Nat}{M:Int}{V:aS}{r:Nat}{D:DataW Unit}{f:Lit->Option Nat}{bk:Nat->Nat}{w wr:World}{ex:List Nat}{cnt:Nat}{V':aS}{left:Lit->Bool}{id:Int}{x:Nat}(h:Ry bv bm bo n M V r D f bk w wr cnt V' left (some id) ex)(hx:V.aW id=some x)(hk:¬((V.om x).kind=1/\0<(V.om x).aO)):Ry bv bm bo n M V r D f bk w wr cnt V' left none ex:=by
 refine { h with om:=fun vO x2 hx2=>?_,exm:=fun vO x2 hx2=>?_ }
 ·rw[h.exm vO x2 hx2];by_cases e:vO=id
  ·subst e;rw[hx]at hx2;obtain rfl:=Option.some.inj hx2;constructor
   ·rintro⟨_,h2,_⟩;exact absurd rfl h2
   ·rintro⟨_,_,h3⟩;exact absurd h3 hk
  ·have e2:¬(some id=some vO):=fun h=>e (Option.some.inj h).symm
   simp[e2]
 rw[h.om vO x2 hx2];by_cases e:vO=id
 ·subst e;rw[hx]at hx2;obtain rfl:=Option.some.inj hx2;rw[if_pos (.inr rfl)];split
  ·rfl
  ·unfold D7;rw[if_neg hk]
 ·have e2:¬(some id=some vO):=fun h=>e (Option.some.inj h).symm
  simp only[e2,or_false,reduceCtorEq]
theorem Ry.turn{bv bm bo n:Nat}{M:Int}{V:aS}{r:Nat}{D:DataW Unit}{f:Lit->Option Nat}{bk:Nat->Nat}{w wr W:World}{ex:List Nat}{cnt:Nat}{V':aS}{left:Lit->Bool}{i s x:Nat}{id:Int}(h:Ry bv bm bo n M V r D f bk w wr cnt V' left (some id) ex)(hx:V.aW id=some x)(hk:(V.om x).kind=1/\0<(V.om x).aO)(hlf:left (.int .i64 id)=false)(hlt:cnt<n)(hnt:V'.lg.nt.length<=V.lg.begun.nt.length+3 * (n-(cnt+1)))(hi:i<V'.nb)(hs:s<2)
 (ht:je bv bm bo V' (ExC bv V' M x bk w.heap.size (V.lm.ac.map Prod.snd) V.lm.tb) wr W) (kc:aj (fun x=>(x=V'.bk i\/dG (V'.B i) s x)\/gY V'.lm.av V'.lm.ac x) wr W) :
 ∃V'',Ry bv bm bo n M V r D f bk w W cnt V'' left none (ex++[x]):=by
 obtain⟨V2,R2,⟨Ez,hnt,hsl,hbE,TE⟩,⟨l1,l2,l3,l4,l5⟩,hb,_,k2,hF⟩:=ht;have hi':i<V'.nb:=hi;have gK:∀x,((x=V'.bk i\/dG (V'.B i) s x)\/gY V'.lm.av V'.lm.ac x)->∃c t,aA wr x c t:=by
  rintro x ((e | e) | e)
  ·obtain⟨c,t,hc,_⟩:=(h.lG.tu hi').gK (.inl e);exact⟨c,t,hc⟩
  ·obtain⟨c,t,hc,_⟩:=(h.lG.tu hi').gK (.inr (.inr ⟨s,hs,e⟩));exact⟨c,t,hc⟩
  ·obtain⟨c,t,hc,_⟩:=h.lG.aP.aP.act.gK e;exact⟨c,t,hc⟩
 have n1:¬((bo=V'.bk i\/dG (V'.B i) s bo)\/gY V'.lm.av V'.lm.ac bo):=fun e=>by
  obtain⟨c,t,hc⟩:=gK bo e;exact (uU h.Ws hc).1 rfl
 have n2:¬((r=V'.bk i\/dG (V'.B i) s r)\/gY V'.lm.av V'.lm.ac r):=fun e=>by
  obtain⟨c,t,hc⟩:=gK r e;exact (uU h.Ws hc).2 rfl
 obtain⟨m1,m2,m3,m4,m5⟩:=h.lg;have rJ:∀vO,V.aW vO=some x->vO=id:=fun vO h2=>by
  have a1:=(h.lG.bz vO x (by rw[h.aW];exact h2)).1;have a2:=(h.lG.bz id x (by rw[h.aW];exact hx)).1;rw[<-a1,a2]
 have omx:V'.om x=V.om x:=by rw[h.om id x hx,if_pos (.inr rfl)]
 have nx:x∉ex:=fun hm=>((h.exm id x hx).1 hm).2.1 rfl
 refine⟨V2,by rw[hnt,h.nt,List.flatMap_append,omx];simp,by rw[List.nodup_append];exact⟨h.exn,by simp,fun a ha b hb e=>by rw[List.mem_singleton]at hb;subst hb;subst e;exact nx ha⟩,fun vO y hy=>?_,fun j y=>(hsl j y).trans (h.sl j y),fun j=>(hbE j).trans (h.Yt j),TE,fun y hy=>by rcases List.mem_append.1 hy with hy | hy;exact h.exo y hy;rw[List.mem_singleton]at hy;subst hy;exact⟨id,hx⟩,R2,Ez.gw,Ez.aW.trans h.aW,Ez.no.trans h.no,Ez.nb.trans h.nb,fun j=>(Ez.lL j).trans (h.lL j),fun j=>(Ez.Sr j).trans (h.Sr j),fun y=>?_,fun vO y hy=>?_,⟨l1.trans m1,l2.trans m2,l3.trans m3,l4.trans m4,by omega,by omega,l5.2.2.trans m5.2.2⟩,JP h.Ws kc n1 n2,h.le,fun y hy=>?_,h.cn,hb _ _ _ h.box (.inr (.inl rfl)),h.jV.from (k2.mono (fun y hy=>h.kU y hy)),h.rr⟩
 ·rw[List.mem_append,List.mem_singleton,h.exm vO y hy];by_cases e:y=x
  ·subst e;have e2:=rJ vO hy;subst e2;simp[hlf,hk.1,hk.2]
  ·have e3:vO≠id:=fun e2=>e (by rw[e2,hx]at hy;exact (Option.some.inj hy).symm)
   have e2:¬(some id=some vO):=fun h=>e3 (Option.some.inj h).symm
   simp[e2,e]
 ·rw[Ez.om];by_cases e:y=x
  ·rw[e,ai];exact h.dN x
  ·rw[ah _ _ e];exact h.dN y
 ·rw[Ez.om];by_cases e:y=x
  ·subst e;have e2:=rJ vO hy;subst e2;rw[ai,hlf,omx];simp only[Bool.false_eq_true,reduceCtorEq,or_self,if_false];unfold D7;rw[if_pos hk]
  ·have e3:vO≠id:=fun e2=>e (by rw[e2,hx]at hy;exact (Option.some.inj hy).symm)
   have e2:¬(some id=some vO):=fun h=>e3 (Option.some.inj h).symm
   rw[ah _ _ e,h.om vO y hy];simp only[e2,or_false,reduceCtorEq]
 ·rcases hF y hy with e | e
  ·exact h.kU y e
  ·exact .inr (Nat.le_trans h.jV.size e)
end Go.Proofs.YtigaphnafnpfnaaGreatDoor
