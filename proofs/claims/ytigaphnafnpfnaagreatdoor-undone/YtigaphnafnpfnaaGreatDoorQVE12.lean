import Derived.Test.YtigaphnafnpfnaaGreatDoorQVX10
set_option linter.unusedVariables false
set_option linter.unusedSimpArgs false
set_option maxHeartbeats 8000000
set_option maxRecDepth 100000
namespace Go.Proofs.YtigaphnafnpfnaaGreatDoor
open Go.RowKit Go.Maps
attribute [local go_sem ↓] Go.wp_at_zero Go.wp_at_succ
theorem zk(bv bm bo:Nat)(V:aQ)(id:Int)(w:World)(R:dN w bv bm bo V)(hid:(Lit.int .i64 id).wf=true)(hn:V.aU id=none) :
 Calls Tryz.prog 37 #[.pointer (some ⟨bv,0,none⟩),.int .i64 id] w fun e w'=>e=.returned (.int .i64 6)/\au aP w w':=by
 have L2:=R.vN hid
 rw[hn]at L2
 simp only[iR]at L2
 have v1:w.cell? ⟨bv,1,none⟩=some (.map (some bo)):=R.dA.cell 1
 clear R hn
 go_enter Tryz.func37,Tryz.ntmps37
 go_wp2
 go_ret
 exact⟨rfl,by repeat (first|exact au.refl _ _|refine au.drewN ?_ _|refine au.drew ?_)⟩
theorem BJ(bv bm bo b:Nat)(V:aQ)(id:Int)(w:World)(R:dN w bv bm bo V)(hid:(Lit.int .i64 id).wf=true)(hn:V.aU id=some b)(h0:(V.om b).aK=0) :
 Calls Tryz.prog 37 #[.pointer (some ⟨bv,0,none⟩),.int .i64 id] w fun e w'=>e=.returned (.int .i64 10)/\au aP w w':=by
 have L2:=R.vN hid
 rw[hn]at L2
 simp only[iR]at L2
 obtain⟨_,ix,ho⟩:=R.bg id b hn
 have o8:w.cell? ⟨b,8,none⟩=some (.int .i64 0):=by rw[<-h0];exact ho.cell 8
 have v1:w.cell? ⟨bv,1,none⟩=some (.map (some bo)):=R.dA.cell 1
 clear R hn ho h0
 go_enter Tryz.func37,Tryz.ntmps37
 go_wp2
 go_ret
 exact⟨rfl,by repeat (first|exact au.refl _ _|refine au.drewN ?_ _|refine au.drew ?_)⟩
structure Qo(M:Int)(o:Ord):Prop where
 sum:o.entered=o.aK+o.filled+o.bQ+o.exp
 o0:0<=o.aK
 f0:0<=o.filled
 c0:0<=o.bQ
 e0:0<=o.exp
 hi:o.entered<=M
theorem Qo.fill{M:Int}{o:Ord}(h:Qo M o){q:Int}(h1:0<=q)(h2:q<=o.aK)(hM:M<=1000000000000000):Qo M (iI o q)/\(iI o q).aK=o.aK-q/\(iI o q).filled=o.filled+q:=by
 obtain⟨a,b,c,d,e,f⟩:=h
 have e1:(iI o q).aK=o.aK-q:=by simp only[iI];exact aS (by omega) (by omega)
 have e2:(iI o q).filled=o.filled+q:=by simp only[iI];exact aS (by omega) (by omega)
 refine⟨⟨?_,by rw[e1];omega,by rw[e2];omega,d,e,f⟩,e1,e2⟩
 show o.entered=_
 rw[e1,e2,a]
 show _=o.aK-q+(o.filled+q)+o.bQ+o.exp
 omega
theorem Qo.bQ{M:Int}{o:Ord}(h:Qo M o)(hM:M<=1000000000000000):Qo M (fU o)/\(fU o).aK=0/\(fU o).bQ=o.bQ+o.aK:=by
 obtain⟨a,b,c,d,e,f⟩:=h
 have e2:(fU o).bQ=o.bQ+o.aK:=by simp only[fU];exact aS (by omega) (by omega)
 refine⟨⟨?_,by show (0:Int)<=0;omega,c,by rw[e2];omega,e,f⟩,rfl,e2⟩
 show o.entered=_
 rw[e2,a]
 show _=0+o.filled+(o.bQ+o.aK)+o.exp
 omega
def oz(o o':Ord):Prop:=o'.id=o.id/\o'.aA=o.aA/\o'.sym=o.sym/\o'.side=o.side/\o'.kind=o.kind/\o'.af=o.af/\o'.aI=o.aI/\o'.place=o.place/\o'.entered=o.entered/\o'.exp=o.exp
theorem oz.refl(o:Ord):oz o o:=⟨rfl,rfl,rfl,rfl,rfl,rfl,rfl,rfl,rfl,rfl⟩
theorem oz.trans{a b c:Ord}(h:oz a b)(k:oz b c):oz a c:=by
 obtain⟨a1,a2,a3,a4,a5,a6,a7,a8,a9,a10⟩:=h
 obtain⟨b1,b2,b3,b4,b5,b6,b7,b8,b9,b10⟩:=k
 exact⟨b1.trans a1,b2.trans a2,b3.trans a3,b4.trans a4,b5.trans a5,b6.trans a6,b7.trans a7,b8.trans a8,b9.trans a9,b10.trans a10⟩
theorem oz.fill(o:Ord)(q:Int):oz o (iI o q):=⟨rfl,rfl,rfl,rfl,rfl,rfl,rfl,rfl,rfl,rfl⟩
theorem oz.bQ(o:Ord):oz o (fU o):=⟨rfl,rfl,rfl,rfl,rfl,rfl,rfl,rfl,rfl,rfl⟩
abbrev kX(st:MS)(s x:Nat):Prop:=Mem (st.B.n s) (st.B.h s) x
structure LW(oc s:Nat)(M:Int)(st0 st:MS):Prop where
 q:∀x,(x=oc\/kX st0 s x)->Qo M (st.om x)
 mem:∀x,kX st s x->kX st0 s x
 gone:∀x,kX st0 s x->¬kX st s x->(st.om x).aK=0
 heap:dX (fG st.om) (st.B.n s) (st.B.h s)
 kQ:∀x,x≠oc->¬kX st0 s x->st.om x=st0.om x
 dH:∀x,oz (st0.om x) (st.om x)
 Zm:(st0.om oc).filled<=(st.om oc).filled
 trl:st0.tr<=st.tr
 eqv:(st.om oc).filled=(st0.om oc).filled↔st.tr=st0.tr
 bQ:(st.om oc).bQ=(st0.om oc).bQ
 inv:qN oc s st
theorem LW.trans{oc s:Nat}{M:Int}{a b c:MS}(h:LW oc s M a b)(k:LW oc s M b c)(iv:qN oc s a):LW oc s M a c:=by
 have no:∀x,kX a s x->x≠oc:=fun x ⟨l,hl,e⟩=>by rw[e];exact (iv.mem l hl).2.2.2
 refine⟨fun x hx=>?_,fun x hx=>h.mem x (k.mem x hx),fun x hx hn=>?_,k.heap,fun x h1 h2=>?_,fun x=>(h.dH x).trans (k.dH x),by have:=h.Zm;have:=k.Zm;omega,by have:=h.trl;have:=k.trl;omega,?_,k.bQ.trans h.bQ,k.inv⟩
 ·by_cases e:x=oc
  ·exact k.q x (.inl e)
  ·by_cases hm:kX b s x
   ·exact k.q x (.inr hm)
   ·rw[k.kQ x e hm];exact h.q x hx
 ·by_cases hm:kX b s x
  ·exact k.gone x hm hn
  ·rw[k.kQ x (no x hx) hm];exact h.gone x hx hm
 ·rw[k.kQ x h1 (fun hm=>h2 (h.mem x hm)),h.kQ x h1 h2]
 ·have a1:=h.Zm;have a2:=k.Zm;have a3:=h.trl;have a4:=k.trl;have a5:=h.eqv;have a6:=k.eqv
  constructor
  ·intro e
   have e1:(b.om oc).filled=(a.om oc).filled:=by omega
   have e2:(c.om oc).filled=(b.om oc).filled:=by omega
   rw[a6.1 e2,a5.1 e1]
  ·intro e
   have e1:b.tr=a.tr:=by omega
   have e2:c.tr=b.tr:=by omega
   rw[a6.2 e2,a5.2 e1]
theorem kz{B:Bk}{om:Nat->Ord}{s i:Nat}(hinj:qf (B.n s) (B.h s))(hi:i<B.n s)(x:Nat):Mem ((B.leave om s i).n s) ((B.leave om s i).h s) x↔Mem (B.n s) (B.h s) x/\x≠B.h s i:=by
 have h0:qf (B.n s-1+1) (B.h s):=by rw[show B.n s-1+1=B.n s by omega];exact hinj
 have:=jB (lt:=fG om) (B.h s) i (n:=B.n s-1) (by omega) (h0.oP (by omega)) x
 rw[show B.n s-1+1=B.n s by omega]at this
 simp only[Bk.leave,aj]
 exact this
theorem uM{B:Bk}{om dG:Nat->Ord}{s i:Nat}(hlt:fG dG=fG om)(hside:∀k,k<B.n s->(om (B.h s k)).side=(s:Int))(ok:dX (fG om) (B.n s) (B.h s))(hi:i<B.n s):dX (fG dG) ((B.leave dG s i).n s) ((B.leave dG s i).h s):=by
 simp only[Bk.leave,aj]
 rw[hlt]
 refine Dj (kL om (s:Int)) (B.h s) i (by omega) (fun k hk=>hside k (by omega)) ?_
 rw[show B.n s-1+1=B.n s by omega]
 exact ok
theorem Kt{om:Nat->Ord}{oc ow:Nat}(hne:ow≠oc):fG (aT om oc ow)=fG om:=by
 unfold aT
 simp only
 rw[Ej,Ej]
 ·rfl
 ·rfl
 ·rfl
 ·rw[ah _ _ hne];rfl
 ·rw[ah _ _ hne];rfl
 ·rw[ah _ _ hne];rfl
theorem xx{oc s:Nat}{M:Int}{st:MS}(hM:M<=1000000000000000)(iv:qN oc s st)(hn:0<st.B.n s)(hp:0<(st.om oc).aK)(hh:dX (fG st.om) (st.B.n s) (st.B.h s))(hq:∀x,(x=oc\/kX st s x)->Qo M (st.om x)):LW oc s M st (bz oc s st):=by
 have KU:=(nH iv hn hp).1
 obtain⟨B,om,lg⟩:=st
 simp only at hn hp hh
 have hr:=iv.mem 0 hn
 simp only at hr
 obtain⟨hs0,hpos,hmax,hne⟩:=hr
 have hrm:kX ⟨B,om,lg⟩ s (B.h s 0):=⟨0,hn,rfl⟩
 have hside:∀k,k<B.n s->(om (B.h s k)).side=(s:Int):=fun k hk=>(iv.mem k hk).1
 have Nj:qf (B.n s) (B.h s):=iv.inj
 have qr:Qo M (om (B.h s 0)):=hq _ (.inr hrm)
 have qc:Qo M (om oc):=hq _ (.inl rfl)
 unfold bz at KU ⊢
 simp only at KU ⊢
 by_cases ho:(om (B.h s 0)).aA=(om oc).aA
 ·rw[if_pos ho]at KU ⊢
  obtain⟨c1,c2,c3⟩:=qr.bQ hM
  have hoc:aN om (B.h s 0) (fU (om (B.h s 0))) oc=om oc:=ah _ _ (fun e=>hne e.symm)
  have hlt:fG (aN om (B.h s 0) (fU (om (B.h s 0))))=fG om:=Ej rfl rfl rfl
  refine⟨fun x hx=>?_,fun x hx=>?_,fun x hx hnx=>?_,?_,fun x h1 h2=>?_,fun x=>?_,?_,Int.le_refl _,?_,?_,KU⟩
  ·by_cases e:x=B.h s 0
   ·simp only[e,aj];exact c1
   ·simp only[ah _ _ e];exact hq x hx
  ·exact ((kz Nj hn x).1 hx).1
  ·have e:x=B.h s 0:=by
    by_cases e:x=B.h s 0
    ·exact e
    ·exact absurd ((kz Nj hn x).2 ⟨hx,e⟩) hnx
   simp only[e,aj];exact c2
  ·simp only
   have:=uM (dG:=om) rfl hside hh hn
   rw[hlt];exact this
  ·exact ah _ _ (fun e=>h2 (e▸hrm))
  ·simp only
   by_cases e:x=B.h s 0
   ·rw[e,aj];exact oz.bQ _
   ·rw[ah _ _ e];exact oz.refl _
  ·simp only[hoc];exact Int.le_refl _
  ·exact⟨fun _=>rfl,fun _=>by simp only[hoc]⟩
  ·simp only[hoc]
 ·rw[if_neg ho]at KU ⊢
  obtain⟨q,hqq⟩:∃q,min (om oc).aK (om (B.h s 0)).aK=q:=⟨_,rfl⟩
  have q0:0<q:=by omega
  obtain⟨c1,c2,c3⟩:=qc.fill (q:=q) (by omega) (by omega) hM
  obtain⟨d1,d2,d3⟩:=qr.fill (q:=q) (by omega) (by omega) hM
  have Bj:aT om oc (B.h s 0) oc=iI (om oc) q:=by unfold aT;rw[ah _ _ (fun e=>hne e.symm),aj,hqq]
  have NW:aT om oc (B.h s 0) (B.h s 0)=iI (om (B.h s 0)) q:=by unfold aT;rw[aj,hqq]
  have tot:∀x,x≠oc->x≠B.h s 0->aT om oc (B.h s 0) x=om x:=fun x h1 h2=>by unfold aT;rw[ah _ _ h2,ah _ _ h1]
  have hlt:=Kt (om:=om) hne
  have hmem:∀x,Mem ((dO B om oc (B.h s 0) s).n s) ((dO B om oc (B.h s 0) s).h s) x->Mem (B.n s) (B.h s) x:=by
   intro x hx
   unfold dO at hx
   split at hx
   ·exact ((kz Nj hn x).1 hx).1
   ·exact hx
  have ZC:∀x,Mem (B.n s) (B.h s) x->¬Mem ((dO B om oc (B.h s 0) s).n s) ((dO B om oc (B.h s 0) s).h s) x->(aT om oc (B.h s 0) x).aK=0:=by
   intro x hx hnx
   unfold dO at hnx
   split at hnx
   ·rename_i hz
    have e:x=B.h s 0:=by
     by_cases e:x=B.h s 0
     ·exact e
     ·exact absurd ((kz Nj hn x).2 ⟨hx,e⟩) hnx
    rw[e];exact hz
   ·exact absurd hx hnx
  have hheap:dX (fG (aT om oc (B.h s 0))) ((dO B om oc (B.h s 0) s).n s) ((dO B om oc (B.h s 0) s).h s):=by
   unfold dO
   split
   ·exact uM hlt hside hh hn
   ·rw[hlt];exact hh
  have htr:MS.tr ⟨dO B om oc (B.h s 0) s,aT om oc (B.h s 0),(dh lg om oc (B.h s 0)).jG (iG B om oc (B.h s 0))⟩=MS.tr ⟨B,om,lg⟩+1:=by simp[MS.tr,Lg.jG,Lg.told,Lg.aC,Lg.aV,gu]
  refine⟨fun x hx=>?_,hmem,ZC,hheap,fun x h1 h2=>tot x h1 (fun e=>h2 (e▸hrm)),fun x=>?_,?_,?_,?_,?_,KU⟩
  ·simp only
   by_cases e:x=oc
   ·rw[e,Bj];exact c1
   ·by_cases e2:x=B.h s 0
    ·rw[e2,NW];exact d1
    ·rw[tot x e e2];exact hq x hx
  ·simp only
   by_cases e:x=oc
   ·rw[e,Bj];exact oz.fill _ _
   ·by_cases e2:x=B.h s 0
    ·rw[e2,NW];exact oz.fill _ _
    ·rw[tot x e e2];exact oz.refl _
  ·simp only[Bj];rw[c3];omega
  ·rw[htr];omega
  ·rw[htr];simp only[Bj];rw[c3]
   constructor <;> intro h <;> omega
  ·simp only[Bj];rfl
theorem JQ{oc s:Nat}{M:Int}(hM:M<=1000000000000000):∀(f:Nat) (st:MS),qN oc s st->dX (fG st.om) (st.B.n s) (st.B.h s)->(∀x,(x=oc\/kX st s x)->Qo M (st.om x))->LW oc s M st (aZ oc s f st):=by
 intro f
 induction f with
 | zero=>exact fun st iv hh hq=>⟨hq,fun _ h=>h,fun _ h hn=>absurd h hn,hh,fun _ _ _=>rfl,fun _=>oz.refl _,Int.le_refl _,Int.le_refl _,⟨fun _=>rfl,fun _=>rfl⟩,rfl,iv⟩
 | succ f ih =>
   intro st iv hh hq
   rw[aZ]
   split
   ·exact⟨hq,fun _ h=>h,fun _ h hn=>absurd h hn,hh,fun _ _ _=>rfl,fun _=>oz.refl _,Int.le_refl _,Int.le_refl _,⟨fun _=>rfl,fun _=>rfl⟩,rfl,iv⟩
   ·rename_i hst
    obtain⟨hn,hp⟩:=lS hst
    have r1:=xx hM iv hn hp hh hq
    exact r1.trans (ih _ r1.inv r1.heap (fun x hx=>r1.q x (hx.imp_right (r1.mem x)))) iv
theorem En{oc s:Nat}:∀(f:Nat) (st:MS),qN oc s st->mu oc s st<=f->stops oc s (aZ oc s f st)=true:=by
 intro f
 induction f with
 | zero =>
   intro st iv hf
   have h0:st.B.n s=0:=by unfold mu at hf;omega
   simp[aZ,stops,dF,h0]
 | succ f ih =>
   intro st iv hf
   rw[aZ]
   by_cases h:stops oc s st=true
   ·rw[if_pos h];exact h
   ·rw[if_neg h]
    obtain⟨hn,hp⟩:=lS h
    obtain⟨KU,hmu,_⟩:=nH iv hn hp
    exact ih _ KU (by omega)
open Go.RowKit
def XV(o:Ord)(c:Int):Ord:={ o with entered:=wrap64 (wrap64 (o.entered+c)-o.aK),aK:=c }
def EI(o:Ord)(b c:Int):Ord:={ o with entered:=wrap64 (wrap64 (o.entered+c)-o.aK),aK:=0,af:=b }
theorem QQ(i:Nat)(c:RC):∃f r n a k,Yq i c=lq f r n a k:=by
 unfold Yq
 split
 ·exact⟨_,_,_,_,_,rfl⟩
 ·split <;> exact⟨_,_,_,_,_,rfl⟩
def RS.fresh(S:RS):RS:={ S with told:=[] }
def Lg.lC(G:Lg)(k:Nat)(t:Tr):Lg:={ G with tr:=G.tr.set k ⟨t,false⟩ }
theorem fP.lC{w:World}{bv bm bo k b:Nat}{G:Lg}{m:Lm}{x:Tg}(h:bu w bv bm bo G m)(hx:G.tr[k]?=some x)(hb:m.tb[k]?=some b):bu (w.setCell ⟨b,7,none⟩ (.bool false)) bv bm bo (G.lC k x.t) m:=by
 have hblk:=h.aO.aB k b x hb hx
 have kk:au (fun y=>y=b) w (w.setCell ⟨b,7,none⟩ (.bool false)):=(au.refl (fun y=>y=b) w).setCell (p:=⟨b,7,none⟩) (.inl rfl) _
 refine⟨kk.aB h.dA (az.ne h.dA hblk (by decide)),?_⟩
 have ht:=aG h.aO.jq kk (fun y hy e=>bV h.aO.jq hy hblk (by decide) e)
 refine⟨?_,aG h.aO.iF kk (fun y hy e=>bV h.aO.iF hy hblk (by decide) e),by simp[Lg.lC,h.aO.len],fun i b' g hi hg=>?_,h.aO.nodup,h.aO.act.aC kk (fun y hy e=>?_),aG h.aO.kH kk (fun y hy e=>bV h.aO.kH hy hblk (by decide) e),h.aO.jb⟩
 ·simp only[Lg.lC,List.length_set];exact ht
 ·simp only[Lg.lC]at hg
  by_cases e:i=k
  ·subst e
   obtain rfl:b'=b:=by rw[hb]at hi;exact (Option.some.inj hi).symm
   have hlt:i<G.tr.length:=(List.getElem?_eq_some_iff.1 hx).1
   rw[List.getElem?_set_self hlt]at hg
   obtain rfl:=Option.some.inj hg
   exact hblk.set 7 _
  ·rw[List.getElem?_set_ne (fun h=>e h.symm)]at hg
   refine kk.aB (h.aO.aB i b' g hi hg) (fun e2=>e ?_)
   subst e2
   obtain⟨h1,e1⟩:=List.getElem?_eq_some_iff.1 hi
   obtain⟨h2,e2⟩:=List.getElem?_eq_some_iff.1 hb
   rcases Nat.lt_trichotomy i k with hlt|hlt|hlt
   ·exact absurd (e1.trans e2.symm) (List.pairwise_iff_getElem.1 h.aO.nodup i k h1 h2 hlt)
   ·exact hlt
   ·exact absurd (e2.trans e1.symm) (List.pairwise_iff_getElem.1 h.aO.nodup k i h2 h1 hlt)
 ·obtain⟨c,t,hc,ht'⟩:=h.aO.act.fZ hy
  subst e
  exact az.ne hc hblk (by rcases ht' with rfl|rfl <;> decide) rfl
def WB(G G':Lg)(n:Nat):Prop:=G'.tr=G.tr/\G'.tp=G.tp/\G'.day=G.day/\G'.na=G.na/\G'.nt.length<=G.nt.length+n/\G'.ud=G.ud
def Lg.gV(G:Lg)(k tb:Nat)(t:Tr):Lg:=((G.begun.lC k t).told 2 t).aV [.jw tb]
def aQ.jS(V:aQ)(i:Nat)(B':Bk)(dG:Nat->Ord)(G':Lg)(bH:Lm):aQ:={ V with B:=aN V.B i B',om:=dG,lg:=G',lm:=bH }
def Next(bv bm bo:Nat)(V:aQ)(Q:aQ->Prop)(w w':World):Prop :=
 ∃V2,dN w' bv bm bo V2/\Q V2/\au (dI bv bm bo V) w w'/\∀x,dI bv bm bo V2 x->dI bv bm bo V x\/w.heap.size<=x
theorem Next.of{w w':World}{bv bm bo i:Nat}{V:aQ}(R:dN w bv bm bo V)(hi:i<V.nb){B':Bk}{dG:Nat->Ord}{G':Lg}{bH:Lm}{S:Nat->Prop}(Q:aQ->Prop)
 (hm:Mk w' (V.bk i) B' dG (fun x=>∃id,V.aU id=some x)) (hl:bu w' bv bm bo G' bH) (hf:∀x,bH.F x->V.lm.F x\/w.heap.size<=x) (k:au S w w')
 (hS:∀x,S x->x=bv\/V.lm.F x\/x=V.bk i\/(∃s,s<2/\dC (V.B i) s x)\/((∃id,V.aU id=some x)/\nM V i x))
 (jk:∀j,j<V.nb->j≠i->∀s,s<2->∀l,l<(V.B j).n s->dG ((V.B j).h s l)=V.om ((V.B j).h s l)) (hid:∀x,(dG x).id=(V.om x).id) (dM:B'.sym=(V.B i).sym)
 (hsd:∀s,s<2->∀x,dC B' s x->(∃t,t<2/\dC (V.B i) t x)\/((∃id,V.aU id=some x)/\nM V i x)\/w.heap.size<=x) (hQ:Q (V.jS i B' dG G' bH)):Next bv bm bo V Q w w':=by
 have fZ:∀x,S x->∃c t,az w x c t:=fun x hx=>by
  rcases hS x hx with rfl|h|h|h|⟨h,_⟩
  ·exact⟨_,_,R.dA⟩
  ·obtain⟨c,t,hc,_⟩:=R.aO.aO.fZ h;exact⟨c,t,hc⟩
  ·obtain⟨c,t,hc,_⟩:=(R.qQ hi).fZ (.inl h);exact⟨c,t,hc⟩
  ·obtain⟨c,t,hc,_⟩:=(R.qQ hi).fZ (.inr (.inr h));exact⟨c,t,hc⟩
  ·obtain⟨c,t,hc,_⟩:=(R.qQ hi).fZ (.inr (.inl h));exact⟨c,t,hc⟩
 obtain⟨fB,mB,oK,sF⟩:=R.ik
 obtain⟨fO,mO,tZ⟩:=R.fD
 have nB:¬S bm:=fun h=>by obtain⟨c,t,hc⟩:=fZ bm h;exact mB.ne hc rfl
 have nO:¬S bo:=fun h=>by obtain⟨c,t,hc⟩:=fZ bo h;exact mO.ne hc rfl
 have G8:∀j,j<V.nb->∀x,x<2->∀y,dC (V.B j) x y->y<w.heap.size:=fun j hj x hx y h=>by
  rcases h with h|⟨l,hl,rfl⟩
  ·exact ((R.aW j hj).side x hx).lt h
  ·exact (((R.aW j hj).side x hx).bg hl).lt
 have wR:∀s,s<2->∀x,dC (V.B i) s x->nM V i x:=fun s hs x hx j hj hne t ht h=>R.lZ i j hi hj (fun e=>hne e.symm) s t hs ht x hx h
 have sdT:∀j,j<V.nb->∀y,y<2->∀x c t,az w x c t->t≠114->t≠116->¬dC (V.B j) y x:=fun j hj y hy x c t hb h1 h2 h=>by
  rcases h with h|⟨l,hl,h⟩
  ·exact ((R.aW j hj).side y hy).ne hb h1 h
  ·rw[h]at hb;exact az.ne hb (((R.aW j hj).side y hy).bg hl) h2 rfl
 have kQ:∀j,j<V.nb->j≠i->bU w' (V.bk j) (V.B j) dG:=fun j hj hne=>by
  have h6:bU w' (V.bk j) (V.B j) V.om:=(R.aW j hj).aC k (by
   rintro x (rfl|⟨y,hy,h⟩) hx
   ·rcases hS _ hx with h|h|h|⟨s,hs,h⟩|⟨⟨id,h⟩,_⟩
    ·exact az.ne (R.aW j hj).aB R.dA (by decide) h
    ·exact R.aO.aO.ne (R.aW j hj).aB (by decide) (by decide) (by decide) (by decide) (by decide) h
    ·exact R.qL j i hj hi hne h
    ·exact sdT i hi s hs _ _ _ (R.aW j hj).aB (by decide) (by decide) h
    ·obtain⟨_,ix,ho⟩:=R.bg id _ h
     exact az.ne (R.aW j hj).aB ho (by decide) rfl
   ·rcases hS _ hx with e|e|e|⟨s,hs,e⟩|⟨_,e⟩
    ·rw[e]at h;exact sdT j hj y hy _ _ _ R.dA (by decide) (by decide) h
    ·obtain⟨c,t,hc,ht⟩:=R.aO.aO.fZ e
     exact sdT j hj y hy _ _ _ hc (by rcases ht with rfl|rfl|rfl|rfl|rfl|rfl <;> decide) (by rcases ht with rfl|rfl|rfl|rfl|rfl|rfl <;> decide) h
    ·rw[e]at h;exact sdT j hj y hy _ _ _ (R.aW i hi).aB (by decide) (by decide) h
    ·exact wR s hs x e j hj hne y hy h
    ·exact e j hj hne y hy h)
  exact⟨h6.aB,fun y hy=>(h6.side y hy).om (fun l hl=>jk j hj hne y hy l hl),h6.apart,h6.uF⟩
 have hRep:dN w' bv bm bo (V.jS i B' dG G' bH):=by
  refine⟨hl,⟨fB,mB.aC k nB,?_,?_⟩,⟨fO,mO.aC k nO,tZ⟩,R.E5,?_,?_,?_,R.qL,?_,R.gp⟩
  ·intro j hj
   by_cases e:j=i
   ·subst e;simp only[aQ.jS,aj,dM];exact oK j hj
   ·simp only[aQ.jS,ah _ _ e];exact oK j hj
  ·intro s' b' h
   obtain⟨j,hj,e1,e2⟩:=sF s' b' h
   refine⟨j,hj,e1,?_⟩
   by_cases e:j=i
   ·subst e;simp only[aQ.jS,aj,dM];exact e2
   ·simp only[aQ.jS,ah _ _ e];exact e2
  ·intro j hj
   by_cases e:j=i
   ·subst e;simp only[aQ.jS,aj];exact hm.aW
   ·simp only[aQ.jS,ah _ _ e];exact kQ j hj e
  ·intro id x hx
   simp only[aQ.jS]at hx ⊢
   rw[hid]
   exact⟨(R.bg id x hx).1,hm.bg x ⟨id,hx⟩⟩
  ·intro j hj x hx l hl
   simp only[aQ.jS]at hj hl ⊢
   by_cases e:j=i
   ·subst e
    simp only[aj]at hl ⊢
    exact hm.mem x hx l hl
   ·simp only[ah _ _ e]at hl ⊢
    exact R.mem j hj x hx l hl
  ·intro p q hp hq hne x y hx hy z h1 h2
   have half:∀q,q<V.nb->q≠i->∀x y,x<2->y<2->∀z,dC B' x z->dC (V.B q) y z->False:=by
    intro q hq hne x y hx hy z h1 h2
    rcases hsd x hx z h1 with⟨t,ht,h⟩|⟨_,h⟩|h
    ·exact wR t ht z h q hq hne y hy h2
    ·exact h q hq hne y hy h2
    ·have:=G8 q hq y hy z h2;omega
   simp only[aQ.jS]at h1 h2
   by_cases e:p=i
   ·rw[e,aj]at h1
    rw[ah _ _ (show q≠i by omega)]at h2
    exact half q hq (by omega) x y hx hy z h1 h2
   ·rw[ah _ _ e]at h1
    by_cases e2:q=i
    ·rw[e2,aj]at h2
     exact half p hp e y x hy hx z h2 h1
    ·rw[ah _ _ e2]at h2
     exact R.lZ p q hp hq hne x y hx hy z h1 h2
 refine⟨_,hRep,hQ,k.mono (fun x hx=>?_),fun x hx=>?_⟩
 ·rcases hS x hx with h|h|h|⟨s,hs,h⟩|⟨h,_⟩
  ·exact .inl h
  ·exact .inr (.inr (.inr (.inr (.inr h))))
  ·exact .inr (.inr (.inr (.inl ⟨i,hi,.inl h⟩)))
  ·exact .inr (.inr (.inr (.inl ⟨i,hi,.inr ⟨s,hs,h⟩⟩)))
  ·exact .inr (.inr (.inr (.inr (.inl h))))
 ·rcases hx with h|h|h|⟨j,hj,h⟩|h|h
  ·exact .inl (.inl h)
  ·exact .inl (.inr (.inl h))
  ·exact .inl (.inr (.inr (.inl h)))
  ·rcases h with h|⟨s,hs,h⟩
   ·exact .inl (.inr (.inr (.inr (.inl ⟨j,hj,.inl h⟩))))
   ·by_cases e:j=i
    ·subst e
     simp only[aQ.jS,aj]at h
     rcases hsd s hs x h with⟨t,ht,h⟩|⟨h,_⟩|h
     ·exact .inl (.inr (.inr (.inr (.inl ⟨j,hj,.inr ⟨t,ht,h⟩⟩))))
     ·exact .inl (.inr (.inr (.inr (.inr (.inl h)))))
     ·exact .inr h
    ·simp only[aQ.jS,ah _ _ e]at h
     exact .inl (.inr (.inr (.inr (.inl ⟨j,hj,.inr ⟨s,hs,h⟩⟩))))
  ·exact .inl (.inr (.inr (.inr (.inr (.inl h)))))
  ·rcases hf x h with h|h
   ·exact .inl (.inr (.inr (.inr (.inr (.inr h)))))
   ·exact .inr h
theorem Next.bG{w w' w'':World}{bv bm bo:Nat}{V:aQ}{Q:aQ->Prop}(h:Next bv bm bo V Q w w'){x:Nat}{c:Array Value}(hb:az w' x c 87)(hx:w.heap.size<=x)(k:au (fun y=>y=x) w' w''):Next bv bm bo V Q w w'':=by
 obtain⟨V2,R2,q2,k2,f2⟩:=h
 have nf:¬dI bv bm bo V2 x:=R2.mD hb (by decide) (by decide) (by decide) (by decide) (by decide) (by decide) (by decide)
 obtain⟨gB,nB,g1,g2⟩:=R2.ik
 obtain⟨gO,nO,g3⟩:=R2.fD
 have Ym:∀y,dI bv bm bo V2 y->¬y=x:=fun y h e=>nf (e▸h)
 refine⟨V2,⟨R2.aO.aC k (Ym _ (.inl rfl)) (fun y hy=>Ym y (.inr (.inr (.inr (.inr (.inr hy)))))),⟨gB,nB.aC k (Ym _ (.inr (.inl rfl))),g1,g2⟩,⟨gO,nO.aC k (Ym _ (.inr (.inr (.inl rfl)))),g3⟩,R2.E5,fun j hj=>(R2.aW j hj).aC k (fun y hy=>Ym y (by
  rcases hy with h|⟨z,hz,h⟩
  ·exact .inr (.inr (.inr (.inl ⟨j,hj,.inl h⟩)))
  ·exact .inr (.inr (.inr (.inl ⟨j,hj,.inr ⟨z,hz,h⟩⟩))))),fun id y h=>⟨(R2.bg id y h).1,(R2.bg id y h).2.elim fun ix ho=>⟨ix,k.aB ho (Ym y (.inr (.inr (.inr (.inr (.inl ⟨id,h⟩))))))⟩⟩,R2.mem,R2.qL,R2.lZ,R2.gp⟩,q2,k2.from (k.mono (fun y h=>.inr (by omega))),f2⟩
def IG(s:ByteArray)(i:Nat):Nat:=(s.get! i).toNat
theorem DW(s:ByteArray)(i:Nat):IG s i<256:=(s.get! i).toNat_lt
def Gz(s:ByteArray)(i:Nat):Nat × Nat :=
 if IG s i<128 then (IG s i,1) else if i+1<s.size/\IG s i=206/\145<=IG s (i+1)/\IG s (i+1)<=169 then (768+IG s (i+1),2) else (0,1)
def yF(c:Nat):Bool:=(decide (65<=c) && decide (c<=90)) || (decide (48<=c) && decide (c<=57)) || (decide (913<=c) && decide (c<=937) && !(c == 930))
theorem UA(s:ByteArray)(i:Nat):1<=(Gz s i).2/\(Gz s i).2<=2/\(i<s.size->i+(Gz s i).2<=s.size)/\(Gz s i).1<=937:=by
 have:=DW s i
 unfold Gz
 split
 ·simp;omega
 ·split <;> simp <;> omega
theorem WU{s:ByteArray}{i:Nat}(hi:i<s.size)(h:yF (Gz s i).1=true):Utf8.decode s i=Gz s i:=by
 have h0:=DW s i
 unfold Gz at h ⊢
 split at h
 ·rename_i h1
  rw[if_pos h1]
  unfold Utf8.decode
  have:(s.get! (i+0)).toNat=IG s i:=rfl
  simp only[this]
  rw[if_pos (by omega)]
 ·split at h
  ·rename_i h1 h2
   obtain⟨a1,a2,a3,a4⟩:=h2
   rw[if_neg h1,if_pos ⟨a1,a2,a3,a4⟩]
   unfold Utf8.decode
   have e0:(s.get! (i+0)).toNat=IG s i:=rfl
   have e1:(s.get! (i+1)).toNat=IG s (i+1):=rfl
   simp only[e0,e1]
   rw[if_neg (by omega),if_pos (by simp[a1,a2];omega)]
   rw[if_pos (by omega)]
   rw[a2]
   ext <;> simp <;> omega
  ·simp[yF]at h
theorem TD{s:ByteArray}{i:Nat}(hi:i<s.size)(h:yF (Gz s i).1=false):yF (Utf8.decode s i).1=false:=by
 have h0:=DW s i
 have h1':=DW s (i+1)
 unfold Utf8.decode
 have e0:(s.get! (i+0)).toNat=IG s i:=rfl
 have e1:(s.get! (i+1)).toNat=IG s (i+1):=rfl
 simp only[e0,e1]
 have err:yF Utf8.runeError=false:=by decide
 unfold Gz at h
 split at h
 ·rename_i h1
  rw[if_pos (by omega)]
  exact h
 ·rename_i h1
  rw[if_neg (by omega)]
  split
  ·rename_i h2
   simp at h2
   split
   ·rename_i h3
    split at h
    ·rename_i h4
     obtain⟨a1,a2,a3,a4⟩:=h4
     rw[a2]
     have:206 % 32 * 64+IG s (i+1) % 64=768+IG s (i+1):=by omega
     simp only[this]
     exact h
    ·rename_i h4
     simp only[yF,Bool.or_eq_false_iff,Bool.and_eq_false_iff,decide_eq_false_iff_not,Bool.not_eq_false',beq_iff_eq]
     refine⟨⟨?_,?_⟩,?_⟩
     ·right;omega
     ·right;omega
     ·left
      by_cases h5:913<=IG s i % 32 * 64+IG s (i+1) % 64
      ·right
       intro h6
       exact h4 ⟨h2.2.1,by omega,by omega,by omega⟩
      ·left;exact h5
   ·exact err
  ·split
   ·split
    ·rename_i h3
     simp at h3
     simp only[yF,Bool.or_eq_false_iff,Bool.and_eq_false_iff,decide_eq_false_iff_not,Bool.not_eq_false',beq_iff_eq]
     refine⟨⟨?_,?_⟩,?_⟩
     ·right;omega
     ·right;omega
     ·left;right;omega
    ·exact err
   ·split
    ·split
     ·rename_i h3
      simp at h3
      simp only[yF,Bool.or_eq_false_iff,Bool.and_eq_false_iff,decide_eq_false_iff_not,Bool.not_eq_false',beq_iff_eq]
      refine⟨⟨?_,?_⟩,?_⟩
      ·right;omega
      ·right;omega
      ·left;right;omega
     ·exact err
    ·exact err
def pJ(s:ByteArray):Nat->Nat->Nat->Bool
 | 0,_,_=>false
 | f+1,i,n=>if i<s.size then (if yF (Gz s i).1 then pJ s f (i+(Gz s i).2) (n+1) else false) else (decide (1<=n) && decide (n<=6))
def mf(s:ByteArray):Bool:=pJ s (s.size+1) 0 0
theorem zT(s:ByteArray):∀f i n,7<=n->pJ s f i n=false
 | 0,_,_,_=>rfl
 | f+1,i,n,h=>by
   unfold pJ
   split
   ·split
    ·exact zT s f _ _ (by omega)
    ·rfl
   ·simp;omega
def RS.none:RS:=⟨[],[],[],1,0,[]⟩
end Go.Proofs.YtigaphnafnpfnaaGreatDoor
