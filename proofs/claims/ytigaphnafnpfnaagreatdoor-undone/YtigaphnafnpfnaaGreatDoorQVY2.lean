import Derived.Test.YtigaphnafnpfnaaGreatDoorQVE13
import Derived.Deep.Cut
set_option linter.unusedVariables false
set_option linter.unusedSimpArgs false
namespace Go.Proofs.YtigaphnafnpfnaaGreatDoor
open Go.RowKit
theorem ve.turn{p:Nat->Nat}{oc i s:Nat}{B B':Bk}{om dG:Nat->Ord}{l l':List Ord}{sym:ByteArray}(h:ve p oc i s B om l sym)(hl:l'.length=l.length)
 (same:∀k,k<l.length->k≠i->lG (dG (p k))=lG (ax l' k)) (self:lG { dG oc with aK:=0 }=lG (ax l' i))
 (dH:∀k,k<l.length->(ax l' k).sym=(ax l k).sym/\(ax l' k).side=(ax l k).side/\(ax l' k).place=(ax l k).place/\0<=(ax l' k).aK/\(0<(ax l' k).aK->0<(ax l k).aK)/\(dG (p k)).place=(om (p k)).place)
 (mem:∀x,Mem (B'.n s) (B'.h s) x↔∃k,k<l.length/\k≠i/\p k=x/\(ax l k).sym=sym/\(ax l k).side=(s:Int)/\0<(ax l' k).aK):ve p oc i s B' dG l' sym:=by
 refine⟨by rw[hl];exact h.il,h.pi,fun a b ha hb=>h.inj a b (by omega) (by omega),fun k hk=>same k (by omega),self,fun a b ha hb hai hbi hsy h1 h2=>?_,fun a b ha hb hai hbi hab hsy h1 h2=>?_,fun x=>?_,?_,?_,fun k hk=>?_,fun k hk=>?_⟩
 ·obtain⟨a1,a2,a3,a4,a5,a6⟩:=dH a (by omega)
  obtain⟨b1,b2,b3,b4,b5,b6⟩:=dH b (by omega)
  rw[a6,b6,a3,b3]
  exact h.place a b (by omega) (by omega) hai hbi (by rw[<-a1,<-b1];exact hsy) (a5 h1) (b5 h2)
 ·obtain⟨a1,a2,a3,a4,a5,a6⟩:=dH a (by omega)
  obtain⟨b1,b2,b3,b4,b5,b6⟩:=dH b (by omega)
  rw[a3,b3]
  exact h.vw a b (by omega) (by omega) hai hbi hab (by rw[<-a1,<-b1];exact hsy) (a5 h1) (b5 h2)
 ·rw[mem x,hl]
  constructor
  ·rintro⟨k,k1,k2,k3,k4,k5,k6⟩
   obtain⟨a1,a2,_⟩:=dH k k1
   exact⟨k,k1,k2,k3,by rw[a1];exact k4,by rw[a2];exact k5,k6⟩
  ·rintro⟨k,k1,k2,k3,k4,k5,k6⟩
   obtain⟨a1,a2,_⟩:=dH k k1
   exact⟨k,k1,k2,k3,by rw[<-a1];exact k4,by rw[<-a2];exact k5,k6⟩
 ·rw[(dH i h.il).1];exact h.UC
 ·rw[(dH i h.il).2.1];exact h.Lh
 ·rw[(dH k (by omega)).2.1];exact h.side k (by omega)
 ·exact (dH k (by omega)).2.2.2.1
structure qV(p:Nat->Nat)(oc i s:Nat)(sym:ByteArray)(R0:List Rc)(xE f0:Int)(st:MS)(c:RC):Prop where
 lu:ve p oc i s st.B st.om c.S.l sym
 left:c.left=(st.om oc).aK
 tr:st.lg.tr=c.S.t
 tp:st.lg.tp=lY R0 c.S.told
 day:st.lg.day=c.S.day
 kE:st.B.sym=sym
 filled:c.filled=(st.om oc).filled-f0
 count:c.count=st.tr-xE
 first:c.first=if st.tr=xE then 0 else xE+1
 le:xE<=st.tr
 g0:0<=f0
 g1:f0<=1000000000000000
theorem eX{l:List Ord}{k:Nat}{o:Ord}(hk:k<l.length)(a:Nat):ax (l.set k o) a=if a=k then o else ax l a:=by
 by_cases e:a=k
 ·subst e;rw[if_pos rfl,oM hk]
 ·rw[if_neg e,x8 (fun x=>e x.symm)]
theorem FV{B:Bk}{om:Nat->Ord}{o:iL}{s x:Nat}(h:dF B om o s=some x):0<B.n s/\x=B.h s 0:=by
 unfold dF at h
 split at h
 ·simp at h
 ·split at h
  ·simp at h;exact⟨by omega,h.symm⟩
  ·simp at h
theorem qV.step{p:Nat->Nat}{oc i s:Nat}{sym:ByteArray}{R0:List Rc}{xE f0 M:Int}{st:MS}{c:RC}(h:qV p oc i s sym R0 xE f0 st c)(hM:M<=1000000000000000)(hs:s<2)(iv:qN oc s st)(hh:dX (fG st.om) (st.B.n s) (st.B.h s))(hq:∀x,(x=oc\/kX st s x)->Qo M (st.om x))(hp:0<(st.om oc).aK){k:Nat}(hk:c.BI i=some k)(htr:st.tr<1000000000)(Xp:0<=xE) :
 qV p oc i s sym R0 xE f0 (bz oc s st) (c.step i k):=by
 obtain⟨eu,hleft,F8,htp,PO,hbs,hfil,hcnt,PS,hle,hf0,hf1⟩:=h
 have hb:=eu.BI hs hh
 have hk':gz c.S.l (cZ (ax c.S.l i))=some k:=hk
 rw[hk']at hb
 simp only[Option.map_some]at hb
 obtain⟨hn,hpk⟩:=FV hb.symm
 have hgk:=(eu.Jo hs k).1 (ni _ _ _ _ hk')
 obtain⟨k1,k2,k3,k4,k5,k6⟩:=hgk
 have il:=eu.il
 have hsame:=fE (eu.same k k1 k2)
 obtain⟨e1,e2,e3,e4,e5,e6,e7,e8,e9,e10,e11,e12⟩:=hsame
 have hself:=fE eu.self
 obtain⟨s1,s2,s3,s4,s5,s6,s7,s8,s9,s10,s11,s12⟩:=hself
 simp only at s1 s2 s3 s4 s5 s6 s7 s8 s9 s10 s11 s12
 have hr:st.B.h s 0=p k:=hpk.symm
 have hne:p k≠oc:=fun e=>k2 (eu.inj k i k1 il (by rw[e,eu.pi]))
 have qr:Qo M (st.om (p k)):=hq _ (.inr ⟨0,hn,hpk⟩)
 have qc:Qo M (st.om oc):=hq _ (.inl rfl)
 have EE:∀a,a<c.S.l.length->a≠k->p a≠p k:=fun a ha e e2=>e (eu.inj a k ha k1 e2)
 have Yp:∀a,a<c.S.l.length->a≠i->p a≠oc:=fun a ha e e2=>e (eu.inj a i ha il (by rw[e2,eu.pi]))
 unfold bz RC.step
 rw[hr,e2]
 have ow:(st.om oc).aA=(ax c.S.l i).aA:=s2
 rw[ow]
 by_cases ho:(ax c.S.l k).aA=(ax c.S.l i).aA
 ·rw[if_pos ho,if_pos ho]
  have hoc:aN st.om (p k) (fU (st.om (p k))) oc=st.om oc:=ah _ _ (fun e=>hne e.symm)
  refine⟨?_,by simp only[hoc];exact hleft,F8,htp,PO,hbs,by simp only[hoc];exact hfil,hcnt,PS,hle,hf0,hf1⟩
  simp only[RS.gX]
  refine eu.turn (by simp) (fun a ha hai=>?_) ?_ (fun a ha=>?_) (fun x=>?_)
  ·rw[eX k1]
   by_cases e:a=k
   ·subst e
    rw[aj,if_pos rfl]
    have:=eu.same a ha hai
    show fU (lG (st.om (p a)))=lG _
    rw[this]
    rfl
   ·rw[ah _ _ (EE a ha e),if_neg e]
    exact eu.same a ha hai
  ·rw[hoc,eX k1,if_neg (fun e=>k2 e.symm)]
   exact eu.self
  ·rw[eX k1]
   by_cases e:a=k
   ·subst e
    rw[if_pos rfl,aj]
    exact⟨rfl,rfl,rfl,Int.le_refl _,fun h=>absurd h (by simp),rfl⟩
   ·rw[if_neg e,ah _ _ (EE a ha e)]
    exact⟨rfl,rfl,rfl,eu.aK a ha,fun h=>h,rfl⟩
  ·rw[kz iv.inj hn x,eu.mem x,hr]
   constructor
   ·rintro⟨⟨a,a1,a2,a3,a4,a5,a6⟩,hx⟩
    refine⟨a,a1,a2,a3,a4,a5,?_⟩
    rw[eX k1,if_neg (fun e=>by subst e;exact hx a3.symm)]
    exact a6
   ·rintro⟨a,a1,a2,a3,a4,a5,a6⟩
    rw[eX k1]at a6
    by_cases e:a=k
    ·rw[if_pos e]at a6;simp at a6
    ·rw[if_neg e]at a6
     exact⟨⟨a,a1,a2,a3,a4,a5,a6⟩,by rw[<-a3];exact EE a a1 e⟩
 ·rw[if_neg ho,if_neg ho]
  obtain⟨q,hqq⟩:∃q,min (st.om oc).aK (st.om (p k)).aK=q:=⟨_,rfl⟩
  have hmu:c.QA k=q:=by
   unfold RC.QA
   rw[hleft,<-e9]
   split <;> omega
  have q0:0<q:=by have:=qr.o0;rw[e9]at hqq;omega
  obtain⟨c1,c2,c3⟩:=qc.fill (q:=q) (by omega) (by omega) hM
  obtain⟨d1,d2,d3⟩:=qr.fill (q:=q) (by omega) (by omega) hM
  have Bj:aT st.om oc (p k) oc=iI (st.om oc) q:=by unfold aT;rw[ah _ _ (fun e=>hne e.symm),aj,hqq]
  have NW:aT st.om oc (p k) (p k)=iI (st.om (p k)) q:=by unfold aT;rw[aj,hqq]
  have tot:∀x,x≠oc->x≠p k->aT st.om oc (p k) x=st.om x:=fun x h1 h2=>by unfold aT;rw[ah _ _ h2,ah _ _ h1]
  have hno:∀a,ax (c.S.xW i k q).l a=if a=i then { ax c.S.l i with filled:=wrap64 ((ax c.S.l i).filled+q) } else if a=k then { ax c.S.l k with aK:=wrap64 ((ax c.S.l k).aK-q),filled:=wrap64 ((ax c.S.l k).filled+q) } else ax c.S.l a:=fun a=>by
   simp only[RS.xW,RS.gX]
   rw[eX (by simpa using il),eX k1]
  have Xq:MS.tr ⟨dO st.B st.om oc (p k) s,aT st.om oc (p k),(dh st.lg st.om oc (p k)).jG (iG st.B st.om oc (p k))⟩=st.tr+1:=by simp[MS.tr,Lg.jG,Lg.told,Lg.aC,Lg.aV,gu]
  have hT:(dh st.lg st.om oc (p k)).iC (iG st.B st.om oc (p k))=c.S.tr i k q:=by
   simp only[Lg.iC,iG,RS.tr,gu,qC]
   rw[F8,PO,hbs,e6,hqq,s4,e1,s1,eu.UC]
  have hn0:0<=st.tr:=by unfold MS.tr;omega
  have w1:wrap64 (c.count+1)=c.count+1:=aS (by omega) (by omega)
  have hlen:(c.S.t.length:Int)=st.tr:=by unfold MS.tr;rw[F8]
  refine⟨?_,?_,?_,?_,?_,?_,?_,?_,?_,?_,hf0,hf1⟩
  ·simp only[RS.oV]
   rw[hmu]
   refine eu.turn (by simp[RS.xW,RS.gX]) (fun a ha hai=>?_) ?_ (fun a ha=>?_) (fun x=>?_)
   ·rw[hno a,if_neg hai]
    by_cases e:a=k
    ·subst e
     rw[if_pos rfl,NW]
     have:=eu.same a ha hai
     show iI (lG (st.om (p a))) q=lG _
     rw[this]
     rfl
    ·rw[if_neg e,tot _ (Yp a ha hai) (EE a ha e)]
     exact eu.same a ha hai
   ·rw[hno i,if_pos rfl,Bj]
    have:=eu.self
    show ({ lG { st.om oc with aK:=0 } with filled:=wrap64 ((lG { st.om oc with aK:=0 }).filled+q) }:Ord)=lG _
    rw[this]
    rfl
   ·rw[hno a]
    by_cases ei:a=i
    ·subst ei
     rw[if_pos rfl,eu.pi,Bj]
     exact⟨rfl,rfl,rfl,eu.aK a ha,fun h=>h,rfl⟩
    ·rw[if_neg ei]
     by_cases e:a=k
     ·subst e
      rw[if_pos rfl,NW]
      refine⟨rfl,rfl,rfl,?_,fun _=>k5,rfl⟩
      have:=d1.o0
      rw[d2,e9]at this
      show 0<=wrap64 ((ax c.S.l a).aK-q)
      rw[aS (by have:=qr.hi;have:=qr.sum;have:=qr.f0;have:=qr.c0;have:=qr.e0;omega) (by have:=qr.hi;have:=qr.sum;have:=qr.f0;have:=qr.c0;have:=qr.e0;omega)]
      exact this
     ·rw[if_neg e,tot _ (Yp a ha ei) (EE a ha e)]
      exact⟨rfl,rfl,rfl,eu.aK a ha,fun h=>h,rfl⟩
   ·have hko:(ax (c.S.xW i k q).l k).aK=(st.om (p k)).aK-q:=by
     rw[hno k,if_neg k2,if_pos rfl]
     show wrap64 ((ax c.S.l k).aK-q)=_
     rw[<-e9]
     exact d2
    have hbase:∀x,(∃a,a<c.S.l.length/\a≠i/\p a=x/\(ax c.S.l a).sym=sym/\(ax c.S.l a).side=(s:Int)/\0<(ax (c.S.xW i k q).l a).aK)↔(Mem (st.B.n s) (st.B.h s) x/\(x=p k->0<(st.om (p k)).aK-q)):=fun x=>by
     rw[eu.mem x]
     constructor
     ·rintro⟨a,a1,a2,a3,a4,a5,a6⟩
      by_cases e:a=k
      ·subst e
       rw[hko]at a6
       exact⟨⟨a,a1,a2,a3,a4,a5,k5⟩,fun _=>a6⟩
      ·rw[hno a,if_neg a2,if_neg e]at a6
       exact⟨⟨a,a1,a2,a3,a4,a5,a6⟩,fun e2=>absurd (by rw[a3];exact e2) (EE a a1 e)⟩
     ·rintro⟨⟨a,a1,a2,a3,a4,a5,a6⟩,hx⟩
      refine⟨a,a1,a2,a3,a4,a5,?_⟩
      by_cases e:a=k
      ·subst e;rw[hko];exact hx a3.symm
      ·rw[hno a,if_neg a2,if_neg e];exact a6
    rw[hbase x]
    unfold dO
    rw[NW,d2]
    by_cases ez:(st.om (p k)).aK-q=0
    ·rw[if_pos ez,kz iv.inj hn x,hr]
     constructor
     ·rintro⟨a,b⟩;exact⟨a,fun e=>absurd e b⟩
     ·rintro⟨a,b⟩;exact⟨a,fun e=>by have:=b e;omega⟩
    ·rw[if_neg ez]
     constructor
     ·intro a;exact⟨a,fun _=>by omega⟩
     ·rintro⟨a,_⟩;exact a
  ·simp only[Bj,c2]
   rw[hmu,hleft]
   exact aS (by have:=qc.hi;have:=qc.sum;have:=qc.f0;have:=qc.c0;have:=qc.e0;omega) (by have:=qc.hi;have:=qc.sum;have:=qc.f0;have:=qc.c0;have:=qc.e0;omega)
  ·simp only[Lg.jG,Lg.told,Lg.aC,Lg.aV,gu,RS.oV]
   rw[F8,hmu,<-hT]
  ·simp only[Lg.jG,Lg.told,Lg.aC,Lg.aV,RS.oV]
   rw[Di,mX,htp,hmu,<-hT]
  ·simp only[Lg.jG,Lg.told,Lg.aC,Lg.aV,qC,RS.oV]
   exact PO
  ·show (dO st.B st.om oc (p k) s).sym=sym
   unfold dO
   split
   ·exact hbs
   ·exact hbs
  ·simp only[Bj,c3]
   rw[hmu,hfil]
   rw[aS (by have:=qc.hi;have:=qc.sum;have:=qc.f0;have:=qc.c0;have:=qc.e0;have:=qc.o0;omega) (by have:=qc.hi;have:=qc.sum;have:=qc.f0;have:=qc.c0;have:=qc.e0;have:=qc.o0;omega)]
   omega
  ·show wrap64 (c.count+1)=_-xE
   rw[Xq,w1];omega
  ·show (if wrap64 (c.count+1)=1 then (c.S.t.length:Int)+1 else c.first)=_
   rw[Xq,w1,if_neg (c:=st.tr+1=xE) (by omega)]
   by_cases e:st.tr=xE
   ·rw[if_pos (by omega),hlen,e]
   ·rw[if_neg (by omega),PS,if_neg e]
  ·rw[Xq];omega
attribute [local go_sem ↓] Go.wp_at_zero Go.wp_at_succ
def RS.aay(S:RS)(k:Nat)(g:Tg):RS:={ S with t:=S.t.set k g }
end Go.Proofs.YtigaphnafnpfnaaGreatDoor
