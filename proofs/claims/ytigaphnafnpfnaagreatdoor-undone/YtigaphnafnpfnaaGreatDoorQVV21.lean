import Derived.Test.YtigaphnafnpfnaaGreatDoorQVX15
import Derived.Test.YtigaphnafnpfnaaGreatDoorQVE15
set_option linter.unusedVariables false
set_option linter.unusedSimpArgs false
set_option maxHeartbeats 8000000
set_option maxRecDepth 100000
namespace Go.Proofs.YtigaphnafnpfnaaGreatDoor
open Go.RowKit Go.Maps
attribute [local go_sem ↓] Go.wp_at_zero Go.wp_at_succ
def vz(f:Lit->Option Nat)(kl:Lit):Lit->Option Nat:=fun k=>if k.sameKey kl then none else f k
theorem qi{f:Lit->Option Nat}{kl:Lit}(hk:WideAt.IsKeyLit kl):vz f kl kl=none:=by
 unfold vz;rw[if_pos (WideAt.sameKey_self hk)]
theorem lM{f:Lit->Option Nat}{kl k':Lit}(hk:WideAt.IsKeyLit kl)(hne:k'≠kl):vz f kl k'=f k':=by
 unfold vz;rw[if_neg (fun h=>hne ((WideAt.sameKey_iff hk).1 h))]
theorem jF.drop{w:World}{k t e:TypeId}{b:Nat}{f:Lit->Option Nat}{n:Nat}(h:jF w k b f (n+1))(K:Keyed Tryz.prog k)(ht:Tryz.prog.underlying t=some (.map k e)){key:Value}{kl:Lit}(hkey:keyOf Tryz.prog k key=some kl)(hk:WideAt.IsKeyLit kl){x:Nat}(hf:f kl=some x)(ty:TypeId) :
 ∃w',(Builtin.delete_ #[t,k] ty #[.map (some b),key]).run Tryz.prog w=.ok (.tuple #[]) w'/\jF w' k b (vz f kl) n/\au (fun i=>i=b) w w':=by
 obtain⟨D,h1,h2,h3,h4⟩:=h
 obtain⟨w',hrun,h5,h6⟩:=h1.drop K ht hkey ty
 have hsz:Maps.size (D.del kl)=n:=by
  have:=size_del (k:=kl) (h1.tidy K)
  rw[h4 kl,hf]at this
  simp at this
  omega
 refine⟨w',hrun,⟨D.del kl,?_,hsz,fun k'=>?_,fun k'=>?_⟩,?_⟩
 ·obtain⟨es,clock,hb,F,hs,hD⟩:=h5
  refine⟨es,clock,hb,F,?_,hD⟩
  rw[hD]at hsz
  simp[Maps.size,length_sorted]at hsz
  omega
 ·by_cases e:k'=kl
  ·subst e;rw[atKey_del_same,qi hk];rfl
  ·rw[atKey_del_other e,h3,lM hk e]
 ·by_cases e:k'=kl
  ·subst e;rw[has_del_same,qi hk];rfl
  ·rw[has_del_other e,h4,lM hk e]
 ·obtain⟨es,clock,es',clock',hb,rfl⟩:=h6
  refine⟨rfl,rfl,rfl,by simp[ChangeMaps.setBlock],fun i hi hne=>?_⟩
  simp[ChangeMaps.setBlock,Array.getElem?_setIfInBounds,Ne.symm hne]
def aQ.xU(V:aQ)(id:Int):aQ:={ V with aU:=fun i=>if i=id then none else V.aU i,no:=V.no-1 }
theorem TF(bv bm bo H b:Nat)(id:Int)(c:Array Value)(V:aQ)(w:World)(R:dN w bv bm bo V)(hid:(Lit.int .i64 id).wf=true)(hb:V.aU id=some b)(hno:0<V.no)
 (hout:∀i,i<V.nb->∀s,s<2->∀k,k<(V.B i).n s->(V.B i).h s k≠b) (h1:az w H #[dn bv] 35) (h2:az w (H+1) c 52) (h3:c[0]?=some (.int .i64 id)) :
 Calls Tryz.prog 114 #[dn H,dn (H+1)] w fun e w'=>e=.returned (.tuple #[])/\dN w' bv bm bo (V.xU id)/\au (fun x=>x=bo) w w':=by
 have x0:w.cell? ⟨H,0,none⟩=some (.pointer (some ⟨bv,0,none⟩)):=h1.cell 0
 have x1:w.cell? ⟨H+1,0,none⟩=some (.int .i64 id):=(h2.cell 0).trans h3
 have v1:w.cell? ⟨bv,1,none⟩=some (.map (some bo)):=R.dA.cell 1
 have fin:∀q,∃w',(Builtin.delete_ #[95,3] 0 #[.map (some bo),.int .i64 id]).run Tryz.prog (w.drewN q)=.ok (.tuple #[]) w'/\dN w' bv bm bo (V.xU id)/\au (fun x=>x=bo) w w':=by
  intro q
  obtain⟨fO,mO,tZ⟩:=R.fD
  obtain⟨n,hn⟩:∃n,V.no=n+1:=⟨V.no-1,by omega⟩
  rw[hn]at mO
  obtain⟨w',hr,m',k'⟩:=(mO.aC ((au.refl aP w).drewN q) (fun x=>x)).drop yu Tryz.underlying95 (keyOf_int_mk Tryz.underlying3 hid) trivial (by rw[tZ];exact hb) 0
  have k2:au (fun x=>x=bo) w w':=((au.refl _ w).drewN q).trans k'
  refine⟨w',hr,?_,k2⟩
  have nt:∀{x c t},az w x c t->¬x=bo:=fun h e=>(mO.ne h) e.symm
  obtain⟨fB,mB,oK,sF⟩:=R.ik
  have R0:=R
  refine⟨?_,⟨fB,mB.aC k2 R.E5,oK,sF⟩,⟨vz fO (.int .i64 id),by show jF w' 3 bo _ (V.no-1);rw[hn];exact m',fun i=>?_⟩,R.E5,fun i hi=>(R.aW i hi).aC k2 ?_,fun i x hx=>?_,fun i hi s hs k hk=>?_,R.qL,R.lZ,Nat.le_trans (Nat.sub_le _ _) R.gp⟩
  ·exact R.aO.aC k2 (nt R.dA) (fun y hy e=>by
    obtain⟨c,t,hc,_⟩:=R.aO.aO.fZ hy
    exact nt hc e)
  ·show vz fO _ _=if i=id then none else V.aU i
   by_cases e:i=id
   ·subst e;rw[qi (kl:=.int .i64 i) trivial,if_pos rfl]
   ·rw[lM (kl:=.int .i64 id) (k':=.int .i64 i) trivial (fun h=>e (by simpa using h)),if_neg e,tZ]
  ·rintro x (rfl|⟨s,hs,h⟩) e
   ·exact nt (R.aW i hi).aB e
   ·obtain⟨c,t,hc,_⟩:=(R.qQ hi).fZ (.inr (.inr ⟨s,hs,h⟩))
    exact nt hc e
  ·have hx':V.aU i=some x:=by
    simp only[aQ.xU]at hx
    by_cases e:i=id
    ·rw[if_pos e]at hx;simp at hx
    ·rw[if_neg e]at hx;exact hx
   obtain⟨e1,ix,ho⟩:=R.bg i x hx'
   exact⟨e1,ix,k2.aB ho (nt ho)⟩
  ·obtain⟨id',h⟩:=R.mem i hi s hs k hk
   refine⟨id',?_⟩
   show (if id'=id then none else V.aU id')=_
   rw[if_neg]
   ·exact h
   ·intro e
    subst e
    rw[hb]at h
    exact hout i hi s hs k hk (Option.some.inj h).symm
 have HF:=ai fin
 obtain⟨w1,r1,R1⟩:=fin 0
 obtain⟨w2,r2,R2⟩:=fin 1
 have r1':(Builtin.delete_ #[95,3] 0 #[.map (some bo),.int .i64 id]).run Tryz.prog w=.ok (.tuple #[]) w1:=r1
 have r2':(Builtin.delete_ #[95,3] 0 #[.map (some bo),.int .i64 id]).run Tryz.prog w.drew=.ok (.tuple #[]) w2:=r2
 clear fin R hb hout r1 r2 h1 h2 h3
 simp only[dn]
 go_enter Tryz.func114,Tryz.ntmps114
 go_wp2
 go_region
 all_goals
  go_wp2
  go_end0
  first|exact⟨rfl,R2⟩|exact⟨rfl,R1⟩
def aQ.tY(V:aQ):aQ:={ V with nb:=V.nb-1 }
theorem Us(bv bm bo H K n:Nat)(s:ByteArray)(V:aQ)(w:World)(R:dN w bv bm bo V)(hn:V.nb=n+1)(hs:(V.B n).sym=s)(hlen:s.size<=maxLen)(h1:az w H #[dn bv] 35)(h2:az w K #[.string s] 9) :
 Calls Tryz.prog 54 #[dn H,dn K] w fun e w'=>e=.returned (.tuple #[])/\dN w' bv bm bo V.tY/\au (fun x=>x=bm) w w':=by
 have x0:w.cell? ⟨H,0,none⟩=some (.pointer (some ⟨bv,0,none⟩)):=h1.cell 0
 have x1:w.cell? ⟨K,0,none⟩=some (.string s):=h2.cell 0
 have v1:w.cell? ⟨bv,0,none⟩=some (.map (some bm)):=R.dA.cell 0
 have fin:∀q,∃w',(Builtin.delete_ #[94,9] 0 #[.map (some bm),.string s]).run Tryz.prog (w.drewN q)=.ok (.tuple #[]) w'/\dN w' bv bm bo V.tY/\au (fun x=>x=bm) w w':=by
  intro q
  obtain⟨fB,mB,oK,sF⟩:=R.ik
  have XM:=mB
  rw[hn]at mB
  have hfn:fB (sl s)=some (V.bk n):=by rw[<-hs];exact oK n (by omega)
  obtain⟨w',hr,m',k'⟩:=(mB.aC ((au.refl aP w).drewN q) (fun x=>x)).drop yw Tryz.underlying94 (WideMaps.keyOf_string_mk Tryz.underlying9 hlen) (kl:=sl s) trivial hfn 0
  have k2:au (fun x=>x=bm) w w':=((au.refl _ w).drewN q).trans k'
  refine⟨w',hr,?_,k2⟩
  have nt:∀{x c t},az w x c t->¬x=bm:=fun h e=>(mB.ne h) e.symm
  obtain⟨fO,mO,tZ⟩:=R.fD
  have lt':∀{i},i<V.tY.nb->i<V.nb:=fun h=>Nat.lt_of_lt_of_le h (Nat.sub_le _ _)
  have ltn:∀{i},i<V.tY.nb->i<n:=fun h=>by simp only[aQ.tY]at h;omega
  have hne:∀i,i<n->sl (V.B i).sym≠sl s:=fun i hi e=>by
   have h:=oK i (by omega)
   rw[e,hfn]at h
   exact R.qL n i (by omega) (by omega) (by omega) (Option.some.inj h)
  refine⟨?_,⟨vz fB (sl s),by show jF w' 9 bm _ (V.nb-1);rw[hn];exact m',fun i hi=>?_,fun s' b h=>?_⟩,⟨fO,mO.aC k2 (fun e=>R.E5 e.symm),tZ⟩,R.E5,fun i hi=>(R.aW i (lt' hi)).aC k2 ?_,fun i x hx=>?_,fun i hi=>R.mem i (lt' hi),fun i j hi hj=>R.qL i j (lt' hi) (lt' hj),fun i j hi hj=>R.lZ i j (lt' hi) (lt' hj),R.gp⟩
  ·exact R.aO.aC k2 (nt R.dA) (fun y hy e=>by
    obtain⟨c,t,hc,_⟩:=R.aO.aO.fZ hy
    exact nt hc e)
  ·show vz fB (sl s) (sl (V.B i).sym)=some (V.bk i)
   rw[lM (kl:=sl s) trivial (hne i (ltn hi))]
   exact oK i (lt' hi)
  ·by_cases e:s'=s
   ·subst e;rw[qi (kl:=sl s') trivial]at h;simp at h
   ·rw[lM (kl:=sl s) trivial (fun h=>e (QX h))]at h
    obtain⟨i,hi,e1,e2⟩:=sF s' b h
    refine⟨i,?_,e1,e2⟩
    simp only[aQ.tY]
    have:i≠n:=by rintro rfl;exact e (e2.symm.trans hs)
    omega
  ·rintro x (rfl|⟨s,hs,h⟩) e
   ·exact nt (R.aW i (lt' hi)).aB e
   ·obtain⟨c,t,hc,_⟩:=(R.qQ (lt' hi)).fZ (.inr (.inr ⟨s,hs,h⟩))
    exact nt hc e
  ·obtain⟨e1,ix,ho⟩:=R.bg i x hx
   exact⟨e1,ix,k2.aB ho (nt ho)⟩
 have HF:=ai fin
 obtain⟨w1,r1,R1⟩:=fin 0
 obtain⟨w2,r2,R2⟩:=fin 1
 have r1':(Builtin.delete_ #[94,9] 0 #[.map (some bm),.string s]).run Tryz.prog w=.ok (.tuple #[]) w1:=r1
 have r2':(Builtin.delete_ #[94,9] 0 #[.map (some bm),.string s]).run Tryz.prog w.drew=.ok (.tuple #[]) w2:=r2
 clear fin R r1 r2 h1 h2 hs hn
 simp only[dn]
 go_enter Tryz.func54,Tryz.ntmps54
 go_wp2
 go_region
 all_goals
  go_wp2
  go_end0
  first|exact⟨rfl,R2⟩|exact⟨rfl,R1⟩
open Go.RowKit
theorem qV.fin{p:Nat->Nat}{oc i s:Nat}{sym:ByteArray}{R0:List Rc}{xE f0 M:Int}{st:MS}{c:RC}(h:qV p oc i s sym R0 xE f0 st c)(hM:M<=1000000000000000)(q:Qo M (st.om oc)) :
 (∀k,k<c.S.l.length->lG (aF oc st (p k))=lG (ax (yA i c).l k))/\(yA i c).l.length=c.S.l.length/\(∀k,k≠i->ax (yA i c).l k=ax c.S.l k) /\
  (dm (st.om oc)=true->(ax (yA i c).l i).place=wrap64 (c.S.places+1)/\(yA i c).places=wrap64 (c.S.places+1))/\(dm (st.om oc)=false->(ax (yA i c).l i).aK=0/\(yA i c).places=c.S.places)/\(yA i c).t=c.S.t/\(yA i c).told=c.S.told/\(yA i c).day=c.S.day/\(yA i c).sy=c.S.sy:=by
 obtain⟨eu,hleft,F8,htp,PO,hbs,hfil,hcnt,PS,hle,hf0,hf1⟩:=h
 have il:=eu.il
 have hself:=fE eu.self
 obtain⟨s1,s2,s3,s4,s5,s6,s7,s8,s9,s10,s11,s12⟩:=hself
 simp only at s1 s2 s3 s4 s5 s6 s7 s8 s9 s10 s11 s12
 have Yp:∀a,a<c.S.l.length->a≠i->p a≠oc:=fun a ha e e2=>e (eu.inj a i ha il (by rw[e2,eu.pi]))
 have o0:=q.o0
 have zY:∀k,k<c.S.l.length->k≠i->aF oc st (p k)=st.om (p k):=fun k hk e=>by
  unfold aF
  split <;> exact ah _ _ (Yp k hk e)
 have bnd:(st.om oc).aK<=1000000000000000/\(st.om oc).bQ<=1000000000000000:=by have:=q.hi;have:=q.sum;have:=q.f0;have:=q.c0;have:=q.e0;omega
 have hk':(st.om oc).kind=(ax c.S.l i).kind:=s5
 unfold yA
 by_cases hz:c.left=0
 ·have hw:dm (st.om oc)=false:=by unfold dm;rw[<-hleft,hz];rfl
  rw[if_pos hz]
  refine⟨fun k hk=>?_,rfl,fun k _=>rfl,fun e=>absurd e (by rw[hw];decide),fun _=>⟨s9.symm,rfl⟩,rfl,rfl,rfl,rfl⟩
  by_cases e:k=i
  ·subst e
   rw[eu.pi]
   unfold aF
   rw[hw]
   simp only[Bool.false_eq_true,if_false,aj]
   rw[<-eu.self]
   show lG (fU (st.om oc))=lG { st.om oc with aK:=0 }
   unfold fU
   rw[<-hleft,hz,Int.add_zero,aS (by have:=q.c0;omega) (by omega)]
  ·rw[zY k hk e];exact eu.same k hk e
 ·rw[if_neg hz]
  have hp:0<(st.om oc).aK:=by omega
  by_cases hr:eU (ax c.S.l i).kind=true
  ·have hw:dm (st.om oc)=true:=by unfold dm;rw[hk',hr];simpa using hp
   rw[if_pos hr]
   refine⟨fun k hk=>?_,by simp[RS.pV],fun k e=>?_,fun _=>⟨?_,rfl⟩,fun e=>absurd e (by rw[hw];decide),rfl,rfl,rfl,rfl⟩
   ·simp only[RS.pV]
    rw[eX il]
    by_cases e:k=i
    ·subst e
     rw[if_pos rfl,eu.pi]
     unfold aF
     rw[hw]
     simp only[if_true,aj]
     have e1:wrap64 ((ax c.S.l k).aK+c.left)=(st.om oc).aK:=by rw[<-s9,hleft,Int.zero_add];exact aS (by omega) (by omega)
     have:=eu.self
     show lG (st.om oc)={ lG (ax c.S.l k) with aK:=wrap64 ((ax c.S.l k).aK+c.left) }
     rw[<-this,e1]
     rfl
    ·rw[if_neg e,zY k hk e];exact eu.same k hk e
   ·simp only[RS.pV];rw[eX il,if_neg e]
   ·simp only[RS.pV];rw[eX il,if_pos rfl]
  ·have hw:dm (st.om oc)=false:=by
    unfold dm;rw[hk']
    cases hx:eU (ax c.S.l i).kind
    ·simp
    ·exact absurd hx hr
   rw[if_neg hr]
   refine⟨fun k hk=>?_,by simp[RS.gX],fun k e=>?_,fun e=>absurd e (by rw[hw];decide),fun _=>⟨?_,rfl⟩,rfl,rfl,rfl,rfl⟩
   ·simp only[RS.gX]
    rw[eX il]
    by_cases e:k=i
    ·subst e
     rw[if_pos rfl,eu.pi]
     unfold aF
     rw[hw]
     simp only[Bool.false_eq_true,if_false,aj]
     have:=eu.self
     show lG (fU (st.om oc))={ lG (ax c.S.l k) with bQ:=wrap64 ((ax c.S.l k).bQ+c.left) }
     rw[<-this,<-s11,hleft]
     rfl
    ·rw[if_neg e,zY k hk e];exact eu.same k hk e
   ·simp only[RS.gX];rw[eX il,if_neg e]
   ·simp only[RS.gX];rw[eX il,if_pos rfl];exact s9.symm
theorem qV.report{p:Nat->Nat}{oc i s:Nat}{sym:ByteArray}{R0:List Rc}{xE f0 M:Int}{st:MS}{c:RC}(h:qV p oc i s sym R0 xE f0 st c)(hM:M<=1000000000000000)(q:Qo M (st.om oc))(o0:Ord)(e1:o0.filled=f0)(e2:o0.bQ=(st.om oc).bQ)(htr:st.tr<=1000000000)(Xp:0<=xE) :
 jE o0 (aF oc st oc) xE st.tr=Yq i c:=by
 obtain⟨eu,hleft,F8,htp,PO,hbs,hfil,hcnt,PS,hle,hf0,hf1⟩:=h
 have hself:=fE eu.self
 have hk':(st.om oc).kind=(ax c.S.l i).kind:=hself.2.2.2.2.1
 have q1:=q.o0;have q2:=q.f0;have q3:=q.c0;have q4:=q.e0;have q5:=q.sum;have q6:=q.hi
 have key:∀O:Ord,O.filled=(st.om oc).filled->jE o0 O xE st.tr=lq c.filled O.aK (wrap64 (O.bQ-(st.om oc).bQ)) c.first c.count:=fun O hO=>by
  unfold jE
  rw[hO,e1,e2,aS (x:=(st.om oc).filled-f0) (by omega) (by omega),hfil,PS,hcnt]
  split
  ·rw[if_neg (by omega),aS (x:=xE+1) (by omega) (by omega),aS (x:=st.tr-xE) (by omega) (by omega)]
  ·rw[if_pos (by omega),show st.tr-xE=0 by omega]
 unfold Yq
 by_cases hz:c.left=0
 ·have hw:dm (st.om oc)=false:=by unfold dm;rw[<-hleft,hz];rfl
  rw[if_pos hz]
  have e:aF oc st oc=fU (st.om oc):=by unfold aF;rw[hw];simp[aj]
  rw[e,key (fU (st.om oc)) rfl]
  show lq c.filled 0 (wrap64 (wrap64 ((st.om oc).bQ+(st.om oc).aK)-(st.om oc).bQ)) c.first c.count=_
  rw[<-hleft,hz,Int.add_zero,aS (x:=(st.om oc).bQ) (by omega) (by omega),Int.sub_self,aS (by decide) (by decide)]
 ·rw[if_neg hz]
  have hp:0<(st.om oc).aK:=by omega
  by_cases hr:eU (ax c.S.l i).kind=true
  ·have hw:dm (st.om oc)=true:=by unfold dm;rw[hk',hr];simpa using hp
   rw[if_pos hr]
   have e:aF oc st oc={ st.om oc with place:=wrap64 (st.B.places+1) }:=by unfold aF;rw[hw];simp[aj]
   rw[e,key { st.om oc with place:=wrap64 (st.B.places+1) } rfl]
   show lq c.filled (st.om oc).aK (wrap64 ((st.om oc).bQ-(st.om oc).bQ)) c.first c.count=_
   rw[Int.sub_self,aS (by decide) (by decide),hleft]
  ·have hw:dm (st.om oc)=false:=by
    unfold dm;rw[hk']
    cases hx:eU (ax c.S.l i).kind
    ·simp
    ·exact absurd hx hr
   rw[if_neg hr]
   have e:aF oc st oc=fU (st.om oc):=by unfold aF;rw[hw];simp[aj]
   rw[e,key (fU (st.om oc)) rfl]
   show lq c.filled 0 (wrap64 (wrap64 ((st.om oc).bQ+(st.om oc).aK)-(st.om oc).bQ)) c.first c.count=_
   rw[aS (x:=(st.om oc).bQ+(st.om oc).aK) (by omega) (by omega),show (st.om oc).bQ+(st.om oc).aK-(st.om oc).bQ=(st.om oc).aK by omega,aS (by omega) (by omega),hleft]
def mN(N:Nat):Int:=1000000 * ((N:Int)+1)
structure di(p:Nat->Nat)(V:aQ)(S:RS)(N:Nat):Prop where
 gw:GW V (mN N)
 nb:V.nb=S.sy.length
 sym:∀i,i<V.nb->S.sy[i]?=some (V.B i).sym
 no:V.no=S.l.length
 aU:∀k,k<S.l.length->V.aU (ax S.l k).id=some (p k)
 yz:∀id b,V.aU id=some b->∃k,k<S.l.length/\(ax S.l k).id=id/\p k=b
 inj:∀a b,a<S.l.length->b<S.l.length->p a=p b->a=b
 same:∀k,k<S.l.length->lG (V.om (p k))=lG (ax S.l k)
 place:∀a b,a<S.l.length->b<S.l.length->(ax S.l a).sym=(ax S.l b).sym->0<(ax S.l a).aK->0<(ax S.l b).aK->((V.om (p a)).place<(V.om (p b)).place↔(ax S.l a).place<(ax S.l b).place)
 vw:∀a b,a<S.l.length->b<S.l.length->a≠b->(ax S.l a).sym=(ax S.l b).sym->0<(ax S.l a).aK->0<(ax S.l b).aK->(ax S.l a).place≠(ax S.l b).place
 Lj:∀k,k<S.l.length->0<(ax S.l k).aK->∀i,i<V.nb->(V.B i).sym=(ax S.l k).sym->(V.om (p k)).place<=(V.B i).places
 Ll:∀k,k<S.l.length->0<(ax S.l k).aK->(ax S.l k).place<=S.places
 CZ:∀i,i<V.nb->0<=(V.B i).places/\(V.B i).places<=2 * (N:Int)
 Ox:0<=S.places/\S.places<=2 * (N:Int)
 tr:V.lg.tr=S.t
 day:V.lg.day=S.day
 uV:V.lg.tr.length<=300 * N
 yE:V.lg.tp.length<=300 * N
 yK:V.lg.ud+V.lg.na<=N
 gp:V.no<=200
 QB:V.nb<=6
 sK:∀k,k<S.l.length->fH (ax S.l k).id=true
section
variable {p : Nat -> Nat} {V : aQ} {S : RS} {N : Nat}
theorem di.vl(h:di p V S N)(x:Nat):VL V x↔∃k,k<S.l.length/\p k=x:=by
 constructor
 ·rintro⟨id,hx⟩
  obtain⟨k,hk,_,e⟩:=h.yz id x hx
  exact⟨k,hk,e⟩
 ·rintro⟨k,hk,rfl⟩
  exact⟨_,h.aU k hk⟩
theorem di.aK(h:di p V S N){k:Nat}(hk:k<S.l.length):0<=(ax S.l k).aK/\(ax S.l k).aK<=mN N:=by
 have q:=h.gw.q (p k) ((h.vl _).2 ⟨k,hk,rfl⟩)
 have e:=(fE (h.same k hk)).2.2.2.2.2.2.2.2.1
 rw[<-e]
 have:=q.o0;have:=q.f0;have:=q.c0;have:=q.e0;have:=q.sum;have:=q.hi
 omega
theorem di.side(h:di p V S N){k:Nat}(hk:k<S.l.length):(ax S.l k).side=0\/(ax S.l k).side=1:=by
 have e:=(fE (h.same k hk)).2.2.2.1
 rw[<-e]
 exact h.gw.side (p k) ((h.vl _).2 ⟨k,hk,rfl⟩)
theorem di.count(h:di p V S N){i s:Nat}(hi:i<V.nb)(hs:s<2):(V.B i).n s<=V.no:=by
 have hm:∀k,k<(V.B i).n s->∃j,j<S.l.length/\p j=(V.B i).h s k:=fun k hk=>(h.vl _).1 ((((h.gw.gb i hi).mem s hs _).1 ⟨k,hk,rfl⟩).1)
 rw[h.no]
 have hj:∃f:Nat->Nat,∀k,k<(V.B i).n s->f k<S.l.length/\p (f k)=(V.B i).h s k:=by
  refine⟨fun k=>if hk:k<(V.B i).n s then (hm k hk).choose else 0,fun k hk=>?_⟩
  dsimp only
  rw[dif_pos hk]
  exact (hm k hk).choose_spec
 obtain⟨f,hf⟩:=hj
 refine QM S.l.length _ f (fun a b ha hb e=>?_) (fun k hk=>(hf k hk).1)
 have:=(hf a ha).2
 rw[e,(hf b hb).2]at this
 exact (h.gw.gb i hi).inj s hs a b ha hb this.symm
end
theorem GW.mono{V:aQ}{M M':Int}(h:GW V M)(hm:M<=M'):GW V M':=⟨h.gb,h.kM,fun x hx=>(h.q x hx).mono hm,h.sym,h.side⟩
theorem qI{N N':Nat}(h:N<=N'):mN N<=mN N':=by unfold mN;omega
theorem oL{oc s:Nat}:∀(f:Nat) (st:MS),(aZ oc s f st).B.places=st.B.places:=by
 intro f
 induction f with
 | zero=>intro st;rfl
 | succ f ih =>
   intro st
   rw[aZ]
   split
   ·rfl
   ·rw[ih]
    unfold bz
    split
    ·rfl
    ·simp only[dO]
     split <;> rfl
theorem DX(oc t g cap':Nat)(st:MS):(dV oc t g cap' st).places=if dm (st.om oc) then wrap64 (st.B.places+1) else st.B.places:=by
 unfold dV
 split <;> rfl
theorem di.QJ{p:Nat->Nat}{V V':aQ}{N:Nat}{oc i s t g cap' ib:Nat}{st:MS}{c:RC}{R0:List Rc}{xE f0:Int}(hN:N<3000000)(hib:ib<V.nb)
 (hr:qV p oc i s (V.B ib).sym R0 xE f0 st c) (q:Qo (mN (N+1)) (st.om oc))
 (gw:GW V' (mN (N+1))) (hnb:V'.nb=V.nb) (hB:V'.B=aN V.B ib (dV oc t g cap' st)) (jk:V'.om=aF oc st) (ZG:V'.lg=gJ oc st)
 (hBs:∀j,(V'.B j).sym=(V.B j).sym) (hpb:st.B.places=(V.B ib).places) (CZ:∀i,i<V.nb->0<=(V.B i).places/\(V.B i).places<=2 * (N:Int))
 (abr:V.nb=c.S.sy.length) (abA:∀i,i<V.nb->c.S.sy[i]?=some (V.B i).sym) (hno:V'.no=c.S.l.length) (qj:∀k,k<c.S.l.length->V'.aU (ax c.S.l k).id=some (p k)) (ZO:∀id b,V'.aU id=some b->∃k,k<c.S.l.length/\(ax c.S.l k).id=id/\p k=b)
 (Lj:∀k,k<c.S.l.length->k≠i->0<(ax c.S.l k).aK->∀j,j<V.nb->(V.B j).sym=(ax c.S.l k).sym->(st.om (p k)).place<=(V.B j).places)
 (Ll:∀k,k<c.S.l.length->k≠i->0<(ax c.S.l k).aK->(ax c.S.l k).place<=c.S.places) (Ox:0<=c.S.places/\c.S.places<=2 * (N:Int))
 (uV:st.lg.tr.length<=300 * (N+1)) (yE:st.lg.tp.length<=300 * (N+1)) (yK:st.lg.ud+st.lg.na<=N+1) (gp:V'.no<=200) (hn6:V.nb<=6) (abn:∀k,k<c.S.l.length->fH (ax c.S.l k).id=true):di p V' (yA i c) (N+1):=by
 have hM:mN (N+1)<=1000000000000000:=by unfold mN;omega
 obtain⟨f1,f2,f3,f4,f5,f6,f7,f8,f9⟩:=hr.fin hM q
 have eu:=hr.lu
 have il:=eu.il
 have Yp:∀a,a<c.S.l.length->a≠i->p a≠oc:=fun a ha e e2=>e (eu.inj a i ha il (by rw[e2,eu.pi]))
 have zY:∀k,k<c.S.l.length->k≠i->aF oc st (p k)=st.om (p k):=fun k hk e=>by
  unfold aF
  split <;> exact ah _ _ (Yp k hk e)
 have idk:∀k,k<c.S.l.length->(ax (yA i c).l k).id=(ax c.S.l k).id:=fun k hk=>by
  by_cases e:k=i
  ·subst e
   have a:=(fE (f1 k hk)).1
   have b:=(fE eu.self).1
   simp only at b
   rw[<-a,<-b,eu.pi,wY]
  ·rw[f3 k e]
 have Rq:(ax (yA i c).l i).sym=(V.B ib).sym:=by
  have a:=(fE (f1 i il)).2.2.1
  have b:=(fE eu.self).2.2.1
  simp only at b
  rw[<-a,eu.pi,<-eu.UC,<-b]
  unfold aF
  split <;> rw[aj]
  rfl
 have wb:wrap64 ((V.B ib).places+1)=(V.B ib).places+1:=aS (by have:=CZ ib hib;omega) (by have:=CZ ib hib;omega)
 have ws:wrap64 (c.S.places+1)=c.S.places+1:=aS (by omega) (by omega)
 have tK:∀j,(V'.B j).places=if j=ib/\dm (st.om oc)=true then (V.B ib).places+1 else (V.B j).places:=fun j=>by
  rw[hB]
  by_cases e:j=ib
  ·subst e
   rw[aj,DX,hpb]
   split
   ·rename_i hw;rw[if_pos ⟨rfl,hw⟩,wb]
   ·rename_i hw;rw[if_neg (fun h=>hw h.2)]
  ·rw[ah _ _ e,if_neg (fun h=>e h.1)]
 have NG:0<(ax (yA i c).l i).aK->dm (st.om oc)=true:=fun h0=>by
  cases hw:dm (st.om oc)
  ·have:=(f5 hw).1;omega
  ·rfl
 have JU:dm (st.om oc)=true->(aF oc st oc).place=(V.B ib).places+1:=fun hw=>by
  unfold aF
  rw[if_pos hw,aj]
  show wrap64 (st.B.places+1)=_
  rw[hpb,wb]
 have GL:∀k,k<c.S.l.length->k≠i->0<(ax c.S.l k).aK->(ax c.S.l k).sym=(V.B ib).sym->(st.om (p k)).place<=(V.B ib).places/\(ax c.S.l k).place<=c.S.places:=fun k hk e h0 hsy=>⟨Lj k hk e h0 ib hib hsy.symm,Ll k hk e h0⟩
 refine⟨gw,?_,?_,?_,?_,?_,?_,?_,?_,?_,?_,?_,?_,?_,?_,?_,?_,?_,?_,?_,by rw[hnb];exact hn6,fun k hk=>by rw[f2]at hk;rw[idk k hk];exact abn k hk⟩
 ·rw[hnb,f9];exact abr
 ·intro j hj;rw[f9,hBs j];exact abA j (by omega)
 ·rw[hno,f2]
 ·intro k hk;rw[f2]at hk;rw[idk k hk];exact qj k hk
 ·intro id b hb
  obtain⟨k,hk,e1,e2⟩:=ZO id b hb
  exact⟨k,by rw[f2];exact hk,by rw[idk k hk];exact e1,e2⟩
 ·intro a b ha hb e;rw[f2]at ha hb;exact eu.inj a b ha hb e
 ·intro k hk;rw[f2]at hk;rw[jk];exact f1 k hk
 ·intro a b ha hb hsy h1 h2
  rw[f2]at ha hb
  rw[jk]
  by_cases ea:a=i <;> by_cases eb:b=i
  ·rw[ea,eb];exact⟨fun h=>by omega,fun h=>by omega⟩
  ·subst ea
   have hw:=NG h1
   rw[f3 b eb]at hsy h2 ⊢
   obtain⟨o1,o2⟩:=GL b hb eb h2 (by rw[<-hsy];exact Rq)
   rw[eu.pi,JU hw,zY b hb eb,(f4 hw).1,ws]
   omega
  ·subst eb
   have hw:=NG h2
   rw[f3 a ea]at hsy h1 ⊢
   obtain⟨o1,o2⟩:=GL a ha ea h1 (by rw[hsy];exact Rq)
   rw[eu.pi,JU hw,zY a ha ea,(f4 hw).1,ws]
   omega
  ·rw[f3 a ea,f3 b eb]at hsy ⊢
   rw[f3 a ea]at h1
   rw[f3 b eb]at h2
   rw[zY a ha ea,zY b hb eb]
   exact eu.place a b ha hb ea eb hsy h1 h2
 ·intro a b ha hb hab hsy h1 h2
  rw[f2]at ha hb
  by_cases ea:a=i <;> by_cases eb:b=i
  ·omega
  ·subst ea
   have hw:=NG h1
   rw[f3 b eb]at hsy h2 ⊢
   obtain⟨o1,o2⟩:=GL b hb eb h2 (by rw[<-hsy];exact Rq)
   rw[(f4 hw).1,ws]
   omega
  ·subst eb
   have hw:=NG h2
   rw[f3 a ea]at hsy h1 ⊢
   obtain⟨o1,o2⟩:=GL a ha ea h1 (by rw[hsy];exact Rq)
   rw[(f4 hw).1,ws]
   omega
  ·rw[f3 a ea,f3 b eb]at hsy ⊢
   rw[f3 a ea]at h1
   rw[f3 b eb]at h2
   exact eu.vw a b ha hb ea eb hab hsy h1 h2
 ·intro k hk h0 j hj hsy
  rw[f2]at hk
  rw[hBs j]at hsy
  rw[jk,tK j]
  by_cases e:k=i
  ·subst e
   have hw:=NG h0
   have ej:j=ib:=gw.kM j ib hj (by rw[hnb];exact hib) (by rw[hBs j,hBs ib,hsy];exact Rq)
   rw[eu.pi,JU hw,if_pos ⟨ej,hw⟩]
   omega
  ·rw[f3 k e]at h0 hsy
   rw[zY k hk e]
   have:=Lj k hk e h0 j (by omega) hsy
   split
   ·rename_i hx;rw[hx.1]at this;omega
   ·exact this
 ·intro k hk h0
  rw[f2]at hk
  have hp:c.S.places<=(yA i c).places:=by
   cases hw:dm (st.om oc)
   ·rw[(f5 hw).2];omega
   ·rw[(f4 hw).2,ws];omega
  by_cases e:k=i
  ·subst e
   have hw:=NG h0
   rw[(f4 hw).1,(f4 hw).2];omega
  ·rw[f3 k e]at h0 ⊢
   have:=Ll k hk e h0
   omega
 ·intro j hj
  rw[tK j]
  have h1:=CZ j (by omega)
  have h2:=CZ ib hib
  split <;> (push_cast;omega)
 ·cases hw:dm (st.om oc)
  ·rw[(f5 hw).2];push_cast;omega
  ·rw[(f4 hw).2,ws];push_cast;omega
 ·rw[ZG,f6];exact hr.tr
 ·rw[ZG,f8];exact hr.day
 ·rw[ZG];exact uV
 ·rw[ZG];exact yE
 ·rw[ZG];exact yK
 ·exact gp
theorem GW.apart{V:aQ}{M:Int}(g:GW V M){w:World}{bv bm bo:Nat}(R:dN w bv bm bo V){i x:Nat}(hx:VL V x)(hs:(V.om x).sym=(V.B i).sym)(hi:i<V.nb):nM V i x:=by
 intro j hj hne t ht hsd
 rcases hsd with e|⟨l,hl,e⟩
 ·obtain⟨id,hid⟩:=hx
  obtain⟨_,ix,ho⟩:=R.bg id x hid
  exact ((R.aW j hj).side t ht).ne ho (by decide) e
 ·have:=((g.gb j hj).mem t ht _).1 ⟨l,hl,rfl⟩
  rw[<-e,hs]at this
  exact hne (g.kM i j hi hj this.2.1).symm
theorem GW.idx{V:aQ}{M:Int}(g:GW V M){x:Nat}(hx:VL V x):∃i t:Nat,i<V.nb/\t<2/\(V.om x).sym=(V.B i).sym/\(V.om x).side=(t:Int):=by
 obtain⟨i,hi,e⟩:=g.sym x hx
 rcases g.side x hx with h|h
 ·exact⟨i,0,hi,by omega,e,h⟩
 ·exact⟨i,1,hi,by omega,e,h⟩
theorem GW.QS{V:aQ}{M:Int}(g:GW V M)(G':Lg)(bH:Lm):GW { V with lg:=G',lm:=bH } M:=⟨g.gb,g.kM,g.q,g.sym,g.side⟩
theorem KQ{V:aQ}{M:Int}(g:GW V M){i b:Nat}{B':Bk}{dG:Nat->Ord}{G':Lg}{bH:Lm}(hi:i<V.nb)(hb:VL V b)(hsb:(V.om b).sym=(V.B i).sym)(kQ:∀x,x≠b->dG x=V.om x)(h1:(dG b).sym=(V.om b).sym)(h2:(dG b).side=(V.om b).side)(hq:Qo M (dG b))(hBs:B'.sym=(V.B i).sym)(gi:GB B' dG (V.B i).sym (VL V)) :
 GW { V.turn i B' dG with lg:=G',lm:=bH } M:=by
 have st:∀x,(dG x).sym=(V.om x).sym/\(dG x).side=(V.om x).side:=fun x=>by
  by_cases e:x=b
  ·rw[e];exact⟨h1,h2⟩
  ·rw[kQ x e];exact⟨rfl,rfl⟩
 have sy:∀j,(aN V.B i B' j).sym=(V.B j).sym:=fun j=>by
  by_cases e:j=i
  ·rw[e,aj];exact hBs
  ·rw[ah _ _ e]
 refine⟨fun j hj=>?_,fun a c ha hc e=>?_,fun x hx=>?_,fun x hx=>?_,fun x hx=>?_⟩
 ·show GB (aN V.B i B' j) dG (aN V.B i B' j).sym (VL V)
  rw[sy j]
  by_cases e:j=i
  ·subst e
   rw[aj]
   exact gi
  ·rw[ah _ _ e]
   have ns:(V.B i).sym≠(V.B j).sym:=fun h=>e (g.kM i j hi hj h).symm
   refine (g.gb j hj).kJ (fun x=>?_) (fun x _ hs _=>?_)
   ·by_cases ex:x=b
    ·subst ex
     constructor
     ·rintro⟨_,c,_⟩;exact absurd ((h1.trans hsb).symm.trans c) ns
     ·rintro⟨_,c,_⟩;exact absurd (hsb.symm.trans c) ns
    ·rw[kQ x ex]
   ·have ex:x≠b:=fun e2=>ns (by rw[e2]at hs;exact hsb.symm.trans hs)
    rw[kQ x ex];exact⟨rfl,rfl,rfl⟩
 ·refine g.kM a c ha hc ?_
  have e':(aN V.B i B' a).sym=(aN V.B i B' c).sym:=e
  rw[sy a,sy c]at e'
  exact e'
 ·show Qo M (dG x)
  by_cases e:x=b
  ·rw[e];exact hq
  ·rw[kQ x e];exact g.q x hx
 ·obtain⟨j,hj,e⟩:=g.sym x hx
  refine⟨j,hj,?_⟩
  show (dG x).sym=(aN V.B i B' j).sym
  rw[(st x).1,sy j];exact e
 ·show (dG x).side=0\/(dG x).side=1
  rw[(st x).2];exact g.side x hx
structure WI(V:aQ)(M:Int)(i s b:Nat)(q:Int)(again:Bool)(V':aQ):Prop where
 gw:GW V' M
 aU:V'.aU=V.aU
 no:V'.no=V.no
 nb:V'.nb=V.nb
 kE:∀j,(V'.B j).sym=(V.B j).sym
 way:((again=false\/eU (V.om b).kind=false\/(dF (V.B i) V.om (cZ (V.om b)) s).isSome=true)/\V'.om=aN V.om b (eY (V.om b) q)/\∀j,(V'.B j).places=(V.B j).places) \/
  (again=true/\eU (V.om b).kind=true/\dF (V.B i) V.om (cZ (V.om b)) s=none/\V'.om=bY V i b q/\∀j,(V'.B j).places=if j=i then wrap64 ((V.B i).places+1) else (V.B j).places)
theorem wG{V:aQ}{i:Nat}{B':Bk}{α:Type}(f:Bk->α)(h:f B'=f (V.B i))(j:Nat):f (aN V.B i B' j)=f (V.B j):=by
 by_cases e:j=i
 ·rw[e,aj,h]
 ·rw[ah _ _ e]
theorem qx{l:List Ord}{o:Ord}{k:Nat}(h:k<l.length):ax (l++[o]) k=ax l k:=by
 unfold ax;rw[List.getD_eq_getElem?_getD,List.getD_eq_getElem?_getD,List.getElem?_append_left h]
theorem mM{l:List Ord}{o:Ord}:ax (l++[o]) l.length=o:=by
 unfold ax;rw[List.getD_eq_getElem?_getD,List.getElem?_append_right (Nat.le_refl _)];simp
theorem VI(oc s:Nat)(st:MS):(mF oc s st).lg.na=st.lg.na:=(pI oc s _ st).1
theorem Qz(oc s:Nat)(st:MS):(bz oc s st).lg.ud=st.lg.ud:=by
 unfold bz
 split
 ·rfl
 ·simp only[Lg.jG,Lg.told,Lg.aC,Lg.aV,dh]
  split <;> rfl
theorem CU(oc s:Nat):∀(f:Nat) (st:MS),(aZ oc s f st).lg.ud=st.lg.ud
 | 0,st=>rfl
 | f+1,st=>by
   rw[aZ]
   split
   ·rfl
   ·rw[CU oc s f,Qz]
theorem VJ(oc s:Nat)(st:MS):(mF oc s st).lg.ud=st.lg.ud:=CU oc s _ st
theorem di.Vs{p:Nat->Nat}{V:aQ}{S:RS}{N:Nat}(h:di p V S N){o:iL}{ib b s t:Nat}(hib:ib<V.nb)(hs:s<2)(ht:t=1-s)(dM:o.sym=(V.B ib).sym)(hside:o.side=(t:Int))(hb:¬VL V b) :
 ve (aN p S.l.length b) b S.l.length s (V.B ib) (aN V.om b (aJ o)) (S.fresh.add o).l (V.B ib).sym:=by
 have pb:∀k,k<S.l.length->p k≠b:=fun k hk e=>hb ((h.vl b).2 ⟨k,hk,e⟩)
 have lW:∀k,k<S.l.length->aN V.om b (aJ o) (p k)=V.om (p k):=fun k hk=>ah _ _ (pb k hk)
 have len0:(S.fresh.add o).l.length=S.l.length+1:=by simp[RS.add,RS.fresh]
 have l0:(S.fresh.add o).l=S.l++[Et o]:=rfl
 have nl:∀k,k<S.l.length->ax (S.fresh.add o).l k=ax S.l k:=fun k hk=>by rw[l0];exact qx hk
 have nn:ax (S.fresh.add o).l S.l.length=Et o:=by rw[l0];exact mM
 have pk:∀k,k<S.l.length->aN p S.l.length b k=p k:=fun k hk=>ah _ _ (by omega)
 have pl:aN p S.l.length b S.l.length=b:=aj _ _ _
 have sides:o.side=0\/o.side=1:=by omega
 refine⟨by omega,pl,fun a c ha hc e=>?_,fun k hk hne=>?_,?_,fun a c ha hc hna hnc hsy h1 h2=>?_,fun a c ha hc hna hnc hac hsy h1 h2=>?_,fun x=>?_,?_,?_,fun k hk=>?_,fun k hk=>?_⟩
 ·rw[len0]at ha hc
  by_cases ea:a=S.l.length <;> by_cases ec:c=S.l.length
  ·omega
  ·rw[ea,pl,pk c (by omega)]at e;exact absurd e.symm (pb c (by omega))
  ·rw[ec,pl,pk a (by omega)]at e;exact absurd e (pb a (by omega))
  ·rw[pk a (by omega),pk c (by omega)]at e;exact h.inj a c (by omega) (by omega) e
 ·rw[len0]at hk
  rw[pk k (by omega),lW k (by omega),nl k (by omega)]
  exact h.same k (by omega)
 ·rw[aj,nn];rfl
 ·rw[len0]at ha hc
  rw[nl a (by omega),nl c (by omega)]at hsy ⊢
  rw[nl a (by omega)]at h1
  rw[nl c (by omega)]at h2
  rw[pk a (by omega),pk c (by omega),lW a (by omega),lW c (by omega)]
  exact h.place a c (by omega) (by omega) hsy h1 h2
 ·rw[len0]at ha hc
  rw[nl a (by omega),nl c (by omega)]at hsy ⊢
  rw[nl a (by omega)]at h1
  rw[nl c (by omega)]at h2
  exact h.vw a c (by omega) (by omega) hac hsy h1 h2
 ·rw[(h.gw.gb ib hib).mem s hs x,h.vl x,len0]
  constructor
  ·rintro⟨⟨k,hk,rfl⟩,a1,a2,a3⟩
   obtain⟨_,_,e3,e4,_,_,_,_,e9,_⟩:=fE (h.same k hk)
   refine⟨k,by omega,by omega,pk k hk,?_,?_,?_⟩ <;> rw[nl k hk]
   ·rw[<-e3];exact a1
   ·rw[<-e4];exact a2
   ·rw[<-e9];exact a3
  ·rintro⟨k,hk,hne,e,a1,a2,a3⟩
   have hk':k<S.l.length:=by omega
   obtain⟨_,_,e3,e4,_,_,_,_,e9,_⟩:=fE (h.same k hk')
   rw[nl k hk']at a1 a2 a3
   rw[pk k hk']at e
   subst e
   exact⟨⟨k,hk',rfl⟩,by rw[e3];exact a1,by rw[e4];exact a2,by rw[e9];exact a3⟩
 ·rw[nn];exact dM
 ·rw[nn]
  show o.side=_
  omega
 ·rw[len0]at hk
  by_cases e:k=S.l.length
  ·rw[e,nn];exact sides
  ·rw[nl k (by omega)];exact h.side (by omega)
 ·rw[len0]at hk
  by_cases e:k=S.l.length
  ·rw[e,nn];exact Int.le_refl _
  ·rw[nl k (by omega)];exact (h.aK (by omega)).1
theorem di.enter{p:Nat->Nat}{V:aQ}{S:RS}{N:Nat}(h:di p V S N)(hN:N<2900000){o:iL}{ib b s t g cap':Nat}{bH:Lm}(hib:ib<V.nb)(hs:s<2)(ht:t=1-s)(dM:o.sym=(V.B ib).sym)(hside:o.side=(t:Int))(hq1:1<=o.aI)(hq2:o.aI<=1000000)(hfree:V.aU o.id=none)(hb:¬VL V b)(aa7:V.no<200)(abm:fH o.id=true) :
 ∃c' f,DC S.l.length f ⟨S.fresh.add o,o.aI,0,0,0⟩ c'/\f<=201/\di (aN p S.l.length b) (V.enter ib b s t g cap' o bH) (yA S.l.length c') (N+1)/\jE (aJ o) ((V.enter ib b s t g cap' o bH).om b) V.tr (V.enter ib b s t g cap' o bH).tr=Yq S.l.length c'/\(V.enter ib b s t g cap' o bH).lg.tp=lY V.lg.tp (yA S.l.length c').told/\(yA S.l.length c').told.length<=201:=by
 have hM:mN (N+1)<=1000000000000000:=by unfold mN;omega
 have hmN:1000000<=mN (N+1):=by unfold mN;omega
 obtain⟨gw',run,iv,hBs,ug,gi⟩:=(h.gw.mono (qI (Nat.le_add_right N 1))).enter (b:=b) (g:=g) (cap':=cap') (bH:=bH) hM hib hs ht dM hside (by omega) (by omega) hfree hb
 obtain⟨st0,jo⟩:∃st0:MS,st0=⟨V.B ib,aN V.om b (aJ o),V.lg.aX o.id⟩:=⟨_,rfl⟩
 rw[<-jo]at run iv
 have pb:∀k,k<S.l.length->p k≠b:=fun k hk e=>hb ((h.vl b).2 ⟨k,hk,e⟩)
 have lW:∀k,k<S.l.length->aN V.om b (aJ o) (p k)=V.om (p k):=fun k hk=>ah _ _ (pb k hk)
 have len0:(S.fresh.add o).l.length=S.l.length+1:=by simp[RS.add,RS.fresh]
 have l0:(S.fresh.add o).l=S.l++[Et o]:=rfl
 have nl:∀k,k<S.l.length->ax (S.fresh.add o).l k=ax S.l k:=fun k hk=>by rw[l0];exact qx hk
 have nn:ax (S.fresh.add o).l S.l.length=Et o:=by rw[l0];exact mM
 have pk:∀k,k<S.l.length->aN p S.l.length b k=p k:=fun k hk=>ah _ _ (by omega)
 have pl:aN p S.l.length b S.l.length=b:=aj _ _ _
 have sides:o.side=0\/o.side=1:=by omega
 have XY:=h.Vs hib hs ht dM hside hb
 have hcs:=h.count hib hs
 have hmu:mu b s st0<=201:=by
  rw[jo]
  unfold mu
  simp only
  split <;> omega
 have hR:qV (aN p S.l.length b) b S.l.length s (V.B ib).sym V.lg.tp V.tr 0 st0 ⟨S.fresh.add o,o.aI,0,0,0⟩:=by
  rw[jo]
  refine⟨XY,?_,h.tr,rfl,h.day,rfl,?_,?_,?_,Int.le_refl _,Int.le_refl _,by decide⟩
  ·simp only[aj];rfl
  ·simp only[aj];rfl
  ·show (0:Int)=MS.tr ⟨V.B ib,aN V.om b (aJ o),V.lg.aX o.id⟩-V.tr
   unfold MS.tr aQ.tr
   show (0:Int)=(V.lg.tr.length:Int)-V.lg.tr.length
   omega
  ·show (0:Int)=if MS.tr ⟨V.B ib,aN V.om b (aJ o),V.lg.aX o.id⟩=V.tr then 0 else V.tr+1
   exact (if_pos (show MS.tr ⟨V.B ib,aN V.om b (aJ o),V.lg.aX o.id⟩=V.tr from rfl)).symm
 have hqx:∀x,(x=b\/kX st0 s x)->Qo (mN (N+1)) (st0.om x):=fun x hx=>by
  rw[jo]at hx ⊢
  rcases hx with e|e
  ·simp only[e,aj];exact zV (by omega) (by omega)
  ·have hvx:=(((h.gw.gb ib hib).mem s hs x).1 e).1
   simp only
   rw[ah _ _ (fun e2=>hb (by rw[<-e2];exact hvx))]
   exact (h.gw.q x hvx).mono (qI (Nat.le_add_right N 1))
 have hheap:dX (fG st0.om) (st0.B.n s) (st0.B.h s):=by rw[jo];exact gi.heap s hs
 have abC:=h.uV
 have abB:=h.yE
 have abt:=h.gp
 have Js:st0.tr=V.tr:=by rw[jo];rfl
 have Jp:V.tr=(V.lg.tr.length:Int):=rfl
 obtain⟨c',he,hR',hsy,hpl,hln,hpc,htl,hol⟩:=qV.Zj hM hs (by rw[Jp];omega) (mu b s st0) st0 _ hR iv hheap hqx (Nat.le_refl _) (by rw[Js,Jp];omega)
 change qV _ _ _ _ _ _ _ _ (mF b s st0) c' at hR'
 have P5:c'.S.sy=S.sy:=hsy
 have hpl':c'.S.places=S.places:=hpl
 rw[len0]at hln
 have q:=run.q b (.inl rfl)
 have hlen:=JO (oc:=b) (s:=s) (st:=st0)
 have e0:st0.lg.tr.length=V.lg.tr.length/\st0.lg.tp.length=V.lg.tp.length/\st0.B.n s=(V.B ib).n s/\st0.lg.na=V.lg.na+1/\st0.lg.ud=V.lg.ud:=by rw[jo];exact⟨rfl,rfl,rfl,rfl,rfl⟩
 obtain⟨e01,e02,e03,e04,e05⟩:=e0
 rw[e01,e02,e03]at hlen
 have old:∀k,k<S.l.length->(ax c'.S.l k).id=(ax S.l k).id/\(ax c'.S.l k).sym=(ax S.l k).sym/\((mF b s st0).om (p k)).place=(V.om (p k)).place/\(0<(ax c'.S.l k).aK->0<(ax S.l k).aK)/\(ax c'.S.l k).place=(ax S.l k).place:=fun k hk=>by
  obtain⟨f1,_,f3,_,_,_,_,_,f9,_⟩:=fE (hR'.lu.same k (by rw[hln];omega) (by omega))
  rw[pk k hk]at f1 f3 f9
  obtain⟨g1,_,g3,_,_,_,_,g8,_⟩:=run.dH (p k)
  have e1:st0.om (p k)=V.om (p k):=by rw[jo];exact lW k hk
  rw[e1]at g1 g3 g8
  obtain⟨k1,_,k3,_,_,_,_,_,k9,_⟩:=fE (h.same k hk)
  refine⟨by rw[<-f1,g1,k1],by rw[<-f3,g3,k3],g8,fun h0=>?_,by rw[hpc k];exact congrArg Ord.place (nl k hk)⟩
  rw[<-f9]at h0
  rw[<-k9]
  by_cases hm:kX st0 s (p k)
  ·rw[jo]at hm
   exact (((h.gw.gb ib hib).mem s hs _).1 hm).2.2.2
  ·rw[run.kQ _ (pb k hk) hm,e1]at h0
   exact h0
 have new:(ax c'.S.l S.l.length).id=o.id:=by
  have f1:=(fE hR'.lu.self).1
  simp only at f1
  rw[<-f1,(run.dH b).1,jo]
  simp only[aj]
  rfl
 refine⟨c',mu b s st0,he,hmu,?_,?_,?_,?_⟩
 ·refine di.QJ (V:=V) (g:=g) (cap':=cap') (t:=t) (by omega) hib hR' q gw' rfl (by rw[jo];rfl) (by rw[jo];rfl) (by rw[jo];rfl) hBs (by unfold mF;rw[oL,jo]) h.CZ (by rw[P5];exact h.nb) (by rw[P5];exact h.sym) (by rw[hln,<-h.no];rfl) (fun k hk=>?_) (fun id b2 hb2=>?_) (fun k hk hne h0 j hj hsj=>?_) (fun k hk hne h0=>?_) (by rw[hpl'];exact h.Ox) (by omega) (by omega) (by rw[VJ,VI,e04,e05];have:=h.yK;omega) (by show V.no+1<=200;omega) h.QB (fun k hk=>?_)
  ·rw[hln]at hk
   show (if (ax c'.S.l k).id=o.id then some b else V.aU (ax c'.S.l k).id)=_
   by_cases e:k=S.l.length
   ·rw[e,new,if_pos rfl,pl]
   ·have hk':k<S.l.length:=by omega
    rw[(old k hk').1,pk k hk']
    have:=h.aU k hk'
    rw[if_neg (fun e2=>by rw[e2,hfree]at this;simp at this)]
    exact this
  ·have hb3:(if id=o.id then some b else V.aU id)=some b2:=hb2
   by_cases e:id=o.id
   ·rw[if_pos e]at hb3
    refine⟨S.l.length,by rw[hln];omega,by rw[new,e],?_⟩
    rw[pl];exact Option.some.inj hb3
   ·rw[if_neg e]at hb3
    obtain⟨k,hk,e1,e2⟩:=h.yz id b2 hb3
    exact⟨k,by rw[hln];omega,by rw[(old k hk).1];exact e1,by rw[pk k hk];exact e2⟩
  ·rw[hln]at hk
   have hk':k<S.l.length:=by omega
   obtain⟨_,o2,o3,o4,_⟩:=old k hk'
   rw[pk k hk',o3]
   rw[o2]at hsj
   exact h.Lj k hk' (o4 h0) j hj hsj
  ·rw[hln]at hk
   have hk':k<S.l.length:=by omega
   obtain⟨_,_,_,o4,o5⟩:=old k hk'
   rw[o5,hpl']
   exact h.Ll k hk' (o4 h0)
  ·rw[hln]at hk
   by_cases e:k=S.l.length
   ·rw[e,new];exact abm
   ·rw[(old k (by omega)).1];exact h.sK k (by omega)
 ·have hrep:=hR'.report hM q (aJ o) rfl (by rw[run.bQ,jo];simp only[aj]) (by unfold MS.tr;omega) (by rw[Jp];omega)
  rw[<-hrep]
  show jE (aJ o) (aF b (mF b s ⟨V.B ib,aN V.om b (aJ o),V.lg.aX o.id⟩) b) V.tr ((gJ b (mF b s ⟨V.B ib,aN V.om b (aJ o),V.lg.aX o.id⟩)).tr.length:Int)=_
  rw[<-jo]
  rfl
 ·obtain⟨_,_,_,_,_,_,f7,_⟩:=hR'.fin hM q
  rw[f7,<-hR'.tp]
  show (gJ b (mF b s ⟨V.B ib,aN V.om b (aJ o),V.lg.aX o.id⟩)).tp=_
  rw[<-jo]
  rfl
 ·obtain⟨_,_,_,_,_,_,f7,_⟩:=hR'.fin hM q
  rw[f7]
  have:(S.fresh.add o).told.length=0:=rfl
  have abx:c'.S.told.length<=(S.fresh.add o).told.length+mu b s st0:=hol
  omega
def lN(sy:List ByteArray)(s:ByteArray):Int:=if mf s=false then 3 else if kN sy s=true then 2 else if 6<=sy.length then 7 else 0
theorem JI(sy:List ByteArray)(s:ByteArray):(mf s=false/\lN sy s=3)\/(mf s=true/\kN sy s=true/\lN sy s=2)\/(mf s=true/\kN sy s=false/\decide ((sy.length:Int)>=6)=true/\lN sy s=7)\/(mf s=true/\kN sy s=false/\decide ((sy.length:Int)>=6)=false/\lN sy s=0):=by
 unfold lN
 cases h1:mf s
 ·left;simp
 ·cases h2:kN sy s
  ·by_cases h3:6<=sy.length
   ·right;right;left;refine⟨rfl,rfl,?_,?_⟩
    ·simp;omega
    ·simp[h3]
   ·right;right;right;refine⟨rfl,rfl,?_,?_⟩
    ·simp;omega
    ·simp[h3]
  ·right;left;simp
def RS.lists(S:RS)(s:ByteArray):RS:={ S with sy:=S.sy++[s] }
theorem yB(bv bm bo:Nat)(V:aQ)(id af aI:Int)(w:World)(R:dN w bv bm bo V)(hid:(Lit.int .i64 id).wf=true)(hn:V.aU id=none) :
 Calls Tryz.prog 38 #[.pointer (some ⟨bv,0,none⟩),.int .i64 id,.int .i64 af,.int .i64 aI] w fun e w'=>e=.returned (.tuple #[.agg #[.int .i64 0,.int .i64 0,.int .i64 0,.int .i64 0,.int .i64 0],.int .i64 6])/\au aP w w':=by
 have k1:au aP w (w.alloc (.cells #[.int .i64 0,.int .i64 0,.int .i64 0,.int .i64 0,.int .i64 0] 87)):=(au.refl aP w).alloc _
 have L2:=(R.aH k1).vN hid
 rw[hn]at L2
 simp only[iR]at L2
 have v1:w.cell? ⟨bv,1,none⟩=some (.map (some bo)):=R.dA.cell 1
 have lv:=R.dA.lt
 clear R hn
 go_enter Tryz.func38,Tryz.ntmps38
 go_wp2
 refine bodyPost_ret (Ls _ w.heap.size _ 0 0 0 0 0 6 rfl rfl ?_) rfl ⟨rfl,?_⟩
 ·exact az.new w _ _
 ·exact (au.refl aP w).alloc _
theorem JJ(bv bm bo:Nat)(V:aQ)(s:ByteArray)(w:World)(R:dN w bv bm bo V)(hn:qU s true)(hlen:s.size<=maxLen)(hfree:∀i,i<V.nb->(V.B i).sym≠s)(hnb:6<=V.nb):Calls Tryz.prog 27 #[.pointer (some ⟨bv,0,none⟩),.string s] w fun e w'=>e=.returned (.int .i64 7)/\au aP w w':=by
 obtain⟨fB,mB,oK,sF⟩:=R.ik
 have hl:fB (sl s)=none:=by
  cases h:fB (sl s) with
  | none=>rfl
  | some b =>
    obtain⟨i,hi,_,h2⟩:=sF s b h
    exact absurd h2 (hfree i hi)
 have HL:=ai hl
 obtain⟨n,hnn⟩:∃n,V.nb=n:=⟨_,rfl⟩
 have e6:decide ((6:Int)<=(n:Int))=true:=by simp;omega
 have hK:∀w',au aP w w'->(Instr.lookup 94 (.map (some bm)) (.string s) false).run Tryz.prog w'=.ok (.pointer none) w'/\w'.cell? ⟨bv,0,none⟩=some (.map (some bm))/\(Builtin.len_ #[94] 3 #[.map (some bm)]).run Tryz.prog w'=.ok (.int .i64 (n:Int)) w':=fun w' k=>by
  refine⟨?_,(k.aB R.dA (fun x=>x)).cell 0,by rw[<-hnn];exact (mB.aC k (fun x=>x)).len Tryz.underlying94 _⟩
  rw[(mB.aC k (fun x=>x)).look yw Tryz.underlying94 (oW _) (WideMaps.keyOf_string_mk Tryz.underlying9 hlen)]
  show _=Result.ok (iR none) _
  rw[<-ae HL];rfl
 have lv:=R.dA.lt
 have HK:=ai hK
 clear hl R hK hnn mB oK sF
 go_enter Tryz.func27,Tryz.ntmps27
 go_wp2_with fail
 refine (hn _).mono ?_
 rintro e w' ⟨rfl,k⟩
 have k2:=((au.refl aP w).alloc (.cells #[.pointer (some ⟨bv,0,none⟩)] 35)).trans k
 obtain⟨g1,g2,g3⟩:=ae HK w' k2
 have hb:az w' w.heap.size #[.pointer (some ⟨bv,0,none⟩)] 35:=k.aB (az.new w _ _) (fun x=>x)
 have g4:w'.cell? ⟨w.heap.size,0,none⟩=some (.pointer (some ⟨bv,0,none⟩)):=hb.cell 0
 have yS:=ai k2
 clear k k2 hb
 go_wp2
 go_ret
 exact⟨rfl,ae yS⟩
theorem DV(bv bm bo:Nat)(V:aQ)(s:ByteArray)(side:Int)(w:World)(R:dN w bv bm bo V)(hlen:s.size<=maxLen)(hfree:∀i,i<V.nb->(V.B i).sym≠s) :
 Calls Tryz.prog 25 #[.pointer (some ⟨bv,0,none⟩),.string s,.int .i64 side] w fun e w'=>e=.returned (.tuple #[.slice none 0 0,.int .i64 6])/\au aP w w':=by
 obtain⟨fB,mB,oK,sF⟩:=R.ik
 have hl:fB (sl s)=none:=by
  cases h:fB (sl s) with
  | none=>rfl
  | some b =>
    obtain⟨i,hi,_,h2⟩:=sF s b h
    exact absurd h2 (hfree i hi)
 have L1:(Instr.lookup 94 (.map (some bm)) (.string s) false).run Tryz.prog w=.ok (.pointer none) w:=by
  rw[mB.look yw Tryz.underlying94 (oW _) (WideMaps.keyOf_string_mk Tryz.underlying9 hlen)]
  show _=Result.ok (iR none) _
  rw[<-hl];rfl
 have v0:w.cell? ⟨bv,0,none⟩=some (.map (some bm)):=R.dA.cell 0
 clear R hl mB oK sF
 go_enter Tryz.func25,Tryz.ntmps25
 go_wp2
 go_ret2
 exact⟨rfl,au.refl _ _⟩
end Go.Proofs.YtigaphnafnpfnaaGreatDoor
