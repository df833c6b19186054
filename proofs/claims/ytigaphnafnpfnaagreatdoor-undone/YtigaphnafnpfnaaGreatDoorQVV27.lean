import Derived.Test.YtigaphnafnpfnaaGreatDoorQVV25
import Derived.Test.YtigaphnafnpfnaaGreatDoorQVV12
set_option linter.unusedVariables false
set_option linter.unusedSimpArgs false
namespace Go.Proofs.YtigaphnafnpfnaaGreatDoor
open Go.RowKit Go.Maps
theorem QT(bv bm bo H i s j:Nat)(p:Int)(V:aQ)(w:World)(R:dN w bv bm bo V)(hi:i<V.nb)(hs:s<2)(hj:j<(V.B i).n s)(hside:(V.om ((V.B i).h s j)).side=(s:Int))(hsep:¬dI bv bm bo V (H+1))(hp:uZ w H (V.bk i) ((V.B i).h s j) p) :
 Calls Tryz.prog 153 #[dn H,dn (H+1),dn (H+2)] w fun e w'=>e=.returned (.tuple #[])/\dN w' bv bm bo { V with B:=aN V.B i ((V.B i).jK V.om s j),om:=aN V.om ((V.B i).h s j) { V.om ((V.B i).h s j) with place:=p } }/\au (fun x=>x=V.bk i\/dC (V.B i) s x) w w' /\
  ∀x,dI bv bm bo { V with B:=aN V.B i ((V.B i).jK V.om s j),om:=aN V.om ((V.B i).h s j) { V.om ((V.B i).h s j) with place:=p } } x->dI bv bm bo V x\/w.heap.size<=x:=by
 have m:=R.qQ hi
 refine (EL (V.bk i) s j H p (V.B i) V.om (VL V) w m hs hj hp hside (fun e=>hsep (.inr (.inr (.inr (.inl ⟨i,hi,.inr ⟨s,hs,.inl e⟩⟩)))))).mono ?_
 rintro e w' ⟨rfl,m',k'⟩
 have hN:=Next.of (V:=V) R hi (B':=(V.B i).jK V.om s j) (dG:=aN V.om ((V.B i).h s j) { V.om ((V.B i).h s j) with place:=p }) (G':=V.lg) (bH:=V.lm) (fun V2=>V2={ V with B:=aN V.B i ((V.B i).jK V.om s j),om:=aN V.om ((V.B i).h s j) { V.om ((V.B i).h s j) with place:=p } }) m' (R.aO.jg k' (fun x h=>m.fZ (by
  rcases h with h|h
  ·exact .inl h
  ·exact .inr (.inr ⟨s,hs,h⟩)))) (fun x hx=>.inl hx) k' (fun x hx=>by
  rcases hx with h|h
  ·exact .inr (.inr (.inl h))
  ·exact .inr (.inr (.inr (.inl ⟨s,hs,h⟩)))) (fun a ha hne t ht l hl=>?_) (fun x=>?_) rfl (fun t ht x hx=>?_) rfl
 ·obtain⟨V2,R2,rfl,k2,f2⟩:=hN
  exact⟨rfl,R2,k',f2⟩
 ·rw[ah]
  intro e
  exact R.lZ i a hi ha (fun e=>hne e.symm) s t hs ht _ (.inr ⟨j,hj,rfl⟩) (.inr ⟨l,hl,e.symm⟩)
 ·by_cases e:x=(V.B i).h s j
  ·rw[e,aj]
  ·rw[ah _ _ e]
 ·refine .inl ⟨t,ht,?_⟩
  by_cases e:t=s
  ·subst e
   rcases hx with hx|⟨k,hk,rfl⟩
   ·exact .inl hx
   ·simp only[Bk.jK,Bk.leave,aj]at hk ⊢
    have hm:Mem ((V.B i).n t-1+1) ((V.B i).h t) (dZ (fG V.om) ((V.B i).h t) ((V.B i).n t-1) j k):=(nZ (lt:=fG V.om) ((V.B i).h t) j (by omega) _).1 ⟨k,by omega,rfl⟩
    rw[show (V.B i).n t-1+1=(V.B i).n t by omega]at hm
    exact .inr hm
  ·rcases hx with hx|⟨k,hk,rfl⟩
   ·exact .inl hx
   ·simp only[Bk.jK,Bk.leave,ah _ _ e]at hk ⊢;exact .inr ⟨k,hk,rfl⟩
theorem HS.fA{V:aQ}{b:Nat}{o:Ord}(h:HS V)(hr:∀i,i<V.nb->∀s,s<2->Mem ((V.B i).n s) ((V.B i).h s) b->o.side=(V.om b).side/\o.af=(V.om b).af):HS { V with om:=aN V.om b { o with place:=(V.om b).place } }:=by
 intro i hi s hs
 obtain⟨h1,h2,h3⟩:=h i hi s hs
 have key:∀k,k<(V.B i).n s->(aN V.om b { o with place:=(V.om b).place } ((V.B i).h s k)).side=(V.om ((V.B i).h s k)).side/\(aN V.om b { o with place:=(V.om b).place } ((V.B i).h s k)).af=(V.om ((V.B i).h s k)).af/\(aN V.om b { o with place:=(V.om b).place } ((V.B i).h s k)).place=(V.om ((V.B i).h s k)).place:=fun k hk=>by
  by_cases e:(V.B i).h s k=b
  ·have:=hr i hi s hs ⟨k,hk,e.symm⟩
   rw[e,aj]
   exact⟨this.1,this.2,rfl⟩
  ·rw[ah _ _ e];exact⟨rfl,rfl,rfl⟩
 refine⟨h1.kJ (fun a c ha hc=>?_),h2,fun k hk=>(key k hk).1.trans (h3 k hk)⟩
 unfold fG kU jQ
 rw[(key a ha).1,(key a ha).2.1,(key a ha).2.2,(key c hc).2.1,(key c hc).2.2]
theorem HS.push{V:aQ}{i s b g cap':Nat}(h:HS V)(hi:i<V.nb)(hs:s<2)(hside:(V.om b).side=(s:Int))(hout:∀k,k<(V.B i).n s->(V.B i).h s k≠b):HS { V with B:=aN V.B i ((V.B i).push V.om s b g cap') }:=by
 intro j hj t ht
 by_cases e:j=i
 ·subst e
  simp only[aj]
  obtain⟨h1,h2,h3⟩:=h j hj t ht
  by_cases e2:t=s
  ·subst e2
   simp only[Bk.push,aj]
   refine⟨EG (kL V.om (t:Int)) _ b hside (fun k hk=>h3 k hk) h1,?_,fun k hk=>?_⟩
   ·refine qf.up (fun a c ha hc hac=>?_) (by omega)
    by_cases ea:a=(V.B j).n t <;> by_cases ec:c=(V.B j).n t
    ·omega
    ·simp only[ea,ec,if_true,if_false]at hac;exact absurd hac.symm (hout c (by omega))
    ·simp only[ea,ec,if_true,if_false]at hac;exact absurd hac (hout a (by omega))
    ·simp only[ea,ec,if_false]at hac;exact h2 a c (by omega) (by omega) hac
   ·rcases (iP (lt:=fG V.om) ((V.B j).h t) b _).1 ⟨k,hk,rfl⟩ with⟨k',hk',e'⟩|e'
    ·rw[e'];exact h3 k' hk'
    ·rw[e'];exact hside
  ·simp only[Bk.push,ah _ _ e2]
   exact⟨h1,h2,h3⟩
 ·simp only[ah _ _ e]
  exact h j hj t ht
theorem HS.jK{V:aQ}{i s k:Nat}{p:Int}(h:HS V)(hi:i<V.nb)(hs:s<2)(hk:k<(V.B i).n s)(hout:∀j,j<V.nb->∀t,t<2->Mem ((V.B j).n t) ((V.B j).h t) ((V.B i).h s k)->j=i/\t=s):HS { V with B:=aN V.B i ((V.B i).jK V.om s k),om:=aN V.om ((V.B i).h s k) { V.om ((V.B i).h s k) with place:=p } }:=by
 have kQ:∀(n:Nat) (f:Nat->Nat) (t:Nat),dX (fG V.om) n f->(∀a,a<n->(V.om (f a)).side=(t:Int))->(∀a,a<n->f a≠(V.B i).h s k)->dX (fG (aN V.om ((V.B i).h s k) { V.om ((V.B i).h s k) with place:=p })) n f/\∀a,a<n->(aN V.om ((V.B i).h s k) { V.om ((V.B i).h s k) with place:=p } (f a)).side=(t:Int):=fun n f t h1 h2 h3 =>
  ⟨h1.kJ (fun a c ha hc=>by unfold fG kU jQ;rw[ah _ _ (h3 a ha),ah _ _ (h3 c hc)]),fun a ha=>by rw[ah _ _ (h3 a ha)];exact h2 a ha⟩
 intro j hj t ht
 obtain⟨h1,h2,h3⟩:=h j hj t ht
 by_cases e:j=i
 ·subst e
  simp only[aj]
  by_cases e2:t=s
  ·subst e2
   simp only[Bk.jK,Bk.leave,aj]
   obtain⟨n,hn⟩:∃n,(V.B j).n t=n+1:=⟨(V.B j).n t-1,by omega⟩
   rw[hn]at h1 h2 h3 hk ⊢
   simp only[Nat.add_sub_cancel]
   have hinj:=h2.oP (lt:=fG V.om) (i:=k) (n:=n) (by omega)
   have mm:∀a,a<n->Mem (n+1) ((V.B j).h t) (dZ (fG V.om) ((V.B j).h t) n k a)/\dZ (fG V.om) ((V.B j).h t) n k a≠(V.B j).h t k:=fun a ha=>(jB ((V.B j).h t) k (by omega) hinj _).1 ⟨a,ha,rfl⟩
   have r:=kQ n (dZ (fG V.om) ((V.B j).h t) n k) t (Dj (kL V.om (t:Int)) _ k (by omega) (fun a ha=>h3 a ha) h1) (fun a ha=>by
    obtain⟨⟨a',ha',e'⟩,_⟩:=mm a ha
    rw[e'];exact h3 a' ha') (fun a ha=>(mm a ha).2)
   exact⟨r.1,fun a c ha hc=>hinj a c (by omega) (by omega),r.2⟩
  ·simp only[Bk.jK,Bk.leave,ah _ _ e2]
   have r:=kQ _ ((V.B j).h t) t h1 h3 (fun a ha e'=>e2 (hout j hj t ht ⟨a,ha,e'.symm⟩).2)
   exact⟨r.1,h2,r.2⟩
 ·simp only[ah _ _ e]
  have r:=kQ _ ((V.B j).h t) t h1 h3 (fun a ha e'=>e (hout j hj t ht ⟨a,ha,e'.symm⟩).1)
  exact⟨r.1,h2,r.2⟩
def DK(V:aQ)(b:Nat):Prop:=∀j,j<V.nb->∀t,t<2->¬Mem ((V.B j).n t) ((V.B j).h t) b
structure VV(i s:Nat)(P:Nat->Prop)(pl:Int)(V1 V:aQ):Prop where
 nb:V.nb=V1.nb
 bk:∀j,j<V1.nb->V.bk j=V1.bk j
 sym:∀j,j<V1.nb->(V.B j).sym=(V1.B j).sym
 tK:∀j,j<V1.nb->(V.B j).places=if j=i then pl else (V1.B j).places
 mem:∀j,j<V1.nb->∀t,t<2->∀x,Mem ((V.B j).n t) ((V.B j).h t) x↔if j=i/\t=s then P x else Mem ((V1.B j).n t) ((V1.B j).h t) x
 aU:V.aU=V1.aU
 no:V.no=V1.no
 tr:V.lg.tr=V1.lg.tr
 day:V.lg.day=V1.lg.day
 tb:V.lm.tb=V1.lm.tb
def BX(bk:Nat->Nat)(d:dS)(T:List (Int × Tr))(V V1:aQ):Prop :=
 match d with
 | .fA b o=>T=[]/\VL V1 b/\o.id=(V1.om b).id/\(∀i,i<V1.nb->∀s,s<2->Mem ((V1.B i).n s) ((V1.B i).h s) b->o.side=(V1.om b).side/\o.af=(V1.om b).af)/\dK V { V1 with om:=aN V1.om b { o with place:=(V1.om b).place } }
 | .left b=>T=[]/\∃i s:Nat,i<V1.nb/\s<2/\bk b=V1.bk i/\VL V1 b/\(V1.om b).side=(s:Int)/\DK V1 b/\VV i s (fun x=>Mem ((V1.B i).n s) ((V1.B i).h s) x\/x=b) (V1.B i).places V1 V/\∀x,VL V1 x->V.om x=V1.om x
 | .eQ b p=>T=[]/\∃i s:Nat,i<V1.nb/\s<2/\bk b=V1.bk i/\VL V1 b/\Mem ((V1.B i).n s) ((V1.B i).h s) b/\VV i s (fun x=>Mem ((V1.B i).n s) ((V1.B i).h s) x/\x≠b) (wrap64 ((V1.B i).places-1)) V1 V/\∀x,VL V1 x->V.om x=aN V1.om b { V1.om b with place:=p } x
 | .entered id=>T=[]/\∃b,V1.aU id=some b/\(Lit.int .i64 id).wf=true/\0<V1.no/\DK V1 b/\dK V (V1.xU id)
 | .cO s=>T=[]/\∃n,V1.nb=n+1/\(V1.B n).sym=s/\s.size<=maxLen/\dK V V1.tY
 | .iH t=>T=[(2,t)]/\∃L x,V1.lg.tr=L++[x]/\t.num=(L.length:Int)+1/\dK V { V1 with lg:={ V1.lg with tr:=L },lm:={ V1.lm with tb:=V1.lm.tb.dropLast } }
 | .jw tb=>∃k x,T=[(1,x.t)]/\V1.lg.tr[k]?=some x/\V1.lm.tb[k]?=some tb/\dK V { V1 with lg:=V1.lg.oN k x.t }
 | .iE tb p=>∃k x,T=[(3,x.t.at p)]/\V1.lg.tr[k]?=some x/\V1.lm.tb[k]?=some tb/\dK V { V1 with lg:=V1.lg.jf k x p }
 | .closed=>T=[]/\dK V { V1 with lg:={ V1.lg with day:=wrap64 (V1.lg.day-1) } }
section
variable {V V1 Vc : aQ}
theorem dK.out(h:dK V1 Vc){b:Nat}(ho:DK V1 b):DK Vc b:=fun j hj t ht hm=>ho j (by rw[<-h.nb];exact hj) t ht ((h.mem j (by rw[<-h.nb];exact hj) t ht b).1 hm)
theorem Qr(h:dK V1 Vc){b:Nat}{o:Ord}(hb:VL V1 b)(hV:dK V { V1 with om:=aN V1.om b { o with place:=(V1.om b).place } }):dK V { Vc with om:=aN Vc.om b { o with place:=(Vc.om b).place } }:=by
 refine hV.trans ⟨h.nb,h.bk,h.sym,h.tK,h.mem,h.aU,h.no,fun x hx=>?_,h.tr,h.day,h.tb⟩
 by_cases e:x=b
 ·subst e;simp only[aj];rw[h.om x hb]
 ·simp only[ah _ _ e];exact h.om x hx
theorem Ns(h:dK V1 Vc){i s b g cap':Nat}(hi:i<V1.nb)(hs:s<2)(hd:VV i s (fun x=>Mem ((V1.B i).n s) ((V1.B i).h s) x\/x=b) (V1.B i).places V1 V)(jk:∀x,VL V1 x->V.om x=V1.om x) :
 dK V { Vc with B:=aN Vc.B i ((Vc.B i).push Vc.om s b g cap') }:=by
 have vl:∀x,VL V x↔VL V1 x:=fun x=>by unfold VL;rw[hd.aU]
 have e0:=hd.nb
 refine⟨h.nb.trans hd.nb.symm,fun j hj=>(h.bk j (by omega)).trans (hd.bk j (by omega)).symm,fun j hj=>?_,fun j hj=>?_,fun j hj t ht x=>?_,h.aU.trans hd.aU.symm,h.no.trans hd.no.symm,fun x hx=>?_,h.tr.trans hd.tr.symm,h.day.trans hd.day.symm,h.tb.trans hd.tb.symm⟩
 ·rw[hd.sym j (by omega),<-h.sym j (by omega)]
  by_cases e:j=i
  ·subst e;simp only[aj];rfl
  ·simp only[ah _ _ e]
 ·rw[hd.tK j (by omega)]
  by_cases e:j=i
  ·subst e;simp only[aj,if_true];exact h.tK j (by omega)
  ·simp only[ah _ _ e,if_neg e];exact h.tK j (by omega)
 ·rw[hd.mem j (by omega) t ht x]
  by_cases e:j=i
  ·subst e
   by_cases e2:t=s
   ·subst e2
    simp only[aj,Bk.push,and_self,if_true]
    rw[iP,h.mem j (by omega) t ht x]
   ·simp only[aj,Bk.push,ah _ _ e2,e2,and_false,if_false]
    exact h.mem j (by omega) t ht x
  ·simp only[ah _ _ e,e,false_and,if_false]
   exact h.mem j (by omega) t ht x
 ·have hx':=(vl x).1 hx
  rw[jk x hx'];exact h.om x hx'
theorem Nu(h:dK V1 Vc)(hsC:HS Vc){i s k b:Nat}{p:Int}(hi:i<V1.nb)(hs:s<2)(hk:k<(Vc.B i).n s)(hb:b=(Vc.B i).h s k)(hvb:VL V1 b)(hd:VV i s (fun x=>Mem ((V1.B i).n s) ((V1.B i).h s) x/\x≠b) (wrap64 ((V1.B i).places-1)) V1 V)(jk:∀x,VL V1 x->V.om x=aN V1.om b { V1.om b with place:=p } x) :
 dK V { Vc with B:=aN Vc.B i ((Vc.B i).jK Vc.om s k),om:=aN Vc.om ((Vc.B i).h s k) { Vc.om ((Vc.B i).h s k) with place:=p } }:=by
 have vl:∀x,VL V x↔VL V1 x:=fun x=>by unfold VL;rw[hd.aU]
 have e0:=hd.nb
 have e1:=h.nb
 rw[<-hb]
 refine⟨h.nb.trans hd.nb.symm,fun j hj=>(h.bk j (by omega)).trans (hd.bk j (by omega)).symm,fun j hj=>?_,fun j hj=>?_,fun j hj t ht x=>?_,h.aU.trans hd.aU.symm,h.no.trans hd.no.symm,fun x hx=>?_,h.tr.trans hd.tr.symm,h.day.trans hd.day.symm,h.tb.trans hd.tb.symm⟩
 ·rw[hd.sym j (by omega),<-h.sym j (by omega)]
  by_cases e:j=i
  ·subst e;simp only[aj];rfl
  ·simp only[ah _ _ e]
 ·rw[hd.tK j (by omega)]
  by_cases e:j=i
  ·subst e;simp only[aj,if_true,Bk.jK];rw[h.tK j (by omega)]
  ·simp only[ah _ _ e,if_neg e];exact h.tK j (by omega)
 ·rw[hd.mem j (by omega) t ht x]
  by_cases e:j=i
  ·subst e
   by_cases e2:t=s
   ·subst e2
    simp only[aj,Bk.jK,Bk.leave,and_self,if_true]
    obtain⟨n,hn⟩:∃n,(Vc.B j).n t=n+1:=⟨(Vc.B j).n t-1,by omega⟩
    have hm:=h.mem j (by omega) t ht x
    have hinj:=(hsC j (by omega) t ht).2.1
    rw[hn]at hm hinj hk ⊢
    simp only[Nat.add_sub_cancel]
    rw[jB _ k (by omega) (hinj.oP (by omega)),hm,hb]
   ·simp only[aj,Bk.jK,Bk.leave,ah _ _ e2,e2,and_false,if_false]
    exact h.mem j (by omega) t ht x
  ·simp only[ah _ _ e,e,false_and,if_false]
   exact h.mem j (by omega) t ht x
 ·have hx':=(vl x).1 hx
  rw[jk x hx']
  by_cases e:x=b
  ·subst e;simp only[aj];rw[h.om x hx']
  ·simp only[ah _ _ e];exact h.om x hx'
theorem JE(h:dK V1 Vc){id:Int}(hV:dK V (V1.xU id)):dK V (Vc.xU id) :=
 hV.trans ⟨h.nb,h.bk,h.sym,h.tK,h.mem,by show (fun i=>if i=id then none else Vc.aU i)=_;rw[h.aU];rfl,by show Vc.no-1=V1.no-1;rw[h.no],fun x hx=>h.om x (by
  obtain⟨j,hj⟩:=hx
  simp only[aQ.xU]at hj
  by_cases e:j=id
  ·rw[if_pos e]at hj;simp at hj
  ·rw[if_neg e]at hj;exact⟨j,hj⟩),h.tr,h.day,h.tb⟩
theorem JD(h:dK V1 Vc)(hV:dK V V1.tY):dK V Vc.tY:=by
 have e:=h.nb
 refine hV.trans ⟨by show Vc.nb-1=V1.nb-1;rw[h.nb],fun i hi=>h.bk i ?_,fun i hi=>h.sym i ?_,fun i hi=>h.tK i ?_,fun i hi=>h.mem i ?_,h.aU,h.no,h.om,h.tr,h.day,h.tb⟩ <;> (simp only[aQ.tY]at hi;omega)
theorem vI(h:dK V1 Vc){G1 Gc:Lg}{m1 mc:Lm}(h1:Gc.tr=G1.tr)(h2:Gc.day=G1.day)(h3:mc.tb=m1.tb)(hV:dK V { V1 with lg:=G1,lm:=m1 }):dK V { Vc with lg:=Gc,lm:=mc } :=
 hV.trans ⟨h.nb,h.bk,h.sym,h.tK,h.mem,h.aU,h.no,h.om,h1,h2,h3⟩
end
def yY(V:aQ)(cl:List Value):Prop:=∀j,j<V.nb->∀y,y<2->∀a,gG ((V.B j).sl y)=some a->∀c∈cl,∀x,wI c x->x≠a
def Rx(V:aQ)(i s b:Nat)(again:Bool):List dS :=
 if again=false\/eU (V.om b).kind=false\/(dF (V.B i) V.om (cZ (V.om b)) s).isSome=true then [.fA b (V.om b)] else (if 0<(V.om b).aK then [.left b] else [])++[.fA b (V.om b),.eQ b (V.om b).place]
def TbC(bv:Nat)(V:aQ)(i s t b:Nat)(again:Bool)(bk:Nat->Nat)(lw:Nat)(old:List (List Value))(dQ:List Nat)(V2:aQ)(W:World):Prop :=
 V2.bk=V.bk/\V2.lg.nt=V.lg.nt++Rx V i s b again/\(∀j y,¬(j=i/\y=t)->(V2.B j).sl y=(V.B j).sl y)/\∃Vr,gI W bv bk lw true old V2.lg.nt dQ V2.lm Vr/\yY V2 Vr
theorem abM{w:World}{V V2:aQ}{cl cl':List Value}(oH:∀j,j<V.nb->∀y,y<2->∀a,gG ((V.B j).sl y)=some a->a<w.heap.size)(hs:yY V cl)(hn:OL w cl cl')(hB:∀j y,(V2.B j).sl y=(V.B j).sl y)(hnb:V2.nb=V.nb:=by rfl):yY V2 cl':=by
 obtain⟨news,rfl,hnw⟩:=hn
 intro j hj y hy a ha c hc x hx
 rw[hB j y]at ha
 rw[hnb]at hj
 rcases List.mem_append.1 hc with h|h
 ·exact hs j hj y hy a ha c h x hx
 ·have:=hnw c h x hx
  have:=oH j hj y hy a ha
  omega
theorem aaw{w:World}{V V2:aQ}{cl cl':List Value}{i t g:Nat}(oH:∀j,j<V.nb->∀y,y<2->∀a,gG ((V.B j).sl y)=some a->a<w.heap.size)(hold:∀c∈cl,∀x,wI c x->x<w.heap.size)(hs:yY V cl)(hn:IV w cl g cl')(hg:gG ((V.B i).sl t)=some g\/w.heap.size<=g)(hB:∀j y,¬(j=i/\y=t)->(V2.B j).sl y=(V.B j).sl y)(hat:∀a,gG ((V2.B i).sl t)=some a->a=g)(hnb:V2.nb=V.nb:=by rfl):yY V2 cl':=by
 obtain⟨news,rfl,hnw⟩:=hn
 intro j hj y hy a ha c hc x hx
 rw[hnb]at hj
 by_cases e:j=i/\y=t
 ·obtain⟨rfl,rfl⟩:=e
  have:=hat a ha
  subst this
  rcases List.mem_append.1 hc with h|h
  ·rcases hg with h'|h'
   ·exact hs j hj y hy a h' c h x hx
   ·have:=hold c h x hx;omega
  ·exact (hnw c h x hx).2
 ·rw[hB j y e]at ha
  rcases List.mem_append.1 hc with h|h
  ·exact hs j hj y hy a ha c h x hx
  ·have:=(hnw c h x hx).1
   have:=oH j hj y hy a ha
   omega
theorem yL{V:aQ}{Q:Bk}{dG:Nat->Ord}{i t b g cap':Nat}(hQ:Q.sl=(V.B i).sl)(j y:Nat)(h:¬(j=i/\y=t)):(aN V.B i (Q.rest dG t b g cap') j).sl y=(V.B j).sl y:=by
 by_cases e:j=i
 ·subst e
  have ey:y≠t:=fun e=>h ⟨rfl,e⟩
  rw[aj]
  simp only[Bk.rest]
  rw[ah _ _ ey,hQ]
 ·rw[ah _ _ e]
theorem Lu{V:aQ}{Q:Bk}{dG:Nat->Ord}{i t b g cap' a:Nat}(h:gG ((aN V.B i (Q.rest dG t b g cap') i).sl t)=some a):a=g:=by
 rw[aj]at h
 simp only[Bk.rest,aj,gG,Option.some.injEq]at h
 exact h.symm
theorem iM.of{w w':World}{bv bm bo i:Nat}{V:aQ}(R:dN w bv bm bo V)(hi:i<V.nb){B':Bk}{dG:Nat->Ord}{S:Nat->Prop}(Q:aQ->World->Prop){bk:Nat->Nat}{lw:Nat}{tq:Bool}{old:List (List Value)}{dQ:List Nat}{P:List Value->Prop}{ds:List dS}(hds:ds.length<=3)(hn:uz bv bm bo V.lg V.lm bk lw tq old dQ P ds w w')
 (hm:Mk w' (V.bk i) B' dG (fun x=>∃id,V.aU id=some x)) (k:au (fun x=>S x\/gy V.lm.av V.lm.ac x) w w') (hS:∀x,S x->x=V.bk i\/(∃s,s<2/\dC (V.B i) s x)\/((∃id,V.aU id=some x)/\nM V i x))
 (jk:∀x,nM V i x\/dG x=V.om x) (hid:∀x,(dG x).id=(V.om x).id) (dM:B'.sym=(V.B i).sym)
 (hsd:∀s,s<2->∀x,dC B' s x->(∃t,t<2/\dC (V.B i) t x)\/((∃id,V.aU id=some x)/\nM V i x)\/w.heap.size<=x) (hQ:∀bH cl',gI w' bv bk lw tq old (V.lg.aV ds).nt dQ bH cl'->P cl'->Q { V.turn i B' dG with lg:=V.lg.aV ds,lm:=bH } w'):iM bv bm bo V Q w w':=by
 have wR:∀s,s<2->∀x,dC (V.B i) s x->nM V i x:=fun s hs x hx j hj hne t ht h=>R.lZ i j hi hj (fun e=>hne e.symm) s t hs ht x hx h
 obtain⟨bH,cl',hl,hF,PN,hP⟩:=hn
 refine⟨{ V.turn i B' dG with lg:=V.lg.aV ds,lm:=bH },R.aaF hi hm hl (k.mono (fun x h=>h.imp_right (fun h=>.inr (.inr (.inr h))))) hS (fun j hj hne s hs l hl=>?_) hid dM (fun s hs x hx=>?_),hQ _ _ PN hP,⟨rfl,rfl,rfl,rfl,(by simp only[Lg.aV,List.length_append];omega),rfl⟩,fun b c t hb ht=>?_,rfl,k.mono (fun x hx=>?_),fun x hx=>?_⟩
 ·rcases jk ((V.B j).h s l) with h|h
  ·exact absurd (.inr ⟨l,hl,rfl⟩) (h j hj hne s hs)
  ·exact h
 ·rcases hsd s hs x hx with⟨t,ht,h⟩|⟨_,h⟩|h
  ·exact .inl (wR t ht x h)
  ·exact .inl h
  ·exact .inr h
 ·refine k.aB hb ?_
  rintro (h|h)
  ·obtain⟨c',t',hc,ht'⟩:=(R.qQ hi).fZ (b:=b) (by
    rcases hS b h with h|h|⟨h,_⟩
    ·exact .inl h
    ·exact .inr (.inr h)
    ·exact .inr (.inl h))
   exact az.ne hb hc (by rcases ht with rfl|rfl|rfl <;> rcases ht' with rfl|rfl|rfl <;> decide) rfl
  ·obtain⟨c',t',hc,ht'⟩:=R.aO.aO.act.fZ h
   exact az.ne hb hc (by rcases ht with rfl|rfl|rfl <;> rcases ht' with rfl|rfl <;> decide) rfl
 ·rcases hx with hx|hx
  ·rcases hS x hx with h|⟨s,hs,h⟩|⟨h,_⟩
   ·exact .inr (.inr (.inr (.inl ⟨i,hi,.inl h⟩)))
   ·exact .inr (.inr (.inr (.inl ⟨i,hi,.inr ⟨s,hs,h⟩⟩)))
   ·exact .inr (.inr (.inr (.inr (.inl h))))
  ·exact .inr (.inr (.inr (.inr (.inr (.inr (.inr (.inr hx)))))))
 ·rcases hx with h|h|h|⟨j,hj,h⟩|h|h
  ·exact .inl (.inl h)
  ·exact .inl (.inr (.inl h))
  ·exact .inl (.inr (.inr (.inl h)))
  ·rcases h with h|⟨s,hs,h⟩
   ·exact .inl (.inr (.inr (.inr (.inl ⟨j,hj,.inl h⟩))))
   ·by_cases e:j=i
    ·subst e
     simp only[aQ.turn,aj]at h
     rcases hsd s hs x h with⟨t,ht,h⟩|⟨h,_⟩|h
     ·exact .inl (.inr (.inr (.inr (.inl ⟨j,hj,.inr ⟨t,ht,h⟩⟩))))
     ·exact .inl (.inr (.inr (.inr (.inr (.inl h)))))
     ·exact .inr h
    ·simp only[aQ.turn,ah _ _ e]at h
     exact .inl (.inr (.inr (.inr (.inl ⟨j,hj,.inr ⟨s,hs,h⟩⟩))))
  ·exact .inl (.inr (.inr (.inr (.inr (.inl h)))))
  ·exact (hF x h).imp_left (fun h=>.inr (.inr (.inr (.inr (.inr h)))))
theorem NU(bv bm bo b i s t:Nat)(V:aQ)(M id q:Int)(again:Bool)(w:World)(bk:Nat->Nat)(lw:Nat)(old:List (List Value))(dQ:List Nat)(cl:List Value)(hC:gI w bv bk lw true old V.lg.nt dQ V.lm cl)(hsep:yY V cl)(Sz:lw<=w.heap.size)(hbk:bk b=V.bk i)(qH:∀g,gG ((V.B i).sl t)=some g->g<lw)(R:dN w bv bm bo V)(g:GW V M)(hM:M<=1000000000000000)(hcn:(V.B i).n t<1000)(hid:V.aU id=some b)(hi:i<V.nb)(hs:s<2)(hst:t=1-s)(hsb:(V.om b).sym=(V.B i).sym)(hside:(V.om b).side=(t:Int))(hsz:(V.B i).sym.size<=100)(hq:1<=q)(hq2:q<=(V.om b).filled)
 (hna:0<V.lg.na) (gZ:V.lg.na<=3000000) (hnt:V.lg.nt.length+3<1000000000) :
 Calls Tryz.prog 75 #[.pointer (some ⟨bv,0,none⟩),.pointer (some ⟨b,0,none⟩),.int .i64 q,.bool again] w fun e w'=>e=.returned (.tuple #[])/\iM bv bm bo V (fun V2 W=>WI V M i s b q again V2/\TbC bv V i s t b again bk lw old dQ V2 W) w w':=by
 have ug:VL V b:=⟨id,hid⟩
 have t2:t<2:=by omega
 have hi':i<V.nb:=hi
 have Xm:(V.om b).side=1-(s:Int):=by rw[hside];omega
 have dM:(V.om b).sym=(V.B i).sym:=hsb
 have hlen:(V.B i).sym.size<=maxLen:=by unfold maxLen;omega
 have hap:=g.apart R ug hsb hi
 have qb:=g.q b ug
 have oH:∀j,j<V.nb->∀y,y<2->∀a,gG ((V.B j).sl y)=some a->a<w.heap.size:=fun j hj y hy a ha=>((R.aW j hj).side y hy).lt ha
 have hold:∀c∈cl,∀x,wI c x->x<w.heap.size:=fun c hc x hx=>(hC.cap hc hx).2
 by_cases hc:again=false\/eU (V.om b).kind=false\/(dF (V.B i) V.om (cZ (V.om b)) s).isSome=true
 ·refine (wC bv bm bo i b s V id q again w bk lw true old dQ cl hC Sz hbk R hi' hid dM hlen hs Xm hc hna gZ hnt).mono ?_
  rintro e w' ⟨rfl,hm,hnd,k⟩
  obtain⟨q1,q2⟩:=qb.eY hM (by omega) hq2
  have kQ:∀x,x≠b->aN V.om b (eY (V.om b) q) x=V.om x:=fun x h=>ah _ _ h
  refine⟨rfl,iM.of (S:=fun x=>x=b) R hi' _ (by simp) hnd hm k (fun x hx=>.inr (.inr (by subst hx;exact⟨⟨id,hid⟩,hap⟩))) (fun x=>?_) (fun x=>?_) rfl (fun s hs x hx=>.inl ⟨s,hs,hx⟩) (fun bH cl' PN hP=>⟨?_,rfl,by rw[Rx,if_pos hc];rfl,fun j y _=>wG (fun B=>B.sl y) rfl j,cl',PN,abM oH hsep hP (fun j y=>wG (fun B=>B.sl y) rfl j)⟩)⟩
  ·by_cases e:x=b
   ·exact .inl (e▸hap)
   ·exact .inr (kQ x e)
  ·by_cases e:x=b
   ·rw[e,aj];rfl
   ·rw[kQ x e]
  ·refine⟨KQ g hi ug hsb kQ (by rw[aj];rfl) (by rw[aj];rfl) (by rw[aj];exact q1) rfl ((g.gb i hi).kJ (fun x=>?_) (fun x _ _ _=>?_)),rfl,rfl,rfl,wG (·.sym) rfl,.inl ⟨hc,rfl,wG (·.places) rfl⟩⟩
   ·by_cases e:x=b
    ·rw[e,aj];exact Iff.rfl
    ·rw[kQ x e]
   ·by_cases e:x=b
    ·rw[e,aj];exact⟨rfl,rfl,rfl⟩
    ·rw[kQ x e];exact⟨rfl,rfl,rfl⟩
 ·have ha:again=true:=by
   cases again
   ·exact absurd (.inl rfl) hc
   ·rfl
  have hr:eU (V.om b).kind=true:=by
   cases h:eU (V.om b).kind
   ·exact absurd (.inr (.inl h)) hc
   ·rfl
  have hf:dF (V.B i) V.om (cZ (V.om b)) s=none:=by
   cases h:dF (V.B i) V.om (cZ (V.om b)) s with
   | none=>rfl
   | some y=>exact absurd (.inr (.inr (by rw[h];rfl))) hc
  subst ha
  have hk5:(V.om b).kind≠5:=fun e=>by rw[e]at hr;simp[eU]at hr
  have bad:=DU (g.gb i hi) hs hst hk5 hside hf
  have kQ:∀x,x≠b->bY V i b q x=V.om x:=fun x h=>qW V i b q h
  obtain⟨q1,q2,q3⟩:=qb.fF hM (by omega) hq2 (wrap64 ((V.B i).places+1))
  have jk:∀x,nM V i x\/bY V i b q x=V.om x:=fun x=>by
   by_cases e:x=b
   ·exact .inl (e▸hap)
   ·exact .inr (kQ x e)
  have hidx:∀x,(bY V i b q x).id=(V.om x).id:=fun x=>by
   by_cases e:x=b
   ·rw[e,dU];rfl
   ·rw[kQ x e]
  have fin:∀(B':Bk) (G':Lg) (bH:Lm),B'.sym=(V.B i).sym->B'.places=wrap64 ((V.B i).places+1)->GB B' (bY V i b q) (V.B i).sym (VL V)->WI V M i s b q true { V.turn i B' (bY V i b q) with lg:=G',lm:=bH }:=fun B' G' bH hb1 hb2 gb =>
   ⟨KQ g hi ug hsb kQ (by rw[dU];rfl) (by rw[dU];rfl) (by rw[dU];exact q1) hb1 gb,rfl,rfl,rfl,wG (·.sym) hb1,.inr ⟨rfl,hr,hf,rfl,fun j=>by
    show (aN V.B i B' j).places=_
    by_cases e:j=i
    ·rw[e,aj,if_pos rfl];exact hb2
    ·rw[ah _ _ e,if_neg e]⟩⟩
  have p1:(bY V i b q b).sym=(V.B i).sym:=by rw[dU];exact hsb
  have p2:(bY V i b q b).side=(t:Int):=by rw[dU];exact hside
  have p3:0<(bY V i b q b).aK:=by
   rw[dU]
   show 0<(fF (V.om b) q).aK
   rw[q3];have:=qb.o0;omega
  have p4:(bY V i b q b).af=(V.om b).af:=by rw[dU];rfl
  have uw:∀x,x<2->x=s\/x=t:=by omega
  by_cases h0:0<(V.om b).aK
  ·obtain⟨k,hk,hkb⟩:Mem ((V.B i).n t) ((V.B i).h t) b:=((g.gb i hi).mem t t2 b).2 ⟨ug,hsb,hside,h0⟩
   refine (yD bv bm bo i b s t k V id q w bk lw true old dQ cl hC Sz hbk qH R hi' hid dM hlen hs hst hside hr hf h0 hk hkb.symm (by omega) hna gZ hnt).mono ?_
   rintro e w' ⟨rfl,g',cap',hm,hnd,kc,hg'⟩
   have gl:GB ((V.B i).leave V.om t k) V.om (V.B i).sym (fun x=>VL V x/\x≠b):=by
    have:=uK (g.gb i hi) t2 hk
    rw[<-hkb]at this
    exact this
   have eN:((V.B i).leave V.om t k).n s=(V.B i).n s:=by simp only[Bk.leave];rw[ah _ _ (by omega)]
   have eH:((V.B i).leave V.om t k).h s=(V.B i).h s:=by simp only[Bk.leave];rw[ah _ _ (by omega)]
   refine⟨rfl,iM.of (S:=fun x=>x=V.bk i\/x=b\/dC (V.B i) t x) R hi' _ (by simp) hnd hm kc (fun x hx=>?_) jk hidx rfl (fun y hy x hx=>?_) (fun bH cl' PN hP=>⟨fin _ _ bH rfl rfl (Dl hs hst gl ug kQ p1 p2 p3 (fun y hy=>?_)),rfl,by rw[Rx,if_neg hc,if_pos h0];rfl,yL (V:=V) (Q:=(V.B i).leave V.om t k) rfl,cl',PN,aaw oH hold hsep hP hg' (yL (V:=V) (Q:=(V.B i).leave V.om t k) rfl) (fun a ha=>Lu ha)⟩)⟩
   ·rcases hx with h|h|h
    ·exact .inl h
    ·exact .inr (.inr (by subst h;exact⟨⟨id,hid⟩,hap⟩))
    ·exact .inr (.inl ⟨t,t2,h⟩)
   ·rcases LC hx with h|h|h
    ·exact .inl ⟨y,hy,Gs ((g.gb i hi).inj t t2) hk h⟩
    ·exact .inr (.inl (by subst h;exact⟨⟨id,hid⟩,hap⟩))
    ·rcases hg' with hg|hg
     ·exact .inl ⟨t,t2,.inl (by rw[hg,h])⟩
     ·exact .inr (.inr (by omega))
   ·rw[eN,eH]at hy
    rw[p4];exact bad y hy
  ·have hno:∀x,x<2->∀k,k<(V.B i).n x->(V.B i).h x k≠b:=fun x hx k hk e=>by
    have:=(((g.gb i hi).mem x hx _).1 ⟨k,hk,rfl⟩).2.2.2
    rw[e]at this
    exact h0 this
   refine (Bh bv bm bo i b s t V id q w bk lw true old dQ cl hC Sz hbk qH R hi' hid dM hlen hs hst hside hr hf h0 hno (by omega) hna gZ hnt).mono ?_
   rintro e w' ⟨rfl,g',cap',hm,hnd,kc,hg'⟩
   have gl:GB (V.B i) V.om (V.B i).sym (fun x=>VL V x/\x≠b):=(g.gb i hi).kJ (fun x=>by
    constructor
    ·rintro⟨⟨a,_⟩,c⟩;exact⟨a,c⟩
    ·rintro⟨a,c⟩;exact⟨⟨a,fun e=>h0 (e▸c.2)⟩,c⟩) (fun x _ _ _=>⟨rfl,rfl,rfl⟩)
   refine⟨rfl,iM.of (S:=fun x=>x=V.bk i\/x=b\/dC (V.B i) t x) R hi' _ (by simp) hnd hm kc (fun x hx=>?_) jk hidx rfl (fun y hy x hx=>?_) (fun bH cl' PN hP=>⟨fin _ _ bH rfl rfl (Dl hs hst gl ug kQ p1 p2 p3 (fun y hy=>?_)),rfl,by rw[Rx,if_neg hc,if_neg h0];rfl,yL (V:=V) (Q:=V.B i) rfl,cl',PN,aaw oH hold hsep hP hg' (yL (V:=V) (Q:=V.B i) rfl) (fun a ha=>Lu ha)⟩)⟩
   ·rcases hx with h|h|h
    ·exact .inl h
    ·exact .inr (.inr (by subst h;exact⟨⟨id,hid⟩,hap⟩))
    ·exact .inr (.inl ⟨t,t2,h⟩)
   ·rcases LC hx with h|h|h
    ·exact .inl ⟨y,hy,h⟩
    ·exact .inr (.inl (by subst h;exact⟨⟨id,hid⟩,hap⟩))
    ·rcases hg' with hg|hg
     ·exact .inl ⟨t,t2,.inl (by rw[hg,h])⟩
     ·exact .inr (.inr (by omega))
   ·rw[p4];exact bad y hy
attribute [local go_sem ↓] Go.wp_at_zero Go.wp_at_succ
def ExC(bv:Nat)(V:aQ)(M:Int)(b:Nat)(bk:Nat->Nat)(lw:Nat)(old:List (List Value))(dQ:List Nat)(V2:aQ)(W:World):Prop :=
 ExV V M b V2/\V2.lg.nt=V.lg.nt++[.left b,.fA b (V.om b)]/\(∀j y,(V2.B j).sl y=(V.B j).sl y)/\(∀j,V2.bk j=V.bk j)/\∃Vr,gI W bv bk lw true old V2.lg.nt dQ V2.lm Vr
theorem BO(bv bm bo i b s k:Nat)(V:aQ)(M id:Int)(w:World)(bk:Nat->Nat)(lw:Nat)(old:List (List Value))(dQ:List Nat)(cl:List Value)(hC:gI w bv bk lw true old V.lg.nt dQ V.lm cl)(Sz:lw<=w.heap.size)(hbk:bk b=V.bk i)(qH:∀g,gG ((V.B i).sl s)=some g->g<lw)(R:dN w bv bm bo V)(g:GW V M)(hM:M<=1000000000000000)(hi:i<V.nb)(hs:s<2)(hk:k<(V.B i).n s)(hkb:(V.B i).h s k=b)(hid:V.aU id=some b)(hna:0<V.lg.na)(gZ:V.lg.na<=3000000)(hnt:V.lg.nt.length+3<1000000000) :
 ∀q w2 w3 sH cp2 nC cp3,Mk w2 (V.bk i) ((V.B i).leave V.om s k) V.om (fun x=>∃id,V.aU id=some x)->au (fun x=>x=V.bk i\/dC (V.B i) s x) (w.drewN q) w2->Mk w3 (V.bk i) ((V.B i).leave V.om s k) (aN V.om b (gm (V.om b))) (fun x=>∃id,V.aU id=some x)->au (fun x=>x=b) w2 w3->iZ w2 (V.bk i) b (w.drewN q).heap.size sH cp2->jr w3 b (V.om b) w2.heap.size nC cp3 ->
  Calls Tryz.prog 53 #[.pointer (some ⟨bv,0,none⟩),.slice (some ⟨w3.heap.size,0,none⟩) 2 2] (w3.alloc (.cells #[.func sH #[] cp2,.func nC #[] cp3] 1)) fun e w'=>e=.returned (.tuple #[]) /\
   iM bv bm bo V (ExC bv V M b bk lw old dQ) w w'/\au (fun x=>(x=V.bk i\/dC (V.B i) s x)\/gy V.lm.av V.lm.ac x) w w'/\Mk w' (V.bk i) ((V.B i).leave V.om s k) (aN V.om b (gm (V.om b))) (fun x=>∃id,V.aU id=some x):=by
 intro q w2 w3 sH cp2 nC cp3 m2 k2 m3 k3 f2 f3
 have hi':i<V.nb:=hi
 have hm:=((g.gb i hi).mem s hs _).1 ⟨k,hk,rfl⟩
 rw[hkb]at hm
 have hap:=g.apart R hm.1 hm.2.1 hi
 have kq:au aP w (w.drewN q):=(au.refl aP w).drewN q
 have h2:=(R.aO.aH kq).jg k2 (fun x h=>((R.aH kq).qQ hi').fZ (by
  rcases h with h|h
  ·exact .inl h
  ·exact .inr (.inr ⟨s,hs,h⟩)))
 have h3:=h2.jg k3 (fun x h=>by subst h;exact m2.fZ (.inr (.inl ⟨id,hid⟩)))
 have mq:=(R.aH kq).qQ hi'
 have o2:l9 (w.drewN q) lw true (fun x=>x=V.bk i\/dC (V.B i) s x):=rH mq hs qH
 have o3:l9 w2 lw true (fun x=>x=b):=jl m2 ⟨id,hid⟩
 have c3:=((hC.aH kq).aC k2 o2).aC k3 o3
 have i2:bJ w2 bv bk lw (.left b) (.func sH #[] cp2):=⟨_,_,rfl,by
  show iZ w2 (bk b) b lw sH cp2
  rw[hbk]
  exact f2.mono (by have:=kq.size;omega)⟩
 have Z7:=i2.aC (q:=true) (fun _=>rfl) k3 o3
 have i3:bJ w3 bv bk lw (.fA b (V.om b)) (.func nC #[] cp3):=⟨_,_,rfl,f3.mono (by have:=kq.size;have:=k2.size;omega)⟩
 refine (uN bv bm bo V.lg V.lm (.left b) (.fA b (V.om b)) sH nC cp2 cp3 w3 bk lw true old dQ cl h3 c3 (fun _=>rfl) (fun _=>rfl) Z7 i3 hna gZ (by omega)).mono ?_
 rintro e w' ⟨rfl,bH,a1,a2,a3,a4,a5⟩
 have sdb:dC (V.B i) s b:=.inr ⟨k,hk,hkb.symm⟩
 have k23:au (fun x=>x=V.bk i\/dC (V.B i) s x) w w3:=(kq.bI.trans k2).trans (k3.mono (fun x h=>.inr (by rw[h];exact sdb)))
 have kc:au (fun x=>(x=V.bk i\/dC (V.B i) s x)\/gy V.lm.av V.lm.ac x) w w':=(k23.mono (fun x h=>.inl h)).trans (a3.mono (fun x h=>.inr h))
 have hmk:=m3.jc h3 (a3.mono (fun x h=>.inr (.inr (.inr (.inr h)))))
 have kQ:∀x,x≠b->aN V.om b (gm (V.om b)) x=V.om x:=fun x h=>ah _ _ h
 refine⟨rfl,iM.of (P:=fun _=>True) (S:=fun x=>x=V.bk i\/dC (V.B i) s x) R hi' _ (ds:=[.left b,.fA b (V.om b)]) (by simp) ⟨bH,_,a1,fun x hx=>(a2 x hx).imp_right (fun h=>Nat.le_trans k23.size h),a5,trivial⟩ hmk kc (fun x hx=>?_) (fun x=>?_) (fun x=>?_) rfl (fun y hy x hx=>.inl ⟨y,hy,Gs ((g.gb i hi).inj s hs) hk hx⟩) (fun ab4 aa2 PN _=>⟨Zk g hM hi hs hk hkb,rfl,fun j y=>wG (V:=V) (i:=i) (B':=(V.B i).leave V.om s k) (fun B=>B.sl y) rfl j,fun _=>rfl,aa2,PN⟩),kc,hmk⟩
 ·rcases hx with h|h
  ·exact .inl h
  ·exact .inr (.inl ⟨s,hs,h⟩)
 ·by_cases e:x=b
  ·exact .inl (e▸hap)
  ·exact .inr (kQ x e)
 ·by_cases e:x=b
  ·rw[e,aj];rfl
  ·rw[kQ x e]
structure Oz(bv bm bo n:Nat)(M:Int)(V:aQ)(r:Nat)(D:DataW Unit)(f:Lit->Option Nat)(bk:Nat->Nat)(w wr:World)(cnt:Nat)(V':aQ)(left:Lit->Bool)(cur:Option Int)(ex:List Nat):Prop where
 nt:V'.lg.nt=ex.flatMap (fun x=>[.left x,.fA x (V.om x)])
 exn:ex.Nodup
 Yg:∀id x,V.aU id=some x->(x∈ex↔(left (.int .i64 id)=false/\cur≠some id/\(V.om x).kind=1/\0<(V.om x).aK))
 sl:∀j y,(V'.B j).sl y=(V.B j).sl y
 Vl:∀j,V'.bk j=V.bk j
 cu:∃cl,gI wr bv bk w.heap.size true (V.lm.ac.map Prod.snd) V'.lg.nt V.lm.tb V'.lm cl
 exo:∀x∈ex,VL V x
 jE:dN wr bv bm bo V'
 gw:GW V' M
 aU:V'.aU=V.aU
 no:V'.no=V.no
 nb:V'.nb=V.nb
 kE:∀j,(V'.B j).sym=(V.B j).sym
 OY:∀j,(V'.B j).places=(V.B j).places
 dH:∀x,(V'.om x).sym=(V.om x).sym/\(V'.om x).side=(V.om x).side/\(V'.om x).id=(V.om x).id/\(V'.om x).filled=(V.om x).filled
 om:∀id x,V.aU id=some x->V'.om x=if left (.int .i64 id)=true\/cur=some id then V.om x else BM (V.om x)
 lg:WB V.lg.begun V'.lg (3 * (n-cnt))
 SH:wr.ranges Tryz.prog 3 je bo r n D left cnt
 le:∀kl,left kl=true->(f kl).isSome=true
 mD:∀y,dI bv bm bo V' y->dI bv bm bo V y\/w.heap.size<=y
 cn:cnt<=n
 box:az wr w.heap.size #[.pointer (some ⟨bv,0,none⟩)] 35
 oJ:au (dI bv bm bo V) w wr
 rr:w.heap.size<=r
theorem Oz.step{bv bm bo n:Nat}{M:Int}{V:aQ}{r:Nat}{D:DataW Unit}{f:Lit->Option Nat}{bk:Nat->Nat}{w wr W:World}{ex:List Nat}{cnt cnt':Nat}{V':aQ}{left:Lit->Bool}{id:Int}(h:Oz bv bm bo n M V r D f bk w wr cnt V' left none ex)(hid:left (.int .i64 id)=true)(hr:W.ranges Tryz.prog 3 je bo r n D (fun z=>left z && !z.sameKey (.int .i64 id)) cnt')(hlt:cnt'<cnt)(hg:wr.grownBy W (some r)) :
 Oz bv bm bo n M V r D f bk w W cnt' V' (fun z=>left z && !z.sameKey (.int .i64 id)) (some id) ex:=by
 have kr:au (fun y=>y=r) wr W:=(au.refl _ wr).grown hg (fun k e=>.inl (by simpa using e.symm))
 have nf:¬dI bv bm bo V' r:=by
  obtain⟨es,clock,since,seen,c0,_,_,_,_,hh,_⟩:=h.SH
  exact h.jE.MN hh
 have bx:w.heap.size≠r:=fun e=>(sS h.SH h.box).2 e.symm
 obtain⟨l1,l2,l3,l4,l5⟩:=h.lg
 have:=h.cn
 have abJ:l9 wr w.heap.size true (fun y=>y=r):=fun b hb=>.inr (fun c t hc _=>(sS h.SH hc).2 hb.symm)
 obtain⟨cl,hcl⟩:=h.cu
 refine⟨h.nt,h.exn,fun uj x hx=>?_,h.sl,h.Vl,⟨cl,hcl.aC kr abJ⟩,h.exo,h.jE.aac kr nf,h.gw,h.aU,h.no,h.nb,h.kE,h.OY,h.dH,fun uj x hx=>?_,⟨l1,l2,l3,l4,by omega⟩,hr,fun kl e=>h.le kl (by simp at e;exact e.1),h.mD,by omega,kr.aB h.box bx,h.oJ.from (kr.mono (fun y e=>.inr (by rw[e];exact h.rr))),h.rr⟩
 ·rw[h.Yg uj x hx]
  by_cases e:uj=id
  ·subst e
   simp[hid]
  ·have e1:(Lit.int .i64 uj).sameKey (.int .i64 id)=false:=by simp[Lit.sameKey,e]
   have e2:¬(some id=some uj):=fun h=>e (Option.some.inj h).symm
   simp[e1,e2]
 rw[h.om uj x hx]
 by_cases e:uj=id
 ·subst e
  rw[if_pos (.inl hid),if_pos (.inr rfl)]
 ·have e1:(Lit.int .i64 uj).sameKey (.int .i64 id)=false:=by simp[Lit.sameKey,e]
  have e2:¬(some id=some uj):=fun h=>e (Option.some.inj h).symm
  simp only[e1,Bool.not_false,Bool.and_true,e2,or_false,reduceCtorEq]
theorem Oz.skip{bv bm bo n:Nat}{M:Int}{V:aQ}{r:Nat}{D:DataW Unit}{f:Lit->Option Nat}{bk:Nat->Nat}{w wr:World}{ex:List Nat}{cnt:Nat}{V':aQ}{left:Lit->Bool}{id:Int}{x:Nat}(h:Oz bv bm bo n M V r D f bk w wr cnt V' left (some id) ex)(hx:V.aU id=some x)(hk:¬((V.om x).kind=1/\0<(V.om x).aK)):Oz bv bm bo n M V r D f bk w wr cnt V' left none ex:=by
 refine { h with om:=fun uj x2 hx2=>?_,Yg:=fun uj x2 hx2=>?_ }
 ·rw[h.Yg uj x2 hx2]
  by_cases e:uj=id
  ·subst e
   rw[hx]at hx2
   obtain rfl:=Option.some.inj hx2
   constructor
   ·rintro⟨_,h2,_⟩;exact absurd rfl h2
   ·rintro⟨_,_,h3⟩;exact absurd h3 hk
  ·have e2:¬(some id=some uj):=fun h=>e (Option.some.inj h).symm
   simp[e2]
 rw[h.om uj x2 hx2]
 by_cases e:uj=id
 ·subst e
  rw[hx]at hx2
  obtain rfl:=Option.some.inj hx2
  rw[if_pos (.inr rfl)]
  split
  ·rfl
  ·unfold BM;rw[if_neg hk]
 ·have e2:¬(some id=some uj):=fun h=>e (Option.some.inj h).symm
  simp only[e2,or_false,reduceCtorEq]
theorem Oz.turn{bv bm bo n:Nat}{M:Int}{V:aQ}{r:Nat}{D:DataW Unit}{f:Lit->Option Nat}{bk:Nat->Nat}{w wr W:World}{ex:List Nat}{cnt:Nat}{V':aQ}{left:Lit->Bool}{i s x:Nat}{id:Int}(h:Oz bv bm bo n M V r D f bk w wr cnt V' left (some id) ex)(hx:V.aU id=some x)(hk:(V.om x).kind=1/\0<(V.om x).aK)(hlf:left (.int .i64 id)=false)(hlt:cnt<n)(hnt:V'.lg.nt.length<=V.lg.begun.nt.length+3 * (n-(cnt+1)))(hi:i<V'.nb)(hs:s<2)
 (ht:iM bv bm bo V' (ExC bv V' M x bk w.heap.size (V.lm.ac.map Prod.snd) V.lm.tb) wr W) (kc:au (fun x=>(x=V'.bk i\/dC (V'.B i) s x)\/gy V'.lm.av V'.lm.ac x) wr W) :
 ∃V'',Oz bv bm bo n M V r D f bk w W cnt V'' left none (ex++[x]):=by
 obtain⟨V2,R2,⟨Ci,hnt,hsl,hbE,PN⟩,⟨l1,l2,l3,l4,l5⟩,hb,_,k2,hF⟩:=ht
 have hi':i<V'.nb:=hi
 have fZ:∀x,((x=V'.bk i\/dC (V'.B i) s x)\/gy V'.lm.av V'.lm.ac x)->∃c t,az wr x c t:=by
  rintro x ((e|e)|e)
  ·obtain⟨c,t,hc,_⟩:=(h.jE.qQ hi').fZ (.inl e);exact⟨c,t,hc⟩
  ·obtain⟨c,t,hc,_⟩:=(h.jE.qQ hi').fZ (.inr (.inr ⟨s,hs,e⟩));exact⟨c,t,hc⟩
  ·obtain⟨c,t,hc,_⟩:=h.jE.aO.aO.act.fZ e;exact⟨c,t,hc⟩
 have n1:¬((bo=V'.bk i\/dC (V'.B i) s bo)\/gy V'.lm.av V'.lm.ac bo):=fun e=>by
  obtain⟨c,t,hc⟩:=fZ bo e
  exact (sS h.SH hc).1 rfl
 have n2:¬((r=V'.bk i\/dC (V'.B i) s r)\/gy V'.lm.av V'.lm.ac r):=fun e=>by
  obtain⟨c,t,hc⟩:=fZ r e
  exact (sS h.SH hc).2 rfl
 obtain⟨m1,m2,m3,m4,m5⟩:=h.lg
 have sK:∀uj,V.aU uj=some x->uj=id:=fun uj h2=>by
  have a1:=(h.jE.bg uj x (by rw[h.aU];exact h2)).1
  have a2:=(h.jE.bg id x (by rw[h.aU];exact hx)).1
  rw[<-a1,a2]
 have omx:V'.om x=V.om x:=by rw[h.om id x hx,if_pos (.inr rfl)]
 have nx:x∉ex:=fun hm=>((h.Yg id x hx).1 hm).2.1 rfl
 refine⟨V2,by rw[hnt,h.nt,List.flatMap_append,omx];simp,by rw[List.nodup_append];exact⟨h.exn,by simp,fun a ha b hb e=>by rw[List.mem_singleton]at hb;subst hb;subst e;exact nx ha⟩,fun uj y hy=>?_,fun j y=>(hsl j y).trans (h.sl j y),fun j=>(hbE j).trans (h.Vl j),PN,fun y hy=>by rcases List.mem_append.1 hy with hy|hy;exact h.exo y hy;rw[List.mem_singleton]at hy;subst hy;exact⟨id,hx⟩,R2,Ci.gw,Ci.aU.trans h.aU,Ci.no.trans h.no,Ci.nb.trans h.nb,fun j=>(Ci.kE j).trans (h.kE j),fun j=>(Ci.OY j).trans (h.OY j),fun y=>?_,fun uj y hy=>?_,⟨l1.trans m1,l2.trans m2,l3.trans m3,l4.trans m4,by omega⟩,GV h.SH kc n1 n2,h.le,fun y hy=>?_,h.cn,hb _ _ _ h.box (.inr (.inl rfl)),h.oJ.from (k2.mono (fun y hy=>h.mD y hy)),h.rr⟩
 ·rw[List.mem_append,List.mem_singleton,h.Yg uj y hy]
  by_cases e:y=x
  ·subst e
   have e2:=sK uj hy
   subst e2
   simp[hlf,hk.1,hk.2]
  ·have e3:uj≠id:=fun e2=>e (by rw[e2,hx]at hy;exact (Option.some.inj hy).symm)
   have e2:¬(some id=some uj):=fun h=>e3 (Option.some.inj h).symm
   simp[e2,e]
 ·rw[Ci.om]
  by_cases e:y=x
  ·rw[e,aj];exact h.dH x
  ·rw[ah _ _ e];exact h.dH y
 ·rw[Ci.om]
  by_cases e:y=x
  ·subst e
   have e2:=sK uj hy
   subst e2
   rw[aj,hlf,omx]
   simp only[Bool.false_eq_true,reduceCtorEq,or_self,if_false]
   unfold BM
   rw[if_pos hk]
  ·have e3:uj≠id:=fun e2=>e (by rw[e2,hx]at hy;exact (Option.some.inj hy).symm)
   have e2:¬(some id=some uj):=fun h=>e3 (Option.some.inj h).symm
   rw[ah _ _ e,h.om uj y hy]
   simp only[e2,or_false,reduceCtorEq]
 ·rcases hF y hy with e|e
  ·exact h.mD y e
  ·exact .inr (Nat.le_trans h.oJ.size e)
open Go.RowKit
def yj(s:Int)(p q:Int):Prop:=if s=0 then q<p else p<q
theorem nP(s p:Int):¬yj s p p:=by unfold yj;split <;> omega
theorem Tv{s p q:Int}(h:¬yj s p q)(hne:p≠q):yj s q p:=by unfold yj at *;split at h <;> split <;> omega
theorem BZ{s p q r:Int}(h:yj s p q)(k:yj s q r):yj s p r:=by unfold yj at *;split at h <;> split at k <;> (try split) <;> omega
theorem OV{s p q:Int}(h:yj s p q):¬yj s q p:=by unfold yj at *;split at h <;> split <;> omega
def po(o:Ord):Int × Int:=(o.af,o.aK)
def qs(p:Int)(L:List (Int × Int)):Int:=pW ((L.filter (fun x=>decide (x.1=p))).map (·.2))
def cn(p:Int)(L:List (Int × Int)):Int:=((L.filter (fun x=>decide (x.1=p))).length:Int)
theorem mP(p:Int)(L:List (Int × Int))(a:Int × Int):qs p (L++[a])=qs p L+(if a.1=p then a.2 else 0):=by
 unfold qs
 rw[List.filter_append,List.map_append,rO]
 congr 1
 by_cases h:a.1=p <;> simp[h,pW]
theorem mr(p:Int)(L:List (Int × Int))(a:Int × Int):cn p (L++[a])=cn p L+(if a.1=p then 1 else 0):=by
 unfold cn
 rw[List.filter_append,List.length_append]
 by_cases h:a.1=p <;> simp[h]
theorem vT{p:Int}{L:List (Int × Int)}(h:∀a∈L,a.1≠p):qs p L=0/\cn p L=0:=by
 have:L.filter (fun x=>decide (x.1=p))=[]:=by
  rw[List.filter_eq_nil_iff]
  intro a ha
  simpa using h a ha
 unfold qs cn
 rw[this]
 exact⟨rfl,rfl⟩
theorem UG(p:Int){L L':List (Int × Int)}(h:L.Perm L'):qs p L=qs p L'/\cn p L=cn p L':=by
 unfold qs cn
 have:=h.filter (fun x=>decide (x.1=p))
 exact⟨Dp (this.map _),by rw[this.length_eq]⟩
theorem aao(p:Int)(L:List (Int × Int))(h:∀a∈L,0<=a.2/\a.2<=1000000000000000):0<=qs p L/\qs p L<=L.length * 1000000000000000/\0<=cn p L/\cn p L<=L.length:=by
 induction L with
 | nil=>simp[qs,cn,pW]
 | cons a L ih =>
   have h1:=h a (by simp)
   have h2:=ih (fun x hx=>h x (by simp[hx]))
   by_cases e:a.1=p
   ·have e1:qs p (a :: L)=a.2+qs p L:=by unfold qs;rw[List.filter_cons_of_pos (by simpa using e)];rfl
    have e2:cn p (a :: L)=cn p L+1:=by unfold cn;rw[List.filter_cons_of_pos (by simpa using e)];simp
    rw[e1,e2,List.length_cons]
    push_cast
    omega
   ·have e1:qs p (a :: L)=qs p L:=by unfold qs;rw[List.filter_cons_of_neg (by simpa using e)]
    have e2:cn p (a :: L)=cn p L:=by unfold cn;rw[List.filter_cons_of_neg (by simpa using e)]
    rw[e1,e2,List.length_cons]
    push_cast
    omega
theorem O6{p:Int}{L:List (Int × Int)}(h:0<cn p L):∃a∈L,a.1=p:=by
 by_cases h0:∀a∈L,a.1≠p
 ·rw[(vT h0).2]at h;omega
 ·simp only[ne_eq,Classical.not_forall,Classical.not_not,not_imp]at h0
  obtain⟨a,ha,e⟩:=h0
  exact⟨a,ha,e⟩
structure YY(s:Int)(A:List (Int × Int))(ls:List jM):Prop where
 ord:ls.Pairwise (fun a b=>yj s a.af b.af)
 val:∀l∈ls,l.aI=qs l.af A/\l.num=cn l.af A/\0<l.num
 all:∀a∈A,∃l∈ls,l.af=a.1
theorem Ut(s:Int)(os:List Ord)(hl:os.length<=1000)(hb:∀o∈os,0<=o.aK/\o.aK<=1000000000000000)(hs:os.Pairwise (fun a b=>¬yj s b.af a.af)) :
 YY s (os.map po) (iO os):=by
 have gen:∀(A B:List Ord) (ls:List jM),A++B=os->YY s (A.map po) ls->(∀l,ls.getLast?=some l->∃o,A.getLast?=some o/\o.af=l.af)->(ls=[]->A=[])->YY s (os.map po) (B.foldl ji ls):=by
  intro A B
  induction B generalizing A with
  | nil=>intro ls e h _ _;rw[List.append_nil]at e;subst e;exact h
  | cons o B ih =>
    intro ls e h hlast hnil
    have e':(A++[o])++B=os:=by rw[<-e];simp
    rw[List.foldl_cons]
    have hA:∀x∈A,¬yj s o.af x.af:=by
     intro x hx
     rw[<-e',List.append_assoc,List.pairwise_append]at hs
     exact hs.2.2 x hx o (by simp)
    have ho:=hb o (by rw[<-e];simp)
    have WZ:∀a∈A.map po,0<=a.2/\a.2<=1000000000000000:=by
     intro a ha
     rw[List.mem_map]at ha
     obtain⟨x,hx,rfl⟩:=ha
     exact hb x (by rw[<-e];simp[hx])
    have hlA:(A.map po).length<=1000:=by rw[List.length_map];rw[<-e,List.length_append]at hl;omega
    have hmap:(A++[o]).map po=A.map po++[(o.af,o.aK)]:=by simp[po]
    have hall:∀l∈ls,¬yj s o.af l.af:=by
     intro l hl2
     obtain⟨_,h2,h3⟩:=h.val l hl2
     obtain⟨a,ha,e2⟩:=O6 (by rw[<-h2];exact h3)
     rw[List.mem_map]at ha
     obtain⟨x,hx,rfl⟩:=ha
     have:=hA x hx
     rw[<-e2];exact this
    refine ih (A++[o]) (ji ls o) e' ?_ ?_ ?_
    ·rcases List.eq_nil_or_concat ls with rfl|⟨ini,l,e3⟩
     ·have:A=[]:=hnil rfl
      subst this
      refine⟨by simp[ji],fun l hl2=>?_,fun a ha=>?_⟩
      ·simp only[ji,List.getLast?_nil,List.mem_singleton]at hl2
       subst hl2
       simp only[List.nil_append,List.map_cons,List.map_nil]
       have q1:=mP o.af [] (po o)
       have q2:=mr o.af [] (po o)
       rw[List.nil_append]at q1 q2
       rw[q1,q2]
       refine⟨?_,?_,by decide⟩
       ·rw[aS (by omega) (by omega)];simp[po,qs,pW]
       ·simp[po,cn]
      ·simp only[List.nil_append,List.map_cons,List.map_nil,List.mem_singleton]at ha
       subst ha
       exact⟨⟨o.af,wrap64 o.aK,1⟩,by simp[ji],rfl⟩
     ·rw[List.concat_eq_append]at e3
      subst e3
      have hv:=h.val l (by simp)
      have hord:=h.ord
      rw[List.pairwise_append]at hord
      obtain⟨o1,_,o3⟩:=hord
      have qb:=aao l.af (A.map po) WZ
      by_cases ep:l.af=o.af
      ·rw[nY _ _ _ ep]
       have w1:wrap64 (l.aI+o.aK)=qs l.af (A.map po)+o.aK:=by rw[hv.1];exact aS (by omega) (by omega)
       have w2:wrap64 (l.num+1)=cn l.af (A.map po)+1:=by rw[hv.2.1];exact aS (by omega) (by omega)
       refine⟨?_,fun x hx=>?_,fun a ha=>?_⟩
       ·rw[List.pairwise_append]
        exact⟨o1,List.pairwise_singleton _ _,fun a ha b hb2=>by rw[List.mem_singleton]at hb2;subst hb2;exact o3 a ha l (by simp)⟩
       ·rw[List.mem_append,List.mem_singleton]at hx
        rw[hmap]
        rcases hx with hx|hx
        ·have hne:¬o.af=x.af:=fun e4=>by
          have:=o3 x hx l (by simp)
          rw[<-e4,<-ep]at this
          exact nP _ _ this
         have:=h.val x (by simp[hx])
         rw[mP,mr,if_neg hne,if_neg hne,Int.add_zero,Int.add_zero]
         exact this
        ·subst hx
         simp only
         rw[mP,mr,if_pos ep.symm,if_pos ep.symm]
         exact⟨w1,w2,by rw[w2];omega⟩
       ·rw[hmap,List.mem_append,List.mem_singleton]at ha
        rcases ha with ha|ha
        ·obtain⟨x,hx,e4⟩:=h.all a ha
         rw[List.mem_append,List.mem_singleton]at hx
         rcases hx with hx|hx
         ·exact⟨x,by simp[hx],e4⟩
         ·subst hx
          exact⟨⟨x.af,wrap64 (x.aI+o.aK),wrap64 (x.num+1)⟩,by simp,e4⟩
        ·subst ha
         exact⟨⟨l.af,wrap64 (l.aI+o.aK),wrap64 (l.num+1)⟩,by simp,ep⟩
      ·rw[mJ _ _ _ ep]
       have hbl:yj s l.af o.af:=Tv (hall l (by simp)) (fun x=>ep x.symm)
       have W9:∀x∈ini++[l],yj s x.af o.af:=by
        intro x hx
        rw[List.mem_append,List.mem_singleton]at hx
        rcases hx with hx|hx
        ·exact BZ (o3 x hx l (by simp)) hbl
        ·rw[hx];exact hbl
       have hno:∀a∈A.map po,a.1≠o.af:=by
        intro a ha e4
        obtain⟨x,hx,e5⟩:=h.all a ha
        have:=W9 x hx
        rw[e5,e4]at this
        exact nP _ _ this
       refine⟨?_,fun x hx=>?_,fun a ha=>?_⟩
       ·rw[List.pairwise_append]
        exact⟨h.ord,List.pairwise_singleton _ _,fun a ha b hb2=>by rw[List.mem_singleton]at hb2;subst hb2;exact W9 a ha⟩
       ·rw[List.mem_append,List.mem_singleton]at hx
        rw[hmap]
        rcases hx with hx|hx
        ·have hne:¬o.af=x.af:=fun e4=>by
          have:=W9 x hx
          rw[<-e4]at this
          exact nP _ _ this
         rw[mP,mr,if_neg hne,if_neg hne,Int.add_zero,Int.add_zero]
         exact h.val x hx
        ·subst hx
         simp only
         rw[mP,mr,if_pos rfl,if_pos rfl,(vT hno).1,(vT hno).2]
         refine⟨?_,rfl,by decide⟩
         rw[aS (by omega) (by omega)];simp
       ·rw[hmap,List.mem_append,List.mem_singleton]at ha
        rcases ha with ha|ha
        ·obtain⟨x,hx,e4⟩:=h.all a ha
         exact⟨x,by rw[List.mem_append];exact .inl hx,e4⟩
        ·subst ha
         exact⟨⟨o.af,wrap64 o.aK,1⟩,by simp,rfl⟩
    ·intro l hl2
     refine⟨o,by simp,?_⟩
     rcases List.eq_nil_or_concat ls with rfl|⟨ini,l0,e3⟩
     ·simp[ji]at hl2;rw[<-hl2]
     ·rw[List.concat_eq_append]at e3
      subst e3
      by_cases ep:l0.af=o.af
      ·rw[nY _ _ _ ep]at hl2;simp at hl2;rw[<-hl2];exact ep.symm
      ·rw[mJ _ _ _ ep]at hl2;simp at hl2;rw[<-hl2]
    ·intro hx
     exfalso
     rcases List.eq_nil_or_concat ls with rfl|⟨ini,l0,e3⟩
     ·simp[ji]at hx
     ·rw[List.concat_eq_append]at e3
      subst e3
      by_cases ep:l0.af=o.af
      ·rw[nY _ _ _ ep]at hx;simp at hx
      ·rw[mJ _ _ _ ep]at hx;simp at hx
 exact gen [] os [] rfl ⟨List.Pairwise.nil,fun l hl2=>absurd hl2 (by simp),fun a ha=>absurd ha (by simp)⟩ (fun l hl2=>by simp at hl2) (fun _=>rfl)
def Y9(s:Int)(b:jM)(o:Ord):jM:=if OZ s b o.af=true then vO ⟨o.af,0,0⟩ o else if o.af=b.af then vO b o else b
def FK(l:List Ord)(sym:ByteArray)(s:Int)(last:Option Int)(i:Nat):List Ord:=((List.range i).filter (fun k=>decide ((ax l k).sym=sym/\(ax l k).side=s/\(ax l k).aK≠0/\xN s last (ax l k).af=true))).map (ax l)
theorem FC(l:List Ord)(sym:ByteArray)(s:Int)(last:Option Int):∀i,bkX l sym s last i=(FK l sym s last i).foldl (Y9 s) ⟨0,0,0⟩
 | 0=>rfl
 | i+1=>by
   rw[bkX,FC l sym s last i]
   unfold FK
   rw[List.range_succ,List.filter_append,List.map_append,List.foldl_append]
   unfold OX
   by_cases h:(ax l i).sym=sym/\(ax l i).side=s/\(ax l i).aK≠0
   ·obtain⟨h1,h2,h3⟩:=h
    rw[if_neg (by simp[h1,h2,h3])]
    by_cases h4:xN s last (ax l i).af=true
    ·rw[if_neg (by simp[h4]),List.filter_cons_of_pos (by simp[h1,h2,h3,h4])]
     rfl
    ·rw[if_pos (by simpa using h4),List.filter_cons_of_neg (by simp[h4])]
     rfl
   ·rw[if_pos (by by_cases a:(ax l i).sym=sym <;> by_cases b:(ax l i).side=s <;> by_cases c:(ax l i).aK=0 <;> simp[a,b,c]at h ⊢),List.filter_cons_of_neg (by
     simp only[decide_eq_true_eq]
     rintro⟨a,b,c,_⟩
     exact h ⟨a,b,c⟩)]
    rfl
def KC(s:Int)(C:List (Int × Int))(b:jM):Prop :=
 (C=[]/\b=⟨0,0,0⟩)\/(C≠[]/\(∃a∈C,a.1=b.af)/\(∀a∈C,¬yj s a.1 b.af)/\b.aI=qs b.af C/\b.num=cn b.af C/\0<b.num)
theorem L8(s:Int)(hs:s=0\/s=1)(os:List Ord)(hl:os.length<=1000)(hb:∀o∈os,0<=o.aK/\o.aK<=1000000000000000):KC s (os.map po) (os.foldl (Y9 s) ⟨0,0,0⟩):=by
 have gen:∀(A B:List Ord) (b:jM),A++B=os->KC s (A.map po) b->KC s (os.map po) (B.foldl (Y9 s) b):=by
  intro A B
  induction B generalizing A with
  | nil=>intro b e h;rw[List.append_nil]at e;subst e;exact h
  | cons o B ih =>
    intro b e h
    have e':(A++[o])++B=os:=by rw[<-e];simp
    rw[List.foldl_cons]
    have ho:=hb o (by rw[<-e];simp)
    have WZ:∀a∈A.map po,0<=a.2/\a.2<=1000000000000000:=by
     intro a ha
     rw[List.mem_map]at ha
     obtain⟨x,hx,rfl⟩:=ha
     exact hb x (by rw[<-e];simp[hx])
    have hlA:(A.map po).length<=1000:=by rw[List.length_map];rw[<-e,List.length_append]at hl;omega
    have hmap:(A++[o]).map po=A.map po++[(o.af,o.aK)]:=by simp[po]
    have w0:vO ⟨o.af,0,0⟩ o=⟨o.af,o.aK,1⟩:=by
     rw[XK rfl rfl,aS (by omega) (by omega)]
    refine ih (A++[o]) _ e' ?_
    right
    rw[hmap]
    refine⟨by simp,?_⟩
    rcases h with⟨h1,h2⟩|⟨h1,⟨a0,ha0,e0⟩,h3,h4,h5,h6⟩
    ·subst h2
     have hb1:OZ s ⟨0,0,0⟩ o.af=true:=rfl
     unfold Y9
     rw[if_pos hb1,w0]
     rw[h1]
     simp only[List.nil_append]
     have q1:=mP o.af [] (o.af,o.aK)
     have q2:=mr o.af [] (o.af,o.aK)
     rw[List.nil_append]at q1 q2
     refine⟨⟨_,List.mem_singleton.2 rfl,rfl⟩,fun a ha=>?_,?_,?_,by show (0:Int)<1;decide⟩
     ·rw[List.mem_singleton]at ha;subst ha;exact nP _ _
     ·rw[q1];simp[qs,pW]
     ·rw[q2];simp[cn]
    ·have hnum:b.num≠0:=by omega
     have hbt:OZ s b o.af=true↔yj s o.af b.af:=by
      unfold OZ yj
      rw[if_neg hnum]
      split <;> simp
     have qb:=aao b.af (A.map po) WZ
     unfold Y9
     by_cases hbb:yj s o.af b.af
     ·rw[if_pos (hbt.2 hbb),w0]
      have hno:∀a∈A.map po,a.1≠o.af:=by
       intro a ha e4
       have:=h3 a ha
       rw[e4]at this
       exact this hbb
      refine⟨⟨_,List.mem_append.2 (.inr (List.mem_singleton.2 rfl)),rfl⟩,fun a ha=>?_,?_,?_,by show (0:Int)<1;decide⟩
      ·rw[List.mem_append,List.mem_singleton]at ha
       rcases ha with ha|ha
       ·exact fun hx=>h3 a ha (BZ hx hbb)
       ·subst ha;exact nP _ _
      ·rw[mP,(vT hno).1];simp
      ·rw[mr,(vT hno).2];simp
     ·rw[if_neg (fun hx=>hbb (hbt.1 hx))]
      by_cases Yi:o.af=b.af
      ·rw[if_pos Yi]
       have w1:vO b o=⟨b.af,qs b.af (A.map po)+o.aK,cn b.af (A.map po)+1⟩:=by
        unfold vO
        rw[h4,h5,aS (x:=qs b.af (A.map po)+o.aK) (by omega) (by omega),aS (x:=cn b.af (A.map po)+1) (by omega) (by omega)]
       rw[w1]
       refine⟨⟨a0,List.mem_append.2 (.inl ha0),e0⟩,fun a ha=>?_,?_,?_,by show 0<cn b.af (A.map po)+1;omega⟩
       ·rw[List.mem_append,List.mem_singleton]at ha
        rcases ha with ha|ha
        ·exact h3 a ha
        ·subst ha;exact hbb
       ·simp only;rw[mP,if_pos Yi]
       ·simp only;rw[mr,if_pos Yi]
      ·rw[if_neg Yi]
       refine⟨⟨a0,List.mem_append.2 (.inl ha0),e0⟩,fun a ha=>?_,?_,?_,h6⟩
       ·rw[List.mem_append,List.mem_singleton]at ha
        rcases ha with ha|ha
        ·exact h3 a ha
        ·subst ha;exact hbb
       ·rw[mP,if_neg Yi,Int.add_zero];exact h4
       ·rw[mr,if_neg Yi,Int.add_zero];exact h5
 exact gen [] os _ rfl (.inl ⟨rfl,rfl⟩)
theorem U4{s:Int}{last p:Int}:xN s (some last) p=true↔yj s last p:=by
 unfold xN yj
 simp only
 split <;> simp
theorem TB(l:List Ord)(sym:ByteArray)(s:Nat)(last:Option Int)(hop:∀k,k<l.length->0<=(ax l k).aK):(FK l sym (s:Int) last l.length).map po=(((idx l sym s).map (ax l)).map po).filter (fun a=>xN (s:Int) last a.1):=by
 unfold FK idx
 rw[List.map_map,List.map_map,List.filter_map,List.filter_filter]
 congr 1
 refine List.filter_congr (fun k hk=>?_)
 rw[List.mem_range]at hk
 have:=hop k hk
 simp only[Function.comp,po]
 have e:((ax l k).aK≠0)↔0<(ax l k).aK:=by omega
 cases hw:xN (s:Int) last (ax l k).af <;> simp[hw,e]
theorem D7{ls:List jM}{j:Nat}(hj:j<ls.length):(ls.take (j+1)).getLast?=ls[j]?:=by
 rw[List.take_add_one,List.getElem?_eq_getElem hj,Option.toList_some,List.getLast?_concat]
theorem CW(s:Nat)(hs:s<2)(l:List Ord)(sym:ByteArray)(A:List (Int × Int))(ls:List jM)(hlen:l.length<=1000)(hop:∀k,k<l.length->0<=(ax l k).aK/\(ax l k).aK<=1000000000000000)(hA:A.Perm (((idx l sym s).map (ax l)).map po))(h:YY (s:Int) A ls)(j:Nat)(hj:j<=ls.length) :
 (j=ls.length->(oI l sym (s:Int) (ls.take j)).num=0)/\∀x,ls[j]?=some x->oI l sym (s:Int) (ls.take j)=x/\x.num≠0:=by
 have hs':(s:Int)=0\/(s:Int)=1:=by omega
 have hc0:=TB l sym s (nX (ls.take j)) (fun k hk=>(hop k hk).1)
 have hlc:(FK l sym (s:Int) (nX (ls.take j)) l.length).length<=1000:=by
  unfold FK
  rw[List.length_map]
  have:=List.length_filter_le (fun k=>decide ((ax l k).sym=sym/\(ax l k).side=(s:Int)/\(ax l k).aK≠0/\xN (s:Int) (nX (ls.take j)) (ax l k).af=true)) (List.range l.length)
  rw[List.length_range]at this
  omega
 have hbc:∀o∈FK l sym (s:Int) (nX (ls.take j)) l.length,0<=o.aK/\o.aK<=1000000000000000:=by
  intro o ho
  unfold FK at ho
  rw[List.mem_map]at ho
  obtain⟨k,hk,rfl⟩:=ho
  rw[List.mem_filter,List.mem_range]at hk
  exact hop k hk.1
 have hsp:=L8 (s:Int) hs' _ hlc hbc
 rw[<-FC]at hsp
 change KC (s:Int) _ (oI l sym (s:Int) (ls.take j)) at hsp
 rw[hc0]at hsp
 generalize hX:((idx l sym s).map (ax l)).map po=X at *
 have hlook:∀a∈A,(xN (s:Int) (nX (ls.take j)) a.1=true↔∃i x,j<=i/\ls[i]?=some x/\x.af=a.1):=by
  intro a ha
  obtain⟨x,hx,e⟩:=h.all a ha
  obtain⟨i,hi⟩:=List.getElem?_of_mem hx
  have hil:=(List.getElem?_eq_some_iff.1 hi).1
  have hpw:=List.pairwise_iff_getElem.1 h.ord
  have uniq:∀i' x',ls[i']?=some x'->x'.af=a.1->i'=i:=by
   intro i' x' hi' e'
   have ZF:=(List.getElem?_eq_some_iff.1 hi').1
   have g1:=(List.getElem?_eq_some_iff.1 hi).2
   have g2:=(List.getElem?_eq_some_iff.1 hi').2
   rcases Nat.lt_trichotomy i' i with c|c|c
   ·have:=hpw i' i ZF hil c
    rw[g1,g2,e,e']at this
    exact absurd this (nP _ _)
   ·exact c
   ·have:=hpw i i' hil ZF c
    rw[g1,g2,e,e']at this
    exact absurd this (nP _ _)
  cases j with
  | zero =>
    have:nX (ls.take 0)=none:=by simp[nX]
    rw[this]
    exact⟨fun _=>⟨i,x,by omega,hi,e⟩,fun _=>rfl⟩
  | succ j =>
    have hjl:j<ls.length:=by omega
    have hlp:nX (ls.take (j+1))=some ls[j].af:=by
     unfold nX
     rw[D7 hjl,List.getElem?_eq_getElem hjl]
     rfl
    rw[hlp,U4]
    have g1:=(List.getElem?_eq_some_iff.1 hi).2
    constructor
    ·intro hb
     refine⟨i,x,?_,hi,e⟩
     rcases Nat.lt_or_ge j i with c|c
     ·omega
     ·exfalso
      rcases Nat.lt_or_ge i j with c2|c2
      ·have:=hpw i j hil hjl c2
       rw[g1,e]at this
       exact OV hb this
      ·obtain rfl:i=j:=by omega
       rw[g1,e]at hb
       exact nP _ _ hb
    ·rintro⟨i',x',h1,h2,h3⟩
     have e4:=uniq i' x' h2 h3
     subst e4
     have:=hpw j i' hjl hil (by omega)
     rw[g1,e]at this
     exact this
 have hAX:∀a,a∈A↔a∈X:=fun a=>hA.mem_iff
 constructor
 ·intro hjl
  rcases hsp with⟨_,e⟩|⟨hne,⟨a0,ha0,e0⟩,_⟩
  ·rw[e]
  ·exfalso
   rw[List.mem_filter]at ha0
   obtain⟨i,x,h1,h2,_⟩:=(hlook a0 ((hAX a0).2 ha0.1)).1 ha0.2
   have:=(List.getElem?_eq_some_iff.1 h2).1
   omega
 ·intro x hx
  have hxl:=(List.getElem?_eq_some_iff.1 hx).1
  have hxm:=List.mem_of_getElem? hx
  obtain⟨v1,v2,v3⟩:=h.val x hxm
  obtain⟨a1,ha1,e1⟩:=O6 (by rw[<-v2];exact v3)
  have hin:a1∈X.filter (fun a=>xN (s:Int) (nX (ls.take j)) a.1):=by
   rw[List.mem_filter]
   exact⟨(hAX a1).1 ha1,(hlook a1 ha1).2 ⟨j,x,Nat.le_refl _,hx,e1.symm⟩⟩
  rcases hsp with⟨e,_⟩|⟨hne,⟨a0,ha0,e0⟩,hb3,hb4,hb5,hb6⟩
  ·rw[e]at hin;simp at hin
  ·generalize oI l sym (s:Int) (ls.take j)=b at *
   rw[List.mem_filter]at ha0
   obtain⟨i,y,h1,h2,h3⟩:=(hlook a0 ((hAX a0).2 ha0.1)).1 ha0.2
   have hpw:=List.pairwise_iff_getElem.1 h.ord
   have hil:=(List.getElem?_eq_some_iff.1 h2).1
   have ei:i=j:=by
    rcases Nat.lt_or_ge j i with c|c
    ·exfalso
     have:=hpw j i hxl hil c
     rw[(List.getElem?_eq_some_iff.1 hx).2,(List.getElem?_eq_some_iff.1 h2).2,h3,e0]at this
     have h4:=hb3 a1 hin
     rw[e1]at h4
     exact h4 this
    ·omega
   subst ei
   rw[hx]at h2
   have exy:=Option.some.inj h2
   subst exy
   have ep:b.af=x.af:=by rw[h3,e0]
   have hf:qs b.af (X.filter (fun a=>xN (s:Int) (nX (ls.take i)) a.1))=qs b.af X/\cn b.af (X.filter (fun a=>xN (s:Int) (nX (ls.take i)) a.1))=cn b.af X:=by
    unfold qs cn
    have:(X.filter (fun a=>xN (s:Int) (nX (ls.take i)) a.1)).filter (fun x=>decide (x.1=b.af))=X.filter (fun x=>decide (x.1=b.af)):=by
     rw[List.filter_filter]
     refine List.filter_congr (fun a ha=>?_)
     by_cases ea:a.1=b.af
     ·rw[(hlook a ((hAX a).2 ha)).2 ⟨i,x,Nat.le_refl _,hx,by rw[ea,ep]⟩]
      simp
     ·simp[ea]
    rw[this]
    exact⟨rfl,rfl⟩
   obtain⟨pq,pc⟩:=UG b.af hA
   refine⟨?_,by omega⟩
   obtain⟨bp,bq,bn⟩:=b
   obtain⟨xp,xq,xn⟩:=x
   simp only at *
   subst ep
   rw[hb4,hf.1,<-pq,<-v1,hb5,hf.2,<-pc,<-v2]
theorem L9(s:Nat)(hs:s<2)(l:List Ord)(sym:ByteArray)(A:List (Int × Int))(ls:List jM)(hlen:l.length<=1000)(hop:∀k,k<l.length->0<=(ax l k).aK/\(ax l k).aK<=1000000000000000)(hA:A.Perm (((idx l sym s).map (ax l)).map po))(h:YY (s:Int) A ls):mY l sym (s:Int) ls.length [] ls:=by
 have gen:∀k j,j+k=ls.length->mY l sym (s:Int) k (ls.take j) ls:=by
  intro k
  induction k with
  | zero =>
    intro j hj
    have hn:=(CW s hs l sym A ls hlen hop hA h j (by omega)).1 (by omega)
    have e:ls.take j=ls:=List.take_of_length_le (by omega)
    have:=mY.stop (l:=l) (sym:=sym) (s:=(s:Int)) 0 (ls.take j) hn
    rw[e]at this ⊢
    exact this
  | succ k ih =>
    intro j hj
    obtain⟨x,hx⟩:∃x,ls[j]?=some x:=⟨_,List.getElem?_eq_getElem (by omega)⟩
    obtain⟨e1,e2⟩:=(CW s hs l sym A ls hlen hop hA h j (by omega)).2 x hx
    refine mY.go k _ _ (by rw[e1];exact e2) ?_
    rw[e1]
    have:=ih (j+1) (by omega)
    rw[List.take_add_one,hx]at this
    exact this
 have:=gen ls.length 0 (by omega)
 rw[List.take_zero]at this
 exact this
end Go.Proofs.YtigaphnafnpfnaaGreatDoor
