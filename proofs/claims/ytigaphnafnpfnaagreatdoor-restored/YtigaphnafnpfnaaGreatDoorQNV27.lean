import Derived.Test.YtigaphnafnpfnaaGreatDoorQNV25
import Derived.Test.YtigaphnafnpfnaaGreatDoorQNV24
import Derived.Test.YtigaphnafnpfnaaGreatDoorQNY7
set_option linter.unusedVariables false
set_option linter.unusedSimpArgs false
set_option maxHeartbeats 8000000
set_option maxRecDepth 100000
namespace Go.Proofs.YtigaphnafnpfnaaGreatDoor
open Go.RowKit Go.Maps
theorem U5(bv bm bo H i s j:Nat)(p:Int)(V:aS)(w:World)(R:dS w bv bm bo V)(hi:i<V.nb)(hs:s<2)(hj:j<(V.B i).n s)(hside:(V.om ((V.B i).h s j)).side=(s:Int))(hsep:¬dO bv bm bo V (H+1))(hp:xe w H (V.bk i) ((V.B i).h s j) p) :
 CT 153 #[dD H,dD (H+1),dD (H+2)] w fun e w'=>e=.returned (.tuple #[])/\dS w' bv bm bo { V with B:=aQ V.B i ((V.B i).kN V.om s j),om:=aQ V.om ((V.B i).h s j) { V.om ((V.B i).h s j) with place:=p } }/\aj (fun x=>x=V.bk i\/dG (V.B i) s x) w w' /\
  ∀x,dO bv bm bo { V with B:=aQ V.B i ((V.B i).kN V.om s j),om:=aQ V.om ((V.B i).h s j) { V.om ((V.B i).h s j) with place:=p } } x->dO bv bm bo V x\/w.heap.size<=x:=by
 have m:=R.tu hi;refine (GZ (V.bk i) s j H p (V.B i) V.om (VL V) w m hs hj hp hside (fun e=>hsep (jZ ⟨i,hi,.inr ⟨s,hs,.inl e⟩⟩))).mono ?_;rintro e w' ⟨rfl,m',k'⟩;have hN:=Next.of (V:=V) R hi (B':=(V.B i).kN V.om s j) (dK:=aQ V.om ((V.B i).h s j) { V.om ((V.B i).h s j) with place:=p }) (G':=V.lg) (bM:=V.lm) (fun V2=>V2={ V with B:=aQ V.B i ((V.B i).kN V.om s j),om:=aQ V.om ((V.B i).h s j) { V.om ((V.B i).h s j) with place:=p } }) m' (R.aP.jF k' (fun x h=>m.gK (by
  rcases h with h | h
  ·exact .inl h
  ·exact .inr (.inr ⟨s,hs,h⟩)))) (fun x hx=>.inl hx) k' (fun x hx=>by
  rcases hx with h | h
  ·exact lN h
  ·exact jZ ⟨s,hs,h⟩) (fun a ha hne t ht l hl=>?_) (fun x=>?_) rfl (fun t ht x hx=>?_) rfl
 ·obtain⟨V2,R2,rfl,k2,f2⟩:=hN;exact⟨rfl,R2,k',f2⟩
 ·rw[ah];intro e;exact R.nM i a hi ha (fun e=>hne e.symm) s t hs ht _ (.inr ⟨j,hj,rfl⟩) (.inr ⟨l,hl,e.symm⟩)
 ·by_cases e:x=(V.B i).h s j
  ·rw[e,ai]
  ·rw[ah _ _ e]
 ·refine .inl ⟨t,ht,?_⟩;by_cases e:t=s
  ·subst e;rcases hx with hx | ⟨k,hk,rfl⟩
   ·exact .inl hx
   ·simp only[Bk.kN,Bk.leave,ai]at hk ⊢;have hm:Mem ((V.B i).n t-1+1) ((V.B i).h t) (eQ (fP V.om) ((V.B i).h t) ((V.B i).n t-1) j k):=(pR (lt:=fP V.om) ((V.B i).h t) j (by omega) _).1 ⟨k,by omega,rfl⟩;rw[show (V.B i).n t-1+1=(V.B i).n t by omega]at hm;exact .inr hm
  ·rcases hx with hx | ⟨k,hk,rfl⟩
   ·exact .inl hx
   ·simp only[Bk.kN,Bk.leave,ah _ _ e]at hk ⊢;exact .inr ⟨k,hk,rfl⟩
theorem HS.gp{V:aS}{b:Nat}{o:Ord}(h:HS V)(hr:∀i,i<V.nb->∀s,s<2->Mem ((V.B i).n s) ((V.B i).h s) b->o.side=(V.om b).side/\o.af=(V.om b).af):HS { V with om:=aQ V.om b { o with place:=(V.om b).place } }:=by
 intro i hi s hs;obtain⟨h1,h2,h3⟩:=h i hi s hs;have key:∀k,k<(V.B i).n s->(aQ V.om b { o with place:=(V.om b).place } ((V.B i).h s k)).side=(V.om ((V.B i).h s k)).side/\(aQ V.om b { o with place:=(V.om b).place } ((V.B i).h s k)).af=(V.om ((V.B i).h s k)).af/\(aQ V.om b { o with place:=(V.om b).place } ((V.B i).h s k)).place=(V.om ((V.B i).h s k)).place:=fun k hk=>by
  by_cases e:(V.B i).h s k=b
  ·have:=hr i hi s hs ⟨k,hk,e.symm⟩;rw[e,ai];exact⟨this.1,this.2,rfl⟩
  ·rw[ah _ _ e];exact⟨rfl,rfl,rfl⟩
 refine⟨h1.lQ (fun a c ha hc=>?_),h2,fun k hk=>(key k hk).1.trans (h3 k hk)⟩;unfold fP mg kY;rw[(key a ha).1,(key a ha).2.1,(key a ha).2.2,(key c hc).2.1,(key c hc).2.2]
theorem HS.push{V:aS}{i s b g cap':Nat}(h:HS V)(hi:i<V.nb)(hs:s<2)(hside:(V.om b).side=(s:Int))(hout:∀k,k<(V.B i).n s->(V.B i).h s k≠b):HS { V with B:=aQ V.B i ((V.B i).push V.om s b g cap') }:=by
 intro j hj t ht;by_cases e:j=i
 ·subst e;simp only[ai];obtain⟨h1,h2,h3⟩:=h j hj t ht;by_cases e2:t=s
  ·subst e2;simp only[Bk.push,ai];refine⟨GN (lV V.om (t:Int)) _ b hside (fun k hk=>h3 k hk) h1,?_,fun k hk=>?_⟩
   ·refine ry.up (fun a c ha hc hac=>?_) (by omega);by_cases ea:a=(V.B j).n t <;> by_cases ec:c=(V.B j).n t
    ·omega
    ·simp only[ea,ec,if_true,if_false]at hac;exact absurd hac.symm (hout c (by omega))
    ·simp only[ea,ec,if_true,if_false]at hac;exact absurd hac (hout a (by omega))
    ·simp only[ea,ec,if_false]at hac;exact h2 a c (by omega) (by omega) hac
   ·rcases (jh (lt:=fP V.om) ((V.B j).h t) b _).1 ⟨k,hk,rfl⟩ with⟨k',hk',e'⟩ | e'
    ·rw[e'];exact h3 k' hk'
    ·rw[e'];exact hside
  ·simp only[Bk.push,ah _ _ e2];exact⟨h1,h2,h3⟩
 ·simp only[ah _ _ e];exact h j hj t ht
theorem HS.kN{V:aS}{i s k:Nat}{p:Int}(h:HS V)(hi:i<V.nb)(hs:s<2)(hk:k<(V.B i).n s)(hout:∀j,j<V.nb->∀t,t<2->Mem ((V.B j).n t) ((V.B j).h t) ((V.B i).h s k)->j=i/\t=s):HS { V with B:=aQ V.B i ((V.B i).kN V.om s k),om:=aQ V.om ((V.B i).h s k) { V.om ((V.B i).h s k) with place:=p } }:=by
 have lY:∀(n:Nat) (f:Nat->Nat) (t:Nat),eG (fP V.om) n f->(∀a,a<n->(V.om (f a)).side=(t:Int))->(∀a,a<n->f a≠(V.B i).h s k)->eG (fP (aQ V.om ((V.B i).h s k) { V.om ((V.B i).h s k) with place:=p })) n f/\∀a,a<n->(aQ V.om ((V.B i).h s k) { V.om ((V.B i).h s k) with place:=p } (f a)).side=(t:Int):=fun n f t h1 h2 h3 =>
  ⟨h1.lQ (fun a c ha hc=>by unfold fP mg kY;rw[ah _ _ (h3 a ha),ah _ _ (h3 c hc)]),fun a ha=>by rw[ah _ _ (h3 a ha)];exact h2 a ha⟩
 intro j hj t ht;obtain⟨h1,h2,h3⟩:=h j hj t ht;by_cases e:j=i
 ·subst e;simp only[ai];by_cases e2:t=s
  ·subst e2;simp only[Bk.kN,Bk.leave,ai];obtain⟨n,hn⟩:∃n,(V.B j).n t=n+1:=⟨(V.B j).n t-1,by omega⟩;rw[hn]at h1 h2 h3 hk ⊢;simp only[Nat.add_sub_cancel];have hinj:=h2.qp (lt:=fP V.om) (i:=k) (n:=n) (by omega);have mm:∀a,a<n->Mem (n+1) ((V.B j).h t) (eQ (fP V.om) ((V.B j).h t) n k a)/\eQ (fP V.om) ((V.B j).h t) n k a≠(V.B j).h t k:=fun a ha=>(jY ((V.B j).h t) k (by omega) hinj _).1 ⟨a,ha,rfl⟩
   have r:=lY n (eQ (fP V.om) ((V.B j).h t) n k) t (E5 (lV V.om (t:Int)) _ k (by omega) (fun a ha=>h3 a ha) h1) (fun a ha=>by
    obtain⟨⟨a',ha',e'⟩,_⟩:=mm a ha;rw[e'];exact h3 a' ha') (fun a ha=>(mm a ha).2)
   exact⟨r.1,fun a c ha hc=>hinj a c (by omega) (by omega),r.2⟩
  ·simp only[Bk.kN,Bk.leave,ah _ _ e2];have r:=lY _ ((V.B j).h t) t h1 h3 (fun a ha e'=>e2 (hout j hj t ht ⟨a,ha,e'.symm⟩).2);exact⟨r.1,h2,r.2⟩
 ·simp only[ah _ _ e];have r:=lY _ ((V.B j).h t) t h1 h3 (fun a ha e'=>e (hout j hj t ht ⟨a,ha,e'.symm⟩).1);exact⟨r.1,h2,r.2⟩
def FD(V:aS)(b:Nat):Prop:=∀j,j<V.nb->∀t,t<2->¬Mem ((V.B j).n t) ((V.B j).h t) b
structure Y6(i s:Nat)(P:Nat->Prop)(pl:Int)(V1 V:aS):Prop where
 nb:V.nb=V1.nb
 bk:∀j,j<V1.nb->V.bk j=V1.bk j
 sym:∀j,j<V1.nb->(V.B j).sym=(V1.B j).sym
 vz:∀j,j<V1.nb->(V.B j).places=if j=i then pl else (V1.B j).places
 mem:∀j,j<V1.nb->∀t,t<2->∀x,Mem ((V.B j).n t) ((V.B j).h t) x↔if j=i/\t=s then P x else Mem ((V1.B j).n t) ((V1.B j).h t) x
 aW:V.aW=V1.aW
 no:V.no=V1.no
 tr:V.lg.tr=V1.lg.tr
 day:V.lg.day=V1.lg.day
 tb:V.lm.tb=V1.lm.tb
def Ej(bk:Nat->Nat)(d:dY)(T:List (Int × Tr))(V V1:aS):Prop :=
 match d with
 | .gp b o=>T=[]/\VL V1 b/\o.id=(V1.om b).id/\(∀i,i<V1.nb->∀s,s<2->Mem ((V1.B i).n s) ((V1.B i).h s) b->o.side=(V1.om b).side/\o.af=(V1.om b).af)/\dQ V { V1 with om:=aQ V1.om b { o with place:=(V1.om b).place } }
 | .left b=>T=[]/\∃i s:Nat,i<V1.nb/\s<2/\bk b=V1.bk i/\VL V1 b/\(V1.om b).side=(s:Int)/\FD V1 b/\Y6 i s (fun x=>Mem ((V1.B i).n s) ((V1.B i).h s) x\/x=b) (V1.B i).places V1 V/\∀x,VL V1 x->V.om x=V1.om x
 | .fC b p=>T=[]/\∃i s:Nat,i<V1.nb/\s<2/\bk b=V1.bk i/\VL V1 b/\Mem ((V1.B i).n s) ((V1.B i).h s) b/\Y6 i s (fun x=>Mem ((V1.B i).n s) ((V1.B i).h s) x/\x≠b) (wrap64 ((V1.B i).places-1)) V1 V/\∀x,VL V1 x->V.om x=aQ V1.om b { V1.om b with place:=p } x
 | .entered id=>T=[]/\∃b,V1.aW id=some b/\(Lit.int .i64 id).wf=true/\0<V1.no/\FD V1 b/\dQ V (V1.zy id)
 | .di s=>T=[]/\∃n,V1.nb=n+1/\(V1.B n).sym=s/\s.size<=maxLen/\dQ V V1.vI
 | .iZ t=>T=[(2,t)]/\∃L x,V1.lg.tr=L++[x]/\t.num=(L.length:Int)+1/\dQ V { V1 with lg:={ V1.lg with tr:=L },lm:={ V1.lm with tb:=V1.lm.tb.dropLast } }
 | .jU tb=>∃k x,T=[(1,x.t)]/\V1.lg.tr[k]?=some x/\V1.lm.tb[k]?=some tb/\dQ V { V1 with lg:=V1.lg.qo k x.t }
 | .iW tb p=>∃k x,T=[(3,x.t.at p)]/\V1.lg.tr[k]?=some x/\V1.lm.tb[k]?=some tb/\dQ V { V1 with lg:=V1.lg.jB k x p }
 | .closed=>T=[]/\dQ V { V1 with lg:={ V1.lg with day:=wrap64 (V1.lg.day-1) } }
section
variable {V V1 Vc : aS}
theorem dQ.out(h:dQ V1 Vc){b:Nat}(ho:FD V1 b):FD Vc b:=fun j hj t ht hm=>ho j (by rw[<-h.nb];exact hj) t ht ((h.mem j (by rw[<-h.nb];exact hj) t ht b).1 hm)
theorem Ux(h:dQ V1 Vc){b:Nat}{o:Ord}(hb:VL V1 b)(hV:dQ V { V1 with om:=aQ V1.om b { o with place:=(V1.om b).place } }):dQ V { Vc with om:=aQ Vc.om b { o with place:=(Vc.om b).place } }:=by
 refine hV.trans ⟨h.nb,h.bk,h.sym,h.vz,h.mem,h.aW,h.no,fun x hx=>?_,h.tr,h.day,h.tb⟩;by_cases e:x=b
 ·subst e;simp only[ai];rw[h.om x hb]
 ·simp only[ah _ _ e];exact h.om x hx
theorem Qu(h:dQ V1 Vc){i s b g cap':Nat}(hi:i<V1.nb)(hs:s<2)(hd:Y6 i s (fun x=>Mem ((V1.B i).n s) ((V1.B i).h s) x\/x=b) (V1.B i).places V1 V)(jK:∀x,VL V1 x->V.om x=V1.om x) :
 dQ V { Vc with B:=aQ Vc.B i ((Vc.B i).push Vc.om s b g cap') }:=by
 have vl:∀x,VL V x↔VL V1 x:=fun x=>by unfold VL;rw[hd.aW]
 have e0:=hd.nb;refine⟨h.nb.trans hd.nb.symm,fun j hj=>(h.bk j (by omega)).trans (hd.bk j (by omega)).symm,fun j hj=>?_,fun j hj=>?_,fun j hj t ht x=>?_,h.aW.trans hd.aW.symm,h.no.trans hd.no.symm,fun x hx=>?_,h.tr.trans hd.tr.symm,h.day.trans hd.day.symm,h.tb.trans hd.tb.symm⟩
 ·rw[hd.sym j (by omega),<-h.sym j (by omega)];by_cases e:j=i
  ·subst e;simp only[ai];rfl
  ·simp only[ah _ _ e]
 ·rw[hd.vz j (by omega)];by_cases e:j=i
  ·subst e;simp only[ai,if_true];exact h.vz j (by omega)
  ·simp only[ah _ _ e,if_neg e];exact h.vz j (by omega)
 ·rw[hd.mem j (by omega) t ht x];by_cases e:j=i
  ·subst e;by_cases e2:t=s
   ·subst e2;simp only[ai,Bk.push,and_self,if_true];rw[jh,h.mem j (by omega) t ht x]
   ·simp only[ai,Bk.push,ah _ _ e2,e2,and_false,if_false];exact h.mem j (by omega) t ht x
  ·simp only[ah _ _ e,e,false_and,if_false];exact h.mem j (by omega) t ht x
 ·have hx':=(vl x).1 hx;rw[jK x hx'];exact h.om x hx'
theorem Qv(h:dQ V1 Vc)(hsC:HS Vc){i s k b:Nat}{p:Int}(hi:i<V1.nb)(hs:s<2)(hk:k<(Vc.B i).n s)(hb:b=(Vc.B i).h s k)(hvb:VL V1 b)(hd:Y6 i s (fun x=>Mem ((V1.B i).n s) ((V1.B i).h s) x/\x≠b) (wrap64 ((V1.B i).places-1)) V1 V)(jK:∀x,VL V1 x->V.om x=aQ V1.om b { V1.om b with place:=p } x) :
 dQ V { Vc with B:=aQ Vc.B i ((Vc.B i).kN Vc.om s k),om:=aQ Vc.om ((Vc.B i).h s k) { Vc.om ((Vc.B i).h s k) with place:=p } }:=by
 have vl:∀x,VL V x↔VL V1 x:=fun x=>by unfold VL;rw[hd.aW]
 have e0:=hd.nb;have e1:=h.nb;rw[<-hb];refine⟨h.nb.trans hd.nb.symm,fun j hj=>(h.bk j (by omega)).trans (hd.bk j (by omega)).symm,fun j hj=>?_,fun j hj=>?_,fun j hj t ht x=>?_,h.aW.trans hd.aW.symm,h.no.trans hd.no.symm,fun x hx=>?_,h.tr.trans hd.tr.symm,h.day.trans hd.day.symm,h.tb.trans hd.tb.symm⟩
 ·rw[hd.sym j (by omega),<-h.sym j (by omega)];by_cases e:j=i
  ·subst e;simp only[ai];rfl
  ·simp only[ah _ _ e]
 ·rw[hd.vz j (by omega)];by_cases e:j=i
  ·subst e;simp only[ai,if_true,Bk.kN];rw[h.vz j (by omega)]
  ·simp only[ah _ _ e,if_neg e];exact h.vz j (by omega)
 ·rw[hd.mem j (by omega) t ht x];by_cases e:j=i
  ·subst e;by_cases e2:t=s
   ·subst e2;simp only[ai,Bk.kN,Bk.leave,and_self,if_true];obtain⟨n,hn⟩:∃n,(Vc.B j).n t=n+1:=⟨(Vc.B j).n t-1,by omega⟩;have hm:=h.mem j (by omega) t ht x;have hinj:=(hsC j (by omega) t ht).2.1;rw[hn]at hm hinj hk ⊢;simp only[Nat.add_sub_cancel];rw[jY _ k (by omega) (hinj.qp (by omega)),hm,hb]
   ·simp only[ai,Bk.kN,Bk.leave,ah _ _ e2,e2,and_false,if_false];exact h.mem j (by omega) t ht x
  ·simp only[ah _ _ e,e,false_and,if_false];exact h.mem j (by omega) t ht x
 ·have hx':=(vl x).1 hx;rw[jK x hx'];by_cases e:x=b
  ·subst e;simp only[ai];rw[h.om x hx']
  ·simp only[ah _ _ e];exact h.om x hx'
theorem Nh(h:dQ V1 Vc){id:Int}(hV:dQ V (V1.zy id)):dQ V (Vc.zy id) :=
 hV.trans ⟨h.nb,h.bk,h.sym,h.vz,h.mem,by show (fun i=>if i=id then none else Vc.aW i)=_;rw[h.aW];rfl,by show Vc.no-1=V1.no-1;rw[h.no],fun x hx=>h.om x (by
  obtain⟨j,hj⟩:=hx;simp only[aS.zy]at hj;by_cases e:j=id
  ·rw[if_pos e]at hj;simp at hj
  ·rw[if_neg e]at hj;exact⟨j,hj⟩),h.tr,h.day,h.tb⟩
theorem Nc(h:dQ V1 Vc)(hV:dQ V V1.vI):dQ V Vc.vI:=by
 have e:=h.nb;refine hV.trans ⟨by show Vc.nb-1=V1.nb-1;rw[h.nb],fun i hi=>h.bk i ?_,fun i hi=>h.sym i ?_,fun i hi=>h.vz i ?_,fun i hi=>h.mem i ?_,h.aW,h.no,h.om,h.tr,h.day,h.tb⟩ <;> (simp only[aS.vI]at hi;omega)
theorem xK(h:dQ V1 Vc){G1 Gc:Lg}{m1 mc:Lm}(h1:Gc.tr=G1.tr)(h2:Gc.day=G1.day)(h3:mc.tb=m1.tb)(hV:dQ V { V1 with lg:=G1,lm:=m1 }):dQ V { Vc with lg:=Gc,lm:=mc } :=
 hV.trans ⟨h.nb,h.bk,h.sym,h.vz,h.mem,h.aW,h.no,h.om,h1,h2,h3⟩
end
open Go.RowKit Go.Maps Go.Shelf
def Lg.nC(G:Lg)(T:List (Int × Tr)):Lg:=T.foldl (fun G p=>G.told p.1 p.2) G
def aa4(bv bm bo:Nat)(V Vc:aS)(T:List (Int × Tr))(w w':World):Prop :=
 ∃We,dS w' bv bm bo We/\HS We/\dQ V We/\We.lg.tp=(Vc.lg.nC T).tp/\We.lg.na=Vc.lg.na/\(We.lg.ud=Vc.lg.ud/\We.lg.js=Vc.lg.js)/\We.lg.nt=Vc.lg.nt/\We.lm.ac=Vc.lm.ac/\aj (fun x=>dO bv bm bo Vc x/\¬gY Vc.lm.av Vc.lm.ac x) w w'/\∀x,dO bv bm bo We x->dO bv bm bo Vc x\/w.heap.size<=x
theorem dS.aaw{w:World}{bv bm bo:Nat}{V:aS}(R:dS w bv bm bo V){x:Nat}{c:Array Value}{t:TypeId}(hb:aA w x c t)(h1:t≠109)(h2:t≠1):¬gY V.lm.av V.lm.ac x:=fun h=>by
 obtain⟨c',t',hc,ht⟩:=R.aP.aP.act.gK h;unfold aA at hb hc;rw[hb]at hc;simp only[Option.some.injEq,Obj.cells.injEq]at hc;obtain⟨_,e,_⟩:=hc;subst e;rcases ht with e | e
 ·exact h1 e
 ·exact h2 e
section
variable {w w' : World} {bv bm bo : Nat} {Vc : aS}
theorem dS.Ag(R:dS w bv bm bo Vc){S:Nat->Prop}(k:aj S w w')(hF:∀x,S x->dO bv bm bo Vc x)(hT:∀x,S x->∃c t,aA w x c t/\t≠109/\t≠1):aj (fun x=>dO bv bm bo Vc x/\¬gY Vc.lm.av Vc.lm.ac x) w w' :=
 k.mono (fun x hx=>⟨hF x hx,by obtain⟨c,t,hc,h1,h2⟩:=hT x hx;exact R.aaw hc h1 h2⟩)
theorem dS.Aj(R:dS w bv bm bo Vc){S:Nat->Prop}(k:aj S w w')(hF:∀x,S x->x=bv\/Vc.lm.F x)(hT:∀x,S x->∃c t,aA w x c t/\t≠109/\t≠1){bM:Lm}{G':Lg}(hl:bG w' bv bm bo G' bM)(hF':∀x,bM.F x->Vc.lm.F x\/w.heap.size<=x) :
 dS w' bv bm bo { Vc with lg:=G',lm:=bM }/\aj (fun x=>dO bv bm bo Vc x/\¬gY Vc.lm.av Vc.lm.ac x) w w'/\∀x,dO bv bm bo { Vc with lg:=G',lm:=bM } x->dO bv bm bo Vc x\/w.heap.size<=x:=by
 refine⟨R.jM hl (k.mono hF),R.Ag k (fun x hx=>?_) hT,fun x hx=>?_⟩
 ·rcases hF x hx with h | h
  ·exact .inl h
  ·exact vU h
 ·rcases hx with h | h | h | h | h | h
  ·exact .inl (.inl h)
  ·exact .inl (.inr (.inl h))
  ·exact .inl (lN h)
  ·exact .inl (jZ h)
  ·exact .inl (qm h)
  ·exact (hF' x h).imp_left (fun h=>vU h)
end
theorem QP(bv bm bo lo:Nat)(bk:Nat->Nat)(d:dY)(c:Value)(T:List (Int × Tr))(V V1 Vc:aS)(w:World)(R:dS w bv bm bo Vc)(hs:HS Vc)(hl:dQ V1 Vc)(hb:Ej bk d T V V1)(hI:bU w bv bk lo d c)
 (hsep:∀fn cp x,c=.func fn #[] cp->dD x∈cp.toList->¬dO bv bm bo Vc x) (hcnt:∀i,i<Vc.nb->∀s,s<2->(Vc.B i).n s<1000) (htp:Vc.lg.tp.length<1000000000) (htr:Vc.lg.tr.length<1000000000) :
 ∃f cp,c=.func (.func f) #[] cp/\Enters Tryz.prog f/\Calls Tryz.prog f cp w fun e w'=>e=.returned (.tuple #[])/\aa4 bv bm bo V Vc T w w':=by
 have nbe:=hl.nb;obtain⟨fn,cp,rfl,hI⟩:=hI;cases d with
 | gp b o =>
   obtain⟨rfl,H,_,rfl,hN⟩:=hI;obtain⟨rfl,hb1,hb2,hb3,hb4⟩:=hb;refine⟨151,_,rfl,enters_of Tryz.func151 (by kernel_rfl) rfl,?_⟩;have hvb:VL Vc b:=(hl.vl b).2 hb1;have eo:=hl.om b hb1;refine (XK bv bm bo b H o Vc w R hvb (by rw[eo];exact hb2) hN).mono ?_;rintro e w' ⟨rfl,R',k'⟩;obtain⟨id,hid⟩:=hvb;obtain⟨_,ix,ho⟩:=R.bz id b hid;exact⟨rfl,_,R',hs.gp (fun i hi s h2 hm=>by rw[eo];exact hb3 i (by omega) s h2 ((hl.mem i (by omega) s h2 b).1 hm)),Ux hl hb1 hb4,rfl,rfl,⟨rfl,rfl⟩,rfl,rfl,R.Ag k' (fun x e=>by subst e;exact qm ⟨id,hid⟩) (fun x e=>by subst e;exact⟨_,116,ho,by decide,by decide⟩),fun x hx=>.inl hx⟩
 | left b =>
   obtain⟨rfl,H,_,rfl,hN⟩:=hI;obtain⟨rfl,i,s,hi,h2,hbk,hvb,hsd,hout,hd,jK⟩:=hb;refine⟨117,_,rfl,enters_of Tryz.func117 (by kernel_rfl) rfl,?_⟩;rw[hbk,<-hl.bk i hi]at hN;have hvc:VL Vc b:=(hl.vl b).2 hvb;have ho:=hl.out hout;have hi':i<Vc.nb:=by omega
   have abJ:(Vc.om b).side=(s:Int):=by rw[hl.om b hvb];exact hsd
   have ho':∀j,j<Vc.nb->∀t,t<2->∀k,k<(Vc.B j).n t->(Vc.B j).h t k≠b:=fun j hj t ht k hk e=>ho j hj t ht ⟨k,hk,e.symm⟩
   refine (Ut bv bm bo b H i s Vc w R hi' h2 hvc abJ ho' (hcnt i hi' s h2) hN).mono ?_;rintro e w' ⟨rfl,g,cap',R',k',f'⟩;obtain⟨id,hid⟩:=hvc;obtain⟨_,ix,hob⟩:=R.bz id b hid;refine⟨rfl,_,R',hs.push hi' h2 abJ (ho' i hi' s h2),Qu hl hi h2 hd jK,rfl,rfl,⟨rfl,rfl⟩,rfl,rfl,R.Ag k' (fun x hx=>?_) (fun x hx=>?_),f'⟩
   ·rcases hx with h | h | h
    ·exact jZ ⟨i,hi',.inl h⟩
    ·subst h;exact qm ⟨id,hid⟩
    ·exact jZ ⟨i,hi',.inr ⟨s,h2,h⟩⟩
   ·obtain⟨c,t,hc,ht⟩:=(R.tu hi').gK (b:=x) (by
     rcases hx with h | h | h
     ·exact .inl h
     ·subst h;exact .inr (.inl ⟨id,hid⟩)
     ·exact .inr (.inr ⟨s,h2,h⟩))
    exact⟨c,t,hc,by rcases ht with rfl | rfl | rfl <;> decide,by rcases ht with rfl | rfl | rfl <;> decide⟩
 | fC b p =>
   obtain⟨rfl,H,_,rfl,hN⟩:=hI;obtain⟨rfl,i,s,hi,h2,hbk,hvb,hm,hd,jK⟩:=hb;refine⟨153,_,rfl,enters_of Tryz.func153 (by kernel_rfl) rfl,?_⟩;rw[hbk,<-hl.bk i hi]at hN;have hi':i<Vc.nb:=by omega
   obtain⟨k,hk,ek⟩:=(hl.mem i hi s h2 b).2 hm;rw[ek]at hN;refine (U5 bv bm bo H i s k p Vc w R hi' h2 hk ((hs i hi' s h2).2.2 k hk) (hsep _ _ _ rfl (by simp)) hN).mono ?_;rintro e w' ⟨rfl,R',k',f'⟩;refine⟨rfl,_,R',hs.kN hi' h2 hk (fun j hj t ht hmm=>?_),Qv hl hs hi h2 hk ek hvb hd jK,rfl,rfl,⟨rfl,rfl⟩,rfl,rfl,R.Ag k' (fun x hx=>?_) (fun x hx=>?_),f'⟩
   ·obtain⟨k2,hk2,e2⟩:=hmm;by_cases ej:j=i
    ·subst ej;refine⟨rfl,?_⟩;by_cases et:t=s
     ·exact et
     ·exact absurd (.inr ⟨k,hk,e2.symm⟩) ((R.aY j hj).lY ht h2 et (.inr ⟨k2,hk2,rfl⟩))
    ·exact absurd (.inr ⟨k,hk,e2.symm⟩) (R.nM j i hj hi' ej t s ht h2 _ (.inr ⟨k2,hk2,rfl⟩))
   ·rcases hx with h | h
    ·exact jZ ⟨i,hi',.inl h⟩
    ·exact jZ ⟨i,hi',.inr ⟨s,h2,h⟩⟩
   ·obtain⟨c,t,hc,ht⟩:=(R.tu hi').gK (b:=x) (by
     rcases hx with h | h
     ·exact .inl h
     ·exact .inr (.inr ⟨s,h2,h⟩))
    exact⟨c,t,hc,by rcases ht with rfl | rfl | rfl <;> decide,by rcases ht with rfl | rfl | rfl <;> decide⟩
 | entered id =>
   obtain⟨rfl,H,cs,_,rfl,h1,h2,h3⟩:=hI;obtain⟨rfl,b,hb1,hb2,hb3,hb4,hb5⟩:=hb;refine⟨114,_,rfl,enters_of Tryz.func114 (by kernel_rfl) rfl,?_⟩;have ho:=hl.out hb4;refine (Xc bv bm bo H b id cs Vc w R hb2 (by rw[hl.aW];exact hb1) (by rw[hl.no];exact hb3) (fun j hj t ht k hk e=>ho j hj t ht ⟨k,hk,e.symm⟩) h1 h2 h3).mono ?_;rintro e w' ⟨rfl,R',k'⟩;obtain⟨fO,mO,_⟩:=R.fH;refine⟨rfl,_,R',hs,Nh hl hb5,rfl,rfl,⟨rfl,rfl⟩,rfl,rfl,k'.mono (fun x e=>?_),fun x hx=>?_⟩
   ·subst e;refine⟨lN rfl,fun h=>?_⟩;obtain⟨c',t',hc,_⟩:=R.aP.aP.act.gK h;exact mO.ne hc rfl
   ·rcases hx with h | h | h | h | ⟨j,h⟩ | h
    ·exact .inl (.inl h)
    ·exact .inl (.inr (.inl h))
    ·exact .inl (lN h)
    ·exact .inl (jZ h)
    ·simp only[aS.zy]at h;by_cases e:j=id
     ·rw[if_pos e]at h;simp at h
     ·rw[if_neg e]at h;exact .inl (qm ⟨j,h⟩)
    ·exact .inl (vU h)
 | di s =>
   obtain⟨rfl,H,K,_,_,rfl,h1,h2⟩:=hI;obtain⟨rfl,n,hb1,hb2,hb3,hb4⟩:=hb;refine⟨54,_,rfl,enters_of Tryz.func54 (by kernel_rfl) rfl,?_⟩;refine (XD bv bm bo H K n s Vc w R (by omega) (by rw[hl.sym n (by omega)];exact hb2) hb3 h1 h2).mono ?_;rintro e w' ⟨rfl,R',k'⟩;obtain⟨fB,mB,_⟩:=R.iM;refine⟨rfl,_,R',fun i hi=>hs i (Nat.lt_of_lt_of_le hi (Nat.sub_le _ _)),Nc hl hb4,rfl,rfl,⟨rfl,rfl⟩,rfl,rfl,k'.mono (fun x e=>?_),fun x hx=>?_⟩
   ·subst e;refine⟨.inr (.inl rfl),fun h=>?_⟩;obtain⟨c',t',hc,_⟩:=R.aP.aP.act.gK h;exact mB.ne hc rfl
   ·rcases hx with h | h | h | ⟨i,hi,h⟩ | h | h
    ·exact .inl (.inl h)
    ·exact .inl (.inr (.inl h))
    ·exact .inl (lN h)
    ·exact .inl (jZ ⟨i,Nat.lt_of_lt_of_le hi (Nat.sub_le _ _),h⟩)
    ·exact .inl (qm h)
    ·exact .inl (vU h)
 | iZ t =>
   obtain⟨rfl,H,_,rfl,h1,h2⟩:=hI;obtain⟨rfl,L,x,hb1,hb2,hb3⟩:=hb;refine⟨211,_,rfl,enters_of Tryz.func211 (by kernel_rfl) rfl,?_⟩;have hG:Vc.lg.tr=L++[x]:=by rw[hl.tr];exact hb1
   refine (VM bv bm bo H L.length t x L Vc.lg Vc.lm w R.aP hG rfl hb2 htp (by rw[hG]at htr;simp at htr;omega) h1 h2).mono ?_;rintro e w' ⟨rfl,m',a1,a2,a3,a4,a5⟩;obtain⟨R',k',f'⟩:=R.Aj a3 (fun x hx=>by
    rcases hx with h | h | h
    ·exact .inl h
    ·exact .inr (.inl h)
    ·exact lN (.inl h)) (fun x hx=>by
    rcases hx with h | h | h
    ·subst h;exact⟨_,100,R.dC,by decide,by decide⟩
    ·obtain⟨cs,hc⟩:=bK R.aP.aP.jJ h;exact⟨cs,103,hc,by decide,by decide⟩
    ·obtain⟨cs,hc⟩:=bK R.aP.aP.iO h;exact⟨cs,62,hc,by decide,by decide⟩) a1 a2
   exact⟨rfl,_,R',hs,xK hl (G1:={ V1.lg with tr:=L }) (m1:={ V1.lm with tb:=V1.lm.tb.dropLast }) rfl hl.day (by rw[a5,hl.tb]) hb3,rfl,rfl,⟨rfl,rfl⟩,rfl,a4,k',f'⟩
 | jU tb =>
   obtain⟨rfl,H,K,_,_,rfl,h1,h2⟩:=hI;obtain⟨k,x,rfl,hb1,hb2,hb3⟩:=hb;refine⟨74,_,rfl,enters_of Tryz.func74 (by kernel_rfl) rfl,?_⟩;have hx:Vc.lg.tr[k]?=some x:=by rw[hl.tr];exact hb1
   have htb:Vc.lm.tb[k]?=some tb:=by rw[hl.tb];exact hb2
   refine (Sv bv bm bo H K k tb Vc.lg Vc.lm x w R.aP hx htb htp h1 h2).mono ?_;rintro e w' ⟨rfl,m',a1,a2,a3,a4,a5⟩;obtain⟨R',k',f'⟩:=R.Aj a3 (fun y hy=>by
    rcases hy with h | h | h
    ·subst h;exact jZ (List.mem_of_getElem? htb)
    ·exact .inl h
    ·exact lN (.inl h)) (fun y hy=>by
    rcases hy with h | h | h
    ·subst h;exact⟨_,105,R.aP.aP.aF k y x htb hx,by decide,by decide⟩
    ·subst h;exact⟨_,100,R.dC,by decide,by decide⟩
    ·obtain⟨cs,hc⟩:=bK R.aP.aP.iO h;exact⟨cs,62,hc,by decide,by decide⟩) a1 a2
   exact⟨rfl,_,R',hs,xK hl (G1:=V1.lg.qo k x.t) (m1:=V1.lm) (by show Vc.lg.tr.set k _=V1.lg.tr.set k _;rw[hl.tr]) hl.day (a5.trans hl.tb) hb3,rfl,rfl,⟨rfl,rfl⟩,rfl,a4,k',f'⟩
 | iW tb p =>
   obtain⟨rfl,H,K,J,_,_,_,rfl,h1,h2,h3⟩:=hI;obtain⟨k,x,rfl,hb1,hb2,hb3⟩:=hb;refine⟨77,_,rfl,enters_of Tryz.func77 (by kernel_rfl) rfl,?_⟩;have hx:Vc.lg.tr[k]?=some x:=by rw[hl.tr];exact hb1
   have htb:Vc.lm.tb[k]?=some tb:=by rw[hl.tb];exact hb2
   refine (UZ bv bm bo H K J k tb p Vc.lg Vc.lm x w R.aP hx htb htp h1 h2 h3).mono ?_;rintro e w' ⟨rfl,m',a1,a2,a3,a4,a5,S,kS,hS⟩;obtain⟨R',k',f'⟩:=R.Aj (S:=fun y=>(y=bv\/Vc.lm.F y)/\S y) ⟨a3.os,a3.tape,a3.output,a3.size,fun y hy hn=>by
    by_cases h:S y
    ·exact a3.block y hy (fun h'=>hn ⟨h',h⟩)
    ·exact kS.block y hy h⟩ (fun y hy=>hy.1) (fun y hy=>by
    obtain⟨c,t,hc,ht⟩:=hS y hy.2;exact⟨c,t,hc,by rcases ht with rfl | rfl | rfl <;> decide,by rcases ht with rfl | rfl | rfl <;> decide⟩) a1 a2
   exact⟨rfl,_,R',hs,xK hl (G1:=V1.lg.jB k x p) (m1:=V1.lm) (by show Vc.lg.tr.set k _=V1.lg.tr.set k _;rw[hl.tr]) hl.day (a5.1.trans hl.tb) hb3,rfl,rfl,⟨rfl,rfl⟩,rfl,a4,k',f'⟩
 | closed =>
   obtain⟨rfl,H,_,rfl,h1⟩:=hI;obtain⟨rfl,hb1⟩:=hb;refine⟨79,_,rfl,enters_of Tryz.func79 (by kernel_rfl) rfl,?_⟩;refine (SE bv bm bo H Vc.lg Vc.lm w R.aP h1).mono ?_;rintro e w' ⟨rfl,a1,a2⟩;obtain⟨R',k',f'⟩:=R.Aj a2 (fun y hy=>.inl hy) (fun y hy=>by subst hy;exact⟨_,100,R.dC,by decide,by decide⟩) a1 (fun y hy=>.inl hy);exact⟨rfl,_,R',hs,xK hl (G1:={ V1.lg with day:=wrap64 (V1.lg.day-1) }) (m1:=V1.lm) hl.tr (by show wrap64 (Vc.lg.day-1)=_;rw[hl.day]) hl.tb hb1,rfl,rfl,⟨rfl,rfl⟩,rfl,rfl,k',f'⟩
theorem dS.abV{w w':World}{bv bm bo:Nat}{V:aS}(R:dS w bv bm bo V){S:Nat->Prop}(k:aj S w w')(hS:∀x,dO bv bm bo V x->¬S x):dS w' bv bm bo V:=by
 obtain⟨gB,nB,g1,g2⟩:=R.iM;obtain⟨gO,nO,g3⟩:=R.fH;refine⟨R.aP.aC k (hS _ (.inl rfl)) (fun y h=>hS y (vU h)),⟨gB,nB.aC k (hS _ (.inr (.inl rfl))),g1,g2⟩,⟨gO,nO.aC k (hS _ (lN rfl)),g3⟩,R.Ia,fun i hi=>(R.aY i hi).aC k (fun y h=>hS y (jZ ⟨i,hi,h⟩)),fun id b h=>⟨(R.bz id b h).1,?_⟩,R.mem,R.sS,R.nM,R.gV⟩;obtain⟨_,ix,ho⟩:=R.bz id b h;exact⟨ix,k.aF ho (hS b (qm ⟨id,h⟩))⟩
theorem dS.Tq{w:World}{bv bm bo x:Nat}{V:aS}(R:dS w bv bm bo V)(h:dO bv bm bo V x):x=bm\/x=bo\/∃c t,aA w x c t/\(t=109->gY V.lm.av V.lm.ac x):=by
 rcases h with h | h | h | ⟨i,hi,h⟩ | ⟨id,h⟩ | h
 ·subst h;exact .inr (.inr ⟨_,100,R.dC,fun e=>absurd e (by decide)⟩)
 ·exact .inl h
 ·exact .inr (.inl h)
 ·obtain⟨c,t,hc,ht⟩:=(R.tu hi).gK (b:=x) (h.imp_right .inr);exact .inr (.inr ⟨c,t,hc,by rcases ht with rfl | rfl | rfl <;> exact fun e=>absurd e (by decide)⟩)
 ·obtain⟨_,ix,ho⟩:=R.bz id x h;exact .inr (.inr ⟨_,116,ho,fun e=>absurd e (by decide)⟩)
 ·obtain⟨c,t,hc,ht⟩:=R.aP.aP.gK h;refine .inr (.inr ⟨c,t,hc,fun e=>?_⟩);subst e;rcases h with h | (h | h) | h | h
  ·obtain⟨cs,h'⟩:=bK R.aP.aP.jJ h;exact absurd rfl (aA.ne hc h' (by decide))
  ·obtain⟨cs,h'⟩:=bK R.aP.aP.iO h;exact absurd rfl (aA.ne hc h' (by decide))
  ·obtain⟨cs,h'⟩:=bK R.aP.aP.kV h;exact absurd rfl (aA.ne hc h' (by decide))
  ·obtain⟨i,hi,e⟩:=List.mem_iff_getElem.1 h;have hj:i<V.lg.tr.length:=by rw[<-R.aP.aP.len];exact hi
   exact absurd rfl (aA.ne hc (R.aP.aP.aF i x _ (by rw[List.getElem?_eq_getElem hi,e]) (List.getElem?_eq_getElem hj)) (by decide))
  ·exact h
def FB(c:Value)(x:Nat):Prop:=∃fn cp,c=.func fn #[] cp/\dD x∈cp.toList
theorem bU.Uk{w w':World}{bv:Nat}{bk:Nat->Nat}{lo:Nat}{d:dY}{c:Value}{S:Nat->Prop}(h:bU w bv bk lo d c)(k:aj S w w')(hS:∀x,FB c x->¬S x):bU w' bv bk lo d c:=by
 obtain⟨fn,cp,rfl,h⟩:=h;refine⟨fn,cp,rfl,?_⟩;have hS':∀x,dD x∈cp.toList->¬S x:=fun x hx=>hS x ⟨fn,cp,rfl,hx⟩
 cases d with
 | gp b od =>
   obtain⟨e,H,h0,rfl,h1,h2⟩:=h;exact⟨e,H,h0,rfl,k.aF h1 (hS' _ (by simp)),k.aF h2 (hS' _ (by simp))⟩
 | left b =>
   obtain⟨e,H,h0,rfl,h1,h2⟩:=h;exact⟨e,H,h0,rfl,k.aF h1 (hS' _ (by simp)),k.aF h2 (hS' _ (by simp))⟩
 | fC b p =>
   obtain⟨e,H,h0,rfl,⟨h1,h2⟩,h3⟩:=h;exact⟨e,H,h0,rfl,⟨k.aF h1 (hS' _ (by simp)),k.aF h2 (hS' _ (by simp))⟩,k.aF h3 (hS' _ (by simp))⟩
 | entered id =>
   obtain⟨e,H,cs,h0,rfl,h1,h2,h3⟩:=h;exact⟨e,H,cs,h0,rfl,k.aF h1 (hS' _ (by simp)),k.aF h2 (hS' _ (by simp)),h3⟩
 | di s =>
   obtain⟨e,H,K,h0,hK,rfl,h1,h2⟩:=h;exact⟨e,H,K,h0,hK,rfl,k.aF h1 (hS' _ (by simp)),k.aF h2 (hS' _ (by simp))⟩
 | iZ t =>
   obtain⟨e,H,h0,rfl,h1,h2⟩:=h;exact⟨e,H,h0,rfl,k.aF h1 (hS' _ (by simp)),k.aF h2 (hS' _ (by simp))⟩
 | jU tb =>
   obtain⟨e,H,K,h0,hK,rfl,h1,h2⟩:=h;exact⟨e,H,K,h0,hK,rfl,k.aF h1 (hS' _ (by simp)),k.aF h2 (hS' _ (by simp))⟩
 | iW tb p =>
   obtain⟨e,H,K,J,h0,hK,hJ,rfl,h1,h2,h3⟩:=h;exact⟨e,H,K,J,h0,hK,hJ,rfl,k.aF h1 (hS' _ (by simp)),k.aF h2 (hS' _ (by simp)),k.aF h3 (hS' _ (by simp))⟩
 | closed =>
   obtain⟨e,H,h0,rfl,h1⟩:=h;exact⟨e,H,h0,rfl,k.aF h1 (hS' _ (by simp))⟩
theorem bU.held{w:World}{bv:Nat}{bk:Nat->Nat}{lo:Nat}{d:dY}{c:Value}(h:bU w bv bk lo d c){x:Nat}(hx:FB c x):x<w.heap.size:=by
 obtain⟨fn,cp,rfl,h⟩:=h;obtain⟨fn',cp',e,hx⟩:=hx;simp only[Value.func.injEq]at e;obtain⟨_,_,rfl⟩:=e;have inj:∀a b:Nat,dD a=dD b->a=b:=fun a b e=>by simpa [dD] using e
 cases d with
 | gp b od =>
   obtain⟨e,H,h0,rfl,h1,h2⟩:=h;simp at hx;rcases hx with e | e <;> rw[inj _ _ e]
   ·exact h2.lt
   ·exact h1.lt
 | left b =>
   obtain⟨e,H,h0,rfl,h1,h2⟩:=h;simp at hx;rcases hx with e | e <;> rw[inj _ _ e]
   ·exact h1.lt
   ·exact h2.lt
 | fC b p =>
   obtain⟨e,H,h0,rfl,⟨h1,h2⟩,h3⟩:=h;simp at hx;rcases hx with e | e | e <;> rw[inj _ _ e]
   ·exact h1.lt
   ·exact h2.lt
   ·exact h3.lt
 | entered id =>
   obtain⟨e,H,cs,h0,rfl,h1,h2,h3⟩:=h;simp at hx;rcases hx with e | e <;> rw[inj _ _ e]
   ·exact h1.lt
   ·exact h2.lt
 | di s =>
   obtain⟨e,H,K,h0,hK,rfl,h1,h2⟩:=h;simp at hx;rcases hx with e | e <;> rw[inj _ _ e]
   ·exact h1.lt
   ·exact h2.lt
 | iZ t =>
   obtain⟨e,H,h0,rfl,h1,h2⟩:=h;simp at hx;rcases hx with e | e <;> rw[inj _ _ e]
   ·exact h1.lt
   ·exact h2.lt
 | jU tb =>
   obtain⟨e,H,K,h0,hK,rfl,h1,h2⟩:=h;simp at hx;rcases hx with e | e <;> rw[inj _ _ e]
   ·exact h2.lt
   ·exact h1.lt
 | iW tb p =>
   obtain⟨e,H,K,J,h0,hK,hJ,rfl,h1,h2,h3⟩:=h;simp at hx;rcases hx with e | e | e <;> rw[inj _ _ e]
   ·exact h1.lt
   ·exact h2.lt
   ·exact h3.lt
 | closed =>
   obtain⟨e,H,h0,rfl,h1⟩:=h;simp at hx;rw[inj _ _ hx];exact h1.lt
theorem Hr(G:Lg)(A B:List (Int × Tr)):G.nC (A++B)=(G.nC A).nC B:=List.foldl_append ..
theorem KW{G G':Lg}(h:G.tp=G'.tp):∀T:List (Int × Tr),(G.nC T).tp=(G'.nC T).tp:=by
 intro T
 induction T generalizing G G' with
 | nil=>exact h
 | cons p T ih=>exact ih (by simp only[Lg.told,h])
theorem QV(G:Lg)(T:List (Int × Tr)):(G.nC T).tp.length=G.tp.length+T.length:=by
 induction T generalizing G with
 | nil=>rfl
 | cons p T ih =>
   show ((G.told p.1 p.2).nC T).tp.length=_;rw[ih];simp only[Lg.told,List.length_append,List.length_cons,List.length_nil];omega
theorem Ej.one{bk:Nat->Nat}{d:dY}{T:List (Int × Tr)}{V V1:aS}(h:Ej bk d T V V1):T.length<=1:=by
 cases d with
 | gp b o=>rw[h.1];simp
 | left b=>rw[h.1];simp
 | fC b p=>rw[h.1];simp
 | entered id=>rw[h.1];simp
 | di s=>rw[h.1];simp
 | iZ t=>rw[h.1];simp
 | jU tb=>obtain⟨k,x,e,_⟩:=h;rw[e];simp
 | iW tb p=>obtain⟨k,x,e,_⟩:=h;rw[e];simp
 | closed=>rw[h.1];simp
theorem Pj{n:Nat}{h:Nat->Nat}{l:List Nat}(hi:ry n h)(hl:∀k,k<n->h k∈l):n<=l.length :=
 UY l.length n (fun k=>l.idxOf (h k)) (fun a b ha hb e=>hi a b ha hb (by
  have h1:=List.getElem_idxOf (List.idxOf_lt_length_of_mem (hl a ha));have h2:=List.getElem_idxOf (List.idxOf_lt_length_of_mem (hl b hb));simp only[e]at h1;exact h1.symm.trans h2)) (fun k hk=>List.idxOf_lt_length_of_mem (hl k hk))
theorem bU.form{w:World}{bv:Nat}{bk:Nat->Nat}{lo:Nat}{d:dY}{c:Value}(h:bU w bv bk lo d c):∃p:Nat × Array Value,c=.func (.func p.1) #[] p.2/\Enters Tryz.prog p.1:=by
 obtain⟨fn,cp,rfl,h⟩:=h;cases d with
 | gp b od=>obtain⟨rfl,_⟩:=h;exact⟨(151,cp),rfl,enters_of Tryz.func151 (by kernel_rfl) rfl⟩
 | left b=>obtain⟨rfl,_⟩:=h;exact⟨(117,cp),rfl,enters_of Tryz.func117 (by kernel_rfl) rfl⟩
 | fC b p=>obtain⟨rfl,_⟩:=h;exact⟨(153,cp),rfl,enters_of Tryz.func153 (by kernel_rfl) rfl⟩
 | entered id=>obtain⟨rfl,_⟩:=h;exact⟨(114,cp),rfl,enters_of Tryz.func114 (by kernel_rfl) rfl⟩
 | di s=>obtain⟨rfl,_⟩:=h;exact⟨(54,cp),rfl,enters_of Tryz.func54 (by kernel_rfl) rfl⟩
 | iZ t=>obtain⟨rfl,_⟩:=h;exact⟨(211,cp),rfl,enters_of Tryz.func211 (by kernel_rfl) rfl⟩
 | jU tb=>obtain⟨rfl,_⟩:=h;exact⟨(74,cp),rfl,enters_of Tryz.func74 (by kernel_rfl) rfl⟩
 | iW tb p=>obtain⟨rfl,_⟩:=h;exact⟨(77,cp),rfl,enters_of Tryz.func77 (by kernel_rfl) rfl⟩
 | closed=>obtain⟨rfl,_⟩:=h;exact⟨(79,cp),rfl,enters_of Tryz.func79 (by kernel_rfl) rfl⟩
def uz(T:Nat->List (Int × Tr))(n:Nat):Nat->List (Int × Tr)
 | 0=>[]
 | k+1=>uz T n k++T (n-1-k)
def Mid(bv bm bo:Nat)(Vn:aS)(w:World)(T:Nat->List (Int × Tr))(n k:Nat)(V:aS)(W:World):Prop :=
 ∃Vc,dS W bv bm bo Vc/\HS Vc/\dQ V Vc/\Vc.lg.tp=(Vn.lg.nC (uz T n k)).tp/\Vc.lg.na=Vn.lg.na/\(Vc.lg.ud=Vn.lg.ud/\Vc.lg.js=Vn.lg.js)/\Vc.lg.nt=Vn.lg.nt/\Vc.lm.ac=Vn.lm.ac/\aj (dO bv bm bo Vn) w W/\∀x,dO bv bm bo Vc x->dO bv bm bo Vn x\/w.heap.size<=x
theorem DF{T:Nat->List (Int × Tr)}{n:Nat}(h:∀k,k<n->(T k).length<=1):∀k,k<=n->(uz T n k).length<=k
 | 0,_=>Nat.le_refl _
 | k+1,hk=>by
   have h1:=DF h k (by omega);have h2:=h (n-1-k) (by omega);simp only[uz,List.length_append];omega
theorem JM(bv bm bo lo n ga cap:Nat)(bk:Nat->Nat)(ds:Nat->dY)(T:Nat->List (Int × Tr))(st:Nat->aS)(cl:Nat->Value)(l:List Nat)(Vn:aS)(w:World)
 (R:dS w bv bm bo Vn) (hs:HS Vn) (hl:dQ (st n) Vn) (hst:∀k,k<n->Ej bk (ds k) (T k) (st k) (st (k+1))) (hB:∀k,k<n->bU w bv bk lo (ds k) (cl k))
 (hsep:∀k,k<n->∀x,FB (cl k) x->¬dO bv bm bo Vn x) (hvl:∀k,k<=n->∀x,VL (st k) x->x∈l) (hll:l.length<1000) (hn:n<=1000000000) (htp:Vn.lg.tp.length+n<1000000000) (htr:∀k,k<=n->(st k).lg.tr.length<1000000000)
 (hga:∃a,a∈Vn.lm.ac/\a.1.ownBlock=some ga) (hgl:ga<w.heap.size) (hcell:∀j,j<n->w.cell? ⟨ga,j,none⟩=some (cl j)) :
 CT 45 #[.slice (some ⟨ga,0,none⟩) n cap] w fun e w'=>e=.returned (.tuple #[])/\Mid bv bm bo Vn w T n n (st 0) w':=by
 have hf:∀j,∃p:Nat × Array Value,j<n->cl j=.func (.func p.1) #[] p.2/\Enters Tryz.prog p.1:=fun j=>by
  by_cases h:j<n
  ·obtain⟨p,hp⟩:=(hB j h).form;exact⟨p,fun _=>hp⟩
  ·exact⟨(0,#[]),fun h'=>absurd h' h⟩
 let fc:Nat->Nat × Array Value:=fun j=>(hf j).choose
 have hfc:∀j,j<n->cl j=.func (.func (fc j).1) #[] (fc j).2/\Enters Tryz.prog (fc j).1:=fun j=>(hf j).choose_spec
 have lm:=R.iM;have lo':=R.fH;obtain⟨fB,mB,_⟩:=lm;obtain⟨fO,mO,_⟩:=lo';have hbm:=mB.lt;have hbo:=mO.lt;have hT1:∀k,k<n->(T k).length<=1:=fun k hk=>(hst k hk).one
 refine (JL ga n cap fc (fun k W=>Mid bv bm bo Vn w T n k (st (n-k)) W) w (by omega) (fun j hj=>by rw[<-(hfc j hj).1];exact hcell j hj) hgl (fun j hj=>(hfc j hj).2) ?_ ?_ ?_).mono ?_
 ·rintro k j W hkj ⟨Vc,R',hs',hl',Xm,hna,hud,hnt,hac,kW,hF⟩ hsz;have hj:j<n:=by omega
  rw[show n-k=j+1 by omega]at hl';have hI:=(hB j hj).Uk kW (fun x hx=>hsep j hj x hx);have hcnt:∀i,i<Vc.nb->∀s,s<2->(Vc.B i).n s<1000:=fun i hi s h2=>by
   have:=Pj (hs' i hi s h2).2.1 (l:=l) (fun q hq=>hvl (j+1) (by omega) _ ((hl'.vl _).1 (R'.mem i hi s h2 q hq)));omega
  obtain⟨f,cp,e1,_,hC⟩:=QP bv bm bo lo bk (ds j) (cl j) (T j) (st j) (st (j+1)) Vc W R' hs' hl' (hst j hj) hI (fun fn cp x e hx hfx=>by
   have hh:FB (cl j) x:=⟨fn,cp,e,hx⟩;rcases hF x hfx with h | h
   ·exact hsep j hj x hh h
   ·have:=(hB j hj).held hh;omega) hcnt (by rw[Xm,QV];have:=DF hT1 k (by omega);omega) (by rw[hl'.tr];exact htr (j+1) (by omega))
  have e2:=(hfc j hj).1;rw[e1]at e2;simp only[Value.func.injEq,Fn.func.injEq]at e2;obtain⟨e3,_,e4⟩:=e2;rw[<-e3,<-e4];refine hC.mono ?_;rintro e w' ⟨rfl,V2,R2,hs2,hl2,Qh,iJ,MN,TM,I5,k2,f2⟩;refine⟨rfl,⟨V2,R2,hs2,by rw[show n-(k+1)=j by omega];exact hl2,?_,iJ.trans hna,⟨MN.1.trans hud.1,MN.2.trans hud.2⟩,TM.trans hnt,I5.trans hac,kW.from (k2.mono (fun x hx=>hF x hx.1)),fun x hx=>?_⟩,k2.mono (fun x hx=>?_)⟩
  ·rw[Qh];show _=(Vn.lg.nC (uz T n k++T (n-1-k))).tp;rw[Hr,show n-1-k=j by omega];exact KW Xm _
  ·rcases f2 x hx with h | h
   ·exact hF x h
   ·exact .inr (Nat.le_trans kW.size h)
  ·obtain⟨h1,h2⟩:=hx;refine⟨?_,?_⟩
   ·rintro rfl;obtain⟨a,ha,hb⟩:=hga;exact h2 (.inr ⟨a,by rw[hac];exact ha,hb⟩)
   ·rcases R'.Tq h1 with h | h | ⟨c,t,hc,ht⟩
    ·exact .inl (by rw[h];exact hbm)
    ·exact .inl (by rw[h];exact hbo)
    ·exact .inr ⟨c,t,hc,fun e=>h2 (ht e)⟩
 ·rintro k W W' ⟨Vc,R',hs',hl',Xm,hna,hud,hnt,hac,kW,hF⟩ kk;refine⟨Vc,R'.abV kk (fun x hx hr=>?_),hs',hl',Xm,hna,hud,hnt,hac,kW.from (kk.mono (fun x hx=>.inr hx.1)),hF⟩;rcases R'.Tq hx with h | h | ⟨c,t,hc,_⟩
  ·have:=hr.1;rw[h]at this;omega
  ·have:=hr.1;rw[h]at this;omega
  ·exact hr.2 c t hc
 ·exact⟨Vn,R,hs,by rw[Nat.sub_zero];exact hl,rfl,rfl,⟨rfl,rfl⟩,rfl,rfl,aj.refl _ w,fun x hx=>.inl hx⟩
 ·rintro e w' ⟨rfl,h⟩;rw[Nat.sub_self]at h;exact⟨rfl,h⟩
open Go.RowKit
theorem dA.gI{p:Nat->Nat}{V:aS}{S:RS}{N:Nat}(h:dA p V S N)(s:ByteArray):jI S.sy s=true↔∃i,i<V.nb/\(V.B i).sym=s:=by
 constructor
 ·intro hx;rw[jI,List.any_eq_true]at hx;obtain⟨x,hx,e⟩:=hx;simp only[decide_eq_true_eq]at e;subst e;obtain⟨i,hi⟩:=List.getElem?_of_mem hx;have hl:=(List.getElem?_eq_some_iff.1 hi).1;rw[<-h.nb]at hl;have:=h.sym i hl;rw[hi]at this;exact⟨i,hl,(Option.some.inj this).symm⟩
 ·rintro⟨i,hi,rfl⟩;exact qY (h.sym i hi)
theorem below(f:Nat->Nat):∀n,∃b,∀k,k<n->f k<b
 | 0=>⟨0,fun k hk=>by omega⟩
 | n+1=>by
   obtain⟨b,hb⟩:=below f n;refine⟨b+f n+1,fun k hk=>?_⟩;by_cases e:k=n
   ·subst e;omega
   ·have:=hb k (by omega);omega
theorem dA.free{p:Nat->Nat}{V:aS}{S:RS}{N:Nat}(h:dA p V S N):∃b,¬VL V b:=by
 obtain⟨b,hb⟩:=below p S.l.length;refine⟨b,fun hv=>?_⟩;obtain⟨k,hk,e⟩:=(h.vl b).1 hv;have:=hb k hk;omega
theorem zq{l l':List Ord}(o:iT):∀n,(∀k,k<n->ax l k=ax l' k)->lI l o n=lI l' o n
 | 0,_=>rfl
 | n+1,h=>by
   have ih:=zq o n (fun k hk=>h k (by omega));unfold lI;rw[ih,h n (by omega)];cases hb:lI l' o n with
   | none=>rfl
   | some b =>
     have hlt:=AP l' o n b hb;simp only;rw[h b (by omega)]
theorem dA.iE{p:Nat->Nat}{V:aS}{S:RS}{N:Nat}(h:dA p V S N){o:iT}{ib s t:Nat}(hib:ib<V.nb)(hs:s<2)(ht:t=1-s)(dR:o.sym=(V.B ib).sym)(hside:o.side=(t:Int)):(dJ (V.B ib) V.om o s).isSome=(gZ S.l o).isSome:=by
 obtain⟨b,hb⟩:=h.free;have hc:=h.Yy hib hs ht dR hside hb;have hm:∀k,k<(V.B ib).n s->VL V ((V.B ib).h s k):=fun k hk=>(((h.gw.gb ib hib).mem s hs _).1 ⟨k,hk,rfl⟩).1
 have hh:eG (fP (aQ V.om b (aN o))) ((V.B ib).n s) ((V.B ib).h s):=((h.gw.gb ib hib).heap s hs).lQ (fun j k hj hk=>by
  have h1:(V.B ib).h s j≠b:=fun e=>hb (e▸hm j hj)
  have h2:(V.B ib).h s k≠b:=fun e=>hb (e▸hm k hk)
  unfold fP;rw[ah _ _ h1,ah _ _ h2])
 have ED:=hc.DX hs hh;have l0:(S.fresh.add o).l=S.l++[Gx o]:=rfl;rw[l0]at ED;rw[oh,ai]at ED;have e1:dm (Gx o)=o:=rfl;have e2:dm (aN o)=o:=rfl;rw[e1,e2]at ED;have e3:gZ (S.l++[Gx o]) o=gZ S.l o:=by
  unfold gZ;rw[List.length_append,List.length_singleton];rw[lI];have hg:lJ o (ax (S.l++[Gx o]) S.l.length)=false:=by rw[oh];rfl
  rw[hg];simp only[Bool.false_eq_true,if_false];exact zq o _ (fun k hk=>rQ hk)
 rw[e3]at ED;have e4:dJ (V.B ib) (aQ V.om b (aN o)) o s=dJ (V.B ib) V.om o s:=by
  unfold dJ;by_cases e:(V.B ib).n s=0
  ·rw[if_pos e,if_pos e]
  ·have hne:(V.B ib).h s 0≠b:=fun e2=>hb (e2▸hm 0 (by omega))
   rw[if_neg e,if_neg e,ah _ _ hne]
 rw[e4]at ED;rw[<-ED];cases gZ S.l o <;> rfl
def qX:List Int->Int
 | []=>0
 | x :: l=>x+qX l
theorem uy(a b:List Int):qX (a++b)=qX a+qX b:=by
 induction a with
 | nil=>simp[qX]
 | cons x l ih=>simp only[List.cons_append,qX,ih];omega
theorem Fe{a b:List Int}(h:a.Perm b):qX a=qX b:=by
 induction h with
 | nil=>rfl
 | cons x _ ih=>simp only[qX,ih]
 | swap x y l=>simp only[qX];omega
 | trans _ _ h1 h2=>rw[h1,h2]
theorem QH{l₁ l₂:List Nat}(h1:l₁.Nodup)(h2:l₂.Nodup)(h:∀a,a∈l₁↔a∈l₂):l₁.Perm l₂:=by
 induction l₁ generalizing l₂ with
 | nil =>
   have:l₂=[]:=by
    cases l₂ with
    | nil=>rfl
    | cons x l=>exact absurd ((h x).2 (by simp)) (by simp)
   rw[this]
 | cons x l ih =>
   have hx:x∈l₂:=(h x).1 (by simp);rw[List.nodup_cons]at h1;have hp:=List.perm_cons_erase hx;refine List.Perm.trans (List.Perm.cons x (ih h1.2 (h2.erase x) (fun a=>?_))) hp.symm;rw[h2.mem_erase_iff];constructor
   ·intro ha;exact⟨fun e=>h1.1 (e▸ha),(h a).1 (by simp[ha])⟩
   ·rintro⟨hne,ha⟩;have:=(h a).2 ha;simp only[List.mem_cons]at this;exact this.resolve_left hne
def idx(l:List Ord)(sym:ByteArray)(s:Nat):List Nat:=(List.range l.length).filter (fun k=>decide ((ax l k).sym=sym/\(ax l k).side=(s:Int)/\0<(ax l k).aO))
theorem JO(n:Nat):(List.range n).Pairwise (fun a b=>a≠b/\a<n/\b<n):=by
 rw[List.pairwise_iff_getElem];intro a b ha hb hab;simp only[List.length_range]at ha hb;simp only[List.getElem_range];omega
theorem Ak{l:List Ord}{sym:ByteArray}{s k:Nat}:k∈idx l sym s↔(k<l.length/\(ax l k).sym=sym/\(ax l k).side=(s:Int)/\0<(ax l k).aO):=by
 unfold idx;rw[List.mem_filter,List.mem_range,decide_eq_true_eq]
theorem dA.perm{p:Nat->Nat}{V:aS}{S:RS}{N:Nat}(h:dA p V S N){i s:Nat}(hi:i<V.nb)(hs:s<2):(upto ((V.B i).h s) ((V.B i).n s)).Perm ((idx S.l (V.B i).sym s).map p):=by
 refine QH ?_ ?_ (fun x=>?_)
 ·unfold upto;refine List.Pairwise.map _ (R:=fun a b=>a≠b/\a<(V.B i).n s/\b<(V.B i).n s) (fun a b hab e=>hab.1 ((h.gw.gb i hi).inj s hs a b hab.2.1 hab.2.2 e)) (JO _)
 ·refine List.Pairwise.map _ (R:=fun a b=>a≠b/\a<S.l.length/\b<S.l.length) (fun a b hab e=>hab.1 (h.inj a b hab.2.1 hab.2.2 e)) ?_;exact List.Pairwise.filter _ (JO _)
 ·constructor
  ·intro hx;unfold upto at hx;rw[List.mem_map]at hx;obtain⟨k,hk,rfl⟩:=hx;rw[List.mem_range]at hk;obtain⟨a,b,c,d⟩:=((h.gw.gb i hi).mem s hs _).1 ⟨k,hk,rfl⟩;obtain⟨j,hj,e⟩:=(h.vl _).1 a;obtain⟨_,_,e3,e4,_,_,_,_,e9,_⟩:=fK (h.same j hj);rw[e]at e3 e4 e9;rw[List.mem_map];exact⟨j,Ak.2 ⟨hj,by rw[<-e3];exact b,by rw[<-e4];exact c,by rw[<-e9];exact d⟩,e⟩
  ·intro hx;rw[List.mem_map]at hx;obtain⟨j,hj,rfl⟩:=hx;obtain⟨hj,b,c,d⟩:=Ak.1 hj;obtain⟨_,_,e3,e4,_,_,_,_,e9,_⟩:=fK (h.same j hj);obtain⟨k,hk,e⟩:=((h.gw.gb i hi).mem s hs (p j)).2 ⟨(h.vl _).2 ⟨j,hj,rfl⟩,by rw[e3];exact b,by rw[e4];exact c,by rw[e9];exact d⟩;unfold upto;rw[List.mem_map];exact⟨k,List.mem_range.2 hk,e.symm⟩
def ND(o:iT)(x:Ord):Int:=if x.aG≠o.aG/\jc o.kind o.side o.af x.af=true then x.aO else 0
theorem KU(om:Nat->Ord)(h:Nat->Nat)(o:iT):∀n,wR om h o n=qX ((upto h n).map (fun x=>ND o (om x)))
 | 0=>rfl
 | n+1=>by
   rw[wR,KU om h o n];unfold upto;rw[List.range_succ,List.map_append,List.map_append,uy];simp only[List.map_cons,List.map_nil,qX,ND];omega
theorem JF(l:List Ord)(o:iT)(s:Nat)(hs:s<2)(hside:o.side=1-(s:Int))(sd:∀k,k<l.length->(ax l k).side=0\/(ax l k).side=1)(op:∀k,k<l.length->0<=(ax l k).aO):∀n,n<=l.length->um l o n=qX (((List.range n).filter (fun k=>decide ((ax l k).sym=o.sym/\(ax l k).side=(s:Int)/\0<(ax l k).aO))).map (fun k=>ND o (ax l k)))
 | 0,_=>rfl
 | n+1,hn=>by
   rw[um,JF l o s hs hside sd op n (by omega),List.range_succ,List.filter_append,List.map_append,uy];congr 1;have h1:=sd n (by omega);have h2:=op n (by omega);unfold lJ;by_cases c1:(ax l n).sym=o.sym/\(ax l n).side=(s:Int)/\0<(ax l n).aO
   ·obtain⟨a,b,c⟩:=c1;have hne:¬(ax l n).side=o.side:=by omega
    have hop:¬(ax l n).aO=0:=by omega
    rw[List.filter_cons_of_pos (by simp[a,b,c])];simp only[List.filter_nil,List.map_cons,List.map_nil,qX,ND,Int.add_zero];simp only[Bool.and_eq_true,Bool.not_eq_true',beq_eq_false_iff_ne,ne_eq,decide_eq_true_eq,a,hne,hop,not_false_eq_true,true_and,and_true];by_cases c2:jc o.kind o.side o.af (ax l n).af=true <;> by_cases c3:(ax l n).aG=o.aG <;> simp[c2,c3]
   ·rw[List.filter_cons_of_neg (by simpa using c1)];simp only[List.filter_nil,List.map_nil,qX];rw[if_neg];rintro⟨hg,_⟩;simp only[Bool.and_eq_true,Bool.not_eq_true',beq_eq_false_iff_ne,ne_eq,decide_eq_true_eq]at hg;obtain⟨⟨⟨g1,g2⟩,g3⟩,_⟩:=hg;exact c1 ⟨g2,by omega,by omega⟩
theorem dA.whole{p:Nat->Nat}{V:aS}{S:RS}{N:Nat}(h:dA p V S N){o:iT}{ib s t:Nat}(hib:ib<V.nb)(hs:s<2)(ht:t=1-s)(dR:o.sym=(V.B ib).sym)(hside:o.side=(t:Int)):wR V.om ((V.B ib).h s) o ((V.B ib).n s)=um S.l o S.l.length:=by
 rw[KU,JF S.l o s hs (by omega) (fun k hk=>h.side hk) (fun k hk=>(h.aO hk).1) _ (Nat.le_refl _),Fe (List.Perm.map _ (h.perm hib hs)),List.map_map,dR];have:∀k∈idx S.l (V.B ib).sym s,((fun x=>ND o (V.om x))∘p) k=ND o (ax S.l k):=fun k hk=>by
  obtain⟨_,e2,_,_,_,e6,_,_,e9,_⟩:=fK (h.same k (Ak.1 hk).1);simp only[Function.comp,ND,e2,e6,e9]
 rw[List.map_congr_left this]
 rfl
def zQ(s:Int)(p q:Int):Prop:=if s=0 then q<p else p<q
theorem pG(s p:Int):¬zQ s p p:=by unfold zQ;split <;> omega
theorem WW{s p q:Int}(h:¬zQ s p q)(hne:p≠q):zQ s q p:=by unfold zQ at *;split at h <;> split <;> omega
theorem Ep{s p q r:Int}(h:zQ s p q)(k:zQ s q r):zQ s p r:=by unfold zQ at *;split at h <;> split at k <;> (try split) <;> omega
theorem Si{s p q:Int}(h:zQ s p q):¬zQ s q p:=by unfold zQ at *;split at h <;> split <;> omega
def po(o:Ord):Int × Int:=(o.af,o.aO)
def qs(p:Int)(L:List (Int × Int)):Int:=qX ((L.filter (fun x=>decide (x.1=p))).map (·.2))
def cn(p:Int)(L:List (Int × Int)):Int:=((L.filter (fun x=>decide (x.1=p))).length:Int)
theorem ou(p:Int)(L:List (Int × Int))(a:Int × Int):qs p (L++[a])=qs p L+(if a.1=p then a.2 else 0):=by
 unfold qs;rw[List.filter_append,List.map_append,uy];congr 1;by_cases h:a.1=p <;> simp[h,qX]
theorem nZ(p:Int)(L:List (Int × Int))(a:Int × Int):cn p (L++[a])=cn p L+(if a.1=p then 1 else 0):=by
 unfold cn;rw[List.filter_append,List.length_append];by_cases h:a.1=p <;> simp[h]
theorem xX{p:Int}{L:List (Int × Int)}(h:∀a∈L,a.1≠p):qs p L=0/\cn p L=0:=by
 have:L.filter (fun x=>decide (x.1=p))=[]:=by
  rw[List.filter_eq_nil_iff];intro a ha
  simpa using h a ha
 unfold qs cn;rw[this];exact⟨rfl,rfl⟩
theorem XV(p:Int){L L':List (Int × Int)}(h:L.Perm L'):qs p L=qs p L'/\cn p L=cn p L':=by
 unfold qs cn;have:=h.filter (fun x=>decide (x.1=p));exact⟨Fe (this.map _),by rw[this.length_eq]⟩
theorem ab7(p:Int)(L:List (Int × Int))(h:∀a∈L,0<=a.2/\a.2<=1000000000000000):0<=qs p L/\qs p L<=L.length * 1000000000000000/\0<=cn p L/\cn p L<=L.length:=by
 induction L with
 | nil=>simp[qs,cn,qX]
 | cons a L ih =>
   have h1:=h a (by simp);have h2:=ih (fun x hx=>h x (by simp[hx]));by_cases e:a.1=p
   ·have e1:qs p (a :: L)=a.2+qs p L:=by unfold qs;rw[List.filter_cons_of_pos (by simpa using e)];rfl
    have e2:cn p (a :: L)=cn p L+1:=by unfold cn;rw[List.filter_cons_of_pos (by simpa using e)];simp
    rw[e1,e2,List.length_cons];push_cast;omega
   ·have e1:qs p (a :: L)=qs p L:=by unfold qs;rw[List.filter_cons_of_neg (by simpa using e)]
    have e2:cn p (a :: L)=cn p L:=by unfold cn;rw[List.filter_cons_of_neg (by simpa using e)]
    rw[e1,e2,List.length_cons];push_cast;omega
theorem SH{p:Int}{L:List (Int × Int)}(h:0<cn p L):∃a∈L,a.1=p:=by
 by_cases h0:∀a∈L,a.1≠p
 ·rw[(xX h0).2]at h;omega
 ·simp only[ne_eq,Classical.not_forall,Classical.not_not,not_imp]at h0;obtain⟨a,ha,e⟩:=h0;exact⟨a,ha,e⟩
structure LvS(s:Int)(A:List (Int × Int))(ls:List kQ):Prop where
 ord:ls.Pairwise (fun a b=>zQ s a.af b.af)
 val:∀l∈ls,l.aK=qs l.af A/\l.num=cn l.af A/\0<l.num
 all:∀a∈A,∃l∈ls,l.af=a.1
theorem XF(s:Int)(os:List Ord)(hl:os.length<=1000)(hb:∀o∈os,0<=o.aO/\o.aO<=1000000000000000)(hs:os.Pairwise (fun a b=>¬zQ s b.af a.af)) :
 LvS s (os.map po) (jg os):=by
 have gen:∀(A B:List Ord) (ls:List kQ),A++B=os->LvS s (A.map po) ls->(∀l,ls.getLast?=some l->∃o,A.getLast?=some o/\o.af=l.af)->(ls=[]->A=[])->LvS s (os.map po) (B.foldl jH ls):=by
  intro A B
  induction B generalizing A with
  | nil=>intro ls e h _ _;rw[List.append_nil]at e;subst e;exact h
  | cons o B ih =>
    intro ls e h hlast hnil;have e':(A++[o])++B=os:=by rw[<-e];simp
    rw[List.foldl_cons];have hA:∀x∈A,¬zQ s o.af x.af:=by
     intro x hx;rw[<-e',List.append_assoc,List.pairwise_append]at hs;exact hs.2.2 x hx o (by simp)
    have ho:=hb o (by rw[<-e];simp);have ZL:∀a∈A.map po,0<=a.2/\a.2<=1000000000000000:=by
     intro a ha;rw[List.mem_map]at ha;obtain⟨x,hx,rfl⟩:=ha;exact hb x (by rw[<-e];simp[hx])
    have hlA:(A.map po).length<=1000:=by rw[List.length_map];rw[<-e,List.length_append]at hl;omega
    have hmap:(A++[o]).map po=A.map po++[(o.af,o.aO)]:=by simp[po]
    have hall:∀l∈ls,¬zQ s o.af l.af:=by
     intro l hl2;obtain⟨_,h2,h3⟩:=h.val l hl2;obtain⟨a,ha,e2⟩:=SH (by rw[<-h2];exact h3);rw[List.mem_map]at ha;obtain⟨x,hx,rfl⟩:=ha;have:=hA x hx;rw[<-e2];exact this
    refine ih (A++[o]) (jH ls o) e' ?_ ?_ ?_
    ·rcases List.eq_nil_or_concat ls with rfl | ⟨ini,l,e3⟩
     ·have:A=[]:=hnil rfl;subst this;refine⟨by simp[jH],fun l hl2=>?_,fun a ha=>?_⟩
      ·simp only[jH,List.getLast?_nil,List.mem_singleton]at hl2;subst hl2;simp only[List.nil_append,List.map_cons,List.map_nil];have q1:=ou o.af [] (po o);have q2:=nZ o.af [] (po o);rw[List.nil_append]at q1 q2;rw[q1,q2];refine⟨?_,?_,by decide⟩
       ·rw[aT (by omega) (by omega)];simp[po,qs,qX]
       ·simp[po,cn]
      ·simp only[List.nil_append,List.map_cons,List.map_nil,List.mem_singleton]at ha;subst ha;exact⟨⟨o.af,wrap64 o.aO,1⟩,by simp[jH],rfl⟩
     ·rw[List.concat_eq_append]at e3;subst e3;have hv:=h.val l (by simp);have hord:=h.ord;rw[List.pairwise_append]at hord;obtain⟨o1,_,o3⟩:=hord;have qb:=ab7 l.af (A.map po) ZL;by_cases ep:l.af=o.af
      ·rw[pO _ _ _ ep];have w1:wrap64 (l.aK+o.aO)=qs l.af (A.map po)+o.aO:=by rw[hv.1];exact aT (by omega) (by omega)
       have w2:wrap64 (l.num+1)=cn l.af (A.map po)+1:=by rw[hv.2.1];exact aT (by omega) (by omega)
       refine⟨?_,fun x hx=>?_,fun a ha=>?_⟩
       ·rw[List.pairwise_append];exact⟨o1,List.pairwise_singleton _ _,fun a ha b hb2=>by rw[List.mem_singleton]at hb2;subst hb2;exact o3 a ha l (by simp)⟩
       ·rw[List.mem_append,List.mem_singleton]at hx;rw[hmap];rcases hx with hx | hx
        ·have hne:¬o.af=x.af:=fun e4=>by
          have:=o3 x hx l (by simp);rw[<-e4,<-ep]at this;exact pG _ _ this
         have:=h.val x (by simp[hx]);rw[ou,nZ,if_neg hne,if_neg hne,Int.add_zero,Int.add_zero];exact this
        ·subst hx;simp only;rw[ou,nZ,if_pos ep.symm,if_pos ep.symm];exact⟨w1,w2,by rw[w2];omega⟩
       ·rw[hmap,List.mem_append,List.mem_singleton]at ha;rcases ha with ha | ha
        ·obtain⟨x,hx,e4⟩:=h.all a ha;rw[List.mem_append,List.mem_singleton]at hx;rcases hx with hx | hx
         ·exact⟨x,by simp[hx],e4⟩
         ·subst hx;exact⟨⟨x.af,wrap64 (x.aK+o.aO),wrap64 (x.num+1)⟩,by simp,e4⟩
        ·subst ha;exact⟨⟨l.af,wrap64 (l.aK+o.aO),wrap64 (l.num+1)⟩,by simp,ep⟩
      ·rw[og _ _ _ ep];have hbl:zQ s l.af o.af:=WW (hall l (by simp)) (fun x=>ep x.symm);have ZM:∀x∈ini++[l],zQ s x.af o.af:=by
        intro x hx;rw[List.mem_append,List.mem_singleton]at hx;rcases hx with hx | hx
        ·exact Ep (o3 x hx l (by simp)) hbl
        ·rw[hx];exact hbl
       have hno:∀a∈A.map po,a.1≠o.af:=by
        intro a ha e4;obtain⟨x,hx,e5⟩:=h.all a ha;have:=ZM x hx;rw[e5,e4]at this;exact pG _ _ this
       refine⟨?_,fun x hx=>?_,fun a ha=>?_⟩
       ·rw[List.pairwise_append];exact⟨h.ord,List.pairwise_singleton _ _,fun a ha b hb2=>by rw[List.mem_singleton]at hb2;subst hb2;exact ZM a ha⟩
       ·rw[List.mem_append,List.mem_singleton]at hx;rw[hmap];rcases hx with hx | hx
        ·have hne:¬o.af=x.af:=fun e4=>by
          have:=ZM x hx;rw[<-e4]at this;exact pG _ _ this
         rw[ou,nZ,if_neg hne,if_neg hne,Int.add_zero,Int.add_zero];exact h.val x hx
        ·subst hx;simp only;rw[ou,nZ,if_pos rfl,if_pos rfl,(xX hno).1,(xX hno).2];refine⟨?_,rfl,by decide⟩;rw[aT (by omega) (by omega)];simp
       ·rw[hmap,List.mem_append,List.mem_singleton]at ha;rcases ha with ha | ha
        ·obtain⟨x,hx,e4⟩:=h.all a ha;exact⟨x,by rw[List.mem_append];exact .inl hx,e4⟩
        ·subst ha;exact⟨⟨o.af,wrap64 o.aO,1⟩,by simp,rfl⟩
    ·intro l hl2;refine⟨o,by simp,?_⟩;rcases List.eq_nil_or_concat ls with rfl | ⟨ini,l0,e3⟩
     ·simp[jH]at hl2;rw[<-hl2]
     ·rw[List.concat_eq_append]at e3;subst e3;by_cases ep:l0.af=o.af
      ·rw[pO _ _ _ ep]at hl2;simp at hl2;rw[<-hl2];exact ep.symm
      ·rw[og _ _ _ ep]at hl2;simp at hl2;rw[<-hl2]
    ·intro hx;exfalso;rcases List.eq_nil_or_concat ls with rfl | ⟨ini,l0,e3⟩
     ·simp[jH]at hx
     ·rw[List.concat_eq_append]at e3;subst e3;by_cases ep:l0.af=o.af
      ·rw[pO _ _ _ ep]at hx;simp at hx
      ·rw[og _ _ _ ep]at hx;simp at hx
 exact gen [] os [] rfl ⟨List.Pairwise.nil,fun l hl2=>absurd hl2 (by simp),fun a ha=>absurd ha (by simp)⟩ (fun l hl2=>by simp at hl2) (fun _=>rfl)
attribute [local go_sem ↓] Go.wp_at_zero Go.wp_at_succ
end Go.Proofs.YtigaphnafnpfnaaGreatDoor
