import Derived.Test.YtigaphnafnpfnaaGreatDoorQVV27
import Derived.Test.YtigaphnafnpfnaaGreatDoorQVV24
set_option linter.unusedVariables false
set_option linter.unusedSimpArgs false
set_option maxHeartbeats 8000000
set_option maxRecDepth 100000
namespace Go.Proofs.YtigaphnafnpfnaaGreatDoor
open Go.RowKit Go.Maps Go.Shelf
def Lg.lT(G:Lg)(T:List (Int × Tr)):Lg:=T.foldl (fun G p=>G.told p.1 p.2) G
def Y0(bv bm bo:Nat)(V Vc:aQ)(T:List (Int × Tr))(w w':World):Prop :=
 ∃Tq,dN w' bv bm bo Tq/\HS Tq/\dK V Tq/\Tq.lg.tp=(Vc.lg.lT T).tp/\Tq.lg.na=Vc.lg.na/\Tq.lg.ud=Vc.lg.ud/\Tq.lg.nt=Vc.lg.nt/\Tq.lm.ac=Vc.lm.ac/\au (fun x=>dI bv bm bo Vc x/\¬gy Vc.lm.av Vc.lm.ac x) w w'/\∀x,dI bv bm bo Tq x->dI bv bm bo Vc x\/w.heap.size<=x
theorem dN.XO{w:World}{bv bm bo:Nat}{V:aQ}(R:dN w bv bm bo V){x:Nat}{c:Array Value}{t:TypeId}(hb:az w x c t)(h1:t≠109)(h2:t≠1):¬gy V.lm.av V.lm.ac x:=fun h=>by
 obtain⟨c',t',hc,ht⟩:=R.aO.aO.act.fZ h
 unfold az at hb hc
 rw[hb]at hc
 simp only[Option.some.injEq,Obj.cells.injEq]at hc
 obtain⟨_,e,_⟩:=hc
 subst e
 rcases ht with e|e
 ·exact h1 e
 ·exact h2 e
section
variable {w w' : World} {bv bm bo : Nat} {Vc : aQ}
theorem dN.yH(R:dN w bv bm bo Vc){S:Nat->Prop}(k:au S w w')(hF:∀x,S x->dI bv bm bo Vc x)(hT:∀x,S x->∃c t,az w x c t/\t≠109/\t≠1):au (fun x=>dI bv bm bo Vc x/\¬gy Vc.lm.av Vc.lm.ac x) w w' :=
 k.mono (fun x hx=>⟨hF x hx,by obtain⟨c,t,hc,h1,h2⟩:=hT x hx;exact R.XO hc h1 h2⟩)
theorem dN.yI(R:dN w bv bm bo Vc){S:Nat->Prop}(k:au S w w')(hF:∀x,S x->x=bv\/Vc.lm.F x)(hT:∀x,S x->∃c t,az w x c t/\t≠109/\t≠1){bH:Lm}{G':Lg}(hl:bu w' bv bm bo G' bH)(hF':∀x,bH.F x->Vc.lm.F x\/w.heap.size<=x) :
 dN w' bv bm bo { Vc with lg:=G',lm:=bH }/\au (fun x=>dI bv bm bo Vc x/\¬gy Vc.lm.av Vc.lm.ac x) w w'/\∀x,dI bv bm bo { Vc with lg:=G',lm:=bH } x->dI bv bm bo Vc x\/w.heap.size<=x:=by
 refine⟨R.jH hl (k.mono hF),R.yH k (fun x hx=>?_) hT,fun x hx=>?_⟩
 ·rcases hF x hx with h|h
  ·exact .inl h
  ·exact .inr (.inr (.inr (.inr (.inr h))))
 ·rcases hx with h|h|h|h|h|h
  ·exact .inl (.inl h)
  ·exact .inl (.inr (.inl h))
  ·exact .inl (.inr (.inr (.inl h)))
  ·exact .inl (.inr (.inr (.inr (.inl h))))
  ·exact .inl (.inr (.inr (.inr (.inr (.inl h)))))
  ·exact (hF' x h).imp_left (fun h=>.inr (.inr (.inr (.inr (.inr h)))))
end
theorem NQ(bv bm bo lo:Nat)(bk:Nat->Nat)(d:dS)(c:Value)(T:List (Int × Tr))(V V1 Vc:aQ)(w:World)(R:dN w bv bm bo Vc)(hs:HS Vc)(hl:dK V1 Vc)(hb:BX bk d T V V1)(hI:bJ w bv bk lo d c)
 (hsep:∀fn cp x,c=.func fn #[] cp->dn x∈cp.toList->¬dI bv bm bo Vc x) (hcnt:∀i,i<Vc.nb->∀s,s<2->(Vc.B i).n s<1000) (htp:Vc.lg.tp.length<1000000000) (htr:Vc.lg.tr.length<1000000000) :
 ∃f cp,c=.func (.func f) #[] cp/\Enters Tryz.prog f/\Calls Tryz.prog f cp w fun e w'=>e=.returned (.tuple #[])/\Y0 bv bm bo V Vc T w w':=by
 have nbe:=hl.nb
 obtain⟨fn,cp,rfl,hI⟩:=hI
 cases d with
 | fA b o =>
   obtain⟨rfl,H,_,rfl,hN⟩:=hI
   obtain⟨rfl,hb1,hb2,hb3,hb4⟩:=hb
   refine⟨151,_,rfl,enters_of Tryz.func151 (by kernel_rfl) rfl,?_⟩
   have hvb:VL Vc b:=(hl.vl b).2 hb1
   have eo:=hl.om b hb1
   refine (Uz bv bm bo b H o Vc w R hvb (by rw[eo];exact hb2) hN).mono ?_
   rintro e w' ⟨rfl,R',k'⟩
   obtain⟨id,hid⟩:=hvb
   obtain⟨_,ix,ho⟩:=R.bg id b hid
   exact⟨rfl,_,R',hs.fA (fun i hi s h2 hm=>by rw[eo];exact hb3 i (by omega) s h2 ((hl.mem i (by omega) s h2 b).1 hm)),Qr hl hb1 hb4,rfl,rfl,rfl,rfl,rfl,R.yH k' (fun x e=>by subst e;exact .inr (.inr (.inr (.inr (.inl ⟨id,hid⟩))))) (fun x e=>by subst e;exact⟨_,116,ho,by decide,by decide⟩),fun x hx=>.inl hx⟩
 | left b =>
   obtain⟨rfl,H,_,rfl,hN⟩:=hI
   obtain⟨rfl,i,s,hi,h2,hbk,hvb,hsd,hout,hd,jk⟩:=hb
   refine⟨117,_,rfl,enters_of Tryz.func117 (by kernel_rfl) rfl,?_⟩
   rw[hbk,<-hl.bk i hi]at hN
   have hvc:VL Vc b:=(hl.vl b).2 hvb
   have ho:=hl.out hout
   have hi':i<Vc.nb:=by omega
   have ZV:(Vc.om b).side=(s:Int):=by rw[hl.om b hvb];exact hsd
   have ho':∀j,j<Vc.nb->∀t,t<2->∀k,k<(Vc.B j).n t->(Vc.B j).h t k≠b:=fun j hj t ht k hk e=>ho j hj t ht ⟨k,hk,e.symm⟩
   refine (Qp bv bm bo b H i s Vc w R hi' h2 hvc ZV ho' (hcnt i hi' s h2) hN).mono ?_
   rintro e w' ⟨rfl,g,cap',R',k',f'⟩
   obtain⟨id,hid⟩:=hvc
   obtain⟨_,ix,hob⟩:=R.bg id b hid
   refine⟨rfl,_,R',hs.push hi' h2 ZV (ho' i hi' s h2),Ns hl hi h2 hd jk,rfl,rfl,rfl,rfl,rfl,R.yH k' (fun x hx=>?_) (fun x hx=>?_),f'⟩
   ·rcases hx with h|h|h
    ·exact .inr (.inr (.inr (.inl ⟨i,hi',.inl h⟩)))
    ·subst h;exact .inr (.inr (.inr (.inr (.inl ⟨id,hid⟩))))
    ·exact .inr (.inr (.inr (.inl ⟨i,hi',.inr ⟨s,h2,h⟩⟩)))
   ·obtain⟨c,t,hc,ht⟩:=(R.qQ hi').fZ (b:=x) (by
     rcases hx with h|h|h
     ·exact .inl h
     ·subst h;exact .inr (.inl ⟨id,hid⟩)
     ·exact .inr (.inr ⟨s,h2,h⟩))
    exact⟨c,t,hc,by rcases ht with rfl|rfl|rfl <;> decide,by rcases ht with rfl|rfl|rfl <;> decide⟩
 | eQ b p =>
   obtain⟨rfl,H,_,rfl,hN⟩:=hI
   obtain⟨rfl,i,s,hi,h2,hbk,hvb,hm,hd,jk⟩:=hb
   refine⟨153,_,rfl,enters_of Tryz.func153 (by kernel_rfl) rfl,?_⟩
   rw[hbk,<-hl.bk i hi]at hN
   have hi':i<Vc.nb:=by omega
   obtain⟨k,hk,ek⟩:=(hl.mem i hi s h2 b).2 hm
   rw[ek]at hN
   refine (QT bv bm bo H i s k p Vc w R hi' h2 hk ((hs i hi' s h2).2.2 k hk) (hsep _ _ _ rfl (by simp)) hN).mono ?_
   rintro e w' ⟨rfl,R',k',f'⟩
   refine⟨rfl,_,R',hs.jK hi' h2 hk (fun j hj t ht hmm=>?_),Nu hl hs hi h2 hk ek hvb hd jk,rfl,rfl,rfl,rfl,rfl,R.yH k' (fun x hx=>?_) (fun x hx=>?_),f'⟩
   ·obtain⟨k2,hk2,e2⟩:=hmm
    by_cases ej:j=i
    ·subst ej
     refine⟨rfl,?_⟩
     by_cases et:t=s
     ·exact et
     ·exact absurd (.inr ⟨k,hk,e2.symm⟩) ((R.aW j hj).kQ ht h2 et (.inr ⟨k2,hk2,rfl⟩))
    ·exact absurd (.inr ⟨k,hk,e2.symm⟩) (R.lZ j i hj hi' ej t s ht h2 _ (.inr ⟨k2,hk2,rfl⟩))
   ·rcases hx with h|h
    ·exact .inr (.inr (.inr (.inl ⟨i,hi',.inl h⟩)))
    ·exact .inr (.inr (.inr (.inl ⟨i,hi',.inr ⟨s,h2,h⟩⟩)))
   ·obtain⟨c,t,hc,ht⟩:=(R.qQ hi').fZ (b:=x) (by
     rcases hx with h|h
     ·exact .inl h
     ·exact .inr (.inr ⟨s,h2,h⟩))
    exact⟨c,t,hc,by rcases ht with rfl|rfl|rfl <;> decide,by rcases ht with rfl|rfl|rfl <;> decide⟩
 | entered id =>
   obtain⟨rfl,H,cs,_,rfl,h1,h2,h3⟩:=hI
   obtain⟨rfl,b,hb1,hb2,hb3,hb4,hb5⟩:=hb
   refine⟨114,_,rfl,enters_of Tryz.func114 (by kernel_rfl) rfl,?_⟩
   have ho:=hl.out hb4
   refine (TF bv bm bo H b id cs Vc w R hb2 (by rw[hl.aU];exact hb1) (by rw[hl.no];exact hb3) (fun j hj t ht k hk e=>ho j hj t ht ⟨k,hk,e.symm⟩) h1 h2 h3).mono ?_
   rintro e w' ⟨rfl,R',k'⟩
   obtain⟨fO,mO,_⟩:=R.fD
   refine⟨rfl,_,R',hs,JE hl hb5,rfl,rfl,rfl,rfl,rfl,k'.mono (fun x e=>?_),fun x hx=>?_⟩
   ·subst e
    refine⟨.inr (.inr (.inl rfl)),fun h=>?_⟩
    obtain⟨c',t',hc,_⟩:=R.aO.aO.act.fZ h
    exact mO.ne hc rfl
   ·rcases hx with h|h|h|h|⟨j,h⟩|h
    ·exact .inl (.inl h)
    ·exact .inl (.inr (.inl h))
    ·exact .inl (.inr (.inr (.inl h)))
    ·exact .inl (.inr (.inr (.inr (.inl h))))
    ·simp only[aQ.xU]at h
     by_cases e:j=id
     ·rw[if_pos e]at h;simp at h
     ·rw[if_neg e]at h;exact .inl (.inr (.inr (.inr (.inr (.inl ⟨j,h⟩)))))
    ·exact .inl (.inr (.inr (.inr (.inr (.inr h)))))
 | cO s =>
   obtain⟨rfl,H,K,_,_,rfl,h1,h2⟩:=hI
   obtain⟨rfl,n,hb1,hb2,hb3,hb4⟩:=hb
   refine⟨54,_,rfl,enters_of Tryz.func54 (by kernel_rfl) rfl,?_⟩
   refine (Us bv bm bo H K n s Vc w R (by omega) (by rw[hl.sym n (by omega)];exact hb2) hb3 h1 h2).mono ?_
   rintro e w' ⟨rfl,R',k'⟩
   obtain⟨fB,mB,_⟩:=R.ik
   refine⟨rfl,_,R',fun i hi=>hs i (Nat.lt_of_lt_of_le hi (Nat.sub_le _ _)),JD hl hb4,rfl,rfl,rfl,rfl,rfl,k'.mono (fun x e=>?_),fun x hx=>?_⟩
   ·subst e
    refine⟨.inr (.inl rfl),fun h=>?_⟩
    obtain⟨c',t',hc,_⟩:=R.aO.aO.act.fZ h
    exact mB.ne hc rfl
   ·rcases hx with h|h|h|⟨i,hi,h⟩|h|h
    ·exact .inl (.inl h)
    ·exact .inl (.inr (.inl h))
    ·exact .inl (.inr (.inr (.inl h)))
    ·exact .inl (.inr (.inr (.inr (.inl ⟨i,Nat.lt_of_lt_of_le hi (Nat.sub_le _ _),h⟩))))
    ·exact .inl (.inr (.inr (.inr (.inr (.inl h)))))
    ·exact .inl (.inr (.inr (.inr (.inr (.inr h)))))
 | iH t =>
   obtain⟨rfl,H,_,rfl,h1,h2⟩:=hI
   obtain⟨rfl,L,x,hb1,hb2,hb3⟩:=hb
   refine⟨211,_,rfl,enters_of Tryz.func211 (by kernel_rfl) rfl,?_⟩
   have hG:Vc.lg.tr=L++[x]:=by rw[hl.tr];exact hb1
   refine (RG bv bm bo H L.length t x L Vc.lg Vc.lm w R.aO hG rfl hb2 htp (by rw[hG]at htr;simp at htr;omega) h1 h2).mono ?_
   rintro e w' ⟨rfl,m',a1,a2,a3,a4,a5⟩
   obtain⟨R',k',f'⟩:=R.yI a3 (fun x hx=>by
    rcases hx with h|h|h
    ·exact .inl h
    ·exact .inr (.inl h)
    ·exact .inr (.inr (.inl (.inl h)))) (fun x hx=>by
    rcases hx with h|h|h
    ·subst h;exact⟨_,100,R.dA,by decide,by decide⟩
    ·obtain⟨cs,hc⟩:=bF R.aO.aO.jq h;exact⟨cs,103,hc,by decide,by decide⟩
    ·obtain⟨cs,hc⟩:=bF R.aO.aO.iF h;exact⟨cs,62,hc,by decide,by decide⟩) a1 a2
   exact⟨rfl,_,R',hs,vI hl (G1:={ V1.lg with tr:=L }) (m1:={ V1.lm with tb:=V1.lm.tb.dropLast }) rfl hl.day (by rw[a5,hl.tb]) hb3,rfl,rfl,rfl,rfl,a4,k',f'⟩
 | jw tb =>
   obtain⟨rfl,H,K,_,_,rfl,h1,h2⟩:=hI
   obtain⟨k,x,rfl,hb1,hb2,hb3⟩:=hb
   refine⟨74,_,rfl,enters_of Tryz.func74 (by kernel_rfl) rfl,?_⟩
   have hx:Vc.lg.tr[k]?=some x:=by rw[hl.tr];exact hb1
   have htb:Vc.lm.tb[k]?=some tb:=by rw[hl.tb];exact hb2
   refine (O0 bv bm bo H K k tb Vc.lg Vc.lm x w R.aO hx htb htp h1 h2).mono ?_
   rintro e w' ⟨rfl,m',a1,a2,a3,a4,a5⟩
   obtain⟨R',k',f'⟩:=R.yI a3 (fun y hy=>by
    rcases hy with h|h|h
    ·subst h;exact .inr (.inr (.inr (.inl (List.mem_of_getElem? htb))))
    ·exact .inl h
    ·exact .inr (.inr (.inl (.inl h)))) (fun y hy=>by
    rcases hy with h|h|h
    ·subst h;exact⟨_,105,R.aO.aO.aB k y x htb hx,by decide,by decide⟩
    ·subst h;exact⟨_,100,R.dA,by decide,by decide⟩
    ·obtain⟨cs,hc⟩:=bF R.aO.aO.iF h;exact⟨cs,62,hc,by decide,by decide⟩) a1 a2
   exact⟨rfl,_,R',hs,vI hl (G1:=V1.lg.oN k x.t) (m1:=V1.lm) (by show Vc.lg.tr.set k _=V1.lg.tr.set k _;rw[hl.tr]) hl.day (a5.trans hl.tb) hb3,rfl,rfl,rfl,rfl,a4,k',f'⟩
 | iE tb p =>
   obtain⟨rfl,H,K,J,_,_,_,rfl,h1,h2,h3⟩:=hI
   obtain⟨k,x,rfl,hb1,hb2,hb3⟩:=hb
   refine⟨77,_,rfl,enters_of Tryz.func77 (by kernel_rfl) rfl,?_⟩
   have hx:Vc.lg.tr[k]?=some x:=by rw[hl.tr];exact hb1
   have htb:Vc.lm.tb[k]?=some tb:=by rw[hl.tb];exact hb2
   refine (QO bv bm bo H K J k tb p Vc.lg Vc.lm x w R.aO hx htb htp h1 h2 h3).mono ?_
   rintro e w' ⟨rfl,m',a1,a2,a3,a4,a5,S,kS,hS⟩
   obtain⟨R',k',f'⟩:=R.yI (S:=fun y=>(y=bv\/Vc.lm.F y)/\S y) ⟨a3.os,a3.tape,a3.output,a3.size,fun y hy hn=>by
    by_cases h:S y
    ·exact a3.block y hy (fun h'=>hn ⟨h',h⟩)
    ·exact kS.block y hy h⟩ (fun y hy=>hy.1) (fun y hy=>by
    obtain⟨c,t,hc,ht⟩:=hS y hy.2
    exact⟨c,t,hc,by rcases ht with rfl|rfl|rfl <;> decide,by rcases ht with rfl|rfl|rfl <;> decide⟩) a1 a2
   exact⟨rfl,_,R',hs,vI hl (G1:=V1.lg.jf k x p) (m1:=V1.lm) (by show Vc.lg.tr.set k _=V1.lg.tr.set k _;rw[hl.tr]) hl.day (a5.1.trans hl.tb) hb3,rfl,rfl,rfl,rfl,a4,k',f'⟩
 | closed =>
   obtain⟨rfl,H,_,rfl,h1⟩:=hI
   obtain⟨rfl,hb1⟩:=hb
   refine⟨79,_,rfl,enters_of Tryz.func79 (by kernel_rfl) rfl,?_⟩
   refine (O4 bv bm bo H Vc.lg Vc.lm w R.aO h1).mono ?_
   rintro e w' ⟨rfl,a1,a2⟩
   obtain⟨R',k',f'⟩:=R.yI a2 (fun y hy=>.inl hy) (fun y hy=>by subst hy;exact⟨_,100,R.dA,by decide,by decide⟩) a1 (fun y hy=>.inl hy)
   exact⟨rfl,_,R',hs,vI hl (G1:={ V1.lg with day:=wrap64 (V1.lg.day-1) }) (m1:=V1.lm) hl.tr (by show wrap64 (Vc.lg.day-1)=_;rw[hl.day]) hl.tb hb1,rfl,rfl,rfl,rfl,rfl,k',f'⟩
theorem dN.aae{w w':World}{bv bm bo:Nat}{V:aQ}(R:dN w bv bm bo V){S:Nat->Prop}(k:au S w w')(hS:∀x,dI bv bm bo V x->¬S x):dN w' bv bm bo V:=by
 obtain⟨gB,nB,g1,g2⟩:=R.ik
 obtain⟨gO,nO,g3⟩:=R.fD
 refine⟨R.aO.aC k (hS _ (.inl rfl)) (fun y h=>hS y (.inr (.inr (.inr (.inr (.inr h)))))),⟨gB,nB.aC k (hS _ (.inr (.inl rfl))),g1,g2⟩,⟨gO,nO.aC k (hS _ (.inr (.inr (.inl rfl)))),g3⟩,R.E5,fun i hi=>(R.aW i hi).aC k (fun y h=>hS y (.inr (.inr (.inr (.inl ⟨i,hi,h⟩))))),fun id b h=>⟨(R.bg id b h).1,?_⟩,R.mem,R.qL,R.lZ,R.gp⟩
 obtain⟨_,ix,ho⟩:=R.bg id b h
 exact⟨ix,k.aB ho (hS b (.inr (.inr (.inr (.inr (.inl ⟨id,h⟩))))))⟩
theorem dN.Vu{w:World}{bv bm bo x:Nat}{V:aQ}(R:dN w bv bm bo V)(h:dI bv bm bo V x):x=bm\/x=bo\/∃c t,az w x c t/\(t=109->gy V.lm.av V.lm.ac x):=by
 rcases h with h|h|h|⟨i,hi,h⟩|⟨id,h⟩|h
 ·subst h;exact .inr (.inr ⟨_,100,R.dA,fun e=>absurd e (by decide)⟩)
 ·exact .inl h
 ·exact .inr (.inl h)
 ·obtain⟨c,t,hc,ht⟩:=(R.qQ hi).fZ (b:=x) (h.imp_right .inr)
  exact .inr (.inr ⟨c,t,hc,by rcases ht with rfl|rfl|rfl <;> exact fun e=>absurd e (by decide)⟩)
 ·obtain⟨_,ix,ho⟩:=R.bg id x h
  exact .inr (.inr ⟨_,116,ho,fun e=>absurd e (by decide)⟩)
 ·obtain⟨c,t,hc,ht⟩:=R.aO.aO.fZ h
  refine .inr (.inr ⟨c,t,hc,fun e=>?_⟩)
  subst e
  rcases h with h|(h|h)|h|h
  ·obtain⟨cs,h'⟩:=bF R.aO.aO.jq h;exact absurd rfl (az.ne hc h' (by decide))
  ·obtain⟨cs,h'⟩:=bF R.aO.aO.iF h;exact absurd rfl (az.ne hc h' (by decide))
  ·obtain⟨cs,h'⟩:=bF R.aO.aO.kH h;exact absurd rfl (az.ne hc h' (by decide))
  ·obtain⟨i,hi,e⟩:=List.mem_iff_getElem.1 h
   have hj:i<V.lg.tr.length:=by rw[<-R.aO.aO.len];exact hi
   exact absurd rfl (az.ne hc (R.aO.aO.aB i x _ (by rw[List.getElem?_eq_getElem hi,e]) (List.getElem?_eq_getElem hj)) (by decide))
  ·exact h
def DI(c:Value)(x:Nat):Prop:=∃fn cp,c=.func fn #[] cp/\dn x∈cp.toList
theorem bJ.Qk{w w':World}{bv:Nat}{bk:Nat->Nat}{lo:Nat}{d:dS}{c:Value}{S:Nat->Prop}(h:bJ w bv bk lo d c)(k:au S w w')(hS:∀x,DI c x->¬S x):bJ w' bv bk lo d c:=by
 obtain⟨fn,cp,rfl,h⟩:=h
 refine⟨fn,cp,rfl,?_⟩
 have hS':∀x,dn x∈cp.toList->¬S x:=fun x hx=>hS x ⟨fn,cp,rfl,hx⟩
 cases d with
 | fA b od =>
   obtain⟨e,H,h0,rfl,h1,h2⟩:=h
   exact⟨e,H,h0,rfl,k.aB h1 (hS' _ (by simp)),k.aB h2 (hS' _ (by simp))⟩
 | left b =>
   obtain⟨e,H,h0,rfl,h1,h2⟩:=h
   exact⟨e,H,h0,rfl,k.aB h1 (hS' _ (by simp)),k.aB h2 (hS' _ (by simp))⟩
 | eQ b p =>
   obtain⟨e,H,h0,rfl,⟨h1,h2⟩,h3⟩:=h
   exact⟨e,H,h0,rfl,⟨k.aB h1 (hS' _ (by simp)),k.aB h2 (hS' _ (by simp))⟩,k.aB h3 (hS' _ (by simp))⟩
 | entered id =>
   obtain⟨e,H,cs,h0,rfl,h1,h2,h3⟩:=h
   exact⟨e,H,cs,h0,rfl,k.aB h1 (hS' _ (by simp)),k.aB h2 (hS' _ (by simp)),h3⟩
 | cO s =>
   obtain⟨e,H,K,h0,hK,rfl,h1,h2⟩:=h
   exact⟨e,H,K,h0,hK,rfl,k.aB h1 (hS' _ (by simp)),k.aB h2 (hS' _ (by simp))⟩
 | iH t =>
   obtain⟨e,H,h0,rfl,h1,h2⟩:=h
   exact⟨e,H,h0,rfl,k.aB h1 (hS' _ (by simp)),k.aB h2 (hS' _ (by simp))⟩
 | jw tb =>
   obtain⟨e,H,K,h0,hK,rfl,h1,h2⟩:=h
   exact⟨e,H,K,h0,hK,rfl,k.aB h1 (hS' _ (by simp)),k.aB h2 (hS' _ (by simp))⟩
 | iE tb p =>
   obtain⟨e,H,K,J,h0,hK,hJ,rfl,h1,h2,h3⟩:=h
   exact⟨e,H,K,J,h0,hK,hJ,rfl,k.aB h1 (hS' _ (by simp)),k.aB h2 (hS' _ (by simp)),k.aB h3 (hS' _ (by simp))⟩
 | closed =>
   obtain⟨e,H,h0,rfl,h1⟩:=h
   exact⟨e,H,h0,rfl,k.aB h1 (hS' _ (by simp))⟩
theorem bJ.held{w:World}{bv:Nat}{bk:Nat->Nat}{lo:Nat}{d:dS}{c:Value}(h:bJ w bv bk lo d c){x:Nat}(hx:DI c x):x<w.heap.size:=by
 obtain⟨fn,cp,rfl,h⟩:=h
 obtain⟨fn',cp',e,hx⟩:=hx
 simp only[Value.func.injEq]at e
 obtain⟨_,_,rfl⟩:=e
 have inj:∀a b:Nat,dn a=dn b->a=b:=fun a b e=>by simpa [dn] using e
 cases d with
 | fA b od =>
   obtain⟨e,H,h0,rfl,h1,h2⟩:=h
   simp at hx
   rcases hx with e|e <;> rw[inj _ _ e]
   ·exact h2.lt
   ·exact h1.lt
 | left b =>
   obtain⟨e,H,h0,rfl,h1,h2⟩:=h
   simp at hx
   rcases hx with e|e <;> rw[inj _ _ e]
   ·exact h1.lt
   ·exact h2.lt
 | eQ b p =>
   obtain⟨e,H,h0,rfl,⟨h1,h2⟩,h3⟩:=h
   simp at hx
   rcases hx with e|e|e <;> rw[inj _ _ e]
   ·exact h1.lt
   ·exact h2.lt
   ·exact h3.lt
 | entered id =>
   obtain⟨e,H,cs,h0,rfl,h1,h2,h3⟩:=h
   simp at hx
   rcases hx with e|e <;> rw[inj _ _ e]
   ·exact h1.lt
   ·exact h2.lt
 | cO s =>
   obtain⟨e,H,K,h0,hK,rfl,h1,h2⟩:=h
   simp at hx
   rcases hx with e|e <;> rw[inj _ _ e]
   ·exact h1.lt
   ·exact h2.lt
 | iH t =>
   obtain⟨e,H,h0,rfl,h1,h2⟩:=h
   simp at hx
   rcases hx with e|e <;> rw[inj _ _ e]
   ·exact h1.lt
   ·exact h2.lt
 | jw tb =>
   obtain⟨e,H,K,h0,hK,rfl,h1,h2⟩:=h
   simp at hx
   rcases hx with e|e <;> rw[inj _ _ e]
   ·exact h2.lt
   ·exact h1.lt
 | iE tb p =>
   obtain⟨e,H,K,J,h0,hK,hJ,rfl,h1,h2,h3⟩:=h
   simp at hx
   rcases hx with e|e|e <;> rw[inj _ _ e]
   ·exact h1.lt
   ·exact h2.lt
   ·exact h3.lt
 | closed =>
   obtain⟨e,H,h0,rfl,h1⟩:=h
   simp at hx
   rw[inj _ _ hx]
   exact h1.lt
theorem ER(G:Lg)(A B:List (Int × Tr)):G.lT (A++B)=(G.lT A).lT B:=List.foldl_append ..
theorem Ir{G G':Lg}(h:G.tp=G'.tp):∀T:List (Int × Tr),(G.lT T).tp=(G'.lT T).tp:=by
 intro T
 induction T generalizing G G' with
 | nil=>exact h
 | cons p T ih=>exact ih (by simp only[Lg.told,h])
theorem NV(G:Lg)(T:List (Int × Tr)):(G.lT T).tp.length=G.tp.length+T.length:=by
 induction T generalizing G with
 | nil=>rfl
 | cons p T ih =>
   show ((G.told p.1 p.2).lT T).tp.length=_
   rw[ih]
   simp only[Lg.told,List.length_append,List.length_cons,List.length_nil]
   omega
theorem BX.one{bk:Nat->Nat}{d:dS}{T:List (Int × Tr)}{V V1:aQ}(h:BX bk d T V V1):T.length<=1:=by
 cases d with
 | fA b o=>rw[h.1];simp
 | left b=>rw[h.1];simp
 | eQ b p=>rw[h.1];simp
 | entered id=>rw[h.1];simp
 | cO s=>rw[h.1];simp
 | iH t=>rw[h.1];simp
 | jw tb=>obtain⟨k,x,e,_⟩:=h;rw[e];simp
 | iE tb p=>obtain⟨k,x,e,_⟩:=h;rw[e];simp
 | closed=>rw[h.1];simp
theorem LG{n:Nat}{h:Nat->Nat}{l:List Nat}(hi:qf n h)(hl:∀k,k<n->h k∈l):n<=l.length :=
 QM l.length n (fun k=>l.idxOf (h k)) (fun a b ha hb e=>hi a b ha hb (by
  have h1:=List.getElem_idxOf (List.idxOf_lt_length_of_mem (hl a ha))
  have h2:=List.getElem_idxOf (List.idxOf_lt_length_of_mem (hl b hb))
  simp only[e]at h1
  exact h1.symm.trans h2)) (fun k hk=>List.idxOf_lt_length_of_mem (hl k hk))
theorem bJ.form{w:World}{bv:Nat}{bk:Nat->Nat}{lo:Nat}{d:dS}{c:Value}(h:bJ w bv bk lo d c):∃p:Nat × Array Value,c=.func (.func p.1) #[] p.2/\Enters Tryz.prog p.1:=by
 obtain⟨fn,cp,rfl,h⟩:=h
 cases d with
 | fA b od=>obtain⟨rfl,_⟩:=h;exact⟨(151,cp),rfl,enters_of Tryz.func151 (by kernel_rfl) rfl⟩
 | left b=>obtain⟨rfl,_⟩:=h;exact⟨(117,cp),rfl,enters_of Tryz.func117 (by kernel_rfl) rfl⟩
 | eQ b p=>obtain⟨rfl,_⟩:=h;exact⟨(153,cp),rfl,enters_of Tryz.func153 (by kernel_rfl) rfl⟩
 | entered id=>obtain⟨rfl,_⟩:=h;exact⟨(114,cp),rfl,enters_of Tryz.func114 (by kernel_rfl) rfl⟩
 | cO s=>obtain⟨rfl,_⟩:=h;exact⟨(54,cp),rfl,enters_of Tryz.func54 (by kernel_rfl) rfl⟩
 | iH t=>obtain⟨rfl,_⟩:=h;exact⟨(211,cp),rfl,enters_of Tryz.func211 (by kernel_rfl) rfl⟩
 | jw tb=>obtain⟨rfl,_⟩:=h;exact⟨(74,cp),rfl,enters_of Tryz.func74 (by kernel_rfl) rfl⟩
 | iE tb p=>obtain⟨rfl,_⟩:=h;exact⟨(77,cp),rfl,enters_of Tryz.func77 (by kernel_rfl) rfl⟩
 | closed=>obtain⟨rfl,_⟩:=h;exact⟨(79,cp),rfl,enters_of Tryz.func79 (by kernel_rfl) rfl⟩
def rP(T:Nat->List (Int × Tr))(n:Nat):Nat->List (Int × Tr)
 | 0=>[]
 | k+1=>rP T n k++T (n-1-k)
def Mid(bv bm bo:Nat)(Vn:aQ)(w:World)(T:Nat->List (Int × Tr))(n k:Nat)(V:aQ)(W:World):Prop :=
 ∃Vc,dN W bv bm bo Vc/\HS Vc/\dK V Vc/\Vc.lg.tp=(Vn.lg.lT (rP T n k)).tp/\Vc.lg.na=Vn.lg.na/\Vc.lg.ud=Vn.lg.ud/\Vc.lg.nt=Vn.lg.nt/\Vc.lm.ac=Vn.lm.ac/\au (dI bv bm bo Vn) w W/\∀x,dI bv bm bo Vc x->dI bv bm bo Vn x\/w.heap.size<=x
theorem Bl{T:Nat->List (Int × Tr)}{n:Nat}(h:∀k,k<n->(T k).length<=1):∀k,k<=n->(rP T n k).length<=k
 | 0,_=>Nat.le_refl _
 | k+1,hk=>by
   have h1:=Bl h k (by omega)
   have h2:=h (n-1-k) (by omega)
   simp only[rP,List.length_append]
   omega
theorem GR(bv bm bo lo n ga cap:Nat)(bk:Nat->Nat)(ds:Nat->dS)(T:Nat->List (Int × Tr))(st:Nat->aQ)(cl:Nat->Value)(l:List Nat)(Vn:aQ)(w:World)
 (R:dN w bv bm bo Vn) (hs:HS Vn) (hl:dK (st n) Vn) (hst:∀k,k<n->BX bk (ds k) (T k) (st k) (st (k+1))) (hB:∀k,k<n->bJ w bv bk lo (ds k) (cl k))
 (hsep:∀k,k<n->∀x,DI (cl k) x->¬dI bv bm bo Vn x) (hvl:∀k,k<=n->∀x,VL (st k) x->x∈l) (hll:l.length<1000) (hn:n<=1000000000) (htp:Vn.lg.tp.length+n<1000000000) (htr:∀k,k<=n->(st k).lg.tr.length<1000000000)
 (hga:∃a,a∈Vn.lm.ac/\a.1.ownBlock=some ga) (hgl:ga<w.heap.size) (hcell:∀j,j<n->w.cell? ⟨ga,j,none⟩=some (cl j)) :
 Calls Tryz.prog 45 #[.slice (some ⟨ga,0,none⟩) n cap] w fun e w'=>e=.returned (.tuple #[])/\Mid bv bm bo Vn w T n n (st 0) w':=by
 have hf:∀j,∃p:Nat × Array Value,j<n->cl j=.func (.func p.1) #[] p.2/\Enters Tryz.prog p.1:=fun j=>by
  by_cases h:j<n
  ·obtain⟨p,hp⟩:=(hB j h).form
   exact⟨p,fun _=>hp⟩
  ·exact⟨(0,#[]),fun h'=>absurd h' h⟩
 let fc:Nat->Nat × Array Value:=fun j=>(hf j).choose
 have hfc:∀j,j<n->cl j=.func (.func (fc j).1) #[] (fc j).2/\Enters Tryz.prog (fc j).1:=fun j=>(hf j).choose_spec
 have lm:=R.ik
 have lo':=R.fD
 obtain⟨fB,mB,_⟩:=lm
 obtain⟨fO,mO,_⟩:=lo'
 have hbm:=mB.lt
 have Zu:=mO.lt
 have hT1:∀k,k<n->(T k).length<=1:=fun k hk=>(hst k hk).one
 refine (GN ga n cap fc (fun k W=>Mid bv bm bo Vn w T n k (st (n-k)) W) w (by omega) (fun j hj=>by rw[<-(hfc j hj).1];exact hcell j hj) hgl (fun j hj=>(hfc j hj).2) ?_ ?_ ?_).mono ?_
 ·rintro k j W hkj ⟨Vc,R',hs',hl',TY,hna,hud,hnt,hac,kW,hF⟩ hsz
  have hj:j<n:=by omega
  rw[show n-k=j+1 by omega]at hl'
  have hI:=(hB j hj).Qk kW (fun x hx=>hsep j hj x hx)
  have hcnt:∀i,i<Vc.nb->∀s,s<2->(Vc.B i).n s<1000:=fun i hi s h2=>by
   have:=LG (hs' i hi s h2).2.1 (l:=l) (fun q hq=>hvl (j+1) (by omega) _ ((hl'.vl _).1 (R'.mem i hi s h2 q hq)))
   omega
  obtain⟨f,cp,e1,_,hC⟩:=NQ bv bm bo lo bk (ds j) (cl j) (T j) (st j) (st (j+1)) Vc W R' hs' hl' (hst j hj) hI (fun fn cp x e hx hfx=>by
   have hh:DI (cl j) x:=⟨fn,cp,e,hx⟩
   rcases hF x hfx with h|h
   ·exact hsep j hj x hh h
   ·have:=(hB j hj).held hh;omega) hcnt (by rw[TY,NV];have:=Bl hT1 k (by omega);omega) (by rw[hl'.tr];exact htr (j+1) (by omega))
  have e2:=(hfc j hj).1
  rw[e1]at e2
  simp only[Value.func.injEq,Fn.func.injEq]at e2
  obtain⟨e3,_,e4⟩:=e2
  rw[<-e3,<-e4]
  refine hC.mono ?_
  rintro e w' ⟨rfl,V2,R2,hs2,hl2,MZ,gZ,Na,PV,FX,k2,f2⟩
  refine⟨rfl,⟨V2,R2,hs2,by rw[show n-(k+1)=j by omega];exact hl2,?_,gZ.trans hna,Na.trans hud,PV.trans hnt,FX.trans hac,kW.from (k2.mono (fun x hx=>hF x hx.1)),fun x hx=>?_⟩,k2.mono (fun x hx=>?_)⟩
  ·rw[MZ]
   show _=(Vn.lg.lT (rP T n k++T (n-1-k))).tp
   rw[ER,show n-1-k=j by omega]
   exact Ir TY _
  ·rcases f2 x hx with h|h
   ·exact hF x h
   ·exact .inr (Nat.le_trans kW.size h)
  ·obtain⟨h1,h2⟩:=hx
   refine⟨?_,?_⟩
   ·rintro rfl
    obtain⟨a,ha,hb⟩:=hga
    exact h2 (.inr ⟨a,by rw[hac];exact ha,hb⟩)
   ·rcases R'.Vu h1 with h|h|⟨c,t,hc,ht⟩
    ·exact .inl (by rw[h];exact hbm)
    ·exact .inl (by rw[h];exact Zu)
    ·exact .inr ⟨c,t,hc,fun e=>h2 (ht e)⟩
 ·rintro k W W' ⟨Vc,R',hs',hl',TY,hna,hud,hnt,hac,kW,hF⟩ kk
  refine⟨Vc,R'.aae kk (fun x hx hr=>?_),hs',hl',TY,hna,hud,hnt,hac,kW.from (kk.mono (fun x hx=>.inr hx.1)),hF⟩
  rcases R'.Vu hx with h|h|⟨c,t,hc,_⟩
  ·have:=hr.1;rw[h]at this;omega
  ·have:=hr.1;rw[h]at this;omega
  ·exact hr.2 c t hc
 ·exact⟨Vn,R,hs,by rw[Nat.sub_zero];exact hl,rfl,rfl,rfl,rfl,rfl,au.refl _ w,fun x hx=>.inl hx⟩
 ·rintro e w' ⟨rfl,h⟩
  rw[Nat.sub_self]at h
  exact⟨rfl,h⟩
inductive jm (bk:Nat->Nat) (K:aQ->Prop):List dS->List (List (Int × Tr))->aQ->aQ->Prop
 | nil (V:aQ) (h:K V):jm bk K [] [] V V
 | iT {ds:List dS} {Ts:List (List (Int × Tr))} {V0 V V1:aQ} {d:dS} {T:List (Int × Tr)} (h:jm bk K ds Ts V0 V) (hb:BX bk d T V V1) (hk:K V1):jm bk K (ds++[d]) (Ts++[T]) V0 V1
section
variable {bk : Nat -> Nat} {K : aQ -> Prop} {ds ds' : List dS} {Ts Ts' : List (List (Int × Tr))} {V0 V V1 : aQ} {d : dS} {T : List (Int × Tr)}
theorem jm.len(h:jm bk K ds Ts V0 V1):Ts.length=ds.length:=by
 induction h with
 | nil V h=>rfl
 | iT h hb hk ih=>simp[ih]
theorem jm.one(h0:K V)(hb:BX bk d T V V1)(hk:K V1):jm bk K [d] [T] V V1:=jm.iT (jm.nil V h0) hb hk
theorem jm.append(h:jm bk K ds Ts V0 V)(h':jm bk K ds' Ts' V V1):jm bk K (ds++ds') (Ts++Ts') V0 V1:=by
 induction h' with
 | nil V h2=>simpa using h
 | iT h2 hb hk ih=>rw[<-List.append_assoc,<-List.append_assoc];exact jm.iT (ih h) hb hk
theorem jm.XZ(h:jm bk K ds Ts V0 V1):∃st:Nat->aQ,st 0=V0/\st ds.length=V1/\(∀k (hk:k<ds.length) (hk':k<Ts.length),BX bk ds[k] Ts[k] (st k) (st (k+1)))/\∀k,k<=ds.length->K (st k):=by
 induction h with
 | nil V h=>exact⟨fun _=>V,rfl,rfl,fun k hk=>by simp at hk,fun _ _=>h⟩
 | @iT ds Ts V0 V V1 d T h hb hk ih =>
   obtain⟨st,e0,e1,h1,h2⟩:=ih
   have el:=h.len
   refine⟨fun k=>if k<=ds.length then st k else V1,by simp[e0],by simp;omega,fun k hk hk'=>?_,fun k hkl=>?_⟩
   ·simp only[List.length_append,List.length_cons,List.length_nil]at hk
    by_cases hlt:k<ds.length
    ·rw[List.getElem_append_left hlt,List.getElem_append_left (by omega)]
     simp only[show k<=ds.length by omega,show k+1<=ds.length by omega,if_true]
     exact h1 k hlt (by omega)
    ·obtain rfl:k=ds.length:=by omega
     simp only[Nat.le_refl,if_true,show ¬(ds.length+1<=ds.length) by omega,if_false,e1]
     rw[List.getElem_append_right (Nat.le_refl _),List.getElem_append_right (by omega)]
     simpa [el] using hb
   ·by_cases hle:k<=ds.length
    ·simp only[hle,if_true];exact h2 k hle
    ·simp only[hle,if_false];exact hk
end
section
variable {bk : Nat -> Nat} {V V1 : aQ}
theorem lD{b:Nat}{o':Ord}(hb:VL V b)(hid:o'.id=(V.om b).id)(hpl:o'.place=(V.om b).place)(hr:∀i,i<V.nb->∀s,s<2->Mem ((V.B i).n s) ((V.B i).h s) b->o'.side=(V.om b).side/\o'.af=(V.om b).af)(hV:dK { V with om:=aN V.om b o' } V1):BX bk (.fA b (V.om b)) [] V V1:=by
 have hvl:VL V1 b:=(hV.vl b).2 hb
 have eo:V1.om b=o':=by rw[hV.om b hb];exact aj _ _ _
 refine⟨rfl,hvl,by rw[eo];exact hid.symm,fun i hi s h2 hm=>?_,?_⟩
 ·have:=hr i (by rw[<-hV.nb];exact hi) s h2 ((hV.mem i (by rw[<-hV.nb];exact hi) s h2 b).1 hm)
  rw[eo]
  exact⟨this.1.symm,this.2.symm⟩
 ·refine⟨hV.nb,hV.bk,hV.sym,hV.tK,hV.mem,hV.aU,hV.no,fun x hx=>?_,hV.tr,hV.day,hV.tb⟩
  by_cases e:x=b
  ·subst e
   simp only[aj,eo,hpl]
  ·simp only[ah _ _ e]
   rw[hV.om x hx]
   exact ah _ _ e
theorem qX{b i s:Nat}(hi:i<V.nb)(h2:s<2)(hbk:bk b=V.bk i)(hb:VL V b)(hside:(V.om b).side=(s:Int))(hm:Mem ((V.B i).n s) ((V.B i).h s) b)(hout:∀j,j<V.nb->∀t,t<2->Mem ((V.B j).n t) ((V.B j).h t) b->j=i/\t=s)
 (hd:VV i s (fun x=>Mem ((V.B i).n s) ((V.B i).h s) x/\x≠b) (V.B i).places V V1) (jk:∀x,VL V x->V1.om x=V.om x):BX bk (.left b) [] V V1:=by
 have e:=hd.nb
 have vl:∀x,VL V1 x↔VL V x:=fun x=>by unfold VL;rw[hd.aU]
 refine⟨rfl,i,s,by omega,h2,by rw[hd.bk i hi];exact hbk,(vl b).2 hb,by rw[jk b hb];exact hside,fun j hj t ht hmm=>?_,⟨e.symm,fun j hj=>(hd.bk j (by omega)).symm,fun j hj=>(hd.sym j (by omega)).symm,fun j hj=>?_,fun j hj t ht x=>?_,hd.aU.symm,hd.no.symm,hd.tr.symm,hd.day.symm,hd.tb.symm⟩,fun x hx=>(jk x ((vl x).1 hx)).symm⟩
 ·rw[hd.mem j (by omega) t ht b]at hmm
  by_cases c:j=i/\t=s
  ·rw[if_pos c]at hmm;exact hmm.2 rfl
  ·rw[if_neg c]at hmm;exact c (hout j (by omega) t ht hmm)
 ·have h:=hd.tK j (by omega)
  by_cases c:j=i
  ·subst c;simp only[if_true]at h ⊢;exact h.symm
  ·rw[if_neg c]at h ⊢;exact h.symm
 ·have h:=hd.mem j (by omega) t ht x
  by_cases c:j=i/\t=s
  ·obtain⟨rfl,rfl⟩:=c
   simp only[and_self,if_true]at h ⊢
   rw[h]
   constructor
   ·intro hx
    by_cases c:x=b
    ·exact .inr c
    ·exact .inl ⟨hx,c⟩
   ·rintro (⟨hx,_⟩|rfl)
    ·exact hx
    ·exact hm
  ·rw[if_neg c]at h ⊢;exact h.symm
theorem Fz{b i s:Nat}{pl:Int}(hi:i<V.nb)(h2:s<2)(hbk:bk b=V.bk i)(hb:VL V b)(hout:DK V b)(hpl:(V.B i).places=wrap64 (pl-1))
 (hd:VV i s (fun x=>Mem ((V.B i).n s) ((V.B i).h s) x\/x=b) pl V V1) {q:Int} (jk:∀x,VL V x->V1.om x=aN V.om b { V.om b with place:=q } x):BX bk (.eQ b (V.om b).place) [] V V1:=by
 have e:=hd.nb
 have vl:∀x,VL V1 x↔VL V x:=fun x=>by unfold VL;rw[hd.aU]
 have hpi:=hd.tK i hi
 simp only[if_true]at hpi
 refine⟨rfl,i,s,by omega,h2,by rw[hd.bk i hi];exact hbk,(vl b).2 hb,by rw[hd.mem i hi s h2 b];simp,⟨e.symm,fun j hj=>(hd.bk j (by omega)).symm,fun j hj=>(hd.sym j (by omega)).symm,fun j hj=>?_,fun j hj t ht x=>?_,hd.aU.symm,hd.no.symm,hd.tr.symm,hd.day.symm,hd.tb.symm⟩,fun x hx=>?_⟩
 ·have h:=hd.tK j (by omega)
  by_cases c:j=i
  ·subst c;simp only[if_true];rw[hpi];exact hpl
  ·rw[if_neg c]at h ⊢;exact h.symm
 ·have h:=hd.mem j (by omega) t ht x
  by_cases c:j=i/\t=s
  ·obtain⟨rfl,rfl⟩:=c
   simp only[and_self,if_true]at h ⊢
   rw[h]
   constructor
   ·intro hx
    exact⟨.inl hx,fun c=>hout j hi t h2 (c▸hx)⟩
   ·rintro⟨hx|hx,c⟩
    ·exact hx
    ·exact absurd hx c
  ·rw[if_neg c]at h ⊢;exact h.symm
 ·have hx':=(vl x).1 hx
  have hbm:=jk b hb
  rw[aj]at hbm
  by_cases c:x=b
  ·subst c;rw[aj,hbm]
  ·rw[ah _ _ c,jk x hx',ah _ _ c]
end
section
variable {bk : Nat -> Nat} {V V1 : aQ}
theorem Ja{t:Tr}{b:Nat}{m1:Lm}(hnum:t.num=(V.lg.tr.length:Int)+1)(hm:m1.tb=V.lm.tb++[b])(hV:dK { V with lg:={ V.lg with tr:=V.lg.tr++[⟨t,true⟩] },lm:=m1 } V1):BX bk (.iH t) [(2,t)] V V1 :=
 ⟨rfl,V.lg.tr,⟨t,true⟩,hV.tr,hnum,hV.nb,hV.bk,hV.sym,hV.tK,hV.mem,hV.aU,hV.no,hV.om,rfl,hV.day,by
  show V1.lm.tb.dropLast=V.lm.tb
  rw[hV.tb]
  show m1.tb.dropLast=_
  rw[hm]
  simp⟩
theorem I5{t:Tr}{k tb:Nat}(hx:V.lg.tr[k]?=some ⟨t,true⟩)(htb:V.lm.tb[k]?=some tb)(hV:dK { V with lg:=V.lg.lC k t } V1):BX bk (.jw tb) [(1,t)] V V1:=by
 have hlt:=(List.getElem?_eq_some_iff.1 hx).1
 have e1:V1.lg.tr=V.lg.tr.set k ⟨t,false⟩:=hV.tr
 refine⟨k,⟨t,false⟩,rfl,by rw[e1,List.getElem?_set_self hlt],by rw[hV.tb];exact htb,hV.nb,hV.bk,hV.sym,hV.tK,hV.mem,hV.aU,hV.no,hV.om,?_,hV.day,hV.tb⟩
 show V1.lg.tr.set k ⟨t,true⟩=V.lg.tr
 rw[e1,List.set_set]
 obtain⟨_,e⟩:=List.getElem?_eq_some_iff.1 hx
 rw[<-e]
 exact List.set_getElem_self hlt
theorem I9{x:Tg}{p:Int}{k tb:Nat}(hx:V.lg.tr[k]?=some x)(htb:V.lm.tb[k]?=some tb)(hV:dK { V with lg:=V.lg.jf k x p } V1):BX bk (.iE tb x.t.af) [(3,x.t)] V V1:=by
 have hlt:=(List.getElem?_eq_some_iff.1 hx).1
 have e1:V1.lg.tr=V.lg.tr.set k ⟨x.t.at p,x.holds⟩:=hV.tr
 refine⟨k,⟨x.t.at p,x.holds⟩,rfl,by rw[e1,List.getElem?_set_self hlt],by rw[hV.tb];exact htb,hV.nb,hV.bk,hV.sym,hV.tK,hV.mem,hV.aU,hV.no,hV.om,?_,hV.day,hV.tb⟩
 show V1.lg.tr.set k ⟨(x.t.at p).at x.t.af,x.holds⟩=V.lg.tr
 rw[e1,List.set_set]
 obtain⟨_,e⟩:=List.getElem?_eq_some_iff.1 hx
 have:(⟨(x.t.at p).at x.t.af,x.holds⟩:Tg)=V.lg.tr[k]:=by rw[e];rfl
 rw[this]
 exact List.set_getElem_self hlt
theorem I7{dd:Int}(hw:wrap64 (dd-1)=V.lg.day)(hV:dK { V with lg:={ V.lg with day:=dd } } V1):BX bk .closed [] V V1 :=
 ⟨rfl,hV.nb,hV.bk,hV.sym,hV.tK,hV.mem,hV.aU,hV.no,hV.om,hV.tr,by show wrap64 (V1.lg.day-1)=V.lg.day;rw[hV.day];exact hw,hV.tb⟩
theorem I8{s:ByteArray}{b:Nat}(hs:s.size<=maxLen)(hV:dK (V.list s b) V1):BX bk (.cO s) [] V V1:=by
 have e:V1.nb=V.nb+1:=hV.nb
 have lt:∀{i},i<V.nb->i<(V.list s b).nb:=fun h=>Nat.lt_succ_of_lt h
 have ne:∀{i},i<V.nb->i≠V.nb:=fun h=>by omega
 refine⟨rfl,V.nb,e,?_,hs,by show V1.nb-1=V.nb;omega,fun i hi=>?_,fun i hi=>?_,fun i hi=>?_,fun i hi s' h2 x=>?_,hV.aU,hV.no,hV.om,hV.tr,hV.day,hV.tb⟩
 ·rw[hV.sym V.nb (Nat.lt_succ_self _)]
  simp only[aQ.list,aj]
  rfl
 ·exact (hV.bk i (lt hi)).trans (ah _ _ (ne hi))
 ·refine (hV.sym i (lt hi)).trans ?_
  simp only[aQ.list,ah _ _ (ne hi)]
 ·refine (hV.tK i (lt hi)).trans ?_
  simp only[aQ.list,ah _ _ (ne hi)]
 ·refine (hV.mem i (lt hi) s' h2 x).trans ?_
  simp only[aQ.list,ah _ _ (ne hi)]
theorem Fv{id:Int}{b:Nat}{o:Ord}(hid:(Lit.int .i64 id).wf=true)(hfree:V.aU id=none)(hnew:¬VL V b)(hout:DK V b)(hV:dK { V with aU:=fun i=>if i=id then some b else V.aU i,no:=V.no+1,om:=aN V.om b o } V1):BX bk (.entered id) [] V V1:=by
 have eo:V1.aU=fun i=>if i=id then some b else V.aU i:=hV.aU
 have en:V1.no=V.no+1:=hV.no
 refine⟨rfl,b,by rw[eo];simp,hid,by omega,fun j hj t ht hm=>hout j (by have:=hV.nb;simp only at this;omega) t ht ((hV.mem j (by have:=hV.nb;omega) t ht b).1 hm),hV.nb,hV.bk,hV.sym,hV.tK,hV.mem,?_,by show V1.no-1=V.no;omega,fun x hx=>?_,hV.tr,hV.day,hV.tb⟩
 ·show (fun i=>if i=id then none else V1.aU i)=V.aU
  funext i
  rw[eo]
  by_cases e:i=id
  ·subst e;simp[hfree]
  ·simp[e]
 ·have hne:x≠b:=fun e=>hnew (e▸hx)
  obtain⟨j,hj⟩:=hx
  have hji:j≠id:=fun e=>by rw[e,hfree]at hj;simp at hj
  refine (hV.om x ⟨j,by simp only[if_neg hji];exact hj⟩).trans ?_
  exact ah _ _ hne
end
theorem su{V:aQ}{i s k:Nat}{dG:Nat->Ord}(hs:HS V)(hi:i<V.nb)(h2:s<2)(hk:k<(V.B i).n s):VV i s (fun x=>Mem ((V.B i).n s) ((V.B i).h s) x/\x≠(V.B i).h s k) (V.B i).places V { V with B:=aN V.B i ((V.B i).leave dG s k) }:=by
 refine⟨rfl,fun _ _=>rfl,fun j hj=>?_,fun j hj=>?_,fun j hj t ht x=>?_,rfl,rfl,rfl,rfl,rfl⟩
 ·by_cases e:j=i
  ·subst e;simp only[aj];rfl
  ·simp only[ah _ _ e]
 ·by_cases e:j=i
  ·subst e;simp only[aj,if_true];rfl
  ·simp only[ah _ _ e,if_neg e]
 ·by_cases e:j=i
  ·subst e
   by_cases e2:t=s
   ·subst e2
    simp only[aj,Bk.leave,and_self,if_true]
    obtain⟨n,hn⟩:∃n,(V.B j).n t=n+1:=⟨(V.B j).n t-1,by omega⟩
    have hinj:=(hs j hi t ht).2.1
    rw[hn]at hinj hk ⊢
    simp only[Nat.add_sub_cancel]
    exact jB _ k (by omega) (hinj.oP (by omega)) x
   ·simp only[aj,Bk.leave,ah _ _ e2,e2,and_false,if_false]
  ·simp only[ah _ _ e,e,false_and,if_false]
theorem GW.one{V:aQ}{M:Int}(g:GW V M){i j s t x:Nat}(hi:i<V.nb)(hj:j<V.nb)(h2:s<2)(ht:t<2)(h:Mem ((V.B i).n s) ((V.B i).h s) x)(h':Mem ((V.B j).n t) ((V.B j).h t) x):j=i/\t=s:=by
 obtain⟨_,a1,a2,_⟩:=((g.gb i hi).mem s h2 x).1 h
 obtain⟨_,b1,b2,_⟩:=((g.gb j hj).mem t ht x).1 h'
 refine⟨g.kM j i hj hi (b1.symm.trans a1),?_⟩
 rw[a2]at b2
 exact (Int.ofNat_inj.1 b2).symm
def KK(l:List Nat)(V:aQ):Prop:=(∀x,VL V x->x∈l)/\V.lg.tr.length<1000000000
section
variable {bk : Nat -> Nat} {V V' : aQ} {M : Int} {l : List Nat}
theorem Ku(g:GW V M)(hK:KK l V){i s k:Nat}(hi:i<V.nb)(h2:s<2)(hk:k<(V.B i).n s)(hbk:bk ((V.B i).h s k)=V.bk i)(hvl:VL V ((V.B i).h s k))
 (hV:dK { V with B:=aN V.B i ((V.B i).leave V.om s k),om:=aN V.om ((V.B i).h s k) (fU (V.om ((V.B i).h s k))) } V'):jm bk (KK l) [.left ((V.B i).h s k),.fA ((V.B i).h s k) (V.om ((V.B i).h s k))] [[],[]] V V':=by
 have hKa:KK l { V with B:=aN V.B i ((V.B i).leave V.om s k) }:=hK
 have hK':KK l V':=⟨fun x hx=>hK.1 x ((hV.vl x).1 hx),by rw[hV.tr];exact hK.2⟩
 refine jm.iT (jm.one hK (qX hi h2 hbk hvl ((g.gb i hi).side h2 hk) ⟨k,hk,rfl⟩ (fun j hj t ht h=>g.one hi hj h2 ht ⟨k,hk,rfl⟩ h) (su g.hs hi h2 hk) (fun _ _=>rfl)) hKa) ?_ hK'
 exact lD (V:={ V with B:=aN V.B i ((V.B i).leave V.om s k) }) (o':=fU (V.om ((V.B i).h s k))) hvl rfl rfl (fun _ _ _ _ _=>⟨rfl,rfl⟩) hV
theorem RJ(hK:KK l V){b:Nat}{af aI:Int}(hb:VL V b)(hpr:af=(V.om b).af)(hV:dK { V with om:=aN V.om b (dP (V.om b) af aI) } V'):jm bk (KK l) [.fA b (V.om b)] [[]] V V' :=
 jm.one hK (lD (o':=dP (V.om b) af aI) hb rfl rfl (fun _ _ _ _ _=>⟨rfl,hpr⟩) hV) ⟨fun x hx=>hK.1 x ((hV.vl x).1 hx),by rw[hV.tr];exact hK.2⟩
theorem RN(hK:KK l V){s:ByteArray}{b:Nat}(hs:s.size<=maxLen)(hV:dK (V.list s b) V'):jm bk (KK l) [.cO s] [[]] V V' :=
 jm.one hK (I8 hs hV) ⟨fun x hx=>hK.1 x ((hV.vl x).1 hx),by rw[hV.tr];exact hK.2⟩
theorem Iy(hK:KK l V){x:Tg}{p:Int}{k tb:Nat}(hx:V.lg.tr[k]?=some x)(htb:V.lm.tb[k]?=some tb)(hV:dK { V with lg:=V.lg.jf k x p } V'):jm bk (KK l) [.iE tb x.t.af] [[(3,x.t)]] V V' :=
 jm.one hK (I9 hx htb hV) ⟨fun y hy=>hK.1 y ((hV.vl y).1 hy),by rw[hV.tr];simpa [Lg.jf] using hK.2⟩
end
def MV(V:aQ)(i:Nat)(dQ:List Nat)(st:MS):aQ:={ V with B:=aN V.B i st.B,om:=st.om,lg:=st.lg,lm:={ V.lm with tb:=dQ } }
def LH(oc s:Nat)(st:MS):List dS :=
 if (st.om (st.B.h s 0)).aA=(st.om oc).aA then [.left (st.B.h s 0),.fA (st.B.h s 0) (st.om (st.B.h s 0))]
 else [.fA oc (st.om oc),.fA (st.B.h s 0) (st.om (st.B.h s 0))]++(if (aT st.om oc (st.B.h s 0) (st.B.h s 0)).aK=0 then [.left (st.B.h s 0)] else [])++[.iH ((dh st.lg st.om oc (st.B.h s 0)).iC (iG st.B st.om oc (st.B.h s 0)))]
theorem Il(oc s:Nat)(st:MS):(bz oc s st).lg.nt=st.lg.nt++LH oc s st:=by
 unfold bz LH
 split
 ·rfl
 ·unfold Lg.jG Lg.told Lg.aC Lg.aV dh
  split <;> simp[Lg.aV]
section
variable {bk : Nat -> Nat} {V : aQ} {l : List Nat} {i s oc : Nat} {st : MS} {dQ : List Nat}
theorem Cb{dG:Nat->Ord}{G':Lg}(hi:i<V.nb)(h2:s<2)(hn:0<st.B.n s)(hinj:qf (st.B.n s) (st.B.h s))(hbk:bk (st.B.h s 0)=V.bk i)(hvl:VL V (st.B.h s 0))(hside:(dG (st.B.h s 0)).side=(s:Int))
 (Nb:∀j,j<V.nb->∀t,t<2->Mem ((aN V.B i st.B j).n t) ((aN V.B i st.B j).h t) (st.B.h s 0)->j=i/\t=s):BX bk (.left (st.B.h s 0)) [] (MV V i dQ ⟨st.B,dG,G'⟩) (MV V i dQ ⟨st.B.leave dG s 0,dG,G'⟩):=by
 have hB:(MV V i dQ ⟨st.B,dG,G'⟩).B i=st.B:=aj _ _ _
 refine qX (i:=i) (s:=s) hi h2 hbk hvl hside ?_ Nb ?_ (fun _ _=>rfl)
 ·rw[hB];exact⟨0,hn,rfl⟩
 ·rw[hB]
  refine⟨rfl,fun _ _=>rfl,fun j hj=>?_,fun j hj=>?_,fun j hj t ht x=>?_,rfl,rfl,rfl,rfl,rfl⟩
  ·by_cases e:j=i
   ·subst e;simp only[MV,aj];rfl
   ·simp only[MV,ah _ _ e]
  ·by_cases e:j=i
   ·subst e;simp only[MV,aj,if_true];rfl
   ·simp only[MV,ah _ _ e,if_neg e]
  ·by_cases e:j=i
   ·subst e
    by_cases e2:t=s
    ·subst e2
     simp only[MV,aj,Bk.leave,and_self,if_true]
     obtain⟨n,hn'⟩:∃n,st.B.n t=n+1:=⟨st.B.n t-1,by omega⟩
     rw[hn']at hinj ⊢
     simp only[Nat.add_sub_cancel]
     exact jB _ 0 (by omega) (hinj.oP (by omega)) x
    ·simp only[MV,aj,Bk.leave,ah _ _ e2,e2,and_false,if_false]
   ·simp only[MV,ah _ _ e,e,false_and,if_false]
theorem Du(tb:Nat)(hi:i<V.nb)(h2:s<2)(hn:0<st.B.n s)(iv:qN oc s st)(hbk:bk (st.B.h s 0)=V.bk i)(hvl:VL V (st.B.h s 0))(Ou:VL V oc)(hl:∀x,VL V x->x∈l)(htr:st.lg.tr.length+1<1000000000)
 (Nb:∀j,j<V.nb->∀t,t<2->Mem ((aN V.B i st.B j).n t) ((aN V.B i st.B j).h t) (st.B.h s 0)->j=i/\t=s) :
 ∃Ts,jm bk (KK l) (LH oc s st) Ts (MV V i dQ st) (MV V i (if (st.om (st.B.h s 0)).aA=(st.om oc).aA then dQ else dQ++[tb]) (bz oc s st)):=by
 have hne:st.B.h s 0≠oc:=(iv.mem 0 hn).2.2.2
 have hsd:=(iv.mem 0 hn).1
 have kk:∀abQ B' dG G',G'.tr.length<1000000000->KK l (MV V i abQ ⟨B',dG,G'⟩):=fun _ _ _ _ h=>⟨hl,h⟩
 unfold LH bz
 by_cases hw:(st.om (st.B.h s 0)).aA=(st.om oc).aA
 ·simp only[hw,if_true]
  refine⟨[[],[]],jm.iT (jm.one (kk _ _ _ _ (by omega)) (Cb (dG:=st.om) (G':=st.lg) hi h2 hn iv.inj hbk hvl hsd Nb) (kk _ _ _ _ (by omega))) ?_ (kk _ _ _ _ (by simp only[Lg.aV];omega))⟩
  exact lD (V:=MV V i dQ ⟨st.B.leave st.om s 0,st.om,st.lg⟩) (o':=fU (st.om (st.B.h s 0))) hvl rfl rfl (fun _ _ _ _ _=>⟨rfl,rfl⟩) ⟨rfl,fun _ _=>rfl,fun _ _=>rfl,fun _ _=>rfl,fun _ _ _ _ _=>Iff.rfl,rfl,rfl,fun _ _=>rfl,rfl,rfl,rfl⟩
 ·simp only[hw,if_false]
  obtain⟨q,hq⟩:∃q,q=min (st.om oc).aK (st.om (st.B.h s 0)).aK:=⟨_,rfl⟩
  obtain⟨BD,ho1⟩:∃BD,BD=aN st.om oc (iI (st.om oc) q):=⟨_,rfl⟩
  have e1:BD (st.B.h s 0)=st.om (st.B.h s 0):=by rw[ho1,ah _ _ hne]
  have ho2:aT st.om oc (st.B.h s 0)=aN BD (st.B.h s 0) (iI (st.om (st.B.h s 0)) q):=by rw[ho1,hq];rfl
  have u1:jm bk (KK l) [.fA oc (st.om oc)] [[]] (MV V i dQ st) (MV V i dQ ⟨st.B,BD,st.lg⟩):=jm.one (kk _ _ _ _ (by omega)) (lD (V:=MV V i dQ st) (o':=iI (st.om oc) q) Ou rfl rfl (fun _ _ _ _ _=>⟨rfl,rfl⟩) (by rw[ho1];exact dK.refl _)) (kk _ _ _ _ (by omega))
  have b2:BX bk (.fA (st.B.h s 0) (st.om (st.B.h s 0))) [] (MV V i dQ ⟨st.B,BD,st.lg⟩) (MV V i dQ ⟨st.B,aT st.om oc (st.B.h s 0),st.lg⟩):=by
   have:=lD (bk:=bk) (V:=MV V i dQ ⟨st.B,BD,st.lg⟩) (V1:=MV V i dQ ⟨st.B,aT st.om oc (st.B.h s 0),st.lg⟩) (b:=st.B.h s 0) (o':=iI (st.om (st.B.h s 0)) q) hvl (by show _=(BD _).id;rw[e1];rfl) (by show _=(BD _).place;rw[e1];rfl) (fun _ _ _ _ _=>by show _=(BD _).side/\_=(BD _).af;rw[e1];exact⟨rfl,rfl⟩) (by rw[ho2];exact dK.refl _)
   have e:(MV V i dQ ⟨st.B,BD,st.lg⟩).om (st.B.h s 0)=st.om (st.B.h s 0):=e1
   rw[e]at this
   exact this
  have u2:=jm.iT u1 b2 (kk _ _ _ _ (by omega))
  have hsd2:(aT st.om oc (st.B.h s 0) (st.B.h s 0)).side=(s:Int):=by rw[ho2,aj];exact hsd
  have u3:∃Ts,jm bk (KK l) ([.fA oc (st.om oc),.fA (st.B.h s 0) (st.om (st.B.h s 0))]++(if (aT st.om oc (st.B.h s 0) (st.B.h s 0)).aK=0 then [.left (st.B.h s 0)] else [])) Ts (MV V i dQ st) (MV V i dQ ⟨dO st.B st.om oc (st.B.h s 0) s,aT st.om oc (st.B.h s 0),st.lg⟩):=by
   unfold dO
   by_cases hz:(aT st.om oc (st.B.h s 0) (st.B.h s 0)).aK=0
   ·simp only[hz,if_true]
    exact⟨_,jm.iT u2 (Cb (dG:=aT st.om oc (st.B.h s 0)) (G':=st.lg) hi h2 hn iv.inj hbk hvl hsd2 Nb) (kk _ _ _ _ (by omega))⟩
   ·simp only[hz,if_false,List.append_nil]
    exact⟨_,u2⟩
  obtain⟨Ts,u3⟩:=u3
  have etr:(dh st.lg st.om oc (st.B.h s 0)).tr=st.lg.tr:=gu _ _ _ _
  have edy:(dh st.lg st.om oc (st.B.h s 0)).day=st.lg.day:=qC _ _ _ _
  refine⟨_,jm.iT u3 (Ja (b:=tb) (m1:={ V.lm with tb:=dQ++[tb] }) ?_ rfl ?_) (kk _ _ _ _ ?_)⟩
  ·show ((dh st.lg st.om oc (st.B.h s 0)).tr.length:Int)+1=(st.lg.tr.length:Int)+1
   rw[etr]
  ·refine⟨rfl,fun _ _=>rfl,fun _ _=>rfl,fun _ _=>rfl,fun _ _ _ _ _=>Iff.rfl,rfl,rfl,fun _ _=>rfl,?_,?_,rfl⟩
   ·show (dh st.lg st.om oc (st.B.h s 0)).tr++_=st.lg.tr++_
    rw[etr]
   ·exact edy
  ·show ((dh st.lg st.om oc (st.B.h s 0)).tr++[_]).length<_
   rw[etr]
   simpa using htr
end
theorem CP{B:Bk}{om:Nat->Ord}{s:Nat}(hinj:qf (B.n s) (B.h s))(hn:0<B.n s)(t x:Nat)(h:Mem ((B.leave om s 0).n t) ((B.leave om s 0).h t) x):Mem (B.n t) (B.h t) x:=by
 by_cases e:t=s
 ·subst e
  obtain⟨k,hk,rfl⟩:=h
  obtain⟨k',hk',e,_⟩:=mW hinj hn k hk
  exact⟨k',hk',e⟩
 ·simp only[Bk.leave,ah _ _ e]at h
  exact h
theorem CV{oc s:Nat}{st:MS}(hinj:qf (st.B.n s) (st.B.h s))(hn:0<st.B.n s)(t x:Nat)(h:Mem ((bz oc s st).B.n t) ((bz oc s st).B.h t) x):Mem (st.B.n t) (st.B.h t) x:=by
 unfold bz at h
 split at h
 ·exact CP hinj hn t x h
 ·simp only[dO]at h
  split at h
  ·exact CP hinj hn t x h
  ·exact h
theorem Gx(oc s:Nat)(st:MS):(bz oc s st).lg.tr.length=st.lg.tr.length+(if (st.om (st.B.h s 0)).aA=(st.om oc).aA then 0 else 1):=by
 unfold bz
 split
 ·rfl
 ·simp only[Lg.jG,Lg.told,Lg.aC,Lg.aV,gu,List.length_append,List.length_cons,List.length_nil]
theorem sN(oc s:Nat):∀(f:Nat) (st:MS),st.lg.tr.length<=(aZ oc s f st).lg.tr.length
 | 0,st=>Nat.le_refl _
 | f+1,st=>by
   rw[aZ]
   split
   ·exact Nat.le_refl _
   ·have h1:=sN oc s f (bz oc s st)
    have h2:=Gx oc s st
    omega
theorem goes{oc s:Nat}{st:MS}(h:stops oc s st=false):0<st.B.n s/\0<(st.om oc).aK:=by
 simp only[stops,Bool.or_eq_false_iff,Bool.not_eq_false',decide_eq_true_eq]at h
 refine⟨?_,h.1⟩
 cases hf:dF st.B st.om (cZ (st.om oc)) s with
 | none=>rw[hf]at h;simp at h
 | some b=>exact (ry hf).1
theorem xK{bk:Nat->Nat}{V:aQ}{l:List Nat}{i s oc:Nat}(hi:i<V.nb)(h2:s<2)(Ou:VL V oc)(hl:∀x,VL V x->x∈l):∀(f:Nat) (st:MS) (dQ ext:List Nat),qN oc s st->(aZ oc s f st).lg.tr.length+1<1000000000->(∀k,k<st.B.n s->bk (st.B.h s k)=V.bk i/\VL V (st.B.h s k)) ->
 (∀k,k<st.B.n s->∀j,j<V.nb->∀t,t<2->Mem ((aN V.B i st.B j).n t) ((aN V.B i st.B j).h t) (st.B.h s k)->j=i/\t=s)->ext.length+st.lg.tr.length=(aZ oc s f st).lg.tr.length ->
 ∃ds Ts,(aZ oc s f st).lg.nt=st.lg.nt++ds/\jm bk (KK l) ds Ts (MV V i dQ st) (MV V i (dQ++ext) (aZ oc s f st))
 | 0,st,dQ,ext,iv,htr,hk,Nb,hx=>by
   have hx':ext.length+st.lg.tr.length=st.lg.tr.length:=hx
   obtain rfl:ext=[]:=List.length_eq_zero_iff.1 (by omega)
   rw[List.append_nil]
   exact⟨[],[],by simp[aZ],jm.nil _ ⟨hl,by have h:st.lg.tr.length+1<1000000000:=htr;show st.lg.tr.length<_;omega⟩⟩
 | f+1,st,dQ,ext,iv,htr,hk,Nb,hx=>by
   rw[aZ]at hx htr ⊢
   by_cases hst:stops oc s st=true
   ·rw[if_pos hst]at hx htr ⊢
    obtain rfl:ext=[]:=List.length_eq_zero_iff.1 (by omega)
    rw[List.append_nil]
    exact⟨[],[],by simp,jm.nil _ ⟨hl,by show st.lg.tr.length<_;omega⟩⟩
   ·rw[if_neg hst]at hx htr ⊢
    have hst':stops oc s st=false:=by simpa using hst
    obtain⟨hn,hp⟩:=goes hst'
    have KU:=(nH iv hn hp).1
    have m1:=Gx oc s st
    have m2:=sN oc s f (bz oc s st)
    have sub:=CV (oc:=oc) iv.inj hn
    have el:∀k,k<(bz oc s st).B.n s->∃k',k'<st.B.n s/\(bz oc s st).B.h s k=st.B.h s k':=fun k hk=>sub s _ ⟨k,hk,rfl⟩
    have hk':∀k,k<(bz oc s st).B.n s->bk ((bz oc s st).B.h s k)=V.bk i/\VL V ((bz oc s st).B.h s k):=fun k hkk=>by
     obtain⟨k',hk1,e⟩:=el k hkk
     rw[e];exact hk k' hk1
    have Z5:∀k,k<(bz oc s st).B.n s->∀j,j<V.nb->∀t,t<2->Mem ((aN V.B i (bz oc s st).B j).n t) ((aN V.B i (bz oc s st).B j).h t) ((bz oc s st).B.h s k)->j=i/\t=s:=fun k hkk j hj t ht hm=>by
     obtain⟨k',hk1,e⟩:=el k hkk
     refine Nb k' hk1 j hj t ht ?_
     rw[e]at hm
     by_cases ej:j=i
     ·subst ej
      rw[aj]at hm ⊢
      exact sub t _ hm
     ·rw[ah _ _ ej]at hm ⊢
      exact hm
    by_cases hw:(st.om (st.B.h s 0)).aA=(st.om oc).aA
    ·rw[if_pos hw]at m1
     obtain⟨Ts1,u1⟩:=Du (dQ:=dQ) 0 hi h2 hn iv (hk 0 hn).1 (hk 0 hn).2 Ou hl (by omega) (Nb 0 hn)
     rw[if_pos hw]at u1
     obtain⟨ds,Ts,en,u2⟩:=xK hi h2 Ou hl f (bz oc s st) dQ ext KU htr hk' Z5 (by omega)
     exact⟨_,_,by rw[en,Il,List.append_assoc],u1.append u2⟩
    ·rw[if_neg hw]at m1
     obtain⟨tb,ext',rfl⟩:∃tb ext',ext=tb :: ext':=by
      cases ext with
      | nil=>simp at hx;omega
      | cons tb ext'=>exact⟨tb,ext',rfl⟩
     obtain⟨Ts1,u1⟩:=Du (dQ:=dQ) tb hi h2 hn iv (hk 0 hn).1 (hk 0 hn).2 Ou hl (by omega) (Nb 0 hn)
     rw[if_neg hw]at u1
     obtain⟨ds,Ts,en,u2⟩:=xK hi h2 Ou hl f (bz oc s st) (dQ++[tb]) ext' KU htr hk' Z5 (by simp at hx;omega)
     rw[List.append_assoc]at u2
     exact⟨_,_,by rw[en,Il,List.append_assoc],u1.append u2⟩
theorem zO{oc s:Nat}:∀(f:Nat) (st:MS),qN oc s st->∀t x,Mem ((aZ oc s f st).B.n t) ((aZ oc s f st).B.h t) x->Mem (st.B.n t) (st.B.h t) x
 | 0,st,iv,t,x,h=>h
 | f+1,st,iv,t,x,h=>by
   rw[aZ]at h
   by_cases hst:stops oc s st=true
   ·rw[if_pos hst]at h;exact h
   ·rw[if_neg hst]at h
    obtain⟨hn,hp⟩:=goes (by simpa using hst)
    exact CV (oc:=oc) iv.inj hn t x (zO f (bz oc s st) (nH iv hn hp).1 t x h)
theorem Dx{p:Int}(h0:0<=p)(h1:p<=1000000000000):p=wrap64 (wrap64 (p+1)-1):=by
 unfold wrap64;omega
theorem OW{bk:Nat->Nat}{V V1:aQ}{i t oc g cap':Nat}{dQ:List Nat}{st:MS}(hi:i<V.nb)(ht:t<2)(hbk:bk oc=V.bk i)(Ou:VL V oc)(hout:∀j,j<V.nb->∀u,u<2->¬Mem ((aN V.B i st.B j).n u) ((aN V.B i st.B j).h u) oc)(h0:0<=st.B.places)(h1:st.B.places<=1000000000000)
 (hV:dK (MV V i dQ ⟨dV oc t g cap' st,aF oc st,st.lg⟩) V1):BX bk (if dm (st.om oc) then .eQ oc (st.om oc).place else .fA oc (st.om oc)) [] (MV V i dQ st) V1:=by
 have hBi:(MV V i dQ st).B i=st.B:=aj _ _ _
 unfold dV aF at hV
 by_cases hw:dm (st.om oc)=true
 ·simp only[hw,if_true]at hV ⊢
  refine Fz (V:=MV V i dQ st) (i:=i) (s:=t) (pl:=wrap64 (st.B.places+1)) hi ht hbk Ou hout (by rw[hBi];exact Dx h0 h1) ?_ (q:=wrap64 (st.B.places+1)) (fun x hx=>hV.om x hx)
  rw[hBi]
  refine⟨hV.nb,hV.bk,fun j hj=>(hV.sym j hj).trans ?_,fun j hj=>(hV.tK j hj).trans ?_,fun j hj u hu x=>(hV.mem j hj u hu x).trans ?_,hV.aU,hV.no,hV.tr,hV.day,hV.tb⟩
  ·by_cases e:j=i
   ·subst e;simp only[MV,aj];rfl
   ·simp only[MV,ah _ _ e]
  ·by_cases e:j=i
   ·subst e;simp only[MV,aj,if_true];rfl
   ·simp only[MV,ah _ _ e,if_neg e]
  ·by_cases e:j=i
   ·subst e
    by_cases e2:u=t
    ·subst e2
     simp only[MV,aj,Bk.rest,and_self,if_true]
     exact iP _ oc x
    ·simp only[MV,aj,Bk.rest,ah _ _ e2,e2,and_false,if_false]
   ·simp only[MV,ah _ _ e,e,false_and,if_false]
 ·simp only[hw]at hV ⊢
  exact lD (V:=MV V i dQ st) (o':=fU (st.om oc)) Ou rfl rfl (fun _ _ _ _ _=>⟨rfl,rfl⟩) hV
theorem Iw{bk:Nat->Nat}{V V1:aQ}{l:List Nat}{i s t oc g cap':Nat}{dQ ext:List Nat}{st:MS}(hi:i<V.nb)(h2:s<2)(ht:t<2)(Ou:VL V oc)(hl:∀x,VL V x->x∈l)(iv:qN oc s st)(htr:(mF oc s st).lg.tr.length+1<1000000000)
 (hk:∀k,k<st.B.n s->bk (st.B.h s k)=V.bk i/\VL V (st.B.h s k)) (Nb:∀k,k<st.B.n s->∀j,j<V.nb->∀t,t<2->Mem ((aN V.B i st.B j).n t) ((aN V.B i st.B j).h t) (st.B.h s k)->j=i/\t=s) (hx:ext.length+st.lg.tr.length=(mF oc s st).lg.tr.length)
 (hbk:bk oc=V.bk i) (hout:∀j,j<V.nb->∀u,u<2->¬Mem ((aN V.B i st.B j).n u) ((aN V.B i st.B j).h u) oc) (h0:0<=st.B.places) (h1:st.B.places<=1000000000000)
 (hV:dK (MV V i (dQ++ext) ⟨dV oc t g cap' (mF oc s st),aF oc (mF oc s st),gJ oc (mF oc s st)⟩) V1) :
 ∃ds Ts,(gJ oc (mF oc s st)).nt=st.lg.nt++ds/\jm bk (KK l) ds Ts (MV V i dQ st) V1:=by
 obtain⟨ds,Ts,en,u⟩:=xK (bk:=bk) hi h2 Ou hl (mu oc s st) st dQ ext iv htr hk Nb hx
 have epl:(mF oc s st).B.places=st.B.places:=oL _ _
 refine⟨_,_,?_,jm.iT u (OW (g:=g) (cap':=cap') hi ht hbk Ou (fun j hj v hv hm=>?_) (by have e:=epl;unfold mF at e;omega) (by have e:=epl;unfold mF at e;omega) ?_) ⟨fun x hx=>hl x ((hV.vl x).1 hx),?_⟩⟩
 ·show (mF oc s st).lg.nt++_=_
  unfold mF
  rw[en,List.append_assoc]
 ·refine hout j hj v hv ?_
  by_cases e:j=i
  ·subst e
   rw[aj]at hm ⊢
   exact zO _ _ iv v oc hm
  ·rw[ah _ _ e]at hm ⊢
   exact hm
 ·exact⟨hV.nb,hV.bk,hV.sym,hV.tK,hV.mem,hV.aU,hV.no,hV.om,hV.tr,hV.day,hV.tb⟩
 ·rw[hV.tr]
  show (mF oc s st).lg.tr.length<_
  omega
def aQ.x9(V:aQ)(id:Int)(b:Nat)(o:Ord):aQ:={ V with aU:=fun i=>if i=id then some b else V.aU i,no:=V.no+1,om:=aN V.om b o }
theorem IA{α:Type}(f:Nat->α)(i:Nat):aN f i (f i)=f:=by
 funext j
 by_cases e:j=i
 ·subst e;rw[aj]
 ·rw[ah _ _ e]
theorem N7{bk:Nat->Nat}{V V1:aQ}{l:List Nat}{i s t b g cap':Nat}{id:Int}{o:Ord}{ext:List Nat}{G:Lg}(hi:i<V.nb)(h2:s<2)(ht:t<2)(hid:(Lit.int .i64 id).wf=true)(hfree:V.aU id=none)(hnew:¬VL V b)(hout:DK V b)
 (hl:∀x,VL (V.x9 id b o) x->x∈l) (WW:G.tr=V.lg.tr) (hGd:G.day=V.lg.day) (iv:qN b s ⟨V.B i,aN V.om b o,G⟩) (htr:(mF b s ⟨V.B i,aN V.om b o,G⟩).lg.tr.length+1<1000000000)
 (hk:∀k,k<(V.B i).n s->bk ((V.B i).h s k)=V.bk i/\VL V ((V.B i).h s k)) (Nb:∀k,k<(V.B i).n s->∀j,j<V.nb->∀t,t<2->Mem ((V.B j).n t) ((V.B j).h t) ((V.B i).h s k)->j=i/\t=s) (hx:ext.length+V.lg.tr.length=(mF b s ⟨V.B i,aN V.om b o,G⟩).lg.tr.length)
 (hbk:bk b=V.bk i) (h0:0<=(V.B i).places) (h1:(V.B i).places<=1000000000000)
 (hV:dK (MV (V.x9 id b o) i (V.lm.tb++ext) ⟨dV b t g cap' (mF b s ⟨V.B i,aN V.om b o,G⟩),aF b (mF b s ⟨V.B i,aN V.om b o,G⟩),gJ b (mF b s ⟨V.B i,aN V.om b o,G⟩)⟩) V1) :
 ∃ds Ts,(gJ b (mF b s ⟨V.B i,aN V.om b o,G⟩)).nt=G.nt++ds/\jm bk (KK l) ([.entered id]++ds) ([[]]++Ts) V V1:=by
 have vp:∀x,VL V x->VL (V.x9 id b o) x:=fun x hx=>by
  obtain⟨j,hj⟩:=hx
  have hne:j≠id:=fun e=>by rw[e,hfree]at hj;simp at hj
  exact⟨j,by show (if j=id then some b else V.aU j)=_;rw[if_neg hne];exact hj⟩
 have vo:VL (V.x9 id b o) b:=⟨id,by show (if id=id then some b else V.aU id)=_;rw[if_pos rfl]⟩
 have hmo:=sN b s (mu b s ⟨V.B i,aN V.om b o,G⟩) ⟨V.B i,aN V.om b o,G⟩
 have hGl:G.tr.length+1<1000000000:=by
  have:G.tr.length<=(mF b s ⟨V.B i,aN V.om b o,G⟩).lg.tr.length:=hmo
  omega
 have ub:aN (V.x9 id b o).B i (V.B i)=V.B:=IA _ _
 have u1:jm bk (KK l) [.entered id] [[]] V (MV (V.x9 id b o) i V.lm.tb ⟨V.B i,aN V.om b o,G⟩):=by
  refine jm.one ⟨fun x hx=>hl x (vp x hx),by rw[<-WW];omega⟩ (Fv (o:=o) hid hfree hnew hout ⟨rfl,fun _ _=>rfl,fun j hj=>?_,fun j hj=>?_,fun j hj u hu x=>?_,rfl,rfl,fun _ _=>rfl,WW,hGd,rfl⟩) ⟨hl,by show G.tr.length<_;omega⟩
  ·simp only[MV];rw[ub]
  ·simp only[MV];rw[ub]
  ·simp only[MV];rw[ub]
 obtain⟨ds,Ts,en,u2⟩:=Iw (bk:=bk) (V:=V.x9 id b o) (V1:=V1) (l:=l) (dQ:=V.lm.tb) (ext:=ext) (st:=⟨V.B i,aN V.om b o,G⟩) (g:=g) (cap':=cap') hi h2 ht vo hl iv htr (fun k hkk=>⟨(hk k hkk).1,vp _ (hk k hkk).2⟩) (fun k hkk j hj u hu hm=>Nb k hkk j hj u hu (by rw[ub]at hm;exact hm)) (by show ext.length+G.tr.length=_;rw[WW];exact hx) hbk (fun j hj u hu hm=>hout j hj u hu (by rw[ub]at hm;exact hm)) h0 h1 hV
 exact⟨ds,Ts,en,u1.append u2⟩
theorem RI{bk:Nat->Nat}{V V1:aQ}{M:Int}{l:List Nat}{i s t k0 g cap':Nat}{af aI:Int}{ext:List Nat}{G:Lg}(gw:GW V M)(hi:i<V.nb)(h2:s<2)(ht:t<2)(hst:s≠t)(hk0:k0<(V.B i).n t)
 (hl:∀x,VL V x->x∈l) (WW:G.tr=V.lg.tr) (hGd:G.day=V.lg.day) (iv:qN ((V.B i).h t k0) s ⟨(V.B i).leave V.om t k0,aN V.om ((V.B i).h t k0) (dP (V.om ((V.B i).h t k0)) af aI),G⟩) (htr:(mF ((V.B i).h t k0) s ⟨(V.B i).leave V.om t k0,aN V.om ((V.B i).h t k0) (dP (V.om ((V.B i).h t k0)) af aI),G⟩).lg.tr.length+1<1000000000)
 (hbk:∀u,u<2->∀k,k<(V.B i).n u->bk ((V.B i).h u k)=V.bk i) (hx:ext.length+V.lg.tr.length=(mF ((V.B i).h t k0) s ⟨(V.B i).leave V.om t k0,aN V.om ((V.B i).h t k0) (dP (V.om ((V.B i).h t k0)) af aI),G⟩).lg.tr.length)
 (h0:0<=(V.B i).places) (h1:(V.B i).places<=1000000000000)
 (hV:dK (MV V i (V.lm.tb++ext) ⟨dV ((V.B i).h t k0) t g cap' (mF ((V.B i).h t k0) s ⟨(V.B i).leave V.om t k0,aN V.om ((V.B i).h t k0) (dP (V.om ((V.B i).h t k0)) af aI),G⟩),aF ((V.B i).h t k0) (mF ((V.B i).h t k0) s ⟨(V.B i).leave V.om t k0,aN V.om ((V.B i).h t k0) (dP (V.om ((V.B i).h t k0)) af aI),G⟩),gJ ((V.B i).h t k0) (mF ((V.B i).h t k0) s ⟨(V.B i).leave V.om t k0,aN V.om ((V.B i).h t k0) (dP (V.om ((V.B i).h t k0)) af aI),G⟩)⟩) V1) :
 ∃ds Ts,(gJ ((V.B i).h t k0) (mF ((V.B i).h t k0) s ⟨(V.B i).leave V.om t k0,aN V.om ((V.B i).h t k0) (dP (V.om ((V.B i).h t k0)) af aI),G⟩)).nt=G.nt++ds/\jm bk (KK l) ([.left ((V.B i).h t k0),.fA ((V.B i).h t k0) (V.om ((V.B i).h t k0))]++ds) ([[],[]]++Ts) V V1:=by
 obtain⟨b,hb⟩:∃b,b=(V.B i).h t k0:=⟨_,rfl⟩
 rw[<-hb]at iv htr hx hV ⊢
 obtain⟨BD,ho1⟩:∃BD,BD=aN V.om b (dP (V.om b) af aI):=⟨_,rfl⟩
 rw[<-ho1]at iv htr hx hV ⊢
 have hm0:Mem ((V.B i).n t) ((V.B i).h t) b:=⟨k0,hk0,hb⟩
 have hvb:VL V b:=(((gw.gb i hi).mem t ht b).1 hm0).1
 have hmo:=sN b s (mu b s ⟨(V.B i).leave V.om t k0,BD,G⟩) ⟨(V.B i).leave V.om t k0,BD,G⟩
 have hGl:G.tr.length+1<1000000000:=by
  have:G.tr.length<=(mF b s ⟨(V.B i).leave V.om t k0,BD,G⟩).lg.tr.length:=hmo
  omega
 have hK:KK l V:=⟨hl,by rw[<-WW];omega⟩
 have dl:=su (dG:=V.om) gw.hs hi ht hk0
 rw[<-hb]at dl
 have u1:jm bk (KK l) [.left b,.fA b (V.om b)] [[],[]] V (MV V i V.lm.tb ⟨(V.B i).leave V.om t k0,BD,G⟩):=by
  refine jm.iT (jm.one hK (qX hi ht (by rw[hb];exact hbk t ht k0 hk0) hvb (((gw.gb i hi).mem t ht b).1 hm0).2.2.1 hm0 (fun j hj u hu h=>gw.one hi hj ht hu hm0 h) dl (fun _ _=>rfl)) (show KK l { V with B:=aN V.B i ((V.B i).leave V.om t k0) } from hK)) ?_ ⟨hl,by show G.tr.length<_;omega⟩
  refine lD (V:={ V with B:=aN V.B i ((V.B i).leave V.om t k0) }) (o':=dP (V.om b) af aI) hvb rfl rfl (fun j hj u hu h=>?_) ⟨rfl,fun _ _=>rfl,fun _ _=>rfl,fun _ _=>rfl,fun _ _ _ _ _=>Iff.rfl,rfl,rfl,fun x _=>by show BD x=_;rw[ho1],WW,hGd,rfl⟩
  exfalso
  rw[dl.mem j hj u hu b]at h
  by_cases c:j=i/\u=t
  ·rw[if_pos c]at h;exact h.2 rfl
  ·rw[if_neg c]at h;exact c (gw.one hi hj ht hu hm0 h)
 have other:∀u,u≠t->((V.B i).leave V.om t k0).n u=(V.B i).n u/\((V.B i).leave V.om t k0).h u=(V.B i).h u:=fun u e =>
  ⟨by simp only[Bk.leave,ah _ _ e],by simp only[Bk.leave,ah _ _ e]⟩
 have sub:∀j,j<V.nb->∀u,u<2->∀x,Mem ((aN V.B i ((V.B i).leave V.om t k0) j).n u) ((aN V.B i ((V.B i).leave V.om t k0) j).h u) x->Mem ((V.B j).n u) ((V.B j).h u) x/\x≠b:=fun j hj u hu x h=>by
  have h':=(dl.mem j hj u hu x).1 h
  by_cases c:j=i/\u=t
  ·rw[if_pos c]at h'
   obtain⟨rfl,rfl⟩:=c
   exact h'
  ·rw[if_neg c]at h'
   exact⟨h',fun e=>c (gw.one hi hj ht hu hm0 (e▸h'))⟩
 obtain⟨ds,Ts,en,u2⟩:=Iw (bk:=bk) (V:=V) (V1:=V1) (l:=l) (dQ:=V.lm.tb) (ext:=ext) (st:=⟨(V.B i).leave V.om t k0,BD,G⟩) (g:=g) (cap':=cap') hi h2 ht hvb hl iv htr (fun k hkk=>by
  rw[show ((V.B i).leave V.om t k0).n s=(V.B i).n s from (other s hst).1]at hkk
  show bk (((V.B i).leave V.om t k0).h s k)=_/\VL V (((V.B i).leave V.om t k0).h s k)
  rw[(other s hst).2]
  exact⟨hbk s h2 k hkk,(((gw.gb i hi).mem s h2 _).1 ⟨k,hkk,rfl⟩).1⟩) (fun k hkk j hj u hu hm=>by
  have abo:k<(V.B i).n s:=by rw[<-(other s hst).1];exact hkk
  refine gw.one hi hj h2 hu ⟨k,abo,rfl⟩ ?_
  have:=(sub j hj u hu _ hm).1
  rw[show (MS.B ⟨(V.B i).leave V.om t k0,BD,G⟩).h s k=(V.B i).h s k by show ((V.B i).leave V.om t k0).h s k=_;rw[(other s hst).2]]at this
  exact this) (by show ext.length+G.tr.length=_;rw[WW];exact hx) (by rw[hb];exact hbk t ht k0 hk0) (fun j hj u hu hm=>(sub j hj u hu _ hm).2 rfl) h0 h1 hV
 exact⟨ds,Ts,en,u1.append u2⟩
theorem GW.JC{V V':aQ}{M M':Int}(g:GW V M)(g':GW V' M')(hnb:V'.nb=V.nb)(hbk:∀i,i<V.nb->V'.bk i=V.bk i)(hsy:∀i,i<V.nb->(V'.B i).sym=(V.B i).sym)(hpl:∀i,i<V.nb->(V'.B i).places=(V.B i).places)(qj:V'.aU=V.aU)(hno:V'.no=V.no)
 (jk:∀x,VL V x->V'.om x=V.om x) (htr:V'.lg.tr=V.lg.tr) (hdy:V'.lg.day=V.lg.day) (htb:V'.lm.tb=V.lm.tb):dK V V':=by
 have vl:∀x,VL V' x↔VL V x:=fun x=>by unfold VL;rw[qj]
 refine⟨hnb,hbk,hsy,hpl,fun i hi s hs x=>?_,qj,hno,jk,htr,hdy,htb⟩
 rw[(g'.gb i (by omega)).mem s hs x,(g.gb i hi).mem s hs x,hsy i hi]
 constructor
 ·rintro⟨a,b⟩
  have a':=(vl x).1 a
  rw[jk x a']at b
  exact⟨a',b⟩
 ·rintro⟨a,b⟩
  rw[jk x a]
  exact⟨(vl x).2 a,b⟩
theorem UM{bk:Nat->Nat}{V V':aQ}{M:Int}{l:List Nat}{b:Nat}{q:Int}(g:GW V M)(g':GW V' M)(hK:KK l V)(hb:VL V b)(hnb:V'.nb=V.nb)(hbk:∀i,i<V.nb->V'.bk i=V.bk i)(hsy:∀i,i<V.nb->(V'.B i).sym=(V.B i).sym)(hpl:∀i,i<V.nb->(V'.B i).places=(V.B i).places)(qj:V'.aU=V.aU)(hno:V'.no=V.no)
 (jk:V'.om=aN V.om b (eY (V.om b) q)) (htr:V'.lg.tr=V.lg.tr) (hdy:V'.lg.day=V.lg.day) (htb:V'.lm.tb=V.lm.tb):jm bk (KK l) [.fA b (V.om b)] [[]] V V':=by
 have vl:∀x,VL V' x↔VL V x:=fun x=>by unfold VL;rw[qj]
 refine jm.one hK (lD (o':=eY (V.om b) q) hb rfl rfl (fun _ _ _ _ _=>⟨rfl,rfl⟩) ⟨hnb,hbk,hsy,hpl,fun i hi s hs x=>?_,qj,hno,fun x hx=>by rw[jk],htr,hdy,htb⟩) ⟨fun x hx=>hK.1 x ((vl x).1 hx),by rw[htr];exact hK.2⟩
 show Mem ((V'.B i).n s) ((V'.B i).h s) x↔Mem ((V.B i).n s) ((V.B i).h s) x
 have hi':i<V.nb:=hi
 rw[(g'.gb i (by omega)).mem s hs x,(g.gb i hi').mem s hs x,hsy i hi',jk,vl]
 by_cases e:x=b
 ·subst e;rw[aj];exact Iff.rfl
 ·rw[ah _ _ e]
theorem UN{bk:Nat->Nat}{V V':aQ}{M:Int}{l:List Nat}{b i t:Nat}{q:Int}(g:GW V M)(g':GW V' M)(hK:KK l V)(hb:VL V b)(hi:i<V.nb)(ht:t<2)(hsb:(V.om b).sym=(V.B i).sym)(hsd:(V.om b).side=(t:Int))(hbk0:bk b=V.bk i)(h0:0<=(V.B i).places)(h1:(V.B i).places<=1000000000000)(hpos:0<(V'.om b).aK)(ho0:0<=(V.om b).aK)
 (hnb:V'.nb=V.nb) (hbk:∀i,i<V.nb->V'.bk i=V.bk i) (hsy:∀i,i<V.nb->(V'.B i).sym=(V.B i).sym) (hpl:∀j,j<V.nb->(V'.B j).places=if j=i then wrap64 ((V.B i).places+1) else (V.B j).places) (qj:V'.aU=V.aU) (hno:V'.no=V.no)
 (jk:V'.om=bY V i b q) (htr:V'.lg.tr=V.lg.tr) (hdy:V'.lg.day=V.lg.day) (htb:V'.lm.tb=V.lm.tb):∃Ts,jm bk (KK l) ((if 0<(V.om b).aK then [.left b] else [])++[.fA b (V.om b),.eQ b (V.om b).place]) Ts V V':=by
 have vl:∀x,VL V' x↔VL V x:=fun x=>by unfold VL;rw[qj]
 have one:∀j,j<V.nb->∀u:Nat,u<2->(V.om b).sym=(V.B j).sym->(V.om b).side=(u:Int)->j=i/\u=t:=fun j hj u hu e1 e2=>by
  refine⟨g.kM j i hj hi (e1.symm.trans hsb),?_⟩
  rw[hsd]at e2
  exact (Int.ofNat_inj.1 e2).symm
 obtain⟨Va,Ts0,u0,e1,e2,e3,e4,e5,e6,e7,e8,e9,e10,em⟩:∃Va Ts0,jm bk (KK l) (if 0<(V.om b).aK then [.left b] else []) Ts0 V Va/\Va.nb=V.nb/\(∀j,j<V.nb->Va.bk j=V.bk j)/\(∀j,j<V.nb->(Va.B j).sym=(V.B j).sym)/\(∀j,j<V.nb->(Va.B j).places=(V.B j).places)/\Va.aU=V.aU/\Va.no=V.no/\Va.om=V.om/\Va.lg=V.lg/\Va.lm=V.lm/\True/\∀j,j<V.nb->∀u,u<2->∀x,Mem ((Va.B j).n u) ((Va.B j).h u) x↔Mem ((V.B j).n u) ((V.B j).h u) x/\x≠b:=by
  by_cases hz:0<(V.om b).aK
  ·rw[if_pos hz]
   have hm0:Mem ((V.B i).n t) ((V.B i).h t) b:=((g.gb i hi).mem t ht b).2 ⟨hb,hsb,hsd,hz⟩
   obtain⟨k0,hk0,ek⟩:=hm0
   have dl:=su (dG:=V.om) g.hs hi ht hk0
   rw[<-ek]at dl
   refine⟨{ V with B:=aN V.B i ((V.B i).leave V.om t k0) },[[]],jm.one hK (qX hi ht hbk0 hb hsd ⟨k0,hk0,ek⟩ (fun j hj u hu h=>g.one hi hj ht hu ⟨k0,hk0,ek⟩ h) dl (fun _ _=>rfl)) hK,rfl,fun _ _=>rfl,dl.sym,fun j hj=>?_,rfl,rfl,rfl,rfl,rfl,trivial,fun j hj u hu x=>?_⟩
   ·rw[dl.tK j hj]
    by_cases c:j=i
    ·rw[if_pos c,c]
    ·rw[if_neg c]
   ·rw[dl.mem j hj u hu x]
    by_cases c:j=i/\u=t
    ·rw[if_pos c];obtain⟨rfl,rfl⟩:=c;exact Iff.rfl
    ·rw[if_neg c]
     exact⟨fun h=>⟨h,fun e=>c (g.one hi hj ht hu ⟨k0,hk0,ek⟩ (e▸h))⟩,fun h=>h.1⟩
  ·rw[if_neg hz]
   refine⟨V,[],jm.nil V hK,rfl,fun _ _=>rfl,fun _ _=>rfl,fun _ _=>rfl,rfl,rfl,rfl,rfl,rfl,trivial,fun j hj u hu x=>⟨fun h=>⟨h,fun e=>?_⟩,fun h=>h.1⟩⟩
   have:=(((g.gb j hj).mem u hu x).1 h).2.2.2
   rw[e]at this
   exact hz this
 have vla:∀x,VL Va x↔VL V x:=fun x=>by unfold VL;rw[e5]
 have outA:DK Va b:=fun j hj u hu h=>((em j (by omega) u hu b).1 h).2 rfl
 have kk:∀dG,KK l { Va with om:=dG }:=fun dG=>⟨fun x hx=>hK.1 x ((vla x).1 hx),by show Va.lg.tr.length<_;rw[e8];exact hK.2⟩
 have u1:jm bk (KK l) ((if 0<(V.om b).aK then [.left b] else [])++[.fA b (V.om b)]) (Ts0++[[]]) V { Va with om:=aN V.om b (fF (V.om b) q) }:=by
  refine jm.iT u0 ?_ (kk _)
  have h:=lD (bk:=bk) (V:=Va) (V1:={ Va with om:=aN V.om b (fF (V.om b) q) }) (b:=b) (o':=fF (V.om b) q) ((vla b).2 hb) (by rw[e7];rfl) (by rw[e7];rfl) (fun j hj u hu hm=>absurd hm (outA j hj u hu)) (by rw[e7];exact dK.refl _)
  rw[e7]at h
  exact h
 have hVb:(aN V.om b (fF (V.om b) q)) b=fF (V.om b) q:=aj _ _ _
 have hB:BX bk (.eQ b ((aN V.om b (fF (V.om b) q)) b).place) [] { Va with om:=aN V.om b (fF (V.om b) q) } V':=by
  refine Fz (V:={ Va with om:=aN V.om b (fF (V.om b) q) }) (i:=i) (s:=t) (pl:=wrap64 ((V.B i).places+1)) (q:=wrap64 ((V.B i).places+1)) (by show i<Va.nb;omega) ht (by show bk b=Va.bk i;rw[e2 i hi];exact hbk0) ((vla b).2 hb) outA (by show (Va.B i).places=_;rw[e4 i hi];exact Dx h0 h1) ?_ (fun x _=>by rw[jk];simp only[bY,hVb])
  refine⟨by show V'.nb=Va.nb;omega,fun j hj=>?_,fun j hj=>?_,fun j hj=>?_,fun j hj u hu x=>?_,by show V'.aU=Va.aU;rw[qj,e5],by show V'.no=Va.no;rw[hno,e6],by show V'.lg.tr=Va.lg.tr;rw[htr,e8],by show V'.lg.day=Va.lg.day;rw[hdy,e8],by show V'.lm.tb=Va.lm.tb;rw[htb,e9]⟩
  ·have hj':j<V.nb:=by simp only at hj;omega
   show V'.bk j=Va.bk j
   rw[hbk j hj',e2 j hj']
  ·have hj':j<V.nb:=by simp only at hj;omega
   show (V'.B j).sym=(Va.B j).sym
   rw[hsy j hj',e3 j hj']
  ·have hj':j<V.nb:=by simp only at hj;omega
   show (V'.B j).places=if j=i then _ else (Va.B j).places
   rw[hpl j hj',e4 j hj']
  ·have hj':j<V.nb:=by simp only at hj;omega
   show Mem ((V'.B j).n u) ((V'.B j).h u) x↔if j=i/\u=t then (Mem ((Va.B i).n t) ((Va.B i).h t) x\/x=b) else Mem ((Va.B j).n u) ((Va.B j).h u) x
   rw[(g'.gb j (by omega)).mem u hu x,hsy j hj',vl]
   by_cases e:x=b
   ·subst e
    have ob:(V'.om x).sym=(V.om x).sym/\(V'.om x).side=(V.om x).side:=by rw[jk];simp only[bY,aj];exact⟨rfl,rfl⟩
    rw[ob.1,ob.2]
    by_cases c:j=i/\u=t
    ·rw[if_pos c]
     obtain⟨rfl,rfl⟩:=c
     exact⟨fun _=>.inr rfl,fun _=>⟨hb,hsb,hsd,hpos⟩⟩
    ·rw[if_neg c,em j hj' u hu x]
     exact⟨fun h=>absurd (one j hj' u hu h.2.1 h.2.2.1) c,fun h=>absurd rfl h.2⟩
   ·have ox:V'.om x=V.om x:=by rw[jk];simp only[bY,ah _ _ e]
    rw[ox,<-(g.gb j hj').mem u hu x]
    by_cases c:j=i/\u=t
    ·rw[if_pos c]
     obtain⟨rfl,rfl⟩:=c
     rw[em j hj' u hu x]
     exact⟨fun h=>.inl ⟨h,e⟩,fun h=>h.elim (fun h=>h.1) (fun h=>absurd h e)⟩
    ·rw[if_neg c,em j hj' u hu x]
     exact⟨fun h=>⟨h,e⟩,fun h=>h.1⟩
 rw[hVb]at hB
 have u2:=jm.iT u1 hB ⟨fun x hx=>hK.1 x ((vl x).1 hx),by rw[htr];exact hK.2⟩
 rw[List.append_assoc]at u2
 exact⟨_,u2⟩
theorem UL{bk:Nat->Nat}{V V':aQ}{M:Int}{l:List Nat}{b i t:Nat}{o':Ord}(g:GW V M)(g':GW V' M)(hK:KK l V)(hb:VL V b)(hi:i<V.nb)(ht:t<2)(hsb:(V.om b).sym=(V.B i).sym)(hsd:(V.om b).side=(t:Int))(hz:0<(V.om b).aK)(hbk0:bk b=V.bk i)
 (o1:o'.id=(V.om b).id) (o2:o'.place=(V.om b).place) (o3:o'.aK=0)
 (hnb:V'.nb=V.nb) (hbk:∀i,i<V.nb->V'.bk i=V.bk i) (hsy:∀i,i<V.nb->(V'.B i).sym=(V.B i).sym) (hpl:∀j,j<V.nb->(V'.B j).places=(V.B j).places) (qj:V'.aU=V.aU) (hno:V'.no=V.no)
 (jk:V'.om=aN V.om b o') (htr:V'.lg.tr=V.lg.tr) (hdy:V'.lg.day=V.lg.day) (htb:V'.lm.tb=V.lm.tb):jm bk (KK l) [.left b,.fA b (V.om b)] [[],[]] V V':=by
 have vl:∀x,VL V' x↔VL V x:=fun x=>by unfold VL;rw[qj]
 obtain⟨k0,hk0,ek⟩:Mem ((V.B i).n t) ((V.B i).h t) b:=((g.gb i hi).mem t ht b).2 ⟨hb,hsb,hsd,hz⟩
 have dl:=su (dG:=V.om) g.hs hi ht hk0
 rw[<-ek]at dl
 have out:∀j,j<V.nb->∀u,u<2->∀x,Mem ((aN V.B i ((V.B i).leave V.om t k0) j).n u) ((aN V.B i ((V.B i).leave V.om t k0) j).h u) x↔Mem ((V.B j).n u) ((V.B j).h u) x/\x≠b:=fun j hj u hu x=>by
  have h:=dl.mem j hj u hu x
  by_cases c:j=i/\u=t
  ·rw[if_pos c]at h;obtain⟨rfl,rfl⟩:=c;exact h
  ·rw[if_neg c]at h
   exact h.trans ⟨fun h=>⟨h,fun e=>c (g.one hi hj ht hu ⟨k0,hk0,ek⟩ (e▸h))⟩,fun h=>h.1⟩
 refine jm.iT (jm.one hK (qX hi ht hbk0 hb hsd ⟨k0,hk0,ek⟩ (fun j hj u hu h=>g.one hi hj ht hu ⟨k0,hk0,ek⟩ h) dl (fun _ _=>rfl)) (show KK l { V with B:=aN V.B i ((V.B i).leave V.om t k0) } from hK)) ?_ ⟨fun x hx=>hK.1 x ((vl x).1 hx),by rw[htr];exact hK.2⟩
 refine lD (V:={ V with B:=aN V.B i ((V.B i).leave V.om t k0) }) (o':=o') hb o1 o2 (fun j hj u hu h=>absurd rfl ((out j hj u hu b).1 h).2) ⟨hnb,hbk,fun j hj=>?_,fun j hj=>?_,fun j hj u hu x=>?_,qj,hno,fun x _=>by rw[jk],htr,hdy,htb⟩
 ·exact (hsy j hj).trans (dl.sym j hj).symm
 ·refine (hpl j hj).trans ?_
  have h:=dl.tK j hj
  by_cases c:j=i
  ·rw[if_pos c]at h;rw[c]at h ⊢;exact h.symm
  ·rw[if_neg c]at h;exact h.symm
 ·refine Iff.trans ?_ (out j hj u hu x).symm
  have hj':j<V.nb:=hj
  rw[(g'.gb j (by omega)).mem u hu x,(g.gb j hj').mem u hu x,hsy j hj',vl,jk]
  by_cases e:x=b
  ·subst e
   rw[aj,o3]
   exact⟨fun h=>absurd h.2.2.2 (by omega),fun h=>absurd rfl h.2⟩
  ·rw[ah _ _ e]
   exact⟨fun h=>⟨h,e⟩,fun h=>h.1⟩
theorem X5{bk:Nat->Nat}{V V':aQ}{M:Int}{l:List Nat}{b i s t:Nat}{q:Int}{again:Bool}(g:GW V M)(hv:WI V M i s b q again V')(hK:KK l V)(hb:VL V b)(hi:i<V.nb)(ht:t<2)(hsb:(V.om b).sym=(V.B i).sym)(hsd:(V.om b).side=(t:Int))(hbk0:bk b=V.bk i)(h0:0<=(V.B i).places)(h1:(V.B i).places<=1000000000000)
 (hM:M<=1000000000000000) (hq:1<=q) (hq2:q<=(V.om b).filled) (hbk:V'.bk=V.bk) (htr:V'.lg.tr=V.lg.tr) (hdy:V'.lg.day=V.lg.day) (htb:V'.lm.tb=V.lm.tb):∃Ts,jm bk (KK l) (Rx V i s b again) Ts V V':=by
 have hbk':∀j,j<V.nb->V'.bk j=V.bk j:=fun j _=>by rw[hbk]
 rcases hv.way with⟨hc,jk,hp⟩|⟨ha,hr,hf,jk,hp⟩
 ·refine⟨[[]],?_⟩
  rw[Rx,if_pos hc]
  exact UM g hv.gw hK hb hv.nb hbk' (fun j _=>hv.kE j) (fun j _=>hp j) hv.aU hv.no jk htr hdy htb
 ·rw[Rx,if_neg (by rintro (h|h|h);· rw[ha]at h;simp at h
                   ·rw[hr]at h;simp at h
                   ·rw[hf]at h;simp at h)]
  have q0:=g.q b hb
  have a1:=q0.o0;have a2:=q0.f0;have a3:=q0.c0;have a4:=q0.e0;have a5:=q0.sum;have a6:=q0.hi
  refine UN g hv.gw hK hb hi ht hsb hsd hbk0 h0 h1 ?_ a1 hv.nb hbk' (fun j _=>hv.kE j) (fun j _=>hp j) hv.aU hv.no jk htr hdy htb
  rw[jk]
  simp only[bY,aj,fF]
  rw[aS (by omega) (by omega)]
  omega
theorem bJ.fZ{w:World}{bv:Nat}{bk:Nat->Nat}{lo:Nat}{d:dS}{c:Value}(h:bJ w bv bk lo d c){x:Nat}(hx:wI c x):∃cs t,az w x cs t/\nK d.qP t:=by
 obtain⟨fn,cp,rfl,h⟩:=h
 obtain⟨fn',cp',e,hx⟩:=hx
 simp only[Value.func.injEq]at e
 obtain⟨_,_,rfl⟩:=e
 cases d with
 | fA b od =>
   obtain⟨e,H,h0,rfl,h1,h2⟩:=h
   simp at hx
   rcases hx with e|e <;> rw[fK e]
   ·exact⟨_,_,h2,.inr (.inl rfl)⟩
   ·exact⟨_,_,h1,.inl rfl⟩
 | left b =>
   obtain⟨e,H,h0,rfl,h1,h2⟩:=h
   simp at hx
   rcases hx with e|e <;> rw[fK e]
   ·exact⟨_,_,h1,.inr (.inr (.inl rfl))⟩
   ·exact⟨_,_,h2,.inl rfl⟩
 | eQ b p =>
   obtain⟨e,H,h0,rfl,⟨h1,h2⟩,h3⟩:=h
   simp at hx
   rcases hx with e|e|e <;> rw[fK e]
   ·exact⟨_,_,h1,.inr (.inr (.inl rfl))⟩
   ·exact⟨_,_,h2,.inl rfl⟩
   ·exact⟨_,_,h3,.inr (.inr (.inr (.inl rfl)))⟩
 | entered id =>
   obtain⟨e,H,cs,h0,rfl,h1,h2,h3⟩:=h
   simp at hx
   rcases hx with e|e <;> rw[fK e]
   ·exact⟨_,_,h1,.inr (.inr (.inr (.inr (.inl rfl))))⟩
   ·exact⟨_,_,h2,.inr (.inr (.inr (.inr (.inr (.inl rfl)))))⟩
 | cO s =>
   obtain⟨e,H,K,h0,hK,rfl,h1,h2⟩:=h
   simp at hx
   rcases hx with e|e <;> rw[fK e]
   ·exact⟨_,_,h1,.inr (.inr (.inr (.inr (.inl rfl))))⟩
   ·exact⟨_,_,h2,.inr (.inr (.inr (.inr (.inr (.inr (.inl rfl))))))⟩
 | iH t =>
   obtain⟨e,H,h0,rfl,h1,h2⟩:=h
   simp at hx
   rcases hx with e|e <;> rw[fK e]
   ·exact⟨_,_,h1,.inr (.inr (.inr (.inr (.inl rfl))))⟩
   ·exact⟨_,_,h2,.inr (.inr (.inr (.inr (.inr (.inr (.inr (.inl rfl)))))))⟩
 | jw tb =>
   obtain⟨e,H,K,h0,hK,rfl,h1,h2⟩:=h
   simp at hx
   rcases hx with e|e <;> rw[fK e]
   ·exact⟨_,_,h2,.inr (.inr (.inr (.inr (.inr (.inr (.inr (.inr ⟨rfl,rfl⟩)))))))⟩
   ·exact⟨_,_,h1,.inr (.inr (.inr (.inr (.inl rfl))))⟩
 | iE tb p =>
   obtain⟨e,H,K,J,h0,hK,hJ,rfl,h1,h2,h3⟩:=h
   simp at hx
   rcases hx with e|e|e <;> rw[fK e]
   ·exact⟨_,_,h1,.inr (.inr (.inr (.inr (.inl rfl))))⟩
   ·exact⟨_,_,h2,.inr (.inr (.inr (.inr (.inr (.inr (.inr (.inr ⟨rfl,rfl⟩)))))))⟩
   ·exact⟨_,_,h3,.inr (.inr (.inr (.inl rfl)))⟩
 | closed =>
   obtain⟨e,H,h0,rfl,h1⟩:=h
   simp at hx
   rw[fK hx]
   exact⟨_,_,h1,.inr (.inr (.inr (.inr (.inl rfl))))⟩
theorem bJ.qH{w:World}{bv:Nat}{bk:Nat->Nat}{lo:Nat}{d:dS}{c:Value}(h:bJ w bv bk lo d c):bJ w bv bk 0 d c:=by
 obtain⟨fn,cp,rfl,h⟩:=h
 refine⟨fn,cp,rfl,?_⟩
 cases d with
 | fA b od=>obtain⟨e,H,h0,e2,h⟩:=h;exact⟨e,H,Nat.zero_le _,e2,h⟩
 | left b=>obtain⟨e,H,h0,e2,h⟩:=h;exact⟨e,H,Nat.zero_le _,e2,h⟩
 | eQ b p=>obtain⟨e,H,h0,e2,h⟩:=h;exact⟨e,H,Nat.zero_le _,e2,h⟩
 | entered id=>obtain⟨e,H,cs,h0,h⟩:=h;exact⟨e,H,cs,Nat.zero_le _,h⟩
 | cO s=>obtain⟨e,H,K,h0,hK,h⟩:=h;exact⟨e,H,K,Nat.zero_le _,Nat.zero_le _,h⟩
 | iH t=>obtain⟨e,H,h0,h⟩:=h;exact⟨e,H,Nat.zero_le _,h⟩
 | jw tb=>obtain⟨e,H,K,h0,hK,h⟩:=h;exact⟨e,H,K,Nat.zero_le _,Nat.zero_le _,h⟩
 | iE tb p=>obtain⟨e,H,K,J,h0,hK,hJ,h⟩:=h;exact⟨e,H,K,J,Nat.zero_le _,Nat.zero_le _,Nat.zero_le _,h⟩
 | closed=>obtain⟨e,H,h0,h⟩:=h;exact⟨e,H,Nat.zero_le _,h⟩
structure lK where
 bk:Nat->Nat
 ds:List dS
 Ts:List (List (Int × Tr))
 cl:List Value
structure Oe(bv bm bo:Nat)(V:aQ)(n:lK)(w:World):Prop where
 len:n.cl.length=n.ds.length
 mi:∀(i:Nat) (d:dS) (c:Value),n.ds[i]?=some d->n.cl[i]?=some c->bJ w bv n.bk 0 d c
 off:∀c∈n.cl,∀x,wI c x->¬dI bv bm bo V x
theorem Oe.lt{bv bm bo:Nat}{V:aQ}{n:lK}{w:World}(h:Oe bv bm bo V n w){c:Value}(hc:c∈n.cl){x:Nat}(hx:wI c x):x<w.heap.size:=by
 obtain⟨i,hi,rfl⟩:=List.mem_iff_getElem.1 hc
 have hi':i<n.ds.length:=by rw[<-h.len];exact hi
 exact ((h.mi i n.ds[i] n.cl[i] (List.getElem?_eq_getElem hi') (List.getElem?_eq_getElem hi)).cap hx).2
theorem Oe.aC{bv bm bo:Nat}{V V':aQ}{n:lK}{w w':World}(h:Oe bv bm bo V n w)(k:au (dI bv bm bo V) w w')(hF:∀x,dI bv bm bo V' x->dI bv bm bo V x\/w.heap.size<=x):Oe bv bm bo V' n w':=by
 refine⟨h.len,fun i d c hd hc=>(h.mi i d c hd hc).Qk k (fun x hx=>h.off c (List.mem_of_getElem? hc) x hx),fun c hc x hx hf=>?_⟩
 rcases hF x hf with e|e
 ·exact h.off c hc x hx e
 ·have:=h.lt hc hx;omega
theorem Oe.aH{bv bm bo:Nat}{V:aQ}{n:lK}{w w':World}{K:Nat->Prop}(h:Oe bv bm bo V n w)(k:au K w w')(hK:∀c∈n.cl,∀x,wI c x->¬K x):Oe bv bm bo V n w' :=
 ⟨h.len,fun i d c hd hc=>(h.mi i d c hd hc).Qk k (fun x hx=>hK c (List.mem_of_getElem? hc) x hx),h.off⟩
def BC(bv bm bo:Nat)(V V':aQ)(B:List (Int × Tr))(lo:Nat)(w':World):Prop :=
 ∃(n:lK) (l:List Nat),jm n.bk (KK l) n.ds n.Ts V V'/\l.length<1000/\(0<n.ds.length/\n.ds.length<=100000)/\n.Ts.flatten=B/\V'.lm.ac.map Prod.snd=V.lm.ac.map Prod.snd++[n.cl]/\V'.lg.nt=n.ds/\Oe bv bm bo V' n w'/\∀c∈n.cl,∀x,wI c x->lo<=x
theorem wF{w:World}{b:Nat}{c c':Array Value}{t t':TypeId}(h:az w b c t)(h':az w b c' t'):t=t':=by
 unfold az at h h'
 rw[h]at h'
 simp only[Option.some.injEq,Obj.cells.injEq]at h'
 exact h'.2.1
theorem gI.off{w:World}{bv bm bo:Nat}{bk:Nat->Nat}{lo:Nat}{q:Bool}{old:List (List Value)}{dQ:List Nat}{V:aQ}{cl:List Value}(h:gI w bv bk lo q old V.lg.nt dQ V.lm cl)(R:dN w bv bm bo V)(harr:yY V cl):∀c∈cl,∀x,wI c x->¬dI bv bm bo V x:=by
 intro c hc x hx hf
 obtain⟨i,hi,rfl⟩:=List.mem_iff_getElem.1 hc
 have hi':i<V.lg.nt.length:=by rw[<-h.len];exact hi
 have hB:=h.mi i _ _ (List.getElem?_eq_getElem hi') (List.getElem?_eq_getElem hi)
 have hlo:=(hB.cap hx).1
 obtain⟨cs,t,hb,ht⟩:=hB.fZ hx
 have Ey:∀{c':Array Value} {t':TypeId},az w x c' t'->¬nK true t'->False:=fun hc' hn=>by
  have e:=wF hb hc'
  subst e
  rcases ht with e|e|e|e|e|e|e|e|⟨_,e⟩
  ·exact hn (.inl e)
  ·exact hn (.inr (.inl e))
  ·exact hn (.inr (.inr (.inl e)))
  ·exact hn (.inr (.inr (.inr (.inl e))))
  ·exact hn (.inr (.inr (.inr (.inr (.inl e)))))
  ·exact hn (.inr (.inr (.inr (.inr (.inr (.inl e))))))
  ·exact hn (.inr (.inr (.inr (.inr (.inr (.inr (.inl e)))))))
  ·exact hn (.inr (.inr (.inr (.inr (.inr (.inr (.inr (.inl e))))))))
  ·exact hn (.inr (.inr (.inr (.inr (.inr (.inr (.inr (.inr ⟨rfl,e⟩))))))))
 have nb:∀t':TypeId,(t'=100\/t'=158\/t'=116\/t'=62\/t'=5\/t'=105\/t'=109\/t'=1)->¬nK true t':=by
  rintro t' (e|e|e|e|e|e|e|e) <;> subst e <;> (rintro (e|e|e|e|e|e|e|e|⟨_,e⟩) <;> exact absurd e (by decide))
 rcases hf with e|e|e|⟨j,hj,e⟩|⟨id,e⟩|e
 ·subst e;exact Ey R.dA (nb _ (.inl rfl))
 ·subst e
  obtain⟨fB,mB,_⟩:=R.ik
  exact mB.ne hb rfl
 ·subst e
  obtain⟨fO,mO,_⟩:=R.fD
  exact mO.ne hb rfl
 ·rcases e with e|⟨y,hy,e|⟨k,hk,e⟩⟩
  ·subst e;exact Ey (R.aW j hj).aB (nb _ (.inr (.inl rfl)))
  ·exact harr j hj y hy x e _ hc x hx rfl
  ·obtain⟨id,hid⟩:=R.mem j hj y hy k hk
   obtain⟨_,ix,ho⟩:=R.bg id _ hid
   rw[<-e]at ho
   exact Ey ho (nb _ (.inr (.inr (.inl rfl))))
 ·obtain⟨_,ix,ho⟩:=R.bg id x e
  exact Ey ho (nb _ (.inr (.inr (.inl rfl))))
 ·rcases e with e|(e|e)|e|e
  ·obtain⟨cs',hc'⟩:=bF R.aO.aO.jq e
   cases hT:(V.lg.nt[i]).qP with
   | true =>
     have:=h.tvl _ (List.getElem_mem hi') hT x e
     omega
   | false =>
     rw[hT]at ht
     have et:=wF hb hc'
     subst et
     rcases ht with e|e|e|e|e|e|e|e|⟨e,_⟩
     all_goals exact absurd e (by decide)
  ·obtain⟨cs',hc'⟩:=bF R.aO.aO.iF e;exact Ey hc' (nb _ (.inr (.inr (.inr (.inl rfl)))))
  ·obtain⟨cs',hc'⟩:=bF R.aO.aO.kH e;exact Ey hc' (nb _ (.inr (.inr (.inr (.inr (.inl rfl))))))
  ·obtain⟨k,hk,e2⟩:=List.mem_iff_getElem.1 e
   have hk':k<V.lg.tr.length:=by rw[<-R.aO.aO.len];exact hk
   have:=R.aO.aO.aB k x V.lg.tr[k] (by rw[List.getElem?_eq_getElem hk,e2]) (List.getElem?_eq_getElem hk')
   exact Ey this (nb _ (.inr (.inr (.inr (.inr (.inr (.inl rfl)))))))
  ·obtain⟨c',t',hc',ht'⟩:=R.aO.aO.act.fZ e
   rcases ht' with e|e
   ·subst e;exact Ey hc' (nb _ (.inr (.inr (.inr (.inr (.inr (.inr (.inl rfl))))))))
   ·subst e;exact Ey hc' (nb _ (.inr (.inr (.inr (.inr (.inr (.inr (.inr rfl))))))))
theorem BC.of{w:World}{bv bm bo:Nat}{bk:Nat->Nat}{lo:Nat}{q:Bool}{dQ:List Nat}{V V':aQ}{cl:List Value}{l:List Nat}{ds:List dS}{Ts:List (List (Int × Tr))}{B:List (Int × Tr)}(R:dN w bv bm bo V')(h:gI w bv bk lo q (V.lm.ac.map Prod.snd) V'.lg.nt dQ V'.lm cl)(harr:yY V' cl)(hds:V'.lg.nt=ds)(u:jm bk (KK l) ds Ts V V')(hl:l.length<1000)(hp:0<ds.length)(hn:ds.length<=100000)(hB:Ts.flatten=B):BC bv bm bo V V' B lo w:=by
 refine⟨⟨bk,ds,Ts,cl⟩,l,u,hl,⟨hp,hn⟩,hB,h.ac,hds,⟨by rw[<-hds];exact h.len,fun i d c hd hc=>(h.mi i d c (by rw[hds];exact hd) hc).qH,h.off R harr⟩,fun c hc x hx=>(h.cap hc hx).1⟩
def jI:List dS->List (Int × Tr)
 | []=>[]
 | .iH t :: ds=>(2,t) :: jI ds
 | _ :: ds=>jI ds
theorem ig:∀a b:List dS,jI (a++b)=jI a++jI b
 | [],b=>rfl
 | d :: a,b=>by
   cases d <;> simp only[List.cons_append,jI,ig a b]
theorem jm.kG{bk:Nat->Nat}{K:aQ->Prop}{ds:List dS}{Ts:List (List (Int × Tr))}{V0 V1:aQ}(h:jm bk K ds Ts V0 V1)(hT:∀d∈ds,d.qP=false):Ts.flatten=jI ds:=by
 induction h with
 | nil V h=>rfl
 | @iT ds Ts V0 V V1 d T h hb hk ih =>
   rw[List.flatten_append,ig,ih (fun d hd=>hT d (List.mem_append_left _ hd))]
   congr 1
   have hd:=hT d (by simp)
   cases d with
   | fA b o=>rw[hb.1];rfl
   | left b=>rw[hb.1];rfl
   | eQ b p=>rw[hb.1];rfl
   | entered id=>rw[hb.1];rfl
   | cO s=>rw[hb.1];rfl
   | iH t=>rw[hb.1];rfl
   | jw tb=>simp[dS.qP]at hd
   | iE tb p=>simp[dS.qP]at hd
   | closed=>rw[hb.1];rfl
end Go.Proofs.YtigaphnafnpfnaaGreatDoor
