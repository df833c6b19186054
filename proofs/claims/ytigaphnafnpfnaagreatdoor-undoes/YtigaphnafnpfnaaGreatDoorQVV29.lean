import Derived.Test.YtigaphnafnpfnaaGreatDoorQVV25
import Derived.Test.YtigaphnafnpfnaaGreatDoorQVV24
set_option linter.unusedVariables false
set_option linter.unusedSimpArgs false
set_option maxHeartbeats 8000000
set_option maxRecDepth 100000
namespace Go.Proofs.YtigaphnafnpfnaaGreatDoor
open Go.RowKit Go.Maps Go.Shelf
def Lg.nN(G:Lg)(T:List (Int × Tr)):Lg:=T.foldl (fun G p=>G.told p.1 p.2) G
def Zy(bv bm bo:Nat)(V Vc:aS)(T:List (Int × Tr))(w w':World):Prop :=
 ∃Ui,dL w' bv bm bo Ui/\HS Ui/\dK V Ui/\Ui.lg.tp=(Vc.lg.nN T).tp/\Ui.lg.na=Vc.lg.na/\Ui.lg.ud=Vc.lg.ud/\Ui.lg.nt=Vc.lg.nt/\Ui.lm.ac=Vc.lm.ac/\aj (fun x=>bY bv bm bo Vc x/\¬gK Vc.lm.av Vc.lm.ac x) w w'/\∀x,bY bv bm bo Ui x->bY bv bm bo Vc x\/w.heap.size<=x
theorem dL.XW{w:World}{bv bm bo:Nat}{V:aS}(R:dL w bv bm bo V){x:Nat}{c:Array Value}{t:TypeId}(b:au w x c t)(d:t≠109)(f:t≠1):¬gK V.lm.av V.lm.ac x:=fun h=>by
 obtain⟨i,j,a,g⟩:=R.aO.aO.act.gZ h;unfold au at b a;rw[b]at a;simp only[Option.some.injEq,Obj.cells.injEq]at a;obtain⟨_,e,_⟩:=a;subst e;rcases g with e | e
 ·exact d e
 ·exact f e
section
variable {w w' : World} {bv bm bo : Nat} {Vc : aS}
theorem dL.zl(R:dL w bv bm bo Vc){S:Nat->Prop}(k:aj S w w')(e:∀x,S x->bY bv bm bo Vc x)(f:∀x,S x->∃c t,au w x c t/\t≠109/\t≠1):aj (fun x=>bY bv bm bo Vc x/\¬gK Vc.lm.av Vc.lm.ac x) w w' :=
 k.mono (fun x a=>⟨e x a,by obtain⟨c,t,g,b,d⟩:=f x a;exact R.XW g b d⟩)
theorem dL.zq(R:dL w bv bm bo Vc){S:Nat->Prop}(k:aj S w w')(b:∀x,S x->x=bv\/Vc.lm.F x)(e:∀x,S x->∃c t,au w x c t/\t≠109/\t≠1){bG:Lm}{G':Lg}(f:bz w' bv bm bo G' bG)(d:∀x,bG.F x->Vc.lm.F x\/w.heap.size<=x) :
 dL w' bv bm bo { Vc with lg:=G',lm:=bG }/\aj (fun x=>bY bv bm bo Vc x/\¬gK Vc.lm.av Vc.lm.ac x) w w'/\∀x,bY bv bm bo { Vc with lg:=G',lm:=bG } x->bY bv bm bo Vc x\/w.heap.size<=x:=by
 refine⟨R.kM f (k.mono b),R.zl k (fun x a=>?_) e,fun x a=>?_⟩
 ·rcases b x a with h | h
  ·exact .inl h
  ·exact vk h
 ·rcases a with h | h | h | h | h | h
  ·exact .inl (.inl h)
  ·exact .inl (.inr (.inl h))
  ·exact .inl (jL h)
  ·exact .inl (iQ h)
  ·exact .inl (qo h)
  ·exact (d x h).imp_left (fun h=>vk h)
end
theorem OV(bv bm bo lo:Nat)(bk:Nat->Nat)(d:dU)(c:Value)(T:List (Int × Tr))(V V1 Vc:aS)(w:World)(R:dL w bv bm bo Vc)(hs:HS Vc)(a:dK V1 Vc)(L:Cj bk d T V V1)(D:bH w bv bk lo d c)
 (hsep:∀fn P x,c=.func fn #[] P->dh x∈P.toList->¬bY bv bm bo Vc x) (hcnt:∀i,i<Vc.nb->∀s,s<2->(Vc.B i).n s<1000) (htp:Vc.lg.tp.length<1000000000) (htr:Vc.lg.tr.length<1000000000) :
 ∃f P,c=.func (.func f) #[] P/\Enters Tryz.prog f/\Calls Tryz.prog f P w fun e w'=>e=.returned (.tuple #[])/\Zy bv bm bo V Vc T w w':=by
 have nbe:=a.nb;obtain⟨fn,P,rfl,D⟩:=D;cases d with
 | fV b o =>
   obtain⟨rfl,H,_,rfl,M⟩:=D;obtain⟨rfl,z,E,G,W⟩:=L;refine⟨151,_,rfl,enters_of Tryz.func151 (by kernel_rfl) rfl,?_⟩;have O:VL Vc b:=(a.vl b).2 z;have eo:=a.om b z;refine (U4 bv bm bo b H o Vc w R O (by rw[eo];exact E) M).mono ?_;rintro e w' ⟨rfl,m,k'⟩;obtain⟨id,Q⟩:=O;obtain⟨_,ix,X⟩:=R.bg id b Q;exact⟨rfl,_,m,hs.fV (fun i I s h2 hm=>by rw[eo];exact G i (by omega) s h2 ((a.mem i (by omega) s h2 b).1 hm)),Rf a z W,rfl,rfl,rfl,rfl,rfl,R.zl k' (fun x e=>by subst e;exact qo ⟨id,Q⟩) (fun x e=>by subst e;exact⟨_,116,X,by decide,by decide⟩),fun x l=>.inl l⟩
 | left b =>
   obtain⟨rfl,H,_,rfl,M⟩:=D;obtain⟨rfl,i,s,I,h2,hbk,O,hsd,hout,hd,Af⟩:=L;refine⟨117,_,rfl,enters_of Tryz.func117 (by kernel_rfl) rfl,?_⟩;rw[hbk,<-a.bk i I]at M;have hvc:VL Vc b:=(a.vl b).2 O;have X:=a.out hout;have u:i<Vc.nb:=by omega
   have aap:(Vc.om b).side=(s:Int):=by rw[a.om b O];exact hsd
   have ho':∀j,j<Vc.nb->∀t,t<2->∀k,k<(Vc.B j).n t->(Vc.B j).h t k≠b:=fun j U t v k hk e=>X j U t v ⟨k,hk,e.symm⟩
   refine (Q8 bv bm bo b H i s Vc w R u h2 hvc aap ho' (hcnt i u s h2) M).mono ?_;rintro e w' ⟨rfl,g,cap',m,k',A⟩;obtain⟨id,Q⟩:=hvc;obtain⟨_,ix,hob⟩:=R.bg id b Q;refine⟨rfl,_,m,hs.push u h2 aap (ho' i u s h2),Oq a I h2 hd Af,rfl,rfl,rfl,rfl,rfl,R.zl k' (fun x l=>?_) (fun x l=>?_),A⟩
   ·rcases l with h | h | h
    ·exact iQ ⟨i,u,.inl h⟩
    ·subst h;exact qo ⟨id,Q⟩
    ·exact iQ ⟨i,u,.inr ⟨s,h2,h⟩⟩
   ·obtain⟨c,t,r,v⟩:=(R.sG u).gZ (b:=x) (by
     rcases l with h | h | h
     ·exact .inl h
     ·subst h;exact .inr (.inl ⟨id,Q⟩)
     ·exact .inr (.inr ⟨s,h2,h⟩))
    exact⟨c,t,r,by rcases v with rfl | rfl | rfl <;> decide,by rcases v with rfl | rfl | rfl <;> decide⟩
 | eQ b p =>
   obtain⟨rfl,H,_,rfl,M⟩:=D;obtain⟨rfl,i,s,I,h2,hbk,O,hm,hd,Af⟩:=L;refine⟨153,_,rfl,enters_of Tryz.func153 (by kernel_rfl) rfl,?_⟩;rw[hbk,<-a.bk i I]at M;have u:i<Vc.nb:=by omega
   obtain⟨k,hk,ek⟩:=(a.mem i I s h2 b).2 hm;rw[ek]at M;refine (SB bv bm bo H i s k p Vc w R u h2 hk ((hs i u s h2).2.2 k hk) (hsep _ _ _ rfl (by simp)) M).mono ?_;rintro e w' ⟨rfl,m,k',A⟩;refine⟨rfl,_,m,hs.kU u h2 hk (fun j U t v hmm=>?_),Ot a hs I h2 hk ek O hd Af,rfl,rfl,rfl,rfl,rfl,R.zl k' (fun x l=>?_) (fun x l=>?_),A⟩
   ·obtain⟨k2,hk2,e2⟩:=hmm;by_cases ej:j=i
    ·subst ej;refine⟨rfl,?_⟩;by_cases et:t=s
     ·exact et
     ·exact absurd (.inr ⟨k,hk,e2.symm⟩) ((R.aW j U).FZ v h2 et (.inr ⟨k2,hk2,rfl⟩))
    ·exact absurd (.inr ⟨k,hk,e2.symm⟩) (R.nX j i U u ej t s v h2 _ (.inr ⟨k2,hk2,rfl⟩))
   ·rcases l with h | h
    ·exact iQ ⟨i,u,.inl h⟩
    ·exact iQ ⟨i,u,.inr ⟨s,h2,h⟩⟩
   ·obtain⟨c,t,r,v⟩:=(R.sG u).gZ (b:=x) (by
     rcases l with h | h
     ·exact .inl h
     ·exact .inr (.inr ⟨s,h2,h⟩))
    exact⟨c,t,r,by rcases v with rfl | rfl | rfl <;> decide,by rcases v with rfl | rfl | rfl <;> decide⟩
 | entered id =>
   obtain⟨rfl,H,cs,_,rfl,C,h2,h3⟩:=D;obtain⟨rfl,b,z,E,G,W,hb5⟩:=L;refine⟨114,_,rfl,enters_of Tryz.func114 (by kernel_rfl) rfl,?_⟩;have X:=a.out W;refine (Ux bv bm bo H b id cs Vc w R E (by rw[a.aV];exact z) (by rw[a.no];exact G) (fun j U t v k hk e=>X j U t v ⟨k,hk,e.symm⟩) C h2 h3).mono ?_;rintro e w' ⟨rfl,m,k'⟩;obtain⟨fO,mO,_⟩:=R.fA;refine⟨rfl,_,m,hs,J9 a hb5,rfl,rfl,rfl,rfl,rfl,k'.mono (fun x e=>?_),fun x l=>?_⟩
   ·subst e;refine⟨jL rfl,fun h=>?_⟩;obtain⟨c',t',r,_⟩:=R.aO.aO.act.gZ h;exact mO.ne r rfl
   ·rcases l with h | h | h | h | ⟨j,h⟩ | h
    ·exact .inl (.inl h)
    ·exact .inl (.inr (.inl h))
    ·exact .inl (jL h)
    ·exact .inl (iQ h)
    ·simp only[aS.yG]at h;by_cases e:j=id
     ·rw[if_pos e]at h;simp at h
     ·rw[if_neg e]at h;exact .inl (qo ⟨j,h⟩)
    ·exact .inl (vk h)
 | bU s =>
   obtain⟨rfl,H,K,_,_,rfl,C,h2⟩:=D;obtain⟨rfl,n,z,E,G,W⟩:=L;refine⟨54,_,rfl,enters_of Tryz.func54 (by kernel_rfl) rfl,?_⟩;refine (UY bv bm bo H K n s Vc w R (by omega) (by rw[a.sym n (by omega)];exact E) G C h2).mono ?_;rintro e w' ⟨rfl,m,k'⟩;obtain⟨fB,mB,_⟩:=R.iM;refine⟨rfl,_,m,fun i I=>hs i (Nat.lt_of_lt_of_le I (Nat.sub_le _ _)),J8 a W,rfl,rfl,rfl,rfl,rfl,k'.mono (fun x e=>?_),fun x l=>?_⟩
   ·subst e;refine⟨.inr (.inl rfl),fun h=>?_⟩;obtain⟨c',t',r,_⟩:=R.aO.aO.act.gZ h;exact mB.ne r rfl
   ·rcases l with h | h | h | ⟨i,I,h⟩ | h | h
    ·exact .inl (.inl h)
    ·exact .inl (.inr (.inl h))
    ·exact .inl (jL h)
    ·exact .inl (iQ ⟨i,Nat.lt_of_lt_of_le I (Nat.sub_le _ _),h⟩)
    ·exact .inl (qo h)
    ·exact .inl (vk h)
 | jh t =>
   obtain⟨rfl,H,_,rfl,C,h2⟩:=D;obtain⟨rfl,Z,x,z,E,G⟩:=L;refine⟨211,_,rfl,enters_of Tryz.func211 (by kernel_rfl) rfl,?_⟩;have hG:Vc.lg.tr=Z++[x]:=by rw[a.tr];exact z
   refine (Tn bv bm bo H Z.length t x Z Vc.lg Vc.lm w R.aO hG rfl E htp (by rw[hG]at htr;simp at htr;omega) C h2).mono ?_;rintro e w' ⟨rfl,m',N,a2,a3,a4,a5⟩;obtain⟨m,k',A⟩:=R.zq a3 (fun x l=>by
    rcases l with h | h | h
    ·exact .inl h
    ·exact .inr (.inl h)
    ·exact jL (.inl h)) (fun x l=>by
    rcases l with h | h | h
    ·subst h;exact⟨_,100,R.cO,by decide,by decide⟩
    ·obtain⟨cs,r⟩:=aF R.aO.aO.dJ h;exact⟨cs,103,r,by decide,by decide⟩
    ·obtain⟨cs,r⟩:=aF R.aO.aO.fQ h;exact⟨cs,62,r,by decide,by decide⟩) N a2
   exact⟨rfl,_,m,hs,wP a (G1:={ V1.lg with tr:=Z }) (m1:={ V1.lm with tb:=V1.lm.tb.dropLast }) rfl a.day (by rw[a5,a.tb]) G,rfl,rfl,rfl,rfl,a4,k',A⟩
 | jV tb =>
   obtain⟨rfl,H,K,_,_,rfl,C,h2⟩:=D;obtain⟨k,x,rfl,z,E,G⟩:=L;refine⟨74,_,rfl,enters_of Tryz.func74 (by kernel_rfl) rfl,?_⟩;have l:Vc.lg.tr[k]?=some x:=by rw[a.tr];exact z
   have Y:Vc.lm.tb[k]?=some tb:=by rw[a.tb];exact E
   refine (P5 bv bm bo H K k tb Vc.lg Vc.lm x w R.aO l Y htp C h2).mono ?_;rintro e w' ⟨rfl,m',N,a2,a3,a4,a5⟩;obtain⟨m,k',A⟩:=R.zq a3 (fun y q=>by
    rcases q with h | h | h
    ·subst h;exact iQ (List.mem_of_getElem? Y)
    ·exact .inl h
    ·exact jL (.inl h)) (fun y q=>by
    rcases q with h | h | h
    ·subst h;exact⟨_,105,R.aO.aO.ay k y x Y l,by decide,by decide⟩
    ·subst h;exact⟨_,100,R.cO,by decide,by decide⟩
    ·obtain⟨cs,r⟩:=aF R.aO.aO.fQ h;exact⟨cs,62,r,by decide,by decide⟩) N a2
   exact⟨rfl,_,m,hs,wP a (G1:=V1.lg.qp k x.t) (m1:=V1.lm) (by show Vc.lg.tr.set k _=V1.lg.tr.set k _;rw[a.tr]) a.day (a5.trans a.tb) G,rfl,rfl,rfl,rfl,a4,k',A⟩
 | iV tb p =>
   obtain⟨rfl,H,K,J,_,_,_,rfl,C,h2,h3⟩:=D;obtain⟨k,x,rfl,z,E,G⟩:=L;refine⟨77,_,rfl,enters_of Tryz.func77 (by kernel_rfl) rfl,?_⟩;have l:Vc.lg.tr[k]?=some x:=by rw[a.tr];exact z
   have Y:Vc.lm.tb[k]?=some tb:=by rw[a.tb];exact E
   refine (Sl bv bm bo H K J k tb p Vc.lg Vc.lm x w R.aO l Y htp C h2 h3).mono ?_;rintro e w' ⟨rfl,m',N,a2,a3,a4,a5,S,kS,hS⟩;obtain⟨m,k',A⟩:=R.zq (S:=fun y=>(y=bv\/Vc.lm.F y)/\S y) ⟨a3.os,a3.tape,a3.output,a3.size,fun y q hn=>by
    by_cases h:S y
    ·exact a3.block y q (fun h'=>hn ⟨h',h⟩)
    ·exact kS.block y q h⟩ (fun y q=>q.1) (fun y q=>by
    obtain⟨c,t,r,v⟩:=hS y q.2;exact⟨c,t,r,by rcases v with rfl | rfl | rfl <;> decide,by rcases v with rfl | rfl | rfl <;> decide⟩) N a2
   exact⟨rfl,_,m,hs,wP a (G1:=V1.lg.jE k x p) (m1:=V1.lm) (by show Vc.lg.tr.set k _=V1.lg.tr.set k _;rw[a.tr]) a.day (a5.1.trans a.tb) G,rfl,rfl,rfl,rfl,a4,k',A⟩
 | closed =>
   obtain⟨rfl,H,_,rfl,C⟩:=D;obtain⟨rfl,z⟩:=L;refine⟨79,_,rfl,enters_of Tryz.func79 (by kernel_rfl) rfl,?_⟩;refine (Qb bv bm bo H Vc.lg Vc.lm w R.aO C).mono ?_;rintro e w' ⟨rfl,N,a2⟩;obtain⟨m,k',A⟩:=R.zq a2 (fun y q=>.inl q) (fun y q=>by subst q;exact⟨_,100,R.cO,by decide,by decide⟩) N (fun y q=>.inl q);exact⟨rfl,_,m,hs,wP a (G1:={ V1.lg with day:=wrap64 (V1.lg.day-1) }) (m1:=V1.lm) a.tr (by show wrap64 (Vc.lg.day-1)=_;rw[a.day]) a.tb z,rfl,rfl,rfl,rfl,rfl,k',A⟩
theorem dL.aaA{w w':World}{bv bm bo:Nat}{V:aS}(R:dL w bv bm bo V){S:Nat->Prop}(k:aj S w w')(a:∀x,bY bv bm bo V x->¬S x):dL w' bv bm bo V:=by
 obtain⟨g,n,d,e⟩:=R.iM;obtain⟨j,o,f⟩:=R.fA;refine⟨R.aO.aC k (a _ (.inl rfl)) (fun y h=>a y (vk h)),⟨g,n.aC k (a _ (.inr (.inl rfl))),d,e⟩,⟨j,o.aC k (a _ (jL rfl)),f⟩,R.F5,fun i c=>(R.aW i c).aC k (fun y h=>a y (iQ ⟨i,c,h⟩)),fun id b h=>⟨(R.bg id b h).1,?_⟩,R.mem,R.rY,R.nX,R.fM⟩;obtain⟨_,m,l⟩:=R.bg id b h;exact⟨m,k.ay l (a b (qo ⟨id,h⟩))⟩
theorem dL.VG{w:World}{bv bm bo x:Nat}{V:aS}(R:dL w bv bm bo V)(h:bY bv bm bo V x):x=bm\/x=bo\/∃c t,au w x c t/\(t=109->gK V.lm.av V.lm.ac x):=by
 rcases h with h | h | h | ⟨i,f,h⟩ | ⟨id,h⟩ | h
 ·subst h;exact .inr (.inr ⟨_,100,R.cO,fun e=>absurd e (by decide)⟩)
 ·exact .inl h
 ·exact .inr (.inl h)
 ·obtain⟨c,t,a,g⟩:=(R.sG f).gZ (b:=x) (h.imp_right .inr);exact .inr (.inr ⟨c,t,a,by rcases g with rfl | rfl | rfl <;> exact fun e=>absurd e (by decide)⟩)
 ·obtain⟨_,l,k⟩:=R.bg id x h;exact .inr (.inr ⟨_,116,k,fun e=>absurd e (by decide)⟩)
 ·obtain⟨c,t,a,g⟩:=R.aO.aO.gZ h;refine .inr (.inr ⟨c,t,a,fun e=>?_⟩);subst e;rcases h with h | (h | h) | h | h
  ·obtain⟨cs,d⟩:=aF R.aO.aO.dJ h;exact absurd rfl (au.ne a d (by decide))
  ·obtain⟨cs,d⟩:=aF R.aO.aO.fQ h;exact absurd rfl (au.ne a d (by decide))
  ·obtain⟨cs,d⟩:=aF R.aO.aO.lT h;exact absurd rfl (au.ne a d (by decide))
  ·obtain⟨i,f,e⟩:=List.mem_iff_getElem.1 h;have j:i<V.lg.tr.length:=by rw[<-R.aO.aO.len];exact f
   exact absurd rfl (au.ne a (R.aO.aO.ay i x _ (by rw[List.getElem?_eq_getElem f,e]) (List.getElem?_eq_getElem j)) (by decide))
  ·exact h
def Ed(c:Value)(x:Nat):Prop:=∃fn cp,c=.func fn #[] cp/\dh x∈cp.toList
theorem bH.QX{w w':World}{bv:Nat}{bk:Nat->Nat}{lo:Nat}{d:dU}{c:Value}{S:Nat->Prop}(h:bH w bv bk lo d c)(k:aj S w w')(o:∀x,Ed c x->¬S x):bH w' bv bk lo d c:=by
 obtain⟨fn,l,rfl,h⟩:=h;refine⟨fn,l,rfl,?_⟩;have a:∀x,dh x∈l.toList->¬S x:=fun x q=>o x ⟨fn,l,rfl,q⟩
 cases d with
 | fV b od =>
   obtain⟨e,H,h0,rfl,f,g⟩:=h;exact⟨e,H,h0,rfl,k.ay f (a _ (by simp)),k.ay g (a _ (by simp))⟩
 | left b =>
   obtain⟨e,H,h0,rfl,f,g⟩:=h;exact⟨e,H,h0,rfl,k.ay f (a _ (by simp)),k.ay g (a _ (by simp))⟩
 | eQ b p =>
   obtain⟨e,H,h0,rfl,⟨f,g⟩,i⟩:=h;exact⟨e,H,h0,rfl,⟨k.ay f (a _ (by simp)),k.ay g (a _ (by simp))⟩,k.ay i (a _ (by simp))⟩
 | entered id =>
   obtain⟨e,H,cs,h0,rfl,f,g,i⟩:=h;exact⟨e,H,cs,h0,rfl,k.ay f (a _ (by simp)),k.ay g (a _ (by simp)),i⟩
 | bU s =>
   obtain⟨e,H,K,h0,j,rfl,f,g⟩:=h;exact⟨e,H,K,h0,j,rfl,k.ay f (a _ (by simp)),k.ay g (a _ (by simp))⟩
 | jh t =>
   obtain⟨e,H,h0,rfl,f,g⟩:=h;exact⟨e,H,h0,rfl,k.ay f (a _ (by simp)),k.ay g (a _ (by simp))⟩
 | jV tb =>
   obtain⟨e,H,K,h0,j,rfl,f,g⟩:=h;exact⟨e,H,K,h0,j,rfl,k.ay f (a _ (by simp)),k.ay g (a _ (by simp))⟩
 | iV tb p =>
   obtain⟨e,H,K,m,h0,j,n,rfl,f,g,i⟩:=h;exact⟨e,H,K,m,h0,j,n,rfl,k.ay f (a _ (by simp)),k.ay g (a _ (by simp)),k.ay i (a _ (by simp))⟩
 | closed =>
   obtain⟨e,H,h0,rfl,f⟩:=h;exact⟨e,H,h0,rfl,k.ay f (a _ (by simp))⟩
theorem bH.held{w:World}{bv:Nat}{bk:Nat->Nat}{lo:Nat}{d:dU}{c:Value}(h:bH w bv bk lo d c){x:Nat}(f:Ed c x):x<w.heap.size:=by
 obtain⟨fn,m,rfl,h⟩:=h;obtain⟨o,n,e,f⟩:=f;simp only[Value.func.injEq]at e;obtain⟨_,_,rfl⟩:=e;have inj:∀a b:Nat,dh a=dh b->a=b:=fun a b e=>by simpa [dh] using e
 cases d with
 | fV b od =>
   obtain⟨e,H,h0,rfl,g,i⟩:=h;simp at f;rcases f with e | e <;> rw[inj _ _ e]
   ·exact i.lt
   ·exact g.lt
 | left b =>
   obtain⟨e,H,h0,rfl,g,i⟩:=h;simp at f;rcases f with e | e <;> rw[inj _ _ e]
   ·exact g.lt
   ·exact i.lt
 | eQ b p =>
   obtain⟨e,H,h0,rfl,⟨g,i⟩,j⟩:=h;simp at f;rcases f with e | e | e <;> rw[inj _ _ e]
   ·exact g.lt
   ·exact i.lt
   ·exact j.lt
 | entered id =>
   obtain⟨e,H,cs,h0,rfl,g,i,j⟩:=h;simp at f;rcases f with e | e <;> rw[inj _ _ e]
   ·exact g.lt
   ·exact i.lt
 | bU s =>
   obtain⟨e,H,K,h0,k,rfl,g,i⟩:=h;simp at f;rcases f with e | e <;> rw[inj _ _ e]
   ·exact g.lt
   ·exact i.lt
 | jh t =>
   obtain⟨e,H,h0,rfl,g,i⟩:=h;simp at f;rcases f with e | e <;> rw[inj _ _ e]
   ·exact g.lt
   ·exact i.lt
 | jV tb =>
   obtain⟨e,H,K,h0,k,rfl,g,i⟩:=h;simp at f;rcases f with e | e <;> rw[inj _ _ e]
   ·exact i.lt
   ·exact g.lt
 | iV tb p =>
   obtain⟨e,H,K,l,h0,k,q,rfl,g,i,j⟩:=h;simp at f;rcases f with e | e | e <;> rw[inj _ _ e]
   ·exact g.lt
   ·exact i.lt
   ·exact j.lt
 | closed =>
   obtain⟨e,H,h0,rfl,g⟩:=h;simp at f;rw[inj _ _ f];exact g.lt
theorem FU(G:Lg)(A B:List (Int × Tr)):G.nN (A++B)=(G.nN A).nN B:=List.foldl_append ..
theorem Jh{G G':Lg}(h:G.tp=G'.tp):∀T:List (Int × Tr),(G.nN T).tp=(G'.nN T).tp:=by
 intro T
 induction T generalizing G G' with
 | nil=>exact h
 | cons p T ih=>exact ih (by simp only[Lg.told,h])
theorem O0(G:Lg)(T:List (Int × Tr)):(G.nN T).tp.length=G.tp.length+T.length:=by
 induction T generalizing G with
 | nil=>rfl
 | cons p T ih =>
   show ((G.told p.1 p.2).nN T).tp.length=_;rw[ih];simp only[Lg.told,List.length_append,List.length_cons,List.length_nil];omega
theorem Cj.one{bk:Nat->Nat}{d:dU}{T:List (Int × Tr)}{V V1:aS}(h:Cj bk d T V V1):T.length<=1:=by
 cases d with
 | fV b o=>rw[h.1];simp
 | left b=>rw[h.1];simp
 | eQ b p=>rw[h.1];simp
 | entered id=>rw[h.1];simp
 | bU s=>rw[h.1];simp
 | jh t=>rw[h.1];simp
 | jV tb=>obtain⟨k,x,e,_⟩:=h;rw[e];simp
 | iV tb p=>obtain⟨k,x,e,_⟩:=h;rw[e];simp
 | closed=>rw[h.1];simp
theorem Nq{n:Nat}{h:Nat->Nat}{l:List Nat}(j:qX n h)(c:∀k,k<n->h k∈l):n<=l.length :=
 RY l.length n (fun k=>l.idxOf (h k)) (fun a b f g e=>j a b f g (by
  have d:=List.getElem_idxOf (List.idxOf_lt_length_of_mem (c a f));have i:=List.getElem_idxOf (List.idxOf_lt_length_of_mem (c b g));simp only[e]at d;exact d.symm.trans i)) (fun k m=>List.idxOf_lt_length_of_mem (c k m))
theorem bH.form{w:World}{bv:Nat}{bk:Nat->Nat}{lo:Nat}{d:dU}{c:Value}(h:bH w bv bk lo d c):∃p:Nat × Array Value,c=.func (.func p.1) #[] p.2/\Enters Tryz.prog p.1:=by
 obtain⟨fn,a,rfl,h⟩:=h;cases d with
 | fV b od=>obtain⟨rfl,_⟩:=h;exact⟨(151,a),rfl,enters_of Tryz.func151 (by kernel_rfl) rfl⟩
 | left b=>obtain⟨rfl,_⟩:=h;exact⟨(117,a),rfl,enters_of Tryz.func117 (by kernel_rfl) rfl⟩
 | eQ b p=>obtain⟨rfl,_⟩:=h;exact⟨(153,a),rfl,enters_of Tryz.func153 (by kernel_rfl) rfl⟩
 | entered id=>obtain⟨rfl,_⟩:=h;exact⟨(114,a),rfl,enters_of Tryz.func114 (by kernel_rfl) rfl⟩
 | bU s=>obtain⟨rfl,_⟩:=h;exact⟨(54,a),rfl,enters_of Tryz.func54 (by kernel_rfl) rfl⟩
 | jh t=>obtain⟨rfl,_⟩:=h;exact⟨(211,a),rfl,enters_of Tryz.func211 (by kernel_rfl) rfl⟩
 | jV tb=>obtain⟨rfl,_⟩:=h;exact⟨(74,a),rfl,enters_of Tryz.func74 (by kernel_rfl) rfl⟩
 | iV tb p=>obtain⟨rfl,_⟩:=h;exact⟨(77,a),rfl,enters_of Tryz.func77 (by kernel_rfl) rfl⟩
 | closed=>obtain⟨rfl,_⟩:=h;exact⟨(79,a),rfl,enters_of Tryz.func79 (by kernel_rfl) rfl⟩
def um(T:Nat->List (Int × Tr))(n:Nat):Nat->List (Int × Tr)
 | 0=>[]
 | k+1=>um T n k++T (n-1-k)
def Mid(bv bm bo:Nat)(Vn:aS)(w:World)(T:Nat->List (Int × Tr))(n k:Nat)(V:aS)(W:World):Prop :=
 ∃Vc,dL W bv bm bo Vc/\HS Vc/\dK V Vc/\Vc.lg.tp=(Vn.lg.nN (um T n k)).tp/\Vc.lg.na=Vn.lg.na/\Vc.lg.ud=Vn.lg.ud/\Vc.lg.nt=Vn.lg.nt/\Vc.lm.ac=Vn.lm.ac/\aj (bY bv bm bo Vn) w W/\∀x,bY bv bm bo Vc x->bY bv bm bo Vn x\/w.heap.size<=x
theorem Bh{T:Nat->List (Int × Tr)}{n:Nat}(h:∀k,k<n->(T k).length<=1):∀k,k<=n->(um T n k).length<=k
 | 0,_=>Nat.le_refl _
 | k+1,hk=>by
   have a:=Bh h k (by omega);have b:=h (n-1-k) (by omega);simp only[um,List.length_append];omega
theorem IA(bv bm bo lo n r cap:Nat)(bk:Nat->Nat)(ds:Nat->dU)(T:Nat->List (Int × Tr))(st:Nat->aS)(g:Nat->Value)(l:List Nat)(Vn:aS)(w:World)
 (R:dL w bv bm bo Vn) (hs:HS Vn) (hl:dK (st n) Vn) (Q:∀k,k<n->Cj bk (ds k) (T k) (st k) (st (k+1))) (E:∀k,k<n->bH w bv bk lo (ds k) (g k))
 (P:∀k,k<n->∀x,Ed (g k) x->¬bY bv bm bo Vn x) (hvl:∀k,k<=n->∀x,VL (st k) x->x∈l) (hll:l.length<1000) (hn:n<=1000000000) (htp:Vn.lg.tp.length+n<1000000000) (htr:∀k,k<=n->(st k).lg.tr.length<1000000000)
 (hga:∃a,a∈Vn.lm.ac/\a.1.ownBlock=some r) (hgl:r<w.heap.size) (hcell:∀j,j<n->w.cell? ⟨r,j,none⟩=some (g j)) :
 CT 45 #[.slice (some ⟨r,0,none⟩) n cap] w fun e w'=>e=.returned (.tuple #[])/\Mid bv bm bo Vn w T n n (st 0) w':=by
 have M:∀j,∃p:Nat × Array Value,j<n->g j=.func (.func p.1) #[] p.2/\Enters Tryz.prog p.1:=fun j=>by
  by_cases h:j<n
  ·obtain⟨p,hp⟩:=(E j h).form;exact⟨p,fun _=>hp⟩
  ·exact⟨(0,#[]),fun h'=>absurd h' h⟩
 let fc:Nat->Nat × Array Value:=fun j=>(M j).choose
 have G:∀j,j<n->g j=.func (.func (fc j).1) #[] (fc j).2/\Enters Tryz.prog (fc j).1:=fun j=>(M j).choose_spec
 have lm:=R.iM;have lo':=R.fA;obtain⟨fB,mB,_⟩:=lm;obtain⟨fO,mO,_⟩:=lo';have hbm:=mB.lt;have hbo:=mO.lt;have hT1:∀k,k<n->(T k).length<=1:=fun k hk=>(Q k hk).one
 refine (Iz r n cap fc (fun k y=>Mid bv bm bo Vn w T n k (st (n-k)) y) w (by omega) (fun j d=>by rw[<-(G j d).1];exact hcell j d) hgl (fun j d=>(G j d).2) ?_ ?_ ?_).mono ?_
 ·rintro k j y hkj ⟨Vc,m,A,o,C,H,K,I,z,kW,v⟩ hsz;have d:j<n:=by omega
  rw[show n-k=j+1 by omega]at o;have hI:=(E j d).QX kW (fun x b=>P j d x b);have hcnt:∀i,i<Vc.nb->∀s,s<2->(Vc.B i).n s<1000:=fun i O s u=>by
   have:=Nq (A i O s u).2.1 (l:=l) (fun q hq=>hvl (j+1) (by omega) _ ((o.vl _).1 (m.mem i O s u q hq)));omega
  obtain⟨f,L,X,_,hC⟩:=OV bv bm bo lo bk (ds j) (g j) (T j) (st j) (st (j+1)) Vc y m A o (Q j d) hI (fun fn L x e b hfx=>by
   have N:Ed (g j) x:=⟨fn,L,e,b⟩;rcases v x hfx with h | h
   ·exact P j d x N h
   ·have:=(E j d).held N;omega) hcnt (by rw[C,O0];have:=Bh hT1 k (by omega);omega) (by rw[o.tr];exact htr (j+1) (by omega))
  have D:=(G j d).1;rw[X]at D;simp only[Value.func.injEq,Fn.func.injEq]at D;obtain⟨Y,_,Z⟩:=D;rw[<-Y,<-Z];refine hC.mono ?_;rintro e w' ⟨rfl,W,V,hs2,hl2,abY,kX,ab3,Xz,abw,S,f2⟩;refine⟨rfl,⟨W,V,hs2,by rw[show n-(k+1)=j by omega];exact hl2,?_,kX.trans H,ab3.trans K,Xz.trans I,abw.trans z,kW.from (S.mono (fun x b=>v x b.1)),fun x b=>?_⟩,S.mono (fun x b=>?_)⟩
  ·rw[abY];show _=(Vn.lg.nN (um T n k++T (n-1-k))).tp;rw[FU,show n-1-k=j by omega];exact Jh C _
  ·rcases f2 x b with h | h
   ·exact v x h
   ·exact .inr (Nat.le_trans kW.size h)
  ·obtain⟨h1,u⟩:=b;refine⟨?_,?_⟩
   ·rintro rfl;obtain⟨a,ha,hb⟩:=hga;exact u (.inr ⟨a,by rw[z];exact ha,hb⟩)
   ·rcases m.VG h1 with h | h | ⟨c,t,F,ht⟩
    ·exact .inl (by rw[h];exact hbm)
    ·exact .inl (by rw[h];exact hbo)
    ·exact .inr ⟨c,t,F,fun e=>u (ht e)⟩
 ·rintro k y W' ⟨Vc,m,A,o,C,H,K,I,z,kW,v⟩ U;refine⟨Vc,m.aaA U (fun x b J=>?_),A,o,C,H,K,I,z,kW.from (U.mono (fun x b=>.inr b.1)),v⟩;rcases m.VG b with h | h | ⟨c,t,F,_⟩
  ·have:=J.1;rw[h]at this;omega
  ·have:=J.1;rw[h]at this;omega
  ·exact J.2 c t F
 ·exact⟨Vn,R,hs,by rw[Nat.sub_zero];exact hl,rfl,rfl,rfl,rfl,rfl,aj.refl _ w,fun x b=>.inl b⟩
 ·rintro e w' ⟨rfl,h⟩;rw[Nat.sub_self]at h;exact⟨rfl,h⟩
inductive jS (bk:Nat->Nat) (K:aS->Prop):List dU->List (List (Int × Tr))->aS->aS->Prop
 | nil (V:aS) (h:K V):jS bk K [] [] V V
 | kL {ds:List dU} {Ts:List (List (Int × Tr))} {V0 V V1:aS} {d:dU} {T:List (Int × Tr)} (h:jS bk K ds Ts V0 V) (hb:Cj bk d T V V1) (hk:K V1):jS bk K (ds++[d]) (Ts++[T]) V0 V1
section
variable {bk : Nat -> Nat} {K : aS -> Prop} {ds ds' : List dU} {Ts Ts' : List (List (Int × Tr))} {V0 V V1 : aS} {d : dU} {T : List (Int × Tr)}
theorem jS.len(h:jS bk K ds Ts V0 V1):Ts.length=ds.length:=by
 induction h with
 | nil V h=>rfl
 | kL h hb hk ih=>simp[ih]
theorem jS.one(h0:K V)(a:Cj bk d T V V1)(b:K V1):jS bk K [d] [T] V V1:=jS.kL (jS.nil V h0) a b
theorem jS.append(h:jS bk K ds Ts V0 V)(a:jS bk K ds' Ts' V V1):jS bk K (ds++ds') (Ts++Ts') V0 V1:=by
 induction a with
 | nil V h2=>simpa using h
 | kL h2 hb hk ih=>rw[<-List.append_assoc,<-List.append_assoc];exact jS.kL (ih h) hb hk
theorem jS.Yh(h:jS bk K ds Ts V0 V1):∃st:Nat->aS,st 0=V0/\st ds.length=V1/\(∀k (a:k<ds.length) (l:k<Ts.length),Cj bk ds[k] Ts[k] (st k) (st (k+1)))/\∀k,k<=ds.length->K (st k):=by
 induction h with
 | nil V h=>exact⟨fun _=>V,rfl,rfl,fun k a=>by simp at a,fun _ _=>h⟩
 | @kL ds Ts V0 V V1 d T h hb a ih =>
   obtain⟨st,e,f,i,j⟩:=ih;have g:=h.len;refine⟨fun k=>if k<=ds.length then st k else V1,by simp[e],by simp;omega,fun k a l=>?_,fun k m=>?_⟩
   ·simp only[List.length_append,List.length_cons,List.length_nil]at a;by_cases c:k<ds.length
    ·rw[List.getElem_append_left c,List.getElem_append_left (by omega)];simp only[show k<=ds.length by omega,show k+1<=ds.length by omega,if_true];exact i k c (by omega)
    ·obtain rfl:k=ds.length:=by omega
     simp only[Nat.le_refl,if_true,show ¬(ds.length+1<=ds.length) by omega,if_false,f];rw[List.getElem_append_right (Nat.le_refl _),List.getElem_append_right (by omega)]
     simpa [g] using hb
   ·by_cases b:k<=ds.length
    ·simp only[b,if_true];exact j k b
    ·simp only[b,if_false];exact a
end
section
variable {bk : Nat -> Nat} {V V1 : aS}
theorem ng{b:Nat}{o':Ord}(f:VL V b)(j:o'.id=(V.om b).id)(l:o'.place=(V.om b).place)(m:∀i,i<V.nb->∀s,s<2->Mem ((V.B i).n s) ((V.B i).h s) b->o'.side=(V.om b).side/\o'.af=(V.om b).af)(a:dK { V with om:=aK V.om b o' } V1):Cj bk (.fV b (V.om b)) [] V V1:=by
 have o:VL V1 b:=(a.vl b).2 f;have c:V1.om b=o':=by rw[a.om b f];exact ah _ _ _
 refine⟨rfl,o,by rw[c];exact j.symm,fun i g s d k=>?_,?_⟩
 ·have:=m i (by rw[<-a.nb];exact g) s d ((a.mem i (by rw[<-a.nb];exact g) s d b).1 k);rw[c];exact⟨this.1.symm,this.2.symm⟩
 ·refine⟨a.nb,a.bk,a.sym,a.uO,a.mem,a.aV,a.no,fun x p=>?_,a.tr,a.day,a.tb⟩;by_cases e:x=b
  ·subst e;simp only[ah,c,l]
  ·simp only[ag _ _ e];rw[a.om x p];exact ag _ _ e
theorem sU{b i s:Nat}(q:i<V.nb)(o:s<2)(p:bk b=V.bk i)(l:VL V b)(v:(V.om b).side=(s:Int))(r:Mem ((V.B i).n s) ((V.B i).h s) b)(u:∀j,j<V.nb->∀t,t<2->Mem ((V.B j).n t) ((V.B j).h t) b->j=i/\t=s)
 (a:Wn i s (fun x=>Mem ((V.B i).n s) ((V.B i).h s) x/\x≠b) (V.B i).places V V1) (m:∀x,VL V x->V1.om x=V.om x):Cj bk (.left b) [] V V1:=by
 have e:=a.nb;have vl:∀x,VL V1 x↔VL V x:=fun x=>by unfold VL;rw[a.aV]
 refine⟨rfl,i,s,by omega,o,by rw[a.bk i q];exact p,(vl b).2 l,by rw[m b l];exact v,fun j g t k d=>?_,⟨e.symm,fun j g=>(a.bk j (by omega)).symm,fun j g=>(a.sym j (by omega)).symm,fun j g=>?_,fun j g t k x=>?_,a.aV.symm,a.no.symm,a.tr.symm,a.day.symm,a.tb.symm⟩,fun x f=>(m x ((vl x).1 f)).symm⟩
 ·rw[a.mem j (by omega) t k b]at d;by_cases c:j=i/\t=s
  ·rw[if_pos c]at d;exact d.2 rfl
  ·rw[if_neg c]at d;exact c (u j (by omega) t k d)
 ·have h:=a.uO j (by omega);by_cases c:j=i
  ·subst c;simp only[if_true]at h ⊢;exact h.symm
  ·rw[if_neg c]at h ⊢;exact h.symm
 ·have h:=a.mem j (by omega) t k x;by_cases c:j=i/\t=s
  ·obtain⟨rfl,rfl⟩:=c;simp only[and_self,if_true]at h ⊢;rw[h];constructor
   ·intro f;by_cases c:x=b
    ·exact .inr c
    ·exact .inl ⟨f,c⟩
   ·rintro (⟨f,_⟩ | rfl)
    ·exact f
    ·exact r
  ·rw[if_neg c]at h ⊢;exact h.symm
theorem Gq{b i s:Nat}{pl:Int}(f:i<V.nb)(g:s<2)(r:bk b=V.bk i)(l:VL V b)(u:Ee V b)(v:(V.B i).places=wrap64 (pl-1))
 (a:Wn i s (fun x=>Mem ((V.B i).n s) ((V.B i).h s) x\/x=b) pl V V1) {q:Int} (o:∀x,VL V x->V1.om x=aK V.om b { V.om b with place:=q } x):Cj bk (.eQ b (V.om b).place) [] V V1:=by
 have e:=a.nb;have vl:∀x,VL V1 x↔VL V x:=fun x=>by unfold VL;rw[a.aV]
 have p:=a.uO i f;simp only[if_true]at p;refine⟨rfl,i,s,by omega,g,by rw[a.bk i f];exact r,(vl b).2 l,by rw[a.mem i f s g b];simp,⟨e.symm,fun j k=>(a.bk j (by omega)).symm,fun j k=>(a.sym j (by omega)).symm,fun j k=>?_,fun j k t w x=>?_,a.aV.symm,a.no.symm,a.tr.symm,a.day.symm,a.tb.symm⟩,fun x d=>?_⟩
 ·have h:=a.uO j (by omega);by_cases c:j=i
  ·subst c;simp only[if_true];rw[p];exact v
  ·rw[if_neg c]at h ⊢;exact h.symm
 ·have h:=a.mem j (by omega) t w x;by_cases c:j=i/\t=s
  ·obtain⟨rfl,rfl⟩:=c;simp only[and_self,if_true]at h ⊢;rw[h];constructor
   ·intro d;exact⟨.inl d,fun c=>u j f t g (c▸d)⟩
   ·rintro⟨d | d,c⟩
    ·exact d
    ·exact absurd d c
  ·rw[if_neg c]at h ⊢;exact h.symm
 ·have y:=(vl x).1 d;have m:=o b l;rw[ah]at m;by_cases c:x=b
  ·subst c;rw[ah,m]
  ·rw[ag _ _ c,o x y,ag _ _ c]
end
section
variable {bk : Nat -> Nat} {V V1 : aS}
theorem JF{t:Tr}{b:Nat}{m1:Lm}(d:t.num=(V.lg.tr.length:Int)+1)(c:m1.tb=V.lm.tb++[b])(a:dK { V with lg:={ V.lg with tr:=V.lg.tr++[⟨t,true⟩] },lm:=m1 } V1):Cj bk (.jh t) [(2,t)] V V1 :=
 ⟨rfl,V.lg.tr,⟨t,true⟩,a.tr,d,a.nb,a.bk,a.sym,a.uO,a.mem,a.aV,a.no,a.om,rfl,a.day,by
  show V1.lm.tb.dropLast=V.lm.tb;rw[a.tb];show m1.tb.dropLast=_;rw[c];simp⟩
theorem JB{t:Tr}{k tb:Nat}(d:V.lg.tr[k]?=some ⟨t,true⟩)(f:V.lm.tb[k]?=some tb)(a:dK { V with lg:=V.lg.mX k t } V1):Cj bk (.jV tb) [(1,t)] V V1:=by
 have c:=(List.getElem?_eq_some_iff.1 d).1;have b:V1.lg.tr=V.lg.tr.set k ⟨t,false⟩:=a.tr;refine⟨k,⟨t,false⟩,rfl,by rw[b,List.getElem?_set_self c],by rw[a.tb];exact f,a.nb,a.bk,a.sym,a.uO,a.mem,a.aV,a.no,a.om,?_,a.day,a.tb⟩;show V1.lg.tr.set k ⟨t,true⟩=V.lg.tr;rw[b,List.set_set];obtain⟨_,e⟩:=List.getElem?_eq_some_iff.1 d;rw[<-e];exact List.set_getElem_self c
theorem JE{x:Tg}{p:Int}{k tb:Nat}(d:V.lg.tr[k]?=some x)(f:V.lm.tb[k]?=some tb)(a:dK { V with lg:=V.lg.jE k x p } V1):Cj bk (.iV tb x.t.af) [(3,x.t)] V V1:=by
 have c:=(List.getElem?_eq_some_iff.1 d).1;have b:V1.lg.tr=V.lg.tr.set k ⟨x.t.at p,x.holds⟩:=a.tr;refine⟨k,⟨x.t.at p,x.holds⟩,rfl,by rw[b,List.getElem?_set_self c],by rw[a.tb];exact f,a.nb,a.bk,a.sym,a.uO,a.mem,a.aV,a.no,a.om,?_,a.day,a.tb⟩;show V1.lg.tr.set k ⟨(x.t.at p).at x.t.af,x.holds⟩=V.lg.tr;rw[b,List.set_set];obtain⟨_,e⟩:=List.getElem?_eq_some_iff.1 d;have:(⟨(x.t.at p).at x.t.af,x.holds⟩:Tg)=V.lg.tr[k]:=by rw[e];rfl
 rw[this];exact List.set_getElem_self c
theorem JC{dd:Int}(b:wrap64 (dd-1)=V.lg.day)(a:dK { V with lg:={ V.lg with day:=dd } } V1):Cj bk .closed [] V V1 :=
 ⟨rfl,a.nb,a.bk,a.sym,a.uO,a.mem,a.aV,a.no,a.om,a.tr,by show wrap64 (V1.lg.day-1)=V.lg.day;rw[a.day];exact b,a.tb⟩
theorem JD{s:ByteArray}{b:Nat}(hs:s.size<=maxLen)(a:dK (V.list s b) V1):Cj bk (.bU s) [] V V1:=by
 have e:V1.nb=V.nb+1:=a.nb;have lt:∀{i},i<V.nb->i<(V.list s b).nb:=fun h=>Nat.lt_succ_of_lt h
 have ne:∀{i},i<V.nb->i≠V.nb:=fun h=>by omega
 refine⟨rfl,V.nb,e,?_,hs,by show V1.nb-1=V.nb;omega,fun i c=>?_,fun i c=>?_,fun i c=>?_,fun i c f d x=>?_,a.aV,a.no,a.om,a.tr,a.day,a.tb⟩
 ·rw[a.sym V.nb (Nat.lt_succ_self _)];simp only[aS.list,ah]
  rfl
 ·exact (a.bk i (lt c)).trans (ag _ _ (ne c))
 ·refine (a.sym i (lt c)).trans ?_;simp only[aS.list,ag _ _ (ne c)]
 ·refine (a.uO i (lt c)).trans ?_;simp only[aS.list,ag _ _ (ne c)]
 ·refine (a.mem i (lt c) f d x).trans ?_;simp only[aS.list,ag _ _ (ne c)]
theorem Gp{id:Int}{b:Nat}{o:Ord}(l:(Lit.int .i64 id).wf=true)(f:V.aV id=none)(q:¬VL V b)(r:Ee V b)(a:dK { V with aV:=fun i=>if i=id then some b else V.aV i,no:=V.no+1,om:=aK V.om b o } V1):Cj bk (.entered id) [] V V1:=by
 have d:V1.aV=fun i=>if i=id then some b else V.aV i:=a.aV
 have s:V1.no=V.no+1:=a.no;refine⟨rfl,b,by rw[d];simp,l,by omega,fun j c t g n=>r j (by have:=a.nb;simp only at this;omega) t g ((a.mem j (by have:=a.nb;omega) t g b).1 n),a.nb,a.bk,a.sym,a.uO,a.mem,?_,by show V1.no-1=V.no;omega,fun x k=>?_,a.tr,a.day,a.tb⟩
 ·show (fun i=>if i=id then none else V1.aV i)=V.aV;funext i;rw[d];by_cases e:i=id
  ·subst e;simp[f]
  ·simp[e]
 ·have p:x≠b:=fun e=>q (e▸k)
  obtain⟨j,c⟩:=k;have m:j≠id:=fun e=>by rw[e,f]at c;simp at c
  refine (a.om x ⟨j,by simp only[if_neg m];exact c⟩).trans ?_;exact ag _ _ p
end
theorem uz{V:aS}{i s k:Nat}{dG:Nat->Ord}(hs:HS V)(d:i<V.nb)(m:s<2)(f:k<(V.B i).n s):Wn i s (fun x=>Mem ((V.B i).n s) ((V.B i).h s) x/\x≠(V.B i).h s k) (V.B i).places V { V with B:=aK V.B i ((V.B i).leave dG s k) }:=by
 refine⟨rfl,fun _ _=>rfl,fun j c=>?_,fun j c=>?_,fun j c t l x=>?_,rfl,rfl,rfl,rfl,rfl⟩
 ·by_cases e:j=i
  ·subst e;simp only[ah];rfl
  ·simp only[ag _ _ e]
 ·by_cases e:j=i
  ·subst e;simp only[ah,if_true];rfl
  ·simp only[ag _ _ e,if_neg e]
 ·by_cases e:j=i
  ·subst e;by_cases a:t=s
   ·subst a;simp only[ah,Bk.leave,and_self,if_true];obtain⟨n,g⟩:∃n,(V.B j).n t=n+1:=⟨(V.B j).n t-1,by omega⟩;have b:=(hs j d t l).2.1;rw[g]at b f ⊢;simp only[Nat.add_sub_cancel];exact jY _ k (by omega) (b.qw (by omega)) x
   ·simp only[ah,Bk.leave,ag _ _ a,a,and_false,if_false]
  ·simp only[ag _ _ e,e,false_and,if_false]
theorem GW.one{V:aS}{M:Int}(g:GW V M){i j s t x:Nat}(b:i<V.nb)(c:j<V.nb)(k:s<2)(l:t<2)(h:Mem ((V.B i).n s) ((V.B i).h s) x)(f:Mem ((V.B j).n t) ((V.B j).h t) x):j=i/\t=s:=by
 obtain⟨_,d,a2,_⟩:=((g.gb i b).mem s k x).1 h;obtain⟨_,e,a,_⟩:=((g.gb j c).mem t l x).1 f;refine⟨g.mW j i c b (e.symm.trans d),?_⟩;rw[a2]at a;exact (Int.ofNat_inj.1 a).symm
def KK(l:List Nat)(V:aS):Prop:=(∀x,VL V x->x∈l)/\V.lg.tr.length<1000000000
section
variable {bk : Nat -> Nat} {V V' : aS} {M : Int} {l : List Nat}
theorem LQ(g:GW V M)(b:KK l V){i s k:Nat}(c:i<V.nb)(a:s<2)(d:k<(V.B i).n s)(p:bk ((V.B i).h s k)=V.bk i)(f:VL V ((V.B i).h s k))
 (e:dK { V with B:=aK V.B i ((V.B i).leave V.om s k),om:=aK V.om ((V.B i).h s k) (fZ (V.om ((V.B i).h s k))) } V'):jS bk (KK l) [.left ((V.B i).h s k),.fV ((V.B i).h s k) (V.om ((V.B i).h s k))] [[],[]] V V':=by
 have o:KK l { V with B:=aK V.B i ((V.B i).leave V.om s k) }:=b;have m:KK l V':=⟨fun x u=>b.1 x ((e.vl x).1 u),by rw[e.tr];exact b.2⟩;refine jS.kL (jS.one b (sU c a p f ((g.gb i c).side a d) ⟨k,d,rfl⟩ (fun j q t r h=>g.one c q a r ⟨k,d,rfl⟩ h) (uz g.hs c a d) (fun _ _=>rfl)) o) ?_ m;exact ng (V:={ V with B:=aK V.B i ((V.B i).leave V.om s k) }) (o':=fZ (V.om ((V.B i).h s k))) f rfl rfl (fun _ _ _ _ _=>⟨rfl,rfl⟩) e
theorem Tu(a:KK l V){b:Nat}{af az:Int}(d:VL V b)(e:af=(V.om b).af)(c:dK { V with om:=aK V.om b (dR (V.om b) af az) } V'):jS bk (KK l) [.fV b (V.om b)] [[]] V V' :=
 jS.one a (ng (o':=dR (V.om b) af az) d rfl rfl (fun _ _ _ _ _=>⟨rfl,e⟩) c) ⟨fun x f=>a.1 x ((c.vl x).1 f),by rw[c.tr];exact a.2⟩
theorem Tv(a:KK l V){s:ByteArray}{b:Nat}(hs:s.size<=maxLen)(c:dK (V.list s b) V'):jS bk (KK l) [.bU s] [[]] V V' :=
 jS.one a (JD hs c) ⟨fun x d=>a.1 x ((c.vl x).1 d),by rw[c.tr];exact a.2⟩
theorem Jk(a:KK l V){x:Tg}{p:Int}{k tb:Nat}(d:V.lg.tr[k]?=some x)(c:V.lm.tb[k]?=some tb)(b:dK { V with lg:=V.lg.jE k x p } V'):jS bk (KK l) [.iV tb x.t.af] [[(3,x.t)]] V V' :=
 jS.one a (JE d c b) ⟨fun y e=>a.1 y ((b.vl y).1 e),by rw[b.tr];simpa [Lg.jE] using a.2⟩
end
def MV(V:aS)(i:Nat)(dP:List Nat)(st:MS):aS:={ V with B:=aK V.B i st.B,om:=st.om,lg:=st.lg,lm:={ V.lm with tb:=dP } }
def Ns(oc s:Nat)(st:MS):List dU :=
 if (st.om (st.B.h s 0)).aG=(st.om oc).aG then [.left (st.B.h s 0),.fV (st.B.h s 0) (st.om (st.B.h s 0))]
 else [.fV oc (st.om oc),.fV (st.B.h s 0) (st.om (st.B.h s 0))]++(if (aT st.om oc (st.B.h s 0) (st.B.h s 0)).aH=0 then [.left (st.B.h s 0)] else [])++[.jh ((dD st.lg st.om oc (st.B.h s 0)).jo (jg st.B st.om oc (st.B.h s 0)))]
theorem Jc(oc s:Nat)(st:MS):(bF oc s st).lg.nt=st.lg.nt++Ns oc s st:=by
 unfold bF Ns;split
 ·rfl
 ·unfold Lg.lC Lg.told Lg.aC Lg.aY dD;split <;> simp[Lg.aY]
section
variable {bk : Nat -> Nat} {V : aS} {l : List Nat} {i s oc : Nat} {st : MS} {dP : List Nat}
theorem CP{dG:Nat->Ord}{G':Lg}(k:i<V.nb)(f:s<2)(l:0<st.B.n s)(c:qX (st.B.n s) (st.B.h s))(g:bk (st.B.h s 0)=V.bk i)(q:VL V (st.B.h s 0))(o:(dG (st.B.h s 0)).side=(s:Int))
 (p:∀j,j<V.nb->∀t,t<2->Mem ((aK V.B i st.B j).n t) ((aK V.B i st.B j).h t) (st.B.h s 0)->j=i/\t=s):Cj bk (.left (st.B.h s 0)) [] (MV V i dP ⟨st.B,dG,G'⟩) (MV V i dP ⟨st.B.leave dG s 0,dG,G'⟩):=by
 have b:(MV V i dP ⟨st.B,dG,G'⟩).B i=st.B:=ah _ _ _;refine sU (i:=i) (s:=s) k f g q o ?_ p ?_ (fun _ _=>rfl)
 ·rw[b];exact⟨0,l,rfl⟩
 ·rw[b];refine⟨rfl,fun _ _=>rfl,fun j d=>?_,fun j d=>?_,fun j d t r x=>?_,rfl,rfl,rfl,rfl,rfl⟩
  ·by_cases e:j=i
   ·subst e;simp only[MV,ah];rfl
   ·simp only[MV,ag _ _ e]
  ·by_cases e:j=i
   ·subst e;simp only[MV,ah,if_true];rfl
   ·simp only[MV,ag _ _ e,if_neg e]
  ·by_cases e:j=i
   ·subst e;by_cases a:t=s
    ·subst a;simp only[MV,ah,Bk.leave,and_self,if_true];obtain⟨n,m⟩:∃n,st.B.n t=n+1:=⟨st.B.n t-1,by omega⟩;rw[m]at c ⊢;simp only[Nat.add_sub_cancel];exact jY _ 0 (by omega) (c.qw (by omega)) x
    ·simp only[MV,ah,Bk.leave,ag _ _ a,a,and_false,if_false]
   ·simp only[MV,ag _ _ e,e,false_and,if_false]
theorem DZ(tb:Nat)(v:i<V.nb)(r:s<2)(f:0<st.B.n s)(k:su oc s st)(u:bk (st.B.h s 0)=V.bk i)(g:VL V (st.B.h s 0))(L:VL V oc)(G:∀x,VL V x->x∈l)(K:st.lg.tr.length+1<1000000000)
 (z:∀j,j<V.nb->∀t,t<2->Mem ((aK V.B i st.B j).n t) ((aK V.B i st.B j).h t) (st.B.h s 0)->j=i/\t=s) :
 ∃Ts,jS bk (KK l) (Ns oc s st) Ts (MV V i dP st) (MV V i (if (st.om (st.B.h s 0)).aG=(st.om oc).aG then dP else dP++[tb]) (bF oc s st)):=by
 have H:st.B.h s 0≠oc:=(k.mem 0 f).2.2.2;have y:=(k.mem 0 f).1;have c:∀M B' dG G',G'.tr.length<1000000000->KK l (MV V i M ⟨B',dG,G'⟩):=fun _ _ _ _ h=>⟨G,h⟩
 unfold Ns bF;by_cases A:(st.om (st.B.h s 0)).aG=(st.om oc).aG
 ·simp only[A,if_true];refine⟨[[],[]],jS.kL (jS.one (c _ _ _ _ (by omega)) (CP (dG:=st.om) (G':=st.lg) v r f k.inj u g y z) (c _ _ _ _ (by omega))) ?_ (c _ _ _ _ (by simp only[Lg.aY];omega))⟩;exact ng (V:=MV V i dP ⟨st.B.leave st.om s 0,st.om,st.lg⟩) (o':=fZ (st.om (st.B.h s 0))) g rfl rfl (fun _ _ _ _ _=>⟨rfl,rfl⟩) ⟨rfl,fun _ _=>rfl,fun _ _=>rfl,fun _ _=>rfl,fun _ _ _ _ _=>Iff.rfl,rfl,rfl,fun _ _=>rfl,rfl,rfl,rfl⟩
 ·simp only[A,if_false];obtain⟨q,I⟩:=gy (min (st.om oc).aH (st.om (st.B.h s 0)).aH);obtain⟨a,o⟩:=gy (aK st.om oc (iY (st.om oc) q));have d:a (st.B.h s 0)=st.om (st.B.h s 0):=by rw[o,ag _ _ H]
  have w:aT st.om oc (st.B.h s 0)=aK a (st.B.h s 0) (iY (st.om (st.B.h s 0)) q):=by rw[o,I];rfl
  have N:jS bk (KK l) [.fV oc (st.om oc)] [[]] (MV V i dP st) (MV V i dP ⟨st.B,a,st.lg⟩):=jS.one (c _ _ _ _ (by omega)) (ng (V:=MV V i dP st) (o':=iY (st.om oc) q) L rfl rfl (fun _ _ _ _ _=>⟨rfl,rfl⟩) (by rw[o];exact dK.refl _)) (c _ _ _ _ (by omega));have E:Cj bk (.fV (st.B.h s 0) (st.om (st.B.h s 0))) [] (MV V i dP ⟨st.B,a,st.lg⟩) (MV V i dP ⟨st.B,aT st.om oc (st.B.h s 0),st.lg⟩):=by
   have:=ng (bk:=bk) (V:=MV V i dP ⟨st.B,a,st.lg⟩) (V1:=MV V i dP ⟨st.B,aT st.om oc (st.B.h s 0),st.lg⟩) (b:=st.B.h s 0) (o':=iY (st.om (st.B.h s 0)) q) g (by show _=(a _).id;rw[d];rfl) (by show _=(a _).place;rw[d];rfl) (fun _ _ _ _ _=>by show _=(a _).side/\_=(a _).af;rw[d];exact⟨rfl,rfl⟩) (by rw[w];exact dK.refl _);have e:(MV V i dP ⟨st.B,a,st.lg⟩).om (st.B.h s 0)=st.om (st.B.h s 0):=d;rw[e]at this;exact this
  have D:=jS.kL N E (c _ _ _ _ (by omega));have J:(aT st.om oc (st.B.h s 0) (st.B.h s 0)).side=(s:Int):=by rw[w,ah];exact y
  have p:∃Ts,jS bk (KK l) ([.fV oc (st.om oc),.fV (st.B.h s 0) (st.om (st.B.h s 0))]++(if (aT st.om oc (st.B.h s 0) (st.B.h s 0)).aH=0 then [.left (st.B.h s 0)] else [])) Ts (MV V i dP st) (MV V i dP ⟨dO st.B st.om oc (st.B.h s 0) s,aT st.om oc (st.B.h s 0),st.lg⟩):=by
   unfold dO;by_cases C:(aT st.om oc (st.B.h s 0) (st.B.h s 0)).aH=0
   ·simp only[C,if_true];exact⟨_,jS.kL D (CP (dG:=aT st.om oc (st.B.h s 0)) (G':=st.lg) v r f k.inj u g J z) (c _ _ _ _ (by omega))⟩
   ·simp only[C,if_false,List.append_nil];exact⟨_,D⟩
  obtain⟨Ts,p⟩:=p;have m:(dD st.lg st.om oc (st.B.h s 0)).tr=st.lg.tr:=iw _ _ _ _;have F:(dD st.lg st.om oc (st.B.h s 0)).day=st.lg.day:=rO _ _ _ _;refine⟨_,jS.kL p (JF (b:=tb) (m1:={ V.lm with tb:=dP++[tb] }) ?_ rfl ?_) (c _ _ _ _ ?_)⟩
  ·show ((dD st.lg st.om oc (st.B.h s 0)).tr.length:Int)+1=(st.lg.tr.length:Int)+1;rw[m]
  ·refine⟨rfl,fun _ _=>rfl,fun _ _=>rfl,fun _ _=>rfl,fun _ _ _ _ _=>Iff.rfl,rfl,rfl,fun _ _=>rfl,?_,?_,rfl⟩
   ·show (dD st.lg st.om oc (st.B.h s 0)).tr++_=st.lg.tr++_;rw[m]
   ·exact F
  ·show ((dD st.lg st.om oc (st.B.h s 0)).tr++[_]).length<_;rw[m]
   simpa using K
end
theorem Dh{B:Bk}{om:Nat->Ord}{s:Nat}(a:qX (B.n s) (B.h s))(d:0<B.n s)(t x:Nat)(h:Mem ((B.leave om s 0).n t) ((B.leave om s 0).h t) x):Mem (B.n t) (B.h t) x:=by
 by_cases e:t=s
 ·subst e;obtain⟨k,b,rfl⟩:=h;obtain⟨k',c,e,_⟩:=oL a d k b;exact⟨k',c,e⟩
 ·simp only[Bk.leave,ag _ _ e]at h;exact h
theorem Dl{oc s:Nat}{st:MS}(a:qX (st.B.n s) (st.B.h s))(b:0<st.B.n s)(t x:Nat)(h:Mem ((bF oc s st).B.n t) ((bF oc s st).B.h t) x):Mem (st.B.n t) (st.B.h t) x:=by
 unfold bF at h;split at h
 ·exact Dh a b t x h
 ·simp only[dO]at h;split at h
  ·exact Dh a b t x h
  ·exact h
theorem Il(oc s:Nat)(st:MS):(bF oc s st).lg.tr.length=st.lg.tr.length+(if (st.om (st.B.h s 0)).aG=(st.om oc).aG then 0 else 1):=by
 unfold bF;split
 ·rfl
 ·simp only[Lg.lC,Lg.told,Lg.aC,Lg.aY,iw,List.length_append,List.length_cons,List.length_nil]
theorem uD(oc s:Nat):∀(a:Nat) (st:MS),st.lg.tr.length<=(bu oc s a st).lg.tr.length
 | 0,st=>Nat.le_refl _
 | a+1,st=>by
   rw[bu];split
   ·exact Nat.le_refl _
   ·have b:=uD oc s a (bF oc s st);have c:=Il oc s st;omega
theorem goes{oc s:Nat}{st:MS}(h:stops oc s st=false):0<st.B.n s/\0<(st.om oc).aH:=by
 simp only[stops,Bool.or_eq_false_iff,Bool.not_eq_false',decide_eq_true_eq]at h;refine⟨?_,h.1⟩;cases hf:dA st.B st.om (bI (st.om oc)) s with
 | none=>rw[hf]at h;simp at h
 | some b=>exact (tu hf).1
theorem yw{bk:Nat->Nat}{V:aS}{l:List Nat}{i s oc:Nat}(p:i<V.nb)(o:s<2)(q:VL V oc)(d:∀x,VL V x->x∈l):∀(b:Nat) (st:MS) (dP ext:List Nat),su oc s st->(bu oc s b st).lg.tr.length+1<1000000000->(∀k,k<st.B.n s->bk (st.B.h s k)=V.bk i/\VL V (st.B.h s k)) ->
 (∀k,k<st.B.n s->∀j,j<V.nb->∀t,t<2->Mem ((aK V.B i st.B j).n t) ((aK V.B i st.B j).h t) (st.B.h s k)->j=i/\t=s)->ext.length+st.lg.tr.length=(bu oc s b st).lg.tr.length ->
 ∃ds Ts,(bu oc s b st).lg.nt=st.lg.nt++ds/\jS bk (KK l) ds Ts (MV V i dP st) (MV V i (dP++ext) (bu oc s b st))
 | 0,st,dP,ext,iv,htr,c,huq,hx=>by
   have M:ext.length+st.lg.tr.length=st.lg.tr.length:=hx;obtain rfl:ext=[]:=List.length_eq_zero_iff.1 (by omega);rw[List.append_nil];exact⟨[],[],by simp[bu],jS.nil _ ⟨d,by have h:st.lg.tr.length+1<1000000000:=htr;show st.lg.tr.length<_;omega⟩⟩
 | b+1,st,dP,ext,iv,htr,c,huq,hx=>by
   rw[bu]at hx htr ⊢;by_cases z:stops oc s st=true
   ·rw[if_pos z]at hx htr ⊢;obtain rfl:ext=[]:=List.length_eq_zero_iff.1 (by omega);rw[List.append_nil];exact⟨[],[],by simp,jS.nil _ ⟨d,by show st.lg.tr.length<_;omega⟩⟩
   ·rw[if_neg z]at hx htr ⊢;have K:stops oc s st=false:=by simpa using z
    obtain⟨a,J⟩:=goes K;have F:=(pG iv a J).1;have m1:=Il oc s st;have N:=uD oc s b (bF oc s st);have G:=Dl (oc:=oc) iv.inj a;have C:∀k,k<(bF oc s st).B.n s->∃k',k'<st.B.n s/\(bF oc s st).B.h s k=st.B.h s k':=fun k c=>G s _ ⟨k,c,rfl⟩
    have D:∀k,k<(bF oc s st).B.n s->bk ((bF oc s st).B.h s k)=V.bk i/\VL V ((bF oc s st).B.h s k):=fun k y=>by
     obtain⟨k',w,e⟩:=C k y;rw[e];exact c k' w
    have E:∀k,k<(bF oc s st).B.n s->∀j,j<V.nb->∀t,t<2->Mem ((aK V.B i (bF oc s st).B j).n t) ((aK V.B i (bF oc s st).B j).h t) ((bF oc s st).B.h s k)->j=i/\t=s:=fun k y j I t L g=>by
     obtain⟨k',w,e⟩:=C k y;refine huq k' w j I t L ?_;rw[e]at g;by_cases A:j=i
     ·subst A;rw[ah]at g ⊢;exact G t _ g
     ·rw[ag _ _ A]at g ⊢;exact g
    by_cases r:(st.om (st.B.h s 0)).aG=(st.om oc).aG
    ·rw[if_pos r]at m1;obtain⟨H,m⟩:=DZ (dP:=dP) 0 p o a iv (c 0 a).1 (c 0 a).2 q d (by omega) (huq 0 a);rw[if_pos r]at m;obtain⟨ds,Ts,v,u⟩:=yw p o q d b (bF oc s st) dP ext F htr D E (by omega);exact⟨_,_,by rw[v,Jc,List.append_assoc],m.append u⟩
    ·rw[if_neg r]at m1;obtain⟨tb,f,rfl⟩:∃tb f,ext=tb :: f:=by
      cases ext with
      | nil=>simp at hx;omega
      | cons tb f=>exact⟨tb,f,rfl⟩
     obtain⟨H,m⟩:=DZ (dP:=dP) tb p o a iv (c 0 a).1 (c 0 a).2 q d (by omega) (huq 0 a);rw[if_neg r]at m;obtain⟨ds,Ts,v,u⟩:=yw p o q d b (bF oc s st) (dP++[tb]) f F htr D E (by simp at hx;omega);rw[List.append_assoc]at u;exact⟨_,_,by rw[v,Jc,List.append_assoc],m.append u⟩
theorem Aj{oc s:Nat}:∀(a:Nat) (st:MS),su oc s st->∀t x,Mem ((bu oc s a st).B.n t) ((bu oc s a st).B.h t) x->Mem (st.B.n t) (st.B.h t) x
 | 0,st,iv,t,x,h=>h
 | a+1,st,iv,t,x,h=>by
   rw[bu]at h;by_cases b:stops oc s st=true
   ·rw[if_pos b]at h;exact h
   ·rw[if_neg b]at h;obtain⟨c,d⟩:=goes (by simpa using b);exact Dl (oc:=oc) iv.inj c t x (Aj a (bF oc s st) (pG iv c d).1 t x h)
theorem D7{p:Int}(h0:0<=p)(a:p<=1000000000000):p=wrap64 (wrap64 (p+1)-1):=by
 unfold wrap64;omega
theorem PX{bk:Nat->Nat}{V V1:aS}{i t oc g cap':Nat}{dP:List Nat}{st:MS}(p:i<V.nb)(u:t<2)(o:bk oc=V.bk i)(k:VL V oc)(r:∀j,j<V.nb->∀b,b<2->¬Mem ((aK V.B i st.B j).n b) ((aK V.B i st.B j).h b) oc)(h0:0<=st.B.places)(m:st.B.places<=1000000000000)
 (a:dK (MV V i dP ⟨dX oc t g cap' st,aI oc st,st.lg⟩) V1):Cj bk (if df (st.om oc) then .eQ oc (st.om oc).place else .fV oc (st.om oc)) [] (MV V i dP st) V1:=by
 have f:(MV V i dP st).B i=st.B:=ah _ _ _;unfold dX aI at a;by_cases l:df (st.om oc)=true
 ·simp only[l,if_true]at a ⊢;refine Gq (V:=MV V i dP st) (i:=i) (s:=t) (pl:=wrap64 (st.B.places+1)) p u o k r (by rw[f];exact D7 h0 m) ?_ (q:=wrap64 (st.B.places+1)) (fun x w=>a.om x w);rw[f];refine⟨a.nb,a.bk,fun j c=>(a.sym j c).trans ?_,fun j c=>(a.uO j c).trans ?_,fun j c b v x=>(a.mem j c b v x).trans ?_,a.aV,a.no,a.tr,a.day,a.tb⟩
  ·by_cases e:j=i
   ·subst e;simp only[MV,ah];rfl
   ·simp only[MV,ag _ _ e]
  ·by_cases e:j=i
   ·subst e;simp only[MV,ah,if_true];rfl
   ·simp only[MV,ag _ _ e,if_neg e]
  ·by_cases e:j=i
   ·subst e;by_cases d:b=t
    ·subst d;simp only[MV,ah,Bk.rest,and_self,if_true];exact jf _ oc x
    ·simp only[MV,ah,Bk.rest,ag _ _ d,d,and_false,if_false]
   ·simp only[MV,ag _ _ e,e,false_and,if_false]
 ·simp only[l]at a ⊢;exact ng (V:=MV V i dP st) (o':=fZ (st.om oc)) k rfl rfl (fun _ _ _ _ _=>⟨rfl,rfl⟩) a
theorem Jj{bk:Nat->Nat}{V V1:aS}{l:List Nat}{i s t oc g cap':Nat}{dP ext:List Nat}{st:MS}(m:i<V.nb)(u:s<2)(C:t<2)(p:VL V oc)(o:∀x,VL V x->x∈l)(q:su oc s st)(D:(mF oc s st).lg.tr.length+1<1000000000)
 (z:∀k,k<st.B.n s->bk (st.B.h s k)=V.bk i/\VL V (st.B.h s k)) (E:∀k,k<st.B.n s->∀j,j<V.nb->∀t,t<2->Mem ((aK V.B i st.B j).n t) ((aK V.B i st.B j).h t) (st.B.h s k)->j=i/\t=s) (d:ext.length+st.lg.tr.length=(mF oc s st).lg.tr.length)
 (w:bk oc=V.bk i) (A:∀j,j<V.nb->∀b,b<2->¬Mem ((aK V.B i st.B j).n b) ((aK V.B i st.B j).h b) oc) (h0:0<=st.B.places) (G:st.B.places<=1000000000000)
 (a:dK (MV V i (dP++ext) ⟨dX oc t g cap' (mF oc s st),aI oc (mF oc s st),iO oc (mF oc s st)⟩) V1) :
 ∃ds Ts,(iO oc (mF oc s st)).nt=st.lg.nt++ds/\jS bk (KK l) ds Ts (MV V i dP st) V1:=by
 obtain⟨ds,Ts,r,b⟩:=yw (bk:=bk) m u p o (mu oc s st) st dP ext q D z E d;have f:(mF oc s st).B.places=st.B.places:=ql _ _;refine⟨_,_,?_,jS.kL b (PX (g:=g) (cap':=cap') m C w p (fun j y v F c=>?_) (by have e:=f;unfold mF at e;omega) (by have e:=f;unfold mF at e;omega) ?_) ⟨fun x d=>o x ((a.vl x).1 d),?_⟩⟩
 ·show (mF oc s st).lg.nt++_=_;unfold mF;rw[r,List.append_assoc]
 ·refine A j y v F ?_;by_cases e:j=i
  ·subst e;rw[ah]at c ⊢;exact Aj _ _ q v oc c
  ·rw[ag _ _ e]at c ⊢;exact c
 ·exact⟨a.nb,a.bk,a.sym,a.uO,a.mem,a.aV,a.no,a.om,a.tr,a.day,a.tb⟩
 ·rw[a.tr];show (mF oc s st).lg.tr.length<_;omega
def aS.yL(V:aS)(id:Int)(b:Nat)(o:Ord):aS:={ V with aV:=fun i=>if i=id then some b else V.aV i,no:=V.no+1,om:=aK V.om b o }
theorem Jm{α:Type}(a:Nat->α)(i:Nat):aK a i (a i)=a:=by
 funext j;by_cases e:j=i
 ·subst e;rw[ah]
 ·rw[ag _ _ e]
theorem O4{bk:Nat->Nat}{V V1:aS}{l:List Nat}{i s t b g cap':Nat}{id:Int}{o:Ord}{ext:List Nat}{G:Lg}(I:i<V.nb)(D:s<2)(N:t<2)(J:(Lit.int .i64 id).wf=true)(v:V.aV id=none)(M:¬VL V b)(y:Ee V b)
 (u:∀x,VL (V.yL id b o) x->x∈l) (r:G.tr=V.lg.tr) (E:G.day=V.lg.day) (Q:su b s ⟨V.B i,aK V.om b o,G⟩) (O:(mF b s ⟨V.B i,aK V.om b o,G⟩).lg.tr.length+1<1000000000)
 (w:∀k,k<(V.B i).n s->bk ((V.B i).h s k)=V.bk i/\VL V ((V.B i).h s k)) (P:∀k,k<(V.B i).n s->∀j,j<V.nb->∀t,t<2->Mem ((V.B j).n t) ((V.B j).h t) ((V.B i).h s k)->j=i/\t=s) (d:ext.length+V.lg.tr.length=(mF b s ⟨V.B i,aK V.om b o,G⟩).lg.tr.length)
 (H:bk b=V.bk i) (h0:0<=(V.B i).places) (C:(V.B i).places<=1000000000000)
 (F:dK (MV (V.yL id b o) i (V.lm.tb++ext) ⟨dX b t g cap' (mF b s ⟨V.B i,aK V.om b o,G⟩),aI b (mF b s ⟨V.B i,aK V.om b o,G⟩),iO b (mF b s ⟨V.B i,aK V.om b o,G⟩)⟩) V1) :
 ∃ds Ts,(iO b (mF b s ⟨V.B i,aK V.om b o,G⟩)).nt=G.nt++ds/\jS bk (KK l) ([.entered id]++ds) ([[]]++Ts) V V1:=by
 have z:∀x,VL V x->VL (V.yL id b o) x:=fun x d=>by
  obtain⟨j,a⟩:=d;have L:j≠id:=fun e=>by rw[e,v]at a;simp at a
  exact⟨j,by show (if j=id then some b else V.aV j)=_;rw[if_neg L];exact a⟩
 have T:VL (V.yL id b o) b:=⟨id,by show (if id=id then some b else V.aV id)=_;rw[if_pos rfl]⟩;have K:=uD b s (mu b s ⟨V.B i,aK V.om b o,G⟩) ⟨V.B i,aK V.om b o,G⟩;have U:G.tr.length+1<1000000000:=by
  have:G.tr.length<=(mF b s ⟨V.B i,aK V.om b o,G⟩).lg.tr.length:=K;omega
 have f:aK (V.yL id b o).B i (V.B i)=V.B:=Jm _ _;have R:jS bk (KK l) [.entered id] [[]] V (MV (V.yL id b o) i V.lm.tb ⟨V.B i,aK V.om b o,G⟩):=by
  refine jS.one ⟨fun x d=>u x (z x d),by rw[<-r];omega⟩ (Gp (o:=o) J v M y ⟨rfl,fun _ _=>rfl,fun j a=>?_,fun j a=>?_,fun j a q p x=>?_,rfl,rfl,fun _ _=>rfl,r,E,rfl⟩) ⟨u,by show G.tr.length<_;omega⟩
  ·simp only[MV];rw[f]
  ·simp only[MV];rw[f]
  ·simp only[MV];rw[f]
 obtain⟨ds,Ts,A,S⟩:=Jj (bk:=bk) (V:=V.yL id b o) (V1:=V1) (l:=l) (dP:=V.lm.tb) (ext:=ext) (st:=⟨V.B i,aK V.om b o,G⟩) (g:=g) (cap':=cap') I D N T u Q O (fun k m=>⟨(w k m).1,z _ (w k m).2⟩) (fun k m j a q p c=>P k m j a q p (by rw[f]at c;exact c)) (by show ext.length+G.tr.length=_;rw[r];exact d) H (fun j a q p c=>y j a q p (by rw[f]at c;exact c)) h0 C F;exact⟨ds,Ts,A,R.append S⟩
theorem Tt{bk:Nat->Nat}{V V1:aS}{M:Int}{l:List Nat}{i s t a g cap':Nat}{af az:Int}{ext:List Nat}{G:Lg}(gw:GW V M)(o:i<V.nb)(z:s<2)(p:t<2)(C:s≠t)(A:a<(V.B i).n t)
 (H:∀x,VL V x->x∈l) (D:G.tr=V.lg.tr) (T:G.day=V.lg.day) (N:su ((V.B i).h t a) s ⟨(V.B i).leave V.om t a,aK V.om ((V.B i).h t a) (dR (V.om ((V.B i).h t a)) af az),G⟩) (J:(mF ((V.B i).h t a) s ⟨(V.B i).leave V.om t a,aK V.om ((V.B i).h t a) (dR (V.om ((V.B i).h t a)) af az),G⟩).lg.tr.length+1<1000000000)
 (F:∀d,d<2->∀k,k<(V.B i).n d->bk ((V.B i).h d k)=V.bk i) (L:ext.length+V.lg.tr.length=(mF ((V.B i).h t a) s ⟨(V.B i).leave V.om t a,aK V.om ((V.B i).h t a) (dR (V.om ((V.B i).h t a)) af az),G⟩).lg.tr.length)
 (h0:0<=(V.B i).places) (S:(V.B i).places<=1000000000000)
 (E:dK (MV V i (V.lm.tb++ext) ⟨dX ((V.B i).h t a) t g cap' (mF ((V.B i).h t a) s ⟨(V.B i).leave V.om t a,aK V.om ((V.B i).h t a) (dR (V.om ((V.B i).h t a)) af az),G⟩),aI ((V.B i).h t a) (mF ((V.B i).h t a) s ⟨(V.B i).leave V.om t a,aK V.om ((V.B i).h t a) (dR (V.om ((V.B i).h t a)) af az),G⟩),iO ((V.B i).h t a) (mF ((V.B i).h t a) s ⟨(V.B i).leave V.om t a,aK V.om ((V.B i).h t a) (dR (V.om ((V.B i).h t a)) af az),G⟩)⟩) V1) :
 ∃ds Ts,(iO ((V.B i).h t a) (mF ((V.B i).h t a) s ⟨(V.B i).leave V.om t a,aK V.om ((V.B i).h t a) (dR (V.om ((V.B i).h t a)) af az),G⟩)).nt=G.nt++ds/\jS bk (KK l) ([.left ((V.B i).h t a),.fV ((V.B i).h t a) (V.om ((V.B i).h t a))]++ds) ([[],[]]++Ts) V V1:=by
 obtain⟨b,v⟩:=gy ((V.B i).h t a);rw[<-v]at N J L E ⊢;obtain⟨q,P⟩:=gy (aK V.om b (dR (V.om b) af az));rw[<-P]at N J L E ⊢;have r:Mem ((V.B i).n t) ((V.B i).h t) b:=⟨a,A,v⟩;have K:VL V b:=(((gw.gb i o).mem t p b).1 r).1;have W:=uD b s (mu b s ⟨(V.B i).leave V.om t a,q,G⟩) ⟨(V.B i).leave V.om t a,q,G⟩;have Z:G.tr.length+1<1000000000:=by
  have:G.tr.length<=(mF b s ⟨(V.B i).leave V.om t a,q,G⟩).lg.tr.length:=W;omega
 have O:KK l V:=⟨H,by rw[<-D];omega⟩;have y:=uz (dG:=V.om) gw.hs o p A;rw[<-v]at y;have X:jS bk (KK l) [.left b,.fV b (V.om b)] [[],[]] V (MV V i V.lm.tb ⟨(V.B i).leave V.om t a,q,G⟩):=by
  refine jS.kL (jS.one O (sU o p (by rw[v];exact F t p a A) K (((gw.gb i o).mem t p b).1 r).2.2.1 r (fun j f d m h=>gw.one o f p m r h) y (fun _ _=>rfl)) (show KK l { V with B:=aK V.B i ((V.B i).leave V.om t a) } from O)) ?_ ⟨H,by show G.tr.length<_;omega⟩;refine ng (V:={ V with B:=aK V.B i ((V.B i).leave V.om t a) }) (o':=dR (V.om b) af az) K rfl rfl (fun j f d m h=>?_) ⟨rfl,fun _ _=>rfl,fun _ _=>rfl,fun _ _=>rfl,fun _ _ _ _ _=>Iff.rfl,rfl,rfl,fun x _=>by show q x=_;rw[P],D,T,rfl⟩;exfalso;rw[y.mem j f d m b]at h;by_cases c:j=i/\d=t
  ·rw[if_pos c]at h;exact h.2 rfl
  ·rw[if_neg c]at h;exact c (gw.one o f p m r h)
 have other:∀d,d≠t->((V.B i).leave V.om t a).n d=(V.B i).n d/\((V.B i).leave V.om t a).h d=(V.B i).h d:=fun d e =>
  ⟨by simp only[Bk.leave,ag _ _ e],by simp only[Bk.leave,ag _ _ e]⟩
 have Q:∀j,j<V.nb->∀d,d<2->∀x,Mem ((aK V.B i ((V.B i).leave V.om t a) j).n d) ((aK V.B i ((V.B i).leave V.om t a) j).h d) x->Mem ((V.B j).n d) ((V.B j).h d) x/\x≠b:=fun j f d m x h=>by
  have u:=(y.mem j f d m x).1 h;by_cases c:j=i/\d=t
  ·rw[if_pos c]at u;obtain⟨rfl,rfl⟩:=c;exact u
  ·rw[if_neg c]at u;exact⟨u,fun e=>c (gw.one o f p m r (e▸u))⟩
 obtain⟨ds,Ts,R,Y⟩:=Jj (bk:=bk) (V:=V) (V1:=V1) (l:=l) (dP:=V.lm.tb) (ext:=ext) (st:=⟨(V.B i).leave V.om t a,q,G⟩) (g:=g) (cap':=cap') o z p K H N J (fun k w=>by
  rw[show ((V.B i).leave V.om t a).n s=(V.B i).n s from (other s C).1]at w;show bk (((V.B i).leave V.om t a).h s k)=_/\VL V (((V.B i).leave V.om t a).h s k);rw[(other s C).2];exact⟨F s z k w,(((gw.gb i o).mem s z _).1 ⟨k,w,rfl⟩).1⟩) (fun k w j f d m I=>by
  have U:k<(V.B i).n s:=by rw[<-(other s C).1];exact w
  refine gw.one o f z m ⟨k,U,rfl⟩ ?_;have:=(Q j f d m _ I).1;rw[show (MS.B ⟨(V.B i).leave V.om t a,q,G⟩).h s k=(V.B i).h s k by show ((V.B i).leave V.om t a).h s k=_;rw[(other s C).2]]at this;exact this) (by show ext.length+G.tr.length=_;rw[D];exact L) (by rw[v];exact F t p a A) (fun j f d m I=>(Q j f d m _ I).2 rfl) h0 S E
 exact⟨ds,Ts,R,X.append Y⟩
theorem GW.J7{V V':aS}{M M':Int}(g:GW V M)(k:GW V' M')(n:V'.nb=V.nb)(l:∀i,i<V.nb->V'.bk i=V.bk i)(j:∀i,i<V.nb->(V'.B i).sym=(V.B i).sym)(p:∀i,i<V.nb->(V'.B i).places=(V.B i).places)(f:V'.aV=V.aV)(o:V'.no=V.no)
 (c:∀x,VL V x->V'.om x=V.om x) (r:V'.lg.tr=V.lg.tr) (m:V'.lg.day=V.lg.day) (q:V'.lm.tb=V.lm.tb):dK V V':=by
 have vl:∀x,VL V' x↔VL V x:=fun x=>by unfold VL;rw[f]
 refine⟨n,l,j,p,fun i e s hs x=>?_,f,o,c,r,m,q⟩;rw[(k.gb i (by omega)).mem s hs x,(g.gb i e).mem s hs x,j i e];constructor
 ·rintro⟨a,b⟩;have d:=(vl x).1 a;rw[c x d]at b;exact⟨d,b⟩
 ·rintro⟨a,b⟩;rw[c x a];exact⟨(vl x).2 a,b⟩
theorem Vl{bk:Nat->Nat}{V V':aS}{M:Int}{l:List Nat}{b:Nat}{q:Int}(g:GW V M)(o:GW V' M)(a:KK l V)(p:VL V b)(v:V'.nb=V.nb)(r:∀i,i<V.nb->V'.bk i=V.bk i)(j:∀i,i<V.nb->(V'.B i).sym=(V.B i).sym)(y:∀i,i<V.nb->(V'.B i).places=(V.B i).places)(d:V'.aV=V.aV)(w:V'.no=V.no)
 (f:V'.om=aK V.om b (eY (V.om b) q)) (k:V'.lg.tr=V.lg.tr) (t:V'.lg.day=V.lg.day) (z:V'.lm.tb=V.lm.tb):jS bk (KK l) [.fV b (V.om b)] [[]] V V':=by
 have vl:∀x,VL V' x↔VL V x:=fun x=>by unfold VL;rw[d]
 refine jS.one a (ng (o':=eY (V.om b) q) p rfl rfl (fun _ _ _ _ _=>⟨rfl,rfl⟩) ⟨v,r,j,y,fun i u s hs x=>?_,d,w,fun x m=>by rw[f],k,t,z⟩) ⟨fun x m=>a.1 x ((vl x).1 m),by rw[k];exact a.2⟩;show Mem ((V'.B i).n s) ((V'.B i).h s) x↔Mem ((V.B i).n s) ((V.B i).h s) x;have c:i<V.nb:=u;rw[(o.gb i (by omega)).mem s hs x,(g.gb i c).mem s hs x,j i c,f,vl];by_cases e:x=b
 ·subst e;rw[ah];exact Iff.rfl
 ·rw[ag _ _ e]
theorem Vm{bk:Nat->Nat}{V V':aS}{M:Int}{l:List Nat}{b i t:Nat}{q:Int}(g:GW V M)(g':GW V' M)(p:KK l V)(w:VL V b)(o:i<V.nb)(r:t<2)(J:(V.om b).sym=(V.B i).sym)(D:(V.om b).side=(t:Int))(S:bk b=V.bk i)(h0:0<=(V.B i).places)(h1:(V.B i).places<=1000000000000)(hpos:0<(V'.om b).aH)(ho0:0<=(V.om b).aH)
 (hnb:V'.nb=V.nb) (hbk:∀i,i<V.nb->V'.bk i=V.bk i) (U:∀i,i<V.nb->(V'.B i).sym=(V.B i).sym) (hpl:∀j,j<V.nb->(V'.B j).places=if j=i then wrap64 ((V.B i).places+1) else (V.B j).places) (T:V'.aV=V.aV) (hno:V'.no=V.no)
 (I:V'.om=bQ V i b q) (W:V'.lg.tr=V.lg.tr) (hdy:V'.lg.day=V.lg.day) (htb:V'.lm.tb=V.lm.tb):∃Ts,jS bk (KK l) ((if 0<(V.om b).aH then [.left b] else [])++[.fV b (V.om b),.eQ b (V.om b).place]) Ts V V':=by
 have vl:∀x,VL V' x↔VL V x:=fun x=>by unfold VL;rw[T]
 have one:∀j,j<V.nb->∀d:Nat,d<2->(V.om b).sym=(V.B j).sym->(V.om b).side=(d:Int)->j=i/\d=t:=fun j f d k N v=>by
  refine⟨g.mW j i f o (N.symm.trans J),?_⟩;rw[D]at v;exact (Int.ofNat_inj.1 v).symm
 obtain⟨a,G,u0,N,v,e3,O,P,e6,y,H,e9,e10,A⟩:∃a G,jS bk (KK l) (if 0<(V.om b).aH then [.left b] else []) G V a/\a.nb=V.nb/\(∀j,j<V.nb->a.bk j=V.bk j)/\(∀j,j<V.nb->(a.B j).sym=(V.B j).sym)/\(∀j,j<V.nb->(a.B j).places=(V.B j).places)/\a.aV=V.aV/\a.no=V.no/\a.om=V.om/\a.lg=V.lg/\a.lm=V.lm/\True/\∀j,j<V.nb->∀d,d<2->∀x,Mem ((a.B j).n d) ((a.B j).h d) x↔Mem ((V.B j).n d) ((V.B j).h d) x/\x≠b:=by
  by_cases E:0<(V.om b).aH
  ·rw[if_pos E];have hm0:Mem ((V.B i).n t) ((V.B i).h t) b:=((g.gb i o).mem t r b).2 ⟨w,J,D,E⟩;obtain⟨F,C,z⟩:=hm0;have u:=uz (dG:=V.om) g.hs o r C;rw[<-z]at u;refine⟨{ V with B:=aK V.B i ((V.B i).leave V.om t F) },[[]],jS.one p (sU o r S w D ⟨F,C,z⟩ (fun j f d k h=>g.one o f r k ⟨F,C,z⟩ h) u (fun _ _=>rfl)) p,rfl,fun _ _=>rfl,u.sym,fun j f=>?_,rfl,rfl,rfl,rfl,rfl,trivial,fun j f d k x=>?_⟩
   ·rw[u.uO j f];by_cases c:j=i
    ·rw[if_pos c,c]
    ·rw[if_neg c]
   ·rw[u.mem j f d k x];by_cases c:j=i/\d=t
    ·rw[if_pos c];obtain⟨rfl,rfl⟩:=c;exact Iff.rfl
    ·rw[if_neg c];exact⟨fun h=>⟨h,fun e=>c (g.one o f r k ⟨F,C,z⟩ (e▸h))⟩,fun h=>h.1⟩
  ·rw[if_neg E];refine⟨V,[],jS.nil V p,rfl,fun _ _=>rfl,fun _ _=>rfl,fun _ _=>rfl,rfl,rfl,rfl,rfl,rfl,trivial,fun j f d k x=>⟨fun h=>⟨h,fun e=>?_⟩,fun h=>h.1⟩⟩;have:=(((g.gb j f).mem d k x).1 h).2.2.2;rw[e]at this;exact E this
 have L:∀x,VL a x↔VL V x:=fun x=>by unfold VL;rw[P]
 have Y:Ee a b:=fun j f d k h=>((A j (by omega) d k b).1 h).2 rfl
 have kk:∀dG,KK l { a with om:=dG }:=fun dG=>⟨fun x K=>p.1 x ((L x).1 K),by show a.lg.tr.length<_;rw[H];exact p.2⟩
 have u1:jS bk (KK l) ((if 0<(V.om b).aH then [.left b] else [])++[.fV b (V.om b)]) (G++[[]]) V { a with om:=aK V.om b (fD (V.om b) q) }:=by
  refine jS.kL u0 ?_ (kk _);have h:=ng (bk:=bk) (V:=a) (V1:={ a with om:=aK V.om b (fD (V.om b) q) }) (b:=b) (o':=fD (V.om b) q) ((L b).2 w) (by rw[y];rfl) (by rw[y];rfl) (fun j f d k hm=>absurd hm (Y j f d k)) (by rw[y];exact dK.refl _);rw[y]at h;exact h
 have R:(aK V.om b (fD (V.om b) q)) b=fD (V.om b) q:=ah _ _ _;have Q:Cj bk (.eQ b ((aK V.om b (fD (V.om b) q)) b).place) [] { a with om:=aK V.om b (fD (V.om b) q) } V':=by
  refine Gq (V:={ a with om:=aK V.om b (fD (V.om b) q) }) (i:=i) (s:=t) (pl:=wrap64 ((V.B i).places+1)) (q:=wrap64 ((V.B i).places+1)) (by show i<a.nb;omega) r (by show bk b=a.bk i;rw[v i o];exact S) ((L b).2 w) Y (by show (a.B i).places=_;rw[O i o];exact D7 h0 h1) ?_ (fun x _=>by rw[I];simp only[bQ,R]);refine⟨by show V'.nb=a.nb;omega,fun j f=>?_,fun j f=>?_,fun j f=>?_,fun j f d k x=>?_,by show V'.aV=a.aV;rw[T,P],by show V'.no=a.no;rw[hno,e6],by show V'.lg.tr=a.lg.tr;rw[W,H],by show V'.lg.day=a.lg.day;rw[hdy,H],by show V'.lm.tb=a.lm.tb;rw[htb,e9]⟩
  ·have m:j<V.nb:=by simp only at f;omega
   show V'.bk j=a.bk j;rw[hbk j m,v j m]
  ·have m:j<V.nb:=by simp only at f;omega
   show (V'.B j).sym=(a.B j).sym;rw[U j m,e3 j m]
  ·have m:j<V.nb:=by simp only at f;omega
   show (V'.B j).places=if j=i then _ else (a.B j).places
   rw[hpl j m,O j m]
  ·have m:j<V.nb:=by simp only at f;omega
   show Mem ((V'.B j).n d) ((V'.B j).h d) x↔if j=i/\d=t then (Mem ((a.B i).n t) ((a.B i).h t) x\/x=b) else Mem ((a.B j).n d) ((a.B j).h d) x
   rw[(g'.gb j (by omega)).mem d k x,U j m,vl];by_cases e:x=b
   ·subst e;have X:(V'.om x).sym=(V.om x).sym/\(V'.om x).side=(V.om x).side:=by rw[I];simp only[bQ,ah];exact⟨rfl,rfl⟩
    rw[X.1,X.2];by_cases c:j=i/\d=t
    ·rw[if_pos c];obtain⟨rfl,rfl⟩:=c;exact⟨fun _=>.inr rfl,fun _=>⟨w,J,D,hpos⟩⟩
    ·rw[if_neg c,A j m d k x];exact⟨fun h=>absurd (one j m d k h.2.1 h.2.2.1) c,fun h=>absurd rfl h.2⟩
   ·have ox:V'.om x=V.om x:=by rw[I];simp only[bQ,ag _ _ e]
    rw[ox,<-(g.gb j m).mem d k x];by_cases c:j=i/\d=t
    ·rw[if_pos c];obtain⟨rfl,rfl⟩:=c;rw[A j m d k x];exact⟨fun h=>.inl ⟨h,e⟩,fun h=>h.elim (fun h=>h.1) (fun h=>absurd h e)⟩
    ·rw[if_neg c,A j m d k x];exact⟨fun h=>⟨h,e⟩,fun h=>h.1⟩
 rw[R]at Q;have Z:=jS.kL u1 Q ⟨fun x K=>p.1 x ((vl x).1 K),by rw[W];exact p.2⟩;rw[List.append_assoc]at Z;exact⟨_,Z⟩
theorem Vk{bk:Nat->Nat}{V V':aS}{M:Int}{l:List Nat}{b i t:Nat}{o':Ord}(g:GW V M)(D:GW V' M)(r:KK l V)(u:VL V b)(o:i<V.nb)(p:t<2)(K:(V.om b).sym=(V.B i).sym)(z:(V.om b).side=(t:Int))(O:0<(V.om b).aH)(F:bk b=V.bk i)
 (P:o'.id=(V.om b).id) (Q:o'.place=(V.om b).place) (R:o'.aH=0)
 (H:V'.nb=V.nb) (E:∀i,i<V.nb->V'.bk i=V.bk i) (A:∀i,i<V.nb->(V'.B i).sym=(V.B i).sym) (J:∀j,j<V.nb->(V'.B j).places=(V.B j).places) (w:V'.aV=V.aV) (I:V'.no=V.no)
 (y:V'.om=aK V.om b o') (C:V'.lg.tr=V.lg.tr) (G:V'.lg.day=V.lg.day) (L:V'.lm.tb=V.lm.tb):jS bk (KK l) [.left b,.fV b (V.om b)] [[],[]] V V':=by
 have vl:∀x,VL V' x↔VL V x:=fun x=>by unfold VL;rw[w]
 obtain⟨k,s,q⟩:Mem ((V.B i).n t) ((V.B i).h t) b:=((g.gb i o).mem t p b).2 ⟨u,K,z,O⟩;have m:=uz (dG:=V.om) g.hs o p s;rw[<-q]at m;have out:∀j,j<V.nb->∀d,d<2->∀x,Mem ((aK V.B i ((V.B i).leave V.om t k) j).n d) ((aK V.B i ((V.B i).leave V.om t k) j).h d) x↔Mem ((V.B j).n d) ((V.B j).h d) x/\x≠b:=fun j a d f x=>by
  have h:=m.mem j a d f x;by_cases c:j=i/\d=t
  ·rw[if_pos c]at h;obtain⟨rfl,rfl⟩:=c;exact h
  ·rw[if_neg c]at h;exact h.trans ⟨fun h=>⟨h,fun e=>c (g.one o a p f ⟨k,s,q⟩ (e▸h))⟩,fun h=>h.1⟩
 refine jS.kL (jS.one r (sU o p F u z ⟨k,s,q⟩ (fun j a d f h=>g.one o a p f ⟨k,s,q⟩ h) m (fun _ _=>rfl)) (show KK l { V with B:=aK V.B i ((V.B i).leave V.om t k) } from r)) ?_ ⟨fun x N=>r.1 x ((vl x).1 N),by rw[C];exact r.2⟩;refine ng (V:={ V with B:=aK V.B i ((V.B i).leave V.om t k) }) (o':=o') u P Q (fun j a d f h=>absurd rfl ((out j a d f b).1 h).2) ⟨H,E,fun j a=>?_,fun j a=>?_,fun j a d f x=>?_,w,I,fun x _=>by rw[y],C,G,L⟩
 ·exact (A j a).trans (m.sym j a).symm
 ·refine (J j a).trans ?_;have h:=m.uO j a;by_cases c:j=i
  ·rw[if_pos c]at h;rw[c]at h ⊢;exact h.symm
  ·rw[if_neg c]at h;exact h.symm
 ·refine Iff.trans ?_ (out j a d f x).symm;have v:j<V.nb:=a;rw[(D.gb j (by omega)).mem d f x,(g.gb j v).mem d f x,A j v,vl,y];by_cases e:x=b
  ·subst e;rw[ah,R];exact⟨fun h=>absurd h.2.2.2 (by omega),fun h=>absurd rfl h.2⟩
  ·rw[ag _ _ e];exact⟨fun h=>⟨h,e⟩,fun h=>h.1⟩
theorem Yl{bk:Nat->Nat}{V V':aS}{M:Int}{l:List Nat}{b i s t:Nat}{q:Int}{again:Bool}(g:GW V M)(a:WV V M i s b q again V')(k:KK l V)(e:VL V b)(A:i<V.nb)(F:t<2)(D:(V.om b).sym=(V.B i).sym)(E:(V.om b).side=(t:Int))(x:bk b=V.bk i)(h0:0<=(V.B i).places)(u:(V.B i).places<=1000000000000)
 (H:M<=1000000000000000) (I:1<=q) (J:q<=(V.om b).filled) (w:V'.bk=V.bk) (p:V'.lg.tr=V.lg.tr) (n:V'.lg.day=V.lg.day) (o:V'.lm.tb=V.lm.tb):∃Ts,jS bk (KK l) (Td V i s b again) Ts V V':=by
 have m:∀j,j<V.nb->V'.bk j=V.bk j:=fun j _=>by rw[w]
 rcases a.way with⟨y,d,f⟩ | ⟨v,C,z,d,f⟩
 ·refine⟨[[]],?_⟩;rw[Td,if_pos y];exact Vl g a.gw k e a.nb m (fun j _=>a.lV j) (fun j _=>f j) a.aV a.no d p n o
 ·rw[Td,if_neg (by rintro (h | h | h);· rw[v]at h;simp at h
                   ·rw[C]at h;simp at h
                   ·rw[z]at h;simp at h)]
  have c:=g.q b e;have r:=c.o0;have a2:=c.f0;have a3:=c.c0;have a4:=c.e0;have a5:=c.sum;have G:=c.hi;refine Vm g a.gw k e A F D E x h0 u ?_ r a.nb m (fun j _=>a.lV j) (fun j _=>f j) a.aV a.no d p n o;rw[d];simp only[bQ,ah,fD];rw[aU (by omega) (by omega)];omega
theorem bH.gZ{w:World}{bv:Nat}{bk:Nat->Nat}{lo:Nat}{d:dU}{c:Value}(h:bH w bv bk lo d c){x:Nat}(a:xw c x):∃cs t,au w x cs t/\pO d.sF t:=by
 obtain⟨fn,l,rfl,h⟩:=h;obtain⟨n,m,e,a⟩:=a;simp only[Value.func.injEq]at e;obtain⟨_,_,rfl⟩:=e;cases d with
 | fV b od =>
   obtain⟨e,H,h0,rfl,f,g⟩:=h;simp at a;rcases a with e | e <;> rw[fH e]
   ·exact⟨_,_,g,.inr (.inl rfl)⟩
   ·exact⟨_,_,f,.inl rfl⟩
 | left b =>
   obtain⟨e,H,h0,rfl,f,g⟩:=h;simp at a;rcases a with e | e <;> rw[fH e]
   ·exact⟨_,_,f,jL rfl⟩
   ·exact⟨_,_,g,.inl rfl⟩
 | eQ b p =>
   obtain⟨e,H,h0,rfl,⟨f,g⟩,i⟩:=h;simp at a;rcases a with e | e | e <;> rw[fH e]
   ·exact⟨_,_,f,jL rfl⟩
   ·exact⟨_,_,g,.inl rfl⟩
   ·exact⟨_,_,i,iQ rfl⟩
 | entered id =>
   obtain⟨e,H,cs,h0,rfl,f,g,i⟩:=h;simp at a;rcases a with e | e <;> rw[fH e]
   ·exact⟨_,_,f,qo rfl⟩
   ·exact⟨_,_,g,ol5 rfl⟩
 | bU s =>
   obtain⟨e,H,K,h0,j,rfl,f,g⟩:=h;simp at a;rcases a with e | e <;> rw[fH e]
   ·exact⟨_,_,f,qo rfl⟩
   ·exact⟨_,_,g,XZ rfl⟩
 | jh t =>
   obtain⟨e,H,h0,rfl,f,g⟩:=h;simp at a;rcases a with e | e <;> rw[fH e]
   ·exact⟨_,_,f,qo rfl⟩
   ·exact⟨_,_,g,ol7 rfl⟩
 | jV tb =>
   obtain⟨e,H,K,h0,j,rfl,f,g⟩:=h;simp at a;rcases a with e | e <;> rw[fH e]
   ·exact⟨_,_,g,X5 ⟨rfl,rfl⟩⟩
   ·exact⟨_,_,f,qo rfl⟩
 | iV tb p =>
   obtain⟨e,H,K,k,h0,j,o,rfl,f,g,i⟩:=h;simp at a;rcases a with e | e | e <;> rw[fH e]
   ·exact⟨_,_,f,qo rfl⟩
   ·exact⟨_,_,g,X5 ⟨rfl,rfl⟩⟩
   ·exact⟨_,_,i,iQ rfl⟩
 | closed =>
   obtain⟨e,H,h0,rfl,f⟩:=h;simp at a;rw[fH a];exact⟨_,_,f,qo rfl⟩
theorem bH.xy{w:World}{bv:Nat}{bk:Nat->Nat}{lo:Nat}{d:dU}{c:Value}(h:bH w bv bk lo d c):bH w bv bk 0 d c:=by
 obtain⟨fn,i,rfl,h⟩:=h;refine⟨fn,i,rfl,?_⟩;cases d with
 | fV b od=>obtain⟨e,H,h0,a,h⟩:=h;exact⟨e,H,Nat.zero_le _,a,h⟩
 | left b=>obtain⟨e,H,h0,a,h⟩:=h;exact⟨e,H,Nat.zero_le _,a,h⟩
 | eQ b p=>obtain⟨e,H,h0,a,h⟩:=h;exact⟨e,H,Nat.zero_le _,a,h⟩
 | entered id=>obtain⟨e,H,cs,h0,h⟩:=h;exact⟨e,H,cs,Nat.zero_le _,h⟩
 | bU s=>obtain⟨e,H,K,h0,f,h⟩:=h;exact⟨e,H,K,Nat.zero_le _,Nat.zero_le _,h⟩
 | jh t=>obtain⟨e,H,h0,h⟩:=h;exact⟨e,H,Nat.zero_le _,h⟩
 | jV tb=>obtain⟨e,H,K,h0,f,h⟩:=h;exact⟨e,H,K,Nat.zero_le _,Nat.zero_le _,h⟩
 | iV tb p=>obtain⟨e,H,K,g,h0,f,j,h⟩:=h;exact⟨e,H,K,g,Nat.zero_le _,Nat.zero_le _,Nat.zero_le _,h⟩
 | closed=>obtain⟨e,H,h0,h⟩:=h;exact⟨e,H,Nat.zero_le _,h⟩
structure oO where
 bk:Nat->Nat
 ds:List dU
 Ts:List (List (Int × Tr))
 cl:List Value
structure Pg(bv bm bo:Nat)(V:aS)(n:oO)(w:World):Prop where
 len:n.cl.length=n.ds.length
 pU:∀(i:Nat) (d:dU) (c:Value),n.ds[i]?=some d->n.cl[i]?=some c->bH w bv n.bk 0 d c
 off:∀c∈n.cl,∀x,xw c x->¬bY bv bm bo V x
theorem Pg.lt{bv bm bo:Nat}{V:aS}{n:oO}{w:World}(h:Pg bv bm bo V n w){c:Value}(b:c∈n.cl){x:Nat}(e:xw c x):x<w.heap.size:=by
 obtain⟨i,a,rfl⟩:=List.mem_iff_getElem.1 b;have d:i<n.ds.length:=by rw[<-h.len];exact a
 exact ((h.pU i n.ds[i] n.cl[i] (List.getElem?_eq_getElem d) (List.getElem?_eq_getElem a)).cap e).2
theorem Pg.aC{bv bm bo:Nat}{V V':aS}{n:oO}{w w':World}(h:Pg bv bm bo V n w)(k:aj (bY bv bm bo V) w w')(f:∀x,bY bv bm bo V' x->bY bv bm bo V x\/w.heap.size<=x):Pg bv bm bo V' n w':=by
 refine⟨h.len,fun i d c g a=>(h.pU i d c g a).QX k (fun x b=>h.off c (List.mem_of_getElem? a) x b),fun c a x b j=>?_⟩;rcases f x j with e | e
 ·exact h.off c a x b e
 ·have:=h.lt a b;omega
theorem Pg.ax{bv bm bo:Nat}{V:aS}{n:oO}{w w':World}{K:Nat->Prop}(h:Pg bv bm bo V n w)(k:aj K w w')(b:∀c∈n.cl,∀x,xw c x->¬K x):Pg bv bm bo V n w' :=
 ⟨h.len,fun i d c e a=>(h.pU i d c e a).QX k (fun x f=>b c (List.mem_of_getElem? a) x f),h.off⟩
def Bz(bv bm bo:Nat)(V V':aS)(B:List (Int × Tr))(lo:Nat)(w':World):Prop :=
 ∃(n:oO) (l:List Nat),jS n.bk (KK l) n.ds n.Ts V V'/\l.length<1000/\(0<n.ds.length/\n.ds.length<=100000)/\n.Ts.flatten=B/\V'.lm.ac.map Prod.snd=V.lm.ac.map Prod.snd++[n.cl]/\V'.lg.nt=n.ds/\Pg bv bm bo V' n w'/\∀c∈n.cl,∀x,xw c x->lo<=x
theorem Bo{w:World}{b:Nat}{c e:Array Value}{t d:TypeId}(h:au w b c t)(a:au w b e d):t=d:=by
 unfold au at h a;rw[h]at a;simp only[Option.some.injEq,Obj.cells.injEq]at a;exact a.2.1
theorem iy.off{w:World}{bv bm bo:Nat}{bk:Nat->Nat}{lo:Nat}{q:Bool}{N:List (List Value)}{dP:List Nat}{V:aS}{n:List Value}(h:iy w bv bk lo q N V.lg.nt dP V.lm n)(R:dL w bv bm bo V)(F:zH V n):∀c∈n,∀x,xw c x->¬bY bv bm bo V x:=by
 intro c z x r G;obtain⟨i,A,rfl⟩:=List.mem_iff_getElem.1 z;have B:i<V.lg.nt.length:=by rw[<-h.len];exact A
 have v:=h.pU i _ _ (List.getElem?_eq_getElem B) (List.getElem?_eq_getElem A);have Q:=(v.cap r).1;obtain⟨cs,t,g,p⟩:=v.gZ r;have f:∀{s:Array Value} {a:TypeId},au w x s a->¬pO true a->False:=fun b d=>by
  have e:=Bo g b;subst e;rcases p with e | e | e | e | e | e | e | e | ⟨_,e⟩
  ·exact d (.inl e)
  ·exact d (.inr (.inl e))
  ·exact d (jL e)
  ·exact d (iQ e)
  ·exact d (qo e)
  ·exact d (ol5 e)
  ·exact d (XZ e)
  ·exact d (ol7 e)
  ·exact d (X5 ⟨rfl,e⟩)
 have nb:∀a:TypeId,(a=100\/a=158\/a=116\/a=62\/a=5\/a=105\/a=109\/a=1)->¬pO true a:=by
  rintro a (e | e | e | e | e | e | e | e) <;> subst e <;> (rintro (e | e | e | e | e | e | e | e | ⟨_,e⟩) <;> exact absurd e (by decide))
 rcases G with e | e | e | ⟨j,o,e⟩ | ⟨id,e⟩ | e
 ·subst e;exact f R.cO (nb _ (.inl rfl))
 ·subst e;obtain⟨O,L,_⟩:=R.iM;exact L.ne g rfl
 ·subst e;obtain⟨P,M,_⟩:=R.fA;exact M.ne g rfl
 ·rcases e with e | ⟨y,C,e | ⟨k,l,e⟩⟩
  ·subst e;exact f (R.aW j o).ay (nb _ (.inr (.inl rfl)))
  ·exact F j o y C x e _ z x r rfl
  ·obtain⟨id,H⟩:=R.mem j o y C k l;obtain⟨_,K,m⟩:=R.bg id _ H;rw[<-e]at m;exact f m (nb _ (jL rfl))
 ·obtain⟨_,K,m⟩:=R.bg id x e;exact f m (nb _ (jL rfl))
 ·rcases e with e | (e | e) | e | e
  ·obtain⟨u,b⟩:=aF R.aO.aO.dJ e;cases hT:(V.lg.nt[i]).sF with
   | true =>
     have:=h.tvl _ (List.getElem_mem B) hT x e;omega
   | false =>
     rw[hT]at p;have E:=Bo g b;subst E;rcases p with e | e | e | e | e | e | e | e | ⟨e,_⟩
     all_goals exact absurd e (by decide)
  ·obtain⟨u,b⟩:=aF R.aO.aO.fQ e;exact f b (nb _ (iQ rfl))
  ·obtain⟨u,b⟩:=aF R.aO.aO.lT e;exact f b (nb _ (qo rfl))
  ·obtain⟨k,l,D⟩:=List.mem_iff_getElem.1 e;have I:k<V.lg.tr.length:=by rw[<-R.aO.aO.len];exact l
   have:=R.aO.aO.ay k x V.lg.tr[k] (by rw[List.getElem?_eq_getElem l,D]) (List.getElem?_eq_getElem I);exact f this (nb _ (ol5 rfl))
  ·obtain⟨s,a,b,J⟩:=R.aO.aO.act.gZ e;rcases J with e | e
   ·subst e;exact f b (nb _ (XZ rfl))
   ·subst e;exact f b (nb _ (or7 rfl))
theorem Bz.of{w:World}{bv bm bo:Nat}{bk:Nat->Nat}{lo:Nat}{q:Bool}{dP:List Nat}{V V':aS}{a:List Value}{l:List Nat}{ds:List dU}{Ts:List (List (Int × Tr))}{B:List (Int × Tr)}(R:dL w bv bm bo V')(h:iy w bv bk lo q (V.lm.ac.map Prod.snd) V'.lg.nt dP V'.lm a)(g:zH V' a)(e:V'.lg.nt=ds)(p:jS bk (KK l) ds Ts V V')(k:l.length<1000)(n:0<ds.length)(m:ds.length<=100000)(f:Ts.flatten=B):Bz bv bm bo V V' B lo w:=by
 refine⟨⟨bk,ds,Ts,a⟩,l,p,k,⟨n,m⟩,f,h.ac,e,⟨by rw[<-e];exact h.len,fun i d c j b=>(h.pU i d c (by rw[e];exact j) b).xy,h.off R g⟩,fun c b x o=>(h.cap b o).1⟩
def mg:List dU->List (Int × Tr)
 | []=>[]
 | .jh t :: ds=>(2,t) :: mg ds
 | _ :: ds=>mg ds
theorem kH:∀a b:List dU,mg (a++b)=mg a++mg b
 | [],b=>rfl
 | d :: a,b=>by
   cases d <;> simp only[List.cons_append,mg,kH a b]
theorem jS.jF{bk:Nat->Nat}{K:aS->Prop}{ds:List dU}{Ts:List (List (Int × Tr))}{V0 V1:aS}(h:jS bk K ds Ts V0 V1)(c:∀d∈ds,d.sF=false):Ts.flatten=mg ds:=by
 induction h with
 | nil V h=>rfl
 | @kL ds Ts V0 V V1 d T h hb hk ih =>
   rw[List.flatten_append,kH,ih (fun d a=>c d (List.mem_append_left _ a))];congr 1;have a:=c d (by simp);cases d with
   | fV b o=>rw[hb.1];rfl
   | left b=>rw[hb.1];rfl
   | eQ b p=>rw[hb.1];rfl
   | entered id=>rw[hb.1];rfl
   | bU s=>rw[hb.1];rfl
   | jh t=>rw[hb.1];rfl
   | jV tb=>simp[dU.sF]at a
   | iV tb p=>simp[dU.sF]at a
   | closed=>rw[hb.1];rfl
end Go.Proofs.YtigaphnafnpfnaaGreatDoor
