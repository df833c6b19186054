import Derived.Test.YtigaphnafnpfnaaGreatDoorQNV19
import Derived.Test.YtigaphnafnpfnaaGreatDoorQNV17
import Derived.Lib.SliceRun
import Derived.Maps.RangeWalk
set_option linter.unusedVariables false
set_option linter.unusedSimpArgs false
set_option maxHeartbeats 8000000
set_option maxRecDepth 100000
namespace Go.Proofs.YtigaphnafnpfnaaGreatDoor
def kZ:List Rc->List Rc->List Rc
 | R,[]=>R
 | R,r :: t=>kZ (R++[{ r with num:=(R.length:Int)+1 }]) t
theorem EZ:∀(R t:List Rc) (r:Rc),kZ R (t++[r])=kZ R t++[{ r with num:=((kZ R t).length:Int)+1 }]
 | R,[],r=>rfl
 | R,x :: t,r=>by show kZ _ (t++[r])=kZ _ t++_;rw[EZ];rfl
theorem JQ:∀(R t:List Rc),(kZ R t).length=R.length+t.length
 | R,[]=>rfl
 | R,x :: t=>by show (kZ _ t).length=_;rw[JQ];simp;omega
open Go.RowKit
attribute [local go_sem ↓] Go.wp_at_zero Go.wp_at_succ
def XW(o:Ord)(c:Int):Ord:={ o with entered:=wrap64 (wrap64 (o.entered+c)-o.aO),aO:=c }
def Eh(o:Ord)(b c:Int):Ord:={ o with entered:=wrap64 (wrap64 (o.entered+c)-o.aO),aO:=0,af:=b }
theorem U1(i:Nat)(c:RC):∃f r n a k,rcV i c=mM f r n a k:=by
 unfold rcV;split
 ·exact⟨_,_,_,_,_,rfl⟩
 ·split <;> exact⟨_,_,_,_,_,rfl⟩
def RS.fresh(S:RS):RS:={ S with told:=[] }
def RS.gy(S:RS)(k:Nat):RS:=S.ik k { ax S.l k with bZ:=wrap64 ((ax S.l k).bZ+(ax S.l k).aO),aO:=0 }
def jG(o:iT)(taken gI full iE whole:Bool):Int :=
 if dX o.id=false then 1 else if taken=true then 2 else if oW o.aG=false\/ni o.side=false then 4 else if pK o.kind=false then 5
 else if dX o.aK=false\/iV o.kind o.af=false then 4 else if gI=false then 6 else if full=true then 7 else if o.kind=4/\iE=true then 8 else if o.kind=3/\whole=true then 9 else 0
def sD(S:RS)(o:iT):Int:=jG o (iU S.l o.id).isSome (jI S.sy o.sym) (decide (200<=S.l.length)) (gZ S.l o).isSome (decide (um S.l o S.l.length<o.aK))
open Go.RowKit Go.Maps
def aS.lu(V:aS)(i:Nat)(B':Bk)(dK:Nat->Ord)(G':Lg)(bM:Lm):aS:={ V with B:=aQ V.B i B',om:=dK,lg:=G',lm:=bM }
def Next(bv bm bo:Nat)(V:aS)(Q:aS->Prop)(w w':World):Prop :=
 ∃V2,dS w' bv bm bo V2/\Q V2/\aj (dO bv bm bo V) w w'/\∀x,dO bv bm bo V2 x->dO bv bm bo V x\/w.heap.size<=x
theorem Next.of{w w':World}{bv bm bo i:Nat}{V:aS}(R:dS w bv bm bo V)(hi:i<V.nb){B':Bk}{dK:Nat->Ord}{G':Lg}{bM:Lm}{S:Nat->Prop}(Q:aS->Prop)
 (hm:Mk w' (V.bk i) B' dK (fun x=>∃id,V.aW id=some x)) (hl:bG w' bv bm bo G' bM) (hf:∀x,bM.F x->V.lm.F x\/w.heap.size<=x) (k:aj S w w')
 (hS:∀x,S x->x=bv\/V.lm.F x\/x=V.bk i\/(∃s,s<2/\dG (V.B i) s x)\/((∃id,V.aW id=some x)/\pz V i x))
 (jK:∀j,j<V.nb->j≠i->∀s,s<2->∀l,l<(V.B j).n s->dK ((V.B j).h s l)=V.om ((V.B j).h s l)) (hid:∀x,(dK x).id=(V.om x).id) (dR:B'.sym=(V.B i).sym)
 (hsd:∀s,s<2->∀x,dG B' s x->(∃t,t<2/\dG (V.B i) t x)\/((∃id,V.aW id=some x)/\pz V i x)\/w.heap.size<=x) (hQ:Q (V.lu i B' dK G' bM)):Next bv bm bo V Q w w':=by
 have gK:∀x,S x->∃c t,aA w x c t:=fun x hx=>by
  rcases hS x hx with rfl | h | h | h | ⟨h,_⟩
  ·exact⟨_,_,R.dC⟩
  ·obtain⟨c,t,hc,_⟩:=R.aP.aP.gK h;exact⟨c,t,hc⟩
  ·obtain⟨c,t,hc,_⟩:=(R.tu hi).gK (.inl h);exact⟨c,t,hc⟩
  ·obtain⟨c,t,hc,_⟩:=(R.tu hi).gK (.inr (.inr h));exact⟨c,t,hc⟩
  ·obtain⟨c,t,hc,_⟩:=(R.tu hi).gK (.inr (.inl h));exact⟨c,t,hc⟩
 obtain⟨fB,mB,qh,uM⟩:=R.iM;obtain⟨fO,mO,vK⟩:=R.fH;have nB:¬S bm:=fun h=>by obtain⟨c,t,hc⟩:=gK bm h;exact mB.ne hc rfl
 have nO:¬S bo:=fun h=>by obtain⟨c,t,hc⟩:=gK bo h;exact mO.ne hc rfl
 have JZ:∀j,j<V.nb->∀x,x<2->∀y,dG (V.B j) x y->y<w.heap.size:=fun j hj x hx y h=>by
  rcases h with h | ⟨l,hl,rfl⟩
  ·exact ((R.aY j hj).side x hx).lt h
  ·exact (((R.aY j hj).side x hx).bz hl).lt
 have yH:∀s,s<2->∀x,dG (V.B i) s x->pz V i x:=fun s hs x hx j hj hne t ht h=>R.nM i j hi hj (fun e=>hne e.symm) s t hs ht x hx h
 have sdT:∀j,j<V.nb->∀y,y<2->∀x c t,aA w x c t->t≠114->t≠116->¬dG (V.B j) y x:=fun j hj y hy x c t hb h1 h2 h=>by
  rcases h with h | ⟨l,hl,h⟩
  ·exact ((R.aY j hj).side y hy).ne hb h1 h
  ·rw[h]at hb;exact aA.ne hb (((R.aY j hj).side y hy).bz hl) h2 rfl
 have lY:∀j,j<V.nb->j≠i->cO w' (V.bk j) (V.B j) dK:=fun j hj hne=>by
  have h6:cO w' (V.bk j) (V.B j) V.om:=(R.aY j hj).aC k (by
   rintro x (rfl | ⟨y,hy,h⟩) hx
   ·rcases hS _ hx with h | h | h | ⟨s,hs,h⟩ | ⟨⟨id,h⟩,_⟩
    ·exact aA.ne (R.aY j hj).aF R.dC (by decide) h
    ·exact R.aP.aP.ne (R.aY j hj).aF (by decide) (by decide) (by decide) (by decide) (by decide) h
    ·exact R.sS j i hj hi hne h
    ·exact sdT i hi s hs _ _ _ (R.aY j hj).aF (by decide) (by decide) h
    ·obtain⟨_,ix,ho⟩:=R.bz id _ h;exact aA.ne (R.aY j hj).aF ho (by decide) rfl
   ·rcases hS _ hx with e | e | e | ⟨s,hs,e⟩ | ⟨_,e⟩
    ·rw[e]at h;exact sdT j hj y hy _ _ _ R.dC (by decide) (by decide) h
    ·obtain⟨c,t,hc,ht⟩:=R.aP.aP.gK e;exact sdT j hj y hy _ _ _ hc (by rcases ht with rfl | rfl | rfl | rfl | rfl | rfl <;> decide) (by rcases ht with rfl | rfl | rfl | rfl | rfl | rfl <;> decide) h
    ·rw[e]at h;exact sdT j hj y hy _ _ _ (R.aY i hi).aF (by decide) (by decide) h
    ·exact yH s hs x e j hj hne y hy h
    ·exact e j hj hne y hy h)
  exact⟨h6.aF,fun y hy=>(h6.side y hy).om (fun l hl=>jK j hj hne y hy l hl),h6.apart,h6.vZ⟩
 have hRep:dS w' bv bm bo (V.lu i B' dK G' bM):=by
  refine⟨hl,⟨fB,mB.aC k nB,?_,?_⟩,⟨fO,mO.aC k nO,vK⟩,R.Ia,?_,?_,?_,R.sS,?_,R.gV⟩
  ·intro j hj;by_cases e:j=i
   ·subst e;simp only[aS.lu,ai,dR];exact qh j hj
   ·simp only[aS.lu,ah _ _ e];exact qh j hj
  ·intro s' b' h;obtain⟨j,hj,e1,e2⟩:=uM s' b' h;refine⟨j,hj,e1,?_⟩;by_cases e:j=i
   ·subst e;simp only[aS.lu,ai,dR];exact e2
   ·simp only[aS.lu,ah _ _ e];exact e2
  ·intro j hj;by_cases e:j=i
   ·subst e;simp only[aS.lu,ai];exact hm.aY
   ·simp only[aS.lu,ah _ _ e];exact lY j hj e
  ·intro id x hx;simp only[aS.lu]at hx ⊢;rw[hid];exact⟨(R.bz id x hx).1,hm.bz x ⟨id,hx⟩⟩
  ·intro j hj x hx l hl;simp only[aS.lu]at hj hl ⊢;by_cases e:j=i
   ·subst e;simp only[ai]at hl ⊢;exact hm.mem x hx l hl
   ·simp only[ah _ _ e]at hl ⊢;exact R.mem j hj x hx l hl
  ·intro p q hp hq hne x y hx hy z h1 h2;have half:∀q,q<V.nb->q≠i->∀x y,x<2->y<2->∀z,dG B' x z->dG (V.B q) y z->False:=by
    intro q hq hne x y hx hy z h1 h2;rcases hsd x hx z h1 with⟨t,ht,h⟩ | ⟨_,h⟩ | h
    ·exact yH t ht z h q hq hne y hy h2
    ·exact h q hq hne y hy h2
    ·have:=JZ q hq y hy z h2;omega
   simp only[aS.lu]at h1 h2;by_cases e:p=i
   ·rw[e,ai]at h1;rw[ah _ _ (show q≠i by omega)]at h2;exact half q hq (by omega) x y hx hy z h1 h2
   ·rw[ah _ _ e]at h1;by_cases e2:q=i
    ·rw[e2,ai]at h2;exact half p hp e y x hy hx z h2 h1
    ·rw[ah _ _ e2]at h2;exact R.nM p q hp hq hne x y hx hy z h1 h2
 refine⟨_,hRep,hQ,k.mono (fun x hx=>?_),fun x hx=>?_⟩
 ·rcases hS x hx with h | h | h | ⟨s,hs,h⟩ | ⟨h,_⟩
  ·exact .inl h
  ·exact vU h
  ·exact jZ ⟨i,hi,.inl h⟩
  ·exact jZ ⟨i,hi,.inr ⟨s,hs,h⟩⟩
  ·exact qm h
 ·rcases hx with h | h | h | ⟨j,hj,h⟩ | h | h
  ·exact .inl (.inl h)
  ·exact .inl (.inr (.inl h))
  ·exact .inl (lN h)
  ·rcases h with h | ⟨s,hs,h⟩
   ·exact .inl (jZ ⟨j,hj,.inl h⟩)
   ·by_cases e:j=i
    ·subst e;simp only[aS.lu,ai]at h;rcases hsd s hs x h with⟨t,ht,h⟩ | ⟨h,_⟩ | h
     ·exact .inl (jZ ⟨j,hj,.inr ⟨t,ht,h⟩⟩)
     ·exact .inl (qm h)
     ·exact .inr h
    ·simp only[aS.lu,ah _ _ e]at h;exact .inl (jZ ⟨j,hj,.inr ⟨s,hs,h⟩⟩)
  ·exact .inl (qm h)
  ·rcases hf x h with h | h
   ·exact .inl (vU h)
   ·exact .inr h
theorem Next.bJ{w w' w'':World}{bv bm bo:Nat}{V:aS}{Q:aS->Prop}(h:Next bv bm bo V Q w w'){x:Nat}{c:Array Value}(hb:aA w' x c 87)(hx:w.heap.size<=x)(k:aj (fun y=>y=x) w' w''):Next bv bm bo V Q w w'':=by
 obtain⟨V2,R2,q2,k2,f2⟩:=h;have nf:¬dO bv bm bo V2 x:=R2.kU hb (by decide) (by decide) (by decide) (by decide) (by decide) (by decide) (by decide);obtain⟨gB,nB,g1,g2⟩:=R2.iM;obtain⟨gO,nO,g3⟩:=R2.fH;have nf':∀y,dO bv bm bo V2 y->¬y=x:=fun y h e=>nf (e▸h)
 refine⟨V2,⟨R2.aP.aC k (nf' _ (.inl rfl)) (fun y hy=>nf' y (vU hy)),⟨gB,nB.aC k (nf' _ (.inr (.inl rfl))),g1,g2⟩,⟨gO,nO.aC k (nf' _ (lN rfl)),g3⟩,R2.Ia,fun j hj=>(R2.aY j hj).aC k (fun y hy=>nf' y (by
  rcases hy with h | ⟨z,hz,h⟩
  ·exact jZ ⟨j,hj,.inl h⟩
  ·exact jZ ⟨j,hj,.inr ⟨z,hz,h⟩⟩)),fun id y h=>⟨(R2.bz id y h).1,(R2.bz id y h).2.elim fun ix ho=>⟨ix,k.aF ho (nf' y (qm ⟨id,h⟩))⟩⟩,R2.mem,R2.sS,R2.nM,R2.gV⟩,q2,k2.from (k.mono (fun y h=>.inr (by omega))),f2⟩
theorem VX(w:World):(zeroValue 103).run Tryz.prog w=.ok (.pointer none) w:=by kernel_rfl
theorem D6(g n cap:Nat)(w:World)(v:Value)(hn:n<2000000000)(hnc:n+1<=cap)(hv:w.cell? ⟨g,n,none⟩=some v)(hf:w.frozen? ⟨g,n,none⟩=false) :
 CT 212 #[.slice (some ⟨g,0,none⟩) (n+1) cap,II (n:Int),II ((n:Int)+1)] w fun e w'=>e=.returned (.slice (some ⟨g,0,none⟩) n cap)/\∃q,w'=(w.drewN q).setCell ⟨g,n,none⟩ (.pointer none):=by
 have e1:((n:Int) == (n:Int)+1)=false:=by simp;omega
 obtain⟨i0,hi0,hz0,hz1,hz2⟩:=xH;obtain⟨A,hA⟩:∃A:Addr,(if cap=n+1 then some (⟨g,0,none⟩:Addr) else some ⟨g,n+1,none⟩)=some A:=by split <;> exact⟨_,rfl⟩
 have s0:Hid (w.drew.setCells g (0+n * 1) []=w.drew):=rfl;have hcl:∀ty,(Builtin.clear_ #[96] ty #[.slice (some ⟨g,n,none⟩) 1 (cap-n)]).run Tryz.prog w.drew=.ok (.tuple #[]) (w.drew.setCells g n (List.replicate 1 (.pointer none))) :=
  fun ty=>Lib.run_clear_slice w.drew _ _ ty _ Tryz.underlying96 VX rfl rfl g n 1 _ (by omega) (fun j hj=>by obtain rfl:j=0:=(by omega);show (w.cell? _).isSome=true;rw[show n+0=n from rfl,hv];rfl) (fun j hj=>by obtain rfl:j=0:=(by omega);exact hf)
 have h1:n+1-n=1:=by omega
 have h2:n<=cap:=by omega
 have h3:n+1-(n+1)=0:=by omega
 have h4:n<=n+1:=by omega
 have h5:(0:Int)<=(n:Int)+1:=by omega
 go_enter Tryz.func212,Tryz.ntmps212;go_wp2;go_region_law (first | (refine step_append_room rfl (.tmp 22) (.tmp 25) 96 rfl 103 i0 1 Tryz.underlying96 hi0 hz1 g 0 n cap (by simp[Act.eval,Act.put]) A 0 (cap-(n+1)) [] (by simp[Act.eval,Act.put,hA]) rfl (by simp) (by simp) (by omega) (by simp) ?_;rw[ae s0]));go_wp2;go_ret;exact⟨rfl,1,rfl⟩
theorem VY(w:World):(zeroValue 109).run Tryz.prog w=.ok (.slice none 0 0) w:=by kernel_rfl
theorem IV(g n cap:Nat)(w:World)(v:Value)(hn:n<2000000000)(hnc:n+1<=cap)(hv:w.cell? ⟨g,n,none⟩=some v)(hf:w.frozen? ⟨g,n,none⟩=false) :
 CT 46 #[.slice (some ⟨g,0,none⟩) (n+1) cap,II (n:Int),II ((n:Int)+1)] w fun e w'=>e=.returned (.slice (some ⟨g,0,none⟩) n cap)/\∃q,w'=(w.drewN q).setCell ⟨g,n,none⟩ (.slice none 0 0):=by
 have e1:((n:Int) == (n:Int)+1)=false:=by simp;omega
 obtain⟨i0,hi0,hz0,hz1,hz2⟩:=Ub;obtain⟨A,hA⟩:∃A:Addr,(if cap=n+1 then some (⟨g,0,none⟩:Addr) else some ⟨g,n+1,none⟩)=some A:=by split <;> exact⟨_,rfl⟩
 have s0:Hid (w.drew.setCells g (0+n * 1) []=w.drew):=rfl;have hcl:∀ty,(Builtin.clear_ #[97] ty #[.slice (some ⟨g,n,none⟩) 1 (cap-n)]).run Tryz.prog w.drew=.ok (.tuple #[]) (w.drew.setCells g n (List.replicate 1 (.slice none 0 0))) :=
  fun ty=>Lib.run_clear_slice w.drew _ _ ty _ Tryz.underlying97 VY rfl rfl g n 1 _ (by omega) (fun j hj=>by obtain rfl:j=0:=(by omega);show (w.cell? _).isSome=true;rw[show n+0=n from rfl,hv];rfl) (fun j hj=>by obtain rfl:j=0:=(by omega);exact hf)
 have h1:n+1-n=1:=by omega
 have h2:n<=cap:=by omega
 have h3:n+1-(n+1)=0:=by omega
 have h4:n<=n+1:=by omega
 have h5:(0:Int)<=(n:Int)+1:=by omega
 go_enter Tryz.func46,Tryz.ntmps46;go_wp2;go_region_law (first | (refine step_append_room rfl (.tmp 22) (.tmp 25) 97 rfl 109 i0 1 Tryz.underlying97 hi0 hz1 g 0 n cap (by simp[Act.eval,Act.put]) A 0 (cap-(n+1)) [] (by simp[Act.eval,Act.put,hA]) rfl (by simp) (by simp) (by omega) (by simp) ?_;rw[ae s0]));go_wp2;go_ret;exact⟨rfl,1,rfl⟩
def held(tr:List Tg):List Tr:=(tr.filter (·.holds)).map (·.t)
theorem dH(a b:List Tg):held (a++b)=held a++held b:=by simp[held,List.filter_append]
theorem jW(x:Tg):held [x]=if x.holds then [x.t] else []:=by
 unfold held;cases h:x.holds <;> simp[h]
theorem BA{tr:List Tg}{t:Tr}(h:t∈held tr):∃x∈tr,x.t=t:=by
 simp only[held,List.mem_map,List.mem_filter]at h;obtain⟨x,⟨hx,_⟩,e⟩:=h;exact⟨x,hx,e⟩
theorem CU{tr:List Tg}{k:Nat}{x:Tg}(hx:tr[k]?=some x):tr=tr.take k++[x]++tr.drop (k+1):=by
 obtain⟨hk,e⟩:=List.getElem?_eq_some_iff.1 hx;rw[<-e,List.append_assoc,List.singleton_append,List.getElem_cons_drop,List.take_append_drop]
theorem qU{tr:List Tg}{k:Nat}{x:Tg}(hk:k<tr.length):tr.set k x=tr.take k++[x]++tr.drop (k+1):=by
 rw[List.set_eq_take_append_cons_drop,if_pos hk,List.append_assoc,List.singleton_append]
def wQ(f:Tr->Int):List Tr->Int
 | []=>0
 | t :: l=>f t+wQ f l
theorem jm(f:Tr->Int)(a b:List Tr):wQ f (a++b)=wQ f a+wQ f b:=by
 induction a with
 | nil=>simp[wQ]
 | cons t l ih=>simp only[List.cons_append,wQ,ih];omega
theorem QQ{f:Tr->Int}{l:List Tr}(h:∀t∈l,f t=0):wQ f l=0:=by
 induction l with
 | nil=>rfl
 | cons t l ih=>simp only[wQ];rw[h t (by simp),ih (fun x hx=>h x (by simp[hx]))];omega
theorem KT{f:Tr->Int}{l:List Tr}(h:∀t∈l,0<=f t):0<=wQ f l:=by
 induction l with
 | nil=>exact Int.le_refl _
 | cons t l ih =>
   simp only[wQ];have:=h t (by simp);have:=ih (fun x hx=>h x (by simp[hx]));omega
def tq(side id:Int)(t:Tr):Int:=if side=0 then (if t.qC=id then t.aK else 0) else (if t.iK=id then t.aK else 0)
theorem QX{side id:Int}{t:Tr}(h:0<=t.aK):0<=tq side id t:=by unfold tq;repeat (first | split | omega)
structure TW(om:Nat->Ord)(aW:Int->Option Nat)(t:Tr):Prop where
 qC:∃b,aW t.qC=some b/\(om b).sym=t.sym/\(om b).side=0
 iK:∃b,aW t.iK=some b/\(om b).sym=t.sym/\(om b).side=1
 aK:1<=t.aK
structure FL(om:Nat->Ord)(aW:Int->Option Nat)(hl:List Tr)(ex:Int->Int):Prop where
 tw:∀t∈hl,TW om aW t
 rJ:∀id b,aW id=some b->(om b).id=id
 eq:∀id b,aW id=some b->(om b).filled=wQ (tq (om b).side id) hl+ex id
theorem TW.lQ{om dK:Nat->Ord}{aW:Int->Option Nat}{t:Tr}(h:TW om aW t)(he:∀x,(dK x).sym=(om x).sym/\(dK x).side=(om x).side):TW dK aW t:=by
 obtain⟨⟨b,h1,h2,h3⟩,⟨c,g1,g2,g3⟩,hq⟩:=h;exact⟨⟨b,h1,by rw[(he b).1];exact h2,by rw[(he b).2];exact h3⟩,⟨c,g1,by rw[(he c).1];exact g2,by rw[(he c).2];exact g3⟩,hq⟩
theorem FL.lQ{om dK:Nat->Ord}{aW:Int->Option Nat}{hl:List Tr}{ex:Int->Int}(h:FL om aW hl ex)(he:∀x,(dK x).sym=(om x).sym/\(dK x).side=(om x).side/\(dK x).id=(om x).id/\(dK x).filled=(om x).filled):FL dK aW hl ex :=
 ⟨fun t ht=>(h.tw t ht).lQ (fun x=>⟨(he x).1,(he x).2.1⟩),fun id b hb=>(he b).2.2.1.trans (h.rJ id b hb),fun id b hb=>by rw[(he b).2.2.2,(he b).2.1];exact h.eq id b hb⟩
theorem Tf{oc s:Nat}{M:Int}{st:MS}{aW:Int->Option Nat}(hM:M<=1000000000000000)(iv:sV oc s st)(hn:0<st.B.n s)(hp:0<(st.om oc).aO)(hq:∀x,(x=oc\/mD st s x)->Qo M (st.om x))
 (hs:s<2) (hoc:aW (st.om oc).id=some oc) (how:∀x,mD st s x->aW (st.om x).id=some x/\(st.om x).sym=st.B.sym) (dR:(st.om oc).sym=st.B.sym)
 (h:FL st.om aW (held st.lg.tr) (fun _=>0)):FL (bF oc s st).om aW (held (bF oc s st).lg.tr) (fun _=>0):=by
 obtain⟨B,om,lg⟩:=st;simp only at hn hp hoc how dR h hq;have hr:=iv.mem 0 hn;simp only at hr;obtain⟨hs0,hpos,hmax,hne⟩:=hr;have hrm:mD ⟨B,om,lg⟩ s (B.h s 0):=⟨0,hn,rfl⟩;have qr:Qo M (om (B.h s 0)):=hq _ (.inr hrm);have qc:Qo M (om oc):=hq _ (.inl rfl);have hsc:(om oc).side=1-(s:Int):=iv.side;obtain⟨ho1,ho2⟩:=how _ hrm;unfold bF;simp only;generalize B.h s 0=ow at *;by_cases ho:(om ow).aG=(om oc).aG
 ·rw[if_pos ho];refine h.lQ (fun x=>?_);by_cases e:x=ow
  ·simp only[e,ai];exact⟨rfl,rfl,rfl,rfl⟩
  ·simp only[ah _ _ e];exact⟨trivial,trivial,trivial,trivial⟩
 ·rw[if_neg ho];simp only;have q1:0<=min (om oc).aO (om ow).aO:=by omega
  obtain⟨_,_,c3⟩:=qc.fill (q:=min (om oc).aO (om ow).aO) q1 (by omega) hM;obtain⟨_,_,w3⟩:=qr.fill (q:=min (om oc).aO (om ow).aO) q1 (by omega) hM;have eoc:aV om oc ow oc=ja (om oc) (min (om oc).aO (om ow).aO):=by simp only[aV];rw[ah _ _ (fun e=>hne e.symm),ai]
  have eow:aV om oc ow ow=ja (om ow) (min (om oc).aO (om ow).aO):=by simp only[aV,ai]
  have eot:∀x,x≠oc->x≠ow->aV om oc ow x=om x:=fun x h1 h2=>by simp only[aV];rw[ah _ _ h2,ah _ _ h1]
  have dN:∀x,(aV om oc ow x).sym=(om x).sym/\(aV om oc ow x).side=(om x).side/\(aV om oc ow x).id=(om x).id:=fun x=>by
   by_cases e1:x=oc
   ·rw[e1,eoc];exact⟨rfl,rfl,rfl⟩
   ·by_cases e2:x=ow
    ·rw[e2,eow];exact⟨rfl,rfl,rfl⟩
    ·rw[eot x e1 e2];exact⟨rfl,rfl,rfl⟩
  have htr:held ((dn lg om oc ow).jT (iY B om oc ow)).tr=held lg.tr++[(dn lg om oc ow).iP (iY B om oc ow)]:=by
   show held ((dn lg om oc ow).tr++[⟨(dn lg om oc ow).iP (iY B om oc ow),true⟩])=_;rw[dH,jW,gW]
   rfl
  rw[htr];have hT:∀side id,tq side id ((dn lg om oc ow).iP (iY B om oc ow))=if side=0 then (if (if (om oc).side=1 then (om ow).id else (om oc).id)=id then min (om oc).aO (om ow).aO else 0) else (if (if (om oc).side=1 then (om oc).id else (om ow).id)=id then min (om oc).aO (om ow).aO else 0):=fun side id=>rfl
  have s01:s=0\/s=1:=by omega
  refine⟨fun t ht=>?_,fun id b hb=>(dN b).2.2.trans (h.rJ id b hb),fun id b hb=>?_⟩
  ·rcases List.mem_append.1 ht with ht | ht
   ·exact (h.tw t ht).lQ (fun x=>⟨(dN x).1,(dN x).2.1⟩)
   ·simp only[List.mem_singleton]at ht;subst ht;have hqq:1<=min (om oc).aO (om ow).aO:=by omega
    rcases s01 with e | e
    ·subst e;have hs1:(om oc).side=1:=by simpa using hsc
     refine⟨⟨ow,?_,(dN ow).1.trans ho2,(dN ow).2.1.trans (by simpa using hs0)⟩,⟨oc,?_,(dN oc).1.trans dR,(dN oc).2.1.trans hs1⟩,hqq⟩
     ·show aW (if (om oc).side=1 then (om ow).id else (om oc).id)=_;rw[if_pos hs1];exact ho1
     ·show aW (if (om oc).side=1 then (om oc).id else (om ow).id)=_;rw[if_pos hs1];exact hoc
    ·subst e;have hs1:(om oc).side=0:=by simpa using hsc
     refine⟨⟨oc,?_,(dN oc).1.trans dR,(dN oc).2.1.trans hs1⟩,⟨ow,?_,(dN ow).1.trans ho2,(dN ow).2.1.trans (by simpa using hs0)⟩,hqq⟩
     ·show aW (if (om oc).side=1 then (om ow).id else (om oc).id)=_;rw[if_neg (by omega)];exact hoc
     ·show aW (if (om oc).side=1 then (om oc).id else (om ow).id)=_;rw[if_neg (by omega)];exact ho1
  ·rw[jm,(dN b).2.1];have h0:=h.eq id b hb;have hid:=h.rJ id b hb;simp only[wQ,hT,Int.add_zero]at h0 ⊢;by_cases e1:b=oc
   ·subst e1;rw[eoc,c3,h0];rcases s01 with e | e
    ·subst e;have hs1:(om b).side=1:=by simpa using hsc
     simp[hs1,hid]
    ·subst e;have hs1:(om b).side=0:=by simpa using hsc
     simp[hs1,hid]
   ·by_cases e2:b=ow
    ·subst e2;rw[eow,w3,h0];rcases s01 with e | e
     ·subst e;have hs1:(om oc).side=1:=by simpa using hsc
      have hsw:(om b).side=0:=by simpa using hs0
      simp[hs1,hsw,hid]
     ·subst e;have hs1:(om oc).side=0:=by simpa using hsc
      have hsw:(om b).side=1:=by simpa using hs0
      simp[hs1,hsw,hid]
    ·rw[eot b e1 e2,h0];have n1:(om oc).id≠id:=fun e=>e1 (by rw[e,hb]at hoc;exact Option.some.inj hoc)
     have n2:(om ow).id≠id:=fun e=>e2 (by rw[e,hb]at ho1;exact Option.some.inj ho1)
     have z1:(if (om oc).side=1 then (om ow).id else (om oc).id)≠id:=by split <;> assumption
     have z2:(if (om oc).side=1 then (om oc).id else (om ow).id)≠id:=by split <;> assumption
     rw[if_neg z1,if_neg z2];split <;> omega
theorem EC{oc s:Nat}{M:Int}{aW:Int->Option Nat}(hM:M<=1000000000000000)(hs:s<2):∀(f:Nat) (st:MS),sV oc s st->eG (fP st.om) (st.B.n s) (st.B.h s)->(∀x,(x=oc\/mD st s x)->Qo M (st.om x)) ->
 aW (st.om oc).id=some oc->(∀x,mD st s x->aW (st.om x).id=some x/\(st.om x).sym=st.B.sym)->(st.om oc).sym=st.B.sym ->
 FL st.om aW (held st.lg.tr) (fun _=>0)->FL (aZ oc s f st).om aW (held (aZ oc s f st).lg.tr) (fun _=>0):=by
 intro f
 induction f with
 | zero=>intro st _ _ _ _ _ _ h;exact h
 | succ f ih =>
   intro st iv hh hq hoc how dR h;rw[aZ];split
   ·exact h
   ·rename_i hst;obtain⟨hn,hp⟩:=ny hst;have r1:=yR hM iv hn hp hh hq;have hb:(bF oc s st).B.sym=st.B.sym:=by
     unfold bF;split
     ·rfl
     ·show (dU st.B st.om oc (st.B.h s 0) s).sym=_;unfold dU;split <;> rfl
    refine ih _ r1.inv r1.heap (fun x hx=>r1.q x (hx.imp_right (r1.mem x))) ?_ (fun x hx=>?_) ?_ (Tf hM iv hn hp hq hs hoc how dR h)
    ·rw[(r1.dN oc).1];exact hoc
    ·obtain⟨a,b⟩:=how x (r1.mem x hx);exact⟨by rw[(r1.dN x).1];exact a,by rw[(r1.dN x).2.2.1,hb];exact b⟩
    ·rw[(r1.dN oc).2.2.1,hb];exact dR
theorem Oz{oc:Nat}{st:MS}{aW:Int->Option Nat}{hl:List Tr}{ex:Int->Int}(h:FL st.om aW hl ex):FL (aH oc st) aW hl ex:=by
 refine h.lQ (fun x=>?_);by_cases e:x=oc
 ·subst e;unfold aH;split
  ·simp only[ai];exact⟨trivial,trivial,trivial,trivial⟩
  ·simp only[ai,gz];exact⟨trivial,trivial,trivial,trivial⟩
 ·rw[rD oc st e];exact⟨rfl,rfl,rfl,rfl⟩
theorem YE{om:Nat->Ord}{b:Nat}{o':Ord}{n:Nat}{h:Nat->Nat}(hp:eG (fP om) n h)(hb:∀k,k<n->h k≠b):eG (fP (aQ om b o')) n h :=
 hp.lQ (fun j k hj hk=>uj (by rw[ah _ _ (hb j hj)];exact⟨rfl,rfl,rfl⟩) (by rw[ah _ _ (hb k hk)];exact⟨rfl,rfl⟩))
theorem FL.enter{om:Nat->Ord}{aW:Int->Option Nat}{hl:List Tr}(h:FL om aW hl (fun _=>0)){b:Nat}{o:iT}(hfree:aW o.id=none)(hb:∀id,aW id≠some b) :
 FL (aQ om b (aN o)) (fun id=>if id=o.id then some b else aW id) hl (fun _=>0):=by
 have nK:∀id x,aW id=some x->aQ om b (aN o) x=om x:=fun id x hx=>ah _ _ (fun e=>hb id (e▸hx))
 have nid:∀id x,aW id=some x->id≠o.id:=fun id x hx e=>by rw[e,hfree]at hx;simp at hx
 have tw:∀t∈hl,TW (aQ om b (aN o)) (fun id=>if id=o.id then some b else aW id) t:=fun t ht=>by
  obtain⟨⟨x,h1,h2,h3⟩,⟨y,g1,g2,g3⟩,hq⟩:=h.tw t ht;exact⟨⟨x,by rw[if_neg (nid _ x h1)];exact h1,by rw[nK _ x h1];exact h2,by rw[nK _ x h1];exact h3⟩,⟨y,by rw[if_neg (nid _ y g1)];exact g1,by rw[nK _ y g1];exact g2,by rw[nK _ y g1];exact g3⟩,hq⟩
 refine⟨tw,fun id x hx=>?_,fun id x hx=>?_⟩
 ·by_cases e:id=o.id
  ·rw[if_pos e]at hx;obtain rfl:=Option.some.inj hx;rw[ai,e];rfl
  ·rw[if_neg e]at hx;rw[nK id x hx];exact h.rJ id x hx
 ·by_cases e:id=o.id
  ·rw[if_pos e]at hx;obtain rfl:=Option.some.inj hx;rw[ai];rw[QQ (fun t ht=>?_)]
   ·rfl
   ·obtain⟨⟨x,h1,_⟩,⟨y,g1,_⟩,_⟩:=h.tw t ht;unfold tq;rw[e,if_neg (nid _ x h1),if_neg (nid _ y g1)];split <;> rfl
  ·rw[if_neg e]at hx;rw[nK id x hx];exact h.eq id x hx
def PI(lg:Lg):Prop:=∀x∈lg.tr,x.t.sym.size<=100000
def pY(R:List Rc):Prop:=∀(i:Nat) (r:Rc),R[i]?=some r->r.num=(i:Int)+1/\r.t.sym.size<=100000
theorem pY.nil:pY []:=fun i r h=>by simp at h
theorem pY.jD{R:List Rc}(h:pY R){r:Rc}(h1:r.num=(R.length:Int)+1)(h2:r.t.sym.size<=100000):pY (R++[r]):=fun i x hx=>by
 by_cases hi:i<R.length
 ·rw[List.getElem?_append_left hi]at hx;exact h i x hx
 ·rw[List.getElem?_append_right (by omega)]at hx;have e:i-R.length=0:=by
   cases e:i-R.length with
   | zero=>rfl
   | succ m=>rw[e]at hx;simp at hx
  rw[e]at hx;simp only[List.getElem?_cons_zero,Option.some.injEq]at hx;subst hx;have:i=R.length:=by omega
  rw[this];exact⟨h1,h2⟩
theorem UF{oc s:Nat}{st:MS}(hb:st.B.sym.size<=100000)(h1:PI st.lg)(h2:pY st.lg.tp):(bF oc s st).B.sym.size<=100000/\PI (bF oc s st).lg/\pY (bF oc s st).lg.tp:=by
 unfold bF;split
 ·exact⟨hb,h1,h2⟩
 ·refine⟨?_,fun x hx=>?_,?_⟩
  ·simp only[dU];split <;> exact hb
  ·simp only[Lg.jT,Lg.told,Lg.aC,Lg.aX,gW,List.mem_append,List.mem_singleton]at hx;rcases hx with hx | hx
   ·exact h1 x hx
   ·subst hx;exact hb
  ·simp only[Lg.jT,Lg.told,Lg.aC,Lg.aX,oH];exact h2.jD rfl hb
theorem EN{oc s:Nat}:∀(f:Nat) (st:MS),st.B.sym.size<=100000->PI st.lg->pY st.lg.tp->PI (aZ oc s f st).lg/\pY (aZ oc s f st).lg.tp:=by
 intro f
 induction f with
 | zero=>intro st _ h1 h2;exact⟨h1,h2⟩
 | succ f ih =>
   intro st hb h1 h2;rw[aZ];split
   ·exact⟨h1,h2⟩
   ·obtain⟨a,b,c⟩:=UF (oc:=oc) (s:=s) hb h1 h2;exact ih _ a b c
def Iq(lg:Lg):Prop:=∀(k:Nat) (x:Tg),lg.tr[k]?=some x->x.t.num=(k:Int)+1
theorem Iq.set{G G':Lg}(h:Iq G){k:Nat}{x y:Tg}(hx:G.tr[k]?=some x)(hn:y.t.num=x.t.num)(e:G'.tr=G.tr.set k y):Iq G':=fun j z hz=>by
 rw[e]at hz;have hk:=(List.getElem?_eq_some_iff.1 hx).1;by_cases c:k=j
 ·subst c;rw[List.getElem?_set_self hk]at hz;rw[<-Option.some.inj hz,hn];exact h k x hx
 ·rw[List.getElem?_set_ne c]at hz;exact h j z hz
theorem UD{oc s:Nat}{st:MS}(h:Iq st.lg):Iq (bF oc s st).lg:=by
 unfold bF;split
 ·exact h
 ·intro j x hx;simp only[Lg.jT,Lg.told,Lg.aC,Lg.aX,gW]at hx;by_cases hj:j<st.lg.tr.length
  ·rw[List.getElem?_append_left hj]at hx;exact h j x hx
  ·rw[List.getElem?_append_right (by omega)]at hx;have e:j-st.lg.tr.length=0:=by
    cases e:j-st.lg.tr.length with
    | zero=>rfl
    | succ m=>rw[e]at hx;simp at hx
   rw[e]at hx;simp only[List.getElem?_cons_zero,Option.some.injEq]at hx;rw[<-hx];show ((dn st.lg st.om oc (st.B.h s 0)).tr.length:Int)+1=_;rw[gW];omega
theorem yP{oc s:Nat}:∀(f:Nat) (st:MS),Iq st.lg->Iq (aZ oc s f st).lg
 | 0,st,h=>h
 | f+1,st,h=>by
   rw[aZ];split
   ·exact h
   ·exact yP f _ (UD h)
theorem yO{oc s:Nat}:∀(f:Nat) (st:MS),(aZ oc s f st).lg.day=st.lg.day
 | 0,st=>rfl
 | f+1,st=>by
   rw[aZ];split
   ·rfl
   ·rw[yO f _];unfold bF;split
    ·rfl
    ·show (dn st.lg st.om oc (st.B.h s 0)).day=_;rw[rX]
structure vG(V:aS):Prop where
 sz:∀i,i<V.nb->(V.B i).sym.size<=100
 fl:FL V.om V.aW (held V.lg.tr) (fun _=>0)
 sy:PI V.lg
 tp:pY V.lg.tp
 nm:Iq V.lg
 dy:-9223372036854775808<=V.lg.day/\V.lg.day<9223372036854775808
theorem vG.enter{V:aS}{M:Int}(h:vG V)(g:GW V M)(hM:M<=1000000000000000){i b s t g' cap':Nat}{o:iT}{bM:Lm}(hi:i<V.nb)(hs:s<2)(dR:o.sym=(V.B i).sym)(hq1:0<=o.aK)(hq2:o.aK<=M)(hfree:V.aW o.id=none)(hb:¬VL V b)(iv:sV b s ⟨V.B i,aQ V.om b (aN o),V.lg.bf o.id⟩)(hBs:∀j,((V.enter i b s t g' cap' o bM).B j).sym=(V.B j).sym) :
 vG (V.enter i b s t g' cap' o bM):=by
 have hbo:∀id,V.aW id≠some b:=fun id e=>hb ⟨id,e⟩
 have f1:=h.fl.enter (o:=o) hfree hbo;have JA:∀x,Mem ((V.B i).n s) ((V.B i).h s) x->VL V x/\(V.om x).sym=(V.B i).sym:=fun x hx=>⟨(((g.gb i hi).mem s hs x).1 hx).1,(((g.gb i hi).mem s hs x).1 hx).2.1⟩
 have neb:∀x,Mem ((V.B i).n s) ((V.B i).h s) x->x≠b:=fun x hx e=>hb (e▸(JA x hx).1)
 have f2:=EC (M:=M) (aW:=fun id=>if id=o.id then some b else V.aW id) hM hs (mu b s ⟨V.B i,aQ V.om b (aN o),V.lg.bf o.id⟩) ⟨V.B i,aQ V.om b (aN o),V.lg.bf o.id⟩ iv
  (YE ((g.gb i hi).heap s hs) (fun k hk=>neb _ ⟨k,hk,rfl⟩)) (fun x hx=>by
   rcases hx with rfl | hx
   ·simp only[ai];exact BX hq1 hq2
   ·simp only;rw[ah _ _ (neb x hx)];exact g.q x (JA x hx).1) (by simp only[ai];exact if_pos rfl) (fun x hx=>by
   obtain⟨⟨id,hid⟩,hsy⟩:=JA x hx;have e1:=h.fl.rJ id x hid;simp only;rw[ah _ _ (neb x hx),e1,if_neg (fun e=>by rw[e,hfree]at hid;simp at hid)];exact⟨hid,hsy⟩) (by simp only[ai];exact dR) f1
 obtain⟨y1,y2⟩:=EN (oc:=b) (s:=s) (mu b s ⟨V.B i,aQ V.om b (aN o),V.lg.bf o.id⟩) ⟨V.B i,aQ V.om b (aN o),V.lg.bf o.id⟩ (by show (V.B i).sym.size<=_;have:=h.sz i hi;omega) h.sy h.tp;exact⟨fun j hj=>by rw[hBs j];exact h.sz j hj,Oz f2,y1,y2,yP _ _ h.nm,by show _<=(mF _ _ _).lg.day/\(mF _ _ _).lg.day<_;unfold mF;rw[yO];exact h.dy⟩
theorem vG.rC{V:aS}{M M':Int}(h:vG V)(g:GW V M)(hMM:M<=M')(hM:M'<=1000000000000000){i b s t k g' cap':Nat}{o':Ord}{bM:Lm}(hi:i<V.nb)(hs:s<2)(ht:t=1-s)(hk:k<(V.B i).n t)(hb:(V.B i).h t k=b)(h1:o'.sym=(V.om b).sym)(h2:o'.side=(V.om b).side)(h3:o'.id=(V.om b).id)(h4:o'.filled=(V.om b).filled)(hq:Qo M' o')(iv:sV b s ⟨(V.B i).leave V.om t k,aQ V.om b o',V.lg.dI b (V.om b)⟩)(hBs:∀j,((V.rC i b s t k g' cap' o' bM).B j).sym=(V.B j).sym) :
 vG (V.rC i b s t k g' cap' o' bM):=by
 have t2:t<2:=by omega
 have hmb:=((g.gb i hi).mem t t2 _).1 ⟨k,hk,rfl⟩;rw[hb]at hmb;have eN:((V.B i).leave V.om t k).n s=(V.B i).n s:=by simp only[Bk.leave];rw[ah _ _ (by omega)]
 have eH:((V.B i).leave V.om t k).h s=(V.B i).h s:=by simp only[Bk.leave];rw[ah _ _ (by omega)]
 have f1:FL (aQ V.om b o') V.aW (held V.lg.tr) (fun _=>0):=h.fl.lQ (fun x=>by
  by_cases e:x=b
  ·rw[e,ai];exact⟨h1,h2,h3,h4⟩
  ·rw[ah _ _ e];exact⟨rfl,rfl,rfl,rfl⟩)
 have JA:∀x,Mem ((V.B i).n s) ((V.B i).h s) x->VL V x/\(V.om x).sym=(V.B i).sym/\x≠b:=fun x hx=>by
  have m:=((g.gb i hi).mem s hs x).1 hx;exact⟨m.1,m.2.1,fun e=>by have a:=m.2.2.1;rw[e,hmb.2.2.1]at a;omega⟩
 obtain⟨⟨idb,abu⟩,hsb,_⟩:=hmb;have f2:=EC (M:=M') (aW:=V.aW) hM hs (mu b s ⟨(V.B i).leave V.om t k,aQ V.om b o',V.lg.dI b (V.om b)⟩) ⟨(V.B i).leave V.om t k,aQ V.om b o',V.lg.dI b (V.om b)⟩ iv
  (by simp only[eN,eH];exact YE ((g.gb i hi).heap s hs) (fun k hk=>(JA _ ⟨k,hk,rfl⟩).2.2)) (fun x hx=>by
   rcases hx with rfl | hx
   ·simp only[ai];exact hq
   ·simp only[mD,eN,eH]at hx;simp only;rw[ah _ _ (JA x hx).2.2];exact (g.q x (JA x hx).1).mono hMM) (by simp only[ai];rw[h3,h.fl.rJ idb b abu];exact abu) (fun x hx=>by
   simp only[mD,eN,eH]at hx;obtain⟨⟨id,hid⟩,hsy,hne⟩:=JA x hx;have e1:=h.fl.rJ id x hid;simp only;rw[ah _ _ hne,e1];exact⟨hid,hsy⟩) (by simp only[ai];rw[h1,hsb];rfl) f1
 obtain⟨y1,y2⟩:=EN (oc:=b) (s:=s) (mu b s ⟨(V.B i).leave V.om t k,aQ V.om b o',V.lg.dI b (V.om b)⟩) ⟨(V.B i).leave V.om t k,aQ V.om b o',V.lg.dI b (V.om b)⟩ (by show (V.B i).sym.size<=_;have:=h.sz i hi;omega) h.sy h.tp;exact⟨fun j hj=>by rw[hBs j];exact h.sz j hj,Oz f2,y1,y2,yP _ _ h.nm,by show _<=(mF _ _ _).lg.day/\(mF _ _ _).lg.day<_;unfold mF;rw[yO];exact h.dy⟩
theorem vG.of{V:aS}(h:vG V){V':aS}(hnb:V'.nb=V.nb)(hB:∀j,(V'.B j).sym=(V.B j).sym)(ho:V'.aW=V.aW)(hm:∀x,(V'.om x).sym=(V.om x).sym/\(V'.om x).side=(V.om x).side/\(V'.om x).id=(V.om x).id/\(V'.om x).filled=(V.om x).filled)(h1:V'.lg.tr=V.lg.tr)(h2:V'.lg.tp=V.lg.tp)(h3:V'.lg.day=V.lg.day):vG V':=by
 refine⟨fun i hi=>by rw[hB i];exact h.sz i (by omega),by rw[ho,h1];exact h.fl.lQ hm,fun x hx=>h.sy x (by rw[h1]at hx;exact hx),by rw[h2];exact h.tp,fun k x hx=>h.nm k x (by rw[<-h1];exact hx),by rw[h3];exact h.dy⟩
theorem FL.nH{om dK:Nat->Ord}{aW:Int->Option Nat}{hl:List Tr}{ex Ez:Int->Int}(h:FL om aW hl ex){id q:Int}{b:Nat}(hid:aW id=some b)(lY:∀x,x≠b->dK x=om x)
 (h1:(dK b).sym=(om b).sym) (h2:(dK b).side=(om b).side) (h3:(dK b).id=(om b).id) (h4:(dK b).filled=(om b).filled-q) (e1:Ez id=ex id-q) (e2:∀j,j≠id->Ez j=ex j):FL dK aW hl Ez:=by
 have st:∀x,(dK x).sym=(om x).sym/\(dK x).side=(om x).side/\(dK x).id=(om x).id:=fun x=>by
  by_cases e:x=b
  ·rw[e];exact⟨h1,h2,h3⟩
  ·rw[lY x e];exact⟨rfl,rfl,rfl⟩
 refine⟨fun t ht=>(h.tw t ht).lQ (fun x=>⟨(st x).1,(st x).2.1⟩),fun j x hx=>(st x).2.2.trans (h.rJ j x hx),fun j x hx=>?_⟩;rw[(st x).2.1];have h0:=h.eq j x hx;by_cases e:j=id
 ·subst e;rw[hid]at hx;obtain rfl:=Option.some.inj hx;rw[h4,e1,h0];omega
 ·have hne:x≠b:=fun e2=>e (by rw[<-h.rJ j x hx,e2];exact h.rJ id b hid)
  rw[lY x hne,e2 j e,h0]
def Xe(t:Tr)(j:Int):Int:=(if j=t.qC then t.aK else 0)+(if j=t.iK then t.aK else 0)
theorem FL.mP{om:Nat->Ord}{aW:Int->Option Nat}{tr:List Tg}{k:Nat}{x:Tg}(h:FL om aW (held tr) (fun _=>0))(hx:tr[k]?=some x)(hh:x.holds=true):FL om aW (held (tr.set k ⟨x.t,false⟩)) (Xe x.t)/\TW om aW x.t:=by
 have hl:=(List.getElem?_eq_some_iff.1 hx).1;have e:held tr=held (tr.take k)++(if x.holds then [x.t] else [])++held (tr.drop (k+1)):=by
  have e:=congrArg held (CU hx);rw[dH,dH,jW]at e;exact e
 rw[hh,if_pos rfl]at e;have e2:held (tr.set k ⟨x.t,false⟩)=held (tr.take k)++held (tr.drop (k+1)):=by
  rw[qU hl,dH,dH,jW];simp
 have hT:TW om aW x.t:=h.tw x.t (by rw[e];simp);rw[e2];rw[e]at h;refine⟨⟨fun t ht=>h.tw t (by
  rcases List.mem_append.1 ht with a | a
  ·simp[a]
  ·simp[a]),h.rJ,fun id b hb=>?_⟩,hT⟩
 have h0:=h.eq id b hb;rw[jm,jm]at h0;rw[jm,h0];simp only[wQ];obtain⟨⟨bx,b1,b2,b3⟩,⟨sx,s1,s2,s3⟩,_⟩:=hT;have key:tq (om b).side id x.t=Xe x.t id:=by
  unfold tq Xe;by_cases c1:id=x.t.qC
  ·have hb':b=bx:=by rw[c1,b1]at hb;exact (Option.some.inj hb).symm
   have n2:¬id=x.t.iK:=fun c2=>by
    rw[c2,s1]at hb;have:sx=bx:=(Option.some.inj hb).trans hb';rw[this,b3]at s3;omega
   rw[hb',b3,if_pos rfl,if_pos c1.symm,if_pos c1,if_neg n2];omega
  ·by_cases c2:id=x.t.iK
   ·have hs':b=sx:=by rw[c2,s1]at hb;exact (Option.some.inj hb).symm
    rw[hs',s3,if_neg (by decide),if_pos c2.symm,if_neg c1,if_pos c2];omega
   ·have n1:¬x.t.qC=id:=fun e=>c1 e.symm
    have n2:¬x.t.iK=id:=fun e=>c2 e.symm
    simp only[if_neg n1,if_neg n2,if_neg c1,if_neg c2];split <;> rfl
 omega
theorem Be(b:Nat)(o:Ord)(ix:Int)(w:World)(ho:df w b o ix) :
 CT 78 #[PP b] w fun e w'=>e=.returned (.func (.func 151) #[] #[PP (w.heap.size+1),PP w.heap.size])/\yG w' w.heap.size b o/\df w' b { o with aO:=0,exp:=wrap64 (o.exp+o.aO) } ix/\aj (fun x=>x=b) w w':=by
 have HA:=au (oC b o ix w ho);have lo:=ho.lt;go_enter Tryz.func78,Tryz.ntmps78;go_wp2_with fail;refine (ae HA).mono ?_;rintro e w1 ⟨rfl,n1,k1⟩;have ho1:=k1.aF ho aU;have h8:CC w1 b 8 (II o.aO):=aA.cell ho1 8;have h10:CC w1 b 11 (II o.exp):=aA.cell ho1 11;have f8:=aA.frozen ho1 8;have f10:=aA.frozen ho1 11;go_wp2;go_region;go_wp2;go_ret;have k2:=(((aj.refl (fun x=>x=b) w1).setCell (p:=⟨b,11,none⟩) (.inl rfl) (II (wrap64 (o.exp+o.aO)))).setCell (p:=⟨b,8,none⟩) (.inl rfl) (II 0)).drew;refine⟨rfl,n1.aC k2 (by omega) (by omega),?_,k1.bI.trans k2⟩;have:=(ho1.set 11 (II (wrap64 (o.exp+o.aO)))).set 8 (II 0);exact this
theorem D8(bb b:Nat)(B:Bk)(om:Nat->Ord)(L:Nat->Prop)(w:World)(m:Mk w bb B om L)(hb:L b) :
 CT 78 #[PP b] w fun e w'=>∃fn cp,e=.returned (.func fn #[] cp)/\jS w' b (om b) w.heap.size fn cp/\Mk w' bb B (aQ om b (gQ (om b))) L/\aj (fun x=>x=b) w w':=by
 obtain⟨ix,ho⟩:=m.bz b hb;refine (Be b (om b) ix w ho).mono ?_;rintro e w' ⟨rfl,h0,h1,h2⟩;exact⟨_,_,rfl,⟨rfl,_,Nat.le_refl _,rfl,h0⟩,m.aQ ho h2 h1,h2⟩
theorem Qo.ZH{M:Int}{o:Ord}(h:Qo M o)(hM:M<=1000000000000000):Qo M (gQ o)/\(gQ o).aO=0:=by
 obtain⟨a,b,c,d,e,f⟩:=h;have e1:(gQ o).exp=o.exp+o.aO:=by simp only[gQ];exact aT (by omega) (by omega)
 refine⟨⟨?_,Int.le_refl _,c,d,by rw[e1];omega,f⟩,rfl⟩;show o.entered=0+o.filled+o.bZ+(gQ o).exp;rw[e1];omega
theorem Af{w:World}{ops:Array Oper}{rest:List Oper}{o:Oper}{a:Act}{Q:Exit->Act->World->Prop}(hg:o.guard=none)(it:Operand)(hop:o.op=Op.next it false)(b r n:Nat)(D:DataW Unit)(left:Lit->Bool)(cnt:Nat)(f:Lit->Option Nat)
 (hit:a.eval it=PP r) (h:w.ranges Tryz.prog 3 jA b r n D left cnt) (hf:∀kl,D.atKey kl .nil=JK (f kl)) (hl:∀kl,left kl=true->(f kl).isSome=true)
 (hDone:cnt=0->wpList Tryz.prog ops Q rest (a.put o.dst (.tuple #[.bool false])) w)
 (hMore:∀(id:Int) (x:Nat) (w':World) (cnt':Nat),left (.int .i64 id)=true->f (.int .i64 id)=some x->w'.ranges Tryz.prog 3 jA b r n D (fun z=>left z && !z.sameKey (.int .i64 id)) cnt'->cnt'<cnt->w.grownBy w' (some r)->w'.heap.size=w.heap.size ->
   (Instr.entry (PP r)).run Tryz.prog w'=.ok (.tuple #[II id,PP x]) w'->wpList Tryz.prog ops Q rest (a.put o.dst (.tuple #[.bool true,II id,PP x])) w') :
 wpList Tryz.prog ops Q (o :: rest) a w:=by
 refine wpList_plain hg fun K' hK'=>?_
 unfold Oper.wp;rcases h.next zU o.type with⟨h0,_,hrun⟩ | ⟨key,v,kl,y,w',cnt',hkey,hlk,hv,hat,hrun,hrg,hlt,hgr,hsz,hen⟩
 ·simp[execOp,hop,hit,hrun,Result.andThen];exact hK' _ _ (hDone h0)
 ·obtain⟨x,rfl,rfl,_⟩:=Maps.keyOf_int_inv Tryz.underlying3 hkey;have h1:=hat .nil;rw[hf]at h1;have h2:jA v=some (JK (f (.int .i64 x)),y.2):=by rw[hv,h1]
  have h3:=zK h2;obtain⟨c,hc⟩:=Option.isSome_iff_exists.1 (hl _ hlk);rw[hc]at h3;simp only[ji]at h3;subst h3;simp[execOp,hop,hit,hrun,Result.andThen];exact hK' _ _ (hMore x c w' cnt' hlk hc hrg hlt hgr hsz hen)
theorem JP{w w':World}{b r n:Nat}{D:DataW Unit}{left:Lit->Bool}{cnt:Nat}{S:Nat->Prop}(h:w.ranges Tryz.prog 3 jA b r n D left cnt)(k:aj S w w')(hb':¬S b)(hr':¬S r):w'.ranges Tryz.prog 3 jA b r n D left cnt:=by
 have h1:=h.owns.lt;have h2:=h.lt;obtain⟨es,clock,since,seen,c0,hb,F,hs,hD,hr,rest⟩:=h;exact⟨es,clock,since,seen,c0,(k.block b h1 hb').trans hb,F,hs,hD,(k.block r h2 hr').trans hr,rest⟩
theorem uU{w:World}{b r n:Nat}{D:DataW Unit}{left:Lit->Bool}{cnt:Nat}(h:w.ranges Tryz.prog 3 jA b r n D left cnt){y:Nat}{c:Array Value}{t:TypeId}(hy:aA w y c t):b≠y/\r≠y:=by
 obtain⟨es,clock,since,seen,c0,hb,F,hs,hD,hr,rest⟩:=h;unfold aA at hy;constructor
 ·rintro rfl;rw[hb]at hy;simp at hy
 ·rintro rfl;rw[hr]at hy;simp at hy
theorem dS.Qc{w:World}{bv bm bo:Nat}{V:aS}(R:dS w bv bm bo V){x:Nat}{a:Option Nat}{b:Nat}{c:Array Nat}{d:Nat}(hb:w.heap[x]?=some (.mapIter a b c d)):¬dO bv bm bo V x:=by
 obtain⟨fB,⟨_,⟨_,_,mB,_⟩,_⟩,_⟩:=R.iM;obtain⟨fO,⟨_,⟨_,_,mO,_⟩,_⟩,_⟩:=R.fH;have no:∀{y c t},aA w y c t->x≠y:=fun h e=>by
  subst e;unfold aA at h;rw[hb]at h;simp at h
 rintro (e | e | e | ⟨i,hi,e | ⟨s,hs,e⟩⟩ | ⟨id,e⟩ | e)
 ·exact no R.dC e
 ·rw[e,mB]at hb;simp at hb
 ·rw[e,mO]at hb;simp at hb
 ·exact no (R.aY i hi).aF e
 ·obtain⟨c,t,hc,_⟩:=(R.tu hi).gK (.inr (.inr ⟨s,hs,e⟩));exact no hc rfl
 ·obtain⟨_,ix,ho⟩:=R.bz id x e;exact no ho rfl
 ·obtain⟨c,t,hc,_⟩:=R.aP.aP.gK e;exact no hc rfl
theorem fU.Vf{w:World}{bv bm bo:Nat}{G:Lg}{m:Lm}(h:bG w bv bm bo G m)(d:Int):bG (w.setCell ⟨bv,4,none⟩ (II d)) bv bm bo { G with day:=d } m/\aj (fun y=>y=bv) w (w.setCell ⟨bv,4,none⟩ (II d)):=by
 have kk:aj (fun y=>y=bv) w (w.setCell ⟨bv,4,none⟩ (II d)):=(aj.refl (fun y=>y=bv) w).setCell (p:=⟨bv,4,none⟩) (.inl rfl) _;have hl:=h.aP.aC kk (fun y hy e=>h.L6 (e▸hy));exact⟨⟨h.dC.set 4 _,⟨hl.jJ,hl.iO,hl.len,hl.aF,hl.nodup,hl.act,hl.kV,hl.jb⟩⟩,kk⟩
def Uc(t0:List Tg)(r:Rc):Option (Int × Tr) :=
 if r.kind=1 then some (2,r.t) else if r.kind=2 then some (1,r.t) else if r.kind=3 then (t0[(r.t.num-1).toNat]?).map (fun x=>(3,x.t)) else none
def uh(t0:List Tg)(told:List Rc):List (Int × Tr):=told.filterMap (Uc t0)
def qx(R:List Rc)(B:List (Int × Tr)):List Rc:=B.foldl (fun R p=>R++[⟨(R.length:Int)+1,p.1,p.2⟩]) R
theorem CJ:∀(B:List (Int × Tr)) (R:List Rc),(qx R B).length=R.length+B.length
 | [],R=>rfl
 | p :: B,R=>by
   show (qx (R++[_]) B).length=_;rw[CJ B];simp;omega
theorem Xo(t0:List Tg)(T:List Rc):(uh t0 T).length<=T.length:=List.length_filterMap_le _ _
def Ll(s:ByteArray)(i:Nat):Nat:=(s.get! i).toNat
theorem FP(s:ByteArray)(i:Nat):Ll s i<256:=(s.get! i).toNat_lt
def JE(s:ByteArray)(i:Nat):Nat × Nat :=
 if Ll s i<128 then (Ll s i,1) else if i+1<s.size/\Ll s i=206/\145<=Ll s (i+1)/\Ll s (i+1)<=169 then (768+Ll s (i+1),2) else (0,1)
def Ae(c:Nat):Bool:=(decide (65<=c) && decide (c<=90)) || (decide (48<=c) && decide (c<=57)) || (decide (913<=c) && decide (c<=937) && !(c == 930))
theorem XM(s:ByteArray)(i:Nat):1<=(JE s i).2/\(JE s i).2<=2/\(i<s.size->i+(JE s i).2<=s.size)/\(JE s i).1<=937:=by
 have:=FP s i;unfold JE;split
 ·simp;omega
 ·split <;> simp <;> omega
theorem ZG{s:ByteArray}{i:Nat}(hi:i<s.size)(h:Ae (JE s i).1=true):Utf8.decode s i=JE s i:=by
 have h0:=FP s i;unfold JE at h ⊢;split at h
 ·rename_i h1;rw[if_pos h1];unfold Utf8.decode;have:(s.get! (i+0)).toNat=Ll s i:=rfl;simp only[this];rw[if_pos (by omega)]
 ·split at h
  ·rename_i h1 h2;obtain⟨a1,a2,a3,a4⟩:=h2;rw[if_neg h1,if_pos ⟨a1,a2,a3,a4⟩];unfold Utf8.decode;have e0:(s.get! (i+0)).toNat=Ll s i:=rfl;have e1:(s.get! (i+1)).toNat=Ll s (i+1):=rfl;simp only[e0,e1];rw[if_neg (by omega),if_pos (by simp[a1,a2];omega)];rw[if_pos (by omega)];rw[a2];ext <;> simp <;> omega
  ·simp[Ae]at h
theorem Xa{s:ByteArray}{i:Nat}(hi:i<s.size)(h:Ae (JE s i).1=false):Ae (Utf8.decode s i).1=false:=by
 have h0:=FP s i;have h1':=FP s (i+1);unfold Utf8.decode;have e0:(s.get! (i+0)).toNat=Ll s i:=rfl;have e1:(s.get! (i+1)).toNat=Ll s (i+1):=rfl;simp only[e0,e1];have err:Ae Utf8.runeError=false:=by decide
 unfold JE at h;split at h
 ·rename_i h1;rw[if_pos (by omega)];exact h
 ·rename_i h1;rw[if_neg (by omega)];split
  ·rename_i h2;simp at h2;split
   ·rename_i h3;split at h
    ·rename_i h4;obtain⟨a1,a2,a3,a4⟩:=h4;rw[a2];have:206 % 32 * 64+Ll s (i+1) % 64=768+Ll s (i+1):=by omega
     simp only[this];exact h
    ·rename_i h4;simp only[Ae,Bool.or_eq_false_iff,Bool.and_eq_false_iff,decide_eq_false_iff_not,Bool.not_eq_false',beq_iff_eq];refine⟨⟨?_,?_⟩,?_⟩
     ·right;omega
     ·right;omega
     ·left;by_cases h5:913<=Ll s i % 32 * 64+Ll s (i+1) % 64
      ·right;intro h6;exact h4 ⟨h2.2.1,by omega,by omega,by omega⟩
      ·left;exact h5
   ·exact err
  ·split
   ·split
    ·rename_i h3;simp at h3;simp only[Ae,Bool.or_eq_false_iff,Bool.and_eq_false_iff,decide_eq_false_iff_not,Bool.not_eq_false',beq_iff_eq];refine⟨⟨?_,?_⟩,?_⟩
     ·right;omega
     ·right;omega
     ·left;right;omega
    ·exact err
   ·split
    ·split
     ·rename_i h3;simp at h3;simp only[Ae,Bool.or_eq_false_iff,Bool.and_eq_false_iff,decide_eq_false_iff_not,Bool.not_eq_false',beq_iff_eq];refine⟨⟨?_,?_⟩,?_⟩
      ·right;omega
      ·right;omega
      ·left;right;omega
     ·exact err
    ·exact err
def qN(s:ByteArray):Nat->Nat->Nat->Bool
 | 0,_,_=>false
 | f+1,i,n=>if i<s.size then (if Ae (JE s i).1 then qN s f (i+(JE s i).2) (n+1) else false) else (decide (1<=n) && decide (n<=6))
def nX(s:ByteArray):Bool:=qN s (s.size+1) 0 0
theorem BU(s:ByteArray):∀f i n,7<=n->qN s f i n=false
 | 0,_,_,_=>rfl
 | f+1,i,n,h=>by
   unfold qN;split
   ·split
    ·exact BU s f _ _ (by omega)
    ·rfl
   ·simp;omega
end Go.Proofs.YtigaphnafnpfnaaGreatDoor
