import Derived.Test.YtigaphnafnpfnaaGreatDoorQNC3
set_option linter.unusedVariables false
set_option linter.unusedSimpArgs false
set_option maxHeartbeats 8000000
set_option maxRecDepth 100000
namespace Go.Proofs.YtigaphnafnpfnaaGreatDoor
open Go.RowKit Go.Maps
attribute [local go_sem ↓] Go.wp_at_zero Go.wp_at_succ
theorem dS.xO{w:World}{bv bm bo:Nat}{V:aS}(R:dS w bv bm bo V){id:Int}(hid:(Lit.int .i64 id).wf=true) :
 (Instr.lookup 95 (.map (some bo)) (II id) false).run Tryz.prog w=.ok (ji (V.aW id)) w:=by
 obtain⟨fO,mO,vK⟩:=R.fH;rw[mO.look zU Tryz.underlying95 (wU _) (keyOf_int_mk Tryz.underlying3 hid),vK]
theorem dS.BN{w:World}{bv bm bo:Nat}{V:aS}(R:dS w bv bm bo V){i:Nat}(hi:i<V.nb)(hlen:(V.B i).sym.size<=maxLen) :
 (Instr.lookup 94 (.map (some bm)) (.string (V.B i).sym) false).run Tryz.prog w=.ok (PP (V.bk i)) w:=by
 obtain⟨fB,mB,qh,_⟩:=R.iM;rw[mB.look zV Tryz.underlying94 (qA _) (WideMaps.keyOf_string_mk Tryz.underlying9 hlen)];show _=Result.ok (ji (some (V.bk i))) _;rw[<-qh i hi];rfl
theorem dS.tu{w:World}{bv bm bo:Nat}{V:aS}(R:dS w bv bm bo V){i:Nat}(hi:i<V.nb):Mk w (V.bk i) (V.B i) V.om (fun x=>∃id,V.aW id=some x) :=
 ⟨R.aY i hi,fun b ⟨id,h⟩=>(R.bz id b h).2,fun s hs k hk=>R.mem i hi s hs k hk⟩
def fF(o:Ord)(q:Int):Ord:={ o with filled:=wrap64 (o.filled-q),bZ:=wrap64 (o.bZ+q) }
def fM(o:Ord)(q:Int):Ord:={ o with filled:=wrap64 (o.filled-q),aO:=wrap64 (o.aO+q) }
def gQ(o:Ord):Ord:={ o with aO:=0,exp:=wrap64 (o.exp+o.aO) }
theorem yI(b:Nat)(o:Ord)(ix q:Int)(w:World)(ho:df w b o ix) :
 CT 124 #[PP b,II q] w fun e w'=>e=.returned (.func (.func 151) #[] #[PP (w.heap.size+1),PP w.heap.size])/\yG w' w.heap.size b o/\df w' b (fF o q) ix/\aj (fun x=>x=b) w w':=by
 have HA:=au (oC b o ix w ho);have lo:=ho.lt;go_enter Tryz.func124,Tryz.ntmps124;go_wp2_with fail;refine (ae HA).mono ?_;rintro e w1 ⟨rfl,n1,k1⟩;have ho1:=k1.aF ho aU;have h1:CC w1 b 9 (II o.filled):=aA.cell ho1 9;have h2:CC w1 b 10 (II o.bZ):=aA.cell ho1 10;have f1:=aA.frozen ho1 9;have f2:=aA.frozen ho1 10;go_wp2;go_ret;have k2:=((aj.refl (fun x=>x=b) w1).setCell (p:=⟨b,9,none⟩) (.inl rfl) (II (fF o q).filled)).setCell (p:=⟨b,10,none⟩) (.inl rfl) (II (fF o q).bZ);exact⟨rfl,n1.aC k2 (by omega) (by omega),(ho1.set 9 _).set 10 _,k1.bI.trans k2⟩
theorem zS(bb b:Nat)(B:Bk)(om:Nat->Ord)(L:Nat->Prop)(q:Int)(w:World)(m:Mk w bb B om L)(hb:L b) :
 CT 124 #[PP b,II q] w fun e w'=>∃fn cp,e=.returned (.func fn #[] cp)/\jS w' b (om b) w.heap.size fn cp/\Mk w' bb B (aQ om b (fF (om b) q)) L/\aj (fun x=>x=b) w w':=by
 obtain⟨ix,ho⟩:=m.bz b hb;refine (yI b (om b) ix q w ho).mono ?_;rintro e w' ⟨rfl,h0,h1,h2⟩;exact⟨_,_,rfl,⟨rfl,_,Nat.le_refl _,rfl,h0⟩,m.aQ ho h2 h1,h2⟩
theorem Cc(b:Nat)(o:Ord)(ix q:Int)(w:World)(ho:df w b o ix) :
 CT 125 #[PP b,II q] w fun e w'=>e=.returned (.func (.func 151) #[] #[PP (w.heap.size+1),PP w.heap.size])/\yG w' w.heap.size b o/\df w' b (fM o q) ix/\aj (fun x=>x=b) w w':=by
 have HA:=au (oC b o ix w ho);have lo:=ho.lt;go_enter Tryz.func125,Tryz.ntmps125;go_wp2_with fail;refine (ae HA).mono ?_;rintro e w1 ⟨rfl,n1,k1⟩;have ho1:=k1.aF ho aU;have h1:CC w1 b 9 (II o.filled):=aA.cell ho1 9;have h2:CC w1 b 8 (II o.aO):=aA.cell ho1 8;have f1:=aA.frozen ho1 9;have f2:=aA.frozen ho1 8;go_wp2;go_ret;have k2:=((aj.refl (fun x=>x=b) w1).setCell (p:=⟨b,9,none⟩) (.inl rfl) (II (fM o q).filled)).setCell (p:=⟨b,8,none⟩) (.inl rfl) (II (fM o q).aO);exact⟨rfl,n1.aC k2 (by omega) (by omega),(ho1.set 9 _).set 8 _,k1.bI.trans k2⟩
theorem vT(bb b:Nat)(B:Bk)(om:Nat->Ord)(L:Nat->Prop)(q:Int)(w:World)(m:Mk w bb B om L)(hb:L b) :
 CT 125 #[PP b,II q] w fun e w'=>∃fn cp,e=.returned (.func fn #[] cp)/\jS w' b (om b) w.heap.size fn cp/\Mk w' bb B (aQ om b (fM (om b) q)) L/\aj (fun x=>x=b) w w':=by
 obtain⟨ix,ho⟩:=m.bz b hb;refine (Cc b (om b) ix q w ho).mono ?_;rintro e w' ⟨rfl,h0,h1,h2⟩;exact⟨_,_,rfl,⟨rfl,_,Nat.le_refl _,rfl,h0⟩,m.aQ ho h2 h1,h2⟩
def aS.turn(V:aS)(i:Nat)(B':Bk)(dK:Nat->Ord):aS:={ V with B:=aQ V.B i B',om:=dK }
def pz(V:aS)(i x:Nat):Prop:=∀j,j<V.nb->j≠i->∀t,t<2->¬dG (V.B j) t x
theorem dS.acw{w w':World}{bv bm bo i:Nat}{V:aS}(R:dS w bv bm bo V)(hi:i<V.nb){B':Bk}{dK:Nat->Ord}{S:Nat->Prop}
 (hm:Mk w' (V.bk i) B' dK (fun x=>∃id,V.aW id=some x)) {G':Lg} {bM:Lm} (hl:bG w' bv bm bo G' bM) (k:aj (fun x=>S x\/V.lm.F x) w w') (hS:∀x,S x->x=V.bk i\/(∃s,s<2/\dG (V.B i) s x)\/((∃id,V.aW id=some x)/\pz V i x))
 (jK:∀j,j<V.nb->j≠i->∀s,s<2->∀l,l<(V.B j).n s->dK ((V.B j).h s l)=V.om ((V.B j).h s l)) (hid:∀x,(dK x).id=(V.om x).id) (dR:B'.sym=(V.B i).sym)
 (hsd:∀s,s<2->∀x,dG B' s x->pz V i x\/w.heap.size<=x):dS w' bv bm bo { V.turn i B' dK with lg:=G',lm:=bM }:=by
 have gK:∀x,S x->∃c t,aA w x c t/\(t=158\/t=116\/t=114):=fun x hx=>by
  refine (R.tu hi).gK ?_;rcases hS x hx with h | h | ⟨h,_⟩
  ·exact .inl h
  ·exact .inr (.inr h)
  ·exact .inr (.inl h)
 obtain⟨fB,mB,qh,uM⟩:=R.iM;obtain⟨fO,mO,vK⟩:=R.fH;have nB:¬(S bm\/V.lm.F bm):=by
  rintro (h | h)
  ·obtain⟨c,t,hc,_⟩:=gK bm h;exact mB.ne hc rfl
  ·obtain⟨c,t,hc,_⟩:=R.aP.aP.gK h;exact mB.ne hc rfl
 have nO:¬(S bo\/V.lm.F bo):=by
  rintro (h | h)
  ·obtain⟨c,t,hc,_⟩:=gK bo h;exact mO.ne hc rfl
  ·obtain⟨c,t,hc,_⟩:=R.aP.aP.gK h;exact mO.ne hc rfl
 have JZ:∀j,j<V.nb->∀x,x<2->∀y,dG (V.B j) x y->y<w.heap.size:=fun j hj x hx y h=>by
  rcases h with h | ⟨l,hl,rfl⟩
  ·exact ((R.aY j hj).side x hx).lt h
  ·exact (((R.aY j hj).side x hx).bz hl).lt
 have yH:∀s,s<2->∀x,dG (V.B i) s x->pz V i x:=fun s hs x hx j hj hne t ht h=>R.nM i j hi hj (fun e=>hne e.symm) s t hs ht x hx h
 have lY:∀j,j<V.nb->j≠i->cO w' (V.bk j) (V.B j) dK:=fun j hj hne=>by
  have h6:cO w' (V.bk j) (V.B j) V.om:=(R.aY j hj).aC k (by
   intro x hxx hSF;have hx:S x:=hSF.resolve_right (fun hF=>by
    obtain⟨c,t',hc,ht'⟩:=R.aP.aP.gK hF;rcases hxx with rfl | ⟨y,hy,h⟩
    ·exact aA.ne (R.aY j hj).aF hc (by rcases ht' with rfl | rfl | rfl | rfl | rfl | rfl <;> decide) rfl
    ·rcases h with h | ⟨l,hl,h⟩
     ·exact ((R.aY j hj).side y hy).ne hc (by rcases ht' with rfl | rfl | rfl | rfl | rfl | rfl <;> decide) h
     ·subst h;exact aA.ne hc (((R.aY j hj).side y hy).bz hl) (by rcases ht' with rfl | rfl | rfl | rfl | rfl | rfl <;> decide) rfl)
   clear hSF;rcases hxx with rfl | ⟨y,hy,h⟩
   ·rcases hS _ hx with h | ⟨s,hs,h⟩ | ⟨⟨id,h⟩,_⟩
    ·exact R.sS j i hj hi hne h
    ·rcases h with h | ⟨l,hl,h⟩
     ·exact ((R.aY i hi).side s hs).ne (R.aY j hj).aF (by decide) h
     ·exact aA.ne (R.aY j hj).aF (((R.aY i hi).side s hs).bz hl) (by decide) h
    ·obtain⟨_,ix,ho⟩:=R.bz id _ h;exact aA.ne (R.aY j hj).aF ho (by decide) rfl
   ·rcases hS _ hx with e | ⟨s,hs,e⟩ | ⟨_,e⟩
    ·rw[e]at h;rcases h with h | ⟨l,hl,h⟩
     ·exact ((R.aY j hj).side y hy).ne (R.aY i hi).aF (by decide) h
     ·exact aA.ne (R.aY i hi).aF (((R.aY j hj).side y hy).bz hl) (by decide) h
    ·exact yH s hs x e j hj hne y hy h
    ·exact e j hj hne y hy h)
  exact⟨h6.aF,fun y hy=>(h6.side y hy).om (fun l hl=>jK j hj hne y hy l hl),h6.apart,h6.vZ⟩
 refine⟨hl,⟨fB,mB.aC k nB,?_,?_⟩,⟨fO,mO.aC k nO,vK⟩,R.Ia,?_,?_,?_,R.sS,?_,R.gV⟩
 ·intro j hj;by_cases e:j=i
  ·subst e;simp only[aS.turn,ai,dR];exact qh j hj
  ·simp only[aS.turn,ah _ _ e];exact qh j hj
 ·intro s' b' h;obtain⟨j,hj,e1,e2⟩:=uM s' b' h;refine⟨j,hj,e1,?_⟩;by_cases e:j=i
  ·subst e;simp only[aS.turn,ai,dR];exact e2
  ·simp only[aS.turn,ah _ _ e];exact e2
 ·intro j hj;by_cases e:j=i
  ·subst e;simp only[aS.turn,ai];exact hm.aY
  ·simp only[aS.turn,ah _ _ e];exact lY j hj e
 ·intro id x hx;simp only[aS.turn]at hx ⊢;rw[hid];exact⟨(R.bz id x hx).1,hm.bz x ⟨id,hx⟩⟩
 ·intro j hj x hx l hl;simp only[aS.turn]at hj hl ⊢;by_cases e:j=i
  ·subst e;simp only[ai]at hl ⊢;exact hm.mem x hx l hl
  ·simp only[ah _ _ e]at hl ⊢;exact R.mem j hj x hx l hl
 ·intro p q hp hq hne x y hx hy z h1 h2;have half:∀q,q<V.nb->q≠i->∀x y,x<2->y<2->∀z,dG B' x z->dG (V.B q) y z->False:=by
   intro q hq hne x y hx hy z h1 h2;rcases hsd x hx z h1 with h | h
   ·exact h q hq hne y hy h2
   ·have:=JZ q hq y hy z h2;omega
  simp only[aS.turn]at h1 h2;by_cases e:p=i
  ·rw[e,ai]at h1;rw[ah _ _ (show q≠i by omega)]at h2;exact half q hq (by omega) x y hx hy z h1 h2
  ·rw[ah _ _ e]at h1;by_cases e2:q=i
   ·rw[e2,ai]at h2;exact half p hp e y x hy hx z h2 h1
   ·rw[ah _ _ e2]at h2;exact R.nM p q hp hq hne x y hx hy z h1 h2
theorem qB.at{w:World}{G:Lg}{m:Lm}(h:aa2 w G m){k:Nat}{x:Tg}(hx:G.tr[k]?=some x) :
 ∃g cap b,m.tv=.slice (some ⟨g,0,none⟩) G.tr.length cap/\w.cell? ⟨g,k,none⟩=some (PP b)/\m.tb[k]?=some b/\aA w b x.cells 105:=by
 have hk:k<G.tr.length:=(List.getElem?_eq_some_iff.1 hx).1;have hb:k<m.tb.length:=by rw[h.len];exact hk
 rcases h.jJ.2 with⟨_,h0⟩ | ⟨g,cap,cs,hv,_,hg,h1,h2,h3,h4⟩
 ·omega
 ·refine⟨g,cap,m.tb[k],hv,?_,List.getElem?_eq_getElem hb,h.aF k _ x (List.getElem?_eq_getElem hb) hx⟩;have hc:aA w g cs 103:=hg;rw[hc.cell];have e:cs.toList[k]?=(m.tb.map dD)[k]?:=by rw[<-h4,List.getElem?_take,if_pos (by omega)]
  rw[<-Array.getElem?_toList,e,List.getElem?_map,List.getElem?_eq_getElem hb]
  rfl
theorem DC(bv bm bo:Nat)(G:Lg)(lm:Lm)(N:Int)(w:World)(hL:bG w bv bm bo G lm)(h:N<1\/(G.tr.length:Int)<N) :
 CT 71 #[PP bv,II N] w fun e w'=>e=.returned (.tuple #[.pointer none,II 6])/\aj aJ w w':=by
 obtain⟨n,hn⟩:=mf G.tr.length;rw[hn]at h;obtain⟨pa,pc,zF⟩:=hL.aP.zg hn;have v2:w.cell? ⟨bv,2,none⟩=some (.slice pa n pc):=by rw[<-zF];exact hL.dC.cell 2
 clear hL zF hn;by_cases h1:N<1
 ·have e1:decide (N<1)=true:=by simp[h1]
  clear h h1;go_enter Tryz.func71,Tryz.ntmps71;go_wp2;go_ret2;exact⟨rfl,by repeat (first | exact aj.refl _ _ | refine aj.drewN ?_ _ | refine aj.drew ?_)⟩
 ·have e1:decide (N<1)=false:=by simp[h1]
  have e2:decide ((n:Int)<N)=true:=by simp;omega
  clear h h1;go_enter Tryz.func71,Tryz.ntmps71;go_wp2;go_ret2;exact⟨rfl,by repeat (first | exact aj.refl _ _ | refine aj.drewN ?_ _ | refine aj.drew ?_)⟩
def pg(x:Tg)(day:Int):Int:=if x.holds=false then 10 else if x.t.day≠day then 11 else 0
theorem yt(bv bm bo k b:Nat)(G:Lg)(lm:Lm)(N:Int)(x:Tg)(w:World)(hL:bG w bv bm bo G lm)(hN:N-1=(k:Int))(hx:G.tr[k]?=some x)(hb:lm.tb[k]?=some b)(hlen:G.tr.length<=1000000000) :
 CT 71 #[PP bv,II N] w fun e w'=>e=.returned (.tuple #[if pg x G.day=0 then PP b else .pointer none,II (pg x G.day)])/\aj aJ w w':=by
 obtain⟨g,pc,b',zF,hc,hb',hblk⟩:=hL.aP.at hx;obtain rfl:b'=b:=by rw[hb]at hb';exact (Option.some.inj hb').symm
 have hk:k<G.tr.length:=(List.getElem?_eq_some_iff.1 hx).1;have v2:w.cell? ⟨bv,2,none⟩=some (.slice (some ⟨g,0,none⟩) G.tr.length pc):=by rw[<-zF];exact hL.dC.cell 2
 have v4:CC w bv 4 (II G.day):=hL.dC.cell 4;have t6:CC w b' 6 (II x.t.day):=hblk.cell 6;have t7:CC w b' 7 (.bool x.holds):=hblk.cell 7;generalize G.tr.length=n at *;have e1:decide (N<1)=false:=by simp;omega
 have e2:decide ((n:Int)<N)=false:=by simp;omega
 have hN0:0<=N-1:=by omega
 have hN1:N-1<(n:Int):=by omega
 have hw:wrap64 (N-1)=(k:Int):=by rw[hN];exact aT (by omega) (by omega)
 clear hL zF hblk hb hb' hx;obtain⟨xt,xh⟩:=x;simp only at t6 t7;cases xh with
 | false =>
   have HP:Hid (pg ⟨xt,false⟩ G.day=10):=by show _=_;simp[pg]
   rw[ae HP];go_enter Tryz.func71,Tryz.ntmps71;go_wp2;go_ret2;exact⟨rfl,by repeat (first | exact aj.refl _ _ | refine aj.drewN ?_ _ | refine aj.drew ?_)⟩
 | true =>
   by_cases hd:xt.day=G.day
   ·have ed:(xt.day != G.day)=false:=by simp[hd]
    have HP:Hid (pg ⟨xt,true⟩ G.day=0):=by show _=_;simp[pg,hd]
    rw[ae HP];clear hd;go_enter Tryz.func71,Tryz.ntmps71;go_wp2;go_quiet (fail);go_wp2;go_ret2;exact⟨rfl,by repeat (first | exact aj.refl _ _ | refine aj.drewN ?_ _ | refine aj.drew ?_)⟩
   ·have ed:(xt.day != G.day)=true:=by simp[hd]
    have HP:Hid (pg ⟨xt,true⟩ G.day=11):=by show _=_;simp[pg,hd]
    rw[ae HP];clear hd;go_enter Tryz.func71,Tryz.ntmps71;go_wp2;go_quiet (fail);go_wp2;go_ret2;exact⟨rfl,by repeat (first | exact aj.refl _ _ | refine aj.drewN ?_ _ | refine aj.drew ?_)⟩
end Go.Proofs.YtigaphnafnpfnaaGreatDoor
