import Derived.Test.YtigaphnafnpfnaaGreatDoorQNV9
set_option linter.unusedVariables false
set_option linter.unusedSimpArgs false
set_option maxHeartbeats 8000000
set_option maxRecDepth 100000
namespace Go.Proofs.YtigaphnafnpfnaaGreatDoor
open Go.RowKit Go.Maps
attribute [local go_sem ↓] Go.wp_at_zero Go.wp_at_succ
def RQ(w:World)(cl cl':List Value):Prop:=∃news,cl'=cl++news/\∀c∈news,∀x,yA c x->w.heap.size<=x
def LK(w:World)(cl:List Value)(g:Nat)(cl':List Value):Prop:=∃news,cl'=cl++news/\∀c∈news,∀x,yA c x->w.heap.size<=x/\x≠g
def vW(bv bm bo:Nat)(G:Lg)(lm:Lm)(bk:Nat->Nat)(lw:Nat)(tq:Bool)(old:List (List Value))(dW:List Nat)(P:List Value->Prop)(ds:List dY)(w w':World):Prop :=
 ∃bM cl',bG w' bv bm bo (G.aX ds) bM/\(∀x,bM.F x->lm.F x\/w.heap.size<=x)/\iw w' bv bk lw tq old (G.aX ds).nt dW bM cl'/\P cl'
theorem yj(bv bm bo i b s:Nat)(V:aS)(id q:Int)(again:Bool)(w:World)(bk:Nat->Nat)(lw:Nat)(tq:Bool)(old:List (List Value))(dW:List Nat)(cl:List Value)(hC:iw w bv bk lw tq old V.lg.nt dW V.lm cl)(Wh:lw<=w.heap.size)(hbk:bk b=V.bk i)(R:dS w bv bm bo V)(hi:i<V.nb)(hid:V.aW id=some b)(dR:(V.om b).sym=(V.B i).sym)(hlen:(V.B i).sym.size<=maxLen)(hs:s<2)(hside:(V.om b).side=1-(s:Int))
 (hcond:again=false\/fD (V.om b).kind=false\/(dJ (V.B i) V.om (dm (V.om b)) s).isSome=true) (hna:0<V.lg.na) (iJ:V.lg.na<=3000000) (hnt:V.lg.nt.length+3<1000000000) :
 CT 75 #[PP bv,PP b,II q,.bool again] w fun e w'=>e=.returned (.tuple #[]) /\
  Mk w' (V.bk i) (V.B i) (aQ V.om b (fF (V.om b) q)) (fun x=>∃id,V.aW id=some x)/\vW bv bm bo V.lg V.lm bk lw tq old dW (RQ w cl) [.gp b (V.om b)] w w'/\aj (fun x=>x=b\/gY V.lm.av V.lm.ac x) w w':=by
 obtain⟨-,ix,ho⟩:=R.bz id b hid;have L1:∀n,(Instr.lookup 94 (.map (some bm)) (.string (V.B i).sym) false).run Tryz.prog (w.drewN n)=.ok (PP (V.bk i)) (w.drewN n):=fun n=>(R.aB ((aj.refl aJ w).drewN n)).BN hi hlen
 have Zo:(Instr.lookup 94 (.map (some bm)) (.string (V.B i).sym) false).run Tryz.prog w.drew=.ok (PP (V.bk i)) w.drew:=L1 1;have v0:CC w bv 0 (.map (some bm)):=R.dC.cell 0;have o2:w.cell? ⟨b,2,none⟩=some (.string (V.B i).sym):=by rw[<-dR];exact ho.cell 2
 have HC:=au (fun (W:World) (k:aj aJ w W)=>zS (V.bk i) b (V.B i) V.om (fun x=>∃id,V.aW id=some x) q W ((R.aB k).tu hi) ⟨id,hid⟩);have HF:=au (fun (W:World) (k:aj aJ w W)=>kR (V.bk i) (V.B i) V.om (dm (V.om b)) s W ((R.aB k).aY i hi) hs hside);have HO:Hid (∀W,aj aJ w W->df W b (V.om b) ix):=fun W k=>k.aF ho aU
 have HN:Hid (∀W wq fn cp,aj aJ w W->aj (fun x=>x=b) W wq->Mk wq (V.bk i) (V.B i) (aQ V.om b (fF (V.om b) q)) (fun x=>∃id,V.aW id=some x)->jS wq b (V.om b) W.heap.size fn cp ->
  CT 53 #[PP bv,.slice (some ⟨wq.heap.size,0,none⟩) 1 1] (wq.alloc (.cells #[.func fn #[] cp] 1)) fun e w'=>e=.returned (.tuple #[])/\Mk w' (V.bk i) (V.B i) (aQ V.om b (fF (V.om b) q)) (fun x=>∃id,V.aW id=some x)/\vW bv bm bo V.lg V.lm bk lw tq old dW (RQ w cl) [.gp b (V.om b)] w w'/\aj (fun x=>x=b\/gY V.lm.av V.lm.ac x) w w'):=by
  intro W wq fn cp kW kq m fq;have h1:=(R.aP.aB kW).jF kq (fun x h=>by subst h;exact⟨_,116,kW.aF ho aU,.inr (.inl rfl)⟩);have cq:=(hC.aB kW).aC kq (jL ((R.aB kW).tu hi) ⟨id,hid⟩);have iq:bU wq bv bk lw (.gp b (V.om b)) (.func fn #[] cp):=⟨_,_,rfl,fq.mono (by have:=kW.size;omega)⟩;refine (nJ bv bm bo V.lg V.lm (.gp b (V.om b)) fn cp wq bk lw tq old dW cl h1 cq (fun h=>by cases h) iq hna iJ (by omega)).mono ?_;rintro e w' ⟨rfl,bM,a1,a2,a3,-,a5⟩;have kk:=kW.bI.trans kq;exact⟨rfl,m.jw h1 (a3.mono (fun _ h=>QF h)),⟨bM,_,a1,fun x hx=>(a2 x hx).imp_right (fun h=>Nat.le_trans kk.size h),a5,[.func fn #[] cp],rfl,fun c hc x hx=>by
   rw[List.mem_singleton]at hc;subst hc;exact (show bU wq bv bk w.heap.size (.gp b (V.om b)) (.func fn #[] cp) from ⟨_,_,rfl,fq.mono kW.size⟩).cap hx |>.1⟩,(kk.mono (fun _ h=>.inl h)).trans (a3.mono (fun _ h=>.inr h))⟩
 have HCo:=au hcond;clear hC R hid dR hside hcond ho hs;go_enter Tryz.func75,Tryz.ntmps75;go_wp2;go_quiet (fail);have hq:aj aJ w (w.drewN nq):=(aj.refl aJ w).drewN _;obtain⟨w1,hw1⟩:=kL (w.drewN nq);rw[<-hw1]at hq ⊢;clear hw1 L1 Zo v0 o2;cases again with
 | false =>
   go_wp2_with fail;refine (ae HC w1 hq).mono ?_;rintro e w2 ⟨Lr,Lp,rfl,f2,m2,k2⟩;go_wp2_with fail;refine (ae HN _ w2 Lr Lp hq k2 m2 f2).mono ?_;rintro e wz ⟨rfl,rz⟩;go_wp2
   try simp only[Exit.inBlock,Exit.then]
   refine bodyPost_ret (results_none rfl _ _ _) rfl ?_;exact⟨rfl,rz⟩
 | true =>
   go_wp2_with fail;refine (qQ b _ ix w1 (ae HO w1 hq)).mono ?_;rintro e w1' ⟨rfl,YK⟩;rw[YK];clear YK w1';cases hr:fD (V.om b).kind with
   | false =>
     clear hr;go_wp2_with fail;refine (ae HC _ hq).mono ?_;rintro e w2 ⟨Lr,Lp,rfl,f2,m2,k2⟩;go_wp2_with fail;refine (ae HN _ w2 Lr Lp hq k2 m2 f2).mono ?_;rintro e wz ⟨rfl,rz⟩;go_wp2
     try simp only[Exit.inBlock,Exit.then]
     refine bodyPost_ret (results_none rfl _ _ _) rfl ?_;exact⟨rfl,rz⟩
   | true =>
     have hf:(dJ (V.B i) V.om (dm (V.om b)) s).isSome=true:=by
      rcases ae HCo with h | h | h
      ·simp at h
      ·rw[hr]at h;simp at h
      ·exact h
     obtain⟨f,hf'⟩:=Option.isSome_iff_exists.1 hf;have WA:=au hf';clear hr hf hf';have hoc:=ae HO _ hq;obtain⟨Zx,Yv,Zy,Zz,ZA,ZB,ZC⟩:=hoc.c7;clear hoc;go_wp2_with fail;refine (ae HF _ hq).mono ?_;rintro e w2 ⟨rfl,k2⟩;rw[ae WA];simp only[ji];clear Zx Yv Zy Zz ZA ZB ZC;go_wp2_with fail;refine (ae HC _ (hq.trans k2)).mono ?_;rintro e w3 ⟨Lr,Lp,rfl,f3,m3,k3⟩;go_wp2_with fail;refine (ae HN _ w3 Lr Lp (hq.trans k2) k3 m3 f3).mono ?_;rintro e wz ⟨rfl,rz⟩;go_wp2
     try simp only[Exit.inBlock,Exit.then]
     refine bodyPost_ret (results_none rfl _ _ _) rfl ?_;exact⟨rfl,rz⟩
theorem Dz(bv bm bo i b s t:Nat)(V:aS)(id q:Int)(w:World)(bk:Nat->Nat)(lw:Nat)(tq:Bool)(old:List (List Value))(dW:List Nat)(cl:List Value)(hC:iw w bv bk lw tq old V.lg.nt dW V.lm cl)(Wh:lw<=w.heap.size)(hbk:bk b=V.bk i)(uP:∀g,ig ((V.B i).sl t)=some g->g<lw)(R:dS w bv bm bo V)(hi:i<V.nb)(hid:V.aW id=some b)(dR:(V.om b).sym=(V.B i).sym)(hlen:(V.B i).sym.size<=maxLen)(hs:s<2)(ht:t=1-s)(hside:(V.om b).side=(t:Int))
 (hr:fD (V.om b).kind=true) (hf:dJ (V.B i) V.om (dm (V.om b)) s=none) (h0:¬0<(V.om b).aO) (hnew:∀x,x<2->∀k,k<(V.B i).n x->(V.B i).h x k≠b) (hn:(V.B i).n t<1000) (hna:0<V.lg.na) (iJ:V.lg.na<=3000000) (hnt:V.lg.nt.length+3<1000000000) :
 CT 75 #[PP bv,PP b,II q,.bool true] w fun e w'=>e=.returned (.tuple #[]) /\
  ∃g cap',Mk w' (V.bk i) ((V.B i).rest (cZ V i b q) t b g cap') (cZ V i b q) (fun x=>∃id,V.aW id=some x)/\vW bv bm bo V.lg V.lm bk lw tq old dW (LK w cl g) [.gp b (V.om b),.fC b (V.om b).place] w w'/\aj (fun x=>(x=V.bk i\/x=b\/dG (V.B i) t x)\/gY V.lm.av V.lm.ac x) w w'/\(ig ((V.B i).sl t)=some g\/w.heap.size<=g):=by
 obtain⟨-,ix,ho⟩:=R.bz id b hid;have L1:∀n,(Instr.lookup 94 (.map (some bm)) (.string (V.B i).sym) false).run Tryz.prog (w.drewN n)=.ok (PP (V.bk i)) (w.drewN n):=fun n=>(R.aB ((aj.refl aJ w).drewN n)).BN hi hlen
 have Zo:(Instr.lookup 94 (.map (some bm)) (.string (V.B i).sym) false).run Tryz.prog w.drew=.ok (PP (V.bk i)) w.drew:=L1 1;have v0:CC w bv 0 (.map (some bm)):=R.dC.cell 0;have o2:w.cell? ⟨b,2,none⟩=some (.string (V.B i).sym):=by rw[<-dR];exact ho.cell 2
 have HC:=au (fun (W:World) (k:aj aJ w W)=>vT (V.bk i) b (V.B i) V.om (fun x=>∃id,V.aW id=some x) q W ((R.aB k).tu hi) ⟨id,hid⟩);have HF:=au (fun (W:World) (k:aj aJ w W)=>kR (V.bk i) (V.B i) V.om (dm (V.om b)) s W ((R.aB k).aY i hi) hs (by rw[show (dm (V.om b)).side=(V.om b).side from rfl,hside,ht];omega));have HO:Hid (∀W,aj aJ w W->df W b (V.om b) ix):=fun W k=>k.aF ho aU
 have RJ:Hid (∀W,Mk W (V.bk i) (V.B i) (aQ V.om b (fM (V.om b) q)) (fun x=>∃id,V.aW id=some x)->CT 122 #[PP (V.bk i),PP b] W fun e w'=>∃fn cp,e=.returned (.func fn #[] cp)/\lC w' (V.bk i) b (V.om b).place W.heap.size fn cp/\(∀x,yA (.func fn #[] cp) x->x<W.heap.size+3) /\
  ∃g cap',Mk w' (V.bk i) ((V.B i).rest (cZ V i b q) t b g cap') (cZ V i b q) (fun x=>∃id,V.aW id=some x)/\aj (fun x=>x=V.bk i\/x=b\/dG (V.B i) t x) W w'/\(ig ((V.B i).sl t)=some g\/W.heap.size+3<=g)):=by
  intro W m;obtain⟨ix',ho'⟩:=m.bz b ⟨id,hid⟩;refine (GY (V.bk i) b t (V.B i) _ ix' W m.aY ho' (by omega) (by rw[ai];exact hside) hnew hn).mono ?_;rintro e w' ⟨fn,cp,rfl,hcl,hcp,g,cap',hb,k,hg⟩;rw[ai]at hb hcl;exact⟨fn,cp,rfl,hcl,hcp,g,cap',m.rest (by omega) ⟨id,hid⟩ (fun x hx=>by unfold cZ;rw[ah _ _ hx]) hb k,k,hg⟩
 have HN:Hid (∀W w3 w4 oP cp3 xB cp4 g cap',aj aJ w W->aj (fun x=>x=b) W w3->Mk w3 (V.bk i) (V.B i) (aQ V.om b (fM (V.om b) q)) (fun x=>∃id,V.aW id=some x)->Mk w4 (V.bk i) ((V.B i).rest (cZ V i b q) t b g cap') (cZ V i b q) (fun x=>∃id,V.aW id=some x)->aj (fun x=>x=V.bk i\/x=b\/dG (V.B i) t x) w3 w4->(ig ((V.B i).sl t)=some g\/w3.heap.size+3<=g)->jS w3 b (V.om b) W.heap.size oP cp3->lC w4 (V.bk i) b (V.om b).place w3.heap.size xB cp4->(∀x,yA (.func xB #[] cp4) x->x<w3.heap.size+3) ->
  CT 53 #[PP bv,.slice (some ⟨w4.heap.size,0,none⟩) 2 2] (w4.alloc (.cells #[.func oP #[] cp3,.func xB #[] cp4] 1)) fun e w'=>e=.returned (.tuple #[]) /\
   ∃g cap',Mk w' (V.bk i) ((V.B i).rest (cZ V i b q) t b g cap') (cZ V i b q) (fun x=>∃id,V.aW id=some x)/\vW bv bm bo V.lg V.lm bk lw tq old dW (LK w cl g) [.gp b (V.om b),.fC b (V.om b).place] w w'/\aj (fun x=>(x=V.bk i\/x=b\/dG (V.B i) t x)\/gY V.lm.av V.lm.ac x) w w'/\(ig ((V.B i).sl t)=some g\/w.heap.size<=g)):=by
  intro W w3 w4 oP cp3 xB cp4 g cap' kW k3 m3 m4 k4 hg f3 f4 hcp;have h3:=(R.aP.aB kW).jF k3 (fun x h=>by subst h;exact⟨_,116,kW.aF ho aU,.inr (.inl rfl)⟩);have h4:=h3.jF k4 (fun x h=>m3.gK (by
   rcases h with h | h | h
   ·exact .inl h
   ·exact .inr (.inl ⟨id,by rw[h];exact hid⟩)
   ·exact .inr (.inr ⟨t,by omega,h⟩)))
  have c3:=(hC.aB kW).aC k3 (jL ((R.aB kW).tu hi) ⟨id,hid⟩);have o4:nP w3 lw tq (fun x=>x=V.bk i\/x=b\/dG (V.B i) t x):=fun x h=>by
   rcases h with h | h | h
   ·exact GI m3 x h
   ·exact jL m3 ⟨id,hid⟩ x h
   ·exact uo m3 (by omega) uP x (.inr h)
  have c4:=c3.aC k4 o4;have i3:bU w3 bv bk lw (.gp b (V.om b)) (.func oP #[] cp3):=⟨_,_,rfl,f3.mono (by have:=kW.size;omega)⟩;have i3':=i3.aC (q:=tq) (fun h=>by cases h) k4 o4;have i4:bU w4 bv bk lw (.fC b (V.om b).place) (.func xB #[] cp4):=⟨_,_,rfl,by
   show lC w4 (bk b) b _ lw xB cp4;rw[hbk];exact f4.mono (by have:=kW.size;have:=k3.size;omega)⟩
  have hgn:LK w cl g (cl++[.func oP #[] cp3,.func xB #[] cp4]):=⟨_,rfl,fun c hc x hx=>by
   have hcb:w.heap.size<=x/\x<w3.heap.size+3:=by
    simp only[List.mem_cons,List.not_mem_nil,or_false]at hc;rcases hc with h | h
    ·subst h;have:=(show bU w3 bv bk w.heap.size (.gp b (V.om b)) (.func oP #[] cp3) from ⟨_,_,rfl,f3.mono kW.size⟩).cap hx;omega
    ·subst h;exact⟨((show bU w4 bv (fun _=>V.bk i) w.heap.size (.fC b (V.om b).place) (.func xB #[] cp4) from ⟨_,_,rfl,f4.mono (by have:=kW.size;have:=k3.size;omega)⟩).cap hx).1,hcp x hx⟩
   refine⟨hcb.1,?_⟩;rcases hg with h | h
   ·have:=uP g h;omega
   ·omega⟩
  refine (wJ bv bm bo V.lg V.lm (.gp b (V.om b)) (.fC b (V.om b).place) oP xB cp3 cp4 w4 bk lw tq old dW cl h4 c4 (fun h=>by cases h) (fun h=>by cases h) i3' i4 hna iJ (by omega)).mono ?_;rintro e w' ⟨rfl,bM,a1,a2,a3,-,a5⟩;have kk3:=kW.bI.trans k3;have kk:aj (fun x=>x=V.bk i\/x=b\/dG (V.B i) t x) w w4:=(kk3.mono (fun _ h=>.inr (.inl h))).trans k4;exact⟨rfl,g,cap',m4.jw h4 (a3.mono (fun _ h=>QF h)),⟨bM,_,a1,fun x hx=>(a2 x hx).imp_right (fun h=>Nat.le_trans kk.size h),a5,hgn⟩,(kk.mono (fun _ h=>.inl h)).trans (a3.mono (fun _ h=>.inr h)),hg.imp_right (fun h=>by have:=kk3.size;omega)⟩
 have WA:=au hf;have e0:decide (0<(V.om b).aO)=false:=by simp[h0]
 obtain⟨HE0,HR⟩:=dE e0 hr;clear hC uP R hid dR hside hf ho hs h0 e0 hr hnew hn;go_enter Tryz.func75,Tryz.ntmps75;go_wp2;go_quiet (fail);have hq:aj aJ w (w.drewN nq):=(aj.refl aJ w).drewN _;obtain⟨w1,hw1⟩:=kL (w.drewN nq);rw[<-hw1]at hq ⊢;clear hw1 L1 Zo v0 o2;go_wp2_with fail;refine (qQ b _ ix w1 (ae HO w1 hq)).mono ?_;rintro e w1' ⟨rfl,YK⟩;rw[YK];clear YK w1';rw[ae HR];have hoc:=ae HO _ hq;obtain⟨Zx,Yv,Zy,Zz,ZA,ZB,ZC⟩:=hoc.c7;clear hoc;go_wp2_with fail;refine (ae HF _ hq).mono ?_;rintro e w2 ⟨rfl,k2⟩;rw[ae WA];simp only[ji];have hq2:=hq.trans k2;have o8:CC w2 b 8 (II (V.om b).aO):=(ae HO _ hq2).cell 8;have e0:=ae HE0;clear Zx Yv Zy Zz ZA ZB ZC;go_wp2_with fail;refine (ae HC _ hq2).mono ?_;rintro e w3 ⟨oP,cp3,rfl,f3,m3,k3⟩;clear o8 e0;go_wp2_with fail;refine (ae RJ w3 m3).mono ?_;rintro e w4 ⟨xB,cp4,rfl,f4,hcp,g,cap',m4,k4,hg⟩;go_wp2_with fail;refine (ae HN _ w3 w4 oP cp3 xB cp4 g cap' hq2 k3 m3 m4 k4 hg f3 f4 hcp).mono ?_;rintro e wz ⟨rfl,rz⟩;go_wp2;go_end0;exact⟨rfl,rz⟩
theorem Ad(bv bm bo i b s t k:Nat)(V:aS)(id q:Int)(w:World)(bk:Nat->Nat)(lw:Nat)(tq:Bool)(old:List (List Value))(dW:List Nat)(cl:List Value)(hC:iw w bv bk lw tq old V.lg.nt dW V.lm cl)(Wh:lw<=w.heap.size)(hbk:bk b=V.bk i)(uP:∀g,ig ((V.B i).sl t)=some g->g<lw)(R:dS w bv bm bo V)(hi:i<V.nb)(hid:V.aW id=some b)(dR:(V.om b).sym=(V.B i).sym)(hlen:(V.B i).sym.size<=maxLen)(hs:s<2)(ht:t=1-s)(hside:(V.om b).side=(t:Int))
 (hr:fD (V.om b).kind=true) (hf:dJ (V.B i) V.om (dm (V.om b)) s=none) (h0:0<(V.om b).aO) (hk:k<(V.B i).n t) (hkb:(V.B i).h t k=b) (hn:(V.B i).n t<1000) (hna:0<V.lg.na) (iJ:V.lg.na<=3000000) (hnt:V.lg.nt.length+3<1000000000) :
 CT 75 #[PP bv,PP b,II q,.bool true] w fun e w'=>e=.returned (.tuple #[]) /\
  ∃g cap',Mk w' (V.bk i) (((V.B i).leave V.om t k).rest (cZ V i b q) t b g cap') (cZ V i b q) (fun x=>∃id,V.aW id=some x)/\vW bv bm bo V.lg V.lm bk lw tq old dW (LK w cl g) [.left b,.gp b (V.om b),.fC b (V.om b).place] w w'/\aj (fun x=>(x=V.bk i\/x=b\/dG (V.B i) t x)\/gY V.lm.av V.lm.ac x) w w'/\(ig ((V.B i).sl t)=some g\/w.heap.size<=g):=by
 obtain⟨-,ix,ho⟩:=R.bz id b hid;have t2:t<2:=by omega
 have L1:∀n,(Instr.lookup 94 (.map (some bm)) (.string (V.B i).sym) false).run Tryz.prog (w.drewN n)=.ok (PP (V.bk i)) (w.drewN n):=fun n=>(R.aB ((aj.refl aJ w).drewN n)).BN hi hlen
 have Zo:(Instr.lookup 94 (.map (some bm)) (.string (V.B i).sym) false).run Tryz.prog w.drew=.ok (PP (V.bk i)) w.drew:=L1 1;have v0:CC w bv 0 (.map (some bm)):=R.dC.cell 0;have o2:w.cell? ⟨b,2,none⟩=some (.string (V.B i).sym):=by rw[<-dR];exact ho.cell 2
 have hinj:ry ((V.B i).n t) ((V.B i).h t):=((R.aY i hi).side t t2).inj;have sub:∀x,dG ((V.B i).leave V.om t k) t x->dG (V.B i) t x:=by
  rintro x (h | ⟨l,hl,e⟩)
  ·exact .inl h
  ·obtain⟨k',hk',e',_⟩:=oU (om:=V.om) hinj hk l hl;exact .inr ⟨k',hk',by rw[e,e']⟩
 have Zc:=au (fun (W:World) (kk:aj aJ w W)=>qJ (V.bk i) (V.B i) V.om (fun x=>∃id,V.aW id=some x) t k W ((R.aB kk).tu hi) t2 hk (by rw[hkb];exact hside));have HC:=au (fun (W:World) (m:Mk W (V.bk i) ((V.B i).leave V.om t k) V.om (fun x=>∃id,V.aW id=some x))=>vT (V.bk i) b _ V.om _ q W m ⟨id,hid⟩);have HF:=au (fun (W:World) (k:aj aJ w W)=>kR (V.bk i) (V.B i) V.om (dm (V.om b)) s W ((R.aB k).aY i hi) hs (by rw[show (dm (V.om b)).side=(V.om b).side from rfl,hside,ht];omega));have HO:Hid (∀W,aj aJ w W->df W b (V.om b) ix):=fun W k=>k.aF ho aU
 have hnew:∀x,x<2->∀l,l<((V.B i).leave V.om t k).n x->((V.B i).leave V.om t k).h x l≠b:=by
  intro x hx l hl;by_cases e:x=t
  ·subst e;obtain⟨k',_,e',hne⟩:=oU (om:=V.om) hinj hk l hl;rw[e',<-hkb];exact hne
  ·simp only[Bk.leave,ah _ _ e]at hl ⊢;rw[<-hkb];have hd:=(R.aY i hi).vZ;have:(x=0/\t=1)\/(x=1/\t=0):=by omega
   rcases this with⟨rfl,rfl⟩ | ⟨rfl,rfl⟩
   ·exact hd l k hl hk
   ·exact fun e=>hd k l hk hl e.symm
 have RJ:Hid (∀W,Mk W (V.bk i) ((V.B i).leave V.om t k) (aQ V.om b (fM (V.om b) q)) (fun x=>∃id,V.aW id=some x)->CT 122 #[PP (V.bk i),PP b] W fun e w'=>∃fn cp,e=.returned (.func fn #[] cp)/\lC w' (V.bk i) b (V.om b).place W.heap.size fn cp/\(∀x,yA (.func fn #[] cp) x->x<W.heap.size+3) /\
  ∃g cap',Mk w' (V.bk i) (((V.B i).leave V.om t k).rest (cZ V i b q) t b g cap') (cZ V i b q) (fun x=>∃id,V.aW id=some x)/\aj (fun x=>x=V.bk i\/x=b\/dG ((V.B i).leave V.om t k) t x) W w'/\(ig ((V.B i).sl t)=some g\/W.heap.size+3<=g)):=by
  intro W m;obtain⟨ix',ho'⟩:=m.bz b ⟨id,hid⟩;refine (GY (V.bk i) b t ((V.B i).leave V.om t k) _ ix' W m.aY ho' t2 (by rw[ai];exact hside) hnew (by simp only[Bk.leave,ai];omega)).mono ?_;rintro e w' ⟨fn,cp,rfl,hcl,hcp,g,cap',hb,kk,hg⟩;rw[ai]at hb hcl;refine⟨fn,cp,rfl,hcl,hcp,g,cap',m.rest (dK:=cZ V i b q) t2 ⟨id,hid⟩ (fun x hx=>by unfold cZ;rw[ah _ _ hx]) hb kk,kk,hg⟩
 have RI:Hid (∀W w3 fn cp,aj aJ w W->aj (fun x=>x=V.bk i\/dG (V.B i) t x) W w3->Mk w3 (V.bk i) ((V.B i).leave V.om t k) V.om (fun x=>∃id,V.aW id=some x)->jo w3 (V.bk i) b W.heap.size fn cp ->
  CT 53 #[PP bv,.slice (some ⟨w3.heap.size,0,none⟩) 1 1] (w3.alloc (.cells #[.func fn #[] cp] 1)) fun e w'=>e=.returned (.tuple #[])/\Mk w' (V.bk i) ((V.B i).leave V.om t k) V.om (fun x=>∃id,V.aW id=some x) /\
   ∃lZ,bG w' bv bm bo (V.lg.aX [.left b]) lZ/\(∀x,lZ.F x->V.lm.F x\/w.heap.size<=x)/\(∀x,gY lZ.av lZ.ac x->gY V.lm.av V.lm.ac x\/w.heap.size<=x)/\aj (fun x=>(x=V.bk i\/x=b\/dG (V.B i) t x)\/gY V.lm.av V.lm.ac x) w w'/\∃uI,iw w' bv bk lw tq old (V.lg.aX [.left b]).nt dW lZ uI/\RQ w cl uI):=by
  intro W w3 fn cp kW k3 m3 f3;have h3:=(R.aP.aB kW).jF k3 (fun x h=>((R.aB kW).tu hi).gK (by
   rcases h with h | h
   ·exact .inl h
   ·exact .inr (.inr ⟨t,t2,h⟩)))
  have c3:=(hC.aB kW).aC k3 (uo ((R.aB kW).tu hi) t2 uP);have i3:bU w3 bv bk lw (.left b) (.func fn #[] cp):=⟨_,_,rfl,by
   show jo w3 (bk b) b lw fn cp;rw[hbk];exact f3.mono (by have:=kW.size;omega)⟩
  refine (nJ bv bm bo V.lg V.lm (.left b) fn cp w3 bk lw tq old dW cl h3 c3 (fun h=>by cases h) i3 hna iJ (by omega)).mono ?_;rintro e w' ⟨rfl,bM,a1,a2,a3,a4,a5⟩;have kk:aj (fun x=>(x=V.bk i\/x=b\/dG (V.B i) t x)\/gY V.lm.av V.lm.ac x) w w3:=kW.bI.trans (k3.mono (fun x h=>.inl (h.imp_right .inr)));exact⟨rfl,m3.jw h3 (a3.mono (fun _ h=>QF h)),bM,a1,fun x hx=>(a2 x hx).imp_right (fun h=>Nat.le_trans kk.size h),fun x hx=>(a4 x hx).imp_right (fun h=>Nat.le_trans kk.size h),kk.trans (a3.mono (fun _ h=>.inr h)),_,a5,[.func fn #[] cp],rfl,fun c hc x hx=>by
   rw[List.mem_singleton]at hc;subst hc;exact (show bU w3 bv (fun _=>V.bk i) w.heap.size (.left b) (.func fn #[] cp) from ⟨_,_,rfl,f3.mono kW.size⟩).cap hx |>.1⟩
 have HN2:Hid (∀w3 lZ uI w4 w5 xB cp4 Ro cp5 g cap',iw w3 bv bk lw tq old (V.lg.aX [.left b]).nt dW lZ uI->RQ w cl uI->Mk w3 (V.bk i) ((V.B i).leave V.om t k) V.om (fun x=>∃id,V.aW id=some x)->bG w3 bv bm bo (V.lg.aX [.left b]) lZ->(∀x,lZ.F x->V.lm.F x\/w.heap.size<=x)->(∀x,gY lZ.av lZ.ac x->gY V.lm.av V.lm.ac x\/w.heap.size<=x)->aj (fun x=>(x=V.bk i\/x=b\/dG (V.B i) t x)\/gY V.lm.av V.lm.ac x) w w3 ->
  aj (fun x=>x=b) w3 w4->Mk w4 (V.bk i) ((V.B i).leave V.om t k) (aQ V.om b (fM (V.om b) q)) (fun x=>∃id,V.aW id=some x)->Mk w5 (V.bk i) (((V.B i).leave V.om t k).rest (cZ V i b q) t b g cap') (cZ V i b q) (fun x=>∃id,V.aW id=some x)->aj (fun x=>x=V.bk i\/x=b\/dG ((V.B i).leave V.om t k) t x) w4 w5->(ig ((V.B i).sl t)=some g\/w4.heap.size+3<=g)->jS w4 b (V.om b) w3.heap.size xB cp4->lC w5 (V.bk i) b (V.om b).place w4.heap.size Ro cp5->(∀x,yA (.func Ro #[] cp5) x->x<w4.heap.size+3) ->
  CT 53 #[PP bv,.slice (some ⟨w5.heap.size,0,none⟩) 2 2] (w5.alloc (.cells #[.func xB #[] cp4,.func Ro #[] cp5] 1)) fun e w'=>e=.returned (.tuple #[])/\∃g cap',Mk w' (V.bk i) (((V.B i).leave V.om t k).rest (cZ V i b q) t b g cap') (cZ V i b q) (fun x=>∃id,V.aW id=some x)/\vW bv bm bo V.lg V.lm bk lw tq old dW (LK w cl g) [.left b,.gp b (V.om b),.fC b (V.om b).place] w w'/\aj (fun x=>(x=V.bk i\/x=b\/dG (V.B i) t x)\/gY V.lm.av V.lm.ac x) w w'/\(ig ((V.B i).sl t)=some g\/w.heap.size<=g)):=by
  intro w3 lZ uI w4 w5 xB cp4 Ro cp5 g cap' IU ZR m3 h3 f3 c3 Ea k4 m4 m5 k5 hg f4 f5 hcp;have h4:=h3.jF k4 (fun x h=>by subst h;exact m3.gK (.inr (.inl ⟨id,hid⟩)));have h5:=h4.jF k5 (fun x h=>m4.gK (by
   rcases h with h | h | h
   ·exact .inl h
   ·exact .inr (.inl ⟨id,by rw[h];exact hid⟩)
   ·exact .inr (.inr ⟨t,t2,h⟩)))
  have sz3:=Ea.size;have cu4:=IU.aC k4 (jL m3 ⟨id,hid⟩);have o5:nP w4 lw tq (fun x=>x=V.bk i\/x=b\/dG ((V.B i).leave V.om t k) t x):=fun x h=>by
   rcases h with h | h | h
   ·exact GI m4 x h
   ·exact jL m4 ⟨id,hid⟩ x h
   ·exact uo m4 t2 uP x (.inr h)
  have cu5:=cu4.aC k5 o5;have i4:bU w4 bv bk lw (.gp b (V.om b)) (.func xB #[] cp4):=⟨_,_,rfl,f4.mono (by omega)⟩;have i4':=i4.aC (q:=tq) (fun h=>by cases h) k5 o5;have i5:bU w5 bv bk lw (.fC b (V.om b).place) (.func Ro #[] cp5):=⟨_,_,rfl,by
   show lC w5 (bk b) b _ lw Ro cp5;rw[hbk];exact f5.mono (by have:=k4.size;omega)⟩
  have hgn:LK w cl g (uI++[.func xB #[] cp4,.func Ro #[] cp5]):=by
   obtain⟨nw,rfl,hnw⟩:=ZR;refine⟨nw++[.func xB #[] cp4,.func Ro #[] cp5],by rw[List.append_assoc],fun c hc x hx=>?_⟩;have hcb:w.heap.size<=x/\x<w4.heap.size+3:=by
    simp only[List.mem_append,List.mem_cons,List.not_mem_nil,or_false]at hc;rcases hc with h | h | h
    ·exact⟨hnw c h x hx,by have:=cu4.cap (List.mem_append.2 (.inr h)) hx;omega⟩
    ·subst h;have:=(show bU w4 bv bk w.heap.size (.gp b (V.om b)) (.func xB #[] cp4) from ⟨_,_,rfl,f4.mono sz3⟩).cap hx;omega
    ·subst h;exact⟨((show bU w5 bv (fun _=>V.bk i) w.heap.size (.fC b (V.om b).place) (.func Ro #[] cp5) from ⟨_,_,rfl,f5.mono (by have:=k4.size;omega)⟩).cap hx).1,hcp x hx⟩
   refine⟨hcb.1,?_⟩;rcases hg with h | h
   ·have:=uP g h;omega
   ·omega
  refine (wJ bv bm bo (V.lg.aX [.left b]) lZ (.gp b (V.om b)) (.fC b (V.om b).place) xB Ro cp4 cp5 w5 bk lw tq old dW uI h5 cu5 (fun h=>by cases h) (fun h=>by cases h) i4' i5 hna iJ (by simp only[Lg.aX,List.length_append,List.length_cons,List.length_nil];omega)).mono ?_;rintro e w' ⟨rfl,bM,a1,a2,a3,-,a5⟩;rw[JC]at a1 a5;have Gh:=Ea.trans (k4.mono (fun x h=>.inl (.inr (.inl h))));have Rw:=Gh.trans (k5.mono (fun x h=>by
   rcases h with h | h | h
   ·exact .inl (.inl h)
   ·exact .inl (.inr (.inl h))
   ·exact .inl (.inr (.inr (sub x h)))))
  refine⟨rfl,g,cap',m5.jw h5 (a3.mono (fun _ h=>QF h)),⟨bM,_,a1,fun x hx=>?_,a5,hgn⟩,Rw.from (a3.mono (fun x h=>(c3 x h).imp_left (fun h=>.inr h))),hg.imp_right (fun h=>by have:=Gh.size;omega)⟩;rcases a2 x hx with h | h
  ·exact f3 x h
  ·exact .inr (Nat.le_trans Rw.size h)
 have WA:=au hf;have e0:decide (0<(V.om b).aO)=true:=by simp[h0]
 obtain⟨HE0,HR,HKB⟩:=eY e0 hr hkb;rw[hkb]at Zc;clear hC uP R hid dR hside hf ho hs h0 e0 hr hnew hn hkb hinj sub;go_enter Tryz.func75,Tryz.ntmps75;go_wp2;go_quiet (fail);have hq:aj aJ w (w.drewN nq):=(aj.refl aJ w).drewN _;obtain⟨w1,hw1⟩:=kL (w.drewN nq);rw[<-hw1]at hq ⊢;clear hw1 L1 Zo v0 o2;go_wp2_with fail;refine (qQ b _ ix w1 (ae HO w1 hq)).mono ?_;rintro e w1' ⟨rfl,YK⟩;rw[YK];clear YK w1';rw[ae HR];have hoc:=ae HO _ hq;obtain⟨Zx,Yv,Zy,Zz,ZA,ZB,ZC⟩:=hoc.c7;clear hoc;go_wp2_with fail;refine (ae HF _ hq).mono ?_;rintro e w2 ⟨rfl,k2⟩;rw[ae WA];simp only[ji];have hq2:=hq.trans k2;have o8:CC w2 b 8 (II (V.om b).aO):=(ae HO _ hq2).cell 8;have e0:=ae HE0;clear Zx Yv Zy Zz ZA ZB ZC;go_wp2_with fail;refine (ae Zc _ hq2).mono ?_;rintro e w3 ⟨oP,cp3,rfl,f3,m3,k3⟩;clear o8 e0;go_wp2_with fail;refine (ae RI _ w3 oP cp3 hq2 k3 m3 f3).mono ?_;rintro e w3' ⟨rfl,m3',lZ,h3',f3',c3',adr,uI,IU,ZR⟩;go_wp2_with fail;refine (ae HC _ m3').mono ?_;rintro e w4 ⟨xB,cp4,rfl,f4,m4,k4⟩;go_wp2_with fail;refine (ae RJ w4 m4).mono ?_;rintro e w5 ⟨Ro,cp5,rfl,f5,hcp,g,cap',m5,k5,hg⟩;go_wp2_with fail;refine (ae HN2 w3' lZ uI w4 w5 xB cp4 Ro cp5 g cap' IU ZR m3' h3' f3' c3' adr k4 m4 m5 k5 hg f4 f5 hcp).mono ?_;rintro e wz ⟨rfl,rz⟩;go_wp2;go_end0;exact⟨rfl,rz⟩
theorem ES{q:Bool}:¬o7 q 105:=by rintro (e | e | e | e | e | e | e | e | ⟨_,e⟩) <;> exact absurd e (by decide)
theorem uS{q:Bool}:¬o7 q 100:=by rintro (e | e | e | e | e | e | e | e | ⟨_,e⟩) <;> exact absurd e (by decide)
theorem BZ{q:Bool}:¬o7 q 62:=by rintro (e | e | e | e | e | e | e | e | ⟨_,e⟩) <;> exact absurd e (by decide)
def je(bv bm bo:Nat)(V:aS)(Q:aS->World->Prop)(w w':World):Prop :=
 ∃V2,dS w' bv bm bo V2/\Q V2 w'/\Zp V.lg V2.lg 3/\(∀b c t,aA w b c t->(t=105\/t=35\/t=103)->aA w' b c t)/\V2.aW=V.aW/\aj (dO bv bm bo V) w w'/\∀x,dO bv bm bo V2 x->dO bv bm bo V x\/w.heap.size<=x
theorem Zw(bv bm bo k tb bx by':Nat)(V:aS)(N:Int)(x:Tg)(again:Bool)(w:World)(R:dS w bv bm bo V)(ZK:kP w)(hN:N-1=(k:Int))(hx:V.lg.tr[k]?=some x)(htb:V.lm.tb[k]?=some tb)(hlen:V.lg.tr.length<=1000000000)(hlen2:V.lg.tp.length<1000000000)(hput:pg x V.lg.day=0)
 (acZ:V.aW x.t.qC=some bx) (abL:V.aW x.t.iK=some by') (hw1:(Lit.int .i64 x.t.qC).wf=true) (hw2:(Lit.int .i64 x.t.iK).wf=true) (bk:Nat->Nat) (Q2 Q3:aS->World->Prop) (hQ2:∀V2 W W',Q2 V2 W->aj aJ W W'->Q2 V2 W') (hna:V.lg.ud+V.lg.na<3000000) (hpl:Hid (V.lg.pl=xu N again))
 (h2:∀w1 Hz Yw,dS w1 bv bm bo { V with lg:=V.lg.iH k tb x.t,lm:=Hz }->w.heap.size<=w1.heap.size->iw w1 bv bk w.heap.size true (V.lm.ac.map Prod.snd) (V.lg.iH k tb x.t).nt V.lm.tb Hz Yw->CT 75 #[PP bv,PP bx,II x.t.aK,.bool again] w1 fun e w'=>e=.returned (.tuple #[])/\je bv bm bo { V with lg:=V.lg.iH k tb x.t,lm:=Hz } Q2 w1 w')
 (h3:∀V2 w2,Q2 V2 w2->w.heap.size<=w2.heap.size->dS w2 bv bm bo V2->V2.aW=V.aW->V2.lg.na=V.lg.na+1->V2.lg.nt.length<=4->CT 75 #[PP bv,PP by',II x.t.aK,.bool again] w2 fun e w'=>e=.returned (.tuple #[])/\je bv bm bo V2 Q3 w2 w') :
 CT 39 #[PP bv,II N,.bool again] w fun e w'=>e=.returned (II 0) /\
  ∃V3,Q3 V3 w'/\V3.aW=V.aW/\dS w' bv bm bo V3/\Zp (V.lg.iH k tb x.t) V3.lg 6/\aj (dO bv bm bo V) w w'/\∀y,dO bv bm bo V3 y->dO bv bm bo V y\/w.heap.size<=y:=by
 have bN:iI N:=by
  have hk:=(List.getElem?_eq_some_iff.1 hx).1;exact⟨by omega,by omega⟩
 have k0:aj aJ w (w.alloc (.cells #[PP bv] 35)):=(aj.refl aJ w).alloc _;have hT:=yt bv bm bo k tb V.lg V.lm N x _ (R.aP.aB k0) hN hx htb hlen;rw[hput]at hT;simp only[if_true]at hT;have HT:=au hT;clear hT;have hF:V.lm.F tb:=lN (List.mem_of_getElem? htb);have Xh:=aA.new w #[PP bv] 35;have lv:=R.dC.lt;obtain⟨HR,HX,Ym,HFt,HH2,HH3⟩:=zC R hx htb hF h2 h3;clear hput hx htb R hF h2 h3;go_enter Tryz.func39,Tryz.ntmps39;go_wp2_with fail;refine (ae HT).mono ?_;rintro e w1 ⟨rfl,k1⟩;have Wj:aj aJ w w1:=k0.trans k1;obtain⟨DT,zT⟩:=kL (w1.alloc (.cells #[PP tb] 103));have Wi:aj aJ w DT:=by rw[zT];exact Wj.alloc _
 have Yu:aA DT w.heap.size #[PP bv] 35:=by rw[zT];exact (k1.aF Xh aU).alloc _
 have bt1:aA DT w1.heap.size #[PP tb] 103:=by rw[zT];exact aA.new _ _ _
 have R1:=(ae HR).aB Wi;have tb1:aA DT tb x.cells 105:=R1.aP.aP.aF k tb x (ae Ym) (ae HX);have nY:=au (oK bv bm bo V.lg V.lm (xu N again) DT R1.aP hna (AY N again bN).1 (AY N again bN).2 (ae hpl));have HLn:=au (Nk N again DT (ZK.aB Wi) bN);have Q8:CC DT w.heap.size 0 (PP bv):=Yu.cell 0;obtain⟨HB1,HV1,HLo⟩:=eY Yu R1.dC R1.aP;have xv1:CC w1 w.heap.size 0 (PP bv):=(k1.aF Xh aU).cell 0;have HW:=au zT;have l1:w.heap.size<w1.heap.size:=by have:=Wj.size;have:=k1.size;simp at this;omega
 clear zT k1;generalize xu N again=ln at nY HLn;have noB:∀wb,aj (fun b=>b=bv\/V.lm.av.ownBlock=some b\/V.lm.jv.ownBlock=some b) DT wb->wb.cell? ⟨w.heap.size,0,none⟩=some (PP bv):=fun wb kb=>(kb.aF (ae HB1) (by
  rintro (e | e | e)
  ·exact aA.ne (ae HB1) (ae HV1) (by decide) e
  ·exact bY (ae HLo).aP.act.row e (ae HB1) (by decide) rfl
  ·exact bY (ae HLo).aP.kV e (ae HB1) (by decide) rfl)).cell 0
 have aaV:=au noB;clear noB;go_wp2;rw[<-ae HW];go_region_held3 (fun w'=>w'.cell? ⟨w.heap.size,0,none⟩=some (PP bv)) (go_keep)
  (first
    | (go_at_call 72;refine (ae HLn _ ?cc).mono ?_;(case cc=>repeat (first | exact aj.refl _ _ | refine aj.drew ?_));rintro e wl ⟨rfl,hk⟩;have z0:=hk.cell (p:=⟨w.heap.size,0,none⟩) Q8 aU;have Ij:=au hk;clear hk)
    | (go_at_call 51;refine (ae nY _ ?cc).mono ?_;(case cc=>repeat (first | exact ae Ij | refine aj.drew ?_));rintro e wb ⟨rfl,l9,hLb,sW,-,vk,kb,hac⟩;have Ye:=au hac;clear hac;have z0:=ae aaV wb kb;have LH:=au hLb;have Ih:=au sW;have Fz:=au kb;have PG:=au vk;clear hLb sW kb vk))
 rename_i TB;clear TB z0 Q8 HLn Ij aaV;have hLb:=ae LH;have sW:=ae Ih;have kb:=ae Fz;have vk:=ae PG;clear LH Ih Fz PG HB1 HV1 HLo;have nob:∀{b c t},aA DT b c t->t≠100->t≠109->t≠5->aA wb b c t:=fun h h0 h1 h2=>kb.aF h (by
  rintro (e | e | e)
  ·exact aA.ne h R1.dC h0 e
  ·exact bY R1.aP.aP.act.row e h (fun e=>h1 e.symm) rfl
  ·exact bY R1.aP.aP.kV e h (fun e=>h2 e.symm) rfl)
 have PR:=nob Yu (by decide) (by decide) (by decide);have WY:=nob bt1 (by decide) (by decide) (by decide);have VH:=nob tb1 (by decide) (by decide) (by decide);have hL2:bG (wb.setCell ⟨tb,7,none⟩ (.bool false)) bv bm bo (V.lg.begun.mP k x.t) l9:=hLb.mP (ae HX) (by rw[vk.1];exact ae Ym);have xtb:CC wb w1.heap.size 0 (PP tb):=WY.cell 0;have t7:=VH.cell 7;have f7:=VH.frozen 7;simp only[Tg.cells]at t7;simp at t7;obtain⟨w2,TY⟩:=kL (wb.setCell ⟨tb,7,none⟩ (.bool false));have k2:aj (fun y=>y=tb) wb w2:=by rw[TY];exact (aj.refl (fun y=>y=tb) wb).setCell (p:=⟨tb,7,none⟩) (.inl rfl) _
 have tb2:aA w2 tb (Tg.cells ⟨x.t,false⟩) 105:=by rw[TY];exact VH.set 7 _
 rw[<-TY]at hL2;have bv2:=k2.aF PR (fun e=>aA.ne PR VH (by decide) e);have bt2:=k2.aF WY (fun e=>aA.ne WY VH (by decide) e);have kF2:aj (fun y=>y=bv\/V.lm.F y) w w2:=(Wi.bI.trans (kb.mono (fun y h=>h.imp_right (fun h=>h.elim (fun h=>jZ h) (fun h=>.inr (.inl (.inr h))))))).trans (k2.mono (fun y h=>.inr (by rw[h];exact ae HFt)));have yM:∀y,l9.F y->V.lm.F y\/w.heap.size<=y:=fun y h=>(sW y h).imp_right (fun h=>Nat.le_trans Wi.size h)
 have Yz:iw w2 bv bk w.heap.size true (V.lm.ac.map Prod.snd) V.lg.begun.nt V.lm.tb l9 []:=(iw.begun (w:=wb) vk (ae Ye)).aC k2 (nP.gK (fun y hy=>by subst hy;exact⟨_,105,VH,ES⟩));obtain⟨aaQ,HTV⟩:=dE Yz vk.2;clear Yz;have hT2:=yY bv bm bo _ l9 2 x.t w2.drew (hL2.aB (aj.refl aJ w2).drew) (by simp only[Lg.mP,Lg.begun];exact hlen2);simp only[Tr.val]at hT2;obtain⟨HT2,HW2,HL2⟩:=eY hT2 TY hL2;have x2:CC w2 w.heap.size 0 (PP bv):=bv2.cell 0;have y2:CC w2 w1.heap.size 0 (PP tb):=bt2.cell 0;obtain⟨d0,d1,d2,d3,d4,d5,d6,-⟩:=tb2.c8;have LG:Hid (∀w3,aj (fun b=>b=bv\/l9.pv.ownBlock=some b) w2.drew w3->∀{b c t},aA w2 b c t->t≠100->t≠62->aA w3 b c t):=fun w3 kc b c t h h0 h1=>kc.aF h.drew (by
  rintro (e | e)
  ·exact aA.ne h hL2.dC h0 e
  ·exact bY hL2.aP.iO e h (fun e=>h1 e.symm) rfl)
 obtain⟨HBv,HBt,Zf,HKF,Yg⟩:=BD bv2 bt2 tb2 kF2 yM;clear hT2 TY hL2 k2 tb2 bv2 bt2 PR WY VH nob kb hLb sW vk tb1 bt1 Yu R1 Wi Wj nY HW HT yM kF2 xv1 k0 Xh;go_wp2;rw[<-ae HW2];clear xtb t7 f7;go_region_held3 (fun w'=>w'.cell? ⟨w.heap.size,0,none⟩=some (PP bv)/\w'.cell? ⟨w1.heap.size,0,none⟩=some (PP tb)/\w'.cell? ⟨tb,0,none⟩=some (II x.t.num)/\w'.cell? ⟨tb,1,none⟩=some (.string x.t.sym)/\w'.cell? ⟨tb,2,none⟩=some (II x.t.af)/\w'.cell? ⟨tb,3,none⟩=some (II x.t.aK)/\w'.cell? ⟨tb,4,none⟩=some (II x.t.qC)/\w'.cell? ⟨tb,5,none⟩=some (II x.t.iK)/\w'.cell? ⟨tb,6,none⟩=some (II x.t.day)) (go_keep)
  (first | (go_at_call 73;refine (ae HT2).mono ?_;rintro e w3 ⟨rfl,lZ,c1,c2,c3,c4,c5⟩;have HC4:=au c4;have VZ:=au c5;clear c4 c5;have bv3:=ae LG w3 c3 (ae HBv) (by decide) (by decide);have bt3:=ae LG w3 c3 (ae HBt) (by decide) (by decide);have X3:=ae LG w3 c3 (ae Zf) (by decide) (by decide);have a0:CC w3 w.heap.size 0 (PP bv):=bv3.cell 0;have a1:CC w3 w1.heap.size 0 (PP tb):=bt3.cell 0;have b0:CC w3 tb 0 (II x.t.num):=X3.cell 0;have b1:CC w3 tb 1 (.string x.t.sym):=X3.cell 1;have b2:CC w3 tb 2 (II x.t.af):=X3.cell 2;have b3:CC w3 tb 3 (II x.t.aK):=X3.cell 3;have b4:CC w3 tb 4 (II x.t.qC):=X3.cell 4;have b5:CC w3 tb 5 (II x.t.iK):=X3.cell 5;have b6:CC w3 tb 6 (II x.t.day):=X3.cell 6;have Rj:=au c1;have HC2:=au c2;have RG:=au c3;have HV3:=au bv3;have HT3:=au bt3;have aaZ:=au X3;clear c1 c2 c3 bv3 bt3 X3))
 rename_i TB;clear TB x2 y2 d0 d1 d2 d3 d4 d5 d6 HT2;have IU:iw w3 bv bk w.heap.size true (V.lm.ac.map Prod.snd) V.lg.begun.nt V.lm.tb lZ []:=by
  have h:=(((ae aaQ).aB (aj.refl aJ w2).drew).aC (ae RG) (nP.gK (fun y hy=>by
   rcases hy with e | e
   ·subst e;exact⟨_,100,(ae HL2).dC.drew,uS⟩
   ·obtain⟨cs,hcs⟩:=bK (ae HL2).aP.iO e;exact⟨cs,62,hcs.drew,BZ⟩))).U3 (m':=lZ) (ae HC4) (fun d hd=>by simp[Lg.begun]at hd)
  rw[(ae VZ).1,(ae aaQ).tb]at h;exact h
 have i3:bU w3 bv bk w.heap.size (.jU tb) (.func (.func 74) #[] #[PP w1.heap.size,PP w.heap.size]):=⟨_,_,rfl,rfl,w.heap.size,w1.heap.size,Nat.le_refl _,by omega,rfl,ae HV3,ae HT3⟩;have rZ:=au (nJ bv bm bo _ lZ (.jU tb) (.func 74) #[PP w1.heap.size,PP w.heap.size] w3 bk w.heap.size true _ _ _ (ae Rj) IU (fun _=>rfl) i3 (by show 0<V.lg.na+1;omega) (by show V.lg.na+1<=3000000;omega) (by show 0+1<1000000000;omega) (fun _ g hg=>(ae HR).aP.aP.lt (.inl (by rw[<-ae HTV,<-(ae VZ).2];exact hg))));have hF3:∀y,lZ.F y->V.lm.F y\/w.heap.size<=y:=fun y h=>by
  rcases ae HC2 y h with h | h
  ·exact ae Yg y h
  ·exact .inr (Nat.le_trans (ae HKF).size h)
 have kF3:aj (fun y=>y=bv\/V.lm.F y) w w3:=(ae HKF).drew.from ((ae RG).mono (fun y h=>by
  rcases h with h | h
  ·exact .inl (.inl h)
  ·exact (ae Yg y (.inr (.inl (.inl h)))).imp_left .inr))
 obtain⟨HF3,Zb⟩:=dE hF3 kF3;clear hF3 kF3 IU i3;go_wp2_with fail;refine (ae rZ).mono ?_;rintro e w4 ⟨rfl,YO,c1,c2,c3,-,c6⟩;change iw w4 bv bk w.heap.size true (V.lm.ac.map Prod.snd) (V.lg.iH k tb x.t).nt V.lm.tb YO _ at c6;change bG w4 bv bm bo (V.lg.iH k tb x.t) YO at c1;have WU:∀{b c t},aA w3 b c t->t≠109->t≠1->aA w4 b c t:=fun h h0 h1=>c3.aF h (fun e=>by
  obtain⟨c',t',hc,ht'⟩:=(ae Rj).aP.act.gK e;exact aA.ne h hc (by rcases ht' with rfl | rfl;exact h0;exact h1) rfl)
 have bv4:=WU (ae HV3) (by decide) (by decide);have bt4:=WU (ae HT3) (by decide) (by decide);have tb4:=WU (ae aaZ) (by decide) (by decide);have kF4:aj (fun y=>y=bv\/V.lm.F y) w w4:=(ae Zb).from (c3.mono (fun y h=>(ae HF3 y (DR h)).imp_left .inr));have hF4:∀y,YO.F y->V.lm.F y\/w.heap.size<=y:=fun y h=>by
  rcases c2 y h with h | h
  ·exact ae HF3 y h
  ·exact .inr (Nat.le_trans (ae Zb).size h)
 have R4:dS w4 bv bm bo { V with lg:=V.lg.iH k tb x.t,lm:=YO }:=(ae HR).jM c1 kF4;have R4d:=R4.aB (aj.refl aJ w4).drew;have L1:=R4d.xO (id:=x.t.qC) hw1;simp only[acZ,ji]at L1;have H2:=au (ae HH2 w4.drew YO _ R4d (by have:=kF4.size;have:=(aj.refl aJ w4).drew.size;omega) (c6.aB (aj.refl aJ w4).drew));have c1':CC w4 bv 1 (.map (some bo)):=R4.dC.cell 1;have x4:CC w4 w.heap.size 0 (PP bv):=bv4.cell 0;have y4:CC w4 w1.heap.size 0 (PP tb):=bt4.cell 0;have d3:CC w4 tb 3 (II x.t.aK):=tb4.cell 3;have d4:CC w4 tb 4 (II x.t.qC):=tb4.cell 4;obtain⟨acD,acB,acJ,aaU,HF4⟩:=BD bv4 bt4 tb4 kF4 hF4;clear c1 c2 c3 c6 WU bv4 bt4 tb4 kF4 hF4 R4 R4d a0 a1 b0 b1 b2 b3 b4 b5 b6 rZ Rj HC2 RG HV3 HT3 aaZ LG HBv HBt Zf HKF Yg HF3 Zb HL2 HW2;go_wp2;go_region_held3 (fun w'=>w'.cell? ⟨w.heap.size,0,none⟩=some (PP bv)/\w'.cell? ⟨w1.heap.size,0,none⟩=some (PP tb)/\w'.cell? ⟨bv,1,none⟩=some (.map (some bo))/\w'.cell? ⟨tb,4,none⟩=some (II x.t.qC)/\w'.cell? ⟨tb,3,none⟩=some (II x.t.aK)) (go_keep)
  (first | (go_at_call 75;refine (ae H2).mono ?_;rintro e w5 ⟨rfl,V5,R5,q5,l5,p5,o5,k5,f5⟩;have bv5:=p5 _ _ _ (ae acD).drew (by simp);have bt5:=p5 _ _ _ (ae acB).drew (by simp);have tb5:=p5 _ _ _ (ae acJ).drew (by simp);have g0:CC w5 w.heap.size 0 (PP bv):=bv5.cell 0;have g1:CC w5 w1.heap.size 0 (PP tb):=bt5.cell 0;have g2:CC w5 bv 1 (.map (some bo)):=R5.dC.cell 1;have g3:CC w5 tb 3 (II x.t.aK):=tb5.cell 3;have g4:CC w5 tb 4 (II x.t.qC):=tb5.cell 4;have g5:CC w5 tb 5 (II x.t.iK):=tb5.cell 5;have zo:=au R5;have HQ5:=au q5;have HL5:=au l5;have HO5:=au o5;have Lh:=au k5;have HF5:=au f5;have acE:=au bv5;have acC:=au bt5;have acK:=au tb5;clear R5 q5 l5 p5 o5 k5 f5 bv5 bt5 tb5))
 rename_i TB;clear TB c1' x4 y4 d3 d4 L1 H2;have R5d:=(ae zo).aB (aj.refl aJ w5).drew;have L2:=R5d.xO (id:=x.t.iK) hw2;have hs5:V5.aW x.t.iK=some by':=by rw[ae HO5];exact abL
 simp only[hs5,ji]at L2;have H3:=au (ae HH3 V5 w5.drew (hQ2 _ _ _ (ae HQ5) (aj.refl aJ w5).drew) (by have h1:=(ae aaU).size;have h2:=(ae Lh).size;have h3:=(aj.refl aJ w4).drew.size;have h4:=(aj.refl aJ w5).drew.size;omega) R5d (ae HO5) (by rw[(ae HL5).2.2.2.1];rfl) (by have:=(ae HL5).2.2.2.2;simp only[Lg.iH,Lg.aX,Lg.told,Lg.mP,Lg.begun,List.nil_append,List.length_cons,List.length_nil]at this;omega));clear R5d hs5;go_wp2;go_region_held3 (fun w'=>w'.cell? ⟨w.heap.size,0,none⟩=some (PP bv)/\w'.cell? ⟨w1.heap.size,0,none⟩=some (PP tb)/\w'.cell? ⟨bv,1,none⟩=some (.map (some bo))/\w'.cell? ⟨tb,5,none⟩=some (II x.t.iK)/\w'.cell? ⟨tb,3,none⟩=some (II x.t.aK)) (go_keep)
  (first | (go_at_call 75;refine (ae H3).mono ?_;rintro e w6 ⟨rfl,V6,R6,q6,l6,p6,o6,k6,f6⟩;have bv6:=p6 _ _ _ (ae acE).drew (by simp);have bt6:=p6 _ _ _ (ae acC).drew (by simp);have tb6:=p6 _ _ _ (ae acK).drew (by simp);have j0:CC w6 w.heap.size 0 (PP bv):=bv6.cell 0;have j1:CC w6 w1.heap.size 0 (PP tb):=bt6.cell 0;have j2:CC w6 bv 1 (.map (some bo)):=R6.dC.cell 1;have j3:CC w6 tb 3 (II x.t.aK):=tb6.cell 3;have j5:CC w6 tb 5 (II x.t.iK):=tb6.cell 5;have WI:=au R6;have HQ6:=au q6;have HL6:=au l6;have HO6:=au o6;have HK6:=au k6;have HF6:=au f6;clear R6 q6 l6 p6 o6 k6 f6 bv6 bt6 tb6))
 clear g0 g1 g2 g3 g4 g5 L2 H3;go_wp2;go_ret;have hft:∀y,dO bv bm bo { V with lg:=V.lg.iH k tb x.t,lm:=YO } y->dO bv bm bo V y\/w.heap.size<=y:=fun y hy=>by
  rcases hy with h | h | h | h | h | h
  ·exact .inl (.inl h)
  ·exact .inl (.inr (.inl h))
  ·exact .inl (lN h)
  ·exact .inl (jZ h)
  ·exact .inl (qm h)
  ·exact (ae HF4 y h).imp_left (fun h=>vU h)
 have YM:aj (dO bv bm bo V) w w4:=(ae aaU).mono (fun y h=>h.elim (fun h=>.inl h) (fun h=>vU h));have Wn:aj (dO bv bm bo V) w w5:=YM.drew.from ((ae Lh).mono hft);have f5:∀y,dO bv bm bo V5 y->dO bv bm bo V y\/w.heap.size<=y:=fun y h=>by
  rcases ae HF5 y h with h | h
  ·exact hft y h
  ·exact .inr (Nat.le_trans YM.size h)
 have kk6:aj (dO bv bm bo V) w w6:=Wn.drew.from ((ae HK6).mono f5);obtain⟨a1,a2,a3,a4,a5⟩:=ae HL5;obtain⟨b1,b2,b3,b4,b5⟩:=ae HL6;refine⟨rfl,V6,ae HQ6,(ae HO6).trans (ae HO5),ae WI,⟨b1.trans a1,b2.trans a2,b3.trans a3,b4.trans a4,by omega,by omega,b5.2.2.trans a5.2.2⟩,kk6,fun y hy=>?_⟩;rcases ae HF6 y hy with h | h
 ·exact f5 y h
 ·exact .inr (Nat.le_trans Wn.size h)
end Go.Proofs.YtigaphnafnpfnaaGreatDoor
