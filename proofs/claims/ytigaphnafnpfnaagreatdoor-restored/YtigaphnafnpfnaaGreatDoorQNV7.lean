import Derived.Test.YtigaphnafnpfnaaGreatDoorQNV5
set_option linter.unusedVariables false
set_option linter.unusedSimpArgs false
set_option maxHeartbeats 8000000
set_option maxRecDepth 100000
namespace Go.Proofs.YtigaphnafnpfnaaGreatDoor
open Go.RowKit
attribute [local go_sem ↓] Go.wp_at_zero Go.wp_at_succ
def Au(bv bb oc s t bm bo:Nat)(st0:MS)(lm:Lm)(L:Nat->Prop)(w:World)(bk:Nat->Nat)(lw:Nat)(old:List (List Value))(dW:List Nat)(v:Value)(w':World):Prop :=
 v=lG (st0.om oc) (aH oc (mF oc s st0) oc) st0.tr (mF oc s st0).tr /\
   ∃g cap' bM,Mk w' bb (eu oc t g cap' (mF oc s st0)) (aH oc (mF oc s st0)) L/\bG w' bv bm bo (iC oc (mF oc s st0)) bM/\(∀b,bM.F b->lm.F b\/w.heap.size<=b) /\
    aj (fun b=>b=bv\/lm.F b\/b=bb\/b=oc\/dG st0.B s b\/dG st0.B t b) w w'/\(ig (st0.B.sl t)=some g\/w.heap.size<=g)/\∃ext cl',iw w' bv bk lw false old (iC oc (mF oc s st0)).nt (dW++ext) bM cl'/\(dB ((mF oc s st0).om oc)=true->∀c∈cl',∀b,yA c b->b≠g)
theorem SL(bv bb oc s t bm bo:Nat)(st0:MS)(lm:Lm)(L:Nat->Prop)(w:World)(bk:Nat->Nat)(lw:Nat)(old:List (List Value))(dW:List Nat)(cl:List Value)(hC:iw w bv bk lw false old st0.lg.nt dW lm cl)(Wh:lw<=w.heap.size)(hbk:∀k,k<st0.B.n s->bk (st0.B.h s k)=bb)(acX:bk oc=bb)(uP:∀y,y<2->∀g,ig (st0.B.sl y)=some g->g<lw)(hv:bG w bv bm bo st0.lg lm)(m:Mk w bb st0.B st0.om L)(hs:s<2)(ht:t=1-s)(hc:L oc)(iv:sV oc s st0)
 (hnew:∀t,t<2->∀k,k<st0.B.n t->st0.B.h t k≠oc) (hn:st0.B.n t<1000) (M:Nat) (hM:M<1000000000) (hl1:st0.lg.tp.length+mu oc s st0<=M) (hl2:st0.lg.tr.length+mu oc s st0<=M) (hna:0<st0.lg.na) (iJ:st0.lg.na<=3000000) (hl3:st0.lg.nt.length+4 * mu oc s st0+1<=M) :
 CT 70 #[PP bv,PP bb,PP oc] w fun e w' =>
  ∃v,e=.returned v/\Au bv bb oc s t bm bo st0 lm L w bk lw old dW v w':=by
 obtain⟨ixc,hoc⟩:=m.bz oc hc;obtain⟨c0,c1,c2,c3,c4,c5,c6,c7,c8,c9,c10,c11⟩:=hoc.Oy;obtain⟨cA,hn0⟩:=mf st0.lg.tr.length;obtain⟨pa0,pc0,abO⟩:=hv.aP.zg hn0;have v2:w.cell? ⟨bv,2,none⟩=some (.slice pa0 cA pc0):=by rw[<-abO];exact hv.dC.cell 2
 have HN0:=au hn0;have lo:=hoc.lt;have lv:=hv.dC.lt;have lb:=m.aY.aF.lt;obtain⟨w1,hw1⟩:∃w1,w1=((w.alloc (.cells #[II 0,II 0,II 0,II 0,II 0] 87)).alloc (.cells #[II (st0.om oc).id,II (st0.om oc).aG,.string (st0.om oc).sym,II (st0.om oc).side,II (st0.om oc).kind,II (st0.om oc).af,II (st0.om oc).aK,II (st0.om oc).entered,II (st0.om oc).aO,II (st0.om oc).filled,II (st0.om oc).bZ,II (st0.om oc).exp] 54)).drew:=⟨_,rfl⟩;have HW:=au hw1;have k1:aj aJ w w1:=by rw[hw1];exact (((aj.refl aJ w).alloc _).alloc _).drew
 have hr1:aA w1 w.heap.size lX 87:=by rw[hw1];exact ((aA.new w _ _).alloc _).drew
 have hs1:aA w1 (w.heap.size+1) (jd (st0.om oc)) 54:=by
  rw[hw1];have:=(aA.new (w.alloc (.cells #[II 0,II 0,II 0,II 0,II 0] 87)) (jd (st0.om oc)) 54).drew;have e:(w.alloc (.cells #[II 0,II 0,II 0,II 0,II 0] 87)).heap.size=w.heap.size+1:=by simp
  rw[e]at this;exact this
 have m1:=m.aC k1 aU (fun _ _ x=>x) (fun _ _ _ _ x=>x);have hv1:=hv.aB k1;have TK:=XH bv bb oc s bm bo st0 lm L w1 bk lw old dW cl (hC.aB k1) (by have:=k1.size;omega) hbk (uP s hs) hv1 m1 hs hc iv M hM hl1 hl2 hna iJ (by omega);have abx:=qM oc s (mu oc s st0) st0;have RI:Hid (0<(mF oc s st0).lg.na/\(mF oc s st0).lg.na<=3000000/\(mF oc s st0).lg.nt.length+1<1000000000):=by
  show _/\_;unfold mF;rw[abx.1];exact⟨hna,iJ,by omega⟩
 have UX:∀b,w.heap.size<=b->¬(b=bv\/lm.F b\/b=bb\/b=oc\/dG st0.B s b):=by
  rintro b hb (h | h | h | h | h)
  ·omega
  ·have:=hv.aP.lt h;omega
  ·omega
  ·omega
  ·have:=m.Fb hs h;omega
 obtain⟨HX,HT⟩:=dE TK ht;clear TK hw1 ht hn0 abO hM hl1 hl2 hl3 hna iJ abx;go_enter Tryz.func70,Tryz.ntmps70;go_wp2;go_region;rw[<-ae HW];clear c0 c1 c2 c3 c4 c5 c6 c7 c8 c9 c10 c11 v2;go_wp2_with fail;refine (ae HX).mono ?_;rintro e w2 ⟨rfl,m2,⟨XC,hv2,hf2,ext,Yx,Yz⟩,iv2,k2⟩;have HC2:=au Yz;clear Yz hC;have hr2:=k2.aF hr1 (UX _ (Nat.le_refl _));have hs2:=k2.aF hs1 (UX _ (by omega));obtain⟨ix2,ho2⟩:=m2.bz oc hc;have o8:CC w2 oc 8 (II ((mF oc s st0).om oc).aO):=ho2.cell 8;by_cases hp:0<((mF oc s st0).om oc).aO
 ·cases hr:fD ((mF oc s st0).om oc).kind
  ·have LJ:Hid (dB ((mF oc s st0).om oc)=false):=by show _=_;unfold dB;rw[hr];simp
   go_wp2_with fail;refine (qQ oc _ ix2 w2 ho2).mono ?_;rintro e w2' ⟨rfl,rfl⟩;rw[hr];clear hr;go_wp2_with fail;refine (mV bb oc _ _ L _ m2 hc).mono ?_;rintro e wq ⟨Lr,Lp,rfl,fq,mq,kq⟩;have jK:aQ (mF oc s st0).om oc { (mF oc s st0).om oc with aO:=0,bZ:=wrap64 (((mF oc s st0).om oc).bZ+((mF oc s st0).om oc).aO) }=aH oc (mF oc s st0):=by unfold aH;rw[ae LJ];rfl
   rw[jK]at mq;have hB:eu oc t 0 0 (mF oc s st0)=(mF oc s st0).B:=by unfold eu;rw[ae LJ];rfl
   rw[<-hB]at mq;have hgq:∃g cap',Mk wq bb (eu oc t g cap' (mF oc s st0)) (aH oc (mF oc s st0)) L/\(ig (st0.B.sl t)=some g\/w.heap.size<=g):=⟨w.heap.size,0,by have e:eu oc t w.heap.size 0 (mF oc s st0)=eu oc t 0 0 (mF oc s st0):=by { unfold eu;rw[ae LJ];rfl };rw[e];exact mq,.inr (Nat.le_refl _)⟩;have EH:aj (fun b=>b=bv\/lm.F b\/b=bb\/b=oc\/dG st0.B s b\/dG st0.B t b) w wq:=(k1.bI.trans (k2.mono (fun b h=>by rcases h with h | h | h | h | h;exact .inl h;exact .inr (.inl h);exact lN h;exact jZ h;exact qm h))).trans (kq.mono (fun b h=>jZ h));have hvq:=hv2.jF kq (fun b h=>by subst h;exact m2.gK (.inr (.inl hc)));have hrq:=kq.aF hr2 (fun h=>by omega);have TU:=kq.aF hs2 (fun h=>by omega);have oq:nP w2' lw false (fun b=>b=oc):=jL m2 hc;have cq:=(ae HC2).aC kq oq;have iq:bU wq bv bk lw (.gp oc ((mF oc s st0).om oc)) (.func Lr #[] Lp):=⟨_,_,rfl,fq.mono (by have:=k1.size;have:=k2.size;omega)⟩;have rZ:=au (nJ bv bm bo _ XC (.gp oc ((mF oc s st0).om oc)) Lr Lp wq bk lw false old _ _ hvq cq (fun h=>by cases h) iq (ae RI).1 (ae RI).2.1 (ae RI).2.2);obtain⟨Yo,Yj,V4⟩:=eY hvq hgq EH;clear mq kq hgq hvq EH oq cq iq fq;go_wp2_with fail;refine (ae rZ).mono ?_;rintro e w3 ⟨rfl,lZ,hv3,hf3,OM,-,c3⟩;have k3:aj (fun b=>XC.F b) wq w3:=OM.mono (fun b h=>DR h);have hvq:=ae Yo;have EH:=ae V4;have hG:iC oc (mF oc s st0)=(mF oc s st0).lg.aX [.gp oc ((mF oc s st0).om oc)]:=by unfold iC;rw[ae LJ];rfl
   rw[<-hG]at hv3 c3;obtain⟨gq,SC,mq,hgq⟩:=ae Yj;have m3:=mq.jw hvq (k3.mono (fun b h=>.inr h));have hgc:∃g cap',Mk w3 bb (eu oc t g cap' (mF oc s st0)) (aH oc (mF oc s st0)) L/\(ig (st0.B.sl t)=some g\/w.heap.size<=g)/\∃uI,iw w3 bv bk lw false old (iC oc (mF oc s st0)).nt (dW++ext) lZ uI/\(dB ((mF oc s st0).om oc)=true->∀c∈uI,∀b,yA c b->b≠g):=⟨gq,SC,m3,hgq,_,c3,fun hw=>by rw[ae LJ]at hw;cases hw⟩;have BC:∀b,XC.F b->lm.F b\/w.heap.size<=b:=fun b hb=>(hf2 b hb).imp_right (fun h=>Nat.le_trans k1.size h)
   have vg:∀b,lZ.F b->lm.F b\/w.heap.size<=b:=fun b hb=>by
    rcases hf3 b hb with h | h
    ·exact BC b h
    ·exact .inr (Nat.le_trans EH.size h)
   have kc:aj (fun b=>b=bv\/lm.F b\/b=bb\/b=oc\/dG st0.B s b\/dG st0.B t b) w w3:=EH.from (k3.mono (fun b h=>(BC b h).imp_left (fun h=>.inr (.inl h))));have hr3:=k3.aF hrq (hvq.aP.ne hrq (by decide) (by decide) (by decide) (by decide) (by decide));have hs3:=k3.aF TU (hvq.aP.ne TU (by decide) (by decide) (by decide) (by decide) (by decide));clear hvq mq EH hrq TU hf3 rZ hG Yo Yj V4 hgq BC OM c3;clear jK hB;obtain⟨ix3,ho3⟩:=m3.bz oc hc;obtain⟨F1,R1,C1,hF1,hR1,Tu⟩:∃F1 R1 C1,F1=(aH oc (mF oc s st0) oc).filled/\R1=(aH oc (mF oc s st0) oc).aO/\C1=(aH oc (mF oc s st0) oc).bZ:=⟨_,_,_,rfl,rfl,rfl⟩;obtain⟨F0,C0,cB,Tv,hC0,hT1⟩:∃F0 C0 cB,F0=(st0.om oc).filled/\C0=(st0.om oc).bZ/\(mF oc s st0).lg.tr.length=cB:=⟨_,_,_,rfl,rfl,rfl⟩;have a8:w3.cell? ⟨oc,8,none⟩=some (II R1):=by rw[hR1];exact ho3.cell 8
   have a9:w3.cell? ⟨oc,9,none⟩=some (II F1):=by rw[hF1];exact ho3.cell 9
   have a10:w3.cell? ⟨oc,10,none⟩=some (II C1):=by rw[Tu];exact ho3.cell 10
   have b9:w3.cell? ⟨w.heap.size+1,9,none⟩=some (II F0):=by rw[Tv];exact hs3.cell 9
   have b10:w3.cell? ⟨w.heap.size+1,10,none⟩=some (II C0):=by rw[hC0];exact hs3.cell 10
   have l1:w.heap.size+1<w3.heap.size:=hs3.lt;have l2:oc<w3.heap.size:=ho3.lt;have fin:∀w' v,v=lG (st0.om oc) (aH oc (mF oc s st0) oc) st0.tr (mF oc s st0).tr->aj (fun b=>b=w.heap.size) w3 w'->Au bv bb oc s t bm bo st0 lm L w bk lw old dW v w':=by
    intro w' v hv' kw;obtain⟨g,cap',hm,hg,uI,IU,hcg⟩:=hgc;refine⟨hv',g,cap',lZ,hm.aC kw (by omega) (fun b hb e=>?_) (fun x hx b hb e=>?_),hv3.aC kw (by omega) (fun b hb e=>hv3.aP.ne hr3 (by decide) (by decide) (by decide) (by decide) (by decide) (e▸hb)),vg,?_,hg,ext,uI,IU.aC kw (nP.gK (fun b h=>by subst h;exact⟨_,87,hr3,by unfold o7;decide⟩)),hcg⟩
    ·obtain⟨ix,ho⟩:=hm.bz b hb;subst e;exact aA.ne ho hr3 (by decide) rfl
    ·subst e;exact (hm.aY.side x hx).ne hr3 (by decide) hb
    ·exact kc.from (kw.mono (fun b h=>.inr (by omega)))
   have HFin:=au fin;have nn1:=World.new_ne w3 _ a8;have nn2:=World.new_ne w3 _ a9;have nn3:=World.new_ne w3 _ a10;have nn4:=World.new_ne w3 _ b9;have nn5:=World.new_ne w3 _ b10;have Io:Hid (lG (st0.om oc) (aH oc (mF oc s st0) oc) st0.tr (mF oc s st0).tr=if (cA:Int)<(cB:Int) then mM (wrap64 (F1-F0)) R1 (wrap64 (C1-C0)) (wrap64 ((cA:Int)+1)) (wrap64 ((cB:Int)-(cA:Int))) else mM (wrap64 (F1-F0)) R1 (wrap64 (C1-C0)) 0 0):=by
    show _=_;unfold lG MS.tr;rw[hF1,hR1,Tu,Tv,hC0,hT1,ae HN0]
   obtain⟨pa1,pc1,Je⟩:=hv3.aP.zg (n:=cB) (by rw[tY];exact hT1);have v2:w3.cell? ⟨bv,2,none⟩=some (.slice pa1 cB pc1):=by rw[<-Je];exact hv3.dC.cell 2
   clear Je;have l3:bv<w3.heap.size:=hv3.dC.lt;have HR3:=au hr3;obtain⟨w4,hw4⟩:=kL ((w3.alloc (.cells #[II (wrap64 (F1-F0)),II R1,II (wrap64 (C1-C0)),II 0,II 0] 87)).drew);have hn4:aA w4 w3.heap.size #[II (wrap64 (F1-F0)),II R1,II (wrap64 (C1-C0)),II 0,II 0] 87:=by rw[hw4];exact (aA.new w3 _ _).drew
   have k4:aj aJ w3 w4:=by rw[hw4];exact ((aj.refl aJ w3).alloc _).drew
   obtain⟨HW4,Oo⟩:=dE hw4 hn4;clear hw4;have Py:=au k4;have HR4:=au (k4.aF hr3 aU);have v4:=k4.cell v2 aU;have HV4:=au v4;clear hn4 v4;clear fin hF1 hR1 Tu Tv hC0 hT1 m3 hv3 hf2 vg hs3 ho3 hs2 hr2 m2 hv2 iv2 ho2 k2 k1 hr1 hs1 m1 hv1 HW HX UX hnew iv hgc kc hr3 m hv hn hoc k3 k4;go_wp2;go_region_held3 (fun w'=>w'.cell? ⟨oc,8,none⟩=some (II R1)/\w'.cell? ⟨oc,9,none⟩=some (II F1)/\w'.cell? ⟨oc,10,none⟩=some (II C1)/\w'.cell? ⟨w.heap.size+1,9,none⟩=some (II F0)/\w'.cell? ⟨w.heap.size+1,10,none⟩=some (II C0)) (go_keep) (fail);rw[zi (F1-F0),zi (C1-C0),<-ae HW4];rename_i hS4;clear hS4 nn1 nn2 nn3 nn4 nn5;clear a8 a9 a10 b9 b10 v2;have v4:=ae HV4;obtain⟨n0,n1,n2,n3,n4⟩:=(ae Oo).c5;have f3:=(ae Oo).frozen 3;have f4:=(ae Oo).frozen 4;have hne:w3.heap.size≠w.heap.size:=by omega
   have hvn:bv≠w3.heap.size:=by omega
   by_cases htr:(cA:Int)<(cB:Int)
   ·obtain⟨w5,hw5⟩:=kL (((w4.setCell ⟨w3.heap.size,3,none⟩ (II (wrap64 ((cA:Int)+1)))).setCell ⟨w3.heap.size,4,none⟩ (II (wrap64 ((cB:Int)-(cA:Int))))).drew);have TL:aA w5 w3.heap.size #[II (wrap64 (F1-F0)),II R1,II (wrap64 (C1-C0)),II (wrap64 ((cA:Int)+1)),II (wrap64 ((cB:Int)-(cA:Int)))] 87:=by rw[hw5];exact (((ae Oo).set 3 _).set 4 _).drew
    have k5:aj (fun b=>b=w3.heap.size) w4 w5:=by rw[hw5];exact (((aj.refl (fun b=>b=w3.heap.size) w4).setCell (p:=⟨w3.heap.size,3,none⟩) (.inl rfl) _).setCell (p:=⟨w3.heap.size,4,none⟩) (.inl rfl) _).drew
    obtain⟨Zh,HN5⟩:=dE hw5 TL;have zo:=au (k5.aF (ae HR4) (fun e=>hne e.symm));obtain⟨Lh,HH⟩:=dE k5 htr;clear hw5 TL k5;go_wp2;go_region;rw[<-ae Zh];clear v4 n0 n1 n2 n3 n4 f3 f4;obtain⟨n0,n1,n2,n3,n4⟩:=(ae HN5).c5;obtain⟨r0,r1,r2,r3,r4⟩:=(ae zo).c5;have q0:=(ae zo).frozen 0;have q1:=(ae zo).frozen 1;have q2:=(ae zo).frozen 2;have q3:=(ae zo).frozen 3;have q4:=(ae zo).frozen 4;clear htr;go_wp2;refine bodyPost_ret (v:=mM (wrap64 (F1-F0)) R1 (wrap64 (C1-C0)) (wrap64 ((cA:Int)+1)) (wrap64 ((cB:Int)-(cA:Int)))) (E8 _ w.heap.size _ _ _ _ _ _ rfl ?_) rfl ⟨_,rfl,ae HFin _ _ ?_ ?_⟩
    ·exact (((((ae zo).set 0 _).set 1 _).set 2 _).set 3 _).set 4 _
    ·rw[ae Io,if_pos (ae HH)]
    ·have kk:aj (fun b=>b=w.heap.size) w3 w5:=(ae Py).bI.from ((ae Lh).mono (fun b h=>.inr (by omega)));exact (((((kk).setCell (p:=⟨w.heap.size,0,none⟩) (.inl rfl) _).setCell (p:=⟨w.heap.size,1,none⟩) (.inl rfl) _).setCell (p:=⟨w.heap.size,2,none⟩) (.inl rfl) _).setCell (p:=⟨w.heap.size,3,none⟩) (.inl rfl) _).setCell (p:=⟨w.heap.size,4,none⟩) (.inl rfl) _
   ·have HH:=au htr;obtain⟨r0,r1,r2,r3,r4⟩:=(ae HR4).c5;have q0:=(ae HR4).frozen 0;have q1:=(ae HR4).frozen 1;have q2:=(ae HR4).frozen 2;have q3:=(ae HR4).frozen 3;have q4:=(ae HR4).frozen 4;clear f3 f4;go_wp2;refine bodyPost_ret (v:=mM (wrap64 (F1-F0)) R1 (wrap64 (C1-C0)) 0 0) (E8 _ w.heap.size _ _ _ _ _ _ rfl ?_) rfl ⟨_,rfl,ae HFin _ _ ?_ ?_⟩
    ·exact (((((ae HR4).set 0 _).set 1 _).set 2 _).set 3 _).set 4 _
    ·have:=ae HH;rw[ae Io,if_neg (by omega)]
    ·have kk:aj (fun b=>b=w.heap.size) w3 w4:=(ae Py).bI;exact (((((kk).setCell (p:=⟨w.heap.size,0,none⟩) (.inl rfl) _).setCell (p:=⟨w.heap.size,1,none⟩) (.inl rfl) _).setCell (p:=⟨w.heap.size,2,none⟩) (.inl rfl) _).setCell (p:=⟨w.heap.size,3,none⟩) (.inl rfl) _).setCell (p:=⟨w.heap.size,4,none⟩) (.inl rfl) _
  ·have LJ:Hid (dB ((mF oc s st0).om oc)=true):=by show _=_;unfold dB;rw[hr];simp[hp]
   have htt:=ae HT;have hF2:=jy oc s (mu oc s st0) st0;change (∀t,t≠s->(mF oc s st0).B.n t=st0.B.n t/\(mF oc s st0).B.h t=st0.B.h t)/\(mF oc s st0).B.sl=st0.B.sl/\(mF oc s st0).B.cap=st0.B.cap/\(mF oc s st0).B.sym=st0.B.sym/\(mF oc s st0).B.places=st0.B.places at hF2;have YC:(mF oc s st0).B.n t=st0.B.n t:=(hF2.1 t (by omega)).1;have I9:∀x,x<2->∀k,k<(mF oc s st0).B.n x->(mF oc s st0).B.h x k≠oc:=fun x hx k hk=>by
    by_cases e:x=s
    ·subst e;exact (iv2.mem k hk).2.2.2
    ·rw[(hF2.1 x e).1]at hk;rw[(hF2.1 x e).2];exact hnew x hx k hk
   obtain⟨HN2,HF2,HE2⟩:=eY YC hF2 I9;clear YC hF2 I9 htt;go_wp2_with fail;refine (qQ oc _ ix2 w2 ho2).mono ?_;rintro e w2' ⟨rfl,rfl⟩;rw[hr];clear hr;go_wp2_with fail;have htt:=ae HT;have YC:=ae HN2;have hF2:=ae HF2;have I9:=ae HE2;refine (GY bb oc t (mF oc s st0).B (mF oc s st0).om ix2 _ m2.aY ho2 (by omega) (by rw[iv2.side];omega) I9 (by rw[YC];exact hn)).mono ?_;rintro e wq ⟨Lr,Lp,rfl,fq,hq3,g,cap',hbq,kq,ZU⟩;have jK:aQ (mF oc s st0).om oc { (mF oc s st0).om oc with place:=wrap64 ((mF oc s st0).B.places+1) }=aH oc (mF oc s st0):=by unfold aH;rw[ae LJ];rfl
   rw[jK]at hbq;have mq:=m2.rest (dK:=aH oc (mF oc s st0)) (by omega) hc (fun b hb=>by rw[<-jK,ah _ _ hb]) hbq kq;have hB:(mF oc s st0).B.rest (aH oc (mF oc s st0)) t oc g cap'=eu oc t g cap' (mF oc s st0):=by unfold eu;rw[ae LJ];rfl
   rw[hB]at mq;have hgq:Mk wq bb (eu oc t g cap' (mF oc s st0)) (aH oc (mF oc s st0)) L/\(ig (st0.B.sl t)=some g\/w.heap.size<=g):=⟨mq,by
    rcases ZU with h | h
    ·left;rw[<-hF2.2.1];exact h
    ·right;have:=k1.size;have:=k2.size;omega⟩
   have sdt:∀b,dG (mF oc s st0).B t b->dG st0.B t b:=fun b h=>by
    unfold dG at h ⊢;rw[hF2.2.1,(hF2.1 t (by omega)).1,(hF2.1 t (by omega)).2]at h;exact h
   have EH:aj (fun b=>b=bv\/lm.F b\/b=bb\/b=oc\/dG st0.B s b\/dG st0.B t b) w wq:=(k1.bI.trans (k2.mono (fun b h=>by rcases h with h | h | h | h | h;exact .inl h;exact .inr (.inl h);exact lN h;exact jZ h;exact qm h))).trans (kq.mono (fun b h=>by rcases h with h | h | h;exact lN h;exact jZ h;exact vU (sdt b h)));have hvq:=hv2.jF kq (fun b h=>m2.gK (by rcases h with h | h | h;exact .inl h;exact .inr (.inl (h▸hc));exact .inr (.inr ⟨t,by omega,h⟩)));have aay:∀b,w.heap.size<=b->¬(b=bb\/b=oc\/dG (mF oc s st0).B t b):=by
    rintro b hb (h | h | h)
    ·omega
    ·omega
    ·have:=m.Fb (by omega) (sdt b h);omega
   have hrq:=kq.aF hr2 (aay _ (Nat.le_refl _));have TU:=kq.aF hs2 (aay _ (by omega));have oq:nP w2' lw false (fun b=>b=bb\/b=oc\/dG (mF oc s st0).B t b):=fun b h=>by
    rcases h with h | h | h
    ·exact GI m2 b h
    ·exact jL m2 hc b h
    ·exact uo m2 (by omega) (by rw[hF2.2.1];exact uP t (by omega)) b (.inr h)
   have cq:=(ae HC2).aC kq oq;have iq:bU wq bv bk lw (.fC oc ((mF oc s st0).om oc).place) (.func Lr #[] Lp):=⟨_,_,rfl,by
    show lC wq (bk oc) oc _ lw Lr Lp;rw[acX];exact fq.mono (by have:=k1.size;have:=k2.size;omega)⟩
   have hgn:∀c∈Yx++[.func Lr #[] Lp],∀b,yA c b->b≠g:=fun c hc2 b hb=>by
    have hcb:lw<=b/\b<w2'.heap.size+3:=by
     rcases List.mem_append.1 hc2 with h | h
     ·have:=(ae HC2).cap h hb;omega
     ·rw[List.mem_singleton]at h;subst h;exact⟨(iq.cap hb).1,hq3 b hb⟩
    rcases ZU with h | h
    ·have:=uP t (by omega) g (by rw[<-hF2.2.1];exact h);omega
    ·omega
   have HGN:=au hgn;have rZ:=au (nJ bv bm bo _ XC (.fC oc ((mF oc s st0).om oc).place) Lr Lp wq bk lw false old _ _ hvq cq (fun h=>by cases h) iq (ae RI).1 (ae RI).2.1 (ae RI).2.2);obtain⟨Yo,Yj,V4⟩:=eY hvq hgq EH;clear mq kq hgq hvq EH oq cq iq fq;go_wp2_with fail;refine (ae rZ).mono ?_;rintro e w3 ⟨rfl,lZ,hv3,hf3,OM,-,c3⟩;have k3:aj (fun b=>XC.F b) wq w3:=OM.mono (fun b h=>DR h);have hvq:=ae Yo;have EH:=ae V4;have hG:iC oc (mF oc s st0)=(mF oc s st0).lg.aX [.fC oc ((mF oc s st0).om oc).place]:=by unfold iC;rw[ae LJ];rfl
   rw[<-hG]at hv3 c3;obtain⟨gq,ac3⟩:=kL g;obtain⟨SC,abn⟩:=kL cap';subst ac3 abn;obtain⟨mq,hgq⟩:=ae Yj;have m3:=mq.jw hvq (k3.mono (fun b h=>.inr h));have hgc:∃g cap',Mk w3 bb (eu oc t g cap' (mF oc s st0)) (aH oc (mF oc s st0)) L/\(ig (st0.B.sl t)=some g\/w.heap.size<=g)/\∃uI,iw w3 bv bk lw false old (iC oc (mF oc s st0)).nt (dW++ext) lZ uI/\(dB ((mF oc s st0).om oc)=true->∀c∈uI,∀b,yA c b->b≠g):=⟨gq,SC,m3,hgq,_,c3,fun _=>ae HGN⟩;have BC:∀b,XC.F b->lm.F b\/w.heap.size<=b:=fun b hb=>(hf2 b hb).imp_right (fun h=>Nat.le_trans k1.size h)
   have vg:∀b,lZ.F b->lm.F b\/w.heap.size<=b:=fun b hb=>by
    rcases hf3 b hb with h | h
    ·exact BC b h
    ·exact .inr (Nat.le_trans EH.size h)
   have kc:aj (fun b=>b=bv\/lm.F b\/b=bb\/b=oc\/dG st0.B s b\/dG st0.B t b) w w3:=EH.from (k3.mono (fun b h=>(BC b h).imp_left (fun h=>.inr (.inl h))));have hr3:=k3.aF hrq (hvq.aP.ne hrq (by decide) (by decide) (by decide) (by decide) (by decide));have hs3:=k3.aF TU (hvq.aP.ne TU (by decide) (by decide) (by decide) (by decide) (by decide));clear hvq mq EH hrq TU hf3 rZ hG Yo Yj V4 hgq BC OM c3;clear jK hB hbq ZU sdt aay hF2 YC I9;clear HN2 HF2 HE2 htt;obtain⟨ix3,ho3⟩:=m3.bz oc hc;obtain⟨F1,R1,C1,hF1,hR1,Tu⟩:∃F1 R1 C1,F1=(aH oc (mF oc s st0) oc).filled/\R1=(aH oc (mF oc s st0) oc).aO/\C1=(aH oc (mF oc s st0) oc).bZ:=⟨_,_,_,rfl,rfl,rfl⟩;obtain⟨F0,C0,cB,Tv,hC0,hT1⟩:∃F0 C0 cB,F0=(st0.om oc).filled/\C0=(st0.om oc).bZ/\(mF oc s st0).lg.tr.length=cB:=⟨_,_,_,rfl,rfl,rfl⟩;have a8:w3.cell? ⟨oc,8,none⟩=some (II R1):=by rw[hR1];exact ho3.cell 8
   have a9:w3.cell? ⟨oc,9,none⟩=some (II F1):=by rw[hF1];exact ho3.cell 9
   have a10:w3.cell? ⟨oc,10,none⟩=some (II C1):=by rw[Tu];exact ho3.cell 10
   have b9:w3.cell? ⟨w.heap.size+1,9,none⟩=some (II F0):=by rw[Tv];exact hs3.cell 9
   have b10:w3.cell? ⟨w.heap.size+1,10,none⟩=some (II C0):=by rw[hC0];exact hs3.cell 10
   have l1:w.heap.size+1<w3.heap.size:=hs3.lt;have l2:oc<w3.heap.size:=ho3.lt;have fin:∀w' v,v=lG (st0.om oc) (aH oc (mF oc s st0) oc) st0.tr (mF oc s st0).tr->aj (fun b=>b=w.heap.size) w3 w'->Au bv bb oc s t bm bo st0 lm L w bk lw old dW v w':=by
    intro w' v hv' kw;obtain⟨g,cap',hm,hg,uI,IU,hcg⟩:=hgc;refine⟨hv',g,cap',lZ,hm.aC kw (by omega) (fun b hb e=>?_) (fun x hx b hb e=>?_),hv3.aC kw (by omega) (fun b hb e=>hv3.aP.ne hr3 (by decide) (by decide) (by decide) (by decide) (by decide) (e▸hb)),vg,?_,hg,ext,uI,IU.aC kw (nP.gK (fun b h=>by subst h;exact⟨_,87,hr3,by unfold o7;decide⟩)),hcg⟩
    ·obtain⟨ix,ho⟩:=hm.bz b hb;subst e;exact aA.ne ho hr3 (by decide) rfl
    ·subst e;exact (hm.aY.side x hx).ne hr3 (by decide) hb
    ·exact kc.from (kw.mono (fun b h=>.inr (by omega)))
   have HFin:=au fin;have nn1:=World.new_ne w3 _ a8;have nn2:=World.new_ne w3 _ a9;have nn3:=World.new_ne w3 _ a10;have nn4:=World.new_ne w3 _ b9;have nn5:=World.new_ne w3 _ b10;have Io:Hid (lG (st0.om oc) (aH oc (mF oc s st0) oc) st0.tr (mF oc s st0).tr=if (cA:Int)<(cB:Int) then mM (wrap64 (F1-F0)) R1 (wrap64 (C1-C0)) (wrap64 ((cA:Int)+1)) (wrap64 ((cB:Int)-(cA:Int))) else mM (wrap64 (F1-F0)) R1 (wrap64 (C1-C0)) 0 0):=by
    show _=_;unfold lG MS.tr;rw[hF1,hR1,Tu,Tv,hC0,hT1,ae HN0]
   obtain⟨pa1,pc1,Je⟩:=hv3.aP.zg (n:=cB) (by rw[tY];exact hT1);have v2:w3.cell? ⟨bv,2,none⟩=some (.slice pa1 cB pc1):=by rw[<-Je];exact hv3.dC.cell 2
   clear Je;have l3:bv<w3.heap.size:=hv3.dC.lt;have HR3:=au hr3;obtain⟨w4,hw4⟩:=kL ((w3.alloc (.cells #[II (wrap64 (F1-F0)),II R1,II (wrap64 (C1-C0)),II 0,II 0] 87)).drew);have hn4:aA w4 w3.heap.size #[II (wrap64 (F1-F0)),II R1,II (wrap64 (C1-C0)),II 0,II 0] 87:=by rw[hw4];exact (aA.new w3 _ _).drew
   have k4:aj aJ w3 w4:=by rw[hw4];exact ((aj.refl aJ w3).alloc _).drew
   obtain⟨HW4,Oo⟩:=dE hw4 hn4;clear hw4;have Py:=au k4;have HR4:=au (k4.aF hr3 aU);have v4:=k4.cell v2 aU;have HV4:=au v4;clear hn4 v4;clear fin hF1 hR1 Tu Tv hC0 hT1 m3 hv3 hf2 vg hs3 ho3 hs2 hr2 m2 hv2 iv2 ho2 k2 k1 hr1 hs1 m1 hv1 HW HX UX hnew iv hgc kc hr3 m hv hn hoc k3 k4;go_wp2;go_region_held3 (fun w'=>w'.cell? ⟨oc,8,none⟩=some (II R1)/\w'.cell? ⟨oc,9,none⟩=some (II F1)/\w'.cell? ⟨oc,10,none⟩=some (II C1)/\w'.cell? ⟨w.heap.size+1,9,none⟩=some (II F0)/\w'.cell? ⟨w.heap.size+1,10,none⟩=some (II C0)) (go_keep) (fail);rw[zi (F1-F0),zi (C1-C0),<-ae HW4];rename_i hS4;clear hS4 nn1 nn2 nn3 nn4 nn5;clear a8 a9 a10 b9 b10 v2;have v4:=ae HV4;obtain⟨n0,n1,n2,n3,n4⟩:=(ae Oo).c5;have f3:=(ae Oo).frozen 3;have f4:=(ae Oo).frozen 4;have hne:w3.heap.size≠w.heap.size:=by omega
   have hvn:bv≠w3.heap.size:=by omega
   by_cases htr:(cA:Int)<(cB:Int)
   ·obtain⟨w5,hw5⟩:=kL (((w4.setCell ⟨w3.heap.size,3,none⟩ (II (wrap64 ((cA:Int)+1)))).setCell ⟨w3.heap.size,4,none⟩ (II (wrap64 ((cB:Int)-(cA:Int))))).drew);have TL:aA w5 w3.heap.size #[II (wrap64 (F1-F0)),II R1,II (wrap64 (C1-C0)),II (wrap64 ((cA:Int)+1)),II (wrap64 ((cB:Int)-(cA:Int)))] 87:=by rw[hw5];exact (((ae Oo).set 3 _).set 4 _).drew
    have k5:aj (fun b=>b=w3.heap.size) w4 w5:=by rw[hw5];exact (((aj.refl (fun b=>b=w3.heap.size) w4).setCell (p:=⟨w3.heap.size,3,none⟩) (.inl rfl) _).setCell (p:=⟨w3.heap.size,4,none⟩) (.inl rfl) _).drew
    obtain⟨Zh,HN5⟩:=dE hw5 TL;have zo:=au (k5.aF (ae HR4) (fun e=>hne e.symm));obtain⟨Lh,HH⟩:=dE k5 htr;clear hw5 TL k5;go_wp2;go_region;rw[<-ae Zh];clear v4 n0 n1 n2 n3 n4 f3 f4;obtain⟨n0,n1,n2,n3,n4⟩:=(ae HN5).c5;obtain⟨r0,r1,r2,r3,r4⟩:=(ae zo).c5;have q0:=(ae zo).frozen 0;have q1:=(ae zo).frozen 1;have q2:=(ae zo).frozen 2;have q3:=(ae zo).frozen 3;have q4:=(ae zo).frozen 4;clear htr;go_wp2;refine bodyPost_ret (v:=mM (wrap64 (F1-F0)) R1 (wrap64 (C1-C0)) (wrap64 ((cA:Int)+1)) (wrap64 ((cB:Int)-(cA:Int)))) (E8 _ w.heap.size _ _ _ _ _ _ rfl ?_) rfl ⟨_,rfl,ae HFin _ _ ?_ ?_⟩
    ·exact (((((ae zo).set 0 _).set 1 _).set 2 _).set 3 _).set 4 _
    ·rw[ae Io,if_pos (ae HH)]
    ·have kk:aj (fun b=>b=w.heap.size) w3 w5:=(ae Py).bI.from ((ae Lh).mono (fun b h=>.inr (by omega)));exact (((((kk).setCell (p:=⟨w.heap.size,0,none⟩) (.inl rfl) _).setCell (p:=⟨w.heap.size,1,none⟩) (.inl rfl) _).setCell (p:=⟨w.heap.size,2,none⟩) (.inl rfl) _).setCell (p:=⟨w.heap.size,3,none⟩) (.inl rfl) _).setCell (p:=⟨w.heap.size,4,none⟩) (.inl rfl) _
   ·have HH:=au htr;obtain⟨r0,r1,r2,r3,r4⟩:=(ae HR4).c5;have q0:=(ae HR4).frozen 0;have q1:=(ae HR4).frozen 1;have q2:=(ae HR4).frozen 2;have q3:=(ae HR4).frozen 3;have q4:=(ae HR4).frozen 4;clear f3 f4;go_wp2;refine bodyPost_ret (v:=mM (wrap64 (F1-F0)) R1 (wrap64 (C1-C0)) 0 0) (E8 _ w.heap.size _ _ _ _ _ _ rfl ?_) rfl ⟨_,rfl,ae HFin _ _ ?_ ?_⟩
    ·exact (((((ae HR4).set 0 _).set 1 _).set 2 _).set 3 _).set 4 _
    ·have:=ae HH;rw[ae Io,if_neg (by omega)]
    ·have kk:aj (fun b=>b=w.heap.size) w3 w4:=(ae Py).bI;exact (((((kk).setCell (p:=⟨w.heap.size,0,none⟩) (.inl rfl) _).setCell (p:=⟨w.heap.size,1,none⟩) (.inl rfl) _).setCell (p:=⟨w.heap.size,2,none⟩) (.inl rfl) _).setCell (p:=⟨w.heap.size,3,none⟩) (.inl rfl) _).setCell (p:=⟨w.heap.size,4,none⟩) (.inl rfl) _
 ·have LJ:Hid (dB ((mF oc s st0).om oc)=false):=by show _=_;unfold dB;simp[hp]
  go_wp2_with fail;refine (mV bb oc _ _ L _ m2 hc).mono ?_;rintro e wq ⟨Lr,Lp,rfl,fq,mq,kq⟩;have jK:aQ (mF oc s st0).om oc { (mF oc s st0).om oc with aO:=0,bZ:=wrap64 (((mF oc s st0).om oc).bZ+((mF oc s st0).om oc).aO) }=aH oc (mF oc s st0):=by unfold aH;rw[ae LJ];rfl
  rw[jK]at mq;have hB:eu oc t 0 0 (mF oc s st0)=(mF oc s st0).B:=by unfold eu;rw[ae LJ];rfl
  rw[<-hB]at mq;have hgq:∃g cap',Mk wq bb (eu oc t g cap' (mF oc s st0)) (aH oc (mF oc s st0)) L/\(ig (st0.B.sl t)=some g\/w.heap.size<=g):=⟨w.heap.size,0,by have e:eu oc t w.heap.size 0 (mF oc s st0)=eu oc t 0 0 (mF oc s st0):=by { unfold eu;rw[ae LJ];rfl };rw[e];exact mq,.inr (Nat.le_refl _)⟩;have EH:aj (fun b=>b=bv\/lm.F b\/b=bb\/b=oc\/dG st0.B s b\/dG st0.B t b) w wq:=(k1.bI.trans (k2.mono (fun b h=>by rcases h with h | h | h | h | h;exact .inl h;exact .inr (.inl h);exact lN h;exact jZ h;exact qm h))).trans (kq.mono (fun b h=>jZ h));have hvq:=hv2.jF kq (fun b h=>by subst h;exact m2.gK (.inr (.inl hc)));have hrq:=kq.aF hr2 (fun h=>by omega);have TU:=kq.aF hs2 (fun h=>by omega);have oq:nP w2 lw false (fun b=>b=oc):=jL m2 hc;have cq:=(ae HC2).aC kq oq;have iq:bU wq bv bk lw (.gp oc ((mF oc s st0).om oc)) (.func Lr #[] Lp):=⟨_,_,rfl,fq.mono (by have:=k1.size;have:=k2.size;omega)⟩;have rZ:=au (nJ bv bm bo _ XC (.gp oc ((mF oc s st0).om oc)) Lr Lp wq bk lw false old _ _ hvq cq (fun h=>by cases h) iq (ae RI).1 (ae RI).2.1 (ae RI).2.2);obtain⟨Yo,Yj,V4⟩:=eY hvq hgq EH;clear mq kq hgq hvq EH oq cq iq fq;go_wp2_with fail;refine (ae rZ).mono ?_;rintro e w3 ⟨rfl,lZ,hv3,hf3,OM,-,c3⟩;have k3:aj (fun b=>XC.F b) wq w3:=OM.mono (fun b h=>DR h);have hvq:=ae Yo;have EH:=ae V4;have hG:iC oc (mF oc s st0)=(mF oc s st0).lg.aX [.gp oc ((mF oc s st0).om oc)]:=by unfold iC;rw[ae LJ];rfl
  rw[<-hG]at hv3 c3;obtain⟨gq,SC,mq,hgq⟩:=ae Yj;have m3:=mq.jw hvq (k3.mono (fun b h=>.inr h));have hgc:∃g cap',Mk w3 bb (eu oc t g cap' (mF oc s st0)) (aH oc (mF oc s st0)) L/\(ig (st0.B.sl t)=some g\/w.heap.size<=g)/\∃uI,iw w3 bv bk lw false old (iC oc (mF oc s st0)).nt (dW++ext) lZ uI/\(dB ((mF oc s st0).om oc)=true->∀c∈uI,∀b,yA c b->b≠g):=⟨gq,SC,m3,hgq,_,c3,fun hw=>by rw[ae LJ]at hw;cases hw⟩;have BC:∀b,XC.F b->lm.F b\/w.heap.size<=b:=fun b hb=>(hf2 b hb).imp_right (fun h=>Nat.le_trans k1.size h)
  have vg:∀b,lZ.F b->lm.F b\/w.heap.size<=b:=fun b hb=>by
   rcases hf3 b hb with h | h
   ·exact BC b h
   ·exact .inr (Nat.le_trans EH.size h)
  have kc:aj (fun b=>b=bv\/lm.F b\/b=bb\/b=oc\/dG st0.B s b\/dG st0.B t b) w w3:=EH.from (k3.mono (fun b h=>(BC b h).imp_left (fun h=>.inr (.inl h))));have hr3:=k3.aF hrq (hvq.aP.ne hrq (by decide) (by decide) (by decide) (by decide) (by decide));have hs3:=k3.aF TU (hvq.aP.ne TU (by decide) (by decide) (by decide) (by decide) (by decide));clear hvq mq EH hrq TU hf3 rZ hG Yo Yj V4 hgq BC OM c3;clear jK hB;obtain⟨ix3,ho3⟩:=m3.bz oc hc;obtain⟨F1,R1,C1,hF1,hR1,Tu⟩:∃F1 R1 C1,F1=(aH oc (mF oc s st0) oc).filled/\R1=(aH oc (mF oc s st0) oc).aO/\C1=(aH oc (mF oc s st0) oc).bZ:=⟨_,_,_,rfl,rfl,rfl⟩;obtain⟨F0,C0,cB,Tv,hC0,hT1⟩:∃F0 C0 cB,F0=(st0.om oc).filled/\C0=(st0.om oc).bZ/\(mF oc s st0).lg.tr.length=cB:=⟨_,_,_,rfl,rfl,rfl⟩;have a8:w3.cell? ⟨oc,8,none⟩=some (II R1):=by rw[hR1];exact ho3.cell 8
  have a9:w3.cell? ⟨oc,9,none⟩=some (II F1):=by rw[hF1];exact ho3.cell 9
  have a10:w3.cell? ⟨oc,10,none⟩=some (II C1):=by rw[Tu];exact ho3.cell 10
  have b9:w3.cell? ⟨w.heap.size+1,9,none⟩=some (II F0):=by rw[Tv];exact hs3.cell 9
  have b10:w3.cell? ⟨w.heap.size+1,10,none⟩=some (II C0):=by rw[hC0];exact hs3.cell 10
  have l1:w.heap.size+1<w3.heap.size:=hs3.lt;have l2:oc<w3.heap.size:=ho3.lt;have fin:∀w' v,v=lG (st0.om oc) (aH oc (mF oc s st0) oc) st0.tr (mF oc s st0).tr->aj (fun b=>b=w.heap.size) w3 w'->Au bv bb oc s t bm bo st0 lm L w bk lw old dW v w':=by
   intro w' v hv' kw;obtain⟨g,cap',hm,hg,uI,IU,hcg⟩:=hgc;refine⟨hv',g,cap',lZ,hm.aC kw (by omega) (fun b hb e=>?_) (fun x hx b hb e=>?_),hv3.aC kw (by omega) (fun b hb e=>hv3.aP.ne hr3 (by decide) (by decide) (by decide) (by decide) (by decide) (e▸hb)),vg,?_,hg,ext,uI,IU.aC kw (nP.gK (fun b h=>by subst h;exact⟨_,87,hr3,by unfold o7;decide⟩)),hcg⟩
   ·obtain⟨ix,ho⟩:=hm.bz b hb;subst e;exact aA.ne ho hr3 (by decide) rfl
   ·subst e;exact (hm.aY.side x hx).ne hr3 (by decide) hb
   ·exact kc.from (kw.mono (fun b h=>.inr (by omega)))
  have HFin:=au fin;have nn1:=World.new_ne w3 _ a8;have nn2:=World.new_ne w3 _ a9;have nn3:=World.new_ne w3 _ a10;have nn4:=World.new_ne w3 _ b9;have nn5:=World.new_ne w3 _ b10;have Io:Hid (lG (st0.om oc) (aH oc (mF oc s st0) oc) st0.tr (mF oc s st0).tr=if (cA:Int)<(cB:Int) then mM (wrap64 (F1-F0)) R1 (wrap64 (C1-C0)) (wrap64 ((cA:Int)+1)) (wrap64 ((cB:Int)-(cA:Int))) else mM (wrap64 (F1-F0)) R1 (wrap64 (C1-C0)) 0 0):=by
   show _=_;unfold lG MS.tr;rw[hF1,hR1,Tu,Tv,hC0,hT1,ae HN0]
  obtain⟨pa1,pc1,Je⟩:=hv3.aP.zg (n:=cB) (by rw[tY];exact hT1);have v2:w3.cell? ⟨bv,2,none⟩=some (.slice pa1 cB pc1):=by rw[<-Je];exact hv3.dC.cell 2
  clear Je;have l3:bv<w3.heap.size:=hv3.dC.lt;have HR3:=au hr3;obtain⟨w4,hw4⟩:=kL ((w3.alloc (.cells #[II (wrap64 (F1-F0)),II R1,II (wrap64 (C1-C0)),II 0,II 0] 87)).drew);have hn4:aA w4 w3.heap.size #[II (wrap64 (F1-F0)),II R1,II (wrap64 (C1-C0)),II 0,II 0] 87:=by rw[hw4];exact (aA.new w3 _ _).drew
  have k4:aj aJ w3 w4:=by rw[hw4];exact ((aj.refl aJ w3).alloc _).drew
  obtain⟨HW4,Oo⟩:=dE hw4 hn4;clear hw4;have Py:=au k4;have HR4:=au (k4.aF hr3 aU);have v4:=k4.cell v2 aU;have HV4:=au v4;clear hn4 v4;clear fin hF1 hR1 Tu Tv hC0 hT1 m3 hv3 hf2 vg hs3 ho3 hs2 hr2 m2 hv2 iv2 ho2 k2 k1 hr1 hs1 m1 hv1 HW HX UX hnew iv hgc kc hr3 m hv hn hoc k3 k4;go_wp2;go_region_held3 (fun w'=>w'.cell? ⟨oc,8,none⟩=some (II R1)/\w'.cell? ⟨oc,9,none⟩=some (II F1)/\w'.cell? ⟨oc,10,none⟩=some (II C1)/\w'.cell? ⟨w.heap.size+1,9,none⟩=some (II F0)/\w'.cell? ⟨w.heap.size+1,10,none⟩=some (II C0)) (go_keep) (fail);rw[zi (F1-F0),zi (C1-C0),<-ae HW4];rename_i hS4;clear hS4 nn1 nn2 nn3 nn4 nn5;clear a8 a9 a10 b9 b10 v2;have v4:=ae HV4;obtain⟨n0,n1,n2,n3,n4⟩:=(ae Oo).c5;have f3:=(ae Oo).frozen 3;have f4:=(ae Oo).frozen 4;have hne:w3.heap.size≠w.heap.size:=by omega
  have hvn:bv≠w3.heap.size:=by omega
  by_cases htr:(cA:Int)<(cB:Int)
  ·obtain⟨w5,hw5⟩:=kL (((w4.setCell ⟨w3.heap.size,3,none⟩ (II (wrap64 ((cA:Int)+1)))).setCell ⟨w3.heap.size,4,none⟩ (II (wrap64 ((cB:Int)-(cA:Int))))).drew);have TL:aA w5 w3.heap.size #[II (wrap64 (F1-F0)),II R1,II (wrap64 (C1-C0)),II (wrap64 ((cA:Int)+1)),II (wrap64 ((cB:Int)-(cA:Int)))] 87:=by rw[hw5];exact (((ae Oo).set 3 _).set 4 _).drew
   have k5:aj (fun b=>b=w3.heap.size) w4 w5:=by rw[hw5];exact (((aj.refl (fun b=>b=w3.heap.size) w4).setCell (p:=⟨w3.heap.size,3,none⟩) (.inl rfl) _).setCell (p:=⟨w3.heap.size,4,none⟩) (.inl rfl) _).drew
   obtain⟨Zh,HN5⟩:=dE hw5 TL;have zo:=au (k5.aF (ae HR4) (fun e=>hne e.symm));obtain⟨Lh,HH⟩:=dE k5 htr;clear hw5 TL k5;go_wp2;go_region;rw[<-ae Zh];clear v4 n0 n1 n2 n3 n4 f3 f4;obtain⟨n0,n1,n2,n3,n4⟩:=(ae HN5).c5;obtain⟨r0,r1,r2,r3,r4⟩:=(ae zo).c5;have q0:=(ae zo).frozen 0;have q1:=(ae zo).frozen 1;have q2:=(ae zo).frozen 2;have q3:=(ae zo).frozen 3;have q4:=(ae zo).frozen 4;clear htr;go_wp2;refine bodyPost_ret (v:=mM (wrap64 (F1-F0)) R1 (wrap64 (C1-C0)) (wrap64 ((cA:Int)+1)) (wrap64 ((cB:Int)-(cA:Int)))) (E8 _ w.heap.size _ _ _ _ _ _ rfl ?_) rfl ⟨_,rfl,ae HFin _ _ ?_ ?_⟩
   ·exact (((((ae zo).set 0 _).set 1 _).set 2 _).set 3 _).set 4 _
   ·rw[ae Io,if_pos (ae HH)]
   ·have kk:aj (fun b=>b=w.heap.size) w3 w5:=(ae Py).bI.from ((ae Lh).mono (fun b h=>.inr (by omega)));exact (((((kk).setCell (p:=⟨w.heap.size,0,none⟩) (.inl rfl) _).setCell (p:=⟨w.heap.size,1,none⟩) (.inl rfl) _).setCell (p:=⟨w.heap.size,2,none⟩) (.inl rfl) _).setCell (p:=⟨w.heap.size,3,none⟩) (.inl rfl) _).setCell (p:=⟨w.heap.size,4,none⟩) (.inl rfl) _
  ·have HH:=au htr;obtain⟨r0,r1,r2,r3,r4⟩:=(ae HR4).c5;have q0:=(ae HR4).frozen 0;have q1:=(ae HR4).frozen 1;have q2:=(ae HR4).frozen 2;have q3:=(ae HR4).frozen 3;have q4:=(ae HR4).frozen 4;clear f3 f4;go_wp2;refine bodyPost_ret (v:=mM (wrap64 (F1-F0)) R1 (wrap64 (C1-C0)) 0 0) (E8 _ w.heap.size _ _ _ _ _ _ rfl ?_) rfl ⟨_,rfl,ae HFin _ _ ?_ ?_⟩
   ·exact (((((ae HR4).set 0 _).set 1 _).set 2 _).set 3 _).set 4 _
   ·have:=ae HH;rw[ae Io,if_neg (by omega)]
   ·have kk:aj (fun b=>b=w.heap.size) w3 w4:=(ae Py).bI;exact (((((kk).setCell (p:=⟨w.heap.size,0,none⟩) (.inl rfl) _).setCell (p:=⟨w.heap.size,1,none⟩) (.inl rfl) _).setCell (p:=⟨w.heap.size,2,none⟩) (.inl rfl) _).setCell (p:=⟨w.heap.size,3,none⟩) (.inl rfl) _).setCell (p:=⟨w.heap.size,4,none⟩) (.inl rfl) _
end Go.Proofs.YtigaphnafnpfnaaGreatDoor
