import Derived.Test.YtigaphnafnpfnaaGreatDoorQVV4
set_option linter.unusedVariables false
set_option linter.unusedSimpArgs false
set_option maxHeartbeats 8000000
set_option maxRecDepth 100000
namespace Go.Proofs.YtigaphnafnpfnaaGreatDoor
open Go.RowKit
attribute [local go_sem ↓] Go.wp_at_zero Go.wp_at_succ
def yQ(bv bb oc s t bm bo:Nat)(st0:MS)(lm:Lm)(L:Nat->Prop)(w:World)(bk:Nat->Nat)(lw:Nat)(old:List (List Value))(dQ:List Nat)(v:Value)(w':World):Prop :=
 v=jE (st0.om oc) (aF oc (mF oc s st0) oc) st0.tr (mF oc s st0).tr /\
   ∃g cap' bH,Mk w' bb (dV oc t g cap' (mF oc s st0)) (aF oc (mF oc s st0)) L/\bu w' bv bm bo (gJ oc (mF oc s st0)) bH/\(∀b,bH.F b->lm.F b\/w.heap.size<=b) /\
    au (fun b=>b=bv\/lm.F b\/b=bb\/b=oc\/dC st0.B s b\/dC st0.B t b) w w'/\(gG (st0.B.sl t)=some g\/w.heap.size<=g)/\∃ext cl',gI w' bv bk lw false old (gJ oc (mF oc s st0)).nt (dQ++ext) bH cl'/\(dm ((mF oc s st0).om oc)=true->∀c∈cl',∀b,wI c b->b≠g)
theorem O8(bv bb oc s t bm bo:Nat)(st0:MS)(lm:Lm)(L:Nat->Prop)(w:World)(bk:Nat->Nat)(lw:Nat)(old:List (List Value))(dQ:List Nat)(cl:List Value)(hC:gI w bv bk lw false old st0.lg.nt dQ lm cl)(Sz:lw<=w.heap.size)(hbk:∀k,k<st0.B.n s->bk (st0.B.h s k)=bb)(abb:bk oc=bb)(qH:∀y,y<2->∀g,gG (st0.B.sl y)=some g->g<lw)(hv:bu w bv bm bo st0.lg lm)(m:Mk w bb st0.B st0.om L)(hs:s<2)(ht:t=1-s)(hc:L oc)(iv:qN oc s st0)
 (hnew:∀t,t<2->∀k,k<st0.B.n t->st0.B.h t k≠oc) (hn:st0.B.n t<1000) (M:Nat) (hM:M<1000000000) (hl1:st0.lg.tp.length+mu oc s st0<=M) (hl2:st0.lg.tr.length+mu oc s st0<=M) (hna:0<st0.lg.na) (gZ:st0.lg.na<=3000000) (hl3:st0.lg.nt.length+4 * mu oc s st0+1<=M) :
 Calls Tryz.prog 70 #[.pointer (some ⟨bv,0,none⟩),.pointer (some ⟨bb,0,none⟩),.pointer (some ⟨oc,0,none⟩)] w fun e w' =>
  ∃v,e=.returned v/\yQ bv bb oc s t bm bo st0 lm L w bk lw old dQ v w':=by
 obtain⟨ixc,hoc⟩:=m.bg oc hc
 have c0:w.cell? ⟨oc,0,none⟩=some (.int .i64 (st0.om oc).id):=hoc.cell 0
 have c1:w.cell? ⟨oc,1,none⟩=some (.int .i64 (st0.om oc).aA):=hoc.cell 1
 have c2:w.cell? ⟨oc,2,none⟩=some (.string (st0.om oc).sym):=hoc.cell 2
 have c3:w.cell? ⟨oc,3,none⟩=some (.int .i64 (st0.om oc).side):=hoc.cell 3
 have c4:w.cell? ⟨oc,4,none⟩=some (.int .i64 (st0.om oc).kind):=hoc.cell 4
 have c5:w.cell? ⟨oc,5,none⟩=some (.int .i64 (st0.om oc).af):=hoc.cell 5
 have c6:w.cell? ⟨oc,6,none⟩=some (.int .i64 (st0.om oc).aI):=hoc.cell 6
 have c7:w.cell? ⟨oc,7,none⟩=some (.int .i64 (st0.om oc).entered):=hoc.cell 7
 have c8:w.cell? ⟨oc,8,none⟩=some (.int .i64 (st0.om oc).aK):=hoc.cell 8
 have c9:w.cell? ⟨oc,9,none⟩=some (.int .i64 (st0.om oc).filled):=hoc.cell 9
 have c10:w.cell? ⟨oc,10,none⟩=some (.int .i64 (st0.om oc).bQ):=hoc.cell 10
 have c11:w.cell? ⟨oc,11,none⟩=some (.int .i64 (st0.om oc).exp):=hoc.cell 11
 obtain⟨cA,hn0⟩:∃cA,st0.lg.tr.length=cA:=⟨_,rfl⟩
 obtain⟨pa0,pc0,Z4⟩:=hv.aO.xJ hn0
 have v2:w.cell? ⟨bv,2,none⟩=some (.slice pa0 cA pc0):=by rw[<-Z4];exact hv.dA.cell 2
 have HN0:=ai hn0
 have lo:=hoc.lt
 have lv:=hv.dA.lt
 have lb:=m.aW.aB.lt
 obtain⟨w1,hw1⟩:∃w1,w1=((w.alloc (.cells #[.int .i64 0,.int .i64 0,.int .i64 0,.int .i64 0,.int .i64 0] 87)).alloc (.cells #[.int .i64 (st0.om oc).id,.int .i64 (st0.om oc).aA,.string (st0.om oc).sym,.int .i64 (st0.om oc).side,.int .i64 (st0.om oc).kind,.int .i64 (st0.om oc).af,.int .i64 (st0.om oc).aI,.int .i64 (st0.om oc).entered,.int .i64 (st0.om oc).aK,.int .i64 (st0.om oc).filled,.int .i64 (st0.om oc).bQ,.int .i64 (st0.om oc).exp] 54)).drew:=⟨_,rfl⟩
 have HW:=ai hw1
 have k1:au aP w w1:=by rw[hw1];exact (((au.refl aP w).alloc _).alloc _).drew
 have hr1:az w1 w.heap.size kP 87:=by rw[hw1];exact ((az.new w _ _).alloc _).drew
 have hs1:az w1 (w.heap.size+1) (kC (st0.om oc)) 54:=by
  rw[hw1]
  have:=(az.new (w.alloc (.cells #[.int .i64 0,.int .i64 0,.int .i64 0,.int .i64 0,.int .i64 0] 87)) (kC (st0.om oc)) 54).drew
  have e:(w.alloc (.cells #[.int .i64 0,.int .i64 0,.int .i64 0,.int .i64 0,.int .i64 0] 87)).heap.size=w.heap.size+1:=by simp
  rw[e]at this
  exact this
 have m1:=m.aC k1 (fun x=>x) (fun _ _ x=>x) (fun _ _ _ _ x=>x)
 have hv1:=hv.aH k1
 have PT:=Uw bv bb oc s bm bo st0 lm L w1 bk lw old dQ cl (hC.aH k1) (by have:=k1.size;omega) hbk (qH s hs) hv1 m1 hs hc iv M hM hl1 hl2 hna gZ (by omega)
 have ZI:=pI oc s (mu oc s st0) st0
 have OG:Hid (0<(mF oc s st0).lg.na/\(mF oc s st0).lg.na<=3000000/\(mF oc s st0).lg.nt.length+1<1000000000):=by
  show _/\_
  unfold mF
  rw[ZI.1]
  exact⟨hna,gZ,by omega⟩
 have QK:∀b,w.heap.size<=b->¬(b=bv\/lm.F b\/b=bb\/b=oc\/dC st0.B s b):=by
  rintro b hb (h|h|h|h|h)
  ·omega
  ·have:=hv.aO.lt h;omega
  ·omega
  ·omega
  ·have:=m.Dn hs h;omega
 have HX:=ai PT
 have HT:=ai ht
 clear PT hw1 ht hn0 Z4 hM hl1 hl2 hl3 hna gZ ZI
 go_enter Tryz.func70,Tryz.ntmps70
 go_wp2
 go_region
 rw[<-ae HW]
 clear c0 c1 c2 c3 c4 c5 c6 c7 c8 c9 c10 c11 v2
 go_wp2_with fail
 refine (ae HX).mono ?_
 rintro e w2 ⟨rfl,m2,⟨Ur,hv2,hf2,ext,Vr,Vt⟩,iv2,k2⟩
 have HC2:=ai Vt
 clear Vt hC
 have hr2:=k2.aB hr1 (QK _ (Nat.le_refl _))
 have hs2:=k2.aB hs1 (QK _ (by omega))
 obtain⟨ix2,ho2⟩:=m2.bg oc hc
 have o8:w2.cell? ⟨oc,8,none⟩=some (.int .i64 ((mF oc s st0).om oc).aK):=ho2.cell 8
 by_cases hp:0<((mF oc s st0).om oc).aK
 ·cases hr:eU ((mF oc s st0).om oc).kind
  ·have IU:Hid (dm ((mF oc s st0).om oc)=false):=by show _=_;unfold dm;rw[hr];simp
   go_wp2_with fail
   refine (pR oc _ ix2 w2 ho2).mono ?_
   rintro e w2' ⟨rfl,rfl⟩
   rw[hr]
   clear hr
   go_wp2_with fail
   refine (lF bb oc _ _ L _ m2 hc).mono ?_
   rintro e wq ⟨IJ,II,rfl,fq,mq,kq⟩
   have jk:aN (mF oc s st0).om oc { (mF oc s st0).om oc with aK:=0,bQ:=wrap64 (((mF oc s st0).om oc).bQ+((mF oc s st0).om oc).aK) }=aF oc (mF oc s st0):=by unfold aF;rw[ae IU];rfl
   rw[jk]at mq
   have hB:dV oc t 0 0 (mF oc s st0)=(mF oc s st0).B:=by unfold dV;rw[ae IU];rfl
   rw[<-hB]at mq
   have hgq:∃g cap',Mk wq bb (dV oc t g cap' (mF oc s st0)) (aF oc (mF oc s st0)) L/\(gG (st0.B.sl t)=some g\/w.heap.size<=g):=⟨w.heap.size,0,by have e:dV oc t w.heap.size 0 (mF oc s st0)=dV oc t 0 0 (mF oc s st0):=by { unfold dV;rw[ae IU];rfl };rw[e];exact mq,.inr (Nat.le_refl _)⟩
   have CG:au (fun b=>b=bv\/lm.F b\/b=bb\/b=oc\/dC st0.B s b\/dC st0.B t b) w wq:=(k1.bI.trans (k2.mono (fun b h=>by rcases h with h|h|h|h|h;exact .inl h;exact .inr (.inl h);exact .inr (.inr (.inl h));exact .inr (.inr (.inr (.inl h)));exact .inr (.inr (.inr (.inr (.inl h))))))).trans (kq.mono (fun b h=>.inr (.inr (.inr (.inl h)))))
   have hvq:=hv2.jg kq (fun b h=>by subst h;exact m2.fZ (.inr (.inl hc)))
   have hrq:=kq.aB hr2 (fun h=>by omega)
   have PZ:=kq.aB hs2 (fun h=>by omega)
   have oq:l9 w2' lw false (fun b=>b=oc):=jl m2 hc
   have cq:=(ae HC2).aC kq oq
   have iq:bJ wq bv bk lw (.fA oc ((mF oc s st0).om oc)) (.func IJ #[] II):=⟨_,_,rfl,fq.mono (by have:=k1.size;have:=k2.size;omega)⟩
   have qF:=ai (lV bv bm bo _ Ur (.fA oc ((mF oc s st0).om oc)) IJ II wq bk lw false old _ _ hvq cq (fun h=>by cases h) iq (ae OG).1 (ae OG).2.1 (ae OG).2.2)
   have Vj:=ai hvq
   have Vb:=ai hgq
   have Sm:=ai CG
   clear mq kq hgq hvq CG oq cq iq fq
   go_wp2_with fail
   refine (ae qF).mono ?_
   rintro e w3 ⟨rfl,kR,hv3,hf3,KW,-,c3⟩
   have k3:au (fun b=>Ur.F b) wq w3:=KW.mono (fun b h=>.inr (.inr (.inr h)))
   have hvq:=ae Vj
   have CG:=ae Sm
   have hG:gJ oc (mF oc s st0)=(mF oc s st0).lg.aV [.fA oc ((mF oc s st0).om oc)]:=by unfold gJ;rw[ae IU];rfl
   rw[<-hG]at hv3 c3
   obtain⟨gq,Je,mq,hgq⟩:=ae Vb
   have m3:=mq.jc hvq (k3.mono (fun b h=>.inr h))
   have hgc:∃g cap',Mk w3 bb (dV oc t g cap' (mF oc s st0)) (aF oc (mF oc s st0)) L/\(gG (st0.B.sl t)=some g\/w.heap.size<=g)/\∃rZ,gI w3 bv bk lw false old (gJ oc (mF oc s st0)).nt (dQ++ext) kR rZ/\(dm ((mF oc s st0).om oc)=true->∀c∈rZ,∀b,wI c b->b≠g):=⟨gq,Je,m3,hgq,_,c3,fun hw=>by rw[ae IU]at hw;cases hw⟩
   have zH:∀b,Ur.F b->lm.F b\/w.heap.size<=b:=fun b hb=>(hf2 b hb).imp_right (fun h=>Nat.le_trans k1.size h)
   have tu:∀b,kR.F b->lm.F b\/w.heap.size<=b:=fun b hb=>by
    rcases hf3 b hb with h|h
    ·exact zH b h
    ·exact .inr (Nat.le_trans CG.size h)
   have kc:au (fun b=>b=bv\/lm.F b\/b=bb\/b=oc\/dC st0.B s b\/dC st0.B t b) w w3:=CG.from (k3.mono (fun b h=>(zH b h).imp_left (fun h=>.inr (.inl h))))
   have hr3:=k3.aB hrq (hvq.aO.ne hrq (by decide) (by decide) (by decide) (by decide) (by decide))
   have hs3:=k3.aB PZ (hvq.aO.ne PZ (by decide) (by decide) (by decide) (by decide) (by decide))
   clear hvq mq CG hrq PZ hf3 qF hG Vj Vb Sm hgq zH KW c3
   clear jk hB
   obtain⟨ix3,ho3⟩:=m3.bg oc hc
   obtain⟨F1,R1,C1,hF1,hR1,PG⟩:∃F1 R1 C1,F1=(aF oc (mF oc s st0) oc).filled/\R1=(aF oc (mF oc s st0) oc).aK/\C1=(aF oc (mF oc s st0) oc).bQ:=⟨_,_,_,rfl,rfl,rfl⟩
   obtain⟨F0,C0,cB,PH,hC0,hT1⟩:∃F0 C0 cB,F0=(st0.om oc).filled/\C0=(st0.om oc).bQ/\(mF oc s st0).lg.tr.length=cB:=⟨_,_,_,rfl,rfl,rfl⟩
   have a8:w3.cell? ⟨oc,8,none⟩=some (.int .i64 R1):=by rw[hR1];exact ho3.cell 8
   have a9:w3.cell? ⟨oc,9,none⟩=some (.int .i64 F1):=by rw[hF1];exact ho3.cell 9
   have a10:w3.cell? ⟨oc,10,none⟩=some (.int .i64 C1):=by rw[PG];exact ho3.cell 10
   have b9:w3.cell? ⟨w.heap.size+1,9,none⟩=some (.int .i64 F0):=by rw[PH];exact hs3.cell 9
   have b10:w3.cell? ⟨w.heap.size+1,10,none⟩=some (.int .i64 C0):=by rw[hC0];exact hs3.cell 10
   have l1:w.heap.size+1<w3.heap.size:=hs3.lt
   have l2:oc<w3.heap.size:=ho3.lt
   have fin:∀w' v,v=jE (st0.om oc) (aF oc (mF oc s st0) oc) st0.tr (mF oc s st0).tr->au (fun b=>b=w.heap.size) w3 w'->yQ bv bb oc s t bm bo st0 lm L w bk lw old dQ v w':=by
    intro w' v hv' kw
    obtain⟨g,cap',hm,hg,rZ,FP,hcg⟩:=hgc
    refine⟨hv',g,cap',kR,hm.aC kw (by omega) (fun b hb e=>?_) (fun x hx b hb e=>?_),hv3.aC kw (by omega) (fun b hb e=>hv3.aO.ne hr3 (by decide) (by decide) (by decide) (by decide) (by decide) (e▸hb)),tu,?_,hg,ext,rZ,FP.aC kw (l9.fZ (fun b h=>by subst h;exact⟨_,87,hr3,by unfold nK;decide⟩)),hcg⟩
    ·obtain⟨ix,ho⟩:=hm.bg b hb
     subst e
     exact az.ne ho hr3 (by decide) rfl
    ·subst e
     exact (hm.aW.side x hx).ne hr3 (by decide) hb
    ·exact kc.from (kw.mono (fun b h=>.inr (by omega)))
   have HFin:=ai fin
   have nn1:=World.new_ne w3 _ a8
   have nn2:=World.new_ne w3 _ a9
   have nn3:=World.new_ne w3 _ a10
   have nn4:=World.new_ne w3 _ b9
   have nn5:=World.new_ne w3 _ b10
   have Fg:Hid (jE (st0.om oc) (aF oc (mF oc s st0) oc) st0.tr (mF oc s st0).tr=if (cA:Int)<(cB:Int) then lq (wrap64 (F1-F0)) R1 (wrap64 (C1-C0)) (wrap64 ((cA:Int)+1)) (wrap64 ((cB:Int)-(cA:Int))) else lq (wrap64 (F1-F0)) R1 (wrap64 (C1-C0)) 0 0):=by
    show _=_
    unfold jE MS.tr
    rw[hF1,hR1,PG,PH,hC0,hT1,ae HN0]
   obtain⟨pa1,pc1,Gf⟩:=hv3.aO.xJ (n:=cB) (by rw[qZ];exact hT1)
   have v2:w3.cell? ⟨bv,2,none⟩=some (.slice pa1 cB pc1):=by rw[<-Gf];exact hv3.dA.cell 2
   clear Gf
   have l3:bv<w3.heap.size:=hv3.dA.lt
   have HR3:=ai hr3
   obtain⟨w4,hw4⟩:∃w4,w4=(w3.alloc (.cells #[.int .i64 (wrap64 (F1-F0)),.int .i64 R1,.int .i64 (wrap64 (C1-C0)),.int .i64 0,.int .i64 0] 87)).drew:=⟨_,rfl⟩
   have hn4:az w4 w3.heap.size #[.int .i64 (wrap64 (F1-F0)),.int .i64 R1,.int .i64 (wrap64 (C1-C0)),.int .i64 0,.int .i64 0] 87:=by rw[hw4];exact (az.new w3 _ _).drew
   have k4:au aP w3 w4:=by rw[hw4];exact ((au.refl aP w3).alloc _).drew
   have YV:=ai hw4
   have uX:=ai hn4
   clear hw4
   have LQ:=ai k4
   have HR4:=ai (k4.aB hr3 (fun x=>x))
   have v4:=k4.cell v2 (fun x=>x)
   have YT:=ai v4
   clear hn4 v4
   clear fin hF1 hR1 PG PH hC0 hT1 m3 hv3 hf2 tu hs3 ho3 hs2 hr2 m2 hv2 iv2 ho2 k2 k1 hr1 hs1 m1 hv1 HW HX QK hnew iv hgc kc hr3 m hv hn hoc k3 k4
   go_wp2
   go_region_held3 (fun w'=>w'.cell? ⟨oc,8,none⟩=some (.int .i64 R1)/\w'.cell? ⟨oc,9,none⟩=some (.int .i64 F1)/\w'.cell? ⟨oc,10,none⟩=some (.int .i64 C1)/\w'.cell? ⟨w.heap.size+1,9,none⟩=some (.int .i64 F0)/\w'.cell? ⟨w.heap.size+1,10,none⟩=some (.int .i64 C0)) (go_keep) (fail)
   rw[xM (F1-F0),xM (C1-C0),<-ae YV]
   rename_i hS4
   clear hS4 nn1 nn2 nn3 nn4 nn5
   clear a8 a9 a10 b9 b10 v2
   have v4:=ae YT
   have n0:w4.cell? ⟨w3.heap.size,0,none⟩=some (.int .i64 (wrap64 (F1-F0))):=(ae uX).cell 0
   have n1:w4.cell? ⟨w3.heap.size,1,none⟩=some (.int .i64 R1):=(ae uX).cell 1
   have n2:w4.cell? ⟨w3.heap.size,2,none⟩=some (.int .i64 (wrap64 (C1-C0))):=(ae uX).cell 2
   have n3:w4.cell? ⟨w3.heap.size,3,none⟩=some (.int .i64 0):=(ae uX).cell 3
   have n4:w4.cell? ⟨w3.heap.size,4,none⟩=some (.int .i64 0):=(ae uX).cell 4
   have f3:=(ae uX).frozen 3
   have f4:=(ae uX).frozen 4
   have hne:w3.heap.size≠w.heap.size:=by omega
   have hvn:bv≠w3.heap.size:=by omega
   by_cases htr:(cA:Int)<(cB:Int)
   ·obtain⟨w5,hw5⟩:∃w5,w5=((w4.setCell ⟨w3.heap.size,3,none⟩ (.int .i64 (wrap64 ((cA:Int)+1)))).setCell ⟨w3.heap.size,4,none⟩ (.int .i64 (wrap64 ((cB:Int)-(cA:Int))))).drew:=⟨_,rfl⟩
    have PU:az w5 w3.heap.size #[.int .i64 (wrap64 (F1-F0)),.int .i64 R1,.int .i64 (wrap64 (C1-C0)),.int .i64 (wrap64 ((cA:Int)+1)),.int .i64 (wrap64 ((cB:Int)-(cA:Int)))] 87:=by rw[hw5];exact (((ae uX).set 3 _).set 4 _).drew
    have k5:au (fun b=>b=w3.heap.size) w4 w5:=by rw[hw5];exact (((au.refl (fun b=>b=w3.heap.size) w4).setCell (p:=⟨w3.heap.size,3,none⟩) (.inl rfl) _).setCell (p:=⟨w3.heap.size,4,none⟩) (.inl rfl) _).drew
    have Wn:=ai hw5
    have Fe:=ai PU
    have qG:=ai (k5.aB (ae HR4) (fun e=>hne e.symm))
    have IC:=ai k5
    have HH:=ai htr
    clear hw5 PU k5
    go_wp2
    go_region
    rw[<-ae Wn]
    clear v4 n0 n1 n2 n3 n4 f3 f4
    have n0:w5.cell? ⟨w3.heap.size,0,none⟩=some (.int .i64 (wrap64 (F1-F0))):=(ae Fe).cell 0
    have n1:w5.cell? ⟨w3.heap.size,1,none⟩=some (.int .i64 R1):=(ae Fe).cell 1
    have n2:w5.cell? ⟨w3.heap.size,2,none⟩=some (.int .i64 (wrap64 (C1-C0))):=(ae Fe).cell 2
    have n3:w5.cell? ⟨w3.heap.size,3,none⟩=some (.int .i64 (wrap64 ((cA:Int)+1))):=(ae Fe).cell 3
    have n4:w5.cell? ⟨w3.heap.size,4,none⟩=some (.int .i64 (wrap64 ((cB:Int)-(cA:Int)))):=(ae Fe).cell 4
    have r0:w5.cell? ⟨w.heap.size,0,none⟩=some (.int .i64 0):=(ae qG).cell 0
    have r1:w5.cell? ⟨w.heap.size,1,none⟩=some (.int .i64 0):=(ae qG).cell 1
    have r2:w5.cell? ⟨w.heap.size,2,none⟩=some (.int .i64 0):=(ae qG).cell 2
    have r3:w5.cell? ⟨w.heap.size,3,none⟩=some (.int .i64 0):=(ae qG).cell 3
    have r4:w5.cell? ⟨w.heap.size,4,none⟩=some (.int .i64 0):=(ae qG).cell 4
    have q0:=(ae qG).frozen 0
    have q1:=(ae qG).frozen 1
    have q2:=(ae qG).frozen 2
    have q3:=(ae qG).frozen 3
    have q4:=(ae qG).frozen 4
    clear htr
    go_wp2
    refine bodyPost_ret (v:=lq (wrap64 (F1-F0)) R1 (wrap64 (C1-C0)) (wrap64 ((cA:Int)+1)) (wrap64 ((cB:Int)-(cA:Int)))) (Dk _ w.heap.size _ _ _ _ _ _ rfl ?_) rfl ⟨_,rfl,ae HFin _ _ ?_ ?_⟩
    ·exact (((((ae qG).set 0 _).set 1 _).set 2 _).set 3 _).set 4 _
    ·rw[ae Fg,if_pos (ae HH)]
    ·have kk:au (fun b=>b=w.heap.size) w3 w5:=(ae LQ).bI.from ((ae IC).mono (fun b h=>.inr (by omega)))
     exact (((((kk).setCell (p:=⟨w.heap.size,0,none⟩) (.inl rfl) _).setCell (p:=⟨w.heap.size,1,none⟩) (.inl rfl) _).setCell (p:=⟨w.heap.size,2,none⟩) (.inl rfl) _).setCell (p:=⟨w.heap.size,3,none⟩) (.inl rfl) _).setCell (p:=⟨w.heap.size,4,none⟩) (.inl rfl) _
   ·have HH:=ai htr
    have r0:w4.cell? ⟨w.heap.size,0,none⟩=some (.int .i64 0):=(ae HR4).cell 0
    have r1:w4.cell? ⟨w.heap.size,1,none⟩=some (.int .i64 0):=(ae HR4).cell 1
    have r2:w4.cell? ⟨w.heap.size,2,none⟩=some (.int .i64 0):=(ae HR4).cell 2
    have r3:w4.cell? ⟨w.heap.size,3,none⟩=some (.int .i64 0):=(ae HR4).cell 3
    have r4:w4.cell? ⟨w.heap.size,4,none⟩=some (.int .i64 0):=(ae HR4).cell 4
    have q0:=(ae HR4).frozen 0
    have q1:=(ae HR4).frozen 1
    have q2:=(ae HR4).frozen 2
    have q3:=(ae HR4).frozen 3
    have q4:=(ae HR4).frozen 4
    clear f3 f4
    go_wp2
    refine bodyPost_ret (v:=lq (wrap64 (F1-F0)) R1 (wrap64 (C1-C0)) 0 0) (Dk _ w.heap.size _ _ _ _ _ _ rfl ?_) rfl ⟨_,rfl,ae HFin _ _ ?_ ?_⟩
    ·exact (((((ae HR4).set 0 _).set 1 _).set 2 _).set 3 _).set 4 _
    ·have:=ae HH;rw[ae Fg,if_neg (by omega)]
    ·have kk:au (fun b=>b=w.heap.size) w3 w4:=(ae LQ).bI
     exact (((((kk).setCell (p:=⟨w.heap.size,0,none⟩) (.inl rfl) _).setCell (p:=⟨w.heap.size,1,none⟩) (.inl rfl) _).setCell (p:=⟨w.heap.size,2,none⟩) (.inl rfl) _).setCell (p:=⟨w.heap.size,3,none⟩) (.inl rfl) _).setCell (p:=⟨w.heap.size,4,none⟩) (.inl rfl) _
  ·have IU:Hid (dm ((mF oc s st0).om oc)=true):=by show _=_;unfold dm;rw[hr];simp[hp]
   have htt:=ae HT
   have hF2:=jd oc s (mu oc s st0) st0
   change (∀t,t≠s->(mF oc s st0).B.n t=st0.B.n t/\(mF oc s st0).B.h t=st0.B.h t)/\(mF oc s st0).B.sl=st0.B.sl/\(mF oc s st0).B.cap=st0.B.cap/\(mF oc s st0).B.sym=st0.B.sym/\(mF oc s st0).B.places=st0.B.places at hF2
   have Om:(mF oc s st0).B.n t=st0.B.n t:=(hF2.1 t (by omega)).1
   have F5:∀x,x<2->∀k,k<(mF oc s st0).B.n x->(mF oc s st0).B.h x k≠oc:=fun x hx k hk=>by
    by_cases e:x=s
    ·subst e;exact (iv2.mem k hk).2.2.2
    ·rw[(hF2.1 x e).1]at hk
     rw[(hF2.1 x e).2]
     exact hnew x hx k hk
   have HN2:=ai Om
   have HF2:=ai hF2
   have HE2:=ai F5
   clear Om hF2 F5 htt
   go_wp2_with fail
   refine (pR oc _ ix2 w2 ho2).mono ?_
   rintro e w2' ⟨rfl,rfl⟩
   rw[hr]
   clear hr
   go_wp2_with fail
   have htt:=ae HT
   have Om:=ae HN2
   have hF2:=ae HF2
   have F5:=ae HE2
   refine (EK bb oc t (mF oc s st0).B (mF oc s st0).om ix2 _ m2.aW ho2 (by omega) (by rw[iv2.side];omega) F5 (by rw[Om];exact hn)).mono ?_
   rintro e wq ⟨IJ,II,rfl,fq,hq3,g,cap',hbq,kq,Xg⟩
   have jk:aN (mF oc s st0).om oc { (mF oc s st0).om oc with place:=wrap64 ((mF oc s st0).B.places+1) }=aF oc (mF oc s st0):=by unfold aF;rw[ae IU];rfl
   rw[jk]at hbq
   have mq:=m2.rest (dG:=aF oc (mF oc s st0)) (by omega) hc (fun b hb=>by rw[<-jk,ah _ _ hb]) hbq kq
   have hB:(mF oc s st0).B.rest (aF oc (mF oc s st0)) t oc g cap'=dV oc t g cap' (mF oc s st0):=by unfold dV;rw[ae IU];rfl
   rw[hB]at mq
   have hgq:Mk wq bb (dV oc t g cap' (mF oc s st0)) (aF oc (mF oc s st0)) L/\(gG (st0.B.sl t)=some g\/w.heap.size<=g):=⟨mq,by
    rcases Xg with h|h
    ·left;rw[<-hF2.2.1];exact h
    ·right
     have:=k1.size
     have:=k2.size
     omega⟩
   have sdt:∀b,dC (mF oc s st0).B t b->dC st0.B t b:=fun b h=>by
    unfold dC at h ⊢
    rw[hF2.2.1,(hF2.1 t (by omega)).1,(hF2.1 t (by omega)).2]at h
    exact h
   have CG:au (fun b=>b=bv\/lm.F b\/b=bb\/b=oc\/dC st0.B s b\/dC st0.B t b) w wq:=(k1.bI.trans (k2.mono (fun b h=>by rcases h with h|h|h|h|h;exact .inl h;exact .inr (.inl h);exact .inr (.inr (.inl h));exact .inr (.inr (.inr (.inl h)));exact .inr (.inr (.inr (.inr (.inl h))))))).trans (kq.mono (fun b h=>by rcases h with h|h|h;exact .inr (.inr (.inl h));exact .inr (.inr (.inr (.inl h)));exact .inr (.inr (.inr (.inr (.inr (sdt b h)))))))
   have hvq:=hv2.jg kq (fun b h=>m2.fZ (by rcases h with h|h|h;exact .inl h;exact .inr (.inl (h▸hc));exact .inr (.inr ⟨t,by omega,h⟩)))
   have XQ:∀b,w.heap.size<=b->¬(b=bb\/b=oc\/dC (mF oc s st0).B t b):=by
    rintro b hb (h|h|h)
    ·omega
    ·omega
    ·have:=m.Dn (by omega) (sdt b h);omega
   have hrq:=kq.aB hr2 (XQ _ (Nat.le_refl _))
   have PZ:=kq.aB hs2 (XQ _ (by omega))
   have oq:l9 w2' lw false (fun b=>b=bb\/b=oc\/dC (mF oc s st0).B t b):=fun b h=>by
    rcases h with h|h|h
    ·exact Ez m2 b h
    ·exact jl m2 hc b h
    ·exact rH m2 (by omega) (by rw[hF2.2.1];exact qH t (by omega)) b (.inr h)
   have cq:=(ae HC2).aC kq oq
   have iq:bJ wq bv bk lw (.eQ oc ((mF oc s st0).om oc).place) (.func IJ #[] II):=⟨_,_,rfl,by
    show jU wq (bk oc) oc _ lw IJ II
    rw[abb]
    exact fq.mono (by have:=k1.size;have:=k2.size;omega)⟩
   have hgn:∀c∈Vr++[.func IJ #[] II],∀b,wI c b->b≠g:=fun c hc2 b hb=>by
    have hcb:lw<=b/\b<w2'.heap.size+3:=by
     rcases List.mem_append.1 hc2 with h|h
     ·have:=(ae HC2).cap h hb;omega
     ·rw[List.mem_singleton]at h;subst h;exact⟨(iq.cap hb).1,hq3 b hb⟩
    rcases Xg with h|h
    ·have:=qH t (by omega) g (by rw[<-hF2.2.1];exact h);omega
    ·omega
   have HGN:=ai hgn
   have qF:=ai (lV bv bm bo _ Ur (.eQ oc ((mF oc s st0).om oc).place) IJ II wq bk lw false old _ _ hvq cq (fun h=>by cases h) iq (ae OG).1 (ae OG).2.1 (ae OG).2.2)
   have Vj:=ai hvq
   have Vb:=ai hgq
   have Sm:=ai CG
   clear mq kq hgq hvq CG oq cq iq fq
   go_wp2_with fail
   refine (ae qF).mono ?_
   rintro e w3 ⟨rfl,kR,hv3,hf3,KW,-,c3⟩
   have k3:au (fun b=>Ur.F b) wq w3:=KW.mono (fun b h=>.inr (.inr (.inr h)))
   have hvq:=ae Vj
   have CG:=ae Sm
   have hG:gJ oc (mF oc s st0)=(mF oc s st0).lg.aV [.eQ oc ((mF oc s st0).om oc).place]:=by unfold gJ;rw[ae IU];rfl
   rw[<-hG]at hv3 c3
   obtain⟨gq,abk⟩:∃gq,gq=g:=⟨_,rfl⟩
   obtain⟨Je,Zx⟩:∃Je,Je=cap':=⟨_,rfl⟩
   subst abk Zx
   obtain⟨mq,hgq⟩:=ae Vb
   have m3:=mq.jc hvq (k3.mono (fun b h=>.inr h))
   have hgc:∃g cap',Mk w3 bb (dV oc t g cap' (mF oc s st0)) (aF oc (mF oc s st0)) L/\(gG (st0.B.sl t)=some g\/w.heap.size<=g)/\∃rZ,gI w3 bv bk lw false old (gJ oc (mF oc s st0)).nt (dQ++ext) kR rZ/\(dm ((mF oc s st0).om oc)=true->∀c∈rZ,∀b,wI c b->b≠g):=⟨gq,Je,m3,hgq,_,c3,fun _=>ae HGN⟩
   have zH:∀b,Ur.F b->lm.F b\/w.heap.size<=b:=fun b hb=>(hf2 b hb).imp_right (fun h=>Nat.le_trans k1.size h)
   have tu:∀b,kR.F b->lm.F b\/w.heap.size<=b:=fun b hb=>by
    rcases hf3 b hb with h|h
    ·exact zH b h
    ·exact .inr (Nat.le_trans CG.size h)
   have kc:au (fun b=>b=bv\/lm.F b\/b=bb\/b=oc\/dC st0.B s b\/dC st0.B t b) w w3:=CG.from (k3.mono (fun b h=>(zH b h).imp_left (fun h=>.inr (.inl h))))
   have hr3:=k3.aB hrq (hvq.aO.ne hrq (by decide) (by decide) (by decide) (by decide) (by decide))
   have hs3:=k3.aB PZ (hvq.aO.ne PZ (by decide) (by decide) (by decide) (by decide) (by decide))
   clear hvq mq CG hrq PZ hf3 qF hG Vj Vb Sm hgq zH KW c3
   clear jk hB hbq Xg sdt XQ hF2 Om F5
   clear HN2 HF2 HE2 htt
   obtain⟨ix3,ho3⟩:=m3.bg oc hc
   obtain⟨F1,R1,C1,hF1,hR1,PG⟩:∃F1 R1 C1,F1=(aF oc (mF oc s st0) oc).filled/\R1=(aF oc (mF oc s st0) oc).aK/\C1=(aF oc (mF oc s st0) oc).bQ:=⟨_,_,_,rfl,rfl,rfl⟩
   obtain⟨F0,C0,cB,PH,hC0,hT1⟩:∃F0 C0 cB,F0=(st0.om oc).filled/\C0=(st0.om oc).bQ/\(mF oc s st0).lg.tr.length=cB:=⟨_,_,_,rfl,rfl,rfl⟩
   have a8:w3.cell? ⟨oc,8,none⟩=some (.int .i64 R1):=by rw[hR1];exact ho3.cell 8
   have a9:w3.cell? ⟨oc,9,none⟩=some (.int .i64 F1):=by rw[hF1];exact ho3.cell 9
   have a10:w3.cell? ⟨oc,10,none⟩=some (.int .i64 C1):=by rw[PG];exact ho3.cell 10
   have b9:w3.cell? ⟨w.heap.size+1,9,none⟩=some (.int .i64 F0):=by rw[PH];exact hs3.cell 9
   have b10:w3.cell? ⟨w.heap.size+1,10,none⟩=some (.int .i64 C0):=by rw[hC0];exact hs3.cell 10
   have l1:w.heap.size+1<w3.heap.size:=hs3.lt
   have l2:oc<w3.heap.size:=ho3.lt
   have fin:∀w' v,v=jE (st0.om oc) (aF oc (mF oc s st0) oc) st0.tr (mF oc s st0).tr->au (fun b=>b=w.heap.size) w3 w'->yQ bv bb oc s t bm bo st0 lm L w bk lw old dQ v w':=by
    intro w' v hv' kw
    obtain⟨g,cap',hm,hg,rZ,FP,hcg⟩:=hgc
    refine⟨hv',g,cap',kR,hm.aC kw (by omega) (fun b hb e=>?_) (fun x hx b hb e=>?_),hv3.aC kw (by omega) (fun b hb e=>hv3.aO.ne hr3 (by decide) (by decide) (by decide) (by decide) (by decide) (e▸hb)),tu,?_,hg,ext,rZ,FP.aC kw (l9.fZ (fun b h=>by subst h;exact⟨_,87,hr3,by unfold nK;decide⟩)),hcg⟩
    ·obtain⟨ix,ho⟩:=hm.bg b hb
     subst e
     exact az.ne ho hr3 (by decide) rfl
    ·subst e
     exact (hm.aW.side x hx).ne hr3 (by decide) hb
    ·exact kc.from (kw.mono (fun b h=>.inr (by omega)))
   have HFin:=ai fin
   have nn1:=World.new_ne w3 _ a8
   have nn2:=World.new_ne w3 _ a9
   have nn3:=World.new_ne w3 _ a10
   have nn4:=World.new_ne w3 _ b9
   have nn5:=World.new_ne w3 _ b10
   have Fg:Hid (jE (st0.om oc) (aF oc (mF oc s st0) oc) st0.tr (mF oc s st0).tr=if (cA:Int)<(cB:Int) then lq (wrap64 (F1-F0)) R1 (wrap64 (C1-C0)) (wrap64 ((cA:Int)+1)) (wrap64 ((cB:Int)-(cA:Int))) else lq (wrap64 (F1-F0)) R1 (wrap64 (C1-C0)) 0 0):=by
    show _=_
    unfold jE MS.tr
    rw[hF1,hR1,PG,PH,hC0,hT1,ae HN0]
   obtain⟨pa1,pc1,Gf⟩:=hv3.aO.xJ (n:=cB) (by rw[qZ];exact hT1)
   have v2:w3.cell? ⟨bv,2,none⟩=some (.slice pa1 cB pc1):=by rw[<-Gf];exact hv3.dA.cell 2
   clear Gf
   have l3:bv<w3.heap.size:=hv3.dA.lt
   have HR3:=ai hr3
   obtain⟨w4,hw4⟩:∃w4,w4=(w3.alloc (.cells #[.int .i64 (wrap64 (F1-F0)),.int .i64 R1,.int .i64 (wrap64 (C1-C0)),.int .i64 0,.int .i64 0] 87)).drew:=⟨_,rfl⟩
   have hn4:az w4 w3.heap.size #[.int .i64 (wrap64 (F1-F0)),.int .i64 R1,.int .i64 (wrap64 (C1-C0)),.int .i64 0,.int .i64 0] 87:=by rw[hw4];exact (az.new w3 _ _).drew
   have k4:au aP w3 w4:=by rw[hw4];exact ((au.refl aP w3).alloc _).drew
   have YV:=ai hw4
   have uX:=ai hn4
   clear hw4
   have LQ:=ai k4
   have HR4:=ai (k4.aB hr3 (fun x=>x))
   have v4:=k4.cell v2 (fun x=>x)
   have YT:=ai v4
   clear hn4 v4
   clear fin hF1 hR1 PG PH hC0 hT1 m3 hv3 hf2 tu hs3 ho3 hs2 hr2 m2 hv2 iv2 ho2 k2 k1 hr1 hs1 m1 hv1 HW HX QK hnew iv hgc kc hr3 m hv hn hoc k3 k4
   go_wp2
   go_region_held3 (fun w'=>w'.cell? ⟨oc,8,none⟩=some (.int .i64 R1)/\w'.cell? ⟨oc,9,none⟩=some (.int .i64 F1)/\w'.cell? ⟨oc,10,none⟩=some (.int .i64 C1)/\w'.cell? ⟨w.heap.size+1,9,none⟩=some (.int .i64 F0)/\w'.cell? ⟨w.heap.size+1,10,none⟩=some (.int .i64 C0)) (go_keep) (fail)
   rw[xM (F1-F0),xM (C1-C0),<-ae YV]
   rename_i hS4
   clear hS4 nn1 nn2 nn3 nn4 nn5
   clear a8 a9 a10 b9 b10 v2
   have v4:=ae YT
   have n0:w4.cell? ⟨w3.heap.size,0,none⟩=some (.int .i64 (wrap64 (F1-F0))):=(ae uX).cell 0
   have n1:w4.cell? ⟨w3.heap.size,1,none⟩=some (.int .i64 R1):=(ae uX).cell 1
   have n2:w4.cell? ⟨w3.heap.size,2,none⟩=some (.int .i64 (wrap64 (C1-C0))):=(ae uX).cell 2
   have n3:w4.cell? ⟨w3.heap.size,3,none⟩=some (.int .i64 0):=(ae uX).cell 3
   have n4:w4.cell? ⟨w3.heap.size,4,none⟩=some (.int .i64 0):=(ae uX).cell 4
   have f3:=(ae uX).frozen 3
   have f4:=(ae uX).frozen 4
   have hne:w3.heap.size≠w.heap.size:=by omega
   have hvn:bv≠w3.heap.size:=by omega
   by_cases htr:(cA:Int)<(cB:Int)
   ·obtain⟨w5,hw5⟩:∃w5,w5=((w4.setCell ⟨w3.heap.size,3,none⟩ (.int .i64 (wrap64 ((cA:Int)+1)))).setCell ⟨w3.heap.size,4,none⟩ (.int .i64 (wrap64 ((cB:Int)-(cA:Int))))).drew:=⟨_,rfl⟩
    have PU:az w5 w3.heap.size #[.int .i64 (wrap64 (F1-F0)),.int .i64 R1,.int .i64 (wrap64 (C1-C0)),.int .i64 (wrap64 ((cA:Int)+1)),.int .i64 (wrap64 ((cB:Int)-(cA:Int)))] 87:=by rw[hw5];exact (((ae uX).set 3 _).set 4 _).drew
    have k5:au (fun b=>b=w3.heap.size) w4 w5:=by rw[hw5];exact (((au.refl (fun b=>b=w3.heap.size) w4).setCell (p:=⟨w3.heap.size,3,none⟩) (.inl rfl) _).setCell (p:=⟨w3.heap.size,4,none⟩) (.inl rfl) _).drew
    have Wn:=ai hw5
    have Fe:=ai PU
    have qG:=ai (k5.aB (ae HR4) (fun e=>hne e.symm))
    have IC:=ai k5
    have HH:=ai htr
    clear hw5 PU k5
    go_wp2
    go_region
    rw[<-ae Wn]
    clear v4 n0 n1 n2 n3 n4 f3 f4
    have n0:w5.cell? ⟨w3.heap.size,0,none⟩=some (.int .i64 (wrap64 (F1-F0))):=(ae Fe).cell 0
    have n1:w5.cell? ⟨w3.heap.size,1,none⟩=some (.int .i64 R1):=(ae Fe).cell 1
    have n2:w5.cell? ⟨w3.heap.size,2,none⟩=some (.int .i64 (wrap64 (C1-C0))):=(ae Fe).cell 2
    have n3:w5.cell? ⟨w3.heap.size,3,none⟩=some (.int .i64 (wrap64 ((cA:Int)+1))):=(ae Fe).cell 3
    have n4:w5.cell? ⟨w3.heap.size,4,none⟩=some (.int .i64 (wrap64 ((cB:Int)-(cA:Int)))):=(ae Fe).cell 4
    have r0:w5.cell? ⟨w.heap.size,0,none⟩=some (.int .i64 0):=(ae qG).cell 0
    have r1:w5.cell? ⟨w.heap.size,1,none⟩=some (.int .i64 0):=(ae qG).cell 1
    have r2:w5.cell? ⟨w.heap.size,2,none⟩=some (.int .i64 0):=(ae qG).cell 2
    have r3:w5.cell? ⟨w.heap.size,3,none⟩=some (.int .i64 0):=(ae qG).cell 3
    have r4:w5.cell? ⟨w.heap.size,4,none⟩=some (.int .i64 0):=(ae qG).cell 4
    have q0:=(ae qG).frozen 0
    have q1:=(ae qG).frozen 1
    have q2:=(ae qG).frozen 2
    have q3:=(ae qG).frozen 3
    have q4:=(ae qG).frozen 4
    clear htr
    go_wp2
    refine bodyPost_ret (v:=lq (wrap64 (F1-F0)) R1 (wrap64 (C1-C0)) (wrap64 ((cA:Int)+1)) (wrap64 ((cB:Int)-(cA:Int)))) (Dk _ w.heap.size _ _ _ _ _ _ rfl ?_) rfl ⟨_,rfl,ae HFin _ _ ?_ ?_⟩
    ·exact (((((ae qG).set 0 _).set 1 _).set 2 _).set 3 _).set 4 _
    ·rw[ae Fg,if_pos (ae HH)]
    ·have kk:au (fun b=>b=w.heap.size) w3 w5:=(ae LQ).bI.from ((ae IC).mono (fun b h=>.inr (by omega)))
     exact (((((kk).setCell (p:=⟨w.heap.size,0,none⟩) (.inl rfl) _).setCell (p:=⟨w.heap.size,1,none⟩) (.inl rfl) _).setCell (p:=⟨w.heap.size,2,none⟩) (.inl rfl) _).setCell (p:=⟨w.heap.size,3,none⟩) (.inl rfl) _).setCell (p:=⟨w.heap.size,4,none⟩) (.inl rfl) _
   ·have HH:=ai htr
    have r0:w4.cell? ⟨w.heap.size,0,none⟩=some (.int .i64 0):=(ae HR4).cell 0
    have r1:w4.cell? ⟨w.heap.size,1,none⟩=some (.int .i64 0):=(ae HR4).cell 1
    have r2:w4.cell? ⟨w.heap.size,2,none⟩=some (.int .i64 0):=(ae HR4).cell 2
    have r3:w4.cell? ⟨w.heap.size,3,none⟩=some (.int .i64 0):=(ae HR4).cell 3
    have r4:w4.cell? ⟨w.heap.size,4,none⟩=some (.int .i64 0):=(ae HR4).cell 4
    have q0:=(ae HR4).frozen 0
    have q1:=(ae HR4).frozen 1
    have q2:=(ae HR4).frozen 2
    have q3:=(ae HR4).frozen 3
    have q4:=(ae HR4).frozen 4
    clear f3 f4
    go_wp2
    refine bodyPost_ret (v:=lq (wrap64 (F1-F0)) R1 (wrap64 (C1-C0)) 0 0) (Dk _ w.heap.size _ _ _ _ _ _ rfl ?_) rfl ⟨_,rfl,ae HFin _ _ ?_ ?_⟩
    ·exact (((((ae HR4).set 0 _).set 1 _).set 2 _).set 3 _).set 4 _
    ·have:=ae HH;rw[ae Fg,if_neg (by omega)]
    ·have kk:au (fun b=>b=w.heap.size) w3 w4:=(ae LQ).bI
     exact (((((kk).setCell (p:=⟨w.heap.size,0,none⟩) (.inl rfl) _).setCell (p:=⟨w.heap.size,1,none⟩) (.inl rfl) _).setCell (p:=⟨w.heap.size,2,none⟩) (.inl rfl) _).setCell (p:=⟨w.heap.size,3,none⟩) (.inl rfl) _).setCell (p:=⟨w.heap.size,4,none⟩) (.inl rfl) _
 ·have IU:Hid (dm ((mF oc s st0).om oc)=false):=by show _=_;unfold dm;simp[hp]
  go_wp2_with fail
  refine (lF bb oc _ _ L _ m2 hc).mono ?_
  rintro e wq ⟨IJ,II,rfl,fq,mq,kq⟩
  have jk:aN (mF oc s st0).om oc { (mF oc s st0).om oc with aK:=0,bQ:=wrap64 (((mF oc s st0).om oc).bQ+((mF oc s st0).om oc).aK) }=aF oc (mF oc s st0):=by unfold aF;rw[ae IU];rfl
  rw[jk]at mq
  have hB:dV oc t 0 0 (mF oc s st0)=(mF oc s st0).B:=by unfold dV;rw[ae IU];rfl
  rw[<-hB]at mq
  have hgq:∃g cap',Mk wq bb (dV oc t g cap' (mF oc s st0)) (aF oc (mF oc s st0)) L/\(gG (st0.B.sl t)=some g\/w.heap.size<=g):=⟨w.heap.size,0,by have e:dV oc t w.heap.size 0 (mF oc s st0)=dV oc t 0 0 (mF oc s st0):=by { unfold dV;rw[ae IU];rfl };rw[e];exact mq,.inr (Nat.le_refl _)⟩
  have CG:au (fun b=>b=bv\/lm.F b\/b=bb\/b=oc\/dC st0.B s b\/dC st0.B t b) w wq:=(k1.bI.trans (k2.mono (fun b h=>by rcases h with h|h|h|h|h;exact .inl h;exact .inr (.inl h);exact .inr (.inr (.inl h));exact .inr (.inr (.inr (.inl h)));exact .inr (.inr (.inr (.inr (.inl h))))))).trans (kq.mono (fun b h=>.inr (.inr (.inr (.inl h)))))
  have hvq:=hv2.jg kq (fun b h=>by subst h;exact m2.fZ (.inr (.inl hc)))
  have hrq:=kq.aB hr2 (fun h=>by omega)
  have PZ:=kq.aB hs2 (fun h=>by omega)
  have oq:l9 w2 lw false (fun b=>b=oc):=jl m2 hc
  have cq:=(ae HC2).aC kq oq
  have iq:bJ wq bv bk lw (.fA oc ((mF oc s st0).om oc)) (.func IJ #[] II):=⟨_,_,rfl,fq.mono (by have:=k1.size;have:=k2.size;omega)⟩
  have qF:=ai (lV bv bm bo _ Ur (.fA oc ((mF oc s st0).om oc)) IJ II wq bk lw false old _ _ hvq cq (fun h=>by cases h) iq (ae OG).1 (ae OG).2.1 (ae OG).2.2)
  have Vj:=ai hvq
  have Vb:=ai hgq
  have Sm:=ai CG
  clear mq kq hgq hvq CG oq cq iq fq
  go_wp2_with fail
  refine (ae qF).mono ?_
  rintro e w3 ⟨rfl,kR,hv3,hf3,KW,-,c3⟩
  have k3:au (fun b=>Ur.F b) wq w3:=KW.mono (fun b h=>.inr (.inr (.inr h)))
  have hvq:=ae Vj
  have CG:=ae Sm
  have hG:gJ oc (mF oc s st0)=(mF oc s st0).lg.aV [.fA oc ((mF oc s st0).om oc)]:=by unfold gJ;rw[ae IU];rfl
  rw[<-hG]at hv3 c3
  obtain⟨gq,Je,mq,hgq⟩:=ae Vb
  have m3:=mq.jc hvq (k3.mono (fun b h=>.inr h))
  have hgc:∃g cap',Mk w3 bb (dV oc t g cap' (mF oc s st0)) (aF oc (mF oc s st0)) L/\(gG (st0.B.sl t)=some g\/w.heap.size<=g)/\∃rZ,gI w3 bv bk lw false old (gJ oc (mF oc s st0)).nt (dQ++ext) kR rZ/\(dm ((mF oc s st0).om oc)=true->∀c∈rZ,∀b,wI c b->b≠g):=⟨gq,Je,m3,hgq,_,c3,fun hw=>by rw[ae IU]at hw;cases hw⟩
  have zH:∀b,Ur.F b->lm.F b\/w.heap.size<=b:=fun b hb=>(hf2 b hb).imp_right (fun h=>Nat.le_trans k1.size h)
  have tu:∀b,kR.F b->lm.F b\/w.heap.size<=b:=fun b hb=>by
   rcases hf3 b hb with h|h
   ·exact zH b h
   ·exact .inr (Nat.le_trans CG.size h)
  have kc:au (fun b=>b=bv\/lm.F b\/b=bb\/b=oc\/dC st0.B s b\/dC st0.B t b) w w3:=CG.from (k3.mono (fun b h=>(zH b h).imp_left (fun h=>.inr (.inl h))))
  have hr3:=k3.aB hrq (hvq.aO.ne hrq (by decide) (by decide) (by decide) (by decide) (by decide))
  have hs3:=k3.aB PZ (hvq.aO.ne PZ (by decide) (by decide) (by decide) (by decide) (by decide))
  clear hvq mq CG hrq PZ hf3 qF hG Vj Vb Sm hgq zH KW c3
  clear jk hB
  obtain⟨ix3,ho3⟩:=m3.bg oc hc
  obtain⟨F1,R1,C1,hF1,hR1,PG⟩:∃F1 R1 C1,F1=(aF oc (mF oc s st0) oc).filled/\R1=(aF oc (mF oc s st0) oc).aK/\C1=(aF oc (mF oc s st0) oc).bQ:=⟨_,_,_,rfl,rfl,rfl⟩
  obtain⟨F0,C0,cB,PH,hC0,hT1⟩:∃F0 C0 cB,F0=(st0.om oc).filled/\C0=(st0.om oc).bQ/\(mF oc s st0).lg.tr.length=cB:=⟨_,_,_,rfl,rfl,rfl⟩
  have a8:w3.cell? ⟨oc,8,none⟩=some (.int .i64 R1):=by rw[hR1];exact ho3.cell 8
  have a9:w3.cell? ⟨oc,9,none⟩=some (.int .i64 F1):=by rw[hF1];exact ho3.cell 9
  have a10:w3.cell? ⟨oc,10,none⟩=some (.int .i64 C1):=by rw[PG];exact ho3.cell 10
  have b9:w3.cell? ⟨w.heap.size+1,9,none⟩=some (.int .i64 F0):=by rw[PH];exact hs3.cell 9
  have b10:w3.cell? ⟨w.heap.size+1,10,none⟩=some (.int .i64 C0):=by rw[hC0];exact hs3.cell 10
  have l1:w.heap.size+1<w3.heap.size:=hs3.lt
  have l2:oc<w3.heap.size:=ho3.lt
  have fin:∀w' v,v=jE (st0.om oc) (aF oc (mF oc s st0) oc) st0.tr (mF oc s st0).tr->au (fun b=>b=w.heap.size) w3 w'->yQ bv bb oc s t bm bo st0 lm L w bk lw old dQ v w':=by
   intro w' v hv' kw
   obtain⟨g,cap',hm,hg,rZ,FP,hcg⟩:=hgc
   refine⟨hv',g,cap',kR,hm.aC kw (by omega) (fun b hb e=>?_) (fun x hx b hb e=>?_),hv3.aC kw (by omega) (fun b hb e=>hv3.aO.ne hr3 (by decide) (by decide) (by decide) (by decide) (by decide) (e▸hb)),tu,?_,hg,ext,rZ,FP.aC kw (l9.fZ (fun b h=>by subst h;exact⟨_,87,hr3,by unfold nK;decide⟩)),hcg⟩
   ·obtain⟨ix,ho⟩:=hm.bg b hb
    subst e
    exact az.ne ho hr3 (by decide) rfl
   ·subst e
    exact (hm.aW.side x hx).ne hr3 (by decide) hb
   ·exact kc.from (kw.mono (fun b h=>.inr (by omega)))
  have HFin:=ai fin
  have nn1:=World.new_ne w3 _ a8
  have nn2:=World.new_ne w3 _ a9
  have nn3:=World.new_ne w3 _ a10
  have nn4:=World.new_ne w3 _ b9
  have nn5:=World.new_ne w3 _ b10
  have Fg:Hid (jE (st0.om oc) (aF oc (mF oc s st0) oc) st0.tr (mF oc s st0).tr=if (cA:Int)<(cB:Int) then lq (wrap64 (F1-F0)) R1 (wrap64 (C1-C0)) (wrap64 ((cA:Int)+1)) (wrap64 ((cB:Int)-(cA:Int))) else lq (wrap64 (F1-F0)) R1 (wrap64 (C1-C0)) 0 0):=by
   show _=_
   unfold jE MS.tr
   rw[hF1,hR1,PG,PH,hC0,hT1,ae HN0]
  obtain⟨pa1,pc1,Gf⟩:=hv3.aO.xJ (n:=cB) (by rw[qZ];exact hT1)
  have v2:w3.cell? ⟨bv,2,none⟩=some (.slice pa1 cB pc1):=by rw[<-Gf];exact hv3.dA.cell 2
  clear Gf
  have l3:bv<w3.heap.size:=hv3.dA.lt
  have HR3:=ai hr3
  obtain⟨w4,hw4⟩:∃w4,w4=(w3.alloc (.cells #[.int .i64 (wrap64 (F1-F0)),.int .i64 R1,.int .i64 (wrap64 (C1-C0)),.int .i64 0,.int .i64 0] 87)).drew:=⟨_,rfl⟩
  have hn4:az w4 w3.heap.size #[.int .i64 (wrap64 (F1-F0)),.int .i64 R1,.int .i64 (wrap64 (C1-C0)),.int .i64 0,.int .i64 0] 87:=by rw[hw4];exact (az.new w3 _ _).drew
  have k4:au aP w3 w4:=by rw[hw4];exact ((au.refl aP w3).alloc _).drew
  have YV:=ai hw4
  have uX:=ai hn4
  clear hw4
  have LQ:=ai k4
  have HR4:=ai (k4.aB hr3 (fun x=>x))
  have v4:=k4.cell v2 (fun x=>x)
  have YT:=ai v4
  clear hn4 v4
  clear fin hF1 hR1 PG PH hC0 hT1 m3 hv3 hf2 tu hs3 ho3 hs2 hr2 m2 hv2 iv2 ho2 k2 k1 hr1 hs1 m1 hv1 HW HX QK hnew iv hgc kc hr3 m hv hn hoc k3 k4
  go_wp2
  go_region_held3 (fun w'=>w'.cell? ⟨oc,8,none⟩=some (.int .i64 R1)/\w'.cell? ⟨oc,9,none⟩=some (.int .i64 F1)/\w'.cell? ⟨oc,10,none⟩=some (.int .i64 C1)/\w'.cell? ⟨w.heap.size+1,9,none⟩=some (.int .i64 F0)/\w'.cell? ⟨w.heap.size+1,10,none⟩=some (.int .i64 C0)) (go_keep) (fail)
  rw[xM (F1-F0),xM (C1-C0),<-ae YV]
  rename_i hS4
  clear hS4 nn1 nn2 nn3 nn4 nn5
  clear a8 a9 a10 b9 b10 v2
  have v4:=ae YT
  have n0:w4.cell? ⟨w3.heap.size,0,none⟩=some (.int .i64 (wrap64 (F1-F0))):=(ae uX).cell 0
  have n1:w4.cell? ⟨w3.heap.size,1,none⟩=some (.int .i64 R1):=(ae uX).cell 1
  have n2:w4.cell? ⟨w3.heap.size,2,none⟩=some (.int .i64 (wrap64 (C1-C0))):=(ae uX).cell 2
  have n3:w4.cell? ⟨w3.heap.size,3,none⟩=some (.int .i64 0):=(ae uX).cell 3
  have n4:w4.cell? ⟨w3.heap.size,4,none⟩=some (.int .i64 0):=(ae uX).cell 4
  have f3:=(ae uX).frozen 3
  have f4:=(ae uX).frozen 4
  have hne:w3.heap.size≠w.heap.size:=by omega
  have hvn:bv≠w3.heap.size:=by omega
  by_cases htr:(cA:Int)<(cB:Int)
  ·obtain⟨w5,hw5⟩:∃w5,w5=((w4.setCell ⟨w3.heap.size,3,none⟩ (.int .i64 (wrap64 ((cA:Int)+1)))).setCell ⟨w3.heap.size,4,none⟩ (.int .i64 (wrap64 ((cB:Int)-(cA:Int))))).drew:=⟨_,rfl⟩
   have PU:az w5 w3.heap.size #[.int .i64 (wrap64 (F1-F0)),.int .i64 R1,.int .i64 (wrap64 (C1-C0)),.int .i64 (wrap64 ((cA:Int)+1)),.int .i64 (wrap64 ((cB:Int)-(cA:Int)))] 87:=by rw[hw5];exact (((ae uX).set 3 _).set 4 _).drew
   have k5:au (fun b=>b=w3.heap.size) w4 w5:=by rw[hw5];exact (((au.refl (fun b=>b=w3.heap.size) w4).setCell (p:=⟨w3.heap.size,3,none⟩) (.inl rfl) _).setCell (p:=⟨w3.heap.size,4,none⟩) (.inl rfl) _).drew
   have Wn:=ai hw5
   have Fe:=ai PU
   have qG:=ai (k5.aB (ae HR4) (fun e=>hne e.symm))
   have IC:=ai k5
   have HH:=ai htr
   clear hw5 PU k5
   go_wp2
   go_region
   rw[<-ae Wn]
   clear v4 n0 n1 n2 n3 n4 f3 f4
   have n0:w5.cell? ⟨w3.heap.size,0,none⟩=some (.int .i64 (wrap64 (F1-F0))):=(ae Fe).cell 0
   have n1:w5.cell? ⟨w3.heap.size,1,none⟩=some (.int .i64 R1):=(ae Fe).cell 1
   have n2:w5.cell? ⟨w3.heap.size,2,none⟩=some (.int .i64 (wrap64 (C1-C0))):=(ae Fe).cell 2
   have n3:w5.cell? ⟨w3.heap.size,3,none⟩=some (.int .i64 (wrap64 ((cA:Int)+1))):=(ae Fe).cell 3
   have n4:w5.cell? ⟨w3.heap.size,4,none⟩=some (.int .i64 (wrap64 ((cB:Int)-(cA:Int)))):=(ae Fe).cell 4
   have r0:w5.cell? ⟨w.heap.size,0,none⟩=some (.int .i64 0):=(ae qG).cell 0
   have r1:w5.cell? ⟨w.heap.size,1,none⟩=some (.int .i64 0):=(ae qG).cell 1
   have r2:w5.cell? ⟨w.heap.size,2,none⟩=some (.int .i64 0):=(ae qG).cell 2
   have r3:w5.cell? ⟨w.heap.size,3,none⟩=some (.int .i64 0):=(ae qG).cell 3
   have r4:w5.cell? ⟨w.heap.size,4,none⟩=some (.int .i64 0):=(ae qG).cell 4
   have q0:=(ae qG).frozen 0
   have q1:=(ae qG).frozen 1
   have q2:=(ae qG).frozen 2
   have q3:=(ae qG).frozen 3
   have q4:=(ae qG).frozen 4
   clear htr
   go_wp2
   refine bodyPost_ret (v:=lq (wrap64 (F1-F0)) R1 (wrap64 (C1-C0)) (wrap64 ((cA:Int)+1)) (wrap64 ((cB:Int)-(cA:Int)))) (Dk _ w.heap.size _ _ _ _ _ _ rfl ?_) rfl ⟨_,rfl,ae HFin _ _ ?_ ?_⟩
   ·exact (((((ae qG).set 0 _).set 1 _).set 2 _).set 3 _).set 4 _
   ·rw[ae Fg,if_pos (ae HH)]
   ·have kk:au (fun b=>b=w.heap.size) w3 w5:=(ae LQ).bI.from ((ae IC).mono (fun b h=>.inr (by omega)))
    exact (((((kk).setCell (p:=⟨w.heap.size,0,none⟩) (.inl rfl) _).setCell (p:=⟨w.heap.size,1,none⟩) (.inl rfl) _).setCell (p:=⟨w.heap.size,2,none⟩) (.inl rfl) _).setCell (p:=⟨w.heap.size,3,none⟩) (.inl rfl) _).setCell (p:=⟨w.heap.size,4,none⟩) (.inl rfl) _
  ·have HH:=ai htr
   have r0:w4.cell? ⟨w.heap.size,0,none⟩=some (.int .i64 0):=(ae HR4).cell 0
   have r1:w4.cell? ⟨w.heap.size,1,none⟩=some (.int .i64 0):=(ae HR4).cell 1
   have r2:w4.cell? ⟨w.heap.size,2,none⟩=some (.int .i64 0):=(ae HR4).cell 2
   have r3:w4.cell? ⟨w.heap.size,3,none⟩=some (.int .i64 0):=(ae HR4).cell 3
   have r4:w4.cell? ⟨w.heap.size,4,none⟩=some (.int .i64 0):=(ae HR4).cell 4
   have q0:=(ae HR4).frozen 0
   have q1:=(ae HR4).frozen 1
   have q2:=(ae HR4).frozen 2
   have q3:=(ae HR4).frozen 3
   have q4:=(ae HR4).frozen 4
   clear f3 f4
   go_wp2
   refine bodyPost_ret (v:=lq (wrap64 (F1-F0)) R1 (wrap64 (C1-C0)) 0 0) (Dk _ w.heap.size _ _ _ _ _ _ rfl ?_) rfl ⟨_,rfl,ae HFin _ _ ?_ ?_⟩
   ·exact (((((ae HR4).set 0 _).set 1 _).set 2 _).set 3 _).set 4 _
   ·have:=ae HH;rw[ae Fg,if_neg (by omega)]
   ·have kk:au (fun b=>b=w.heap.size) w3 w4:=(ae LQ).bI
    exact (((((kk).setCell (p:=⟨w.heap.size,0,none⟩) (.inl rfl) _).setCell (p:=⟨w.heap.size,1,none⟩) (.inl rfl) _).setCell (p:=⟨w.heap.size,2,none⟩) (.inl rfl) _).setCell (p:=⟨w.heap.size,3,none⟩) (.inl rfl) _).setCell (p:=⟨w.heap.size,4,none⟩) (.inl rfl) _
end Go.Proofs.YtigaphnafnpfnaaGreatDoor
