import Derived.Test.YtigaphnafnpfnaaGreatDoorQVV9
import Derived.Test.YtigaphnafnpfnaaGreatDoorQVX15
set_option linter.unusedVariables false
set_option linter.unusedSimpArgs false
set_option maxHeartbeats 8000000
set_option maxRecDepth 100000
namespace Go.Proofs.YtigaphnafnpfnaaGreatDoor
open Go.RowKit Go.Maps
attribute [local go_sem ↓] Go.wp_at_zero Go.wp_at_succ
theorem CX{q:Bool}:¬nK q 105:=by rintro (e|e|e|e|e|e|e|e|⟨_,e⟩) <;> exact absurd e (by decide)
theorem sO{q:Bool}:¬nK q 100:=by rintro (e|e|e|e|e|e|e|e|⟨_,e⟩) <;> exact absurd e (by decide)
theorem zX{q:Bool}:¬nK q 62:=by rintro (e|e|e|e|e|e|e|e|⟨_,e⟩) <;> exact absurd e (by decide)
def iM(bv bm bo:Nat)(V:aQ)(Q:aQ->World->Prop)(w w':World):Prop :=
 ∃V2,dN w' bv bm bo V2/\Q V2 w'/\WB V.lg V2.lg 3/\(∀b c t,az w b c t->(t=105\/t=35\/t=103)->az w' b c t)/\V2.aU=V.aU/\au (dI bv bm bo V) w w'/\∀x,dI bv bm bo V2 x->dI bv bm bo V x\/w.heap.size<=x
theorem WL(bv bm bo k tb bx by':Nat)(V:aQ)(N:Int)(x:Tg)(again:Bool)(w:World)(R:dN w bv bm bo V)(WY:oC w)(hN:N-1=(k:Int))(hx:V.lg.tr[k]?=some x)(htb:V.lm.tb[k]?=some tb)(hlen:V.lg.tr.length<=1000000000)(hlen2:V.lg.tp.length<1000000000)(hput:pO x V.lg.day=0)
 (abe:V.aU x.t.kZ=some bx) (ZX:V.aU x.t.fM=some by') (hw1:(Lit.int .i64 x.t.kZ).wf=true) (hw2:(Lit.int .i64 x.t.fM).wf=true) (bk:Nat->Nat) (Q2 Q3:aQ->World->Prop) (hQ2:∀V2 W W',Q2 V2 W->au aP W W'->Q2 V2 W') (hna:V.lg.ud+V.lg.na<3000000)
 (h2:∀w1 EZ Vq,dN w1 bv bm bo { V with lg:=V.lg.gV k tb x.t,lm:=EZ }->w.heap.size<=w1.heap.size->gI w1 bv bk w.heap.size true (V.lm.ac.map Prod.snd) (V.lg.gV k tb x.t).nt V.lm.tb EZ Vq->Calls Tryz.prog 75 #[.pointer (some ⟨bv,0,none⟩),.pointer (some ⟨bx,0,none⟩),.int .i64 x.t.aI,.bool again] w1 fun e w'=>e=.returned (.tuple #[])/\iM bv bm bo { V with lg:=V.lg.gV k tb x.t,lm:=EZ } Q2 w1 w')
 (h3:∀V2 w2,Q2 V2 w2->w.heap.size<=w2.heap.size->dN w2 bv bm bo V2->V2.aU=V.aU->V2.lg.na=V.lg.na+1->V2.lg.nt.length<=4->Calls Tryz.prog 75 #[.pointer (some ⟨bv,0,none⟩),.pointer (some ⟨by',0,none⟩),.int .i64 x.t.aI,.bool again] w2 fun e w'=>e=.returned (.tuple #[])/\iM bv bm bo V2 Q3 w2 w') :
 Calls Tryz.prog 39 #[.pointer (some ⟨bv,0,none⟩),.int .i64 N,.bool again] w fun e w'=>e=.returned (.int .i64 0) /\
  ∃V3,Q3 V3 w'/\V3.aU=V.aU/\dN w' bv bm bo V3/\WB (V.lg.gV k tb x.t) V3.lg 6/\au (dI bv bm bo V) w w'/\∀y,dI bv bm bo V3 y->dI bv bm bo V y\/w.heap.size<=y:=by
 have bN:gW N:=by
  have hk:=(List.getElem?_eq_some_iff.1 hx).1
  exact⟨by omega,by omega⟩
 have k0:au aP w (w.alloc (.cells #[.pointer (some ⟨bv,0,none⟩)] 35)):=(au.refl aP w).alloc _
 have hT:=wE bv bm bo k tb V.lg V.lm N x _ (R.aO.aH k0) hN hx htb hlen
 rw[hput]at hT
 simp only[if_true]at hT
 have HT:=ai hT
 clear hT
 have hF:V.lm.F tb:=.inr (.inr (.inl (List.mem_of_getElem? htb)))
 have TP:=az.new w #[.pointer (some ⟨bv,0,none⟩)] 35
 have lv:=R.dA.lt
 have HR:=ai R
 have HX:=ai hx
 have Vg:=ai htb
 have HFt:=ai hF
 have HH2:=ai h2
 have HH3:=ai h3
 clear hput hx htb R hF h2 h3
 go_enter Tryz.func39,Tryz.ntmps39
 go_wp2_with fail
 refine (ae HT).mono ?_
 rintro e w1 ⟨rfl,k1⟩
 have SB:au aP w w1:=k0.trans k1
 obtain⟨yh,yt⟩:∃yh,yh=w1.alloc (.cells #[.pointer (some ⟨tb,0,none⟩)] 103):=⟨_,rfl⟩
 have SA:au aP w yh:=by rw[yt];exact SB.alloc _
 have Vo:az yh w.heap.size #[.pointer (some ⟨bv,0,none⟩)] 35:=by rw[yt];exact (k1.aB TP (fun x=>x)).alloc _
 have Zc:az yh w1.heap.size #[.pointer (some ⟨tb,0,none⟩)] 103:=by rw[yt];exact az.new _ _ _
 have R1:=(ae HR).aH SA
 have tb1:az yh tb x.cells 105:=R1.aO.aO.aB k tb x (ae Vg) (ae HX)
 have mg:=ai (ng bv bm bo V.lg V.lm (zg N again) yh R1.aO hna (zh N again bN).1 (zh N again bN).2)
 have HLn:=ai (JG N again yh (WY.aH SA) bN)
 have Ob:yh.cell? ⟨w.heap.size,0,none⟩=some (.pointer (some ⟨bv,0,none⟩)):=Vo.cell 0
 have HB1:=ai Vo
 have HV1:=ai R1.dA
 have HLo:=ai R1.aO
 have xv1:w1.cell? ⟨w.heap.size,0,none⟩=some (.pointer (some ⟨bv,0,none⟩)):=(k1.aB TP (fun x=>x)).cell 0
 have HW:=ai yt
 have l1:w.heap.size<w1.heap.size:=by have:=SB.size;have:=k1.size;simp at this;omega
 clear yt k1
 generalize zg N again=ln at mg HLn
 have noB:∀wb,au (fun b=>b=bv\/V.lm.av.ownBlock=some b\/V.lm.jv.ownBlock=some b) yh wb->wb.cell? ⟨w.heap.size,0,none⟩=some (.pointer (some ⟨bv,0,none⟩)):=fun wb kb=>(kb.aB (ae HB1) (by
  rintro (e|e|e)
  ·exact az.ne (ae HB1) (ae HV1) (by decide) e
  ·exact bV (ae HLo).aO.act.row e (ae HB1) (by decide) rfl
  ·exact bV (ae HLo).aO.kH e (ae HB1) (by decide) rfl)).cell 0
 have YH:=ai noB
 clear noB
 go_wp2
 rw[<-ae HW]
 go_region_held3 (fun w'=>w'.cell? ⟨w.heap.size,0,none⟩=some (.pointer (some ⟨bv,0,none⟩))) (go_keep)
  (first
    | (go_at_call 72;refine (ae HLn _ ?cc).mono ?_;(case cc=>repeat (first|exact au.refl _ _|refine au.drew ?_));rintro e wl ⟨rfl,hk⟩;have z0:=hk.cell (p:=⟨w.heap.size,0,none⟩) Ob (fun x=>x);have Fb:=ai hk;clear hk)
    | (go_at_call 51;refine (ae mg _ ?cc).mono ?_;(case cc=>repeat (first|exact ae Fb|refine au.drew ?_));rintro e wb ⟨rfl,kT,hLb,qO,-,tH,kb,hac⟩;have U6:=ai hac;clear hac;have z0:=ae YH wb kb;have IP:=ai hLb;have Fa:=ai qO;have DD:=ai kb;have LV:=ai tH;clear hLb qO kb tH))
 rename_i PK
 clear PK z0 Ob HLn Fb YH
 have hLb:=ae IP
 have qO:=ae Fa
 have kb:=ae DD
 have tH:=ae LV
 clear IP Fa DD LV HB1 HV1 HLo
 have nob:∀{b c t},az yh b c t->t≠100->t≠109->t≠5->az wb b c t:=fun h h0 h1 h2=>kb.aB h (by
  rintro (e|e|e)
  ·exact az.ne h R1.dA h0 e
  ·exact bV R1.aO.aO.act.row e h (fun e=>h1 e.symm) rfl
  ·exact bV R1.aO.aO.kH e h (fun e=>h2 e.symm) rfl)
 have Mc:=nob Vo (by decide) (by decide) (by decide)
 have TA:=nob Zc (by decide) (by decide) (by decide)
 have Rz:=nob tb1 (by decide) (by decide) (by decide)
 have hL2:bu (wb.setCell ⟨tb,7,none⟩ (.bool false)) bv bm bo (V.lg.begun.lC k x.t) kT:=hLb.lC (ae HX) (by rw[tH.1];exact ae Vg)
 have xtb:wb.cell? ⟨w1.heap.size,0,none⟩=some (.pointer (some ⟨tb,0,none⟩)):=TA.cell 0
 have t7:=Rz.cell 7
 have f7:=Rz.frozen 7
 simp only[Tg.cells]at t7
 simp at t7
 obtain⟨w2,P6⟩:∃w2,w2=wb.setCell ⟨tb,7,none⟩ (.bool false):=⟨_,rfl⟩
 have k2:au (fun y=>y=tb) wb w2:=by rw[P6];exact (au.refl (fun y=>y=tb) wb).setCell (p:=⟨tb,7,none⟩) (.inl rfl) _
 have tb2:az w2 tb (Tg.cells ⟨x.t,false⟩) 105:=by rw[P6];exact Rz.set 7 _
 rw[<-P6]at hL2
 have bv2:=k2.aB Mc (fun e=>az.ne Mc Rz (by decide) e)
 have bt2:=k2.aB TA (fun e=>az.ne TA Rz (by decide) e)
 have kF2:au (fun y=>y=bv\/V.lm.F y) w w2:=(SA.bI.trans (kb.mono (fun y h=>h.imp_right (fun h=>h.elim (fun h=>.inr (.inr (.inr (.inl h)))) (fun h=>.inr (.inl (.inr h))))))).trans (k2.mono (fun y h=>.inr (by rw[h];exact ae HFt)))
 have wZ:∀y,kT.F y->V.lm.F y\/w.heap.size<=y:=fun y h=>(qO y h).imp_right (fun h=>Nat.le_trans SA.size h)
 have Vt:gI w2 bv bk w.heap.size true (V.lm.ac.map Prod.snd) V.lg.begun.nt V.lm.tb kT []:=(gI.begun (w:=wb) tH (ae U6)).aC k2 (l9.fZ (fun y hy=>by subst hy;exact⟨_,105,Rz,CX⟩))
 have Yz:=ai Vt
 have YP:=ai tH.2
 clear Vt
 have hT2:=xC bv bm bo _ kT 2 x.t w2.drew (hL2.aH (au.refl aP w2).drew) (by simp only[Lg.lC,Lg.begun];exact hlen2)
 simp only[Tr.val]at hT2
 have HT2:=ai hT2
 have HW2:=ai P6
 have HL2:=ai hL2
 have x2:w2.cell? ⟨w.heap.size,0,none⟩=some (.pointer (some ⟨bv,0,none⟩)):=bv2.cell 0
 have y2:w2.cell? ⟨w1.heap.size,0,none⟩=some (.pointer (some ⟨tb,0,none⟩)):=bt2.cell 0
 have d0:w2.cell? ⟨tb,0,none⟩=some (.int .i64 x.t.num):=tb2.cell 0
 have d1:w2.cell? ⟨tb,1,none⟩=some (.string x.t.sym):=tb2.cell 1
 have d2:w2.cell? ⟨tb,2,none⟩=some (.int .i64 x.t.af):=tb2.cell 2
 have d3:w2.cell? ⟨tb,3,none⟩=some (.int .i64 x.t.aI):=tb2.cell 3
 have d4:w2.cell? ⟨tb,4,none⟩=some (.int .i64 x.t.kZ):=tb2.cell 4
 have d5:w2.cell? ⟨tb,5,none⟩=some (.int .i64 x.t.fM):=tb2.cell 5
 have d6:w2.cell? ⟨tb,6,none⟩=some (.int .i64 x.t.day):=tb2.cell 6
 have LP:Hid (∀w3,au (fun b=>b=bv\/kT.pv.ownBlock=some b) w2.drew w3->∀{b c t},az w2 b c t->t≠100->t≠62->az w3 b c t):=fun w3 kc b c t h h0 h1=>kc.aB h.drew (by
  rintro (e|e)
  ·exact az.ne h hL2.dA h0 e
  ·exact bV hL2.aO.iF e h (fun e=>h1 e.symm) rfl)
 have Yy:=ai bv2
 have HBt:=ai bt2
 have Wh:=ai tb2
 have HKF:=ai kF2
 have U8:=ai wZ
 clear hT2 P6 hL2 k2 tb2 bv2 bt2 Mc TA Rz nob kb hLb qO tH tb1 Zc Vo R1 SA SB mg HW HT wZ kF2 xv1 k0 TP
 go_wp2
 rw[<-ae HW2]
 clear xtb t7 f7
 go_region_held3 (fun w'=>w'.cell? ⟨w.heap.size,0,none⟩=some (.pointer (some ⟨bv,0,none⟩))/\w'.cell? ⟨w1.heap.size,0,none⟩=some (.pointer (some ⟨tb,0,none⟩))/\w'.cell? ⟨tb,0,none⟩=some (.int .i64 x.t.num)/\w'.cell? ⟨tb,1,none⟩=some (.string x.t.sym)/\w'.cell? ⟨tb,2,none⟩=some (.int .i64 x.t.af)/\w'.cell? ⟨tb,3,none⟩=some (.int .i64 x.t.aI)/\w'.cell? ⟨tb,4,none⟩=some (.int .i64 x.t.kZ)/\w'.cell? ⟨tb,5,none⟩=some (.int .i64 x.t.fM)/\w'.cell? ⟨tb,6,none⟩=some (.int .i64 x.t.day)) (go_keep)
  (first|(go_at_call 73;refine (ae HT2).mono ?_;rintro e w3 ⟨rfl,kR,c1,c2,c3,c4,c5⟩;have HC4:=ai c4;have Sl:=ai c5;clear c4 c5;have bv3:=ae LP w3 c3 (ae Yy) (by decide) (by decide);have bt3:=ae LP w3 c3 (ae HBt) (by decide) (by decide);have UJ:=ae LP w3 c3 (ae Wh) (by decide) (by decide);have a0:w3.cell? ⟨w.heap.size,0,none⟩=some (.pointer (some ⟨bv,0,none⟩)):=bv3.cell 0;have a1:w3.cell? ⟨w1.heap.size,0,none⟩=some (.pointer (some ⟨tb,0,none⟩)):=bt3.cell 0;have b0:w3.cell? ⟨tb,0,none⟩=some (.int .i64 x.t.num):=UJ.cell 0;have b1:w3.cell? ⟨tb,1,none⟩=some (.string x.t.sym):=UJ.cell 1;have b2:w3.cell? ⟨tb,2,none⟩=some (.int .i64 x.t.af):=UJ.cell 2;have b3:w3.cell? ⟨tb,3,none⟩=some (.int .i64 x.t.aI):=UJ.cell 3;have b4:w3.cell? ⟨tb,4,none⟩=some (.int .i64 x.t.kZ):=UJ.cell 4;have b5:w3.cell? ⟨tb,5,none⟩=some (.int .i64 x.t.fM):=UJ.cell 5;have b6:w3.cell? ⟨tb,6,none⟩=some (.int .i64 x.t.day):=UJ.cell 6;have Og:=ai c1;have HC2:=ai c2;have OD:=ai c3;have HV3:=ai bv3;have HT3:=ai bt3;have YO:=ai UJ;clear c1 c2 c3 bv3 bt3 UJ))
 rename_i PK
 clear PK x2 y2 d0 d1 d2 d3 d4 d5 d6 HT2
 have FP:gI w3 bv bk w.heap.size true (V.lm.ac.map Prod.snd) V.lg.begun.nt V.lm.tb kR []:=by
  have h:=(((ae Yz).aH (au.refl aP w2).drew).aC (ae OD) (l9.fZ (fun y hy=>by
   rcases hy with e|e
   ·subst e;exact⟨_,100,(ae HL2).dA.drew,sO⟩
   ·obtain⟨cs,hcs⟩:=bF (ae HL2).aO.iF e
    exact⟨cs,62,hcs.drew,zX⟩))).QR (m':=kR) (ae HC4) (fun d hd=>by simp[Lg.begun]at hd)
  rw[(ae Sl).1,(ae Yz).tb]at h
  exact h
 have i3:bJ w3 bv bk w.heap.size (.jw tb) (.func (.func 74) #[] #[.pointer (some ⟨w1.heap.size,0,none⟩),.pointer (some ⟨w.heap.size,0,none⟩)]):=⟨_,_,rfl,rfl,w.heap.size,w1.heap.size,Nat.le_refl _,by omega,rfl,ae HV3,ae HT3⟩
 have qF:=ai (lV bv bm bo _ kR (.jw tb) (.func 74) #[.pointer (some ⟨w1.heap.size,0,none⟩),.pointer (some ⟨w.heap.size,0,none⟩)] w3 bk w.heap.size true _ _ _ (ae Og) FP (fun _=>rfl) i3 (by show 0<V.lg.na+1;omega) (by show V.lg.na+1<=3000000;omega) (by show 0+1<1000000000;omega) (fun _ g hg=>(ae HR).aO.aO.lt (.inl (by rw[<-ae YP,<-(ae Sl).2];exact hg))))
 have hF3:∀y,kR.F y->V.lm.F y\/w.heap.size<=y:=fun y h=>by
  rcases ae HC2 y h with h|h
  ·exact ae U8 y h
  ·exact .inr (Nat.le_trans (ae HKF).size h)
 have kF3:au (fun y=>y=bv\/V.lm.F y) w w3:=(ae HKF).drew.from ((ae OD).mono (fun y h=>by
  rcases h with h|h
  ·exact .inl (.inl h)
  ·exact (ae U8 y (.inr (.inl (.inl h)))).imp_left .inr))
 have HF3:=ai hF3
 have VY:=ai kF3
 clear hF3 kF3 FP i3
 go_wp2_with fail
 refine (ae qF).mono ?_
 rintro e w4 ⟨rfl,VH,c1,c2,c3,-,c6⟩
 change gI w4 bv bk w.heap.size true (V.lm.ac.map Prod.snd) (V.lg.gV k tb x.t).nt V.lm.tb VH _ at c6
 change bu w4 bv bm bo (V.lg.gV k tb x.t) VH at c1
 have Tt:∀{b c t},az w3 b c t->t≠109->t≠1->az w4 b c t:=fun h h0 h1=>c3.aB h (fun e=>by
  obtain⟨c',t',hc,ht'⟩:=(ae Og).aO.act.fZ e
  exact az.ne h hc (by rcases ht' with rfl|rfl;exact h0;exact h1) rfl)
 have bv4:=Tt (ae HV3) (by decide) (by decide)
 have bt4:=Tt (ae HT3) (by decide) (by decide)
 have tb4:=Tt (ae YO) (by decide) (by decide)
 have kF4:au (fun y=>y=bv\/V.lm.F y) w w4:=(ae VY).from (c3.mono (fun y h=>(ae HF3 y (.inr (.inr (.inr h)))).imp_left .inr))
 have hF4:∀y,VH.F y->V.lm.F y\/w.heap.size<=y:=fun y h=>by
  rcases c2 y h with h|h
  ·exact ae HF3 y h
  ·exact .inr (Nat.le_trans (ae VY).size h)
 have R4:dN w4 bv bm bo { V with lg:=V.lg.gV k tb x.t,lm:=VH }:=(ae HR).jH c1 kF4
 have R4d:=R4.aH (au.refl aP w4).drew
 have L1:=R4d.vN (id:=x.t.kZ) hw1
 simp only[abe,iR]at L1
 have H2:=ai (ae HH2 w4.drew VH _ R4d (by have:=kF4.size;have:=(au.refl aP w4).drew.size;omega) (c6.aH (au.refl aP w4).drew))
 have c1':w4.cell? ⟨bv,1,none⟩=some (.map (some bo)):=R4.dA.cell 1
 have x4:w4.cell? ⟨w.heap.size,0,none⟩=some (.pointer (some ⟨bv,0,none⟩)):=bv4.cell 0
 have y4:w4.cell? ⟨w1.heap.size,0,none⟩=some (.pointer (some ⟨tb,0,none⟩)):=bt4.cell 0
 have d3:w4.cell? ⟨tb,3,none⟩=some (.int .i64 x.t.aI):=tb4.cell 3
 have d4:w4.cell? ⟨tb,4,none⟩=some (.int .i64 x.t.kZ):=tb4.cell 4
 have aaN:=ai bv4
 have aaL:=ai bt4
 have aaV:=ai tb4
 have YE:=ai kF4
 have HF4:=ai hF4
 clear c1 c2 c3 c6 Tt bv4 bt4 tb4 kF4 hF4 R4 R4d a0 a1 b0 b1 b2 b3 b4 b5 b6 qF Og HC2 OD HV3 HT3 YO LP Yy HBt Wh HKF U8 HF3 VY HL2 HW2
 go_wp2
 go_region_held3 (fun w'=>w'.cell? ⟨w.heap.size,0,none⟩=some (.pointer (some ⟨bv,0,none⟩))/\w'.cell? ⟨w1.heap.size,0,none⟩=some (.pointer (some ⟨tb,0,none⟩))/\w'.cell? ⟨bv,1,none⟩=some (.map (some bo))/\w'.cell? ⟨tb,4,none⟩=some (.int .i64 x.t.kZ)/\w'.cell? ⟨tb,3,none⟩=some (.int .i64 x.t.aI)) (go_keep)
  (first|(go_at_call 75;refine (ae H2).mono ?_;rintro e w5 ⟨rfl,V5,R5,q5,l5,p5,o5,k5,f5⟩;have bv5:=p5 _ _ _ (ae aaN).drew (by simp);have bt5:=p5 _ _ _ (ae aaL).drew (by simp);have tb5:=p5 _ _ _ (ae aaV).drew (by simp);have g0:w5.cell? ⟨w.heap.size,0,none⟩=some (.pointer (some ⟨bv,0,none⟩)):=bv5.cell 0;have g1:w5.cell? ⟨w1.heap.size,0,none⟩=some (.pointer (some ⟨tb,0,none⟩)):=bt5.cell 0;have g2:w5.cell? ⟨bv,1,none⟩=some (.map (some bo)):=R5.dA.cell 1;have g3:w5.cell? ⟨tb,3,none⟩=some (.int .i64 x.t.aI):=tb5.cell 3;have g4:w5.cell? ⟨tb,4,none⟩=some (.int .i64 x.t.kZ):=tb5.cell 4;have g5:w5.cell? ⟨tb,5,none⟩=some (.int .i64 x.t.fM):=tb5.cell 5;have qG:=ai R5;have HQ5:=ai q5;have HL5:=ai l5;have HO5:=ai o5;have IC:=ai k5;have HF5:=ai f5;have aaO:=ai bv5;have aaM:=ai bt5;have aaW:=ai tb5;clear R5 q5 l5 p5 o5 k5 f5 bv5 bt5 tb5))
 rename_i PK
 clear PK c1' x4 y4 d3 d4 L1 H2
 have R5d:=(ae qG).aH (au.refl aP w5).drew
 have L2:=R5d.vN (id:=x.t.fM) hw2
 have hs5:V5.aU x.t.fM=some by':=by rw[ae HO5];exact ZX
 simp only[hs5,iR]at L2
 have H3:=ai (ae HH3 V5 w5.drew (hQ2 _ _ _ (ae HQ5) (au.refl aP w5).drew) (by have h1:=(ae YE).size;have h2:=(ae IC).size;have h3:=(au.refl aP w4).drew.size;have h4:=(au.refl aP w5).drew.size;omega) R5d (ae HO5) (by rw[(ae HL5).2.2.2.1];rfl) (by have:=(ae HL5).2.2.2.2;simp only[Lg.gV,Lg.aV,Lg.told,Lg.lC,Lg.begun,List.nil_append,List.length_cons,List.length_nil]at this;omega))
 clear R5d hs5
 go_wp2
 go_region_held3 (fun w'=>w'.cell? ⟨w.heap.size,0,none⟩=some (.pointer (some ⟨bv,0,none⟩))/\w'.cell? ⟨w1.heap.size,0,none⟩=some (.pointer (some ⟨tb,0,none⟩))/\w'.cell? ⟨bv,1,none⟩=some (.map (some bo))/\w'.cell? ⟨tb,5,none⟩=some (.int .i64 x.t.fM)/\w'.cell? ⟨tb,3,none⟩=some (.int .i64 x.t.aI)) (go_keep)
  (first|(go_at_call 75;refine (ae H3).mono ?_;rintro e w6 ⟨rfl,V6,R6,q6,l6,p6,o6,k6,f6⟩;have bv6:=p6 _ _ _ (ae aaO).drew (by simp);have bt6:=p6 _ _ _ (ae aaM).drew (by simp);have tb6:=p6 _ _ _ (ae aaW).drew (by simp);have j0:w6.cell? ⟨w.heap.size,0,none⟩=some (.pointer (some ⟨bv,0,none⟩)):=bv6.cell 0;have j1:w6.cell? ⟨w1.heap.size,0,none⟩=some (.pointer (some ⟨tb,0,none⟩)):=bt6.cell 0;have j2:w6.cell? ⟨bv,1,none⟩=some (.map (some bo)):=R6.dA.cell 1;have j3:w6.cell? ⟨tb,3,none⟩=some (.int .i64 x.t.aI):=tb6.cell 3;have j5:w6.cell? ⟨tb,5,none⟩=some (.int .i64 x.t.fM):=tb6.cell 5;have Tf:=ai R6;have HQ6:=ai q6;have HL6:=ai l6;have HO6:=ai o6;have HK6:=ai k6;have HF6:=ai f6;clear R6 q6 l6 p6 o6 k6 f6 bv6 bt6 tb6))
 clear g0 g1 g2 g3 g4 g5 L2 H3
 go_wp2
 go_ret
 have hft:∀y,dI bv bm bo { V with lg:=V.lg.gV k tb x.t,lm:=VH } y->dI bv bm bo V y\/w.heap.size<=y:=fun y hy=>by
  rcases hy with h|h|h|h|h|h
  ·exact .inl (.inl h)
  ·exact .inl (.inr (.inl h))
  ·exact .inl (.inr (.inr (.inl h)))
  ·exact .inl (.inr (.inr (.inr (.inl h))))
  ·exact .inl (.inr (.inr (.inr (.inr (.inl h)))))
  ·exact (ae HF4 y h).imp_left (fun h=>.inr (.inr (.inr (.inr (.inr h)))))
 have VG:au (dI bv bm bo V) w w4:=(ae YE).mono (fun y h=>h.elim (fun h=>.inl h) (fun h=>.inr (.inr (.inr (.inr (.inr h))))))
 have SC:au (dI bv bm bo V) w w5:=VG.drew.from ((ae IC).mono hft)
 have f5:∀y,dI bv bm bo V5 y->dI bv bm bo V y\/w.heap.size<=y:=fun y h=>by
  rcases ae HF5 y h with h|h
  ·exact hft y h
  ·exact .inr (Nat.le_trans VG.size h)
 have kk6:au (dI bv bm bo V) w w6:=SC.drew.from ((ae HK6).mono f5)
 obtain⟨a1,a2,a3,a4,a5⟩:=ae HL5
 obtain⟨b1,b2,b3,b4,b5⟩:=ae HL6
 refine⟨rfl,V6,ae HQ6,(ae HO6).trans (ae HO5),ae Tf,⟨b1.trans a1,b2.trans a2,b3.trans a3,b4.trans a4,by omega⟩,kk6,fun y hy=>?_⟩
 rcases ae HF6 y hy with h|h
 ·exact f5 y h
 ·exact .inr (Nat.le_trans SC.size h)
theorem MG{w wd:World}{bv lo:Nat}{bk:Nat->Nat}{q:Bool}{G:Lg}{m mb md:Lm}{S:Nat->Prop}(htb:mb.tb=m.tb/\mb.tv=m.tv)(hac:mb.ac.map Prod.snd=m.ac.map Prod.snd++[[]])(h1:md.ac=mb.ac)(h2:md.tb=mb.tb)(k:au S w wd)(hS:∀y,S y->∃c t,az w y c t/\(t=100\/t=105\/t=62)):gI wd bv bk lo q (m.ac.map Prod.snd) G.begun.nt m.tb md []:=by
 have h:=((gI.begun (w:=w) (bv:=bv) (bk:=bk) (lo:=lo) (q:=q) (G:=G) htb hac).aC k (l9.fZ (fun y hy=>by
  obtain⟨c,t,hc,ht⟩:=hS y hy
  exact⟨c,t,hc,by rcases ht with rfl|rfl|rfl;exact sO;exact CX;exact zX⟩))).QR (m':=md) h1 (fun d hd=>by simp[Lg.begun]at hd)
 rw[h2,htb.1]at h
 exact h
theorem Ap(bv bm bo k tb:Nat)(G:Lg)(m:Lm)(x:Tg)(p:Int)(w:World)(hL:bu w bv bm bo G m)(hx:G.tr[k]?=some x)(htb:m.tb[k]?=some tb)(hlen:G.tp.length<1000000000) :
 Calls Tryz.prog 76 #[.pointer (some ⟨bv,0,none⟩),.pointer (some ⟨tb,0,none⟩),.int .i64 p] w fun e w'=>e=.returned (.tuple #[]) /\
  ∃m',bu w' bv bm bo ((G.jf k x p).told 3 (x.t.at p)) m'/\(∀b,m'.F b->m.F b\/w.heap.size<=b)/\au (fun b=>b=bv\/m.F b) w w'/\m'.ac=m.ac/\(m'.tb=m.tb/\m'.tv=m.tv)/\∃S,au S w w'/\∀y,S y->∃c t,az w y c t/\(t=100\/t=105\/t=62):=by
 have hblk:=hL.aO.aB k tb x htb hx
 have hF:m.F tb:=.inr (.inr (.inl (List.mem_of_getElem? htb)))
 obtain⟨w1,hw1⟩:∃w1,w1=w.setCell ⟨tb,2,none⟩ (.int .i64 p):=⟨_,rfl⟩
 have k1:au (fun y=>y=tb) w w1:=by rw[hw1];exact (au.refl (fun y=>y=tb) w).setCell (p:=⟨tb,2,none⟩) (.inl rfl) _
 have hL1:bu w1 bv bm bo (G.jf k x p) m:=by rw[hw1];exact hL.jf hx htb p
 have b1:az w1 tb #[.int .i64 x.t.num,.string x.t.sym,.int .i64 p,.int .i64 x.t.aI,.int .i64 x.t.kZ,.int .i64 x.t.fM,.int .i64 x.t.day,.bool x.holds] 105:=by rw[hw1];exact hblk.set 2 _
 have c2:=hblk.cell 2
 have f2:=hblk.frozen 2
 simp only[Tg.cells]at c2
 simp at c2
 have c0:w.cell? ⟨tb,0,none⟩=some (.int .i64 x.t.num):=hblk.cell 0
 have c1:w.cell? ⟨tb,1,none⟩=some (.string x.t.sym):=hblk.cell 1
 have c3:w.cell? ⟨tb,3,none⟩=some (.int .i64 x.t.aI):=hblk.cell 3
 have c4:w.cell? ⟨tb,4,none⟩=some (.int .i64 x.t.kZ):=hblk.cell 4
 have c5:w.cell? ⟨tb,5,none⟩=some (.int .i64 x.t.fM):=hblk.cell 5
 have c6:w.cell? ⟨tb,6,none⟩=some (.int .i64 x.t.day):=hblk.cell 6
 have HV:=ai hL.dA
 have HBl:=ai hblk
 have HPr:=ai hL.aO.iF
 have hT:=xC bv bm bo _ m 3 (x.t.at p) w1 hL1 hlen
 simp only[Tr.val,Tr.at]at hT
 have HT:=ai hT
 have HW:=ai hw1
 have HK:=ai k1
 have HF:=ai hF
 clear hT hw1 k1 hL1 b1 hL hblk hF hx htb
 go_enter Tryz.func76,Tryz.ntmps76
 go_wp2_with (go_at_call 73;rw[<-ae HW];refine (ae HT).mono ?_;rintro e w2 ⟨rfl,m',h1,h2,h3,h4,h5⟩;have H1:=ai h1;have H2:=ai h2;have H3:=ai h3;have H4:=ai h4;have H5:=ai h5;clear h1 h2 h3 h4 h5)
 go_end0
 refine⟨rfl,m',ae H1,fun b hb=>(ae H2 b hb).imp_right (fun h=>Nat.le_trans (ae HK).size h),?_,ae H4,ae H5,fun y=>y=tb\/(y=bv\/m.pv.ownBlock=some y),((ae HK).mono (fun y h=>.inl h)).trans ((ae H3).mono (fun y h=>.inr h)),fun y hy=>?_⟩
 ·exact ((ae HK).mono (fun y e=>.inr (by rw[e];exact ae HF))).trans ((ae H3).mono (fun y h=>h.imp_right (fun h=>.inr (.inl (.inl h)))))
 ·rcases hy with e|e|e
  ·rw[e];exact⟨_,105,ae HBl,.inr (.inl rfl)⟩
  ·rw[e];exact⟨_,100,ae HV,.inl rfl⟩
  ·obtain⟨cs,hcs⟩:=bF (ae HPr) e
   exact⟨cs,62,hcs,.inr (.inr rfl)⟩
theorem MC(bv bm bo k tb:Nat)(V:aQ)(N af:Int)(x:Tg)(w:World)(bk:Nat->Nat)(R:dN w bv bm bo V)(WY:oC w)(hN:N-1=(k:Int))(hx:V.lg.tr[k]?=some x)(htb:V.lm.tb[k]?=some tb)(hlen:V.lg.tr.length<=1000000000)(hlen2:V.lg.tp.length<1000000000)(hput:pO x V.lg.day=0)(hp:fH af=true)(hna:V.lg.ud+V.lg.na<3000000) :
 Calls Tryz.prog 40 #[.pointer (some ⟨bv,0,none⟩),.int .i64 N,.int .i64 af] w fun e w'=>e=.returned (.int .i64 0) /\
  ∃bH,bu w' bv bm bo (V.lg.lI k tb x af) bH/\(∀y,bH.F y->V.lm.F y\/w.heap.size<=y)/\au (fun y=>y=bv\/V.lm.F y) w w'/\∃cl,gI w' bv bk w.heap.size true (V.lm.ac.map Prod.snd) (V.lg.lI k tb x af).nt V.lm.tb bH cl:=by
 have bN:gW N:=by
  have hk:=(List.getElem?_eq_some_iff.1 hx).1
  exact⟨by omega,by omega⟩
 have bP:gW af:=nD (by simp[fH]at hp;omega)
 have k0:au aP w (w.alloc (.cells #[.pointer (some ⟨bv,0,none⟩)] 35)):=(au.refl aP w).alloc _
 have hT:=wE bv bm bo k tb V.lg V.lm N x _ (R.aO.aH k0) hN hx htb hlen
 rw[hput]at hT
 simp only[if_true]at hT
 have HT:=ai hT
 clear hT
 have TP:=az.new w #[.pointer (some ⟨bv,0,none⟩)] 35
 have lv:=R.dA.lt
 have HR:=ai R
 have HX:=ai hx
 have Vg:=ai htb
 clear hput hx htb R
 go_enter Tryz.func40,Tryz.ntmps40
 go_wp2_with fail
 refine (ae HT).mono ?_
 rintro e w1 ⟨rfl,k1⟩
 have SB:au aP w w1:=k0.trans k1
 obtain⟨yh,yt⟩:∃yh,yh=w1.alloc (.cells #[.pointer (some ⟨tb,0,none⟩)] 103):=⟨_,rfl⟩
 have SA:au aP w yh:=by rw[yt];exact SB.alloc _
 have s1a:yh.heap.size=w1.heap.size+1:=by rw[yt];simp
 have Vo:az yh w.heap.size #[.pointer (some ⟨bv,0,none⟩)] 35:=by rw[yt];exact (k1.aB TP (fun x=>x)).alloc _
 have Zc:az yh w1.heap.size #[.pointer (some ⟨tb,0,none⟩)] 103:=by rw[yt];exact az.new _ _ _
 have R1:=(ae HR).aH SA
 have zy:=JF ⟨#[99,111,114,114,101,99,116]⟩ N af yh (WY.aH SA) (by decide) (by decide) bN bP
 generalize gY (uw N af) ⟨#[99,111,114,114,101,99,116]⟩ 2=ln at zy
 have mg:=ai (ng bv bm bo V.lg V.lm ln yh R1.aO hna zy.1.1 zy.1.2)
 have HLn:=ai zy.2
 have Ob:yh.cell? ⟨w.heap.size,0,none⟩=some (.pointer (some ⟨bv,0,none⟩)):=Vo.cell 0
 have xv1:w1.cell? ⟨w.heap.size,0,none⟩=some (.pointer (some ⟨bv,0,none⟩)):=(k1.aB TP (fun x=>x)).cell 0
 have HW:=ai yt
 have l1:w.heap.size<w1.heap.size:=by have:=SB.size;have:=k1.size;simp at this;omega
 have aak:∀y,w.heap.size<=y->¬(y=bv\/V.lm.F y):=by
  rintro y hy (e|e)
  ·omega
  ·have:=(ae HR).aO.aO.lt e;omega
 have HC0:Hid ((yh.alloc (.cells #[.int .i64 N,.int .i64 af] 3)).cell? ⟨w1.heap.size+1,0,none⟩=some (.int .i64 N)):=by
  show _=_
  rw[<-s1a];exact (az.new yh _ _).cell 0
 have Og:Hid ((yh.alloc (.cells #[.int .i64 N,.int .i64 af] 3)).cell? ⟨w1.heap.size+1,1,none⟩=some (.int .i64 af)):=by
  show _=_
  rw[<-s1a];exact (az.new yh _ _).cell 1
 have pY:=ai aak
 have HB1:=ai Vo
 have HT1:=ai Zc
 have HR1:=ai R1
 have YC:=ai SA
 have HS1:=ai s1a
 clear yt k1 zy aak R1 Vo Zc SA
 go_wp2_with (go_at_call 68;refine (bZ _ _).mono ?_;rintro e w' ⟨rfl,rfl⟩)
 rw[<-ae HW]
 go_region_held3 (fun w'=>w'.cell? ⟨w.heap.size,0,none⟩=some (.pointer (some ⟨bv,0,none⟩))) (go_keep)
  (first
    | (go_at_call 65;refine (ae HLn _ ?cc _ _ ?c0 ?c1).mono ?_;(case c0=>exact ae HC0);(case c1=>exact ae Og);(case cc=>repeat (first|exact au.refl _ _|refine au.drew ?_|refine au.alloc ?_ _));rintro e wl ⟨rfl,hk⟩;have z0:=hk.cell (p:=⟨w.heap.size,0,none⟩) Ob (fun x=>x);have Fb:=ai hk;clear hk)
    | (go_at_call 51;refine (ae mg _ ?cc).mono ?_;(case cc=>repeat (first|exact ae Fb|refine au.drew ?_));rintro e wb ⟨rfl,kT,hLb,qO,kb,tH,-,hac⟩;have U6:=ai hac;clear hac;have z0:=kb.cell (p:=⟨w.heap.size,0,none⟩) Ob (ae pY _ (Nat.le_refl _));have IP:=ai hLb;have Fa:=ai qO;have DD:=ai kb;have LV:=ai tH;clear hLb qO kb tH))
 rename_i PK
 clear PK z0 Ob xv1 HLn Fb mg
 have hLb:=ae IP
 have qO:=ae Fa
 have kb:=ae DD
 have tH:=ae LV
 have Mc:=kb.aB (ae HB1) (ae pY _ (Nat.le_refl _))
 have TA:=kb.aB (ae HT1) (ae pY _ (by omega))
 have Xn:kT.tb[k]?=some tb:=by rw[tH.1];exact ae Vg
 have hx':V.lg.begun.tr[k]?=some x:=ae HX
 have Rz:az wb tb x.cells 105:=hLb.aO.aB k tb x Xn hx'
 have xv:wb.cell? ⟨w.heap.size,0,none⟩=some (.pointer (some ⟨bv,0,none⟩)):=Mc.cell 0
 have xt:wb.cell? ⟨w1.heap.size,0,none⟩=some (.pointer (some ⟨tb,0,none⟩)):=TA.cell 0
 have t2:wb.cell? ⟨tb,2,none⟩=some (.int .i64 x.t.af):=Rz.cell 2
 have lvb:=Mc.lt
 have ltb:=TA.lt
 have ktb:=Rz.lt
 have outb:∀y,w.heap.size<=y->y<yh.heap.size->¬(y=bv\/kT.F y):=by
  rintro y h1 h2 (e|e)
  ·omega
  ·rcases qO y e with e|e
   ·exact ae pY y h1 (.inr e)
   ·omega
 have hSP:=fun W (kW:au aP wb W)=>Ap bv bm bo k tb V.lg.begun kT x af W (hLb.aH kW) hx' Xn (by simp only[Lg.begun];exact hlen2)
 have HSP:=ai hSP
 have Td:=ai outb
 have HLb:=ai hLb
 have Ya:=ai Mc
 have Wh:=ai TA
 have szb:=(ae DD).size
 have szc:=(ae HS1)
 clear hSP outb hLb qO kb tH Mc TA Rz Xn hx'
 go_wp2_with (go_at_call 76;refine (ae HSP _ ?cc).mono ?_;(case cc=>repeat (first|exact au.refl _ _|refine au.drew ?_|refine au.alloc ?_ _));rintro e wd ⟨rfl,lmd,hLd,hFd,kd,Zp,Xo,SS,kS,hS⟩;have btd:=kS.aB ((ae Wh).alloc (.cells #[.int .i64 x.t.af] 3)) (fun e=>(by obtain⟨c',t',h1,h2⟩:=hS _ e;exact az.ne ((ae Wh).alloc (.cells #[.int .i64 x.t.af] 3)) h1 (by rcases h2 with rfl|rfl|rfl <;> decide) rfl));have pd:=kS.aB (az.new wb #[.int .i64 x.t.af] 3) (fun e=>(by obtain⟨c',t',h1,h2⟩:=hS _ e;exact az.ne (az.new wb #[.int .i64 x.t.af] 3) h1 (by rcases h2 with rfl|rfl|rfl <;> decide) rfl));have cud:gI wd bv bk w.heap.size true (V.lm.ac.map Prod.snd) V.lg.begun.nt V.lm.tb lmd []:=(MG (ae LV) (ae U6) Zp Xo.1 kS hS);have HLd:=ai hLd;have HFd:=ai hFd;have HKd:=ai kd;have bvd:=kd.aB ((ae Ya).alloc (.cells #[.int .i64 x.t.af] 3)) (ae Td _ (Nat.le_refl _) (by omega));have xvd:wd.cell? ⟨w.heap.size,0,none⟩=some (.pointer (some ⟨bv,0,none⟩)):=bvd.cell 0;have idd:bJ wd bv bk w.heap.size (.iE tb x.t.af) (.func (.func 77) #[] #[.pointer (some ⟨w.heap.size,0,none⟩),.pointer (some ⟨w1.heap.size,0,none⟩),.pointer (some ⟨wb.heap.size,0,none⟩)]):=⟨_,_,rfl,rfl,w.heap.size,w1.heap.size,wb.heap.size,Nat.le_refl _,by omega,by omega,rfl,bvd,btd,pd⟩;have qF:=ai (lV bv bm bo _ lmd (.iE tb x.t.af) (.func 77) #[.pointer (some ⟨w.heap.size,0,none⟩),.pointer (some ⟨w1.heap.size,0,none⟩),.pointer (some ⟨wb.heap.size,0,none⟩)] wd bk w.heap.size true _ _ _ hLd cud (fun _=>rfl) idd (by show 0<V.lg.na+1;omega) (by show V.lg.na+1<=3000000;omega) (by show 0+1<1000000000;omega) (fun _ g hg=>(ae HR).aO.aO.lt (.inl (by rw[<-(ae LV).2,<-Xo.2];exact hg))));clear hLd hFd kd bvd btd pd cud idd kS hS Zp Xo)
 refine (ae qF).mono ?_
 rintro e w4 ⟨rfl,VH,c1,c2,c3,-,c6⟩
 have H1:=ai c1
 have H2:=ai c2
 have H3:=ai c3
 have H6:=ai c6
 clear c1 c2 c3 c6
 go_wp2
 go_ret
 have s1:=(ae YC).size
 have sd:=(ae HKd).size
 simp at sd
 have hB:∀y,kT.F y->V.lm.F y\/w.heap.size<=y:=fun y h=>(ae Fa y h).imp_right (fun h=>by omega)
 have hD:∀y,lmd.F y->V.lm.F y\/w.heap.size<=y:=fun y h=>by
  rcases ae HFd y h with h|h
  ·exact hB y h
  ·simp at h;exact .inr (by omega)
 have kF1:au (fun y=>y=bv\/V.lm.F y) w wb:=(ae YC).bI.trans (ae DD)
 have kF3:=(kF1.alloc (.cells #[.int .i64 x.t.af] 3)).from ((ae HKd).mono (fun y h=>by
  rcases h with h|h
  ·exact .inl (.inl h)
  ·exact (hB y h).imp_left .inr))
 refine⟨rfl,VH,ae H1,fun y h=>?_,kF3.from ((ae H3).mono (fun y h=>(hD y (.inr (.inr (.inr h)))).imp_left .inr)),_,ae H6⟩
 rcases ae H2 y h with h|h
 ·exact hD y h
 ·exact .inr (by omega)
open Go.RowKit
def Lg.oN(G:Lg)(k:Nat)(t:Tr):Lg:={ G with tr:=G.tr.set k ⟨t,true⟩ }
theorem fP.oN{w:World}{bv bm bo k b:Nat}{G:Lg}{m:Lm}{x:Tg}(h:bu w bv bm bo G m)(hx:G.tr[k]?=some x)(hb:m.tb[k]?=some b):bu (w.setCell ⟨b,7,none⟩ (.bool true)) bv bm bo (G.oN k x.t) m:=by
 have hblk:=h.aO.aB k b x hb hx
 have kk:au (fun y=>y=b) w (w.setCell ⟨b,7,none⟩ (.bool true)):=(au.refl (fun y=>y=b) w).setCell (p:=⟨b,7,none⟩) (.inl rfl) _
 refine⟨kk.aB h.dA (az.ne h.dA hblk (by decide)),?_⟩
 have ht:=aG h.aO.jq kk (fun y hy e=>bV h.aO.jq hy hblk (by decide) e)
 refine⟨?_,aG h.aO.iF kk (fun y hy e=>bV h.aO.iF hy hblk (by decide) e),by simp[Lg.oN,h.aO.len],fun i b' g hi hg=>?_,h.aO.nodup,h.aO.act.aC kk (fun y hy e=>?_),aG h.aO.kH kk (fun y hy e=>bV h.aO.kH hy hblk (by decide) e),h.aO.jb⟩
 ·simp only[Lg.oN,List.length_set];exact ht
 ·simp only[Lg.oN]at hg
  by_cases e:i=k
  ·subst e
   obtain rfl:b'=b:=by rw[hb]at hi;exact (Option.some.inj hi).symm
   have hlt:i<G.tr.length:=(List.getElem?_eq_some_iff.1 hx).1
   rw[List.getElem?_set_self hlt]at hg
   obtain rfl:=Option.some.inj hg
   exact hblk.set 7 _
  ·rw[List.getElem?_set_ne (fun h=>e h.symm)]at hg
   refine kk.aB (h.aO.aB i b' g hi hg) (fun e2=>e ?_)
   subst e2
   obtain⟨h1,e1⟩:=List.getElem?_eq_some_iff.1 hi
   obtain⟨h2,e2⟩:=List.getElem?_eq_some_iff.1 hb
   rcases Nat.lt_trichotomy i k with hlt|hlt|hlt
   ·exact absurd (e1.trans e2.symm) (List.pairwise_iff_getElem.1 h.aO.nodup i k h1 h2 hlt)
   ·exact hlt
   ·exact absurd (e2.trans e1.symm) (List.pairwise_iff_getElem.1 h.aO.nodup k i h2 h1 hlt)
 ·obtain⟨c,t,hc,ht'⟩:=h.aO.act.fZ hy
  subst e
  exact az.ne hc hblk (by rcases ht' with rfl|rfl <;> decide) rfl
theorem O4(bv bm bo H:Nat)(G:Lg)(m:Lm)(w:World)(hL:bu w bv bm bo G m)(h1:az w H #[dn bv] 35) :
 Calls Tryz.prog 79 #[dn H] w fun e w'=>e=.returned (.tuple #[])/\bu w' bv bm bo { G with day:=wrap64 (G.day-1) } m/\au (fun x=>x=bv) w w':=by
 have x0:w.cell? ⟨H,0,none⟩=some (.pointer (some ⟨bv,0,none⟩)):=h1.cell 0
 have v4:w.cell? ⟨bv,4,none⟩=some (.int .i64 G.day):=hL.dA.cell 4
 have f4:=hL.dA.frozen 4
 have HL:=ai hL
 clear hL h1
 simp only[dn]
 go_enter Tryz.func79,Tryz.ntmps79
 go_wp2
 go_end0
 have h:=(ae HL).QV (wrap64 (G.day-1))
 exact⟨rfl,h.1,h.2⟩
theorem QO(bv bm bo H K J k tb:Nat)(p:Int)(G:Lg)(m:Lm)(x:Tg)(w:World)(hL:bu w bv bm bo G m)(hx:G.tr[k]?=some x)(htb:m.tb[k]?=some tb)(hlen:G.tp.length<1000000000)
 (h1:az w H #[dn bv] 35) (h2:az w K #[dn tb] 103) (h3:az w J #[.int .i64 p] 3) :
 Calls Tryz.prog 77 #[dn H,dn K,dn J] w fun e w'=>e=.returned (.tuple #[]) /\
  ∃m',bu w' bv bm bo ((G.jf k x p).told 3 (x.t.at p)) m'/\(∀b,m'.F b->m.F b\/w.heap.size<=b)/\au (fun b=>b=bv\/m.F b) w w'/\m'.ac=m.ac/\(m'.tb=m.tb/\m'.tv=m.tv)/\∃S,au S w w'/\∀y,S y->∃c t,az w y c t/\(t=100\/t=105\/t=62):=by
 have x0:w.cell? ⟨H,0,none⟩=some (.pointer (some ⟨bv,0,none⟩)):=h1.cell 0
 have x1:w.cell? ⟨K,0,none⟩=some (.pointer (some ⟨tb,0,none⟩)):=h2.cell 0
 have x2:w.cell? ⟨J,0,none⟩=some (.int .i64 p):=h3.cell 0
 have HC:=ai (Ap bv bm bo k tb G m x p w hL hx htb hlen)
 clear hL hx htb h1 h2 h3
 simp only[dn]
 go_enter Tryz.func77,Tryz.ntmps77
 go_wp2_with fail
 refine (ae HC).mono ?_
 rintro e w1 ⟨rfl,h⟩
 have HH:=ai h
 clear h
 go_wp2
 go_end0
 exact⟨rfl,ae HH⟩
theorem O0(bv bm bo H K k tb:Nat)(G:Lg)(m:Lm)(x:Tg)(w:World)(hL:bu w bv bm bo G m)(hx:G.tr[k]?=some x)(htb:m.tb[k]?=some tb)(hlen:G.tp.length<1000000000)
 (h1:az w H #[dn bv] 35) (h2:az w K #[dn tb] 103) :
 Calls Tryz.prog 74 #[dn K,dn H] w fun e w'=>e=.returned (.tuple #[]) /\
  ∃m',bu w' bv bm bo ((G.oN k x.t).told 1 x.t) m'/\(∀b,m'.F b->m.F b\/w.heap.size<=b)/\au (fun b=>b=tb\/b=bv\/m.pv.ownBlock=some b) w w'/\m'.ac=m.ac/\m'.tb=m.tb:=by
 have hblk:=hL.aO.aB k tb x htb hx
 have x0:w.cell? ⟨H,0,none⟩=some (.pointer (some ⟨bv,0,none⟩)):=h1.cell 0
 have x1:w.cell? ⟨K,0,none⟩=some (.pointer (some ⟨tb,0,none⟩)):=h2.cell 0
 have n1:¬H=tb:=az.ne h1 hblk (by decide)
 have n2:¬K=tb:=az.ne h2 hblk (by decide)
 obtain⟨w1,hw1⟩:∃w1,w1=w.setCell ⟨tb,7,none⟩ (.bool true):=⟨_,rfl⟩
 have k1:au (fun y=>y=tb) w w1:=by rw[hw1];exact (au.refl (fun y=>y=tb) w).setCell (p:=⟨tb,7,none⟩) (.inl rfl) _
 have hL1:bu w1 bv bm bo (G.oN k x.t) m:=by rw[hw1];exact hL.oN hx htb
 have c7:=hblk.cell 7
 have f7:=hblk.frozen 7
 simp only[Tg.cells]at c7
 simp at c7
 have c0:w.cell? ⟨tb,0,none⟩=some (.int .i64 x.t.num):=hblk.cell 0
 have c1:w.cell? ⟨tb,1,none⟩=some (.string x.t.sym):=hblk.cell 1
 have c2:w.cell? ⟨tb,2,none⟩=some (.int .i64 x.t.af):=hblk.cell 2
 have c3:w.cell? ⟨tb,3,none⟩=some (.int .i64 x.t.aI):=hblk.cell 3
 have c4:w.cell? ⟨tb,4,none⟩=some (.int .i64 x.t.kZ):=hblk.cell 4
 have c5:w.cell? ⟨tb,5,none⟩=some (.int .i64 x.t.fM):=hblk.cell 5
 have c6:w.cell? ⟨tb,6,none⟩=some (.int .i64 x.t.day):=hblk.cell 6
 have HT:=ai (fun q=>xC bv bm bo _ m 1 x.t (w1.drewN q) (hL1.aH ((au.refl aP w1).drewN q)) hlen)
 have HW:=ai hw1
 have HK:=ai k1
 clear hw1 k1 hL1 hL hblk hx htb h1 h2
 simp only[dn]
 go_enter Tryz.func74,Tryz.ntmps74
 go_wp2
 go_region_with (first|(go_at_call 73;rw[<-ae HW];refine (ae HT _).mono ?_;rintro e w2 ⟨rfl,m',h1,h2,h3,h4,h5⟩))
 all_goals
  go_wp2
  go_end0
  refine⟨rfl,m',h1,fun b hb=>(h2 b hb).imp_right (fun h=>Nat.le_trans (ae HK).size h),((ae HK).mono (fun y h=>.inl h)).trans (((au.refl _ w1).drewN _).trans (h3.mono (fun y h=>.inr h))),h4,h5.1⟩
end Go.Proofs.YtigaphnafnpfnaaGreatDoor
