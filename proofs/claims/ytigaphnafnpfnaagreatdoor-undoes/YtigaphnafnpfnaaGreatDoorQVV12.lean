import Derived.Test.YtigaphnafnpfnaaGreatDoorQVV9
import Derived.Test.YtigaphnafnpfnaaGreatDoorQVY3
import Derived.Test.YtigaphnafnpfnaaGreatDoorQVV17
set_option linter.unusedVariables false
set_option linter.unusedSimpArgs false
set_option maxHeartbeats 8000000
set_option maxRecDepth 100000
namespace Go.Proofs.YtigaphnafnpfnaaGreatDoor
open Go.RowKit Go.Maps
attribute [local go_sem ↓] Go.wp_at_zero Go.wp_at_succ
theorem Dt{q:Bool}:¬pO q 105:=by rintro (e | e | e | e | e | e | e | e | ⟨_,e⟩) <;> exact absurd e (by decide)
theorem uF{q:Bool}:¬pO q 100:=by rintro (e | e | e | e | e | e | e | e | ⟨_,e⟩) <;> exact absurd e (by decide)
theorem Au{q:Bool}:¬pO q 62:=by rintro (e | e | e | e | e | e | e | e | ⟨_,e⟩) <;> exact absurd e (by decide)
def jc(bv bm bo:Nat)(V:aS)(Q:aS->World->Prop)(w w':World):Prop :=
 ∃V2,dL w' bv bm bo V2/\Q V2 w'/\WR V.lg V2.lg 3/\(∀b c t,au w b c t->(t=105\/t=35\/t=103)->au w' b c t)/\V2.aV=V.aV/\aj (bY bv bm bo V) w w'/\∀x,bY bv bm bo V2 x->bY bv bm bo V x\/w.heap.size<=x
theorem WZ(bv bm a k tb bx by':Nat)(V:aS)(N:Int)(x:Tg)(again:Bool)(w:World)(R:dL w bv bm a V)(Xo:qj w)(hN:N-1=(k:Int))(hx:V.lg.tr[k]?=some x)(htb:V.lm.tb[k]?=some tb)(hlen:V.lg.tr.length<=1000000000)(hlen2:V.lg.tp.length<1000000000)(hput:kZ x V.lg.day=0)
 (abA:V.aV x.t.lF=some bx) (aaq:V.aV x.t.dZ=some by') (hw1:(Lit.int .i64 x.t.lF).wf=true) (hw2:(Lit.int .i64 x.t.dZ).wf=true) (bk:Nat->Nat) (Y Q3:aS->World->Prop) (hQ2:∀n W W',Y n W->aj aA W W'->Y n W') (hna:V.lg.ud+V.lg.na<3000000)
 (K:∀f VU VD,dL f bv bm a { V with lg:=V.lg.iI k tb x.t,lm:=VU }->w.heap.size<=f.heap.size->iy f bv bk w.heap.size true (V.lm.ac.map Prod.snd) (V.lg.iI k tb x.t).nt V.lm.tb VU VD->CT 75 #[PP bv,PP bx,II x.t.az,.bool again] f fun e w'=>e=.returned (.tuple #[])/\jc bv bm a { V with lg:=V.lg.iI k tb x.t,lm:=VU } Y f w')
 (h3:∀n w2,Y n w2->w.heap.size<=w2.heap.size->dL w2 bv bm a n->n.aV=V.aV->n.lg.na=V.lg.na+1->n.lg.nt.length<=4->CT 75 #[PP bv,PP by',II x.t.az,.bool again] w2 fun e w'=>e=.returned (.tuple #[])/\jc bv bm a n Q3 w2 w') :
 CT 39 #[PP bv,II N,.bool again] w fun e w'=>e=.returned (II 0) /\
  ∃H,Q3 H w'/\H.aV=V.aV/\dL w' bv bm a H/\WR (V.lg.iI k tb x.t) H.lg 6/\aj (bY bv bm a V) w w'/\∀y,bY bv bm a H y->bY bv bm a V y\/w.heap.size<=y:=by
 have bN:dM N:=by
  have hk:=(List.getElem?_eq_some_iff.1 hx).1;exact⟨by omega,by omega⟩
 have k0:aj aA w (w.alloc (.cells #[PP bv] 35)):=(aj.refl aA w).alloc _;have hT:=uk bv bm a k tb V.lg V.lm N x _ (R.aO.ax k0) hN hx htb hlen;rw[hput]at hT;simp only[if_true]at hT;have HT:=ai hT;clear hT;have hF:V.lm.F tb:=jL (List.mem_of_getElem? htb);have UD:=au.new w #[PP bv] 35;have lv:=R.cO.lt;obtain⟨HR,HX,Vz,HFt,HH2,HH3⟩:=nH R hx htb hF K h3;clear hput hx htb R hF K h3;go_enter Tryz.func39,Tryz.ntmps39;go_wp2_with fail;refine (ae HT).mono ?_;rintro e f ⟨rfl,Q⟩;have TQ:aj aA w f:=k0.trans Q;obtain⟨s,O⟩:=gy (f.alloc (.cells #[PP tb] 103));have S:aj aA w s:=by rw[O];exact TQ.alloc _
 have bv1:au s w.heap.size #[PP bv] 35:=by rw[O];exact (Q.ay UD idd).alloc _
 have ZG:au s f.heap.size #[PP tb] 103:=by rw[O];exact au.new _ _ _
 have u:=(ae HR).ax S;have tb1:au s tb x.cells 105:=u.aO.aO.ay k tb x (ae Vz) (ae HX);have rW:=ai (oQ bv bm a V.lg V.lm (zN N again) s u.aO hna (zO N again bN).1 (zO N again bN).2);have HLn:=ai (Kq N again s (Xo.ax S) bN);have O8:CC s w.heap.size 0 (PP bv):=bv1.cell 0;obtain⟨G,Yw,HLo⟩:=fK bv1 u.cO u.aO;have xv1:CC f w.heap.size 0 (PP bv):=(Q.ay UD idd).cell 0;have HW:=ai O;have l1:w.heap.size<f.heap.size:=by have:=TQ.size;have:=Q.size;simp at this;omega
 clear O Q;generalize zN N again=ln at rW HLn;have noB:∀l,aj (fun b=>b=bv\/V.lm.av.ownBlock=some b\/V.lm.jv.ownBlock=some b) s l->l.cell? ⟨w.heap.size,0,none⟩=some (PP bv):=fun l q=>(q.ay (ae G) (by
  rintro (e | e | e)
  ·exact au.ne (ae G) (ae Yw) (by decide) e
  ·exact dC (ae HLo).aO.act.row e (ae G) (by decide) rfl
  ·exact dC (ae HLo).aO.lT e (ae G) (by decide) rfl)).cell 0
 have Y9:=ai noB;clear noB;go_wp2;rw[<-ae HW];go_region_held3 (fun w'=>w'.cell? ⟨w.heap.size,0,none⟩=some (PP bv)) (go_keep)
  (first
    | (go_at_call 72;refine (ae HLn _ ?cc).mono ?_;(case cc=>repeat (first | exact aj.refl _ _ | refine aj.drew ?_));rintro e wl ⟨rfl,hk⟩;have z0:=hk.cell (p:=⟨w.heap.size,0,none⟩) O8 idd;have PK:=ai hk;clear hk)
    | (go_at_call 51;refine (ae rW _ ?cc).mono ?_;(case cc=>repeat (first | exact ae PK | refine aj.drew ?_));rintro e l ⟨rfl,U,M,L,-,v,q,hac⟩;have YM:=ai hac;clear hac;have z0:=ae Y9 l q;have Jp:=ai M;have F9:=ai L;have PI:=ai q;have Zo:=ai v;clear M L q v))
 rename_i QD;clear QD z0 O8 HLn PK Y9;have M:=ae Jp;have L:=ae F9;have q:=ae PI;have v:=ae Zo;clear Jp F9 PI Zo G Yw HLo;have nob:∀{b c t},au s b c t->t≠100->t≠109->t≠5->au l b c t:=fun h h0 B K=>q.ay h (by
  rintro (e | e | e)
  ·exact au.ne h u.cO h0 e
  ·exact dC u.aO.aO.act.row e h (fun e=>B e.symm) rfl
  ·exact dC u.aO.aO.lT e h (fun e=>K e.symm) rfl)
 have VB:=nob bv1 (by decide) (by decide) (by decide);have btb:=nob ZG (by decide) (by decide) (by decide);have A:=nob tb1 (by decide) (by decide) (by decide);have C:bz (l.setCell ⟨tb,7,none⟩ (.bool false)) bv bm a (V.lg.begun.mX k x.t) U:=M.mX (ae HX) (by rw[v.1];exact ae Vz);have xtb:CC l f.heap.size 0 (PP tb):=btb.cell 0;have t7:=A.cell 7;have f7:=A.frozen 7;simp only[Tg.cells]at t7;simp at t7;obtain⟨w2,P⟩:=gy (l.setCell ⟨tb,7,none⟩ (.bool false));have T:aj (fun y=>y=tb) l w2:=by rw[P];exact (aj.refl (fun y=>y=tb) l).setCell (p:=⟨tb,7,none⟩) (.inl rfl) _
 have tb2:au w2 tb (Tg.cells ⟨x.t,false⟩) 105:=by rw[P];exact A.set 7 _
 rw[<-P]at C;have bv2:=T.ay VB (fun e=>au.ne VB A (by decide) e);have bt2:=T.ay btb (fun e=>au.ne btb A (by decide) e);have kF2:aj (fun y=>y=bv\/V.lm.F y) w w2:=(S.aP.trans (q.mono (fun y h=>h.imp_right (fun h=>h.elim (fun h=>iQ h) (fun h=>.inr (.inl (.inr h))))))).trans (T.mono (fun y h=>.inr (by rw[h];exact ae HFt)));have EF:∀y,U.F y->V.lm.F y\/w.heap.size<=y:=fun y h=>(L y h).imp_right (fun h=>Nat.le_trans S.size h)
 have ZN:iy w2 bv bk w.heap.size true (V.lm.ac.map Prod.snd) V.lg.begun.nt V.lm.tb U []:=(iy.begun (w:=l) v (ae YM)).aC T (nZ.gZ (fun y z=>by subst z;exact⟨_,105,A,Dt⟩));obtain⟨YW,Zn⟩:=aZ ZN v.2;clear ZN;have hT2:=yh bv bm a _ U 2 x.t w2.drew (C.ax (aj.refl aA w2).drew) (by simp only[Lg.mX,Lg.begun];exact hlen2);simp only[Tr.val]at hT2;obtain⟨HT2,HW2,HL2⟩:=fK hT2 P C;have x2:CC w2 w.heap.size 0 (PP bv):=bv2.cell 0;have y2:CC w2 f.heap.size 0 (PP tb):=bt2.cell 0;obtain⟨d0,d1,d2,d3,d4,d5,d6,-⟩:=tb2.c8;have X:Hid (∀i,aj (fun b=>b=bv\/U.pv.ownBlock=some b) w2.drew i->∀{b c t},au w2 b c t->t≠100->t≠62->au i b c t):=fun i kc b c t h h0 B=>kc.ay h.drew (by
  rintro (e | e)
  ·exact au.ne h C.cO h0 e
  ·exact dC C.aO.fQ e h (fun e=>B e.symm) rfl)
 obtain⟨YR,HBt,WH,PH,Vw⟩:=mi bv2 bt2 tb2 kF2 EF;clear hT2 P C T tb2 bv2 bt2 VB btb A nob q M L v tb1 ZG bv1 u S TQ rW HW HT EF kF2 xv1 k0 UD;go_wp2;rw[<-ae HW2];clear xtb t7 f7;go_region_held3 (fun w'=>w'.cell? ⟨w.heap.size,0,none⟩=some (PP bv)/\w'.cell? ⟨f.heap.size,0,none⟩=some (PP tb)/\w'.cell? ⟨tb,0,none⟩=some (II x.t.num)/\w'.cell? ⟨tb,1,none⟩=some (.string x.t.sym)/\w'.cell? ⟨tb,2,none⟩=some (II x.t.af)/\w'.cell? ⟨tb,3,none⟩=some (II x.t.az)/\w'.cell? ⟨tb,4,none⟩=some (II x.t.lF)/\w'.cell? ⟨tb,5,none⟩=some (II x.t.dZ)/\w'.cell? ⟨tb,6,none⟩=some (II x.t.day)) (go_keep)
  (first | (go_at_call 73;refine (ae HT2).mono ?_;rintro e i ⟨rfl,yX,c1,I,o,c4,c5⟩;have HC4:=ai c4;have Vt:=ai c5;clear c4 c5;have bv3:=ae X i o (ae YR) (by decide) (by decide);have bt3:=ae X i o (ae HBt) (by decide) (by decide);have r:=ae X i o (ae WH) (by decide) (by decide);have a0:CC i w.heap.size 0 (PP bv):=bv3.cell 0;have a1:CC i f.heap.size 0 (PP tb):=bt3.cell 0;have b0:CC i tb 0 (II x.t.num):=r.cell 0;have b1:CC i tb 1 (.string x.t.sym):=r.cell 1;have b2:CC i tb 2 (II x.t.af):=r.cell 2;have b3:CC i tb 3 (II x.t.az):=r.cell 3;have b4:CC i tb 4 (II x.t.lF):=r.cell 4;have b5:CC i tb 5 (II x.t.dZ):=r.cell 5;have b6:CC i tb 6 (II x.t.day):=r.cell 6;have TU:=ai c1;have HC2:=ai I;have PD:=ai o;have HV3:=ai bv3;have HT3:=ai bt3;have Zl:=ai r;clear c1 I o bv3 bt3 r))
 rename_i QD;clear QD x2 y2 d0 d1 d2 d3 d4 d5 d6 HT2;have GM:iy i bv bk w.heap.size true (V.lm.ac.map Prod.snd) V.lg.begun.nt V.lm.tb yX []:=by
  have h:=(((ae YW).ax (aj.refl aA w2).drew).aC (ae PD) (nZ.gZ (fun y z=>by
   rcases z with e | e
   ·subst e;exact⟨_,100,(ae HL2).cO.drew,uF⟩
   ·obtain⟨cs,hcs⟩:=aF (ae HL2).aO.fQ e;exact⟨cs,62,hcs.drew,Au⟩))).Sv (m':=yX) (ae HC4) (fun d hd=>by simp[Lg.begun]at hd)
  rw[(ae Vt).1,(ae YW).tb]at h;exact h
 have i3:bH i bv bk w.heap.size (.jV tb) (.func (.func 74) #[] #[PP f.heap.size,PP w.heap.size]):=⟨_,_,rfl,rfl,w.heap.size,f.heap.size,Nat.le_refl _,by omega,rfl,ae HV3,ae HT3⟩;have uS:=ai (nV bv bm a _ yX (.jV tb) (.func 74) #[PP f.heap.size,PP w.heap.size] i bk w.heap.size true _ _ _ (ae TU) GM (fun _=>rfl) i3 (by show 0<V.lg.na+1;omega) (by show V.lg.na+1<=3000000;omega) (by show 0+1<1000000000;omega) (fun _ g hg=>(ae HR).aO.aO.lt (.inl (by rw[<-ae Zn,<-(ae Vt).2];exact hg))));have hF3:∀y,yX.F y->V.lm.F y\/w.heap.size<=y:=fun y h=>by
  rcases ae HC2 y h with h | h
  ·exact ae Vw y h
  ·exact .inr (Nat.le_trans (ae PH).size h)
 have kF3:aj (fun y=>y=bv\/V.lm.F y) w i:=(ae PH).drew.from ((ae PD).mono (fun y h=>by
  rcases h with h | h
  ·exact .inl (.inl h)
  ·exact (ae Vw y (.inr (.inl (.inl h)))).imp_left .inr))
 obtain⟨HF3,Wu⟩:=aZ hF3 kF3;clear hF3 kF3 GM i3;go_wp2_with fail;refine (ae uS).mono ?_;rintro e j ⟨rfl,D,c1,I,o,-,c6⟩;change iy j bv bk w.heap.size true (V.lm.ac.map Prod.snd) (V.lg.iI k tb x.t).nt V.lm.tb D _ at c6;change bz j bv bm a (V.lg.iI k tb x.t) D at c1;have Z:∀{b c t},au i b c t->t≠109->t≠1->au j b c t:=fun h h0 B=>o.ay h (fun e=>by
  obtain⟨c',t',hc,ht'⟩:=(ae TU).aO.act.gZ e;exact au.ne h hc (by rcases ht' with rfl | rfl;exact h0;exact B) rfl)
 have bv4:=Z (ae HV3) (by decide) (by decide);have bt4:=Z (ae HT3) (by decide) (by decide);have tb4:=Z (ae Zl) (by decide) (by decide);have kF4:aj (fun y=>y=bv\/V.lm.F y) w j:=(ae Wu).from (o.mono (fun y h=>(ae HF3 y (BA h)).imp_left .inr));have hF4:∀y,D.F y->V.lm.F y\/w.heap.size<=y:=fun y h=>by
  rcases I y h with h | h
  ·exact ae HF3 y h
  ·exact .inr (Nat.le_trans (ae Wu).size h)
 have R4:dL j bv bm a { V with lg:=V.lg.iI k tb x.t,lm:=D }:=(ae HR).kM c1 kF4;have R4d:=R4.ax (aj.refl aA j).drew;have L1:=R4d.ve (id:=x.t.lF) hw1;simp only[abA,ja]at L1;have H2:=ai (ae HH2 j.drew D _ R4d (by have:=kF4.size;have:=(aj.refl aA j).drew.size;omega) (c6.ax (aj.refl aA j).drew));have c1':CC j bv 1 (.map (some a)):=R4.cO.cell 1;have x4:CC j w.heap.size 0 (PP bv):=bv4.cell 0;have y4:CC j f.heap.size 0 (PP tb):=bt4.cell 0;have d3:CC j tb 3 (II x.t.az):=tb4.cell 3;have d4:CC j tb 4 (II x.t.lF):=tb4.cell 4;obtain⟨abb,aa9,abj,Y5,HF4⟩:=mi bv4 bt4 tb4 kF4 hF4;clear c1 I o c6 Z bv4 bt4 tb4 kF4 hF4 R4 R4d a0 a1 b0 b1 b2 b3 b4 b5 b6 uS TU HC2 PD HV3 HT3 Zl X YR HBt WH PH Vw HF3 Wu HL2 HW2;go_wp2;go_region_held3 (fun w'=>w'.cell? ⟨w.heap.size,0,none⟩=some (PP bv)/\w'.cell? ⟨f.heap.size,0,none⟩=some (PP tb)/\w'.cell? ⟨bv,1,none⟩=some (.map (some a))/\w'.cell? ⟨tb,4,none⟩=some (II x.t.lF)/\w'.cell? ⟨tb,3,none⟩=some (II x.t.az)) (go_keep)
  (first | (go_at_call 75;refine (ae H2).mono ?_;rintro e m ⟨rfl,V5,R5,q5,l5,p5,o5,k5,J⟩;have bv5:=p5 _ _ _ (ae abb).drew (by simp);have bt5:=p5 _ _ _ (ae aa9).drew (by simp);have tb5:=p5 _ _ _ (ae abj).drew (by simp);have g0:CC m w.heap.size 0 (PP bv):=bv5.cell 0;have g1:CC m f.heap.size 0 (PP tb):=bt5.cell 0;have g2:CC m bv 1 (.map (some a)):=R5.cO.cell 1;have g3:CC m tb 3 (II x.t.az):=tb5.cell 3;have g4:CC m tb 4 (II x.t.lF):=tb5.cell 4;have g5:CC m tb 5 (II x.t.dZ):=tb5.cell 5;have Ze:=ai R5;have HQ5:=ai q5;have TZ:=ai l5;have Uc:=ai o5;have LY:=ai k5;have HF5:=ai J;have abd:=ai bv5;have aba:=ai bt5;have abk:=ai tb5;clear R5 q5 l5 p5 o5 k5 J bv5 bt5 tb5))
 rename_i QD;clear QD c1' x4 y4 d3 d4 L1 H2;have R5d:=(ae Ze).ax (aj.refl aA m).drew;have L2:=R5d.ve (id:=x.t.dZ) hw2;have hs5:V5.aV x.t.dZ=some by':=by rw[ae Uc];exact aaq
 simp only[hs5,ja]at L2;have H3:=ai (ae HH3 V5 m.drew (hQ2 _ _ _ (ae HQ5) (aj.refl aA m).drew) (by have B:=(ae Y5).size;have K:=(ae LY).size;have h3:=(aj.refl aA j).drew.size;have h4:=(aj.refl aA m).drew.size;omega) R5d (ae Uc) (by rw[(ae TZ).2.2.2.1];rfl) (by have:=(ae TZ).2.2.2.2;simp only[Lg.iI,Lg.aY,Lg.told,Lg.mX,Lg.begun,List.nil_append,List.length_cons,List.length_nil]at this;omega));clear R5d hs5;go_wp2;go_region_held3 (fun w'=>w'.cell? ⟨w.heap.size,0,none⟩=some (PP bv)/\w'.cell? ⟨f.heap.size,0,none⟩=some (PP tb)/\w'.cell? ⟨bv,1,none⟩=some (.map (some a))/\w'.cell? ⟨tb,5,none⟩=some (II x.t.dZ)/\w'.cell? ⟨tb,3,none⟩=some (II x.t.az)) (go_keep)
  (first | (go_at_call 75;refine (ae H3).mono ?_;rintro e E ⟨rfl,V6,R6,q6,l6,p6,o6,k6,f6⟩;have bv6:=p6 _ _ _ (ae abd).drew (by simp);have bt6:=p6 _ _ _ (ae aba).drew (by simp);have tb6:=p6 _ _ _ (ae abk).drew (by simp);have j0:CC E w.heap.size 0 (PP bv):=bv6.cell 0;have j1:CC E f.heap.size 0 (PP tb):=bt6.cell 0;have j2:CC E bv 1 (.map (some a)):=R6.cO.cell 1;have j3:CC E tb 3 (II x.t.az):=tb6.cell 3;have j5:CC E tb 5 (II x.t.dZ):=tb6.cell 5;have Zf:=ai R6;have TI:=ai q6;have HL6:=ai l6;have HO6:=ai o6;have HK6:=ai k6;have HF6:=ai f6;clear R6 q6 l6 p6 o6 k6 f6 bv6 bt6 tb6))
 clear g0 g1 g2 g3 g4 g5 L2 H3;go_wp2;go_ret;have hft:∀y,bY bv bm a { V with lg:=V.lg.iI k tb x.t,lm:=D } y->bY bv bm a V y\/w.heap.size<=y:=fun y z=>by
  rcases z with h | h | h | h | h | h
  ·exact .inl (.inl h)
  ·exact .inl (.inr (.inl h))
  ·exact .inl (jL h)
  ·exact .inl (iQ h)
  ·exact .inl (qo h)
  ·exact (ae HF4 y h).imp_left (fun h=>vk h)
 have VQ:aj (bY bv bm a V) w j:=(ae Y5).mono (fun y h=>h.elim (fun h=>.inl h) (fun h=>vk h));have kk5:aj (bY bv bm a V) w m:=VQ.drew.from ((ae LY).mono hft);have J:∀y,bY bv bm a V5 y->bY bv bm a V y\/w.heap.size<=y:=fun y h=>by
  rcases ae HF5 y h with h | h
  ·exact hft y h
  ·exact .inr (Nat.le_trans VQ.size h)
 have kk6:aj (bY bv bm a V) w E:=kk5.drew.from ((ae HK6).mono J);obtain⟨a1,a2,a3,a4,a5⟩:=ae TZ;obtain⟨b1,b2,b3,b4,b5⟩:=ae HL6;refine⟨rfl,V6,ae TI,(ae HO6).trans (ae Uc),ae Zf,⟨b1.trans a1,b2.trans a2,b3.trans a3,b4.trans a4,by omega⟩,kk6,fun y z=>?_⟩;rcases ae HF6 y z with h | h
 ·exact J y h
 ·exact .inr (Nat.le_trans kk5.size h)
theorem NW{w e:World}{bv lo:Nat}{bk:Nat->Nat}{q:Bool}{G:Lg}{m a b:Lm}{S:Nat->Prop}(d:a.tb=m.tb/\a.tv=m.tv)(j:a.ac.map Prod.snd=m.ac.map Prod.snd++[[]])(f:b.ac=a.ac)(g:b.tb=a.tb)(k:aj S w e)(i:∀y,S y->∃c t,au w y c t/\(t=100\/t=105\/t=62)):iy e bv bk lo q (m.ac.map Prod.snd) G.begun.nt m.tb b []:=by
 have h:=((iy.begun (w:=w) (bv:=bv) (bk:=bk) (lo:=lo) (q:=q) (G:=G) d j).aC k (nZ.gZ (fun y p=>by
  obtain⟨c,t,l,o⟩:=i y p;exact⟨c,t,l,by rcases o with rfl | rfl | rfl;exact uF;exact Dt;exact Au⟩))).Sv (m':=b) f (fun r n=>by simp[Lg.begun]at n)
 rw[g,d.1]at h;exact h
theorem Bd(bv g i k tb:Nat)(G:Lg)(m:Lm)(x:Tg)(p:Int)(w:World)(d:bz w bv g i G m)(q:G.tr[k]?=some x)(j:m.tb[k]?=some tb)(V:G.tp.length<1000000000) :
 CT 76 #[PP bv,PP tb,II p] w fun e w'=>e=.returned (.tuple #[]) /\
  ∃m',bz w' bv g i ((G.jE k x p).told 3 (x.t.at p)) m'/\(∀b,m'.F b->m.F b\/w.heap.size<=b)/\aj (fun b=>b=bv\/m.F b) w w'/\m'.ac=m.ac/\(m'.tb=m.tb/\m'.tv=m.tv)/\∃S,aj S w w'/\∀y,S y->∃c t,au w y c t/\(t=100\/t=105\/t=62):=by
 have a:=d.aO.ay k tb x j q;have C:m.F tb:=jL (List.mem_of_getElem? j);obtain⟨l,f⟩:=gy (w.setCell ⟨tb,2,none⟩ (II p));have E:aj (fun y=>y=tb) w l:=by rw[f];exact (aj.refl (fun y=>y=tb) w).setCell (p:=⟨tb,2,none⟩) (.inl rfl) _
 have D:bz l bv g i (G.jE k x p) m:=by rw[f];exact d.jE q j p
 have R:au l tb #[II x.t.num,.string x.t.sym,II p,II x.t.az,II x.t.lF,II x.t.dZ,II x.t.day,.bool x.holds] 105:=by rw[f];exact a.set 2 _
 have s:=a.cell 2;have f2:=a.frozen 2;simp only[Tg.cells]at s;simp at s;have c0:CC w tb 0 (II x.t.num):=a.cell 0;have c1:CC w tb 1 (.string x.t.sym):=a.cell 1;have X:CC w tb 3 (II x.t.az):=a.cell 3;have Y:CC w tb 4 (II x.t.lF):=a.cell 4;have c5:CC w tb 5 (II x.t.dZ):=a.cell 5;have Z:CC w tb 6 (II x.t.day):=a.cell 6;obtain⟨P,L,N⟩:=fK d.cO a d.aO.fQ;have o:=yh bv g i _ m 3 (x.t.at p) l D V;simp only[Tr.val,Tr.at]at o;obtain⟨O,Q,n,M⟩:=gY o f E C;clear o f E D R d a C q j;go_enter Tryz.func76,Tryz.ntmps76;go_wp2_with (go_at_call 73;rw[<-ae Q];refine (ae O).mono ?_;rintro e w2 ⟨rfl,m',u,v,z,A,B⟩;have H:=ai u;have I:=ai v;have r:=ai z;have J:=ai A;have K:=ai B;clear u v z A B);go_end0;refine⟨rfl,m',ae H,fun b T=>(ae I b T).imp_right (fun h=>Nat.le_trans (ae n).size h),?_,ae J,ae K,fun y=>y=tb\/(y=bv\/m.pv.ownBlock=some y),((ae n).mono (fun y h=>.inl h)).trans ((ae r).mono (fun y h=>.inr h)),fun y W=>?_⟩
 ·exact ((ae n).mono (fun y e=>.inr (by rw[e];exact ae M))).trans ((ae r).mono (fun y h=>h.imp_right (fun h=>.inr (.inl (.inl h)))))
 ·rcases W with e | e | e
  ·rw[e];exact⟨_,105,ae L,.inr (.inl rfl)⟩
  ·rw[e];exact⟨_,100,ae P,.inl rfl⟩
  ·obtain⟨cs,U⟩:=aF (ae N) e;exact⟨cs,62,U,.inr (.inr rfl)⟩
theorem NU(bv i j k tb:Nat)(V:aS)(N af:Int)(x:Tg)(w:World)(bk:Nat->Nat)(R:dL w bv i j V)(Xo:qj w)(hN:N-1=(k:Int))(D:V.lg.tr[k]?=some x)(S:V.lm.tb[k]?=some tb)(hlen:V.lg.tr.length<=1000000000)(hlen2:V.lg.tp.length<1000000000)(hput:kZ x V.lg.day=0)(hp:cZ af=true)(hna:V.lg.ud+V.lg.na<3000000) :
 CT 40 #[PP bv,II N,II af] w fun e w'=>e=.returned (II 0) /\
  ∃bG,bz w' bv i j (V.lg.rJ k tb x af) bG/\(∀y,bG.F y->V.lm.F y\/w.heap.size<=y)/\aj (fun y=>y=bv\/V.lm.F y) w w'/\∃cl,iy w' bv bk w.heap.size true (V.lm.ac.map Prod.snd) (V.lg.rJ k tb x af).nt V.lm.tb bG cl:=by
 have bN:dM N:=by
  have C:=(List.getElem?_eq_some_iff.1 D).1;exact⟨by omega,by omega⟩
 have bP:dM af:=tK (by simp[cZ]at hp;omega);have k0:aj aA w (w.alloc (.cells #[PP bv] 35)):=(aj.refl aA w).alloc _;have B:=uk bv i j k tb V.lg V.lm N x _ (R.aO.ax k0) hN D S hlen;rw[hput]at B;simp only[if_true]at B;have HT:=ai B;clear B;have UD:=au.new w #[PP bv] 35;have lv:=R.cO.lt;obtain⟨K,HX,Vz⟩:=fK R D S;clear hput D S R;go_enter Tryz.func40,Tryz.ntmps40;go_wp2_with fail;refine (ae HT).mono ?_;rintro e a ⟨rfl,r⟩;have TQ:aj aA w a:=k0.trans r;obtain⟨b,l⟩:=gy (a.alloc (.cells #[PP tb] 103));have E:aj aA w b:=by rw[l];exact TQ.alloc _
 have Z:b.heap.size=a.heap.size+1:=by rw[l];simp
 have O:au b w.heap.size #[PP bv] 35:=by rw[l];exact (r.ay UD idd).alloc _
 have ZG:au b a.heap.size #[PP tb] 103:=by rw[l];exact au.new _ _ _
 have M:=(ae K).ax E;have o:=Ko ⟨#[99,111,114,114,101,99,116]⟩ N af b (Xo.ax E) (by decide) (by decide) bN bP;generalize iJ (DY N af) ⟨#[99,111,114,114,101,99,116]⟩ 2=ln at o;obtain⟨rW,HLn⟩:=aZ (oQ bv i j V.lg V.lm ln b M.aO hna o.1.1 o.1.2) o.2;have O8:CC b w.heap.size 0 (PP bv):=O.cell 0;have xv1:CC a w.heap.size 0 (PP bv):=(r.ay UD idd).cell 0;have HW:=ai l;have l1:w.heap.size<a.heap.size:=by have:=TQ.size;have:=r.size;simp at this;omega
 have aaJ:∀y,w.heap.size<=y->¬(y=bv\/V.lm.F y):=by
  rintro y hy (e | e)
  ·omega
  ·have:=(ae K).aO.aO.lt e;omega
 have HC0:Hid ((b.alloc (.cells #[II N,II af] 3)).cell? ⟨a.heap.size+1,0,none⟩=some (II N)):=by
  show _=_;rw[<-Z];exact (au.new b _ _).cell 0
 have TU:Hid ((b.alloc (.cells #[II N,II af] 3)).cell? ⟨a.heap.size+1,1,none⟩=some (II af)):=by
  show _=_;rw[<-Z];exact (au.new b _ _).cell 1
 obtain⟨s,HB1,HT1,HR1,Eb,Gg⟩:=nH aaJ O ZG M E Z;clear l r o aaJ M O ZG E;go_wp2_with (go_at_call 68;refine (bJ _ _).mono ?_;rintro e w' ⟨rfl,rfl⟩);rw[<-ae HW];go_region_held3 (fun w'=>w'.cell? ⟨w.heap.size,0,none⟩=some (PP bv)) (go_keep)
  (first
    | (go_at_call 65;refine (ae HLn _ ?cc _ _ ?c0 ?c1).mono ?_;(case c0=>exact ae HC0);(case c1=>exact ae TU);(case cc=>repeat (first | exact aj.refl _ _ | refine aj.drew ?_ | refine aj.alloc ?_ _));rintro e wl ⟨rfl,C⟩;have z0:=C.cell (p:=⟨w.heap.size,0,none⟩) O8 idd;have PK:=ai C;clear C)
    | (go_at_call 51;refine (ae rW _ ?cc).mono ?_;(case cc=>repeat (first | exact ae PK | refine aj.drew ?_));rintro e c ⟨rfl,H,d,n,f,q,-,hac⟩;have YM:=ai hac;clear hac;have z0:=f.cell (p:=⟨w.heap.size,0,none⟩) O8 (ae s _ (Nat.le_refl _));have Jp:=ai d;have F9:=ai n;have J:=ai f;have L:=ai q;clear d n f q))
 rename_i QD;clear QD z0 O8 xv1 HLn PK rW;have d:=ae Jp;have n:=ae F9;have f:=ae J;have q:=ae L;have v:=f.ay (ae HB1) (ae s _ (Nat.le_refl _));have u:=f.ay (ae HT1) (ae s _ (by omega));have T:H.tb[k]?=some tb:=by rw[q.1];exact ae Vz
 have hx':V.lg.begun.tr[k]?=some x:=ae HX;have tbb:au c tb x.cells 105:=d.aO.ay k tb x T hx';have xv:CC c w.heap.size 0 (PP bv):=v.cell 0;have xt:CC c a.heap.size 0 (PP tb):=u.cell 0;have t2:CC c tb 2 (II x.t.af):=tbb.cell 2;have lvb:=v.lt;have ltb:=u.lt;have ktb:=tbb.lt;have outb:∀y,w.heap.size<=y->y<b.heap.size->¬(y=bv\/H.F y):=by
  rintro y m z (e | e)
  ·omega
  ·rcases n y e with e | e
   ·exact ae s y m (.inr e)
   ·omega
 have hSP:=fun W (kW:aj aA c W)=>Bd bv i j k tb V.lg.begun H x af W (d.ax kW) hx' T (by simp only[Lg.begun];exact hlen2)
 obtain⟨HSP,HOb,HLb,Yp,WH⟩:=mi hSP outb d v u;have szb:=(ae J).size;have szc:=(ae Gg);clear hSP outb d n f q v u tbb T hx';go_wp2_with (go_at_call 76;refine (ae HSP _ ?cc).mono ?_;(case cc=>repeat (first | exact aj.refl _ _ | refine aj.drew ?_ | refine aj.alloc ?_ _));rintro e I ⟨rfl,Y,Q,hFd,X,ZX,U,SS,G,A⟩;have btd:=G.ay ((ae WH).alloc (.cells #[II x.t.af] 3)) (fun e=>(by obtain⟨c',t',m,z⟩:=A _ e;exact au.ne ((ae WH).alloc (.cells #[II x.t.af] 3)) m (by rcases z with rfl | rfl | rfl <;> decide) rfl));have pd:=G.ay (au.new c #[II x.t.af] 3) (fun e=>(by obtain⟨c',t',m,z⟩:=A _ e;exact au.ne (au.new c #[II x.t.af] 3) m (by rcases z with rfl | rfl | rfl <;> decide) rfl));have cud:iy I bv bk w.heap.size true (V.lm.ac.map Prod.snd) V.lg.begun.nt V.lm.tb Y []:=(NW (ae L) (ae YM) ZX U.1 G A);have HLd:=ai Q;have HFd:=ai hFd;have HKd:=ai X;have P:=X.ay ((ae Yp).alloc (.cells #[II x.t.af] 3)) (ae HOb _ (Nat.le_refl _) (by omega));have xvd:CC I w.heap.size 0 (PP bv):=P.cell 0;have idd:bH I bv bk w.heap.size (.iV tb x.t.af) (.func (.func 77) #[] #[PP w.heap.size,PP a.heap.size,PP c.heap.size]):=⟨_,_,rfl,rfl,w.heap.size,a.heap.size,c.heap.size,Nat.le_refl _,by omega,by omega,rfl,P,btd,pd⟩;have uS:=ai (nV bv i j _ Y (.iV tb x.t.af) (.func 77) #[PP w.heap.size,PP a.heap.size,PP c.heap.size] I bk w.heap.size true _ _ _ Q cud (fun _=>rfl) idd (by show 0<V.lg.na+1;omega) (by show V.lg.na+1<=3000000;omega) (by show 0+1<1000000000;omega) (fun _ g hg=>(ae K).aO.aO.lt (.inl (by rw[<-(ae L).2,<-U.2];exact hg))));clear Q hFd X P btd pd cud idd G A ZX U);refine (ae uS).mono ?_;rintro e w4 ⟨rfl,lm4,c1,c2,c3,-,c6⟩;obtain⟨H1,H2,H3,H6⟩:=gY c1 c2 c3 c6;clear c1 c2 c3 c6;go_wp2;go_ret;have s1:=(ae Eb).size;have sd:=(ae HKd).size;simp at sd;have hB:∀y,H.F y->V.lm.F y\/w.heap.size<=y:=fun y h=>(ae F9 y h).imp_right (fun h=>by omega)
 have hD:∀y,Y.F y->V.lm.F y\/w.heap.size<=y:=fun y h=>by
  rcases ae HFd y h with h | h
  ·exact hB y h
  ·simp at h;exact .inr (by omega)
 have kF1:aj (fun y=>y=bv\/V.lm.F y) w c:=(ae Eb).aP.trans (ae J);have kF3:=(kF1.alloc (.cells #[II x.t.af] 3)).from ((ae HKd).mono (fun y h=>by
  rcases h with h | h
  ·exact .inl (.inl h)
  ·exact (hB y h).imp_left .inr))
 refine⟨rfl,lm4,ae H1,fun y h=>?_,kF3.from ((ae H3).mono (fun y h=>(hD y (BA h)).imp_left .inr)),_,ae H6⟩;rcases ae H2 y h with h | h
 ·exact hD y h
 ·exact .inr (by omega)
open Go.RowKit
def Lg.qp(G:Lg)(k:Nat)(t:Tr):Lg:={ G with tr:=G.tr.set k ⟨t,true⟩ }
theorem fP.qp{w:World}{bv r s k b:Nat}{G:Lg}{m:Lm}{x:Tg}(h:bz w bv r s G m)(A:G.tr[k]?=some x)(q:m.tb[k]?=some b):bz (w.setCell ⟨b,7,none⟩ (.bool true)) bv r s (G.qp k x.t) m:=by
 have f:=h.aO.ay k b x q A;have j:aj (fun y=>y=b) w (w.setCell ⟨b,7,none⟩ (.bool true)):=(aj.refl (fun y=>y=b) w).setCell (p:=⟨b,7,none⟩) (.inl rfl) _;refine⟨j.ay h.cO (au.ne h.cO f (by decide)),?_⟩;have C:=aB h.aO.dJ j (fun y d e=>dC h.aO.dJ d f (by decide) e);refine⟨?_,aB h.aO.fQ j (fun y d e=>dC h.aO.fQ d f (by decide) e),by simp[Lg.qp,h.aO.len],fun i b' g o l=>?_,h.aO.nodup,h.aO.act.aC j (fun y d e=>?_),aB h.aO.lT j (fun y d e=>dC h.aO.lT d f (by decide) e),h.aO.jb⟩
 ·simp only[Lg.qp,List.length_set];exact C
 ·simp only[Lg.qp]at l;by_cases e:i=k
  ·subst e;obtain rfl:b'=b:=by rw[q]at o;exact (Option.some.inj o).symm
   have a:i<G.tr.length:=(List.getElem?_eq_some_iff.1 A).1;rw[List.getElem?_set_self a]at l;obtain rfl:=Option.some.inj l;exact f.set 7 _
  ·rw[List.getElem?_set_ne (fun h=>e h.symm)]at l;refine j.ay (h.aO.ay i b' g o l) (fun n=>e ?_);subst n;obtain⟨v,u⟩:=List.getElem?_eq_some_iff.1 o;obtain⟨z,n⟩:=List.getElem?_eq_some_iff.1 q;rcases Nat.lt_trichotomy i k with a | a | a
   ·exact absurd (u.trans n.symm) (List.pairwise_iff_getElem.1 h.aO.nodup i k v z a)
   ·exact a
   ·exact absurd (n.trans u.symm) (List.pairwise_iff_getElem.1 h.aO.nodup k i z v a)
 ·obtain⟨c,t,B,D⟩:=h.aO.act.gZ d;subst e;exact au.ne B f (by rcases D with rfl | rfl <;> decide) rfl
theorem Qb(bv b c H:Nat)(G:Lg)(m:Lm)(w:World)(a:bz w bv b c G m)(d:au w H #[dh bv] 35) :
 CT 79 #[dh H] w fun e w'=>e=.returned (.tuple #[])/\bz w' bv b c { G with day:=wrap64 (G.day-1) } m/\aj (fun x=>x=bv) w w':=by
 have i:CC w H 0 (PP bv):=d.cell 0;have v4:CC w bv 4 (II G.day):=a.cO.cell 4;have g:=a.cO.frozen 4;have f:=ai a;clear a d;simp only[dh];go_enter Tryz.func79,Tryz.ntmps79;go_wp2;go_end0;have h:=(ae f).FN (wrap64 (G.day-1));exact⟨rfl,h.1,h.2⟩
theorem Sl(bv f g H d a k tb:Nat)(p:Int)(G:Lg)(m:Lm)(x:Tg)(w:World)(n:bz w bv f g G m)(q:G.tr[k]?=some x)(o:m.tb[k]?=some tb)(u:G.tp.length<1000000000)
 (i:au w H #[dh bv] 35) (j:au w d #[dh tb] 103) (l:au w a #[II p] 3) :
 CT 77 #[dh H,dh d,dh a] w fun e w'=>e=.returned (.tuple #[]) /\
  ∃m',bz w' bv f g ((G.jE k x p).told 3 (x.t.at p)) m'/\(∀b,m'.F b->m.F b\/w.heap.size<=b)/\aj (fun b=>b=bv\/m.F b) w w'/\m'.ac=m.ac/\(m'.tb=m.tb/\m'.tv=m.tv)/\∃S,aj S w w'/\∀y,S y->∃c t,au w y c t/\(t=100\/t=105\/t=62):=by
 have z:CC w H 0 (PP bv):=i.cell 0;have A:CC w d 0 (PP tb):=j.cell 0;have B:CC w a 0 (II p):=l.cell 0;have r:=ai (Bd bv f g k tb G m x p w n q o u);clear n q o i j l;simp only[dh];go_enter Tryz.func77,Tryz.ntmps77;go_wp2_with fail;refine (ae r).mono ?_;rintro e v ⟨rfl,h⟩;have s:=ai h;clear h;go_wp2;go_end0;exact⟨rfl,ae s⟩
theorem P5(bv i j H g k tb:Nat)(G:Lg)(m:Lm)(x:Tg)(w:World)(n:bz w bv i j G m)(r:G.tr[k]?=some x)(o:m.tb[k]?=some tb)(I:G.tp.length<1000000000)
 (c:au w H #[dh bv] 35) (d:au w g #[dh tb] 103) :
 CT 74 #[dh g,dh H] w fun e w'=>e=.returned (.tuple #[]) /\
  ∃m',bz w' bv i j ((G.qp k x.t).told 1 x.t) m'/\(∀b,m'.F b->m.F b\/w.heap.size<=b)/\aj (fun b=>b=tb\/b=bv\/m.pv.ownBlock=some b) w w'/\m'.ac=m.ac/\m'.tb=m.tb:=by
 have a:=n.aO.ay k tb x o r;have Q:CC w H 0 (PP bv):=c.cell 0;have R:CC w g 0 (PP tb):=d.cell 0;have O:¬H=tb:=au.ne c a (by decide);have P:¬g=tb:=au.ne d a (by decide);obtain⟨f,l⟩:=gy (w.setCell ⟨tb,7,none⟩ (.bool true));have v:aj (fun y=>y=tb) w f:=by rw[l];exact (aj.refl (fun y=>y=tb) w).setCell (p:=⟨tb,7,none⟩) (.inl rfl) _
 have u:bz f bv i j (G.qp k x.t) m:=by rw[l];exact n.qp r o
 have c7:=a.cell 7;have N:=a.frozen 7;simp only[Tg.cells]at c7;simp at c7;obtain⟨c0,c1,J,K,L,c5,M,-⟩:=a.c8;have z:=ai (fun q=>yh bv i j _ m 1 x.t (f.drewN q) (u.ax ((aj.refl aA f).drewN q)) I);obtain⟨A,s⟩:=aZ l v;clear l v u n a r o c d;simp only[dh];go_enter Tryz.func74,Tryz.ntmps74;go_wp2;go_region_with (first | (go_at_call 73;rw[<-ae A];refine (ae z _).mono ?_;rintro e w2 ⟨rfl,m',c,d,B,C,D⟩))
 all_goals
  go_wp2;go_end0;refine⟨rfl,m',c,fun b E=>(d b E).imp_right (fun h=>Nat.le_trans (ae s).size h),((ae s).mono (fun y h=>.inl h)).trans (((aj.refl _ f).drewN _).trans (B.mono (fun y h=>.inr h))),C,D.1⟩
end Go.Proofs.YtigaphnafnpfnaaGreatDoor
