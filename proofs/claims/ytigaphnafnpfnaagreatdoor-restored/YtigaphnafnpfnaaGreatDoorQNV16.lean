import Derived.Test.YtigaphnafnpfnaaGreatDoorQNV27
set_option linter.unusedVariables false
set_option linter.unusedSimpArgs false
set_option maxHeartbeats 8000000
set_option maxRecDepth 100000
namespace Go.Proofs.YtigaphnafnpfnaaGreatDoor
open Go.RowKit Go.Maps
attribute [local go_sem ↓] Go.wp_at_zero Go.wp_at_succ
def Rz(bv bm bo:Nat)(V:aS)(M:Int)(bk:Nat->Nat)(w w':World):Prop :=
 ∃V2,dS w' bv bm bo V2/\ClV V M V2/\aj (dO bv bm bo V) w w'/\(∀x,dO bv bm bo V2 x->dO bv bm bo V x\/w.heap.size<=x)/\(∀j y,(V2.B j).sl y=(V.B j).sl y)/\(∀j,V2.bk j=V.bk j) /\
  ∃ex:List Nat,ex.Nodup/\(∀id x,V.aW id=some x->(x∈ex↔((V.om x).kind=1/\0<(V.om x).aO)))/\(∀x∈ex,VL V x)/\V2.lg.nt=ex.flatMap (fun x=>[.left x,.gp x (V.om x)])++[.closed] /\
   ∃cl,iw w' bv bk w.heap.size true (V.lm.ac.map Prod.snd) V2.lg.nt V.lm.tb V2.lm cl
theorem W9(bv bm bo n:Nat)(V:aS)(M:Int)(w:World)(bk:Nat->Nat)(hbk:∀i,i<V.nb->∀y,y<2->∀l,l<(V.B i).n y->bk ((V.B i).h y l)=V.bk i)(hbs:∀i x,i<V.nb->VL V x->(V.om x).sym=(V.B i).sym->bk x=V.bk i)(R:dS w bv bm bo V)(g:GW V M)(hno:V.no=n)(hsz:∀i,i<V.nb->(V.B i).sym.size<=100)(hM:M<=1000000000000000)(hn:n<=200)(k1:V.lg.tp.length<1000000000)(k4:V.lg.ud+V.lg.na<3000000)(hpl:Hid (V.lg.pl=⟨#[99,108,111,115,101]⟩)) :
 CT 41 #[PP bv] w fun e w'=>e=.returned (.tuple #[])/\Rz bv bm bo V M bk w w':=by
 have kx:aj aJ w (w.alloc (.cells #[PP bv] 35)):=(aj.refl aJ w).alloc _;have nY:=au (Ov bv bm bo V.lg V.lm ⟨#[99,108,111,115,101]⟩ _ (R.aP.aB kx) (by omega) (by decide) (by decide) (ae hpl));have Xh:=aA.new w #[PP bv] 35;have HR:=au R;have lv:=R.dC.lt;have Ce:∀x,w.heap.size<=x->¬(x=bv\/V.lm.F x):=by
  rintro x hx (e | e)
  ·omega
  ·have:=R.aP.aP.lt e;omega
 obtain⟨ru,HKx,HBv,HG,WL,HBS⟩:=zC Ce kx Xh g hsz hbs;have sJ:∀j,j<V.nb->∀y,y<2->∀a,ig ((V.B j).sl y)=some a->a<w.heap.size:=fun j hj y hy a ha=>((R.aY j hj).side y hy).lt ha
 have acA:=au sJ;clear R Ce kx Xh g hsz sJ hbs hbk;go_enter Tryz.func41,Tryz.ntmps41;go_wp2_with fail;refine (ae nY).mono ?_;rintro e wb ⟨rfl,l9,hLb,sW,kb',vk,hac⟩;have kb:aj (fun b=>b=bv\/V.lm.F b) (w.alloc (.cells #[PP bv] 35)) wb:=kb'.mono (fun b h=>h.imp_right (fun h=>h.elim (fun h=>jZ h) (fun h=>.inr (.inl (.inr h)))));have HCB:Hid (iw wb bv bk w.heap.size true (V.lm.ac.map Prod.snd) V.lg.begun.nt V.lm.tb l9 []):=iw.begun vk hac;clear kb' vk hac;have Rb:=((ae HR).aB (ae HKx)).jM hLb kb;have PR:=kb.aF (ae HBv) (ae ru _ (Nat.le_refl _));have xb:CC wb w.heap.size 0 (PP bv):=PR.cell 0;have v1:CC wb bv 1 (.map (some bo)):=Rb.dC.cell 1;have MW:aj (fun x=>x=bv\/V.lm.F x) w wb:=(ae HKx).bI.trans kb;obtain⟨fO,⟨D,hown,hsz,hat,hhas⟩,hfO⟩:=Rb.fH;have hown':wb.ownsMap Tryz.prog 3 jA bo n D:=by rw[<-hno];exact hown
 have hsz':Maps.size D=n:=hsz.trans hno;obtain⟨HRb,Wy,Pz⟩:=eY Rb PR MW;have Yg:Hid (∀x,l9.F x->V.lm.F x\/w.heap.size<=x):=fun x h=>(sW x h).imp_right (fun h=>by have:=(ae HKx).size;omega)
 obtain⟨aaW,HAt,WB,HFO,HSz⟩:=BD hown' hat hhas hfO hsz';have lwb:=PR.lt;clear nY hLb sW kb Rb PR MW hown hown' hat hhas hfO hsz hsz';go_wp2_with (at_range;refine wpList_range_own _ rfl _ 95 rfl 3 114 zU Tryz.underlying95 jA bo n D rfl (ae aaW) ?_;intro w0 hrg0 hg0 hs0;have HRg:=au hrg0;have HG0:=au hg0;clear hrg0 hg0);have k0:aj aJ wb w0:=(aj.refl aJ wb).grown (ae HG0) (fun k e=>by simp at e);have hI:Ry bv bm bo n M V wb.heap.size D fO bk w w0 n { V with lg:=V.lg.begun,lm:=l9 } (Maps.has D) none []:=by
  refine⟨rfl,List.nodup_nil,fun id x hx=>?_,fun _ _=>rfl,fun _=>rfl,⟨[],(ae HCB).aB k0⟩,fun x hx=>by simp at hx,(ae HRb).aB k0,(ae HG).U4 _ _,rfl,rfl,rfl,fun _=>rfl,fun _=>rfl,fun _=>⟨rfl,rfl,rfl,rfl⟩,fun id x hx=>?_,⟨rfl,rfl,rfl,rfl,Nat.le_add_right _ _,rfl,rfl⟩,?_,fun kl h=>?_,fun y hy=>?_,Nat.le_refl _,k0.aF (ae Wy) aU,((ae Pz).mono (fun y h=>?_)).trans k0.bI,by omega⟩
  ·have hh:Maps.has D (.int .i64 id)=true:=by
    rw[ae WB (.int .i64 id),(ae HFO) id];show (V.aW id).isSome=true;rw[hx];rfl
   simp[hh]
  ·have hh:Maps.has D (.int .i64 id)=true:=by
    rw[ae WB (.int .i64 id),(ae HFO) id];show (V.aW id).isSome=true;rw[hx];rfl
   rw[if_pos (.inl hh)]
  ·have:=ae HRg;rw[ae HSz]at this;exact this
  ·rw[<-ae WB kl];exact h
  ·rcases hy with h | h | h | h | h | h
   ·exact .inl (.inl h)
   ·exact .inl (.inr (.inl h))
   ·exact .inl (lN h)
   ·exact .inl (jZ h)
   ·exact .inl (qm h)
   ·exact (ae Yg y h).imp_left (fun h=>vU h)
  ·rcases h with h | h
   ·exact .inl h
   ·exact vU h
 have HI:=au hI;obtain⟨r,hr⟩:=mf wb.heap.size;rw[hr]at HI ⊢;clear hI k0 HCB HRg HG0 HRb Wy Pz Yg aaW WB HSz v1 xb lwb hr hs0 HKx HBv;go_frame;go_loopg [3] n (fun kk _ wr=>∃(cnt:Nat) (V':aS) (left:Lit->Bool) (ex:List Nat),kk=cnt/\Ry bv bm bo n M V r D fO bk w wr cnt V' left none ex)
 case atStart=>exact⟨_,_,_,_,rfl,ae HI⟩
 case round =>
  obtain⟨cnt,V',left,exs,hkk,cl⟩:=hrel;have xb:CC wr w.heap.size 0 (PP bv):=cl.box.cell 0;have v4:CC wr bv 4 (II V.lg.day):=by
   have:=cl.lG.dC.cell 4;rw[cl.lg.2.2.1]at this;exact this
  have f4:=cl.lG.dC.frozen 4;obtain⟨LD,aaY,Zc⟩:=eY cl cl.Ws cl.le;clear cl;go_wp2_with (at_next;refine Af rfl _ rfl bo r n D left cnt fO rfl (ae aaY) (ae HAt) (ae Zc) ?_ ?_)
  ·intro hc0;have cl:=ae LD;have hTl:∀W,aj aJ wr W->CT 73 #[PP bv,II 4,(yK V.lg.day).val] W fun e w'=>e=.returned (.tuple #[])/\∃m',bG w' bv bm bo (V'.lg.told 4 (yK V.lg.day)) m'/\(∀b,m'.F b->V'.lm.F b\/wr.heap.size<=b)/\aj (fun b=>b=bv\/V'.lm.F b) wr w'/\w'.cell? ⟨w.heap.size,0,none⟩=some (PP bv)/\aA w' w.heap.size #[PP bv] 35/\∃Yw,iw w' bv bk w.heap.size true (V.lm.ac.map Prod.snd) V'.lg.nt V.lm.tb m' Yw:=by
    intro W kW;refine (yY bv bm bo V'.lg V'.lm 4 (yK V.lg.day) W (cl.lG.aP.aB kW) (by rw[cl.lg.2.1];show V.lg.tp.length<1000000000;omega)).mono ?_;rintro e w' ⟨rfl,m',a1,a2,a3,a4,a5⟩;have hbx:aA w' w.heap.size #[PP bv] 35:=a3.aF (kW.aF cl.box aU) (by
     rintro (e | e)
     ·exact aA.ne cl.box cl.lG.dC (by decide) e
     ·exact bY cl.lG.aP.aP.iO e cl.box (by decide) rfl)
    obtain⟨cl0,hcl0⟩:=cl.cu;have hc1:iw w' bv bk w.heap.size true (V.lm.ac.map Prod.snd) V'.lg.nt V.lm.tb m' cl0:=by
     have h:=((hcl0.aB kW).aC a3 (nP.gK (fun y hy=>by
      rcases hy with e | e
      ·rw[e];exact⟨_,100,(cl.lG.aB kW).dC,uS⟩
      ·obtain⟨cs,hcs⟩:=bK (cl.lG.aB kW).aP.aP.iO e;exact⟨cs,62,hcs,BZ⟩))).U3 (m':=m') a4 (fun _ _ _=>a5.2)
     rw[a5.1,hcl0.tb]at h;exact h
    refine⟨rfl,m',a1,fun b hb=>(a2 b hb).imp_right (fun h=>Nat.le_trans kW.size h),kW.bI.trans (a3.mono (fun b h=>h.imp_right (fun h=>.inr (.inl (.inl h))))),hbx.cell 0,hbx,cl0,hc1⟩
   have hdl:V'.lg.day=V.lg.day:=cl.lg.2.2.1;have hna':V'.lg.na=V.lg.na+1:=cl.lg.2.2.2.1;have abC:=cl.lg.2.2.2.2;have hcn:=cl.cn;have abB:V.lg.begun.nt.length=0:=rfl;simp only[Tr.val,yK]at hTl;have HTl:=au hTl;clear hTl cl;go_wp2;go_region_held3 (fun w'=>w'.cell? ⟨w.heap.size,0,none⟩=some (PP bv)/\w'.cell? ⟨bv,4,none⟩=some (II V.lg.day)) (go_keep)
    (first | (go_at_call 73;refine (ae HTl _ ?cc).mono ?_;(case cc=>repeat (first | exact aj.refl _ _ | refine aj.drew ?_));rintro e wt ⟨rfl,lmt,t1,t2,t3,y1,tbx,clt,tcu⟩;have TBX:=au tbx;have TCU:=au tcu;clear tbx tcu;have y2:CC wt bv 4 (II V.lg.day):=(t1.dC.cell 4).trans (by rw[<-hdl];rfl);have ft:=t1.dC.frozen 4;have T1:=au t1;have T2:=au t2;have T3:=au t3;clear t1 t2 t3))
   rename_i TB;clear TB;have hD:=(ae T1).Vf (wrap64 (V.lg.day+1));have HD:=au hD;have cuD:=(ae TCU).aC hD.2 (nP.gK (fun y hy=>by rw[hy];exact⟨_,100,(ae T1).dC,uS⟩));have iD:bU (wt.setCell ⟨bv,4,none⟩ (II (wrap64 (V.lg.day+1)))) bv bk w.heap.size .closed (.func (.func 79) #[] #[PP w.heap.size]):=⟨_,_,rfl,rfl,w.heap.size,Nat.le_refl _,rfl,hD.2.aF (ae TBX) (fun e=>aA.ne (ae TBX) (ae T1).dC (by decide) e)⟩;have hNt:=nJ bv bm bo _ lmt .closed (.func 79) #[PP w.heap.size] _ bk w.heap.size true _ _ _ hD.1 cuD (fun _=>rfl) iD (by show 0<V'.lg.na;omega) (by show V'.lg.na<=3000000;omega) (by show V'.lg.nt.length+1<1000000000;omega);have es:(wt.setCell ⟨bv,4,none⟩ (II (wrap64 (V.lg.day+1)))).heap.size=wt.heap.size:=by simp[World.setCell]
   rw[es]at hNt;have rZ:=au hNt;clear hNt es cuD iD;clear hD;go_wp2_with fail;refine (ae rZ).mono ?_;rintro e w5 ⟨rfl,vw,h1,h2,h3,-,h6⟩;have H6:=au h6;clear h6;obtain⟨H1,H2,H3⟩:=eY h1 h2 h3;clear h1 h2 h3;go_wp2;go_end0;have cl:=ae LD;have szt:=(ae T3).size;have hFt:∀y,lmt.F y->V'.lm.F y\/wr.heap.size<=y:=ae T2;have kD:aj (fun y=>y=bv\/V'.lm.F y) wr (wt.setCell ⟨bv,4,none⟩ (II (wrap64 (V.lg.day+1)))):=(ae T3).trans ((ae HD).2.mono (fun y e=>.inl e));have k5:aj (fun y=>y=bv\/V'.lm.F y) wr w5:=kD.from ((ae H3).mono (fun y h=>(hFt y (DR h)).imp_left .inr));have Qd:∀y,vw.F y->V'.lm.F y\/wr.heap.size<=y:=fun y h=>by
    rcases ae H2 y h with h | h
    ·exact hFt y h
    ·exact .inr (by omega)
   have R5:=cl.lG.jM (ae H1) k5;have TL:∀y,dO bv bm bo V' y->dO bv bm bo V y\/w.heap.size<=y:=cl.kU;have htr:V'.lg.tr=V.lg.tr:=cl.lg.1;have htp:V'.lg.tp=V.lg.tp:=cl.lg.2.1;have szw:=cl.jV.size;have hall:∀kl,left kl=false:=by
    rcases (ae aaY).next zU 0 with⟨_,ha,_⟩ | ⟨_,_,_,_,_,_,_,_,_,_,_,_,hlt,_⟩
    ·exact ha
    ·omega
   refine⟨rfl,_,R5,⟨cl.gw.U4 _ _,cl.aW,cl.no,cl.nb,cl.lL,cl.Sr,cl.dN,fun id x hx=>?_,htr,?_,rfl,hna',cl.lg.2.2.2.2.2.1,cl.lg.2.2.2.2.2.2⟩,cl.jV.from (k5.mono (fun y h=>?_)),fun y hy=>?_,cl.sl,cl.Yt,exs,cl.exn,fun id x hx=>?_,cl.exo,?_,_,ae H6⟩
   ·show V'.om x=_;rw[cl.om id x hx,hall];simp
   ·show V'.lg.tp++[⟨(V'.lg.tp.length:Int)+1,4,yK V.lg.day⟩]=_;rw[htp]
   ·rcases h with h | h
    ·exact .inl (.inl h)
    ·exact TL y (vU h)
   ·have key:dO bv bm bo V' y\/wr.heap.size<=y:=by
     rcases hy with h | h | h | h | h | h
     ·exact .inl (.inl h)
     ·exact .inl (.inr (.inl h))
     ·exact .inl (lN h)
     ·exact .inl (jZ h)
     ·exact .inl (qm h)
     ·exact (Qd y h).imp_left (fun h=>vU h)
    rcases key with h | h
    ·exact TL y h
    ·exact .inr (by omega)
   ·rw[cl.exm id x hx,hall];simp
   ·show V'.lg.nt++[.closed]=_;rw[cl.nt]
  ·intro id x W cnt' hlk hfx adl hlt hgr hsz hen;have cl:=(ae LD).step hlk adl hlt hgr;have ho0:V.aW id=some x:=by rw[<-hfx];exact ((ae HFO) id).symm
   have omx:V'.om x=V.om x:=by rw[cl.om id x ho0,if_pos (.inr rfl)]
   obtain⟨HO0,HOM⟩:=dE ho0 omx;clear ho0 omx hlk;have ho':V'.aW id=some x:=by rw[cl.aW,<-hfx];exact ((ae HFO) id).symm
   obtain⟨_,ix,ho⟩:=cl.lG.bz id x ho';have o4:CC W x 4 (II (V'.om x).kind):=ho.cell 4;have o8:CC W x 8 (II (V'.om x).aO):=ho.cell 8;by_cases hc:(V'.om x).kind=1/\0<(V'.om x).aO
   ·obtain⟨hk1,hop⟩:=hc;have e1:((V'.om x).kind == 1)=true:=by simp[hk1]
    have e2:decide (0<(V'.om x).aO)=true:=by simp[hop]
    obtain⟨i,s,hi,hs,hsy,hsd⟩:=cl.gw.idx ⟨id,ho'⟩;obtain⟨k,hk,hkb'⟩:=((cl.gw.gb i hi).mem s hs x).2 ⟨⟨id,ho'⟩,hsy,hsd,hop⟩;have hkb:(V'.B i).h s k=x:=hkb'.symm;have hi':i<V'.nb:=hi;have hlen:(V'.B i).sym.size<=maxLen:=by rw[cl.lL i];have:=ae WL i (by rw[<-cl.nb];exact hi);unfold maxLen;omega
    have o2:W.cell? ⟨x,2,none⟩=some (.string (V'.B i).sym):=by rw[<-hsy];exact ho.cell 2
    have v0:CC W bv 0 (.map (some bm)):=cl.lG.dC.cell 0;have xbW:CC W w.heap.size 0 (PP bv):=cl.box.cell 0;have L1:(Instr.lookup 94 (.map (some bm)) (.string (V'.B i).sym) false).run Tryz.prog W=.ok (PP (V'.bk i)) W:=cl.lG.BN hi' hlen;have Zo:(Instr.lookup 94 (.map (some bm)) (.string (V'.B i).sym) false).run Tryz.prog W.drew=.ok (PP (V'.bk i)) W.drew:=cl.lG.Nu hi' hlen 1;have hL:=fun q=>qJ (V'.bk i) (V'.B i) V'.om (fun x=>∃id,V'.aW id=some x) s k (W.drewN q) ((cl.lG.aB ((aj.refl aJ W).drewN q)).tu hi') hs hk (by rw[hkb];exact hsd)
    rw[hkb]at hL;have HL:=au hL;have HC:=au (fun (W2:World) (m:Mk W2 (V'.bk i) ((V'.B i).leave V'.om s k) V'.om (fun x=>∃id,V'.aW id=some x))=>D8 (V'.bk i) x ((V'.B i).leave V'.om s k) V'.om _ W2 m ⟨id,ho'⟩);have abC:=(ae LD).lg.2.2.2.2;have hcn:=(ae LD).cn;have hna':V'.lg.na=V.lg.na+1:=(ae LD).lg.2.2.2.1;have abB:V.lg.begun.nt.length=0:=rfl;obtain⟨cl0,hcl0⟩:=cl.cu;have hbx:bk x=V'.bk i:=by
     rw[cl.Yt i];exact ae HBS i x (by rw[<-cl.nb];exact hi) ⟨id,ae HO0⟩ (by rw[<-(cl.dN x).1,hsy,cl.lL i])
    have rZ:=au (D9 bv bm bo i x s k V' M id W bk w.heap.size (V.lm.ac.map Prod.snd) V.lm.tb cl0 hcl0 cl.jV.size hbx (fun g hg=>by rw[cl.sl i s]at hg;exact ae acA i (by rw[<-cl.nb];exact hi) s hs g hg) cl.lG cl.gw hM hi hs hk hkb ho' (by omega) (by omega) (by omega));have aaG:∀y,(y=V'.bk i\/dG (V'.B i) s y)->∃c t,aA W y c t/\(t=158\/t=116\/t=114):=fun y e=>(cl.lG.tu hi').gK (by
     rcases e with e | e
     ·exact .inl e
     ·exact .inr (.inr ⟨s,hs,e⟩))
    have nx:w.heap.size≠x:=aA.ne cl.box ho (by decide);have nv:bv≠x:=aA.ne cl.lG.dC ho (by decide);have z2:∀q w2,aj (fun y=>y=V'.bk i\/dG (V'.B i) s y) (W.drewN q) w2->aA w2 w.heap.size #[PP bv] 35/\aA w2 bv (sU bm bo V'.lm V'.lg.day) 100:=fun q w2 k2 =>
     ⟨k2.aF (cl.box.drewN q) (fun e=>by
      obtain⟨c,t,hc,ht⟩:=aaG _ e;exact aA.ne cl.box hc (by rcases ht with rfl | rfl | rfl <;> decide) rfl),k2.aF (cl.lG.dC.drewN q) (fun e=>by
      obtain⟨c,t,hc,ht⟩:=aaG _ e;exact aA.ne cl.lG.dC hc (by rcases ht with rfl | rfl | rfl <;> decide) rfl)⟩
    have OI:(V'.om x).sym=(V'.B i).sym:=hsy;have HZ2:Hid (∀q w2,aj (fun y=>y=V'.bk i\/dG (V'.B i) s y) (W.drewN q) w2->Mk w2 (V'.bk i) ((V'.B i).leave V'.om s k) V'.om (fun x=>∃id,V'.aW id=some x)->w2.cell? ⟨w.heap.size,0,none⟩=some (PP bv)/\w2.cell? ⟨bv,0,none⟩=some (.map (some bm))/\w2.cell? ⟨x,2,none⟩=some (.string (V'.B i).sym)):=fun q w2 c2 m2=>by
     obtain⟨ix2,ho2⟩:=m2.bz x ⟨id,ho'⟩;exact⟨(z2 q w2 c2).1.cell 0,(z2 q w2 c2).2.cell 0,by rw[<-OI];exact ho2.cell 2⟩
    have HZ3:Hid (∀q w2 w3,aj (fun y=>y=V'.bk i\/dG (V'.B i) s y) (W.drewN q) w2->aj (fun y=>y=x) w2 w3->Mk w3 (V'.bk i) ((V'.B i).leave V'.om s k) (aQ V'.om x (gQ (V'.om x))) (fun x=>∃id,V'.aW id=some x)->w3.cell? ⟨w.heap.size,0,none⟩=some (PP bv)/\w3.cell? ⟨bv,0,none⟩=some (.map (some bm))/\w3.cell? ⟨x,2,none⟩=some (.string (V'.B i).sym)):=fun q w2 w3 c2 c3 m3=>by
     obtain⟨ix3,ho3⟩:=m3.bz x ⟨id,ho'⟩;rw[ai]at ho3;exact⟨(c3.aF (z2 q w2 c2).1 nx).cell 0,(c3.aF (z2 q w2 c2).2 nv).cell 0,by rw[<-OI];exact ho3.cell 2⟩
    have HZ4:Hid (∀w4,je bv bm bo V' (ExC bv V' M x bk w.heap.size (V.lm.ac.map Prod.snd) V.lm.tb) W w4->Mk w4 (V'.bk i) ((V'.B i).leave V'.om s k) (aQ V'.om x (gQ (V'.om x))) (fun x=>∃id,V'.aW id=some x)->w4.cell? ⟨w.heap.size,0,none⟩=some (PP bv)/\w4.cell? ⟨bv,0,none⟩=some (.map (some bm))/\w4.cell? ⟨x,2,none⟩=some (.string (V'.B i).sym)):=fun w4 r4 m4=>by
     obtain⟨V2,R2,_,_,hb,_,_⟩:=r4;obtain⟨ix4,TP⟩:=m4.bz x ⟨id,ho'⟩;rw[ai]at TP;exact⟨(hb _ _ _ cl.box (.inr (.inl rfl))).cell 0,R2.dC.cell 0,by rw[<-OI];exact TP.cell 2⟩
    have HC2:=au cl;clear cl hcl0 hbx ho hL z2 abC hcn hna' abB hsy hsd aaG OI nx nv hkb';go_wp2;go_region_held3 (fun w'=>w'.cell? ⟨w.heap.size,0,none⟩=some (PP bv)/\w'.cell? ⟨bv,0,none⟩=some (.map (some bm))/\w'.cell? ⟨x,2,none⟩=some (.string (V'.B i).sym)) (go_keep)
     (first
       | (go_at_call 66;refine (ae HL _).mono ?_;rintro e w2 ⟨uN,cp2,rfl,f2,m2,c2⟩;have F2:=au f2;clear f2;obtain⟨y1,y2,y3⟩:=ae HZ2 _ w2 c2 m2;have M2:=au m2;have C2:=au c2;clear m2 c2)
       | (go_at_call 78;refine (ae HC _ (ae M2)).mono ?_;rintro e w3 ⟨oP,cp3,rfl,f3,m3,c3⟩;have F3:=au f3;clear f3;obtain⟨u1,u2,u3⟩:=ae HZ3 _ w2 w3 (ae C2) c3 m3;have M3:=au m3;have C3:=au c3;clear m3 c3)
       | (go_at_call 53;refine (ae rZ _ w2 w3 uN cp2 oP cp3 (ae M2) (ae C2) (ae M3) (ae C3) (ae F2) (ae F3)).mono ?_;rintro e w4 ⟨rfl,r4,r5,r6⟩;obtain⟨t1,t2,t3⟩:=ae HZ4 w4 r4 r6;have R4:=au r4;have R5:=au r5;clear r4 r5 r6))
    all_goals
     go_wp2;go_roundg cnt'
     case measure=>omega
     case rel =>
      have c0:=ae LD;have:=c0.lg.2.2.2.2;have:=c0.cn;obtain⟨V'',h''⟩:=(ae HC2).turn (ae HO0) (by rw[<-ae HOM];exact⟨hk1,hop⟩) (by simp[Lit.sameKey]) (by omega) (by omega) hi hs (ae R4) (ae R5);exact⟨cnt',V'',_,_,rfl,h''⟩
   ·have HC2:=au cl;clear cl;by_cases hk1:(V'.om x).kind=1
    ·have e1:((V'.om x).kind == 1)=true:=by simp[hk1]
     have e2:decide (0<(V'.om x).aO)=false:=by simp;exact Int.not_lt.1 (fun h=>hc ⟨hk1,h⟩)
     go_wp2;go_roundg cnt'
     case measure=>omega
     case rel=>exact⟨cnt',V',_,_,rfl,(ae HC2).skip (ae HO0) (by rw[<-ae HOM];exact hc)⟩
    ·have e1:((V'.om x).kind == 1)=false:=by simp[hk1]
     go_wp2;go_roundg cnt'
     case measure=>omega
     case rel=>exact⟨cnt',V',_,_,rfl,(ae HC2).skip (ae HO0) (by rw[<-ae HOM];exact hc)⟩
open Go.RowKit
def bkF(s:Int)(b:kQ)(o:Ord):kQ:=if Su s b o.af=true then xQ ⟨o.af,0,0⟩ o else if o.af=b.af then xQ b o else b
def IL(l:List Ord)(sym:ByteArray)(s:Int)(last:Option Int)(i:Nat):List Ord:=((List.range i).filter (fun k=>decide ((ax l k).sym=sym/\(ax l k).side=s/\(ax l k).aO≠0/\zk s last (ax l k).af=true))).map (ax l)
theorem IE(l:List Ord)(sym:ByteArray)(s:Int)(last:Option Int):∀i,bkX l sym s last i=(IL l sym s last i).foldl (bkF s) ⟨0,0,0⟩
 | 0=>rfl
 | i+1=>by
   rw[bkX,IE l sym s last i];unfold IL;rw[List.range_succ,List.filter_append,List.map_append,List.foldl_append];unfold Sm;by_cases h:(ax l i).sym=sym/\(ax l i).side=s/\(ax l i).aO≠0
   ·obtain⟨h1,h2,h3⟩:=h;rw[if_neg (by simp[h1,h2,h3])];by_cases h4:zk s last (ax l i).af=true
    ·rw[if_neg (by simp[h4]),List.filter_cons_of_pos (by simp[h1,h2,h3,h4])]
     rfl
    ·rw[if_pos (by simpa using h4),List.filter_cons_of_neg (by simp[h4])]
     rfl
   ·rw[if_pos (by by_cases a:(ax l i).sym=sym <;> by_cases b:(ax l i).side=s <;> by_cases c:(ax l i).aO=0 <;> simp[a,b,c]at h ⊢),List.filter_cons_of_neg (by
     simp only[decide_eq_true_eq];rintro⟨a,b,c,_⟩;exact h ⟨a,b,c⟩)]
    rfl
def Om(s:Int)(C:List (Int × Int))(b:kQ):Prop :=
 (C=[]/\b=⟨0,0,0⟩)\/(C≠[]/\(∃a∈C,a.1=b.af)/\(∀a∈C,¬zQ s a.1 b.af)/\b.aK=qs b.af C/\b.num=cn b.af C/\0<b.num)
theorem PO(s:Int)(hs:s=0\/s=1)(os:List Ord)(hl:os.length<=1000)(hb:∀o∈os,0<=o.aO/\o.aO<=1000000000000000):Om s (os.map po) (os.foldl (bkF s) ⟨0,0,0⟩):=by
 have gen:∀(A B:List Ord) (b:kQ),A++B=os->Om s (A.map po) b->Om s (os.map po) (B.foldl (bkF s) b):=by
  intro A B
  induction B generalizing A with
  | nil=>intro b e h;rw[List.append_nil]at e;subst e;exact h
  | cons o B ih =>
    intro b e h;have e':(A++[o])++B=os:=by rw[<-e];simp
    rw[List.foldl_cons];have ho:=hb o (by rw[<-e];simp);have ZL:∀a∈A.map po,0<=a.2/\a.2<=1000000000000000:=by
     intro a ha;rw[List.mem_map]at ha;obtain⟨x,hx,rfl⟩:=ha;exact hb x (by rw[<-e];simp[hx])
    have hlA:(A.map po).length<=1000:=by rw[List.length_map];rw[<-e,List.length_append]at hl;omega
    have hmap:(A++[o]).map po=A.map po++[(o.af,o.aO)]:=by simp[po]
    have w0:xQ ⟨o.af,0,0⟩ o=⟨o.af,o.aO,1⟩:=by
     rw[aat rfl rfl,aT (by omega) (by omega)]
    refine ih (A++[o]) _ e' ?_;right;rw[hmap];refine⟨by simp,?_⟩;rcases h with⟨h1,h2⟩ | ⟨h1,⟨a0,ha0,e0⟩,h3,h4,h5,h6⟩
    ·subst h2;have hb1:Su s ⟨0,0,0⟩ o.af=true:=rfl;unfold bkF;rw[if_pos hb1,w0];rw[h1];simp only[List.nil_append];have q1:=ou o.af [] (o.af,o.aO);have q2:=nZ o.af [] (o.af,o.aO);rw[List.nil_append]at q1 q2;refine⟨⟨_,List.mem_singleton.2 rfl,rfl⟩,fun a ha=>?_,?_,?_,by show (0:Int)<1;decide⟩
     ·rw[List.mem_singleton]at ha;subst ha;exact pG _ _
     ·rw[q1];simp[qs,qX]
     ·rw[q2];simp[cn]
    ·have hnum:b.num≠0:=by omega
     have hbt:Su s b o.af=true↔zQ s o.af b.af:=by
      unfold Su zQ;rw[if_neg hnum];split <;> simp
     have qb:=ab7 b.af (A.map po) ZL;unfold bkF;by_cases hbb:zQ s o.af b.af
     ·rw[if_pos (hbt.2 hbb),w0];have hno:∀a∈A.map po,a.1≠o.af:=by
       intro a ha e4;have:=h3 a ha;rw[e4]at this;exact this hbb
      refine⟨⟨_,List.mem_append.2 (.inr (List.mem_singleton.2 rfl)),rfl⟩,fun a ha=>?_,?_,?_,by show (0:Int)<1;decide⟩
      ·rw[List.mem_append,List.mem_singleton]at ha;rcases ha with ha | ha
       ·exact fun hx=>h3 a ha (Ep hx hbb)
       ·subst ha;exact pG _ _
      ·rw[ou,(xX hno).1];simp
      ·rw[nZ,(xX hno).2];simp
     ·rw[if_neg (fun hx=>hbb (hbt.1 hx))];by_cases hep:o.af=b.af
      ·rw[if_pos hep];have w1:xQ b o=⟨b.af,qs b.af (A.map po)+o.aO,cn b.af (A.map po)+1⟩:=by
        unfold xQ;rw[h4,h5,aT (x:=qs b.af (A.map po)+o.aO) (by omega) (by omega),aT (x:=cn b.af (A.map po)+1) (by omega) (by omega)]
       rw[w1];refine⟨⟨a0,List.mem_append.2 (.inl ha0),e0⟩,fun a ha=>?_,?_,?_,by show 0<cn b.af (A.map po)+1;omega⟩
       ·rw[List.mem_append,List.mem_singleton]at ha;rcases ha with ha | ha
        ·exact h3 a ha
        ·subst ha;exact hbb
       ·simp only;rw[ou,if_pos hep]
       ·simp only;rw[nZ,if_pos hep]
      ·rw[if_neg hep];refine⟨⟨a0,List.mem_append.2 (.inl ha0),e0⟩,fun a ha=>?_,?_,?_,h6⟩
       ·rw[List.mem_append,List.mem_singleton]at ha;rcases ha with ha | ha
        ·exact h3 a ha
        ·subst ha;exact hbb
       ·rw[ou,if_neg hep,Int.add_zero];exact h4
       ·rw[nZ,if_neg hep,Int.add_zero];exact h5
 exact gen [] os _ rfl (.inl ⟨rfl,rfl⟩)
theorem Ya{s:Int}{last p:Int}:zk s (some last) p=true↔zQ s last p:=by
 unfold zk zQ;simp only;split <;> simp
theorem WZ(l:List Ord)(sym:ByteArray)(s:Nat)(last:Option Int)(hop:∀k,k<l.length->0<=(ax l k).aO):(IL l sym (s:Int) last l.length).map po=(((idx l sym s).map (ax l)).map po).filter (fun a=>zk (s:Int) last a.1):=by
 unfold IL idx;rw[List.map_map,List.map_map,List.filter_map,List.filter_filter];congr 1;refine List.filter_congr (fun k hk=>?_);rw[List.mem_range]at hk;have:=hop k hk;simp only[Function.comp,po];have e:((ax l k).aO≠0)↔0<(ax l k).aO:=by omega
 cases hw:zk (s:Int) last (ax l k).af <;> simp[hw,e]
theorem F6{ls:List kQ}{j:Nat}(hj:j<ls.length):(ls.take (j+1)).getLast?=ls[j]?:=by
 rw[List.take_add_one,List.getElem?_eq_getElem hj,Option.toList_some,List.getLast?_concat]
theorem ER(s:Nat)(hs:s<2)(l:List Ord)(sym:ByteArray)(A:List (Int × Int))(ls:List kQ)(hlen:l.length<=1000)(hop:∀k,k<l.length->0<=(ax l k).aO/\(ax l k).aO<=1000000000000000)(hA:A.Perm (((idx l sym s).map (ax l)).map po))(h:LvS (s:Int) A ls)(j:Nat)(hj:j<=ls.length) :
 (j=ls.length->(qf l sym (s:Int) (ls.take j)).num=0)/\∀x,ls[j]?=some x->qf l sym (s:Int) (ls.take j)=x/\x.num≠0:=by
 have hs':(s:Int)=0\/(s:Int)=1:=by omega
 have hc0:=WZ l sym s (pM (ls.take j)) (fun k hk=>(hop k hk).1);have hlc:(IL l sym (s:Int) (pM (ls.take j)) l.length).length<=1000:=by
  unfold IL;rw[List.length_map];have:=List.length_filter_le (fun k=>decide ((ax l k).sym=sym/\(ax l k).side=(s:Int)/\(ax l k).aO≠0/\zk (s:Int) (pM (ls.take j)) (ax l k).af=true)) (List.range l.length);rw[List.length_range]at this;omega
 have hbc:∀o∈IL l sym (s:Int) (pM (ls.take j)) l.length,0<=o.aO/\o.aO<=1000000000000000:=by
  intro o ho;unfold IL at ho;rw[List.mem_map]at ho;obtain⟨k,hk,rfl⟩:=ho;rw[List.mem_filter,List.mem_range]at hk;exact hop k hk.1
 have hsp:=PO (s:Int) hs' _ hlc hbc;rw[<-IE]at hsp;change Om (s:Int) _ (qf l sym (s:Int) (ls.take j)) at hsp;rw[hc0]at hsp;generalize hX:((idx l sym s).map (ax l)).map po=X at *;have hlook:∀a∈A,(zk (s:Int) (pM (ls.take j)) a.1=true↔∃i x,j<=i/\ls[i]?=some x/\x.af=a.1):=by
  intro a ha;obtain⟨x,hx,e⟩:=h.all a ha;obtain⟨i,hi⟩:=List.getElem?_of_mem hx;have hil:=(List.getElem?_eq_some_iff.1 hi).1;have hpw:=List.pairwise_iff_getElem.1 h.ord;have uniq:∀i' x',ls[i']?=some x'->x'.af=a.1->i'=i:=by
   intro i' x' hi' e';have abv:=(List.getElem?_eq_some_iff.1 hi').1;have g1:=(List.getElem?_eq_some_iff.1 hi).2;have g2:=(List.getElem?_eq_some_iff.1 hi').2;rcases Nat.lt_trichotomy i' i with c | c | c
   ·have:=hpw i' i abv hil c;rw[g1,g2,e,e']at this;exact absurd this (pG _ _)
   ·exact c
   ·have:=hpw i i' hil abv c;rw[g1,g2,e,e']at this;exact absurd this (pG _ _)
  cases j with
  | zero =>
    have:pM (ls.take 0)=none:=by simp[pM]
    rw[this];exact⟨fun _=>⟨i,x,by omega,hi,e⟩,fun _=>rfl⟩
  | succ j =>
    have hjl:j<ls.length:=by omega
    have hlp:pM (ls.take (j+1))=some ls[j].af:=by
     unfold pM;rw[F6 hjl,List.getElem?_eq_getElem hjl]
     rfl
    rw[hlp,Ya];have g1:=(List.getElem?_eq_some_iff.1 hi).2;constructor
    ·intro hb;refine⟨i,x,?_,hi,e⟩;rcases Nat.lt_or_ge j i with c | c
     ·omega
     ·exfalso;rcases Nat.lt_or_ge i j with c2 | c2
      ·have:=hpw i j hil hjl c2;rw[g1,e]at this;exact Si hb this
      ·obtain rfl:i=j:=by omega
       rw[g1,e]at hb;exact pG _ _ hb
    ·rintro⟨i',x',h1,h2,h3⟩;have e4:=uniq i' x' h2 h3;subst e4;have:=hpw j i' hjl hil (by omega);rw[g1,e]at this;exact this
 have hAX:∀a,a∈A↔a∈X:=fun a=>hA.mem_iff
 constructor
 ·intro hjl;rcases hsp with⟨_,e⟩ | ⟨hne,⟨a0,ha0,e0⟩,_⟩
  ·rw[e]
  ·exfalso;rw[List.mem_filter]at ha0;obtain⟨i,x,h1,h2,_⟩:=(hlook a0 ((hAX a0).2 ha0.1)).1 ha0.2;have:=(List.getElem?_eq_some_iff.1 h2).1;omega
 ·intro x hx;have hxl:=(List.getElem?_eq_some_iff.1 hx).1;have hxm:=List.mem_of_getElem? hx;obtain⟨v1,v2,v3⟩:=h.val x hxm;obtain⟨a1,ha1,e1⟩:=SH (by rw[<-v2];exact v3);have hin:a1∈X.filter (fun a=>zk (s:Int) (pM (ls.take j)) a.1):=by
   rw[List.mem_filter];exact⟨(hAX a1).1 ha1,(hlook a1 ha1).2 ⟨j,x,Nat.le_refl _,hx,e1.symm⟩⟩
  rcases hsp with⟨e,_⟩ | ⟨hne,⟨a0,ha0,e0⟩,hb3,hb4,hb5,hb6⟩
  ·rw[e]at hin;simp at hin
  ·generalize qf l sym (s:Int) (ls.take j)=b at *;rw[List.mem_filter]at ha0;obtain⟨i,y,h1,h2,h3⟩:=(hlook a0 ((hAX a0).2 ha0.1)).1 ha0.2;have hpw:=List.pairwise_iff_getElem.1 h.ord;have hil:=(List.getElem?_eq_some_iff.1 h2).1;have ei:i=j:=by
    rcases Nat.lt_or_ge j i with c | c
    ·exfalso;have:=hpw j i hxl hil c;rw[(List.getElem?_eq_some_iff.1 hx).2,(List.getElem?_eq_some_iff.1 h2).2,h3,e0]at this;have h4:=hb3 a1 hin;rw[e1]at h4;exact h4 this
    ·omega
   subst ei;rw[hx]at h2;have exy:=Option.some.inj h2;subst exy;have ep:b.af=x.af:=by rw[h3,e0]
   have hf:qs b.af (X.filter (fun a=>zk (s:Int) (pM (ls.take i)) a.1))=qs b.af X/\cn b.af (X.filter (fun a=>zk (s:Int) (pM (ls.take i)) a.1))=cn b.af X:=by
    unfold qs cn;have:(X.filter (fun a=>zk (s:Int) (pM (ls.take i)) a.1)).filter (fun x=>decide (x.1=b.af))=X.filter (fun x=>decide (x.1=b.af)):=by
     rw[List.filter_filter];refine List.filter_congr (fun a ha=>?_);by_cases ea:a.1=b.af
     ·rw[(hlook a ((hAX a).2 ha)).2 ⟨i,x,Nat.le_refl _,hx,by rw[ea,ep]⟩];simp
     ·simp[ea]
    rw[this];exact⟨rfl,rfl⟩
   obtain⟨pq,pc⟩:=XV b.af hA;refine⟨?_,by omega⟩;obtain⟨bp,bq,bn⟩:=b;obtain⟨xp,xq,xn⟩:=x;simp only at *;subst ep;rw[hb4,hf.1,<-pq,<-v1,hb5,hf.2,<-pc,<-v2]
theorem PQ(s:Nat)(hs:s<2)(l:List Ord)(sym:ByteArray)(A:List (Int × Int))(ls:List kQ)(hlen:l.length<=1000)(hop:∀k,k<l.length->0<=(ax l k).aO/\(ax l k).aO<=1000000000000000)(hA:A.Perm (((idx l sym s).map (ax l)).map po))(h:LvS (s:Int) A ls):oI l sym (s:Int) ls.length [] ls:=by
 have gen:∀k j,j+k=ls.length->oI l sym (s:Int) k (ls.take j) ls:=by
  intro k
  induction k with
  | zero =>
    intro j hj;have hn:=(ER s hs l sym A ls hlen hop hA h j (by omega)).1 (by omega);have e:ls.take j=ls:=List.take_of_length_le (by omega);have:=oI.stop (l:=l) (sym:=sym) (s:=(s:Int)) 0 (ls.take j) hn;rw[e]at this ⊢;exact this
  | succ k ih =>
    intro j hj;obtain⟨x,hx⟩:∃x,ls[j]?=some x:=⟨_,List.getElem?_eq_getElem (by omega)⟩;obtain⟨e1,e2⟩:=(ER s hs l sym A ls hlen hop hA h j (by omega)).2 x hx;refine oI.go k _ _ (by rw[e1];exact e2) ?_;rw[e1];have:=ih (j+1) (by omega);rw[List.take_add_one,hx]at this;exact this
 have:=gen ls.length 0 (by omega);rw[List.take_zero]at this;exact this
theorem pI(o:iT)(taken gI full iE whole:Bool) :
 (dX o.id=false/\jG o taken gI full iE whole=1)\/(dX o.id=true/\taken=true/\jG o taken gI full iE whole=2)\/(dX o.id=true/\taken=false/\(
 (oW o.aG=false/\jG o taken gI full iE whole=4)\/(oW o.aG=true/\ni o.side=false/\jG o taken gI full iE whole=4)\/(oW o.aG=true/\ni o.side=true/\(
 (pK o.kind=false/\jG o taken gI full iE whole=5)\/(pK o.kind=true/\(
 (dX o.aK=false/\jG o taken gI full iE whole=4)\/(dX o.aK=true/\iV o.kind o.af=false/\jG o taken gI full iE whole=4)\/(dX o.aK=true/\iV o.kind o.af=true/\(
 (gI=false/\jG o taken gI full iE whole=6)\/(gI=true/\full=true/\jG o taken gI full iE whole=7)\/(gI=true/\full=false/\jG o taken gI full iE whole=if o.kind=4/\iE=true then 8 else if o.kind=3/\whole=true then 9 else 0))))))))):=by
 unfold jG;cases dX o.id <;> cases taken <;> cases oW o.aG <;> cases ni o.side <;> cases pK o.kind <;> cases dX o.aK <;> cases iV o.kind o.af <;> cases gI <;> cases full <;> simp
theorem Ef(bv bm bo:Nat)(V:aS)(o:iT)(w:World)(R:dS w bv bm bo V)(hlen:o.sym.size<=maxLen)(hid:(Lit.int .i64 o.id).wf=true)(iE whole gI:Bool)(hth:(gI=true/\∃i,i<V.nb/\(V.B i).sym=o.sym)\/(gI=false/\∀i,i<V.nb->(V.B i).sym≠o.sym))
 (hE:gI=false\/200<=V.no\/jG o (V.aW o.id).isSome gI (decide (200<=V.no)) iE whole≠if o.kind=4/\iE=true then 8 else if o.kind=3/\whole=true then 9 else 0) :
 CT 111 #[PP bv,o.val] w fun e w'=>e=.returned (II (jG o (V.aW o.id).isSome gI (decide (200<=V.no)) iE whole))/\aj aJ w w':=by
 obtain⟨fB,mB,qh,uM⟩:=R.iM;obtain⟨fO,mO,vK⟩:=R.fH;have hc:=pI o (V.aW o.id).isSome gI (decide (200<=V.no)) iE whole;obtain⟨E,hEE⟩:=mf (jG o (V.aW o.id).isSome gI (decide (200<=V.no)) iE whole);rw[hEE]at hc hE ⊢;obtain⟨oB,hoB,hB1⟩:∃oB,fB (sl o.sym)=oB/\((gI=true/\∃b,oB=some b)\/(gI=false/\oB=none)):=by
  refine⟨_,rfl,?_⟩;rcases hth with⟨ht,i,hi,hs⟩ | ⟨ht,hn⟩
  ·left;exact⟨ht,V.bk i,by rw[<-hs];exact qh i hi⟩
  ·right;refine⟨ht,?_⟩;cases hx:fB (sl o.sym) with
   | none=>rfl
   | some b=>obtain⟨i,hi,_,e⟩:=uM _ _ hx;exact absurd e (hn i hi)
 obtain⟨oO,hoO⟩:=mf (V.aW o.id);have hlo:fO (.int .i64 o.id)=oO:=by rw[vK,hoO]
 rw[hoO]at hc;obtain⟨id,aG,sym,side,kind,af,aK⟩:=o;simp only at hlen hid hoB hlo hc hE;simp only[iT.val];obtain⟨w1,hw1⟩:=kL (w.alloc (.cells #[II id,II aG,.string sym,II side,II kind,II af,II aK] 52));have k1:aj aJ w w1:=by rw[hw1];exact (aj.refl aJ w).alloc _
 have hbx:aA w1 w.heap.size #[II id,II aG,.string sym,II side,II kind,II af,II aK] 52:=by rw[hw1];exact aA.new w _ _
 have L1:∀q,(Instr.lookup 94 (.map (some bm)) (.string sym) false).run Tryz.prog (w1.drewN q)=.ok (ji oB) (w1.drewN q):=fun q=>by
  rw[(mB.aC (k1.drewN q) aU).look zV Tryz.underlying94 (qA _) (WideMaps.keyOf_string_mk Tryz.underlying9 hlen)];show _=Result.ok (ji oB) _;rw[<-hoB];rfl
 have L2:∀q,(Instr.lookup 95 (.map (some bo)) (II id) false).run Tryz.prog (w1.drewN q)=.ok (ji oO) (w1.drewN q):=fun q=>by
  rw[(mO.aC (k1.drewN q) aU).look zU Tryz.underlying95 (wU _) (keyOf_int_mk Tryz.underlying3 hid)];show _=Result.ok (ji oO) _;rw[<-hlo]
 have L3:∀q,(Builtin.len_ #[95] 3 #[.map (some bo)]).run Tryz.prog (w1.drewN q)=.ok (II V.no) (w1.drewN q):=fun q=>(mO.aC (k1.drewN q) aU).len Tryz.underlying95 _
 have v0:CC w1 bv 0 (.map (some bm)):=(k1.aF R.dC aU).cell 0;have v1:CC w1 bv 1 (.map (some bo)):=(k1.aF R.dC aU).cell 1;obtain⟨x0,x1,x2,x3,x4,x5,x6⟩:=hbx.c7;obtain⟨HW,HK⟩:=dE hw1 k1;obtain⟨N,hN⟩:=mf V.no;rw[hN]at hc hE L3;clear hw1 k1 hbx hoB hlo qh uM vK mB mO hid hEE hoO hth R hN;rcases hc with⟨h1,rfl⟩ | ⟨h1,h2,rfl⟩ | ⟨h1,h2,hc⟩
 ·clear hE hB1 L2 L3;go_enter Tryz.func111,Tryz.ntmps111;go_wp2;rw[<-ae HW];go_quiet (fail);go_wp2_with (first | (go_at_call 68;refine (dh _ _).mono ?_;rintro e w' ⟨rfl,rfl⟩));go_ret;exact⟨rfl,(ae HK).drewN _⟩
 ·obtain⟨b,rfl⟩:∃b,oO=some b:=by cases oO <;> simp at h2 ⊢
  simp only[ji]at L2;clear hE hB1 L3;go_enter Tryz.func111,Tryz.ntmps111;go_wp2;rw[<-ae HW];go_quiet (fail);go_wp2_with (first | (go_at_call 68;refine (dh _ _).mono ?_;rintro e w' ⟨rfl,rfl⟩));go_quiet (fail);go_wp2;go_ret;exact⟨rfl,((ae HK).drewN _).drewN _⟩
 ·obtain rfl:oO=none:=by cases oO <;> simp at h2 ⊢
  simp only[ji]at L2;rcases hc with⟨h3,rfl⟩ | ⟨h3,h4,rfl⟩ | ⟨h3,h4,⟨h5,rfl⟩ | ⟨h5,⟨h6,rfl⟩ | ⟨h6,h7,rfl⟩ | ⟨h6,h7,⟨h8,rfl⟩ | ⟨h8,h9,rfl⟩ | ⟨h8,h9,rfl⟩⟩⟩⟩
  case inr.inr.inr.inr.inr.inr.inr.inr.inl =>
   obtain⟨b,rfl⟩:∃b,oB=some b:=by
    rcases hB1 with⟨_,hx⟩ | ⟨hx,_⟩
    ·exact hx
    ·rw[h8]at hx;exact absurd hx (by decide)
   have e8:decide ((200:Int)<=(N:Int))=true:=by simp at h9 ⊢;omega
   simp only[ji]at L1;clear hE hB1 h9 h8;go_enter Tryz.func111,Tryz.ntmps111;go_wp2;rw[<-ae HW];go_quiet (fail);go_wp2_with (first | (go_at_call 68;refine (dh _ _).mono ?_;rintro e w' ⟨rfl,rfl⟩) | (go_at_call 144;refine (eP _ _).mono ?_;rintro e w' ⟨rfl,rfl⟩) | (go_at_call 47;refine (fA _ _).mono ?_;rintro e w' ⟨rfl,rfl⟩) | (go_at_call 145;refine (fV _ _).mono ?_;rintro e w' ⟨rfl,rfl⟩) | (go_at_call 146;refine (dP _ _ _).mono ?_;rintro e w' ⟨rfl,rfl⟩));go_quiet (fail);go_wp2_with (first | (go_at_call 68;refine (dh _ _).mono ?_;rintro e w' ⟨rfl,rfl⟩) | (go_at_call 144;refine (eP _ _).mono ?_;rintro e w' ⟨rfl,rfl⟩) | (go_at_call 47;refine (fA _ _).mono ?_;rintro e w' ⟨rfl,rfl⟩) | (go_at_call 145;refine (fV _ _).mono ?_;rintro e w' ⟨rfl,rfl⟩) | (go_at_call 146;refine (dP _ _ _).mono ?_;rintro e w' ⟨rfl,rfl⟩));go_ret;exact⟨rfl,(ae HK).drewN _⟩
  case inr.inr.inr.inr.inr.inr.inr.inr.inr =>
   exfalso;rcases hE with hx | hx | hx
   ·rw[h8]at hx;exact absurd hx (by decide)
   ·simp at h9;omega
   ·exact hx rfl
  case inr.inr.inr.inr.inr.inr.inr.inl =>
   obtain rfl:oB=none:=by
    rcases hB1 with⟨hx,_⟩ | ⟨_,hx⟩
    ·rw[h8]at hx;exact absurd hx (by decide)
    ·exact hx
   simp only[ji]at L1;clear hE hB1 h8;go_enter Tryz.func111,Tryz.ntmps111;go_wp2;rw[<-ae HW];go_quiet (fail);go_wp2_with (first | (go_at_call 68;refine (dh _ _).mono ?_;rintro e w' ⟨rfl,rfl⟩) | (go_at_call 144;refine (eP _ _).mono ?_;rintro e w' ⟨rfl,rfl⟩) | (go_at_call 47;refine (fA _ _).mono ?_;rintro e w' ⟨rfl,rfl⟩) | (go_at_call 145;refine (fV _ _).mono ?_;rintro e w' ⟨rfl,rfl⟩) | (go_at_call 146;refine (dP _ _ _).mono ?_;rintro e w' ⟨rfl,rfl⟩));go_quiet (fail);go_wp2_with (first | (go_at_call 68;refine (dh _ _).mono ?_;rintro e w' ⟨rfl,rfl⟩) | (go_at_call 144;refine (eP _ _).mono ?_;rintro e w' ⟨rfl,rfl⟩) | (go_at_call 47;refine (fA _ _).mono ?_;rintro e w' ⟨rfl,rfl⟩) | (go_at_call 145;refine (fV _ _).mono ?_;rintro e w' ⟨rfl,rfl⟩) | (go_at_call 146;refine (dP _ _ _).mono ?_;rintro e w' ⟨rfl,rfl⟩));go_ret;exact⟨rfl,(ae HK).drewN _⟩
  all_goals
   clear hE hB1;go_enter Tryz.func111,Tryz.ntmps111;go_wp2;rw[<-ae HW];go_quiet (fail);go_wp2_with (first | (go_at_call 68;refine (dh _ _).mono ?_;rintro e w' ⟨rfl,rfl⟩) | (go_at_call 144;refine (eP _ _).mono ?_;rintro e w' ⟨rfl,rfl⟩) | (go_at_call 47;refine (fA _ _).mono ?_;rintro e w' ⟨rfl,rfl⟩) | (go_at_call 145;refine (fV _ _).mono ?_;rintro e w' ⟨rfl,rfl⟩) | (go_at_call 146;refine (dP _ _ _).mono ?_;rintro e w' ⟨rfl,rfl⟩));go_quiet (fail);go_wp2_with (first | (go_at_call 68;refine (dh _ _).mono ?_;rintro e w' ⟨rfl,rfl⟩) | (go_at_call 144;refine (eP _ _).mono ?_;rintro e w' ⟨rfl,rfl⟩) | (go_at_call 47;refine (fA _ _).mono ?_;rintro e w' ⟨rfl,rfl⟩) | (go_at_call 145;refine (fV _ _).mono ?_;rintro e w' ⟨rfl,rfl⟩) | (go_at_call 146;refine (dP _ _ _).mono ?_;rintro e w' ⟨rfl,rfl⟩));go_ret;exact⟨rfl,(ae HK).drewN _⟩
end Go.Proofs.YtigaphnafnpfnaaGreatDoor
