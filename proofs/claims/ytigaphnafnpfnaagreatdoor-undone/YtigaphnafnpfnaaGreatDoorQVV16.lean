import Derived.Test.YtigaphnafnpfnaaGreatDoorQVV27
set_option linter.unusedVariables false
set_option linter.unusedSimpArgs false
set_option maxHeartbeats 8000000
set_option maxRecDepth 100000
namespace Go.Proofs.YtigaphnafnpfnaaGreatDoor
open Go.RowKit Go.Maps
attribute [local go_sem ↓] Go.wp_at_zero Go.wp_at_succ
def OA(bv bm bo:Nat)(V:aQ)(M:Int)(bk:Nat->Nat)(w w':World):Prop :=
 ∃V2,dN w' bv bm bo V2/\ClV V M V2/\au (dI bv bm bo V) w w'/\(∀x,dI bv bm bo V2 x->dI bv bm bo V x\/w.heap.size<=x)/\(∀j y,(V2.B j).sl y=(V.B j).sl y)/\(∀j,V2.bk j=V.bk j) /\
  ∃ex:List Nat,ex.Nodup/\(∀id x,V.aU id=some x->(x∈ex↔((V.om x).kind=1/\0<(V.om x).aK)))/\(∀x∈ex,VL V x)/\V2.lg.nt=ex.flatMap (fun x=>[.left x,.fA x (V.om x)])++[.closed] /\
   ∃cl,gI w' bv bk w.heap.size true (V.lm.ac.map Prod.snd) V2.lg.nt V.lm.tb V2.lm cl
theorem TC(bv bm bo n:Nat)(V:aQ)(M:Int)(w:World)(bk:Nat->Nat)(hbk:∀i,i<V.nb->∀y,y<2->∀l,l<(V.B i).n y->bk ((V.B i).h y l)=V.bk i)(hbs:∀i x,i<V.nb->VL V x->(V.om x).sym=(V.B i).sym->bk x=V.bk i)(R:dN w bv bm bo V)(g:GW V M)(hno:V.no=n)(hsz:∀i,i<V.nb->(V.B i).sym.size<=100)(hM:M<=1000000000000000)(hn:n<=200)(k1:V.lg.tp.length<1000000000)(k4:V.lg.ud+V.lg.na<3000000) :
 Calls Tryz.prog 41 #[.pointer (some ⟨bv,0,none⟩)] w fun e w'=>e=.returned (.tuple #[])/\OA bv bm bo V M bk w w':=by
 have kx:au aP w (w.alloc (.cells #[.pointer (some ⟨bv,0,none⟩)] 35)):=(au.refl aP w).alloc _
 have mg:=ai (KH bv bm bo V.lg V.lm ⟨#[99,108,111,115,101]⟩ _ (R.aO.aH kx) (by omega) (by decide) (by decide))
 have TP:=az.new w #[.pointer (some ⟨bv,0,none⟩)] 35
 have HR:=ai R
 have lv:=R.dA.lt
 have Ac:∀x,w.heap.size<=x->¬(x=bv\/V.lm.F x):=by
  rintro x hx (e|e)
  ·omega
  ·have:=R.aO.aO.lt e;omega
 have pY:=ai Ac
 have HKx:=ai kx
 have Yy:=ai TP
 have HG:=ai g
 have Ti:=ai hsz
 have HBS:=ai hbs
 have oH:∀j,j<V.nb->∀y,y<2->∀a,gG ((V.B j).sl y)=some a->a<w.heap.size:=fun j hj y hy a ha=>((R.aW j hj).side y hy).lt ha
 have aaK:=ai oH
 clear R Ac kx TP g hsz oH hbs hbk
 go_enter Tryz.func41,Tryz.ntmps41
 go_wp2_with fail
 refine (ae mg).mono ?_
 rintro e wb ⟨rfl,kT,hLb,qO,kb',tH,hac⟩
 have kb:au (fun b=>b=bv\/V.lm.F b) (w.alloc (.cells #[.pointer (some ⟨bv,0,none⟩)] 35)) wb:=kb'.mono (fun b h=>h.imp_right (fun h=>h.elim (fun h=>.inr (.inr (.inr (.inl h)))) (fun h=>.inr (.inl (.inr h)))))
 have HCB:Hid (gI wb bv bk w.heap.size true (V.lm.ac.map Prod.snd) V.lg.begun.nt V.lm.tb kT []):=gI.begun tH hac
 clear kb' tH hac
 have Rb:=((ae HR).aH (ae HKx)).jH hLb kb
 have Mc:=kb.aB (ae Yy) (ae pY _ (Nat.le_refl _))
 have xb:wb.cell? ⟨w.heap.size,0,none⟩=some (.pointer (some ⟨bv,0,none⟩)):=Mc.cell 0
 have v1:wb.cell? ⟨bv,1,none⟩=some (.map (some bo)):=Rb.dA.cell 1
 have Jw:au (fun x=>x=bv\/V.lm.F x) w wb:=(ae HKx).bI.trans kb
 obtain⟨fO,⟨D,hown,hsz,hat,hhas⟩,hfO⟩:=Rb.fD
 have hown':wb.ownsMap Tryz.prog 3 je bo n D:=by rw[<-hno];exact hown
 have hsz':Maps.size D=n:=hsz.trans hno
 have HRb:=ai Rb
 have Ya:=ai Mc
 have LU:=ai Jw
 have U8:Hid (∀x,kT.F x->V.lm.F x\/w.heap.size<=x):=fun x h=>(qO x h).imp_right (fun h=>by have:=(ae HKx).size;omega)
 have YJ:=ai hown'
 have HAt:=ai hat
 have SV:=ai hhas
 have HFO:=ai hfO
 have Ye:=ai hsz'
 have lwb:=Mc.lt
 clear mg hLb qO kb Rb Mc Jw hown hown' hat hhas hfO hsz hsz'
 go_wp2_with (at_range;refine wpList_range_own _ rfl _ 95 rfl 3 114 yu Tryz.underlying95 je bo n D rfl (ae YJ) ?_;intro w0 hrg0 hg0 hs0;have HRg:=ai hrg0;have HG0:=ai hg0;clear hrg0 hg0)
 have k0:au aP wb w0:=(au.refl aP wb).grown (ae HG0) (fun k e=>by simp at e)
 have hI:Oz bv bm bo n M V wb.heap.size D fO bk w w0 n { V with lg:=V.lg.begun,lm:=kT } (Maps.has D) none []:=by
  refine⟨rfl,List.nodup_nil,fun id x hx=>?_,fun _ _=>rfl,fun _=>rfl,⟨[],(ae HCB).aH k0⟩,fun x hx=>by simp at hx,(ae HRb).aH k0,(ae HG).QS _ _,rfl,rfl,rfl,fun _=>rfl,fun _=>rfl,fun _=>⟨rfl,rfl,rfl,rfl⟩,fun id x hx=>?_,⟨rfl,rfl,rfl,rfl,Nat.le_add_right _ _,rfl⟩,?_,fun kl h=>?_,fun y hy=>?_,Nat.le_refl _,k0.aB (ae Ya) (fun x=>x),((ae LU).mono (fun y h=>?_)).trans k0.bI,by omega⟩
  ·have hh:Maps.has D (.int .i64 id)=true:=by
    rw[ae SV (.int .i64 id),(ae HFO) id]
    show (V.aU id).isSome=true
    rw[hx];rfl
   simp[hh]
  ·have hh:Maps.has D (.int .i64 id)=true:=by
    rw[ae SV (.int .i64 id),(ae HFO) id]
    show (V.aU id).isSome=true
    rw[hx];rfl
   rw[if_pos (.inl hh)]
  ·have:=ae HRg
   rw[ae Ye]at this
   exact this
  ·rw[<-ae SV kl];exact h
  ·rcases hy with h|h|h|h|h|h
   ·exact .inl (.inl h)
   ·exact .inl (.inr (.inl h))
   ·exact .inl (.inr (.inr (.inl h)))
   ·exact .inl (.inr (.inr (.inr (.inl h))))
   ·exact .inl (.inr (.inr (.inr (.inr (.inl h)))))
   ·exact (ae U8 y h).imp_left (fun h=>.inr (.inr (.inr (.inr (.inr h)))))
  ·rcases h with h|h
   ·exact .inl h
   ·exact .inr (.inr (.inr (.inr (.inr h))))
 have HI:=ai hI
 obtain⟨r,hr⟩:∃r,wb.heap.size=r:=⟨_,rfl⟩
 rw[hr]at HI ⊢
 clear hI k0 HCB HRg HG0 HRb Ya LU U8 YJ SV Ye v1 xb lwb hr hs0 HKx Yy
 go_frame
 go_loopg [3] n (fun kk _ wr=>∃(cnt:Nat) (V':aQ) (left:Lit->Bool) (ex:List Nat),kk=cnt/\Oz bv bm bo n M V r D fO bk w wr cnt V' left none ex)
 case atStart=>exact⟨_,_,_,_,rfl,ae HI⟩
 case round =>
  obtain⟨cnt,V',left,exs,hkk,cl⟩:=hrel
  have xb:wr.cell? ⟨w.heap.size,0,none⟩=some (.pointer (some ⟨bv,0,none⟩)):=cl.box.cell 0
  have v4:wr.cell? ⟨bv,4,none⟩=some (.int .i64 V.lg.day):=by
   have:=cl.jE.dA.cell 4
   rw[cl.lg.2.2.1]at this
   exact this
  have f4:=cl.jE.dA.frozen 4
  have IM:=ai cl
  have YM:=ai cl.SH
  have V4:=ai cl.le
  clear cl
  go_wp2_with (at_next;refine yG rfl _ rfl bo r n D left cnt fO rfl (ae YM) (ae HAt) (ae V4) ?_ ?_)
  ·intro hc0
   have cl:=ae IM
   have hTl:∀W,au aP wr W->Calls Tryz.prog 73 #[.pointer (some ⟨bv,0,none⟩),.int .i64 4,(wX V.lg.day).val] W fun e w'=>e=.returned (.tuple #[])/\∃m',bu w' bv bm bo (V'.lg.told 4 (wX V.lg.day)) m'/\(∀b,m'.F b->V'.lm.F b\/wr.heap.size<=b)/\au (fun b=>b=bv\/V'.lm.F b) wr w'/\w'.cell? ⟨w.heap.size,0,none⟩=some (.pointer (some ⟨bv,0,none⟩))/\az w' w.heap.size #[.pointer (some ⟨bv,0,none⟩)] 35/\∃Vq,gI w' bv bk w.heap.size true (V.lm.ac.map Prod.snd) V'.lg.nt V.lm.tb m' Vq:=by
    intro W kW
    refine (xC bv bm bo V'.lg V'.lm 4 (wX V.lg.day) W (cl.jE.aO.aH kW) (by rw[cl.lg.2.1];show V.lg.tp.length<1000000000;omega)).mono ?_
    rintro e w' ⟨rfl,m',a1,a2,a3,a4,a5⟩
    have hbx:az w' w.heap.size #[.pointer (some ⟨bv,0,none⟩)] 35:=a3.aB (kW.aB cl.box (fun x=>x)) (by
     rintro (e|e)
     ·exact az.ne cl.box cl.jE.dA (by decide) e
     ·exact bV cl.jE.aO.aO.iF e cl.box (by decide) rfl)
    obtain⟨cl0,hcl0⟩:=cl.cu
    have hc1:gI w' bv bk w.heap.size true (V.lm.ac.map Prod.snd) V'.lg.nt V.lm.tb m' cl0:=by
     have h:=((hcl0.aH kW).aC a3 (l9.fZ (fun y hy=>by
      rcases hy with e|e
      ·rw[e];exact⟨_,100,(cl.jE.aH kW).dA,sO⟩
      ·obtain⟨cs,hcs⟩:=bF (cl.jE.aH kW).aO.aO.iF e
       exact⟨cs,62,hcs,zX⟩))).QR (m':=m') a4 (fun _ _ _=>a5.2)
     rw[a5.1,hcl0.tb]at h
     exact h
    refine⟨rfl,m',a1,fun b hb=>(a2 b hb).imp_right (fun h=>Nat.le_trans kW.size h),kW.bI.trans (a3.mono (fun b h=>h.imp_right (fun h=>.inr (.inl (.inl h))))),hbx.cell 0,hbx,cl0,hc1⟩
   have hdl:V'.lg.day=V.lg.day:=cl.lg.2.2.1
   have hna':V'.lg.na=V.lg.na+1:=cl.lg.2.2.2.1
   have ZN:=cl.lg.2.2.2.2
   have hcn:=cl.cn
   have ZM:V.lg.begun.nt.length=0:=rfl
   simp only[Tr.val,wX]at hTl
   have HTl:=ai hTl
   clear hTl cl
   go_wp2
   go_region_held3 (fun w'=>w'.cell? ⟨w.heap.size,0,none⟩=some (.pointer (some ⟨bv,0,none⟩))/\w'.cell? ⟨bv,4,none⟩=some (.int .i64 V.lg.day)) (go_keep)
    (first|(go_at_call 73;refine (ae HTl _ ?cc).mono ?_;(case cc=>repeat (first|exact au.refl _ _|refine au.drew ?_));rintro e wt ⟨rfl,lmt,t1,t2,t3,y1,tbx,clt,tcu⟩;have TBX:=ai tbx;have TCU:=ai tcu;clear tbx tcu;have y2:wt.cell? ⟨bv,4,none⟩=some (.int .i64 V.lg.day):=(t1.dA.cell 4).trans (by rw[<-hdl];rfl);have ft:=t1.dA.frozen 4;have T1:=ai t1;have T2:=ai t2;have T3:=ai t3;clear t1 t2 t3))
   rename_i PK
   clear PK
   have hD:=(ae T1).QV (wrap64 (V.lg.day+1))
   have HD:=ai hD
   have cuD:=(ae TCU).aC hD.2 (l9.fZ (fun y hy=>by rw[hy];exact⟨_,100,(ae T1).dA,sO⟩))
   have iD:bJ (wt.setCell ⟨bv,4,none⟩ (.int .i64 (wrap64 (V.lg.day+1)))) bv bk w.heap.size .closed (.func (.func 79) #[] #[.pointer (some ⟨w.heap.size,0,none⟩)]):=⟨_,_,rfl,rfl,w.heap.size,Nat.le_refl _,rfl,hD.2.aB (ae TBX) (fun e=>az.ne (ae TBX) (ae T1).dA (by decide) e)⟩
   have hNt:=lV bv bm bo _ lmt .closed (.func 79) #[.pointer (some ⟨w.heap.size,0,none⟩)] _ bk w.heap.size true _ _ _ hD.1 cuD (fun _=>rfl) iD (by show 0<V'.lg.na;omega) (by show V'.lg.na<=3000000;omega) (by show V'.lg.nt.length+1<1000000000;omega)
   have es:(wt.setCell ⟨bv,4,none⟩ (.int .i64 (wrap64 (V.lg.day+1)))).heap.size=wt.heap.size:=by simp[World.setCell]
   rw[es]at hNt
   have qF:=ai hNt
   clear hNt es cuD iD
   clear hD
   go_wp2_with fail
   refine (ae qF).mono ?_
   rintro e w5 ⟨rfl,tJ,h1,h2,h3,-,h6⟩
   have H6:=ai h6
   clear h6
   have H1:=ai h1
   have H2:=ai h2
   have H3:=ai h3
   clear h1 h2 h3
   go_wp2
   go_end0
   have cl:=ae IM
   have szt:=(ae T3).size
   have hFt:∀y,lmt.F y->V'.lm.F y\/wr.heap.size<=y:=ae T2
   have kD:au (fun y=>y=bv\/V'.lm.F y) wr (wt.setCell ⟨bv,4,none⟩ (.int .i64 (wrap64 (V.lg.day+1)))):=(ae T3).trans ((ae HD).2.mono (fun y e=>.inl e))
   have k5:au (fun y=>y=bv\/V'.lm.F y) wr w5:=kD.from ((ae H3).mono (fun y h=>(hFt y (.inr (.inr (.inr h)))).imp_left .inr))
   have MP:∀y,tJ.F y->V'.lm.F y\/wr.heap.size<=y:=fun y h=>by
    rcases ae H2 y h with h|h
    ·exact hFt y h
    ·exact .inr (by omega)
   have R5:=cl.jE.jH (ae H1) k5
   have PU:∀y,dI bv bm bo V' y->dI bv bm bo V y\/w.heap.size<=y:=cl.mD
   have htr:V'.lg.tr=V.lg.tr:=cl.lg.1
   have htp:V'.lg.tp=V.lg.tp:=cl.lg.2.1
   have szw:=cl.oJ.size
   have hall:∀kl,left kl=false:=by
    rcases (ae YM).next yu 0 with⟨_,ha,_⟩|⟨_,_,_,_,_,_,_,_,_,_,_,_,hlt,_⟩
    ·exact ha
    ·omega
   refine⟨rfl,_,R5,⟨cl.gw.QS _ _,cl.aU,cl.no,cl.nb,cl.kE,cl.OY,cl.dH,fun id x hx=>?_,htr,?_,rfl,hna',cl.lg.2.2.2.2.2⟩,cl.oJ.from (k5.mono (fun y h=>?_)),fun y hy=>?_,cl.sl,cl.Vl,exs,cl.exn,fun id x hx=>?_,cl.exo,?_,_,ae H6⟩
   ·show V'.om x=_
    rw[cl.om id x hx,hall]
    simp
   ·show V'.lg.tp++[⟨(V'.lg.tp.length:Int)+1,4,wX V.lg.day⟩]=_
    rw[htp]
   ·rcases h with h|h
    ·exact .inl (.inl h)
    ·exact PU y (.inr (.inr (.inr (.inr (.inr h)))))
   ·have key:dI bv bm bo V' y\/wr.heap.size<=y:=by
     rcases hy with h|h|h|h|h|h
     ·exact .inl (.inl h)
     ·exact .inl (.inr (.inl h))
     ·exact .inl (.inr (.inr (.inl h)))
     ·exact .inl (.inr (.inr (.inr (.inl h))))
     ·exact .inl (.inr (.inr (.inr (.inr (.inl h)))))
     ·exact (MP y h).imp_left (fun h=>.inr (.inr (.inr (.inr (.inr h)))))
    rcases key with h|h
    ·exact PU y h
    ·exact .inr (by omega)
   ·rw[cl.Yg id x hx,hall]
    simp
   ·show V'.lg.nt++[.closed]=_
    rw[cl.nt]
  ·intro id x W cnt' hlk hfx abz hlt hgr hsz hen
   have cl:=(ae IM).step hlk abz hlt hgr
   have ho0:V.aU id=some x:=by rw[<-hfx];exact ((ae HFO) id).symm
   have omx:V'.om x=V.om x:=by rw[cl.om id x ho0,if_pos (.inr rfl)]
   have HO0:=ai ho0
   have HOM:=ai omx
   clear ho0 omx hlk
   have ho':V'.aU id=some x:=by rw[cl.aU,<-hfx];exact ((ae HFO) id).symm
   obtain⟨_,ix,ho⟩:=cl.jE.bg id x ho'
   have o4:W.cell? ⟨x,4,none⟩=some (.int .i64 (V'.om x).kind):=ho.cell 4
   have o8:W.cell? ⟨x,8,none⟩=some (.int .i64 (V'.om x).aK):=ho.cell 8
   by_cases hc:(V'.om x).kind=1/\0<(V'.om x).aK
   ·obtain⟨hk1,hop⟩:=hc
    have e1:((V'.om x).kind == 1)=true:=by simp[hk1]
    have e2:decide (0<(V'.om x).aK)=true:=by simp[hop]
    obtain⟨i,s,hi,hs,hsy,hsd⟩:=cl.gw.idx ⟨id,ho'⟩
    obtain⟨k,hk,hkb'⟩:=((cl.gw.gb i hi).mem s hs x).2 ⟨⟨id,ho'⟩,hsy,hsd,hop⟩
    have hkb:(V'.B i).h s k=x:=hkb'.symm
    have hi':i<V'.nb:=hi
    have hlen:(V'.B i).sym.size<=maxLen:=by rw[cl.kE i];have:=ae Ti i (by rw[<-cl.nb];exact hi);unfold maxLen;omega
    have o2:W.cell? ⟨x,2,none⟩=some (.string (V'.B i).sym):=by rw[<-hsy];exact ho.cell 2
    have v0:W.cell? ⟨bv,0,none⟩=some (.map (some bm)):=cl.jE.dA.cell 0
    have xbW:W.cell? ⟨w.heap.size,0,none⟩=some (.pointer (some ⟨bv,0,none⟩)):=cl.box.cell 0
    have L1:(Instr.lookup 94 (.map (some bm)) (.string (V'.B i).sym) false).run Tryz.prog W=.ok (.pointer (some ⟨V'.bk i,0,none⟩)) W:=cl.jE.zM hi' hlen
    have WA:(Instr.lookup 94 (.map (some bm)) (.string (V'.B i).sym) false).run Tryz.prog W.drew=.ok (.pointer (some ⟨V'.bk i,0,none⟩)) W.drew:=cl.jE.JM hi' hlen 1
    have hL:=fun q=>pF (V'.bk i) (V'.B i) V'.om (fun x=>∃id,V'.aU id=some x) s k (W.drewN q) ((cl.jE.aH ((au.refl aP W).drewN q)).qQ hi') hs hk (by rw[hkb];exact hsd)
    rw[hkb]at hL
    have HL:=ai hL
    have HC:=ai (fun (W2:World) (m:Mk W2 (V'.bk i) ((V'.B i).leave V'.om s k) V'.om (fun x=>∃id,V'.aU id=some x))=>BN (V'.bk i) x ((V'.B i).leave V'.om s k) V'.om _ W2 m ⟨id,ho'⟩)
    have ZN:=(ae IM).lg.2.2.2.2
    have hcn:=(ae IM).cn
    have hna':V'.lg.na=V.lg.na+1:=(ae IM).lg.2.2.2.1
    have ZM:V.lg.begun.nt.length=0:=rfl
    obtain⟨cl0,hcl0⟩:=cl.cu
    have hbx:bk x=V'.bk i:=by
     rw[cl.Vl i]
     exact ae HBS i x (by rw[<-cl.nb];exact hi) ⟨id,ae HO0⟩ (by rw[<-(cl.dH x).1,hsy,cl.kE i])
    have qF:=ai (BO bv bm bo i x s k V' M id W bk w.heap.size (V.lm.ac.map Prod.snd) V.lm.tb cl0 hcl0 cl.oJ.size hbx (fun g hg=>by rw[cl.sl i s]at hg;exact ae aaK i (by rw[<-cl.nb];exact hi) s hs g hg) cl.jE cl.gw hM hi hs hk hkb ho' (by omega) (by omega) (by omega))
    have X4:∀y,(y=V'.bk i\/dC (V'.B i) s y)->∃c t,az W y c t/\(t=158\/t=116\/t=114):=fun y e=>(cl.jE.qQ hi').fZ (by
     rcases e with e|e
     ·exact .inl e
     ·exact .inr (.inr ⟨s,hs,e⟩))
    have nx:w.heap.size≠x:=az.ne cl.box ho (by decide)
    have nv:bv≠x:=az.ne cl.jE.dA ho (by decide)
    have z2:∀q w2,au (fun y=>y=V'.bk i\/dC (V'.B i) s y) (W.drewN q) w2->az w2 w.heap.size #[.pointer (some ⟨bv,0,none⟩)] 35/\az w2 bv (qM bm bo V'.lm V'.lg.day) 100:=fun q w2 k2 =>
     ⟨k2.aB (cl.box.drewN q) (fun e=>by
      obtain⟨c,t,hc,ht⟩:=X4 _ e
      exact az.ne cl.box hc (by rcases ht with rfl|rfl|rfl <;> decide) rfl),k2.aB (cl.jE.dA.drewN q) (fun e=>by
      obtain⟨c,t,hc,ht⟩:=X4 _ e
      exact az.ne cl.jE.dA hc (by rcases ht with rfl|rfl|rfl <;> decide) rfl)⟩
    have KT:(V'.om x).sym=(V'.B i).sym:=hsy
    have HZ2:Hid (∀q w2,au (fun y=>y=V'.bk i\/dC (V'.B i) s y) (W.drewN q) w2->Mk w2 (V'.bk i) ((V'.B i).leave V'.om s k) V'.om (fun x=>∃id,V'.aU id=some x)->w2.cell? ⟨w.heap.size,0,none⟩=some (.pointer (some ⟨bv,0,none⟩))/\w2.cell? ⟨bv,0,none⟩=some (.map (some bm))/\w2.cell? ⟨x,2,none⟩=some (.string (V'.B i).sym)):=fun q w2 c2 m2=>by
     obtain⟨ix2,ho2⟩:=m2.bg x ⟨id,ho'⟩
     exact⟨(z2 q w2 c2).1.cell 0,(z2 q w2 c2).2.cell 0,by rw[<-KT];exact ho2.cell 2⟩
    have HZ3:Hid (∀q w2 w3,au (fun y=>y=V'.bk i\/dC (V'.B i) s y) (W.drewN q) w2->au (fun y=>y=x) w2 w3->Mk w3 (V'.bk i) ((V'.B i).leave V'.om s k) (aN V'.om x (gm (V'.om x))) (fun x=>∃id,V'.aU id=some x)->w3.cell? ⟨w.heap.size,0,none⟩=some (.pointer (some ⟨bv,0,none⟩))/\w3.cell? ⟨bv,0,none⟩=some (.map (some bm))/\w3.cell? ⟨x,2,none⟩=some (.string (V'.B i).sym)):=fun q w2 w3 c2 c3 m3=>by
     obtain⟨ix3,ho3⟩:=m3.bg x ⟨id,ho'⟩
     rw[aj]at ho3
     exact⟨(c3.aB (z2 q w2 c2).1 nx).cell 0,(c3.aB (z2 q w2 c2).2 nv).cell 0,by rw[<-KT];exact ho3.cell 2⟩
    have HZ4:Hid (∀w4,iM bv bm bo V' (ExC bv V' M x bk w.heap.size (V.lm.ac.map Prod.snd) V.lm.tb) W w4->Mk w4 (V'.bk i) ((V'.B i).leave V'.om s k) (aN V'.om x (gm (V'.om x))) (fun x=>∃id,V'.aU id=some x)->w4.cell? ⟨w.heap.size,0,none⟩=some (.pointer (some ⟨bv,0,none⟩))/\w4.cell? ⟨bv,0,none⟩=some (.map (some bm))/\w4.cell? ⟨x,2,none⟩=some (.string (V'.B i).sym)):=fun w4 r4 m4=>by
     obtain⟨V2,R2,_,_,hb,_,_⟩:=r4
     obtain⟨ix4,PW⟩:=m4.bg x ⟨id,ho'⟩
     rw[aj]at PW
     exact⟨(hb _ _ _ cl.box (.inr (.inl rfl))).cell 0,R2.dA.cell 0,by rw[<-KT];exact PW.cell 2⟩
    have HC2:=ai cl
    clear cl hcl0 hbx ho hL z2 ZN hcn hna' ZM hsy hsd X4 KT nx nv hkb'
    go_wp2
    go_region_held3 (fun w'=>w'.cell? ⟨w.heap.size,0,none⟩=some (.pointer (some ⟨bv,0,none⟩))/\w'.cell? ⟨bv,0,none⟩=some (.map (some bm))/\w'.cell? ⟨x,2,none⟩=some (.string (V'.B i).sym)) (go_keep)
     (first
       | (go_at_call 66;refine (ae HL _).mono ?_;rintro e w2 ⟨sH,cp2,rfl,f2,m2,c2⟩;have F2:=ai f2;clear f2;obtain⟨y1,y2,y3⟩:=ae HZ2 _ w2 c2 m2;have M2:=ai m2;have C2:=ai c2;clear m2 c2)
       | (go_at_call 78;refine (ae HC _ (ae M2)).mono ?_;rintro e w3 ⟨nC,cp3,rfl,f3,m3,c3⟩;have F3:=ai f3;clear f3;obtain⟨u1,u2,u3⟩:=ae HZ3 _ w2 w3 (ae C2) c3 m3;have M3:=ai m3;have C3:=ai c3;clear m3 c3)
       | (go_at_call 53;refine (ae qF _ w2 w3 sH cp2 nC cp3 (ae M2) (ae C2) (ae M3) (ae C3) (ae F2) (ae F3)).mono ?_;rintro e w4 ⟨rfl,r4,r5,r6⟩;obtain⟨t1,t2,t3⟩:=ae HZ4 w4 r4 r6;have R4:=ai r4;have R5:=ai r5;clear r4 r5 r6))
    all_goals
     go_wp2
     go_roundg cnt'
     case measure=>omega
     case rel =>
      have c0:=ae IM
      have:=c0.lg.2.2.2.2
      have:=c0.cn
      obtain⟨V'',h''⟩:=(ae HC2).turn (ae HO0) (by rw[<-ae HOM];exact⟨hk1,hop⟩) (by simp[Lit.sameKey]) (by omega) (by omega) hi hs (ae R4) (ae R5)
      exact⟨cnt',V'',_,_,rfl,h''⟩
   ·have HC2:=ai cl
    clear cl
    by_cases hk1:(V'.om x).kind=1
    ·have e1:((V'.om x).kind == 1)=true:=by simp[hk1]
     have e2:decide (0<(V'.om x).aK)=false:=by simp;exact Int.not_lt.1 (fun h=>hc ⟨hk1,h⟩)
     go_wp2
     go_roundg cnt'
     case measure=>omega
     case rel=>exact⟨cnt',V',_,_,rfl,(ae HC2).skip (ae HO0) (by rw[<-ae HOM];exact hc)⟩
    ·have e1:((V'.om x).kind == 1)=false:=by simp[hk1]
     go_wp2
     go_roundg cnt'
     case measure=>omega
     case rel=>exact⟨cnt',V',_,_,rfl,(ae HC2).skip (ae HO0) (by rw[<-ae HOM];exact hc)⟩
theorem nU(o:iL)(taken fV full gK whole:Bool) :
 (fH o.id=false/\jh o taken fV full gK whole=1)\/(fH o.id=true/\taken=true/\jh o taken fV full gK whole=2)\/(fH o.id=true/\taken=false/\(
 (nI o.aA=false/\jh o taken fV full gK whole=4)\/(nI o.aA=true/\lQ o.side=false/\jh o taken fV full gK whole=4)\/(nI o.aA=true/\lQ o.side=true/\(
 (nV o.kind=false/\jh o taken fV full gK whole=5)\/(nV o.kind=true/\(
 (fH o.aI=false/\jh o taken fV full gK whole=4)\/(fH o.aI=true/\iQ o.kind o.af=false/\jh o taken fV full gK whole=4)\/(fH o.aI=true/\iQ o.kind o.af=true/\(
 (fV=false/\jh o taken fV full gK whole=6)\/(fV=true/\full=true/\jh o taken fV full gK whole=7)\/(fV=true/\full=false/\jh o taken fV full gK whole=if o.kind=4/\gK=true then 8 else if o.kind=3/\whole=true then 9 else 0))))))))):=by
 unfold jh
 cases fH o.id <;> cases taken <;> cases nI o.aA <;> cases lQ o.side <;> cases nV o.kind <;> cases fH o.aI <;> cases iQ o.kind o.af <;> cases fV <;> cases full <;> simp
theorem BU(bv bm bo:Nat)(V:aQ)(o:iL)(w:World)(R:dN w bv bm bo V)(hlen:o.sym.size<=maxLen)(hid:(Lit.int .i64 o.id).wf=true)(gK whole fV:Bool)(hth:(fV=true/\∃i,i<V.nb/\(V.B i).sym=o.sym)\/(fV=false/\∀i,i<V.nb->(V.B i).sym≠o.sym))
 (hE:fV=false\/200<=V.no\/jh o (V.aU o.id).isSome fV (decide (200<=V.no)) gK whole≠if o.kind=4/\gK=true then 8 else if o.kind=3/\whole=true then 9 else 0) :
 Calls Tryz.prog 111 #[.pointer (some ⟨bv,0,none⟩),o.val] w fun e w'=>e=.returned (.int .i64 (jh o (V.aU o.id).isSome fV (decide (200<=V.no)) gK whole))/\au aP w w':=by
 obtain⟨fB,mB,oK,sF⟩:=R.ik
 obtain⟨fO,mO,tZ⟩:=R.fD
 have hc:=nU o (V.aU o.id).isSome fV (decide (200<=V.no)) gK whole
 obtain⟨E,hEE⟩:∃E,jh o (V.aU o.id).isSome fV (decide (200<=V.no)) gK whole=E:=⟨_,rfl⟩
 rw[hEE]at hc hE ⊢
 obtain⟨oB,hoB,hB1⟩:∃oB,fB (sl o.sym)=oB/\((fV=true/\∃b,oB=some b)\/(fV=false/\oB=none)):=by
  refine⟨_,rfl,?_⟩
  rcases hth with⟨ht,i,hi,hs⟩|⟨ht,hn⟩
  ·left;exact⟨ht,V.bk i,by rw[<-hs];exact oK i hi⟩
  ·right;refine⟨ht,?_⟩
   cases hx:fB (sl o.sym) with
   | none=>rfl
   | some b=>obtain⟨i,hi,_,e⟩:=sF _ _ hx;exact absurd e (hn i hi)
 obtain⟨oO,hoO⟩:∃oO,V.aU o.id=oO:=⟨_,rfl⟩
 have hlo:fO (.int .i64 o.id)=oO:=by rw[tZ,hoO]
 rw[hoO]at hc
 obtain⟨id,aA,sym,side,kind,af,aI⟩:=o
 simp only at hlen hid hoB hlo hc hE
 simp only[iL.val]
 obtain⟨w1,hw1⟩:∃w1,w1=w.alloc (.cells #[.int .i64 id,.int .i64 aA,.string sym,.int .i64 side,.int .i64 kind,.int .i64 af,.int .i64 aI] 52):=⟨_,rfl⟩
 have k1:au aP w w1:=by rw[hw1];exact (au.refl aP w).alloc _
 have hbx:az w1 w.heap.size #[.int .i64 id,.int .i64 aA,.string sym,.int .i64 side,.int .i64 kind,.int .i64 af,.int .i64 aI] 52:=by rw[hw1];exact az.new w _ _
 have L1:∀q,(Instr.lookup 94 (.map (some bm)) (.string sym) false).run Tryz.prog (w1.drewN q)=.ok (iR oB) (w1.drewN q):=fun q=>by
  rw[(mB.aC (k1.drewN q) (fun x=>x)).look yw Tryz.underlying94 (oW _) (WideMaps.keyOf_string_mk Tryz.underlying9 hlen)]
  show _=Result.ok (iR oB) _
  rw[<-hoB];rfl
 have L2:∀q,(Instr.lookup 95 (.map (some bo)) (.int .i64 id) false).run Tryz.prog (w1.drewN q)=.ok (iR oO) (w1.drewN q):=fun q=>by
  rw[(mO.aC (k1.drewN q) (fun x=>x)).look yu Tryz.underlying95 (uU _) (keyOf_int_mk Tryz.underlying3 hid)]
  show _=Result.ok (iR oO) _
  rw[<-hlo]
 have L3:∀q,(Builtin.len_ #[95] 3 #[.map (some bo)]).run Tryz.prog (w1.drewN q)=.ok (.int .i64 V.no) (w1.drewN q):=fun q=>(mO.aC (k1.drewN q) (fun x=>x)).len Tryz.underlying95 _
 have v0:w1.cell? ⟨bv,0,none⟩=some (.map (some bm)):=(k1.aB R.dA (fun x=>x)).cell 0
 have v1:w1.cell? ⟨bv,1,none⟩=some (.map (some bo)):=(k1.aB R.dA (fun x=>x)).cell 1
 have x0:w1.cell? ⟨w.heap.size,0,none⟩=some (.int .i64 id):=hbx.cell 0
 have x1:w1.cell? ⟨w.heap.size,1,none⟩=some (.int .i64 aA):=hbx.cell 1
 have x2:w1.cell? ⟨w.heap.size,2,none⟩=some (.string sym):=hbx.cell 2
 have x3:w1.cell? ⟨w.heap.size,3,none⟩=some (.int .i64 side):=hbx.cell 3
 have x4:w1.cell? ⟨w.heap.size,4,none⟩=some (.int .i64 kind):=hbx.cell 4
 have x5:w1.cell? ⟨w.heap.size,5,none⟩=some (.int .i64 af):=hbx.cell 5
 have x6:w1.cell? ⟨w.heap.size,6,none⟩=some (.int .i64 aI):=hbx.cell 6
 have HW:=ai hw1
 have HK:=ai k1
 obtain⟨N,hN⟩:∃N,V.no=N:=⟨_,rfl⟩
 rw[hN]at hc hE L3
 clear hw1 k1 hbx hoB hlo oK sF tZ mB mO hid hEE hoO hth R hN
 rcases hc with⟨h1,rfl⟩|⟨h1,h2,rfl⟩|⟨h1,h2,hc⟩
 ·clear hE hB1 L2 L3
  go_enter Tryz.func111,Tryz.ntmps111
  go_wp2
  rw[<-ae HW]
  go_quiet (fail)
  go_wp2_with (first|(go_at_call 68;refine (bZ _ _).mono ?_;rintro e w' ⟨rfl,rfl⟩))
  go_ret
  exact⟨rfl,(ae HK).drewN _⟩
 ·obtain⟨b,rfl⟩:∃b,oO=some b:=by cases oO <;> simp at h2 ⊢
  simp only[iR]at L2
  clear hE hB1 L3
  go_enter Tryz.func111,Tryz.ntmps111
  go_wp2
  rw[<-ae HW]
  go_quiet (fail)
  go_wp2_with (first|(go_at_call 68;refine (bZ _ _).mono ?_;rintro e w' ⟨rfl,rfl⟩))
  go_quiet (fail)
  go_wp2
  go_ret
  exact⟨rfl,((ae HK).drewN _).drewN _⟩
 ·obtain rfl:oO=none:=by cases oO <;> simp at h2 ⊢
  simp only[iR]at L2
  rcases hc with⟨h3,rfl⟩|⟨h3,h4,rfl⟩|⟨h3,h4,⟨h5,rfl⟩|⟨h5,⟨h6,rfl⟩|⟨h6,h7,rfl⟩|⟨h6,h7,⟨h8,rfl⟩|⟨h8,h9,rfl⟩|⟨h8,h9,rfl⟩⟩⟩⟩
  case inr.inr.inr.inr.inr.inr.inr.inr.inl =>
   obtain⟨b,rfl⟩:∃b,oB=some b:=by
    rcases hB1 with⟨_,hx⟩|⟨hx,_⟩
    ·exact hx
    ·rw[h8]at hx;exact absurd hx (by decide)
   have e8:decide ((200:Int)<=(N:Int))=true:=by simp at h9 ⊢;omega
   simp only[iR]at L1
   clear hE hB1 h9 h8
   go_enter Tryz.func111,Tryz.ntmps111
   go_wp2
   rw[<-ae HW]
   go_quiet (fail)
   go_wp2_with (first|(go_at_call 68;refine (bZ _ _).mono ?_;rintro e w' ⟨rfl,rfl⟩)|(go_at_call 144;refine (dY _ _).mono ?_;rintro e w' ⟨rfl,rfl⟩)|(go_at_call 47;refine (eP _ _).mono ?_;rintro e w' ⟨rfl,rfl⟩)|(go_at_call 145;refine (fJ _ _).mono ?_;rintro e w' ⟨rfl,rfl⟩)|(go_at_call 146;refine (dJ _ _ _).mono ?_;rintro e w' ⟨rfl,rfl⟩))
   go_quiet (fail)
   go_wp2_with (first|(go_at_call 68;refine (bZ _ _).mono ?_;rintro e w' ⟨rfl,rfl⟩)|(go_at_call 144;refine (dY _ _).mono ?_;rintro e w' ⟨rfl,rfl⟩)|(go_at_call 47;refine (eP _ _).mono ?_;rintro e w' ⟨rfl,rfl⟩)|(go_at_call 145;refine (fJ _ _).mono ?_;rintro e w' ⟨rfl,rfl⟩)|(go_at_call 146;refine (dJ _ _ _).mono ?_;rintro e w' ⟨rfl,rfl⟩))
   go_ret
   exact⟨rfl,(ae HK).drewN _⟩
  case inr.inr.inr.inr.inr.inr.inr.inr.inr =>
   exfalso
   rcases hE with hx|hx|hx
   ·rw[h8]at hx;exact absurd hx (by decide)
   ·simp at h9;omega
   ·exact hx rfl
  case inr.inr.inr.inr.inr.inr.inr.inl =>
   obtain rfl:oB=none:=by
    rcases hB1 with⟨hx,_⟩|⟨_,hx⟩
    ·rw[h8]at hx;exact absurd hx (by decide)
    ·exact hx
   simp only[iR]at L1
   clear hE hB1 h8
   go_enter Tryz.func111,Tryz.ntmps111
   go_wp2
   rw[<-ae HW]
   go_quiet (fail)
   go_wp2_with (first|(go_at_call 68;refine (bZ _ _).mono ?_;rintro e w' ⟨rfl,rfl⟩)|(go_at_call 144;refine (dY _ _).mono ?_;rintro e w' ⟨rfl,rfl⟩)|(go_at_call 47;refine (eP _ _).mono ?_;rintro e w' ⟨rfl,rfl⟩)|(go_at_call 145;refine (fJ _ _).mono ?_;rintro e w' ⟨rfl,rfl⟩)|(go_at_call 146;refine (dJ _ _ _).mono ?_;rintro e w' ⟨rfl,rfl⟩))
   go_quiet (fail)
   go_wp2_with (first|(go_at_call 68;refine (bZ _ _).mono ?_;rintro e w' ⟨rfl,rfl⟩)|(go_at_call 144;refine (dY _ _).mono ?_;rintro e w' ⟨rfl,rfl⟩)|(go_at_call 47;refine (eP _ _).mono ?_;rintro e w' ⟨rfl,rfl⟩)|(go_at_call 145;refine (fJ _ _).mono ?_;rintro e w' ⟨rfl,rfl⟩)|(go_at_call 146;refine (dJ _ _ _).mono ?_;rintro e w' ⟨rfl,rfl⟩))
   go_ret
   exact⟨rfl,(ae HK).drewN _⟩
  all_goals
   clear hE hB1
   go_enter Tryz.func111,Tryz.ntmps111
   go_wp2
   rw[<-ae HW]
   go_quiet (fail)
   go_wp2_with (first|(go_at_call 68;refine (bZ _ _).mono ?_;rintro e w' ⟨rfl,rfl⟩)|(go_at_call 144;refine (dY _ _).mono ?_;rintro e w' ⟨rfl,rfl⟩)|(go_at_call 47;refine (eP _ _).mono ?_;rintro e w' ⟨rfl,rfl⟩)|(go_at_call 145;refine (fJ _ _).mono ?_;rintro e w' ⟨rfl,rfl⟩)|(go_at_call 146;refine (dJ _ _ _).mono ?_;rintro e w' ⟨rfl,rfl⟩))
   go_quiet (fail)
   go_wp2_with (first|(go_at_call 68;refine (bZ _ _).mono ?_;rintro e w' ⟨rfl,rfl⟩)|(go_at_call 144;refine (dY _ _).mono ?_;rintro e w' ⟨rfl,rfl⟩)|(go_at_call 47;refine (eP _ _).mono ?_;rintro e w' ⟨rfl,rfl⟩)|(go_at_call 145;refine (fJ _ _).mono ?_;rintro e w' ⟨rfl,rfl⟩)|(go_at_call 146;refine (dJ _ _ _).mono ?_;rintro e w' ⟨rfl,rfl⟩))
   go_ret
   exact⟨rfl,(ae HK).drewN _⟩
open Go.RowKit
end Go.Proofs.YtigaphnafnpfnaaGreatDoor
