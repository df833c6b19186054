import Derived.Test.YtigaphnafnpfnaaGreatDoorQVR1
import Derived.Test.YtigaphnafnpfnaaGreatDoorQVR5
set_option linter.unusedVariables false
set_option linter.unusedSimpArgs false
set_option maxHeartbeats 8000000
set_option maxRecDepth 100000
namespace Go.Proofs.YtigaphnafnpfnaaGreatDoor
open Go.RowKit Go.Maps
attribute [local go_sem ↓] Go.wp_at_zero Go.wp_at_succ
theorem Kt(x:Pr)(o:ji)(w:World)(h:jA w x)(hT:Tab w)(hN:x.N<2000000)(hk:o.kind=2)(hO:nV o) :
 Calls Tryz.prog 60 #[.agg #[.pointer (some ⟨x.bv,0,none⟩),.pointer (some ⟨x.rb,0,none⟩)],o.val] w fun e w'=>e=.returned (.bool true)∧GN x w w':=by
 obtain⟨kind,m,a,b,c,s,⟨id,owner,sym,side,ax,price,qty⟩⟩:=o
 simp only at hk
 subst hk
 obtain⟨W1,hW1⟩:∃W1,W1=((((w.alloc (.cells #[.pointer (some ⟨x.bv,0,none⟩),.pointer (some ⟨x.rb,0,none⟩)] 131)).alloc (.cells #[.int .i64 2,.int .i64 m,.int .i64 a,.int .i64 b,.int .i64 c,.string s,.int .i64 id,.int .i64 owner,.string sym,.int .i64 side,.int .i64 ax,.int .i64 price,.int .i64 qty] 81)).alloc (.cells aB 87)).alloc (.cells aB 87)):=⟨_,rfl⟩
 have k1:ag ak w W1:=by rw[hW1];exact ((((ag.refl ak w).alloc _).alloc _).alloc _).alloc _
 have hs1:W1.heap.size=w.heap.size+4:=by rw[hW1];simp
 have hp1:=h.aj k1
 have qQ:ai W1 w.heap.size #[.pointer (some ⟨x.bv,0,none⟩),.pointer (some ⟨x.rb,0,none⟩)] 131:=by rw[hW1];exact (((ai.new w _ _).alloc _).alloc _).alloc _
 have oI:ai W1 (w.heap.size+1) #[.int .i64 2,.int .i64 m,.int .i64 a,.int .i64 b,.int .i64 c,.string s,.int .i64 id,.int .i64 owner,.string sym,.int .i64 side,.int .i64 ax,.int .i64 price,.int .i64 qty] 81:=by rw[hW1];exact ((ai.jR w _ _ _).alloc _).alloc _
 have Ac:ai W1 (w.heap.size+2) aB 87:=by rw[hW1];exact (ai.ru w _ _ _ _).alloc _
 have Aa:ai W1 (w.heap.size+3) aB 87:=by
  rw[hW1]
  have:=ai.new (((w.alloc (.cells #[.pointer (some ⟨x.bv,0,none⟩),.pointer (some ⟨x.rb,0,none⟩)] 131)).alloc (.cells #[.int .i64 2,.int .i64 m,.int .i64 a,.int .i64 b,.int .i64 c,.string s,.int .i64 id,.int .i64 owner,.string sym,.int .i64 side,.int .i64 ax,.int .i64 price,.int .i64 qty] 81)).alloc (.cells aB 87)) aB 87
  simpa using this
 have HC:=hide (Pm x.bv x.bm x.bo x.N x.V x.p x.S s W1 hp1.rep hp1.nH (by omega) hp1.sz (by have:=hO.s;simp only at this;omega))
 have nf:∀b,w.heap.size≤b→¬PF x b:=fun b hb hf=>by have:=h.lt hf;omega
 have rG:=hide nf
 have sS:=hide hp1
 have zg:=hide qQ
 have vX:=hide oI
 have GV:=hide Ac
 have JZ:=hide Aa
 have kV:=hide k1
 have GL:=hide hs1
 have HW1:=hide hW1
 simp only[ji.val,ji.cells]
 simp only[aB]at HW1
 clear h hT hO k1 hs1 hp1 qQ oI Ac Aa nf hW1
 go_enter Tryz.func60,Tryz.ntmps60
 go_wp2_with fail
 rw[←ae HW1]
 refine (ae HC).mono ?_
 rintro e w2 ⟨E,rfl,hout⟩
 have kF:=hout.gY
 have nF:∀b,w.heap.size≤b→¬dX x.bv x.bm x.bo x.V b:=fun b hb hf=>ae rG b hb (.inl hf)
 have oP:=kF.blk (ae zg) (nF _ (by omega))
 have lW:=kF.blk (ae vX) (nF _ (by omega))
 have zb:=kF.blk (ae GV) (nF _ (by omega))
 have yb:=kF.blk (ae JZ) (nF _ (by omega))
 have q1:w2.cell? ⟨w.heap.size,1,none⟩=some (.pointer (some ⟨x.rb,0,none⟩)):=oP.cell 1
 have o5:w2.cell? ⟨w.heap.size+1,5,none⟩=some (.string s):=lW.cell 5
 have sQ:=hide hout
 have HZ:=hide zb
 have HY:=hide yb
 have P5:=hide kF
 clear hout kF nF oP lW zb yb HC
 go_wp2_with fail
 have Jp:Calls Tryz.prog 99 #[.pointer (some ⟨x.rb,0,none⟩),(zW s).val] w2 fun e w'=>e=.returned (.tuple #[bu 0 0 0 0 0,.int .i64 E])∧DX x ak W1 w'∧ag (RF x.rb x.av x.rv) w2 w':=rZ (ae sS) hN (ae sQ) (ag.refl ak w2) (fun b hb=>hb.elim)
 refine Jp.mono ?_
 rintro e w3 ⟨rfl,hk3,kd⟩
 have bS:=kd.blk (ae HZ) (fun hr=>ae rG _ (by omega) (.inr hr))
 have yS:=kd.blk (ae HY) (fun hr=>ae rG _ (by omega) (.inr hr))
 have u0:w3.cell? ⟨w.heap.size+2,0,none⟩=some (.int .i64 0):=bS.cell 0
 have u1:w3.cell? ⟨w.heap.size+2,1,none⟩=some (.int .i64 0):=bS.cell 1
 have u2:w3.cell? ⟨w.heap.size+2,2,none⟩=some (.int .i64 0):=bS.cell 2
 have u3:w3.cell? ⟨w.heap.size+2,3,none⟩=some (.int .i64 0):=bS.cell 3
 have u4:w3.cell? ⟨w.heap.size+2,4,none⟩=some (.int .i64 0):=bS.cell 4
 have v0:w3.cell? ⟨w.heap.size+3,0,none⟩=some (.int .i64 0):=yS.cell 0
 have v1:w3.cell? ⟨w.heap.size+3,1,none⟩=some (.int .i64 0):=yS.cell 1
 have v2:w3.cell? ⟨w.heap.size+3,2,none⟩=some (.int .i64 0):=yS.cell 2
 have v3:w3.cell? ⟨w.heap.size+3,3,none⟩=some (.int .i64 0):=yS.cell 3
 have v4:w3.cell? ⟨w.heap.size+3,4,none⟩=some (.int .i64 0):=yS.cell 4
 have lu:=bS.lt
 have lv:=yS.lt
 have lV:=hide hk3
 simp only[bu]
 clear hk3 kd bS yS Jp q1 o5
 go_wp2
 go_ret
 exact⟨by first | rfl | simp,DX.of (ae kV) (ae lV) (fun b hb=>hb.elim)⟩
theorem Ec(x:Pr)(o:ji)(w:World)(h:jA w x)(hT:Tab w)(hN:x.N<2000000)(hk:o.kind=4)(hO:nV o) :
 Calls Tryz.prog 60 #[.agg #[.pointer (some ⟨x.bv,0,none⟩),.pointer (some ⟨x.rb,0,none⟩)],o.val] w fun e w'=>e=.returned (.bool true)∧GN x w w':=by
 obtain⟨kind,m,a,b,c,s,⟨id,owner,sym,side,ax,price,qty⟩⟩:=o
 simp only at hk
 subst hk
 obtain⟨W1,hW1⟩:∃W1,W1=((((w.alloc (.cells #[.pointer (some ⟨x.bv,0,none⟩),.pointer (some ⟨x.rb,0,none⟩)] 131)).alloc (.cells #[.int .i64 4,.int .i64 m,.int .i64 a,.int .i64 b,.int .i64 c,.string s,.int .i64 id,.int .i64 owner,.string sym,.int .i64 side,.int .i64 ax,.int .i64 price,.int .i64 qty] 81)).alloc (.cells aB 87)).alloc (.cells aB 87)):=⟨_,rfl⟩
 have k1:ag ak w W1:=by rw[hW1];exact ((((ag.refl ak w).alloc _).alloc _).alloc _).alloc _
 have hs1:W1.heap.size=w.heap.size+4:=by rw[hW1];simp
 have hp1:=h.aj k1
 have qQ:ai W1 w.heap.size #[.pointer (some ⟨x.bv,0,none⟩),.pointer (some ⟨x.rb,0,none⟩)] 131:=by rw[hW1];exact (((ai.new w _ _).alloc _).alloc _).alloc _
 have oI:ai W1 (w.heap.size+1) #[.int .i64 4,.int .i64 m,.int .i64 a,.int .i64 b,.int .i64 c,.string s,.int .i64 id,.int .i64 owner,.string sym,.int .i64 side,.int .i64 ax,.int .i64 price,.int .i64 qty] 81:=by rw[hW1];exact ((ai.jR w _ _ _).alloc _).alloc _
 have Ac:ai W1 (w.heap.size+2) aB 87:=by rw[hW1];exact (ai.ru w _ _ _ _).alloc _
 have Aa:ai W1 (w.heap.size+3) aB 87:=by
  rw[hW1]
  have:=ai.new (((w.alloc (.cells #[.pointer (some ⟨x.bv,0,none⟩),.pointer (some ⟨x.rb,0,none⟩)] 131)).alloc (.cells #[.int .i64 4,.int .i64 m,.int .i64 a,.int .i64 b,.int .i64 c,.string s,.int .i64 id,.int .i64 owner,.string sym,.int .i64 side,.int .i64 ax,.int .i64 price,.int .i64 qty] 81)).alloc (.cells aB 87)) aB 87
  simpa using this
 have HC:=hide (II x.bv x.bm x.bo x.N x.V x.p x.S a W1 hp1.rep (hT.aj k1) hp1.nH (by omega) hp1.sz (Cc hO.a))
 have nf:∀b,w.heap.size≤b→¬PF x b:=fun b hb hf=>by have:=h.lt hf;omega
 have rG:=hide nf
 have sS:=hide hp1
 have zg:=hide qQ
 have vX:=hide oI
 have GV:=hide Ac
 have JZ:=hide Aa
 have kV:=hide k1
 have GL:=hide hs1
 have HW1:=hide hW1
 simp only[ji.val,ji.cells]
 simp only[aB]at HW1
 clear h hT hO k1 hs1 hp1 qQ oI Ac Aa nf hW1
 go_enter Tryz.func60,Tryz.ntmps60
 go_wp2_with fail
 rw[←ae HW1]
 refine (ae HC).mono ?_
 rintro e w2 ⟨E,rfl,hout⟩
 have kF:=hout.gY
 have nF:∀b,w.heap.size≤b→¬dX x.bv x.bm x.bo x.V b:=fun b hb hf=>ae rG b hb (.inl hf)
 have oP:=kF.blk (ae zg) (nF _ (by omega))
 have lW:=kF.blk (ae vX) (nF _ (by omega))
 have zb:=kF.blk (ae GV) (nF _ (by omega))
 have yb:=kF.blk (ae JZ) (nF _ (by omega))
 have q1:w2.cell? ⟨w.heap.size,1,none⟩=some (.pointer (some ⟨x.rb,0,none⟩)):=oP.cell 1
 have o2:w2.cell? ⟨w.heap.size+1,2,none⟩=some (.int .i64 a):=lW.cell 2
 have sQ:=hide hout
 have HZ:=hide zb
 have HY:=hide yb
 have P5:=hide kF
 clear hout kF nF oP lW zb yb HC
 go_wp2_with fail
 have Jp:Calls Tryz.prog 99 #[.pointer (some ⟨x.rb,0,none⟩),(qw a).val] w2 fun e w'=>e=.returned (.tuple #[bu 0 0 0 0 0,.int .i64 E])∧DX x ak W1 w'∧ag (RF x.rb x.av x.rv) w2 w':=rZ (ae sS) hN (ae sQ) (ag.refl ak w2) (fun b hb=>hb.elim)
 refine Jp.mono ?_
 rintro e w3 ⟨rfl,hk3,kd⟩
 have bS:=kd.blk (ae HZ) (fun hr=>ae rG _ (by omega) (.inr hr))
 have yS:=kd.blk (ae HY) (fun hr=>ae rG _ (by omega) (.inr hr))
 have u0:w3.cell? ⟨w.heap.size+2,0,none⟩=some (.int .i64 0):=bS.cell 0
 have u1:w3.cell? ⟨w.heap.size+2,1,none⟩=some (.int .i64 0):=bS.cell 1
 have u2:w3.cell? ⟨w.heap.size+2,2,none⟩=some (.int .i64 0):=bS.cell 2
 have u3:w3.cell? ⟨w.heap.size+2,3,none⟩=some (.int .i64 0):=bS.cell 3
 have u4:w3.cell? ⟨w.heap.size+2,4,none⟩=some (.int .i64 0):=bS.cell 4
 have v0:w3.cell? ⟨w.heap.size+3,0,none⟩=some (.int .i64 0):=yS.cell 0
 have v1:w3.cell? ⟨w.heap.size+3,1,none⟩=some (.int .i64 0):=yS.cell 1
 have v2:w3.cell? ⟨w.heap.size+3,2,none⟩=some (.int .i64 0):=yS.cell 2
 have v3:w3.cell? ⟨w.heap.size+3,3,none⟩=some (.int .i64 0):=yS.cell 3
 have v4:w3.cell? ⟨w.heap.size+3,4,none⟩=some (.int .i64 0):=yS.cell 4
 have lu:=bS.lt
 have lv:=yS.lt
 have lV:=hide hk3
 simp only[bu]
 clear hk3 kd bS yS Jp q1 o2
 go_wp2
 go_ret
 exact⟨by first | rfl | simp,DX.of (ae kV) (ae lV) (fun b hb=>hb.elim)⟩
theorem NJ(bv bm bo n:Nat)(V:aW)(M:Int)(w:World)(R:Rep w bv bm bo V)(g:GW V M)(hno:V.no=n)(hsz:∀i,i<V.nb→(V.B i).sym.size≤100)(hM:M≤1000000000000000)(hn:n≤200)(k1:V.lg.tp.length<1000000000)(k4:V.lg.na<3000000) :
 Calls Tryz.prog 41 #[.pointer (some ⟨bv,0,none⟩)] w fun e w'=>e=.returned (.tuple #[])∧Next bv bm bo V (ClV V M) w w':=by
 have kx:ag ak w (w.alloc (.cells #[.pointer (some ⟨bv,0,none⟩)] 35)):=(ag.refl ak w).alloc _
 have kL:=hide (zZ bv bm bo V.lg V.lm ⟨#[99,108,111,115,101]⟩ _ (R.log.aj kx) (by omega) (by decide) (by decide))
 have QL:=ai.new w #[.pointer (some ⟨bv,0,none⟩)] 35
 have HR:=hide R
 have lv:=R.cZ.lt
 have yG:∀x,w.heap.size≤x→¬(x=bv∨V.lm.F x):=by
  rintro x hx (e | e)
  ·omega
  ·have:=R.log.log.lt e;omega
 have nP:=hide yG
 have YQ:=hide kx
 have VM:=hide QL
 have HG:=hide g
 have wS:=hide hsz
 clear R yG kx QL g hsz
 go_enter Tryz.func41,Tryz.ntmps41
 go_wp2_with fail
 refine (ae kL).mono ?_
 rintro e wb ⟨rfl,lJ,hLb,oQ,kb⟩
 have Rb:=((ae HR).aj (ae YQ)).jX hLb kb
 have KE:=kb.blk (ae VM) (ae nP _ (Nat.le_refl _))
 have xb:wb.cell? ⟨w.heap.size,0,none⟩=some (.pointer (some ⟨bv,0,none⟩)):=KE.cell 0
 have v1:wb.cell? ⟨bv,1,none⟩=some (.map (some bo)):=Rb.cZ.cell 1
 have JH:ag (fun x=>x=bv∨V.lm.F x) w wb:=(ae YQ).aC.trans kb
 obtain⟨fO,⟨D,hown,hsz,hat,hhas⟩,hfO⟩:=Rb.orders
 have hown':wb.ownsMap Tryz.prog 3 gW bo n D:=by rw[←hno];exact hown
 have hsz':Maps.size D=n:=hsz.trans hno
 have HRb:=hide Rb
 have jB:=hide KE
 have RQ:=hide JH
 have RN:Hid (∀x,lJ.F x→V.lm.F x∨w.heap.size≤x):=fun x h=>(oQ x h).imp_right (fun h=>by have:=(ae YQ).size;omega)
 have We:=hide hown'
 have HAt:=hide hat
 have Tu:=hide hhas
 have ZN:=hide hfO
 have Vk:=hide hsz'
 have UO:=KE.lt
 clear kL hLb oQ kb Rb KE JH hown hown' hat hhas hfO hsz hsz'
 go_wp2_with (at_range;refine wpList_range_own _ rfl _ 95 rfl 3 114 law3 Tryz.underlying95 gW bo n D rfl (ae We) ?_;intro w0 hrg0 hg0 hs0;have HRg:=hide hrg0;have HG0:=hide hg0;clear hrg0 hg0)
 have k0:ag ak wb w0:=(ag.refl ak wb).grown (ae HG0) (fun k e=>by simp at e)
 have hI:MW bv bm bo n M V wb.heap.size D fO w w0 n { V with lg:=V.lg.begun,lm:=lJ } (Maps.has D) none:=by
  refine⟨(ae HRb).aj k0,(ae HG).S9 _ _,rfl,rfl,rfl,fun _=>rfl,fun _=>rfl,fun _=>⟨rfl,rfl,rfl,rfl⟩,fun id x hx=>?_,⟨rfl,rfl,rfl,rfl,Nat.le_add_right _ _⟩,?_,fun kl h=>?_,fun y hy=>?_,Nat.le_refl _,k0.blk (ae jB) (fun x=>x),((ae RQ).mono (fun y h=>?_)).trans k0.aC,by omega⟩
  ·have hh:Maps.has D (.int .i64 id)=true:=by
    rw[ae Tu (.int .i64 id),(ae ZN) id]
    show (V.aO id).isSome=true
    rw[hx];rfl
   rw[if_pos (.inl hh)]
  ·have:=ae HRg
   rw[ae Vk]at this
   exact this
  ·rw[←ae Tu kl];exact h
  ·rcases hy with h | h | h | h | h | h
   ·exact .inl (.inl h)
   ·exact .inl (.inr (.inl h))
   ·exact .inl (.inr (.inr (.inl h)))
   ·exact .inl (.inr (.inr (.inr (.inl h))))
   ·exact .inl (.inr (.inr (.inr (.inr (.inl h)))))
   ·exact (ae RN y h).imp_left (fun h=>.inr (.inr (.inr (.inr (.inr h)))))
  ·rcases h with h | h
   ·exact .inl h
   ·exact .inr (.inr (.inr (.inr (.inr h))))
 have HI:=hide hI
 obtain⟨r,hr⟩:∃r,wb.heap.size=r:=⟨_,rfl⟩
 rw[hr]at HI ⊢
 clear hI k0 HRg HG0 HRb jB RQ RN We Tu Vk v1 xb UO hr hs0 YQ VM
 go_frame
 go_loopg [3] n (fun kk _ wr=>∃(cnt:Nat) (V':aW) (left:Lit→Bool),kk=cnt∧MW bv bm bo n M V r D fO w wr cnt V' left none)
 case atStart=>exact⟨_,_,_,rfl,ae HI⟩
 case round =>
  obtain⟨cnt,V',left,hkk,cl⟩:=hrel
  have xb:wr.cell? ⟨w.heap.size,0,none⟩=some (.pointer (some ⟨bv,0,none⟩)):=cl.box.cell 0
  have v4:wr.cell? ⟨bv,4,none⟩=some (.int .i64 V.lg.day):=by
   have:=cl.rep.cZ.cell 4
   rw[cl.lg.2.2.1]at this
   exact this
  have f4:=cl.rep.cZ.frozen 4
  have J3:=hide cl
  have Wn:=hide cl.VE
  have TB:=hide cl.le
  clear cl
  go_wp2_with (at_next;refine wL rfl _ rfl bo r n D left cnt fO rfl (ae Wn) (ae HAt) (ae TB) ?_ ?_)
  ·intro hc0
   have cl:=ae J3
   have hTl:∀W,ag ak wr W→Calls Tryz.prog 73 #[.pointer (some ⟨bv,0,none⟩),.int .i64 4,(uw V.lg.day).val] W fun e w'=>e=.returned (.tuple #[])∧∃m',aK w' bv bm bo (V'.lg.told 4 (uw V.lg.day)) m'∧(∀b,m'.F b→V'.lm.F b∨wr.heap.size≤b)∧ag (fun b=>b=bv∨V'.lm.F b) wr w'∧w'.cell? ⟨w.heap.size,0,none⟩=some (.pointer (some ⟨bv,0,none⟩)):=by
    intro W kW
    refine (uf bv bm bo V'.lg V'.lm 4 (uw V.lg.day) W (cl.rep.log.aj kW) (by rw[cl.lg.2.1];show V.lg.tp.length<1000000000;omega)).mono ?_
    rintro e w' ⟨rfl,m',a1,a2,a3⟩
    refine⟨rfl,m',a1,fun b hb=>(a2 b hb).imp_right (fun h=>Nat.le_trans kW.size h),kW.aC.trans (a3.mono (fun b h=>h.imp_right (fun h=>.inr (.inl (.inl h))))),(a3.blk (kW.blk cl.box (fun x=>x)) ?_).cell 0⟩
    rintro (e | e)
    ·exact ai.ne cl.box cl.rep.cZ (by decide) e
    ·exact own_ne cl.rep.log.log.fU e cl.box (by decide) rfl
   have hdl:V'.lg.day=V.lg.day:=cl.lg.2.2.1
   have hna':V'.lg.na=V.lg.na+1:=cl.lg.2.2.2.1
   have XG:=cl.lg.2.2.2.2
   have hcn:=cl.cn
   have XF:V.lg.begun.nt.length=0:=rfl
   simp only[Tr.val,uw]at hTl
   have HTl:=hide hTl
   clear hTl cl
   go_wp2
   go_region_held3 (fun w'=>w'.cell? ⟨w.heap.size,0,none⟩=some (.pointer (some ⟨bv,0,none⟩))∧w'.cell? ⟨bv,4,none⟩=some (.int .i64 V.lg.day)) (go_keep)
    (first | (go_at_call 73;refine (ae HTl _ ?cc).mono ?_;(case cc=>repeat (first | exact ag.refl _ _ | refine ag.drew ?_));rintro e wt ⟨rfl,lmt,t1,t2,t3,y1⟩;have y2:wt.cell? ⟨bv,4,none⟩=some (.int .i64 V.lg.day):=(t1.cZ.cell 4).trans (by rw[←hdl];rfl);have ft:=t1.cZ.frozen 4;have T1:=hide t1;have T2:=hide t2;have T3:=hide t3;clear t1 t2 t3))
   rename_i Og
   clear Og
   have hD:=(ae T1).I9 (wrap64 (V.lg.day+1))
   have HD:=hide hD
   have Vp:=yB bv bm bo _ lmt .closed (.func 79) #[.pointer (some ⟨w.heap.size,0,none⟩)] _ hD.1 (by show 0<V'.lg.na;omega) (by show V'.lg.na≤3000000;omega) (by show V'.lg.nt.length+1<1000000000;omega)
   have es:(wt.setCell ⟨bv,4,none⟩ (.int .i64 (wrap64 (V.lg.day+1)))).heap.size=wt.heap.size:=by simp[World.setCell]
   rw[es]at Vp
   have oH:=hide Vp
   clear Vp es
   clear hD
   go_wp2_with fail
   refine (ae oH).mono ?_
   rintro e w5 ⟨rfl,rX,h1,h2,h3,-⟩
   have H1:=hide h1
   have H2:=hide h2
   have H3:=hide h3
   clear h1 h2 h3
   go_wp2
   go_end0
   have cl:=ae J3
   have szt:=(ae T3).size
   have hFt:∀y,lmt.F y→V'.lm.F y∨wr.heap.size≤y:=ae T2
   have kD:ag (fun y=>y=bv∨V'.lm.F y) wr (wt.setCell ⟨bv,4,none⟩ (.int .i64 (wrap64 (V.lg.day+1)))):=(ae T3).trans ((ae HD).2.mono (fun y e=>.inl e))
   have k5:ag (fun y=>y=bv∨V'.lm.F y) wr w5:=kD.from ((ae H3).mono (fun y h=>(hFt y (.inr (.inr (.inr h)))).imp_left .inr))
   have KT:∀y,rX.F y→V'.lm.F y∨wr.heap.size≤y:=fun y h=>by
    rcases ae H2 y h with h | h
    ·exact hFt y h
    ·exact .inr (by omega)
   have R5:=cl.rep.jX (ae H1) k5
   have EO:∀y,dX bv bm bo V' y→dX bv bm bo V y∨w.heap.size≤y:=cl.foot
   have htr:V'.lg.tr=V.lg.tr:=cl.lg.1
   have htp:V'.lg.tp=V.lg.tp:=cl.lg.2.1
   have szw:=cl.gY.size
   have hall:∀kl,left kl=false:=by
    rcases (ae Wn).next law3 0 with⟨_,ha,_⟩ | ⟨_,_,_,_,_,_,_,_,_,_,_,_,hlt,_⟩
    ·exact ha
    ·omega
   refine⟨rfl,_,R5,⟨cl.gw.S9 _ _,cl.aO,cl.no,cl.nb,cl.lX,cl.Si,cl.stat,fun id x hx=>?_,htr,?_,rfl,hna'⟩,cl.gY.from (k5.mono (fun y h=>?_)),fun y hy=>?_⟩
   ·show V'.om x=_
    rw[cl.om id x hx,hall]
    simp
   ·show V'.lg.tp++[⟨(V'.lg.tp.length:Int)+1,4,uw V.lg.day⟩]=_
    rw[htp]
   ·rcases h with h | h
    ·exact .inl (.inl h)
    ·exact EO y (.inr (.inr (.inr (.inr (.inr h)))))
   ·have key:dX bv bm bo V' y∨wr.heap.size≤y:=by
     rcases hy with h | h | h | h | h | h
     ·exact .inl (.inl h)
     ·exact .inl (.inr (.inl h))
     ·exact .inl (.inr (.inr (.inl h)))
     ·exact .inl (.inr (.inr (.inr (.inl h))))
     ·exact .inl (.inr (.inr (.inr (.inr (.inl h)))))
     ·exact (KT y h).imp_left (fun h=>.inr (.inr (.inr (.inr (.inr h)))))
    rcases key with h | h
    ·exact EO y h
    ·exact .inr (by omega)
  ·intro id x W cnt' hlk hfx aau hlt hgr hsz hen
   have cl:=(ae J3).step hlk aau hlt hgr
   have ho0:V.aO id=some x:=by rw[←hfx];exact ((ae ZN) id).symm
   have Zn:V'.om x=V.om x:=by rw[cl.om id x ho0,if_pos (.inr rfl)]
   have Z5:=hide ho0
   have Z7:=hide Zn
   clear ho0 Zn hlk
   have ho':V'.aO id=some x:=by rw[cl.aO,←hfx];exact ((ae ZN) id).symm
   obtain⟨_,ix,ho⟩:=cl.rep.aQ id x ho'
   have o4:W.cell? ⟨x,4,none⟩=some (.int .i64 (V'.om x).kind):=ho.cell 4
   have o8:W.cell? ⟨x,8,none⟩=some (.int .i64 (V'.om x).opn):=ho.cell 8
   by_cases hc:(V'.om x).kind=1∧0<(V'.om x).opn
   ·obtain⟨hk1,hop⟩:=hc
    have e1:((V'.om x).kind == 1)=true:=by simp[hk1]
    have e2:decide (0<(V'.om x).opn)=true:=by simp[hop]
    obtain⟨i,s,hi,hs,hsy,hsd⟩:=cl.gw.idx ⟨id,ho'⟩
    obtain⟨k,hk,hkb'⟩:=((cl.gw.gb i hi).mem s hs x).2 ⟨⟨id,ho'⟩,hsy,hsd,hop⟩
    have hkb:(V'.B i).h s k=x:=hkb'.symm
    have hi':i<V'.nb:=hi
    have hlen:(V'.B i).sym.size≤maxLen:=by rw[cl.lX i];have:=ae wS i (by rw[←cl.nb];exact hi);unfold maxLen;omega
    have o2:W.cell? ⟨x,2,none⟩=some (.string (V'.B i).sym):=by rw[←hsy];exact ho.cell 2
    have v0:W.cell? ⟨bv,0,none⟩=some (.map (some bm)):=cl.rep.cZ.cell 0
    have xbW:W.cell? ⟨w.heap.size,0,none⟩=some (.pointer (some ⟨bv,0,none⟩)):=cl.box.cell 0
    have L1:(Instr.lookup 94 (.map (some bm)) (.string (V'.B i).sym) false).run Tryz.prog W=.ok (.pointer (some ⟨V'.bk i,0,none⟩)) W:=cl.rep.vP hi' hlen
    have TG:(Instr.lookup 94 (.map (some bm)) (.string (V'.B i).sym) false).run Tryz.prog W.drew=.ok (.pointer (some ⟨V'.bk i,0,none⟩)) W.drew:=cl.rep.Iu hi' hlen 1
    have hL:=fun q=>nC (V'.bk i) (V'.B i) V'.om (fun x=>∃id,V'.aO id=some x) s k (W.drewN q) ((cl.rep.aj ((ag.refl ak W).drewN q)).zk hi') hs hk (by rw[hkb];exact hsd)
    rw[hkb]at hL
    have HL:=hide hL
    have HC:=hide (fun (W2:World) (m:Mk W2 (V'.bk i) ((V'.B i).leave V'.om s k) V'.om (fun x=>∃id,V'.aO id=some x))=>zu (V'.bk i) x ((V'.B i).leave V'.om s k) V'.om _ W2 m ⟨id,ho'⟩)
    have XG:=(ae J3).lg.2.2.2.2
    have hcn:=(ae J3).cn
    have hna':V'.lg.na=V.lg.na+1:=(ae J3).lg.2.2.2.1
    have XF:V.lg.begun.nt.length=0:=rfl
    have oH:=hide (EE bv bm bo i x s k V' M id W cl.rep cl.gw hM hi hs hk hkb ho' (by omega) (by omega) (by omega))
    have U7:∀y,(y=V'.bk i∨bQ (V'.B i) s y)→∃c t,ai W y c t∧(t=158∨t=116∨t=114):=fun y e=>(cl.rep.zk hi').typ (by
     rcases e with e | e
     ·exact .inl e
     ·exact .inr (.inr ⟨s,hs,e⟩))
    have nx:w.heap.size≠x:=ai.ne cl.box ho (by decide)
    have nv:bv≠x:=ai.ne cl.rep.cZ ho (by decide)
    have z2:∀q w2,ag (fun y=>y=V'.bk i∨bQ (V'.B i) s y) (W.drewN q) w2→ai w2 w.heap.size #[.pointer (some ⟨bv,0,none⟩)] 35∧ai w2 bv (oM bm bo V'.lm V'.lg.day) 100:=fun q w2 k2 =>
     ⟨k2.blk (cl.box.drewN q) (fun e=>by
      obtain⟨c,t,hc,ht⟩:=U7 _ e
      exact ai.ne cl.box hc (by rcases ht with rfl | rfl | rfl <;> decide) rfl),k2.blk (cl.rep.cZ.drewN q) (fun e=>by
      obtain⟨c,t,hc,ht⟩:=U7 _ e
      exact ai.ne cl.rep.cZ hc (by rcases ht with rfl | rfl | rfl <;> decide) rfl)⟩
    have JF:(V'.om x).sym=(V'.B i).sym:=hsy
    have HZ2:Hid (∀q w2,ag (fun y=>y=V'.bk i∨bQ (V'.B i) s y) (W.drewN q) w2→Mk w2 (V'.bk i) ((V'.B i).leave V'.om s k) V'.om (fun x=>∃id,V'.aO id=some x)→w2.cell? ⟨w.heap.size,0,none⟩=some (.pointer (some ⟨bv,0,none⟩))∧w2.cell? ⟨bv,0,none⟩=some (.map (some bm))∧w2.cell? ⟨x,2,none⟩=some (.string (V'.B i).sym)):=fun q w2 c2 m2=>by
     obtain⟨Zc,ho2⟩:=m2.aQ x ⟨id,ho'⟩
     exact⟨(z2 q w2 c2).1.cell 0,(z2 q w2 c2).2.cell 0,by rw[←JF];exact ho2.cell 2⟩
    have HZ3:Hid (∀q w2 w3,ag (fun y=>y=V'.bk i∨bQ (V'.B i) s y) (W.drewN q) w2→ag (fun y=>y=x) w2 w3→Mk w3 (V'.bk i) ((V'.B i).leave V'.om s k) (upd V'.om x (fD (V'.om x))) (fun x=>∃id,V'.aO id=some x)→w3.cell? ⟨w.heap.size,0,none⟩=some (.pointer (some ⟨bv,0,none⟩))∧w3.cell? ⟨bv,0,none⟩=some (.map (some bm))∧w3.cell? ⟨x,2,none⟩=some (.string (V'.B i).sym)):=fun q w2 w3 c2 c3 m3=>by
     obtain⟨ix3,ho3⟩:=m3.aQ x ⟨id,ho'⟩
     rw[upd_same]at ho3
     exact⟨(c3.blk (z2 q w2 c2).1 nx).cell 0,(c3.blk (z2 q w2 c2).2 nv).cell 0,by rw[←JF];exact ho3.cell 2⟩
    have HZ4:Hid (∀w4,Turned bv bm bo V' (YK V' M x) W w4→Mk w4 (V'.bk i) ((V'.B i).leave V'.om s k) (upd V'.om x (fD (V'.om x))) (fun x=>∃id,V'.aO id=some x)→w4.cell? ⟨w.heap.size,0,none⟩=some (.pointer (some ⟨bv,0,none⟩))∧w4.cell? ⟨bv,0,none⟩=some (.map (some bm))∧w4.cell? ⟨x,2,none⟩=some (.string (V'.B i).sym)):=fun w4 r4 m4=>by
     obtain⟨V2,R2,_,_,hb,_,_⟩:=r4
     obtain⟨ix4,Oq⟩:=m4.aQ x ⟨id,ho'⟩
     rw[upd_same]at Oq
     exact⟨(hb _ _ _ cl.box (.inr (.inl rfl))).cell 0,R2.cZ.cell 0,by rw[←JF];exact Oq.cell 2⟩
    have HC2:=hide cl
    clear cl ho hL z2 XG hcn hna' XF hsy hsd U7 JF nx nv hkb'
    go_wp2
    go_region_held3 (fun w'=>w'.cell? ⟨w.heap.size,0,none⟩=some (.pointer (some ⟨bv,0,none⟩))∧w'.cell? ⟨bv,0,none⟩=some (.map (some bm))∧w'.cell? ⟨x,2,none⟩=some (.string (V'.B i).sym)) (go_keep)
     (first
       | (go_at_call 66;refine (ae HL _).mono ?_;rintro e w2 ⟨wC,cp2,rfl,-,m2,c2⟩;obtain⟨y1,y2,y3⟩:=ae HZ2 _ w2 c2 m2;have M2:=hide m2;have C2:=hide c2;clear m2 c2)
       | (go_at_call 78;refine (ae HC _ (ae M2)).mono ?_;rintro e w3 ⟨qH,cp3,rfl,-,m3,c3⟩;obtain⟨u1,u2,u3⟩:=ae HZ3 _ w2 w3 (ae C2) c3 m3;have M3:=hide m3;have C3:=hide c3;clear m3 c3)
       | (go_at_call 53;refine (ae oH _ w2 w3 wC cp2 qH cp3 (ae M2) (ae C2) (ae M3) (ae C3)).mono ?_;rintro e w4 ⟨rfl,r4,r5,r6⟩;obtain⟨t1,t2,t3⟩:=ae HZ4 w4 r4 r6;have R4:=hide r4;have R5:=hide r5;clear r4 r5 r6))
    all_goals
     go_wp2
     go_roundg cnt'
     case measure=>omega
     case rel =>
      have c0:=ae J3
      have:=c0.lg.2.2.2.2
      have:=c0.cn
      obtain⟨V'',h''⟩:=(ae HC2).turn (ae Z5) (by rw[←ae Z7];exact⟨hk1,hop⟩) (by simp[Lit.sameKey]) (by omega) (by omega) hi hs (ae R4) (ae R5)
      exact⟨cnt',V'',_,rfl,h''⟩
   ·have HC2:=hide cl
    clear cl
    by_cases hk1:(V'.om x).kind=1
    ·have e1:((V'.om x).kind == 1)=true:=by simp[hk1]
     have e2:decide (0<(V'.om x).opn)=false:=by simp;exact Int.not_lt.1 (fun h=>hc ⟨hk1,h⟩)
     go_wp2
     go_roundg cnt'
     case measure=>omega
     case rel=>exact⟨cnt',V',_,rfl,(ae HC2).skip (ae Z5) (by rw[←ae Z7];exact hc)⟩
    ·have e1:((V'.om x).kind == 1)=false:=by simp[hk1]
     go_wp2
     go_roundg cnt'
     case measure=>omega
     case rel=>exact⟨cnt',V',_,rfl,(ae HC2).skip (ae Z5) (by rw[←ae Z7];exact hc)⟩
end Go.Proofs.YtigaphnafnpfnaaGreatDoor
