import Derived.Test.YtigaphnafnpfnaaGreatDoorQNV8
set_option linter.unusedVariables false
set_option linter.unusedSimpArgs false
set_option maxHeartbeats 8000000
set_option maxRecDepth 100000
namespace Go.Proofs.YtigaphnafnpfnaaGreatDoor
open Go.RowKit Go.Maps Go.Lib
attribute [local go_sem ↓] Go.wp_at_zero Go.wp_at_succ
theorem aar(bv bm bo:Nat)(V:aS)(s:ByteArray)(w:World)(bk:Nat->Nat)(R:dS w bv bm bo V)(hn:tH s true)(hlen:s.size<=100)(hfree:∀i,i<V.nb->(V.B i).sym≠s)(hnb:V.nb<6)(hna:V.lg.ud+V.lg.na<3000000)(hpl:Hid (V.lg.pl=⟨#[108,105,115,116,32]⟩++s)) :
 CT 27 #[PP bv,.string s] w fun e w'=>∃b bM,e=.returned (II 0)/\w.heap.size<=b/\dS w' bv bm bo (V.di s b bM)/\aj (fun x=>x=bm\/x=bv\/V.lm.F x) w w'/\(∀x,bM.F x->V.lm.F x\/w.heap.size<=x)/\∃cl,iw w' bv bk w.heap.size true (V.lm.ac.map Prod.snd) [.di s] V.lm.tb bM cl:=by
 have hml:s.size<=maxLen:=by unfold maxLen;omega
 obtain⟨fB,mB,qh,uM⟩:=R.iM;have hl:fB (sl s)=none:=by
  cases h:fB (sl s) with
  | none=>rfl
  | some b =>
    obtain⟨i,hi,_,h2⟩:=uM s b h;exact absurd h2 (hfree i hi)
 have hK:∀w',aj aJ w w'->(Instr.lookup 94 (.map (some bm)) (.string s) false).run Tryz.prog w'=.ok (.pointer none) w'/\w'.cell? ⟨bv,0,none⟩=some (.map (some bm))/\(∀ty,(Builtin.len_ #[94] ty #[.map (some bm)]).run Tryz.prog w'=.ok (II V.nb) w'):=fun w' k=>by
  refine⟨?_,(k.aF R.dC aU).cell 0,fun ty=>(mB.aC k aU).len Tryz.underlying94 ty⟩;rw[(mB.aC k aU).look zV Tryz.underlying94 (qA _) (WideMaps.keyOf_string_mk Tryz.underlying9 hml)];show _=Result.ok (ji none) _;rw[<-hl];rfl
 have mbS:¬(bm=bv\/V.lm.F bm):=by
  rintro (e | e)
  ·exact mB.ne R.dC e
  ·obtain⟨c,t',hc,_⟩:=R.aP.aP.gK e;exact mB.ne hc rfl
 have Ce:∀x,w.heap.size<=x->¬(x=bv\/V.lm.F x):=by
  rintro x hx (e | e)
  ·have:=R.dC.lt;omega
  ·have:=R.aP.aP.lt e;omega
 have hU:∀w' b,aj (fun x=>x=bv\/V.lm.F x) w w'->∃w'',(Instr.mapUpdate 94 (.map (some bm)) (.string s) (PP b)).run Tryz.prog w'=.ok () w''/\kG w'' 9 bm (Ed fB (sl s) b) (V.nb+1)/\aj (fun i=>i=bm) w' w'':=fun w' b k =>
  (mB.aC k mbS).put zV Tryz.underlying94 (by unfold maxLen;omega) (WideMaps.keyOf_string_mk Tryz.underlying9 hml) trivial hl
 have abj:∀w',aj aJ w w'->CT 51 #[PP bv,.string (⟨#[108,105,115,116,32]⟩++s)] w' fun e w''=>e=.returned (.tuple #[])/\∃m',bG w'' bv bm bo V.lg.begun m'/\(∀b,m'.F b->V.lm.F b\/w'.heap.size<=b)/\aj (fun b=>b=bv\/V.lm.F b) w' w''/\(m'.tb=V.lm.tb/\m'.tv=V.lm.tv)/\m'.ac.map Prod.snd=V.lm.ac.map Prod.snd++[[]]:=fun w' k=>by
  refine (oK bv bm bo V.lg V.lm _ w' (R.aP.aB k) hna (by rw[ByteArray.size_append];show 0<5+s.size;omega) (by rw[ByteArray.size_append];show 5+s.size<=290;omega) (ae hpl) w' (aj.refl aJ w')).mono ?_;rintro e w'' ⟨rfl,m',h1,h2,h3,h4,-,h5⟩;exact⟨rfl,m',h1,h2,h3,h4,h5⟩
 have fin:∀b wb l9 w3 w4 w5 vw,bG wb bv bm bo V.lg.begun l9->aj (fun x=>x=bv\/V.lm.F x) w wb->(∀x,l9.F x->V.lm.F x\/w.heap.size<=x)->wb.heap.size<=b->aj aJ wb w3->aA w3 b (lS s).cells 158->kG w4 9 bm (Ed fB (sl s) b) (V.nb+1)->aj (fun i=>i=bm) w3 w4 ->
  bG w5 bv bm bo (V.lg.begun.aX [.di s]) vw->(∀x,vw.F x->l9.F x\/w4.heap.size<=x)->aj (fun x=>l9.F x) w4 w5 ->
  w.heap.size<=b/\dS w5 bv bm bo (V.di s b vw)/\aj (fun x=>x=bm\/x=bv\/V.lm.F x) w w5/\(∀x,vw.F x->V.lm.F x\/w.heap.size<=x):=by
  intro b wb l9 w3 w4 w5 vw hLb kb sW hb k3 hblk m4 k4 hL5 Qd k5;have Rb:dS wb bv bm bo { V with lg:=V.lg.begun,lm:=l9 }:=R.jM hLb kb;have kk:=k3.bI.trans k4;have mBb:=mB.aC kb mbS;have R4:dS w4 bv bm bo (aS.list { V with lg:=V.lg.begun,lm:=l9 } s b):=Rb.list hb (k4.aF hblk (Ne.symm ((mBb.aC k3 aU).ne hblk))) kk hfree ⟨_,m4,EX trivial,fB,mBb,qh,uM,fun s' h=>Ci trivial (fun e=>h (Vh e))⟩;have R5:=R4.jM hL5 (k5.mono (fun x h=>.inr h));have kw4:aj (fun x=>x=bm\/x=bv\/V.lm.F x) w w4:=(kb.mono (fun x h=>.inr h)).trans (kk.mono (fun x h=>.inl h));refine⟨Nat.le_trans kb.size hb,R5,kw4.from (k5.mono (fun x h=>(sW x h).imp_left (fun h=>.inr (.inr h)))),fun x hx=>?_⟩;rcases Qd x hx with h | h
  ·exact sW x h
  ·exact .inr (Nat.le_trans kw4.size h)
 have hV:∀wb l9 w3 w4,bG wb bv bm bo V.lg.begun l9->aj (fun x=>x=bv\/V.lm.F x) w wb->aj aJ wb w3->aj (fun i=>i=bm) w3 w4->w3.cell? ⟨bv,0,none⟩=some (.map (some bm))/\w4.cell? ⟨bv,0,none⟩=some (.map (some bm))/\bG w4 bv bm bo V.lg.begun l9/\(∀{b c t},aA w3 b c t->aA w4 b c t):=fun wb l9 w3 w4 hLb kb k3 k4=>by
  have m3:=(mB.aC kb mbS).aC k3 aU;have bl:∀{b c t},aA w3 b c t->aA w4 b c t:=fun h=>k4.aF h (Ne.symm (m3.ne h))
  have h3:=k3.aF hLb.dC aU;refine⟨h3.cell 0,(bl h3).cell 0,(hLb.aB k3).aC k4 (Ne.symm (m3.ne h3)) (fun y hy e=>?_),bl⟩;obtain⟨c,t',hc,_⟩:=(hLb.aB k3).aP.gK hy;exact m3.ne hc e.symm
 obtain⟨HV,HK,HU,HF,HBg,HO⟩:=zC hV hK hU fin abj Ce;have e6:decide ((6:Int)<=(V.nb:Int))=false:=by simp;omega
 clear hV hK hU fin hl mB qh uM R hfree hnb abj Ce mbS;have c1:=xw (P:=Tryz.prog) ⟨#[108,105,115,116,32]⟩ s (by show 5+s.size<=1000000;omega);go_enter Tryz.func27,Tryz.ntmps27;go_wp2_with fail;refine (hn _).mono ?_;rintro e w1 ⟨rfl,k1⟩;have b1:=k1.aF (aA.new w #[PP bv] 35) aU;have k01:=((aj.refl aJ w).alloc (.cells #[PP bv] 35)).trans k1;have xb1:CC w1 w.heap.size 0 (PP bv):=b1.cell 0;obtain⟨L1,v0,L3⟩:=ae HK w1 k01;clear k1;go_wp2_with fail;refine (yJ s w1 (by omega)).mono ?_;rintro e w2 ⟨rfl,k2⟩;clear L1 v0 L3 xb1;have k12:=k01.trans k2;have b2:=k2.aF b1 aU;have xb2:CC w2 w.heap.size 0 (PP bv):=b2.cell 0;obtain⟨w2a,TZ⟩:=kL (w2.alloc (.cells #[.string s] 9));have k2a:aj aJ w w2a:=by rw[TZ];exact k12.alloc _
 have b2a:aA w2a w.heap.size #[PP bv] 35:=by rw[TZ];exact b2.alloc _
 have o2a:aA w2a w2.heap.size #[.string s] 9:=by rw[TZ];exact aA.new _ _ _
 obtain⟨HW,nY⟩:=dE TZ (ae HBg w2a k2a);have l2:=b2.lt;have adq:=k12.size;clear TZ;go_wp2_with fail;rw[<-ae HW];refine (ae nY).mono ?_;rintro e wb ⟨rfl,l9,hLb,sW,kb,htb,hac⟩;obtain⟨Zf,HAc⟩:=dE htb hac;clear htb hac;have bb:=kb.aF b2a (ae HO _ (Nat.le_refl _));have ob:=kb.aF o2a (ae HO _ (by omega));have MW:=k2a.bI.trans kb;have yM:∀x,l9.F x->V.lm.F x\/w.heap.size<=x:=fun x h=>(sW x h).imp_right (fun h=>Nat.le_trans k2a.size h)
 have xb:CC wb w.heap.size 0 (PP bv):=bb.cell 0;have ox:CC wb w2.heap.size 0 (.string s):=ob.cell 0;have vb:CC wb bv 0 (.map (some bm)):=hLb.dC.cell 0;obtain⟨HLb,Pz,Yg,Wy,WH⟩:=BD hLb MW yM bb ob;clear hLb MW sW yM kb k2a k12 k01 k2 b1 b2 b2a o2a HW nY bb ob xb2;go_wp2;go_region_held3 (fun w'=>w'.cell? ⟨bv,0,none⟩=some (.map (some bm))/\w'.cell? ⟨w.heap.size,0,none⟩=some (PP bv)/\w'.cell? ⟨w2.heap.size,0,none⟩=some (.string s)) (go_keep)
  (first | (go_at_call 52;refine (IG s _).mono ?_;rintro e w3 ⟨rfl,hb3,k3⟩;have OM:aj aJ wb w3:=((aj.refl aJ wb).drew).trans k3;obtain⟨w4,hU4,m4,k4⟩:=ae HU w3 wb.heap.size ((ae Pz).trans OM.bI);obtain⟨v3,v4,HL4,bl⟩:=ae HV wb l9 w3 w4 (ae HLb) (ae Pz) OM k4;have q3:=OM.aF (ae Wy) aU;have p3:=OM.aF (ae WH) aU;have xb3:CC w3 w.heap.size 0 (PP bv):=q3.cell 0;have ox3:CC w3 w2.heap.size 0 (.string s):=p3.cell 0;have xb4:CC w4 w.heap.size 0 (PP bv):=(bl q3).cell 0;have ox4:CC w4 w2.heap.size 0 (.string s):=(bl p3).cell 0))
 have rZ:=au (nJ bv bm bo V.lg.begun l9 (.di s) (.func 54) #[PP w.heap.size,PP w2.heap.size] w4 bk w.heap.size true _ _ _ HL4 (iw.begun (ae Zf) (ae HAc)) (fun _=>rfl) ⟨_,_,rfl,rfl,w.heap.size,w2.heap.size,Nat.le_refl _,adq,rfl,bl q3,bl p3⟩ (by show 0<V.lg.na+1;omega) (by show V.lg.na+1<=3000000;omega) (by show 0+1<1000000000;omega));clear HL4;go_wp2_with fail;refine (ae rZ).mono ?_;rintro e w5 ⟨rfl,vw,hL5,Qd,k5,-,c5⟩;go_wp2;go_ret;obtain⟨z1,z2,z3,z4⟩:=ae HF _ wb l9 w3 w4 w5 vw (ae HLb) (ae Pz) (ae Yg) (Nat.le_refl _) OM hb3 m4 k4 hL5 Qd (k5.mono (fun b h=>DR h));exact⟨wb.heap.size,vw,rfl,z1,z2,z3,z4,_,c5⟩
open Go.RowKit Go.Maps
theorem O7(tmps:Array Value)(H:Nat)(w:World)(o:iT)(ht:tmps.getD 4 undef=PP H)(hb:aA w H (DW o) 52) :
 (results Tryz.f63 tmps).run Tryz.prog w=.ok o.val w:=by
 obtain⟨c0,c1,c2,c3,c4,c5,c6⟩:=hb.c7;simp only[Array.getD_eq_getD_getElem?]at ht;simp[results,Tryz.results63,go_sem,ht,c0,c1,c2,c3,c4,c5,c6,iT.val]
structure bV(D:Nat)(ao:Option Addr)(len cap:Nat)(zs:Nat->Int)(base P bv n:Nat)(acts:Int)(w W:World):Prop where
 dc:Dc D ao len cap zs base W
 gX:aA W P #[PP bv,II n,II acts] 37
 res:aA W w.heap.size #[II 0,II 0,.string ⟨#[]⟩,II 0,II 0,II 0,II 0] 52
 jV:aj (fun x=>x=D) w W
 cell:W.cell? ⟨P,1,none⟩=some (II n)
 dw:D<w.heap.size
section
variable {D : Nat} {ao : Option Addr} {len cap : Nat} {zs : Nat -> Int} {base P bv n : Nat} {acts : Int} {w W : World}
theorem bV.alloc(h:bV D ao len cap zs base P bv n acts w W)(o:Obj):bV D ao len cap zs base P bv n acts w (W.alloc o) :=
 ⟨h.dc.Jn ((aj.refl aJ W).alloc _),h.gX.alloc _,h.res.alloc _,h.jV.alloc _,(h.gX.alloc _).cell 1,h.dw⟩
theorem bV.drew(h:bV D ao len cap zs base P bv n acts w W):bV D ao len cap zs base P bv n acts w W.drew :=
 ⟨h.dc.Jn (aj.refl aJ W).drew,h.gX.drew,h.res.drew,h.jV.drew,h.cell,h.dw⟩
end
structure bH(D:Nat)(W:World)(b:Nat):Prop where
 cells:∀j,j<9->W.cell? ⟨b,j,none⟩=some (II (fG j))
 ne:b≠D
 lt:b<W.heap.size
theorem bH.new{D:Nat}{ao:Option Addr}{len cap:Nat}{zs:Nat->Int}{base P bv n:Nat}{acts:Int}{w W:World}(h:bV D ao len cap zs base P bv n acts w W):bH D (W.alloc (.cells #[II 0,II 0,II 0,II 0,II 1,II 2,II 3,II 4,II 5] 3)) W.heap.size:=by
 obtain⟨a,ha,hb⟩:=h.dc.xx;have:=hb.lt;exact⟨fun j hj=>(aA.cell (aA.new W _ _) j).trans (Qn hj),by omega,(aA.new W _ _).lt⟩
theorem bH.alloc{D:Nat}{W:World}{b:Nat}(h:bH D W b)(o:Obj):bH D (W.alloc o) b :=
 ⟨fun j hj=>((aj.refl aJ W).alloc o).cell (h.cells j hj) aU,h.ne,by have:=h.lt;simp;omega⟩
theorem bH.bJ{D:Nat}{W w':World}{b:Nat}(h:bH D W b)(k:aj (fun x=>x=D) W w'):bH D w' b :=
 ⟨fun j hj=>k.cell (h.cells j hj) h.ne,h.ne,Nat.lt_of_lt_of_le h.lt k.size⟩
structure bu(D:Nat)(w W:World)(b:Nat):Prop where
 aF:aA W b #[II 0,II 0,.string ⟨#[]⟩,II 0,II 0,II 0,II 0] 52
 ne:b≠D
 new:w.heap.size<b
theorem bu.make{D:Nat}{ao:Option Addr}{len cap:Nat}{zs:Nat->Int}{base P bv n:Nat}{acts:Int}{w W:World}(h:bV D ao len cap zs base P bv n acts w W):bu D w (W.alloc (.cells #[II 0,II 0,.string ⟨#[]⟩,II 0,II 0,II 0,II 0] 52)) W.heap.size:=by
 obtain⟨a,ha,hb⟩:=h.dc.xx;have:=hb.lt;have:=h.res.lt;exact⟨aA.new W _ _,by omega,by omega⟩
theorem bu.alloc{D:Nat}{w W:World}{b:Nat}(h:bu D w W b)(o:Obj):bu D w (W.alloc o) b:=⟨h.aF.alloc _,h.ne,h.new⟩
theorem bu.bJ{D:Nat}{w W w':World}{b:Nat}(h:bu D w W b)(k:aj (fun x=>x=D) W w'):bu D w w' b:=⟨k.aF h.aF h.ne,h.ne,h.new⟩
theorem bu.cells{D:Nat}{w W:World}{b:Nat}(h:bu D w W b):(W.cell? ⟨b,0,none⟩=some (II 0)/\W.cell? ⟨b,1,none⟩=some (II 0)/\W.cell? ⟨b,2,none⟩=some (.string ⟨#[]⟩)/\W.cell? ⟨b,3,none⟩=some (II 0)/\W.cell? ⟨b,4,none⟩=some (II 0)/\W.cell? ⟨b,5,none⟩=some (II 0)/\W.cell? ⟨b,6,none⟩=some (II 0)) /\
 (W.frozen? ⟨b,0,none⟩=false/\W.frozen? ⟨b,1,none⟩=false/\W.frozen? ⟨b,2,none⟩=false/\W.frozen? ⟨b,3,none⟩=false/\W.frozen? ⟨b,4,none⟩=false/\W.frozen? ⟨b,5,none⟩=false/\W.frozen? ⟨b,6,none⟩=false)/\b<W.heap.size :=
 ⟨⟨h.aF.cell 0,h.aF.cell 1,h.aF.cell 2,h.aF.cell 3,h.aF.cell 4,h.aF.cell 5,h.aF.cell 6⟩,⟨h.aF.frozen 0,h.aF.frozen 1,h.aF.frozen 2,h.aF.frozen 3,h.aF.frozen 4,h.aF.frozen 5,h.aF.frozen 6⟩,h.aF.lt⟩
theorem bg(D:Nat)(ao:Option Addr)(len cap:Nat)(zs:Nat->Int)(base P bv n:Nat)(acts:Int)(w W:World)(m:Int)(h:bV D ao len cap zs base P bv n acts w W)(h1:0<m)(h2:m<=1000000) :
 CT 35 #[PP D,II m] W fun e w'=>∃v:Nat,e=.returned (II (v:Int))/\(v:Int)<m/\bV D ao len cap zs base P bv n acts w w'/\aj (fun x=>x=D) W w':=by
 refine (Gy D ao len cap zs base m W h.dc h1 h2).mono ?_;rintro e w' ⟨v,rfl,hv,hd,k⟩;obtain⟨a,ha,hb⟩:=h.dc.xx;have hp:=k.aF h.gX (aA.ne h.gX hb (by decide));exact⟨v,rfl,hv,⟨hd,hp,k.aF h.res (aA.ne h.res hb (by decide)),h.jV.trans k,hp.cell 1,h.dw⟩,k⟩
noncomputable def az:Array Oper:=match Tryz.f63.body with | some (.seq _ (.seq (.region _ ops _) _))=>ops | _=>#[]
theorem bV.set{D:Nat}{ao:Option Addr}{len cap:Nat}{zs:Nat->Int}{base P bv n:Nat}{acts:Int}{w W:World}(h:bV D ao len cap zs base P bv n acts w W){b:Nat}{c:Array Value}(hb:aA W b c 52)(hbw:w.heap.size<b)(i:Nat)(u:Value):bV D ao len cap zs base P bv n acts w (W.setCell ⟨b,i,none⟩ u)/\aA (W.setCell ⟨b,i,none⟩ u) b (c.setIfInBounds i u) 52:=by
 obtain⟨a,ha,hd⟩:=h.dc.xx;have k:aj (fun x=>x=b) W (W.setCell ⟨b,i,none⟩ u):=(aj.refl (fun x=>x=b) W).setCell (p:=⟨b,i,none⟩) (.inl rfl) u;have hp:=k.aF h.gX (fun e=>aA.ne h.gX hb (by decide) e);refine⟨⟨h.dc.bJ k (fun e=>aA.ne hd hb (by decide) e) (fun x e=>?_),hp,k.aF h.res (by omega),h.jV.setCell (p:=⟨b,i,none⟩) (.inr (by show w.heap.size<=b;omega)) u,hp.cell 1,h.dw⟩,hb.set i u⟩;have:=h.dc.bD;have:=h.dw;omega
theorem J4{D:Nat}{ao:Option Addr}{len cap:Nat}{zs:Nat->Int}{base P bv n:Nat}{acts:Int}{w W:World}{b:Nat}{a0 a1 a2 a3 a4 a5 a6:Value}(h:bV D ao len cap zs base P bv n acts w W)(hO:bu D w W b) :
 bV D ao len cap zs base P bv n acts w (((((((W.setCell ⟨b,0,none⟩ a0).setCell ⟨b,1,none⟩ a1).setCell ⟨b,2,none⟩ a2).setCell ⟨b,3,none⟩ a3).setCell ⟨b,4,none⟩ a4).setCell ⟨b,5,none⟩ a5).setCell ⟨b,6,none⟩ a6)/\aA (((((((W.setCell ⟨b,0,none⟩ a0).setCell ⟨b,1,none⟩ a1).setCell ⟨b,2,none⟩ a2).setCell ⟨b,3,none⟩ a3).setCell ⟨b,4,none⟩ a4).setCell ⟨b,5,none⟩ a5).setCell ⟨b,6,none⟩ a6) b #[a0,a1,a2,a3,a4,a5,a6] 52:=by
 obtain⟨r0,b0⟩:=h.set hO.aF hO.new 0 a0;obtain⟨r1,b1⟩:=r0.set b0 hO.new 1 a1;obtain⟨r2,b2⟩:=r1.set b1 hO.new 2 a2;obtain⟨r3,b3⟩:=r2.set b2 hO.new 3 a3;obtain⟨r4,b4⟩:=r3.set b3 hO.new 4 a4;obtain⟨r5,b5⟩:=r4.set b4 hO.new 5 a5;obtain⟨r6,b6⟩:=r5.set b5 hO.new 6 a6;exact⟨r6,b6⟩
def dF(D:Nat)(ao:Option Addr)(len cap:Nat)(zs:Nat->Int)(base P bv n:Nat)(acts:Int)(w:World)(Q:Exit->Act->World->Prop):Prop :=
 (∀(v1 v2 v3 v4 v5 Bs Bo:Nat) (W:World),(v1:Int)<4->(v2:Int)<2->(v3:Int)<9->(v4:Int)<10->(v5:Int)<9->bV D ao len cap zs base P bv n acts w W->Bo≠D->w.heap.size<Bo ->
   aA W Bo #[II (IntKind.i64.wrap ((n:Int)+1)),II (v1:Int),.string ⟨#[65]⟩,II (v2:Int),II (fG v3),II (IntKind.i64.wrap (95+(v4:Int))),II (IntKind.i64.wrap (1+(v5:Int)))] 52 ->
   Q .normal ⟨((PP P) :: (PP D) :: (undef) :: (undef) :: (PP w.heap.size) :: (PP Bo) :: (PP P) :: (PP P) :: (.pointer (some ⟨P,1,none⟩)) :: (II (n:Int)) :: (II (IntKind.i64.wrap ((n:Int)+1))) :: (PP D) :: (II (v1:Int)) :: (PP D) :: (II (v2:Int)) :: (.slice (some ⟨Bs,0,none⟩) 9 9) :: (PP D) :: (II (v3:Int)) :: (.pointer (some ⟨Bs,v3,none⟩)) :: (II (fG v3)) :: (PP D) :: (II (v4:Int)) :: (II (IntKind.i64.wrap (95+(v4:Int)))) :: (PP D) :: (II (v5:Int)) :: (II (IntKind.i64.wrap (1+(v5:Int)))) :: (.agg #[II (IntKind.i64.wrap ((n:Int)+1)),II (v1:Int),.string ⟨#[65]⟩,II (v2:Int),II (fG v3),II (IntKind.i64.wrap (95+(v4:Int))),II (IntKind.i64.wrap (1+(v5:Int)))]) :: (undef) :: (undef) :: (undef) :: (undef) :: (undef) :: (undef) :: (undef) :: (undef) :: (undef) :: []).toArray,[]⟩ W)/\∀x (a:Act) d v W,Q (.panic x) (a.put d v) W->Q (.panic x) a W
end Go.Proofs.YtigaphnafnpfnaaGreatDoor
