import Derived.Test.YtigaphnafnpfnaaGreatDoorQVG1
import Derived.Test.YtigaphnafnpfnaaGreatDoorQVS1
import Derived.Test.YtigaphnafnpfnaaGreatDoorQVG5
import Derived.Test.YtigaphnafnpfnaaGreatDoorQVR1
set_option linter.unusedVariables false
set_option linter.unusedSimpArgs false
set_option maxHeartbeats 8000000
set_option maxRecDepth 100000
namespace Go.Proofs.YtigaphnafnpfnaaGreatDoor
open Go.RowKit Go.Maps
attribute [local go_sem ↓] Go.wp_at_zero Go.wp_at_succ
theorem qF.seq{R:List Rc}(h:qF R):WH R:=fun i r hr=>(h i r hr).1
theorem qF.ty{G:Lg}(h:qF G.tp):WJ G:=fun r hr=>by
 obtain⟨i,hi⟩:=List.mem_iff_getElem?.1 hr
 exact (h i r hi).2
theorem KW(tr:List Tg):(eU tr).length≤tr.length:=by
 unfold eU
 rw[List.length_map]
 exact List.length_filter_le _ _
theorem LV{x:Pr}{w:World}(h:jA w x)(hN:x.N<2000000):Calls Tryz.prog 20 #[.pointer (some ⟨x.bv,0,none⟩)] w fun e w'=>∃v,e=.returned v∧w'.ownsRow w.heap.size 56 7 v (eU x.S.t).length (mf (eU x.S.t))∧ag ak w w':=by
 have h1:=h.nH.Bl
 refine (Jg x.bv x.bm x.bo x.V.lg x.V.lm w h.rep.log h.sz.sy (by omega)).mono ?_
 rintro e w' ⟨a,c,rfl,hr,k⟩
 rw[h.nH.tr,N7]at hr
 exact⟨_,rfl,by rw[h.nH.tr];exact hr,k⟩
theorem IL{x:Pr}{w:World}(h:jA w x)(hN:x.N<2000000):Calls Tryz.prog 106 #[.pointer (some ⟨x.rb,0,none⟩)] w fun e w'=>∃v,e=.returned v∧w'.ownsRow w.heap.size 56 7 v (eU x.S.t).length (mf (eU x.S.t))∧ag ak w w':=by
 have h1:=h.nH.Bl
 have h2:=h.aN
 exact PE 0 x.rb x.A x.R x.L x.av x.rv x.S w h.doc h.hist (by omega) (by rw[←h.nH.tr];omega)
theorem Ro{x:Pr}{w:World}(h:jA w x)(hN:x.N<2000000)(n:Int)(hn:n≤9223372036854775807):Calls Tryz.prog 17 #[.pointer (some ⟨x.bv,0,none⟩),.int .i64 n] w fun e w'=>∃v,e=.returned v∧w'.ownsRow w.heap.size 62 9 v (jm x.R n).length (dP (jm x.R n))∧ag ak w w':=by
 have h1:=h.nH.tpN
 obtain⟨p,hp,hp2⟩:∃p:Nat,((n≤0∧p=0)∨n=(p:Int)+1)∧p<9223372036854775807:=by
  by_cases h0:n≤0
  ·exact⟨0,.inl ⟨h0,rfl⟩,by omega⟩
  ·exact⟨(n-1).toNat,.inr (by omega),by omega⟩
 have e:=Hz h.sz.tp.seq hp
 rw[h.rt]at e
 refine (PS x.bv x.bm x.bo p n x.V.lg x.V.lm w h.rep.log h.sz.tp.ty (by omega) hp hp2).mono ?_
 rintro e2 w' ⟨a,c,rfl,hr,k⟩
 rw[h.rt]at hr ⊢
 rw[e]
 exact⟨_,rfl,hr,k⟩
theorem Po{x:Pr}{w:World}(h:jA w x)(hN:x.N<2000000)(n:Int):Calls Tryz.prog 109 #[.pointer (some ⟨x.rb,0,none⟩),.int .i64 n] w fun e w'=>∃v,e=.returned v∧w'.ownsRow w.heap.size 62 9 v (jm x.R n).length (dP (jm x.R n))∧ag ak w w':=by
 have h1:=h.nH.tpN
 exact U1 0 x.rb x.A x.R x.L x.av x.rv n w h.doc (by rw[←h.rt];omega)
theorem KR(R:List Rc)(n:Int):(jm R n).length≤R.length:=List.length_filter_le _ _
theorem Ef{w0 w:World}{wb:Nat}{X:List Pr}{Hs:List Ho}{pv hv:Value}{N:Nat}(h:PG w0 w wb X Hs pv hv N)(x:Pr)(hx:x∈X)(hN:N<2000000)(o:ji)(hk:o.kind=11)(hO:nV o) :
 Calls Tryz.prog 61 #[.pointer (some ⟨wb,0,none⟩),.agg #[.pointer (some ⟨x.bv,0,none⟩),.pointer (some ⟨x.rb,0,none⟩)],o.val] w fun e w'=>e=.returned (.bool true)∧wY w0 wb (N+1) w':=by
 obtain⟨kind,m,a,b,c,s,⟨id,owner,sym,side,ax,price,qty⟩⟩:=o
 simp only at hk
 subst hk
 have hx0:0<X.length:=List.length_pos_of_mem hx
 obtain⟨W1,hW1⟩:∃W1,W1=((w.alloc (.cells #[.pointer (some ⟨x.bv,0,none⟩),.pointer (some ⟨x.rb,0,none⟩)] 131)).alloc (.cells #[.int .i64 11,.int .i64 m,.int .i64 a,.int .i64 b,.int .i64 c,.string s,.int .i64 id,.int .i64 owner,.string sym,.int .i64 side,.int .i64 ax,.int .i64 price,.int .i64 qty] 81)):=⟨_,rfl⟩
 have k1:ag ak w W1:=by rw[hW1];exact ((ag.refl ak w).alloc _).alloc _
 have qQ:ai W1 w.heap.size #[.pointer (some ⟨x.bv,0,none⟩),.pointer (some ⟨x.rb,0,none⟩)] 131:=by rw[hW1];exact (ai.new w _ _).alloc _
 have oI:ai W1 (w.heap.size+1) #[.int .i64 11,.int .i64 m,.int .i64 a,.int .i64 b,.int .i64 c,.string s,.int .i64 id,.int .i64 owner,.string sym,.int .i64 side,.int .i64 ax,.int .i64 price,.int .i64 qty] 81:=by rw[hW1];exact ai.jR w _ _ _
 have h1:=h.aj k1
 have p1:=(h1.AP x hx)
 have hlen:(eU x.S.t).length≤1000000000:=by
  have h1:=p1.1.nH.Bl;have h2:=p1.1.nH.tr;have h3:=KW x.S.t;have h4:=p1.2;rw[h2]at h1;omega
 have uk:=hide (LV p1.1 (by have:=p1.2;omega))
 have sS:=hide p1
 have DU:=hide h1
 have zg:=hide qQ
 have vX:=hide oI
 have HW1:=hide hW1
 have HLEN:=hide hlen
 simp only[ji.val,ji.cells]
 obtain⟨ls,hls⟩:∃ls,eU x.S.t=ls:=⟨_,rfl⟩
 rw[hls]at uk HLEN
 have ZU:=hide hls
 clear h hO k1 qQ oI hW1 h1 p1 hlen hls
 go_enter Tryz.func61,Tryz.ntmps61
 go_wp2_with fail
 rw[←ae HW1]
 refine (ae uk).mono ?_
 rintro e w2 ⟨v,rfl,hlv,k2⟩
 have oP:=k2.blk (ae zg) (fun z=>z)
 have lW:=k2.blk (ae vX) (fun z=>z)
 have q1:w2.cell? ⟨w.heap.size,1,none⟩=some (.pointer (some ⟨x.rb,0,none⟩)):=oP.cell 1
 have o2:w2.cell? ⟨w.heap.size+1,2,none⟩=some (.int .i64 a):=lW.cell 2
 have lp:=oP.lt
 have lo:=lW.lt
 have jC:=hide k2
 have hC2:=IL ((ae sS).1.aj k2) (by have:=(ae sS).2;omega)
 rw[ae ZU]at hC2
 have HC2:=hide hC2
 have mV:=hide hlv
 clear k2 oP lW uk hlv hC2
 go_wp2_with fail
 refine (ae HC2).mono ?_
 rintro e w3 ⟨v2,rfl,hr2,k3⟩
 have HR2:=hide hr2
 have lV:=hide k3
 have hr1:=au (ae mV) k3 (fun _ _ z=>z)
 have HR1:=hide hr1
 have qO:=hide (Gn _ _ v v2 ls w3 hr1 hr2 (ae HLEN))
 clear k3 hr1 hr2 HC2 q1 o2 lp lo mV
 go_wp2_with fail
 refine (ae qO).mono ?_
 rintro e w4 ⟨rfl,k4⟩
 have kk:=(ae jC).trans ((ae lV).trans k4)
 have h4:=(ae DU).aj kk
 have PZ:=hide (XY wb W1.heap.size pv hv v Hs ls w4 h4.blk h4.hrow (by have:=h4.hl;omega) (au (ae HR1) k4 (fun _ _ z=>z)) (ae HLEN) kk.size (ae DU).blk.lt (fun b hb=>((ae DU).hrow.lt b hb).2))
 have HKK:=hide kk
 clear k4 kk h4 qO jC lV HR1 HR2
 go_wp2_with fail
 refine (ae PZ).mono ?_
 rintro e w5 ⟨rfl,cO,c5,n5,lv5,hv5,w6,kl,EO,hs5,k6,b6,r6,n6⟩
 have hfin:=(ae DU).eU (ae HKK) kl EO hs5 k6 b6 r6 n6
 have HF:=hide hfin
 clear hfin kl k6 b6 r6 n6 PZ
 go_wp2
 go_ret
 exact⟨by first | rfl | simp,X,_,_,_,ae HF,hx0⟩
theorem Kw{w0 w:World}{wb:Nat}{X:List Pr}{Hs:List Ho}{pv hv:Value}{N:Nat}(h:PG w0 w wb X Hs pv hv N)(x:Pr)(hx:x∈X)(hN:N<2000000)(o:ji)(hk:o.kind=12)(hO:nV o) :
 Calls Tryz.prog 61 #[.pointer (some ⟨wb,0,none⟩),.agg #[.pointer (some ⟨x.bv,0,none⟩),.pointer (some ⟨x.rb,0,none⟩)],o.val] w fun e w'=>e=.returned (.bool true)∧wY w0 wb (N+1) w':=by
 obtain⟨kind,m,a,b,c,s,⟨id,owner,sym,side,ax,price,qty⟩⟩:=o
 simp only at hk
 subst hk
 have hx0:0<X.length:=List.length_pos_of_mem hx
 obtain⟨W1,hW1⟩:∃W1,W1=((w.alloc (.cells #[.pointer (some ⟨x.bv,0,none⟩),.pointer (some ⟨x.rb,0,none⟩)] 131)).alloc (.cells #[.int .i64 12,.int .i64 m,.int .i64 a,.int .i64 b,.int .i64 c,.string s,.int .i64 id,.int .i64 owner,.string sym,.int .i64 side,.int .i64 ax,.int .i64 price,.int .i64 qty] 81)):=⟨_,rfl⟩
 have k1:ag ak w W1:=by rw[hW1];exact ((ag.refl ak w).alloc _).alloc _
 have qQ:ai W1 w.heap.size #[.pointer (some ⟨x.bv,0,none⟩),.pointer (some ⟨x.rb,0,none⟩)] 131:=by rw[hW1];exact (ai.new w _ _).alloc _
 have oI:ai W1 (w.heap.size+1) #[.int .i64 12,.int .i64 m,.int .i64 a,.int .i64 b,.int .i64 c,.string s,.int .i64 id,.int .i64 owner,.string sym,.int .i64 side,.int .i64 ax,.int .i64 price,.int .i64 qty] 81:=by rw[hW1];exact ai.jR w _ _ _
 have h1:=h.aj k1
 have p1:=(h1.AP x hx)
 have hlen:(jm x.R a).length≤1000000000:=by
  have h1:=p1.1.nH.tpN;have h2:=p1.1.rt;have h3:=KR x.R a;have h4:=p1.2;rw[h2]at h1;omega
 have uk:=hide (Ro p1.1 (by have:=p1.2;omega) a (by have:=hO.a;unfold bZ at this;simp only at this;omega))
 have sS:=hide p1
 have DU:=hide h1
 have zg:=hide qQ
 have vX:=hide oI
 have HW1:=hide hW1
 have HLEN:=hide hlen
 simp only[ji.val,ji.cells]
 obtain⟨ls,hls⟩:∃ls,jm x.R a=ls:=⟨_,rfl⟩
 rw[hls]at uk HLEN
 have ZU:=hide hls
 clear h hO k1 qQ oI hW1 h1 p1 hlen hls
 go_enter Tryz.func61,Tryz.ntmps61
 go_wp2_with fail
 rw[←ae HW1]
 refine (ae uk).mono ?_
 rintro e w2 ⟨v,rfl,hlv,k2⟩
 have oP:=k2.blk (ae zg) (fun z=>z)
 have lW:=k2.blk (ae vX) (fun z=>z)
 have q1:w2.cell? ⟨w.heap.size,1,none⟩=some (.pointer (some ⟨x.rb,0,none⟩)):=oP.cell 1
 have o2:w2.cell? ⟨w.heap.size+1,2,none⟩=some (.int .i64 a):=lW.cell 2
 have lp:=oP.lt
 have lo:=lW.lt
 have jC:=hide k2
 have hC2:=Po ((ae sS).1.aj k2) (by have:=(ae sS).2;omega) a
 rw[ae ZU]at hC2
 have HC2:=hide hC2
 have mV:=hide hlv
 clear k2 oP lW uk hlv hC2
 go_wp2_with fail
 refine (ae HC2).mono ?_
 rintro e w3 ⟨v2,rfl,hr2,k3⟩
 have HR2:=hide hr2
 have lV:=hide k3
 have hr1:=au (ae mV) k3 (fun _ _ z=>z)
 have HR1:=hide hr1
 have qO:=hide (DD _ _ v v2 ls w3 hr1 hr2 (ae HLEN))
 clear k3 hr1 hr2 HC2 q1 o2 lp lo mV
 go_wp2_with fail
 refine (ae qO).mono ?_
 rintro e w4 ⟨rfl,k4⟩
 have kk:=(ae jC).trans ((ae lV).trans k4)
 have h4:=(ae DU).aj kk
 have PZ:=hide (keepR wb W1.heap.size pv hv v Hs ls w4 h4.blk h4.hrow (by have:=h4.hl;omega) (au (ae HR1) k4 (fun _ _ z=>z)) (ae HLEN) kk.size (ae DU).blk.lt (fun b hb=>((ae DU).hrow.lt b hb).2))
 have HKK:=hide kk
 clear k4 kk h4 qO jC lV HR1 HR2
 go_wp2_with fail
 refine (ae PZ).mono ?_
 rintro e w5 ⟨rfl,cO,c5,n5,lv5,hv5,w6,kl,EO,hs5,k6,b6,r6,n6⟩
 have hfin:=(ae DU).Xt (ae HKK) kl EO hs5 k6 b6 r6 n6
 have HF:=hide hfin
 clear hfin kl k6 b6 r6 n6 PZ
 go_wp2
 go_ret
 exact⟨by first | rfl | simp,X,_,_,_,ae HF,hx0⟩
theorem G9(x:Pr)(o:ji)(w:World)(h:jA w x)(hT:Tab w)(hN:x.N<2000000)(hk:o.kind=10)(hO:nV o) :
 Calls Tryz.prog 60 #[.agg #[.pointer (some ⟨x.bv,0,none⟩),.pointer (some ⟨x.rb,0,none⟩)],o.val] w fun e w'=>e=.returned (.bool true)∧GN x w w':=by
 obtain⟨kind,m,a,b,c,s,⟨id,owner,sym,side,ax,price,qty⟩⟩:=o
 simp only at hk
 subst hk
 obtain⟨W1,hW1⟩:∃W1,W1=((((w.alloc (.cells #[.pointer (some ⟨x.bv,0,none⟩),.pointer (some ⟨x.rb,0,none⟩)] 131)).alloc (.cells #[.int .i64 10,.int .i64 m,.int .i64 a,.int .i64 b,.int .i64 c,.string s,.int .i64 id,.int .i64 owner,.string sym,.int .i64 side,.int .i64 ax,.int .i64 price,.int .i64 qty] 81)).alloc (.cells aB 87)).alloc (.cells aB 87)):=⟨_,rfl⟩
 have k1:ag ak w W1:=by rw[hW1];exact ((((ag.refl ak w).alloc _).alloc _).alloc _).alloc _
 have hs1:W1.heap.size=w.heap.size+4:=by rw[hW1];simp
 have hp1:=h.aj k1
 have qQ:ai W1 w.heap.size #[.pointer (some ⟨x.bv,0,none⟩),.pointer (some ⟨x.rb,0,none⟩)] 131:=by rw[hW1];exact (((ai.new w _ _).alloc _).alloc _).alloc _
 have oI:ai W1 (w.heap.size+1) #[.int .i64 10,.int .i64 m,.int .i64 a,.int .i64 b,.int .i64 c,.string s,.int .i64 id,.int .i64 owner,.string sym,.int .i64 side,.int .i64 ax,.int .i64 price,.int .i64 qty] 81:=by rw[hW1];exact ((ai.jR w _ _ _).alloc _).alloc _
 have Ac:ai W1 (w.heap.size+2) aB 87:=by rw[hW1];exact (ai.ru w _ _ _ _).alloc _
 have Aa:ai W1 (w.heap.size+3) aB 87:=by
  rw[hW1]
  have:=ai.new (((w.alloc (.cells #[.pointer (some ⟨x.bv,0,none⟩),.pointer (some ⟨x.rb,0,none⟩)] 131)).alloc (.cells #[.int .i64 10,.int .i64 m,.int .i64 a,.int .i64 b,.int .i64 c,.string s,.int .i64 id,.int .i64 owner,.string sym,.int .i64 side,.int .i64 ax,.int .i64 price,.int .i64 qty] 81)).alloc (.cells aB 87)) aB 87
  simpa using this
 have HC:=hide (LH x.bv x.bm x.bo x.N x.V x.p x.S W1 hp1.rep (hT.aj k1) hp1.nH (by omega) hp1.sz)
 have nf:∀b,w.heap.size≤b→¬PF x b:=fun b hb hf=>by have:=h.lt hf;omega
 have rG:=hide nf
 have sS:=hide hp1
 have zg:=hide qQ
 have vX:=hide oI
 have GV:=hide Ac
 have JZ:=hide Aa
 have kV:=hide k1
 have GL:=hide hs1
 have HW1:=hide hW1
 simp only[ji.val,ji.cells]
 simp only[aB]at HW1
 clear h hT hO k1 hs1 hp1 qQ oI Ac Aa nf hW1
 go_enter Tryz.func60,Tryz.ntmps60
 go_wp2_with fail
 rw[←ae HW1]
 refine (ae HC).mono ?_
 rintro e w2 ⟨rfl,hout⟩
 have kF:=hout.gY
 have nF:∀b,w.heap.size≤b→¬dX x.bv x.bm x.bo x.V b:=fun b hb hf=>ae rG b hb (.inl hf)
 have oP:=kF.blk (ae zg) (nF _ (by omega))
 have lW:=kF.blk (ae vX) (nF _ (by omega))
 have zb:=kF.blk (ae GV) (nF _ (by omega))
 have yb:=kF.blk (ae JZ) (nF _ (by omega))
 have q1:w2.cell? ⟨w.heap.size,1,none⟩=some (.pointer (some ⟨x.rb,0,none⟩)):=oP.cell 1
 have sQ:=hide hout
 have HZ:=hide zb
 have HY:=hide yb
 have P5:=hide kF
 clear hout kF nF oP lW zb yb HC
 go_wp2_with fail
 have Jp:Calls Tryz.prog 99 #[.pointer (some ⟨x.rb,0,none⟩),(xk).val] w2 fun e w'=>e=.returned (.tuple #[bu 0 0 0 0 0,.int .i64 0])∧DX x ak W1 w'∧ag (RF x.rb x.av x.rv) w2 w':=rZ (ae sS) hN (ae sQ) (ag.refl ak w2) (fun b hb=>hb.elim)
 refine Jp.mono ?_
 rintro e w3 ⟨rfl,hk3,kd⟩
 have bS:=kd.blk (ae HZ) (fun hr=>ae rG _ (by omega) (.inr hr))
 have yS:=kd.blk (ae HY) (fun hr=>ae rG _ (by omega) (.inr hr))
 have u0:w3.cell? ⟨w.heap.size+2,0,none⟩=some (.int .i64 0):=bS.cell 0
 have u1:w3.cell? ⟨w.heap.size+2,1,none⟩=some (.int .i64 0):=bS.cell 1
 have u2:w3.cell? ⟨w.heap.size+2,2,none⟩=some (.int .i64 0):=bS.cell 2
 have u3:w3.cell? ⟨w.heap.size+2,3,none⟩=some (.int .i64 0):=bS.cell 3
 have u4:w3.cell? ⟨w.heap.size+2,4,none⟩=some (.int .i64 0):=bS.cell 4
 have v0:w3.cell? ⟨w.heap.size+3,0,none⟩=some (.int .i64 0):=yS.cell 0
 have v1:w3.cell? ⟨w.heap.size+3,1,none⟩=some (.int .i64 0):=yS.cell 1
 have v2:w3.cell? ⟨w.heap.size+3,2,none⟩=some (.int .i64 0):=yS.cell 2
 have v3:w3.cell? ⟨w.heap.size+3,3,none⟩=some (.int .i64 0):=yS.cell 3
 have v4:w3.cell? ⟨w.heap.size+3,4,none⟩=some (.int .i64 0):=yS.cell 4
 have lu:=bS.lt
 have lv:=yS.lt
 have lV:=hide hk3
 simp only[bu]
 clear hk3 kd bS yS Jp q1
 go_wp2
 go_ret
 exact⟨by first | rfl | simp,DX.of (ae kV) (ae lV) (fun b hb=>hb.elim)⟩
end Go.Proofs.YtigaphnafnpfnaaGreatDoor
