import Derived.Test.YtigaphnafnpfnaaGreatDoorQVG1
import Derived.Test.YtigaphnafnpfnaaGreatDoorQVR1
set_option linter.unusedVariables false
set_option linter.unusedSimpArgs false
set_option maxHeartbeats 8000000
set_option maxRecDepth 100000
namespace Go.Proofs.YtigaphnafnpfnaaGreatDoor
open Go.RowKit Go.Maps
attribute [local go_sem ↓] Go.wp_at_zero Go.wp_at_succ
theorem IM{x:Pr}{w:World}(h:jA w x)(hN:x.N<2000000)(id:Int)(hwf:(Lit.int .i64 id).wf=true):∃(o:Ord) (E:Int),(∀W,ag ak w W→Calls Tryz.prog 26 #[.pointer (some ⟨x.bv,0,none⟩),.int .i64 id] W fun e w'=>e=.returned (.tuple #[.agg (nI o),.int .i64 E])∧ag ak W w')∧(∀W,ag ak w W→Calls Tryz.prog 101 #[.pointer (some ⟨x.rb,0,none⟩),.int .i64 id] W fun e w'=>e=.returned (.tuple #[.agg (nI o),.int .i64 E])∧ag ak W w'):=by
 have hlen:x.S.l.length≤1000:=by have:=h.nH.no;have:=h.nH.eF;omega
 have hA:=h.aN
 have hf:=h.nH.found id
 cases hx:fK x.S.l id with
 | none =>
   rw[hx]at hf
   exact⟨⟨0,0,⟨#[]⟩,0,0,0,0,0,0,0,0,0,0⟩,6,fun W k=>Gu x.bv x.bm x.bo x.V id W (h.rep.aj k) hwf hf,fun W k=>Dy 0 x.rb x.A x.R x.L x.av x.rv x.S id W (h.doc.aj k) h.hist (by omega) hlen hx⟩
 | some j =>
   rw[hx]at hf
   have hj:=(gV hx).1
   obtain⟨e1,e2,e3,e4,e5,e6,e7,e8,e9,e10,e11,e12⟩:=dI (h.nH.same j hj)
   have hst:nI (x.V.om (x.p j))=nI (ah x.S.l j):=by simp only[nI,e1,e2,e3,e4,e5,e6,e7,e8,e9,e10,e11,e12]
   refine⟨ah x.S.l j,0,fun W k=>?_,fun W k=>Dz 0 x.rb j x.A x.R x.L x.av x.rv x.S id W (h.doc.aj k) h.hist (by omega) hlen hx⟩
   rw[←hst]
   refine Gv x.bv x.bm x.bo (x.p j) x.V id W (h.rep.aj k) hwf hf ?_
   obtain⟨i,hi,e⟩:=h.nH.gw.sym (x.p j) ⟨id,hf⟩
   rw[e]
   have:=h.sz.sz i hi
   omega
theorem Ee(x:Pr)(o:ji)(wv:Value)(w:World)(h:jA w x)(hN:x.N<2000000)(hk:o.kind=6)(hO:nV o) :
 Calls Tryz.prog 61 #[wv,.agg #[.pointer (some ⟨x.bv,0,none⟩),.pointer (some ⟨x.rb,0,none⟩)],o.val] w fun e w'=>e=.returned (.bool true)∧ag ak w w':=by
 obtain⟨kind,m,a,b,c,s,⟨id,owner,sym,side,ax,price,qty⟩⟩:=o
 simp only at hk
 subst hk
 obtain⟨st,E,H1,H2⟩:=IM h hN a (Cc hO.a)
 obtain⟨s0,s1,s2,s3,s4,s5,s6,s7,s8,s9,s10,s11,s12⟩:=st
 simp only[nI]at H1 H2
 obtain⟨W1,hW1⟩:∃W1,W1=((w.alloc (.cells #[.pointer (some ⟨x.bv,0,none⟩),.pointer (some ⟨x.rb,0,none⟩)] 131)).alloc (.cells #[.int .i64 6,.int .i64 m,.int .i64 a,.int .i64 b,.int .i64 c,.string s,.int .i64 id,.int .i64 owner,.string sym,.int .i64 side,.int .i64 ax,.int .i64 price,.int .i64 qty] 81)):=⟨_,rfl⟩
 have k1:ag ak w W1:=by rw[hW1];exact ((ag.refl ak w).alloc _).alloc _
 have qQ:ai W1 w.heap.size #[.pointer (some ⟨x.bv,0,none⟩),.pointer (some ⟨x.rb,0,none⟩)] 131:=by rw[hW1];exact (ai.new w _ _).alloc _
 have oI:ai W1 (w.heap.size+1) #[.int .i64 6,.int .i64 m,.int .i64 a,.int .i64 b,.int .i64 c,.string s,.int .i64 id,.int .i64 owner,.string sym,.int .i64 side,.int .i64 ax,.int .i64 price,.int .i64 qty] 81:=by rw[hW1];exact ai.jR w _ _ _
 have uk:=hide (H1 W1 k1)
 have HC2:=hide H2
 have zg:=hide qQ
 have vX:=hide oI
 have kV:=hide k1
 have HW1:=hide hW1
 simp only[ji.val,ji.cells]
 clear h hO k1 qQ oI hW1 H1 H2
 go_enter Tryz.func61,Tryz.ntmps61
 go_wp2_with fail
 rw[←ae HW1]
 refine (ae uk).mono ?_
 rintro e w2 ⟨rfl,k2⟩
 have oP:=k2.blk (ae zg) (fun z=>z)
 have lW:=k2.blk (ae vX) (fun z=>z)
 have q1:w2.cell? ⟨w.heap.size,1,none⟩=some (.pointer (some ⟨x.rb,0,none⟩)):=oP.cell 1
 have o2:w2.cell? ⟨w.heap.size+1,2,none⟩=some (.int .i64 a):=lW.cell 2
 have lp:=oP.lt
 have lo:=lW.lt
 have jC:=hide k2
 clear k2 oP lW uk
 go_wp2_with fail
 have k3:ag ak w2 (w2.alloc (.cells #[.int .i64 s0,.int .i64 s1,.string s2,.int .i64 s3,.int .i64 s4,.int .i64 s5,.int .i64 s6,.int .i64 s7,.int .i64 s8,.int .i64 s9,.int .i64 s10,.int .i64 s11] 54)):=(ag.refl ak w2).alloc _
 refine (ae HC2 _ (((ae kV).trans (ae jC)).trans k3)).mono ?_
 rintro e w4 ⟨rfl,k4⟩
 have bs:=k4.blk (ai.new w2 _ _) (fun z=>z)
 have d0:w4.cell? ⟨w2.heap.size,0,none⟩=some (.int .i64 s0):=bs.cell 0
 have d1:w4.cell? ⟨w2.heap.size,1,none⟩=some (.int .i64 s1):=bs.cell 1
 have d2:w4.cell? ⟨w2.heap.size,2,none⟩=some (.string s2):=bs.cell 2
 have d3:w4.cell? ⟨w2.heap.size,3,none⟩=some (.int .i64 s3):=bs.cell 3
 have d4:w4.cell? ⟨w2.heap.size,4,none⟩=some (.int .i64 s4):=bs.cell 4
 have d5:w4.cell? ⟨w2.heap.size,5,none⟩=some (.int .i64 s5):=bs.cell 5
 have d6:w4.cell? ⟨w2.heap.size,6,none⟩=some (.int .i64 s6):=bs.cell 6
 have d7:w4.cell? ⟨w2.heap.size,7,none⟩=some (.int .i64 s7):=bs.cell 7
 have d8:w4.cell? ⟨w2.heap.size,8,none⟩=some (.int .i64 s8):=bs.cell 8
 have d9:w4.cell? ⟨w2.heap.size,9,none⟩=some (.int .i64 s9):=bs.cell 9
 have d10:w4.cell? ⟨w2.heap.size,10,none⟩=some (.int .i64 s10):=bs.cell 10
 have d11:w4.cell? ⟨w2.heap.size,11,none⟩=some (.int .i64 s11):=bs.cell 11
 have ls:=bs.lt
 have zh:=hide (((ae kV).trans (ae jC)).trans (k3.trans k4))
 clear k3 k4 bs q1 o2 lp lo HC2 zg vX
 go_wp2
 go_ret
 exact⟨by first | rfl | simp,(ae zh).trans ((ag.refl ak w4).alloc _)⟩
theorem Bv.len{S:RS}{sym:ByteArray}{side:Int}{ls:List fJ}{E:Int}(h:Bv S sym side ls E):ls.length≤200:=by
 rcases h with⟨_,rfl,_⟩ | ⟨_,rfl,_⟩ | ⟨_,_,_,_,h⟩
 ·simp
 ·simp
 ·exact h
theorem Kv{w0 w:World}{wb:Nat}{X:List Pr}{Hs:List Ho}{pv hv:Value}{N:Nat}(h:PG w0 w wb X Hs pv hv N)(x:Pr)(hx:x∈X)(hN:N<2000000)(o:ji)(hk:o.kind=7)(hO:nV o) :
 Calls Tryz.prog 61 #[.pointer (some ⟨wb,0,none⟩),.agg #[.pointer (some ⟨x.bv,0,none⟩),.pointer (some ⟨x.rb,0,none⟩)],o.val] w fun e w'=>e=.returned (.bool true)∧wY w0 wb (N+1) w':=by
 obtain⟨kind,m,a,b,c,s,⟨id,owner,sym,side,ax,price,qty⟩⟩:=o
 simp only at hk
 subst hk
 have hs:s.size≤1000000000:=by have:=hO.s;simp only at this;omega
 have hx0:0<X.length:=List.length_pos_of_mem hx
 obtain⟨W1,hW1⟩:∃W1,W1=((w.alloc (.cells #[.pointer (some ⟨x.bv,0,none⟩),.pointer (some ⟨x.rb,0,none⟩)] 131)).alloc (.cells #[.int .i64 7,.int .i64 m,.int .i64 a,.int .i64 b,.int .i64 c,.string s,.int .i64 id,.int .i64 owner,.string sym,.int .i64 side,.int .i64 ax,.int .i64 price,.int .i64 qty] 81)):=⟨_,rfl⟩
 have k1:ag ak w W1:=by rw[hW1];exact ((ag.refl ak w).alloc _).alloc _
 have qQ:ai W1 w.heap.size #[.pointer (some ⟨x.bv,0,none⟩),.pointer (some ⟨x.rb,0,none⟩)] 131:=by rw[hW1];exact (ai.new w _ _).alloc _
 have oI:ai W1 (w.heap.size+1) #[.int .i64 7,.int .i64 m,.int .i64 a,.int .i64 b,.int .i64 c,.string s,.int .i64 id,.int .i64 owner,.string sym,.int .i64 side,.int .i64 ax,.int .i64 price,.int .i64 qty] 81:=by rw[hW1];exact ai.jR w _ _ _
 have h1:=h.aj k1
 have p1:=(h1.AP x hx)
 have uk:=hide (Rn p1.1 (by omega) s a hs)
 have sS:=hide p1
 have DU:=hide h1
 have zg:=hide qQ
 have vX:=hide oI
 have HW1:=hide hW1
 simp only[ji.val,ji.cells]
 clear h hO k1 qQ oI hW1 h1 p1
 go_enter Tryz.func61,Tryz.ntmps61
 go_wp2_with fail
 rw[←ae HW1]
 refine (ae uk).mono ?_
 rintro e w2 ⟨v,ls,E,rfl,hlv,k2,hbk⟩
 have oP:=k2.blk (ae zg) (fun z=>z)
 have lW:=k2.blk (ae vX) (fun z=>z)
 have q1:w2.cell? ⟨w.heap.size,1,none⟩=some (.pointer (some ⟨x.rb,0,none⟩)):=oP.cell 1
 have o2:w2.cell? ⟨w.heap.size+1,2,none⟩=some (.int .i64 a):=lW.cell 2
 have o5:w2.cell? ⟨w.heap.size+1,5,none⟩=some (.string s):=lW.cell 5
 have lp:=oP.lt
 have lo:=lW.lt
 have jC:=hide k2
 have HC2:=hide (Pn ((ae sS).1.aj k2) (by have:=(ae sS).2;omega) hbk)
 have mV:=hide hlv.owns
 have HLEN:=hide hbk.len
 clear k2 oP lW uk hlv hbk
 go_wp2_with fail
 refine (ae HC2).mono ?_
 rintro e w3 ⟨v2,rfl,hr2,k3⟩
 have HR2:=hide hr2
 have lV:=hide k3
 have hr1:=au (ae mV) k3 (fun _ _ z=>z)
 have HR1:=hide hr1
 have qO:=hide (Gm _ _ v v2 ls w3 hr1 hr2 (by have:=ae HLEN;omega))
 clear k3 hr1 hr2 HC2 q1 o2 o5 lp lo mV
 go_wp2_with fail
 refine (ae qO).mono ?_
 rintro e w4 ⟨rfl,k4⟩
 have kk:=(ae jC).trans ((ae lV).trans k4)
 have h4:=(ae DU).aj kk
 have PZ:=hide (XX wb (ae DU |> fun _=>W1.heap.size) pv hv v Hs ls w4 h4.blk h4.hrow (by have:=h4.hl;omega) (au (ae HR1) k4 (fun _ _ z=>z)) (by have:=ae HLEN;omega) kk.size (ae DU).blk.lt (fun b hb=>((ae DU).hrow.lt b hb).2))
 have HKK:=hide kk
 clear k4 kk h4 qO jC lV HR1 HR2
 go_wp2_with fail
 refine (ae PZ).mono ?_
 rintro e w5 ⟨rfl,cO,c5,n5,lv5,hv5,w6,kl,EO,hs5,k6,b6,r6,n6⟩
 have hfin:=(ae DU).Xr (ae HKK) kl EO hs5 k6 b6 r6 n6
 have HF:=hide hfin
 clear hfin kl k6 b6 r6 n6 PZ
 go_wp2
 go_ret
 exact⟨by first | rfl | simp,X,_,_,_,ae HF,hx0⟩
theorem Ha(x:Pr)(o:ji)(w:World)(h:jA w x)(hT:Tab w)(hN:x.N<2000000)(hk:o.kind=3)(hO:nV o) :
 Calls Tryz.prog 60 #[.agg #[.pointer (some ⟨x.bv,0,none⟩),.pointer (some ⟨x.rb,0,none⟩)],o.val] w fun e w'=>e=.returned (.bool true)∧GN x w w':=by
 obtain⟨kind,m,a,b,c,s,⟨id,owner,sym,side,ax,price,qty⟩⟩:=o
 simp only at hk
 subst hk
 obtain⟨W1,hW1⟩:∃W1,W1=((((w.alloc (.cells #[.pointer (some ⟨x.bv,0,none⟩),.pointer (some ⟨x.rb,0,none⟩)] 131)).alloc (.cells #[.int .i64 3,.int .i64 m,.int .i64 a,.int .i64 b,.int .i64 c,.string s,.int .i64 id,.int .i64 owner,.string sym,.int .i64 side,.int .i64 ax,.int .i64 price,.int .i64 qty] 81)).alloc (.cells aB 87)).alloc (.cells aB 87)):=⟨_,rfl⟩
 have k1:ag ak w W1:=by rw[hW1];exact ((((ag.refl ak w).alloc _).alloc _).alloc _).alloc _
 have hs1:W1.heap.size=w.heap.size+4:=by rw[hW1];simp
 have hp1:=h.aj k1
 have qQ:ai W1 w.heap.size #[.pointer (some ⟨x.bv,0,none⟩),.pointer (some ⟨x.rb,0,none⟩)] 131:=by rw[hW1];exact (((ai.new w _ _).alloc _).alloc _).alloc _
 have oI:ai W1 (w.heap.size+1) #[.int .i64 3,.int .i64 m,.int .i64 a,.int .i64 b,.int .i64 c,.string s,.int .i64 id,.int .i64 owner,.string sym,.int .i64 side,.int .i64 ax,.int .i64 price,.int .i64 qty] 81:=by rw[hW1];exact ((ai.jR w _ _ _).alloc _).alloc _
 have Ac:ai W1 (w.heap.size+2) aB 87:=by rw[hW1];exact (ai.ru w _ _ _ _).alloc _
 have Aa:ai W1 (w.heap.size+3) aB 87:=by
  rw[hW1]
  have:=ai.new (((w.alloc (.cells #[.pointer (some ⟨x.bv,0,none⟩),.pointer (some ⟨x.rb,0,none⟩)] 131)).alloc (.cells #[.int .i64 3,.int .i64 m,.int .i64 a,.int .i64 b,.int .i64 c,.string s,.int .i64 id,.int .i64 owner,.string sym,.int .i64 side,.int .i64 ax,.int .i64 price,.int .i64 qty] 81)).alloc (.cells aB 87)) aB 87
  simpa using this
 have HC:=hide (LJ x.bv x.bm x.bo x.N x.V x.p x.S ⟨id,owner,sym,side,ax,price,qty⟩ W1 hp1.rep (hT.aj k1) hp1.nH (by omega) hp1.sz (by have:=hO.sym;simp only at this;show sym.size≤_;omega) (Cc hO.id) hO.own hO.kd hO.pr)
 have nf:∀b,w.heap.size≤b→¬PF x b:=fun b hb hf=>by have:=h.lt hf;omega
 have rG:=hide nf
 have sS:=hide hp1
 have zg:=hide qQ
 have vX:=hide oI
 have GV:=hide Ac
 have JZ:=hide Aa
 have kV:=hide k1
 have GL:=hide hs1
 have HW1:=hide hW1
 simp only[ji.val,ji.cells]
 simp only[aB]at HW1
 simp only[Ask.val]at HC
 clear h hT hO k1 hs1 hp1 qQ oI Ac Aa nf hW1
 go_enter Tryz.func60,Tryz.ntmps60
 go_wp2_with fail
 rw[←ae HW1]
 refine (ae HC).mono ?_
 rintro e w2 ⟨rf,rr,rn,ra,rk,E,rfl,hout⟩
 have kF:=hout.gY
 have nF:∀b,w.heap.size≤b→¬dX x.bv x.bm x.bo x.V b:=fun b hb hf=>ae rG b hb (.inl hf)
 have oP:=kF.blk (ae zg) (nF _ (by omega))
 have lW:=kF.blk (ae vX) (nF _ (by omega))
 have zb:=kF.blk (ae GV) (nF _ (by omega))
 have yb:=kF.blk (ae JZ) (nF _ (by omega))
 have q1:w2.cell? ⟨w.heap.size,1,none⟩=some (.pointer (some ⟨x.rb,0,none⟩)):=oP.cell 1
 have o6:w2.cell? ⟨w.heap.size+1,6,none⟩=some (.int .i64 id):=lW.cell 6
 have o7:w2.cell? ⟨w.heap.size+1,7,none⟩=some (.int .i64 owner):=lW.cell 7
 have o8:w2.cell? ⟨w.heap.size+1,8,none⟩=some (.string sym):=lW.cell 8
 have o9:w2.cell? ⟨w.heap.size+1,9,none⟩=some (.int .i64 side):=lW.cell 9
 have Zk:w2.cell? ⟨w.heap.size+1,10,none⟩=some (.int .i64 ax):=lW.cell 10
 have Zl:w2.cell? ⟨w.heap.size+1,11,none⟩=some (.int .i64 price):=lW.cell 11
 have VA:w2.cell? ⟨w.heap.size+1,12,none⟩=some (.int .i64 qty):=lW.cell 12
 have z0:w2.cell? ⟨w.heap.size+2,0,none⟩=some (.int .i64 0):=zb.cell 0
 have fz0:=zb.frozen 0
 have z1:w2.cell? ⟨w.heap.size+2,1,none⟩=some (.int .i64 0):=zb.cell 1
 have BV:=zb.frozen 1
 have z2:w2.cell? ⟨w.heap.size+2,2,none⟩=some (.int .i64 0):=zb.cell 2
 have BX:=zb.frozen 2
 have z3:w2.cell? ⟨w.heap.size+2,3,none⟩=some (.int .i64 0):=zb.cell 3
 have fz3:=zb.frozen 3
 have z4:w2.cell? ⟨w.heap.size+2,4,none⟩=some (.int .i64 0):=zb.cell 4
 have BZ:=zb.frozen 4
 have lzb:=zb.lt
 have sQ:=hide hout
 have HZ:=hide zb
 have HY:=hide yb
 have P5:=hide kF
 clear hout kF nF oP lW zb yb HC
 simp only[bu]
 go_wp2_with fail
 have kS:ag (fun b=>b=w.heap.size+2) w2 (((((w2.setCell ⟨w.heap.size+2,0,none⟩ (.int .i64 rf)).setCell ⟨w.heap.size+2,1,none⟩ (.int .i64 rr)).setCell ⟨w.heap.size+2,2,none⟩ (.int .i64 rn)).setCell ⟨w.heap.size+2,3,none⟩ (.int .i64 ra)).setCell ⟨w.heap.size+2,4,none⟩ (.int .i64 rk)):=mX _ _ _ _ _
 refine (rZ (ae sS) hN (ae sQ) kS (fun b hb=>⟨ae rG b (by omega),by have:=ae GL;omega⟩)).mono ?_
 rintro e w3 ⟨rfl,hk3,kd⟩
 have bS:=kd.blk (qj (ae HZ) (.int .i64 rf) (.int .i64 rr) (.int .i64 rn) (.int .i64 ra) (.int .i64 rk)) (fun hr=>ae rG _ (by omega) (.inr hr))
 have yS:=kd.blk (kS.blk (ae HY) (by omega)) (fun hr=>ae rG _ (by omega) (.inr hr))
 have u0:w3.cell? ⟨w.heap.size+2,0,none⟩=some (.int .i64 rf):=bS.cell 0
 have u1:w3.cell? ⟨w.heap.size+2,1,none⟩=some (.int .i64 rr):=bS.cell 1
 have u2:w3.cell? ⟨w.heap.size+2,2,none⟩=some (.int .i64 rn):=bS.cell 2
 have u3:w3.cell? ⟨w.heap.size+2,3,none⟩=some (.int .i64 ra):=bS.cell 3
 have u4:w3.cell? ⟨w.heap.size+2,4,none⟩=some (.int .i64 rk):=bS.cell 4
 have v0:w3.cell? ⟨w.heap.size+3,0,none⟩=some (.int .i64 0):=yS.cell 0
 have v1:w3.cell? ⟨w.heap.size+3,1,none⟩=some (.int .i64 0):=yS.cell 1
 have v2:w3.cell? ⟨w.heap.size+3,2,none⟩=some (.int .i64 0):=yS.cell 2
 have v3:w3.cell? ⟨w.heap.size+3,3,none⟩=some (.int .i64 0):=yS.cell 3
 have v4:w3.cell? ⟨w.heap.size+3,4,none⟩=some (.int .i64 0):=yS.cell 4
 have fv0:=yS.frozen 0
 have fv1:=yS.frozen 1
 have fv2:=yS.frozen 2
 have fv3:=yS.frozen 3
 have fv4:=yS.frozen 4
 have lu:=bS.lt
 have lv:=yS.lt
 have lV:=hide hk3
 have HYS:=hide yS
 simp only[bu]
 clear hk3 kd bS yS kS q1 o6 o7 o8 o9 Zk Zl VA z0 z1 z2 z3 z4 fz0 BV BX fz3 BZ lzb
 go_wp2
 go_ret
 refine⟨by first | rfl | simp,?_⟩
 refine DX.of (ae kV) ((ae lV).more (K':=fun b=>b=w.heap.size+3) (mX _ _ _ _ _) (fun b hb=>⟨ae rG b (by omega),by have:=ae GL;omega⟩)) (fun b hb=>by omega)
theorem BG(x:Pr)(o:ji)(w:World)(h:jA w x)(hT:Tab w)(hN:x.N<2000000)(hk:o.kind=5)(hO:nV o) :
 Calls Tryz.prog 60 #[.agg #[.pointer (some ⟨x.bv,0,none⟩),.pointer (some ⟨x.rb,0,none⟩)],o.val] w fun e w'=>e=.returned (.bool true)∧GN x w w':=by
 obtain⟨kind,m,a,b,c,s,⟨id,owner,sym,side,ax,price,qty⟩⟩:=o
 simp only at hk
 subst hk
 obtain⟨W1,hW1⟩:∃W1,W1=((((w.alloc (.cells #[.pointer (some ⟨x.bv,0,none⟩),.pointer (some ⟨x.rb,0,none⟩)] 131)).alloc (.cells #[.int .i64 5,.int .i64 m,.int .i64 a,.int .i64 b,.int .i64 c,.string s,.int .i64 id,.int .i64 owner,.string sym,.int .i64 side,.int .i64 ax,.int .i64 price,.int .i64 qty] 81)).alloc (.cells aB 87)).alloc (.cells aB 87)):=⟨_,rfl⟩
 have k1:ag ak w W1:=by rw[hW1];exact ((((ag.refl ak w).alloc _).alloc _).alloc _).alloc _
 have hs1:W1.heap.size=w.heap.size+4:=by rw[hW1];simp
 have hp1:=h.aj k1
 have qQ:ai W1 w.heap.size #[.pointer (some ⟨x.bv,0,none⟩),.pointer (some ⟨x.rb,0,none⟩)] 131:=by rw[hW1];exact (((ai.new w _ _).alloc _).alloc _).alloc _
 have oI:ai W1 (w.heap.size+1) #[.int .i64 5,.int .i64 m,.int .i64 a,.int .i64 b,.int .i64 c,.string s,.int .i64 id,.int .i64 owner,.string sym,.int .i64 side,.int .i64 ax,.int .i64 price,.int .i64 qty] 81:=by rw[hW1];exact ((ai.jR w _ _ _).alloc _).alloc _
 have Ac:ai W1 (w.heap.size+2) aB 87:=by rw[hW1];exact (ai.ru w _ _ _ _).alloc _
 have Aa:ai W1 (w.heap.size+3) aB 87:=by
  rw[hW1]
  have:=ai.new (((w.alloc (.cells #[.pointer (some ⟨x.bv,0,none⟩),.pointer (some ⟨x.rb,0,none⟩)] 131)).alloc (.cells #[.int .i64 5,.int .i64 m,.int .i64 a,.int .i64 b,.int .i64 c,.string s,.int .i64 id,.int .i64 owner,.string sym,.int .i64 side,.int .i64 ax,.int .i64 price,.int .i64 qty] 81)).alloc (.cells aB 87)) aB 87
  simpa using this
 have HC:=hide (FQ x.bv x.bm x.bo x.N x.V x.p x.S a b c W1 hp1.rep (hT.aj k1) hp1.nH (by omega) hp1.sz (Cc hO.a))
 have nf:∀b,w.heap.size≤b→¬PF x b:=fun b hb hf=>by have:=h.lt hf;omega
 have rG:=hide nf
 have sS:=hide hp1
 have zg:=hide qQ
 have vX:=hide oI
 have GV:=hide Ac
 have JZ:=hide Aa
 have kV:=hide k1
 have GL:=hide hs1
 have HW1:=hide hW1
 simp only[ji.val,ji.cells]
 simp only[aB]at HW1
 clear h hT hO k1 hs1 hp1 qQ oI Ac Aa nf hW1
 go_enter Tryz.func60,Tryz.ntmps60
 go_wp2_with fail
 rw[←ae HW1]
 refine (ae HC).mono ?_
 rintro e w2 ⟨rf,rr,rn,ra,rk,E,rfl,hout⟩
 have kF:=hout.gY
 have nF:∀b,w.heap.size≤b→¬dX x.bv x.bm x.bo x.V b:=fun b hb hf=>ae rG b hb (.inl hf)
 have oP:=kF.blk (ae zg) (nF _ (by omega))
 have lW:=kF.blk (ae vX) (nF _ (by omega))
 have zb:=kF.blk (ae GV) (nF _ (by omega))
 have yb:=kF.blk (ae JZ) (nF _ (by omega))
 have q1:w2.cell? ⟨w.heap.size,1,none⟩=some (.pointer (some ⟨x.rb,0,none⟩)):=oP.cell 1
 have o2:w2.cell? ⟨w.heap.size+1,2,none⟩=some (.int .i64 a):=lW.cell 2
 have o3:w2.cell? ⟨w.heap.size+1,3,none⟩=some (.int .i64 b):=lW.cell 3
 have o4:w2.cell? ⟨w.heap.size+1,4,none⟩=some (.int .i64 c):=lW.cell 4
 have z0:w2.cell? ⟨w.heap.size+2,0,none⟩=some (.int .i64 0):=zb.cell 0
 have fz0:=zb.frozen 0
 have z1:w2.cell? ⟨w.heap.size+2,1,none⟩=some (.int .i64 0):=zb.cell 1
 have BV:=zb.frozen 1
 have z2:w2.cell? ⟨w.heap.size+2,2,none⟩=some (.int .i64 0):=zb.cell 2
 have BX:=zb.frozen 2
 have z3:w2.cell? ⟨w.heap.size+2,3,none⟩=some (.int .i64 0):=zb.cell 3
 have fz3:=zb.frozen 3
 have z4:w2.cell? ⟨w.heap.size+2,4,none⟩=some (.int .i64 0):=zb.cell 4
 have BZ:=zb.frozen 4
 have lzb:=zb.lt
 have sQ:=hide hout
 have HZ:=hide zb
 have HY:=hide yb
 have P5:=hide kF
 clear hout kF nF oP lW zb yb HC
 simp only[bu]
 go_wp2_with fail
 have kS:ag (fun b=>b=w.heap.size+2) w2 (((((w2.setCell ⟨w.heap.size+2,0,none⟩ (.int .i64 rf)).setCell ⟨w.heap.size+2,1,none⟩ (.int .i64 rr)).setCell ⟨w.heap.size+2,2,none⟩ (.int .i64 rn)).setCell ⟨w.heap.size+2,3,none⟩ (.int .i64 ra)).setCell ⟨w.heap.size+2,4,none⟩ (.int .i64 rk)):=mX _ _ _ _ _
 refine (rZ (ae sS) hN (ae sQ) kS (fun b hb=>⟨ae rG b (by omega),by have:=ae GL;omega⟩)).mono ?_
 rintro e w3 ⟨rfl,hk3,kd⟩
 have bS:=kd.blk (qj (ae HZ) (.int .i64 rf) (.int .i64 rr) (.int .i64 rn) (.int .i64 ra) (.int .i64 rk)) (fun hr=>ae rG _ (by omega) (.inr hr))
 have yS:=kd.blk (kS.blk (ae HY) (by omega)) (fun hr=>ae rG _ (by omega) (.inr hr))
 have u0:w3.cell? ⟨w.heap.size+2,0,none⟩=some (.int .i64 rf):=bS.cell 0
 have u1:w3.cell? ⟨w.heap.size+2,1,none⟩=some (.int .i64 rr):=bS.cell 1
 have u2:w3.cell? ⟨w.heap.size+2,2,none⟩=some (.int .i64 rn):=bS.cell 2
 have u3:w3.cell? ⟨w.heap.size+2,3,none⟩=some (.int .i64 ra):=bS.cell 3
 have u4:w3.cell? ⟨w.heap.size+2,4,none⟩=some (.int .i64 rk):=bS.cell 4
 have v0:w3.cell? ⟨w.heap.size+3,0,none⟩=some (.int .i64 0):=yS.cell 0
 have v1:w3.cell? ⟨w.heap.size+3,1,none⟩=some (.int .i64 0):=yS.cell 1
 have v2:w3.cell? ⟨w.heap.size+3,2,none⟩=some (.int .i64 0):=yS.cell 2
 have v3:w3.cell? ⟨w.heap.size+3,3,none⟩=some (.int .i64 0):=yS.cell 3
 have v4:w3.cell? ⟨w.heap.size+3,4,none⟩=some (.int .i64 0):=yS.cell 4
 have fv0:=yS.frozen 0
 have fv1:=yS.frozen 1
 have fv2:=yS.frozen 2
 have fv3:=yS.frozen 3
 have fv4:=yS.frozen 4
 have lu:=bS.lt
 have lv:=yS.lt
 have lV:=hide hk3
 have HYS:=hide yS
 simp only[bu]
 clear hk3 kd bS yS kS q1 o2 o3 o4 z0 z1 z2 z3 z4 fz0 BV BX fz3 BZ lzb
 go_wp2
 go_ret
 refine⟨by first | rfl | simp,?_⟩
 refine DX.of (ae kV) ((ae lV).more (K':=fun b=>b=w.heap.size+3) (mX _ _ _ _ _) (fun b hb=>⟨ae rG b (by omega),by have:=ae GL;omega⟩)) (fun b hb=>by omega)
end Go.Proofs.YtigaphnafnpfnaaGreatDoor
