import Derived.Test.YtigaphnafnpfnaaGreatDoorQVR1
import Derived.Test.YtigaphnafnpfnaaGreatDoorQVG5
set_option linter.unusedVariables false
set_option linter.unusedSimpArgs false
set_option maxHeartbeats 8000000
set_option maxRecDepth 100000
namespace Go.Proofs.YtigaphnafnpfnaaGreatDoor
open Go.RowKit Go.Maps
attribute [local go_sem ↓] Go.wp_at_zero Go.wp_at_succ
theorem BF(x:Pr)(o:ji)(w:World)(h:jA w x)(hT:Tab w)(hN:x.N<2000000)(hk:o.kind=9)(hO:nV o) :
 Calls Tryz.prog 60 #[.agg #[.pointer (some ⟨x.bv,0,none⟩),.pointer (some ⟨x.rb,0,none⟩)],o.val] w fun e w'=>e=.returned (.bool true)∧GN x w w':=by
 obtain⟨kind,m,a,b,c,s,⟨id,owner,sym,side,ax,price,qty⟩⟩:=o
 simp only at hk
 subst hk
 obtain⟨W1,hW1⟩:∃W1,W1=((((w.alloc (.cells #[.pointer (some ⟨x.bv,0,none⟩),.pointer (some ⟨x.rb,0,none⟩)] 131)).alloc (.cells #[.int .i64 9,.int .i64 m,.int .i64 a,.int .i64 b,.int .i64 c,.string s,.int .i64 id,.int .i64 owner,.string sym,.int .i64 side,.int .i64 ax,.int .i64 price,.int .i64 qty] 81)).alloc (.cells aB 87)).alloc (.cells aB 87)):=⟨_,rfl⟩
 have k1:ag ak w W1:=by rw[hW1];exact ((((ag.refl ak w).alloc _).alloc _).alloc _).alloc _
 have hs1:W1.heap.size=w.heap.size+4:=by rw[hW1];simp
 have hp1:=h.aj k1
 have qQ:ai W1 w.heap.size #[.pointer (some ⟨x.bv,0,none⟩),.pointer (some ⟨x.rb,0,none⟩)] 131:=by rw[hW1];exact (((ai.new w _ _).alloc _).alloc _).alloc _
 have oI:ai W1 (w.heap.size+1) #[.int .i64 9,.int .i64 m,.int .i64 a,.int .i64 b,.int .i64 c,.string s,.int .i64 id,.int .i64 owner,.string sym,.int .i64 side,.int .i64 ax,.int .i64 price,.int .i64 qty] 81:=by rw[hW1];exact ((ai.jR w _ _ _).alloc _).alloc _
 have Ac:ai W1 (w.heap.size+2) aB 87:=by rw[hW1];exact (ai.ru w _ _ _ _).alloc _
 have Aa:ai W1 (w.heap.size+3) aB 87:=by
  rw[hW1]
  have:=ai.new (((w.alloc (.cells #[.pointer (some ⟨x.bv,0,none⟩),.pointer (some ⟨x.rb,0,none⟩)] 131)).alloc (.cells #[.int .i64 9,.int .i64 m,.int .i64 a,.int .i64 b,.int .i64 c,.string s,.int .i64 id,.int .i64 owner,.string sym,.int .i64 side,.int .i64 ax,.int .i64 price,.int .i64 qty] 81)).alloc (.cells aB 87)) aB 87
  simpa using this
 have HC:=hide (FP x.bv x.bm x.bo x.N x.V x.p x.S a b W1 hp1.rep (hT.aj k1) hp1.nH (by omega) hp1.sz)
 have nf:∀b,w.heap.size≤b→¬PF x b:=fun b hb hf=>by have:=h.lt hf;omega
 have rG:=hide nf
 have sS:=hide hp1
 have zg:=hide qQ
 have vX:=hide oI
 have GV:=hide Ac
 have JZ:=hide Aa
 have kV:=hide k1
 have GL:=hide hs1
 have HW1:=hide hW1
 simp only[ji.val,ji.cells]
 simp only[aB]at HW1
 clear h hT hO k1 hs1 hp1 qQ oI Ac Aa nf hW1
 go_enter Tryz.func60,Tryz.ntmps60
 go_wp2_with fail
 rw[←ae HW1]
 refine (ae HC).mono ?_
 rintro e w2 ⟨E,rfl,hout⟩
 have kF:=hout.gY
 have nF:∀b,w.heap.size≤b→¬dX x.bv x.bm x.bo x.V b:=fun b hb hf=>ae rG b hb (.inl hf)
 have oP:=kF.blk (ae zg) (nF _ (by omega))
 have lW:=kF.blk (ae vX) (nF _ (by omega))
 have zb:=kF.blk (ae GV) (nF _ (by omega))
 have yb:=kF.blk (ae JZ) (nF _ (by omega))
 have q1:w2.cell? ⟨w.heap.size,1,none⟩=some (.pointer (some ⟨x.rb,0,none⟩)):=oP.cell 1
 have o2:w2.cell? ⟨w.heap.size+1,2,none⟩=some (.int .i64 a):=lW.cell 2
 have o3:w2.cell? ⟨w.heap.size+1,3,none⟩=some (.int .i64 b):=lW.cell 3
 have sQ:=hide hout
 have HZ:=hide zb
 have HY:=hide yb
 have P5:=hide kF
 clear hout kF nF oP lW zb yb HC
 go_wp2_with fail
 have Jp:Calls Tryz.prog 99 #[.pointer (some ⟨x.rb,0,none⟩),(gp a b).val] w2 fun e w'=>e=.returned (.tuple #[bu 0 0 0 0 0,.int .i64 E])∧DX x ak W1 w'∧ag (RF x.rb x.av x.rv) w2 w':=rZ (ae sS) hN (ae sQ) (ag.refl ak w2) (fun b hb=>hb.elim)
 refine Jp.mono ?_
 rintro e w3 ⟨rfl,hk3,kd⟩
 have bS:=kd.blk (ae HZ) (fun hr=>ae rG _ (by omega) (.inr hr))
 have yS:=kd.blk (ae HY) (fun hr=>ae rG _ (by omega) (.inr hr))
 have u0:w3.cell? ⟨w.heap.size+2,0,none⟩=some (.int .i64 0):=bS.cell 0
 have u1:w3.cell? ⟨w.heap.size+2,1,none⟩=some (.int .i64 0):=bS.cell 1
 have u2:w3.cell? ⟨w.heap.size+2,2,none⟩=some (.int .i64 0):=bS.cell 2
 have u3:w3.cell? ⟨w.heap.size+2,3,none⟩=some (.int .i64 0):=bS.cell 3
 have u4:w3.cell? ⟨w.heap.size+2,4,none⟩=some (.int .i64 0):=bS.cell 4
 have v0:w3.cell? ⟨w.heap.size+3,0,none⟩=some (.int .i64 0):=yS.cell 0
 have v1:w3.cell? ⟨w.heap.size+3,1,none⟩=some (.int .i64 0):=yS.cell 1
 have v2:w3.cell? ⟨w.heap.size+3,2,none⟩=some (.int .i64 0):=yS.cell 2
 have v3:w3.cell? ⟨w.heap.size+3,3,none⟩=some (.int .i64 0):=yS.cell 3
 have v4:w3.cell? ⟨w.heap.size+3,4,none⟩=some (.int .i64 0):=yS.cell 4
 have lu:=bS.lt
 have lv:=yS.lt
 have lV:=hide hk3
 simp only[bu]
 clear hk3 kd bS yS Jp q1 o2 o3
 go_wp2
 go_ret
 exact⟨by first | rfl | simp,DX.of (ae kV) (ae lV) (fun b hb=>hb.elim)⟩
theorem Kr(x:Pr)(o:ji)(w:World)(h:jA w x)(hT:Tab w)(hN:x.N<2000000)(hk:o.kind=8)(hO:nV o) :
 Calls Tryz.prog 60 #[.agg #[.pointer (some ⟨x.bv,0,none⟩),.pointer (some ⟨x.rb,0,none⟩)],o.val] w fun e w'=>e=.returned (.bool true)∧GN x w w':=by
 obtain⟨kind,m,a,b,c,s,⟨id,owner,sym,side,ax,price,qty⟩⟩:=o
 simp only at hk
 subst hk
 obtain⟨W1,hW1⟩:∃W1,W1=((((w.alloc (.cells #[.pointer (some ⟨x.bv,0,none⟩),.pointer (some ⟨x.rb,0,none⟩)] 131)).alloc (.cells #[.int .i64 8,.int .i64 m,.int .i64 a,.int .i64 b,.int .i64 c,.string s,.int .i64 id,.int .i64 owner,.string sym,.int .i64 side,.int .i64 ax,.int .i64 price,.int .i64 qty] 81)).alloc (.cells aB 87)).alloc (.cells aB 87)):=⟨_,rfl⟩
 have k1:ag ak w W1:=by rw[hW1];exact ((((ag.refl ak w).alloc _).alloc _).alloc _).alloc _
 have hs1:W1.heap.size=w.heap.size+4:=by rw[hW1];simp
 have hp1:=h.aj k1
 have qQ:ai W1 w.heap.size #[.pointer (some ⟨x.bv,0,none⟩),.pointer (some ⟨x.rb,0,none⟩)] 131:=by rw[hW1];exact (((ai.new w _ _).alloc _).alloc _).alloc _
 have oI:ai W1 (w.heap.size+1) #[.int .i64 8,.int .i64 m,.int .i64 a,.int .i64 b,.int .i64 c,.string s,.int .i64 id,.int .i64 owner,.string sym,.int .i64 side,.int .i64 ax,.int .i64 price,.int .i64 qty] 81:=by rw[hW1];exact ((ai.jR w _ _ _).alloc _).alloc _
 have Ac:ai W1 (w.heap.size+2) aB 87:=by rw[hW1];exact (ai.ru w _ _ _ _).alloc _
 have Aa:ai W1 (w.heap.size+3) aB 87:=by
  rw[hW1]
  have:=ai.new (((w.alloc (.cells #[.pointer (some ⟨x.bv,0,none⟩),.pointer (some ⟨x.rb,0,none⟩)] 131)).alloc (.cells #[.int .i64 8,.int .i64 m,.int .i64 a,.int .i64 b,.int .i64 c,.string s,.int .i64 id,.int .i64 owner,.string sym,.int .i64 side,.int .i64 ax,.int .i64 price,.int .i64 qty] 81)).alloc (.cells aB 87)) aB 87
  simpa using this
 have HC:=hide (fun again=>Pj x.bv x.bm x.bo x.N x.V x.p x.S a again W1 hp1.rep (hT.aj k1) hp1.nH (by omega) hp1.sz)
 have nf:∀b,w.heap.size≤b→¬PF x b:=fun b hb hf=>by have:=h.lt hf;omega
 have rG:=hide nf
 have sS:=hide hp1
 have zg:=hide qQ
 have vX:=hide oI
 have GV:=hide Ac
 have JZ:=hide Aa
 have kV:=hide k1
 have GL:=hide hs1
 have HW1:=hide hW1
 simp only[ji.val,ji.cells]
 simp only[aB]at HW1
 clear h hT hO k1 hs1 hp1 qQ oI Ac Aa nf hW1
 go_enter Tryz.func60,Tryz.ntmps60
 go_wp2_with fail
 rw[←ae HW1]
 refine (ae HC _).mono ?_
 rintro e w2 ⟨E,rfl,hout⟩
 have kF:=hout.gY
 have nF:∀b,w.heap.size≤b→¬dX x.bv x.bm x.bo x.V b:=fun b hb hf=>ae rG b hb (.inl hf)
 have oP:=kF.blk (ae zg) (nF _ (by omega))
 have lW:=kF.blk (ae vX) (nF _ (by omega))
 have zb:=kF.blk (ae GV) (nF _ (by omega))
 have yb:=kF.blk (ae JZ) (nF _ (by omega))
 have q1:w2.cell? ⟨w.heap.size,1,none⟩=some (.pointer (some ⟨x.rb,0,none⟩)):=oP.cell 1
 have o2:w2.cell? ⟨w.heap.size+1,2,none⟩=some (.int .i64 a):=lW.cell 2
 have o3:w2.cell? ⟨w.heap.size+1,3,none⟩=some (.int .i64 b):=lW.cell 3
 have sQ:=hide hout
 have HZ:=hide zb
 have HY:=hide yb
 have P5:=hide kF
 clear hout kF nF oP lW zb yb HC
 go_wp2_with fail
 have Jp:Calls Tryz.prog 99 #[.pointer (some ⟨x.rb,0,none⟩),(oZ a _).val] w2 fun e w'=>e=.returned (.tuple #[bu 0 0 0 0 0,.int .i64 E])∧DX x ak W1 w'∧ag (RF x.rb x.av x.rv) w2 w':=rZ (ae sS) hN (ae sQ) (ag.refl ak w2) (fun b hb=>hb.elim)
 refine Jp.mono ?_
 rintro e w3 ⟨rfl,hk3,kd⟩
 have bS:=kd.blk (ae HZ) (fun hr=>ae rG _ (by omega) (.inr hr))
 have yS:=kd.blk (ae HY) (fun hr=>ae rG _ (by omega) (.inr hr))
 have u0:w3.cell? ⟨w.heap.size+2,0,none⟩=some (.int .i64 0):=bS.cell 0
 have u1:w3.cell? ⟨w.heap.size+2,1,none⟩=some (.int .i64 0):=bS.cell 1
 have u2:w3.cell? ⟨w.heap.size+2,2,none⟩=some (.int .i64 0):=bS.cell 2
 have u3:w3.cell? ⟨w.heap.size+2,3,none⟩=some (.int .i64 0):=bS.cell 3
 have u4:w3.cell? ⟨w.heap.size+2,4,none⟩=some (.int .i64 0):=bS.cell 4
 have v0:w3.cell? ⟨w.heap.size+3,0,none⟩=some (.int .i64 0):=yS.cell 0
 have v1:w3.cell? ⟨w.heap.size+3,1,none⟩=some (.int .i64 0):=yS.cell 1
 have v2:w3.cell? ⟨w.heap.size+3,2,none⟩=some (.int .i64 0):=yS.cell 2
 have v3:w3.cell? ⟨w.heap.size+3,3,none⟩=some (.int .i64 0):=yS.cell 3
 have v4:w3.cell? ⟨w.heap.size+3,4,none⟩=some (.int .i64 0):=yS.cell 4
 have lu:=bS.lt
 have lv:=yS.lt
 have lV:=hide hk3
 simp only[bu]
 clear hk3 kd bS yS Jp q1 o2 o3
 go_wp2
 go_ret
 exact⟨by first | rfl | simp,DX.of (ae kV) (ae lV) (fun b hb=>hb.elim)⟩
end Go.Proofs.YtigaphnafnpfnaaGreatDoor
