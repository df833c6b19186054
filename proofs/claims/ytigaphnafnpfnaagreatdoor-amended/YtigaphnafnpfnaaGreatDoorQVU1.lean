import Derived.Test.YtigaphnafnpfnaaGreatDoorQVX9
import Derived.Test.YtigaphnafnpfnaaGreatDoorQVX10
import Derived.Test.YtigaphnafnpfnaaGreatDoorQVF2
import Derived.Test.YtigaphnafnpfnaaGreatDoorQVE12
import Derived.Test.YtigaphnafnpfnaaGreatDoorQVJ5
import Derived.Deep.QuietTactic
import Derived.BigQuiet
import Derived.Test.YtigaphnafnpfnaaGreatDoorQVY4
set_option linter.unusedVariables false
set_option linter.unusedSimpArgs false
set_option maxHeartbeats 8000000
set_option maxRecDepth 100000
namespace Go.Proofs.YtigaphnafnpfnaaGreatDoor
open Go.RowKit
attribute [local go_sem ↓] Go.wp_at_zero Go.wp_at_succ
theorem bH.RD{w:World}{base sb c:Nat}{a:Option Addr}{S:RS}{m:SM}(h:bH w base sb S m)(hv:m.tv=.slice a S.t.length c){i:Nat}{x:Tg}(hi:S.t[i]?=some x):∃g,a=some ⟨g,0,none⟩∧base≤g∧g<w.heap.size∧(∃cs,ai w g cs 210)∧(∀j u,(D5 x)[j]?=some u→w.cell? ⟨g,i * 8+j,none⟩=some u)∧∀j,w.frozen? ⟨g,j,none⟩=false:=by
 have hi':=(List.getElem?_eq_some_iff.1 hi).1
 have r:=h.dE
 rw[hv]at r
 obtain⟨g,rfl,hg⟩:=fH r (by omega)
 refine⟨g,rfl,hg,(r.lt g rfl).2,ay r (b:=g) rfl,fun j u hu=>?_,fun j=>r.frozenAt j⟩
 have hj:j<8:=by have:=(List.getElem?_eq_some_iff.1 hu).1;rw[DR]at this;exact this
 rw[r.cellAt _ (by omega)]
 exact (og D5 8 DR S.t i j _ hi hj).trans hu
theorem rE(base sb:Nat)(S:RS)(m:SM)(n:Int)(w:World)(h:bH w base sb S m)(hl:S.t.length≤1000000000)(hn:n<1∨(S.t.length:Int)<n) :
 Calls Tryz.prog 204 #[.pointer (some ⟨sb,0,none⟩),.int .i64 n] w fun e w'=>e=.returned (.int .i64 6)∧w'=w:=by
 obtain⟨a,c,hv⟩:=az h.dE
 have v2:w.cell? ⟨sb,2,none⟩=some (.slice a S.t.length c):=by rw[←hv];exact h.blk.cell 2
 clear h hv
 by_cases h1:n<1
 ·go_enter Tryz.func204,Tryz.ntmps204
  go_wp2
  go_ret
  exact⟨rfl,rfl⟩
 ·have h2:(S.t.length:Int)<n:=by omega
  go_enter Tryz.func204,Tryz.ntmps204
  go_wp2
  go_ret
  exact⟨rfl,rfl⟩
theorem ku(base sb k:Nat)(S:RS)(m:SM)(n:Int)(x:Tg)(w:World)(h:bH w base sb S m)(hl:S.t.length≤1000000000)(hk:n-1=(k:Int))(hx:S.t[k]?=some x) :
 Calls Tryz.prog 204 #[.pointer (some ⟨sb,0,none⟩),.int .i64 n] w fun e w'=>e=.returned (.int .i64 (ja x S.day))∧ag ak w w':=by
 obtain⟨a,c,hv⟩:=az h.dE
 have hkl:=(List.getElem?_eq_some_iff.1 hx).1
 obtain⟨g,rfl,_,lg,_,hc,_⟩:=h.RD hv hx
 obtain⟨N,hN⟩:∃N,S.t.length=N:=⟨_,rfl⟩
 rw[hN]at hv hkl hl
 have v2:w.cell? ⟨sb,2,none⟩=some (.slice (some ⟨g,0,none⟩) N c):=by rw[←hv];exact h.blk.cell 2
 have v3:w.cell? ⟨sb,3,none⟩=some (.int .i64 S.day):=h.blk.cell 3
 have uj:=h.blk.lt
 have c6:w.cell? ⟨g,k * 8+6,none⟩=some (.int .i64 x.t.day):=hc 6 _ rfl
 have c7:w.cell? ⟨g,k * 8+7,none⟩=some (.bool x.holds):=hc 7 _ rfl
 obtain rfl:n=(k:Int)+1:=by omega
 have h1:¬(k:Int)+1<1:=by omega
 have h2:(k:Int)+1≤(N:Int):=by omega
 clear h hv hx hc hN hk
 cases hh:x.holds
 ·rw[hh]at c7
  have e:ja x S.day=10:=by unfold ja;simp[hh]
  rw[e]
  clear hh e
  go_enter Tryz.func204,Tryz.ntmps204
  go_wp2
  go_ret
  exact⟨rfl,ag.refl _ _⟩
 ·rw[hh]at c7
  by_cases hd:x.t.day=S.day
  ·have e:ja x S.day=0:=by unfold ja;simp[hh,hd]
   rw[e]
   rw[hd]at c6
   clear hh e hd
   go_enter Tryz.func204,Tryz.ntmps204
   go_wp2
   go_quiet (fail)
   go_wp2
   go_ret
   exact⟨rfl,(ag.refl ak w).drewN _⟩
  ·have e:ja x S.day=11:=by unfold ja;simp[hh,hd]
   rw[e]
   have hd2:(x.t.day == S.day)=false:=by simp[hd]
   clear hh e
   go_enter Tryz.func204,Tryz.ntmps204
   go_wp2
   go_quiet (fail)
   go_wp2
   go_ret
   exact⟨rfl,(ag.refl ak w).drewN _⟩
open Go.RowKit Go.Maps
theorem wH(bv bm bo:Nat)(V:aW)(id price qty:Int)(w:World)(R:Rep w bv bm bo V)(hid:(Lit.int .i64 id).wf=true)(hn:V.aO id=none) :
 Calls Tryz.prog 38 #[.pointer (some ⟨bv,0,none⟩),.int .i64 id,.int .i64 price,.int .i64 qty] w fun e w'=>e=.returned (.tuple #[.agg #[.int .i64 0,.int .i64 0,.int .i64 0,.int .i64 0,.int .i64 0],.int .i64 6])∧ag ak w w':=by
 have k1:ag ak w (w.alloc (.cells #[.int .i64 0,.int .i64 0,.int .i64 0,.int .i64 0,.int .i64 0] 87)):=(ag.refl ak w).alloc _
 have L2:=(R.aj k1).lookO hid
 rw[hn]at L2
 simp only[fV]at L2
 have v1:w.cell? ⟨bv,1,none⟩=some (.map (some bo)):=R.cZ.cell 1
 have lv:=R.cZ.lt
 clear R hn
 go_enter Tryz.func38,Tryz.ntmps38
 go_wp2
 refine bodyPost_ret (Gg _ w.heap.size _ 0 0 0 0 0 6 rfl rfl ?_) rfl ⟨rfl,?_⟩
 ·exact ai.new w _ _
 ·exact (ag.refl ak w).alloc _
theorem zK(bv bm bo b:Nat)(V:aW)(id price qty:Int)(w:World)(R:Rep w bv bm bo V)(hid:(Lit.int .i64 id).wf=true)(hn:V.aO id=some b)(h0:(V.om b).opn≠0)(hr:bg price=false∨(bg price=true∧bg qty=false)) :
 Calls Tryz.prog 38 #[.pointer (some ⟨bv,0,none⟩),.int .i64 id,.int .i64 price,.int .i64 qty] w fun e w'=>e=.returned (.tuple #[.agg #[.int .i64 0,.int .i64 0,.int .i64 0,.int .i64 0,.int .i64 0],.int .i64 4])∧ag ak w w':=by
 have k1:ag ak w (w.alloc (.cells #[.int .i64 0,.int .i64 0,.int .i64 0,.int .i64 0,.int .i64 0] 87)):=(ag.refl ak w).alloc _
 have L2:=(R.aj k1).lookO hid
 rw[hn]at L2
 simp only[fV]at L2
 obtain⟨-,ix,ho⟩:=R.aQ id b hn
 have o8:w.cell? ⟨b,8,none⟩=some (.int .i64 (V.om b).opn):=ho.cell 8
 have e0:((V.om b).opn == 0)=false:=by simp[h0]
 have v1:w.cell? ⟨bv,1,none⟩=some (.map (some bo)):=R.cZ.cell 1
 have lv:=R.cZ.lt
 have lo:=ho.lt
 clear R hn ho h0
 rcases hr with h1 | ⟨h1,h2⟩
 all_goals
  go_enter Tryz.func38,Tryz.ntmps38
  go_wp2_with (first | (go_at_call 68;refine (aU _ _).mono ?_;rintro e w' ⟨rfl,rfl⟩))
  refine bodyPost_ret (Gg _ w.heap.size _ 0 0 0 0 0 4 rfl rfl ?_) rfl ⟨rfl,?_⟩
  ·exact ai.new w _ _
  ·exact (ag.refl ak w).alloc _
theorem Ip(bv bm bo:Nat)(V:aW)(s:ByteArray)(w:World)(R:Rep w bv bm bo V)(hn:oV s true)(hlen:s.size≤maxLen)(hfree:∀i,i<V.nb→(V.B i).sym≠s)(hnb:6≤V.nb):Calls Tryz.prog 27 #[.pointer (some ⟨bv,0,none⟩),.string s] w fun e w'=>e=.returned (.int .i64 7)∧ag ak w w':=by
 obtain⟨fB,mB,pK,ui⟩:=R.books
 have hl:fB (sl s)=none:=by
  cases h:fB (sl s) with
  | none=>rfl
  | some b =>
    obtain⟨i,hi,_,h2⟩:=ui s b h
    exact absurd h2 (hfree i hi)
 have HL:=hide hl
 obtain⟨n,hnn⟩:∃n,V.nb=n:=⟨_,rfl⟩
 have e6:decide ((6:Int)≤(n:Int))=true:=by simp;omega
 have hK:∀w',ag ak w w'→(Instr.lookup 94 (.map (some bm)) (.string s) false).run Tryz.prog w'=.ok (.pointer none) w'∧w'.cell? ⟨bv,0,none⟩=some (.map (some bm))∧(Builtin.len_ #[94] 3 #[.map (some bm)]).run Tryz.prog w'=.ok (.int .i64 (n:Int)) w':=fun w' k=>by
  refine⟨?_,(k.blk R.cZ (fun x=>x)).cell 0,by rw[←hnn];exact (mB.kept k (fun x=>x)).len Tryz.underlying94 _⟩
  rw[(mB.kept k (fun x=>x)).look law9 Tryz.underlying94 (mP _) (WideMaps.keyOf_string_mk Tryz.underlying9 hlen)]
  show _=Result.ok (fV none) _
  rw[←ae HL];rfl
 have lv:=R.cZ.lt
 have HK:=hide hK
 clear hl R hK hnn mB pK ui
 go_enter Tryz.func27,Tryz.ntmps27
 go_wp2_with fail
 refine (hn _).mono ?_
 rintro e w' ⟨rfl,k⟩
 have k2:=((ag.refl ak w).alloc (.cells #[.pointer (some ⟨bv,0,none⟩)] 35)).trans k
 obtain⟨g1,g2,g3⟩:=ae HK w' k2
 have hb:ai w' w.heap.size #[.pointer (some ⟨bv,0,none⟩)] 35:=k.blk (ai.new w _ _) (fun x=>x)
 have g4:w'.cell? ⟨w.heap.size,0,none⟩=some (.pointer (some ⟨bv,0,none⟩)):=hb.cell 0
 have jC:=hide k2
 clear k k2 hb
 go_wp2
 go_ret
 exact⟨rfl,ae jC⟩
theorem BK(bv bm bo:Nat)(V:aW)(s:ByteArray)(side:Int)(w:World)(R:Rep w bv bm bo V)(hlen:s.size≤maxLen)(hfree:∀i,i<V.nb→(V.B i).sym≠s) :
 Calls Tryz.prog 25 #[.pointer (some ⟨bv,0,none⟩),.string s,.int .i64 side] w fun e w'=>e=.returned (.tuple #[.slice none 0 0,.int .i64 6])∧ag ak w w':=by
 obtain⟨fB,mB,pK,ui⟩:=R.books
 have hl:fB (sl s)=none:=by
  cases h:fB (sl s) with
  | none=>rfl
  | some b =>
    obtain⟨i,hi,_,h2⟩:=ui s b h
    exact absurd h2 (hfree i hi)
 have L1:(Instr.lookup 94 (.map (some bm)) (.string s) false).run Tryz.prog w=.ok (.pointer none) w:=by
  rw[mB.look law9 Tryz.underlying94 (mP _) (WideMaps.keyOf_string_mk Tryz.underlying9 hlen)]
  show _=Result.ok (fV none) _
  rw[←hl];rfl
 have v0:w.cell? ⟨bv,0,none⟩=some (.map (some bm)):=R.cZ.cell 0
 clear R hl mB pK ui
 go_enter Tryz.func25,Tryz.ntmps25
 go_wp2
 go_ret2
 exact⟨rfl,ag.refl _ _⟩
theorem Hf(bv bm bo i:Nat)(V:aW)(side:Int)(w:World)(R:Rep w bv bm bo V)(hi:i<V.nb)(hlen:(V.B i).sym.size≤maxLen)(hs:gZ side=false) :
 Calls Tryz.prog 25 #[.pointer (some ⟨bv,0,none⟩),.string (V.B i).sym,.int .i64 side] w fun e w'=>e=.returned (.tuple #[.slice none 0 0,.int .i64 4])∧ag ak w w':=by
 have L1:=R.vP hi hlen
 have v0:w.cell? ⟨bv,0,none⟩=some (.map (some bm)):=R.cZ.cell 0
 clear R
 go_enter Tryz.func25,Tryz.ntmps25
 go_wp2_with (first | (go_at_call 47;refine (dw _ _).mono ?_;rintro e w' ⟨rfl,rfl⟩))
 go_ret2
 exact⟨rfl,ag.refl _ _⟩
structure uo(w0:World) where
 w:World
 k:ag ak w0 w
theorem yZ{P:Program}{id:Nat}{Q:Exit→Act→World→Prop}{a:Act}{w:World}{l:List Oper}(hm:P.follows .mixedOrders=true)(hB:Region.lexB .any l.toArray=true)
 (h:wpQuiet P l.toArray (fun w'=>∃p:uo w,w'=p.w) (fun a'=>∀w',(∃p:uo w,w'=p.w)→Q .normal a' w') l a):(Code.region id l.toArray true).wp P Q a w :=
 wp_region_quiet (C:=fun w'=>∃p:uo w,w'=p.w) hm hB ⟨⟨_,(ag.refl ak w).drew⟩,rfl⟩ (by simpa using h)
theorem Lu{n:Int}(h:mG n){w0:World}(p:uo w0):Calls Tryz.prog 173 #[.int .i64 n] p.w fun e w'=>e=.returned (.string (iG n))∧∃q:uo w0,w'=q.w:=by
 refine (lU n h w0 p.w p.k).mono ?_
 rintro e w' ⟨rfl,k'⟩
 exact⟨rfl,⟨w',k'⟩,rfl⟩
def Fg(id owner:Int)(sym:ByteArray)(side ax price qty:Int):ByteArray :=
 (⟨#[101,110,116,101,114,32]⟩:ByteArray)++iG id++⟨#[32]⟩++iG owner++⟨#[32]⟩++sym++⟨#[32]⟩++iG side++⟨#[32]⟩++iG ax++⟨#[32]⟩++iG price++⟨#[32]⟩++iG qty
theorem ai.snd(w:World)(o:Obj)(c:Array Value)(t:TypeId):ai ((w.alloc o).alloc (.cells c t)) (w.heap.size+1) c t:=by
 have:=ai.new (w.alloc o) c t
 rw[show (w.alloc o).heap.size=w.heap.size+1 by simp]at this
 exact this
theorem eG{P:Program}(a b:ByteArray)(h:a.size≤100000)(h2:b.size≤100000)(W:World):(Op.stringOp .add a b).run P W=.ok (.string (a++b)) W:=dV a b (by omega) W
theorem dY{a b:ByteArray}{n m:Nat}(h:a.size≤n)(h2:b.size≤m):(a++b).size≤n+m:=by rw[ByteArray.size_append];omega
theorem Gi(s:ByteArray)(id owner:Int)(sym:ByteArray)(side ax price qty a b c:Int)(again:Bool)(w:World)(Xe:mG id)(Xg:mG owner)(Xj:mG side)(Xf:mG ax)(Xh:mG price)(Xi:mG qty)(hs:sym.size≤1000) :
 Calls Tryz.prog 139 #[.agg #[.int .u8 101,.string s,.int .i64 id,.int .i64 owner,.string sym,.int .i64 side,.int .i64 ax,.int .i64 price,.int .i64 qty,.int .i64 a,.int .i64 b,.int .i64 c,.bool again]] w fun e w'=>e=.returned (.string (Fg id owner sym side ax price qty))∧ag ak w w':=by
 obtain⟨w2,hw2⟩:∃w2,w2=(w.alloc (.cells #[.int .u8 101,.string s,.int .i64 id,.int .i64 owner,.string sym,.int .i64 side,.int .i64 ax,.int .i64 price,.int .i64 qty,.int .i64 a,.int .i64 b,.int .i64 c,.bool again] 169)).alloc (.cells #[.int .i64 id,.int .i64 owner,.string sym,.int .i64 side,.int .i64 ax,.int .i64 price,.int .i64 qty] 52):=⟨_,rfl⟩
 have k2:ag ak w w2:=by rw[hw2];exact ((ag.refl ak w).alloc _).alloc _
 have b2:ai w2 (w.heap.size+1) #[.int .i64 id,.int .i64 owner,.string sym,.int .i64 side,.int .i64 ax,.int .i64 price,.int .i64 qty] 52:=by rw[hw2];exact ai.snd _ _ _ _
 obtain⟨H,hH⟩:∃H,w.heap.size=H:=⟨_,rfl⟩
 have HW2:=hide hw2
 rw[hH]at b2
 have x0:∀p:uo w2,p.w.cell? ⟨H+1,0,none⟩=some (.int .i64 id):=fun p=>p.k.cell (b2.cell 0) (fun x=>x)
 have x1:∀p:uo w2,p.w.cell? ⟨H+1,1,none⟩=some (.int .i64 owner):=fun p=>p.k.cell (b2.cell 1) (fun x=>x)
 have x2:∀p:uo w2,p.w.cell? ⟨H+1,2,none⟩=some (.string sym):=fun p=>p.k.cell (b2.cell 2) (fun x=>x)
 have x3:∀p:uo w2,p.w.cell? ⟨H+1,3,none⟩=some (.int .i64 side):=fun p=>p.k.cell (b2.cell 3) (fun x=>x)
 have x4:∀p:uo w2,p.w.cell? ⟨H+1,4,none⟩=some (.int .i64 ax):=fun p=>p.k.cell (b2.cell 4) (fun x=>x)
 have x5:∀p:uo w2,p.w.cell? ⟨H+1,5,none⟩=some (.int .i64 price):=fun p=>p.k.cell (b2.cell 5) (fun x=>x)
 have x6:∀p:uo w2,p.w.cell? ⟨H+1,6,none⟩=some (.int .i64 qty):=fun p=>p.k.cell (b2.cell 6) (fun x=>x)
 have z1:=(bM id Xe).2
 have z2:=(bM owner Xg).2
 have z3:=(bM side Xj).2
 have z4:=(bM ax Xf).2
 have z5:=(bM price Xh).2
 have z6:=(bM qty Xi).2
 have zs:(⟨#[32]⟩:ByteArray).size≤1:=Nat.le_refl _
 have s0:(⟨#[101,110,116,101,114,32]⟩:ByteArray).size≤6:=Nat.le_refl _
 have s1:=dY s0 z1
 have s2:=dY s1 zs
 have s3:=dY s2 z2
 have s4:=dY s3 zs
 have s5:=dY s4 hs
 have s6:=dY s5 zs
 have s7:=dY s6 z3
 have s8:=dY s7 zs
 have s9:=dY s8 z4
 have s10:=dY s9 zs
 have s11:=dY s10 z5
 have s12:=dY s11 zs
 have c0:=eG (P:=Tryz.prog) _ _ (Nat.le_trans s0 (by decide)) (Nat.le_trans z1 (by decide))
 have c1:=eG (P:=Tryz.prog) _ _ (Nat.le_trans s1 (by decide)) (Nat.le_trans zs (by decide))
 have c2:=eG (P:=Tryz.prog) _ _ (Nat.le_trans s2 (by decide)) (Nat.le_trans z2 (by decide))
 have c3:=eG (P:=Tryz.prog) _ _ (Nat.le_trans s3 (by decide)) (Nat.le_trans zs (by decide))
 have c4:=eG (P:=Tryz.prog) _ _ (Nat.le_trans s4 (by decide)) (Nat.le_trans hs (by decide))
 have c5:=eG (P:=Tryz.prog) _ _ (Nat.le_trans s5 (by decide)) (Nat.le_trans zs (by decide))
 have c6:=eG (P:=Tryz.prog) _ _ (Nat.le_trans s6 (by decide)) (Nat.le_trans z3 (by decide))
 have c7:=eG (P:=Tryz.prog) _ _ (Nat.le_trans s7 (by decide)) (Nat.le_trans zs (by decide))
 have c8:=eG (P:=Tryz.prog) _ _ (Nat.le_trans s8 (by decide)) (Nat.le_trans z4 (by decide))
 have c9:=eG (P:=Tryz.prog) _ _ (Nat.le_trans s9 (by decide)) (Nat.le_trans zs (by decide))
 have c10:=eG (P:=Tryz.prog) _ _ (Nat.le_trans s10 (by decide)) (Nat.le_trans z5 (by decide))
 have c11:=eG (P:=Tryz.prog) _ _ (Nat.le_trans s11 (by decide)) (Nat.le_trans zs (by decide))
 have c12:=eG (P:=Tryz.prog) _ _ (Nat.le_trans s12 (by decide)) (Nat.le_trans z6 (by decide))
 have jC:=hide k2
 have HL:Hid (Fg id owner sym side ax price qty=Fg id owner sym side ax price qty):=rfl
 obtain⟨ln,hln⟩:∃ln,Fg id owner sym side ax price qty=ln:=⟨_,rfl⟩
 rw[hln]
 have VY:=hide hln
 clear HL hln k2 hw2 b2 z1 z2 z3 z4 z5 z6 zs s0 s1 s2 s3 s4 s5 s6 s7 s8 s9 s10 s11 s12 hs
 go_enter Tryz.func139,Tryz.ntmps139
 go_wp2
 rw[←ae HW2]
 haveI:Nonempty (uo w2):=⟨⟨w2,ag.refl _ _⟩⟩
 refine yZ (by kernel_rfl) (by kernel_rfl) ?_
 repeat (quiet_step ((refine Lu ?_ _;first | exact Xe | exact Xg | exact Xj | exact Xf | exact Xh | exact Xi)))
 refine wpQuiet_nil ?_
 rintro _ ⟨⟨w9,k9⟩,rfl⟩
 go_wp2
 go_ret
 exact⟨by rw[←ae VY];rfl,(ae jC).trans k9⟩
theorem CB(c:Nat)(w:World):Calls Tryz.prog 85 #[.int .i32 (c:Int)] w fun e w'=>e=.returned (.bool (oK c))∧w'=w:=by
 have hcs:(65≤c∧c≤90∧oK c=true)∨(¬(65≤c∧c≤90)∧((48≤c∧c≤57∧oK c=true)∨(¬(48≤c∧c≤57)∧((c=930∧oK c=false)∨(c≠930∧((913≤c∧c≤937∧oK c=true)∨(¬(913≤c∧c≤937)∧oK c=false))))))):=by
  by_cases h1:65≤c∧c≤90
  ·left;exact⟨h1.1,h1.2,by simp[oK,h1]⟩
  ·right;refine⟨h1,?_⟩
   by_cases h2:48≤c∧c≤57
   ·left;exact⟨h2.1,h2.2,by simp[oK,h2]⟩
   ·right;refine⟨h2,?_⟩
    by_cases h3:c=930
    ·left;exact⟨h3,by subst h3;decide⟩
    ·right;refine⟨h3,?_⟩
     by_cases h4:913≤c∧c≤937
     ·left;exact⟨h4.1,h4.2,by simp[oK,h4,h3]⟩
     ·right;refine⟨h4,?_⟩
      simp only[oK,Bool.or_eq_false_iff,Bool.and_eq_false_iff,decide_eq_false_iff_not,Bool.not_eq_false',beq_iff_eq]
      omega
 obtain⟨b,hb⟩:∃b,oK c=b:=⟨_,rfl⟩
 rw[hb]at hcs ⊢
 clear hb
 have d:∀k:Nat,decide ((k:Int)≤(c:Int))=decide (k≤c):=fun k=>by simp
 rcases hcs with⟨a1,a2,rfl⟩ | ⟨a1,⟨a2,a3,rfl⟩ | ⟨a2,⟨a3,rfl⟩ | ⟨a3,⟨a4,a5,rfl⟩ | ⟨a4,rfl⟩⟩⟩⟩
 ·go_enter Tryz.func85,Tryz.ntmps85
  go_wp2
  go_ret
  exact⟨rfl,rfl⟩
 ·by_cases h65:65≤c
  ·exfalso;omega
  ·go_enter Tryz.func85,Tryz.ntmps85
   go_wp2
   go_ret
   exact⟨rfl,rfl⟩
 ·subst a3
  go_enter Tryz.func85,Tryz.ntmps85
  go_wp2
  go_ret
  exact⟨rfl,rfl⟩
 ·have e:((c:Int) == 930)=false:=by simp;omega
  go_enter Tryz.func85,Tryz.ntmps85
  go_wp2
  go_ret
  refine⟨?_,rfl⟩
  first | rfl | (simp;omega)
 ·have e:((c:Int) == 930)=false:=by simp;omega
  have hc3:(c<48)∨(57<c∧c<65)∨(90<c∧c<913)∨937<c:=by omega
  clear a1 a2 a4
  rcases hc3 with h | ⟨h,h'⟩ | ⟨h,h'⟩ | h
  all_goals
   go_enter Tryz.func85,Tryz.ntmps85
   go_wp2
   go_ret
   refine⟨?_,rfl⟩
   first | rfl | (simp;omega)
theorem BN(s:ByteArray)(i:Nat):(Utf8.decode s i).1≤1114111∧1≤(Utf8.decode s i).2:=by
 unfold Utf8.decode
 simp only
 have hv:∀r:Nat,Utf8.valid (r:Int)=true→r≤1114111:=fun r h=>by simp[Utf8.valid]at h;omega
 split
 ·rename_i h
  exact⟨Nat.le_trans (Nat.le_of_lt h) (by decide),Nat.le_refl _⟩
 ·split
  ·split
   ·exact⟨by simp;omega,by simp⟩
   ·exact⟨by decide,by simp⟩
  ·split
   ·split
    ·rename_i h;simp at h;exact⟨hv _ (by simpa using h.2),by simp⟩
    ·exact⟨by decide,by simp⟩
   ·split
    ·split
     ·rename_i h;simp at h;exact⟨hv _ (by simpa using h.2),by simp⟩
     ·exact⟨by decide,by simp⟩
    ·exact⟨by decide,by simp⟩
theorem Ie(s:ByteArray)(hs:s.size≤1000000000):oV s (nameB s):=by
 intro w
 have HL:Hid (∀(c:Nat) W,Calls Tryz.prog 85 #[.int .i32 (c:Int)] W fun e w'=>e=.returned (.bool (oK c))∧w'=W):=CB
 have HE:Hid (∀pos,¬pos<s.size→∀ty,(Instr.next (.pointer (some ⟨w.heap.size,0,none⟩)) true ty).run Tryz.prog (w.iter s pos)=.ok (.tuple #[.bool false]) (w.iter s pos)):=fun pos h ty=>run_next_end w s pos ty h
 have HD:Hid (∀pos c n,pos<s.size→Utf8.decode s pos=(c,n)→∀ty,(Instr.next (.pointer (some ⟨w.heap.size,0,none⟩)) true ty).run Tryz.prog (w.iter s pos)=.ok (.tuple #[.bool true,.int .i64 pos,.int .i32 c]) (w.iter s (pos+n))):=fun pos c n h hd ty=>DC w s pos c n ty h hd
 have HK:Hid (∀pos,ag ak w (w.iter s pos)):=fun pos=>(ag.refl ak w).alloc _
 go_enter Tryz.func50,Tryz.ntmps50
 go_wp2
 go_loopg [3] (s.size+1) (fun q nv wr=>∃pos n:Nat,nv=.int .i64 (n:Int)∧wr=w.iter s pos∧jI s q pos n=nameB s∧s.size<pos+q∧n≤6∧pos≤s.size)
 case atStart=>exact⟨0,0,rfl,rfl,rfl,by omega,by omega,by omega⟩
 case round =>
  obtain⟨pos,n,rfl,rfl,hF,hq,hn6,hps⟩:=hrel
  by_cases hp:pos<s.size
  ·obtain⟨q,rfl⟩:∃q,gk=q+1:=⟨gk-1,by omega⟩
   have hdb:=BN s pos
   obtain⟨⟨c,k⟩,hd⟩:∃x,Utf8.decode s pos=x:=⟨_,rfl⟩
   have n0:=ae HD pos c k hp hd
   rw[hd]at hdb
   simp only at hdb
   have hF2:jI s (q+1) pos n=(if oK (oU s pos).1 then jI s q (pos+(oU s pos).2) (n+1) else false):=by
    conv=>lhs;unfold jI
    rw[if_pos hp]
   by_cases h6:n=6
   ·have hR:nameB s=false:=by
     rw[←hF,hF2]
     split
     ·exact yu _ _ _ _ (by omega)
     ·rfl
    have HR:=hide hR
    subst h6
    clear hF hF2 hR hd
    go_wp2
    go_ret
    exact⟨by rw[ae HR];rfl,ae HK _⟩
   ·cases hu:oK (oU s pos).1
    ·have hc:oK c=false:=by have:=QE hp hu;rw[hd]at this;exact this
     have hR:nameB s=false:=by rw[←hF,hF2,hu];rfl
     have HR:=hide hR
     have HC:=hide (ae HL c)
     rw[hc]at HC
     clear hF hF2 hR hd hc hu
     go_wp2_with fail
     refine (ae HC _).mono ?_
     rintro e w' ⟨rfl,rfl⟩
     go_wp2
     go_ret
     exact⟨by rw[ae HR];rfl,ae HK _⟩
    ·have he:=TZ hp hu
     rw[hd]at he
     have hc:oK c=true:=by rw[←he]at hu;exact hu
     have hpk:pos+k≤s.size:=by have:=(JQ s pos).2.2.1 hp;rw[←he]at this;exact this
     have hR:jI s q (pos+k) (n+1)=nameB s:=by rw[←hF,hF2,hu,←he];rfl
     have HR:=hide hR
     have HC:=hide (ae HL c)
     rw[hc]at HC
     clear hF hF2 hR hd hc hu he
     go_wp2_with fail
     refine (ae HC _).mono ?_
     rintro e w' ⟨rfl,rfl⟩
     go_wp2
     go_roundg q
     case measure=>omega
     case rel=>exact⟨pos+k,n+1,by push_cast;rfl,rfl,ae HR,by omega,by omega,hpk⟩
  ·have n0:=ae HE pos hp
   obtain⟨q,rfl⟩:∃q,gk=q+1:=by
    cases gk with
    | zero=>exfalso;omega
    | succ q=>exact⟨q,rfl⟩
   have hR:nameB s=decide (0<n):=by
    rw[←hF]
    unfold jI
    rw[if_neg hp]
    have:decide (n≤6)=true:=by simpa using hn6
    rw[this,Bool.and_true]
    rfl
   have HR:=hide hR
   clear hF hR
   go_wp2
   go_ret
   exact⟨by rw[ae HR];simp,ae HK _⟩
def TK(base sb:Nat)(S':RS)(m:SM)(w w':World):Prop:=∃ov,bH w' base sb S' { m with ov:=ov }∧(∀b,ov.ownBlock=some b→m.ov.ownBlock=some b∨w.heap.size≤b)∧ag (SF sb m) w w'
theorem TK.stN{base sb:Nat}{S':RS}{m:SM}{w w':World}(h:TK base sb S' m w w'):fP base sb S' m w w':=by
 obtain⟨ov,h1,h2,h3⟩:=h
 refine⟨_,h1,fun b hb=>?_,h3⟩
 rcases hb with rfl | hb | hb | hb | hb
 ·exact .inl (.inl rfl)
 ·exact .inl (.inr (.inl hb))
 ·exact .inl (.inr (.inr (.inl hb)))
 ·exact .inl (.inr (.inr (.inr (.inl hb))))
 ·exact (h2 b hb).imp_left (fun z=>.inr (.inr (.inr (.inr z))))
theorem bH.Jd{w1 w2:World}{base sb n H g cap:Nat}{S:RS}{m:SM}{r:Rc}(h:bH w1 base sb S m)(hn:S.told.length=n)(hown:w2.ownsRow base 62 9 (.slice (some ⟨g,0,none⟩) (n+1) cap) (n+1) (dP S.told++r.cells))(hgrow:w1.grownBy w2 m.ov.ownBlock)(hat:m.ov.ownBlock=some g∨g=H)(hH:w1.heap.size=H) :
 TK base sb { S with told:=S.told++[r] } m w1 (w2.setCell ⟨sb,5,none⟩ (.slice (some ⟨g,0,none⟩) (n+1) cap)):=by
 have hne:m.ov.ownBlock≠some sb:=fun e=>by obtain⟨cs,hc⟩:=ay h.jS e;exact ai.ne hc h.blk (by decide) rfl
 have hb2:ai w2 sb _ 207:=(hgrow.block sb h.blk.lt (fun e=>hne e.symm)).trans h.blk
 have k1:ag (fun b=>m.ov.ownBlock=some b) w1 w2:=(ag.refl _ w1).grown hgrow (fun k e=>.inl e)
 have k2:ag (fun b=>b=sb) w2 (w2.setCell ⟨sb,5,none⟩ (.slice (some ⟨g,0,none⟩) (n+1) cap)):=(ag.refl (fun b=>b=sb) w2).setCell (p:=⟨sb,5,none⟩) (.inl rfl) _
 have jF:∀{e size n':Nat} {v:Value} {xs:List Value},w1.ownsRow base e size v n' xs→e≠62→e≠207→(w2.setCell ⟨sb,5,none⟩ (.slice (some ⟨g,0,none⟩) (n+1) cap)).ownsRow base e size v n' xs:=fun {e size n' v xs} r h1 h2=>by
  have r1:=aJ (t:=0) r k1 (fun b hb=>by obtain⟨cs,hc⟩:=ay h.jS hb;exact⟨cs,_,hc,fun x=>h1 x.symm⟩)
  exact aJ (t:=0) r1 k2 (fun b hb=>by subst hb;exact⟨_,_,hb2,fun x=>h2 x.symm⟩)
 refine⟨.slice (some ⟨g,0,none⟩) (n+1) cap,⟨h.ge,hb2.set 5 _,jF h.jH (by decide) (by decide),jF h.bI (by decide) (by decide),jF h.dE (by decide) (by decide),?_⟩,?_,?_⟩
 ·simp only[List.length_append,List.length_cons,List.length_nil,hn,lD]
  exact aJ (t:=0) hown k2 (fun b hb=>by subst hb;exact⟨_,_,hb2,by decide⟩)
 ·intro b hb
  simp only[Value.ownBlock,Option.some.injEq]at hb
  rcases hat with e | e
  ·exact .inl (by rw[e,hb])
  ·right;omega
 ·exact (k1.mono (fun b hb=>.inr (.inr (.inr (.inr hb))))).trans (k2.mono (fun b hb=>.inl hb))
theorem yP(base sb:Nat)(S:RS)(m:SM)(kind:Int)(t:Tr)(w:World)(h:bH w base sb S m)(hlen:S.told.length<1000000000) :
 Calls Tryz.prog 205 #[.pointer (some ⟨sb,0,none⟩),.int .i64 kind,t.val] w fun e w'=>e=.returned (.tuple #[])∧TK base sb (S.tell kind t) m w w':=by
 obtain⟨n,hn⟩:∃n,S.told.length=n:=⟨_,rfl⟩
 have fQ:=h.jS
 rw[hn]at fQ hlen
 obtain⟨pa,iL,hpv⟩:=az fQ
 rw[hpv]at fQ
 have hv:=h.blk
 have v5:w.cell? ⟨sb,5,none⟩=some (.slice pa n iL):=(hv.cell 5).trans (by rw[←hpv];rfl)
 have lv:=hv.lt
 have hge:=h.ge
 have hmx:n+1≤maxLen:=by unfold maxLen;omega
 have ik:(n+1) * 80≤140737488355328:=by omega
 obtain⟨i0,z0,hi0,hz0,hz1,hz2,hz3⟩:=iQ
 obtain⟨tn,ts,tp,tq,jd,jf,td⟩:=t
 simp only[Tr.val]
 obtain⟨w0,hw0⟩:∃w0,w0=w.alloc (.cells #[.int .i64 tn,.string ts,.int .i64 tp,.int .i64 tq,.int .i64 jd,.int .i64 jf,.int .i64 td] 56):=⟨_,rfl⟩
 have k0:ag ak w w0:=by rw[hw0];exact (ag.refl ak w).alloc _
 have b0:ai w0 w.heap.size #[.int .i64 tn,.string ts,.int .i64 tp,.int .i64 tq,.int .i64 jd,.int .i64 jf,.int .i64 td] 56:=by rw[hw0];exact ai.new _ _ _
 have hs0:w0.heap.size=w.heap.size+1:=by rw[hw0];simp
 have hrow0:=au fQ k0 (fun _ _ x=>x)
 have v5':w0.cell? ⟨sb,5,none⟩=some (.slice pa n iL):=k0.cell v5 (fun x=>x)
 have t0:w0.cell? ⟨w.heap.size,0,none⟩=some (.int .i64 tn):=b0.cell 0
 have t1:w0.cell? ⟨w.heap.size,1,none⟩=some (.string ts):=b0.cell 1
 have t2:w0.cell? ⟨w.heap.size,2,none⟩=some (.int .i64 tp):=b0.cell 2
 have t3:w0.cell? ⟨w.heap.size,3,none⟩=some (.int .i64 tq):=b0.cell 3
 have t4:w0.cell? ⟨w.heap.size,4,none⟩=some (.int .i64 jd):=b0.cell 4
 have t5:w0.cell? ⟨w.heap.size,5,none⟩=some (.int .i64 jf):=b0.cell 5
 have t6:w0.cell? ⟨w.heap.size,6,none⟩=some (.int .i64 td):=b0.cell 6
 obtain⟨w1,hw1⟩:∃w1,w1=(w0.alloc (.cells #[.int .i64 0,.int .i64 kind,.int .i64 tn,.string ts,.int .i64 tp,.int .i64 tq,.int .i64 jd,.int .i64 jf,.int .i64 td] 62)).drew:=⟨_,rfl⟩
 have k1:ag ak w0 w1:=by rw[hw1];exact ((ag.refl ak w0).alloc _).drew
 have hrow1:=au hrow0 k1 (fun _ _ x=>x)
 have hsz1:w1.heap.size=w.heap.size+2:=by rw[hw1];simp[hs0]
 have hnews:∀j u,(Rc.cells ⟨0,kind,⟨tn,ts,tp,tq,jd,jf,td⟩⟩)[j]?=some u→w1.cell? (Addr.add ⟨w.heap.size+1,0,none⟩ j)=some u:=by
  intro j u hj
  have:=FH w0 ⟨0,kind,⟨tn,ts,tp,tq,jd,jf,td⟩⟩ j u hj
  rw[hs0]at this
  rw[hw1]
  exact this
 have hone:∀u∈Rc.cells ⟨0,kind,⟨tn,ts,tp,tq,jd,jf,td⟩⟩,u.oneCell'=true:=by simp[Rc.cells,Value.oneCell']
 have h1:=(h.aj k0).aj k1
 have HR:=hide hrow1
 have zi:=hide hnews
 have oN:=hide hone
 have wS:=hide hsz1
 have sO:=hide h1
 have GY:=hide hpv
 have HW:=hide hw0
 have HW1:=hide hw1
 have hne:w.heap.size≠sb:=by omega
 have HK:=hide (k0.trans k1)
 have HN:=hide hn
 clear fQ h hpv hrow0 hw0 b0 v5 hrow1 hnews hone hw1 hsz1 h1 k0 k1 hn hv
 go_enter Tryz.func205,Tryz.ntmps205
 go_wp2
 rw[←ae HW]
 go_region_law (first | (rw[←ae HW1];refine step_append_lies _ rfl (.tmp 10) (.tmp 14) 34 rfl base 62 i0 z0 9 80 Tryz.underlying34 hi0 hz0 hz1 hz2 hz3 (by decide) (.slice pa n iL) n (dP S.told) rfl (ae HR) ⟨w.heap.size+1,0,none⟩ 1 1 (Rc.cells ⟨0,kind,⟨tn,ts,tp,tq,jd,jf,td⟩⟩) rfl rfl (ae zi) (ae oN) (by omega) hmx ik (by have:=ae wS;omega) (w.heap.size+2) (ae wS) ?_;intro g cap w2 hown2 hgrow hat hlt;have vk:=hide hown2;have HG2:=hide hgrow;have HA2:=hide hat;have b2:ai w2 sb _ 207:=(hgrow.block sb (ae sO).blk.lt (fun e=>by obtain⟨cs,hc⟩:=ay (ae sO).jS (b:=sb) (by rw[ae GY];exact e.symm);exact ai.ne hc (ae sO).blk (by decide) rfl)).trans (ae sO).blk;have v52:=b2.cell 5;have f52:=b2.frozen 5;simp at v52;clear hown2 hgrow hat b2))
 all_goals
  go_end0
  have a1:=(ae sO).Jd (r:=⟨0,kind,⟨tn,ts,tp,tq,jd,jf,td⟩⟩) (ae HN) (ae vk) (by rw[ae GY];exact ae HG2) (by rw[ae GY];exact ae HA2) (ae wS)
  obtain⟨m',a1,a2,a3⟩:=a1
  exact⟨rfl,m',a1,fun b hb=>(a2 b hb).imp_right (fun h=>by have:=ae wS;omega),(ae HK).aC.trans a3⟩
theorem PD(base sb i:Nat)(S:RS)(m:SM)(n:Int)(w:World)(h:bH w base sb S m)(hlen:S.l.length≤1000)(hi:i<S.l.length) :
 Calls Tryz.prog 203 #[.pointer (some ⟨sb,0,none⟩),.int .i64 (i:Int),.int .i64 n] w fun e w'=>e=.returned (.tuple #[])∧bH w' base sb (S.stand i n) m∧ag (SF sb m) w w':=by
 obtain⟨N,hN⟩:∃N,S.l.length=N:=⟨_,rfl⟩
 obtain⟨a,c,hv⟩:=az h.bI
 obtain⟨g,rfl,hgb,hc,hf⟩:=h.rY hv hi
 have HV:=hide hv
 have HI:=hide hi
 rw[hN]at hv hlen hi
 have v1:w.cell? ⟨sb,1,none⟩=some (.slice (some ⟨g,0,none⟩) N c):=by rw[←hv];exact h.blk.cell 1
 have v4:w.cell? ⟨sb,4,none⟩=some (.int .i64 S.places):=h.blk.cell 4
 have f4:=h.blk.frozen 4
 have uj:=h.blk.lt
 obtain⟨x,hx⟩:∃x,ah S.l i=x:=⟨_,rfl⟩
 rw[hx]at hc
 have c8:w.cell? ⟨g,i * 13+8,none⟩=some (.int .i64 x.opn):=hc 8 _ rfl
 have c12:w.cell? ⟨g,i * 13+12,none⟩=some (.int .i64 x.place):=hc 12 _ rfl
 have f8:=hf (i * 13+8)
 have f12:=hf (i * 13+12)
 have hsg:sb≠g:=fun e=>by
  have r:=h.bI
  rw[ae HV]at r
  obtain⟨cs,hcs⟩:=ay r (b:=g) rfl
  exact ai.ne h.blk hcs (by decide) e
 have hgs:=hsg.symm
 have n1:¬i * 13+8=i * 13+12:=by omega
 have fin:bH (((w.setCell ⟨sb,4,none⟩ (.int .i64 (wrap64 (S.places+1)))).setCell ⟨g,i * 13+12,none⟩ (.int .i64 (wrap64 (S.places+1)))).setCell ⟨g,i * 13+8,none⟩ (.int .i64 (wrap64 (x.opn+n)))) base sb (S.stand i n) m ∧
  ag (SF sb m) w (((w.setCell ⟨sb,4,none⟩ (.int .i64 (wrap64 (S.places+1)))).setCell ⟨g,i * 13+12,none⟩ (.int .i64 (wrap64 (S.places+1)))).setCell ⟨g,i * 13+8,none⟩ (.int .i64 (wrap64 (x.opn+n)))):=by
  obtain⟨p0,q0⟩:=h.Be (wrap64 (S.places+1))
  obtain⟨p1,q1⟩:=p0.fM (i:=i) (ae HV) (ae HI) (j:=12) (by omega) (.int .i64 (wrap64 (S.places+1))) { x with place:=wrap64 (S.places+1) } (by simp only;rw[hx];rfl)
  obtain⟨p2,q2⟩:=p1.fM (i:=i) (by simp only[List.length_set];exact ae HV) (by simp only[List.length_set];exact ae HI) (j:=8) (by omega) (.int .i64 (wrap64 (x.opn+n))) { x with place:=wrap64 (S.places+1),opn:=wrap64 (x.opn+n) } (by simp only;rw[AB (ae HI)];rfl)
  refine⟨?_,(q0.trans q1).trans q2⟩
  have e:({ S with places:=wrap64 (S.places+1),l:=(S.l.set i { x with place:=wrap64 (S.places+1) }).set i { x with place:=wrap64 (S.places+1),opn:=wrap64 (x.opn+n) } }:RS)=S.stand i n:=by
   unfold RS.stand
   rw[hx,List.set_set]
  rw[←e]
  exact p2
 have HF:=hide fin
 clear fin hc hf h hv hx hN
 go_enter Tryz.func203,Tryz.ntmps203
 go_wp2
 go_region
 go_wp2
 go_region
 go_wp2
 go_end0
 exact⟨rfl,(ae HF).1.aj (ag.refl ak _).drew.drew,(ae HF).2.drew.drew⟩
end Go.Proofs.YtigaphnafnpfnaaGreatDoor
