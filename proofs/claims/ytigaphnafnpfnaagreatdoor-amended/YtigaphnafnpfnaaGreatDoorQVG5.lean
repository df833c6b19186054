import Derived.Test.YtigaphnafnpfnaaGreatDoorQVS1
import Derived.Test.YtigaphnafnpfnaaGreatDoorQVR1
import Derived.Test.YtigaphnafnpfnaaGreatDoorQVX1
import Derived.Test.YtigaphnafnpfnaaGreatDoorQVR5
import Derived.Test.YtigaphnafnpfnaaGreatDoorQVU5
import Derived.Test.YtigaphnafnpfnaaGreatDoorQVX11
import Derived.Test.YtigaphnafnpfnaaGreatDoorQVY10
import Derived.Test.YtigaphnafnpfnaaGreatDoorQVC5
import Derived.Test.YtigaphnafnpfnaaGreatDoorQVR2
set_option linter.unusedVariables false
set_option linter.unusedSimpArgs false
set_option maxHeartbeats 8000000
set_option maxRecDepth 100000
namespace Go.Proofs.YtigaphnafnpfnaaGreatDoor
open Go.RowKit
def WH(R:List Rc):Prop:=∀(i:Nat) (r:Rc),R[i]?=some r→r.num=(i:Int)+1
theorem Hz{R:List Rc}(h:WH R){n:Int}{p:Nat}(hp:(n≤0∧p=0)∨n=(p:Int)+1):jm R n=R.drop p:=by
 have key:∀(R:List Rc) (o:Nat),(∀(i:Nat) (r:Rc),R[i]?=some r→r.num=(i:Int)+o+1)→∀p:Nat,((n≤(o:Int)+1∧p=0)∨n=(p:Int)+o+1)→R.filter (fun r=>decide (n≤r.num))=R.drop p:=by
  intro R
  induction R with
  | nil=>intro o _ p _;simp
  | cons r R ih =>
    intro o hs p hp
    have h0:r.num=(o:Int)+1:=by have:=hs 0 r rfl;simpa using this
    have hs':∀(i:Nat) (x:Rc),R[i]?=some x→x.num=(i:Int)+((o+1:Nat):Int)+1:=fun i x hx=>by
     have:=hs (i+1) x (by simpa using hx)
     rw[this];push_cast;omega
    cases p with
    | zero =>
      have hle:n≤r.num:=by rcases hp with h | h <;> omega
      have e:=ih (o+1) hs' 0 (.inl ⟨by rcases hp with h | h <;> push_cast <;> omega,rfl⟩)
      rw[List.filter_cons,if_pos (by simpa using hle),e]
      rfl
    | succ p =>
      have hnp:n=((p+1:Nat):Int)+o+1:=by
       rcases hp with h | h
       ·omega
       ·exact h
      have hgt:¬n≤r.num:=by push_cast at hnp;omega
      have e:=ih (o+1) hs' p (.inr (by push_cast at hnp ⊢;omega))
      rw[List.filter_cons,if_neg (by simpa using hgt),e]
      rfl
 refine key R 0 (fun i r hr=>by have:=h i r hr;rw[this];push_cast;omega) p ?_
 rcases hp with h | h
 ·exact .inl ⟨by omega,h.2⟩
 ·exact .inr (by omega)
end Go.Proofs.YtigaphnafnpfnaaGreatDoor
namespace Go.Proofs.YtigaphnafnpfnaaGreatDoor
open Go.RowKit Go.Maps
attribute [local go_sem ↓] Go.wp_at_zero Go.wp_at_succ
theorem Ii(word:ByteArray)(a b:Int)(w:World)(hT:Tab w)(h0:0<word.size)(hw:word.size≤100)(ha:bZ a)(hb:bZ b) :
 (0<(fC (two a b) word 2).size∧(fC (two a b) word 2).size≤290)∧∀W,ag ak w W→∀sb cap,W.cell? ⟨sb,0,none⟩=some (.int .i64 a)→W.cell? ⟨sb,1,none⟩=some (.int .i64 b) →
  Calls Tryz.prog 65 #[.string word,.slice (some ⟨sb,0,none⟩) 2 cap] W fun e w'=>e=.returned (.string (fC (two a b) word 2))∧ag ak w w':=by
 have h:=ou word (two a b) 2 w hT h0 hw (by omega) (fun i hi=>by
  match i,hi with
  | 0,_=>exact ha
  | 1,_=>exact hb)
 refine⟨h.1,fun W k sb cap c0 c1=>h.2 W k sb cap (fun i hi=>?_)⟩
 match i,hi with
 | 0,_=>exact c0
 | 1,_=>exact c1
def Lg.Di(G:Lg)(k tb:Nat)(x:Tg)(p:Int):Lg:=((G.begun.kT k x p).told 3 (x.t.at p)).aS [.Dh tb x.t.price]
theorem Hr(bv bm bo k tb:Nat)(V:aW)(N price:Int)(x:Tg)(w:World)(R:Rep w bv bm bo V)(Ud:Tab w)(hN:N-1=(k:Int))(hx:V.lg.tr[k]?=some x)(htb:V.lm.tb[k]?=some tb)(hlen:V.lg.tr.length≤1000000000)(hlen2:V.lg.tp.length<1000000000)(hput:ja x V.lg.day=0)(hp:bg price=true)(hna:V.lg.na<3000000) :
 Calls Tryz.prog 40 #[.pointer (some ⟨bv,0,none⟩),.int .i64 N,.int .i64 price] w fun e w'=>e=.returned (.int .i64 0) ∧
  ∃aY,aK w' bv bm bo (V.lg.Di k tb x price) aY∧(∀y,aY.F y→V.lm.F y∨w.heap.size≤y)∧ag (fun y=>y=bv∨V.lm.F y) w w':=by
 have bN:bZ N:=by
  have hk:=(List.getElem?_eq_some_iff.1 hx).1
  exact⟨by omega,by omega⟩
 have bP:bZ price:=pU (by simp[bg]at hp;omega)
 have k0:ag ak w (w.alloc (.cells #[.pointer (some ⟨bv,0,none⟩)] 35)):=(ag.refl ak w).alloc _
 have hT:=qo bv bm bo k tb V.lg V.lm N x _ (R.log.aj k0) hN hx htb hlen
 rw[hput]at hT
 simp only[if_true]at hT
 have HT:=hide hT
 clear hT
 have QL:=ai.new w #[.pointer (some ⟨bv,0,none⟩)] 35
 have lv:=R.cZ.lt
 have HR:=hide R
 have HX:=hide hx
 have YX:=hide htb
 clear hput hx htb R
 go_enter Tryz.func40,Tryz.ntmps40
 go_wp2_with fail
 refine (ae HT).mono ?_
 rintro e w1 ⟨rfl,k1⟩
 have Vs:ag ak w w1:=k0.trans k1
 obtain⟨vW,wE⟩:∃vW,vW=w1.alloc (.cells #[.pointer (some ⟨tb,0,none⟩)] 103):=⟨_,rfl⟩
 have Qa:ag ak w vW:=by rw[wE];exact Vs.alloc _
 have s1a:vW.heap.size=w1.heap.size+1:=by rw[wE];simp
 have Sj:ai vW w.heap.size #[.pointer (some ⟨bv,0,none⟩)] 35:=by rw[wE];exact (k1.blk QL (fun x=>x)).alloc _
 have WS:ai vW w1.heap.size #[.pointer (some ⟨tb,0,none⟩)] 103:=by rw[wE];exact ai.new _ _ _
 have R1:=(ae HR).aj Qa
 have xO:=Ii ⟨#[99,111,114,114,101,99,116]⟩ N price vW (Ud.aj Qa) (by decide) (by decide) bN bP
 generalize fC (two N price) ⟨#[99,111,114,114,101,99,116]⟩ 2=ln at xO
 have kL:=hide (jL bv bm bo V.lg V.lm ln vW R1.log hna xO.1.1 xO.1.2)
 have HLn:=hide xO.2
 have MG:vW.cell? ⟨w.heap.size,0,none⟩=some (.pointer (some ⟨bv,0,none⟩)):=Sj.cell 0
 have xv1:w1.cell? ⟨w.heap.size,0,none⟩=some (.pointer (some ⟨bv,0,none⟩)):=(k1.blk QL (fun x=>x)).cell 0
 have HW:=hide wE
 have l1:w.heap.size<w1.heap.size:=by have:=Vs.size;have:=k1.size;simp at this;omega
 have Yk:∀y,w.heap.size≤y→¬(y=bv∨V.lm.F y):=by
  rintro y hy (e | e)
  ·omega
  ·have:=(ae HR).log.log.lt e;omega
 have HC0:Hid ((vW.alloc (.cells #[.int .i64 N,.int .i64 price] 3)).cell? ⟨w1.heap.size+1,0,none⟩=some (.int .i64 N)):=by
  show _=_
  rw[←s1a];exact (ai.new vW _ _).cell 0
 have uk:Hid ((vW.alloc (.cells #[.int .i64 N,.int .i64 price] 3)).cell? ⟨w1.heap.size+1,1,none⟩=some (.int .i64 price)):=by
  show _=_
  rw[←s1a];exact (ai.new vW _ _).cell 1
 have nP:=hide Yk
 have HB1:=hide Sj
 have HT1:=hide WS
 have HR1:=hide R1
 have kV:=hide Qa
 have GL:=hide s1a
 clear wE k1 xO Yk R1 Sj WS Qa
 go_wp2_with (go_at_call 68;refine (aU _ _).mono ?_;rintro e w' ⟨rfl,rfl⟩)
 rw[←ae HW]
 go_region_held3 (fun w'=>w'.cell? ⟨w.heap.size,0,none⟩=some (.pointer (some ⟨bv,0,none⟩))) (go_keep)
  (first
    | (go_at_call 65;refine (ae HLn _ ?cc _ _ ?c0 ?c1).mono ?_;(case c0=>exact ae HC0);(case c1=>exact ae uk);(case cc=>repeat (first | exact ag.refl _ _ | refine ag.drew ?_ | refine ag.alloc ?_ _));rintro e wl ⟨rfl,hk⟩;have z0:=hk.cell (p:=⟨w.heap.size,0,none⟩) MG (fun x=>x);have D9:=hide hk;clear hk)
    | (go_at_call 51;refine (ae kL _ ?cc).mono ?_;(case cc=>repeat (first | exact ae D9 | refine ag.drew ?_));rintro e wb ⟨rfl,lJ,hLb,oQ,kb,xY,-⟩;have z0:=kb.cell (p:=⟨w.heap.size,0,none⟩) MG (ae nP _ (Nat.le_refl _));have GX:=hide hLb;have D8:=hide oQ;have Bz:=hide kb;have Qq:=hide xY;clear hLb oQ kb xY))
 rename_i Og
 clear Og z0 MG xv1 HLn D9 kL
 have hLb:=ae GX
 have oQ:=ae D8
 have kb:=ae Bz
 have xY:=ae Qq
 have KE:=kb.blk (ae HB1) (ae nP _ (Nat.le_refl _))
 have QA:=kb.blk (ae HT1) (ae nP _ (by omega))
 have Uu:lJ.tb[k]?=some tb:=by rw[xY];exact ae YX
 have hx':V.lg.begun.tr[k]?=some x:=ae HX
 have Qd:ai wb tb x.cells 105:=hLb.log.blk k tb x Uu hx'
 have xv:wb.cell? ⟨w.heap.size,0,none⟩=some (.pointer (some ⟨bv,0,none⟩)):=KE.cell 0
 have xt:wb.cell? ⟨w1.heap.size,0,none⟩=some (.pointer (some ⟨tb,0,none⟩)):=QA.cell 0
 have t2:wb.cell? ⟨tb,2,none⟩=some (.int .i64 x.t.price):=Qd.cell 2
 have lvb:=KE.lt
 have ltb:=QA.lt
 have ktb:=Qd.lt
 have outb:∀y,w.heap.size≤y→y<vW.heap.size→¬(y=bv∨lJ.F y):=by
  rintro y h1 h2 (e | e)
  ·omega
  ·rcases oQ y e with e | e
   ·exact ae nP y h1 (.inr e)
   ·omega
 have hSP:=fun W (kW:ag ak wb W)=>DF bv bm bo k tb V.lg.begun lJ x price W (hLb.aj kW) hx' Uu (by simp only[Lg.begun];exact hlen2)
 have HSP:=hide hSP
 have Z8:=hide outb
 have ZV:=hide hLb
 have jB:=hide KE
 have HTb:=hide QA
 have szb:=(ae Bz).size
 have szc:=(ae GL)
 clear hSP outb hLb oQ kb xY KE QA Qd Uu hx'
 go_wp2_with (go_at_call 76;refine (ae HSP _ ?cc).mono ?_;(case cc=>repeat (first | exact ag.refl _ _ | refine ag.drew ?_ | refine ag.alloc ?_ _));rintro e wd ⟨rfl,lmd,hLd,hFd,kd⟩;have HLd:=hide hLd;have HFd:=hide hFd;have HKd:=hide kd;have bvd:=kd.blk ((ae jB).alloc (.cells #[.int .i64 x.t.price] 3)) (ae Z8 _ (Nat.le_refl _) (by omega));have xvd:wd.cell? ⟨w.heap.size,0,none⟩=some (.pointer (some ⟨bv,0,none⟩)):=bvd.cell 0;have oH:=hide (yB bv bm bo _ lmd (.Dh tb x.t.price) (.func 77) #[.pointer (some ⟨w.heap.size,0,none⟩),.pointer (some ⟨w1.heap.size,0,none⟩),.pointer (some ⟨wb.heap.size,0,none⟩)] wd hLd (by show 0<V.lg.na+1;omega) (by show V.lg.na+1≤3000000;omega) (by show 0+1<1000000000;omega));clear hLd hFd kd bvd)
 refine (ae oH).mono ?_
 rintro e w4 ⟨rfl,UM,c1,c2,c3,-⟩
 have H1:=hide c1
 have H2:=hide c2
 have H3:=hide c3
 clear c1 c2 c3
 go_wp2
 go_ret
 have s1:=(ae kV).size
 have sd:=(ae HKd).size
 simp at sd
 have hB:∀y,lJ.F y→V.lm.F y∨w.heap.size≤y:=fun y h=>(ae D8 y h).imp_right (fun h=>by omega)
 have hD:∀y,lmd.F y→V.lm.F y∨w.heap.size≤y:=fun y h=>by
  rcases ae HFd y h with h | h
  ·exact hB y h
  ·simp at h;exact .inr (by omega)
 have kF1:ag (fun y=>y=bv∨V.lm.F y) w wb:=(ae kV).aC.trans (ae Bz)
 have Ze:=(kF1.alloc (.cells #[.int .i64 x.t.price] 3)).from ((ae HKd).mono (fun y h=>by
  rcases h with h | h
  ·exact .inl (.inl h)
  ·exact (hB y h).imp_left .inr))
 refine⟨rfl,UM,ae H1,fun y h=>?_,Ze.from ((ae H3).mono (fun y h=>(hD y (.inr (.inr (.inr h)))).imp_left .inr))⟩
 rcases ae H2 y h with h | h
 ·exact hD y h
 ·exact .inr (by omega)
open Go.RowKit
theorem su(base sb:Nat)(S S':RS)(m:SM)(x:aP)(E:Int)(w:World)(h:bH w base sb S m)(hx:x.kind=98)
 (hr:∀W m',bH W base sb S.fresh m'→Calls Tryz.prog 171 #[.pointer (some ⟨sb,0,none⟩),x.val] W fun e w'=>e=.returned (.int .i64 E)∧fP base sb S' m' W w') :
 Calls Tryz.prog 138 #[.pointer (some ⟨sb,0,none⟩),x.val] w fun e w'=>e=.returned (.tuple #[bu 0 0 0 0 0,.int .i64 E])∧fP base sb S' m w w':=by
 have uj:=h.blk.lt
 have v5:w.cell? ⟨sb,5,none⟩=some m.ov:=h.blk.cell 5
 have f5:=h.blk.frozen 5
 have sz:sb≠w.heap.size:=by omega
 have sr:sb≠w.heap.size+1:=by omega
 have sz':=sz.symm
 have MV:=sr.symm
 have tH:sb<w.heap.size+1:=by omega
 obtain⟨kind,s,⟨id,owner,sym,side,ax,price,qty⟩,a,b,c,again⟩:=x
 simp only at hx
 subst hx
 simp only[aP.val,aP.cells]at hr ⊢
 have HS:=hide h
 have HR:=hide hr
 clear h hr
 go_enter Tryz.func138,Tryz.ntmps138
 go_wp2_with fail
 obtain⟨p1,q1,b1,_⟩:=(ae HS).starts #[.int .u8 98,.string s,.int .i64 id,.int .i64 owner,.string sym,.int .i64 side,.int .i64 ax,.int .i64 price,.int .i64 qty,.int .i64 a,.int .i64 b,.int .i64 c,.bool again]
 refine (ae HR _ _ p1).mono ?_
 rintro e w3 ⟨rfl,hn3⟩
 have b3:=hn3.xu p1 b1 (by decide)
 have J5:=hide (hn3.mi (ae HS) q1)
 have z0:=b3.cell 0
 have z1:=b3.cell 1
 have z2:=b3.cell 2
 have z3:=b3.cell 3
 have z4:=b3.cell 4
 simp[aB]at z0 z1 z2 z3 z4
 have fz0:=b3.frozen 0
 have BV:=b3.frozen 1
 have BX:=b3.frozen 2
 have fz3:=b3.frozen 3
 have BZ:=b3.frozen 4
 have HB3:=hide b3
 clear p1 q1 b1 hn3 b3
 go_wp2
 refine bodyPost_ret (mM _ (w.heap.size+1) _ 0 0 0 0 0 E rfl rfl ?_) rfl ⟨rfl,?_⟩
 ·exact qj (ae HB3) _ _ _ _ _
 ·exact (ae J5).off (ae HB3) (by omega) (mX _ _ _ _ _)
theorem jW(base sb:Nat)(S S':RS)(m:SM)(x:aP)(E:Int)(w:World)(h:bH w base sb S m)(hx:x.kind=107)
 (hr:∀W m',bH W base sb S.fresh m'→Calls Tryz.prog 171 #[.pointer (some ⟨sb,0,none⟩),x.val] W fun e w'=>e=.returned (.int .i64 E)∧fP base sb S' m' W w') :
 Calls Tryz.prog 138 #[.pointer (some ⟨sb,0,none⟩),x.val] w fun e w'=>e=.returned (.tuple #[bu 0 0 0 0 0,.int .i64 E])∧fP base sb S' m w w':=by
 have uj:=h.blk.lt
 have v5:w.cell? ⟨sb,5,none⟩=some m.ov:=h.blk.cell 5
 have f5:=h.blk.frozen 5
 have sz:sb≠w.heap.size:=by omega
 have sr:sb≠w.heap.size+1:=by omega
 have sz':=sz.symm
 have MV:=sr.symm
 have tH:sb<w.heap.size+1:=by omega
 obtain⟨kind,s,⟨id,owner,sym,side,ax,price,qty⟩,a,b,c,again⟩:=x
 simp only at hx
 subst hx
 simp only[aP.val,aP.cells]at hr ⊢
 have HS:=hide h
 have HR:=hide hr
 clear h hr
 go_enter Tryz.func138,Tryz.ntmps138
 go_wp2_with fail
 obtain⟨p1,q1,b1,_⟩:=(ae HS).starts #[.int .u8 107,.string s,.int .i64 id,.int .i64 owner,.string sym,.int .i64 side,.int .i64 ax,.int .i64 price,.int .i64 qty,.int .i64 a,.int .i64 b,.int .i64 c,.bool again]
 refine (ae HR _ _ p1).mono ?_
 rintro e w3 ⟨rfl,hn3⟩
 have b3:=hn3.xu p1 b1 (by decide)
 have J5:=hide (hn3.mi (ae HS) q1)
 have z0:=b3.cell 0
 have z1:=b3.cell 1
 have z2:=b3.cell 2
 have z3:=b3.cell 3
 have z4:=b3.cell 4
 simp[aB]at z0 z1 z2 z3 z4
 have fz0:=b3.frozen 0
 have BV:=b3.frozen 1
 have BX:=b3.frozen 2
 have fz3:=b3.frozen 3
 have BZ:=b3.frozen 4
 have HB3:=hide b3
 clear p1 q1 b1 hn3 b3
 go_wp2
 refine bodyPost_ret (mM _ (w.heap.size+1) _ 0 0 0 0 0 E rfl rfl ?_) rfl ⟨rfl,?_⟩
 ·exact qj (ae HB3) _ _ _ _ _
 ·exact (ae J5).off (ae HB3) (by omega) (mX _ _ _ _ _)
theorem F6(base sb:Nat)(S S':RS)(m:SM)(x:aP)(w:World)(h:bH w base sb S m)(hx:x.kind=120)
 (hr:∀W m',bH W base sb S.fresh m'→Calls Tryz.prog 172 #[.pointer (some ⟨sb,0,none⟩)] W fun e w'=>e=.returned (.tuple #[])∧fP base sb S' m' W w') :
 Calls Tryz.prog 138 #[.pointer (some ⟨sb,0,none⟩),x.val] w fun e w'=>e=.returned (.tuple #[bu 0 0 0 0 0,.int .i64 0])∧fP base sb S' m w w':=by
 have uj:=h.blk.lt
 have v5:w.cell? ⟨sb,5,none⟩=some m.ov:=h.blk.cell 5
 have f5:=h.blk.frozen 5
 have sz:sb≠w.heap.size:=by omega
 have sr:sb≠w.heap.size+1:=by omega
 have sz':=sz.symm
 have MV:=sr.symm
 have tH:sb<w.heap.size+1:=by omega
 obtain⟨kind,s,⟨id,owner,sym,side,ax,price,qty⟩,a,b,c,again⟩:=x
 simp only at hx
 subst hx
 simp only[aP.val,aP.cells]
 have HS:=hide h
 have HR:=hide hr
 clear h hr
 go_enter Tryz.func138,Tryz.ntmps138
 go_wp2_with fail
 obtain⟨p1,q1,b1,_⟩:=(ae HS).starts #[.int .u8 120,.string s,.int .i64 id,.int .i64 owner,.string sym,.int .i64 side,.int .i64 ax,.int .i64 price,.int .i64 qty,.int .i64 a,.int .i64 b,.int .i64 c,.bool again]
 refine (ae HR _ _ p1).mono ?_
 rintro e w3 ⟨rfl,hn3⟩
 have b3:=hn3.xu p1 b1 (by decide)
 have J5:=hide (hn3.mi (ae HS) q1)
 have z0:=b3.cell 0
 have z1:=b3.cell 1
 have z2:=b3.cell 2
 have z3:=b3.cell 3
 have z4:=b3.cell 4
 simp[aB]at z0 z1 z2 z3 z4
 have fz0:=b3.frozen 0
 have BV:=b3.frozen 1
 have BX:=b3.frozen 2
 have fz3:=b3.frozen 3
 have BZ:=b3.frozen 4
 have HB3:=hide b3
 clear p1 q1 b1 hn3 b3
 go_wp2
 refine bodyPost_ret (mM _ (w.heap.size+1) _ 0 0 0 0 0 0 rfl rfl ?_) rfl ⟨rfl,?_⟩
 ·exact qj (ae HB3) _ _ _ _ _
 ·exact (ae J5).off (ae HB3) (by omega) (mX _ _ _ _ _)
end Go.Proofs.YtigaphnafnpfnaaGreatDoor
namespace Go.Proofs.YtigaphnafnpfnaaGreatDoor
open Go.RowKit
def TM:Ask:=⟨0,0,⟨#[]⟩,0,0,0,0⟩
def oZ(n:Int)(again:Bool):aP:=⟨98,⟨#[]⟩,TM,n,0,0,again⟩
def gp(n b:Int):aP:=⟨107,⟨#[]⟩,TM,n,b,0,false⟩
def xk:aP:=⟨120,⟨#[]⟩,TM,0,0,0,false⟩
theorem nX{base sb:Nat}{S:RS}{m:SM}{x:aP}{E:Int}{w:World}(h:bH w base sb S m)(hE:E≠0)(HH:∀W,ag ak w W→Calls Tryz.prog 204 #[.pointer (some ⟨sb,0,none⟩),.int .i64 x.a] W fun e w'=>e=.returned (.int .i64 E)∧ag ak W w') :
 Calls Tryz.prog 171 #[.pointer (some ⟨sb,0,none⟩),x.val] w fun e w'=>e=.returned (.int .i64 E)∧fP base sb S m w w':=by
 refine (IU base sb S m x E w h hE HH).mono ?_
 rintro e w' ⟨rfl,k⟩
 exact⟨rfl,(fP.refl h).ext k⟩
theorem wu{S:RS}{n:Int}{again:Bool}(hl:S.t.length≤1000000000)(hn:n<1∨(S.t.length:Int)<n):iD S (oZ n again) S.fresh (bu 0 0 0 0 0) 6:=fun base sb m w h =>
 su base sb S S.fresh m (oZ n again) 6 w h rfl (fun W m' h'=>nX h' (by decide) (fun W2 k2=>(rE base sb S.fresh m' n W2 (h'.aj k2) hl hn).mono (fun e w' ⟨h1,h2⟩=>⟨h1,by rw[h2];exact ag.refl _ _⟩)))
theorem rM{S:RS}{n b:Int}(hl:S.t.length≤1000000000)(hn:n<1∨(S.t.length:Int)<n):iD S (gp n b) S.fresh (bu 0 0 0 0 0) 6:=fun base sb m w h =>
 jW base sb S S.fresh m (gp n b) 6 w h rfl (fun W m' h'=>nX h' (by decide) (fun W2 k2=>(rE base sb S.fresh m' n W2 (h'.aj k2) hl hn).mono (fun e w' ⟨h1,h2⟩=>⟨h1,by rw[h2];exact ag.refl _ _⟩)))
theorem xI{S:RS}{n:Int}{again:Bool}{k:Nat}{x:Tg}(hl:S.t.length≤1000000000)(hk:n-1=(k:Int))(hx:S.t[k]?=some x)(hE:ja x S.day≠0):iD S (oZ n again) S.fresh (bu 0 0 0 0 0) (ja x S.day):=fun base sb m w h =>
 su base sb S S.fresh m (oZ n again) _ w h rfl (fun W m' h'=>nX h' hE (fun W2 k2=>ku base sb k S.fresh m' n x W2 (h'.aj k2) hl hk hx))
theorem tu{S:RS}{n b:Int}{k:Nat}{x:Tg}(hl:S.t.length≤1000000000)(hk:n-1=(k:Int))(hx:S.t[k]?=some x)(hE:ja x S.day≠0):iD S (gp n b) S.fresh (bu 0 0 0 0 0) (ja x S.day):=fun base sb m w h =>
 jW base sb S S.fresh m (gp n b) _ w h rfl (fun W m' h'=>nX h' hE (fun W2 k2=>ku base sb k S.fresh m' n x W2 (h'.aj k2) hl hk hx))
theorem qG{S:RS}{n b:Int}{k:Nat}{x:Tg}(hl:S.t.length≤1000000000)(hk:n-1=(k:Int))(hx:S.t[k]?=some x)(hE:ja x S.day=0)(hb:bg b=false):iD S (gp n b) S.fresh (bu 0 0 0 0 0) 4:=fun base sb m w h =>
 jW base sb S S.fresh m (gp n b) _ w h rfl (fun W m' h'=>(Dj base sb k S.fresh m' (gp n b) x W h' hl rfl hk hx hE hb).mono (fun e w' ⟨h1,h2⟩=>⟨h1,(fP.refl h').ext h2⟩))
theorem zt{S:RS}{n b:Int}{k:Nat}{x:Tg}(hl:S.t.length≤1000000000)(hk:n-1=(k:Int))(hx:S.t[k]?=some x)(hE:ja x S.day=0)(hb:bg b=true):iD S (gp n b) (S.fresh.sW k x b) (bu 0 0 0 0 0) 0:=fun base sb m w h =>
 jW base sb S _ m (gp n b) _ w h rfl (fun W m' h'=>yJ base sb k S.fresh m' (gp n b) x W h' hl (by show 0<1000000000;omega) rfl hk hx hE hb)
theorem Ht{S:RS}{n:Int}{again:Bool}{k ib is:Nat}{x:Tg}(hl:S.t.length≤1000000000)(hlen:S.l.length≤1000)(hk:n-1=(k:Int))(hx:S.t[k]?=some x)(hE:ja x S.day=0)(hib:fK S.l x.t.jh=some ib)(his:fK S.l x.t.sell=some is):iD S (oZ n again) (S.fresh.KD k x ib is again) (bu 0 0 0 0 0) 0:=fun base sb m w h =>
 su base sb S _ m (oZ n again) _ w h rfl (fun W m' h'=>FV base sb k S.fresh m' (oZ n again) x W h' hl (by show 0<1000000000;omega) hlen ib is hib his rfl hk hx hE)
theorem Ez{S:RS}(hlen:S.l.length≤1000):iD S xk S.fresh.closes (bu 0 0 0 0 0) 0:=fun base sb m w h =>
 F6 base sb S _ m xk w h rfl (fun W m' h'=>IW base sb S.fresh m' W h' hlen (by show 0<1000000000;omega))
end Go.Proofs.YtigaphnafnpfnaaGreatDoor
namespace Go.Proofs.YtigaphnafnpfnaaGreatDoor
open Go.RowKit Go.Maps
attribute [local go_sem ↓] Go.wp_at_zero Go.wp_at_succ
theorem AQ(x:Tg)(day:Int):ja x day≠0∨(ja x day=0∧x.holds=true):=by
 unfold ja
 cases h:x.holds
 ·simp
 ·by_cases e:x.t.day=day
  ·simp[e]
  ·simp[e]
theorem zq(bv:Nat)(N price:Int)(po:Option Addr)(w:World)(hp:bg price=false)(h:∀W,ag ak w W→Calls Tryz.prog 71 #[.pointer (some ⟨bv,0,none⟩),.int .i64 N] W fun e w'=>e=.returned (.tuple #[.pointer po,.int .i64 0])∧ag ak W w') :
 Calls Tryz.prog 40 #[.pointer (some ⟨bv,0,none⟩),.int .i64 N,.int .i64 price] w fun e w'=>e=.returned (.int .i64 4)∧ag ak w w':=by
 have k0:ag ak w (w.alloc (.cells #[.pointer (some ⟨bv,0,none⟩)] 35)):=(ag.refl ak w).alloc _
 have H:=hide (h _ k0)
 have HN:Hid (∀W,Calls Tryz.prog 68 #[.int .i64 price] W fun e w'=>e=.returned (.bool false)∧w'=W):=fun W=>by
  have:=aU price W
  rw[hp]at this
  exact this
 have uh:=hide k0
 clear h k0
 go_enter Tryz.func40,Tryz.ntmps40
 go_wp2_with fail
 refine (ae H).mono ?_
 rintro e w2 ⟨rfl,k2⟩
 have jC:=hide k2
 clear k2 H
 go_wp2_with fail
 refine (ae HN _).mono ?_
 rintro e w3 ⟨rfl,hw3⟩
 rw[hw3]
 clear hw3 w3
 go_wp2
 go_ret
 exact⟨rfl,((ae uh).trans (ae jC)).trans ((ag.refl ak w2).alloc _)⟩
theorem zC{n b:Int}(hn:mG n)(hb:mG b):vz (gp n b):=by
 refine⟨_,fun W=>zL ⟨#[]⟩ 0 0 ⟨#[]⟩ 0 0 0 0 n b 0 false W hn hb,?_⟩
 have h1:=bM n hn
 have h2:=bM b hb
 repeat rw[ByteArray.size_append]
 show 8+(iG n).size+1+(iG b).size≤300
 omega
theorem bF.corrected{p:Nat→Nat}{V:aW}{S:RS}{N k tb:Nat}{x:Tg}{b:Int}{aY:Lm}(h:bF p V S N)(hx:S.t[k]?=some x):bF p { V with lg:=V.lg.Di k tb x b,lm:=aY } (S.fresh.sW k x b) (N+1):=by
 have hl:=(List.getElem?_eq_some_iff.1 hx).1
 refine⟨⟨h.gw.gb,h.gw.kG,fun y hy=>?_,h.gw.sym,h.gw.side⟩,h.nb,h.sym,h.no,h.aO,h.yD,h.inj,h.same,h.place,h.uz,h.LM,h.LQ,fun i hi=>?_,?_,?_,h.day,?_,?_,?_,h.eF,h.OZ,h.ids⟩
 ·have q:=h.gw.q y hy
  exact⟨q.sum,q.o0,q.f0,q.c0,q.e0,by have:=q.hi;unfold mN at this ⊢;push_cast;omega⟩
 ·have h5:=h.GU i hi;exact⟨h5.1,by show (V.B i).places≤_;push_cast;have:=h5.2;omega⟩
 ·have h5:=h.Pq;exact⟨h5.1,by show S.places≤_;push_cast;have:=h5.2;omega⟩
 ·show V.lg.tr.set k ⟨x.t.at b,x.holds⟩=S.t.set k ⟨{ x.t with price:=b },x.holds⟩
  rw[h.tr];rfl
 ·show (V.lg.tr.set k ⟨x.t.at b,x.holds⟩).length≤_
  rw[List.length_set];have:=h.Bl;omega
 ·show (V.lg.tp++[(⟨(V.lg.tp.length:Int)+1,3,x.t.at b⟩:Rc)]).length≤_
  rw[List.length_append,List.length_singleton];have:=h.tpN;omega
 ·show V.lg.na+1≤N+1
  have:=h.zG;omega
theorem FL.price{om:Nat→Ord}{aO:Int→Option Nat}{tr:List Tg}{k:Nat}{x:Tg}{ex:Int→Int}{b:Int}(h:FL om aO (held tr) ex)(hx:tr[k]?=some x):FL om aO (held (tr.set k ⟨x.t.at b,x.holds⟩)) ex:=by
 have hl:=(List.getElem?_eq_some_iff.1 hx).1
 have e:held tr=held (tr.take k)++(if x.holds then [x.t] else [])++held (tr.drop (k+1)):=by
  have e:=congrArg held (Gt hx)
  rw[fE,fE,pR]at e
  exact e
 have e2:held (tr.set k ⟨x.t.at b,x.holds⟩)=held (tr.take k)++(if x.holds then [x.t.at b] else [])++held (tr.drop (k+1)):=by
  rw[Bf hl,fE,fE,pR]
 rw[e]at h
 rw[e2]
 refine⟨fun t ht=>?_,h.ids,fun id c hc=>?_⟩
 ·simp only[List.mem_append]at ht
  rcases ht with (a | a) | a
  ·exact h.tw t (by simp[a])
  ·cases hh:x.holds
   ·rw[hh]at a;simp at a
   ·rw[hh]at a
    simp at a
    subst a
    have:=h.tw x.t (by simp[hh])
    exact⟨this.jh,this.sell,this.qty⟩
  ·exact h.tw t (by simp[a])
 ·rw[h.eq id c hc,gJ,gJ,gJ,gJ]
  cases hh:x.holds <;> simp[sumT,tq,Tr.at]
theorem vC.Dh{V:aW}{k tb:Nat}{x:Tg}{b:Int}{aY:Lm}(h:vC V)(hx:V.lg.tr[k]?=some x):vC { V with lg:=V.lg.Di k tb x b,lm:=aY }:=by
 have hs:=h.sy x (List.mem_of_getElem? hx)
 refine⟨h.sz,h.fl.price hx,fun y hy=>?_,h.tp.snoc rfl hs⟩
 have hy':y∈V.lg.tr.set k ⟨x.t.at b,x.holds⟩:=hy
 rcases List.mem_or_eq_of_mem_set hy' with hh | hh
 ·exact h.sy y hh
 ·rw[hh];exact hs
theorem FP(bv bm bo N:Nat)(V:aW)(p:Nat→Nat)(S:RS)(n b:Int)(w:World)(R:Rep w bv bm bo V)(hT:Tab w)(h:bF p V S N)(hN:N<2900000)(hz:vC V) :
 Calls Tryz.prog 40 #[.pointer (some ⟨bv,0,none⟩),.int .i64 n,.int .i64 b] w fun e w'=>∃E,e=.returned (.int .i64 E)∧Out bv bm bo V p S N (gp n b) 0 0 0 0 0 E w w':=by
 have hN1:=h.Bl
 have QM:=h.tpN
 have hN3:=h.zG
 have hl:S.t.length≤1000000000:=by rw[←h.tr];omega
 by_cases hr:n<1∨(V.lg.tr.length:Int)<n
 ·refine (vI bv n 6 b none w (by decide) (fun W kW=>yU bv bm bo V.lg V.lm n W (R.log.aj kW) hr)).mono ?_
  rintro e w' ⟨rfl,kk⟩
  exact⟨6,rfl,.inl ⟨by decide,kk,S.fresh,rM hl (by rw[←h.tr];exact hr)⟩⟩
 ·obtain⟨k,hk⟩:∃k:Nat,n-1=(k:Int):=⟨(n-1).toNat,by omega⟩
  have hkl:k<V.lg.tr.length:=by omega
  obtain⟨x,hx⟩:∃x,V.lg.tr[k]?=some x:=⟨_,List.getElem?_eq_getElem hkl⟩
  obtain⟨tb,htb⟩:∃tb,V.lm.tb[k]?=some tb:=⟨_,List.getElem?_eq_getElem (by rw[R.log.log.len];exact hkl)⟩
  have SE:S.t[k]?=some x:=by rw[←h.tr];exact hx
  have hd:V.lg.day=S.day:=h.day
  rcases AQ x V.lg.day with hne | ⟨h0,hh⟩
  ·refine (vI bv n (ja x V.lg.day) b none w hne (fun W kW=>(qo bv bm bo k tb V.lg V.lm n x W (R.log.aj kW) hk hx htb (by omega)).mono (fun e w' hh=>?_))).mono ?_
   ·rw[if_neg hne]at hh;exact hh
   ·rintro e w' ⟨rfl,kk⟩
    rw[hd]at hne ⊢
    exact⟨_,rfl,.inl ⟨hne,kk,S.fresh,tu hl hk SE hne⟩⟩
  ·cases hb:bg b
   ·refine (zq bv n b (some ⟨tb,0,none⟩) w hb (fun W kW=>(qo bv bm bo k tb V.lg V.lm n x W (R.log.aj kW) hk hx htb (by omega)).mono (fun e w' hh=>?_))).mono ?_
    ·rw[h0]at hh;simpa using hh
    ·rintro e w' ⟨rfl,kk⟩
     exact⟨_,rfl,.inl ⟨by decide,kk,S.fresh,qG hl hk SE (by rw[←hd];exact h0) hb⟩⟩
   ·refine (Hr bv bm bo k tb V n b x w R hT hk hx htb (by omega) (by omega) h0 hb (by omega)).mono ?_
    rintro e w' ⟨rfl,aY,hL,hF,kc⟩
    have R':=R.jX hL kc
    have fb:mG b:=by unfold bg at hb;simp at hb;exact⟨by omega,by omega⟩
    refine⟨0,rfl,.inr ⟨rfl,zC ⟨by omega,by omega⟩ fb,_,R',⟨S.fresh.sW k x b,p,h.corrected SE,rfl,zt hl hk SE (by rw[←hd];exact h0) hb,by show 1≤201;omega,hz.Dh hx⟩,kc.mono (fun y hy=>?_),fun y hy=>?_⟩⟩
    ·rcases hy with hy | hy
     ·exact .inl hy
     ·exact .inr (.inr (.inr (.inr (.inr hy))))
    ·rcases hy with hy | hy | hy | hy | hy | hy
     ·exact .inl (.inl hy)
     ·exact .inl (.inr (.inl hy))
     ·exact .inl (.inr (.inr (.inl hy)))
     ·exact .inl (.inr (.inr (.inr (.inl hy))))
     ·exact .inl (.inr (.inr (.inr (.inr (.inl hy)))))
     ·exact (hF y hy).imp_left (fun z=>.inr (.inr (.inr (.inr (.inr z)))))
end Go.Proofs.YtigaphnafnpfnaaGreatDoor
namespace Go.Proofs.YtigaphnafnpfnaaGreatDoor
open Go.RowKit Go.Maps
theorem Il{n:Int}{again:Bool}(hn:mG n):vz (oZ n again):=by
 have h1:=bM n hn
 cases again
 ·refine⟨_,fun W=>uQ ⟨#[]⟩ 0 0 ⟨#[]⟩ 0 0 0 0 n 0 0 W hn,?_⟩
  repeat rw[ByteArray.size_append]
  show 5+(iG n).size+2≤300
  omega
 ·refine⟨_,fun W=>wI ⟨#[]⟩ 0 0 ⟨#[]⟩ 0 0 0 0 n 0 0 W hn,?_⟩
  repeat rw[ByteArray.size_append]
  show 5+(iG n).size+2≤300
  omega
theorem bF.jg{p:Nat→Nat}{V:aW}{S:RS}{N k tb:Nat}{x:Tg}{aY:Lm}(h:bF p V S N)(hx:S.t[k]?=some x):bF p { V with lg:=V.lg.jg k tb x.t,lm:=aY } (S.fresh.kK k x) (N+1):=by
 have hl:=(List.getElem?_eq_some_iff.1 hx).1
 refine⟨⟨h.gw.gb,h.gw.kG,fun y hy=>?_,h.gw.sym,h.gw.side⟩,h.nb,h.sym,h.no,h.aO,h.yD,h.inj,h.same,h.place,h.uz,h.LM,h.LQ,fun i hi=>?_,?_,?_,h.day,?_,?_,?_,h.eF,h.OZ,h.ids⟩
 ·have q:=h.gw.q y hy
  exact⟨q.sum,q.o0,q.f0,q.c0,q.e0,by have:=q.hi;unfold mN at this ⊢;push_cast;omega⟩
 ·have h5:=h.GU i hi;exact⟨h5.1,by show (V.B i).places≤_;push_cast;have:=h5.2;omega⟩
 ·have h5:=h.Pq;exact⟨h5.1,by show S.places≤_;push_cast;have:=h5.2;omega⟩
 ·show V.lg.tr.set k ⟨x.t,false⟩=S.t.set k ⟨x.t,false⟩
  rw[h.tr]
 ·show (V.lg.tr.set k ⟨x.t,false⟩).length≤_
  rw[List.length_set];have:=h.Bl;omega
 ·show (V.lg.tp++[(⟨(V.lg.tp.length:Int)+1,2,x.t⟩:Rc)]).length≤_
  rw[List.length_append,List.length_singleton];have:=h.tpN;omega
 ·show V.lg.na+1≤N+1
  have:=h.zG;omega
theorem bF.index{p:Nat→Nat}{V:aW}{S:RS}{N:Nat}(h:bF p V S N){id:Int}{b:Nat}(hb:V.aO id=some b):∃j,fK S.l id=some j∧j<S.l.length∧p j=b:=by
 have hf:=h.found id
 rw[hb]at hf
 cases hx:fK S.l id with
 | none=>rw[hx]at hf;simp at hf
 | some j =>
   rw[hx]at hf
   simp at hf
   exact⟨j,rfl,(gV hx).1,hf.symm⟩
theorem Turned.with{bv bm bo:Nat}{V:aW}{Q Q':aW→Prop}{w w':World}(h:Turned bv bm bo V Q w w')(hq:∀V2,Q V2→Vm V.lg V2.lg 3→V2.aO=V.aO→Q' V2):Turned bv bm bo V Q' w w':=by
 obtain⟨V2,a,b,c,d,e,f⟩:=h
 exact⟨V2,a,hq V2 b c e,c,d,e,f⟩
def YJ(p:Nat→Nat)(V:aW)(S:RS)(N:Nat)(hl:List Tr)(ex:Int→Int)(V2:aW):Prop :=
 bF p V2 S N∧FL V2.om V2.aO hl ex∧V2.nb=V.nb∧∀j,(V2.B j).sym=(V.B j).sym
theorem PT(bv bm bo b N:Nat)(V0 V:aW)(p:Nat→Nat)(S:RS)(id q P:Int)(again:Bool)(hl:List Tr)(ex NS:Int→Int)(w:World)(R:Rep w bv bm bo V)(h:bF p V S N)(hN:N<3000000)(hb:YJ p V0 S N hl ex V)(hid:V.aO id=some b)(hsz:∀i,i<V.nb→(V.B i).sym.size≤100){j:Nat}(hj:j<S.l.length)(MO:p j=b)
 (hP:∀a,a<V.nb→(V.B a).places≤P) (Y4:S.places≤P) (hP2:P+1≤2 * (N:Int)) (hq:1≤q) (hq2:q≤(V.om b).filled) (e1:NS id=ex id-q) (e2:∀j,j≠id→NS j=ex j) (hna:0<V.lg.na) (hnt:V.lg.nt.length+3<1000000000) :
 Calls Tryz.prog 75 #[.pointer (some ⟨bv,0,none⟩),.pointer (some ⟨b,0,none⟩),.int .i64 q,.bool again] w fun e w'=>e=.returned (.tuple #[])∧Turned bv bm bo V (fun V2=>YJ p V0 (S.bf j q again) N hl NS V2∧(∀a,a<V2.nb→(V2.B a).places≤P+1)∧Vm V.lg V2.lg 3) w w':=by
 subst MO
 have hv:VL V (p j):=⟨id,hid⟩
 obtain⟨i,t,hi,t2,hsb,hside⟩:=h.gw.idx hv
 obtain⟨s,hs,hst⟩:∃s,s<2∧t=1-s:=⟨1-t,by omega,by omega⟩
 have hM:mN N≤1000000000000000:=by unfold mN;omega
 have hcn:=h.count hi t2
 have aaj:=h.eF
 have fF:=h.zG
 refine (Rz bv bm bo (p j) i s t V (mN N) id q again w R h.gw hM (by omega) hid hi hs hst hsb hside (hsz i hi) hq hq2 hna (by omega) hnt).mono ?_
 rintro e w' ⟨rfl,ht⟩
 refine⟨rfl,ht.with (fun V2 tb lk ho=>?_)⟩
 obtain⟨s1,s2,s3,s4,s5⟩:=h.bf hN hj hi hs hst hsb hside hP Y4 hP2 hq hq2 tb lk
 obtain⟨_,f,b3,b4⟩:=hb
 exact⟨⟨s1,tb.fl f hid hM (h.gw.q _ hv) hq hq2 e1 e2,tb.nb.trans b3,fun j=>(tb.lX j).trans (b4 j)⟩,s2,lk⟩
theorem Pj(bv bm bo N:Nat)(V:aW)(p:Nat→Nat)(S:RS)(n:Int)(again:Bool)(w:World)(R:Rep w bv bm bo V)(hT:Tab w)(h:bF p V S N)(hN:N<2900000)(hz:vC V) :
 Calls Tryz.prog 39 #[.pointer (some ⟨bv,0,none⟩),.int .i64 n,.bool again] w fun e w'=>∃E,e=.returned (.int .i64 E)∧Out bv bm bo V p S N (oZ n again) 0 0 0 0 0 E w w':=by
 have hN1:=h.Bl
 have QM:=h.tpN
 have hN3:=h.zG
 have hl0:S.t.length≤1000000000:=by rw[←h.tr];omega
 by_cases hr:n<1∨(V.lg.tr.length:Int)<n
 ·refine (Ep bv n 6 again none w (by decide) (fun W kW=>yU bv bm bo V.lg V.lm n W (R.log.aj kW) hr)).mono ?_
  rintro e w' ⟨rfl,kk⟩
  exact⟨6,rfl,.inl ⟨by decide,kk,S.fresh,wu hl0 (by rw[←h.tr];exact hr)⟩⟩
 ·obtain⟨k,hk⟩:∃k:Nat,n-1=(k:Int):=⟨(n-1).toNat,by omega⟩
  have hkl:k<V.lg.tr.length:=by omega
  obtain⟨x,hx⟩:∃x,V.lg.tr[k]?=some x:=⟨_,List.getElem?_eq_getElem hkl⟩
  obtain⟨tb,htb⟩:∃tb,V.lm.tb[k]?=some tb:=⟨_,List.getElem?_eq_getElem (by rw[R.log.log.len];exact hkl)⟩
  have SE:S.t[k]?=some x:=by rw[←h.tr];exact hx
  have hd:V.lg.day=S.day:=h.day
  rcases AQ x V.lg.day with hne | ⟨h0,hh⟩
  ·refine (Ep bv n (ja x V.lg.day) again none w hne (fun W kW=>(qo bv bm bo k tb V.lg V.lm n x W (R.log.aj kW) hk hx htb (by omega)).mono (fun e w' hh=>?_))).mono ?_
   ·rw[if_neg hne]at hh;exact hh
   ·rintro e w' ⟨rfl,kk⟩
    rw[hd]at hne ⊢
    exact⟨_,rfl,.inl ⟨hne,kk,S.fresh,xI hl0 hk SE hne⟩⟩
  ·obtain⟨f1,tw⟩:=hz.fl.kH hx hh
   obtain⟨⟨bx,b1,b2,b3⟩,⟨sx,s1,s2,s3⟩,q1⟩:=tw
   have nbs:x.t.jh≠x.t.sell:=fun e=>by
    rw[e,s1]at b1
    rw[Option.some.inj b1,b3]at s3
    omega
   obtain⟨jb,ob,jbl,pjb⟩:=h.index b1
   obtain⟨js,os,jsl,pjs⟩:=h.index s1
   have YI:∀id y,V.aO id=some y→(Lit.int .i64 id).wf=true:=fun id y hy=>by
    obtain⟨j,hj1,hj2,_⟩:=h.index hy
    have e:=(gV hj1).2
    have:=h.ids j hj2
    rw[e]at this
    unfold bg at this
    simp at this
    exact WalkArith.wf_i64 (by omega)
   obtain⟨hl,hhl⟩:∃hl,held (V.lg.tr.set k ⟨x.t,false⟩)=hl:=⟨_,rfl⟩
   rw[hhl]at f1
   have nn:∀side id,0≤sumT (tq side id) hl:=fun side id=>Gx (fun t ht=>MC (by have:=(f1.tw t ht).qty;omega))
   obtain⟨QG,Om⟩:∃QG:Int→Int,QG=fun j=>if j=x.t.sell then x.t.qty else 0:=⟨_,rfl⟩
   have e11:QG x.t.jh=QH x.t x.t.jh-x.t.qty:=by
    rw[Om];simp[QH,nbs]
   have e12:∀j,j≠x.t.jh→QG j=QH x.t j:=fun j hj=>by
    rw[Om];simp only[QH];rw[if_neg hj];omega
   have e21:(fun _=>(0:Int)) x.t.sell=QG x.t.sell-x.t.qty:=by rw[Om];simp
   have e22:∀j,j≠x.t.sell→(fun _=>(0:Int)) j=QG j:=fun j hj=>by rw[Om];simp[hj]
   have fb1:x.t.qty≤(V.om bx).filled:=by
    have h1:=f1.eq _ _ b1
    have h2:=nn (V.om bx).side x.t.jh
    simp[QH,nbs]at h1
    omega
   obtain⟨S1,hS1⟩:∃S1,S1=S.fresh.kK k x:=⟨_,rfl⟩
   have Uc:S1.l=S.l:=by rw[hS1];rfl
   have hps:=h.Pq
   refine (Jt bv bm bo k tb bx sx V n x again w R hT hk hx htb (by omega) (by omega) h0 b1 s1 (YI _ _ b1) (YI _ _ s1)
    (fun V2=>YJ p V (S1.bf jb x.t.qty again) (N+1) hl QG V2∧(∀a,a<V2.nb→(V2.B a).places≤2 * (N:Int)+1)∧(S1.bf jb x.t.qty again).places≤2 * (N:Int)+1)
    (fun V3=>YJ p V ((S1.bf jb x.t.qty again).bf js x.t.qty again) (N+1) hl (fun _=>0) V3) (by omega) (fun w1 Ll R1=>?_) (fun V2 w2 hQ2 R2 ho2 fF aaP=>?_)).mono ?_
   ·have hs1:bF p { V with lg:=V.lg.jg k tb x.t,lm:=Ll } S1 (N+1):=by rw[hS1];exact h.jg SE
    have hP:∀a,a<V.nb→(V.B a).places≤2 * (N:Int):=fun a ha=>(h.GU a ha).2
    have Y4:S1.places≤2 * (N:Int):=by rw[hS1];exact hps.2
    have hq:=PT bv bm bo bx (N+1) V { V with lg:=V.lg.jg k tb x.t,lm:=Ll } p S1 x.t.jh x.t.qty (2 * (N:Int)) again hl (QH x.t) QG w1 R1 hs1 (by omega) ⟨hs1,f1,rfl,fun _=>rfl⟩ b1 hz.sz (j:=jb) (by rw[Uc];exact jbl) pjb hP Y4 (by push_cast;omega) q1 fb1 e11 e12 (by show 0<V.lg.na+1;omega) (by show 1+3<1000000000;omega)
    refine hq.mono (fun e w' hh=>⟨hh.1,hh.2.with (fun V2 h2 lk ho=>⟨h2.1,h2.2.1,?_⟩)⟩)
    have hpl:(S1.bf jb x.t.qty again).places≤S1.places+1:=by
     unfold RS.bf
     split
     ·show wrap64 (S1.places+1)≤_
      rw[aF (by rw[hS1];show (-9223372036854775808:Int)≤S.places+1;omega) (by omega)]
      omega
     ·show S1.places≤_;omega
    omega
   ·obtain⟨⟨g2,f2,n2,y2⟩,p2,pS2⟩:=hQ2
    have s2':V2.aO x.t.sell=some sx:=by rw[ho2];exact s1
    have fs:x.t.qty≤(V2.om sx).filled:=by
     have h1:=f2.eq _ _ s2'
     have h2:=nn (V2.om sx).side x.t.sell
     rw[Om]at h1
     simp only[if_pos]at h1
     omega
    have hlen2:(S1.bf jb x.t.qty again).l.length=S.l.length:=by rw[(RS.vV S1 (i:=jb) (by rw[Uc];exact jbl) x.t.qty again 0).2,Uc]
    have hq:=PT bv bm bo sx (N+1) V V2 p (S1.bf jb x.t.qty again) x.t.sell x.t.qty (2 * (N:Int)+1) again hl QG (fun _=>0) w2 R2 g2 (by omega) ⟨g2,f2,n2,y2⟩ s2' (fun i hi=>by rw[y2 i];exact hz.sz i (by omega)) (j:=js) (by omega) pjs p2 pS2 (by push_cast;omega) q1 fs e21 e22 (by rw[fF];omega) (by omega)
    exact hq.mono (fun e w' hh=>⟨hh.1,hh.2.with (fun V3 h3 lk ho=>h3.1)⟩)
   ·rintro e w' ⟨rfl,V3,⟨g3,f3,n3,y3⟩,o3',R3,lk,kc,hF⟩
    obtain⟨l1,l2,l3,l4,l5⟩:=lk
    have ht:V3.lg.tr=V.lg.tr.set k ⟨x.t,false⟩:=l1
    have hsx:=hz.sy x (List.mem_of_getElem? hx)
    have htl:∀(T:RS) (j:Nat) (q:Int) (b:Bool),(T.bf j q b).told=T.told:=fun T j q b=>by
     unfold RS.bf
     split <;> rfl
    have htold:((S1.bf jb x.t.qty again).bf js x.t.qty again).told=[⟨0,2,x.t⟩]:=by
     rw[htl,htl,hS1];rfl
    have uD:iD S (oZ n again) ((S1.bf jb x.t.qty again).bf js x.t.qty again) (bu 0 0 0 0 0) 0:=by
     rw[hS1]
     exact Ht hl0 (by have:=h.no;have:=h.eF;omega) hk SE (by rw[←hd];exact h0) ob os
    refine⟨0,rfl,.inr ⟨rfl,Il ⟨by omega,by omega⟩,V3,R3,⟨_,p,g3,?_,uD,by rw[htold];show 1≤201;omega,⟨fun i hi=>?_,?_,fun y hy=>?_,?_⟩⟩,kc,hF⟩⟩
    ·rw[htold,l2];rfl
    ·rw[y3 i];exact hz.sz i (by omega)
    ·rw[ht,hhl];exact f3
    ·rw[ht]at hy
     rcases List.mem_or_eq_of_mem_set hy with hy | hy
     ·exact hz.sy y hy
     ·rw[hy];exact hsx
    ·rw[l2];exact hz.tp.snoc rfl hsx
theorem O5{l:List Ord}{f:Ord→Ord}{k:Nat}(h:k<l.length):ah (l.map f) k=f (ah l k):=by
 unfold ah
 rw[List.getD_eq_getElem?_getD,List.getD_eq_getElem?_getD,List.getElem?_map,List.getElem?_eq_getElem h]
 rfl
theorem NW{M:Int}{a b:Ord}(h:jV a=jV b)(q:Qo M a)(hM:M≤1000000000000000):jV (BP a)=jV (nZ b):=by
 obtain⟨e1,e2,e3,e4,e5,e6,e7,e8,e9,e10,e11,e12⟩:=dI h
 have q1:=q.sum;have q2:=q.o0;have q3:=q.f0;have q4:=q.c0;have q5:=q.e0;have q6:=q.hi
 unfold BP nZ
 by_cases hk:a.kind=1
 ·rw[if_pos (show b.kind=1 by rw[←e5];exact hk)]
  by_cases ho:0<a.opn
  ·rw[if_pos ⟨hk,ho⟩]
   show fD (jV a)=fD (jV b)
   rw[h]
  ·rw[if_neg (fun x=>ho x.2)]
   have h0:b.opn=0:=by rw[←e9];omega
   rw[h0,Int.add_zero,aF (x:=b.exp) (by rw[←e12];omega) (by rw[←e12];omega),h]
   show jV b=jV { b with opn:=0 }
   rw[←h0]
 ·rw[if_neg (fun x=>hk x.1),if_neg (show ¬b.kind=1 by rw[←e5];exact hk)]
  exact h
theorem KN(o:Ord):(nZ o).id=o.id∧(nZ o).sym=o.sym∧(nZ o).place=o.place∧(0<(nZ o).opn→0<o.opn):=by
 unfold nZ
 split
 ·exact⟨rfl,rfl,rfl,fun h=>absurd h (by simp)⟩
 ·exact⟨rfl,rfl,rfl,fun h=>h⟩
theorem Hu(o:Ord):(BP o).place=o.place:=by unfold BP;split <;> rfl
theorem bF.closed{p:Nat→Nat}{V V':aW}{S:RS}{N:Nat}(h:bF p V S N)(hN:N<2900000)(c:ClV V (mN N) V'):bF p V' S.fresh.closes (N+1):=by
 have hM:mN N≤1000000000000000:=by unfold mN;omega
 have hlen:S.fresh.closes.l.length=S.l.length:=by simp[RS.closes,RS.fresh]
 have nk:∀k,k<S.l.length→ah S.fresh.closes.l k=nZ (ah S.l k):=fun k hk=>O5 hk
 have omk:∀k,k<S.l.length→V'.om (p k)=BP (V.om (p k)):=fun k hk=>c.om _ _ (h.aO k hk)
 have stat:∀k,k<S.l.length→(ah S.fresh.closes.l k).id=(ah S.l k).id∧(ah S.fresh.closes.l k).sym=(ah S.l k).sym∧(ah S.fresh.closes.l k).place=(ah S.l k).place∧(0<(ah S.fresh.closes.l k).opn→0<(ah S.l k).opn)∧(V'.om (p k)).place=(V.om (p k)).place:=fun k hk=>by
  rw[nk k hk,omk k hk]
  obtain⟨a,b,c,d⟩:=KN (ah S.l k)
  exact⟨a,b,c,d,Hu _⟩
 have hps:S.fresh.closes.places=S.places:=rfl
 refine⟨c.gw.mono (qf (Nat.le_add_right N 1)),by rw[c.nb];exact h.nb,fun i hi=>by rw[c.lX i];exact h.sym i (by rw[←c.nb];exact hi),by rw[c.no,hlen];exact h.no,fun k hk=>?_,fun id b hb=>?_,fun a b ha hb=>h.inj a b (by omega) (by omega),fun k hk=>?_,fun a b ha hb hs h1 h2=>?_,fun a b ha hb hab hs h1 h2=>?_,fun k hk h0 i hi hs=>?_,fun k hk h0=>?_,fun i hi=>?_,?_,by rw[c.tr];exact h.tr,?_,by rw[c.tr];have:=h.Bl;omega,by rw[c.tp,List.length_append,List.length_singleton];have:=h.tpN;omega,by rw[c.na];have:=h.zG;omega,by rw[c.no];exact h.eF,by rw[c.nb];exact h.OZ,fun k hk=>by rw[(stat k (by omega)).1];exact h.ids k (by omega)⟩
 ·rw[c.aO,(stat k (by omega)).1];exact h.aO k (by omega)
 ·rw[c.aO]at hb
  obtain⟨k,hk,e1,e2⟩:=h.yD id b hb
  exact⟨k,by omega,by rw[(stat k hk).1];exact e1,e2⟩
 ·have hk':k<S.l.length:=by omega
  rw[nk k hk',omk k hk']
  exact NW (h.same k hk') (h.gw.q _ ((h.vl _).2 ⟨k,hk',rfl⟩)) hM
 ·obtain⟨_,a2,a3,a4,a5⟩:=stat a (by omega)
  obtain⟨_,b2,b3,b4,b5⟩:=stat b (by omega)
  rw[a5,b5,a3,b3]
  exact h.place a b (by omega) (by omega) (by rw[←a2,←b2];exact hs) (a4 h1) (b4 h2)
 ·obtain⟨_,a2,a3,a4,a5⟩:=stat a (by omega)
  obtain⟨_,b2,b3,b4,b5⟩:=stat b (by omega)
  rw[a3,b3]
  exact h.uz a b (by omega) (by omega) hab (by rw[←a2,←b2];exact hs) (a4 h1) (b4 h2)
 ·obtain⟨_,a2,a3,a4,a5⟩:=stat k (by omega)
  rw[a5,c.Si i]
  exact h.LM k (by omega) (a4 h0) i (by rw[←c.nb];exact hi) (by rw[←c.lX i,hs,a2])
 ·obtain⟨_,a2,a3,a4,a5⟩:=stat k (by omega)
  rw[a3,hps]
  exact h.LQ k (by omega) (a4 h0)
 ·rw[c.Si i]
  have:=h.GU i (by rw[←c.nb];exact hi)
  push_cast;omega
 ·rw[hps]
  have:=h.Pq
  push_cast;omega
 ·rw[c.day,h.day];rfl
theorem Fh:vz xk:=by
 refine⟨_,fun W=>Gh ⟨#[]⟩ 0 0 ⟨#[]⟩ 0 0 0 0 0 0 0 false W,?_⟩
 decide
theorem LH(bv bm bo N:Nat)(V:aW)(p:Nat→Nat)(S:RS)(w:World)(R:Rep w bv bm bo V)(hT:Tab w)(h:bF p V S N)(hN:N<2900000)(hz:vC V) :
 Calls Tryz.prog 41 #[.pointer (some ⟨bv,0,none⟩)] w fun e w'=>e=.returned (.tuple #[])∧Out bv bm bo V p S N xk 0 0 0 0 0 0 w w':=by
 have QM:=h.tpN
 have hN3:=h.zG
 refine (NJ bv bm bo V.no V (mN N) w R h.gw rfl hz.sz (by unfold mN;omega) h.eF (by omega) (by omega)).mono ?_
 rintro e w' ⟨rfl,V',R',c,kc,hF⟩
 refine⟨rfl,.inr ⟨rfl,Fh,V',R',⟨_,p,h.closed hN c,?_,Ez (by have:=h.no;have:=h.eF;omega),by show 1≤201;omega,⟨fun i hi=>?_,?_,fun x hx=>?_,?_⟩⟩,kc,hF⟩⟩
 ·rw[c.tp,h.day];rfl
 ·rw[c.lX i];exact hz.sz i (by rw[←c.nb];exact hi)
 ·rw[c.aO,c.tr];exact hz.fl.jP c.stat
 ·rw[c.tr]at hx;exact hz.sy x hx
 ·rw[c.tp];exact hz.tp.snoc rfl (by show 0≤100000;omega)
end Go.Proofs.YtigaphnafnpfnaaGreatDoor
