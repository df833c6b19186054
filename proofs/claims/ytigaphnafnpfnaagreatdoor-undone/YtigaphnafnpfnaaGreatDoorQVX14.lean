import Derived.Test.YtigaphnafnpfnaaGreatDoorQVV8
import Derived.Lib.SliceRun
set_option linter.unusedVariables false
set_option linter.unusedSimpArgs false
set_option maxHeartbeats 8000000
set_option maxRecDepth 100000
namespace Go.Proofs.YtigaphnafnpfnaaGreatDoor
open Go.RowKit
attribute [local go_sem ↓] Go.wp_at_zero Go.wp_at_succ
def RS.uC(S:RS)(k:Nat):RS:=S.gX k { ax S.l k with bQ:=wrap64 ((ax S.l k).bQ+(ax S.l k).aK),aK:=0 }
open Go.RowKit Go.Maps Go.Lib
theorem XI(bv bm bo:Nat)(V:aQ)(s:ByteArray)(w:World)(bk:Nat->Nat)(R:dN w bv bm bo V)(hn:qU s true)(hlen:s.size<=100)(hfree:∀i,i<V.nb->(V.B i).sym≠s)(hnb:V.nb<6)(hna:V.lg.ud+V.lg.na<3000000) :
 Calls Tryz.prog 27 #[.pointer (some ⟨bv,0,none⟩),.string s] w fun e w'=>∃b bH,e=.returned (.int .i64 0)/\w.heap.size<=b/\dN w' bv bm bo (V.cO s b bH)/\au (fun x=>x=bm\/x=bv\/V.lm.F x) w w'/\(∀x,bH.F x->V.lm.F x\/w.heap.size<=x)/\∃cl,gI w' bv bk w.heap.size true (V.lm.ac.map Prod.snd) [.cO s] V.lm.tb bH cl:=by
 have hml:s.size<=maxLen:=by unfold maxLen;omega
 obtain⟨fB,mB,oK,sF⟩:=R.ik
 have hl:fB (sl s)=none:=by
  cases h:fB (sl s) with
  | none=>rfl
  | some b =>
    obtain⟨i,hi,_,h2⟩:=sF s b h
    exact absurd h2 (hfree i hi)
 have hK:∀w',au aP w w'->(Instr.lookup 94 (.map (some bm)) (.string s) false).run Tryz.prog w'=.ok (.pointer none) w'/\w'.cell? ⟨bv,0,none⟩=some (.map (some bm))/\(∀ty,(Builtin.len_ #[94] ty #[.map (some bm)]).run Tryz.prog w'=.ok (.int .i64 V.nb) w'):=fun w' k=>by
  refine⟨?_,(k.aB R.dA (fun x=>x)).cell 0,fun ty=>(mB.aC k (fun x=>x)).len Tryz.underlying94 ty⟩
  rw[(mB.aC k (fun x=>x)).look yw Tryz.underlying94 (oW _) (WideMaps.keyOf_string_mk Tryz.underlying9 hml)]
  show _=Result.ok (iR none) _
  rw[<-hl];rfl
 have mbS:¬(bm=bv\/V.lm.F bm):=by
  rintro (e|e)
  ·exact mB.ne R.dA e
  ·obtain⟨c,t',hc,_⟩:=R.aO.aO.fZ e
   exact mB.ne hc rfl
 have Ac:∀x,w.heap.size<=x->¬(x=bv\/V.lm.F x):=by
  rintro x hx (e|e)
  ·have:=R.dA.lt;omega
  ·have:=R.aO.aO.lt e;omega
 have hU:∀w' b,au (fun x=>x=bv\/V.lm.F x) w w'->∃w'',(Instr.mapUpdate 94 (.map (some bm)) (.string s) (.pointer (some ⟨b,0,none⟩))).run Tryz.prog w'=.ok () w''/\jF w'' 9 bm (BR fB (sl s) b) (V.nb+1)/\au (fun i=>i=bm) w' w'':=fun w' b k =>
  (mB.aC k mbS).put yw Tryz.underlying94 (by unfold maxLen;omega) (WideMaps.keyOf_string_mk Tryz.underlying9 hml) trivial hl
 have Zr:∀w',au aP w w'->Calls Tryz.prog 51 #[.pointer (some ⟨bv,0,none⟩),.string (⟨#[108,105,115,116,32]⟩++s)] w' fun e w''=>e=.returned (.tuple #[])/\∃m',bu w'' bv bm bo V.lg.begun m'/\(∀b,m'.F b->V.lm.F b\/w'.heap.size<=b)/\au (fun b=>b=bv\/V.lm.F b) w' w''/\(m'.tb=V.lm.tb/\m'.tv=V.lm.tv)/\m'.ac.map Prod.snd=V.lm.ac.map Prod.snd++[[]]:=fun w' k=>by
  refine (ng bv bm bo V.lg V.lm _ w' (R.aO.aH k) hna (by rw[ByteArray.size_append];show 0<5+s.size;omega) (by rw[ByteArray.size_append];show 5+s.size<=290;omega) w' (au.refl aP w')).mono ?_
  rintro e w'' ⟨rfl,m',h1,h2,h3,h4,-,h5⟩
  exact⟨rfl,m',h1,h2,h3,h4,h5⟩
 have fin:∀b wb kT w3 w4 w5 tJ,bu wb bv bm bo V.lg.begun kT->au (fun x=>x=bv\/V.lm.F x) w wb->(∀x,kT.F x->V.lm.F x\/w.heap.size<=x)->wb.heap.size<=b->au aP wb w3->az w3 b (kK s).cells 158->jF w4 9 bm (BR fB (sl s) b) (V.nb+1)->au (fun i=>i=bm) w3 w4 ->
  bu w5 bv bm bo (V.lg.begun.aV [.cO s]) tJ->(∀x,tJ.F x->kT.F x\/w4.heap.size<=x)->au (fun x=>kT.F x) w4 w5 ->
  w.heap.size<=b/\dN w5 bv bm bo (V.cO s b tJ)/\au (fun x=>x=bm\/x=bv\/V.lm.F x) w w5/\(∀x,tJ.F x->V.lm.F x\/w.heap.size<=x):=by
  intro b wb kT w3 w4 w5 tJ hLb kb qO hb k3 hblk m4 k4 hL5 MP k5
  have Rb:dN wb bv bm bo { V with lg:=V.lg.begun,lm:=kT }:=R.jH hLb kb
  have kk:=k3.bI.trans k4
  have mBb:=mB.aC kb mbS
  have R4:dN w4 bv bm bo (aQ.list { V with lg:=V.lg.begun,lm:=kT } s b):=Rb.list hb (k4.aB hblk (Ne.symm ((mBb.aC k3 (fun x=>x)).ne hblk))) kk hfree ⟨_,m4,Df trivial,fB,mBb,oK,sF,fun s' h=>Af trivial (fun e=>h (QX e))⟩
  have R5:=R4.jH hL5 (k5.mono (fun x h=>.inr h))
  have kw4:au (fun x=>x=bm\/x=bv\/V.lm.F x) w w4:=(kb.mono (fun x h=>.inr h)).trans (kk.mono (fun x h=>.inl h))
  refine⟨Nat.le_trans kb.size hb,R5,kw4.from (k5.mono (fun x h=>(qO x h).imp_left (fun h=>.inr (.inr h)))),fun x hx=>?_⟩
  rcases MP x hx with h|h
  ·exact qO x h
  ·exact .inr (Nat.le_trans kw4.size h)
 have hV:∀wb kT w3 w4,bu wb bv bm bo V.lg.begun kT->au (fun x=>x=bv\/V.lm.F x) w wb->au aP wb w3->au (fun i=>i=bm) w3 w4->w3.cell? ⟨bv,0,none⟩=some (.map (some bm))/\w4.cell? ⟨bv,0,none⟩=some (.map (some bm))/\bu w4 bv bm bo V.lg.begun kT/\(∀{b c t},az w3 b c t->az w4 b c t):=fun wb kT w3 w4 hLb kb k3 k4=>by
  have m3:=(mB.aC kb mbS).aC k3 (fun x=>x)
  have bl:∀{b c t},az w3 b c t->az w4 b c t:=fun h=>k4.aB h (Ne.symm (m3.ne h))
  have h3:=k3.aB hLb.dA (fun x=>x)
  refine⟨h3.cell 0,(bl h3).cell 0,(hLb.aH k3).aC k4 (Ne.symm (m3.ne h3)) (fun y hy e=>?_),bl⟩
  obtain⟨c,t',hc,_⟩:=(hLb.aH k3).aO.fZ hy
  exact m3.ne hc e.symm
 have HV:=ai hV
 have HK:=ai hK
 have HU:=ai hU
 have HF:=ai fin
 have HBg:=ai Zr
 have HO:=ai Ac
 have e6:decide ((6:Int)<=(V.nb:Int))=false:=by simp;omega
 clear hV hK hU fin hl mB oK sF R hfree hnb Zr Ac mbS
 have c1:=vg (P:=Tryz.prog) ⟨#[108,105,115,116,32]⟩ s (by show 5+s.size<=1000000;omega)
 go_enter Tryz.func27,Tryz.ntmps27
 go_wp2_with fail
 refine (hn _).mono ?_
 rintro e w1 ⟨rfl,k1⟩
 have b1:=k1.aB (az.new w #[.pointer (some ⟨bv,0,none⟩)] 35) (fun x=>x)
 have k01:=((au.refl aP w).alloc (.cells #[.pointer (some ⟨bv,0,none⟩)] 35)).trans k1
 have xb1:w1.cell? ⟨w.heap.size,0,none⟩=some (.pointer (some ⟨bv,0,none⟩)):=b1.cell 0
 obtain⟨L1,v0,L3⟩:=ae HK w1 k01
 clear k1
 go_wp2_with fail
 refine (wW s w1 (by omega)).mono ?_
 rintro e w2 ⟨rfl,k2⟩
 clear L1 v0 L3 xb1
 have k12:=k01.trans k2
 have b2:=k2.aB b1 (fun x=>x)
 have xb2:w2.cell? ⟨w.heap.size,0,none⟩=some (.pointer (some ⟨bv,0,none⟩)):=b2.cell 0
 obtain⟨Yu,P7⟩:∃Yu,Yu=w2.alloc (.cells #[.string s] 9):=⟨_,rfl⟩
 have k2a:au aP w Yu:=by rw[P7];exact k12.alloc _
 have b2a:az Yu w.heap.size #[.pointer (some ⟨bv,0,none⟩)] 35:=by rw[P7];exact b2.alloc _
 have o2a:az Yu w2.heap.size #[.string s] 9:=by rw[P7];exact az.new _ _ _
 have HW:=ai P7
 have mg:=ai (ae HBg Yu k2a)
 have l2:=b2.lt
 have abE:=k12.size
 clear P7
 go_wp2_with fail
 rw[<-ae HW]
 refine (ae mg).mono ?_
 rintro e wb ⟨rfl,kT,hLb,qO,kb,htb,hac⟩
 have Wh:=ai htb
 have HAc:=ai hac
 clear htb hac
 have bb:=kb.aB b2a (ae HO _ (Nat.le_refl _))
 have ob:=kb.aB o2a (ae HO _ (by omega))
 have Jw:=k2a.bI.trans kb
 have wZ:∀x,kT.F x->V.lm.F x\/w.heap.size<=x:=fun x h=>(qO x h).imp_right (fun h=>Nat.le_trans k2a.size h)
 have xb:wb.cell? ⟨w.heap.size,0,none⟩=some (.pointer (some ⟨bv,0,none⟩)):=bb.cell 0
 have ox:wb.cell? ⟨w2.heap.size,0,none⟩=some (.string s):=ob.cell 0
 have vb:wb.cell? ⟨bv,0,none⟩=some (.map (some bm)):=hLb.dA.cell 0
 have HLb:=ai hLb
 have LU:=ai Jw
 have U8:=ai wZ
 have Ya:=ai bb
 have Td:=ai ob
 clear hLb Jw qO wZ kb k2a k12 k01 k2 b1 b2 b2a o2a HW mg bb ob xb2
 go_wp2
 go_region_held3 (fun w'=>w'.cell? ⟨bv,0,none⟩=some (.map (some bm))/\w'.cell? ⟨w.heap.size,0,none⟩=some (.pointer (some ⟨bv,0,none⟩))/\w'.cell? ⟨w2.heap.size,0,none⟩=some (.string s)) (go_keep)
  (first|(go_at_call 52;refine (FD s _).mono ?_;rintro e w3 ⟨rfl,hb3,k3⟩;have KW:au aP wb w3:=((au.refl aP wb).drew).trans k3;obtain⟨w4,hU4,m4,k4⟩:=ae HU w3 wb.heap.size ((ae LU).trans KW.bI);obtain⟨v3,v4,HL4,bl⟩:=ae HV wb kT w3 w4 (ae HLb) (ae LU) KW k4;have q3:=KW.aB (ae Ya) (fun x=>x);have p3:=KW.aB (ae Td) (fun x=>x);have xb3:w3.cell? ⟨w.heap.size,0,none⟩=some (.pointer (some ⟨bv,0,none⟩)):=q3.cell 0;have ox3:w3.cell? ⟨w2.heap.size,0,none⟩=some (.string s):=p3.cell 0;have xb4:w4.cell? ⟨w.heap.size,0,none⟩=some (.pointer (some ⟨bv,0,none⟩)):=(bl q3).cell 0;have ox4:w4.cell? ⟨w2.heap.size,0,none⟩=some (.string s):=(bl p3).cell 0))
 have qF:=ai (lV bv bm bo V.lg.begun kT (.cO s) (.func 54) #[.pointer (some ⟨w.heap.size,0,none⟩),.pointer (some ⟨w2.heap.size,0,none⟩)] w4 bk w.heap.size true _ _ _ HL4 (gI.begun (ae Wh) (ae HAc)) (fun _=>rfl) ⟨_,_,rfl,rfl,w.heap.size,w2.heap.size,Nat.le_refl _,abE,rfl,bl q3,bl p3⟩ (by show 0<V.lg.na+1;omega) (by show V.lg.na+1<=3000000;omega) (by show 0+1<1000000000;omega))
 clear HL4
 go_wp2_with fail
 refine (ae qF).mono ?_
 rintro e w5 ⟨rfl,tJ,hL5,MP,k5,-,c5⟩
 go_wp2
 go_ret
 obtain⟨z1,z2,z3,z4⟩:=ae HF _ wb kT w3 w4 w5 tJ (ae HLb) (ae LU) (ae U8) (Nat.le_refl _) KW hb3 m4 k4 hL5 MP (k5.mono (fun b h=>.inr (.inr (.inr h))))
 exact⟨wb.heap.size,tJ,rfl,z1,z2,z3,z4,_,c5⟩
theorem Si(w:World):(zeroValue 103).run Tryz.prog w=.ok (.pointer none) w:=by kernel_rfl
theorem BL(g n cap:Nat)(w:World)(v:Value)(hn:n<2000000000)(hnc:n+1<=cap)(hv:w.cell? ⟨g,n,none⟩=some v)(hf:w.frozen? ⟨g,n,none⟩=false) :
 Calls Tryz.prog 212 #[.slice (some ⟨g,0,none⟩) (n+1) cap,.int .i64 (n:Int),.int .i64 ((n:Int)+1)] w fun e w'=>e=.returned (.slice (some ⟨g,0,none⟩) n cap)/\∃q,w'=(w.drewN q).setCell ⟨g,n,none⟩ (.pointer none):=by
 have e1:((n:Int) == (n:Int)+1)=false:=by simp;omega
 obtain⟨i0,hi0,hz0,hz1,hz2⟩:=vG
 obtain⟨A,hA⟩:∃A:Addr,(if cap=n+1 then some (⟨g,0,none⟩:Addr) else some ⟨g,n+1,none⟩)=some A:=by split <;> exact⟨_,rfl⟩
 have s0:Hid (w.drew.setCells g (0+n * 1) []=w.drew):=rfl
 have hcl:∀ty,(Builtin.clear_ #[96] ty #[.slice (some ⟨g,n,none⟩) 1 (cap-n)]).run Tryz.prog w.drew=.ok (.tuple #[]) (w.drew.setCells g n (List.replicate 1 (.pointer none))) :=
  fun ty=>Lib.run_clear_slice w.drew _ _ ty _ Tryz.underlying96 Si rfl rfl g n 1 _ (by omega) (fun j hj=>by obtain rfl:j=0:=(by omega);show (w.cell? _).isSome=true;rw[show n+0=n from rfl,hv];rfl) (fun j hj=>by obtain rfl:j=0:=(by omega);exact hf)
 have h1:n+1-n=1:=by omega
 have h2:n<=cap:=by omega
 have h3:n+1-(n+1)=0:=by omega
 have h4:n<=n+1:=by omega
 have h5:(0:Int)<=(n:Int)+1:=by omega
 go_enter Tryz.func212,Tryz.ntmps212
 go_wp2
 go_region_law (first|(refine step_append_room rfl (.tmp 22) (.tmp 25) 96 rfl 103 i0 1 Tryz.underlying96 hi0 hz1 g 0 n cap (by simp[Act.eval,Act.put]) A 0 (cap-(n+1)) [] (by simp[Act.eval,Act.put,hA]) rfl (by simp) (by simp) (by omega) (by simp) ?_;rw[ae s0]))
 go_wp2
 go_ret
 exact⟨rfl,1,rfl⟩
theorem Sj(w:World):(zeroValue 109).run Tryz.prog w=.ok (.slice none 0 0) w:=by kernel_rfl
theorem FQ(g n cap:Nat)(w:World)(v:Value)(hn:n<2000000000)(hnc:n+1<=cap)(hv:w.cell? ⟨g,n,none⟩=some v)(hf:w.frozen? ⟨g,n,none⟩=false) :
 Calls Tryz.prog 46 #[.slice (some ⟨g,0,none⟩) (n+1) cap,.int .i64 (n:Int),.int .i64 ((n:Int)+1)] w fun e w'=>e=.returned (.slice (some ⟨g,0,none⟩) n cap)/\∃q,w'=(w.drewN q).setCell ⟨g,n,none⟩ (.slice none 0 0):=by
 have e1:((n:Int) == (n:Int)+1)=false:=by simp;omega
 obtain⟨i0,hi0,hz0,hz1,hz2⟩:=P9
 obtain⟨A,hA⟩:∃A:Addr,(if cap=n+1 then some (⟨g,0,none⟩:Addr) else some ⟨g,n+1,none⟩)=some A:=by split <;> exact⟨_,rfl⟩
 have s0:Hid (w.drew.setCells g (0+n * 1) []=w.drew):=rfl
 have hcl:∀ty,(Builtin.clear_ #[97] ty #[.slice (some ⟨g,n,none⟩) 1 (cap-n)]).run Tryz.prog w.drew=.ok (.tuple #[]) (w.drew.setCells g n (List.replicate 1 (.slice none 0 0))) :=
  fun ty=>Lib.run_clear_slice w.drew _ _ ty _ Tryz.underlying97 Sj rfl rfl g n 1 _ (by omega) (fun j hj=>by obtain rfl:j=0:=(by omega);show (w.cell? _).isSome=true;rw[show n+0=n from rfl,hv];rfl) (fun j hj=>by obtain rfl:j=0:=(by omega);exact hf)
 have h1:n+1-n=1:=by omega
 have h2:n<=cap:=by omega
 have h3:n+1-(n+1)=0:=by omega
 have h4:n<=n+1:=by omega
 have h5:(0:Int)<=(n:Int)+1:=by omega
 go_enter Tryz.func46,Tryz.ntmps46
 go_wp2
 go_region_law (first|(refine step_append_room rfl (.tmp 22) (.tmp 25) 97 rfl 109 i0 1 Tryz.underlying97 hi0 hz1 g 0 n cap (by simp[Act.eval,Act.put]) A 0 (cap-(n+1)) [] (by simp[Act.eval,Act.put,hA]) rfl (by simp) (by simp) (by omega) (by simp) ?_;rw[ae s0]))
 go_wp2
 go_ret
 exact⟨rfl,1,rfl⟩
end Go.Proofs.YtigaphnafnpfnaaGreatDoor
