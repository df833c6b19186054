import Derived.Test.YtigaphnafnpfnaaGreatDoorQVF2
import Derived.Test.YtigaphnafnpfnaaGreatDoorQVJ5
set_option linter.unusedVariables false
set_option linter.unusedSimpArgs false
set_option maxHeartbeats 8000000
set_option maxRecDepth 100000
namespace Go.Proofs.YtigaphnafnpfnaaGreatDoor
open Go.RowKit Go.Maps
attribute [local go_sem ↓] Go.wp_at_zero Go.wp_at_succ
theorem lG{B:Bk}{om:Nat→Ord}{s i:Nat}(hinj:qP (B.n s) (B.h s))(hi:i<B.n s):∀k,k<(B.leave om s i).n s→∃k',k'<B.n s∧(B.leave om s i).h s k=B.h s k'∧B.h s k'≠B.h s i:=by
 intro k hk
 simp only[Bk.leave,upd_same]at hk ⊢
 have h0:qP (B.n s-1+1) (B.h s):=by rw[show B.n s-1+1=B.n s by omega];exact hinj
 obtain⟨⟨k',hk',e⟩,hne⟩:=(lL (lt:=dW om) (B.h s) i (n:=B.n s-1) (by omega) (h0.remove (by omega)) _).1 ⟨k,hk,rfl⟩
 exact⟨k',by omega,e,by rw[←e];exact hne⟩
theorem SV(bv bm bo:Nat)(G:Lg)(lm:Lm)(ds:List Back)(fv:Array Value)(w:World)(hL:aK w bv bm bo G lm)(hna:0<G.na)(fF:G.na≤3000000)(hnf:G.nt.length+fv.size<1000000000)(hc:0<fv.size)(hds:ds.length=fv.size)(hone:∀u∈fv.toList,u.oneCell'=true) :
 Calls Tryz.prog 53 #[.pointer (some ⟨bv,0,none⟩),.slice (some ⟨w.heap.size,0,none⟩) fv.size fv.size] (w.alloc (.cells fv 1)) fun e w'=>e=.returned (.tuple #[]) ∧
  ∃aY,aK w' bv bm bo (G.aS ds) aY∧(∀b,aY.F b→lm.F b∨w.heap.size≤b)∧ag (fun b=>gm lm.av lm.ac b) w w'∧(∀b,gm aY.av aY.ac b→gm lm.av lm.ac b∨w.heap.size≤b):=by
 have k1:ag ak w (w.alloc (.cells fv 1)):=(ag.refl ak w).alloc _
 refine (FI bv bm bo G lm ds fv.toList w.heap.size fv.size fv.size (w.alloc (.cells fv 1)) (hL.aj k1) hna fF hnf hc hds (by simp) (World.news_of_block (ai.new w fv 1)) hone).mono ?_
 rintro e w' ⟨rfl,aY,h1,h2,h3,h4⟩
 exact⟨rfl,aY,h1,fun b hb=>(h2 b hb).imp_right (fun h=>Nat.le_trans k1.size h),k1.aC.trans h3,fun b hb=>(h4 b hb).imp_right (fun h=>Nat.le_trans k1.size h)⟩
theorem yB(bv bm bo:Nat)(G:Lg)(lm:Lm)(d:Back)(fn:Fn)(cp:Array Value)(w:World)(hL:aK w bv bm bo G lm)(hna:0<G.na)(fF:G.na≤3000000)(hnf:G.nt.length+1<1000000000) :
 Calls Tryz.prog 53 #[.pointer (some ⟨bv,0,none⟩),.slice (some ⟨w.heap.size,0,none⟩) 1 1] (w.alloc (.cells #[.func fn #[] cp] 1)) fun e w'=>e=.returned (.tuple #[]) ∧
  ∃aY,aK w' bv bm bo (G.aS [d]) aY∧(∀b,aY.F b→lm.F b∨w.heap.size≤b)∧ag (fun b=>gm lm.av lm.ac b) w w'∧(∀b,gm aY.av aY.ac b→gm lm.av lm.ac b∨w.heap.size≤b) :=
 SV bv bm bo G lm [d] #[.func fn #[] cp] w hL hna fF hnf (by simp) rfl (by simp[Value.oneCell'])
theorem IC(bv bm bo:Nat)(G:Lg)(lm:Lm)(d d2:Back)(fn wC:Fn)(cp cp2:Array Value)(w:World)(hL:aK w bv bm bo G lm)(hna:0<G.na)(fF:G.na≤3000000)(hnf:G.nt.length+2<1000000000) :
 Calls Tryz.prog 53 #[.pointer (some ⟨bv,0,none⟩),.slice (some ⟨w.heap.size,0,none⟩) 2 2] (w.alloc (.cells #[.func fn #[] cp,.func wC #[] cp2] 1)) fun e w'=>e=.returned (.tuple #[]) ∧
  ∃aY,aK w' bv bm bo (G.aS [d,d2]) aY∧(∀b,aY.F b→lm.F b∨w.heap.size≤b)∧ag (fun b=>gm lm.av lm.ac b) w w'∧(∀b,gm aY.av aY.ac b→gm lm.av lm.ac b∨w.heap.size≤b) :=
 SV bv bm bo G lm [d,d2] #[.func fn #[] cp,.func wC #[] cp2] w hL hna fF hnf (by simp) rfl (by simp[Value.oneCell'])
theorem FK(G:Lg)(a b:List Back):(G.aS a).aS b=G.aS (a++b):=by simp[Lg.aS]
def wW(bv bm bo:Nat)(G:Lg)(lm:Lm)(ds:List Back)(w w':World):Prop :=
 ∃aY,aK w' bv bm bo (G.aS ds) aY∧(∀x,aY.F x→lm.F x∨w.heap.size≤x)
theorem wK(bv bm bo i b s:Nat)(V:aW)(id q:Int)(again:Bool)(w:World)(R:Rep w bv bm bo V)(hi:i<V.nb)(hid:V.aO id=some b)(bY:(V.om b).sym=(V.B i).sym)(hlen:(V.B i).sym.size≤maxLen)(hs:s<2)(hside:(V.om b).side=1-(s:Int))
 (hcond:again=false∨di (V.om b).kind=false∨(bK (V.B i) V.om (aV (V.om b)) s).isSome=true) (hna:0<V.lg.na) (fF:V.lg.na≤3000000) (hnt:V.lg.nt.length+3<1000000000) :
 Calls Tryz.prog 75 #[.pointer (some ⟨bv,0,none⟩),.pointer (some ⟨b,0,none⟩),.int .i64 q,.bool again] w fun e w'=>e=.returned (.tuple #[]) ∧
  Mk w' (V.bk i) (V.B i) (upd V.om b (dN (V.om b) q)) (fun x=>∃id,V.aO id=some x)∧wW bv bm bo V.lg V.lm [.now b (V.om b)] w w'∧ag (fun x=>x=b∨gm V.lm.av V.lm.ac x) w w':=by
 obtain⟨-,ix,ho⟩:=R.aQ id b hid
 have L1:∀n,(Instr.lookup 94 (.map (some bm)) (.string (V.B i).sym) false).run Tryz.prog (w.drewN n)=.ok (.pointer (some ⟨V.bk i,0,none⟩)) (w.drewN n):=fun n=>(R.aj ((ag.refl ak w).drewN n)).vP hi hlen
 have TG:(Instr.lookup 94 (.map (some bm)) (.string (V.B i).sym) false).run Tryz.prog w.drew=.ok (.pointer (some ⟨V.bk i,0,none⟩)) w.drew:=L1 1
 have v0:w.cell? ⟨bv,0,none⟩=some (.map (some bm)):=R.cZ.cell 0
 have o2:w.cell? ⟨b,2,none⟩=some (.string (V.B i).sym):=by rw[←bY];exact ho.cell 2
 have HC:=hide (fun (W:World) (k:ag ak w W)=>wo (V.bk i) b (V.B i) V.om (fun x=>∃id,V.aO id=some x) q W ((R.aj k).zk hi) ⟨id,hid⟩)
 have HF:=hide (fun (W:World) (k:ag ak w W)=>iY (V.bk i) (V.B i) V.om (aV (V.om b)) s W ((R.aj k).book i hi) hs hside)
 have HO:Hid (∀W,ag ak w W→bC W b (V.om b) ix):=fun W k=>k.blk ho (fun x=>x)
 have HN:Hid (∀W wq fn cp,ag ak w W→ag (fun x=>x=b) W wq→Mk wq (V.bk i) (V.B i) (upd V.om b (dN (V.om b) q)) (fun x=>∃id,V.aO id=some x) →
  Calls Tryz.prog 53 #[.pointer (some ⟨bv,0,none⟩),.slice (some ⟨wq.heap.size,0,none⟩) 1 1] (wq.alloc (.cells #[.func fn #[] cp] 1)) fun e w'=>e=.returned (.tuple #[])∧Mk w' (V.bk i) (V.B i) (upd V.om b (dN (V.om b) q)) (fun x=>∃id,V.aO id=some x)∧wW bv bm bo V.lg V.lm [.now b (V.om b)] w w'∧ag (fun x=>x=b∨gm V.lm.av V.lm.ac x) w w'):=by
  intro W wq fn cp kW kq m
  have h1:=(R.log.aj kW).iI kq (fun x h=>by subst h;exact⟨_,116,kW.blk ho (fun x=>x),.inr (.inl rfl)⟩)
  refine (yB bv bm bo V.lg V.lm (.now b (V.om b)) fn cp wq h1 hna fF (by omega)).mono ?_
  rintro e w' ⟨rfl,aY,a1,a2,a3,-⟩
  have kk:=kW.aC.trans kq
  exact⟨rfl,m.gK h1 (a3.mono (fun _ h=>.inr (.inr (.inr (.inr h))))),⟨aY,a1,fun x hx=>(a2 x hx).imp_right (fun h=>Nat.le_trans kk.size h)⟩,(kk.mono (fun _ h=>.inl h)).trans (a3.mono (fun _ h=>.inr h))⟩
 have HCo:=hide hcond
 clear R hid bY hside hcond ho hs
 go_enter Tryz.func75,Tryz.ntmps75
 go_wp2
 go_quiet (fail)
 have hq:ag ak w (w.drewN nq):=(ag.refl ak w).drewN _
 obtain⟨w1,hw1⟩:∃w1,w1=w.drewN nq:=⟨_,rfl⟩
 rw[←hw1]at hq ⊢
 clear hw1 L1 TG v0 o2
 cases again with
 | false =>
   go_wp2_with fail
   refine (ae HC w1 hq).mono ?_
   rintro e w2 ⟨N9,NM,rfl,-,m2,k2⟩
   go_wp2_with fail
   refine (ae HN _ w2 N9 NM hq k2 m2).mono ?_
   rintro e wz ⟨rfl,rz⟩
   go_wp2
   try simp only[Exit.inBlock,Exit.then]
   refine bodyPost_ret (results_none rfl _ _ _) rfl ?_
   exact⟨rfl,rz⟩
 | true =>
   go_wp2_with fail
   refine (nG b _ ix w1 (ae HO w1 hq)).mono ?_
   rintro e w1' ⟨rfl,SC⟩
   rw[SC]
   clear SC w1'
   cases hr:di (V.om b).kind with
   | false =>
     clear hr
     go_wp2_with fail
     refine (ae HC _ hq).mono ?_
     rintro e w2 ⟨N9,NM,rfl,-,m2,k2⟩
     go_wp2_with fail
     refine (ae HN _ w2 N9 NM hq k2 m2).mono ?_
     rintro e wz ⟨rfl,rz⟩
     go_wp2
     try simp only[Exit.inBlock,Exit.then]
     refine bodyPost_ret (results_none rfl _ _ _) rfl ?_
     exact⟨rfl,rz⟩
   | true =>
     have hf:(bK (V.B i) V.om (aV (V.om b)) s).isSome=true:=by
      rcases ae HCo with h | h | h
      ·simp at h
      ·rw[hr]at h;simp at h
      ·exact h
     obtain⟨f,hf'⟩:=Option.isSome_iff_exists.1 hf
     have Qi:=hide hf'
     clear hr hf hf'
     have hoc:=ae HO _ hq
     have TR:w1.cell? ⟨b,0,none⟩=some (.int .i64 (V.om b).id):=hoc.cell 0
     have Sl:w1.cell? ⟨b,1,none⟩=some (.int .i64 (V.om b).owner):=hoc.cell 1
     have TS:w1.cell? ⟨b,2,none⟩=some (.string (V.om b).sym):=hoc.cell 2
     have TT:w1.cell? ⟨b,3,none⟩=some (.int .i64 (V.om b).side):=hoc.cell 3
     have TU:w1.cell? ⟨b,4,none⟩=some (.int .i64 (V.om b).kind):=hoc.cell 4
     have TV:w1.cell? ⟨b,5,none⟩=some (.int .i64 (V.om b).price):=hoc.cell 5
     have TY:w1.cell? ⟨b,6,none⟩=some (.int .i64 (V.om b).qty):=hoc.cell 6
     clear hoc
     go_wp2_with fail
     refine (ae HF _ hq).mono ?_
     rintro e w2 ⟨rfl,k2⟩
     rw[ae Qi]
     simp only[fV]
     clear TR Sl TS TT TU TV TY
     go_wp2_with fail
     refine (ae HC _ (hq.trans k2)).mono ?_
     rintro e w3 ⟨N9,NM,rfl,-,m3,k3⟩
     go_wp2_with fail
     refine (ae HN _ w3 N9 NM (hq.trans k2) k3 m3).mono ?_
     rintro e wz ⟨rfl,rz⟩
     go_wp2
     try simp only[Exit.inBlock,Exit.then]
     refine bodyPost_ret (results_none rfl _ _ _) rfl ?_
     exact⟨rfl,rz⟩
def bJ(V:aW)(i b:Nat)(q:Int):Nat→Ord:=upd (upd V.om b (fG (V.om b) q)) b { fG (V.om b) q with place:=wrap64 ((V.B i).places+1) }
theorem DN(bv bm bo i b s t:Nat)(V:aW)(id q:Int)(w:World)(R:Rep w bv bm bo V)(hi:i<V.nb)(hid:V.aO id=some b)(bY:(V.om b).sym=(V.B i).sym)(hlen:(V.B i).sym.size≤maxLen)(hs:s<2)(ht:t=1-s)(hside:(V.om b).side=(t:Int))
 (hr:di (V.om b).kind=true) (hf:bK (V.B i) V.om (aV (V.om b)) s=none) (h0:¬0<(V.om b).opn) (hnew:∀x,x<2→∀k,k<(V.B i).n x→(V.B i).h x k≠b) (hn:(V.B i).n t<1000) (hna:0<V.lg.na) (fF:V.lg.na≤3000000) (hnt:V.lg.nt.length+3<1000000000) :
 Calls Tryz.prog 75 #[.pointer (some ⟨bv,0,none⟩),.pointer (some ⟨b,0,none⟩),.int .i64 q,.bool true] w fun e w'=>e=.returned (.tuple #[]) ∧
  ∃g cap',Mk w' (V.bk i) ((V.B i).rest (bJ V i b q) t b g cap') (bJ V i b q) (fun x=>∃id,V.aO id=some x)∧wW bv bm bo V.lg V.lm [.now b (V.om b),.oD b (V.om b).place] w w'∧ag (fun x=>(x=V.bk i∨x=b∨bQ (V.B i) t x)∨gm V.lm.av V.lm.ac x) w w'∧(iP ((V.B i).sl t)=some g∨w.heap.size≤g):=by
 obtain⟨-,ix,ho⟩:=R.aQ id b hid
 have L1:∀n,(Instr.lookup 94 (.map (some bm)) (.string (V.B i).sym) false).run Tryz.prog (w.drewN n)=.ok (.pointer (some ⟨V.bk i,0,none⟩)) (w.drewN n):=fun n=>(R.aj ((ag.refl ak w).drewN n)).vP hi hlen
 have TG:(Instr.lookup 94 (.map (some bm)) (.string (V.B i).sym) false).run Tryz.prog w.drew=.ok (.pointer (some ⟨V.bk i,0,none⟩)) w.drew:=L1 1
 have v0:w.cell? ⟨bv,0,none⟩=some (.map (some bm)):=R.cZ.cell 0
 have o2:w.cell? ⟨b,2,none⟩=some (.string (V.B i).sym):=by rw[←bY];exact ho.cell 2
 have HC:=hide (fun (W:World) (k:ag ak w W)=>ry (V.bk i) b (V.B i) V.om (fun x=>∃id,V.aO id=some x) q W ((R.aj k).zk hi) ⟨id,hid⟩)
 have HF:=hide (fun (W:World) (k:ag ak w W)=>iY (V.bk i) (V.B i) V.om (aV (V.om b)) s W ((R.aj k).book i hi) hs (by rw[show (aV (V.om b)).side=(V.om b).side from rfl,hside,ht];omega))
 have HO:Hid (∀W,ag ak w W→bC W b (V.om b) ix):=fun W k=>k.blk ho (fun x=>x)
 have Nk:Hid (∀W,Mk W (V.bk i) (V.B i) (upd V.om b (fG (V.om b) q)) (fun x=>∃id,V.aO id=some x)→Calls Tryz.prog 122 #[.pointer (some ⟨V.bk i,0,none⟩),.pointer (some ⟨b,0,none⟩)] W fun e w'=>∃fn cp,e=.returned (.func fn #[] cp)∧BA w' (V.bk i) b (V.om b).place W.heap.size fn cp ∧
  ∃g cap',Mk w' (V.bk i) ((V.B i).rest (bJ V i b q) t b g cap') (bJ V i b q) (fun x=>∃id,V.aO id=some x)∧ag (fun x=>x=V.bk i∨x=b∨bQ (V.B i) t x) W w'∧(iP ((V.B i).sl t)=some g∨W.heap.size≤g)):=by
  intro W m
  obtain⟨ix',ho'⟩:=m.aQ b ⟨id,hid⟩
  refine (Dv (V.bk i) b t (V.B i) _ ix' W m.book ho' (by omega) (by rw[upd_same];exact hside) hnew hn).mono ?_
  rintro e w' ⟨fn,cp,rfl,hcl,g,cap',hb,k,hg⟩
  rw[upd_same]at hb hcl
  exact⟨fn,cp,rfl,hcl,g,cap',m.rest (by omega) ⟨id,hid⟩ (fun x hx=>by unfold bJ;rw[af _ _ hx]) hb k,k,hg⟩
 have HN:Hid (∀W w3 w4 qH cp3 Hy cp4 g cap',ag ak w W→ag (fun x=>x=b) W w3→Mk w3 (V.bk i) (V.B i) (upd V.om b (fG (V.om b) q)) (fun x=>∃id,V.aO id=some x)→Mk w4 (V.bk i) ((V.B i).rest (bJ V i b q) t b g cap') (bJ V i b q) (fun x=>∃id,V.aO id=some x)→ag (fun x=>x=V.bk i∨x=b∨bQ (V.B i) t x) w3 w4→(iP ((V.B i).sl t)=some g∨w3.heap.size≤g) →
  Calls Tryz.prog 53 #[.pointer (some ⟨bv,0,none⟩),.slice (some ⟨w4.heap.size,0,none⟩) 2 2] (w4.alloc (.cells #[.func qH #[] cp3,.func Hy #[] cp4] 1)) fun e w'=>e=.returned (.tuple #[]) ∧
   ∃g cap',Mk w' (V.bk i) ((V.B i).rest (bJ V i b q) t b g cap') (bJ V i b q) (fun x=>∃id,V.aO id=some x)∧wW bv bm bo V.lg V.lm [.now b (V.om b),.oD b (V.om b).place] w w'∧ag (fun x=>(x=V.bk i∨x=b∨bQ (V.B i) t x)∨gm V.lm.av V.lm.ac x) w w'∧(iP ((V.B i).sl t)=some g∨w.heap.size≤g)):=by
  intro W w3 w4 qH cp3 Hy cp4 g cap' kW k3 m3 m4 k4 hg
  have h3:=(R.log.aj kW).iI k3 (fun x h=>by subst h;exact⟨_,116,kW.blk ho (fun x=>x),.inr (.inl rfl)⟩)
  have h4:=h3.iI k4 (fun x h=>m3.typ (by
   rcases h with h | h | h
   ·exact .inl h
   ·exact .inr (.inl ⟨id,by rw[h];exact hid⟩)
   ·exact .inr (.inr ⟨t,by omega,h⟩)))
  refine (IC bv bm bo V.lg V.lm (.now b (V.om b)) (.oD b (V.om b).place) qH Hy cp3 cp4 w4 h4 hna fF (by omega)).mono ?_
  rintro e w' ⟨rfl,aY,a1,a2,a3,-⟩
  have kk3:=kW.aC.trans k3
  have kk:ag (fun x=>x=V.bk i∨x=b∨bQ (V.B i) t x) w w4:=(kk3.mono (fun _ h=>.inr (.inl h))).trans k4
  exact⟨rfl,g,cap',m4.gK h4 (a3.mono (fun _ h=>.inr (.inr (.inr (.inr h))))),⟨aY,a1,fun x hx=>(a2 x hx).imp_right (fun h=>Nat.le_trans kk.size h)⟩,(kk.mono (fun _ h=>.inl h)).trans (a3.mono (fun _ h=>.inr h)),hg.imp_right (fun h=>Nat.le_trans kk3.size h)⟩
 have Qi:=hide hf
 have e0:decide (0<(V.om b).opn)=false:=by simp[h0]
 have ZJ:=hide e0
 have HR:=hide hr
 clear R hid bY hside hf ho hs h0 e0 hr hnew hn
 go_enter Tryz.func75,Tryz.ntmps75
 go_wp2
 go_quiet (fail)
 have hq:ag ak w (w.drewN nq):=(ag.refl ak w).drewN _
 obtain⟨w1,hw1⟩:∃w1,w1=w.drewN nq:=⟨_,rfl⟩
 rw[←hw1]at hq ⊢
 clear hw1 L1 TG v0 o2
 go_wp2_with fail
 refine (nG b _ ix w1 (ae HO w1 hq)).mono ?_
 rintro e w1' ⟨rfl,SC⟩
 rw[SC]
 clear SC w1'
 rw[ae HR]
 have hoc:=ae HO _ hq
 have TR:w1.cell? ⟨b,0,none⟩=some (.int .i64 (V.om b).id):=hoc.cell 0
 have Sl:w1.cell? ⟨b,1,none⟩=some (.int .i64 (V.om b).owner):=hoc.cell 1
 have TS:w1.cell? ⟨b,2,none⟩=some (.string (V.om b).sym):=hoc.cell 2
 have TT:w1.cell? ⟨b,3,none⟩=some (.int .i64 (V.om b).side):=hoc.cell 3
 have TU:w1.cell? ⟨b,4,none⟩=some (.int .i64 (V.om b).kind):=hoc.cell 4
 have TV:w1.cell? ⟨b,5,none⟩=some (.int .i64 (V.om b).price):=hoc.cell 5
 have TY:w1.cell? ⟨b,6,none⟩=some (.int .i64 (V.om b).qty):=hoc.cell 6
 clear hoc
 go_wp2_with fail
 refine (ae HF _ hq).mono ?_
 rintro e w2 ⟨rfl,k2⟩
 rw[ae Qi]
 simp only[fV]
 have hq2:=hq.trans k2
 have o8:w2.cell? ⟨b,8,none⟩=some (.int .i64 (V.om b).opn):=(ae HO _ hq2).cell 8
 have e0:=ae ZJ
 clear TR Sl TS TT TU TV TY
 go_wp2_with fail
 refine (ae HC _ hq2).mono ?_
 rintro e w3 ⟨qH,cp3,rfl,-,m3,k3⟩
 clear o8 e0
 go_wp2_with fail
 refine (ae Nk w3 m3).mono ?_
 rintro e w4 ⟨Hy,cp4,rfl,-,g,cap',m4,k4,hg⟩
 go_wp2_with fail
 refine (ae HN _ w3 w4 qH cp3 Hy cp4 g cap' hq2 k3 m3 m4 k4 hg).mono ?_
 rintro e wz ⟨rfl,rz⟩
 go_wp2
 go_end0
 exact⟨rfl,rz⟩
theorem zQ(bv bm bo i b s t k:Nat)(V:aW)(id q:Int)(w:World)(R:Rep w bv bm bo V)(hi:i<V.nb)(hid:V.aO id=some b)(bY:(V.om b).sym=(V.B i).sym)(hlen:(V.B i).sym.size≤maxLen)(hs:s<2)(ht:t=1-s)(hside:(V.om b).side=(t:Int))
 (hr:di (V.om b).kind=true) (hf:bK (V.B i) V.om (aV (V.om b)) s=none) (h0:0<(V.om b).opn) (hk:k<(V.B i).n t) (hkb:(V.B i).h t k=b) (hn:(V.B i).n t<1000) (hna:0<V.lg.na) (fF:V.lg.na≤3000000) (hnt:V.lg.nt.length+3<1000000000) :
 Calls Tryz.prog 75 #[.pointer (some ⟨bv,0,none⟩),.pointer (some ⟨b,0,none⟩),.int .i64 q,.bool true] w fun e w'=>e=.returned (.tuple #[]) ∧
  ∃g cap',Mk w' (V.bk i) (((V.B i).leave V.om t k).rest (bJ V i b q) t b g cap') (bJ V i b q) (fun x=>∃id,V.aO id=some x)∧wW bv bm bo V.lg V.lm [.left b,.now b (V.om b),.oD b (V.om b).place] w w'∧ag (fun x=>(x=V.bk i∨x=b∨bQ (V.B i) t x)∨gm V.lm.av V.lm.ac x) w w'∧(iP ((V.B i).sl t)=some g∨w.heap.size≤g):=by
 obtain⟨-,ix,ho⟩:=R.aQ id b hid
 have t2:t<2:=by omega
 have L1:∀n,(Instr.lookup 94 (.map (some bm)) (.string (V.B i).sym) false).run Tryz.prog (w.drewN n)=.ok (.pointer (some ⟨V.bk i,0,none⟩)) (w.drewN n):=fun n=>(R.aj ((ag.refl ak w).drewN n)).vP hi hlen
 have TG:(Instr.lookup 94 (.map (some bm)) (.string (V.B i).sym) false).run Tryz.prog w.drew=.ok (.pointer (some ⟨V.bk i,0,none⟩)) w.drew:=L1 1
 have v0:w.cell? ⟨bv,0,none⟩=some (.map (some bm)):=R.cZ.cell 0
 have o2:w.cell? ⟨b,2,none⟩=some (.string (V.B i).sym):=by rw[←bY];exact ho.cell 2
 have hinj:qP ((V.B i).n t) ((V.B i).h t):=((R.book i hi).side t t2).inj
 have sub:∀x,bQ ((V.B i).leave V.om t k) t x→bQ (V.B i) t x:=by
  rintro x (h | ⟨l,hl,e⟩)
  ·exact .inl h
  ·obtain⟨k',hk',e',_⟩:=lG (om:=V.om) hinj hk l hl
   exact .inr ⟨k',hk',by rw[e,e']⟩
 have TB:=hide (fun (W:World) (kk:ag ak w W)=>nC (V.bk i) (V.B i) V.om (fun x=>∃id,V.aO id=some x) t k W ((R.aj kk).zk hi) t2 hk (by rw[hkb];exact hside))
 have HC:=hide (fun (W:World) (m:Mk W (V.bk i) ((V.B i).leave V.om t k) V.om (fun x=>∃id,V.aO id=some x))=>ry (V.bk i) b _ V.om _ q W m ⟨id,hid⟩)
 have HF:=hide (fun (W:World) (k:ag ak w W)=>iY (V.bk i) (V.B i) V.om (aV (V.om b)) s W ((R.aj k).book i hi) hs (by rw[show (aV (V.om b)).side=(V.om b).side from rfl,hside,ht];omega))
 have HO:Hid (∀W,ag ak w W→bC W b (V.om b) ix):=fun W k=>k.blk ho (fun x=>x)
 have hnew:∀x,x<2→∀l,l<((V.B i).leave V.om t k).n x→((V.B i).leave V.om t k).h x l≠b:=by
  intro x hx l hl
  by_cases e:x=t
  ·subst e
   obtain⟨k',_,e',hne⟩:=lG (om:=V.om) hinj hk l hl
   rw[e',←hkb];exact hne
  ·simp only[Bk.leave,af _ _ e]at hl ⊢
   rw[←hkb]
   have hd:=(R.book i hi).sZ
   have:(x=0∧t=1)∨(x=1∧t=0):=by omega
   rcases this with⟨rfl,rfl⟩ | ⟨rfl,rfl⟩
   ·exact hd l k hl hk
   ·exact fun e=>hd k l hk hl e.symm
 have Nk:Hid (∀W,Mk W (V.bk i) ((V.B i).leave V.om t k) (upd V.om b (fG (V.om b) q)) (fun x=>∃id,V.aO id=some x)→Calls Tryz.prog 122 #[.pointer (some ⟨V.bk i,0,none⟩),.pointer (some ⟨b,0,none⟩)] W fun e w'=>∃fn cp,e=.returned (.func fn #[] cp)∧BA w' (V.bk i) b (V.om b).place W.heap.size fn cp ∧
  ∃g cap',Mk w' (V.bk i) (((V.B i).leave V.om t k).rest (bJ V i b q) t b g cap') (bJ V i b q) (fun x=>∃id,V.aO id=some x)∧ag (fun x=>x=V.bk i∨x=b∨bQ ((V.B i).leave V.om t k) t x) W w'∧(iP ((V.B i).sl t)=some g∨W.heap.size≤g)):=by
  intro W m
  obtain⟨ix',ho'⟩:=m.aQ b ⟨id,hid⟩
  refine (Dv (V.bk i) b t ((V.B i).leave V.om t k) _ ix' W m.book ho' t2 (by rw[upd_same];exact hside) hnew (by simp only[Bk.leave,upd_same];omega)).mono ?_
  rintro e w' ⟨fn,cp,rfl,hcl,g,cap',hb,kk,hg⟩
  rw[upd_same]at hb hcl
  refine⟨fn,cp,rfl,hcl,g,cap',m.rest (df:=bJ V i b q) t2 ⟨id,hid⟩ (fun x hx=>by unfold bJ;rw[af _ _ hx]) hb kk,kk,hg⟩
 have Nh:Hid (∀W w3 fn cp,ag ak w W→ag (fun x=>x=V.bk i∨bQ (V.B i) t x) W w3→Mk w3 (V.bk i) ((V.B i).leave V.om t k) V.om (fun x=>∃id,V.aO id=some x) →
  Calls Tryz.prog 53 #[.pointer (some ⟨bv,0,none⟩),.slice (some ⟨w3.heap.size,0,none⟩) 1 1] (w3.alloc (.cells #[.func fn #[] cp] 1)) fun e w'=>e=.returned (.tuple #[])∧Mk w' (V.bk i) ((V.B i).leave V.om t k) V.om (fun x=>∃id,V.aO id=some x) ∧
   ∃lI,aK w' bv bm bo (V.lg.aS [.left b]) lI∧(∀x,lI.F x→V.lm.F x∨w.heap.size≤x)∧(∀x,gm lI.av lI.ac x→gm V.lm.av V.lm.ac x∨w.heap.size≤x)∧ag (fun x=>(x=V.bk i∨x=b∨bQ (V.B i) t x)∨gm V.lm.av V.lm.ac x) w w'):=by
  intro W w3 fn cp kW k3 m3
  have h3:=(R.log.aj kW).iI k3 (fun x h=>((R.aj kW).zk hi).typ (by
   rcases h with h | h
   ·exact .inl h
   ·exact .inr (.inr ⟨t,t2,h⟩)))
  refine (yB bv bm bo V.lg V.lm (.left b) fn cp w3 h3 hna fF (by omega)).mono ?_
  rintro e w' ⟨rfl,aY,a1,a2,a3,a4⟩
  have kk:ag (fun x=>(x=V.bk i∨x=b∨bQ (V.B i) t x)∨gm V.lm.av V.lm.ac x) w w3:=kW.aC.trans (k3.mono (fun x h=>.inl (h.imp_right .inr)))
  exact⟨rfl,m3.gK h3 (a3.mono (fun _ h=>.inr (.inr (.inr (.inr h))))),aY,a1,fun x hx=>(a2 x hx).imp_right (fun h=>Nat.le_trans kk.size h),fun x hx=>(a4 x hx).imp_right (fun h=>Nat.le_trans kk.size h),kk.trans (a3.mono (fun _ h=>.inr h))⟩
 have YU:Hid (∀w3 lI w4 w5 Hy cp4 W9 cp5 g cap',Mk w3 (V.bk i) ((V.B i).leave V.om t k) V.om (fun x=>∃id,V.aO id=some x)→aK w3 bv bm bo (V.lg.aS [.left b]) lI→(∀x,lI.F x→V.lm.F x∨w.heap.size≤x)→(∀x,gm lI.av lI.ac x→gm V.lm.av V.lm.ac x∨w.heap.size≤x)→ag (fun x=>(x=V.bk i∨x=b∨bQ (V.B i) t x)∨gm V.lm.av V.lm.ac x) w w3 →
  ag (fun x=>x=b) w3 w4→Mk w4 (V.bk i) ((V.B i).leave V.om t k) (upd V.om b (fG (V.om b) q)) (fun x=>∃id,V.aO id=some x)→Mk w5 (V.bk i) (((V.B i).leave V.om t k).rest (bJ V i b q) t b g cap') (bJ V i b q) (fun x=>∃id,V.aO id=some x)→ag (fun x=>x=V.bk i∨x=b∨bQ ((V.B i).leave V.om t k) t x) w4 w5→(iP ((V.B i).sl t)=some g∨w4.heap.size≤g) →
  Calls Tryz.prog 53 #[.pointer (some ⟨bv,0,none⟩),.slice (some ⟨w5.heap.size,0,none⟩) 2 2] (w5.alloc (.cells #[.func Hy #[] cp4,.func W9 #[] cp5] 1)) fun e w'=>e=.returned (.tuple #[])∧∃g cap',Mk w' (V.bk i) (((V.B i).leave V.om t k).rest (bJ V i b q) t b g cap') (bJ V i b q) (fun x=>∃id,V.aO id=some x)∧wW bv bm bo V.lg V.lm [.left b,.now b (V.om b),.oD b (V.om b).place] w w'∧ag (fun x=>(x=V.bk i∨x=b∨bQ (V.B i) t x)∨gm V.lm.av V.lm.ac x) w w'∧(iP ((V.B i).sl t)=some g∨w.heap.size≤g)):=by
  intro w3 lI w4 w5 Hy cp4 W9 cp5 g cap' m3 h3 f3 c3 Ig k4 m4 m5 k5 hg
  have h4:=h3.iI k4 (fun x h=>by subst h;exact m3.typ (.inr (.inl ⟨id,hid⟩)))
  have h5:=h4.iI k5 (fun x h=>m4.typ (by
   rcases h with h | h | h
   ·exact .inl h
   ·exact .inr (.inl ⟨id,by rw[h];exact hid⟩)
   ·exact .inr (.inr ⟨t,t2,h⟩)))
  refine (IC bv bm bo (V.lg.aS [.left b]) lI (.now b (V.om b)) (.oD b (V.om b).place) Hy W9 cp4 cp5 w5 h5 hna fF (by simp only[Lg.aS,List.length_append,List.length_cons,List.length_nil];omega)).mono ?_
  rintro e w' ⟨rfl,aY,a1,a2,a3,-⟩
  rw[FK]at a1
  have JG:=Ig.trans (k4.mono (fun x h=>.inl (.inr (.inl h))))
  have MP:=JG.trans (k5.mono (fun x h=>by
   rcases h with h | h | h
   ·exact .inl (.inl h)
   ·exact .inl (.inr (.inl h))
   ·exact .inl (.inr (.inr (sub x h)))))
  refine⟨rfl,g,cap',m5.gK h5 (a3.mono (fun _ h=>.inr (.inr (.inr (.inr h))))),⟨aY,a1,fun x hx=>?_⟩,MP.from (a3.mono (fun x h=>(c3 x h).imp_left (fun h=>.inr h))),hg.imp_right (fun h=>Nat.le_trans JG.size h)⟩
  rcases a2 x hx with h | h
  ·exact f3 x h
  ·exact .inr (Nat.le_trans MP.size h)
 have Qi:=hide hf
 have e0:decide (0<(V.om b).opn)=true:=by simp[h0]
 have ZJ:=hide e0
 have HR:=hide hr
 have HKB:=hide hkb
 rw[hkb]at TB
 clear R hid bY hside hf ho hs h0 e0 hr hnew hn hkb hinj sub
 go_enter Tryz.func75,Tryz.ntmps75
 go_wp2
 go_quiet (fail)
 have hq:ag ak w (w.drewN nq):=(ag.refl ak w).drewN _
 obtain⟨w1,hw1⟩:∃w1,w1=w.drewN nq:=⟨_,rfl⟩
 rw[←hw1]at hq ⊢
 clear hw1 L1 TG v0 o2
 go_wp2_with fail
 refine (nG b _ ix w1 (ae HO w1 hq)).mono ?_
 rintro e w1' ⟨rfl,SC⟩
 rw[SC]
 clear SC w1'
 rw[ae HR]
 have hoc:=ae HO _ hq
 have TR:w1.cell? ⟨b,0,none⟩=some (.int .i64 (V.om b).id):=hoc.cell 0
 have Sl:w1.cell? ⟨b,1,none⟩=some (.int .i64 (V.om b).owner):=hoc.cell 1
 have TS:w1.cell? ⟨b,2,none⟩=some (.string (V.om b).sym):=hoc.cell 2
 have TT:w1.cell? ⟨b,3,none⟩=some (.int .i64 (V.om b).side):=hoc.cell 3
 have TU:w1.cell? ⟨b,4,none⟩=some (.int .i64 (V.om b).kind):=hoc.cell 4
 have TV:w1.cell? ⟨b,5,none⟩=some (.int .i64 (V.om b).price):=hoc.cell 5
 have TY:w1.cell? ⟨b,6,none⟩=some (.int .i64 (V.om b).qty):=hoc.cell 6
 clear hoc
 go_wp2_with fail
 refine (ae HF _ hq).mono ?_
 rintro e w2 ⟨rfl,k2⟩
 rw[ae Qi]
 simp only[fV]
 have hq2:=hq.trans k2
 have o8:w2.cell? ⟨b,8,none⟩=some (.int .i64 (V.om b).opn):=(ae HO _ hq2).cell 8
 have e0:=ae ZJ
 clear TR Sl TS TT TU TV TY
 go_wp2_with fail
 refine (ae TB _ hq2).mono ?_
 rintro e w3 ⟨qH,cp3,rfl,-,m3,k3⟩
 clear o8 e0
 go_wp2_with fail
 refine (ae Nh _ w3 qH cp3 hq2 k3 m3).mono ?_
 rintro e w3' ⟨rfl,m3',lI,h3',f3',c3',aaA⟩
 go_wp2_with fail
 refine (ae HC _ m3').mono ?_
 rintro e w4 ⟨Hy,cp4,rfl,-,m4,k4⟩
 go_wp2_with fail
 refine (ae Nk w4 m4).mono ?_
 rintro e w5 ⟨W9,cp5,rfl,-,g,cap',m5,k5,hg⟩
 go_wp2_with fail
 refine (ae YU w3' lI w4 w5 Hy cp4 W9 cp5 g cap' m3' h3' f3' c3' aaA k4 m4 m5 k5 hg).mono ?_
 rintro e wz ⟨rfl,rz⟩
 go_wp2
 go_end0
 exact⟨rfl,rz⟩
theorem Ep(bv:Nat)(N E:Int)(again:Bool)(po:Option Addr)(w:World)(hE:E≠0)(h:∀W,ag ak w W→Calls Tryz.prog 71 #[.pointer (some ⟨bv,0,none⟩),.int .i64 N] W fun e w'=>e=.returned (.tuple #[.pointer po,.int .i64 E])∧ag ak W w') :
 Calls Tryz.prog 39 #[.pointer (some ⟨bv,0,none⟩),.int .i64 N,.bool again] w fun e w'=>e=.returned (.int .i64 E)∧ag ak w w':=by
 have e0:(E != 0)=true:=by simp[hE]
 have k0:ag ak w (w.alloc (.cells #[.pointer (some ⟨bv,0,none⟩)] 35)):=(ag.refl ak w).alloc _
 have H:=hide (h _ k0)
 clear hE h
 go_enter Tryz.func39,Tryz.ntmps39
 go_wp2_with fail
 refine (ae H).mono ?_
 rintro e w1 ⟨rfl,k1⟩
 go_wp2
 go_ret
 exact⟨rfl,(k0.trans k1).alloc _⟩
theorem vI(bv:Nat)(N E price:Int)(po:Option Addr)(w:World)(hE:E≠0)(h:∀W,ag ak w W→Calls Tryz.prog 71 #[.pointer (some ⟨bv,0,none⟩),.int .i64 N] W fun e w'=>e=.returned (.tuple #[.pointer po,.int .i64 E])∧ag ak W w') :
 Calls Tryz.prog 40 #[.pointer (some ⟨bv,0,none⟩),.int .i64 N,.int .i64 price] w fun e w'=>e=.returned (.int .i64 E)∧ag ak w w':=by
 have e0:(E != 0)=true:=by simp[hE]
 have k0:ag ak w (w.alloc (.cells #[.pointer (some ⟨bv,0,none⟩)] 35)):=(ag.refl ak w).alloc _
 have H:=hide (h _ k0)
 clear hE h
 go_enter Tryz.func40,Tryz.ntmps40
 go_wp2_with fail
 refine (ae H).mono ?_
 rintro e w1 ⟨rfl,k1⟩
 go_wp2
 go_ret
 exact⟨rfl,(k0.trans k1).alloc _⟩
def Lg.kH(G:Lg)(k:Nat)(t:Tr):Lg:={ G with tr:=G.tr.set k ⟨t,false⟩ }
theorem eP.kH{w:World}{bv bm bo k b:Nat}{G:Lg}{m:Lm}{x:Tg}(h:aK w bv bm bo G m)(hx:G.tr[k]?=some x)(hb:m.tb[k]?=some b):aK (w.setCell ⟨b,7,none⟩ (.bool false)) bv bm bo (G.kH k x.t) m:=by
 have hblk:=h.log.blk k b x hb hx
 have kk:ag (fun y=>y=b) w (w.setCell ⟨b,7,none⟩ (.bool false)):=(ag.refl (fun y=>y=b) w).setCell (p:=⟨b,7,none⟩) (.inl rfl) _
 refine⟨kk.blk h.cZ (ai.ne h.cZ hblk (by decide)),?_⟩
 have ht:=au h.log.dE kk (fun y hy e=>own_ne h.log.dE hy hblk (by decide) e)
 refine⟨?_,au h.log.fU kk (fun y hy e=>own_ne h.log.fU hy hblk (by decide) e),by simp[Lg.kH,h.log.len],fun i b' g hi hg=>?_,h.log.nodup,h.log.act.kept kk (fun y hy e=>?_),au h.log.mJ kk (fun y hy e=>own_ne h.log.mJ hy hblk (by decide) e),h.log.jb⟩
 ·simp only[Lg.kH,List.length_set];exact ht
 ·simp only[Lg.kH]at hg
  by_cases e:i=k
  ·subst e
   obtain rfl:b'=b:=by rw[hb]at hi;exact (Option.some.inj hi).symm
   have hlt:i<G.tr.length:=(List.getElem?_eq_some_iff.1 hx).1
   rw[List.getElem?_set_self hlt]at hg
   obtain rfl:=Option.some.inj hg
   exact hblk.set 7 _
  ·rw[List.getElem?_set_ne (fun h=>e h.symm)]at hg
   refine kk.blk (h.log.blk i b' g hi hg) (fun e2=>e ?_)
   subst e2
   obtain⟨h1,e1⟩:=List.getElem?_eq_some_iff.1 hi
   obtain⟨h2,e2⟩:=List.getElem?_eq_some_iff.1 hb
   rcases Nat.lt_trichotomy i k with hlt | hlt | hlt
   ·exact absurd (e1.trans e2.symm) (List.pairwise_iff_getElem.1 h.log.nodup i k h1 h2 hlt)
   ·exact hlt
   ·exact absurd (e2.trans e1.symm) (List.pairwise_iff_getElem.1 h.log.nodup k i h2 h1 hlt)
 ·obtain⟨c,t,hc,ht'⟩:=h.log.act.typ hy
  subst e
  exact ai.ne hc hblk (by rcases ht' with rfl | rfl <;> decide) rfl
def Vm(G G':Lg)(n:Nat):Prop:=G'.tr=G.tr∧G'.tp=G.tp∧G'.day=G.day∧G'.na=G.na∧G'.nt.length≤G.nt.length+n
def Turned(bv bm bo:Nat)(V:aW)(Q:aW→Prop)(w w':World):Prop :=
 ∃V2,Rep w' bv bm bo V2∧Q V2∧Vm V.lg V2.lg 3∧(∀b c t,ai w b c t→(t=105∨t=35∨t=103)→ai w' b c t)∧V2.aO=V.aO∧ag (dX bv bm bo V) w w'∧∀x,dX bv bm bo V2 x→dX bv bm bo V x∨w.heap.size≤x
def Lg.jg(G:Lg)(k tb:Nat)(t:Tr):Lg:=((G.begun.kH k t).told 2 t).aS [.NF tb]
theorem Jt(bv bm bo k tb bx by':Nat)(V:aW)(N:Int)(x:Tg)(again:Bool)(w:World)(R:Rep w bv bm bo V)(Ud:Tab w)(hN:N-1=(k:Int))(hx:V.lg.tr[k]?=some x)(htb:V.lm.tb[k]?=some tb)(hlen:V.lg.tr.length≤1000000000)(hlen2:V.lg.tp.length<1000000000)(hput:ja x V.lg.day=0)
 (aak:V.aO x.t.jh=some bx) (XM:V.aO x.t.sell=some by') (hw1:(Lit.int .i64 x.t.jh).wf=true) (hw2:(Lit.int .i64 x.t.sell).wf=true) (Q2 Q3:aW→Prop) (hna:V.lg.na<3000000)
 (h2:∀w1 Ll,Rep w1 bv bm bo { V with lg:=V.lg.jg k tb x.t,lm:=Ll }→Calls Tryz.prog 75 #[.pointer (some ⟨bv,0,none⟩),.pointer (some ⟨bx,0,none⟩),.int .i64 x.t.qty,.bool again] w1 fun e w'=>e=.returned (.tuple #[])∧Turned bv bm bo { V with lg:=V.lg.jg k tb x.t,lm:=Ll } Q2 w1 w')
 (h3:∀V2 w2,Q2 V2→Rep w2 bv bm bo V2→V2.aO=V.aO→V2.lg.na=V.lg.na+1→V2.lg.nt.length≤4→Calls Tryz.prog 75 #[.pointer (some ⟨bv,0,none⟩),.pointer (some ⟨by',0,none⟩),.int .i64 x.t.qty,.bool again] w2 fun e w'=>e=.returned (.tuple #[])∧Turned bv bm bo V2 Q3 w2 w') :
 Calls Tryz.prog 39 #[.pointer (some ⟨bv,0,none⟩),.int .i64 N,.bool again] w fun e w'=>e=.returned (.int .i64 0) ∧
  ∃V3,Q3 V3∧V3.aO=V.aO∧Rep w' bv bm bo V3∧Vm (V.lg.jg k tb x.t) V3.lg 6∧ag (dX bv bm bo V) w w'∧∀y,dX bv bm bo V3 y→dX bv bm bo V y∨w.heap.size≤y:=by
 have bN:bZ N:=by
  have hk:=(List.getElem?_eq_some_iff.1 hx).1
  exact⟨by omega,by omega⟩
 have k0:ag ak w (w.alloc (.cells #[.pointer (some ⟨bv,0,none⟩)] 35)):=(ag.refl ak w).alloc _
 have hT:=qo bv bm bo k tb V.lg V.lm N x _ (R.log.aj k0) hN hx htb hlen
 rw[hput]at hT
 simp only[if_true]at hT
 have HT:=hide hT
 clear hT
 have hF:V.lm.F tb:=.inr (.inr (.inl (List.mem_of_getElem? htb)))
 have QL:=ai.new w #[.pointer (some ⟨bv,0,none⟩)] 35
 have lv:=R.cZ.lt
 have HR:=hide R
 have HX:=hide hx
 have YX:=hide htb
 have HFt:=hide hF
 have YO:=hide h2
 have HH3:=hide h3
 clear hput hx htb R hF h2 h3
 go_enter Tryz.func39,Tryz.ntmps39
 go_wp2_with fail
 refine (ae HT).mono ?_
 rintro e w1 ⟨rfl,k1⟩
 have Vs:ag ak w w1:=k0.trans k1
 obtain⟨vW,wE⟩:∃vW,vW=w1.alloc (.cells #[.pointer (some ⟨tb,0,none⟩)] 103):=⟨_,rfl⟩
 have Qa:ag ak w vW:=by rw[wE];exact Vs.alloc _
 have Sj:ai vW w.heap.size #[.pointer (some ⟨bv,0,none⟩)] 35:=by rw[wE];exact (k1.blk QL (fun x=>x)).alloc _
 have WS:ai vW w1.heap.size #[.pointer (some ⟨tb,0,none⟩)] 103:=by rw[wE];exact ai.new _ _ _
 have R1:=(ae HR).aj Qa
 have tb1:ai vW tb x.cells 105:=R1.log.log.blk k tb x (ae YX) (ae HX)
 have kL:=hide (jL bv bm bo V.lg V.lm (xx N again) vW R1.log hna (xy N again bN).1 (xy N again bN).2)
 have HLn:=hide (Ij N again vW (Ud.aj Qa) bN)
 have MG:vW.cell? ⟨w.heap.size,0,none⟩=some (.pointer (some ⟨bv,0,none⟩)):=Sj.cell 0
 have HB1:=hide Sj
 have TF:=hide R1.cZ
 have ZW:=hide R1.log
 have xv1:w1.cell? ⟨w.heap.size,0,none⟩=some (.pointer (some ⟨bv,0,none⟩)):=(k1.blk QL (fun x=>x)).cell 0
 have HW:=hide wE
 have l1:w.heap.size<w1.heap.size:=by have:=Vs.size;have:=k1.size;simp at this;omega
 clear wE k1
 generalize xx N again=ln at kL HLn
 have noB:∀wb,ag (fun b=>b=bv∨V.lm.av.ownBlock=some b∨V.lm.jv.ownBlock=some b) vW wb→wb.cell? ⟨w.heap.size,0,none⟩=some (.pointer (some ⟨bv,0,none⟩)):=fun wb kb=>(kb.blk (ae HB1) (by
  rintro (e | e | e)
  ·exact ai.ne (ae HB1) (ae TF) (by decide) e
  ·exact own_ne (ae ZW).log.act.row e (ae HB1) (by decide) rfl
  ·exact own_ne (ae ZW).log.mJ e (ae HB1) (by decide) rfl)).cell 0
 have V8:=hide noB
 clear noB
 go_wp2
 rw[←ae HW]
 go_region_held3 (fun w'=>w'.cell? ⟨w.heap.size,0,none⟩=some (.pointer (some ⟨bv,0,none⟩))) (go_keep)
  (first
    | (go_at_call 72;refine (ae HLn _ ?cc).mono ?_;(case cc=>repeat (first | exact ag.refl _ _ | refine ag.drew ?_));rintro e wl ⟨rfl,hk⟩;have z0:=hk.cell (p:=⟨w.heap.size,0,none⟩) MG (fun x=>x);have D9:=hide hk;clear hk)
    | (go_at_call 51;refine (ae kL _ ?cc).mono ?_;(case cc=>repeat (first | exact ae D9 | refine ag.drew ?_));rintro e wb ⟨rfl,lJ,hLb,oQ,-,xY,kb⟩;have z0:=ae V8 wb kb;have GX:=hide hLb;have D8:=hide oQ;have Bz:=hide kb;have Qq:=hide xY;clear hLb oQ kb xY))
 rename_i Og
 clear Og z0 MG HLn D9 V8
 have hLb:=ae GX
 have oQ:=ae D8
 have kb:=ae Bz
 have xY:=ae Qq
 clear GX D8 Bz Qq HB1 TF ZW
 have Zj:∀{b c t},ai vW b c t→t≠100→t≠109→t≠5→ai wb b c t:=fun h h0 h1 h2=>kb.blk h (by
  rintro (e | e | e)
  ·exact ai.ne h R1.cZ h0 e
  ·exact own_ne R1.log.log.act.row e h (fun e=>h1 e.symm) rfl
  ·exact own_ne R1.log.log.mJ e h (fun e=>h2 e.symm) rfl)
 have KE:=Zj Sj (by decide) (by decide) (by decide)
 have QA:=Zj WS (by decide) (by decide) (by decide)
 have Qd:=Zj tb1 (by decide) (by decide) (by decide)
 have hL2:aK (wb.setCell ⟨tb,7,none⟩ (.bool false)) bv bm bo (V.lg.begun.kH k x.t) lJ:=hLb.kH (ae HX) (by rw[xY];exact ae YX)
 have xtb:wb.cell? ⟨w1.heap.size,0,none⟩=some (.pointer (some ⟨tb,0,none⟩)):=QA.cell 0
 have t7:=Qd.cell 7
 have f7:=Qd.frozen 7
 simp only[Tg.cells]at t7
 simp at t7
 obtain⟨w2,OA⟩:∃w2,w2=wb.setCell ⟨tb,7,none⟩ (.bool false):=⟨_,rfl⟩
 have k2:ag (fun y=>y=tb) wb w2:=by rw[OA];exact (ag.refl (fun y=>y=tb) wb).setCell (p:=⟨tb,7,none⟩) (.inl rfl) _
 have tb2:ai w2 tb (Tg.cells ⟨x.t,false⟩) 105:=by rw[OA];exact Qd.set 7 _
 rw[←OA]at hL2
 have bv2:=k2.blk KE (fun e=>ai.ne KE Qd (by decide) e)
 have bt2:=k2.blk QA (fun e=>ai.ne QA Qd (by decide) e)
 have kF2:ag (fun y=>y=bv∨V.lm.F y) w w2:=(Qa.aC.trans (kb.mono (fun y h=>h.imp_right (fun h=>h.elim (fun h=>.inr (.inr (.inr (.inl h)))) (fun h=>.inr (.inl (.inr h))))))).trans (k2.mono (fun y h=>.inr (by rw[h];exact ae HFt)))
 have uC:∀y,lJ.F y→V.lm.F y∨w.heap.size≤y:=fun y h=>(oQ y h).imp_right (fun h=>Nat.le_trans Qa.size h)
 have hT2:=uf bv bm bo _ lJ 2 x.t w2.drew (hL2.aj (ag.refl ak w2).drew) (by simp only[Lg.kH,Lg.begun];exact hlen2)
 simp only[Tr.val]at hT2
 have HT2:=hide hT2
 have HW2:=hide OA
 have HL2:=hide hL2
 have x2:w2.cell? ⟨w.heap.size,0,none⟩=some (.pointer (some ⟨bv,0,none⟩)):=bv2.cell 0
 have y2:w2.cell? ⟨w1.heap.size,0,none⟩=some (.pointer (some ⟨tb,0,none⟩)):=bt2.cell 0
 have d0:w2.cell? ⟨tb,0,none⟩=some (.int .i64 x.t.num):=tb2.cell 0
 have d1:w2.cell? ⟨tb,1,none⟩=some (.string x.t.sym):=tb2.cell 1
 have d2:w2.cell? ⟨tb,2,none⟩=some (.int .i64 x.t.price):=tb2.cell 2
 have d3:w2.cell? ⟨tb,3,none⟩=some (.int .i64 x.t.qty):=tb2.cell 3
 have d4:w2.cell? ⟨tb,4,none⟩=some (.int .i64 x.t.jh):=tb2.cell 4
 have d5:w2.cell? ⟨tb,5,none⟩=some (.int .i64 x.t.sell):=tb2.cell 5
 have d6:w2.cell? ⟨tb,6,none⟩=some (.int .i64 x.t.day):=tb2.cell 6
 have lV:Hid (∀w3,ag (fun b=>b=bv∨lJ.pv.ownBlock=some b) w2.drew w3→∀{b c t},ai w2 b c t→t≠100→t≠62→ai w3 b c t):=fun w3 kc b c t h h0 h1=>kc.blk h.drew (by
  rintro (e | e)
  ·exact ai.ne h hL2.cZ h0 e
  ·exact own_ne hL2.log.fU e h (fun e=>h1 e.symm) rfl)
 have VM:=hide bv2
 have HBt:=hide bt2
 have HTb:=hide tb2
 have P5:=hide kF2
 have RN:=hide uC
 clear hT2 OA hL2 k2 tb2 bv2 bt2 KE QA Qd Zj kb hLb oQ xY tb1 WS Sj R1 Qa Vs kL HW HT uC kF2 xv1 k0 QL
 go_wp2
 rw[←ae HW2]
 clear xtb t7 f7
 go_region_held3 (fun w'=>w'.cell? ⟨w.heap.size,0,none⟩=some (.pointer (some ⟨bv,0,none⟩))∧w'.cell? ⟨w1.heap.size,0,none⟩=some (.pointer (some ⟨tb,0,none⟩))∧w'.cell? ⟨tb,0,none⟩=some (.int .i64 x.t.num)∧w'.cell? ⟨tb,1,none⟩=some (.string x.t.sym)∧w'.cell? ⟨tb,2,none⟩=some (.int .i64 x.t.price)∧w'.cell? ⟨tb,3,none⟩=some (.int .i64 x.t.qty)∧w'.cell? ⟨tb,4,none⟩=some (.int .i64 x.t.jh)∧w'.cell? ⟨tb,5,none⟩=some (.int .i64 x.t.sell)∧w'.cell? ⟨tb,6,none⟩=some (.int .i64 x.t.day)) (go_keep)
  (first | (go_at_call 73;refine (ae HT2).mono ?_;rintro e w3 ⟨rfl,lI,c1,c2,c3⟩;have bv3:=ae lV w3 c3 (ae VM) (by decide) (by decide);have bt3:=ae lV w3 c3 (ae HBt) (by decide) (by decide);have Ry:=ae lV w3 c3 (ae HTb) (by decide) (by decide);have a0:w3.cell? ⟨w.heap.size,0,none⟩=some (.pointer (some ⟨bv,0,none⟩)):=bv3.cell 0;have a1:w3.cell? ⟨w1.heap.size,0,none⟩=some (.pointer (some ⟨tb,0,none⟩)):=bt3.cell 0;have b0:w3.cell? ⟨tb,0,none⟩=some (.int .i64 x.t.num):=Ry.cell 0;have b1:w3.cell? ⟨tb,1,none⟩=some (.string x.t.sym):=Ry.cell 1;have b2:w3.cell? ⟨tb,2,none⟩=some (.int .i64 x.t.price):=Ry.cell 2;have b3:w3.cell? ⟨tb,3,none⟩=some (.int .i64 x.t.qty):=Ry.cell 3;have b4:w3.cell? ⟨tb,4,none⟩=some (.int .i64 x.t.jh):=Ry.cell 4;have b5:w3.cell? ⟨tb,5,none⟩=some (.int .i64 x.t.sell):=Ry.cell 5;have b6:w3.cell? ⟨tb,6,none⟩=some (.int .i64 x.t.day):=Ry.cell 6;have uk:=hide c1;have HC2:=hide c2;have qO:=hide c3;have HV3:=hide bv3;have HT3:=hide bt3;have Wv:=hide Ry;clear c1 c2 c3 bv3 bt3 Ry))
 rename_i Og
 clear Og x2 y2 d0 d1 d2 d3 d4 d5 d6 HT2
 have oH:=hide (yB bv bm bo _ lI (.NF tb) (.func 74) #[.pointer (some ⟨w1.heap.size,0,none⟩),.pointer (some ⟨w.heap.size,0,none⟩)] w3 (ae uk) (by show 0<V.lg.na+1;omega) (by show V.lg.na+1≤3000000;omega) (by show 0+1<1000000000;omega))
 have hF3:∀y,lI.F y→V.lm.F y∨w.heap.size≤y:=fun y h=>by
  rcases ae HC2 y h with h | h
  ·exact ae RN y h
  ·exact .inr (Nat.le_trans (ae P5).size h)
 have Ze:ag (fun y=>y=bv∨V.lm.F y) w w3:=(ae P5).drew.from ((ae qO).mono (fun y h=>by
  rcases h with h | h
  ·exact .inl (.inl h)
  ·exact (ae RN y (.inr (.inl (.inl h)))).imp_left .inr))
 have HF3:=hide hF3
 have Tv:=hide Ze
 clear hF3 Ze
 go_wp2_with fail
 refine (ae oH).mono ?_
 rintro e w4 ⟨rfl,UM,c1,c2,c3,-⟩
 change aK w4 bv bm bo (V.lg.jg k tb x.t) UM at c1
 have Qv:∀{b c t},ai w3 b c t→t≠109→t≠1→ai w4 b c t:=fun h h0 h1=>c3.blk h (fun e=>by
  obtain⟨c',t',hc,ht'⟩:=(ae uk).log.act.typ e
  exact ai.ne h hc (by rcases ht' with rfl | rfl;exact h0;exact h1) rfl)
 have bv4:=Qv (ae HV3) (by decide) (by decide)
 have bt4:=Qv (ae HT3) (by decide) (by decide)
 have Zq:=Qv (ae Wv) (by decide) (by decide)
 have kF4:ag (fun y=>y=bv∨V.lm.F y) w w4:=(ae Tv).from (c3.mono (fun y h=>(ae HF3 y (.inr (.inr (.inr h)))).imp_left .inr))
 have hF4:∀y,UM.F y→V.lm.F y∨w.heap.size≤y:=fun y h=>by
  rcases c2 y h with h | h
  ·exact ae HF3 y h
  ·exact .inr (Nat.le_trans (ae Tv).size h)
 have R4:Rep w4 bv bm bo { V with lg:=V.lg.jg k tb x.t,lm:=UM }:=(ae HR).jX c1 kF4
 have R4d:=R4.aj (ag.refl ak w4).drew
 have L1:=R4d.lookO (id:=x.t.jh) hw1
 simp only[aak,fV]at L1
 have H2:=hide (ae YO w4.drew UM R4d)
 have c1':w4.cell? ⟨bv,1,none⟩=some (.map (some bo)):=R4.cZ.cell 1
 have x4:w4.cell? ⟨w.heap.size,0,none⟩=some (.pointer (some ⟨bv,0,none⟩)):=bv4.cell 0
 have y4:w4.cell? ⟨w1.heap.size,0,none⟩=some (.pointer (some ⟨tb,0,none⟩)):=bt4.cell 0
 have d3:w4.cell? ⟨tb,3,none⟩=some (.int .i64 x.t.qty):=Zq.cell 3
 have d4:w4.cell? ⟨tb,4,none⟩=some (.int .i64 x.t.jh):=Zq.cell 4
 have ZG:=hide bv4
 have ZE:=hide bt4
 have aab:=hide Zq
 have ZT:=hide kF4
 have HF4:=hide hF4
 clear c1 c2 c3 Qv bv4 bt4 Zq kF4 hF4 R4 R4d a0 a1 b0 b1 b2 b3 b4 b5 b6 oH uk HC2 qO HV3 HT3 Wv lV VM HBt HTb P5 RN HF3 Tv HL2 HW2
 go_wp2
 go_region_held3 (fun w'=>w'.cell? ⟨w.heap.size,0,none⟩=some (.pointer (some ⟨bv,0,none⟩))∧w'.cell? ⟨w1.heap.size,0,none⟩=some (.pointer (some ⟨tb,0,none⟩))∧w'.cell? ⟨bv,1,none⟩=some (.map (some bo))∧w'.cell? ⟨tb,4,none⟩=some (.int .i64 x.t.jh)∧w'.cell? ⟨tb,3,none⟩=some (.int .i64 x.t.qty)) (go_keep)
  (first | (go_at_call 75;refine (ae H2).mono ?_;rintro e w5 ⟨rfl,V5,R5,q5,l5,p5,o5,k5,f5⟩;have bv5:=p5 _ _ _ (ae ZG).drew (by simp);have bt5:=p5 _ _ _ (ae ZE).drew (by simp);have YD:=p5 _ _ _ (ae aab).drew (by simp);have g0:w5.cell? ⟨w.heap.size,0,none⟩=some (.pointer (some ⟨bv,0,none⟩)):=bv5.cell 0;have g1:w5.cell? ⟨w1.heap.size,0,none⟩=some (.pointer (some ⟨tb,0,none⟩)):=bt5.cell 0;have g2:w5.cell? ⟨bv,1,none⟩=some (.map (some bo)):=R5.cZ.cell 1;have g3:w5.cell? ⟨tb,3,none⟩=some (.int .i64 x.t.qty):=YD.cell 3;have g4:w5.cell? ⟨tb,4,none⟩=some (.int .i64 x.t.jh):=YD.cell 4;have g5:w5.cell? ⟨tb,5,none⟩=some (.int .i64 x.t.sell):=YD.cell 5;have mQ:=hide R5;have Vh:=hide q5;have Ql:=hide l5;have Nj:=hide o5;have J4:=hide k5;have HF5:=hide f5;have ZH:=hide bv5;have ZF:=hide bt5;have aac:=hide YD;clear R5 q5 l5 p5 o5 k5 f5 bv5 bt5 YD))
 rename_i Og
 clear Og c1' x4 y4 d3 d4 L1 H2
 have R5d:=(ae mQ).aj (ag.refl ak w5).drew
 have L2:=R5d.lookO (id:=x.t.sell) hw2
 have hs5:V5.aO x.t.sell=some by':=by rw[ae Nj];exact XM
 simp only[hs5,fV]at L2
 have H3:=hide (ae HH3 V5 w5.drew (ae Vh) R5d (ae Nj) (by rw[(ae Ql).2.2.2.1];rfl) (by have:=(ae Ql).2.2.2.2;simp only[Lg.jg,Lg.aS,Lg.told,Lg.kH,Lg.begun,List.nil_append,List.length_cons,List.length_nil]at this;omega))
 clear R5d hs5
 go_wp2
 go_region_held3 (fun w'=>w'.cell? ⟨w.heap.size,0,none⟩=some (.pointer (some ⟨bv,0,none⟩))∧w'.cell? ⟨w1.heap.size,0,none⟩=some (.pointer (some ⟨tb,0,none⟩))∧w'.cell? ⟨bv,1,none⟩=some (.map (some bo))∧w'.cell? ⟨tb,5,none⟩=some (.int .i64 x.t.sell)∧w'.cell? ⟨tb,3,none⟩=some (.int .i64 x.t.qty)) (go_keep)
  (first | (go_at_call 75;refine (ae H3).mono ?_;rintro e w6 ⟨rfl,V6,R6,q6,l6,p6,o6,k6,f6⟩;have bv6:=p6 _ _ _ (ae ZH).drew (by simp);have bt6:=p6 _ _ _ (ae ZF).drew (by simp);have tb6:=p6 _ _ _ (ae aac).drew (by simp);have j0:w6.cell? ⟨w.heap.size,0,none⟩=some (.pointer (some ⟨bv,0,none⟩)):=bv6.cell 0;have j1:w6.cell? ⟨w1.heap.size,0,none⟩=some (.pointer (some ⟨tb,0,none⟩)):=bt6.cell 0;have j2:w6.cell? ⟨bv,1,none⟩=some (.map (some bo)):=R6.cZ.cell 1;have j3:w6.cell? ⟨tb,3,none⟩=some (.int .i64 x.t.qty):=tb6.cell 3;have j5:w6.cell? ⟨tb,5,none⟩=some (.int .i64 x.t.sell):=tb6.cell 5;have J6:=hide R6;have P8:=hide q6;have HL6:=hide l6;have HO6:=hide o6;have HK6:=hide k6;have HF6:=hide f6;clear R6 q6 l6 p6 o6 k6 f6 bv6 bt6 tb6))
 clear g0 g1 g2 g3 g4 g5 L2 H3
 go_wp2
 go_ret
 have hft:∀y,dX bv bm bo { V with lg:=V.lg.jg k tb x.t,lm:=UM } y→dX bv bm bo V y∨w.heap.size≤y:=fun y hy=>by
  rcases hy with h | h | h | h | h | h
  ·exact .inl (.inl h)
  ·exact .inl (.inr (.inl h))
  ·exact .inl (.inr (.inr (.inl h)))
  ·exact .inl (.inr (.inr (.inr (.inl h))))
  ·exact .inl (.inr (.inr (.inr (.inr (.inl h)))))
  ·exact (ae HF4 y h).imp_left (fun h=>.inr (.inr (.inr (.inr (.inr h)))))
 have SG:ag (dX bv bm bo V) w w4:=(ae ZT).mono (fun y h=>h.elim (fun h=>.inl h) (fun h=>.inr (.inr (.inr (.inr (.inr h))))))
 have QY:ag (dX bv bm bo V) w w5:=SG.drew.from ((ae J4).mono hft)
 have f5:∀y,dX bv bm bo V5 y→dX bv bm bo V y∨w.heap.size≤y:=fun y h=>by
  rcases ae HF5 y h with h | h
  ·exact hft y h
  ·exact .inr (Nat.le_trans SG.size h)
 have kk6:ag (dX bv bm bo V) w w6:=QY.drew.from ((ae HK6).mono f5)
 obtain⟨a1,a2,a3,a4,a5⟩:=ae Ql
 obtain⟨b1,b2,b3,b4,b5⟩:=ae HL6
 refine⟨rfl,V6,ae P8,(ae HO6).trans (ae Nj),ae J6,⟨b1.trans a1,b2.trans a2,b3.trans a3,b4.trans a4,by omega⟩,kk6,fun y hy=>?_⟩
 rcases ae HF6 y hy with h | h
 ·exact f5 y h
 ·exact .inr (Nat.le_trans QY.size h)
end Go.Proofs.YtigaphnafnpfnaaGreatDoor
