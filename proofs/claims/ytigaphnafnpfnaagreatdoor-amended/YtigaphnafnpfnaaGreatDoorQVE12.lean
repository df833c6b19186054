import Derived.Test.YtigaphnafnpfnaaGreatDoorQVF1
import Derived.Test.YtigaphnafnpfnaaGreatDoorQVJ5
import Derived.OpenShut
set_option linter.unusedVariables false
set_option linter.unusedSimpArgs false
set_option maxHeartbeats 8000000
set_option maxRecDepth 100000
namespace Go.Proofs.YtigaphnafnpfnaaGreatDoor
open Go.RowKit Go.Maps
attribute [local go_sem ↓] Go.wp_at_zero Go.wp_at_succ
theorem xB(bv bm bo:Nat)(V:aW)(id:Int)(w:World)(R:Rep w bv bm bo V)(hid:(Lit.int .i64 id).wf=true)(hn:V.aO id=none) :
 Calls Tryz.prog 37 #[.pointer (some ⟨bv,0,none⟩),.int .i64 id] w fun e w'=>e=.returned (.int .i64 6)∧ag ak w w':=by
 have L2:=R.lookO hid
 rw[hn]at L2
 simp only[fV]at L2
 have v1:w.cell? ⟨bv,1,none⟩=some (.map (some bo)):=R.cZ.cell 1
 clear R hn
 go_enter Tryz.func37,Tryz.ntmps37
 go_wp2
 go_ret
 exact⟨rfl,by repeat (first | exact ag.refl _ _ | refine ag.drewN ?_ _ | refine ag.drew ?_)⟩
theorem qU(bv bm bo b:Nat)(V:aW)(id:Int)(w:World)(R:Rep w bv bm bo V)(hid:(Lit.int .i64 id).wf=true)(hn:V.aO id=some b)(h0:(V.om b).opn=0) :
 Calls Tryz.prog 37 #[.pointer (some ⟨bv,0,none⟩),.int .i64 id] w fun e w'=>e=.returned (.int .i64 10)∧ag ak w w':=by
 have L2:=R.lookO hid
 rw[hn]at L2
 simp only[fV]at L2
 obtain⟨_,ix,ho⟩:=R.aQ id b hn
 have o8:w.cell? ⟨b,8,none⟩=some (.int .i64 0):=by rw[←h0];exact ho.cell 8
 have v1:w.cell? ⟨bv,1,none⟩=some (.map (some bo)):=R.cZ.cell 1
 clear R hn ho h0
 go_enter Tryz.func37,Tryz.ntmps37
 go_wp2
 go_ret
 exact⟨rfl,by repeat (first | exact ag.refl _ _ | refine ag.drewN ?_ _ | refine ag.drew ?_)⟩
theorem Rep.Iu{w:World}{bv bm bo:Nat}{V:aW}(R:Rep w bv bm bo V){i:Nat}(hi:i<V.nb)(hlen:(V.B i).sym.size≤maxLen)(q:Nat) :
 (Instr.lookup 94 (.map (some bm)) (.string (V.B i).sym) false).run Tryz.prog (w.drewN q)=.ok (.pointer (some ⟨V.bk i,0,none⟩)) (w.drewN q) :=
 (R.aj ((ag.refl ak w).drewN q)).vP hi hlen
theorem Js(bv bm bo i s:Nat)(V:aW)(w:World)(R:Rep w bv bm bo V)(hi:i<V.nb)(hs:s<2)(hlen:(V.B i).sym.size≤maxLen)(hside:∀j,j<(V.B i).n s→(V.om ((V.B i).h s j)).side=(s:Int)) :
 Calls Tryz.prog 25 #[.pointer (some ⟨bv,0,none⟩),.string (V.B i).sym,.int .i64 s] w fun e w'=>∃v,e=.returned (.tuple #[v,.int .i64 0])∧wV V.om ((V.B i).n s) ((V.B i).h s) w v w':=by
 have L1:=R.vP hi hlen
 have v0:w.cell? ⟨bv,0,none⟩=some (.map (some bm)):=R.cZ.cell 0
 have hsb:gZ (s:Int)=true:=by
  have:s=0∨s=1:=by omega
  rcases this with rfl | rfl <;> rfl
 have HL:=hide (yg (V.bk i) s (V.B i) V.om w (R.book i hi) hs hside)
 clear R hside
 go_enter Tryz.func25,Tryz.ntmps25
 go_wp2_with (first | (go_at_call 47;refine (dw _ _).mono ?_;rintro e w' ⟨rfl,rfl⟩) | (go_at_call 48;refine (ae HL).mono ?_;rintro e w2 ⟨v,rfl,hp⟩))
 go_ret2
 exact⟨v,rfl,hp⟩
def Ji(bv bm bo:Nat)(G:Lg)(lm:Lm)(ds:List Back)(w w':World):Prop :=
 ∃aY,aK w' bv bm bo (G.begun.aS ds) aY∧(∀x,aY.F x→lm.F x∨w.heap.size≤x)
theorem Ad(bv bm bo i s k:Nat)(V:aW)(id:Int)(w:World)(R:Rep w bv bm bo V)(hT:Tab w)(hid:(Lit.int .i64 id).wf=true)(hi:i<V.nb)(hs:s<2)(hk:k<(V.B i).n s)(hn:V.aO id=some ((V.B i).h s k))(h0:(V.om ((V.B i).h s k)).opn≠0)
 (hside:(V.om ((V.B i).h s k)).side=(s:Int)) (bY:(V.om ((V.B i).h s k)).sym=(V.B i).sym) (hlen:(V.B i).sym.size≤maxLen) (hna:V.lg.na<3000000) :
 Calls Tryz.prog 37 #[.pointer (some ⟨bv,0,none⟩),.int .i64 id] w fun e w'=>e=.returned (.int .i64 0) ∧
  Mk w' (V.bk i) ((V.B i).leave V.om s k) (upd V.om ((V.B i).h s k) (fA (V.om ((V.B i).h s k)))) (fun x=>∃id,V.aO id=some x)∧Ji bv bm bo V.lg V.lm [.left ((V.B i).h s k),.now ((V.B i).h s k) (V.om ((V.B i).h s k))] w w'∧ag (fun x=>x=bv∨V.lm.F x∨x=V.bk i∨bQ (V.B i) s x) w w':=by
 have L2:=R.lookO hid
 rw[hn]at L2
 simp only[fV]at L2
 obtain⟨_,ix,ho⟩:=R.aQ id _ hn
 have o8:w.cell? ⟨(V.B i).h s k,8,none⟩=some (.int .i64 (V.om ((V.B i).h s k)).opn):=ho.cell 8
 have e0:((V.om ((V.B i).h s k)).opn == 0)=false:=by simp[h0]
 have v1:w.cell? ⟨bv,1,none⟩=some (.map (some bo)):=R.cZ.cell 1
 have xO:=ou ⟨#[99,97,110,99,101,108]⟩ (fun _=>id) 1 w hT (by decide) (by decide) (by omega) (fun _ _=>bounds_i64 hid)
 generalize fC (fun _=>id) ⟨#[99,97,110,99,101,108]⟩ 1=ln at xO
 have kL:=hide (jL bv bm bo V.lg V.lm ln w R.log hna xO.1.1 xO.1.2)
 have RU:=hide xO.2
 clear xO
 have HR:=hide R
 have HN:=hide hn
 have Np:=hide bY
 have Wu:=hide hside
 clear R hn ho h0 bY hside
 go_enter Tryz.func37,Tryz.ntmps37
 go_wp2_with fail
 refine (ae RU _ ((ag.refl ak w).alloc _) _ _ (fun i hi=>by obtain rfl:i=0:=(by omega);exact (ai.new w _ _).cell 0)).mono ?_
 rintro e wl ⟨rfl,kl⟩
 have D9:=hide kl
 clear kl
 go_wp2_with fail
 refine (ae kL _ (ae D9)).mono ?_
 rintro e wb ⟨rfl,lJ,hLb,oQ,kb,-,-⟩
 clear RU D9
 clear L2 o8 e0 v1
 have Rb:=(ae HR).jX hLb kb
 have hnb:({ V with lg:=V.lg.begun,lm:=lJ }:aW).aO id=some ((V.B i).h s k):=ae HN
 obtain⟨_,ix,ho⟩:=Rb.aQ id _ hnb
 have o2:wb.cell? ⟨(V.B i).h s k,2,none⟩=some (.string (V.B i).sym):=by rw[←ae Np];exact ai.cell ho 2
 have v0:wb.cell? ⟨bv,0,none⟩=some (.map (some bm)):=Rb.cZ.cell 0
 have L1:(Instr.lookup 94 (.map (some bm)) (.string (V.B i).sym) false).run Tryz.prog wb=.ok (.pointer (some ⟨V.bk i,0,none⟩)) wb:=Rb.vP hi hlen
 have TG:(Instr.lookup 94 (.map (some bm)) (.string (V.B i).sym) false).run Tryz.prog wb.drew=.ok (.pointer (some ⟨V.bk i,0,none⟩)) wb.drew:=Rb.Iu hi hlen 1
 have HL:=hide (fun q=>nC (V.bk i) (V.B i) V.om (fun x=>∃id,V.aO id=some x) s k (wb.drewN q) ((Rb.aj ((ag.refl ak wb).drewN q)).zk hi) hs hk (ae Wu))
 have HC:=hide (fun (W:World) (m:Mk W (V.bk i) ((V.B i).leave V.om s k) V.om (fun x=>∃id,V.aO id=some x))=>jU (V.bk i) ((V.B i).h s k) ((V.B i).leave V.om s k) V.om _ W m ⟨id,ae HN⟩)
 have oH:Hid (∀q w2 w3 wC cp2 qH cp3,Mk w2 (V.bk i) ((V.B i).leave V.om s k) V.om (fun x=>∃id,V.aO id=some x)→ag (fun x=>x=V.bk i∨bQ (V.B i) s x) (wb.drewN q) w2→Mk w3 (V.bk i) ((V.B i).leave V.om s k) (upd V.om ((V.B i).h s k) (fA (V.om ((V.B i).h s k)))) (fun x=>∃id,V.aO id=some x)→ag (fun x=>x=(V.B i).h s k) w2 w3 →
  Calls Tryz.prog 53 #[.pointer (some ⟨bv,0,none⟩),.slice (some ⟨w3.heap.size,0,none⟩) 2 2] (w3.alloc (.cells #[.func wC #[] cp2,.func qH #[] cp3] 1)) fun e w'=>e=.returned (.tuple #[]) ∧
   Mk w' (V.bk i) ((V.B i).leave V.om s k) (upd V.om ((V.B i).h s k) (fA (V.om ((V.B i).h s k)))) (fun x=>∃id,V.aO id=some x)∧Ji bv bm bo V.lg V.lm [.left ((V.B i).h s k),.now ((V.B i).h s k) (V.om ((V.B i).h s k))] w w'∧ag (fun x=>x=bv∨V.lm.F x∨x=V.bk i∨bQ (V.B i) s x) w w'):=by
  intro q w2 w3 wC cp2 qH cp3 m2 k2 m3 k3
  have h2:=(hLb.aj ((ag.refl ak wb).drewN q)).iI k2 (fun x h=>((Rb.aj ((ag.refl ak wb).drewN q)).zk hi).typ (by
   rcases h with h | h
   ·exact .inl h
   ·exact .inr (.inr ⟨s,hs,h⟩)))
  have h3:=h2.iI k3 (fun x h=>by subst h;exact m2.typ (.inr (.inl ⟨id,ae HN⟩)))
  refine (JO bv bm bo _ lJ (.left ((V.B i).h s k)) (.now ((V.B i).h s k) (V.om ((V.B i).h s k))) wC qH cp2 cp3 w3 h3 (by show 0<V.lg.na+1;omega) (by show V.lg.na+1≤3000000;omega) (by show 0+2<1000000000;omega)).mono ?_
  rintro e w' ⟨rfl,aY,a1,a2,a3⟩
  have kb':ag (fun x=>x=bv∨V.lm.F x∨x=V.bk i∨bQ (V.B i) s x) w wb:=kb.mono (fun x h=>h.imp_right .inl)
  have Ig:=(kb'.drewN q).trans ((k2.mono (fun x h=>.inr (.inr h))).trans (k3.mono (fun x h=>.inr (.inr (.inr (.inr ⟨k,hk,h⟩))))))
  refine⟨rfl,m3.gK h3 (a3.mono (fun _ h=>.inr h)),⟨aY,a1,fun x hx=>?_⟩,Ig.from (a3.mono (fun x h=>(oQ x h).imp_left (fun h=>.inr (.inl h))))⟩
  rcases a2 x hx with h | h
  ·exact oQ x h
  ·exact .inr (Nat.le_trans Ig.size h)
 clear ho hnb Rb hLb oQ kb kL HR Np Wu HN
 go_wp2
 go_region_with (first | (go_at_call 66;refine (ae HL _).mono ?_;rintro e w2 ⟨wC,cp2,rfl,-,m2,c2⟩) | (go_at_call 67;refine (ae HC _ m2).mono ?_;rintro e w3 ⟨qH,cp3,rfl,-,m3,c3⟩) | (go_at_call 53;refine (ae oH _ w2 w3 wC cp2 qH cp3 m2 c2 m3 c3).mono ?_;rintro e w4 ⟨rfl,r4⟩))
 all_goals
  go_wp2
  go_ret
  exact⟨rfl,r4⟩
def Lg.moved(G:Lg)(b:Nat)(o:Ord):Lg:=G.begun.aS [.left b,.now b o]
theorem Gg(tmps:Array Value)(H:Nat)(w:World)(a b c d e E:Int)(ht:tmps.getD 8 undef=.pointer (some ⟨H,0,none⟩))(hu:tmps.getD 9 undef=.int .i64 E)(hb:ai w H #[.int .i64 a,.int .i64 b,.int .i64 c,.int .i64 d,.int .i64 e] 87) :
 (results Tryz.f38 tmps).run Tryz.prog w=.ok (.tuple #[.agg #[.int .i64 a,.int .i64 b,.int .i64 c,.int .i64 d,.int .i64 e],.int .i64 E]) w:=by
 have c0:w.cell? ⟨H,0,none⟩=some (.int .i64 a):=hb.cell 0
 have c1:w.cell? ⟨H,1,none⟩=some (.int .i64 b):=hb.cell 1
 have c2:w.cell? ⟨H,2,none⟩=some (.int .i64 c):=hb.cell 2
 have c3:w.cell? ⟨H,3,none⟩=some (.int .i64 d):=hb.cell 3
 have c4:w.cell? ⟨H,4,none⟩=some (.int .i64 e):=hb.cell 4
 simp only[Array.getD_eq_getD_getElem?]at ht hu
 simp[results,Tryz.results38,go_sem,ht,hu,c0,c1,c2,c3,c4]
theorem yM(bv bm bo b:Nat)(V:aW)(id price qty:Int)(w:World)(R:Rep w bv bm bo V)(hid:(Lit.int .i64 id).wf=true)(hn:V.aO id=some b)(h0:(V.om b).opn=0) :
 Calls Tryz.prog 38 #[.pointer (some ⟨bv,0,none⟩),.int .i64 id,.int .i64 price,.int .i64 qty] w fun e w'=>e=.returned (.tuple #[.agg #[.int .i64 0,.int .i64 0,.int .i64 0,.int .i64 0,.int .i64 0],.int .i64 10])∧ag ak w w':=by
 have k1:ag ak w (w.alloc (.cells #[.int .i64 0,.int .i64 0,.int .i64 0,.int .i64 0,.int .i64 0] 87)):=(ag.refl ak w).alloc _
 have L2:=(R.aj k1).lookO hid
 rw[hn]at L2
 simp only[fV]at L2
 obtain⟨-,ix,ho⟩:=R.aQ id b hn
 have o8:w.cell? ⟨b,8,none⟩=some (.int .i64 0):=by rw[←h0];exact ho.cell 8
 have v1:w.cell? ⟨bv,1,none⟩=some (.map (some bo)):=R.cZ.cell 1
 have lv:=R.cZ.lt
 have lo:=ho.lt
 clear R hn ho h0
 go_enter Tryz.func38,Tryz.ntmps38
 go_wp2
 refine bodyPost_ret (Gg _ w.heap.size _ 0 0 0 0 0 10 rfl rfl ?_) rfl ⟨rfl,?_⟩
 ·exact ai.new w _ _
 ·exact (ag.refl ak w).alloc _
def fZ(o:Ord)(price qty:Int):Ord:={ o with price:=price,entered:=wrap64 (o.entered+wrap64 (qty-o.opn)),opn:=qty }
theorem Ku(b:Nat)(o:Ord)(ix price qty:Int)(w:World)(ho:bC w b o ix) :
 Calls Tryz.prog 69 #[.pointer (some ⟨b,0,none⟩),.int .i64 price,.int .i64 qty] w fun e w'=>e=.returned (.func (.func 151) #[] #[.pointer (some ⟨w.heap.size+1,0,none⟩),.pointer (some ⟨w.heap.size,0,none⟩)])∧wX w' w.heap.size b o∧bC w' b (fZ o price qty) ix∧ag (fun x=>x=b) w w':=by
 have HA:=hide (kX b o ix w ho)
 have lo:=ho.lt
 go_enter Tryz.func69,Tryz.ntmps69
 go_wp2_with fail
 refine (ae HA).mono ?_
 rintro e w1 ⟨rfl,n1,k1⟩
 have ho1:=k1.blk ho (fun x=>x)
 have h7:w1.cell? ⟨b,7,none⟩=some (.int .i64 o.entered):=ai.cell ho1 7
 have h8:w1.cell? ⟨b,8,none⟩=some (.int .i64 o.opn):=ai.cell ho1 8
 have h5:w1.cell? ⟨b,5,none⟩=some (.int .i64 o.price):=ai.cell ho1 5
 have f7:=ai.frozen ho1 7
 have f8:=ai.frozen ho1 8
 have f5:=ai.frozen ho1 5
 go_wp2
 go_region
 go_wp2
 go_ret
 have k2:=((((ag.refl (fun x=>x=b) w1).setCell (p:=⟨b,7,none⟩) (.inl rfl) (.int .i64 (wrap64 (o.entered+wrap64 (qty-o.opn))))).setCell (p:=⟨b,8,none⟩) (.inl rfl) (.int .i64 qty)).setCell (p:=⟨b,5,none⟩) (.inl rfl) (.int .i64 price)).drew
 refine⟨rfl,n1.kept k2 (by omega) (by omega),?_,k1.aC.trans k2⟩
 have:=((ho1.set 7 (.int .i64 (wrap64 (o.entered+wrap64 (qty-o.opn))))).set 8 (.int .i64 qty)).set 5 (.int .i64 price)
 exact this
theorem Ed(bb b:Nat)(B:Bk)(om:Nat→Ord)(L:Nat→Prop)(price qty:Int)(w:World)(m:Mk w bb B om L)(hb:L b) :
 Calls Tryz.prog 69 #[.pointer (some ⟨b,0,none⟩),.int .i64 price,.int .i64 qty] w fun e w'=>∃fn cp,e=.returned (.func fn #[] cp)∧um w' b (om b) w.heap.size fn cp∧Mk w' bb B (upd om b (fZ (om b) price qty)) L∧ag (fun x=>x=b) w w':=by
 obtain⟨ix,ho⟩:=m.aQ b hb
 refine (Ku b (om b) ix price qty w ho).mono ?_
 rintro e w' ⟨rfl,h0,h1,h2⟩
 exact⟨_,_,rfl,⟨rfl,_,Nat.le_refl _,rfl,h0⟩,m.upd ho h2 h1,h2⟩
theorem Dq(bv bm bo b i:Nat)(V:aW)(id price qty:Int)(w:World)(R:Rep w bv bm bo V)(hT:Tab w)(hid:(Lit.int .i64 id).wf=true)(hn:V.aO id=some b)(h0:(V.om b).opn≠0)(hp:bg price=true)(hq:bg qty=true)(hi:i<V.nb)
 (hpr:price=(V.om b).price) (hle:qty≤(V.om b).opn) (hna:V.lg.na<3000000) :
 Calls Tryz.prog 38 #[.pointer (some ⟨bv,0,none⟩),.int .i64 id,.int .i64 price,.int .i64 qty] w fun e w'=>e=.returned (.tuple #[.agg #[.int .i64 0,.int .i64 qty,.int .i64 0,.int .i64 0,.int .i64 0],.int .i64 0]) ∧
  Mk w' (V.bk i) (V.B i) (upd V.om b (fZ (V.om b) price qty)) (fun x=>∃id,V.aO id=some x)∧Ji bv bm bo V.lg V.lm [.now b (V.om b)] w w'∧ag (fun x=>x=bv∨V.lm.F x∨x=b) w w':=by
 obtain⟨wa,La⟩:∃wa,wa=w.alloc (.cells aB 87):=⟨_,rfl⟩
 have ka:ag ak w wa:=by rw[La];exact (ag.refl ak w).alloc _
 have hra:ai wa w.heap.size aB 87:=by rw[La];exact ai.new w _ _
 have L2:=(R.aj ka).lookO hid
 rw[hn]at L2
 simp only[fV]at L2
 rw[La]at L2
 simp only[aB]at L2
 obtain⟨-,ix,ho⟩:=R.aQ id b hn
 have o8:w.cell? ⟨b,8,none⟩=some (.int .i64 (V.om b).opn):=ho.cell 8
 have v1:w.cell? ⟨bv,1,none⟩=some (.map (some bo)):=R.cZ.cell 1
 have lv:=R.cZ.lt
 have lo:=ho.lt
 have e0:((V.om b).opn == 0)=false:=by simp[h0]
 have e1:decide (qty≤(V.om b).opn)=true:=by simp[hle]
 have HW:Hid (wa=w.alloc (.cells #[.int .i64 0,.int .i64 0,.int .i64 0,.int .i64 0,.int .i64 0] 87)):=La
 have xO:=ou ⟨#[114,101,112,108,97,99,101]⟩ (three id price qty) 3 wa (hT.aj ka) (by decide) (by decide) (by omega) (fun i hi=>by
  match i,hi with
  | 0,_=>exact bounds_i64 hid
  | 1,_=>exact pU (by simp[bg]at hp;show -1000000≤price∧price≤1000000;omega)
  | 2,_=>exact pU (by simp[bg]at hq;show -1000000≤qty∧qty≤1000000;omega))
 generalize fC (three id price qty) ⟨#[114,101,112,108,97,99,101]⟩ 3=ln at xO
 have kL:=hide (jL bv bm bo V.lg V.lm ln wa (R.aj ka).log hna xO.1.1 xO.1.2)
 have RU:=hide xO.2
 have hsz:wa.heap.size=w.heap.size+1:=by rw[La];simp
 have J3:Hid (∀i,i<3→(wa.alloc (.cells #[.int .i64 id,.int .i64 price,.int .i64 qty] 3)).cell? ⟨w.heap.size+1,i,none⟩=some (.int .i64 (three id price qty i))):=by
  intro i hi
  rw[←hsz]
  match i,hi with
  | 0,_=>exact (ai.new wa _ _).cell 0
  | 1,_=>exact (ai.new wa _ _).cell 1
  | 2,_=>exact (ai.new wa _ _).cell 2
 clear xO hsz
 have HR:=hide R
 have HN:=hide hn
 have Wh:=hide hpr
 have Na:=hide e1
 clear R hn ho h0 hle hpr La e1
 go_enter Tryz.func38,Tryz.ntmps38
 go_wp2_with (first | (go_at_call 68;refine (aU _ _).mono ?_;rintro e w' ⟨rfl,rfl⟩) | fail)
 rw[←ae HW]
 refine (ae RU _ ((ag.refl ak wa).alloc _) _ _ (ae J3)).mono ?_
 rintro e wl ⟨rfl,kl⟩
 have D9:=hide kl
 clear kl
 go_wp2_with fail
 refine (ae kL _ (ae D9)).mono ?_
 rintro e wb ⟨rfl,lJ,hLb,oQ,kb,-,-⟩
 clear RU D9 J3
 clear L2 o8 v1
 have Rb:=((ae HR).aj ka).jX hLb kb
 have hnb:({ V with lg:=V.lg.begun,lm:=lJ }:aW).aO id=some b:=ae HN
 obtain⟨-,ixb,hob⟩:=Rb.aQ id b hnb
 have o8:wb.cell? ⟨b,8,none⟩=some (.int .i64 (V.om b).opn):=ai.cell hob 8
 have o5:wb.cell? ⟨b,5,none⟩=some (.int .i64 price):=by rw[ae Wh];exact ai.cell hob 5
 have e1:=ae Na
 have hrb:=kb.blk hra (by
  rintro (e | e)
  ·omega
  ·have:=(ae HR).log.log.lt e;omega)
 have uC:∀x,lJ.F x→V.lm.F x∨w.heap.size≤x:=fun x h=>(oQ x h).imp_right (fun h=>Nat.le_trans ka.size h)
 have JH:ag (fun x=>x=bv∨V.lm.F x∨x=b) w wb:=ka.aC.trans (kb.mono (fun x h=>h.imp_right .inl))
 have ZA:=hide (Ed (V.bk i) b (V.B i) V.om (fun x=>∃id,V.aO id=some x) price qty wb (Rb.zk hi) ⟨id,ae HN⟩)
 have oH:Hid (∀w3 qH cp3,Mk w3 (V.bk i) (V.B i) (upd V.om b (fZ (V.om b) price qty)) (fun x=>∃id,V.aO id=some x)→ag (fun x=>x=b) wb w3 →
  Calls Tryz.prog 53 #[.pointer (some ⟨bv,0,none⟩),.slice (some ⟨w3.heap.size,0,none⟩) 1 1] (w3.alloc (.cells #[.func qH #[] cp3] 1)) fun e w'=>e=.returned (.tuple #[]) ∧
   Mk w' (V.bk i) (V.B i) (upd V.om b (fZ (V.om b) price qty)) (fun x=>∃id,V.aO id=some x)∧Ji bv bm bo V.lg V.lm [.now b (V.om b)] w w'∧ag (fun x=>x=bv∨V.lm.F x∨x=b) w w'∧ai w' w.heap.size aB 87):=by
  intro w3 qH cp3 m3 k3
  have h3:=hLb.iI k3 (fun x h=>by subst h;exact (Rb.zk hi).typ (.inr (.inl ⟨id,ae HN⟩)))
  have hr3:=k3.blk hrb (fun h=>by omega)
  refine (yA bv bm bo _ lJ (.now b (V.om b)) qH cp3 w3 h3 (by show 0<V.lg.na+1;omega) (by show V.lg.na+1≤3000000;omega) (by show 0+1<1000000000;omega)).mono ?_
  rintro e w' ⟨rfl,aY,a1,a2,a3⟩
  have Ig:=JH.trans (k3.mono (fun x h=>.inr (.inr h)))
  refine⟨rfl,m3.gK h3 (a3.mono (fun _ h=>.inr h)),⟨aY,a1,fun x hx=>?_⟩,Ig.from (a3.mono (fun x h=>(uC x h).imp_left (fun h=>.inr (.inl h)))),a3.blk hr3 (h3.log.ne hr3 (by decide) (by decide) (by decide))⟩
  rcases a2 x hx with h | h
  ·exact uC x h
  ·exact .inr (Nat.le_trans Ig.size h)
 clear hob hnb Rb hLb oQ kb kL hrb uC JH ka hra HW
 go_wp2_with fail
 refine (ae ZA).mono ?_
 rintro e w3 ⟨qH,cp3,rfl,-,m3,k3⟩
 go_wp2_with fail
 refine (ae oH w3 qH cp3 m3 k3).mono ?_
 rintro e w4 ⟨rfl,m4,ac4,JG,hr4⟩
 have r0:w4.cell? ⟨w.heap.size,0,none⟩=some (.int .i64 0):=hr4.cell 0
 have r1:w4.cell? ⟨w.heap.size,1,none⟩=some (.int .i64 0):=hr4.cell 1
 have r2:w4.cell? ⟨w.heap.size,2,none⟩=some (.int .i64 0):=hr4.cell 2
 have r3:w4.cell? ⟨w.heap.size,3,none⟩=some (.int .i64 0):=hr4.cell 3
 have r4:w4.cell? ⟨w.heap.size,4,none⟩=some (.int .i64 0):=hr4.cell 4
 have q0:=hr4.frozen 0
 have q1:=hr4.frozen 1
 have q2:=hr4.frozen 2
 have q3:=hr4.frozen 3
 have q4:=hr4.frozen 4
 have Ve:=hide m4
 have DT:=hide ac4
 have zh:=hide JG
 clear m3 k3 m4 ac4 JG o8 o5
 go_wp2
 have kB:ag (fun x=>x=w.heap.size) w4 (((((w4.setCell ⟨w.heap.size,0,none⟩ (.int .i64 0)).setCell ⟨w.heap.size,1,none⟩ (.int .i64 qty)).setCell ⟨w.heap.size,2,none⟩ (.int .i64 0)).setCell ⟨w.heap.size,3,none⟩ (.int .i64 0)).setCell ⟨w.heap.size,4,none⟩ (.int .i64 0)) :=
  (((((ag.refl (fun x=>x=w.heap.size) w4).setCell (p:=⟨w.heap.size,0,none⟩) (.inl rfl) _).setCell (p:=⟨w.heap.size,1,none⟩) (.inl rfl) _).setCell (p:=⟨w.heap.size,2,none⟩) (.inl rfl) _).setCell (p:=⟨w.heap.size,3,none⟩) (.inl rfl) _).setCell (p:=⟨w.heap.size,4,none⟩) (.inl rfl) _
 refine bodyPost_ret (Gg _ w.heap.size _ 0 qty 0 0 0 0 rfl rfl ?_) rfl ⟨rfl,?_,?_,?_⟩
 ·exact ((((hr4.set 0 _).set 1 _).set 2 _).set 3 _).set 4 _
 ·have mA:=ae Ve
  refine mA.kept kB (fun e=>?_) (fun x hx e=>?_) (fun y hy x hx e=>?_)
  ·have:=((ae HR).book i hi).blk.lt;omega
  ·obtain⟨ix',ho'⟩:=mA.aQ x hx
   subst e
   exact ai.ne ho' hr4 (by decide) rfl
  ·subst e
   exact (mA.book.side y hy).ne hr4 (by decide) hx
 ·obtain⟨aY,a1,a2⟩:=ae DT
  exact⟨aY,a1.kept kB (by omega) (fun x hx e=>a1.log.ne hr4 (by decide) (by decide) (by decide) (by decide) (by decide) (e▸hx)),a2⟩
 ·exact (ae zh).from (kB.mono (fun x h=>.inr (by omega)))
end Go.Proofs.YtigaphnafnpfnaaGreatDoor
