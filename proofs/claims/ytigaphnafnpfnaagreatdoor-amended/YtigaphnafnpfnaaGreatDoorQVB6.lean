import Derived.Test.YtigaphnafnpfnaaGreatDoorQVX4
set_option linter.unusedVariables false
set_option linter.unusedSimpArgs false
set_option maxHeartbeats 8000000
set_option maxRecDepth 100000
namespace Go.Proofs.YtigaphnafnpfnaaGreatDoor
open Go.RowKit
attribute [local go_sem ↓] Go.wp_at_zero Go.wp_at_succ
def dh(o:Ord):Bool:=decide (0<o.opn) && di o.kind
def aA(oc:Nat)(st:MS):Nat→Ord :=
 if dh (st.om oc) then upd st.om oc { st.om oc with place:=wrap64 (st.B.places+1) } else upd st.om oc (fA (st.om oc))
def dS(oc t g cap':Nat)(st:MS):Bk :=
 if dh (st.om oc) then st.B.rest (aA oc st) t oc g cap' else st.B
def bu(f r c a n:Int):Value:=.agg #[.int .i64 f,.int .i64 r,.int .i64 c,.int .i64 a,.int .i64 n]
def rep(o o':Ord)(tr Zr:Int):Value :=
 if tr<Zr then bu (wrap64 (o'.filled-o.filled)) o'.opn (wrap64 (o'.aG-o.aG)) (wrap64 (tr+1)) (wrap64 (Zr-tr))
 else bu (wrap64 (o'.filled-o.filled)) o'.opn (wrap64 (o'.aG-o.aG)) 0 0
def aB:Array Value:=#[.int .i64 0,.int .i64 0,.int .i64 0,.int .i64 0,.int .i64 0]
theorem Mk.Bd{w:World}{bb:Nat}{B:Bk}{om:Nat→Ord}{L:Nat→Prop}(m:Mk w bb B om L){s:Nat}(hs:s<2){b:Nat}(h:bQ B s b):b<w.heap.size:=by
 rcases h with h | ⟨k,hk,rfl⟩
 ·exact (m.book.side s hs).lt h
 ·exact ((m.book.side s hs).aQ hk).lt
theorem wrapEq(x:Int):IntKind.i64.wrap x=wrap64 x:=by rw[IntKind.wrap_i64];unfold wrap64;omega
theorem AZ(tmps:Array Value)(H:Nat)(w:World)(a b c d e:Int)(ht:tmps.getD 6 undef=.pointer (some ⟨H,0,none⟩))(hb:ai w H #[.int .i64 a,.int .i64 b,.int .i64 c,.int .i64 d,.int .i64 e] 87) :
 (results Tryz.f70 tmps).run Tryz.prog w=.ok (bu a b c d e) w:=by
 have c0:w.cell? ⟨H,0,none⟩=some (.int .i64 a):=hb.cell 0
 have c1:w.cell? ⟨H,1,none⟩=some (.int .i64 b):=hb.cell 1
 have c2:w.cell? ⟨H,2,none⟩=some (.int .i64 c):=hb.cell 2
 have c3:w.cell? ⟨H,3,none⟩=some (.int .i64 d):=hb.cell 3
 have c4:w.cell? ⟨H,4,none⟩=some (.int .i64 e):=hb.cell 4
 simp only[Array.getD_eq_getD_getElem?]at ht
 simp[results,Tryz.results70,go_sem,ht,c0,c1,c2,c3,c4,bu]
theorem jG(oc s:Nat):∀(f:Nat) (st:MS),(∀t,t≠s→(aZ oc s f st).B.n t=st.B.n t∧(aZ oc s f st).B.h t=st.B.h t)∧(aZ oc s f st).B.sl=st.B.sl∧(aZ oc s f st).B.cap=st.B.cap∧(aZ oc s f st).B.sym=st.B.sym∧(aZ oc s f st).B.places=st.B.places:=by
 intro f
 induction f with
 | zero=>intro st;exact⟨fun _ _=>⟨rfl,rfl⟩,rfl,rfl,rfl,rfl⟩
 | succ f ih =>
   intro st
   rw[aZ]
   split
   ·exact⟨fun _ _=>⟨rfl,rfl⟩,rfl,rfl,rfl,rfl⟩
   ·obtain⟨h1,h2,h3,h4,h5⟩:=ih (bV oc s st)
    have e:(∀t,t≠s→(bV oc s st).B.n t=st.B.n t∧(bV oc s st).B.h t=st.B.h t)∧(bV oc s st).B.sl=st.B.sl∧(bV oc s st).B.cap=st.B.cap∧(bV oc s st).B.sym=st.B.sym∧(bV oc s st).B.places=st.B.places:=by
     unfold bV
     split
     ·exact⟨fun t ht=>⟨af _ _ ht,af _ _ ht⟩,rfl,rfl,rfl,rfl⟩
     ·simp only[dM]
      split
      ·exact⟨fun t ht=>⟨af _ _ ht,af _ _ ht⟩,rfl,rfl,rfl,rfl⟩
      ·exact⟨fun _ _=>⟨rfl,rfl⟩,rfl,rfl,rfl,rfl⟩
    exact⟨fun t ht=>⟨(h1 t ht).1.trans (e.1 t ht).1,(h1 t ht).2.trans (e.1 t ht).2⟩,h2.trans e.2.1,h3.trans e.2.2.1,h4.trans e.2.2.2.1,h5.trans e.2.2.2.2⟩
theorem Mk.rest{w w':World}{bb ob s g cap':Nat}{B:Bk}{om df:Nat→Ord}{L:Nat→Prop}(m:Mk w bb B om L)(hs:s<2)(hL:L ob)(oL:∀b,b≠ob→df b=om b)(h1:aX w' bb (B.rest df s ob g cap') df)(h3:ag (fun b=>b=bb∨b=ob∨bQ B s b) w w'):Mk w' bb (B.rest df s ob g cap') df L:=by
 have hmem:∀b,Mem (B.n s) (B.h s) b∨b=ob→∃ix,bC w' b (df b) ix:=by
  intro b hb
  obtain⟨k,hk,e⟩:=(mem_push (lt:=dW df) (B.h s) ob b).2 hb
  have:=(h1.side s hs).aQ (i:=k) (by simp only[Bk.rest,upd_same];exact hk)
  simp only[Bk.rest,upd_same]at this
  rw[←e]at this
  exact⟨k,this⟩
 refine⟨h1,fun b hb=>?_,fun t ht k hk=>?_⟩
 ·by_cases e:b=ob
  ·exact hmem b (.inr e)
  ·by_cases hm:Mem (B.n s) (B.h s) b
   ·exact hmem b (.inl hm)
   ·obtain⟨ix,ho⟩:=m.aQ b hb
    rw[oL b e]
    refine⟨ix,h3.blk ho ?_⟩
    rintro (rfl | h | h | h)
    ·exact ai.ne ho m.book.blk (by decide) rfl
    ·exact e h
    ·exact (m.book.side s hs).ne ho (by decide) h
    ·exact hm h
 ·by_cases e:t=s
  ·subst e
   simp only[Bk.rest,upd_same]at hk ⊢
   rcases (mem_push (lt:=dW df) (B.h t) ob _).1 ⟨k,hk,rfl⟩ with⟨k',hk',e'⟩ | e'
   ·rw[e'];exact m.mem t ht k' hk'
   ·rw[e'];exact hL
  ·simp only[Bk.rest,af _ _ e]at hk ⊢
   exact m.mem t ht k hk
def l9(oc:Nat)(st:MS):Lg:=st.lg.aS [if dh (st.om oc) then .oD oc (st.om oc).place else .now oc (st.om oc)]
theorem xH(oc:Nat)(st:MS):(l9 oc st).tr=st.lg.tr:=rfl
theorem OW(oc s:Nat)(st:MS):(bV oc s st).lg.na=st.lg.na∧(bV oc s st).lg.nt.length≤st.lg.nt.length+4:=by
 unfold bV
 split
 ·exact⟨rfl,by simp only[Lg.aS,List.length_append,List.length_cons,List.length_nil];omega⟩
 ·have g4:=uY st.lg st.om oc (st.B.h s 0)
  exact⟨by simp only[Lg.kM,Lg.told,Lg.kept,Lg.aS,uX],by simp only[Lg.kM,Lg.told,Lg.kept,Lg.aS,List.length_append,List.length_cons,List.length_nil];omega⟩
theorem uH(oc s:Nat):∀(f:Nat) (st:MS),(aZ oc s f st).lg.na=st.lg.na∧(aZ oc s f st).lg.nt.length≤st.lg.nt.length+4 * f
 | 0,st=>⟨rfl,by simp[aZ]⟩
 | f+1,st=>by
   rw[aZ]
   split
   ·exact⟨rfl,by omega⟩
   ·have h1:=uH oc s f (bV oc s st)
    have h2:=OW oc s st
    exact⟨h1.1.trans h2.1,by omega⟩
def BA(w:World)(bb b:Nat)(p:Int)(lo:Nat)(fn:Fn)(cp:Array Value):Prop:=fn=.func 153∧∃H,lo≤H∧cp=#[qK H,qK (H+1),qK (H+2)]∧xe w H bb b p
theorem Dv(bb ob s:Nat)(B:Bk)(om:Nat→Ord)(ix:Int)(w:World)(hb:aX w bb B om)(ho:bC w ob (om ob) ix)(hs:s<2)(hside:(om ob).side=(s:Int))(hnew:∀t,t<2→∀k,k<B.n t→B.h t k≠ob)(hn:B.n s<1000) :
 Calls Tryz.prog 122 #[.pointer (some ⟨bb,0,none⟩),.pointer (some ⟨ob,0,none⟩)] w fun e w'=>∃fn cp,e=.returned (.func fn #[] cp)∧BA w' bb ob (om ob).place w.heap.size fn cp ∧
  ∃g cap',aX w' bb (B.rest (upd om ob { om ob with place:=wrap64 (B.places+1) }) s ob g cap') (upd om ob { om ob with place:=wrap64 (B.places+1) })∧ag (fun b=>b=bb∨b=ob∨bQ B s b) w w'∧(iP (B.sl s)=some g∨w.heap.size≤g):=by
 refine (Pz bb ob s B om ix w hb ho hs hside hnew hn).mono ?_
 rintro e w' ⟨rfl,h0,h1⟩
 exact⟨_,_,rfl,⟨rfl,_,Nat.le_refl _,rfl,h0⟩,h1⟩
def lh(bv bb oc s t bm bo:Nat)(st0:MS)(lm:Lm)(L:Nat→Prop)(w:World)(v:Value)(w':World):Prop :=
 v=rep (st0.om oc) (aA oc (mF oc s st0) oc) st0.tr (mF oc s st0).tr ∧
   ∃g cap' aY,Mk w' bb (dS oc t g cap' (mF oc s st0)) (aA oc (mF oc s st0)) L∧aK w' bv bm bo (l9 oc (mF oc s st0)) aY∧(∀b,aY.F b→lm.F b∨w.heap.size≤b) ∧
    ag (fun b=>b=bv∨lm.F b∨b=bb∨b=oc∨bQ st0.B s b∨bQ st0.B t b) w w'∧(iP (st0.B.sl t)=some g∨w.heap.size≤g)
theorem mW.uZ{w:World}{G:Lg}{m:Lm}(h:WE w G m){n:Nat}(hn:G.tr.length=n):∃a c,m.tv=.slice a n c:=by
 rcases h.dE.2 with⟨h,h0⟩ | ⟨g,cap,cs,h,_⟩
 ·exact⟨none,0,by rw[h,←hn,h0]⟩
 ·exact⟨_,cap,by rw[h,hn]⟩
theorem Ew(bv bb oc s t bm bo:Nat)(st0:MS)(lm:Lm)(L:Nat→Prop)(w:World)(hv:aK w bv bm bo st0.lg lm)(m:Mk w bb st0.B st0.om L)(hs:s<2)(ht:t=1-s)(hc:L oc)(iv:Inv oc s st0)
 (hnew:∀t,t<2→∀k,k<st0.B.n t→st0.B.h t k≠oc) (hn:st0.B.n t<1000) (M:Nat) (hM:M<1000000000) (hl1:st0.lg.tp.length+mu oc s st0≤M) (hl2:st0.lg.tr.length+mu oc s st0≤M) (hna:0<st0.lg.na) (fF:st0.lg.na≤3000000) (hl3:st0.lg.nt.length+4 * mu oc s st0+1≤M) :
 Calls Tryz.prog 70 #[.pointer (some ⟨bv,0,none⟩),.pointer (some ⟨bb,0,none⟩),.pointer (some ⟨oc,0,none⟩)] w fun e w' =>
  ∃v,e=.returned v∧lh bv bb oc s t bm bo st0 lm L w v w':=by
 obtain⟨ixc,hoc⟩:=m.aQ oc hc
 have c0:w.cell? ⟨oc,0,none⟩=some (.int .i64 (st0.om oc).id):=hoc.cell 0
 have c1:w.cell? ⟨oc,1,none⟩=some (.int .i64 (st0.om oc).owner):=hoc.cell 1
 have c2:w.cell? ⟨oc,2,none⟩=some (.string (st0.om oc).sym):=hoc.cell 2
 have c3:w.cell? ⟨oc,3,none⟩=some (.int .i64 (st0.om oc).side):=hoc.cell 3
 have c4:w.cell? ⟨oc,4,none⟩=some (.int .i64 (st0.om oc).kind):=hoc.cell 4
 have c5:w.cell? ⟨oc,5,none⟩=some (.int .i64 (st0.om oc).price):=hoc.cell 5
 have c6:w.cell? ⟨oc,6,none⟩=some (.int .i64 (st0.om oc).qty):=hoc.cell 6
 have c7:w.cell? ⟨oc,7,none⟩=some (.int .i64 (st0.om oc).entered):=hoc.cell 7
 have c8:w.cell? ⟨oc,8,none⟩=some (.int .i64 (st0.om oc).opn):=hoc.cell 8
 have c9:w.cell? ⟨oc,9,none⟩=some (.int .i64 (st0.om oc).filled):=hoc.cell 9
 have c10:w.cell? ⟨oc,10,none⟩=some (.int .i64 (st0.om oc).aG):=hoc.cell 10
 have c11:w.cell? ⟨oc,11,none⟩=some (.int .i64 (st0.om oc).exp):=hoc.cell 11
 obtain⟨cA,hn0⟩:∃cA,st0.lg.tr.length=cA:=⟨_,rfl⟩
 obtain⟨pa0,pc0,XO⟩:=hv.log.uZ hn0
 have v2:w.cell? ⟨bv,2,none⟩=some (.slice pa0 cA pc0):=by rw[←XO];exact hv.cZ.cell 2
 have ZY:=hide hn0
 have lo:=hoc.lt
 have lv:=hv.cZ.lt
 have lb:=m.book.blk.lt
 obtain⟨w1,hw1⟩:∃w1,w1=((w.alloc (.cells #[.int .i64 0,.int .i64 0,.int .i64 0,.int .i64 0,.int .i64 0] 87)).alloc (.cells #[.int .i64 (st0.om oc).id,.int .i64 (st0.om oc).owner,.string (st0.om oc).sym,.int .i64 (st0.om oc).side,.int .i64 (st0.om oc).kind,.int .i64 (st0.om oc).price,.int .i64 (st0.om oc).qty,.int .i64 (st0.om oc).entered,.int .i64 (st0.om oc).opn,.int .i64 (st0.om oc).filled,.int .i64 (st0.om oc).aG,.int .i64 (st0.om oc).exp] 54)).drew:=⟨_,rfl⟩
 have HW:=hide hw1
 have k1:ag ak w w1:=by rw[hw1];exact (((ag.refl ak w).alloc _).alloc _).drew
 have hr1:ai w1 w.heap.size aB 87:=by rw[hw1];exact ((ai.new w _ _).alloc _).drew
 have hs1:ai w1 (w.heap.size+1) (nI (st0.om oc)) 54:=by
  rw[hw1]
  have:=(ai.new (w.alloc (.cells #[.int .i64 0,.int .i64 0,.int .i64 0,.int .i64 0,.int .i64 0] 87)) (nI (st0.om oc)) 54).drew
  have e:(w.alloc (.cells #[.int .i64 0,.int .i64 0,.int .i64 0,.int .i64 0,.int .i64 0] 87)).heap.size=w.heap.size+1:=by simp
  rw[e]at this
  exact this
 have m1:=m.kept k1 (fun x=>x) (fun _ _ x=>x) (fun _ _ _ _ x=>x)
 have hv1:=hv.aj k1
 have Oo:=Ls bv bb oc s bm bo st0 lm L w1 hv1 m1 hs hc iv M hM hl1 hl2 hna fF (by omega)
 have XD:=uH oc s (mu oc s st0) st0
 have Nh:Hid (0<(mF oc s st0).lg.na∧(mF oc s st0).lg.na≤3000000∧(mF oc s st0).lg.nt.length+1<1000000000):=by
  show _∧_
  unfold mF
  rw[XD.1]
  exact⟨hna,fF,by omega⟩
 have Ph:∀b,w.heap.size≤b→¬(b=bv∨lm.F b∨b=bb∨b=oc∨bQ st0.B s b):=by
  rintro b hb (h | h | h | h | h)
  ·omega
  ·have:=hv.log.lt h;omega
  ·omega
  ·omega
  ·have:=m.Bd hs h;omega
 have HX:=hide Oo
 have HT:=hide ht
 clear Oo hw1 ht hn0 XO hM hl1 hl2 hl3 hna fF XD
 go_enter Tryz.func70,Tryz.ntmps70
 go_wp2
 go_region
 rw[←ae HW]
 clear c0 c1 c2 c3 c4 c5 c6 c7 c8 c9 c10 c11 v2
 go_wp2_with fail
 refine (ae HX).mono ?_
 rintro e w2 ⟨rfl,m2,⟨Vu,hv2,hf2⟩,XV,k2⟩
 have hr2:=k2.blk hr1 (Ph _ (Nat.le_refl _))
 have hs2:=k2.blk hs1 (Ph _ (by omega))
 obtain⟨Zc,ho2⟩:=m2.aQ oc hc
 have o8:w2.cell? ⟨oc,8,none⟩=some (.int .i64 ((mF oc s st0).om oc).opn):=ho2.cell 8
 by_cases hp:0<((mF oc s st0).om oc).opn
 ·cases hr:di ((mF oc s st0).om oc).kind
  ·have Ko:Hid (dh ((mF oc s st0).om oc)=false):=by show _=_;unfold dh;rw[hr];simp
   go_wp2_with fail
   refine (nG oc _ Zc w2 ho2).mono ?_
   rintro e w2' ⟨rfl,rfl⟩
   rw[hr]
   clear hr
   go_wp2_with fail
   refine (jU bb oc _ _ L _ m2 hc).mono ?_
   rintro e wq ⟨N9,NM,rfl,-,mq,kq⟩
   have oL:upd (mF oc s st0).om oc { (mF oc s st0).om oc with opn:=0,aG:=wrap64 (((mF oc s st0).om oc).aG+((mF oc s st0).om oc).opn) }=aA oc (mF oc s st0):=by unfold aA;rw[ae Ko];rfl
   rw[oL]at mq
   have hB:dS oc t 0 0 (mF oc s st0)=(mF oc s st0).B:=by unfold dS;rw[ae Ko];rfl
   rw[←hB]at mq
   have hgq:∃g cap',Mk wq bb (dS oc t g cap' (mF oc s st0)) (aA oc (mF oc s st0)) L∧(iP (st0.B.sl t)=some g∨w.heap.size≤g):=⟨w.heap.size,0,by have e:dS oc t w.heap.size 0 (mF oc s st0)=dS oc t 0 0 (mF oc s st0):=by { unfold dS;rw[ae Ko];rfl };rw[e];exact mq,.inr (Nat.le_refl _)⟩
   have Am:ag (fun b=>b=bv∨lm.F b∨b=bb∨b=oc∨bQ st0.B s b∨bQ st0.B t b) w wq:=(k1.aC.trans (k2.mono (fun b h=>by rcases h with h | h | h | h | h;exact .inl h;exact .inr (.inl h);exact .inr (.inr (.inl h));exact .inr (.inr (.inr (.inl h)));exact .inr (.inr (.inr (.inr (.inl h))))))).trans (kq.mono (fun b h=>.inr (.inr (.inr (.inl h)))))
   have hvq:=hv2.iI kq (fun b h=>by subst h;exact m2.typ (.inr (.inl hc)))
   have hrq:=kq.blk hr2 (fun h=>by omega)
   have Ox:=kq.blk hs2 (fun h=>by omega)
   have oH:=hide (yA bv bm bo _ Vu (.now oc ((mF oc s st0).om oc)) N9 NM wq hvq (ae Nh).1 (ae Nh).2.1 (ae Nh).2.2)
   have RZ:=hide hvq
   have RX:=hide hgq
   have P7:=hide Am
   clear mq kq hgq hvq Am
   go_wp2_with fail
   refine (ae oH).mono ?_
   rintro e w3 ⟨rfl,lI,hv3,hf3,k3⟩
   have hvq:=ae RZ
   have Am:=ae P7
   have hG:l9 oc (mF oc s st0)=(mF oc s st0).lg.aS [.now oc ((mF oc s st0).om oc)]:=by unfold l9;rw[ae Ko];rfl
   rw[←hG]at hv3
   obtain⟨gq,NI,mq,hgq⟩:=ae RX
   have m3:=mq.gK hvq (k3.mono (fun b h=>.inr h))
   have hgc:∃g cap',Mk w3 bb (dS oc t g cap' (mF oc s st0)) (aA oc (mF oc s st0)) L∧(iP (st0.B.sl t)=some g∨w.heap.size≤g):=⟨gq,NI,m3,hgq⟩
   have xX:∀b,Vu.F b→lm.F b∨w.heap.size≤b:=fun b hb=>(hf2 b hb).imp_right (fun h=>Nat.le_trans k1.size h)
   have qI:∀b,lI.F b→lm.F b∨w.heap.size≤b:=fun b hb=>by
    rcases hf3 b hb with h | h
    ·exact xX b h
    ·exact .inr (Nat.le_trans Am.size h)
   have kc:ag (fun b=>b=bv∨lm.F b∨b=bb∨b=oc∨bQ st0.B s b∨bQ st0.B t b) w w3:=Am.from (k3.mono (fun b h=>(xX b h).imp_left (fun h=>.inr (.inl h))))
   have hr3:=k3.blk hrq (hvq.log.ne hrq (by decide) (by decide) (by decide) (by decide) (by decide))
   have hs3:=k3.blk Ox (hvq.log.ne Ox (by decide) (by decide) (by decide) (by decide) (by decide))
   clear hvq mq Am hrq Ox hf3 oH hG RZ RX P7 hgq xX
   clear oL hB
   obtain⟨ix3,ho3⟩:=m3.aQ oc hc
   obtain⟨F1,R1,C1,hF1,hR1,Oc⟩:∃F1 R1 C1,F1=(aA oc (mF oc s st0) oc).filled∧R1=(aA oc (mF oc s st0) oc).opn∧C1=(aA oc (mF oc s st0) oc).aG:=⟨_,_,_,rfl,rfl,rfl⟩
   obtain⟨F0,C0,cB,Oe,hC0,hT1⟩:∃F0 C0 cB,F0=(st0.om oc).filled∧C0=(st0.om oc).aG∧(mF oc s st0).lg.tr.length=cB:=⟨_,_,_,rfl,rfl,rfl⟩
   have a8:w3.cell? ⟨oc,8,none⟩=some (.int .i64 R1):=by rw[hR1];exact ho3.cell 8
   have a9:w3.cell? ⟨oc,9,none⟩=some (.int .i64 F1):=by rw[hF1];exact ho3.cell 9
   have a10:w3.cell? ⟨oc,10,none⟩=some (.int .i64 C1):=by rw[Oc];exact ho3.cell 10
   have b9:w3.cell? ⟨w.heap.size+1,9,none⟩=some (.int .i64 F0):=by rw[Oe];exact hs3.cell 9
   have b10:w3.cell? ⟨w.heap.size+1,10,none⟩=some (.int .i64 C0):=by rw[hC0];exact hs3.cell 10
   have l1:w.heap.size+1<w3.heap.size:=hs3.lt
   have l2:oc<w3.heap.size:=ho3.lt
   have fin:∀w' v,v=rep (st0.om oc) (aA oc (mF oc s st0) oc) st0.tr (mF oc s st0).tr→ag (fun b=>b=w.heap.size) w3 w'→lh bv bb oc s t bm bo st0 lm L w v w':=by
    intro w' v hv' kw
    obtain⟨g,cap',hm,hg⟩:=hgc
    refine⟨hv',g,cap',lI,hm.kept kw (by omega) (fun b hb e=>?_) (fun x hx b hb e=>?_),hv3.kept kw (by omega) (fun b hb e=>hv3.log.ne hr3 (by decide) (by decide) (by decide) (by decide) (by decide) (e▸hb)),qI,?_,hg⟩
    ·obtain⟨ix,ho⟩:=hm.aQ b hb
     subst e
     exact ai.ne ho hr3 (by decide) rfl
    ·subst e
     exact (hm.book.side x hx).ne hr3 (by decide) hb
    ·exact kc.from (kw.mono (fun b h=>.inr (by omega)))
   have HFin:=hide fin
   have Yd:=World.new_ne w3 _ a8
   have Ye:=World.new_ne w3 _ a9
   have Yf:=World.new_ne w3 _ a10
   have Yg:=World.new_ne w3 _ b9
   have Yh:=World.new_ne w3 _ b10
   have Ea:Hid (rep (st0.om oc) (aA oc (mF oc s st0) oc) st0.tr (mF oc s st0).tr=if (cA:Int)<(cB:Int) then bu (wrap64 (F1-F0)) R1 (wrap64 (C1-C0)) (wrap64 ((cA:Int)+1)) (wrap64 ((cB:Int)-(cA:Int))) else bu (wrap64 (F1-F0)) R1 (wrap64 (C1-C0)) 0 0):=by
    show _=_
    unfold rep MS.tr
    rw[hF1,hR1,Oc,Oe,hC0,hT1,ae ZY]
   obtain⟨Yl,Ym,ET⟩:=hv3.log.uZ (n:=cB) (by rw[xH];exact hT1)
   have v2:w3.cell? ⟨bv,2,none⟩=some (.slice Yl cB Ym):=by rw[←ET];exact hv3.cZ.cell 2
   clear ET
   have l3:bv<w3.heap.size:=hv3.cZ.lt
   have HR3:=hide hr3
   obtain⟨w4,hw4⟩:∃w4,w4=(w3.alloc (.cells #[.int .i64 (wrap64 (F1-F0)),.int .i64 R1,.int .i64 (wrap64 (C1-C0)),.int .i64 0,.int .i64 0] 87)).drew:=⟨_,rfl⟩
   have hn4:ai w4 w3.heap.size #[.int .i64 (wrap64 (F1-F0)),.int .i64 R1,.int .i64 (wrap64 (C1-C0)),.int .i64 0,.int .i64 0] 87:=by rw[hw4];exact (ai.new w3 _ _).drew
   have k4:ag ak w3 w4:=by rw[hw4];exact ((ag.refl ak w3).alloc _).drew
   have Jr:=hide hw4
   have vg:=hide hn4
   clear hw4
   have zh:=hide k4
   have HR4:=hide (k4.blk hr3 (fun x=>x))
   have v4:=k4.cell v2 (fun x=>x)
   have Wy:=hide v4
   clear hn4 v4
   clear fin hF1 hR1 Oc Oe hC0 hT1 m3 hv3 hf2 qI hs3 ho3 hs2 hr2 m2 hv2 XV ho2 k2 k1 hr1 hs1 m1 hv1 HW HX Ph hnew iv hgc kc hr3 m hv hn hoc k3 k4
   go_wp2
   go_region_held3 (fun w'=>w'.cell? ⟨oc,8,none⟩=some (.int .i64 R1)∧w'.cell? ⟨oc,9,none⟩=some (.int .i64 F1)∧w'.cell? ⟨oc,10,none⟩=some (.int .i64 C1)∧w'.cell? ⟨w.heap.size+1,9,none⟩=some (.int .i64 F0)∧w'.cell? ⟨w.heap.size+1,10,none⟩=some (.int .i64 C0)) (go_keep) (fail)
   rw[wrapEq (F1-F0),wrapEq (C1-C0),←ae Jr]
   rename_i hS4
   clear hS4 Yd Ye Yf Yg Yh
   clear a8 a9 a10 b9 b10 v2
   have v4:=ae Wy
   have n0:w4.cell? ⟨w3.heap.size,0,none⟩=some (.int .i64 (wrap64 (F1-F0))):=(ae vg).cell 0
   have n1:w4.cell? ⟨w3.heap.size,1,none⟩=some (.int .i64 R1):=(ae vg).cell 1
   have n2:w4.cell? ⟨w3.heap.size,2,none⟩=some (.int .i64 (wrap64 (C1-C0))):=(ae vg).cell 2
   have n3:w4.cell? ⟨w3.heap.size,3,none⟩=some (.int .i64 0):=(ae vg).cell 3
   have n4:w4.cell? ⟨w3.heap.size,4,none⟩=some (.int .i64 0):=(ae vg).cell 4
   have f3:=(ae vg).frozen 3
   have f4:=(ae vg).frozen 4
   have hne:w3.heap.size≠w.heap.size:=by omega
   have hvn:bv≠w3.heap.size:=by omega
   by_cases htr:(cA:Int)<(cB:Int)
   ·obtain⟨w5,hw5⟩:∃w5,w5=((w4.setCell ⟨w3.heap.size,3,none⟩ (.int .i64 (wrap64 ((cA:Int)+1)))).setCell ⟨w3.heap.size,4,none⟩ (.int .i64 (wrap64 ((cB:Int)-(cA:Int))))).drew:=⟨_,rfl⟩
    have EO:ai w5 w3.heap.size #[.int .i64 (wrap64 (F1-F0)),.int .i64 R1,.int .i64 (wrap64 (C1-C0)),.int .i64 (wrap64 ((cA:Int)+1)),.int .i64 (wrap64 ((cB:Int)-(cA:Int)))] 87:=by rw[hw5];exact (((ae vg).set 3 _).set 4 _).drew
    have k5:ag (fun b=>b=w3.heap.size) w4 w5:=by rw[hw5];exact (((ag.refl (fun b=>b=w3.heap.size) w4).setCell (p:=⟨w3.heap.size,3,none⟩) (.inl rfl) _).setCell (p:=⟨w3.heap.size,4,none⟩) (.inl rfl) _).drew
    have ML:=hide hw5
    have zl:=hide EO
    have mQ:=hide (k5.blk (ae HR4) (fun e=>hne e.symm))
    have J4:=hide k5
    have HH:=hide htr
    clear hw5 EO k5
    go_wp2
    go_region
    rw[←ae ML]
    clear v4 n0 n1 n2 n3 n4 f3 f4
    have n0:w5.cell? ⟨w3.heap.size,0,none⟩=some (.int .i64 (wrap64 (F1-F0))):=(ae zl).cell 0
    have n1:w5.cell? ⟨w3.heap.size,1,none⟩=some (.int .i64 R1):=(ae zl).cell 1
    have n2:w5.cell? ⟨w3.heap.size,2,none⟩=some (.int .i64 (wrap64 (C1-C0))):=(ae zl).cell 2
    have n3:w5.cell? ⟨w3.heap.size,3,none⟩=some (.int .i64 (wrap64 ((cA:Int)+1))):=(ae zl).cell 3
    have n4:w5.cell? ⟨w3.heap.size,4,none⟩=some (.int .i64 (wrap64 ((cB:Int)-(cA:Int)))):=(ae zl).cell 4
    have r0:w5.cell? ⟨w.heap.size,0,none⟩=some (.int .i64 0):=(ae mQ).cell 0
    have r1:w5.cell? ⟨w.heap.size,1,none⟩=some (.int .i64 0):=(ae mQ).cell 1
    have r2:w5.cell? ⟨w.heap.size,2,none⟩=some (.int .i64 0):=(ae mQ).cell 2
    have r3:w5.cell? ⟨w.heap.size,3,none⟩=some (.int .i64 0):=(ae mQ).cell 3
    have r4:w5.cell? ⟨w.heap.size,4,none⟩=some (.int .i64 0):=(ae mQ).cell 4
    have q0:=(ae mQ).frozen 0
    have q1:=(ae mQ).frozen 1
    have q2:=(ae mQ).frozen 2
    have q3:=(ae mQ).frozen 3
    have q4:=(ae mQ).frozen 4
    clear htr
    go_wp2
    refine bodyPost_ret (v:=bu (wrap64 (F1-F0)) R1 (wrap64 (C1-C0)) (wrap64 ((cA:Int)+1)) (wrap64 ((cB:Int)-(cA:Int)))) (AZ _ w.heap.size _ _ _ _ _ _ rfl ?_) rfl ⟨_,rfl,ae HFin _ _ ?_ ?_⟩
    ·exact (((((ae mQ).set 0 _).set 1 _).set 2 _).set 3 _).set 4 _
    ·rw[ae Ea,if_pos (ae HH)]
    ·have kk:ag (fun b=>b=w.heap.size) w3 w5:=(ae zh).aC.from ((ae J4).mono (fun b h=>.inr (by omega)))
     exact (((((kk).setCell (p:=⟨w.heap.size,0,none⟩) (.inl rfl) _).setCell (p:=⟨w.heap.size,1,none⟩) (.inl rfl) _).setCell (p:=⟨w.heap.size,2,none⟩) (.inl rfl) _).setCell (p:=⟨w.heap.size,3,none⟩) (.inl rfl) _).setCell (p:=⟨w.heap.size,4,none⟩) (.inl rfl) _
   ·have HH:=hide htr
    have r0:w4.cell? ⟨w.heap.size,0,none⟩=some (.int .i64 0):=(ae HR4).cell 0
    have r1:w4.cell? ⟨w.heap.size,1,none⟩=some (.int .i64 0):=(ae HR4).cell 1
    have r2:w4.cell? ⟨w.heap.size,2,none⟩=some (.int .i64 0):=(ae HR4).cell 2
    have r3:w4.cell? ⟨w.heap.size,3,none⟩=some (.int .i64 0):=(ae HR4).cell 3
    have r4:w4.cell? ⟨w.heap.size,4,none⟩=some (.int .i64 0):=(ae HR4).cell 4
    have q0:=(ae HR4).frozen 0
    have q1:=(ae HR4).frozen 1
    have q2:=(ae HR4).frozen 2
    have q3:=(ae HR4).frozen 3
    have q4:=(ae HR4).frozen 4
    clear f3 f4
    go_wp2
    refine bodyPost_ret (v:=bu (wrap64 (F1-F0)) R1 (wrap64 (C1-C0)) 0 0) (AZ _ w.heap.size _ _ _ _ _ _ rfl ?_) rfl ⟨_,rfl,ae HFin _ _ ?_ ?_⟩
    ·exact (((((ae HR4).set 0 _).set 1 _).set 2 _).set 3 _).set 4 _
    ·have:=ae HH;rw[ae Ea,if_neg (by omega)]
    ·have kk:ag (fun b=>b=w.heap.size) w3 w4:=(ae zh).aC
     exact (((((kk).setCell (p:=⟨w.heap.size,0,none⟩) (.inl rfl) _).setCell (p:=⟨w.heap.size,1,none⟩) (.inl rfl) _).setCell (p:=⟨w.heap.size,2,none⟩) (.inl rfl) _).setCell (p:=⟨w.heap.size,3,none⟩) (.inl rfl) _).setCell (p:=⟨w.heap.size,4,none⟩) (.inl rfl) _
  ·have Ko:Hid (dh ((mF oc s st0).om oc)=true):=by show _=_;unfold dh;rw[hr];simp[hp]
   have htt:=ae HT
   have hF2:=jG oc s (mu oc s st0) st0
   change (∀t,t≠s→(mF oc s st0).B.n t=st0.B.n t∧(mF oc s st0).B.h t=st0.B.h t)∧(mF oc s st0).B.sl=st0.B.sl∧(mF oc s st0).B.cap=st0.B.cap∧(mF oc s st0).B.sym=st0.B.sym∧(mF oc s st0).B.places=st0.B.places at hF2
   have QM:(mF oc s st0).B.n t=st0.B.n t:=(hF2.1 t (by omega)).1
   have EP:∀x,x<2→∀k,k<(mF oc s st0).B.n x→(mF oc s st0).B.h x k≠oc:=fun x hx k hk=>by
    by_cases e:x=s
    ·subst e;exact (XV.mem k hk).2.2.2
    ·rw[(hF2.1 x e).1]at hk
     rw[(hF2.1 x e).2]
     exact hnew x hx k hk
   have YU:=hide QM
   have HF2:=hide hF2
   have HE2:=hide EP
   clear QM hF2 EP htt
   go_wp2_with fail
   refine (nG oc _ Zc w2 ho2).mono ?_
   rintro e w2' ⟨rfl,rfl⟩
   rw[hr]
   clear hr
   go_wp2_with fail
   have htt:=ae HT
   have QM:=ae YU
   have hF2:=ae HF2
   have EP:=ae HE2
   refine (Dv bb oc t (mF oc s st0).B (mF oc s st0).om Zc _ m2.book ho2 (by omega) (by rw[XV.side];omega) EP (by rw[QM];exact hn)).mono ?_
   rintro e wq ⟨N9,NM,rfl,-,g,cap',hbq,kq,Xw⟩
   have oL:upd (mF oc s st0).om oc { (mF oc s st0).om oc with place:=wrap64 ((mF oc s st0).B.places+1) }=aA oc (mF oc s st0):=by unfold aA;rw[ae Ko];rfl
   rw[oL]at hbq
   have mq:=m2.rest (df:=aA oc (mF oc s st0)) (by omega) hc (fun b hb=>by rw[←oL,af _ _ hb]) hbq kq
   have hB:(mF oc s st0).B.rest (aA oc (mF oc s st0)) t oc g cap'=dS oc t g cap' (mF oc s st0):=by unfold dS;rw[ae Ko];rfl
   rw[hB]at mq
   have hgq:∃g cap',Mk wq bb (dS oc t g cap' (mF oc s st0)) (aA oc (mF oc s st0)) L∧(iP (st0.B.sl t)=some g∨w.heap.size≤g):=⟨g,cap',mq,by
    rcases Xw with h | h
    ·left;rw[←hF2.2.1];exact h
    ·right
     have:=k1.size
     have:=k2.size
     omega⟩
   have sdt:∀b,bQ (mF oc s st0).B t b→bQ st0.B t b:=fun b h=>by
    unfold bQ at h ⊢
    rw[hF2.2.1,(hF2.1 t (by omega)).1,(hF2.1 t (by omega)).2]at h
    exact h
   have Am:ag (fun b=>b=bv∨lm.F b∨b=bb∨b=oc∨bQ st0.B s b∨bQ st0.B t b) w wq:=(k1.aC.trans (k2.mono (fun b h=>by rcases h with h | h | h | h | h;exact .inl h;exact .inr (.inl h);exact .inr (.inr (.inl h));exact .inr (.inr (.inr (.inl h)));exact .inr (.inr (.inr (.inr (.inl h))))))).trans (kq.mono (fun b h=>by rcases h with h | h | h;exact .inr (.inr (.inl h));exact .inr (.inr (.inr (.inl h)));exact .inr (.inr (.inr (.inr (.inr (sdt b h)))))))
   have hvq:=hv2.iI kq (fun b h=>m2.typ (by rcases h with h | h | h;exact .inl h;exact .inr (.inl (h▸hc));exact .inr (.inr ⟨t,by omega,h⟩)))
   have UX:∀b,w.heap.size≤b→¬(b=bb∨b=oc∨bQ (mF oc s st0).B t b):=by
    rintro b hb (h | h | h)
    ·omega
    ·omega
    ·have:=m.Bd (by omega) (sdt b h);omega
   have hrq:=kq.blk hr2 (UX _ (Nat.le_refl _))
   have Ox:=kq.blk hs2 (UX _ (by omega))
   have oH:=hide (yA bv bm bo _ Vu (.oD oc ((mF oc s st0).om oc).place) N9 NM wq hvq (ae Nh).1 (ae Nh).2.1 (ae Nh).2.2)
   have RZ:=hide hvq
   have RX:=hide hgq
   have P7:=hide Am
   clear mq kq hgq hvq Am
   go_wp2_with fail
   refine (ae oH).mono ?_
   rintro e w3 ⟨rfl,lI,hv3,hf3,k3⟩
   have hvq:=ae RZ
   have Am:=ae P7
   have hG:l9 oc (mF oc s st0)=(mF oc s st0).lg.aS [.oD oc ((mF oc s st0).om oc).place]:=by unfold l9;rw[ae Ko];rfl
   rw[←hG]at hv3
   obtain⟨gq,NI,mq,hgq⟩:=ae RX
   have m3:=mq.gK hvq (k3.mono (fun b h=>.inr h))
   have hgc:∃g cap',Mk w3 bb (dS oc t g cap' (mF oc s st0)) (aA oc (mF oc s st0)) L∧(iP (st0.B.sl t)=some g∨w.heap.size≤g):=⟨gq,NI,m3,hgq⟩
   have xX:∀b,Vu.F b→lm.F b∨w.heap.size≤b:=fun b hb=>(hf2 b hb).imp_right (fun h=>Nat.le_trans k1.size h)
   have qI:∀b,lI.F b→lm.F b∨w.heap.size≤b:=fun b hb=>by
    rcases hf3 b hb with h | h
    ·exact xX b h
    ·exact .inr (Nat.le_trans Am.size h)
   have kc:ag (fun b=>b=bv∨lm.F b∨b=bb∨b=oc∨bQ st0.B s b∨bQ st0.B t b) w w3:=Am.from (k3.mono (fun b h=>(xX b h).imp_left (fun h=>.inr (.inl h))))
   have hr3:=k3.blk hrq (hvq.log.ne hrq (by decide) (by decide) (by decide) (by decide) (by decide))
   have hs3:=k3.blk Ox (hvq.log.ne Ox (by decide) (by decide) (by decide) (by decide) (by decide))
   clear hvq mq Am hrq Ox hf3 oH hG RZ RX P7 hgq xX
   clear oL hB hbq Xw sdt UX hF2 QM EP
   clear YU HF2 HE2 htt
   obtain⟨ix3,ho3⟩:=m3.aQ oc hc
   obtain⟨F1,R1,C1,hF1,hR1,Oc⟩:∃F1 R1 C1,F1=(aA oc (mF oc s st0) oc).filled∧R1=(aA oc (mF oc s st0) oc).opn∧C1=(aA oc (mF oc s st0) oc).aG:=⟨_,_,_,rfl,rfl,rfl⟩
   obtain⟨F0,C0,cB,Oe,hC0,hT1⟩:∃F0 C0 cB,F0=(st0.om oc).filled∧C0=(st0.om oc).aG∧(mF oc s st0).lg.tr.length=cB:=⟨_,_,_,rfl,rfl,rfl⟩
   have a8:w3.cell? ⟨oc,8,none⟩=some (.int .i64 R1):=by rw[hR1];exact ho3.cell 8
   have a9:w3.cell? ⟨oc,9,none⟩=some (.int .i64 F1):=by rw[hF1];exact ho3.cell 9
   have a10:w3.cell? ⟨oc,10,none⟩=some (.int .i64 C1):=by rw[Oc];exact ho3.cell 10
   have b9:w3.cell? ⟨w.heap.size+1,9,none⟩=some (.int .i64 F0):=by rw[Oe];exact hs3.cell 9
   have b10:w3.cell? ⟨w.heap.size+1,10,none⟩=some (.int .i64 C0):=by rw[hC0];exact hs3.cell 10
   have l1:w.heap.size+1<w3.heap.size:=hs3.lt
   have l2:oc<w3.heap.size:=ho3.lt
   have fin:∀w' v,v=rep (st0.om oc) (aA oc (mF oc s st0) oc) st0.tr (mF oc s st0).tr→ag (fun b=>b=w.heap.size) w3 w'→lh bv bb oc s t bm bo st0 lm L w v w':=by
    intro w' v hv' kw
    obtain⟨g,cap',hm,hg⟩:=hgc
    refine⟨hv',g,cap',lI,hm.kept kw (by omega) (fun b hb e=>?_) (fun x hx b hb e=>?_),hv3.kept kw (by omega) (fun b hb e=>hv3.log.ne hr3 (by decide) (by decide) (by decide) (by decide) (by decide) (e▸hb)),qI,?_,hg⟩
    ·obtain⟨ix,ho⟩:=hm.aQ b hb
     subst e
     exact ai.ne ho hr3 (by decide) rfl
    ·subst e
     exact (hm.book.side x hx).ne hr3 (by decide) hb
    ·exact kc.from (kw.mono (fun b h=>.inr (by omega)))
   have HFin:=hide fin
   have Yd:=World.new_ne w3 _ a8
   have Ye:=World.new_ne w3 _ a9
   have Yf:=World.new_ne w3 _ a10
   have Yg:=World.new_ne w3 _ b9
   have Yh:=World.new_ne w3 _ b10
   have Ea:Hid (rep (st0.om oc) (aA oc (mF oc s st0) oc) st0.tr (mF oc s st0).tr=if (cA:Int)<(cB:Int) then bu (wrap64 (F1-F0)) R1 (wrap64 (C1-C0)) (wrap64 ((cA:Int)+1)) (wrap64 ((cB:Int)-(cA:Int))) else bu (wrap64 (F1-F0)) R1 (wrap64 (C1-C0)) 0 0):=by
    show _=_
    unfold rep MS.tr
    rw[hF1,hR1,Oc,Oe,hC0,hT1,ae ZY]
   obtain⟨Yl,Ym,ET⟩:=hv3.log.uZ (n:=cB) (by rw[xH];exact hT1)
   have v2:w3.cell? ⟨bv,2,none⟩=some (.slice Yl cB Ym):=by rw[←ET];exact hv3.cZ.cell 2
   clear ET
   have l3:bv<w3.heap.size:=hv3.cZ.lt
   have HR3:=hide hr3
   obtain⟨w4,hw4⟩:∃w4,w4=(w3.alloc (.cells #[.int .i64 (wrap64 (F1-F0)),.int .i64 R1,.int .i64 (wrap64 (C1-C0)),.int .i64 0,.int .i64 0] 87)).drew:=⟨_,rfl⟩
   have hn4:ai w4 w3.heap.size #[.int .i64 (wrap64 (F1-F0)),.int .i64 R1,.int .i64 (wrap64 (C1-C0)),.int .i64 0,.int .i64 0] 87:=by rw[hw4];exact (ai.new w3 _ _).drew
   have k4:ag ak w3 w4:=by rw[hw4];exact ((ag.refl ak w3).alloc _).drew
   have Jr:=hide hw4
   have vg:=hide hn4
   clear hw4
   have zh:=hide k4
   have HR4:=hide (k4.blk hr3 (fun x=>x))
   have v4:=k4.cell v2 (fun x=>x)
   have Wy:=hide v4
   clear hn4 v4
   clear fin hF1 hR1 Oc Oe hC0 hT1 m3 hv3 hf2 qI hs3 ho3 hs2 hr2 m2 hv2 XV ho2 k2 k1 hr1 hs1 m1 hv1 HW HX Ph hnew iv hgc kc hr3 m hv hn hoc k3 k4
   go_wp2
   go_region_held3 (fun w'=>w'.cell? ⟨oc,8,none⟩=some (.int .i64 R1)∧w'.cell? ⟨oc,9,none⟩=some (.int .i64 F1)∧w'.cell? ⟨oc,10,none⟩=some (.int .i64 C1)∧w'.cell? ⟨w.heap.size+1,9,none⟩=some (.int .i64 F0)∧w'.cell? ⟨w.heap.size+1,10,none⟩=some (.int .i64 C0)) (go_keep) (fail)
   rw[wrapEq (F1-F0),wrapEq (C1-C0),←ae Jr]
   rename_i hS4
   clear hS4 Yd Ye Yf Yg Yh
   clear a8 a9 a10 b9 b10 v2
   have v4:=ae Wy
   have n0:w4.cell? ⟨w3.heap.size,0,none⟩=some (.int .i64 (wrap64 (F1-F0))):=(ae vg).cell 0
   have n1:w4.cell? ⟨w3.heap.size,1,none⟩=some (.int .i64 R1):=(ae vg).cell 1
   have n2:w4.cell? ⟨w3.heap.size,2,none⟩=some (.int .i64 (wrap64 (C1-C0))):=(ae vg).cell 2
   have n3:w4.cell? ⟨w3.heap.size,3,none⟩=some (.int .i64 0):=(ae vg).cell 3
   have n4:w4.cell? ⟨w3.heap.size,4,none⟩=some (.int .i64 0):=(ae vg).cell 4
   have f3:=(ae vg).frozen 3
   have f4:=(ae vg).frozen 4
   have hne:w3.heap.size≠w.heap.size:=by omega
   have hvn:bv≠w3.heap.size:=by omega
   by_cases htr:(cA:Int)<(cB:Int)
   ·obtain⟨w5,hw5⟩:∃w5,w5=((w4.setCell ⟨w3.heap.size,3,none⟩ (.int .i64 (wrap64 ((cA:Int)+1)))).setCell ⟨w3.heap.size,4,none⟩ (.int .i64 (wrap64 ((cB:Int)-(cA:Int))))).drew:=⟨_,rfl⟩
    have EO:ai w5 w3.heap.size #[.int .i64 (wrap64 (F1-F0)),.int .i64 R1,.int .i64 (wrap64 (C1-C0)),.int .i64 (wrap64 ((cA:Int)+1)),.int .i64 (wrap64 ((cB:Int)-(cA:Int)))] 87:=by rw[hw5];exact (((ae vg).set 3 _).set 4 _).drew
    have k5:ag (fun b=>b=w3.heap.size) w4 w5:=by rw[hw5];exact (((ag.refl (fun b=>b=w3.heap.size) w4).setCell (p:=⟨w3.heap.size,3,none⟩) (.inl rfl) _).setCell (p:=⟨w3.heap.size,4,none⟩) (.inl rfl) _).drew
    have ML:=hide hw5
    have zl:=hide EO
    have mQ:=hide (k5.blk (ae HR4) (fun e=>hne e.symm))
    have J4:=hide k5
    have HH:=hide htr
    clear hw5 EO k5
    go_wp2
    go_region
    rw[←ae ML]
    clear v4 n0 n1 n2 n3 n4 f3 f4
    have n0:w5.cell? ⟨w3.heap.size,0,none⟩=some (.int .i64 (wrap64 (F1-F0))):=(ae zl).cell 0
    have n1:w5.cell? ⟨w3.heap.size,1,none⟩=some (.int .i64 R1):=(ae zl).cell 1
    have n2:w5.cell? ⟨w3.heap.size,2,none⟩=some (.int .i64 (wrap64 (C1-C0))):=(ae zl).cell 2
    have n3:w5.cell? ⟨w3.heap.size,3,none⟩=some (.int .i64 (wrap64 ((cA:Int)+1))):=(ae zl).cell 3
    have n4:w5.cell? ⟨w3.heap.size,4,none⟩=some (.int .i64 (wrap64 ((cB:Int)-(cA:Int)))):=(ae zl).cell 4
    have r0:w5.cell? ⟨w.heap.size,0,none⟩=some (.int .i64 0):=(ae mQ).cell 0
    have r1:w5.cell? ⟨w.heap.size,1,none⟩=some (.int .i64 0):=(ae mQ).cell 1
    have r2:w5.cell? ⟨w.heap.size,2,none⟩=some (.int .i64 0):=(ae mQ).cell 2
    have r3:w5.cell? ⟨w.heap.size,3,none⟩=some (.int .i64 0):=(ae mQ).cell 3
    have r4:w5.cell? ⟨w.heap.size,4,none⟩=some (.int .i64 0):=(ae mQ).cell 4
    have q0:=(ae mQ).frozen 0
    have q1:=(ae mQ).frozen 1
    have q2:=(ae mQ).frozen 2
    have q3:=(ae mQ).frozen 3
    have q4:=(ae mQ).frozen 4
    clear htr
    go_wp2
    refine bodyPost_ret (v:=bu (wrap64 (F1-F0)) R1 (wrap64 (C1-C0)) (wrap64 ((cA:Int)+1)) (wrap64 ((cB:Int)-(cA:Int)))) (AZ _ w.heap.size _ _ _ _ _ _ rfl ?_) rfl ⟨_,rfl,ae HFin _ _ ?_ ?_⟩
    ·exact (((((ae mQ).set 0 _).set 1 _).set 2 _).set 3 _).set 4 _
    ·rw[ae Ea,if_pos (ae HH)]
    ·have kk:ag (fun b=>b=w.heap.size) w3 w5:=(ae zh).aC.from ((ae J4).mono (fun b h=>.inr (by omega)))
     exact (((((kk).setCell (p:=⟨w.heap.size,0,none⟩) (.inl rfl) _).setCell (p:=⟨w.heap.size,1,none⟩) (.inl rfl) _).setCell (p:=⟨w.heap.size,2,none⟩) (.inl rfl) _).setCell (p:=⟨w.heap.size,3,none⟩) (.inl rfl) _).setCell (p:=⟨w.heap.size,4,none⟩) (.inl rfl) _
   ·have HH:=hide htr
    have r0:w4.cell? ⟨w.heap.size,0,none⟩=some (.int .i64 0):=(ae HR4).cell 0
    have r1:w4.cell? ⟨w.heap.size,1,none⟩=some (.int .i64 0):=(ae HR4).cell 1
    have r2:w4.cell? ⟨w.heap.size,2,none⟩=some (.int .i64 0):=(ae HR4).cell 2
    have r3:w4.cell? ⟨w.heap.size,3,none⟩=some (.int .i64 0):=(ae HR4).cell 3
    have r4:w4.cell? ⟨w.heap.size,4,none⟩=some (.int .i64 0):=(ae HR4).cell 4
    have q0:=(ae HR4).frozen 0
    have q1:=(ae HR4).frozen 1
    have q2:=(ae HR4).frozen 2
    have q3:=(ae HR4).frozen 3
    have q4:=(ae HR4).frozen 4
    clear f3 f4
    go_wp2
    refine bodyPost_ret (v:=bu (wrap64 (F1-F0)) R1 (wrap64 (C1-C0)) 0 0) (AZ _ w.heap.size _ _ _ _ _ _ rfl ?_) rfl ⟨_,rfl,ae HFin _ _ ?_ ?_⟩
    ·exact (((((ae HR4).set 0 _).set 1 _).set 2 _).set 3 _).set 4 _
    ·have:=ae HH;rw[ae Ea,if_neg (by omega)]
    ·have kk:ag (fun b=>b=w.heap.size) w3 w4:=(ae zh).aC
     exact (((((kk).setCell (p:=⟨w.heap.size,0,none⟩) (.inl rfl) _).setCell (p:=⟨w.heap.size,1,none⟩) (.inl rfl) _).setCell (p:=⟨w.heap.size,2,none⟩) (.inl rfl) _).setCell (p:=⟨w.heap.size,3,none⟩) (.inl rfl) _).setCell (p:=⟨w.heap.size,4,none⟩) (.inl rfl) _
 ·have Ko:Hid (dh ((mF oc s st0).om oc)=false):=by show _=_;unfold dh;simp[hp]
  go_wp2_with fail
  refine (jU bb oc _ _ L _ m2 hc).mono ?_
  rintro e wq ⟨N9,NM,rfl,-,mq,kq⟩
  have oL:upd (mF oc s st0).om oc { (mF oc s st0).om oc with opn:=0,aG:=wrap64 (((mF oc s st0).om oc).aG+((mF oc s st0).om oc).opn) }=aA oc (mF oc s st0):=by unfold aA;rw[ae Ko];rfl
  rw[oL]at mq
  have hB:dS oc t 0 0 (mF oc s st0)=(mF oc s st0).B:=by unfold dS;rw[ae Ko];rfl
  rw[←hB]at mq
  have hgq:∃g cap',Mk wq bb (dS oc t g cap' (mF oc s st0)) (aA oc (mF oc s st0)) L∧(iP (st0.B.sl t)=some g∨w.heap.size≤g):=⟨w.heap.size,0,by have e:dS oc t w.heap.size 0 (mF oc s st0)=dS oc t 0 0 (mF oc s st0):=by { unfold dS;rw[ae Ko];rfl };rw[e];exact mq,.inr (Nat.le_refl _)⟩
  have Am:ag (fun b=>b=bv∨lm.F b∨b=bb∨b=oc∨bQ st0.B s b∨bQ st0.B t b) w wq:=(k1.aC.trans (k2.mono (fun b h=>by rcases h with h | h | h | h | h;exact .inl h;exact .inr (.inl h);exact .inr (.inr (.inl h));exact .inr (.inr (.inr (.inl h)));exact .inr (.inr (.inr (.inr (.inl h))))))).trans (kq.mono (fun b h=>.inr (.inr (.inr (.inl h)))))
  have hvq:=hv2.iI kq (fun b h=>by subst h;exact m2.typ (.inr (.inl hc)))
  have hrq:=kq.blk hr2 (fun h=>by omega)
  have Ox:=kq.blk hs2 (fun h=>by omega)
  have oH:=hide (yA bv bm bo _ Vu (.now oc ((mF oc s st0).om oc)) N9 NM wq hvq (ae Nh).1 (ae Nh).2.1 (ae Nh).2.2)
  have RZ:=hide hvq
  have RX:=hide hgq
  have P7:=hide Am
  clear mq kq hgq hvq Am
  go_wp2_with fail
  refine (ae oH).mono ?_
  rintro e w3 ⟨rfl,lI,hv3,hf3,k3⟩
  have hvq:=ae RZ
  have Am:=ae P7
  have hG:l9 oc (mF oc s st0)=(mF oc s st0).lg.aS [.now oc ((mF oc s st0).om oc)]:=by unfold l9;rw[ae Ko];rfl
  rw[←hG]at hv3
  obtain⟨gq,NI,mq,hgq⟩:=ae RX
  have m3:=mq.gK hvq (k3.mono (fun b h=>.inr h))
  have hgc:∃g cap',Mk w3 bb (dS oc t g cap' (mF oc s st0)) (aA oc (mF oc s st0)) L∧(iP (st0.B.sl t)=some g∨w.heap.size≤g):=⟨gq,NI,m3,hgq⟩
  have xX:∀b,Vu.F b→lm.F b∨w.heap.size≤b:=fun b hb=>(hf2 b hb).imp_right (fun h=>Nat.le_trans k1.size h)
  have qI:∀b,lI.F b→lm.F b∨w.heap.size≤b:=fun b hb=>by
   rcases hf3 b hb with h | h
   ·exact xX b h
   ·exact .inr (Nat.le_trans Am.size h)
  have kc:ag (fun b=>b=bv∨lm.F b∨b=bb∨b=oc∨bQ st0.B s b∨bQ st0.B t b) w w3:=Am.from (k3.mono (fun b h=>(xX b h).imp_left (fun h=>.inr (.inl h))))
  have hr3:=k3.blk hrq (hvq.log.ne hrq (by decide) (by decide) (by decide) (by decide) (by decide))
  have hs3:=k3.blk Ox (hvq.log.ne Ox (by decide) (by decide) (by decide) (by decide) (by decide))
  clear hvq mq Am hrq Ox hf3 oH hG RZ RX P7 hgq xX
  clear oL hB
  obtain⟨ix3,ho3⟩:=m3.aQ oc hc
  obtain⟨F1,R1,C1,hF1,hR1,Oc⟩:∃F1 R1 C1,F1=(aA oc (mF oc s st0) oc).filled∧R1=(aA oc (mF oc s st0) oc).opn∧C1=(aA oc (mF oc s st0) oc).aG:=⟨_,_,_,rfl,rfl,rfl⟩
  obtain⟨F0,C0,cB,Oe,hC0,hT1⟩:∃F0 C0 cB,F0=(st0.om oc).filled∧C0=(st0.om oc).aG∧(mF oc s st0).lg.tr.length=cB:=⟨_,_,_,rfl,rfl,rfl⟩
  have a8:w3.cell? ⟨oc,8,none⟩=some (.int .i64 R1):=by rw[hR1];exact ho3.cell 8
  have a9:w3.cell? ⟨oc,9,none⟩=some (.int .i64 F1):=by rw[hF1];exact ho3.cell 9
  have a10:w3.cell? ⟨oc,10,none⟩=some (.int .i64 C1):=by rw[Oc];exact ho3.cell 10
  have b9:w3.cell? ⟨w.heap.size+1,9,none⟩=some (.int .i64 F0):=by rw[Oe];exact hs3.cell 9
  have b10:w3.cell? ⟨w.heap.size+1,10,none⟩=some (.int .i64 C0):=by rw[hC0];exact hs3.cell 10
  have l1:w.heap.size+1<w3.heap.size:=hs3.lt
  have l2:oc<w3.heap.size:=ho3.lt
  have fin:∀w' v,v=rep (st0.om oc) (aA oc (mF oc s st0) oc) st0.tr (mF oc s st0).tr→ag (fun b=>b=w.heap.size) w3 w'→lh bv bb oc s t bm bo st0 lm L w v w':=by
   intro w' v hv' kw
   obtain⟨g,cap',hm,hg⟩:=hgc
   refine⟨hv',g,cap',lI,hm.kept kw (by omega) (fun b hb e=>?_) (fun x hx b hb e=>?_),hv3.kept kw (by omega) (fun b hb e=>hv3.log.ne hr3 (by decide) (by decide) (by decide) (by decide) (by decide) (e▸hb)),qI,?_,hg⟩
   ·obtain⟨ix,ho⟩:=hm.aQ b hb
    subst e
    exact ai.ne ho hr3 (by decide) rfl
   ·subst e
    exact (hm.book.side x hx).ne hr3 (by decide) hb
   ·exact kc.from (kw.mono (fun b h=>.inr (by omega)))
  have HFin:=hide fin
  have Yd:=World.new_ne w3 _ a8
  have Ye:=World.new_ne w3 _ a9
  have Yf:=World.new_ne w3 _ a10
  have Yg:=World.new_ne w3 _ b9
  have Yh:=World.new_ne w3 _ b10
  have Ea:Hid (rep (st0.om oc) (aA oc (mF oc s st0) oc) st0.tr (mF oc s st0).tr=if (cA:Int)<(cB:Int) then bu (wrap64 (F1-F0)) R1 (wrap64 (C1-C0)) (wrap64 ((cA:Int)+1)) (wrap64 ((cB:Int)-(cA:Int))) else bu (wrap64 (F1-F0)) R1 (wrap64 (C1-C0)) 0 0):=by
   show _=_
   unfold rep MS.tr
   rw[hF1,hR1,Oc,Oe,hC0,hT1,ae ZY]
  obtain⟨Yl,Ym,ET⟩:=hv3.log.uZ (n:=cB) (by rw[xH];exact hT1)
  have v2:w3.cell? ⟨bv,2,none⟩=some (.slice Yl cB Ym):=by rw[←ET];exact hv3.cZ.cell 2
  clear ET
  have l3:bv<w3.heap.size:=hv3.cZ.lt
  have HR3:=hide hr3
  obtain⟨w4,hw4⟩:∃w4,w4=(w3.alloc (.cells #[.int .i64 (wrap64 (F1-F0)),.int .i64 R1,.int .i64 (wrap64 (C1-C0)),.int .i64 0,.int .i64 0] 87)).drew:=⟨_,rfl⟩
  have hn4:ai w4 w3.heap.size #[.int .i64 (wrap64 (F1-F0)),.int .i64 R1,.int .i64 (wrap64 (C1-C0)),.int .i64 0,.int .i64 0] 87:=by rw[hw4];exact (ai.new w3 _ _).drew
  have k4:ag ak w3 w4:=by rw[hw4];exact ((ag.refl ak w3).alloc _).drew
  have Jr:=hide hw4
  have vg:=hide hn4
  clear hw4
  have zh:=hide k4
  have HR4:=hide (k4.blk hr3 (fun x=>x))
  have v4:=k4.cell v2 (fun x=>x)
  have Wy:=hide v4
  clear hn4 v4
  clear fin hF1 hR1 Oc Oe hC0 hT1 m3 hv3 hf2 qI hs3 ho3 hs2 hr2 m2 hv2 XV ho2 k2 k1 hr1 hs1 m1 hv1 HW HX Ph hnew iv hgc kc hr3 m hv hn hoc k3 k4
  go_wp2
  go_region_held3 (fun w'=>w'.cell? ⟨oc,8,none⟩=some (.int .i64 R1)∧w'.cell? ⟨oc,9,none⟩=some (.int .i64 F1)∧w'.cell? ⟨oc,10,none⟩=some (.int .i64 C1)∧w'.cell? ⟨w.heap.size+1,9,none⟩=some (.int .i64 F0)∧w'.cell? ⟨w.heap.size+1,10,none⟩=some (.int .i64 C0)) (go_keep) (fail)
  rw[wrapEq (F1-F0),wrapEq (C1-C0),←ae Jr]
  rename_i hS4
  clear hS4 Yd Ye Yf Yg Yh
  clear a8 a9 a10 b9 b10 v2
  have v4:=ae Wy
  have n0:w4.cell? ⟨w3.heap.size,0,none⟩=some (.int .i64 (wrap64 (F1-F0))):=(ae vg).cell 0
  have n1:w4.cell? ⟨w3.heap.size,1,none⟩=some (.int .i64 R1):=(ae vg).cell 1
  have n2:w4.cell? ⟨w3.heap.size,2,none⟩=some (.int .i64 (wrap64 (C1-C0))):=(ae vg).cell 2
  have n3:w4.cell? ⟨w3.heap.size,3,none⟩=some (.int .i64 0):=(ae vg).cell 3
  have n4:w4.cell? ⟨w3.heap.size,4,none⟩=some (.int .i64 0):=(ae vg).cell 4
  have f3:=(ae vg).frozen 3
  have f4:=(ae vg).frozen 4
  have hne:w3.heap.size≠w.heap.size:=by omega
  have hvn:bv≠w3.heap.size:=by omega
  by_cases htr:(cA:Int)<(cB:Int)
  ·obtain⟨w5,hw5⟩:∃w5,w5=((w4.setCell ⟨w3.heap.size,3,none⟩ (.int .i64 (wrap64 ((cA:Int)+1)))).setCell ⟨w3.heap.size,4,none⟩ (.int .i64 (wrap64 ((cB:Int)-(cA:Int))))).drew:=⟨_,rfl⟩
   have EO:ai w5 w3.heap.size #[.int .i64 (wrap64 (F1-F0)),.int .i64 R1,.int .i64 (wrap64 (C1-C0)),.int .i64 (wrap64 ((cA:Int)+1)),.int .i64 (wrap64 ((cB:Int)-(cA:Int)))] 87:=by rw[hw5];exact (((ae vg).set 3 _).set 4 _).drew
   have k5:ag (fun b=>b=w3.heap.size) w4 w5:=by rw[hw5];exact (((ag.refl (fun b=>b=w3.heap.size) w4).setCell (p:=⟨w3.heap.size,3,none⟩) (.inl rfl) _).setCell (p:=⟨w3.heap.size,4,none⟩) (.inl rfl) _).drew
   have ML:=hide hw5
   have zl:=hide EO
   have mQ:=hide (k5.blk (ae HR4) (fun e=>hne e.symm))
   have J4:=hide k5
   have HH:=hide htr
   clear hw5 EO k5
   go_wp2
   go_region
   rw[←ae ML]
   clear v4 n0 n1 n2 n3 n4 f3 f4
   have n0:w5.cell? ⟨w3.heap.size,0,none⟩=some (.int .i64 (wrap64 (F1-F0))):=(ae zl).cell 0
   have n1:w5.cell? ⟨w3.heap.size,1,none⟩=some (.int .i64 R1):=(ae zl).cell 1
   have n2:w5.cell? ⟨w3.heap.size,2,none⟩=some (.int .i64 (wrap64 (C1-C0))):=(ae zl).cell 2
   have n3:w5.cell? ⟨w3.heap.size,3,none⟩=some (.int .i64 (wrap64 ((cA:Int)+1))):=(ae zl).cell 3
   have n4:w5.cell? ⟨w3.heap.size,4,none⟩=some (.int .i64 (wrap64 ((cB:Int)-(cA:Int)))):=(ae zl).cell 4
   have r0:w5.cell? ⟨w.heap.size,0,none⟩=some (.int .i64 0):=(ae mQ).cell 0
   have r1:w5.cell? ⟨w.heap.size,1,none⟩=some (.int .i64 0):=(ae mQ).cell 1
   have r2:w5.cell? ⟨w.heap.size,2,none⟩=some (.int .i64 0):=(ae mQ).cell 2
   have r3:w5.cell? ⟨w.heap.size,3,none⟩=some (.int .i64 0):=(ae mQ).cell 3
   have r4:w5.cell? ⟨w.heap.size,4,none⟩=some (.int .i64 0):=(ae mQ).cell 4
   have q0:=(ae mQ).frozen 0
   have q1:=(ae mQ).frozen 1
   have q2:=(ae mQ).frozen 2
   have q3:=(ae mQ).frozen 3
   have q4:=(ae mQ).frozen 4
   clear htr
   go_wp2
   refine bodyPost_ret (v:=bu (wrap64 (F1-F0)) R1 (wrap64 (C1-C0)) (wrap64 ((cA:Int)+1)) (wrap64 ((cB:Int)-(cA:Int)))) (AZ _ w.heap.size _ _ _ _ _ _ rfl ?_) rfl ⟨_,rfl,ae HFin _ _ ?_ ?_⟩
   ·exact (((((ae mQ).set 0 _).set 1 _).set 2 _).set 3 _).set 4 _
   ·rw[ae Ea,if_pos (ae HH)]
   ·have kk:ag (fun b=>b=w.heap.size) w3 w5:=(ae zh).aC.from ((ae J4).mono (fun b h=>.inr (by omega)))
    exact (((((kk).setCell (p:=⟨w.heap.size,0,none⟩) (.inl rfl) _).setCell (p:=⟨w.heap.size,1,none⟩) (.inl rfl) _).setCell (p:=⟨w.heap.size,2,none⟩) (.inl rfl) _).setCell (p:=⟨w.heap.size,3,none⟩) (.inl rfl) _).setCell (p:=⟨w.heap.size,4,none⟩) (.inl rfl) _
  ·have HH:=hide htr
   have r0:w4.cell? ⟨w.heap.size,0,none⟩=some (.int .i64 0):=(ae HR4).cell 0
   have r1:w4.cell? ⟨w.heap.size,1,none⟩=some (.int .i64 0):=(ae HR4).cell 1
   have r2:w4.cell? ⟨w.heap.size,2,none⟩=some (.int .i64 0):=(ae HR4).cell 2
   have r3:w4.cell? ⟨w.heap.size,3,none⟩=some (.int .i64 0):=(ae HR4).cell 3
   have r4:w4.cell? ⟨w.heap.size,4,none⟩=some (.int .i64 0):=(ae HR4).cell 4
   have q0:=(ae HR4).frozen 0
   have q1:=(ae HR4).frozen 1
   have q2:=(ae HR4).frozen 2
   have q3:=(ae HR4).frozen 3
   have q4:=(ae HR4).frozen 4
   clear f3 f4
   go_wp2
   refine bodyPost_ret (v:=bu (wrap64 (F1-F0)) R1 (wrap64 (C1-C0)) 0 0) (AZ _ w.heap.size _ _ _ _ _ _ rfl ?_) rfl ⟨_,rfl,ae HFin _ _ ?_ ?_⟩
   ·exact (((((ae HR4).set 0 _).set 1 _).set 2 _).set 3 _).set 4 _
   ·have:=ae HH;rw[ae Ea,if_neg (by omega)]
   ·have kk:ag (fun b=>b=w.heap.size) w3 w4:=(ae zh).aC
    exact (((((kk).setCell (p:=⟨w.heap.size,0,none⟩) (.inl rfl) _).setCell (p:=⟨w.heap.size,1,none⟩) (.inl rfl) _).setCell (p:=⟨w.heap.size,2,none⟩) (.inl rfl) _).setCell (p:=⟨w.heap.size,3,none⟩) (.inl rfl) _).setCell (p:=⟨w.heap.size,4,none⟩) (.inl rfl) _
end Go.Proofs.YtigaphnafnpfnaaGreatDoor
