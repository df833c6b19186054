import Derived.Test.YtigaphnafnpfnaaGreatDoorQVC1
import Derived.Test.YtigaphnafnpfnaaGreatDoorQVC2
import Derived.Test.YtigaphnafnpfnaaGreatDoorQVX1
import Derived.Test.YtigaphnafnpfnaaGreatDoorQVB2
set_option linter.unusedVariables false
set_option linter.unusedSimpArgs false
set_option maxHeartbeats 8000000
set_option maxRecDepth 100000
namespace Go.Proofs.YtigaphnafnpfnaaGreatDoor
open Go.RowKit
attribute [local go_sem ↓] Go.wp_at_zero Go.wp_at_succ
theorem bH.Be{w:World}{base sb:Nat}{S:RS}{m:SM}(h:bH w base sb S m)(p:Int) :
 bH (w.setCell ⟨sb,4,none⟩ (.int .i64 p)) base sb { S with places:=p } m∧ag (SF sb m) w (w.setCell ⟨sb,4,none⟩ (.int .i64 p)):=by
 have k:ag (fun b=>b=sb) w (w.setCell ⟨sb,4,none⟩ (.int .i64 p)):=(ag.refl (fun b=>b=sb) w).setCell (p:=⟨sb,4,none⟩) (.inl rfl) _
 have ty:∀e,e≠207→∀b,b=sb→∃c t',ai w b c t'∧t'≠e:=fun e he b hb=>by subst hb;exact⟨_,_,h.blk,fun x=>he x.symm⟩
 exact⟨⟨h.ge,h.blk.set 4 _,aJ (t:=0) h.jH k (ty _ (by decide)),aJ (t:=0) h.bI k (ty _ (by decide)),aJ (t:=0) h.dE k (ty _ (by decide)),aJ (t:=0) h.jS k (ty _ (by decide))⟩,k.mono (fun b hb=>.inl hb)⟩
theorem bH.I9{w:World}{base sb:Nat}{S:RS}{m:SM}(h:bH w base sb S m)(p:Int) :
 bH (w.setCell ⟨sb,3,none⟩ (.int .i64 p)) base sb { S with day:=p } m∧ag (SF sb m) w (w.setCell ⟨sb,3,none⟩ (.int .i64 p)):=by
 have k:ag (fun b=>b=sb) w (w.setCell ⟨sb,3,none⟩ (.int .i64 p)):=(ag.refl (fun b=>b=sb) w).setCell (p:=⟨sb,3,none⟩) (.inl rfl) _
 have ty:∀e,e≠207→∀b,b=sb→∃c t',ai w b c t'∧t'≠e:=fun e he b hb=>by subst hb;exact⟨_,_,h.blk,fun x=>he x.symm⟩
 exact⟨⟨h.ge,h.blk.set 3 _,aJ (t:=0) h.jH k (ty _ (by decide)),aJ (t:=0) h.bI k (ty _ (by decide)),aJ (t:=0) h.dE k (ty _ (by decide)),aJ (t:=0) h.jS k (ty _ (by decide))⟩,k.mono (fun b hb=>.inl hb)⟩
theorem AB{l:List Ord}{i:Nat}{o:Ord}(h:i<l.length):ah (l.set i o) i=o:=tN (by rw[List.getElem?_set_self h])
def RS.stand(S:RS)(i:Nat)(n:Int):RS:={ S with places:=wrap64 (S.places+1),l:=S.l.set i { ah S.l i with place:=wrap64 (S.places+1),opn:=wrap64 ((ah S.l i).opn+n) } }
theorem I8(base sb i:Nat)(S:RS)(m:SM)(n:Int)(w:World)(h:bH w base sb S m)(hlen:S.l.length≤1000)(hi:i<S.l.length) :
 Calls Tryz.prog 203 #[.pointer (some ⟨sb,0,none⟩),.int .i64 (i:Int),.int .i64 n] w fun e w'=>e=.returned (.tuple #[])∧fP base sb (S.stand i n) m w w':=by
 obtain⟨N,hN⟩:∃N,S.l.length=N:=⟨_,rfl⟩
 obtain⟨a,c,hv⟩:=az h.bI
 obtain⟨g,rfl,hgb,hc,hf⟩:=h.rY hv hi
 have HV:=hide hv
 have HI:=hide hi
 rw[hN]at hv hlen hi
 have v1:w.cell? ⟨sb,1,none⟩=some (.slice (some ⟨g,0,none⟩) N c):=by rw[←hv];exact h.blk.cell 1
 have v4:w.cell? ⟨sb,4,none⟩=some (.int .i64 S.places):=h.blk.cell 4
 have f4:=h.blk.frozen 4
 have uj:=h.blk.lt
 obtain⟨x,hx⟩:∃x,ah S.l i=x:=⟨_,rfl⟩
 rw[hx]at hc
 have c8:w.cell? ⟨g,i * 13+8,none⟩=some (.int .i64 x.opn):=hc 8 _ rfl
 have c12:w.cell? ⟨g,i * 13+12,none⟩=some (.int .i64 x.place):=hc 12 _ rfl
 have f8:=hf (i * 13+8)
 have f12:=hf (i * 13+12)
 have hsg:sb≠g:=fun e=>by
  have r:=h.bI
  rw[ae HV]at r
  obtain⟨cs,hcs⟩:=ay r (b:=g) rfl
  exact ai.ne h.blk hcs (by decide) e
 have hgs:=hsg.symm
 have n1:¬i * 13+8=i * 13+12:=by omega
 have fin:bH (((w.setCell ⟨sb,4,none⟩ (.int .i64 (wrap64 (S.places+1)))).setCell ⟨g,i * 13+12,none⟩ (.int .i64 (wrap64 (S.places+1)))).setCell ⟨g,i * 13+8,none⟩ (.int .i64 (wrap64 (x.opn+n)))) base sb (S.stand i n) m ∧
  ag (SF sb m) w (((w.setCell ⟨sb,4,none⟩ (.int .i64 (wrap64 (S.places+1)))).setCell ⟨g,i * 13+12,none⟩ (.int .i64 (wrap64 (S.places+1)))).setCell ⟨g,i * 13+8,none⟩ (.int .i64 (wrap64 (x.opn+n)))):=by
  obtain⟨p0,q0⟩:=h.Be (wrap64 (S.places+1))
  obtain⟨p1,q1⟩:=p0.fM (i:=i) (ae HV) (ae HI) (j:=12) (by omega) (.int .i64 (wrap64 (S.places+1))) { x with place:=wrap64 (S.places+1) } (by simp only;rw[hx];rfl)
  obtain⟨p2,q2⟩:=p1.fM (i:=i) (by simp only[List.length_set];exact ae HV) (by simp only[List.length_set];exact ae HI) (j:=8) (by omega) (.int .i64 (wrap64 (x.opn+n))) { x with place:=wrap64 (S.places+1),opn:=wrap64 (x.opn+n) } (by simp only;rw[AB (ae HI)];rfl)
  refine⟨?_,(q0.trans q1).trans q2⟩
  have e:({ S with places:=wrap64 (S.places+1),l:=(S.l.set i { x with place:=wrap64 (S.places+1) }).set i { x with place:=wrap64 (S.places+1),opn:=wrap64 (x.opn+n) } }:RS)=S.stand i n:=by
   unfold RS.stand
   rw[hx,List.set_set]
  rw[←e]
  exact p2
 have HF:=hide fin
 clear fin hc hf h hv hx hN
 go_enter Tryz.func203,Tryz.ntmps203
 go_wp2
 go_region
 go_wp2
 go_region
 go_wp2
 go_end0
 exact⟨rfl,m,(ae HF).1.aj (ag.refl ak _).drew.drew,fun b hb=>.inl hb,(ae HF).2.drew.drew⟩
open Go.RowKit Go.Maps
theorem OX{oc s:Nat}{st:MS}:(∀x,((bV oc s st).om x).id=(st.om x).id∧((bV oc s st).om x).side=(st.om x).side∧((bV oc s st).om x).sym=(st.om x).sym∧((bV oc s st).om x).price=(st.om x).price∧((bV oc s st).om x).place=(st.om x).place∧((bV oc s st).om x).owner=(st.om x).owner∧((bV oc s st).om x).kind=(st.om x).kind∧((bV oc s st).om x).qty=(st.om x).qty)∧(∀x,x≠oc→x≠st.B.h s 0→(bV oc s st).om x=st.om x):=by
 unfold bV
 split
 ·refine⟨fun x=>?_,fun x _ h=>af _ _ h⟩
  simp only
  by_cases e:x=st.B.h s 0
  ·rw[e,upd_same];exact⟨rfl,rfl,rfl,rfl,rfl,rfl,rfl,rfl⟩
  ·rw[af _ _ e];exact⟨rfl,rfl,rfl,rfl,rfl,rfl,rfl,rfl⟩
 ·refine⟨fun x=>?_,fun x h1 h2=>?_⟩
  ·simp only[aH]
   by_cases e:x=st.B.h s 0
   ·rw[e,upd_same];exact⟨rfl,rfl,rfl,rfl,rfl,rfl,rfl,rfl⟩
   ·rw[af _ _ e]
    by_cases e2:x=oc
    ·rw[e2,upd_same];exact⟨rfl,rfl,rfl,rfl,rfl,rfl,rfl,rfl⟩
    ·rw[af _ _ e2];exact⟨rfl,rfl,rfl,rfl,rfl,rfl,rfl,rfl⟩
  ·simp only[aH]
   rw[af _ _ h2,af _ _ h1]
theorem kC{oc s:Nat}{st:MS}(h:¬stops oc s st=true):0<st.B.n s∧0<(st.om oc).opn:=by
 simp only[stops,Bool.or_eq_true,Bool.not_eq_true',decide_eq_false_iff_not,not_or,Decidable.not_not]at h
 obtain⟨h1,h2⟩:=h
 cases hf:bK st.B st.om (aV (st.om oc)) s
 ·rw[hf]at h2;simp at h2
 ·exact⟨(vK hf).1,h1⟩
theorem uI{oc s:Nat}:∀(f:Nat) (st:MS),Inv oc s st →
 (∀x,((aZ oc s f st).om x).id=(st.om x).id∧((aZ oc s f st).om x).side=(st.om x).side∧((aZ oc s f st).om x).sym=(st.om x).sym∧((aZ oc s f st).om x).price=(st.om x).price∧((aZ oc s f st).om x).place=(st.om x).place∧((aZ oc s f st).om x).owner=(st.om x).owner∧((aZ oc s f st).om x).kind=(st.om x).kind∧((aZ oc s f st).om x).qty=(st.om x).qty) ∧
 (∀x,x≠oc→¬bQ st.B s x→(aZ oc s f st).om x=st.om x)∧(∀b,bQ (aZ oc s f st).B s b→bQ st.B s b)∧Inv oc s (aZ oc s f st):=by
 intro f
 induction f with
 | zero=>exact fun st iv=>⟨fun _=>⟨rfl,rfl,rfl,rfl,rfl,rfl,rfl,rfl⟩,fun _ _ _=>rfl,fun _ h=>h,iv⟩
 | succ f ih =>
   intro st iv
   rw[aZ]
   split
   ·exact⟨fun _=>⟨rfl,rfl,rfl,rfl,rfl,rfl,rfl,rfl⟩,fun _ _ _=>rfl,fun _ h=>h,iv⟩
   ·rename_i hst
    obtain⟨hn,hp⟩:=kC hst
    obtain⟨OE,_,sub⟩:=qi iv hn hp
    obtain⟨a1,a2,a3,a4⟩:=ih (bV oc s st) OE
    obtain⟨b1,b2⟩:=OX (oc:=oc) (s:=s) (st:=st)
    refine⟨fun x=>?_,fun x h1 h2=>?_,fun b hb=>sub b (a3 b hb),a4⟩
    ·obtain⟨c1,c2,c3,c4,c5,c6,c7,c8⟩:=a1 x
     obtain⟨d1,d2,d3,d4,d5,d6,d7,d8⟩:=b1 x
     exact⟨c1.trans d1,c2.trans d2,c3.trans d3,c4.trans d4,c5.trans d5,c6.trans d6,c7.trans d7,c8.trans d8⟩
    ·rw[a2 x h1 (fun h=>h2 (sub x h)),b2 x h1 (fun e=>h2 (.inr ⟨0,hn,e⟩))]
def Lg.opened(G:Lg)(id:Int):Lg:=G.begun.aS [.entered id]
def aW.enter(V:aW)(i b s t g cap':Nat)(o:Ask)(aY:Lm):aW :=
 { V with B:=upd V.B i (dS b t g cap' (mF b s ⟨V.B i,upd V.om b (aI o),V.lg.opened o.id⟩)),om:=aA b (mF b s ⟨V.B i,upd V.om b (aI o),V.lg.opened o.id⟩),aO:=fun id=>if id=o.id then some b else V.aO id,no:=V.no+1,lg:=l9 b (mF b s ⟨V.B i,upd V.om b (aI o),V.lg.opened o.id⟩),lm:=aY }
theorem uy(oc:Nat)(st:MS)(x:Nat):(aA oc st x).id=(st.om x).id:=by
 unfold aA
 split
 ·by_cases e:x=oc
  ·rw[e,upd_same]
  ·rw[af _ _ e]
 ·by_cases e:x=oc
  ·rw[e,upd_same];rfl
  ·rw[af _ _ e]
theorem nY(oc:Nat)(st:MS){x:Nat}(h:x≠oc):aA oc st x=st.om x:=by
 unfold aA
 split <;> rw[af _ _ h]
theorem xG{oc t g cap':Nat}{st:MS}{x b:Nat}(h:bQ (dS oc t g cap' st) x b):bQ st.B x b∨b=oc∨b=g:=by
 unfold dS at h
 split at h
 ·by_cases e:x=t
  ·subst e
   rcases h with h | ⟨k,hk,h⟩
   ·simp only[Bk.rest,upd_same,iP,Option.some.injEq]at h
    exact .inr (.inr h.symm)
   ·simp only[Bk.rest,upd_same]at hk h
    rcases (mem_push (lt:=dW (aA oc st)) (st.B.h x) oc _).1 ⟨k,hk,rfl⟩ with h' | h'
    ·obtain⟨k',hk',e'⟩:=h'
     exact .inl (.inr ⟨k',hk',by rw[h,e']⟩)
    ·exact .inr (.inl (by rw[h,h']))
  ·left
   unfold bQ at h ⊢
   simp only[Bk.rest,af _ _ e]at h
   exact h
 ·exact .inl h
theorem mZ{oc t g cap':Nat}{st:MS}:(dS oc t g cap' st).sym=st.B.sym:=by
 unfold dS;split <;> rfl
theorem Rep.enter{w w5 w':World}{bv bm bo:Nat}{V:aW}(R:Rep w bv bm bo V){i b s t g cap':Nat}{o:Ask}{L:Nat→Prop}(hi:i<V.nb)(hs:s<2)(ht:t=1-s)(hno:V.no<200)(hfree:V.aO o.id=none)
 (hb:w.heap.size≤b) (hbo:bC w5 b (aI o) 0) {rX:Lm} (hv5:aK w5 bv bm bo (V.lg.opened o.id) rX) (KT:∀x,rX.F x→V.lm.F x∨w.heap.size≤x) (k5:ag (fun x=>x=bo∨x=bv∨V.lm.F x) w w5) (m5:∃fO,jD w5 3 bo fO (V.no+1)∧(∀id,fO (.int .i64 id)=if id=o.id then some b else V.aO id)) (iv:Inv b s ⟨V.B i,upd V.om b (aI o),V.lg.opened o.id⟩) (hL:L=fun x=>x=b∨∃id,V.aO id=some x)
 (m:Mk w' (V.bk i) (dS b t g cap' (mF b s ⟨V.B i,upd V.om b (aI o),V.lg.opened o.id⟩)) (aA b (mF b s ⟨V.B i,upd V.om b (aI o),V.lg.opened o.id⟩)) L) {aY:Lm} (hv:aK w' bv bm bo (l9 b (mF b s ⟨V.B i,upd V.om b (aI o),V.lg.opened o.id⟩)) aY)
 (k:ag (fun x=>x=bv∨rX.F x∨x=V.bk i∨x=b∨bQ (V.B i) s x∨bQ (V.B i) t x) w5 w') (hg:iP ((V.B i).sl t)=some g∨w5.heap.size≤g):Rep w' bv bm bo (V.enter i b s t g cap' o aY):=by
 obtain⟨a1,a2,a3,a4⟩:=uI (mu b s ⟨V.B i,upd V.om b (aI o),V.lg.opened o.id⟩) ⟨V.B i,upd V.om b (aI o),V.lg.opened o.id⟩ iv
 obtain⟨f1,f2,f3,f4,f5⟩:=jG b s (mu b s ⟨V.B i,upd V.om b (aI o),V.lg.opened o.id⟩) ⟨V.B i,upd V.om b (aI o),V.lg.opened o.id⟩
 change ∀x,((mF b s ⟨V.B i,upd V.om b (aI o),V.lg.opened o.id⟩).om x).id=_∧_ at a1
 change ∀x,x≠b→¬bQ (V.B i) s x→(mF b s ⟨V.B i,upd V.om b (aI o),V.lg.opened o.id⟩).om x=upd V.om b (aI o) x at a2
 change ∀x,bQ (mF b s ⟨V.B i,upd V.om b (aI o),V.lg.opened o.id⟩).B s x→bQ (V.B i) s x at a3
 change ∀t,t≠s→(mF b s ⟨V.B i,upd V.om b (aI o),V.lg.opened o.id⟩).B.n t=(V.B i).n t∧(mF b s ⟨V.B i,upd V.om b (aI o),V.lg.opened o.id⟩).B.h t=(V.B i).h t at f1
 change (mF b s ⟨V.B i,upd V.om b (aI o),V.lg.opened o.id⟩).B.sl=(V.B i).sl at f2
 change (mF b s ⟨V.B i,upd V.om b (aI o),V.lg.opened o.id⟩).B.sym=(V.B i).sym at f4
 simp only at a1
 unfold aW.enter
 generalize mF b s ⟨V.B i,upd V.om b (aI o),V.lg.opened o.id⟩=st1 at *
 have t2:t<2:=by omega
 have two:∀x,x<2→x=s∨x=t:=by omega
 have Gq:∀j,j<V.nb→∀x,x<2→∀y,bQ (V.B j) x y→y<w.heap.size:=fun j hj x hx y h=>by
  rcases h with h | ⟨l,hl,rfl⟩
  ·exact ((R.book j hj).side x hx).lt h
  ·exact (((R.book j hj).side x hx).aQ hl).lt
 have Yw:∀x,x<2→∀y,bQ st1.B x y→bQ (V.B i) x y:=fun x hx y h=>by
  rcases two x hx with rfl | rfl
  ·exact a3 y h
  ·by_cases e:x=s
   ·rw[e]at h ⊢;exact a3 y h
   ·unfold bQ at h ⊢
    rw[f2,(f1 x e).1,(f1 x e).2]at h
    exact h
 have yC:∀x,x≠b→¬bQ (V.B i) s x→aA b st1 x=V.om x:=fun x h1 h2=>by rw[nY _ _ h1,a2 x h1 h2,af _ _ h1]
 have aae:∀j,j<V.nb→j≠i→aX w' (V.bk j) (V.B j) (aA b st1):=fun j hj hne=>by
  have hbk:=R.book j hj
  have h5:aX w5 (V.bk j) (V.B j) V.om:=hbk.kept k5 (by
   obtain⟨fO,mO,_⟩:=R.orders
   have key:∀{x c t},ai w x c t→(t=158∨t=114∨t=116)→¬(x=bo∨x=bv∨V.lm.F x):=by
    rintro x c t hx ht (e | e | e)
    ·exact mO.ne hx e.symm
    ·exact ai.ne hx R.cZ (by rcases ht with rfl | rfl | rfl <;> decide) e
    ·exact R.log.log.ne hx (by rcases ht with rfl | rfl | rfl <;> decide) (by rcases ht with rfl | rfl | rfl <;> decide) (by rcases ht with rfl | rfl | rfl <;> decide) (by rcases ht with rfl | rfl | rfl <;> decide) (by rcases ht with rfl | rfl | rfl <;> decide) e
   rintro x (rfl | ⟨y,hy,h⟩)
   ·exact key hbk.blk (.inl rfl)
   ·rcases h with h | ⟨l,hl,rfl⟩
    ·rcases (hbk.side y hy) with⟨h0,_⟩ | ⟨ab,hab,hsd⟩
     ·rw[h0]at h;simp[iP]at h
     ·obtain⟨cs,hcs,_⟩:=hsd.arr
      rw[hab]at h
      simp[iP]at h
      rw[h]at hcs
      exact key hcs (.inr (.inl rfl))
    ·exact key ((hbk.side y hy).aQ hl) (.inr (.inr rfl)))
  have nS:∀x,(x=V.bk j∨∃y,y<2∧bQ (V.B j) y x)→¬(x=bv∨rX.F x∨x=V.bk i∨x=b∨bQ (V.B i) s x∨bQ (V.B i) t x):=by
   have hbi:=(R.book i hi).blk
   rintro x (rfl | ⟨y,hy,h⟩) (e | e | e | e | e | e)
   ·exact ai.ne hbk.blk R.cZ (by decide) e
   ·rcases KT _ e with e | e
    ·exact R.log.log.ne hbk.blk (by decide) (by decide) (by decide) (by decide) (by decide) e
    ·have:=hbk.blk.lt;omega
   ·exact R.uT j i hj hi hne e
   ·have:=hbk.blk.lt;omega
   ·rcases e with e | ⟨l,hl,e⟩
    ·exact ((R.book i hi).side s hs).ne hbk.blk (by decide) e
    ·exact ai.ne hbk.blk (((R.book i hi).side s hs).aQ hl) (by decide) e
   ·rcases e with e | ⟨l,hl,e⟩
    ·exact ((R.book i hi).side t t2).ne hbk.blk (by decide) e
    ·exact ai.ne hbk.blk (((R.book i hi).side t t2).aQ hl) (by decide) e
   ·rw[e]at h
    rcases h with h | ⟨l,hl,h⟩
    ·exact (hbk.side y hy).ne R.cZ (by decide) h
    ·exact ai.ne R.cZ ((hbk.side y hy).aQ hl) (by decide) h
   ·have hxl:=Gq j hj y hy x h
    have e:V.lm.F x:=(KT x e).elim id (fun h=>by omega)
    obtain⟨c,t',hc,ht'⟩:=R.log.log.typ e
    rcases h with h | ⟨l,hl,h⟩
    ·exact (hbk.side y hy).ne hc (by rcases ht' with rfl | rfl | rfl | rfl | rfl | rfl <;> decide) h
    ·subst h
     exact ai.ne hc ((hbk.side y hy).aQ hl) (by rcases ht' with rfl | rfl | rfl | rfl | rfl | rfl <;> decide) rfl
   ·rw[e]at h
    rcases h with h | ⟨l,hl,h⟩
    ·exact (hbk.side y hy).ne hbi (by decide) h
    ·exact ai.ne hbi ((hbk.side y hy).aQ hl) (by decide) h
   ·have:=Gq j hj y hy x h;omega
   ·exact R.oG j i hj hi hne y s hy hs x h e
   ·exact R.oG j i hj hi hne y t hy t2 x h e
  have h6:aX w' (V.bk j) (V.B j) V.om:=h5.kept k (fun x h=>nS x (by
   rcases h with h | ⟨y,hy,h⟩
   ·exact .inl h
   ·exact .inr ⟨y,hy,h⟩))
  refine⟨h6.blk,fun y hy=>(h6.side y hy).om (fun l hl=>?_),h6.apart,h6.sZ⟩
  have hsd:bQ (V.B j) y ((V.B j).h y l):=.inr ⟨l,hl,rfl⟩
  refine yC _ ?_ (R.oG j i hj hi hne y s hy hs _ hsd)
  have:=Gq j hj y hy _ hsd
  omega
 have hgl:∀x,x<w.heap.size→(iP ((V.B i).sl t)=some x∨x≠g):=fun x hx=>by
  rcases hg with h | h
  ·by_cases e:x=g
   ·exact .inl (by rw[e];exact h)
   ·exact .inr e
  ·right
   have:=k5.size
   omega
 obtain⟨fB,mB,pK,ui⟩:=R.books
 obtain⟨fO5,X5,aag⟩:=m5
 have XB:jD w5 9 bm fB V.nb:=mB.kept k5 (by
  rintro (e | e | e)
  ·exact R.MQ e
  ·exact mB.ne R.cZ e
  ·obtain⟨c,t',hc,_⟩:=R.log.log.typ e
   exact mB.ne hc rfl)
 have notS:∀z,(∀b' c t',ai w5 b' c t'→z≠b')→¬(z=bv∨rX.F z∨z=V.bk i∨z=b∨bQ (V.B i) s z∨bQ (V.B i) t z):=by
  intro z hz
  have bov:∀{b' c t'},ai w b' c t'→b'≠bo→(t'=158∨t'=114∨t'=116)→ai w5 b' c t':=fun h hne ht=>k5.blk h (by
   rintro (e | e | e)
   ·exact hne e
   ·exact ai.ne h R.cZ (by rcases ht with rfl | rfl | rfl <;> decide) e
   ·exact R.log.log.ne h (by rcases ht with rfl | rfl | rfl <;> decide) (by rcases ht with rfl | rfl | rfl <;> decide) (by rcases ht with rfl | rfl | rfl <;> decide) (by rcases ht with rfl | rfl | rfl <;> decide) (by rcases ht with rfl | rfl | rfl <;> decide) e)
  obtain⟨fO,mO,_⟩:=R.orders
  have Yv:∀x,x<2→¬bQ (V.B i) x z:=by
   rintro x hx (e | ⟨l,hl,e⟩)
   ·rcases ((R.book i hi).side x hx) with⟨h0,_⟩ | ⟨ab,hab,hsd⟩
    ·rw[h0]at e;simp[iP]at e
    ·obtain⟨cs,hcs,_⟩:=hsd.arr
     rw[hab]at e
     simp[iP]at e
     exact hz ab _ _ (bov hcs (Ne.symm (mO.ne hcs)) (by simp)) e.symm
   ·have h:=((R.book i hi).side x hx).aQ hl
    exact hz _ _ _ (bov h (Ne.symm (mO.ne h)) (by simp)) e
  rintro (e | e | e | e | e | e)
  ·exact hz bv _ _ hv5.cZ e
  ·obtain⟨c,t',hc,_⟩:=hv5.log.typ e
   exact hz z _ _ hc rfl
  ·exact hz _ _ _ (bov (R.book i hi).blk (Ne.symm (mO.ne (R.book i hi).blk)) (by simp)) e
  ·exact hz b _ _ hbo e
  ·exact Yv s hs e
  ·exact Yv t t2 e
 refine⟨hv,⟨fB,XB.kept k (notS bm (fun b' c t' h=>XB.ne h)),?_,?_⟩,⟨fO5,X5.kept k (notS bo (fun b' c t' h=>X5.ne h)),aag⟩,R.MQ,?_,?_,?_,R.uT,?_,by show V.no+1≤200;omega⟩
 ·intro j hj
  by_cases e:j=i
  ·subst e;simp only[upd_same,mZ,f4];exact pK j hj
  ·simp only[af _ _ e];exact pK j hj
 ·intro s' b' h
  obtain⟨j,hj,e1,e2⟩:=ui s' b' h
  refine⟨j,hj,e1,?_⟩
  by_cases e:j=i
  ·subst e;simp only[upd_same,mZ,f4];exact e2
  ·simp only[af _ _ e];exact e2
 ·intro j hj
  by_cases e:j=i
  ·subst e;simp only[upd_same];exact m.book
  ·simp only[af _ _ e];exact aae j hj e
 ·intro id x hx
  simp only at hx ⊢
  rw[uy,(a1 x).1]
  by_cases e:id=o.id
  ·rw[if_pos e]at hx
   simp only[Option.some.injEq]at hx
   rw[←hx,upd_same]
   exact⟨e.symm,m.aQ b (by rw[hL];exact .inl rfl)⟩
  ·rw[if_neg e]at hx
   obtain⟨h1,ix,h2⟩:=R.aQ id x hx
   have:=h2.lt
   rw[af _ _ (by omega)]
   exact⟨h1,m.aQ x (by rw[hL];exact .inr ⟨id,hx⟩)⟩
 ·intro j hj x hx l hl
  simp only at hj hl ⊢
  by_cases e:j=i
  ·subst e
   simp only[upd_same]at hl ⊢
   have:=m.mem x hx l hl
   rw[hL]at this
   rcases this with h | ⟨id,h⟩
   ·exact⟨o.id,by rw[if_pos rfl,h]⟩
   ·by_cases e:id=o.id
    ·rw[e,hfree]at h;simp at h
    ·exact⟨id,by rw[if_neg e];exact h⟩
  ·simp only[af _ _ e]at hl ⊢
   obtain⟨id,h⟩:=R.mem j hj x hx l hl
   by_cases e:id=o.id
   ·rw[e,hfree]at h;simp at h
   ·exact⟨id,by rw[if_neg e];exact h⟩
 ·intro p q hp hq hne x y hx hy z h1 h2
  have half:∀p q,p<V.nb→q<V.nb→p≠q→p=i→∀x y,x<2→y<2→∀z,bQ (dS b t g cap' st1) x z→bQ (V.B q) y z→False:=by
   intro p q hp hq hne e x y hx hy z h1 h2
   have hz:=Gq q hq y hy z h2
   rcases xG h1 with h | h | h
   ·exact R.oG i q hi hq (by omega) x y hx hy z (Yw x hx z h) h2
   ·omega
   ·rcases hgl z hz with h' | h'
    ·exact R.oG i q hi hq (by omega) t y t2 hy z (.inl h') h2
    ·exact h' h
  by_cases e:p=i
  ·simp only[e,upd_same]at h1
   simp only[af _ _ (show q≠i by omega)]at h2
   exact half p q hp hq hne e x y hx hy z h1 h2
  ·simp only[af _ _ e]at h1
   by_cases e2:q=i
   ·simp only[e2,upd_same]at h2
    exact half q p hq hp (fun h=>hne h.symm) e2 y x hy hx z h2 h1
   ·simp only[af _ _ e2]at h2
    exact R.oG p q hp hq hne x y hx hy z h1 h2
def two(a b:Int)(i:Nat):Int:=if i=0 then a else b
def four(a b c d:Int)(i:Nat):Int:=if i=0 then a else if i=1 then b else if i=2 then c else d
def qp:ByteArray:=⟨#[101,110,116,101,114]⟩
def Bq:ByteArray:=⟨#[98,117,115,116]⟩
def rO(id owner:Int)(sym:ByteArray)(side kind price qty:Int):ByteArray:=(fC (two id owner) qp 2++⟨#[32]⟩)++fC (four side kind price qty) sym 4
def bZ(n:Int):Prop:=-9223372036854775808≤n∧n≤9223372036854775807
def Want(W:World)(w1:ByteArray)(a b:Int)(s1 w2:ByteArray)(c d e f:Int)(s2:ByteArray)(word:ByteArray)(sb m:Nat)(s:ByteArray):Prop :=
 (m=2∧word=w1∧W.cell? ⟨sb,0,none⟩=some (.int .i64 a)∧W.cell? ⟨sb,1,none⟩=some (.int .i64 b)∧s=s1) ∨
 (m=4∧word=w2∧W.cell? ⟨sb,0,none⟩=some (.int .i64 c)∧W.cell? ⟨sb,1,none⟩=some (.int .i64 d)∧W.cell? ⟨sb,2,none⟩=some (.int .i64 e)∧W.cell? ⟨sb,3,none⟩=some (.int .i64 f)∧s=s2)
theorem PY(w1 w2:ByteArray)(a b c d e f:Int)(h1:w1.size≤1000)(h2:w2.size≤1000)(ha:bZ a)(hb:bZ b)(hc:bZ c)(hd:bZ d)(he:bZ e)(hf:bZ f)(w0:World)(hT:Tab w0) :
 ∀W,ag ak w0 W→∀word sb m cap s,Want W w1 a b (fC (two a b) w1 2) w2 c d e f (fC (four c d e f) w2 4) word sb m s →
  Calls Tryz.prog 65 #[.string word,.slice (some ⟨sb,0,none⟩) m cap] W fun e w'=>e=.returned (.string s)∧ag ak w0 w'∧ag ak W w':=by
 intro W k word sb m cap s hw
 have hTW:=hT.aj k
 rcases hw with⟨rfl,rfl,c0,c1,rfl⟩ | ⟨rfl,rfl,c0,c1,c2,c3,rfl⟩
 ·refine (oq word (two a b) sb 2 cap W hTW (by omega) h1 ?_ ?_).mono ?_
  ·intro i hi
   match i,hi with
   | 0,_=>exact c0
   | 1,_=>exact c1
  ·intro i hi
   match i,hi with
   | 0,_=>exact ha
   | 1,_=>exact hb
  ·rintro e w' ⟨rfl,k2⟩
   exact⟨rfl,k.trans k2,k2⟩
 ·refine (oq word (four c d e f) sb 4 cap W hTW (by omega) h2 ?_ ?_).mono ?_
  ·intro i hi
   match i,hi with
   | 0,_=>exact c0
   | 1,_=>exact c1
   | 2,_=>exact c2
   | 3,_=>exact c3
  ·intro i hi
   match i,hi with
   | 0,_=>exact hc
   | 1,_=>exact hd
   | 2,_=>exact he
   | 3,_=>exact hf
  ·rintro e w' ⟨rfl,k2⟩
   exact⟨rfl,k.trans k2,k2⟩
theorem wF(id owner:Int)(sym:ByteArray)(side kind price qty:Int)(w:World)(hT:Tab w)(hs:sym.size≤1000)(h1:bZ id)(h2:bZ owner)(h3:bZ side)(h4:bZ kind)(h5:bZ price)(h6:bZ qty) :
 Calls Tryz.prog 113 #[.agg #[.int .i64 id,.int .i64 owner,.string sym,.int .i64 side,.int .i64 kind,.int .i64 price,.int .i64 qty]] w fun e w'=>e=.returned (.string (rO id owner sym side kind price qty))∧ag ak w w':=by
 obtain⟨w1,hw1⟩:∃w1,w1=w.alloc (.cells #[.int .i64 id,.int .i64 owner,.string sym,.int .i64 side,.int .i64 kind,.int .i64 price,.int .i64 qty] 52):=⟨_,rfl⟩
 have k0:ag ak w w1:=by rw[hw1];exact (ag.refl ak w).alloc _
 have b0:ai w1 w.heap.size #[.int .i64 id,.int .i64 owner,.string sym,.int .i64 side,.int .i64 kind,.int .i64 price,.int .i64 qty] 52:=by rw[hw1];exact ai.new _ _ _
 have hT1:=hT.aj k0
 have HW:=PY qp sym id owner side kind price qty (by decide) hs h1 h2 h3 h4 h5 h6 w1 hT1
 have z1:=iJ (two id owner) qp 2 (fun i hi=>by match i,hi with | 0,_=>exact h1 | 1,_=>exact h2)
 have z2:=iJ (four side kind price qty) sym 4 (fun i hi=>by match i,hi with | 0,_=>exact h3 | 1,_=>exact h4 | 2,_=>exact h5 | 3,_=>exact h6)
 unfold rO
 have zE:qp.size=5:=by decide
 rw[zE]at z1
 generalize fC (two id owner) qp 2=s1 at *
 generalize fC (four side kind price qty) sym 4=s2 at *
 have c1:=dV (P:=Tryz.prog) s1 ⟨#[32]⟩ (by show s1.size+1≤1000000;omega)
 have c2:=dV (P:=Tryz.prog) (s1++⟨#[32]⟩) s2 (by rw[ByteArray.size_append];show (s1.size+1)+s2.size≤1000000;omega)
 obtain⟨H,hH⟩:∃H,w.heap.size=H:=⟨_,rfl⟩
 rw[hH]at b0
 have x0:w1.cell? ⟨H,0,none⟩=some (.int .i64 id):=b0.cell 0
 have x1:w1.cell? ⟨H,1,none⟩=some (.int .i64 owner):=b0.cell 1
 have x2:w1.cell? ⟨H,2,none⟩=some (.string sym):=b0.cell 2
 have x3:w1.cell? ⟨H,3,none⟩=some (.int .i64 side):=b0.cell 3
 have x4:w1.cell? ⟨H,4,none⟩=some (.int .i64 kind):=b0.cell 4
 have x5:w1.cell? ⟨H,5,none⟩=some (.int .i64 price):=b0.cell 5
 have x6:w1.cell? ⟨H,6,none⟩=some (.int .i64 qty):=b0.cell 6
 have lH:H<w1.heap.size:=b0.lt
 have HWW:=hide HW
 have uh:=hide k0
 have HW1:=hide hw1
 clear HW k0 hw1 hT1 hT b0 h1 h2 h3 h4 h5 h6 z1 z2 zE hs
 go_enter Tryz.func113,Tryz.ntmps113
 go_wp2
 rw[←ae HW1]
 go_region_held3 (fun w'=>w'.cell? ⟨H,0,none⟩=some (.int .i64 id)∧w'.cell? ⟨H,1,none⟩=some (.int .i64 owner)∧w'.cell? ⟨H,2,none⟩=some (.string sym)∧w'.cell? ⟨H,3,none⟩=some (.int .i64 side)∧w'.cell? ⟨H,4,none⟩=some (.int .i64 kind)∧w'.cell? ⟨H,5,none⟩=some (.int .i64 price)∧w'.cell? ⟨H,6,none⟩=some (.int .i64 qty)) (go_keep)
  (first
    | (go_at_call 65;refine (ae HWW _ ?cc _ _ _ _ s1 ?wt).mono ?_;(case wt=>exact Or.inl ⟨rfl,rfl,by go_keep,by go_keep,rfl⟩);(case cc=>repeat (first | exact ae P6 | exact ag.refl _ _ | refine ag.drew ?_ | refine ag.alloc ?_ _));rintro e w3 ⟨rfl,hk,hkW⟩;have VW:=hide hkW;clear hkW;have k0:=hk.cell (p:=⟨H,0,none⟩) x0 (fun x=>x);have k1:=hk.cell (p:=⟨H,1,none⟩) x1 (fun x=>x);have k2:=hk.cell (p:=⟨H,2,none⟩) x2 (fun x=>x);have k3:=hk.cell (p:=⟨H,3,none⟩) x3 (fun x=>x);have k4:=hk.cell (p:=⟨H,4,none⟩) x4 (fun x=>x);have k5:=hk.cell (p:=⟨H,5,none⟩) x5 (fun x=>x);have k6:=hk.cell (p:=⟨H,6,none⟩) x6 (fun x=>x);have P6:=hide hk;clear hk)
    | (go_at_call 65;refine (ae HWW _ ?cc _ _ _ _ s2 ?wt).mono ?_;(case wt=>exact Or.inr ⟨rfl,rfl,(by first | go_keep | exact (ae VW).cell (by go_keep) (fun x=>x)),(by first | go_keep | exact (ae VW).cell (by go_keep) (fun x=>x)),(by first | go_keep | exact (ae VW).cell (by go_keep) (fun x=>x)),(by first | go_keep | exact (ae VW).cell (by go_keep) (fun x=>x)),rfl⟩);(case cc=>repeat (first | exact ae P6 | exact ag.refl _ _ | refine ag.drew ?_ | refine ag.alloc ?_ _));rintro e w3 ⟨rfl,hk,hkW⟩;have VW:=hide hkW;clear hkW;have k0:=hk.cell (p:=⟨H,0,none⟩) x0 (fun x=>x);have k1:=hk.cell (p:=⟨H,1,none⟩) x1 (fun x=>x);have k2:=hk.cell (p:=⟨H,2,none⟩) x2 (fun x=>x);have k3:=hk.cell (p:=⟨H,3,none⟩) x3 (fun x=>x);have k4:=hk.cell (p:=⟨H,4,none⟩) x4 (fun x=>x);have k5:=hk.cell (p:=⟨H,5,none⟩) x5 (fun x=>x);have k6:=hk.cell (p:=⟨H,6,none⟩) x6 (fun x=>x);have P6:=hide hk;clear hk))
 all_goals
  go_wp2
  go_ret
  exact⟨rfl,(ae uh).trans (by repeat (first | exact ae P6 | exact ag.refl _ _ | refine ag.drew ?_ | refine ag.drewN ?_ _ | refine ag.alloc ?_ _))⟩
end Go.Proofs.YtigaphnafnpfnaaGreatDoor
namespace Go.Proofs.YtigaphnafnpfnaaGreatDoor
structure Qo(M:Int)(o:Ord):Prop where
 sum:o.entered=o.opn+o.filled+o.aG+o.exp
 o0:0≤o.opn
 f0:0≤o.filled
 c0:0≤o.aG
 e0:0≤o.exp
 hi:o.entered≤M
theorem Qo.fill{M:Int}{o:Ord}(h:Qo M o){q:Int}(h1:0≤q)(h2:q≤o.opn)(hM:M≤1000000000000000):Qo M (iE o q)∧(iE o q).opn=o.opn-q∧(iE o q).filled=o.filled+q:=by
 obtain⟨a,b,c,d,e,f⟩:=h
 have e1:(iE o q).opn=o.opn-q:=by simp only[iE];exact aF (by omega) (by omega)
 have e2:(iE o q).filled=o.filled+q:=by simp only[iE];exact aF (by omega) (by omega)
 refine⟨⟨?_,by rw[e1];omega,by rw[e2];omega,d,e,f⟩,e1,e2⟩
 show o.entered=_
 rw[e1,e2,a]
 show _=o.opn-q+(o.filled+q)+o.aG+o.exp
 omega
theorem Qo.aG{M:Int}{o:Ord}(h:Qo M o)(hM:M≤1000000000000000):Qo M (fA o)∧(fA o).opn=0∧(fA o).aG=o.aG+o.opn:=by
 obtain⟨a,b,c,d,e,f⟩:=h
 have e2:(fA o).aG=o.aG+o.opn:=by simp only[fA];exact aF (by omega) (by omega)
 refine⟨⟨?_,by show (0:Int)≤0;omega,c,by rw[e2];omega,e,f⟩,rfl,e2⟩
 show o.entered=_
 rw[e2,a]
 show _=0+o.filled+(o.aG+o.opn)+o.exp
 omega
def Stat(o o':Ord):Prop:=o'.id=o.id∧o'.owner=o.owner∧o'.sym=o.sym∧o'.side=o.side∧o'.kind=o.kind∧o'.price=o.price∧o'.qty=o.qty∧o'.place=o.place∧o'.entered=o.entered∧o'.exp=o.exp
theorem Stat.refl(o:Ord):Stat o o:=⟨rfl,rfl,rfl,rfl,rfl,rfl,rfl,rfl,rfl,rfl⟩
theorem Stat.trans{a b c:Ord}(h:Stat a b)(k:Stat b c):Stat a c:=by
 obtain⟨a1,a2,a3,a4,a5,a6,a7,a8,a9,a10⟩:=h
 obtain⟨b1,b2,b3,b4,b5,b6,b7,b8,b9,b10⟩:=k
 exact⟨b1.trans a1,b2.trans a2,b3.trans a3,b4.trans a4,b5.trans a5,b6.trans a6,b7.trans a7,b8.trans a8,b9.trans a9,b10.trans a10⟩
theorem Stat.fill(o:Ord)(q:Int):Stat o (iE o q):=⟨rfl,rfl,rfl,rfl,rfl,rfl,rfl,rfl,rfl,rfl⟩
theorem Stat.aG(o:Ord):Stat o (fA o):=⟨rfl,rfl,rfl,rfl,rfl,rfl,rfl,rfl,rfl,rfl⟩
abbrev jK(st:MS)(s x:Nat):Prop:=Mem (st.B.n s) (st.B.h s) x
structure Run(oc s:Nat)(M:Int)(st0 st:MS):Prop where
 q:∀x,(x=oc∨jK st0 s x)→Qo M (st.om x)
 mem:∀x,jK st s x→jK st0 s x
 gone:∀x,jK st0 s x→¬jK st s x→(st.om x).opn=0
 heap:dH (dW st.om) (st.B.n s) (st.B.h s)
 far:∀x,x≠oc→¬jK st0 s x→st.om x=st0.om x
 stat:∀x,Stat (st0.om x) (st.om x)
 Y2:(st0.om oc).filled≤(st.om oc).filled
 Zt:st0.tr≤st.tr
 eqv:(st.om oc).filled=(st0.om oc).filled↔st.tr=st0.tr
 aG:(st.om oc).aG=(st0.om oc).aG
 inv:Inv oc s st
theorem Run.trans{oc s:Nat}{M:Int}{a b c:MS}(h:Run oc s M a b)(k:Run oc s M b c)(iv:Inv oc s a):Run oc s M a c:=by
 have no:∀x,jK a s x→x≠oc:=fun x ⟨l,hl,e⟩=>by rw[e];exact (iv.mem l hl).2.2.2
 refine⟨fun x hx=>?_,fun x hx=>h.mem x (k.mem x hx),fun x hx hn=>?_,k.heap,fun x h1 h2=>?_,fun x=>(h.stat x).trans (k.stat x),by have:=h.Y2;have:=k.Y2;omega,by have:=h.Zt;have:=k.Zt;omega,?_,k.aG.trans h.aG,k.inv⟩
 ·by_cases e:x=oc
  ·exact k.q x (.inl e)
  ·by_cases hm:jK b s x
   ·exact k.q x (.inr hm)
   ·rw[k.far x e hm];exact h.q x hx
 ·by_cases hm:jK b s x
  ·exact k.gone x hm hn
  ·rw[k.far x (no x hx) hm];exact h.gone x hx hm
 ·rw[k.far x h1 (fun hm=>h2 (h.mem x hm)),h.far x h1 h2]
 ·have a1:=h.Y2;have a2:=k.Y2;have a3:=h.Zt;have a4:=k.Zt;have a5:=h.eqv;have a6:=k.eqv
  constructor
  ·intro e
   have e1:(b.om oc).filled=(a.om oc).filled:=by omega
   have e2:(c.om oc).filled=(b.om oc).filled:=by omega
   rw[a6.1 e2,a5.1 e1]
  ·intro e
   have e1:b.tr=a.tr:=by omega
   have e2:c.tr=b.tr:=by omega
   rw[a6.2 e2,a5.2 e1]
theorem jo{B:Bk}{om:Nat→Ord}{s i:Nat}(hinj:qP (B.n s) (B.h s))(hi:i<B.n s)(x:Nat):Mem ((B.leave om s i).n s) ((B.leave om s i).h s) x↔Mem (B.n s) (B.h s) x∧x≠B.h s i:=by
 have h0:qP (B.n s-1+1) (B.h s):=by rw[show B.n s-1+1=B.n s by omega];exact hinj
 have:=lL (lt:=dW om) (B.h s) i (n:=B.n s-1) (by omega) (h0.remove (by omega)) x
 rw[show B.n s-1+1=B.n s by omega]at this
 simp only[Bk.leave,upd_same]
 exact this
theorem rV{B:Bk}{om df:Nat→Ord}{s i:Nat}(hlt:dW df=dW om)(hside:∀k,k<B.n s→(om (B.h s k)).side=(s:Int))(ok:dH (dW om) (B.n s) (B.h s))(hi:i<B.n s):dH (dW df) ((B.leave df s i).n s) ((B.leave df s i).h s):=by
 simp only[Bk.leave,upd_same]
 rw[hlt]
 refine AY (lQ om (s:Int)) (B.h s) i (by omega) (fun k hk=>hside k (by omega)) ?_
 rw[show B.n s-1+1=B.n s by omega]
 exact ok
theorem Je{om:Nat→Ord}{oc ow:Nat}(hne:ow≠oc):dW (aH om oc ow)=dW om:=by
 unfold aH
 simp only
 rw[CQ,CQ]
 ·rfl
 ·rfl
 ·rfl
 ·rw[af _ _ hne];rfl
 ·rw[af _ _ hne];rfl
 ·rw[af _ _ hne];rfl
theorem uJ{oc s:Nat}{M:Int}{st:MS}(hM:M≤1000000000000000)(iv:Inv oc s st)(hn:0<st.B.n s)(hp:0<(st.om oc).opn)(hh:dH (dW st.om) (st.B.n s) (st.B.h s))(hq:∀x,(x=oc∨jK st s x)→Qo M (st.om x)):Run oc s M st (bV oc s st):=by
 have OE:=(qi iv hn hp).1
 obtain⟨B,om,lg⟩:=st
 simp only at hn hp hh
 have hr:=iv.mem 0 hn
 simp only at hr
 obtain⟨hs0,hpos,hmax,hne⟩:=hr
 have hrm:jK ⟨B,om,lg⟩ s (B.h s 0):=⟨0,hn,rfl⟩
 have hside:∀k,k<B.n s→(om (B.h s k)).side=(s:Int):=fun k hk=>(iv.mem k hk).1
 have Ld:qP (B.n s) (B.h s):=iv.inj
 have qr:Qo M (om (B.h s 0)):=hq _ (.inr hrm)
 have qc:Qo M (om oc):=hq _ (.inl rfl)
 unfold bV at OE ⊢
 simp only at OE ⊢
 by_cases ho:(om (B.h s 0)).owner=(om oc).owner
 ·rw[if_pos ho]at OE ⊢
  obtain⟨c1,c2,c3⟩:=qr.aG hM
  have hoc:upd om (B.h s 0) (fA (om (B.h s 0))) oc=om oc:=af _ _ (fun e=>hne e.symm)
  have hlt:dW (upd om (B.h s 0) (fA (om (B.h s 0))))=dW om:=CQ rfl rfl rfl
  refine⟨fun x hx=>?_,fun x hx=>?_,fun x hx hnx=>?_,?_,fun x h1 h2=>?_,fun x=>?_,?_,Int.le_refl _,?_,?_,OE⟩
  ·by_cases e:x=B.h s 0
   ·simp only[e,upd_same];exact c1
   ·simp only[af _ _ e];exact hq x hx
  ·exact ((jo Ld hn x).1 hx).1
  ·have e:x=B.h s 0:=by
    by_cases e:x=B.h s 0
    ·exact e
    ·exact absurd ((jo Ld hn x).2 ⟨hx,e⟩) hnx
   simp only[e,upd_same];exact c2
  ·simp only
   have:=rV (df:=om) rfl hside hh hn
   rw[hlt];exact this
  ·exact af _ _ (fun e=>h2 (e▸hrm))
  ·simp only
   by_cases e:x=B.h s 0
   ·rw[e,upd_same];exact Stat.aG _
   ·rw[af _ _ e];exact Stat.refl _
  ·simp only[hoc];exact Int.le_refl _
  ·exact⟨fun _=>rfl,fun _=>by simp only[hoc]⟩
  ·simp only[hoc]
 ·rw[if_neg ho]at OE ⊢
  obtain⟨q,hqq⟩:∃q,min (om oc).opn (om (B.h s 0)).opn=q:=⟨_,rfl⟩
  have q0:0<q:=by omega
  obtain⟨c1,c2,c3⟩:=qc.fill (q:=q) (by omega) (by omega) hM
  obtain⟨d1,d2,d3⟩:=qr.fill (q:=q) (by omega) (by omega) hM
  have yV:aH om oc (B.h s 0) oc=iE (om oc) q:=by unfold aH;rw[af _ _ (fun e=>hne e.symm),upd_same,hqq]
  have MB:aH om oc (B.h s 0) (B.h s 0)=iE (om (B.h s 0)) q:=by unfold aH;rw[upd_same,hqq]
  have tot:∀x,x≠oc→x≠B.h s 0→aH om oc (B.h s 0) x=om x:=fun x h1 h2=>by unfold aH;rw[af _ _ h2,af _ _ h1]
  have hlt:=Je (om:=om) hne
  have hmem:∀x,Mem ((dM B om oc (B.h s 0) s).n s) ((dM B om oc (B.h s 0) s).h s) x→Mem (B.n s) (B.h s) x:=by
   intro x hx
   unfold dM at hx
   split at hx
   ·exact ((jo Ld hn x).1 hx).1
   ·exact hx
  have Xv:∀x,Mem (B.n s) (B.h s) x→¬Mem ((dM B om oc (B.h s 0) s).n s) ((dM B om oc (B.h s 0) s).h s) x→(aH om oc (B.h s 0) x).opn=0:=by
   intro x hx hnx
   unfold dM at hnx
   split at hnx
   ·rename_i hz
    have e:x=B.h s 0:=by
     by_cases e:x=B.h s 0
     ·exact e
     ·exact absurd ((jo Ld hn x).2 ⟨hx,e⟩) hnx
    rw[e];exact hz
   ·exact absurd hx hnx
  have hheap:dH (dW (aH om oc (B.h s 0))) ((dM B om oc (B.h s 0) s).n s) ((dM B om oc (B.h s 0) s).h s):=by
   unfold dM
   split
   ·exact rV hlt hside hh hn
   ·rw[hlt];exact hh
  have htr:MS.tr ⟨dM B om oc (B.h s 0) s,aH om oc (B.h s 0),(dR lg om oc (B.h s 0)).kM (iW B om oc (B.h s 0))⟩=MS.tr ⟨B,om,lg⟩+1:=by simp[MS.tr,Lg.kM,Lg.told,Lg.kept,Lg.aS,iT]
  refine⟨fun x hx=>?_,hmem,Xv,hheap,fun x h1 h2=>tot x h1 (fun e=>h2 (e▸hrm)),fun x=>?_,?_,?_,?_,?_,OE⟩
  ·simp only
   by_cases e:x=oc
   ·rw[e,yV];exact c1
   ·by_cases e2:x=B.h s 0
    ·rw[e2,MB];exact d1
    ·rw[tot x e e2];exact hq x hx
  ·simp only
   by_cases e:x=oc
   ·rw[e,yV];exact Stat.fill _ _
   ·by_cases e2:x=B.h s 0
    ·rw[e2,MB];exact Stat.fill _ _
    ·rw[tot x e e2];exact Stat.refl _
  ·simp only[yV];rw[c3];omega
  ·rw[htr];omega
  ·rw[htr];simp only[yV];rw[c3]
   constructor <;> intro h <;> omega
  ·simp only[yV];rfl
theorem IB{oc s:Nat}{M:Int}(hM:M≤1000000000000000):∀(f:Nat) (st:MS),Inv oc s st→dH (dW st.om) (st.B.n s) (st.B.h s)→(∀x,(x=oc∨jK st s x)→Qo M (st.om x))→Run oc s M st (aZ oc s f st):=by
 intro f
 induction f with
 | zero=>exact fun st iv hh hq=>⟨hq,fun _ h=>h,fun _ h hn=>absurd h hn,hh,fun _ _ _=>rfl,fun _=>Stat.refl _,Int.le_refl _,Int.le_refl _,⟨fun _=>rfl,fun _=>rfl⟩,rfl,iv⟩
 | succ f ih =>
   intro st iv hh hq
   rw[aZ]
   split
   ·exact⟨hq,fun _ h=>h,fun _ h hn=>absurd h hn,hh,fun _ _ _=>rfl,fun _=>Stat.refl _,Int.le_refl _,Int.le_refl _,⟨fun _=>rfl,fun _=>rfl⟩,rfl,iv⟩
   ·rename_i hst
    obtain⟨hn,hp⟩:=kC hst
    have r1:=uJ hM iv hn hp hh hq
    exact r1.trans (ih _ r1.inv r1.heap (fun x hx=>r1.q x (hx.imp_right (r1.mem x)))) iv
theorem CW{oc s:Nat}:∀(f:Nat) (st:MS),Inv oc s st→mu oc s st≤f→stops oc s (aZ oc s f st)=true:=by
 intro f
 induction f with
 | zero =>
   intro st iv hf
   have h0:st.B.n s=0:=by unfold mu at hf;omega
   simp[aZ,stops,bK,h0]
 | succ f ih =>
   intro st iv hf
   rw[aZ]
   by_cases h:stops oc s st=true
   ·rw[if_pos h];exact h
   ·rw[if_neg h]
    obtain⟨hn,hp⟩:=kC h
    obtain⟨OE,hmu,_⟩:=qi iv hn hp
    exact ih _ OE (by omega)
end Go.Proofs.YtigaphnafnpfnaaGreatDoor
