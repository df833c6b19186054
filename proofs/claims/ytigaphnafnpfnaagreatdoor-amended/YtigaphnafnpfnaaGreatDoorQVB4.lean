import Derived.Test.YtigaphnafnpfnaaGreatDoorQVL3
set_option linter.unusedVariables false
set_option linter.unusedSimpArgs false
set_option maxHeartbeats 8000000
set_option maxRecDepth 100000
namespace Go.Proofs.YtigaphnafnpfnaaGreatDoor
open Go.RowKit
attribute [local go_sem ↓] Go.wp_at_zero Go.wp_at_succ
def qP(N:Nat)(h:Nat→Nat):Prop:=∀a b,a<N→b<N→h a=h b→a=b
theorem qP.swap{N:Nat}{h:Nat→Nat}(hi:qP N h){i j:Nat}(h1:i<N)(h2:j<N):qP N (sw h i j):=by
 intro a b ha hb e
 have key:∀c,c<N→∃d,d<N∧sw h i j c=h d∧(c=i→d=j)∧(c≠i→c=j→d=i)∧(c≠i→c≠j→d=c):=by
  intro c hc
  by_cases e1:c=i
  ·subst e1;exact⟨j,h2,DK _ _ _,fun _=>rfl,fun h=>absurd rfl h,fun h=>absurd rfl h⟩
  ·by_cases e2:c=j
   ·subst e2;exact⟨i,h1,Jb _ _ _,fun h=>absurd h e1,fun _ _=>rfl,fun _ h=>absurd rfl h⟩
   ·exact⟨c,hc,iO e1 e2,fun h=>absurd h e1,fun _ h=>absurd h e2,fun _ _=>rfl⟩
 obtain⟨d,hd,ed,d1,d2,d3⟩:=key a ha
 obtain⟨d',hd',ed',d1',d2',d3'⟩:=key b hb
 rw[ed,ed']at e
 have:=hi d d' hd hd' e
 by_cases a1:a=i <;> by_cases a2:a=j <;> by_cases b1:b=i <;> by_cases b2:b=j <;> simp_all <;> omega
theorem qP.up{lt:Nat→Nat→Bool}{N:Nat}{h:Nat→Nat}{j:Nat}(hi:qP N h)(hj:j<N):qP N (qN lt h j):=by
 fun_induction qN lt h j with
 | case1=>exact hi
 | case3=>exact hi
 | case2 h j hj0 hl ih=>exact ih (hi.swap (by omega) hj) (by omega)
theorem qP.down{lt:Nat→Nat→Bool}{n N:Nat}{h:Nat→Nat}{i:Nat}(hi:qP N h)(hN:n≤N):qP N (dn lt n h i).1:=by
 fun_induction dn lt n h i with
 | case1 h i hn _ hl ih =>
   have:=ny lt n h i hn
   exact ih (hi.swap (by omega) (by omega))
 | case2=>exact hi
 | case3=>exact hi
theorem qP.remove{lt:Nat→Nat→Bool}{n:Nat}{h:Nat→Nat}{i:Nat}(hi:qP (n+1) h)(hin:i≤n):qP (n+1) (dO lt h n i):=by
 unfold dO
 split
 ·exact hi
 ·split
  ·exact (hi.swap (by omega) (by omega)).down (by omega)
  ·exact ((hi.swap (by omega) (by omega)).down (by omega)).up (by omega)
theorem gG.inj{w:World}{s:Option Addr}{n cap:Nat}{h:Nat→Nat}{om:Nat→Ord}(hs:gG w s n cap h om):qP n h:=by
 intro a b ha hb e
 rcases hs with⟨_,rfl,_⟩ | ⟨ab,_,hs⟩
 ·omega
 ·exact hs.inj ha hb e
structure Mk(w:World)(bb:Nat)(B:Bk)(om:Nat→Ord)(L:Nat→Prop):Prop where
 book:aX w bb B om
 aQ:∀b,L b→∃ix,bC w b (om b) ix
 mem:∀s,s<2→∀k,k<B.n s→L (B.h s k)
theorem Mk.leave{w w':World}{bb:Nat}{B:Bk}{om:Nat→Ord}{L:Nat→Prop}(m:Mk w bb B om L){s i:Nat}(hs:s<2)(hi:i<B.n s)(h1:aX w' bb (B.leave om s i) om)(h2:∃ix,bC w' (B.h s i) (om (B.h s i)) ix)(h3:ag (fun b=>b=bb∨bQ B s b) w w'):Mk w' bb (B.leave om s i) om L:=by
 have hinj:∀a b,a<(B.n s-1)+1→b<(B.n s-1)+1→dO (dW om) (B.h s) (B.n s-1) i a=dO (dW om) (B.h s) (B.n s-1) i b→a=b:=by
  have h0:qP (B.n s-1+1) (B.h s):=by rw[show B.n s-1+1=B.n s by omega];exact (m.book.side s hs).inj
  exact h0.remove (by omega)
 refine⟨h1,fun b hb=>?_,fun t ht k hk=>?_⟩
 ·by_cases e:b=B.h s i
  ·rw[e];exact h2
  ·obtain⟨ix,ho⟩:=m.aQ b hb
   by_cases hm:Mem (B.n s) (B.h s) b
   ·have hm':Mem (B.n s-1+1) (B.h s) b:=by rw[show B.n s-1+1=B.n s by omega];exact hm
    obtain⟨k,hk,e'⟩:=(lL (lt:=dW om) (B.h s) i (by omega) hinj b).2 ⟨hm',e⟩
    have:=(h1.side s hs).aQ (i:=k) (by simp only[Bk.leave,upd_same];exact hk)
    simp only[Bk.leave,upd_same]at this
    rw[←e']at this
    exact⟨k,this⟩
   ·refine⟨ix,h3.blk ho ?_⟩
    rintro (rfl | h | h)
    ·exact ai.ne ho m.book.blk (by decide) rfl
    ·exact (m.book.side s hs).ne ho (by decide) h
    ·exact hm h
 ·by_cases e:t=s
  ·subst e
   simp only[Bk.leave,upd_same]at hk ⊢
   obtain⟨k',hk',e'⟩:=(qg (lt:=dW om) (B.h t) i (n:=B.n t-1) (by omega) _).1 ⟨k,by omega,rfl⟩
   rw[e']
   exact m.mem t ht k' (by omega)
  ·simp only[Bk.leave,af _ _ e]at hk ⊢
   exact m.mem t ht k hk
theorem Mk.upd{w w':World}{bb:Nat}{B:Bk}{om:Nat→Ord}{L:Nat→Prop}(m:Mk w bb B om L){b:Nat}{o':Ord}{ix:Int}(ho:bC w b (om b) ix)(k:ag (fun x=>x=b) w w')(ho':bC w' b o' ix):Mk w' bb B (upd om b o') L:=by
 refine⟨m.book.upd ho k ho',fun x hx=>?_,m.mem⟩
 by_cases e:x=b
 ·subst e;rw[upd_same];exact⟨ix,ho'⟩
 ·rw[af _ _ e]
  obtain⟨iy,hy⟩:=m.aQ x hx
  exact⟨iy,k.blk hy e⟩
theorem Mk.kept{w w':World}{bb:Nat}{B:Bk}{om:Nat→Ord}{L:Nat→Prop}(m:Mk w bb B om L){S:Nat→Prop}(k:ag S w w')(h1:¬S bb)(h2:∀b,L b→¬S b)(h3:∀s,s<2→∀b,iP (B.sl s)=some b→¬S b):Mk w' bb B om L :=
 ⟨m.book.kept k (fun b hb=>by
  rcases hb with rfl | ⟨s,hs,h | ⟨j,hj,rfl⟩⟩
  ·exact h1
  ·exact h3 s hs b h
  ·exact h2 _ (m.mem s hs j hj)),fun b hb=>by obtain⟨ix,ho⟩:=m.aQ b hb;exact⟨ix,k.blk ho (h2 b hb)⟩,m.mem⟩
def um(w:World)(b:Nat)(o:Ord)(lo:Nat)(fn:Fn)(cp:Array Value):Prop:=fn=.func 151∧∃H,lo≤H∧cp=#[qK (H+1),qK H]∧wX w H b o
def Qs(w:World)(bb b lo:Nat)(fn:Fn)(cp:Array Value):Prop:=fn=.func 117∧∃H,lo≤H∧cp=#[qK H,qK (H+1)]∧wZ w H bb b
theorem nC(bb:Nat)(B:Bk)(om:Nat→Ord)(L:Nat→Prop)(s i:Nat)(w:World)(m:Mk w bb B om L)(hs:s<2)(hi:i<B.n s)(hside:(om (B.h s i)).side=(s:Int)) :
 Calls Tryz.prog 66 #[.pointer (some ⟨bb,0,none⟩),.pointer (some ⟨B.h s i,0,none⟩)] w fun e w'=>∃fn cp,e=.returned (.func fn #[] cp)∧Qs w' bb (B.h s i) w.heap.size fn cp∧Mk w' bb (B.leave om s i) om L∧ag (fun b=>b=bb∨bQ B s b) w w':=by
 refine (Lh bb B om s i w m.book hs hi hside).mono ?_
 rintro e w' ⟨rfl,h0,h1,h2,h3⟩
 exact⟨_,_,rfl,⟨rfl,_,Nat.le_refl _,rfl,h0⟩,m.leave hs hi h1 h2 h3,h3⟩
theorem Jz(bb b:Nat)(B:Bk)(om:Nat→Ord)(L:Nat→Prop)(q:Int)(w:World)(m:Mk w bb B om L)(hb:L b) :
 Calls Tryz.prog 177 #[.pointer (some ⟨b,0,none⟩),.int .i64 q] w fun e w'=>∃fn cp,e=.returned (.func fn #[] cp)∧um w' b (om b) w.heap.size fn cp∧Mk w' bb B (upd om b { om b with opn:=wrap64 ((om b).opn-q),filled:=wrap64 ((om b).filled+q) }) L∧ag (fun x=>x=b) w w':=by
 obtain⟨ix,ho⟩:=m.aQ b hb
 refine (NY b (om b) ix q w ho).mono ?_
 rintro e w' ⟨rfl,h0,h1,h2⟩
 exact⟨_,_,rfl,⟨rfl,_,Nat.le_refl _,rfl,h0⟩,m.upd ho h2 h1,h2⟩
theorem jU(bb b:Nat)(B:Bk)(om:Nat→Ord)(L:Nat→Prop)(w:World)(m:Mk w bb B om L)(hb:L b) :
 Calls Tryz.prog 67 #[.pointer (some ⟨b,0,none⟩)] w fun e w'=>∃fn cp,e=.returned (.func fn #[] cp)∧um w' b (om b) w.heap.size fn cp∧Mk w' bb B (upd om b { om b with opn:=0,aG:=wrap64 ((om b).aG+(om b).opn) }) L∧ag (fun x=>x=b) w w':=by
 obtain⟨ix,ho⟩:=m.aQ b hb
 refine (xA b (om b) ix w ho).mono ?_
 rintro e w' ⟨rfl,h0,h1,h2⟩
 exact⟨_,_,rfl,⟨rfl,_,Nat.le_refl _,rfl,h0⟩,m.upd ho h2 h1,h2⟩
def iE(o:Ord)(q:Int):Ord:={ o with opn:=wrap64 (o.opn-q),filled:=wrap64 (o.filled+q) }
def aH(om:Nat→Ord)(oc ow:Nat):Nat→Ord :=
 let q:=min (om oc).opn (om ow).opn
 upd (upd om oc (iE (om oc) q)) ow (iE (om ow) q)
def dM(B:Bk)(om:Nat→Ord)(oc ow s:Nat):Bk:=if (aH om oc ow ow).opn=0 then B.leave (aH om oc ow) s 0 else B
def iW(B:Bk)(om:Nat→Ord)(oc ow:Nat):Tr :=
 { num:=0,sym:=B.sym,price:=(om ow).price,qty:=min (om oc).opn (om ow).opn,jh:=if (om oc).side=1 then (om ow).id else (om oc).id,sell:=if (om oc).side=1 then (om oc).id else (om ow).id,day:=0 }
theorem Mk.gK{w w':World}{bb bv bm bo:Nat}{B:Bk}{om:Nat→Ord}{L:Nat→Prop}{G:Lg}{lm:Lm}(m:Mk w bb B om L)(hl:aK w bv bm bo G lm)(k:ag (fun b=>b=bv∨lm.F b) w w'):Mk w' bb B om L:=by
 have no:∀{b c t},ai w b c t→t≠100→t≠103→t≠62→t≠105→t≠109→t≠1∧t≠5→¬(b=bv∨lm.F b):=by
  rintro b c t hb h0 h1 h2 h3 h4 h5 (e | e)
  ·exact ai.ne hb hl.cZ h0 e
  ·exact hl.log.ne hb h1 h2 h3 h4 h5 e
 refine m.kept k (no m.book.blk (by decide) (by decide) (by decide) (by decide) (by decide) (by decide)) (fun b hb=>?_) (fun s hs b hb=>?_)
 ·obtain⟨ix,ho⟩:=m.aQ b hb
  exact no ho (by decide) (by decide) (by decide) (by decide) (by decide) (by decide)
 ·rcases m.book.side s hs with⟨h0,_⟩ | ⟨ab,hab,hsd⟩
  ·rw[h0]at hb;simp[iP]at hb
  ·obtain⟨cs,hcs,_⟩:=hsd.arr
   rw[hab]at hb
   simp[iP]at hb
   rw[←hb]
   exact no hcs (by decide) (by decide) (by decide) (by decide) (by decide) (by decide)
theorem eP.iI{w w':World}{bv bm bo:Nat}{G:Lg}{m:Lm}(h:aK w bv bm bo G m){S:Nat→Prop}(k:ag S w w')(hS:∀b,S b→∃c t,ai w b c t∧(t=158∨t=116∨t=114)):aK w' bv bm bo G m:=by
 refine h.kept k (fun hb=>?_) (fun b hf hb=>?_)
 ·obtain⟨c,t,hc,ht⟩:=hS bv hb
  exact ai.ne h.cZ hc (by rcases ht with rfl | rfl | rfl <;> decide) rfl
 ·obtain⟨c,t,hc,ht⟩:=hS b hb
  exact h.log.ne hc (by rcases ht with rfl | rfl | rfl <;> decide) (by rcases ht with rfl | rfl | rfl <;> decide) (by rcases ht with rfl | rfl | rfl <;> decide) (by rcases ht with rfl | rfl | rfl <;> decide) (by rcases ht with rfl | rfl | rfl <;> decide) hf
theorem Mk.typ{w:World}{bb:Nat}{B:Bk}{om:Nat→Ord}{L:Nat→Prop}(m:Mk w bb B om L){b:Nat}(h:b=bb∨L b∨∃s,s<2∧bQ B s b):∃c t,ai w b c t∧(t=158∨t=116∨t=114):=by
 rcases h with rfl | h | ⟨s,hs,h | ⟨k,hk,rfl⟩⟩
 ·exact⟨_,158,m.book.blk,.inl rfl⟩
 ·obtain⟨ix,ho⟩:=m.aQ b h
  exact⟨_,116,ho,.inr (.inl rfl)⟩
 ·rcases m.book.side s hs with⟨h0,_⟩ | ⟨ab,hab,hsd⟩
  ·rw[h0]at h;simp[iP]at h
  ·obtain⟨cs,hcs,_⟩:=hsd.arr
   rw[hab]at h
   simp[iP]at h
   rw[←h]
   exact⟨_,114,hcs,.inr (.inr rfl)⟩
 ·exact⟨_,116,(m.book.side s hs).aQ hk,.inr (.inl rfl)⟩
def dR(G:Lg)(om:Nat→Ord)(oc ow:Nat):Lg:=if (aH om oc ow ow).opn=0 then (G.aS [.now oc (om oc),.now ow (om ow)]).aS [.left ow] else G.aS [.now oc (om oc),.now ow (om ow)]
theorem iT(G:Lg)(om:Nat→Ord)(oc ow:Nat):(dR G om oc ow).tr=G.tr:=by unfold dR;split <;> rfl
theorem nK(G:Lg)(om:Nat→Ord)(oc ow:Nat):(dR G om oc ow).tp=G.tp:=by unfold dR;split <;> rfl
theorem yX(G:Lg)(om:Nat→Ord)(oc ow:Nat):(dR G om oc ow).day=G.day:=by unfold dR;split <;> rfl
theorem uX(G:Lg)(om:Nat→Ord)(oc ow:Nat):(dR G om oc ow).na=G.na:=by unfold dR;split <;> rfl
theorem uY(G:Lg)(om:Nat→Ord)(oc ow:Nat):(dR G om oc ow).nt.length≤G.nt.length+3:=by
 unfold dR
 split
 ·simp only[Lg.aS,List.length_append,List.length_cons,List.length_nil];omega
 ·simp only[Lg.aS,List.length_append,List.length_cons,List.length_nil];omega
theorem JP(bv bm bo:Nat)(G:Lg)(lm:Lm)(ds:List Back)(fv:Array Value)(w:World)(hL:aK w bv bm bo G lm)(hna:0<G.na)(fF:G.na≤3000000)(hnf:G.nt.length+fv.size<1000000000)(hc:0<fv.size)(hds:ds.length=fv.size)(hone:∀u∈fv.toList,u.oneCell'=true) :
 Calls Tryz.prog 53 #[.pointer (some ⟨bv,0,none⟩),.slice (some ⟨w.heap.size,0,none⟩) fv.size fv.size] (w.alloc (.cells fv 1)) fun e w'=>e=.returned (.tuple #[]) ∧
  ∃aY,aK w' bv bm bo (G.aS ds) aY∧(∀b,aY.F b→lm.F b∨w.heap.size≤b)∧ag (fun b=>lm.F b) w w':=by
 have k1:ag ak w (w.alloc (.cells fv 1)):=(ag.refl ak w).alloc _
 refine (note_any bv bm bo G lm ds fv.toList w.heap.size fv.size fv.size (w.alloc (.cells fv 1)) (hL.aj k1) hna fF hnf hc hds (by simp) (World.news_of_block (ai.new w fv 1)) hone).mono ?_
 rintro e w' ⟨rfl,aY,h1,h2,h3⟩
 exact⟨rfl,aY,h1,fun b hb=>(h2 b hb).imp_right (fun h=>Nat.le_trans k1.size h),k1.aC.trans h3⟩
theorem yA(bv bm bo:Nat)(G:Lg)(lm:Lm)(d:Back)(fn:Fn)(cp:Array Value)(w:World)(hL:aK w bv bm bo G lm)(hna:0<G.na)(fF:G.na≤3000000)(hnf:G.nt.length+1<1000000000) :
 Calls Tryz.prog 53 #[.pointer (some ⟨bv,0,none⟩),.slice (some ⟨w.heap.size,0,none⟩) 1 1] (w.alloc (.cells #[.func fn #[] cp] 1)) fun e w'=>e=.returned (.tuple #[]) ∧
  ∃aY,aK w' bv bm bo (G.aS [d]) aY∧(∀b,aY.F b→lm.F b∨w.heap.size≤b)∧ag (fun b=>lm.F b) w w' :=
 JP bv bm bo G lm [d] #[.func fn #[] cp] w hL hna fF hnf (by simp) rfl (by simp[Value.oneCell'])
theorem JO(bv bm bo:Nat)(G:Lg)(lm:Lm)(d d2:Back)(fn wC:Fn)(cp cp2:Array Value)(w:World)(hL:aK w bv bm bo G lm)(hna:0<G.na)(fF:G.na≤3000000)(hnf:G.nt.length+2<1000000000) :
 Calls Tryz.prog 53 #[.pointer (some ⟨bv,0,none⟩),.slice (some ⟨w.heap.size,0,none⟩) 2 2] (w.alloc (.cells #[.func fn #[] cp,.func wC #[] cp2] 1)) fun e w'=>e=.returned (.tuple #[]) ∧
  ∃aY,aK w' bv bm bo (G.aS [d,d2]) aY∧(∀b,aY.F b→lm.F b∨w.heap.size≤b)∧ag (fun b=>lm.F b) w w' :=
 JP bv bm bo G lm [d,d2] #[.func fn #[] cp,.func wC #[] cp2] w hL hna fF hnf (by simp) rfl (by simp[Value.oneCell'])
theorem MF(bv bb oc s bm bo:Nat)(G:Lg)(lm:Lm)(B:Bk)(om:Nat→Ord)(L:Nat→Prop)(w:World)(hv:aK w bv bm bo G lm)(m:Mk w bb B om L)(hs:s<2)(hn:0<B.n s)(hc:L oc)(hne:B.h s 0≠oc)(hside:(om (B.h s 0)).side=(s:Int))(hlen:G.tp.length<1000000000)(hlen2:G.tr.length<1000000000)(hna:0<G.na)(fF:G.na≤3000000)(hnf:G.nt.length+4<1000000000) :
 Calls Tryz.prog 152 #[.pointer (some ⟨bv,0,none⟩),.pointer (some ⟨bb,0,none⟩),.pointer (some ⟨oc,0,none⟩),.pointer (some ⟨B.h s 0,0,none⟩)] w fun e w'=>e=.returned (.tuple #[]) ∧
  Mk w' bb (dM B om oc (B.h s 0) s) (aH om oc (B.h s 0)) L∧∃aY,aK w' bv bm bo ((dR G om oc (B.h s 0)).kM (iW B om oc (B.h s 0))) aY∧(∀b,aY.F b→lm.F b∨w.heap.size≤b)∧ag (fun b=>b=bv∨lm.F b∨b=bb∨b=oc∨bQ B s b) w w':=by
 obtain⟨ixc,hoc⟩:=m.aQ oc hc
 obtain⟨ixw,how⟩:=m.aQ _ (m.mem s hs 0 hn)
 have c8:w.cell? ⟨oc,8,none⟩=some (.int .i64 (om oc).opn):=hoc.cell 8
 have w8:w.cell? ⟨B.h s 0,8,none⟩=some (.int .i64 (om (B.h s 0)).opn):=how.cell 8
 obtain⟨q,hq⟩:∃q,min (om oc).opn (om (B.h s 0)).opn=q:=⟨_,rfl⟩
 have HQ:=hide hq
 clear hq
 go_enter Tryz.func152,Tryz.ntmps152
 go_wp2
 go_quiet (fail)
 rw[ae HQ]
 go_wp2_with fail
 refine (Jz bb oc B om L q _ (m.kept ((ag.refl ak w).drewN _) (fun x=>x) (fun _ _ x=>x) (fun _ _ _ _ x=>x)) hc).mono ?_
 rintro e w1 ⟨fn1,cp1,rfl,-,m1,k1⟩
 clear c8 w8
 go_wp2_with fail
 refine (Jz bb (B.h s 0) B _ L q _ m1 (m.mem s hs 0 hn)).mono ?_
 rintro e w2 ⟨wC,cp2,rfl,-,m2,k2⟩
 rw[af _ _ hne]at m2
 have oL:upd (upd om oc { om oc with opn:=wrap64 ((om oc).opn-q),filled:=wrap64 ((om oc).filled+q) }) (B.h s 0) { om (B.h s 0) with opn:=wrap64 ((om (B.h s 0)).opn-q),filled:=wrap64 ((om (B.h s 0)).filled+q) }=aH om oc (B.h s 0):=by
  unfold aH iE;rw[ae HQ]
 rw[oL]at m2
 have hv2:aK w2 bv bm bo G lm:=((hv.aj ((ag.refl ak w).drewN _)).iI k1 (fun b h=>by subst h;exact⟨_,116,hoc.drewN _,.inr (.inl rfl)⟩)).iI k2 (fun b h=>by subst h;exact m1.typ (.inr (.inl (m.mem s hs 0 hn))))
 have kc2:ag (fun b=>b=bv∨lm.F b∨b=bb∨b=oc∨bQ B s b) w w2:=(((ag.refl _ w).drewN _).trans (k1.mono (fun b h=>.inr (.inr (.inr (.inl h)))))).trans (k2.mono (fun b h=>.inr (.inr (.inr (.inr (.inr ⟨0,hn,h⟩))))))
 have oH:=hide (JO bv bm bo G lm (.now oc (om oc)) (.now (B.h s 0) (om (B.h s 0))) fn1 wC cp1 cp2 w2 hv2 hna fF (by omega))
 have hmem:=m.mem s hs 0 hn
 clear oL k1 k2 hoc how m1 m
 go_wp2_with fail
 refine (ae oH).mono ?_
 rintro e w3 ⟨rfl,lI,hv3,hf3,kn3⟩
 have m3:=m2.gK hv2 (kn3.mono (fun b h=>.inr h))
 have Ig:ag (fun b=>b=bv∨lm.F b∨b=bb∨b=oc∨bQ B s b) w w3:=kc2.trans (kn3.mono (fun b h=>.inr (.inl h)))
 have qI:∀b,lI.F b→lm.F b∨w.heap.size≤b:=fun b hb=>(hf3 b hb).imp_right (fun h=>Nat.le_trans kc2.size h)
 obtain⟨iw3,XI⟩:=m3.aQ _ hmem
 have o8:w3.cell? ⟨B.h s 0,8,none⟩=some (.int .i64 (aH om oc (B.h s 0) (B.h s 0)).opn):=XI.cell 8
 have hsd2:(aH om oc (B.h s 0) (B.h s 0)).side=(s:Int):=by unfold aH;rw[upd_same];exact hside
 have yV:(aH om oc (B.h s 0) oc).side=(om oc).side∧(aH om oc (B.h s 0) oc).id=(om oc).id:=by
  unfold aH;rw[af _ _ (fun e=>hne e.symm),upd_same];exact⟨rfl,rfl⟩
 have MB:(aH om oc (B.h s 0) (B.h s 0)).price=(om (B.h s 0)).price∧(aH om oc (B.h s 0) (B.h s 0)).id=(om (B.h s 0)).id:=by
  unfold aH;rw[upd_same];exact⟨rfl,rfl⟩
 have HT:Hid (iW B om oc (B.h s 0)=⟨0,B.sym,(om (B.h s 0)).price,q,if (om oc).side=1 then (om (B.h s 0)).id else (om oc).id,if (om oc).side=1 then (om oc).id else (om (B.h s 0)).id,0⟩):=by
  show _=_;unfold iW;rw[ae HQ]
 have g1:=nK G om oc (B.h s 0)
 have g2:=iT G om oc (B.h s 0)
 have g3:=uX G om oc (B.h s 0)
 have g4:=uY G om oc (B.h s 0)
 have tail:∀w5 B5 rX V,(iW B om oc (B.h s 0)).val=V→Mk w5 bb B5 (aH om oc (B.h s 0)) L→aK w5 bv bm bo (dR G om oc (B.h s 0)) rX→(∀b,rX.F b→lm.F b∨w.heap.size≤b)→ag (fun b=>b=bv∨lm.F b∨b=bb∨b=oc∨bQ B s b) w w5 →
  Calls Tryz.prog 178 #[.pointer (some ⟨bv,0,none⟩),V] w5 fun e w'=>e=.returned (.tuple #[]) ∧
  Mk w' bb B5 (aH om oc (B.h s 0)) L∧∃aY,aK w' bv bm bo ((dR G om oc (B.h s 0)).kM (iW B om oc (B.h s 0))) aY∧(∀b,aY.F b→lm.F b∨w.heap.size≤b)∧ag (fun b=>b=bv∨lm.F b∨b=bb∨b=oc∨bQ B s b) w w':=by
  rintro w5 B5 rX V rfl m5 h5 hf5 k5
  refine (BH bv bm bo _ rX (iW B om oc (B.h s 0)) w5 h5 (by rw[g1];exact hlen) (by rw[g2];exact hlen2) (by rw[g3];exact hna) (by rw[g3];exact fF) (by omega)).mono ?_
  rintro e w6 ⟨rfl,aY,l1,l2,l3⟩
  refine⟨rfl,m5.gK h5 l3,aY,l1,fun b hb=>?_,k5.from (l3.mono (fun b h=>?_))⟩
  ·rcases l2 b hb with h | h
   ·exact hf5 b h
   ·exact .inr (Nat.le_trans k5.size h)
  ·rcases h with h | h
   ·exact .inl (.inl h)
   ·exact (hf5 b h).imp_left (fun h=>.inr (.inl h))
 have Jq:=hide tail
 have HZ:Hid (∀w4 B4,Mk w4 bb B4 (aH om oc (B.h s 0)) L→B4.sym=B.sym→w4.cell? ⟨bb,0,none⟩=some (.string B.sym)∧w4.cell? ⟨B.h s 0,5,none⟩=some (.int .i64 (om (B.h s 0)).price)∧w4.cell? ⟨B.h s 0,0,none⟩=some (.int .i64 (om (B.h s 0)).id)∧w4.cell? ⟨oc,0,none⟩=some (.int .i64 (om oc).id)∧w4.cell? ⟨oc,3,none⟩=some (.int .i64 (om oc).side)):=by
  intro w4 B4 m4 hsy
  obtain⟨ic4,hc4⟩:=m4.aQ oc hc
  obtain⟨iw4,hw4⟩:=m4.aQ _ hmem
  refine⟨?_,?_,?_,?_,?_⟩
  ·rw[←hsy];exact m4.book.blk.cell 0
  ·rw[←MB.1];exact hw4.cell 5
  ·rw[←MB.2];exact hw4.cell 0
  ·rw[←yV.2];exact hc4.cell 0
  ·rw[←yV.1];exact hc4.cell 3
 clear tail hv hv2 m2 oH kn3 kc2 hf3 XI MB yV g1 g2 g3 g4
 by_cases h0:(aH om oc (B.h s 0) (B.h s 0)).opn=0
 ·have e0':((aH om oc (B.h s 0) (B.h s 0)).opn == 0)=true:=by simp[h0]
  have HB:Hid (dM B om oc (B.h s 0) s=B.leave (aH om oc (B.h s 0)) s 0):=by show _=_;unfold dM;rw[if_pos h0]
  have HG:Hid (dR G om oc (B.h s 0)=(G.aS [.now oc (om oc),.now (B.h s 0) (om (B.h s 0))]).aS [.left (B.h s 0)]):=by show _=_;unfold dR;rw[if_pos h0]
  clear h0
  go_wp2_with fail
  refine (nC bb B _ L s 0 _ m3 hs hn hsd2).mono ?_
  rintro e w4 ⟨Hy,cp4,rfl,-,m4,k4⟩
  have hv4:=hv3.iI k4 (fun b h=>m3.typ (by rcases h with h | h;exact .inl h;exact .inr (.inr ⟨s,hs,h⟩)))
  have JG:=Ig.trans (k4.mono (fun b h=>by rcases h with h | h;exact .inr (.inr (.inl h));exact .inr (.inr (.inr (.inr h)))))
  have oH:=hide (yA bv bm bo _ lI (.left (B.h s 0)) Hy cp4 w4 hv4 hna fF (by simp only[Lg.aS,List.length_append,List.length_cons,List.length_nil];omega))
  clear o8 hv3 m3 Ig k4
  go_wp2_with fail
  refine (ae oH).mono ?_
  rintro e w5 ⟨rfl,rX,hv5,hf5,kn5⟩
  rw[←ae HG]at hv5
  have m5:=m4.gK hv4 (kn5.mono (fun b h=>.inr h))
  have MP:ag (fun b=>b=bv∨lm.F b∨b=bb∨b=oc∨bQ B s b) w w5:=JG.from (kn5.mono (fun b h=>(qI b h).imp_left (fun h=>.inr (.inl h))))
  have Cb:∀b,rX.F b→lm.F b∨w.heap.size≤b:=fun b hb=>by
   rcases hf5 b hb with h | h
   ·exact qI b h
   ·exact .inr (Nat.le_trans JG.size h)
  have hsy:(B.leave (aH om oc (B.h s 0)) s 0).sym=B.sym:=rfl
  obtain⟨y0,e5,e0,d0,s3⟩:=ae HZ w5 _ m5 hsy
  clear m4 hv4 JG hf5 kn5 oH
  by_cases hsd:(om oc).side=1
  ·have es:((om oc).side == 1)=true:=by simp[hsd]
   have HC:=hide (ae Jq w5.drew _ _ (.agg #[.int .i64 0,.string B.sym,.int .i64 (om (B.h s 0)).price,.int .i64 q,.int .i64 (om (B.h s 0)).id,.int .i64 (om oc).id,.int .i64 0]) (by rw[ae HT];simp only[Tr.val,if_pos hsd]) (m5.kept ((ag.refl ak w5).drew) (fun x=>x) (fun _ _ x=>x) (fun _ _ _ _ x=>x)) (hv5.aj ((ag.refl ak w5).drew)) Cb MP.drew)
   have HS:=hide hsd
   clear hsd Jq m5 hv5 MP Cb qI
   go_wp2
   go_region_held3 (fun w'=>w'.cell? ⟨bb,0,none⟩=some (.string B.sym)∧w'.cell? ⟨B.h s 0,5,none⟩=some (.int .i64 (om (B.h s 0)).price)∧w'.cell? ⟨B.h s 0,0,none⟩=some (.int .i64 (om (B.h s 0)).id)∧w'.cell? ⟨oc,0,none⟩=some (.int .i64 (om oc).id)) (go_keep)
    (first | (go_at_call 178;refine (ae HC).mono ?_;rintro e w6 ⟨rfl,m6,r6⟩;obtain⟨z1,z2,z3,z4,-⟩:=ae HZ w6 _ m6 rfl;have TC:=hide m6;have J6:=hide r6;clear m6 r6))
   go_wp2
   go_end0
   rw[ae HB]
   exact⟨rfl,ae TC,ae J6⟩
  ·have es:((om oc).side == 1)=false:=by simp[hsd]
   have HC:=hide (ae Jq w5.drew _ _ (.agg #[.int .i64 0,.string B.sym,.int .i64 (om (B.h s 0)).price,.int .i64 q,.int .i64 (om oc).id,.int .i64 (om (B.h s 0)).id,.int .i64 0]) (by rw[ae HT];simp only[Tr.val,if_neg hsd]) (m5.kept ((ag.refl ak w5).drew) (fun x=>x) (fun _ _ x=>x) (fun _ _ _ _ x=>x)) (hv5.aj ((ag.refl ak w5).drew)) Cb MP.drew)
   have HS:=hide hsd
   clear hsd Jq m5 hv5 MP Cb qI
   go_wp2
   go_region_held3 (fun w'=>w'.cell? ⟨bb,0,none⟩=some (.string B.sym)∧w'.cell? ⟨B.h s 0,5,none⟩=some (.int .i64 (om (B.h s 0)).price)∧w'.cell? ⟨B.h s 0,0,none⟩=some (.int .i64 (om (B.h s 0)).id)∧w'.cell? ⟨oc,0,none⟩=some (.int .i64 (om oc).id)) (go_keep)
    (first | (go_at_call 178;refine (ae HC).mono ?_;rintro e w6 ⟨rfl,m6,r6⟩;obtain⟨z1,z2,z3,z4,-⟩:=ae HZ w6 _ m6 rfl;have TC:=hide m6;have J6:=hide r6;clear m6 r6))
   go_wp2
   go_end0
   rw[ae HB]
   exact⟨rfl,ae TC,ae J6⟩
 ·have e0':((aH om oc (B.h s 0) (B.h s 0)).opn == 0)=false:=by simp[h0]
  have HB:Hid (dM B om oc (B.h s 0) s=B):=by show _=_;unfold dM;rw[if_neg h0]
  have HG:Hid (dR G om oc (B.h s 0)=G.aS [.now oc (om oc),.now (B.h s 0) (om (B.h s 0))]):=by show _=_;unfold dR;rw[if_neg h0]
  clear h0
  obtain⟨w5,aaz⟩:∃w5,w5=w3:=⟨_,rfl⟩
  subst aaz
  have hv5:=hv3
  rw[←ae HG]at hv5
  have m5:=m3
  have MP:=Ig
  have Cb:=qI
  have hsy:B.sym=B.sym:=rfl
  obtain⟨y0,e5,e0,d0,s3⟩:=ae HZ w5 _ m5 hsy
  clear m3 hv3 Ig
  by_cases hsd:(om oc).side=1
  ·have es:((om oc).side == 1)=true:=by simp[hsd]
   have HC:=hide (ae Jq w5.drew _ _ (.agg #[.int .i64 0,.string B.sym,.int .i64 (om (B.h s 0)).price,.int .i64 q,.int .i64 (om (B.h s 0)).id,.int .i64 (om oc).id,.int .i64 0]) (by rw[ae HT];simp only[Tr.val,if_pos hsd]) (m5.kept ((ag.refl ak w5).drew) (fun x=>x) (fun _ _ x=>x) (fun _ _ _ _ x=>x)) (hv5.aj ((ag.refl ak w5).drew)) Cb MP.drew)
   have HS:=hide hsd
   clear hsd Jq m5 hv5 MP Cb qI
   go_wp2
   go_region_held3 (fun w'=>w'.cell? ⟨bb,0,none⟩=some (.string B.sym)∧w'.cell? ⟨B.h s 0,5,none⟩=some (.int .i64 (om (B.h s 0)).price)∧w'.cell? ⟨B.h s 0,0,none⟩=some (.int .i64 (om (B.h s 0)).id)∧w'.cell? ⟨oc,0,none⟩=some (.int .i64 (om oc).id)) (go_keep)
    (first | (go_at_call 178;refine (ae HC).mono ?_;rintro e w6 ⟨rfl,m6,r6⟩;obtain⟨z1,z2,z3,z4,-⟩:=ae HZ w6 _ m6 rfl;have TC:=hide m6;have J6:=hide r6;clear m6 r6))
   go_wp2
   go_end0
   rw[ae HB]
   exact⟨rfl,ae TC,ae J6⟩
  ·have es:((om oc).side == 1)=false:=by simp[hsd]
   have HC:=hide (ae Jq w5.drew _ _ (.agg #[.int .i64 0,.string B.sym,.int .i64 (om (B.h s 0)).price,.int .i64 q,.int .i64 (om oc).id,.int .i64 (om (B.h s 0)).id,.int .i64 0]) (by rw[ae HT];simp only[Tr.val,if_neg hsd]) (m5.kept ((ag.refl ak w5).drew) (fun x=>x) (fun _ _ x=>x) (fun _ _ _ _ x=>x)) (hv5.aj ((ag.refl ak w5).drew)) Cb MP.drew)
   have HS:=hide hsd
   clear hsd Jq m5 hv5 MP Cb qI
   go_wp2
   go_region_held3 (fun w'=>w'.cell? ⟨bb,0,none⟩=some (.string B.sym)∧w'.cell? ⟨B.h s 0,5,none⟩=some (.int .i64 (om (B.h s 0)).price)∧w'.cell? ⟨B.h s 0,0,none⟩=some (.int .i64 (om (B.h s 0)).id)∧w'.cell? ⟨oc,0,none⟩=some (.int .i64 (om oc).id)) (go_keep)
    (first | (go_at_call 178;refine (ae HC).mono ?_;rintro e w6 ⟨rfl,m6,r6⟩;obtain⟨z1,z2,z3,z4,-⟩:=ae HZ w6 _ m6 rfl;have TC:=hide m6;have J6:=hide r6;clear m6 r6))
   go_wp2
   go_end0
   rw[ae HB]
   exact⟨rfl,ae TC,ae J6⟩
end Go.Proofs.YtigaphnafnpfnaaGreatDoor
