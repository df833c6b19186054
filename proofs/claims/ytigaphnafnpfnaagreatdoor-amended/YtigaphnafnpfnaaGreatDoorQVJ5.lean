import Derived.Test.YtigaphnafnpfnaaGreatDoorQVX1
import Derived.Test.YtigaphnafnpfnaaGreatDoorQVX9
import Derived.Laws.ResultCell
import Derived.Test.YtigaphnafnpfnaaGreatDoorQVX10
import Derived.Test.YtigaphnafnpfnaaGreatDoorQVC2
import Derived.Laws.IdiomStrings
set_option linter.unusedVariables false
set_option linter.unusedSimpArgs false
set_option maxHeartbeats 8000000
set_option maxRecDepth 100000
namespace Go.Proofs.YtigaphnafnpfnaaGreatDoor
open Go.RowKit
attribute [local go_sem ↓] Go.wp_at_zero Go.wp_at_succ
theorem tC(f:Nat→Int)(word:ByteArray):∀k,word.size≤(fC f word k).size
 | 0=>Nat.le_refl _
 | k+1=>by
   have:=tC f word k
   simp only[fC,ByteArray.size_append]
   omega
theorem EC(id owner:Int)(sym:ByteArray)(side kind price qty:Int)(hs:sym.size≤100)(h1:bZ id)(h2:bZ owner)(h3:bZ side)(h4:bZ kind)(h5:bZ price)(h6:bZ qty) :
 0<(rO id owner sym side kind price qty).size∧(rO id owner sym side kind price qty).size≤290:=by
 have z1:=iJ (two id owner) qp 2 (fun i hi=>by match i,hi with | 0,_=>exact h1 | 1,_=>exact h2)
 have z2:=iJ (four side kind price qty) sym 4 (fun i hi=>by match i,hi with | 0,_=>exact h3 | 1,_=>exact h4 | 2,_=>exact h5 | 3,_=>exact h6)
 have g1:=tC (two id owner) qp 2
 have zE:qp.size=5:=by decide
 rw[zE]at z1 g1
 have e:(ByteArray.mk #[32]).size=1:=rfl
 simp only[rO,ByteArray.size_append,e]
 omega
theorem jL(bv bm bo:Nat)(G:Lg)(m:Lm)(line:ByteArray)(w:World)(hL:aK w bv bm bo G m)(hna:G.na<3000000)(h0:0<line.size)(hl:line.size≤290) :
 ∀W,ag ak w W→Calls Tryz.prog 51 #[.pointer (some ⟨bv,0,none⟩),.string line] W fun e w'=>e=.returned (.tuple #[]) ∧
  ∃m',aK w' bv bm bo G.begun m'∧(∀b,m'.F b→m.F b∨w.heap.size≤b)∧ag (fun b=>b=bv∨m.F b) w w'∧m'.tb=m.tb∧ag (fun b=>b=bv∨m.av.ownBlock=some b∨m.jv.ownBlock=some b) w w':=by
 intro W k
 refine (zY bv bm bo G m line W (hL.aj k) hna h0 hl).mono ?_
 rintro e w' ⟨rfl,m',h1,h2,h3,h4⟩
 have k2:ag (fun b=>b=bv∨m.av.ownBlock=some b∨m.jv.ownBlock=some b) w w':=k.aC.trans h3
 exact⟨rfl,m',h1,fun b hb=>(h2 b hb).imp_right (fun h=>Nat.le_trans k.size h),k2.mono (fun b h=>h.imp_right (fun h=>h.elim (fun h=>.inr (.inr (.inr (.inl h)))) (fun h=>.inr (.inl (.inr h))))),h4,k2⟩
theorem Ik(id owner:Int)(sym:ByteArray)(side kind price qty:Int)(w:World)(hT:Tab w)(hs:sym.size≤100)(h1:bZ id)(h2:bZ owner)(h3:bZ side)(h4:bZ kind)(h5:bZ price)(h6:bZ qty) :
 ∀W,ag ak w W→Calls Tryz.prog 113 #[.agg #[.int .i64 id,.int .i64 owner,.string sym,.int .i64 side,.int .i64 kind,.int .i64 price,.int .i64 qty]] W fun e w'=>e=.returned (.string (rO id owner sym side kind price qty))∧ag ak w w':=by
 intro W k
 refine (wF id owner sym side kind price qty W (hT.aj k) (by omega) h1 h2 h3 h4 h5 h6).mono ?_
 rintro e w' ⟨rfl,k2⟩
 exact⟨rfl,k.trans k2⟩
theorem pU{n:Int}(h:-1000000≤n∧n≤1000000):bZ n:=⟨by omega,by omega⟩
open Go.RowKit Go.Maps
def Qw(o:Ask):Array Value:=#[.int .i64 o.id,.int .i64 o.owner,.string o.sym,.int .i64 o.side,.int .i64 o.kind,.int .i64 o.price,.int .i64 o.qty]
theorem Rep.aj{w w':World}{bv bm bo:Nat}{V:aW}(R:Rep w bv bm bo V)(k:ag ak w w'):Rep w' bv bm bo V:=by
 obtain⟨fB,mB,h1,h2⟩:=R.books
 obtain⟨fO,mO,h3⟩:=R.orders
 exact⟨R.log.aj k,⟨fB,mB.kept k (fun x=>x),h1,h2⟩,⟨fO,mO.kept k (fun x=>x),h3⟩,R.MQ,fun i hi=>(R.book i hi).kept k (fun _ _ x=>x),fun id b h=>⟨(R.aQ id b h).1,(R.aQ id b h).2.elim fun ix ho=>⟨ix,k.blk ho (fun x=>x)⟩⟩,R.mem,R.uT,R.oG,R.eF⟩
def dX(bv bm bo:Nat)(V:aW)(x:Nat):Prop:=x=bv∨x=bm∨x=bo∨(∃i,i<V.nb∧(x=V.bk i∨∃s,s<2∧bQ (V.B i) s x))∨(∃id,V.aO id=some x)∨V.lm.F x
theorem Rep.foot{w:World}{bv bm bo:Nat}{V:aW}(R:Rep w bv bm bo V){x:Nat}{c:Array Value}{t:TypeId}(hb:ai w x c t)(h1:t≠100)(h2:t≠158)(h3:t≠114)(h4:t≠116)(h5:t≠103)(h6:t≠62)(h7:t≠105)(h8:t≠109:=by decide)(h9:t≠1∧t≠5:=by decide):¬dX bv bm bo V x:=by
 obtain⟨fB,mB,_⟩:=R.books
 obtain⟨fO,mO,_⟩:=R.orders
 rintro (e | e | e | ⟨i,hi,e | ⟨s,hs,e | ⟨k,hk,e⟩⟩⟩ | ⟨id,e⟩ | e)
 ·exact ai.ne hb R.cZ h1 e
 ·exact mB.ne hb e.symm
 ·exact mO.ne hb e.symm
 ·exact ai.ne hb (R.book i hi).blk h2 e
 ·exact ((R.book i hi).side s hs).ne hb h3 e
 ·exact ai.ne hb (((R.book i hi).side s hs).aQ hk) h4 e
 ·obtain⟨_,ix,ho⟩:=R.aQ id x e
  exact ai.ne hb ho h4 rfl
 ·exact R.log.log.ne hb h5 h6 h7 h8 h9 e
theorem Rep.BU{w:World}{bv bm bo:Nat}{V:aW}(R:Rep w bv bm bo V){x:Nat}(h:dX bv bm bo V x):x<w.heap.size:=by
 obtain⟨fB,mB,_⟩:=R.books
 obtain⟨fO,mO,_⟩:=R.orders
 rcases h with rfl | rfl | rfl | ⟨i,hi,rfl | ⟨s,hs,e | ⟨k,hk,rfl⟩⟩⟩ | ⟨id,e⟩ | e
 ·exact R.cZ.lt
 ·exact mB.lt
 ·exact mO.lt
 ·exact (R.book i hi).blk.lt
 ·exact ((R.book i hi).side s hs).lt e
 ·exact (((R.book i hi).side s hs).aQ hk).lt
 ·obtain⟨_,ix,ho⟩:=R.aQ id x e
  exact ho.lt
 ·exact R.log.log.lt e
def zS(bv bm bo i s t:Nat)(V:aW)(o:Ask)(w:World)(v:Value)(w':World):Prop :=
 ∃b g cap' aY,w.heap.size≤b∧v=.tuple #[rep (aI o) ((V.enter i b s t g cap' o aY).om b) V.tr (V.enter i b s t g cap' o aY).tr,.int .i64 0]∧Rep w' bv bm bo (V.enter i b s t g cap' o aY) ∧
  ag (dX bv bm bo V) w w'∧(∀x,dX bv bm bo (V.enter i b s t g cap' o aY) x→dX bv bm bo V x∨w.heap.size≤x)∧(iP ((V.B i).sl t)=some g∨w.heap.size≤g)
theorem Gf(o o':Ord)(tr Zr:Int):∃f r c a n,rep o o' tr Zr=.agg #[.int .i64 f,.int .i64 r,.int .i64 c,.int .i64 a,.int .i64 n]:=by
 unfold rep
 split <;> exact⟨_,_,_,_,_,rfl⟩
theorem aaG(tmps:Array Value)(H:Nat)(w:World)(a b c d e:Int)(ht:tmps.getD 4 undef=.pointer (some ⟨H,0,none⟩))(hu:tmps.getD 5 undef=.int .i64 0)(hb:ai w H #[.int .i64 a,.int .i64 b,.int .i64 c,.int .i64 d,.int .i64 e] 87) :
 (results Tryz.f64 tmps).run Tryz.prog w=.ok (.tuple #[.agg #[.int .i64 a,.int .i64 b,.int .i64 c,.int .i64 d,.int .i64 e],.int .i64 0]) w:=by
 have c0:w.cell? ⟨H,0,none⟩=some (.int .i64 a):=hb.cell 0
 have c1:w.cell? ⟨H,1,none⟩=some (.int .i64 b):=hb.cell 1
 have c2:w.cell? ⟨H,2,none⟩=some (.int .i64 c):=hb.cell 2
 have c3:w.cell? ⟨H,3,none⟩=some (.int .i64 d):=hb.cell 3
 have c4:w.cell? ⟨H,4,none⟩=some (.int .i64 e):=hb.cell 4
 simp only[Array.getD_eq_getD_getElem?]at ht hu
 simp[results,Tryz.results64,go_sem,ht,hu,c0,c1,c2,c3,c4]
theorem aX.iI{w w':World}{bb:Nat}{B:Bk}{om:Nat→Ord}(hb:aX w bb B om){S:Nat→Prop}(k:ag S w w')(hS:∀x c t,ai w x c t→(t=158∨t=114∨t=116)→¬S x):aX w' bb B om:=by
 refine hb.kept k ?_
 rintro x (rfl | ⟨y,hy,h⟩)
 ·exact hS _ _ _ hb.blk (.inl rfl)
 ·rcases h with h | ⟨l,hl,rfl⟩
  ·rcases (hb.side y hy) with⟨h0,_⟩ | ⟨ab,hab,hsd⟩
   ·rw[h0]at h;simp[iP]at h
   ·obtain⟨cs,hcs,_⟩:=hsd.arr
    rw[hab]at h
    simp[iP]at h
    rw[h]at hcs
    exact hS _ _ _ hcs (.inr (.inl rfl))
  ·exact hS _ _ _ ((hb.side y hy).aQ hl) (.inr (.inr rfl))
theorem Rep.jX{w w':World}{bv bm bo:Nat}{V:aW}(R:Rep w bv bm bo V){G':Lg}{aY:Lm}(hl:aK w' bv bm bo G' aY)(k:ag (fun x=>x=bv∨V.lm.F x) w w'):Rep w' bv bm bo { V with lg:=G',lm:=aY }:=by
 obtain⟨fB,mB,g1,g2⟩:=R.books
 obtain⟨fO,mO,g3⟩:=R.orders
 have key:∀{x c t},ai w x c t→(t=158∨t=114∨t=116)→¬(x=bv∨V.lm.F x):=by
  rintro x c t hx ht (e | e)
  ·exact ai.ne hx R.cZ (by rcases ht with rfl | rfl | rfl <;> decide) e
  ·exact R.log.log.ne hx (by rcases ht with rfl | rfl | rfl <;> decide) (by rcases ht with rfl | rfl | rfl <;> decide) (by rcases ht with rfl | rfl | rfl <;> decide) (by rcases ht with rfl | rfl | rfl <;> decide) (by rcases ht with rfl | rfl | rfl <;> decide) e
 have X6:∀z,(∀b c t,ai w b c t→z≠b)→¬(z=bv∨V.lm.F z):=by
  rintro z hz (e | e)
  ·exact hz _ _ _ R.cZ e
  ·obtain⟨c,t,hc,_⟩:=R.log.log.typ e
   exact hz _ _ _ hc rfl
 refine⟨hl,⟨fB,mB.kept k (X6 bm (fun b c t hb=>mB.ne hb)),g1,g2⟩,⟨fO,mO.kept k (X6 bo (fun b c t hb=>mO.ne hb)),g3⟩,R.MQ,fun j hj=>(R.book j hj).kept k ?_,fun id x h=>⟨(R.aQ id x h).1,(R.aQ id x h).2.elim fun ix ho=>⟨ix,k.blk ho (key ho (.inr (.inr rfl)))⟩⟩,R.mem,R.uT,R.oG,R.eF⟩
 rintro x (rfl | ⟨y,hy,h⟩)
 ·exact key (R.book j hj).blk (.inl rfl)
 ·rcases h with h | ⟨l,hl,rfl⟩
  ·rcases ((R.book j hj).side y hy) with⟨h0,_⟩ | ⟨ab,hab,hsd⟩
   ·rw[h0]at h;simp[iP]at h
   ·obtain⟨cs,hcs,_⟩:=hsd.arr
    rw[hab]at h
    simp[iP]at h
    rw[h]at hcs
    exact key hcs (.inr (.inl rfl))
  ·exact key (((R.book j hj).side y hy).aQ hl) (.inr (.inr rfl))
end Go.Proofs.YtigaphnafnpfnaaGreatDoor
namespace Go.Proofs.YtigaphnafnpfnaaGreatDoor
theorem dH.jP{lt lt':Nat→Nat→Bool}{n:Nat}{h:Nat→Nat}(ok:dH lt n h)(he:∀j k,j<n→k<n→lt' (h j) (h k)=lt (h j) (h k)):dH lt' n h:=by
 intro k h0 hk
 rw[he k (par k) hk (by unfold par;omega)]
 exact ok k h0 hk
theorem pW{om df:Nat→Ord}{x y:Nat}(hx:(df x).side=(om x).side∧(df x).price=(om x).price∧(df x).place=(om x).place)(hy:(df y).price=(om y).price∧(df y).place=(om y).place):dW df x y=dW om x y:=by
 unfold dW iF jw
 rw[hx.1,hx.2.1,hx.2.2,hy.1,hy.2]
structure GB(B:Bk)(om:Nat→Ord)(sym:ByteArray)(L:Nat→Prop):Prop where
 lX:B.sym=sym
 mem:∀s,s<2→∀x,Mem (B.n s) (B.h s) x↔(L x∧(om x).sym=sym∧(om x).side=(s:Int)∧0<(om x).opn)
 heap:∀s,s<2→dH (dW om) (B.n s) (B.h s)
 inj:∀s,s<2→qP (B.n s) (B.h s)
 cross:∀x y,Mem (B.n 0) (B.h 0) x→Mem (B.n 1) (B.h 1) y→(om x).price<(om y).price
theorem GB.side{B:Bk}{om:Nat→Ord}{sym:ByteArray}{L:Nat→Prop}(h:GB B om sym L){s k:Nat}(hs:s<2)(hk:k<B.n s):(om (B.h s k)).side=(s:Int):=((h.mem s hs _).1 ⟨k,hk,rfl⟩).2.2.1
theorem GB.jP{B:Bk}{om df:Nat→Ord}{sym:ByteArray}{L L':Nat→Prop}(h:GB B om sym L)(hL:∀x,(L' x∧(df x).sym=sym∧0<(df x).opn)↔(L x∧(om x).sym=sym∧0<(om x).opn))(he:∀x,L x→(om x).sym=sym→0<(om x).opn→(df x).side=(om x).side∧(df x).price=(om x).price∧(df x).place=(om x).place):GB B df sym L':=by
 have hm:∀s,s<2→∀x,Mem (B.n s) (B.h s) x→(df x).side=(om x).side∧(df x).price=(om x).price∧(df x).place=(om x).place:=fun s hs x hx=>by
  obtain⟨a,b,_,d⟩:=(h.mem s hs x).1 hx
  exact he x a b d
 refine⟨h.lX,fun s hs x=>?_,fun s hs=>(h.heap s hs).jP (fun j k hj hk=>?_),h.inj,fun x y hx hy=>?_⟩
 ·rw[h.mem s hs x]
  constructor
  ·rintro⟨a,b,c,d⟩
   obtain⟨a',b',d'⟩:=(hL x).2 ⟨a,b,d⟩
   exact⟨a',b',by rw[(he x a b d).1];exact c,d'⟩
  ·rintro⟨a,b,c,d⟩
   obtain⟨a',b',d'⟩:=(hL x).1 ⟨a,b,d⟩
   exact⟨a',b',by rw[←(he x a' b' d').1];exact c,d'⟩
 ·exact pW (hm s hs _ ⟨j,hj,rfl⟩) (hm s hs _ ⟨k,hk,rfl⟩).2
 ·rw[(hm 0 (by omega) x hx).2.1,(hm 1 (by omega) y hy).2.1]
  exact h.cross x y hx hy
theorem vN{kind side price p:Int}(h:eQ kind side price p=false)(hk:kind≠5):if side=0 then price<p else p<price:=by
 unfold eQ at h
 rw[if_neg hk]at h
 split at h
 ·rename_i e;rw[if_pos e];simpa using h
 ·rename_i e;rw[if_neg e];simpa using h
theorem KG{B:Bk}{om:Nat→Ord}{lg:Lg}{sym:ByteArray}{L:Nat→Prop}{M:Int}{oc s t g cap':Nat}(hM:M≤1000000000000000)(hs:s<2)(ht:t=1-s)
 (hL:L oc) (bY:(om oc).sym=sym) (hside:(om oc).side=(t:Int)) (hq:∀x,L x→Qo M (om x)) (gb:GB B om sym (fun x=>L x∧x≠oc)) :
 Inv oc s ⟨B,om,lg⟩∧GB (dS oc t g cap' (mF oc s ⟨B,om,lg⟩)) (aA oc (mF oc s ⟨B,om,lg⟩)) sym L∧(∀x,L x→Qo M (aA oc (mF oc s ⟨B,om,lg⟩) x)) ∧
  Run oc s M ⟨B,om,lg⟩ (mF oc s ⟨B,om,lg⟩)∧(∀x,x≠oc→Stat (om x) (aA oc (mF oc s ⟨B,om,lg⟩) x))∧(∀x,x≠oc→((om x).sym≠sym∨¬0<(om x).opn∨¬L x)→aA oc (mF oc s ⟨B,om,lg⟩) x=om x):=by
 have t2:t<2:=by omega
 have hts:(t:Int)≠(s:Int):=by omega
 have iv:Inv oc s ⟨B,om,lg⟩:=by
  refine⟨fun k hk=>?_,gb.inj s hs,(hq oc hL).o0,?_,by show (om oc).side=_;rw[hside];omega⟩
  ·obtain⟨⟨a,a'⟩,b,c,d⟩:=(gb.mem s hs _).1 ⟨k,hk,rfl⟩
   have q:=hq _ a
   exact⟨c,d,by have:=q.sum;have:=q.f0;have:=q.c0;have:=q.e0;have:=q.hi;show (om (B.h s k)).opn≤_;omega,a'⟩
  ·have q:=hq oc hL
   have:=q.sum;have:=q.f0;have:=q.c0;have:=q.e0;have:=q.hi
   show (om oc).opn≤_;omega
 have Sz:∀x,Mem (B.n s) (B.h s) x→L x∧x≠oc:=fun x hx=>((gb.mem s hs x).1 hx).1
 have run:Run oc s M ⟨B,om,lg⟩ (mF oc s ⟨B,om,lg⟩):=IB hM _ _ iv (gb.heap s hs) (fun x hx=>by
  rcases hx with rfl | hx
  ·exact hq _ hL
  ·exact hq x (Sz x hx).1)
 have stp:stops oc s (mF oc s ⟨B,om,lg⟩)=true:=CW _ _ iv (Nat.le_refl _)
 obtain⟨f1,f2,f3,f4,f5⟩:=jG oc s (mu oc s ⟨B,om,lg⟩) ⟨B,om,lg⟩
 change ∀t,t≠s→(mF oc s ⟨B,om,lg⟩).B.n t=B.n t∧(mF oc s ⟨B,om,lg⟩).B.h t=B.h t at f1
 change (mF oc s ⟨B,om,lg⟩).B.sym=B.sym at f4
 have fst:=f1 t (by omega)
 generalize hst:mF oc s ⟨B,om,lg⟩=st at *
 have rq:=run.q;have I7:=run.mem;have Tf:=run.gone;have Ti:=run.heap;have LY:=run.far;have rF:=run.stat
 simp only at rq I7 Tf LY rF
 have SY:Qo M (st.om oc):=rq oc (.inl rfl)
 have Yy:=rF oc
 have q1:∀x,L x→Qo M (st.om x):=fun x hx=>by
  by_cases e:x=oc
  ·rw[e];exact SY
  ·by_cases hm:Mem (B.n s) (B.h s) x
   ·exact rq x (.inr hm)
   ·rw[LY x e hm];exact hq x hx
 have pG:∀x,x≠oc→aA oc st x=st.om x:=fun x h=>nY oc st h
 have coc:Qo M (aA oc st oc)∧(aA oc st oc).sym=sym∧(aA oc st oc).side=(t:Int)∧(aA oc st oc).price=(st.om oc).price∧(dh (st.om oc)=true→(aA oc st oc).opn=(st.om oc).opn)∧(dh (st.om oc)=false→(aA oc st oc).opn=0):=by
  unfold aA
  cases hw:dh (st.om oc)
  ·simp only[Bool.false_eq_true,if_false,upd_same]
   exact⟨(SY.aG hM).1,Yy.2.2.1.trans bY,Yy.2.2.2.1.trans hside,by first | rfl | trivial,fun h=>by simp at h,fun _=>by first | rfl | trivial⟩
  ·simp only[if_true,upd_same]
   exact⟨⟨SY.sum,SY.o0,SY.f0,SY.c0,SY.e0,SY.hi⟩,Yy.2.2.1.trans bY,Yy.2.2.2.1.trans hside,by first | rfl | trivial,fun _=>by first | rfl | trivial,fun h=>by simp at h⟩
 obtain⟨c1,c2,c3,c4,c5,c6⟩:=coc
 have memT:∀x,Mem (B.n t) (B.h t) x→(L x∧x≠oc)∧aA oc st x=om x:=fun x hx=>by
  obtain⟨a,b,c,d⟩:=(gb.mem t t2 x).1 hx
  refine⟨a,?_⟩
  rw[pG x a.2]
  exact LY x a.2 (fun hm=>hts ((((gb.mem t t2 x).1 hx).2.2.1).symm.trans ((gb.mem s hs x).1 hm).2.2.1))
 have FB:∀x,Mem (st.B.n s) (st.B.h s) x→(L x∧x≠oc)∧0<(st.om x).opn:=fun x hx=>by
  refine⟨Sz x (I7 x hx),?_⟩
  obtain⟨k,hk,e⟩:=hx
  rw[e];exact (run.inv.mem k hk).2.1
 have inS:∀x,L x→x≠oc→(st.om x).sym=sym→(st.om x).side=(s:Int)→0<(st.om x).opn→Mem (st.B.n s) (st.B.h s) x:=fun x h1 h2 h3 h4 h5=>by
  by_cases hm:Mem (B.n s) (B.h s) x
  ·by_cases hm1:Mem (st.B.n s) (st.B.h s) x
   ·exact hm1
   ·have:=Tf x hm hm1;omega
  ·rw[LY x h2 hm]at h3 h4 h5
   exact absurd ((gb.mem s hs x).2 ⟨⟨h1,h2⟩,h3,h4,h5⟩) hm
 have inT:∀x,L x→x≠oc→(st.om x).sym=sym→(st.om x).side=(t:Int)→0<(st.om x).opn→Mem (B.n t) (B.h t) x:=fun x h1 h2 h3 h4 h5=>by
  have hm:¬Mem (B.n s) (B.h s) x:=fun hm=>hts (((rF x).2.2.2.1.symm.trans h4).symm.trans ((gb.mem s hs x).1 hm).2.2.1)
  rw[LY x h2 hm]at h3 h4 h5
  exact (gb.mem t t2 x).2 ⟨⟨h1,h2⟩,h3,h4,h5⟩
 have ltS:dH (dW (aA oc st)) (st.B.n s) (st.B.h s):=Ti.jP (fun j k hj hk=>by
  have h1:=(FB _ ⟨j,hj,rfl⟩).1.2
  have h2:=(FB _ ⟨k,hk,rfl⟩).1.2
  exact pW (by rw[pG _ h1];exact⟨rfl,rfl,rfl⟩) (by rw[pG _ h2];exact⟨rfl,rfl⟩))
 have ltT:dH (dW (aA oc st)) (B.n t) (B.h t):=(gb.heap t t2).jP (fun j k hj hk=>by
  have h1:=(memT _ ⟨j,hj,rfl⟩).2
  have h2:=(memT _ ⟨k,hk,rfl⟩).2
  exact pW (by rw[h1];exact⟨rfl,rfl,rfl⟩) (by rw[h2];exact⟨rfl,rfl⟩))
 have yH:∀x,Mem (st.B.n s) (st.B.h s) x→(aA oc st x).price=(om x).price:=fun x hx=>by
  rw[pG x (FB x hx).1.2];exact (rF x).2.2.2.2.2.1
 have YB:∀x,x≠oc→Stat (om x) (aA oc st x):=fun x hx=>by rw[pG x hx];exact rF x
 have keep':∀x,x≠oc→((om x).sym≠sym∨¬0<(om x).opn∨¬L x)→aA oc st x=om x:=fun x hx h=>by
  rw[pG x hx]
  refine LY x hx (fun hm=>?_)
  obtain⟨⟨a,_⟩,b,_,d⟩:=(gb.mem s hs x).1 hm
  rcases h with h | h | h
  ·exact h b
  ·exact h d
  ·exact h a
 have two:∀x,x<2→x=s∨x=t:=by omega
 refine⟨iv,?_,fun x hx=>?_,run,YB,keep'⟩
 ·cases hw:dh (st.om oc)
  ·have hB:dS oc t g cap' st=st.B:=by unfold dS;rw[hw];rfl
   rw[hB]
   have o0:=c6 hw
   refine⟨f4.trans gb.lX,fun y hy x=>?_,fun y hy=>?_,fun y hy=>?_,fun x y hx hy=>?_⟩
   ·rcases two y hy with rfl | rfl
    ·constructor
     ·intro hx
      obtain⟨⟨a,b⟩,d⟩:=FB x hx
      have h0:=(gb.mem y hs x).1 (I7 x hx)
      exact⟨a,by rw[pG x b];exact (rF x).2.2.1.trans h0.2.1,by rw[pG x b];exact (rF x).2.2.2.1.trans h0.2.2.1,by rw[pG x b];exact d⟩
     ·rintro⟨a,b,c,d⟩
      have hne:x≠oc:=fun e=>by rw[e,o0]at d;omega
      rw[pG x hne]at b c d
      exact inS x a hne b c d
    ·rw[fst.1,fst.2]
     constructor
     ·intro hx
      obtain⟨⟨a,b⟩,e⟩:=memT x hx
      have h0:=(gb.mem y t2 x).1 hx
      rw[e]
      exact⟨a,h0.2⟩
     ·rintro⟨a,b,c,d⟩
      have hne:x≠oc:=fun e=>by rw[e,o0]at d;omega
      rw[pG x hne]at b c d
      exact inT x a hne b c d
   ·rcases two y hy with rfl | rfl
    ·exact ltS
    ·rw[fst.1,fst.2];exact ltT
   ·rcases two y hy with rfl | rfl
    ·exact run.inv.inj
    ·rw[fst.1,fst.2];exact gb.inj y t2
   ·have key:∀z,(z=0∨z=1)→∀x,Mem (st.B.n z) (st.B.h z) x→Mem (B.n z) (B.h z) x∧(aA oc st x).price=(om x).price:=fun z hz x hx=>by
     rcases two z (by omega) with e | e
     ·rw[e]at hx ⊢;exact⟨I7 x hx,yH x hx⟩
     ·rw[e,fst.1,fst.2]at hx
      rw[e];exact⟨hx,by rw[(memT x hx).2]⟩
    obtain⟨a1,a2⟩:=key 0 (.inl rfl) x hx
    obtain⟨b1,b2⟩:=key 1 (.inr rfl) y hy
    rw[a2,b2];exact gb.cross x y a1 b1
  ·have hB:dS oc t g cap' st=st.B.rest (aA oc st) t oc g cap':=by unfold dS;rw[hw];rfl
   rw[hB]
   have hop:0<(st.om oc).opn:=by simp[dh]at hw;exact hw.1
   have hk5:(st.om oc).kind≠5:=by
    simp only[dh,di,Bool.and_eq_true,Bool.or_eq_true,beq_iff_eq]at hw
    omega
   have oo:=c5 hw
   have nS:(st.B.rest (aA oc st) t oc g cap').n s=st.B.n s:=by simp only[Bk.rest];rw[af _ _ (by omega)]
   have hS:(st.B.rest (aA oc st) t oc g cap').h s=st.B.h s:=by simp only[Bk.rest];rw[af _ _ (by omega)]
   have nT:(st.B.rest (aA oc st) t oc g cap').n t=B.n t+1:=by simp only[Bk.rest,upd_same,fst.1]
   have hT:(st.B.rest (aA oc st) t oc g cap').h t=qN (dW (aA oc st)) (fun k=>if k=B.n t then oc else B.h t k) (B.n t):=by simp only[Bk.rest,upd_same,fst.1,fst.2]
   have mT:∀x,Mem ((st.B.rest (aA oc st) t oc g cap').n t) ((st.B.rest (aA oc st) t oc g cap').h t) x↔Mem (B.n t) (B.h t) x∨x=oc:=fun x=>by rw[nT,hT];exact mem_push _ _ _
   have bad:∀y,Mem (st.B.n s) (st.B.h s) y→if (t:Int)=0 then (aA oc st oc).price<(om y).price else (om y).price<(aA oc st oc).price:=by
    intro y hy
    have hf:bK st.B st.om (aV (st.om oc)) s=none:=by
     simp only[stops,Bool.or_eq_true,Bool.not_eq_true',decide_eq_false_iff_not]at stp
     rcases stp with h | h
     ·exact absurd hop h
     ·simpa using h
    obtain⟨k,hk,e⟩:=hy
    have hn0:st.B.n s≠0:=by omega
    unfold bK at hf
    rw[if_neg hn0]at hf
    have hg:eQ (aV (st.om oc)).kind (aV (st.om oc)).side (aV (st.om oc)).price (st.om (st.B.h s 0)).price=false:=by
     split at hf
     ·simp at hf
     ·rename_i h;simpa using h
    have hb:=vN hg hk5
    have hsd:(aV (st.om oc)).side=(t:Int):=Yy.2.2.2.1.trans hside
    rw[hsd]at hb
    have rQ:∀k,k<st.B.n s→(st.om (st.B.h s k)).side=(s:Int):=fun k hk=>(run.inv.mem k hk).1
    have hmin:=yN (lQ st.om (s:Int)) Ti rQ k hk
    have hless:=(eX _ _).1 hmin
    rw[rQ k hk]at hless
    have hp0:(st.om y).price=(om y).price:=(rF y).2.2.2.2.2.1
    rw[c4]
    rw[←e]at hless
    rw[hp0]at hless
    show if (t:Int)=0 then (st.om oc).price<(om y).price else (om y).price<(st.om oc).price
    have hap:(aV (st.om oc)).price=(st.om oc).price:=rfl
    rw[hap]at hb
    by_cases e0:(t:Int)=0
    ·rw[if_pos e0]at hb ⊢
     have es:¬(s:Int)=0:=by omega
     rw[if_neg es]at hless
     omega
    ·rw[if_neg e0]at hb ⊢
     have es:(s:Int)=0:=by omega
     rw[if_pos es]at hless
     omega
   refine⟨f4.trans gb.lX,fun y hy x=>?_,fun y hy=>?_,fun y hy=>?_,fun x y hx hy=>?_⟩
   ·rcases two y hy with e | e
    ·rw[e,nS,hS]
     constructor
     ·intro hx
      obtain⟨⟨a,b⟩,d⟩:=FB x hx
      have h0:=(gb.mem s hs x).1 (I7 x hx)
      exact⟨a,by rw[pG x b];exact (rF x).2.2.1.trans h0.2.1,by rw[pG x b];exact (rF x).2.2.2.1.trans h0.2.2.1,by rw[pG x b];exact d⟩
     ·rintro⟨a,b,c,d⟩
      have hne:x≠oc:=fun e=>by rw[e,c3]at c;exact hts c
      rw[pG x hne]at b c d
      exact inS x a hne b c d
    ·rw[e,mT x]
     constructor
     ·rintro (hx | hx)
      ·obtain⟨⟨a,b⟩,e⟩:=memT x hx
       have h0:=(gb.mem t t2 x).1 hx
       rw[e]
       exact⟨a,h0.2⟩
      ·rw[hx];exact⟨hL,c2,c3,by rw[oo];exact hop⟩
     ·rintro⟨a,b,c,d⟩
      by_cases hne:x=oc
      ·exact .inr hne
      ·rw[pG x hne]at b c d
       exact .inl (inT x a hne b c d)
   ·rcases two y hy with e | e
    ·rw[e,nS,hS];exact ltS
    ·rw[e,nT,hT]
     refine JS (lQ (aA oc st) (t:Int)) _ _ c3 (fun k hk=>?_) ltT
     rw[(memT _ ⟨k,hk,rfl⟩).2];exact gb.side t2 hk
   ·rcases two y hy with e | e
    ·rw[e,nS,hS];exact run.inv.inj
    ·rw[e,nT,hT]
     refine qP.up ?_ (by omega)
     intro a b ha hb e2
     simp only at e2
     have hno:∀k,k<B.n t→B.h t k≠oc:=fun k hk=>((memT _ ⟨k,hk,rfl⟩).1).2
     by_cases ea:a=B.n t <;> by_cases eb:b=B.n t
     ·omega
     ·rw[if_pos ea,if_neg eb]at e2;exact absurd e2.symm (hno b (by omega))
     ·rw[if_neg ea,if_pos eb]at e2;exact absurd e2 (hno a (by omega))
     ·rw[if_neg ea,if_neg eb]at e2;exact gb.inj t t2 a b (by omega) (by omega) e2
   ·have h01:(s=0∧t=1)∨(s=1∧t=0):=by omega
    rcases h01 with⟨rfl,rfl⟩ | ⟨rfl,rfl⟩
    ·rw[nS,hS]at hx
     rw[mT y]at hy
     rcases hy with hy | hy
     ·rw[yH x hx,(memT y hy).2];exact gb.cross x y (I7 x hx) hy
     ·have:=bad x hx
      rw[if_neg (by decide)]at this
      rw[hy,yH x hx];exact this
    ·rw[mT x]at hx
     rw[nS,hS]at hy
     rcases hx with hx | hx
     ·rw[yH y hy,(memT x hx).2];exact gb.cross x y hx (I7 y hy)
     ·have:=bad y hy
      rw[if_pos (by decide)]at this
      rw[hx,yH y hy];exact this
 ·by_cases e:x=oc
  ·rw[e];exact c1
  ·rw[pG x e];exact q1 x hx
def jV(o:Ord):Ord:={ o with place:=0 }
theorem dI{a b:Ord}(h:jV a=jV b):a.id=b.id∧a.owner=b.owner∧a.sym=b.sym∧a.side=b.side∧a.kind=b.kind∧a.price=b.price∧a.qty=b.qty∧a.entered=b.entered∧a.opn=b.opn∧a.filled=b.filled∧a.aG=b.aG∧a.exp=b.exp:=by
 obtain⟨a1,a2,a3,a4,a5,a6,a7,a8,a9,a10,a11,a12,Nq⟩:=a
 obtain⟨b1,b2,b3,b4,b5,b6,b7,b8,b9,b10,b11,b12,b13⟩:=b
 simp only[jV,Ord.mk.injEq]at h
 obtain⟨h1,h2,h3,h4,h5,h6,h7,h8,h9,h10,h11,h12,_⟩:=h
 exact⟨h1,h2,h3,h4,h5,h6,h7,h8,h9,h10,h11,h12⟩
theorem JM{a b:Ord}(h:jV a=jV b):aV a=aV b:=by
 obtain⟨h1,h2,h3,h4,h5,h6,h7,_⟩:=dI h
 simp only[aV,h1,h2,h3,h4,h5,h6,h7]
theorem Ih{a b c:Ord}(h1:a.side=b.side)(h2:b.side=c.side)(hab:iF a b=false)(hcb:iF c b=true):iF a c=false:=by
 rw[eX]at hab ⊢
 rw[nD]at hcb
 rw[h1,h2]at hab ⊢
 split at hab <;> split at hcb <;> (try split) <;> omega
theorem jk(l:List Ord)(o:Ask):∀n,eu l o n=none↔∀k,k<n→dK o (ah l k)=false
 | 0=>by simp[eu]
 | n+1=>by
   have ih:=jk l o n
   unfold eu
   by_cases hg:dK o (ah l n)=true
   ·rw[if_pos hg]
    constructor
    ·intro h
     split at h
     ·simp at h
     ·split at h <;> simp at h
    ·intro h
     have:=h n (by omega)
     rw[hg]at this
     exact absurd this (by decide)
   ·rw[if_neg hg,ih]
    constructor
    ·intro h k hk
     by_cases e:k=n
     ·subst e;simpa using hg
     ·exact h k (by omega)
    ·intro h k hk;exact h k (by omega)
theorem qx(l:List Ord)(o:Ask)(s:Int)(hs:∀k,dK o (ah l k)=true→(ah l k).side=s):∀n b,eu l o n=some b→∀k,k<n→dK o (ah l k)=true→iF (ah l k) (ah l b)=false
 | 0,b,h,k,hk,_=>by omega
 | n+1,b,h,k,hk,hgk=>by
   unfold eu at h
   by_cases hg:dK o (ah l n)=true
   ·rw[if_pos hg]at h
    cases hb:eu l o n with
    | none =>
      rw[hb]at h
      simp at h
      subst h
      have:=(jk l o n).1 hb
      by_cases e:k=n
      ·subst e
       rw[eX]
       split <;> omega
      ·have:=this k (by omega)
       rw[hgk]at this
       exact absurd this (by decide)
    | some b' =>
      rw[hb]at h
      simp only at h
      have hgb:=jM l o n b' hb
      by_cases hl:iF (ah l n) (ah l b')=true
      ·rw[if_pos hl]at h
       simp at h
       subst h
       by_cases e:k=n
       ·subst e
        rw[eX]
        split <;> omega
       ·exact Ih (by rw[hs k hgk,hs b' hgb]) (by rw[hs b' hgb,hs n hg]) (qx l o s hs n b' hb k (by omega) hgk) hl
      ·rw[if_neg hl]at h
       simp at h
       subst h
       by_cases e:k=n
       ·subst e;simpa using hl
       ·exact qx l o s hs n b' hb k (by omega) hgk
   ·rw[if_neg hg]at h
    by_cases e:k=n
    ·subst e;exact absurd hgk hg
    ·exact qx l o s hs n b h k (by omega) hgk
structure sU(p:Nat→Nat)(oc i s:Nat)(B:Bk)(om:Nat→Ord)(l:List Ord)(sym:ByteArray):Prop where
 il:i<l.length
 pi:p i=oc
 inj:∀a b,a<l.length→b<l.length→p a=p b→a=b
 same:∀k,k<l.length→k≠i→jV (om (p k))=jV (ah l k)
 self:jV { om oc with opn:=0 }=jV (ah l i)
 place:∀a b,a<l.length→b<l.length→a≠i→b≠i→(ah l a).sym=(ah l b).sym→0<(ah l a).opn→0<(ah l b).opn→((om (p a)).place<(om (p b)).place↔(ah l a).place<(ah l b).place)
 uz:∀a b,a<l.length→b<l.length→a≠i→b≠i→a≠b→(ah l a).sym=(ah l b).sym→0<(ah l a).opn→0<(ah l b).opn→(ah l a).place≠(ah l b).place
 mem:∀x,Mem (B.n s) (B.h s) x↔∃k,k<l.length∧k≠i∧p k=x∧(ah l k).sym=sym∧(ah l k).side=(s:Int)∧0<(ah l k).opn
 Rj:(ah l i).sym=sym
 JR:(ah l i).side=1-(s:Int)
 side:∀k,k<l.length→(ah l k).side=0∨(ah l k).side=1
 opn:∀k,k<l.length→0≤(ah l k).opn
section
variable {p : Nat → Nat} {oc i s : Nat} {B : Bk} {om : Nat → Ord} {l : List Ord} {sym : ByteArray}
theorem sU.ask(h:sU p oc i s B om l sym):aV (om oc)=aV (ah l i):=by
 have:=JM h.self
 rw[←this]
 rfl
theorem O6{l:List Ord}{k:Nat}(h:¬k<l.length):(ah l k).opn=0:=by
 unfold ah
 rw[List.getD_eq_getElem?_getD,List.getElem?_eq_none (by omega)]
 rfl
theorem sU.good(h:sU p oc i s B om l sym)(hs:s<2)(k:Nat):dK (aV (ah l i)) (ah l k)=true↔(k<l.length∧k≠i∧(ah l k).sym=sym∧(ah l k).side=(s:Int)∧0<(ah l k).opn∧eQ (ah l i).kind (ah l i).side (ah l i).price (ah l k).price=true):=by
 unfold dK
 simp only[Bool.and_eq_true,Bool.not_eq_true',beq_eq_false_iff_ne,ne_eq,decide_eq_true_eq]
 simp only[aV]
 rw[h.Rj]
 constructor
 ·rintro⟨⟨⟨h1,h2⟩,h3⟩,h4⟩
  have hk:k<l.length:=by
   by_cases hk:k<l.length
   ·exact hk
   ·exact absurd (O6 hk) h1
  have:=h.opn k hk
  have:=h.side k hk
  have:=h.JR
  exact⟨hk,fun e=>by subst e;exact h3 rfl,h2,by omega,by omega,h4⟩
 ·rintro⟨h1,h2,h3,h4,h5,h6⟩
  have:=h.JR
  exact⟨⟨⟨by omega,h3⟩,by rw[h4,this];omega⟩,h6⟩
theorem sU.less(h:sU p oc i s B om l sym){a b:Nat}(ha:a<l.length)(hb:b<l.length)(hai:a≠i)(hbi:b≠i)(hsy:(ah l a).sym=(ah l b).sym)(h1:0<(ah l a).opn)(h2:0<(ah l b).opn):iF (om (p a)) (om (p b))=iF (ah l a) (ah l b):=by
 obtain⟨_,_,_,s1,_,p1,_⟩:=dI (h.same a ha hai)
 obtain⟨_,_,_,s2,_,p2,_⟩:=dI (h.same b hb hbi)
 have pl:=h.place a b ha hb hai hbi hsy h1 h2
 rw[Bool.eq_iff_iff,nD,nD,s1,p1,p2]
 exact or_congr Iff.rfl (and_congr Iff.rfl pl)
theorem sU.best(h:sU p oc i s B om l sym)(hs:s<2)(hh:dH (dW om) (B.n s) (B.h s)):(dD l (aV (ah l i))).map p=bK B om (aV (om oc)) s:=by
 have hsd:∀k,dK (aV (ah l i)) (ah l k)=true→(ah l k).side=(s:Int):=fun k hk=>((h.good hs k).1 hk).2.2.2.1
 have X7:∀k,dK (aV (ah l i)) (ah l k)=true→Mem (B.n s) (B.h s) (p k):=fun k hk=>by
  obtain⟨a,b,c,d,e,_⟩:=(h.good hs k).1 hk
  exact (h.mem _).2 ⟨k,a,b,rfl,c,d,e⟩
 have rQ:∀k,k<B.n s→(om (B.h s k)).side=(s:Int):=fun k hk=>by
  obtain⟨j,j1,j2,j3,_,j5,_⟩:=(h.mem _).1 ⟨k,hk,rfl⟩
  rw[←j3,(dI (h.same j j1 j2)).2.2.2.1]
  exact j5
 have hmin:=yN (lQ om (s:Int)) hh rQ
 by_cases hn:B.n s=0
 ·have:dD l (aV (ah l i))=none:=by
   unfold dD
   rw[jk]
   intro k hk
   cases hg:dK (aV (ah l i)) (ah l k)
   ·rfl
   ·obtain⟨j,hj,_⟩:=X7 k hg
    omega
  rw[this]
  unfold bK
  rw[if_pos hn]
  rfl
 ·obtain⟨r,r1,r2,r3,r4,r5,r6⟩:=(h.mem _).1 ⟨0,by omega,rfl⟩
  have hpr:(om (B.h s 0)).price=(ah l r).price:=by rw[←r3];exact (dI (h.same r r1 r2)).2.2.2.2.2.1
  have hmr:∀k,dK (aV (ah l i)) (ah l k)=true→iF (ah l k) (ah l r)=false:=fun k hk=>by
   obtain⟨a,b,c,d,e,_⟩:=(h.good hs k).1 hk
   rw[←h.less a r1 b r2 (by rw[c,r4]) e r6]
   obtain⟨j,hj,e2⟩:=X7 k hk
   have:=hmin j hj
   rw[←e2,←r3]at this
   exact this
  have hask:=h.ask
  unfold bK
  rw[if_neg hn,hask,hpr]
  by_cases hg:eQ (ah l i).kind (ah l i).side (ah l i).price (ah l r).price=true
  ·rw[if_pos (show eQ (aV (ah l i)).kind (aV (ah l i)).side (aV (ah l i)).price (ah l r).price=true from hg)]
   have hgr:dK (aV (ah l i)) (ah l r)=true:=(h.good hs r).2 ⟨r1,r2,r4,r5,r6,hg⟩
   cases hb:dD l (aV (ah l i)) with
   | none =>
     have:=(jk l _ _).1 hb r r1
     rw[hgr]at this
     exact absurd this (by decide)
   | some b =>
     have hgb:=jM l _ _ b hb
     have m1:=qx l _ (s:Int) hsd _ b hb r r1 hgr
     have m2:=hmr b hgb
     obtain⟨b1,b2,b3,b4,b5,_⟩:=(h.good hs b).1 hgb
     have e:b=r:=by
      by_cases e:b=r
      ·exact e
      ·have:=h.uz b r b1 r1 b2 r2 e (by rw[b3,r4]) b5 r6
       rw[eX]at m1 m2
       rw[r5]at m1
       rw[b4]at m2
       split at m1 <;> split at m2 <;> omega
     subst e
     simp[r3]
  ·rw[if_neg (show ¬eQ (aV (ah l i)).kind (aV (ah l i)).side (aV (ah l i)).price (ah l r).price=true from hg)]
   have:dD l (aV (ah l i))=none:=by
    unfold dD
    rw[jk]
    intro k hk
    cases hgk:dK (aV (ah l i)) (ah l k)
    ·rfl
    ·exfalso
     apply hg
     obtain⟨a,b,c,d,e,f⟩:=(h.good hs k).1 hgk
     have m2:=hmr k hgk
     rw[eX]at m2
     have os:=h.JR
     unfold eQ at f ⊢
     rw[d]at m2
     split at f
     ·rename_i h5;rw[if_pos h5]
     ·rename_i h5
      rw[if_neg h5]
      split at f
      ·rename_i h6
       rw[if_pos h6]
       simp only[decide_eq_true_eq]at f ⊢
       rw[if_neg (by omega)]at m2
       omega
      ·rename_i h6
       rw[if_neg h6]
       simp only[decide_eq_true_eq]at f ⊢
       rw[if_pos (by omega)]at m2
       omega
   rw[this]
   rfl
end
open Go.RowKit
theorem sU.turn{p:Nat→Nat}{oc i s:Nat}{B B':Bk}{om df:Nat→Ord}{l l':List Ord}{sym:ByteArray}(h:sU p oc i s B om l sym)(hl:l'.length=l.length)
 (same:∀k,k<l.length→k≠i→jV (df (p k))=jV (ah l' k)) (self:jV { df oc with opn:=0 }=jV (ah l' i))
 (stat:∀k,k<l.length→(ah l' k).sym=(ah l k).sym∧(ah l' k).side=(ah l k).side∧(ah l' k).place=(ah l k).place∧0≤(ah l' k).opn∧(0<(ah l' k).opn→0<(ah l k).opn)∧(df (p k)).place=(om (p k)).place)
 (mem:∀x,Mem (B'.n s) (B'.h s) x↔∃k,k<l.length∧k≠i∧p k=x∧(ah l k).sym=sym∧(ah l k).side=(s:Int)∧0<(ah l' k).opn):sU p oc i s B' df l' sym:=by
 refine⟨by rw[hl];exact h.il,h.pi,fun a b ha hb=>h.inj a b (by omega) (by omega),fun k hk=>same k (by omega),self,fun a b ha hb hai hbi hsy h1 h2=>?_,fun a b ha hb hai hbi hab hsy h1 h2=>?_,fun x=>?_,?_,?_,fun k hk=>?_,fun k hk=>?_⟩
 ·obtain⟨a1,a2,a3,a4,a5,a6⟩:=stat a (by omega)
  obtain⟨b1,b2,b3,b4,b5,b6⟩:=stat b (by omega)
  rw[a6,b6,a3,b3]
  exact h.place a b (by omega) (by omega) hai hbi (by rw[←a1,←b1];exact hsy) (a5 h1) (b5 h2)
 ·obtain⟨a1,a2,a3,a4,a5,a6⟩:=stat a (by omega)
  obtain⟨b1,b2,b3,b4,b5,b6⟩:=stat b (by omega)
  rw[a3,b3]
  exact h.uz a b (by omega) (by omega) hai hbi hab (by rw[←a1,←b1];exact hsy) (a5 h1) (b5 h2)
 ·rw[mem x,hl]
  constructor
  ·rintro⟨k,k1,k2,k3,k4,k5,k6⟩
   obtain⟨a1,a2,_⟩:=stat k k1
   exact⟨k,k1,k2,k3,by rw[a1];exact k4,by rw[a2];exact k5,k6⟩
  ·rintro⟨k,k1,k2,k3,k4,k5,k6⟩
   obtain⟨a1,a2,_⟩:=stat k k1
   exact⟨k,k1,k2,k3,by rw[←a1];exact k4,by rw[←a2];exact k5,k6⟩
 ·rw[(stat i h.il).1];exact h.Rj
 ·rw[(stat i h.il).2.1];exact h.JR
 ·rw[(stat k (by omega)).2.1];exact h.side k (by omega)
 ·exact (stat k (by omega)).2.2.2.1
structure oW(p:Nat→Nat)(oc i s:Nat)(sym:ByteArray)(R0:List Rc)(uV f0:Int)(st:MS)(c:RC):Prop where
 nH:sU p oc i s st.B st.om c.S.l sym
 left:c.left=(st.om oc).opn
 tr:st.lg.tr=c.S.t
 tp:st.lg.tp=recs R0 c.S.told
 day:st.lg.day=c.S.day
 lX:st.B.sym=sym
 filled:c.filled=(st.om oc).filled-f0
 count:c.count=st.tr-uV
 first:c.first=if st.tr=uV then 0 else uV+1
 le:uV≤st.tr
 g0:0≤f0
 g1:f0≤1000000000000000
theorem dG{l:List Ord}{k:Nat}{o:Ord}(hk:k<l.length)(a:Nat):ah (l.set k o) a=if a=k then o else ah l a:=by
 by_cases e:a=k
 ·subst e;rw[if_pos rfl,bG hk]
 ·rw[if_neg e,iK (fun x=>e x.symm)]
theorem EF{B:Bk}{om:Nat→Ord}{o:Ask}{s x:Nat}(h:bK B om o s=some x):0<B.n s∧x=B.h s 0:=by
 unfold bK at h
 split at h
 ·simp at h
 ·split at h
  ·simp at h;exact⟨by omega,h.symm⟩
  ·simp at h
theorem oW.step{p:Nat→Nat}{oc i s:Nat}{sym:ByteArray}{R0:List Rc}{uV f0 M:Int}{st:MS}{c:RC}(h:oW p oc i s sym R0 uV f0 st c)(hM:M≤1000000000000000)(hs:s<2)(iv:Inv oc s st)(hh:dH (dW st.om) (st.B.n s) (st.B.h s))(hq:∀x,(x=oc∨jK st s x)→Qo M (st.om x))(hp:0<(st.om oc).opn){k:Nat}(hk:c.best i=some k)(htr:st.tr<1000000000)(Uw:0≤uV) :
 oW p oc i s sym R0 uV f0 (bV oc s st) (c.step i k):=by
 obtain⟨dJ,hleft,KZ,htp,Oj,hbs,hfil,hcnt,uF,hle,hf0,hf1⟩:=h
 have hb:=dJ.best hs hh
 have hk':dD c.S.l (aV (ah c.S.l i))=some k:=hk
 rw[hk']at hb
 simp only[Option.map_some]at hb
 obtain⟨hn,hpk⟩:=EF hb.symm
 have hgk:=(dJ.good hs k).1 (jM _ _ _ _ hk')
 obtain⟨k1,k2,k3,k4,k5,k6⟩:=hgk
 have il:=dJ.il
 have hsame:=dI (dJ.same k k1 k2)
 obtain⟨e1,e2,e3,e4,e5,e6,e7,e8,e9,e10,e11,e12⟩:=hsame
 have hself:=dI dJ.self
 obtain⟨s1,s2,s3,s4,s5,s6,s7,s8,s9,s10,s11,s12⟩:=hself
 simp only at s1 s2 s3 s4 s5 s6 s7 s8 s9 s10 s11 s12
 have hr:st.B.h s 0=p k:=hpk.symm
 have hne:p k≠oc:=fun e=>k2 (dJ.inj k i k1 il (by rw[e,dJ.pi]))
 have qr:Qo M (st.om (p k)):=hq _ (.inr ⟨0,hn,hpk⟩)
 have qc:Qo M (st.om oc):=hq _ (.inl rfl)
 have Df:∀a,a<c.S.l.length→a≠k→p a≠p k:=fun a ha e e2=>e (dJ.inj a k ha k1 e2)
 have VD:∀a,a<c.S.l.length→a≠i→p a≠oc:=fun a ha e e2=>e (dJ.inj a i ha il (by rw[e2,dJ.pi]))
 unfold bV RC.step
 rw[hr,e2]
 have ow:(st.om oc).owner=(ah c.S.l i).owner:=s2
 rw[ow]
 by_cases ho:(ah c.S.l k).owner=(ah c.S.l i).owner
 ·rw[if_pos ho,if_pos ho]
  have hoc:upd st.om (p k) (fA (st.om (p k))) oc=st.om oc:=af _ _ (fun e=>hne e.symm)
  refine⟨?_,by simp only[hoc];exact hleft,KZ,htp,Oj,hbs,by simp only[hoc];exact hfil,hcnt,uF,hle,hf0,hf1⟩
  simp only[RS.cu]
  refine dJ.turn (by simp) (fun a ha hai=>?_) ?_ (fun a ha=>?_) (fun x=>?_)
  ·rw[dG k1]
   by_cases e:a=k
   ·subst e
    rw[upd_same,if_pos rfl]
    have:=dJ.same a ha hai
    show fA (jV (st.om (p a)))=jV _
    rw[this]
    rfl
   ·rw[af _ _ (Df a ha e),if_neg e]
    exact dJ.same a ha hai
  ·rw[hoc,dG k1,if_neg (fun e=>k2 e.symm)]
   exact dJ.self
  ·rw[dG k1]
   by_cases e:a=k
   ·subst e
    rw[if_pos rfl,upd_same]
    exact⟨rfl,rfl,rfl,Int.le_refl _,fun h=>absurd h (by simp),rfl⟩
   ·rw[if_neg e,af _ _ (Df a ha e)]
    exact⟨rfl,rfl,rfl,dJ.opn a ha,fun h=>h,rfl⟩
  ·rw[jo iv.inj hn x,dJ.mem x,hr]
   constructor
   ·rintro⟨⟨a,a1,a2,a3,a4,a5,a6⟩,hx⟩
    refine⟨a,a1,a2,a3,a4,a5,?_⟩
    rw[dG k1,if_neg (fun e=>by subst e;exact hx a3.symm)]
    exact a6
   ·rintro⟨a,a1,a2,a3,a4,a5,a6⟩
    rw[dG k1]at a6
    by_cases e:a=k
    ·rw[if_pos e]at a6;simp at a6
    ·rw[if_neg e]at a6
     exact⟨⟨a,a1,a2,a3,a4,a5,a6⟩,by rw[←a3];exact Df a a1 e⟩
 ·rw[if_neg ho,if_neg ho]
  obtain⟨q,hqq⟩:∃q,min (st.om oc).opn (st.om (p k)).opn=q:=⟨_,rfl⟩
  have hmu:c.much k=q:=by
   unfold RC.much
   rw[hleft,←e9]
   split <;> omega
  have q0:0<q:=by have:=qr.o0;rw[e9]at hqq;omega
  obtain⟨c1,c2,c3⟩:=qc.fill (q:=q) (by omega) (by omega) hM
  obtain⟨d1,d2,d3⟩:=qr.fill (q:=q) (by omega) (by omega) hM
  have yV:aH st.om oc (p k) oc=iE (st.om oc) q:=by unfold aH;rw[af _ _ (fun e=>hne e.symm),upd_same,hqq]
  have MB:aH st.om oc (p k) (p k)=iE (st.om (p k)) q:=by unfold aH;rw[upd_same,hqq]
  have tot:∀x,x≠oc→x≠p k→aH st.om oc (p k) x=st.om x:=fun x h1 h2=>by unfold aH;rw[af _ _ h2,af _ _ h1]
  have hno:∀a,ah (c.S.fills i k q).l a=if a=i then { ah c.S.l i with filled:=wrap64 ((ah c.S.l i).filled+q) } else if a=k then { ah c.S.l k with opn:=wrap64 ((ah c.S.l k).opn-q),filled:=wrap64 ((ah c.S.l k).filled+q) } else ah c.S.l a:=fun a=>by
   simp only[RS.fills,RS.cu]
   rw[dG (by simpa using il),dG k1]
  have Ux:MS.tr ⟨dM st.B st.om oc (p k) s,aH st.om oc (p k),(dR st.lg st.om oc (p k)).kM (iW st.B st.om oc (p k))⟩=st.tr+1:=by simp[MS.tr,Lg.kM,Lg.told,Lg.kept,Lg.aS,iT]
  have hT:(dR st.lg st.om oc (p k)).stamp (iW st.B st.om oc (p k))=c.S.tr i k q:=by
   simp only[Lg.stamp,iW,RS.tr,iT,yX]
   rw[KZ,Oj,hbs,e6,hqq,s4,e1,s1,dJ.Rj]
  have hn0:0≤st.tr:=by unfold MS.tr;omega
  have w1:wrap64 (c.count+1)=c.count+1:=aF (by omega) (by omega)
  have hlen:(c.S.t.length:Int)=st.tr:=by unfold MS.tr;rw[KZ]
  refine⟨?_,?_,?_,?_,?_,?_,?_,?_,?_,?_,hf0,hf1⟩
  ·simp only[RS.dZ]
   rw[hmu]
   refine dJ.turn (by simp[RS.fills,RS.cu]) (fun a ha hai=>?_) ?_ (fun a ha=>?_) (fun x=>?_)
   ·rw[hno a,if_neg hai]
    by_cases e:a=k
    ·subst e
     rw[if_pos rfl,MB]
     have:=dJ.same a ha hai
     show iE (jV (st.om (p a))) q=jV _
     rw[this]
     rfl
    ·rw[if_neg e,tot _ (VD a ha hai) (Df a ha e)]
     exact dJ.same a ha hai
   ·rw[hno i,if_pos rfl,yV]
    have:=dJ.self
    show ({ jV { st.om oc with opn:=0 } with filled:=wrap64 ((jV { st.om oc with opn:=0 }).filled+q) }:Ord)=jV _
    rw[this]
    rfl
   ·rw[hno a]
    by_cases ei:a=i
    ·subst ei
     rw[if_pos rfl,dJ.pi,yV]
     exact⟨rfl,rfl,rfl,dJ.opn a ha,fun h=>h,rfl⟩
    ·rw[if_neg ei]
     by_cases e:a=k
     ·subst e
      rw[if_pos rfl,MB]
      refine⟨rfl,rfl,rfl,?_,fun _=>k5,rfl⟩
      have:=d1.o0
      rw[d2,e9]at this
      show 0≤wrap64 ((ah c.S.l a).opn-q)
      rw[aF (by have:=qr.hi;have:=qr.sum;have:=qr.f0;have:=qr.c0;have:=qr.e0;omega) (by have:=qr.hi;have:=qr.sum;have:=qr.f0;have:=qr.c0;have:=qr.e0;omega)]
      exact this
     ·rw[if_neg e,tot _ (VD a ha ei) (Df a ha e)]
      exact⟨rfl,rfl,rfl,dJ.opn a ha,fun h=>h,rfl⟩
   ·have hko:(ah (c.S.fills i k q).l k).opn=(st.om (p k)).opn-q:=by
     rw[hno k,if_neg k2,if_pos rfl]
     show wrap64 ((ah c.S.l k).opn-q)=_
     rw[←e9]
     exact d2
    have hbase:∀x,(∃a,a<c.S.l.length∧a≠i∧p a=x∧(ah c.S.l a).sym=sym∧(ah c.S.l a).side=(s:Int)∧0<(ah (c.S.fills i k q).l a).opn)↔(Mem (st.B.n s) (st.B.h s) x∧(x=p k→0<(st.om (p k)).opn-q)):=fun x=>by
     rw[dJ.mem x]
     constructor
     ·rintro⟨a,a1,a2,a3,a4,a5,a6⟩
      by_cases e:a=k
      ·subst e
       rw[hko]at a6
       exact⟨⟨a,a1,a2,a3,a4,a5,k5⟩,fun _=>a6⟩
      ·rw[hno a,if_neg a2,if_neg e]at a6
       exact⟨⟨a,a1,a2,a3,a4,a5,a6⟩,fun e2=>absurd (by rw[a3];exact e2) (Df a a1 e)⟩
     ·rintro⟨⟨a,a1,a2,a3,a4,a5,a6⟩,hx⟩
      refine⟨a,a1,a2,a3,a4,a5,?_⟩
      by_cases e:a=k
      ·subst e;rw[hko];exact hx a3.symm
      ·rw[hno a,if_neg a2,if_neg e];exact a6
    rw[hbase x]
    unfold dM
    rw[MB,d2]
    by_cases ez:(st.om (p k)).opn-q=0
    ·rw[if_pos ez,jo iv.inj hn x,hr]
     constructor
     ·rintro⟨a,b⟩;exact⟨a,fun e=>absurd e b⟩
     ·rintro⟨a,b⟩;exact⟨a,fun e=>by have:=b e;omega⟩
    ·rw[if_neg ez]
     constructor
     ·intro a;exact⟨a,fun _=>by omega⟩
     ·rintro⟨a,_⟩;exact a
  ·simp only[yV,c2]
   rw[hmu,hleft]
   exact aF (by have:=qc.hi;have:=qc.sum;have:=qc.f0;have:=qc.c0;have:=qc.e0;omega) (by have:=qc.hi;have:=qc.sum;have:=qc.f0;have:=qc.c0;have:=qc.e0;omega)
  ·simp only[Lg.kM,Lg.told,Lg.kept,Lg.aS,iT,RS.dZ]
   rw[KZ,hmu,←hT]
  ·simp only[Lg.kM,Lg.told,Lg.kept,Lg.aS,RS.dZ]
   rw[uO,nK,htp,hmu,←hT]
  ·simp only[Lg.kM,Lg.told,Lg.kept,Lg.aS,yX,RS.dZ]
   exact Oj
  ·show (dM st.B st.om oc (p k) s).sym=sym
   unfold dM
   split
   ·exact hbs
   ·exact hbs
  ·simp only[yV,c3]
   rw[hmu,hfil]
   rw[aF (by have:=qc.hi;have:=qc.sum;have:=qc.f0;have:=qc.c0;have:=qc.e0;have:=qc.o0;omega) (by have:=qc.hi;have:=qc.sum;have:=qc.f0;have:=qc.c0;have:=qc.e0;have:=qc.o0;omega)]
   omega
  ·show wrap64 (c.count+1)=_-uV
   rw[Ux,w1];omega
  ·show (if wrap64 (c.count+1)=1 then (c.S.t.length:Int)+1 else c.first)=_
   rw[Ux,w1,if_neg (c:=st.tr+1=uV) (by omega)]
   by_cases e:st.tr=uV
   ·rw[if_pos (by omega),hlen,e]
   ·rw[if_neg (by omega),uF,if_neg e]
  ·rw[Ux];omega
theorem qC{l:List Ord}{k:Nat}{o:Ord}(h:o.place=(ah l k).place)(a:Nat):(ah (l.set k o) a).place=(ah l a).place:=by
 by_cases e:k=a
 ·subst e
  by_cases hk:k<l.length
  ·rw[bG hk,h]
  ·rw[List.set_eq_of_length_le (by omega)]
 ·rw[iK e]
theorem Ja(c:RC)(i k a:Nat):(ah (c.step i k).S.l a).place=(ah c.S.l a).place:=by
 unfold RC.step
 split
 ·simp only[RS.cu]
  exact qC (by rfl) a
 ·simp only[RS.dZ,RS.fills,RS.cu]
  rw[qC,qC]
  ·rfl
  ·rw[qC]
   rfl
theorem oW.ends{p:Nat→Nat}{oc i s:Nat}{sym:ByteArray}{R0:List Rc}{uV f0 M:Int}(hM:M≤1000000000000000)(hs:s<2)(Uw:0≤uV):∀(f:Nat) (st:MS) (c:RC),oW p oc i s sym R0 uV f0 st c→Inv oc s st→dH (dW st.om) (st.B.n s) (st.B.h s)→(∀x,(x=oc∨jK st s x)→Qo M (st.om x))→mu oc s st≤f→st.tr+f<1000000000 →
 ∃c',Ends i f c c'∧oW p oc i s sym R0 uV f0 (aZ oc s f st) c'∧c'.S.sy=c.S.sy∧c'.S.places=c.S.places∧c'.S.l.length=c.S.l.length∧(∀a,(ah c'.S.l a).place=(ah c.S.l a).place)∧c'.S.t.length≤c.S.t.length+f∧c'.S.told.length≤c.S.told.length+f:=by
 intro f
 induction f with
 | zero =>
   intro st c h iv hh hq hmu htr
   refine⟨c,Ends.stop 0 c (.inr ?_),h,rfl,rfl,rfl,fun _=>rfl,by omega,by omega⟩
   have hn:st.B.n s=0:=by unfold mu at hmu;omega
   have hb:=h.nH.best hs hh
   unfold bK at hb
   rw[if_pos hn]at hb
   show dD c.S.l (aV (ah c.S.l i))=none
   simpa using hb
 | succ f ih =>
   intro st c h iv hh hq hmu htr
   have hb:=h.nH.best hs hh
   rw[aZ]
   by_cases hst:stops oc s st=true
   ·rw[if_pos hst]
    refine⟨c,Ends.stop _ c ?_,h,rfl,rfl,rfl,fun _=>rfl,by omega,by omega⟩
    unfold stops at hst
    simp only[Bool.or_eq_true,Bool.not_eq_true',decide_eq_false_iff_not]at hst
    rcases hst with e | e
    ·left;rw[h.left];exact e
    ·right
     have:bK st.B st.om (aV (st.om oc)) s=none:=by simpa using e
     rw[this]at hb
     show dD c.S.l (aV (ah c.S.l i))=none
     simpa using hb
   ·rw[if_neg hst]
    obtain⟨hn,hp⟩:=kC hst
    have hso:∃k,c.best i=some k:=by
     cases hbk:c.best i with
     | some k=>exact⟨k,rfl⟩
     | none =>
       have e:dD c.S.l (aV (ah c.S.l i))=none:=hbk
       rw[e]at hb
       exfalso
       apply hst
       unfold stops
       rw[←hb]
       simp
    obtain⟨k,hk⟩:=hso
    have h1:=h.step hM hs iv hh hq hp hk (by omega) Uw
    have r1:=uJ hM iv hn hp hh hq
    obtain⟨OE,aaO,_⟩:=qi iv hn hp
    have aaQ:(bV oc s st).tr≤st.tr+1:=by
     have a:=h1.tr
     have b:=h.tr
     have:=DJ c i k
     unfold MS.tr
     rw[a,b]
     omega
    obtain⟨c',he,hs',sy,pl,ln,pc,tl,ol⟩:=ih (bV oc s st) (c.step i k) h1 r1.inv r1.heap (fun x hx=>r1.q x (hx.imp_right (r1.mem x))) (by omega) (by omega)
    have q1:(c.step i k).S.sy=c.S.sy∧(c.step i k).S.places=c.S.places:=by
     unfold RC.step
     split
     ·exact⟨rfl,rfl⟩
     ·exact⟨rfl,rfl⟩
    exact⟨c',Ends.go f k c c' (by rw[h.left];exact hp) hk he,hs',sy.trans q1.1,pl.trans q1.2,ln.trans (Gw c i k),fun a=>(pc a).trans (Ja c i k a),by have:=(DJ c i k).1;omega,by have:=(DJ c i k).2;omega⟩
end Go.Proofs.YtigaphnafnpfnaaGreatDoor
namespace Go.Proofs.YtigaphnafnpfnaaGreatDoor
open Go.RowKit Go.Maps
attribute [local go_sem ↓] Go.wp_at_zero Go.wp_at_succ
theorem rC(bv bm bo i s:Nat)(V:aW)(o:Ask)(w:World)(R:Rep w bv bm bo V)(hi:i<V.nb)(bY:(V.B i).sym=o.sym)(hlen:o.sym.size≤maxLen)
 (h1:bg o.id=true) (h2:V.aO o.id=none) (h3:jJ o.owner=true) (h4:gZ o.side=true) (h5:jY o.kind=true) (h6:bg o.qty=true) (h7:iw o.kind o.price=true) (h8:V.no<200) (h9:o.kind=3) (hs:s<2) (hside:o.side=1-(s:Int)) (hop:∀k,k<(V.B i).n s→0≤(V.om ((V.B i).h s k)).opn∧(V.om ((V.B i).h s k)).opn≤1000000000000000) :
 Calls Tryz.prog 111 #[.pointer (some ⟨bv,0,none⟩),o.val] w fun e w'=>e=.returned (.int .i64 (if sF V.om ((V.B i).h s) o ((V.B i).n s)<o.qty then 9 else 0))∧ag ak w w':=by
 obtain⟨fB,mB,pK,ui⟩:=R.books
 obtain⟨fO,mO,wB⟩:=R.orders
 obtain⟨id,owner,sym,side,kind,price,qty⟩:=o
 simp only at bY hlen h1 h2 h3 h4 h5 h6 h7 h9 hside
 simp only[Ask.val]
 have hid:(Lit.int .i64 id).wf=true:=by
  simp[bg]at h1
  exact WalkArith.wf_i64 (by omega)
 have hlb:fB (sl sym)=some (V.bk i):=by rw[←bY];exact pK i hi
 have hlo:fO (.int .i64 id)=none:=by rw[wB,h2]
 obtain⟨w1,hw1⟩:∃w1,w1=w.alloc (.cells #[.int .i64 id,.int .i64 owner,.string sym,.int .i64 side,.int .i64 kind,.int .i64 price,.int .i64 qty] 52):=⟨_,rfl⟩
 have k1:ag ak w w1:=by rw[hw1];exact (ag.refl ak w).alloc _
 have hbx:ai w1 w.heap.size #[.int .i64 id,.int .i64 owner,.string sym,.int .i64 side,.int .i64 kind,.int .i64 price,.int .i64 qty] 52:=by rw[hw1];exact ai.new w _ _
 have L1:∀q,(Instr.lookup 94 (.map (some bm)) (.string sym) false).run Tryz.prog (w1.drewN q)=.ok (.pointer (some ⟨V.bk i,0,none⟩)) (w1.drewN q):=fun q=>by
  rw[(mB.kept (k1.drewN q) (fun x=>x)).look law9 Tryz.underlying94 (mP _) (WideMaps.keyOf_string_mk Tryz.underlying9 hlen)]
  show _=Result.ok (fV (some (V.bk i))) _
  rw[←hlb];rfl
 have L2:∀q,(Instr.lookup 95 (.map (some bo)) (.int .i64 id) false).run Tryz.prog (w1.drewN q)=.ok (.pointer none) (w1.drewN q):=fun q=>by
  rw[(mO.kept (k1.drewN q) (fun x=>x)).look law3 Tryz.underlying95 (sH _) (keyOf_int_mk Tryz.underlying3 hid)]
  show _=Result.ok (fV none) _
  rw[←hlo]
 have L3:∀q,(Builtin.len_ #[95] 3 #[.map (some bo)]).run Tryz.prog (w1.drewN q)=.ok (.int .i64 V.no) (w1.drewN q):=fun q=>(mO.kept (k1.drewN q) (fun x=>x)).len Tryz.underlying95 _
 have v0:w1.cell? ⟨bv,0,none⟩=some (.map (some bm)):=(k1.blk R.cZ (fun x=>x)).cell 0
 have v1:w1.cell? ⟨bv,1,none⟩=some (.map (some bo)):=(k1.blk R.cZ (fun x=>x)).cell 1
 have x0:w1.cell? ⟨w.heap.size,0,none⟩=some (.int .i64 id):=hbx.cell 0
 have x1:w1.cell? ⟨w.heap.size,1,none⟩=some (.int .i64 owner):=hbx.cell 1
 have x2:w1.cell? ⟨w.heap.size,2,none⟩=some (.string sym):=hbx.cell 2
 have x3:w1.cell? ⟨w.heap.size,3,none⟩=some (.int .i64 side):=hbx.cell 3
 have x4:w1.cell? ⟨w.heap.size,4,none⟩=some (.int .i64 kind):=hbx.cell 4
 have x5:w1.cell? ⟨w.heap.size,5,none⟩=some (.int .i64 price):=hbx.cell 5
 have x6:w1.cell? ⟨w.heap.size,6,none⟩=some (.int .i64 qty):=hbx.cell 6
 have e3:(kind == 3)=true:=by rw[h9];rfl
 have e4:(kind == 4)=false:=by rw[h9];rfl
 have HF:=hide (fun (W:World) (hW:aX W (V.bk i) (V.B i) V.om)=>yT (V.bk i) s (V.B i) V.om ⟨id,owner,sym,side,kind,price,qty⟩ W hW hs hside hop)
 have YL:=hide (R.book i hi)
 have e8:decide ((200:Int)≤(V.no:Int))=false:=by simp;omega
 have HW:=hide hw1
 have HK:=hide k1
 clear hop hside hw1 k1 hbx h9 hlb hlo pK ui wB mB mO hid
 have HSH:Hid (∃z,z=sF V.om ((V.B i).h s) ⟨id,owner,sym,side,kind,price,qty⟩ ((V.B i).n s)):=⟨_,rfl⟩
 obtain⟨z,hz⟩:=ae HSH
 rw[←hz]at HF ⊢
 have HF2:Hid (∀W,(∃q,W=w1.drewN q)→Calls Tryz.prog 147 #[.pointer (some ⟨V.bk i,0,none⟩),.agg #[.int .i64 id,.int .i64 owner,.string sym,.int .i64 side,.int .i64 kind,.int .i64 price,.int .i64 qty]] W fun e w'=>e=.returned (.int .i64 z)∧ag ak W w'):=by
  rintro W ⟨q,rfl⟩
  exact ae HF _ ((ae YL).kept ((ae HK).drewN q) (fun _ _ x=>x))
 clear HF HSH hz
 go_enter Tryz.func111,Tryz.ntmps111
 go_wp2
 rw[←ae HW]
 go_quiet (fail)
 go_wp2_with (first | (go_at_call 68;refine (aU _ _).mono ?_;rintro e w' ⟨rfl,rfl⟩) | (go_at_call 144;refine (dC _ _).mono ?_;rintro e w' ⟨rfl,rfl⟩) | (go_at_call 47;refine (dw _ _).mono ?_;rintro e w' ⟨rfl,rfl⟩) | (go_at_call 145;refine (dL _ _).mono ?_;rintro e w' ⟨rfl,rfl⟩) | (go_at_call 146;refine (bU _ _ _).mono ?_;rintro e w' ⟨rfl,rfl⟩))
 go_quiet (fail)
 go_wp2_with (first | (go_at_call 68;refine (aU _ _).mono ?_;rintro e w' ⟨rfl,rfl⟩) | (go_at_call 144;refine (dC _ _).mono ?_;rintro e w' ⟨rfl,rfl⟩) | (go_at_call 47;refine (dw _ _).mono ?_;rintro e w' ⟨rfl,rfl⟩) | (go_at_call 145;refine (dL _ _).mono ?_;rintro e w' ⟨rfl,rfl⟩) | (go_at_call 146;refine (bU _ _ _).mono ?_;rintro e w' ⟨rfl,rfl⟩))
 obtain⟨H,hH⟩:∃H,w.heap.size=H:=⟨_,rfl⟩
 rw[hH]at x0 x1 x2 x3 x4 x5 x6 ⊢
 go_region_held3 (fun w'=>w'.cell? ⟨H,0,none⟩=some (.int .i64 id)∧w'.cell? ⟨H,1,none⟩=some (.int .i64 owner)∧w'.cell? ⟨H,2,none⟩=some (.string sym)∧w'.cell? ⟨H,3,none⟩=some (.int .i64 side)∧w'.cell? ⟨H,4,none⟩=some (.int .i64 kind)∧w'.cell? ⟨H,5,none⟩=some (.int .i64 price)∧w'.cell? ⟨H,6,none⟩=some (.int .i64 qty)) (go_keep)
  (first | (go_at_call 147;refine (ae HF2 _ ⟨_,rfl⟩).mono ?_;rintro e w3 ⟨rfl,hc3⟩;have k0:=hc3.cell (p:=⟨H,0,none⟩) x0 (fun x=>x);have k1:=hc3.cell (p:=⟨H,1,none⟩) x1 (fun x=>x);have k2:=hc3.cell (p:=⟨H,2,none⟩) x2 (fun x=>x);have k3:=hc3.cell (p:=⟨H,3,none⟩) x3 (fun x=>x);have k4:=hc3.cell (p:=⟨H,4,none⟩) x4 (fun x=>x);have k5:=hc3.cell (p:=⟨H,5,none⟩) x5 (fun x=>x);have k6:=hc3.cell (p:=⟨H,6,none⟩) x6 (fun x=>x)))
 go_wp2
 all_goals (go_ret;exact⟨rfl,ag.trans ((ae HK).drewN _) (ag.trans (by repeat (first | exact ag.refl _ _ | refine ag.drewN ?_ _ | refine ag.drew ?_)) hc3)⟩)
open Go.RowKit
def xx(je:Int)(again:Bool):ByteArray:=fC (two je (if again then 1 else 0)) Bq 2
theorem yh(je:Int)(again:Bool)(w:World)(hT:Tab w)(h:bZ je) :
 Calls Tryz.prog 72 #[.int .i64 je,.bool again] w fun e w'=>e=.returned (.string (xx je again))∧ag ak w w':=by
 have key:∀z:Int,bZ z→Calls Tryz.prog 65 #[.string ⟨#[98,117,115,116]⟩,.slice (some ⟨w.heap.size,0,none⟩) 2 2] (w.alloc (.cells #[.int .i64 je,.int .i64 z] 3)) fun e w'=>e=.returned (.string (fC (two je z) Bq 2))∧ag ak w w':=by
  intro z hz
  have k0:ag ak w (w.alloc (.cells #[.int .i64 je,.int .i64 z] 3)):=(ag.refl ak w).alloc _
  have b0:=ai.new w #[.int .i64 je,.int .i64 z] 3
  refine (oq Bq (two je z) w.heap.size 2 2 _ (hT.aj k0) (by omega) (by decide) ?_ ?_).mono ?_
  ·intro i hi
   match i,hi with
   | 0,_=>exact b0.cell 0
   | 1,_=>exact b0.cell 1
  ·intro i hi
   match i,hi with
   | 0,_=>exact h
   | 1,_=>exact hz
  ·rintro e w' ⟨rfl,k2⟩
   exact⟨rfl,k0.trans k2⟩
 have K1:=hide (key 1 ⟨by omega,by omega⟩)
 have K0:=hide (key 0 ⟨by omega,by omega⟩)
 clear key hT
 cases again
 ·go_enter Tryz.func72,Tryz.ntmps72
  go_wp2_with (go_at_call 65;refine (ae K0).mono ?_;rintro e w' ⟨rfl,hk⟩;have HK:=hide hk;clear hk)
  go_ret
  exact⟨rfl,ae HK⟩
 ·go_enter Tryz.func72,Tryz.ntmps72
  go_wp2_with (go_at_call 65;refine (ae K1).mono ?_;rintro e w' ⟨rfl,hk⟩;have HK:=hide hk;clear hk)
  go_ret
  exact⟨rfl,ae HK⟩
theorem xy(je:Int)(again:Bool)(h:bZ je):0<(xx je again).size∧(xx je again).size≤290:=by
 have z1:=iJ (two je (if again then 1 else 0)) Bq 2 (fun i hi=>by
  match i,hi with
  | 0,_=>exact h
  | 1,_=>show bZ (if again then 1 else 0);cases again <;> exact⟨by simp,by simp⟩)
 have g1:=tC (two je (if again then 1 else 0)) Bq 2
 have zE:Bq.size=4:=by decide
 rw[zE]at z1 g1
 unfold xx
 omega
theorem Ij(je:Int)(again:Bool)(w:World)(hT:Tab w)(h:bZ je) :
 ∀W,ag ak w W→Calls Tryz.prog 72 #[.int .i64 je,.bool again] W fun e w'=>e=.returned (.string (xx je again))∧ag ak w w':=by
 intro W k
 refine (yh je again W (hT.aj k) h).mono ?_
 rintro e w' ⟨rfl,k2⟩
 exact⟨rfl,k.trans k2⟩
def three(a b c:Int)(i:Nat):Int:=if i=0 then a else if i=1 then b else c
theorem ou(word:ByteArray)(f:Nat→Int)(m:Nat)(w:World)(hT:Tab w)(h0:0<word.size)(hw:word.size≤100)(hm:m≤8)(hf:∀i,i<m→bZ (f i)) :
 (0<(fC f word m).size∧(fC f word m).size≤290)∧∀W,ag ak w W→∀sb cap,(∀i,i<m→W.cell? ⟨sb,i,none⟩=some (.int .i64 (f i))) →
  Calls Tryz.prog 65 #[.string word,.slice (some ⟨sb,0,none⟩) m cap] W fun e w'=>e=.returned (.string (fC f word m))∧ag ak w w':=by
 refine⟨?_,fun W k sb cap hc=>?_⟩
 ·have z1:=iJ f word m hf
  have g1:=tC f word m
  omega
 ·refine (oq word f sb m cap W (hT.aj k) (by omega) (by omega) hc hf).mono ?_
  rintro e w' ⟨rfl,k2⟩
  exact⟨rfl,k.trans k2⟩
def txt(n:Nat):ByteArray:=if n<10 then ⟨#[UInt8.ofNat (48+n)]⟩ else txt (n / 10)++⟨#[UInt8.ofNat (48+n % 10)]⟩
theorem ve{n:Nat}(h:n<10):txt n=⟨#[UInt8.ofNat (48+n)]⟩:=by unfold txt;rw[if_pos h]
theorem JX{n:Nat}(h:¬n<10):txt n=txt (n / 10)++⟨#[UInt8.ofNat (48+n % 10)]⟩:=by
 conv=>lhs;unfold txt
 rw[if_neg h]
theorem yY:∀(d n:Nat),n<10 ^ (d+1)→1≤(txt n).size∧(txt n).size≤d+1
 | 0,n,h=>by rw[ve (by simpa using h)];exact⟨Nat.le_refl _,Nat.le_refl _⟩
 | d+1,n,h=>by
   by_cases h1:n<10
   ·rw[ve h1];exact⟨Nat.le_refl _,by show 1≤_;omega⟩
   ·have:=yY d (n / 10) (by rw[Nat.pow_succ]at h;omega)
    rw[JX h1,ByteArray.size_append]
    show 1≤(txt (n / 10)).size+1∧(txt (n / 10)).size+1≤d+1+1
    omega
theorem WV(n:Nat)(w:World):(convert 98 9 (.slice (some ⟨w.heap.size,0,none⟩) 1 1)).run Tryz.prog (w.alloc (.cells #[.int .u8 (48+(n:Int) % 10)] 5))=.ok (.string ⟨#[UInt8.ofNat (48+n % 10)]⟩) (w.alloc (.cells #[.int .u8 (48+(n:Int) % 10)] 5)):=by
 refine run_convert_bytes_back (P:=Tryz.prog) _ 98 9 5 ⟨w.heap.size,0,none⟩ 1 [UInt8.ofNat (48+n % 10)] Tryz.underlying98 Tryz.underlying5 Tryz.underlying9 ?_
 intro j hj
 simp at hj
 subst hj
 have e:Addr.add ⟨w.heap.size,0,none⟩ 0=⟨w.heap.size,0,none⟩:=by simp[Addr.add]
 rw[e,(ai.new w _ _).cell 0]
 have:(UInt8.ofNat (48+n % 10)).toNat=48+n % 10:=by rw[UInt8.toNat_ofNat'];omega
 simp only[List.getElem_cons_zero,this]
 simp
theorem PU:∀(n:Nat) (w:World),n<10000000000→Calls Tryz.prog 173 #[.int .i64 (n:Int)] w fun e w'=>e=.returned (.string (txt n))∧ag ak w w':=by
 intro n
 induction n using Nat.strongRecOn with
 | _ n ih =>
   intro w hn
   have h10:(n:Int) % 10<10:=by omega
   have aaM:0≤(n:Int) % 10:=by omega
   have hcv:=WV n w
   obtain⟨d,hd⟩:∃d,UInt8.ofNat (48+n % 10)=d:=⟨_,rfl⟩
   rw[hd]at hcv
   by_cases h:n<10
   ·have HR:Hid (txt n=⟨#[d]⟩):=by show _=_;rw[ve h,←hd,Nat.mod_eq_of_lt h]
    clear hd
    go_enter Tryz.func173,Tryz.ntmps173
    go_wp2
    go_ret
    exact⟨by rw[ae HR];rfl,(ag.refl _ _).alloc _⟩
   ·have HR:=hide (JX h)
    rw[hd]at HR
    clear hd
    have HI:=hide (fun w=>ih (n / 10) (by omega) w (by omega))
    have hsz:=yY 9 (n / 10) (by omega)
    have hc2:=dV (P:=Tryz.prog) (txt (n / 10)) ⟨#[d]⟩ (by show (txt (n / 10)).size+1≤1000000;omega)
    clear ih
    go_enter Tryz.func173,Tryz.ntmps173
    go_wp2_with (go_at_call 173;refine (ae HI _).mono ?_;rintro e w2 ⟨rfl,k2⟩)
    go_ret
    exact⟨by rw[ae HR];rfl,((ag.refl _ _).alloc _).trans k2⟩
def mG(n:Int):Prop:=0≤n∧n<10000000000
def iG(n:Int):ByteArray:=txt n.toNat
theorem lU(n:Int)(h:mG n)(w0:World):∀W,ag ak w0 W→Calls Tryz.prog 173 #[.int .i64 n] W fun e w'=>e=.returned (.string (iG n))∧ag ak w0 w':=fun W k=>by
 have e:n=((n.toNat:Nat):Int):=by have:=h.1;omega
 have h2:=h.2
 have:=PU n.toNat W (by omega)
 rw[←e]at this
 refine this.mono ?_
 rintro e' w' ⟨rfl,k'⟩
 exact⟨rfl,k.trans k'⟩
theorem bM(n:Int)(h:mG n):1≤(iG n).size∧(iG n).size≤10:=yY 9 _ (by have:=h.1;have:=h.2;omega)
theorem I5(s:ByteArray)(id owner:Int)(sym:ByteArray)(side ax price qty a b c:Int)(again:Bool)(w:World)  (hs:s.size≤1000) :
 Calls Tryz.prog 139 #[.agg #[.int .u8 108,.string s,.int .i64 id,.int .i64 owner,.string sym,.int .i64 side,.int .i64 ax,.int .i64 price,.int .i64 qty,.int .i64 a,.int .i64 b,.int .i64 c,.bool again]] w fun e w'=>e=.returned (.string ((⟨#[108,105,115,116,32]⟩:ByteArray)++s))∧ag ak w w':=by
 obtain⟨w1,hw1⟩:∃w1,w1=w.alloc (.cells #[.int .u8 108,.string s,.int .i64 id,.int .i64 owner,.string sym,.int .i64 side,.int .i64 ax,.int .i64 price,.int .i64 qty,.int .i64 a,.int .i64 b,.int .i64 c,.bool again] 169):=⟨_,rfl⟩
 have k0:ag ak w w1:=by rw[hw1];exact (ag.refl ak w).alloc _
 have b0:ai w1 w.heap.size #[.int .u8 108,.string s,.int .i64 id,.int .i64 owner,.string sym,.int .i64 side,.int .i64 ax,.int .i64 price,.int .i64 qty,.int .i64 a,.int .i64 b,.int .i64 c,.bool again] 169:=by rw[hw1];exact ai.new _ _ _
 have HT:Hid (∀n,mG n→∀W,ag ak w1 W→Calls Tryz.prog 173 #[.int .i64 n] W fun e w'=>e=.returned (.string (iG n))∧ag ak w1 w'):=fun n h=>lU n h w1
 have c0:=dV (P:=Tryz.prog) (⟨#[108,105,115,116,32]⟩:ByteArray) s (by (repeat rw[ByteArray.size_append]);show 5+s.size≤1000000;omega)
 obtain⟨H,hH⟩:∃H,w.heap.size=H:=⟨_,rfl⟩
 rw[hH]at b0
 have x0:w1.cell? ⟨H,0,none⟩=some (.int .u8 108):=b0.cell 0
 have x1:w1.cell? ⟨H,1,none⟩=some (.string s):=b0.cell 1
 have lH:H<w1.heap.size:=b0.lt
 have uh:=hide k0
 have HW1:=hide hw1
 have hK:Hid (ag ak w1 w1):=ag.refl _ _
 clear k0 hw1 b0
 go_enter Tryz.func139,Tryz.ntmps139
 go_wp2
 go_ret
 refine⟨rfl,?_⟩
 first | exact ae uh | (rw[ae HW1]at uh;exact ae uh) | exact (ag.refl _ _).alloc _
theorem Dw(s:ByteArray)(id owner:Int)(sym:ByteArray)(side ax price qty a b c:Int)(again:Bool)(w:World)(JC:mG a)  :
 Calls Tryz.prog 139 #[.agg #[.int .u8 99,.string s,.int .i64 id,.int .i64 owner,.string sym,.int .i64 side,.int .i64 ax,.int .i64 price,.int .i64 qty,.int .i64 a,.int .i64 b,.int .i64 c,.bool again]] w fun e w'=>e=.returned (.string ((⟨#[99,97,110,99,101,108,32]⟩:ByteArray)++(iG a)))∧ag ak w w':=by
 obtain⟨w1,hw1⟩:∃w1,w1=w.alloc (.cells #[.int .u8 99,.string s,.int .i64 id,.int .i64 owner,.string sym,.int .i64 side,.int .i64 ax,.int .i64 price,.int .i64 qty,.int .i64 a,.int .i64 b,.int .i64 c,.bool again] 169):=⟨_,rfl⟩
 have k0:ag ak w w1:=by rw[hw1];exact (ag.refl ak w).alloc _
 have b0:ai w1 w.heap.size #[.int .u8 99,.string s,.int .i64 id,.int .i64 owner,.string sym,.int .i64 side,.int .i64 ax,.int .i64 price,.int .i64 qty,.int .i64 a,.int .i64 b,.int .i64 c,.bool again] 169:=by rw[hw1];exact ai.new _ _ _
 have Zx:=bM a JC
 have HT:Hid (∀n,mG n→∀W,ag ak w1 W→Calls Tryz.prog 173 #[.int .i64 n] W fun e w'=>e=.returned (.string (iG n))∧ag ak w1 w'):=fun n h=>lU n h w1
 have c0:=dV (P:=Tryz.prog) (⟨#[99,97,110,99,101,108,32]⟩:ByteArray) (iG a) (by (repeat rw[ByteArray.size_append]);show 7+(iG a).size≤1000000;omega)
 obtain⟨H,hH⟩:∃H,w.heap.size=H:=⟨_,rfl⟩
 rw[hH]at b0
 have x0:w1.cell? ⟨H,0,none⟩=some (.int .u8 99):=b0.cell 0
 have x9:w1.cell? ⟨H,9,none⟩=some (.int .i64 a):=b0.cell 9
 have lH:H<w1.heap.size:=b0.lt
 have uh:=hide k0
 have HW1:=hide hw1
 have hK:Hid (ag ak w1 w1):=ag.refl _ _
 clear k0 hw1 b0
 go_enter Tryz.func139,Tryz.ntmps139
 go_wp2_with (go_at_call 173;rw[←ae HW1];refine (ae HT _ JC _ (ae hK)).mono ?_;rintro e w3 ⟨rfl,hk⟩;have lV:=hide hk;clear hk)
 go_ret
 exact⟨rfl,(ae uh).trans (ae lV)⟩
theorem zM(s:ByteArray)(id owner:Int)(sym:ByteArray)(side ax price qty a b c:Int)(again:Bool)(w:World)(JC:mG a)(Xd:mG b)(h_c:mG c)  :
 Calls Tryz.prog 139 #[.agg #[.int .u8 114,.string s,.int .i64 id,.int .i64 owner,.string sym,.int .i64 side,.int .i64 ax,.int .i64 price,.int .i64 qty,.int .i64 a,.int .i64 b,.int .i64 c,.bool again]] w fun e w'=>e=.returned (.string ((((((⟨#[114,101,112,108,97,99,101,32]⟩:ByteArray)++(iG a))++(⟨#[32]⟩:ByteArray))++(iG b))++(⟨#[32]⟩:ByteArray))++(iG c)))∧ag ak w w':=by
 obtain⟨w1,hw1⟩:∃w1,w1=w.alloc (.cells #[.int .u8 114,.string s,.int .i64 id,.int .i64 owner,.string sym,.int .i64 side,.int .i64 ax,.int .i64 price,.int .i64 qty,.int .i64 a,.int .i64 b,.int .i64 c,.bool again] 169):=⟨_,rfl⟩
 have k0:ag ak w w1:=by rw[hw1];exact (ag.refl ak w).alloc _
 have b0:ai w1 w.heap.size #[.int .u8 114,.string s,.int .i64 id,.int .i64 owner,.string sym,.int .i64 side,.int .i64 ax,.int .i64 price,.int .i64 qty,.int .i64 a,.int .i64 b,.int .i64 c,.bool again] 169:=by rw[hw1];exact ai.new _ _ _
 have Zx:=bM a JC
 have z_b:=bM b Xd
 have z_c:=bM c h_c
 have HT:Hid (∀n,mG n→∀W,ag ak w1 W→Calls Tryz.prog 173 #[.int .i64 n] W fun e w'=>e=.returned (.string (iG n))∧ag ak w1 w'):=fun n h=>lU n h w1
 have c0:=dV (P:=Tryz.prog) (⟨#[114,101,112,108,97,99,101,32]⟩:ByteArray) (iG a) (by (repeat rw[ByteArray.size_append]);show 8+(iG a).size≤1000000;omega)
 have c1:=dV (P:=Tryz.prog) ((⟨#[114,101,112,108,97,99,101,32]⟩:ByteArray)++(iG a)) (⟨#[32]⟩:ByteArray) (by (repeat rw[ByteArray.size_append]);show (8+(iG a).size)+1≤1000000;omega)
 have c2:=dV (P:=Tryz.prog) (((⟨#[114,101,112,108,97,99,101,32]⟩:ByteArray)++(iG a))++(⟨#[32]⟩:ByteArray)) (iG b) (by (repeat rw[ByteArray.size_append]);show ((8+(iG a).size)+1)+(iG b).size≤1000000;omega)
 have c3:=dV (P:=Tryz.prog) ((((⟨#[114,101,112,108,97,99,101,32]⟩:ByteArray)++(iG a))++(⟨#[32]⟩:ByteArray))++(iG b)) (⟨#[32]⟩:ByteArray) (by (repeat rw[ByteArray.size_append]);show (((8+(iG a).size)+1)+(iG b).size)+1≤1000000;omega)
 have c4:=dV (P:=Tryz.prog) (((((⟨#[114,101,112,108,97,99,101,32]⟩:ByteArray)++(iG a))++(⟨#[32]⟩:ByteArray))++(iG b))++(⟨#[32]⟩:ByteArray)) (iG c) (by (repeat rw[ByteArray.size_append]);show ((((8+(iG a).size)+1)+(iG b).size)+1)+(iG c).size≤1000000;omega)
 obtain⟨H,hH⟩:∃H,w.heap.size=H:=⟨_,rfl⟩
 rw[hH]at b0
 have x0:w1.cell? ⟨H,0,none⟩=some (.int .u8 114):=b0.cell 0
 have x9:w1.cell? ⟨H,9,none⟩=some (.int .i64 a):=b0.cell 9
 have x10:w1.cell? ⟨H,10,none⟩=some (.int .i64 b):=b0.cell 10
 have x11:w1.cell? ⟨H,11,none⟩=some (.int .i64 c):=b0.cell 11
 have lH:H<w1.heap.size:=b0.lt
 have uh:=hide k0
 have HW1:=hide hw1
 have hK:Hid (ag ak w1 w1):=ag.refl _ _
 clear k0 hw1 b0
 go_enter Tryz.func139,Tryz.ntmps139
 go_wp2
 rw[←ae HW1]
 go_region_held3 (fun w'=>w'.cell? ⟨H,9,none⟩=some (.int .i64 a)∧w'.cell? ⟨H,10,none⟩=some (.int .i64 b)∧w'.cell? ⟨H,11,none⟩=some (.int .i64 c)) (go_keep)
  (first
    | (go_at_call 173;refine (ae HT _ ?b _ ?cc).mono ?_;(case b=>first | exact JC | exact Xd | exact h_c);(case cc=>repeat (first | exact ae P6 | exact ag.refl _ _ | refine ag.drew ?_ | refine ag.alloc ?_ _));rintro e w3 ⟨rfl,hk⟩;have y9:=hk.cell (p:=⟨H,9,none⟩) x9 (fun x=>x);have VG:=hk.cell (p:=⟨H,10,none⟩) x10 (fun x=>x);have Zv:=hk.cell (p:=⟨H,11,none⟩) x11 (fun x=>x);have P6:=hide hk;clear hk))
 all_goals
  go_wp2
  go_ret
  exact⟨rfl,(ae uh).trans (by repeat (first | exact ae P6 | refine ag.drew ?_ | refine ag.drewN ?_ _))⟩
theorem Gh(s:ByteArray)(id owner:Int)(sym:ByteArray)(side ax price qty a b c:Int)(again:Bool)(w:World) :
 Calls Tryz.prog 139 #[.agg #[.int .u8 120,.string s,.int .i64 id,.int .i64 owner,.string sym,.int .i64 side,.int .i64 ax,.int .i64 price,.int .i64 qty,.int .i64 a,.int .i64 b,.int .i64 c,.bool again]] w fun e w'=>e=.returned (.string (⟨#[99,108,111,115,101]⟩:ByteArray))∧ag ak w w':=by
 go_enter Tryz.func139,Tryz.ntmps139
 go_wp2
 go_ret
 exact⟨rfl,(ag.refl _ _).alloc _⟩
end Go.Proofs.YtigaphnafnpfnaaGreatDoor
