import Derived.Test.YtigaphnafnpfnaaGreatDoorQVJ5
import Derived.Test.YtigaphnafnpfnaaGreatDoorQVF2
import Derived.Test.YtigaphnafnpfnaaGreatDoorQVF1
import Derived.Test.YtigaphnafnpfnaaGreatDoorQVE12
import Derived.Deep.LoopGhost
set_option linter.unusedVariables false
set_option linter.unusedSimpArgs false
namespace Go.Proofs.YtigaphnafnpfnaaGreatDoor
theorem Qo.mono{M M':Int}{o:Ord}(h:Qo M o)(hm:M≤M'):Qo M' o:=⟨h.sum,h.o0,h.f0,h.c0,h.e0,by have:=h.hi;omega⟩
theorem rU{B:Bk}{om:Nat→Ord}{sym:ByteArray}{L:Nat→Prop}(h:GB B om sym L){s k:Nat}(hs:s<2)(hk:k<B.n s):GB (B.leave om s k) om sym (fun x=>L x∧x≠B.h s k):=by
 have other:∀y,y≠s→(B.leave om s k).n y=B.n y∧(B.leave om s k).h y=B.h y:=fun y hy=>by simp only[Bk.leave];rw[af _ _ hy,af _ _ hy];exact⟨rfl,rfl⟩
 have iff:=jo (om:=om) (h.inj s hs) hk
 have ne:∀y,y<2→y≠s→∀x,Mem (B.n y) (B.h y) x→x≠B.h s k:=fun y hy hne x hx e=>by
  have a:=((h.mem y hy x).1 hx).2.2.1
  have b:=((h.mem s hs _).1 ⟨k,hk,rfl⟩).2.2.1
  rw[e,b]at a
  omega
 have sub:∀y,y<2→∀x,Mem ((B.leave om s k).n y) ((B.leave om s k).h y) x→Mem (B.n y) (B.h y) x:=fun y hy x hx=>by
  by_cases e:y=s
  ·rw[e]at hx ⊢;exact ((iff x).1 hx).1
  ·rw[(other y e).1,(other y e).2]at hx;exact hx
 refine⟨h.lX,fun y hy x=>?_,fun y hy=>?_,fun y hy=>?_,fun x y hx hy=>h.cross x y (sub 0 (by omega) x hx) (sub 1 (by omega) y hy)⟩
 ·by_cases e:y=s
  ·rw[e,iff x,h.mem s hs x]
   exact⟨fun ⟨⟨a,b⟩,c⟩=>⟨⟨a,c⟩,b⟩,fun ⟨⟨a,c⟩,b⟩=>⟨⟨a,b⟩,c⟩⟩
  ·rw[(other y e).1,(other y e).2]
   constructor
   ·intro hx
    obtain⟨a,b⟩:=(h.mem y hy x).1 hx
    exact⟨⟨a,ne y hy e x hx⟩,b⟩
   ·rintro⟨⟨a,_⟩,b⟩
    exact (h.mem y hy x).2 ⟨a,b⟩
 ·by_cases e:y=s
  ·rw[e];exact rV rfl (fun k hk=>h.side hs hk) (h.heap s hs) hk
  ·rw[(other y e).1,(other y e).2];exact h.heap y hy
 ·by_cases e:y=s
  ·rw[e]
   have h0:qP (B.n s-1+1) (B.h s):=by rw[show B.n s-1+1=B.n s by omega];exact h.inj s hs
   simp only[Bk.leave,upd_same]
   exact fun a b ha hb e=>(h0.remove (lt:=dW om) (i:=k) (by omega)) a b (by omega) (by omega) e
  ·rw[(other y e).1,(other y e).2];exact h.inj y hy
def VL(V:aW)(x:Nat):Prop:=∃id,V.aO id=some x
structure GW(V:aW)(M:Int):Prop where
 gb:∀i,i<V.nb→GB (V.B i) V.om (V.B i).sym (VL V)
 kG:∀i j,i<V.nb→j<V.nb→(V.B i).sym=(V.B j).sym→i=j
 q:∀x,VL V x→Qo M (V.om x)
 sym:∀x,VL V x→∃i,i<V.nb∧(V.om x).sym=(V.B i).sym
 side:∀x,VL V x→(V.om x).side=0∨(V.om x).side=1
theorem xw{BB:Nat→Bk}{nb:Nat}{nm:Nat→ByteArray}(kG:∀i j,i<nb→j<nb→nm i=nm j→i=j){i oc s t g cap':Nat}{B0:Bk}{kE:Nat→Ord}{lg:Lg}{L:Nat→Prop}{M:Int}(hM:M≤1000000000000000)(hi:i<nb)(hs:s<2)(ht:t=1-s)(hL:L oc)(bY:(kE oc).sym=nm i)(hside:(kE oc).side=(t:Int))(hq:∀x,L x→Qo M (kE x))
 (gi:GB B0 kE (nm i) (fun x=>L x∧x≠oc)) (gj:∀j,j<nb→j≠i→GB (BB j) kE (nm j) L) :
 (∀j,j<nb→GB (upd BB i (dS oc t g cap' (mF oc s ⟨B0,kE,lg⟩)) j) (aA oc (mF oc s ⟨B0,kE,lg⟩)) (nm j) L)∧(∀x,L x→Qo M (aA oc (mF oc s ⟨B0,kE,lg⟩) x))∧Run oc s M ⟨B0,kE,lg⟩ (mF oc s ⟨B0,kE,lg⟩) ∧
  (∀x,(aA oc (mF oc s ⟨B0,kE,lg⟩) x).sym=(kE x).sym∧(aA oc (mF oc s ⟨B0,kE,lg⟩) x).side=(kE x).side)∧Inv oc s ⟨B0,kE,lg⟩:=by
 obtain⟨iv,g1,g2,run,stat,keep⟩:=KG (g:=g) (cap':=cap') (lg:=lg) hM hs ht hL bY hside hq gi
 have sy:∀x,(aA oc (mF oc s ⟨B0,kE,lg⟩) x).sym=(kE x).sym∧(aA oc (mF oc s ⟨B0,kE,lg⟩) x).side=(kE x).side:=fun x=>by
  by_cases e:x=oc
  ·have h1:=run.stat oc
   rw[e]
   unfold aA
   split
   ·rw[upd_same];exact⟨h1.2.2.1,h1.2.2.2.1⟩
   ·rw[upd_same];exact⟨h1.2.2.1,h1.2.2.2.1⟩
  ·exact⟨(stat x e).2.2.1,(stat x e).2.2.2.1⟩
 refine⟨fun j hj=>?_,g2,run,sy,iv⟩
 by_cases e:j=i
 ·rw[e,upd_same];exact g1
 ·rw[af _ _ e]
  have ns:nm j≠nm i:=fun h=>e (kG j i hj hi h)
  have same:∀x,(kE x).sym=nm j→aA oc (mF oc s ⟨B0,kE,lg⟩) x=kE x:=fun x hx=>keep x (fun e2=>ns (by rw[←hx,e2];exact bY)) (.inl (by rw[hx];exact ns))
  refine (gj j hj e).jP (fun x=>?_) (fun x _ hx _=>by rw[same x hx];exact⟨rfl,rfl,rfl⟩)
  rw[(sy x).1]
  constructor
  ·rintro⟨a,b,c⟩;rw[same x b]at c;exact⟨a,b,c⟩
  ·rintro⟨a,b,c⟩;rw[same x b];exact⟨a,b,c⟩
theorem yz{o:Ask}{M:Int}(h1:0≤o.qty)(h2:o.qty≤M):Qo M (aI o):=by
 refine⟨?_,h1,?_,?_,?_,h2⟩ <;> simp only[aI] <;> omega
theorem yl{oc s:Nat}:∀(f:Nat) (st:MS),(aZ oc s f st).B.sym=st.B.sym:=by
 intro f
 induction f with
 | zero=>intro st;rfl
 | succ f ih =>
   intro st
   rw[aZ]
   split
   ·rfl
   ·rw[ih]
    unfold bV
    split
    ·rfl
    ·simp only[dM]
     split <;> rfl
theorem GW.enter{V:aW}{M:Int}(h:GW V M)(hM:M≤1000000000000000){i b s t g cap':Nat}{o:Ask}{aY:Lm}(hi:i<V.nb)(hs:s<2)(ht:t=1-s)(bY:o.sym=(V.B i).sym)(hside:o.side=(t:Int))(hq1:0≤o.qty)(hq2:o.qty≤M)(hfree:V.aO o.id=none)(hb:¬VL V b) :
 GW (V.enter i b s t g cap' o aY) M∧Run b s M ⟨V.B i,upd V.om b (aI o),V.lg.opened o.id⟩ (mF b s ⟨V.B i,upd V.om b (aI o),V.lg.opened o.id⟩)∧Inv b s ⟨V.B i,upd V.om b (aI o),V.lg.opened o.id⟩∧(∀j,((V.enter i b s t g cap' o aY).B j).sym=(V.B j).sym)∧(∀x,VL (V.enter i b s t g cap' o aY) x↔(VL V x∨x=b))∧GB (V.B i) (upd V.om b (aI o)) (V.B i).sym (fun x=>VL (V.enter i b s t g cap' o aY) x∧x≠b):=by
 have hBs:∀j,((V.enter i b s t g cap' o aY).B j).sym=(V.B j).sym:=fun j=>by
  simp only[aW.enter]
  by_cases e:j=i
  ·rw[e,upd_same,mZ];unfold mF;rw[yl]
  ·rw[af _ _ e]
 have rP:∀x,VL (V.enter i b s t g cap' o aY) x↔(VL V x∨x=b):=fun x=>by
  constructor
  ·rintro⟨id,hx⟩
   simp only[aW.enter]at hx
   split at hx
   ·exact .inr (Option.some.inj hx).symm
   ·exact .inl ⟨id,hx⟩
  ·rintro (⟨id,hx⟩ | rfl)
   ·refine⟨id,?_⟩
    simp only[aW.enter]
    rw[if_neg (fun e=>by rw[e,hfree]at hx;simp at hx)]
    exact hx
   ·exact⟨o.id,by simp[aW.enter]⟩
 have kE:∀x,VL V x→upd V.om b (aI o) x=V.om x:=fun x hx=>af _ _ (fun e=>hb (e▸hx))
 have gi:GB (V.B i) (upd V.om b (aI o)) ((V.B i).sym) (fun x=>VL (V.enter i b s t g cap' o aY) x∧x≠b):=by
  refine (h.gb i hi).jP (fun x=>?_) (fun x hx _ _=>by rw[kE x hx];exact⟨rfl,rfl,rfl⟩)
  rw[rP x]
  constructor
  ·rintro⟨⟨a | a,a'⟩,c⟩
   ·rw[kE x a]at c;exact⟨a,c⟩
   ·exact absurd a a'
  ·rintro⟨a,c⟩
   rw[kE x a];exact⟨⟨.inl a,fun e=>hb (e▸a)⟩,c⟩
 have gj:∀j,j<V.nb→j≠i→GB (V.B j) (upd V.om b (aI o)) ((V.B j).sym) (VL (V.enter i b s t g cap' o aY)):=fun j hj hne=>by
  refine (h.gb j hj).jP (fun x=>?_) (fun x hx _ _=>by rw[kE x hx];exact⟨rfl,rfl,rfl⟩)
  rw[rP x]
  constructor
  ·rintro⟨a | a,c⟩
   ·rw[kE x a]at c;exact⟨a,c⟩
   ·rw[a,upd_same]at c
    exact absurd (h.kG i j hi hj (bY.symm.trans c.1)) (fun e=>hne e.symm)
  ·rintro⟨a,c⟩
   rw[kE x a];exact⟨.inl a,c⟩
 obtain⟨c1,c2,c3,c4,c5⟩:=xw h.kG (BB:=V.B) (g:=g) (cap':=cap') (lg:=V.lg.opened o.id) hM hi hs ht ((rP b).2 (.inr rfl)) (by rw[upd_same];exact bY) (by rw[upd_same];exact hside) (fun x hx=>by
  rcases (rP x).1 hx with a | a
  ·rw[kE x a];exact h.q x a
  ·rw[a,upd_same];exact yz hq1 hq2) gi gj
 refine⟨⟨fun j hj=>?_,fun a c ha hc e=>?_,c2,fun x hx=>?_,fun x hx=>?_⟩,c3,c5,hBs,rP,gi⟩
 ·rw[hBs j];exact c1 j hj
 ·rw[hBs a,hBs c]at e;exact h.kG a c ha hc e
 ·show ∃j,j<V.nb∧((aA b (mF b s ⟨V.B i,upd V.om b (aI o),V.lg.opened o.id⟩)) x).sym=((V.enter i b s t g cap' o aY).B j).sym
  rw[(c4 x).1]
  rcases (rP x).1 hx with a | a
  ·rw[kE x a]
   obtain⟨j,hj,e⟩:=h.sym x a
   exact⟨j,hj,by rw[hBs j];exact e⟩
  ·rw[a,upd_same]
   exact⟨i,hi,by rw[hBs i];exact bY⟩
 ·show ((aA b (mF b s ⟨V.B i,upd V.om b (aI o),V.lg.opened o.id⟩)) x).side=0∨((aA b (mF b s ⟨V.B i,upd V.om b (aI o),V.lg.opened o.id⟩)) x).side=1
  rw[(c4 x).2]
  rcases (rP x).1 hx with a | a
  ·rw[kE x a];exact h.side x a
  ·rw[a,upd_same]
   show o.side=0∨o.side=1
   omega
theorem GW.OH{V:aW}{M M':Int}(h:GW V M)(hM:M≤M'){b:Nat}{o':Ord}(hb:VL V b)(h1:o'.sym=(V.om b).sym)(h2:o'.side=(V.om b).side)(h3:o'.price=(V.om b).price)(h4:o'.place=(V.om b).place)(h5:0<o'.opn↔0<(V.om b).opn)(hq:Qo M' o')(i:Nat):GW (V.turn i (V.B i) (upd V.om b o')) M':=by
 have hB:∀j,upd V.B i (V.B i) j=V.B j:=fun j=>by
  by_cases e:j=i
  ·rw[e,upd_same]
  ·rw[af _ _ e]
 have key:∀x,(upd V.om b o' x).sym=(V.om x).sym∧(upd V.om b o' x).side=(V.om x).side∧(upd V.om b o' x).price=(V.om x).price∧(upd V.om b o' x).place=(V.om x).place∧(0<(upd V.om b o' x).opn↔0<(V.om x).opn):=fun x=>by
  by_cases e:x=b
  ·rw[e,upd_same];exact⟨h1,h2,h3,h4,h5⟩
  ·rw[af _ _ e];exact⟨rfl,rfl,rfl,rfl,Iff.rfl⟩
 refine⟨fun j hj=>?_,fun a c ha hc e=>?_,fun x hx=>?_,fun x hx=>?_,fun x hx=>by show (upd V.om b o' x).side=_∨(upd V.om b o' x).side=_;rw[(key x).2.1];exact h.side x hx⟩
 ·show GB (upd V.B i (V.B i) j) (upd V.om b o') (upd V.B i (V.B i) j).sym (VL V)
  rw[hB j]
  refine (h.gb j hj).jP (fun x=>?_) (fun x _ _ _=>⟨(key x).2.1,(key x).2.2.1,(key x).2.2.2.1⟩)
  rw[(key x).1,(key x).2.2.2.2]
 ·simp only[aW.turn]at e
  rw[hB a,hB c]at e
  exact h.kG a c ha hc e
 ·show Qo M' (upd V.om b o' x)
  by_cases e:x=b
  ·rw[e,upd_same];exact hq
  ·rw[af _ _ e];exact (h.q x hx).mono hM
 ·obtain⟨j,hj,e⟩:=h.sym x hx
  refine⟨j,hj,?_⟩
  show (upd V.om b o' x).sym=(upd V.B i (V.B i) j).sym
  rw[(key x).1,hB j];exact e
theorem GW.leaves{V:aW}{M:Int}(h:GW V M){i s k:Nat}(hi:i<V.nb)(hs:s<2)(hk:k<(V.B i).n s){o':Ord}(h1:o'.sym=(V.om ((V.B i).h s k)).sym)(h2:o'.side=(V.om ((V.B i).h s k)).side)(h0:o'.opn=0)(hq:Qo M o'):GW (V.turn i ((V.B i).leave V.om s k) (upd V.om ((V.B i).h s k) o')) M:=by
 have hm:=((h.gb i hi).mem s hs _).1 ⟨k,hk,rfl⟩
 generalize hbb:(V.B i).h s k=b at *
 have key:∀x,(upd V.om b o' x).sym=(V.om x).sym∧(upd V.om b o' x).side=(V.om x).side:=fun x=>by
  by_cases e:x=b
  ·rw[e,upd_same];exact⟨h1,h2⟩
  ·rw[af _ _ e];exact⟨rfl,rfl⟩
 have hBs:∀j,(upd V.B i ((V.B i).leave V.om s k) j).sym=(V.B j).sym:=fun j=>by
  by_cases e:j=i
  ·rw[e,upd_same];rfl
  ·rw[af _ _ e]
 refine⟨fun j hj=>?_,fun a c ha hc e=>h.kG a c ha hc (by rw[←hBs a,←hBs c];exact e),fun x hx=>?_,fun x hx=>?_,fun x hx=>by show (upd V.om b o' x).side=_∨(upd V.om b o' x).side=_;rw[(key x).2];exact h.side x hx⟩
 ·show GB (upd V.B i ((V.B i).leave V.om s k) j) (upd V.om b o') (upd V.B i ((V.B i).leave V.om s k) j).sym (VL V)
  rw[hBs j]
  have fin:∀{B:Bk} {L:Nat→Prop},GB B V.om ((V.B j).sym) L→(∀x,(VL V x∧(V.om x).sym=(V.B j).sym∧0<(V.om x).opn∧x≠b)↔(L x∧(V.om x).sym=(V.B j).sym∧0<(V.om x).opn))→GB B (upd V.om b o') ((V.B j).sym) (VL V):=by
   intro B L hB hL
   refine hB.jP (fun x=>?_) (fun x a b' c=>?_)
   ·rw[(key x).1,←hL x]
    constructor
    ·rintro⟨a,b',c⟩
     have hne:x≠b:=fun e=>by rw[e,upd_same,h0]at c;omega
     rw[af _ _ hne]at c
     exact⟨a,b',c,hne⟩
    ·rintro⟨a,b',c,hne⟩
     rw[af _ _ hne];exact⟨a,b',c⟩
   ·have hne:x≠b:=((hL x).2 ⟨a,b',c⟩).2.2.2
    rw[af _ _ hne];exact⟨rfl,rfl,rfl⟩
  by_cases e:j=i
  ·rw[e,upd_same]
   have:=rU (h.gb i hi) hs hk
   rw[hbb]at this
   rw[e]at fin
   exact fin this (fun x=>⟨fun ⟨a,b',c,d⟩=>⟨⟨a,d⟩,b',c⟩,fun ⟨⟨a,d⟩,b',c⟩=>⟨a,b',c,d⟩⟩)
  ·rw[af _ _ e]
   refine fin (h.gb j hj) (fun x=>⟨fun ⟨a,b',c,d⟩=>⟨a,b',c⟩,fun ⟨a,b',c⟩=>⟨a,b',c,fun e2=>e ?_⟩⟩)
   rw[e2,hm.2.1]at b'
   exact (h.kG i j hi hj b').symm
 ·show Qo M (upd V.om b o' x)
  by_cases e:x=b
  ·rw[e,upd_same];exact hq
  ·rw[af _ _ e];exact h.q x hx
 ·obtain⟨j,hj,e⟩:=h.sym x hx
  exact⟨j,hj,by show (upd V.om b o' x).sym=(upd V.B i ((V.B i).leave V.om s k) j).sym;rw[(key x).1,hBs j];exact e⟩
theorem UY:∀(m n:Nat) (f:Nat→Nat),(∀a b,a<n→b<n→f a=f b→a=b)→(∀k,k<n→f k<m)→n≤m:=by
 intro m
 induction m with
 | zero =>
   intro n f _ h
   rcases Nat.eq_zero_or_pos n with h0 | h0
   ·omega
   ·exact absurd (h 0 h0) (Nat.not_lt_zero _)
 | succ m ih =>
   intro n f hi h
   rcases Nat.eq_zero_or_pos n with h0 | h0
   ·omega
   ·
    obtain⟨n',rfl⟩:∃n',n=n'+1:=⟨n-1,by omega⟩
    have key:n'≤m:=by
     refine ih n' (fun k=>if f k=m then f n' else f k) (fun a b ha hb e=>?_) (fun k hk=>?_)
     ·by_cases e1:f a=m <;> by_cases e2:f b=m
      ·exact hi a b (by omega) (by omega) (e1.trans e2.symm)
      ·rw[if_pos e1,if_neg e2]at e
       exact absurd (hi n' b (by omega) (by omega) e) (by omega)
      ·rw[if_neg e1,if_pos e2]at e
       exact absurd (hi a n' (by omega) (by omega) e) (by omega)
      ·rw[if_neg e1,if_neg e2]at e
       exact hi a b (by omega) (by omega) e
     ·have hk1:=h k (by omega)
      have hn1:=h n' (by omega)
      split
      ·rename_i e1
       have:f n'≠m:=fun e2=>by
        have:=hi k n' (by omega) (by omega) (e1.trans e2.symm)
        omega
       omega
      ·omega
    omega
theorem IA{oc s:Nat}:∀(f:Nat) (st:MS),(aZ oc s f st).lg.tr.length≤st.lg.tr.length+f∧(aZ oc s f st).lg.tp.length≤st.lg.tp.length+f:=by
 intro f
 induction f with
 | zero=>intro st;exact⟨Nat.le_refl _,Nat.le_refl _⟩
 | succ f ih =>
   intro st
   rw[aZ]
   split
   ·exact⟨by omega,by omega⟩
   ·have h:=ih (bV oc s st)
    have e:(bV oc s st).lg.tr.length≤st.lg.tr.length+1∧(bV oc s st).lg.tp.length≤st.lg.tp.length+1:=by
     unfold bV
     split
     ·simp only[Lg.aS];exact⟨by omega,by omega⟩
     ·simp[Lg.kM,Lg.told,Lg.kept,Lg.aS,iT,nK]
    omega
theorem OT{oc s:Nat}{st:MS}:(mF oc s st).lg.tr.length≤st.lg.tr.length+(st.B.n s+1)∧(mF oc s st).lg.tp.length≤st.lg.tp.length+(st.B.n s+1):=by
 have h:=IA (oc:=oc) (s:=s) (mu oc s st) st
 have hm:mu oc s st≤st.B.n s+1:=by unfold mu;split <;> omega
 unfold mF
 omega
def aW.anew(V:aW)(i b s t k g cap':Nat)(o':Ord)(aY:Lm):aW :=
 { V with B:=upd V.B i (dS b t g cap' (mF b s ⟨(V.B i).leave V.om t k,upd V.om b o',V.lg.moved b (V.om b)⟩)),om:=aA b (mF b s ⟨(V.B i).leave V.om t k,upd V.om b o',V.lg.moved b (V.om b)⟩),lg:=l9 b (mF b s ⟨(V.B i).leave V.om t k,upd V.om b o',V.lg.moved b (V.om b)⟩),lm:=aY }
theorem GW.anew{V:aW}{M M':Int}(h:GW V M)(hMM:M≤M')(hM:M'≤1000000000000000){i b s t k g cap':Nat}{o':Ord}{aY:Lm}(hi:i<V.nb)(hs:s<2)(ht:t=1-s)(hk:k<(V.B i).n t)(hb:(V.B i).h t k=b)(h1:o'.sym=(V.om b).sym)(h2:o'.side=(V.om b).side)(hq:Qo M' o') :
 GW (V.anew i b s t k g cap' o' aY) M'∧Run b s M' ⟨(V.B i).leave V.om t k,upd V.om b o',V.lg.moved b (V.om b)⟩ (mF b s ⟨(V.B i).leave V.om t k,upd V.om b o',V.lg.moved b (V.om b)⟩)∧Inv b s ⟨(V.B i).leave V.om t k,upd V.om b o',V.lg.moved b (V.om b)⟩∧(∀j,((V.anew i b s t k g cap' o' aY).B j).sym=(V.B j).sym)∧GB ((V.B i).leave V.om t k) (upd V.om b o') (V.B i).sym (fun x=>VL V x∧x≠b):=by
 have hBs:∀j,((V.anew i b s t k g cap' o' aY).B j).sym=(V.B j).sym:=fun j=>by
  simp only[aW.anew]
  by_cases e:j=i
  ·rw[e,upd_same,mZ];unfold mF;rw[yl];rfl
  ·rw[af _ _ e]
 have t2:t<2:=by omega
 have hm:=((h.gb i hi).mem t t2 _).1 ⟨k,hk,rfl⟩
 rw[hb]at hm
 have rP:VL V b:=hm.1
 have gi:GB ((V.B i).leave V.om t k) (upd V.om b o') ((V.B i).sym) (fun x=>VL V x∧x≠b):=by
  have:=rU (h.gb i hi) t2 hk
  rw[hb]at this
  refine this.jP (fun x=>?_) (fun x hx _ _=>by rw[af _ _ hx.2];exact⟨rfl,rfl,rfl⟩)
  constructor
  ·rintro⟨⟨a,a'⟩,c⟩;rw[af _ _ a']at c;exact⟨⟨a,a'⟩,c⟩
  ·rintro⟨⟨a,a'⟩,c⟩;rw[af _ _ a'];exact⟨⟨a,a'⟩,c⟩
 have gj:∀j,j<V.nb→j≠i→GB (V.B j) (upd V.om b o') ((V.B j).sym) (VL V):=fun j hj hne=>by
  have nb:∀x,(V.om x).sym=(V.B j).sym→x≠b:=fun x hx e=>hne (by rw[e,hm.2.1]at hx;exact (h.kG i j hi hj hx).symm)
  refine (h.gb j hj).jP (fun x=>?_) (fun x _ hx _=>by rw[af _ _ (nb x hx)];exact⟨rfl,rfl,rfl⟩)
  constructor
  ·rintro⟨a,c,d⟩
   have hxs:(V.om x).sym=(V.B j).sym:=by
    by_cases e:x=b
    ·rw[e,upd_same,h1]at c;rw[e];exact c
    ·rw[af _ _ e]at c;exact c
   rw[af _ _ (nb x hxs)]at d
   exact⟨a,hxs,d⟩
  ·rintro⟨a,c,d⟩
   rw[af _ _ (nb x c)]
   exact⟨a,c,d⟩
 obtain⟨c1,c2,c3,c4,c5⟩:=xw h.kG (BB:=V.B) (g:=g) (cap':=cap') (lg:=V.lg.moved b (V.om b)) hM hi hs ht rP (by rw[upd_same,h1];exact hm.2.1) (by rw[upd_same,h2];exact hm.2.2.1) (fun x hx=>by
  by_cases e:x=b
  ·rw[e,upd_same];exact hq
  ·rw[af _ _ e];exact (h.q x hx).mono hMM) gi gj
 have o0:∀x,(upd V.om b o' x).sym=(V.om x).sym∧(upd V.om b o' x).side=(V.om x).side:=fun x=>by
  by_cases e:x=b
  ·rw[e,upd_same];exact⟨h1,h2⟩
  ·rw[af _ _ e];exact⟨rfl,rfl⟩
 refine⟨⟨fun j hj=>?_,fun a c ha hc e=>?_,c2,fun x hx=>?_,fun x hx=>?_⟩,c3,c5,hBs,gi⟩
 ·rw[hBs j];exact c1 j hj
 ·rw[hBs a,hBs c]at e;exact h.kG a c ha hc e
 ·show ∃j,j<V.nb∧(aA b (mF b s ⟨(V.B i).leave V.om t k,upd V.om b o',V.lg.moved b (V.om b)⟩) x).sym=((V.anew i b s t k g cap' o' aY).B j).sym
  rw[(c4 x).1,(o0 x).1]
  obtain⟨j,hj,e⟩:=h.sym x hx
  exact⟨j,hj,by rw[hBs j];exact e⟩
 ·show (aA b (mF b s ⟨(V.B i).leave V.om t k,upd V.om b o',V.lg.moved b (V.om b)⟩) x).side=_∨(aA b (mF b s ⟨(V.B i).leave V.om t k,upd V.om b o',V.lg.moved b (V.om b)⟩) x).side=_
  rw[(c4 x).2,(o0 x).2];exact h.side x hx
theorem GW.listed{V:aW}{M:Int}(h:GW V M){s:ByteArray}{b:Nat}{aY:Lm}(hfree:∀i,i<V.nb→(V.B i).sym≠s):GW (V.listed s b aY) M:=by
 have old:∀j,j<V.nb→(V.listed s b aY).B j=V.B j:=fun j hj=>by
  show upd V.B V.nb (jZ s) j=V.B j
  exact af _ _ (by omega)
 have new:(V.listed s b aY).B V.nb=jZ s:=upd_same _ _ _
 have hnew:(jZ s).sym=s:=rfl
 have hnb:(V.listed s b aY).nb=V.nb+1:=rfl
 refine⟨fun j hj=>?_,fun a c ha hc e=>?_,h.q,fun x hx=>?_,h.side⟩
 ·by_cases e:j<V.nb
  ·rw[old j e];exact h.gb j e
  ·obtain rfl:j=V.nb:=by omega
   rw[new,hnew]
   have n0:∀y,(jZ s).n y=0:=fun y=>rfl
   refine⟨rfl,fun y hy x=>?_,fun y hy k h0 hk=>?_,fun y hy a c ha=>?_,fun x y hx=>?_⟩
   ·rw[n0]
    constructor
    ·rintro⟨k,hk,_⟩;omega
    ·rintro⟨a,c,_⟩
     obtain⟨j,hj,e2⟩:=h.sym x a
     exact absurd (e2.symm.trans c) (hfree j hj)
   ·rw[n0]at hk;omega
   ·rw[n0]at ha;omega
   ·obtain⟨k,hk,_⟩:=hx;rw[n0]at hk;omega
 ·by_cases ea:a<V.nb <;> by_cases ec:c<V.nb
  ·rw[old a ea,old c ec]at e;exact h.kG a c ea ec e
  ·obtain rfl:c=V.nb:=by omega
   rw[old a ea,new,hnew]at e;exact absurd e (hfree a ea)
  ·obtain rfl:a=V.nb:=by omega
   rw[old c ec,new,hnew]at e;exact absurd e.symm (hfree c ec)
  ·omega
 ·obtain⟨j,hj,e⟩:=h.sym x hx
  exact⟨j,by omega,by rw[old j hj];exact e⟩
end Go.Proofs.YtigaphnafnpfnaaGreatDoor
namespace Go.Proofs.YtigaphnafnpfnaaGreatDoor
open Go.RowKit
attribute [local go_sem ↓] Go.wp_at_zero Go.wp_at_succ
def Es(s:ByteArray)(i:Nat):Nat:=(s.get! i).toNat
theorem BL(s:ByteArray)(i:Nat):Es s i<256:=(s.get! i).toNat_lt
def oU(s:ByteArray)(i:Nat):Nat × Nat :=
 if Es s i<128 then (Es s i,1) else if i+1<s.size∧Es s i=206∧145≤Es s (i+1)∧Es s (i+1)≤169 then (768+Es s (i+1),2) else (0,1)
def oK(c:Nat):Bool:=(decide (65≤c) && decide (c≤90)) || (decide (48≤c) && decide (c≤57)) || (decide (913≤c) && decide (c≤937) && !(c == 930))
theorem JQ(s:ByteArray)(i:Nat):1≤(oU s i).2∧(oU s i).2≤2∧(i<s.size→i+(oU s i).2≤s.size)∧(oU s i).1≤937:=by
 have:=BL s i
 unfold oU
 split
 ·simp;omega
 ·split <;> simp <;> omega
theorem TZ{s:ByteArray}{i:Nat}(hi:i<s.size)(h:oK (oU s i).1=true):Utf8.decode s i=oU s i:=by
 have h0:=BL s i
 unfold oU at h ⊢
 split at h
 ·rename_i h1
  rw[if_pos h1]
  unfold Utf8.decode
  have:(s.get! (i+0)).toNat=Es s i:=rfl
  simp only[this]
  rw[if_pos (by omega)]
 ·split at h
  ·rename_i h1 h2
   obtain⟨a1,a2,a3,a4⟩:=h2
   rw[if_neg h1,if_pos ⟨a1,a2,a3,a4⟩]
   unfold Utf8.decode
   have e0:(s.get! (i+0)).toNat=Es s i:=rfl
   have e1:(s.get! (i+1)).toNat=Es s (i+1):=rfl
   simp only[e0,e1]
   rw[if_neg (by omega),if_pos (by simp[a1,a2];omega)]
   rw[if_pos (by omega)]
   rw[a2]
   ext <;> simp <;> omega
  ·simp[oK]at h
theorem QE{s:ByteArray}{i:Nat}(hi:i<s.size)(h:oK (oU s i).1=false):oK (Utf8.decode s i).1=false:=by
 have h0:=BL s i
 have h1':=BL s (i+1)
 unfold Utf8.decode
 have e0:(s.get! (i+0)).toNat=Es s i:=rfl
 have e1:(s.get! (i+1)).toNat=Es s (i+1):=rfl
 simp only[e0,e1]
 have err:oK Utf8.runeError=false:=by decide
 unfold oU at h
 split at h
 ·rename_i h1
  rw[if_pos (by omega)]
  exact h
 ·rename_i h1
  rw[if_neg (by omega)]
  split
  ·rename_i h2
   simp at h2
   split
   ·rename_i h3
    split at h
    ·rename_i h4
     obtain⟨a1,a2,a3,a4⟩:=h4
     rw[a2]
     have:206 % 32 * 64+Es s (i+1) % 64=768+Es s (i+1):=by omega
     simp only[this]
     exact h
    ·rename_i h4
     simp only[oK,Bool.or_eq_false_iff,Bool.and_eq_false_iff,decide_eq_false_iff_not,Bool.not_eq_false',beq_iff_eq]
     refine⟨⟨?_,?_⟩,?_⟩
     ·right;omega
     ·right;omega
     ·left
      by_cases h5:913≤Es s i % 32 * 64+Es s (i+1) % 64
      ·right
       intro h6
       exact h4 ⟨h2.2.1,by omega,by omega,by omega⟩
      ·left;exact h5
   ·exact err
  ·split
   ·split
    ·rename_i h3
     simp at h3
     simp only[oK,Bool.or_eq_false_iff,Bool.and_eq_false_iff,decide_eq_false_iff_not,Bool.not_eq_false',beq_iff_eq]
     refine⟨⟨?_,?_⟩,?_⟩
     ·right;omega
     ·right;omega
     ·left;right;omega
    ·exact err
   ·split
    ·split
     ·rename_i h3
      simp at h3
      simp only[oK,Bool.or_eq_false_iff,Bool.and_eq_false_iff,decide_eq_false_iff_not,Bool.not_eq_false',beq_iff_eq]
      refine⟨⟨?_,?_⟩,?_⟩
      ·right;omega
      ·right;omega
      ·left;right;omega
     ·exact err
    ·exact err
def jI(s:ByteArray):Nat→Nat→Nat→Bool
 | 0,_,_=>false
 | f+1,i,n=>if i<s.size then (if oK (oU s i).1 then jI s f (i+(oU s i).2) (n+1) else false) else (decide (1≤n) && decide (n≤6))
def nameB(s:ByteArray):Bool:=jI s (s.size+1) 0 0
theorem yu(s:ByteArray):∀f i n,7≤n→jI s f i n=false
 | 0,_,_,_=>rfl
 | f+1,i,n,h=>by
   unfold jI
   split
   ·split
    ·exact yu s f _ _ (by omega)
    ·rfl
   ·simp;omega
end Go.Proofs.YtigaphnafnpfnaaGreatDoor
namespace Go.Proofs.YtigaphnafnpfnaaGreatDoor
open Go.RowKit
def held(tr:List Tg):List Tr:=(tr.filter (·.holds)).map (·.t)
theorem fE(a b:List Tg):held (a++b)=held a++held b:=by simp[held,List.filter_append]
theorem pR(x:Tg):held [x]=if x.holds then [x.t] else []:=by
 unfold held
 cases h:x.holds <;> simp[h]
theorem Gt{tr:List Tg}{k:Nat}{x:Tg}(hx:tr[k]?=some x):tr=tr.take k++[x]++tr.drop (k+1):=by
 obtain⟨hk,e⟩:=List.getElem?_eq_some_iff.1 hx
 rw[←e,List.append_assoc,List.singleton_append,List.getElem_cons_drop,List.take_append_drop]
theorem Bf{tr:List Tg}{k:Nat}{x:Tg}(hk:k<tr.length):tr.set k x=tr.take k++[x]++tr.drop (k+1):=by
 rw[List.set_eq_take_append_cons_drop,if_pos hk,List.append_assoc,List.singleton_append]
def sumT(f:Tr→Int):List Tr→Int
 | []=>0
 | t :: l=>f t+sumT f l
theorem gJ(f:Tr→Int)(a b:List Tr):sumT f (a++b)=sumT f a+sumT f b:=by
 induction a with
 | nil=>simp[sumT]
 | cons t l ih=>simp only[List.cons_append,sumT,ih];omega
theorem L9{f:Tr→Int}{l:List Tr}(h:∀t∈l,f t=0):sumT f l=0:=by
 induction l with
 | nil=>rfl
 | cons t l ih=>simp only[sumT];rw[h t (by simp),ih (fun x hx=>h x (by simp[hx]))];omega
theorem Gx{f:Tr→Int}{l:List Tr}(h:∀t∈l,0≤f t):0≤sumT f l:=by
 induction l with
 | nil=>exact Int.le_refl _
 | cons t l ih =>
   simp only[sumT]
   have:=h t (by simp)
   have:=ih (fun x hx=>h x (by simp[hx]))
   omega
def tq(side id:Int)(t:Tr):Int:=if side=0 then (if t.jh=id then t.qty else 0) else (if t.sell=id then t.qty else 0)
theorem MC{side id:Int}{t:Tr}(h:0≤t.qty):0≤tq side id t:=by unfold tq;repeat (first | split | omega)
structure TW(om:Nat→Ord)(aO:Int→Option Nat)(t:Tr):Prop where
 jh:∃b,aO t.jh=some b∧(om b).sym=t.sym∧(om b).side=0
 sell:∃b,aO t.sell=some b∧(om b).sym=t.sym∧(om b).side=1
 qty:1≤t.qty
structure FL(om:Nat→Ord)(aO:Int→Option Nat)(hl:List Tr)(ex:Int→Int):Prop where
 tw:∀t∈hl,TW om aO t
 ids:∀id b,aO id=some b→(om b).id=id
 eq:∀id b,aO id=some b→(om b).filled=sumT (tq (om b).side id) hl+ex id
theorem TW.jP{om df:Nat→Ord}{aO:Int→Option Nat}{t:Tr}(h:TW om aO t)(he:∀x,(df x).sym=(om x).sym∧(df x).side=(om x).side):TW df aO t:=by
 obtain⟨⟨b,h1,h2,h3⟩,⟨c,g1,g2,g3⟩,hq⟩:=h
 exact⟨⟨b,h1,by rw[(he b).1];exact h2,by rw[(he b).2];exact h3⟩,⟨c,g1,by rw[(he c).1];exact g2,by rw[(he c).2];exact g3⟩,hq⟩
theorem FL.jP{om df:Nat→Ord}{aO:Int→Option Nat}{hl:List Tr}{ex:Int→Int}(h:FL om aO hl ex)(he:∀x,(df x).sym=(om x).sym∧(df x).side=(om x).side∧(df x).id=(om x).id∧(df x).filled=(om x).filled):FL df aO hl ex :=
 ⟨fun t ht=>(h.tw t ht).jP (fun x=>⟨(he x).1,(he x).2.1⟩),fun id b hb=>(he b).2.2.1.trans (h.ids id b hb),fun id b hb=>by rw[(he b).2.2.2,(he b).2.1];exact h.eq id b hb⟩
theorem NZ{oc s:Nat}{M:Int}{st:MS}{aO:Int→Option Nat}(hM:M≤1000000000000000)(iv:Inv oc s st)(hn:0<st.B.n s)(hp:0<(st.om oc).opn)(hq:∀x,(x=oc∨jK st s x)→Qo M (st.om x))
 (hs:s<2) (hoc:aO (st.om oc).id=some oc) (how:∀x,jK st s x→aO (st.om x).id=some x∧(st.om x).sym=st.B.sym) (bY:(st.om oc).sym=st.B.sym)
 (h:FL st.om aO (held st.lg.tr) (fun _=>0)):FL (bV oc s st).om aO (held (bV oc s st).lg.tr) (fun _=>0):=by
 obtain⟨B,om,lg⟩:=st
 simp only at hn hp hoc how bY h hq
 have hr:=iv.mem 0 hn
 simp only at hr
 obtain⟨hs0,hpos,hmax,hne⟩:=hr
 have hrm:jK ⟨B,om,lg⟩ s (B.h s 0):=⟨0,hn,rfl⟩
 have qr:Qo M (om (B.h s 0)):=hq _ (.inr hrm)
 have qc:Qo M (om oc):=hq _ (.inl rfl)
 have hsc:(om oc).side=1-(s:Int):=iv.side
 obtain⟨ho1,ho2⟩:=how _ hrm
 unfold bV
 simp only
 generalize B.h s 0=ow at *
 by_cases ho:(om ow).owner=(om oc).owner
 ·rw[if_pos ho]
  refine h.jP (fun x=>?_)
  by_cases e:x=ow
  ·simp only[e,upd_same];exact⟨rfl,rfl,rfl,rfl⟩
  ·simp only[af _ _ e];exact⟨trivial,trivial,trivial,trivial⟩
 ·rw[if_neg ho]
  simp only
  have q1:0≤min (om oc).opn (om ow).opn:=by omega
  obtain⟨_,_,c3⟩:=qc.fill (q:=min (om oc).opn (om ow).opn) q1 (by omega) hM
  obtain⟨_,_,w3⟩:=qr.fill (q:=min (om oc).opn (om ow).opn) q1 (by omega) hM
  have eoc:aH om oc ow oc=iE (om oc) (min (om oc).opn (om ow).opn):=by simp only[aH];rw[af _ _ (fun e=>hne e.symm),upd_same]
  have eow:aH om oc ow ow=iE (om ow) (min (om oc).opn (om ow).opn):=by simp only[aH,upd_same]
  have eot:∀x,x≠oc→x≠ow→aH om oc ow x=om x:=fun x h1 h2=>by simp only[aH];rw[af _ _ h2,af _ _ h1]
  have stat:∀x,(aH om oc ow x).sym=(om x).sym∧(aH om oc ow x).side=(om x).side∧(aH om oc ow x).id=(om x).id:=fun x=>by
   by_cases e1:x=oc
   ·rw[e1,eoc];exact⟨rfl,rfl,rfl⟩
   ·by_cases e2:x=ow
    ·rw[e2,eow];exact⟨rfl,rfl,rfl⟩
    ·rw[eot x e1 e2];exact⟨rfl,rfl,rfl⟩
  have htr:held ((dR lg om oc ow).kM (iW B om oc ow)).tr=held lg.tr++[(dR lg om oc ow).stamp (iW B om oc ow)]:=by
   show held ((dR lg om oc ow).tr++[⟨(dR lg om oc ow).stamp (iW B om oc ow),true⟩])=_
   rw[fE,pR,iT]
   rfl
  rw[htr]
  have hT:∀side id,tq side id ((dR lg om oc ow).stamp (iW B om oc ow))=if side=0 then (if (if (om oc).side=1 then (om ow).id else (om oc).id)=id then min (om oc).opn (om ow).opn else 0) else (if (if (om oc).side=1 then (om oc).id else (om ow).id)=id then min (om oc).opn (om ow).opn else 0):=fun side id=>rfl
  have s01:s=0∨s=1:=by omega
  refine⟨fun t ht=>?_,fun id b hb=>(stat b).2.2.trans (h.ids id b hb),fun id b hb=>?_⟩
  ·rcases List.mem_append.1 ht with ht | ht
   ·exact (h.tw t ht).jP (fun x=>⟨(stat x).1,(stat x).2.1⟩)
   ·simp only[List.mem_singleton]at ht
    subst ht
    have hqq:1≤min (om oc).opn (om ow).opn:=by omega
    rcases s01 with e | e
    ·subst e
     have hs1:(om oc).side=1:=by simpa using hsc
     refine⟨⟨ow,?_,(stat ow).1.trans ho2,(stat ow).2.1.trans (by simpa using hs0)⟩,⟨oc,?_,(stat oc).1.trans bY,(stat oc).2.1.trans hs1⟩,hqq⟩
     ·show aO (if (om oc).side=1 then (om ow).id else (om oc).id)=_
      rw[if_pos hs1];exact ho1
     ·show aO (if (om oc).side=1 then (om oc).id else (om ow).id)=_
      rw[if_pos hs1];exact hoc
    ·subst e
     have hs1:(om oc).side=0:=by simpa using hsc
     refine⟨⟨oc,?_,(stat oc).1.trans bY,(stat oc).2.1.trans hs1⟩,⟨ow,?_,(stat ow).1.trans ho2,(stat ow).2.1.trans (by simpa using hs0)⟩,hqq⟩
     ·show aO (if (om oc).side=1 then (om ow).id else (om oc).id)=_
      rw[if_neg (by omega)];exact hoc
     ·show aO (if (om oc).side=1 then (om oc).id else (om ow).id)=_
      rw[if_neg (by omega)];exact ho1
  ·rw[gJ,(stat b).2.1]
   have h0:=h.eq id b hb
   have hid:=h.ids id b hb
   simp only[sumT,hT,Int.add_zero]at h0 ⊢
   by_cases e1:b=oc
   ·subst e1
    rw[eoc,c3,h0]
    rcases s01 with e | e
    ·subst e
     have hs1:(om b).side=1:=by simpa using hsc
     simp[hs1,hid]
    ·subst e
     have hs1:(om b).side=0:=by simpa using hsc
     simp[hs1,hid]
   ·by_cases e2:b=ow
    ·subst e2
     rw[eow,w3,h0]
     rcases s01 with e | e
     ·subst e
      have hs1:(om oc).side=1:=by simpa using hsc
      have hsw:(om b).side=0:=by simpa using hs0
      simp[hs1,hsw,hid]
     ·subst e
      have hs1:(om oc).side=0:=by simpa using hsc
      have hsw:(om b).side=1:=by simpa using hs0
      simp[hs1,hsw,hid]
    ·rw[eot b e1 e2,h0]
     have n1:(om oc).id≠id:=fun e=>e1 (by rw[e,hb]at hoc;exact Option.some.inj hoc)
     have n2:(om ow).id≠id:=fun e=>e2 (by rw[e,hb]at ho1;exact Option.some.inj ho1)
     have z1:(if (om oc).side=1 then (om ow).id else (om oc).id)≠id:=by split <;> assumption
     have z2:(if (om oc).side=1 then (om oc).id else (om ow).id)≠id:=by split <;> assumption
     rw[if_neg z1,if_neg z2]
     split <;> omega
theorem Ai{oc s:Nat}{M:Int}{aO:Int→Option Nat}(hM:M≤1000000000000000)(hs:s<2):∀(f:Nat) (st:MS),Inv oc s st→dH (dW st.om) (st.B.n s) (st.B.h s)→(∀x,(x=oc∨jK st s x)→Qo M (st.om x)) →
 aO (st.om oc).id=some oc→(∀x,jK st s x→aO (st.om x).id=some x∧(st.om x).sym=st.B.sym)→(st.om oc).sym=st.B.sym →
 FL st.om aO (held st.lg.tr) (fun _=>0)→FL (aZ oc s f st).om aO (held (aZ oc s f st).lg.tr) (fun _=>0):=by
 intro f
 induction f with
 | zero=>intro st _ _ _ _ _ _ h;exact h
 | succ f ih =>
   intro st iv hh hq hoc how bY h
   rw[aZ]
   split
   ·exact h
   ·rename_i hst
    obtain⟨hn,hp⟩:=kC hst
    have r1:=uJ hM iv hn hp hh hq
    have hb:(bV oc s st).B.sym=st.B.sym:=by
     unfold bV
     split
     ·rfl
     ·show (dM st.B st.om oc (st.B.h s 0) s).sym=_
      unfold dM
      split <;> rfl
    refine ih _ r1.inv r1.heap (fun x hx=>r1.q x (hx.imp_right (r1.mem x))) ?_ (fun x hx=>?_) ?_ (NZ hM iv hn hp hq hs hoc how bY h)
    ·rw[(r1.stat oc).1];exact hoc
    ·obtain⟨a,b⟩:=how x (r1.mem x hx)
     exact⟨by rw[(r1.stat x).1];exact a,by rw[(r1.stat x).2.2.1,hb];exact b⟩
    ·rw[(r1.stat oc).2.2.1,hb];exact bY
theorem Jy{oc:Nat}{st:MS}{aO:Int→Option Nat}{hl:List Tr}{ex:Int→Int}(h:FL st.om aO hl ex):FL (aA oc st) aO hl ex:=by
 refine h.jP (fun x=>?_)
 by_cases e:x=oc
 ·subst e
  unfold aA
  split
  ·simp only[upd_same];exact⟨trivial,trivial,trivial,trivial⟩
  ·simp only[upd_same,fA];exact⟨trivial,trivial,trivial,trivial⟩
 ·rw[nY oc st e];exact⟨rfl,rfl,rfl,rfl⟩
theorem Sv{om:Nat→Ord}{b:Nat}{o':Ord}{n:Nat}{h:Nat→Nat}(hp:dH (dW om) n h)(hb:∀k,k<n→h k≠b):dH (dW (upd om b o')) n h :=
 hp.jP (fun j k hj hk=>pW (by rw[af _ _ (hb j hj)];exact⟨rfl,rfl,rfl⟩) (by rw[af _ _ (hb k hk)];exact⟨rfl,rfl⟩))
theorem FL.enter{om:Nat→Ord}{aO:Int→Option Nat}{hl:List Tr}(h:FL om aO hl (fun _=>0)){b:Nat}{o:Ask}(hfree:aO o.id=none)(hb:∀id,aO id≠some b) :
 FL (upd om b (aI o)) (fun id=>if id=o.id then some b else aO id) hl (fun _=>0):=by
 have kE:∀id x,aO id=some x→upd om b (aI o) x=om x:=fun id x hx=>af _ _ (fun e=>hb id (e▸hx))
 have Zi:∀id x,aO id=some x→id≠o.id:=fun id x hx e=>by rw[e,hfree]at hx;simp at hx
 have tw:∀t∈hl,TW (upd om b (aI o)) (fun id=>if id=o.id then some b else aO id) t:=fun t ht=>by
  obtain⟨⟨x,h1,h2,h3⟩,⟨y,g1,g2,g3⟩,hq⟩:=h.tw t ht
  exact⟨⟨x,by rw[if_neg (Zi _ x h1)];exact h1,by rw[kE _ x h1];exact h2,by rw[kE _ x h1];exact h3⟩,⟨y,by rw[if_neg (Zi _ y g1)];exact g1,by rw[kE _ y g1];exact g2,by rw[kE _ y g1];exact g3⟩,hq⟩
 refine⟨tw,fun id x hx=>?_,fun id x hx=>?_⟩
 ·by_cases e:id=o.id
  ·rw[if_pos e]at hx
   obtain rfl:=Option.some.inj hx
   rw[upd_same,e];rfl
  ·rw[if_neg e]at hx
   rw[kE id x hx];exact h.ids id x hx
 ·by_cases e:id=o.id
  ·rw[if_pos e]at hx
   obtain rfl:=Option.some.inj hx
   rw[upd_same]
   rw[L9 (fun t ht=>?_)]
   ·rfl
   ·obtain⟨⟨x,h1,_⟩,⟨y,g1,_⟩,_⟩:=h.tw t ht
    unfold tq
    rw[e,if_neg (Zi _ x h1),if_neg (Zi _ y g1)]
    split <;> rfl
  ·rw[if_neg e]at hx
   rw[kE id x hx];exact h.eq id x hx
def Kq(lg:Lg):Prop:=∀x∈lg.tr,x.t.sym.size≤100000
def qF(R:List Rc):Prop:=∀(i:Nat) (r:Rc),R[i]?=some r→r.num=(i:Int)+1∧r.t.sym.size≤100000
theorem qF.nil:qF []:=fun i r h=>by simp at h
theorem qF.snoc{R:List Rc}(h:qF R){r:Rc}(h1:r.num=(R.length:Int)+1)(h2:r.t.sym.size≤100000):qF (R++[r]):=fun i x hx=>by
 by_cases hi:i<R.length
 ·rw[List.getElem?_append_left hi]at hx;exact h i x hx
 ·rw[List.getElem?_append_right (by omega)]at hx
  have e:i-R.length=0:=by
   cases e:i-R.length with
   | zero=>rfl
   | succ m=>rw[e]at hx;simp at hx
  rw[e]at hx
  simp only[List.getElem?_cons_zero,Option.some.injEq]at hx
  subst hx
  have:i=R.length:=by omega
  rw[this];exact⟨h1,h2⟩
theorem OY{oc s:Nat}{st:MS}(hb:st.B.sym.size≤100000)(h1:Kq st.lg)(h2:qF st.lg.tp):(bV oc s st).B.sym.size≤100000∧Kq (bV oc s st).lg∧qF (bV oc s st).lg.tp:=by
 unfold bV
 split
 ·exact⟨hb,h1,h2⟩
 ·refine⟨?_,fun x hx=>?_,?_⟩
  ·simp only[dM];split <;> exact hb
  ·simp only[Lg.kM,Lg.told,Lg.kept,Lg.aS,iT,List.mem_append,List.mem_singleton]at hx
   rcases hx with hx | hx
   ·exact h1 x hx
   ·subst hx;exact hb
  ·simp only[Lg.kM,Lg.told,Lg.kept,Lg.aS,nK]
   exact h2.snoc rfl hb
theorem Aw{oc s:Nat}:∀(f:Nat) (st:MS),st.B.sym.size≤100000→Kq st.lg→qF st.lg.tp→Kq (aZ oc s f st).lg∧qF (aZ oc s f st).lg.tp:=by
 intro f
 induction f with
 | zero=>intro st _ h1 h2;exact⟨h1,h2⟩
 | succ f ih =>
   intro st hb h1 h2
   rw[aZ]
   split
   ·exact⟨h1,h2⟩
   ·obtain⟨a,b,c⟩:=OY (oc:=oc) (s:=s) hb h1 h2
    exact ih _ a b c
structure vC(V:aW):Prop where
 sz:∀i,i<V.nb→(V.B i).sym.size≤100
 fl:FL V.om V.aO (held V.lg.tr) (fun _=>0)
 sy:Kq V.lg
 tp:qF V.lg.tp
theorem vC.enter{V:aW}{M:Int}(h:vC V)(g:GW V M)(hM:M≤1000000000000000){i b s t g' cap':Nat}{o:Ask}{aY:Lm}(hi:i<V.nb)(hs:s<2)(bY:o.sym=(V.B i).sym)(hq1:0≤o.qty)(hq2:o.qty≤M)(hfree:V.aO o.id=none)(hb:¬VL V b)(iv:Inv b s ⟨V.B i,upd V.om b (aI o),V.lg.opened o.id⟩)(hBs:∀j,((V.enter i b s t g' cap' o aY).B j).sym=(V.B j).sym) :
 vC (V.enter i b s t g' cap' o aY):=by
 have hbo:∀id,V.aO id≠some b:=fun id e=>hb ⟨id,e⟩
 have f1:=h.fl.enter (o:=o) hfree hbo
 have FD:∀x,Mem ((V.B i).n s) ((V.B i).h s) x→VL V x∧(V.om x).sym=(V.B i).sym:=fun x hx=>⟨(((g.gb i hi).mem s hs x).1 hx).1,(((g.gb i hi).mem s hs x).1 hx).2.1⟩
 have neb:∀x,Mem ((V.B i).n s) ((V.B i).h s) x→x≠b:=fun x hx e=>hb (e▸(FD x hx).1)
 have f2:=Ai (M:=M) (aO:=fun id=>if id=o.id then some b else V.aO id) hM hs (mu b s ⟨V.B i,upd V.om b (aI o),V.lg.opened o.id⟩) ⟨V.B i,upd V.om b (aI o),V.lg.opened o.id⟩ iv
  (Sv ((g.gb i hi).heap s hs) (fun k hk=>neb _ ⟨k,hk,rfl⟩)) (fun x hx=>by
   rcases hx with rfl | hx
   ·simp only[upd_same];exact yz hq1 hq2
   ·simp only;rw[af _ _ (neb x hx)];exact g.q x (FD x hx).1) (by simp only[upd_same];exact if_pos rfl) (fun x hx=>by
   obtain⟨⟨id,hid⟩,hsy⟩:=FD x hx
   have e1:=h.fl.ids id x hid
   simp only
   rw[af _ _ (neb x hx),e1,if_neg (fun e=>by rw[e,hfree]at hid;simp at hid)]
   exact⟨hid,hsy⟩) (by simp only[upd_same];exact bY) f1
 obtain⟨y1,y2⟩:=Aw (oc:=b) (s:=s) (mu b s ⟨V.B i,upd V.om b (aI o),V.lg.opened o.id⟩) ⟨V.B i,upd V.om b (aI o),V.lg.opened o.id⟩ (by show (V.B i).sym.size≤_;have:=h.sz i hi;omega) h.sy h.tp
 exact⟨fun j hj=>by rw[hBs j];exact h.sz j hj,Jy f2,y1,y2⟩
theorem vC.anew{V:aW}{M M':Int}(h:vC V)(g:GW V M)(hMM:M≤M')(hM:M'≤1000000000000000){i b s t k g' cap':Nat}{o':Ord}{aY:Lm}(hi:i<V.nb)(hs:s<2)(ht:t=1-s)(hk:k<(V.B i).n t)(hb:(V.B i).h t k=b)(h1:o'.sym=(V.om b).sym)(h2:o'.side=(V.om b).side)(h3:o'.id=(V.om b).id)(h4:o'.filled=(V.om b).filled)(hq:Qo M' o')(iv:Inv b s ⟨(V.B i).leave V.om t k,upd V.om b o',V.lg.moved b (V.om b)⟩)(hBs:∀j,((V.anew i b s t k g' cap' o' aY).B j).sym=(V.B j).sym) :
 vC (V.anew i b s t k g' cap' o' aY):=by
 have t2:t<2:=by omega
 have hmb:=((g.gb i hi).mem t t2 _).1 ⟨k,hk,rfl⟩
 rw[hb]at hmb
 have eN:((V.B i).leave V.om t k).n s=(V.B i).n s:=by simp only[Bk.leave];rw[af _ _ (by omega)]
 have eH:((V.B i).leave V.om t k).h s=(V.B i).h s:=by simp only[Bk.leave];rw[af _ _ (by omega)]
 have f1:FL (upd V.om b o') V.aO (held V.lg.tr) (fun _=>0):=h.fl.jP (fun x=>by
  by_cases e:x=b
  ·rw[e,upd_same];exact⟨h1,h2,h3,h4⟩
  ·rw[af _ _ e];exact⟨rfl,rfl,rfl,rfl⟩)
 have FD:∀x,Mem ((V.B i).n s) ((V.B i).h s) x→VL V x∧(V.om x).sym=(V.B i).sym∧x≠b:=fun x hx=>by
  have m:=((g.gb i hi).mem s hs x).1 hx
  exact⟨m.1,m.2.1,fun e=>by have a:=m.2.2.1;rw[e,hmb.2.2.1]at a;omega⟩
 obtain⟨⟨idb,Xx⟩,hsb,_⟩:=hmb
 have f2:=Ai (M:=M') (aO:=V.aO) hM hs (mu b s ⟨(V.B i).leave V.om t k,upd V.om b o',V.lg.moved b (V.om b)⟩) ⟨(V.B i).leave V.om t k,upd V.om b o',V.lg.moved b (V.om b)⟩ iv
  (by simp only[eN,eH];exact Sv ((g.gb i hi).heap s hs) (fun k hk=>(FD _ ⟨k,hk,rfl⟩).2.2)) (fun x hx=>by
   rcases hx with rfl | hx
   ·simp only[upd_same];exact hq
   ·simp only[jK,eN,eH]at hx
    simp only;rw[af _ _ (FD x hx).2.2];exact (g.q x (FD x hx).1).mono hMM) (by simp only[upd_same];rw[h3,h.fl.ids idb b Xx];exact Xx) (fun x hx=>by
   simp only[jK,eN,eH]at hx
   obtain⟨⟨id,hid⟩,hsy,hne⟩:=FD x hx
   have e1:=h.fl.ids id x hid
   simp only
   rw[af _ _ hne,e1]
   exact⟨hid,hsy⟩) (by simp only[upd_same];rw[h1,hsb];rfl) f1
 obtain⟨y1,y2⟩:=Aw (oc:=b) (s:=s) (mu b s ⟨(V.B i).leave V.om t k,upd V.om b o',V.lg.moved b (V.om b)⟩) ⟨(V.B i).leave V.om t k,upd V.om b o',V.lg.moved b (V.om b)⟩ (by show (V.B i).sym.size≤_;have:=h.sz i hi;omega) h.sy h.tp
 exact⟨fun j hj=>by rw[hBs j];exact h.sz j hj,Jy f2,y1,y2⟩
theorem vC.of{V:aW}(h:vC V){V':aW}(hnb:V'.nb=V.nb)(hB:∀j,(V'.B j).sym=(V.B j).sym)(ho:V'.aO=V.aO)(hm:∀x,(V'.om x).sym=(V.om x).sym∧(V'.om x).side=(V.om x).side∧(V'.om x).id=(V.om x).id∧(V'.om x).filled=(V.om x).filled)(h1:V'.lg.tr=V.lg.tr)(h2:V'.lg.tp=V.lg.tp):vC V':=by
 refine⟨fun i hi=>by rw[hB i];exact h.sz i (by omega),by rw[ho,h1];exact h.fl.jP hm,fun x hx=>h.sy x (by rw[h1]at hx;exact hx),by rw[h2];exact h.tp⟩
theorem FL.back{om df:Nat→Ord}{aO:Int→Option Nat}{hl:List Tr}{ex NS:Int→Int}(h:FL om aO hl ex){id q:Int}{b:Nat}(hid:aO id=some b)(far:∀x,x≠b→df x=om x)
 (h1:(df b).sym=(om b).sym) (h2:(df b).side=(om b).side) (h3:(df b).id=(om b).id) (h4:(df b).filled=(om b).filled-q) (e1:NS id=ex id-q) (e2:∀j,j≠id→NS j=ex j):FL df aO hl NS:=by
 have st:∀x,(df x).sym=(om x).sym∧(df x).side=(om x).side∧(df x).id=(om x).id:=fun x=>by
  by_cases e:x=b
  ·rw[e];exact⟨h1,h2,h3⟩
  ·rw[far x e];exact⟨rfl,rfl,rfl⟩
 refine⟨fun t ht=>(h.tw t ht).jP (fun x=>⟨(st x).1,(st x).2.1⟩),fun j x hx=>(st x).2.2.trans (h.ids j x hx),fun j x hx=>?_⟩
 rw[(st x).2.1]
 have h0:=h.eq j x hx
 by_cases e:j=id
 ·subst e
  rw[hid]at hx
  obtain rfl:=Option.some.inj hx
  rw[h4,e1,h0];omega
 ·have hne:x≠b:=fun e2=>e (by rw[←h.ids j x hx,e2];exact h.ids id b hid)
  rw[far x hne,e2 j e,h0]
def QH(t:Tr)(j:Int):Int:=(if j=t.jh then t.qty else 0)+(if j=t.sell then t.qty else 0)
theorem FL.kH{om:Nat→Ord}{aO:Int→Option Nat}{tr:List Tg}{k:Nat}{x:Tg}(h:FL om aO (held tr) (fun _=>0))(hx:tr[k]?=some x)(hh:x.holds=true):FL om aO (held (tr.set k ⟨x.t,false⟩)) (QH x.t)∧TW om aO x.t:=by
 have hl:=(List.getElem?_eq_some_iff.1 hx).1
 have e:held tr=held (tr.take k)++(if x.holds then [x.t] else [])++held (tr.drop (k+1)):=by
  have e:=congrArg held (Gt hx)
  rw[fE,fE,pR]at e
  exact e
 rw[hh,if_pos rfl]at e
 have e2:held (tr.set k ⟨x.t,false⟩)=held (tr.take k)++held (tr.drop (k+1)):=by
  rw[Bf hl,fE,fE,pR]
  simp
 have hT:TW om aO x.t:=h.tw x.t (by rw[e];simp)
 rw[e2]
 rw[e]at h
 refine⟨⟨fun t ht=>h.tw t (by
  rcases List.mem_append.1 ht with a | a
  ·simp[a]
  ·simp[a]),h.ids,fun id b hb=>?_⟩,hT⟩
 have h0:=h.eq id b hb
 rw[gJ,gJ]at h0
 rw[gJ,h0]
 simp only[sumT]
 obtain⟨⟨bx,b1,b2,b3⟩,⟨sx,s1,s2,s3⟩,_⟩:=hT
 have key:tq (om b).side id x.t=QH x.t id:=by
  unfold tq QH
  by_cases c1:id=x.t.jh
  ·have hb':b=bx:=by rw[c1,b1]at hb;exact (Option.some.inj hb).symm
   have n2:¬id=x.t.sell:=fun c2=>by
    rw[c2,s1]at hb
    have:sx=bx:=(Option.some.inj hb).trans hb'
    rw[this,b3]at s3
    omega
   rw[hb',b3,if_pos rfl,if_pos c1.symm,if_pos c1,if_neg n2];omega
  ·by_cases c2:id=x.t.sell
   ·have hs':b=sx:=by rw[c2,s1]at hb;exact (Option.some.inj hb).symm
    rw[hs',s3,if_neg (by decide),if_pos c2.symm,if_neg c1,if_pos c2];omega
   ·have n1:¬x.t.jh=id:=fun e=>c1 e.symm
    have n2:¬x.t.sell=id:=fun e=>c2 e.symm
    simp only[if_neg n1,if_neg n2,if_neg c1,if_neg c2]
    split <;> rfl
 omega
theorem BJ{B:Bk}{om:Nat→Ord}{sym:ByteArray}{L:Nat→Prop}(gb:GB B om sym L){s t:Nat}(hs:s<2)(ht:t=1-s){o:Ord}(hk5:o.kind≠5)(hside:o.side=(t:Int))(hf:bK B om (aV o) s=none) :
 ∀y,Mem (B.n s) (B.h s) y→if (t:Int)=0 then o.price<(om y).price else (om y).price<o.price:=by
 intro y hy
 obtain⟨k,hk,e⟩:=hy
 have hn0:B.n s≠0:=by omega
 unfold bK at hf
 rw[if_neg hn0]at hf
 have hg:eQ (aV o).kind (aV o).side (aV o).price (om (B.h s 0)).price=false:=by
  split at hf
  ·simp at hf
  ·rename_i h;simpa using h
 have hb:=vN hg hk5
 have hsd:(aV o).side=(t:Int):=hside
 rw[hsd]at hb
 have rQ:∀k,k<B.n s→(om (B.h s k)).side=(s:Int):=fun k hk=>gb.side hs hk
 have hmin:=yN (lQ om (s:Int)) (gb.heap s hs) rQ k hk
 have hless:=(eX _ _).1 hmin
 rw[rQ k hk]at hless
 have hap:(aV o).price=o.price:=rfl
 rw[hap]at hb
 rw[←e]at hless
 by_cases e0:(t:Int)=0
 ·rw[if_pos e0]at hb ⊢
  have es:¬(s:Int)=0:=by omega
  rw[if_neg es]at hless
  omega
 ·rw[if_neg e0]at hb ⊢
  have es:(s:Int)=0:=by omega
  rw[if_pos es]at hless
  omega
theorem A7{B:Bk}{om df:Nat→Ord}{sym:ByteArray}{L:Nat→Prop}{b s t g cap':Nat}(hs:s<2)(ht:t=1-s)(gb:GB B om sym (fun x=>L x∧x≠b))(hL:L b)(far:∀x,x≠b→df x=om x)
 (h1:(df b).sym=sym) (h2:(df b).side=(t:Int)) (h3:0<(df b).opn) (bad:∀y,Mem (B.n s) (B.h s) y→if (t:Int)=0 then (df b).price<(om y).price else (om y).price<(df b).price) :
 GB (B.rest df t b g cap') df sym L:=by
 have t2:t<2:=by omega
 have hts:(t:Int)≠(s:Int):=by omega
 have two:∀x,x<2→x=s∨x=t:=by omega
 have nS:(B.rest df t b g cap').n s=B.n s:=by simp only[Bk.rest];rw[af _ _ (by omega)]
 have hS:(B.rest df t b g cap').h s=B.h s:=by simp only[Bk.rest];rw[af _ _ (by omega)]
 have nT:(B.rest df t b g cap').n t=B.n t+1:=by simp only[Bk.rest,upd_same]
 have hT:(B.rest df t b g cap').h t=qN (dW df) (fun k=>if k=B.n t then b else B.h t k) (B.n t):=by simp only[Bk.rest,upd_same]
 have mT:∀x,Mem ((B.rest df t b g cap').n t) ((B.rest df t b g cap').h t) x↔Mem (B.n t) (B.h t) x∨x=b:=fun x=>by rw[nT,hT];exact mem_push _ _ _
 have ne:∀y,y<2→∀x,Mem (B.n y) (B.h y) x→x≠b∧df x=om x:=fun y hy x hx=>by
  have:=((gb.mem y hy x).1 hx).1.2
  exact⟨this,far x this⟩
 have lt':∀y,y<2→dH (dW df) (B.n y) (B.h y):=fun y hy=>(gb.heap y hy).jP (fun j k hj hk=>by
  have a:=(ne y hy _ ⟨j,hj,rfl⟩).2
  have c:=(ne y hy _ ⟨k,hk,rfl⟩).2
  exact pW (by rw[a];exact⟨rfl,rfl,rfl⟩) (by rw[c];exact⟨rfl,rfl⟩))
 refine⟨gb.lX,fun y hy x=>?_,fun y hy=>?_,fun y hy=>?_,fun x y hx hy=>?_⟩
 ·rcases two y hy with e | e
  ·rw[e,nS,hS]
   constructor
   ·intro hx
    obtain⟨a,c⟩:=ne s hs x hx
    have h0:=(gb.mem s hs x).1 hx
    rw[c]
    exact⟨h0.1.1,h0.2⟩
   ·rintro⟨a,c,d,f⟩
    have hne:x≠b:=fun e=>by rw[e,h2]at d;exact hts d
    rw[far x hne]at c d f
    exact (gb.mem s hs x).2 ⟨⟨a,hne⟩,c,d,f⟩
  ·rw[e,mT x]
   constructor
   ·rintro (hx | hx)
    ·obtain⟨a,c⟩:=ne t t2 x hx
     have h0:=(gb.mem t t2 x).1 hx
     rw[c]
     exact⟨h0.1.1,h0.2⟩
    ·rw[hx];exact⟨hL,h1,h2,h3⟩
   ·rintro⟨a,c,d,f⟩
    by_cases hne:x=b
    ·exact .inr hne
    ·rw[far x hne]at c d f
     exact .inl ((gb.mem t t2 x).2 ⟨⟨a,hne⟩,c,d,f⟩)
 ·rcases two y hy with e | e
  ·rw[e,nS,hS];exact lt' s hs
  ·rw[e,nT,hT]
   refine JS (lQ df (t:Int)) _ _ h2 (fun k hk=>?_) (lt' t t2)
   rw[(ne t t2 _ ⟨k,hk,rfl⟩).2];exact gb.side t2 hk
 ·rcases two y hy with e | e
  ·rw[e,nS,hS];exact gb.inj s hs
  ·rw[e,nT,hT]
   refine qP.up ?_ (by omega)
   intro j k hj hk e
   simp only at e
   by_cases ej:j=B.n t
   ·by_cases ek:k=B.n t
    ·omega
    ·rw[if_pos ej,if_neg ek]at e
     exact absurd e.symm (ne t t2 _ ⟨k,by omega,rfl⟩).1
   ·by_cases ek:k=B.n t
    ·rw[if_neg ej,if_pos ek]at e
     exact absurd e (ne t t2 _ ⟨j,by omega,rfl⟩).1
    ·rw[if_neg ej,if_neg ek]at e
     exact gb.inj t t2 j k (by omega) (by omega) e
 ·have h01:(s=0∧t=1)∨(s=1∧t=0):=by omega
  rcases h01 with⟨rfl,rfl⟩ | ⟨rfl,rfl⟩
  ·rw[nS,hS]at hx
   rw[mT y]at hy
   have hpx:(df x).price=(om x).price:=by rw[(ne 0 hs x hx).2]
   rcases hy with hy | hy
   ·rw[hpx,(ne 1 t2 y hy).2];exact gb.cross x y hx hy
   ·have:=bad x hx
    rw[if_neg (by decide)]at this
    rw[hy,hpx];exact this
  ·rw[mT x]at hx
   rw[nS,hS]at hy
   have hpy:(df y).price=(om y).price:=by rw[(ne 1 hs y hy).2]
   rcases hx with hx | hx
   ·rw[hpy,(ne 0 t2 x hx).2];exact gb.cross x y hx hy
   ·have:=bad y hy
    rw[if_pos (by decide)]at this
    rw[hx,hpy];exact this
end Go.Proofs.YtigaphnafnpfnaaGreatDoor
