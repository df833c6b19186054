import Derived.Test.YtigaphnafnpfnaaGreatDoorQVX18
import Derived.Test.YtigaphnafnpfnaaGreatDoorQVV8
import Derived.Test.YtigaphnafnpfnaaGreatDoorQVX14
import Derived.Test.YtigaphnafnpfnaaGreatDoorQVX6
import Derived.Maps.RangeWalk
import Derived.Deep.CutRange
set_option linter.unusedVariables false
set_option linter.unusedSimpArgs false
set_option maxHeartbeats 8000000
set_option maxRecDepth 100000
namespace Go.Proofs.YtigaphnafnpfnaaGreatDoor
open Go.RowKit
theorem uI{l:List Ord}{k:Nat}{o:Ord}(h:o.place=(ak l k).place)(a:Nat):(ak (l.set k o) a).place=(ak l a).place:=by
 by_cases e:k=a
 ·subst e;by_cases b:k<l.length
  ·rw[dB b,h]
  ·rw[List.set_eq_of_length_le (by omega)]
 ·rw[jZ e]
theorem Ls(c:RC)(i k a:Nat):(ak (c.step i k).S.l a).place=(ak c.S.l a).place:=by
 unfold RC.step;split
 ·simp only[RS.dN];exact uI (by rfl) a
 ·simp only[RS.gW,RS.gI,RS.dN];rw[uI,uI]
  ·rfl
  ·rw[uI]
   rfl
theorem sK.ZQ{p:Nat->Nat}{oc i s:Nat}{sym:ByteArray}{z:List Rc}{y A M:Int}(D:M<=1000000000000000)(hs:s<2)(L:0<=y):∀(f:Nat) (st:MS) (c:RC),sK p oc i s sym z y A st c->su oc s st->ed (fE st.om) (st.B.n s) (st.B.h s)->(∀x,(x=oc\/mJ st s x)->Qo M (st.om x))->mu oc s st<=f->st.tr+f<1000000000 ->
 ∃d,uJ i f c d/\sK p oc i s sym z y A (bu oc s f st) d/\d.S.sy=c.S.sy/\d.S.places=c.S.places/\d.S.l.length=c.S.l.length/\(∀a,(ak d.S.l a).place=(ak c.S.l a).place)/\d.S.t.length<=c.S.t.length+f/\d.S.told.length<=c.S.told.length+f:=by
 intro f
 induction f with
 | zero =>
   intro st c h u m w F K;refine⟨c,uJ.stop 0 c (.inr ?_),h,rfl,rfl,rfl,fun _=>rfl,by omega,by omega⟩;have o:st.B.n s=0:=by unfold mu at F;omega
   have g:=h.oG.fJ hs m;unfold dA at g;rw[if_pos o]at g;show eP c.S.l (bI (ak c.S.l i))=none
   simpa using g
 | succ f ih =>
   intro st c h u m w F K;have g:=h.oG.fJ hs m;rw[bu];by_cases j:stops oc s st=true
   ·rw[if_pos j];refine⟨c,uJ.stop _ c ?_,h,rfl,rfl,rfl,fun _=>rfl,by omega,by omega⟩;unfold stops at j;simp only[Bool.or_eq_true,Bool.not_eq_true',decide_eq_false_iff_not]at j;rcases j with e | e
    ·left;rw[h.left];exact e
    ·right;have:dA st.B st.om (bI (st.om oc)) s=none:=by simpa using e
     rw[this]at g;show eP c.S.l (bI (ak c.S.l i))=none
     simpa using g
   ·rw[if_neg j];obtain⟨o,r⟩:=nM j;have J:∃k,c.fJ i=some k:=by
     cases hbk:c.fJ i with
     | some k=>exact⟨k,rfl⟩
     | none =>
       have e:eP c.S.l (bI (ak c.S.l i))=none:=hbk;rw[e]at g;exfalso;apply j;unfold stops;rw[<-g];simp
    obtain⟨k,E⟩:=J;have C:=h.step D hs u m w r E (by omega) L;have v:=xW D u o r m w;obtain⟨T,Q,_⟩:=pG u o r;have R:(bF oc s st).tr<=st.tr+1:=by
     have a:=C.tr;have b:=h.tr;have:=FP c i k;unfold MS.tr;rw[a,b];omega
    obtain⟨d,H,I,sy,pl,O,P,U,ol⟩:=ih (bF oc s st) (c.step i k) C v.inv v.heap (fun x N=>v.q x (N.imp_right (v.mem x))) (by omega) (by omega);have G:(c.step i k).S.sy=c.S.sy/\(c.step i k).S.places=c.S.places:=by
     unfold RC.step;split
     ·exact⟨rfl,rfl⟩
     ·exact⟨rfl,rfl⟩
    exact⟨d,uJ.go f k c d (by rw[h.left];exact r) E H,I,sy.trans G.1,pl.trans G.2,O.trans (Jd c i k),fun a=>(P a).trans (Ls c i k a),by have:=(FP c i k).1;omega,by have:=(FP c i k).2;omega⟩
theorem Qo.mono{M M':Int}{o:Ord}(h:Qo M o)(a:M<=M'):Qo M' o:=⟨h.sum,h.o0,h.f0,h.c0,h.e0,by have:=h.hi;omega⟩
theorem vM{B:Bk}{om:Nat->Ord}{sym:ByteArray}{j:Nat->Prop}(h:GB B om sym j){s k:Nat}(hs:s<2)(g:k<B.n s):GB (B.leave om s k) om sym (fun x=>j x/\x≠B.h s k):=by
 have other:∀y,y≠s->(B.leave om s k).n y=B.n y/\(B.leave om s k).h y=B.h y:=fun y d=>by simp only[Bk.leave];rw[ag _ _ d,ag _ _ d];exact⟨rfl,rfl⟩
 have l:=lJ (om:=om) (h.inj s hs) g;have ne:∀y,y<2->y≠s->∀x,Mem (B.n y) (B.h y) x->x≠B.h s k:=fun y d q x f e=>by
  have a:=((h.mem y d x).1 f).2.2.1;have b:=((h.mem s hs _).1 ⟨k,g,rfl⟩).2.2.1;rw[e,b]at a;omega
 have m:∀y,y<2->∀x,Mem ((B.leave om s k).n y) ((B.leave om s k).h y) x->Mem (B.n y) (B.h y) x:=fun y d x f=>by
  by_cases e:y=s
  ·rw[e]at f ⊢;exact ((l x).1 f).1
  ·rw[(other y e).1,(other y e).2]at f;exact f
 refine⟨h.lV,fun y d x=>?_,fun y d=>?_,fun y d=>?_,fun x y f d=>h.qG x y (m 0 (by omega) x f) (m 1 (by omega) y d)⟩
 ·by_cases e:y=s
  ·rw[e,l x,h.mem s hs x];exact⟨fun ⟨⟨a,b⟩,c⟩=>⟨⟨a,c⟩,b⟩,fun ⟨⟨a,c⟩,b⟩=>⟨⟨a,b⟩,c⟩⟩
  ·rw[(other y e).1,(other y e).2];constructor
   ·intro f;obtain⟨a,b⟩:=(h.mem y d x).1 f;exact⟨⟨a,ne y d e x f⟩,b⟩
   ·rintro⟨⟨a,_⟩,b⟩;exact (h.mem y d x).2 ⟨a,b⟩
 ·by_cases e:y=s
  ·rw[e];exact vN rfl (fun k g=>h.side hs g) (h.heap s hs) g
  ·rw[(other y e).1,(other y e).2];exact h.heap y d
 ·by_cases e:y=s
  ·rw[e];have h0:qX (B.n s-1+1) (B.h s):=by rw[show B.n s-1+1=B.n s by omega];exact h.inj s hs
   simp only[Bk.leave,ah];exact fun a b o p e=>(h0.qw (lt:=fE om) (i:=k) (by omega)) a b (by omega) (by omega) e
  ·rw[(other y e).1,(other y e).2];exact h.inj y d
def VL(V:aS)(x:Nat):Prop:=∃id,V.aV id=some x
structure GW(V:aS)(M:Int):Prop where
 gb:∀i,i<V.nb->GB (V.B i) V.om (V.B i).sym (VL V)
 mW:∀i j,i<V.nb->j<V.nb->(V.B i).sym=(V.B j).sym->i=j
 q:∀x,VL V x->Qo M (V.om x)
 sym:∀x,VL V x->∃i,i<V.nb/\(V.om x).sym=(V.B i).sym
 side:∀x,VL V x->(V.om x).side=0\/(V.om x).side=1
theorem zM{BB:Nat->Bk}{nb:Nat}{k:Nat->ByteArray}(J:∀i j,i<nb->j<nb->k i=k j->i=j){i oc s t g cap':Nat}{f:Bk}{d:Nat->Ord}{lg:Lg}{l:Nat->Prop}{M:Int}(D:M<=1000000000000000)(E:i<nb)(hs:s<2)(H:t=1-s)(C:l oc)(q:(d oc).sym=k i)(G:(d oc).side=(t:Int))(F:∀x,l x->Qo M (d x))
 (A:GB f d (k i) (fun x=>l x/\x≠oc)) (B:∀j,j<nb->j≠i->GB (BB j) d (k j) l) :
 (∀j,j<nb->GB (aK BB i (dX oc t g cap' (mF oc s ⟨f,d,lg⟩)) j) (aI oc (mF oc s ⟨f,d,lg⟩)) (k j) l)/\(∀x,l x->Qo M (aI oc (mF oc s ⟨f,d,lg⟩) x))/\PR oc s M ⟨f,d,lg⟩ (mF oc s ⟨f,d,lg⟩) /\
  (∀x,(aI oc (mF oc s ⟨f,d,lg⟩) x).sym=(d x).sym/\(aI oc (mF oc s ⟨f,d,lg⟩) x).side=(d x).side)/\su oc s ⟨f,d,lg⟩:=by
 obtain⟨I,y,z,u,v,QV⟩:=NS (g:=g) (cap':=cap') (lg:=lg) D hs H C q G F A;have sy:∀x,(aI oc (mF oc s ⟨f,d,lg⟩) x).sym=(d x).sym/\(aI oc (mF oc s ⟨f,d,lg⟩) x).side=(d x).side:=fun x=>by
  by_cases e:x=oc
  ·have m:=u.oH oc;rw[e];unfold aI;split
   ·rw[ah];exact⟨m.2.2.1,m.2.2.2.1⟩
   ·rw[ah];exact⟨m.2.2.1,m.2.2.2.1⟩
  ·exact⟨(v x e).2.2.1,(v x e).2.2.2.1⟩
 refine⟨fun j p=>?_,z,u,sy,I⟩;by_cases e:j=i
 ·rw[e,ah];exact y
 ·rw[ag _ _ e];have r:k j≠k i:=fun h=>e (J j i p E h)
  have o:∀x,(d x).sym=k j->aI oc (mF oc s ⟨f,d,lg⟩) x=d x:=fun x n=>QV x (fun w=>r (by rw[<-n,w];exact q)) (.inl (by rw[n];exact r))
  refine (B j p e).lW (fun x=>?_) (fun x _ n _=>by rw[o x n];exact⟨rfl,rfl,rfl⟩);rw[(sy x).1];constructor
  ·rintro⟨a,b,c⟩;rw[o x b]at c;exact⟨a,b,c⟩
  ·rintro⟨a,b,c⟩;rw[o x b];exact⟨a,b,c⟩
theorem Ar{o:iR}{M:Int}(a:0<=o.az)(b:o.az<=M):Qo M (aQ o):=by
 refine⟨?_,a,?_,?_,?_,b⟩ <;> simp only[aQ] <;> omega
theorem Ak{oc s:Nat}:∀(a:Nat) (st:MS),(bu oc s a st).B.sym=st.B.sym:=by
 intro a
 induction a with
 | zero=>intro st;rfl
 | succ a ih =>
   intro st;rw[bu];split
   ·rfl
   ·rw[ih];unfold bF;split
    ·rfl
    ·simp only[dO];split <;> rfl
theorem GW.enter{V:aS}{M:Int}(h:GW V M)(C:M<=1000000000000000){i b s t g cap':Nat}{o:iR}{bG:Lm}(n:i<V.nb)(hs:s<2)(K:t=1-s)(p:o.sym=(V.B i).sym)(J:o.side=(t:Int))(H:0<=o.az)(I:o.az<=M)(F:V.aV o.id=none)(v:¬VL V b) :
 GW (V.enter i b s t g cap' o bG) M/\PR b s M ⟨V.B i,aK V.om b (aQ o),V.lg.bf o.id⟩ (mF b s ⟨V.B i,aK V.om b (aQ o),V.lg.bf o.id⟩)/\su b s ⟨V.B i,aK V.om b (aQ o),V.lg.bf o.id⟩/\(∀j,((V.enter i b s t g cap' o bG).B j).sym=(V.B j).sym)/\(∀x,VL (V.enter i b s t g cap' o bG) x↔(VL V x\/x=b))/\GB (V.B i) (aK V.om b (aQ o)) (V.B i).sym (fun x=>VL (V.enter i b s t g cap' o bG) x/\x≠b):=by
 have l:∀j,((V.enter i b s t g cap' o bG).B j).sym=(V.B j).sym:=fun j=>by
  simp only[aS.enter];by_cases e:j=i
  ·rw[e,ah,qF];unfold mF;rw[Ak]
  ·rw[ag _ _ e]
 have k:∀x,VL (V.enter i b s t g cap' o bG) x↔(VL V x\/x=b):=fun x=>by
  constructor
  ·rintro⟨id,d⟩;simp only[aS.enter]at d;split at d
   ·exact .inr (Option.some.inj d).symm
   ·exact .inl ⟨id,d⟩
  ·rintro (⟨id,d⟩ | rfl)
   ·refine⟨id,?_⟩;simp only[aS.enter];rw[if_neg (fun e=>by rw[e,F]at d;simp at d)];exact d
   ·exact⟨o.id,by simp[aS.enter]⟩
 have f:∀x,VL V x->aK V.om b (aQ o) x=V.om x:=fun x d=>ag _ _ (fun e=>v (e▸d))
 have u:GB (V.B i) (aK V.om b (aQ o)) ((V.B i).sym) (fun x=>VL (V.enter i b s t g cap' o bG) x/\x≠b):=by
  refine (h.gb i n).lW (fun x=>?_) (fun x d _ _=>by rw[f x d];exact⟨rfl,rfl,rfl⟩);rw[k x];constructor
  ·rintro⟨⟨a | a,w⟩,c⟩
   ·rw[f x a]at c;exact⟨a,c⟩
   ·exact absurd a w
  ·rintro⟨a,c⟩;rw[f x a];exact⟨⟨.inl a,fun e=>v (e▸a)⟩,c⟩
 have A:∀j,j<V.nb->j≠i->GB (V.B j) (aK V.om b (aQ o)) ((V.B j).sym) (VL (V.enter i b s t g cap' o bG)):=fun j m G=>by
  refine (h.gb j m).lW (fun x=>?_) (fun x d _ _=>by rw[f x d];exact⟨rfl,rfl,rfl⟩);rw[k x];constructor
  ·rintro⟨a | a,c⟩
   ·rw[f x a]at c;exact⟨a,c⟩
   ·rw[a,ah]at c;exact absurd (h.mW i j n m (p.symm.trans c.1)) (fun e=>G e.symm)
  ·rintro⟨a,c⟩;rw[f x a];exact⟨.inl a,c⟩
 obtain⟨c1,y,z,r,c5⟩:=zM h.mW (BB:=V.B) (g:=g) (cap':=cap') (lg:=V.lg.bf o.id) C n hs K ((k b).2 (.inr rfl)) (by rw[ah];exact p) (by rw[ah];exact J) (fun x d=>by
  rcases (k x).1 d with a | a
  ·rw[f x a];exact h.q x a
  ·rw[a,ah];exact Ar H I) u A
 refine⟨⟨fun j m=>?_,fun a c D E e=>?_,y,fun x d=>?_,fun x d=>?_⟩,z,c5,l,k,u⟩
 ·rw[l j];exact c1 j m
 ·rw[l a,l c]at e;exact h.mW a c D E e
 ·show ∃j,j<V.nb/\((aI b (mF b s ⟨V.B i,aK V.om b (aQ o),V.lg.bf o.id⟩)) x).sym=((V.enter i b s t g cap' o bG).B j).sym;rw[(r x).1];rcases (k x).1 d with a | a
  ·rw[f x a];obtain⟨j,m,e⟩:=h.sym x a;exact⟨j,m,by rw[l j];exact e⟩
  ·rw[a,ah];exact⟨i,n,by rw[l i];exact p⟩
 ·show ((aI b (mF b s ⟨V.B i,aK V.om b (aQ o),V.lg.bf o.id⟩)) x).side=0\/((aI b (mF b s ⟨V.B i,aK V.om b (aQ o),V.lg.bf o.id⟩)) x).side=1;rw[(r x).2];rcases (k x).1 d with a | a
  ·rw[f x a];exact h.side x a
  ·rw[a,ah];show o.side=0\/o.side=1;omega
theorem GW.QW{V:aS}{M M':Int}(h:GW V M)(r:M<=M'){b:Nat}{o':Ord}(v:VL V b)(l:o'.sym=(V.om b).sym)(m:o'.side=(V.om b).side)(n:o'.af=(V.om b).af)(o:o'.place=(V.om b).place)(p:0<o'.aH↔0<(V.om b).aH)(u:Qo M' o')(i:Nat):GW (V.turn i (V.B i) (aK V.om b o')) M':=by
 have g:∀j,aK V.B i (V.B i) j=V.B j:=fun j=>by
  by_cases e:j=i
  ·rw[e,ah]
  ·rw[ag _ _ e]
 have d:∀x,(aK V.om b o' x).sym=(V.om x).sym/\(aK V.om b o' x).side=(V.om x).side/\(aK V.om b o' x).af=(V.om x).af/\(aK V.om b o' x).place=(V.om x).place/\(0<(aK V.om b o' x).aH↔0<(V.om x).aH):=fun x=>by
  by_cases e:x=b
  ·rw[e,ah];exact⟨l,m,n,o,p⟩
  ·rw[ag _ _ e];exact⟨rfl,rfl,rfl,rfl,Iff.rfl⟩
 refine⟨fun j k=>?_,fun a c s t e=>?_,fun x f=>?_,fun x f=>?_,fun x f=>by show (aK V.om b o' x).side=_\/(aK V.om b o' x).side=_;rw[(d x).2.1];exact h.side x f⟩
 ·show GB (aK V.B i (V.B i) j) (aK V.om b o') (aK V.B i (V.B i) j).sym (VL V);rw[g j];refine (h.gb j k).lW (fun x=>?_) (fun x _ _ _=>⟨(d x).2.1,(d x).2.2.1,(d x).2.2.2.1⟩);rw[(d x).1,(d x).2.2.2.2]
 ·simp only[aS.turn]at e;rw[g a,g c]at e;exact h.mW a c s t e
 ·show Qo M' (aK V.om b o' x);by_cases e:x=b
  ·rw[e,ah];exact u
  ·rw[ag _ _ e];exact (h.q x f).mono r
 ·obtain⟨j,k,e⟩:=h.sym x f;refine⟨j,k,?_⟩;show (aK V.om b o' x).sym=(aK V.B i (V.B i) j).sym;rw[(d x).1,g j];exact e
theorem GW.Q7{V:aS}{M:Int}(h:GW V M){i s k:Nat}(p:i<V.nb)(hs:s<2)(u:k<(V.B i).n s){o':Ord}(w:o'.sym=(V.om ((V.B i).h s k)).sym)(y:o'.side=(V.om ((V.B i).h s k)).side)(h0:o'.aH=0)(E:Qo M o'):GW (V.turn i ((V.B i).leave V.om s k) (aK V.om ((V.B i).h s k) o')) M:=by
 have D:=((h.gb i p).mem s hs _).1 ⟨k,u,rfl⟩;generalize hbb:(V.B i).h s k=b at *;have r:∀x,(aK V.om b o' x).sym=(V.om x).sym/\(aK V.om b o' x).side=(V.om x).side:=fun x=>by
  by_cases e:x=b
  ·rw[e,ah];exact⟨w,y⟩
  ·rw[ag _ _ e];exact⟨rfl,rfl⟩
 have l:∀j,(aK V.B i ((V.B i).leave V.om s k) j).sym=(V.B j).sym:=fun j=>by
  by_cases e:j=i
  ·rw[e,ah];rfl
  ·rw[ag _ _ e]
 refine⟨fun j m=>?_,fun a c A C e=>h.mW a c A C (by rw[<-l a,<-l c];exact e),fun x f=>?_,fun x f=>?_,fun x f=>by show (aK V.om b o' x).side=_\/(aK V.om b o' x).side=_;rw[(r x).2];exact h.side x f⟩
 ·show GB (aK V.B i ((V.B i).leave V.om s k) j) (aK V.om b o') (aK V.B i ((V.B i).leave V.om s k) j).sym (VL V);rw[l j];have fin:∀{B:Bk} {o:Nat->Prop},GB B V.om ((V.B j).sym) o->(∀x,(VL V x/\(V.om x).sym=(V.B j).sym/\0<(V.om x).aH/\x≠b)↔(o x/\(V.om x).sym=(V.B j).sym/\0<(V.om x).aH))->GB B (aK V.om b o') ((V.B j).sym) (VL V):=by
   intro B o z t;refine z.lW (fun x=>?_) (fun x a b' c=>?_)
   ·rw[(r x).1,<-t x];constructor
    ·rintro⟨a,b',c⟩;have d:x≠b:=fun e=>by rw[e,ah,h0]at c;omega
     rw[ag _ _ d]at c;exact⟨a,b',c,d⟩
    ·rintro⟨a,b',c,d⟩;rw[ag _ _ d];exact⟨a,b',c⟩
   ·have d:x≠b:=((t x).2 ⟨a,b',c⟩).2.2.2;rw[ag _ _ d];exact⟨rfl,rfl,rfl⟩
  by_cases e:j=i
  ·rw[e,ah];have:=vM (h.gb i p) hs u;rw[hbb]at this;rw[e]at fin;exact fin this (fun x=>⟨fun ⟨a,b',c,g⟩=>⟨⟨a,g⟩,b',c⟩,fun ⟨⟨a,g⟩,b',c⟩=>⟨a,b',c,g⟩⟩)
  ·rw[ag _ _ e];refine fin (h.gb j m) (fun x=>⟨fun ⟨a,b',c,g⟩=>⟨a,b',c⟩,fun ⟨a,b',c⟩=>⟨a,b',c,fun v=>e ?_⟩⟩);rw[v,D.2.1]at b';exact (h.mW i j p m b').symm
 ·show Qo M (aK V.om b o' x);by_cases e:x=b
  ·rw[e,ah];exact E
  ·rw[ag _ _ e];exact h.q x f
 ·obtain⟨j,m,e⟩:=h.sym x f;exact⟨j,m,by show (aK V.om b o' x).sym=(aK V.B i ((V.B i).leave V.om s k) j).sym;rw[(r x).1,l j];exact e⟩
theorem RY:∀(m n:Nat) (c:Nat->Nat),(∀a b,a<n->b<n->c a=c b->a=b)->(∀k,k<n->c k<m)->n<=m:=by
 intro m
 induction m with
 | zero =>
   intro n c _ h;rcases Nat.eq_zero_or_pos n with h0 | h0
   ·omega
   ·exact absurd (h 0 h0) (Nat.not_lt_zero _)
 | succ m ih =>
   intro n c i h;rcases Nat.eq_zero_or_pos n with h0 | h0
   ·omega
   ·
    obtain⟨d,rfl⟩:∃d,n=d+1:=⟨n-1,by omega⟩;have r:d<=m:=by
     refine ih d (fun k=>if c k=m then c d else c k) (fun a b j l e=>?_) (fun k o=>?_)
     ·by_cases f:c a=m <;> by_cases g:c b=m
      ·exact i a b (by omega) (by omega) (f.trans g.symm)
      ·rw[if_pos f,if_neg g]at e;exact absurd (i d b (by omega) (by omega) e) (by omega)
      ·rw[if_neg f,if_pos g]at e;exact absurd (i a d (by omega) (by omega) e) (by omega)
      ·rw[if_neg f,if_neg g]at e;exact i a b (by omega) (by omega) e
     ·have p:=h k (by omega);have q:=h d (by omega);split
      ·rename_i f;have:c d≠m:=fun g=>by
        have:=i k d (by omega) (by omega) (f.trans g.symm);omega
       omega
      ·omega
    omega
theorem KH{oc s:Nat}:∀(a:Nat) (st:MS),(bu oc s a st).lg.tr.length<=st.lg.tr.length+a/\(bu oc s a st).lg.tp.length<=st.lg.tp.length+a:=by
 intro a
 induction a with
 | zero=>intro st;exact⟨Nat.le_refl _,Nat.le_refl _⟩
 | succ a ih =>
   intro st;rw[bu];split
   ·exact⟨by omega,by omega⟩
   ·have h:=ih (bF oc s st);have e:(bF oc s st).lg.tr.length<=st.lg.tr.length+1/\(bF oc s st).lg.tp.length<=st.lg.tp.length+1:=by
     unfold bF;split
     ·simp only[Lg.aY];exact⟨by omega,by omega⟩
     ·simp[Lg.lC,Lg.told,Lg.aC,Lg.aY,iw,qQ]
    omega
theorem Rh{oc s:Nat}{st:MS}:(mF oc s st).lg.tr.length<=st.lg.tr.length+(st.B.n s+1)/\(mF oc s st).lg.tp.length<=st.lg.tp.length+(st.B.n s+1):=by
 have h:=KH (oc:=oc) (s:=s) (mu oc s st) st;have a:mu oc s st<=st.B.n s+1:=by unfold mu;split <;> omega
 unfold mF;omega
def aS.qZ(V:aS)(i b s t k g cap':Nat)(o':Ord)(bG:Lm):aS :=
 { V with B:=aK V.B i (dX b t g cap' (mF b s ⟨(V.B i).leave V.om t k,aK V.om b o',V.lg.dE b (V.om b)⟩)),om:=aI b (mF b s ⟨(V.B i).leave V.om t k,aK V.om b o',V.lg.dE b (V.om b)⟩),lg:=iO b (mF b s ⟨(V.B i).leave V.om t k,aK V.om b o',V.lg.dE b (V.om b)⟩),lm:=bG }
theorem GW.qZ{V:aS}{M M':Int}(h:GW V M)(I:M<=M')(H:M'<=1000000000000000){i b s t k g cap':Nat}{o':Ord}{bG:Lm}(r:i<V.nb)(hs:s<2)(P:t=1-s)(A:k<(V.B i).n t)(z:(V.B i).h t k=b)(u:o'.sym=(V.om b).sym)(y:o'.side=(V.om b).side)(O:Qo M' o') :
 GW (V.qZ i b s t k g cap' o' bG) M'/\PR b s M' ⟨(V.B i).leave V.om t k,aK V.om b o',V.lg.dE b (V.om b)⟩ (mF b s ⟨(V.B i).leave V.om t k,aK V.om b o',V.lg.dE b (V.om b)⟩)/\su b s ⟨(V.B i).leave V.om t k,aK V.om b o',V.lg.dE b (V.om b)⟩/\(∀j,((V.qZ i b s t k g cap' o' bG).B j).sym=(V.B j).sym)/\GB ((V.B i).leave V.om t k) (aK V.om b o') (V.B i).sym (fun x=>VL V x/\x≠b):=by
 have m:∀j,((V.qZ i b s t k g cap' o' bG).B j).sym=(V.B j).sym:=fun j=>by
  simp only[aS.qZ];by_cases e:j=i
  ·rw[e,ah,qF];unfold mF;rw[Ak];rfl
  ·rw[ag _ _ e]
 have t2:t<2:=by omega
 have o:=((h.gb i r).mem t t2 _).1 ⟨k,A,rfl⟩;rw[z]at o;have J:VL V b:=o.1;have w:GB ((V.B i).leave V.om t k) (aK V.om b o') ((V.B i).sym) (fun x=>VL V x/\x≠b):=by
  have:=vM (h.gb i r) t2 A;rw[z]at this;refine this.lW (fun x=>?_) (fun x d _ _=>by rw[ag _ _ d.2];exact⟨rfl,rfl,rfl⟩);constructor
  ·rintro⟨⟨a,l⟩,c⟩;rw[ag _ _ l]at c;exact⟨⟨a,l⟩,c⟩
  ·rintro⟨⟨a,l⟩,c⟩;rw[ag _ _ l];exact⟨⟨a,l⟩,c⟩
 have G:∀j,j<V.nb->j≠i->GB (V.B j) (aK V.om b o') ((V.B j).sym) (VL V):=fun j f N=>by
  have nb:∀x,(V.om x).sym=(V.B j).sym->x≠b:=fun x d e=>N (by rw[e,o.2.1]at d;exact (h.mW i j r f d).symm)
  refine (h.gb j f).lW (fun x=>?_) (fun x _ d _=>by rw[ag _ _ (nb x d)];exact⟨rfl,rfl,rfl⟩);constructor
  ·rintro⟨a,c,p⟩;have C:(V.om x).sym=(V.B j).sym:=by
    by_cases e:x=b
    ·rw[e,ah,u]at c;rw[e];exact c
    ·rw[ag _ _ e]at c;exact c
   rw[ag _ _ (nb x C)]at p;exact⟨a,C,p⟩
  ·rintro⟨a,c,p⟩;rw[ag _ _ (nb x c)];exact⟨a,c,p⟩
 obtain⟨c1,E,F,v,c5⟩:=zM h.mW (BB:=V.B) (g:=g) (cap':=cap') (lg:=V.lg.dE b (V.om b)) H r hs P J (by rw[ah,u];exact o.2.1) (by rw[ah,y];exact o.2.2.1) (fun x d=>by
  by_cases e:x=b
  ·rw[e,ah];exact O
  ·rw[ag _ _ e];exact (h.q x d).mono I) w G
 have D:∀x,(aK V.om b o' x).sym=(V.om x).sym/\(aK V.om b o' x).side=(V.om x).side:=fun x=>by
  by_cases e:x=b
  ·rw[e,ah];exact⟨u,y⟩
  ·rw[ag _ _ e];exact⟨rfl,rfl⟩
 refine⟨⟨fun j f=>?_,fun a c K L e=>?_,E,fun x d=>?_,fun x d=>?_⟩,F,c5,m,w⟩
 ·rw[m j];exact c1 j f
 ·rw[m a,m c]at e;exact h.mW a c K L e
 ·show ∃j,j<V.nb/\(aI b (mF b s ⟨(V.B i).leave V.om t k,aK V.om b o',V.lg.dE b (V.om b)⟩) x).sym=((V.qZ i b s t k g cap' o' bG).B j).sym;rw[(v x).1,(D x).1];obtain⟨j,f,e⟩:=h.sym x d;exact⟨j,f,by rw[m j];exact e⟩
 ·show (aI b (mF b s ⟨(V.B i).leave V.om t k,aK V.om b o',V.lg.dE b (V.om b)⟩) x).side=_\/(aI b (mF b s ⟨(V.B i).leave V.om t k,aK V.om b o',V.lg.dE b (V.om b)⟩) x).side=_;rw[(v x).2,(D x).2];exact h.side x d
theorem GW.bU{V:aS}{M:Int}(h:GW V M){s:ByteArray}{b:Nat}{bG:Lm}(p:∀i,i<V.nb->(V.B i).sym≠s):GW (V.bU s b bG) M:=by
 have d:∀j,j<V.nb->(V.bU s b bG).B j=V.B j:=fun j f=>by
  show aK V.B V.nb (mD s) j=V.B j;exact ag _ _ (by omega)
 have new:(V.bU s b bG).B V.nb=mD s:=ah _ _ _;have r:(mD s).sym=s:=rfl;have A:(V.bU s b bG).nb=V.nb+1:=rfl;refine⟨fun j f=>?_,fun a c u z e=>?_,h.q,fun x t=>?_,h.side⟩
 ·by_cases e:j<V.nb
  ·rw[d j e];exact h.gb j e
  ·obtain rfl:j=V.nb:=by omega
   rw[new,r];have o:∀y,(mD s).n y=0:=fun y=>rfl
   refine⟨rfl,fun y v x=>?_,fun y v k h0 m=>?_,fun y v a c u=>?_,fun x y t=>?_⟩
   ·rw[o];constructor
    ·rintro⟨k,m,_⟩;omega
    ·rintro⟨a,c,_⟩;obtain⟨j,f,w⟩:=h.sym x a;exact absurd (w.symm.trans c) (p j f)
   ·rw[o]at m;omega
   ·rw[o]at u;omega
   ·obtain⟨k,m,_⟩:=t;rw[o]at m;omega
 ·by_cases g:a<V.nb <;> by_cases l:c<V.nb
  ·rw[d a g,d c l]at e;exact h.mW a c g l e
  ·obtain rfl:c=V.nb:=by omega
   rw[d a g,new,r]at e;exact absurd e (p a g)
  ·obtain rfl:a=V.nb:=by omega
   rw[d c l,new,r]at e;exact absurd e.symm (p c l)
  ·omega
 ·obtain⟨j,f,e⟩:=h.sym x t;exact⟨j,by omega,by rw[d j f];exact e⟩
attribute [local go_sem ↓] Go.wp_at_zero Go.wp_at_succ
theorem UK:(Tryz.prog.info? 212).map (fun i=>(i.zero.map (fun a=>a.cells.size),i.size,i.bytes))=some (some 13,13,112):=by kernel_rfl
theorem BO:∃i a,Tryz.prog.info? 212=some i/\i.zero=some a/\i.size=13/\i.bytes=112/\a.cells.size=13:=by
 have h:=UK;cases hi:Tryz.prog.info? 212 with
 | none=>rw[hi]at h;simp at h
 | some i =>
   rw[hi]at h;simp at h;obtain⟨⟨a,d,hs⟩,b,c⟩:=h;exact⟨i,a,rfl,d,b,c,hs⟩
def wU(o:iR):Ord:=⟨o.id,o.aG,o.sym,o.side,o.kind,o.af,o.az,o.az,0,0,0,0,0⟩
def RS.add(S:RS)(o:iR):RS:={ S with l:=S.l++[wU o] }
theorem XV(w:World)(o:Ord):∀j a,(uN o)[j]?=some a->(w.alloc (.cells #[II o.id,II o.aG,.string o.sym,II o.side,II o.kind,II o.af,II o.az,II o.entered,II o.aH,II o.filled,II o.aX,II o.exp,II o.place] 212)).cell? (Addr.add ⟨w.heap.size,0,none⟩ j)=some a:=by
 intro j a c;have b:=au.new w #[II o.id,II o.aG,.string o.sym,II o.side,II o.kind,II o.af,II o.az,II o.entered,II o.aH,II o.filled,II o.aX,II o.exp,II o.place] 212;have e:Addr.add ⟨w.heap.size,0,none⟩ j=⟨w.heap.size,j,none⟩:=by simp[Addr.add];omega
 rw[e,b.cell,<-c];simp[uN]
theorem dF.XO{d w2:World}{base c n H g cap:Nat}{S:RS}{m:SM}{r:Ord}(h:dF d base c S m)(B:S.l.length=n)(hown:w2.ownsRow base 212 13 (.slice (some ⟨g,0,none⟩) (n+1) cap) (n+1) (yH S.l++uN r))(u:d.grownBy w2 m.lv.ownBlock)(A:m.lv.ownBlock=some g\/g=H)(hH:d.heap.size=H) :
 iZ base c { S with l:=S.l++[r] } m d (w2.setCell ⟨c,1,none⟩ (.slice (some ⟨g,0,none⟩) (n+1) cap)):=by
 have C:m.lv.ownBlock≠some c:=fun e=>by obtain⟨cs,i⟩:=aF h.dV e;exact au.ne i h.ay (by decide) rfl
 have f:au w2 c _ 207:=(u.block c h.ay.lt (fun e=>C e.symm)).trans h.ay;have w:aj (fun b=>m.lv.ownBlock=some b) d w2:=(aj.refl _ d).grown u (fun k e=>.inl e);have j:aj (fun b=>b=c) w2 (w2.setCell ⟨c,1,none⟩ (.slice (some ⟨g,0,none⟩) (n+1) cap)):=(aj.refl (fun b=>b=c) w2).setCell (p:=⟨c,1,none⟩) (.inl rfl) _;have o:∀{e size q:Nat} {v:Value} {s:List Value},d.ownsRow base e size v q s->e≠212->e≠207->(w2.setCell ⟨c,1,none⟩ (.slice (some ⟨g,0,none⟩) (n+1) cap)).ownsRow base e size v q s:=fun {e size q v s} r y z=>by
  have D:=bK (t:=0) r w (fun b a=>by obtain⟨cs,i⟩:=aF h.dV a;exact⟨cs,_,i,fun x=>y x.symm⟩);exact bK (t:=0) D j (fun b a=>by subst a;exact⟨_,_,f,fun x=>z x.symm⟩)
 refine⟨{ m with lv:=.slice (some ⟨g,0,none⟩) (n+1) cap },⟨h.ge,f.set 1 _,o h.mZ (by decide) (by decide),?_,o h.dJ (by decide) (by decide),o h.lZ (by decide) (by decide)⟩,?_,?_⟩
 ·simp only[List.length_append,List.length_cons,List.length_nil,B,yH,xO];exact bK (t:=0) hown j (fun b a=>by subst a;exact⟨_,_,f,by decide⟩)
 ·rintro b (rfl | a | a | a | a)
  ·exact .inl (.inl rfl)
  ·exact .inl (.inr (.inl a))
  ·simp only[Value.ownBlock,Option.some.injEq]at a;rcases A with e | e
   ·exact .inl (jL (by rw[e,a]))
   ·right;omega
  ·exact .inl (iQ a)
  ·exact .inl (xA a)
 ·exact (w.mono (fun b a=>jL a)).trans (j.mono (fun b a=>.inl a))
theorem yZ(base d:Nat)(S:RS)(m:SM)(x:bD)(w:World)(h:dF w base d S m)(B:x.kind=101)(K:S.l.length<=1000)(L:S.sy.length<=1000)(A:∀k,k<S.l.length->0<=(ak S.l k).aH/\(ak S.l k).aH<=1000000000000000)(q:pJ S x.o≠0) :
 CT 138 #[PP d,x.val] w fun e w'=>e=.returned (.tuple #[dm 0 0 0 0 0,II (pJ S x.o)])/\iZ base d S.fresh m w w':=by
 have X:=h.ay.lt;have v5:CC w d 5 m.ov:=h.ay.cell 5;have P:=h.ay.frozen 5;have N:d≠w.heap.size:=by omega
 have M:d≠w.heap.size+1:=by omega
 have sz':=N.symm;have Z:=M.symm;have Y:d<w.heap.size+1:=by omega
 have i:Hid (∀g m',dF g base d S.fresh m'->CT 167 #[PP d,x.o.val] g fun e w'=>e=.returned (II (pJ S x.o))/\aj aA g w'):=fun g m' J=>vw base d S.fresh m' x.o g J K L A
 obtain⟨u,z⟩:=dQ (pJ S x.o);rw[z]at i q ⊢;have O:(u == 0)=false:=by simpa using q
 obtain⟨W,s,⟨id,D,sym,side,C,af,az⟩,a,b,c,again⟩:=x;simp only at B;subst B;simp only[bD.val,bD.cells,iR.val]at i ⊢;have HS:=ai h;clear h z q A;obtain⟨j,t,n,_⟩:=(ae HS).qy #[.int .u8 101,.string s,II id,II D,.string sym,II side,II C,II af,II az,II a,II b,II c,.bool again];obtain⟨I,p⟩:=gy ((((w.setCell ⟨d,5,none⟩ (.slice none 0 0)).alloc (.cells #[.int .u8 101,.string s,II id,II D,.string sym,II side,II C,II af,II az,II a,II b,II c,.bool again] 169)).alloc (.cells bC 87)));rw[<-p]at j t n;have F:=ai (ae i _ _ j);have G:Hid (iZ base d S.fresh m w I):=iZ.qg (ae HS) t (iZ.refl j);obtain⟨E,y⟩:=aZ n p;simp only[bC]at y;clear j t n i p;go_enter Tryz.func138,Tryz.ntmps138;go_wp2_with fail;rw[<-ae y];refine (ae F).mono ?_;rintro e w3 ⟨rfl,r⟩;have f:=r.ay (ae E) idd;have H:=ai ((ae G).ext r);obtain⟨z0,z1,z2,z3,z4⟩:=f.c5;have Q:=f.frozen 0;have R:=f.frozen 1;have T:=f.frozen 2;have U:=f.frozen 3;have V:=f.frozen 4;have v:=ai f;clear r f;go_wp2;refine bodyPost_ret (qx _ (w.heap.size+1) _ 0 0 0 0 0 u rfl rfl ?_) rfl ⟨rfl,?_⟩
 ·exact uh (ae v) _ _ _ _ _
 ·exact (ae H).off (ae v) (by omega) (qE _ _ _ _ _)
open Go.RowKit Go.Maps
def Tr.at(t:Tr)(p:Int):Tr:={ t with af:=p }
def Lg.jE(G:Lg)(k:Nat)(x:Tg)(p:Int):Lg:={ G with tr:=G.tr.set k ⟨x.t.at p,x.holds⟩ }
theorem fP.jE{w:World}{bv r s k b:Nat}{G:Lg}{m:Lm}{x:Tg}(h:bz w bv r s G m)(A:G.tr[k]?=some x)(q:m.tb[k]?=some b)(p:Int):bz (w.setCell ⟨b,2,none⟩ (II p)) bv r s (G.jE k x p) m:=by
 have f:=h.aO.ay k b x q A;have j:aj (fun y=>y=b) w (w.setCell ⟨b,2,none⟩ (II p)):=(aj.refl (fun y=>y=b) w).setCell (p:=⟨b,2,none⟩) (.inl rfl) _;refine⟨j.ay h.cO (au.ne h.cO f (by decide)),?_⟩;have C:=aB h.aO.dJ j (fun y d e=>dC h.aO.dJ d f (by decide) e);refine⟨?_,aB h.aO.fQ j (fun y d e=>dC h.aO.fQ d f (by decide) e),by simp[Lg.jE,h.aO.len],fun i b' g o l=>?_,h.aO.nodup,h.aO.act.aC j (fun y d e=>?_),aB h.aO.lT j (fun y d e=>dC h.aO.lT d f (by decide) e),h.aO.jb⟩
 ·simp only[Lg.jE,List.length_set];exact C
 ·simp only[Lg.jE]at l;by_cases e:i=k
  ·subst e;obtain rfl:b'=b:=by rw[q]at o;exact (Option.some.inj o).symm
   have a:i<G.tr.length:=(List.getElem?_eq_some_iff.1 A).1;rw[List.getElem?_set_self a]at l;obtain rfl:=Option.some.inj l;exact f.set 2 _
  ·rw[List.getElem?_set_ne (fun h=>e h.symm)]at l;refine j.ay (h.aO.ay i b' g o l) (fun n=>e ?_);subst n;obtain⟨v,u⟩:=List.getElem?_eq_some_iff.1 o;obtain⟨z,n⟩:=List.getElem?_eq_some_iff.1 q;rcases Nat.lt_trichotomy i k with a | a | a
   ·exact absurd (u.trans n.symm) (List.pairwise_iff_getElem.1 h.aO.nodup i k v z a)
   ·exact a
   ·exact absurd (n.trans u.symm) (List.pairwise_iff_getElem.1 h.aO.nodup k i z v a)
 ·obtain⟨c,t,B,D⟩:=h.aO.act.gZ d;subst e;exact au.ne B f (by rcases D with rfl | rfl <;> decide) rfl
theorem Ko(c:ByteArray)(a b:Int)(w:World)(j:qj w)(h0:0<c.size)(n:c.size<=100)(l:dM a)(m:dM b) :
 (0<(iJ (DY a b) c 2).size/\(iJ (DY a b) c 2).size<=290)/\∀d,aj aA w d->∀f cap,d.cell? ⟨f,0,none⟩=some (II a)->d.cell? ⟨f,1,none⟩=some (II b) ->
  CT 65 #[.string c,.slice (some ⟨f,0,none⟩) 2 cap] d fun e w'=>e=.returned (.string (iJ (DY a b) c 2))/\aj aA w w':=by
 have h:=rG c (DY a b) 2 w j h0 n (by omega) (fun i g=>by
  match i,g with
  | 0,_=>exact l
  | 1,_=>exact m)
 refine⟨h.1,fun d k f cap c0 c1=>h.2 d k f cap (fun i g=>?_)⟩
 match i,g with
 | 0,_=>exact c0
 | 1,_=>exact c1
def Lg.rJ(G:Lg)(k tb:Nat)(x:Tg)(p:Int):Lg:=((G.begun.jE k x p).told 3 (x.t.at p)).aY [.iV tb x.t.af]
def held(tr:List Tg):List Tr:=(tr.filter (·.holds)).map (·.t)
theorem iP(a b:List Tg):held (a++b)=held a++held b:=by simp[held,List.filter_append]
theorem tJ(x:Tg):held [x]=if x.holds then [x.t] else []:=by
 unfold held;cases h:x.holds <;> simp[h]
theorem I9{tr:List Tg}{k:Nat}{x:Tg}(a:tr[k]?=some x):tr=tr.take k++[x]++tr.drop (k+1):=by
 obtain⟨b,e⟩:=List.getElem?_eq_some_iff.1 a;rw[<-e,List.append_assoc,List.singleton_append,List.getElem_cons_drop,List.take_append_drop]
theorem DN{tr:List Tg}{k:Nat}{x:Tg}(a:k<tr.length):tr.set k x=tr.take k++[x]++tr.drop (k+1):=by
 rw[List.set_eq_take_append_cons_drop,if_pos a,List.append_assoc,List.singleton_append]
def vY(f:Tr->Int):List Tr->Int
 | []=>0
 | t :: l=>f t+vY f l
theorem jq(c:Tr->Int)(a b:List Tr):vY c (a++b)=vY c a+vY c b:=by
 induction a with
 | nil=>simp[vY]
 | cons t l ih=>simp only[List.cons_append,vY,ih];omega
theorem OW{a:Tr->Int}{l:List Tr}(h:∀t∈l,a t=0):vY a l=0:=by
 induction l with
 | nil=>rfl
 | cons t l ih=>simp only[vY];rw[h t (by simp),ih (fun x b=>h x (by simp[b]))];omega
theorem Je{a:Tr->Int}{l:List Tr}(h:∀t∈l,0<=a t):0<=vY a l:=by
 induction l with
 | nil=>exact Int.le_refl _
 | cons t l ih =>
   simp only[vY];have:=h t (by simp);have:=ih (fun x b=>h x (by simp[b]));omega
def tq(side id:Int)(t:Tr):Int:=if side=0 then (if t.lF=id then t.az else 0) else (if t.dZ=id then t.az else 0)
theorem O1{side id:Int}{t:Tr}(h:0<=t.az):0<=tq side id t:=by unfold tq;repeat (first | split | omega)
structure TW(om:Nat->Ord)(aV:Int->Option Nat)(t:Tr):Prop where
 lF:∃b,aV t.lF=some b/\(om b).sym=t.sym/\(om b).side=0
 dZ:∃b,aV t.dZ=some b/\(om b).sym=t.sym/\(om b).side=1
 az:1<=t.az
structure FL(om:Nat->Ord)(aV:Int->Option Nat)(hl:List Tr)(ex:Int->Int):Prop where
 tw:∀t∈hl,TW om aV t
 xx:∀id b,aV id=some b->(om b).id=id
 eq:∀id b,aV id=some b->(om b).filled=vY (tq (om b).side id) hl+ex id
theorem TW.lW{om dG:Nat->Ord}{aV:Int->Option Nat}{t:Tr}(h:TW om aV t)(a:∀x,(dG x).sym=(om x).sym/\(dG x).side=(om x).side):TW dG aV t:=by
 obtain⟨⟨b,g,i,j⟩,⟨c,d,e,f⟩,k⟩:=h;exact⟨⟨b,g,by rw[(a b).1];exact i,by rw[(a b).2];exact j⟩,⟨c,d,by rw[(a c).1];exact e,by rw[(a c).2];exact f⟩,k⟩
theorem FL.lW{om dG:Nat->Ord}{aV:Int->Option Nat}{e:List Tr}{d:Int->Int}(h:FL om aV e d)(a:∀x,(dG x).sym=(om x).sym/\(dG x).side=(om x).side/\(dG x).id=(om x).id/\(dG x).filled=(om x).filled):FL dG aV e d :=
 ⟨fun t f=>(h.tw t f).lW (fun x=>⟨(a x).1,(a x).2.1⟩),fun id b c=>(a b).2.2.1.trans (h.xx id b c),fun id b c=>by rw[(a b).2.2.2,(a b).2.1];exact h.eq id b c⟩
theorem Qs{oc s:Nat}{M:Int}{st:MS}{aV:Int->Option Nat}(C:M<=1000000000000000)(J:su oc s st)(p:0<st.B.n s)(R:0<(st.om oc).aH)(r:∀x,(x=oc\/mJ st s x)->Qo M (st.om x))
 (hs:s<2) (k:aV (st.om oc).id=some oc) (F:∀x,mJ st s x->aV (st.om x).id=some x/\(st.om x).sym=st.B.sym) (v:(st.om oc).sym=st.B.sym)
 (h:FL st.om aV (held st.lg.tr) (fun _=>0)):FL (bF oc s st).om aV (held (bF oc s st).lg.tr) (fun _=>0):=by
 obtain⟨B,om,lg⟩:=st;simp only at p R k F v h r;have H:=J.mem 0 p;simp only at H;obtain⟨o,Y,X,Q⟩:=H;have I:mJ ⟨B,om,lg⟩ s (B.h s 0):=⟨0,p,rfl⟩;have U:Qo M (om (B.h s 0)):=r _ (.inr I);have T:Qo M (om oc):=r _ (.inl rfl);have i:(om oc).side=1-(s:Int):=J.side;obtain⟨m,E⟩:=F _ I;unfold bF;simp only;generalize B.h s 0=ow at *;by_cases D:(om ow).aG=(om oc).aG
 ·rw[if_pos D];refine h.lW (fun x=>?_);by_cases e:x=ow
  ·simp only[e,ah];exact⟨rfl,rfl,rfl,rfl⟩
  ·simp only[ag _ _ e];exact⟨trivial,trivial,trivial,trivial⟩
 ·rw[if_neg D];simp only;have K:0<=min (om oc).aH (om ow).aH:=by omega
  obtain⟨_,_,L⟩:=T.fill (q:=min (om oc).aH (om ow).aH) K (by omega) C;obtain⟨_,_,V⟩:=U.fill (q:=min (om oc).aH (om ow).aH) K (by omega) C;have y:aT om oc ow oc=iY (om oc) (min (om oc).aH (om ow).aH):=by simp only[aT];rw[ag _ _ (fun e=>Q e.symm),ah]
  have A:aT om oc ow ow=iY (om ow) (min (om oc).aH (om ow).aH):=by simp only[aT,ah]
  have z:∀x,x≠oc->x≠ow->aT om oc ow x=om x:=fun x N O=>by simp only[aT];rw[ag _ _ O,ag _ _ N]
  have c:∀x,(aT om oc ow x).sym=(om x).sym/\(aT om oc ow x).side=(om x).side/\(aT om oc ow x).id=(om x).id:=fun x=>by
   by_cases d:x=oc
   ·rw[d,y];exact⟨rfl,rfl,rfl⟩
   ·by_cases f:x=ow
    ·rw[f,A];exact⟨rfl,rfl,rfl⟩
    ·rw[z x d f];exact⟨rfl,rfl,rfl⟩
  have S:held ((dD lg om oc ow).lC (jg B om oc ow)).tr=held lg.tr++[(dD lg om oc ow).jo (jg B om oc ow)]:=by
   show held ((dD lg om oc ow).tr++[⟨(dD lg om oc ow).jo (jg B om oc ow),true⟩])=_;rw[iP,tJ,iw]
   rfl
  rw[S];have P:∀side id,tq side id ((dD lg om oc ow).jo (jg B om oc ow))=if side=0 then (if (if (om oc).side=1 then (om ow).id else (om oc).id)=id then min (om oc).aH (om ow).aH else 0) else (if (if (om oc).side=1 then (om oc).id else (om ow).id)=id then min (om oc).aH (om ow).aH else 0):=fun side id=>rfl
  have w:s=0\/s=1:=by omega
  refine⟨fun t j=>?_,fun id b g=>(c b).2.2.trans (h.xx id b g),fun id b g=>?_⟩
  ·rcases List.mem_append.1 j with j | j
   ·exact (h.tw t j).lW (fun x=>⟨(c x).1,(c x).2.1⟩)
   ·simp only[List.mem_singleton]at j;subst j;have G:1<=min (om oc).aH (om ow).aH:=by omega
    rcases w with e | e
    ·subst e;have a:(om oc).side=1:=by simpa using i
     refine⟨⟨ow,?_,(c ow).1.trans E,(c ow).2.1.trans (by simpa using o)⟩,⟨oc,?_,(c oc).1.trans v,(c oc).2.1.trans a⟩,G⟩
     ·show aV (if (om oc).side=1 then (om ow).id else (om oc).id)=_;rw[if_pos a];exact m
     ·show aV (if (om oc).side=1 then (om oc).id else (om ow).id)=_;rw[if_pos a];exact k
    ·subst e;have a:(om oc).side=0:=by simpa using i
     refine⟨⟨oc,?_,(c oc).1.trans v,(c oc).2.1.trans a⟩,⟨ow,?_,(c ow).1.trans E,(c ow).2.1.trans (by simpa using o)⟩,G⟩
     ·show aV (if (om oc).side=1 then (om ow).id else (om oc).id)=_;rw[if_neg (by omega)];exact k
     ·show aV (if (om oc).side=1 then (om oc).id else (om ow).id)=_;rw[if_neg (by omega)];exact m
  ·rw[jq,(c b).2.1];have h0:=h.eq id b g;have l:=h.xx id b g;simp only[vY,P,Int.add_zero]at h0 ⊢;by_cases d:b=oc
   ·subst d;rw[y,L,h0];rcases w with e | e
    ·subst e;have a:(om b).side=1:=by simpa using i
     simp[a,l]
    ·subst e;have a:(om b).side=0:=by simpa using i
     simp[a,l]
   ·by_cases f:b=ow
    ·subst f;rw[A,V,h0];rcases w with e | e
     ·subst e;have a:(om oc).side=1:=by simpa using i
      have u:(om b).side=0:=by simpa using o
      simp[a,u,l]
     ·subst e;have a:(om oc).side=0:=by simpa using i
      have u:(om b).side=1:=by simpa using o
      simp[a,u,l]
    ·rw[z b d f,h0];have Z:(om oc).id≠id:=fun e=>d (by rw[e,g]at k;exact Option.some.inj k)
     have n2:(om ow).id≠id:=fun e=>f (by rw[e,g]at m;exact Option.some.inj m)
     have W:(if (om oc).side=1 then (om ow).id else (om oc).id)≠id:=by split <;> assumption
     have z2:(if (om oc).side=1 then (om oc).id else (om ow).id)≠id:=by split <;> assumption
     rw[if_neg W,if_neg z2];split <;> omega
theorem CX{oc s:Nat}{M:Int}{aV:Int->Option Nat}(f:M<=1000000000000000)(hs:s<2):∀(d:Nat) (st:MS),su oc s st->ed (fE st.om) (st.B.n s) (st.B.h s)->(∀x,(x=oc\/mJ st s x)->Qo M (st.om x)) ->
 aV (st.om oc).id=some oc->(∀x,mJ st s x->aV (st.om x).id=some x/\(st.om x).sym=st.B.sym)->(st.om oc).sym=st.B.sym ->
 FL st.om aV (held st.lg.tr) (fun _=>0)->FL (bu oc s d st).om aV (held (bu oc s d st).lg.tr) (fun _=>0):=by
 intro d
 induction d with
 | zero=>intro st _ _ _ _ _ _ h;exact h
 | succ d ih =>
   intro st p r m j k o h;rw[bu];split
   ·exact h
   ·rename_i t;obtain⟨i,l⟩:=nM t;have c:=xW f p i l r m;have g:(bF oc s st).B.sym=st.B.sym:=by
     unfold bF;split
     ·rfl
     ·show (dO st.B st.om oc (st.B.h s 0) s).sym=_;unfold dO;split <;> rfl
    refine ih _ c.inv c.heap (fun x e=>c.q x (e.imp_right (c.mem x))) ?_ (fun x e=>?_) ?_ (Qs f p i l m hs j k o h)
    ·rw[(c.oH oc).1];exact j
    ·obtain⟨a,b⟩:=k x (c.mem x e);exact⟨by rw[(c.oH x).1];exact a,by rw[(c.oH x).2.2.1,g];exact b⟩
    ·rw[(c.oH oc).2.2.1,g];exact o
theorem MB{oc:Nat}{st:MS}{aV:Int->Option Nat}{b:List Tr}{a:Int->Int}(h:FL st.om aV b a):FL (aI oc st) aV b a:=by
 refine h.lW (fun x=>?_);by_cases e:x=oc
 ·subst e;unfold aI;split
  ·simp only[ah];exact⟨trivial,trivial,trivial,trivial⟩
  ·simp only[ah,fZ];exact⟨trivial,trivial,trivial,trivial⟩
 ·rw[ru oc st e];exact⟨rfl,rfl,rfl,rfl⟩
theorem VJ{om:Nat->Ord}{b:Nat}{o':Ord}{n:Nat}{h:Nat->Nat}(e:ed (fE om) n h)(a:∀k,k<n->h k≠b):ed (fE (aK om b o')) n h :=
 e.lW (fun j k c d=>tN (by rw[ag _ _ (a j c)];exact⟨rfl,rfl,rfl⟩) (by rw[ag _ _ (a k d)];exact⟨rfl,rfl⟩))
theorem FL.enter{om:Nat->Ord}{aV:Int->Option Nat}{i:List Tr}(h:FL om aV i (fun _=>0)){b:Nat}{o:iR}(q:aV o.id=none)(p:∀id,aV id≠some b) :
 FL (aK om b (aQ o)) (fun id=>if id=o.id then some b else aV id) i (fun _=>0):=by
 have f:∀id x,aV id=some x->aK om b (aQ o) x=om x:=fun id x a=>ag _ _ (fun e=>p id (e▸a))
 have g:∀id x,aV id=some x->id≠o.id:=fun id x a e=>by rw[e,q]at a;simp at a
 have s:∀t∈i,TW (aK om b (aQ o)) (fun id=>if id=o.id then some b else aV id) t:=fun t j=>by
  obtain⟨⟨x,d,m,n⟩,⟨y,c,k,l⟩,r⟩:=h.tw t j;exact⟨⟨x,by rw[if_neg (g _ x d)];exact d,by rw[f _ x d];exact m,by rw[f _ x d];exact n⟩,⟨y,by rw[if_neg (g _ y c)];exact c,by rw[f _ y c];exact k,by rw[f _ y c];exact l⟩,r⟩
 refine⟨s,fun id x a=>?_,fun id x a=>?_⟩
 ·by_cases e:id=o.id
  ·rw[if_pos e]at a;obtain rfl:=Option.some.inj a;rw[ah,e];rfl
  ·rw[if_neg e]at a;rw[f id x a];exact h.xx id x a
 ·by_cases e:id=o.id
  ·rw[if_pos e]at a;obtain rfl:=Option.some.inj a;rw[ah];rw[OW (fun t j=>?_)]
   ·rfl
   ·obtain⟨⟨x,d,_⟩,⟨y,c,_⟩,_⟩:=h.tw t j;unfold tq;rw[e,if_neg (g _ x d),if_neg (g _ y c)];split <;> rfl
  ·rw[if_neg e]at a;rw[f id x a];exact h.eq id x a
def NC(lg:Lg):Prop:=∀x∈lg.tr,x.t.sym.size<=100000
def oP(R:List Rc):Prop:=∀(i:Nat) (r:Rc),R[i]?=some r->r.num=(i:Int)+1/\r.t.sym.size<=100000
theorem oP.nil:oP []:=fun i r h=>by simp at h
theorem oP.kL{R:List Rc}(h:oP R){r:Rc}(b:r.num=(R.length:Int)+1)(c:r.t.sym.size<=100000):oP (R++[r]):=fun i x a=>by
 by_cases d:i<R.length
 ·rw[List.getElem?_append_left d]at a;exact h i x a
 ·rw[List.getElem?_append_right (by omega)]at a;have e:i-R.length=0:=by
   cases e:i-R.length with
   | zero=>rfl
   | succ m=>rw[e]at a;simp at a
  rw[e]at a;simp only[List.getElem?_cons_zero,Option.some.injEq]at a;subst a;have:i=R.length:=by omega
  rw[this];exact⟨b,c⟩
theorem Ro{oc s:Nat}{st:MS}(b:st.B.sym.size<=100000)(c:NC st.lg)(d:oP st.lg.tp):(bF oc s st).B.sym.size<=100000/\NC (bF oc s st).lg/\oP (bF oc s st).lg.tp:=by
 unfold bF;split
 ·exact⟨b,c,d⟩
 ·refine⟨?_,fun x a=>?_,?_⟩
  ·simp only[dO];split <;> exact b
  ·simp only[Lg.lC,Lg.told,Lg.aC,Lg.aY,iw,List.mem_append,List.mem_singleton]at a;rcases a with a | a
   ·exact c x a
   ·subst a;exact b
  ·simp only[Lg.lC,Lg.told,Lg.aC,Lg.aY,qQ];exact d.kL rfl b
theorem Dj{oc s:Nat}:∀(d:Nat) (st:MS),st.B.sym.size<=100000->NC st.lg->oP st.lg.tp->NC (bu oc s d st).lg/\oP (bu oc s d st).lg.tp:=by
 intro d
 induction d with
 | zero=>intro st _ e f;exact⟨e,f⟩
 | succ d ih =>
   intro st g e f;rw[bu];split
   ·exact⟨e,f⟩
   ·obtain⟨a,b,c⟩:=Ro (oc:=oc) (s:=s) g e f;exact ih _ a b c
def Gh(lg:Lg):Prop:=∀(k:Nat) (x:Tg),lg.tr[k]?=some x->x.t.num=(k:Int)+1
theorem Gh.set{G G':Lg}(h:Gh G){k:Nat}{x y:Tg}(b:G.tr[k]?=some x)(f:y.t.num=x.t.num)(e:G'.tr=G.tr.set k y):Gh G':=fun j g a=>by
 rw[e]at a;have d:=(List.getElem?_eq_some_iff.1 b).1;by_cases c:k=j
 ·subst c;rw[List.getElem?_set_self d]at a;rw[<-Option.some.inj a,f];exact h k x b
 ·rw[List.getElem?_set_ne c]at a;exact h j g a
theorem Rl{oc s:Nat}{st:MS}(h:Gh st.lg):Gh (bF oc s st).lg:=by
 unfold bF;split
 ·exact h
 ·intro j x a;simp only[Lg.lC,Lg.told,Lg.aC,Lg.aY,iw]at a;by_cases b:j<st.lg.tr.length
  ·rw[List.getElem?_append_left b]at a;exact h j x a
  ·rw[List.getElem?_append_right (by omega)]at a;have e:j-st.lg.tr.length=0:=by
    cases e:j-st.lg.tr.length with
    | zero=>rfl
    | succ m=>rw[e]at a;simp at a
   rw[e]at a;simp only[List.getElem?_cons_zero,Option.some.injEq]at a;rw[<-a];show ((dD st.lg st.om oc (st.B.h s 0)).tr.length:Int)+1=_;rw[iw];omega
theorem xR{oc s:Nat}:∀(a:Nat) (st:MS),Gh st.lg->Gh (bu oc s a st).lg
 | 0,st,h=>h
 | a+1,st,h=>by
   rw[bu];split
   ·exact h
   ·exact xR a _ (Rl h)
theorem xQ{oc s:Nat}:∀(a:Nat) (st:MS),(bu oc s a st).lg.day=st.lg.day
 | 0,st=>rfl
 | a+1,st=>by
   rw[bu];split
   ·rfl
   ·rw[xQ a _];unfold bF;split
    ·rfl
    ·show (dD st.lg st.om oc (st.B.h s 0)).day=_;rw[rO]
structure vG(V:aS):Prop where
 sz:∀i,i<V.nb->(V.B i).sym.size<=100
 fl:FL V.om V.aV (held V.lg.tr) (fun _=>0)
 sy:NC V.lg
 tp:oP V.lg.tp
 nm:Gh V.lg
 dy:-9223372036854775808<=V.lg.day/\V.lg.day<9223372036854775808
theorem vG.enter{V:aS}{M:Int}(h:vG V)(g:GW V M)(z:M<=1000000000000000){i b s t m cap':Nat}{o:iR}{bG:Lm}(c:i<V.nb)(hs:s<2)(H:o.sym=(V.B i).sym)(E:0<=o.az)(F:o.az<=M)(r:V.aV o.id=none)(p:¬VL V b)(I:su b s ⟨V.B i,aK V.om b (aQ o),V.lg.bf o.id⟩)(y:∀j,((V.enter i b s t m cap' o bG).B j).sym=(V.B j).sym) :
 vG (V.enter i b s t m cap' o bG):=by
 have A:∀id,V.aV id≠some b:=fun id e=>p ⟨id,e⟩
 have v:=h.fl.enter (o:=o) r A;have f:∀x,Mem ((V.B i).n s) ((V.B i).h s) x->VL V x/\(V.om x).sym=(V.B i).sym:=fun x a=>⟨(((g.gb i c).mem s hs x).1 a).1,(((g.gb i c).mem s hs x).1 a).2.1⟩
 have l:∀x,Mem ((V.B i).n s) ((V.B i).h s) x->x≠b:=fun x a e=>p (e▸(f x a).1)
 have w:=CX (M:=M) (aV:=fun id=>if id=o.id then some b else V.aV id) z hs (mu b s ⟨V.B i,aK V.om b (aQ o),V.lg.bf o.id⟩) ⟨V.B i,aK V.om b (aQ o),V.lg.bf o.id⟩ I
  (VJ ((g.gb i c).heap s hs) (fun k D=>l _ ⟨k,D,rfl⟩)) (fun x a=>by
   rcases a with rfl | a
   ·simp only[ah];exact Ar E F
   ·simp only;rw[ag _ _ (l x a)];exact g.q x (f x a).1) (by simp only[ah];exact if_pos rfl) (fun x a=>by
   obtain⟨⟨id,d⟩,G⟩:=f x a;have u:=h.fl.xx id x d;simp only;rw[ag _ _ (l x a),u,if_neg (fun e=>by rw[e,r]at d;simp at d)];exact⟨d,G⟩) (by simp only[ah];exact H) v
 obtain⟨J,K⟩:=Dj (oc:=b) (s:=s) (mu b s ⟨V.B i,aK V.om b (aQ o),V.lg.bf o.id⟩) ⟨V.B i,aK V.om b (aQ o),V.lg.bf o.id⟩ (by show (V.B i).sym.size<=_;have:=h.sz i c;omega) h.sy h.tp;exact⟨fun j C=>by rw[y j];exact h.sz j C,MB w,J,K,xR _ _ h.nm,by show _<=(mF _ _ _).lg.day/\(mF _ _ _).lg.day<_;unfold mF;rw[xQ];exact h.dy⟩
theorem vG.qZ{V:aS}{M M':Int}(h:vG V)(g:GW V M)(I:M<=M')(H:M'<=1000000000000000){i b s t k u cap':Nat}{o':Ord}{bG:Lm}(d:i<V.nb)(hs:s<2)(U:t=1-s)(p:k<(V.B i).n t)(J:(V.B i).h t k=b)(v:o'.sym=(V.om b).sym)(E:o'.side=(V.om b).side)(w:o'.id=(V.om b).id)(F:o'.filled=(V.om b).filled)(N:Qo M' o')(R:su b s ⟨(V.B i).leave V.om t k,aK V.om b o',V.lg.dE b (V.om b)⟩)(G:∀j,((V.qZ i b s t k u cap' o' bG).B j).sym=(V.B j).sym) :
 vG (V.qZ i b s t k u cap' o' bG):=by
 have t2:t<2:=by omega
 have r:=((g.gb i d).mem t t2 _).1 ⟨k,p,rfl⟩;rw[J]at r;have o:((V.B i).leave V.om t k).n s=(V.B i).n s:=by simp only[Bk.leave];rw[ag _ _ (by omega)]
 have l:((V.B i).leave V.om t k).h s=(V.B i).h s:=by simp only[Bk.leave];rw[ag _ _ (by omega)]
 have C:FL (aK V.om b o') V.aV (held V.lg.tr) (fun _=>0):=h.fl.lW (fun x=>by
  by_cases e:x=b
  ·rw[e,ah];exact⟨v,E,w,F⟩
  ·rw[ag _ _ e];exact⟨rfl,rfl,rfl,rfl⟩)
 have f:∀x,Mem ((V.B i).n s) ((V.B i).h s) x->VL V x/\(V.om x).sym=(V.B i).sym/\x≠b:=fun x c=>by
  have m:=((g.gb i d).mem s hs x).1 c;exact⟨m.1,m.2.1,fun e=>by have a:=m.2.2.1;rw[e,r.2.2.1]at a;omega⟩
 obtain⟨⟨Q,z⟩,O,_⟩:=r;have D:=CX (M:=M') (aV:=V.aV) H hs (mu b s ⟨(V.B i).leave V.om t k,aK V.om b o',V.lg.dE b (V.om b)⟩) ⟨(V.B i).leave V.om t k,aK V.om b o',V.lg.dE b (V.om b)⟩ R
  (by simp only[o,l];exact VJ ((g.gb i d).heap s hs) (fun k p=>(f _ ⟨k,p,rfl⟩).2.2)) (fun x c=>by
   rcases c with rfl | c
   ·simp only[ah];exact N
   ·simp only[mJ,o,l]at c;simp only;rw[ag _ _ (f x c).2.2];exact (g.q x (f x c).1).mono I) (by simp only[ah];rw[w,h.fl.xx Q b z];exact z) (fun x c=>by
   simp only[mJ,o,l]at c;obtain⟨⟨id,y⟩,P,L⟩:=f x c;have A:=h.fl.xx id x y;simp only;rw[ag _ _ L,A];exact⟨y,P⟩) (by simp only[ah];rw[v,O];rfl) C
 obtain⟨S,T⟩:=Dj (oc:=b) (s:=s) (mu b s ⟨(V.B i).leave V.om t k,aK V.om b o',V.lg.dE b (V.om b)⟩) ⟨(V.B i).leave V.om t k,aK V.om b o',V.lg.dE b (V.om b)⟩ (by show (V.B i).sym.size<=_;have:=h.sz i d;omega) h.sy h.tp;exact⟨fun j K=>by rw[G j];exact h.sz j K,MB D,S,T,xR _ _ h.nm,by show _<=(mF _ _ _).lg.day/\(mF _ _ _).lg.day<_;unfold mF;rw[xQ];exact h.dy⟩
theorem vG.of{V:aS}(h:vG V){a:aS}(n:a.nb=V.nb)(f:∀j,(a.B j).sym=(V.B j).sym)(l:a.aV=V.aV)(g:∀x,(a.om x).sym=(V.om x).sym/\(a.om x).side=(V.om x).side/\(a.om x).id=(V.om x).id/\(a.om x).filled=(V.om x).filled)(c:a.lg.tr=V.lg.tr)(d:a.lg.tp=V.lg.tp)(e:a.lg.day=V.lg.day):vG a:=by
 refine⟨fun i m=>by rw[f i];exact h.sz i (by omega),by rw[l,c];exact h.fl.lW g,fun x b=>h.sy x (by rw[c]at b;exact b),by rw[d];exact h.tp,fun k x b=>h.nm k x (by rw[<-c];exact b),by rw[e];exact h.dy⟩
theorem FL.pU{om dG:Nat->Ord}{aV:Int->Option Nat}{i:List Tr}{d f:Int->Int}(h:FL om aV i d){id q:Int}{b:Nat}(g:aV id=some b)(FZ:∀x,x≠b->dG x=om x)
 (l:(dG b).sym=(om b).sym) (m:(dG b).side=(om b).side) (n:(dG b).id=(om b).id) (o:(dG b).filled=(om b).filled-q) (k:f id=d id-q) (c:∀j,j≠id->f j=d j):FL dG aV i f:=by
 have st:∀x,(dG x).sym=(om x).sym/\(dG x).side=(om x).side/\(dG x).id=(om x).id:=fun x=>by
  by_cases e:x=b
  ·rw[e];exact⟨l,m,n⟩
  ·rw[FZ x e];exact⟨rfl,rfl,rfl⟩
 refine⟨fun t r=>(h.tw t r).lW (fun x=>⟨(st x).1,(st x).2.1⟩),fun j x a=>(st x).2.2.trans (h.xx j x a),fun j x a=>?_⟩;rw[(st x).2.1];have h0:=h.eq j x a;by_cases e:j=id
 ·subst e;rw[g]at a;obtain rfl:=Option.some.inj a;rw[o,k,h0];omega
 ·have p:x≠b:=fun c=>e (by rw[<-h.xx j x a,c];exact h.xx id b g)
  rw[FZ x p,c j e,h0]
def Uz(t:Tr)(j:Int):Int:=(if j=t.lF then t.az else 0)+(if j=t.dZ then t.az else 0)
theorem FL.mX{om:Nat->Ord}{aV:Int->Option Nat}{tr:List Tg}{k:Nat}{x:Tg}(h:FL om aV (held tr) (fun _=>0))(m:tr[k]?=some x)(s:x.holds=true):FL om aV (held (tr.set k ⟨x.t,false⟩)) (Uz x.t)/\TW om aV x.t:=by
 have u:=(List.getElem?_eq_some_iff.1 m).1;have e:held tr=held (tr.take k)++(if x.holds then [x.t] else [])++held (tr.drop (k+1)):=by
  have e:=congrArg held (I9 m);rw[iP,iP,tJ]at e;exact e
 rw[s,if_pos rfl]at e;have r:held (tr.set k ⟨x.t,false⟩)=held (tr.take k)++held (tr.drop (k+1)):=by
  rw[DN u,iP,iP,tJ];simp
 have j:TW om aV x.t:=h.tw x.t (by rw[e];simp);rw[r];rw[e]at h;refine⟨⟨fun t w=>h.tw t (by
  rcases List.mem_append.1 w with a | a
  ·simp[a]
  ·simp[a]),h.xx,fun id b d=>?_⟩,j⟩
 have h0:=h.eq id b d;rw[jq,jq]at h0;rw[jq,h0];simp only[vY];obtain⟨⟨i,q,z,g⟩,⟨p,n,B,o⟩,_⟩:=j;have A:tq (om b).side id x.t=Uz x.t id:=by
  unfold tq Uz;by_cases c1:id=x.t.lF
  ·have l:b=i:=by rw[c1,q]at d;exact (Option.some.inj d).symm
   have f:¬id=x.t.dZ:=fun c=>by
    rw[c,n]at d;have:p=i:=(Option.some.inj d).trans l;rw[this,g]at o;omega
   rw[l,g,if_pos rfl,if_pos c1.symm,if_pos c1,if_neg f];omega
  ·by_cases c:id=x.t.dZ
   ·have v:b=p:=by rw[c,n]at d;exact (Option.some.inj d).symm
    rw[v,o,if_neg (by decide),if_pos c.symm,if_neg c1,if_pos c];omega
   ·have y:¬x.t.lF=id:=fun e=>c1 e.symm
    have f:¬x.t.dZ=id:=fun e=>c e.symm
    simp only[if_neg y,if_neg f,if_neg c1,if_neg c];split <;> rfl
 omega
theorem zV(b:Nat)(o:Ord)(d:Int)(w:World)(c:bV w b o d) :
 CT 78 #[PP b] w fun e w'=>e=.returned (.func (.func 151) #[] #[PP (w.heap.size+1),PP w.heap.size])/\xE w' w.heap.size b o/\bV w' b { o with aH:=0,exp:=wrap64 (o.exp+o.aH) } d/\aj (fun x=>x=b) w w':=by
 have j:=ai (oJ b o d w c);have lo:=c.lt;go_enter Tryz.func78,Tryz.ntmps78;go_wp2_with fail;refine (ae j).mono ?_;rintro e f ⟨rfl,k,g⟩;have a:=g.ay c idd;have q:CC f b 8 (II o.aH):=au.cell a 8;have n:CC f b 11 (II o.exp):=au.cell a 11;have m:=au.frozen a 8;have l:=au.frozen a 11;go_wp2;go_region;go_wp2;go_ret;have i:=(((aj.refl (fun x=>x=b) f).setCell (p:=⟨b,11,none⟩) (.inl rfl) (II (wrap64 (o.exp+o.aH)))).setCell (p:=⟨b,8,none⟩) (.inl rfl) (II 0)).drew;refine⟨rfl,k.aC i (by omega) (by omega),?_,g.aP.trans i⟩;have:=(a.set 11 (II (wrap64 (o.exp+o.aH)))).set 8 (II 0);exact this
theorem BK(c b:Nat)(B:Bk)(om:Nat->Ord)(a:Nat->Prop)(w:World)(m:Mk w c B om a)(j:a b) :
 CT 78 #[PP b] w fun e w'=>∃fn d,e=.returned (.func fn #[] d)/\jT w' b (om b) w.heap.size fn d/\Mk w' c B (aK om b (gG (om b))) a/\aj (fun x=>x=b) w w':=by
 obtain⟨k,g⟩:=m.bg b j;refine (zV b (om b) k w g).mono ?_;rintro e w' ⟨rfl,h0,i,f⟩;exact⟨_,_,rfl,⟨rfl,_,Nat.le_refl _,rfl,h0⟩,m.aK g f i,f⟩
theorem Qo.Xj{M:Int}{o:Ord}(h:Qo M o)(i:M<=1000000000000000):Qo M (gG o)/\(gG o).aH=0:=by
 obtain⟨a,b,c,f,e,g⟩:=h;have d:(gG o).exp=o.exp+o.aH:=by simp only[gG];exact aU (by omega) (by omega)
 refine⟨⟨?_,Int.le_refl _,c,f,by rw[d];omega,g⟩,rfl⟩;show o.entered=0+o.filled+o.aX+(gG o).exp;rw[d];omega
theorem zk{w:World}{k:Array Oper}{rest:List Oper}{o:Oper}{a:Act}{Q:Exit->Act->World->Prop}(G:o.guard=none)(u:Operand)(t:o.op=Op.next u false)(b r n:Nat)(f:DataW Unit)(left:Lit->Bool)(g:Nat)(e:Lit->Option Nat)
 (q:a.eval u=PP r) (h:w.ranges Tryz.prog 3 jD b r n f left g) (F:∀kl,f.atKey kl .nil=Iy (e kl)) (J:∀kl,left kl=true->(e kl).isSome=true)
 (B:g=0->wpList Tryz.prog k Q rest (a.put o.dst (.tuple #[.bool false])) w)
 (C:∀(id:Int) (x:Nat) (w':World) (d:Nat),left (.int .i64 id)=true->e (.int .i64 id)=some x->w'.ranges Tryz.prog 3 jD b r n f (fun z=>left z && !z.sameKey (.int .i64 id)) d->d<g->w.grownBy w' (some r)->w'.heap.size=w.heap.size ->
   (Instr.entry (PP r)).run Tryz.prog w'=.ok (.tuple #[II id,PP x]) w'->wpList Tryz.prog k Q rest (a.put o.dst (.tuple #[.bool true,II id,PP x])) w') :
 wpList Tryz.prog k Q (o :: rest) a w:=by
 refine wpList_plain G fun K' m=>?_
 unfold Oper.wp;rcases h.next yT o.type with⟨h0,_,j⟩ | ⟨O,v,kl,y,w',d,I,s,N,D,j,L,K,H,M,E⟩
 ·simp[execOp,t,q,j,Result.andThen];exact m _ _ (B h0)
 ·obtain⟨x,rfl,rfl,_⟩:=Maps.keyOf_int_inv Tryz.underlying3 I;have l:=D .nil;rw[F]at l;have A:jD v=some (Iy (e (.int .i64 x)),y.2):=by rw[N,l]
  have i:=yM A;obtain⟨c,p⟩:=Option.isSome_iff_exists.1 (J _ s);rw[p]at i;simp only[ja]at i;subst i;simp[execOp,t,q,j,Result.andThen];exact m _ _ (C x c w' d s p L K H M E)
theorem IE{w w':World}{b r n:Nat}{a:DataW Unit}{left:Lit->Bool}{c:Nat}{S:Nat->Prop}(h:w.ranges Tryz.prog 3 jD b r n a left c)(k:aj S w w')(l:¬S b)(o:¬S r):w'.ranges Tryz.prog 3 jD b r n a left c:=by
 have f:=h.owns.lt;have g:=h.lt;obtain⟨e,d,q,p,c0,j,F,hs,i,m,rest⟩:=h;exact⟨e,d,q,p,c0,(k.block b f l).trans j,F,hs,i,(k.block r g o).trans m,rest⟩
theorem uG{w:World}{b r n:Nat}{d:DataW Unit}{left:Lit->Bool}{e:Nat}(h:w.ranges Tryz.prog 3 jD b r n d left e){y:Nat}{c:Array Value}{t:TypeId}(a:au w y c t):b≠y/\r≠y:=by
 obtain⟨j,i,m,l,c0,f,F,hs,k,g,rest⟩:=h;unfold au at a;constructor
 ·rintro rfl;rw[f]at a;simp at a
 ·rintro rfl;rw[g]at a;simp at a
theorem dL.Oc{w:World}{bv g j:Nat}{V:aS}(R:dL w bv g j V){x:Nat}{a:Option Nat}{b:Nat}{c:Array Nat}{l:Nat}(d:w.heap[x]?=some (.mapIter a b c l)):¬bY bv g j V x:=by
 obtain⟨p,⟨_,⟨_,_,n,_⟩,_⟩,_⟩:=R.iM;obtain⟨q,⟨_,⟨_,_,o,_⟩,_⟩,_⟩:=R.fA;have no:∀{y c t},au w y c t->x≠y:=fun h e=>by
  subst e;unfold au at h;rw[d]at h;simp at h
 rintro (e | e | e | ⟨i,k,e | ⟨s,hs,e⟩⟩ | ⟨id,e⟩ | e)
 ·exact no R.cO e
 ·rw[e,n]at d;simp at d
 ·rw[e,o]at d;simp at d
 ·exact no (R.aW i k).ay e
 ·obtain⟨c,t,f,_⟩:=(R.sG k).gZ (.inr (.inr ⟨s,hs,e⟩));exact no f rfl
 ·obtain⟨_,r,m⟩:=R.bg id x e;exact no m rfl
 ·obtain⟨c,t,f,_⟩:=R.aO.aO.gZ e;exact no f rfl
theorem fP.FN{w:World}{bv c d:Nat}{G:Lg}{m:Lm}(h:bz w bv c d G m)(b:Int):bz (w.setCell ⟨bv,4,none⟩ (II b)) bv c d { G with day:=b } m/\aj (fun y=>y=bv) w (w.setCell ⟨bv,4,none⟩ (II b)):=by
 have f:aj (fun y=>y=bv) w (w.setCell ⟨bv,4,none⟩ (II b)):=(aj.refl (fun y=>y=bv) w).setCell (p:=⟨bv,4,none⟩) (.inl rfl) _;have a:=h.aO.aC f (fun y g e=>h.JH (e▸g));exact⟨⟨h.cO.set 4 _,⟨a.dJ,a.fQ,a.len,a.ay,a.nodup,a.act,a.lT,a.jb⟩⟩,f⟩
theorem Qo.eY{M:Int}{o:Ord}(h:Qo M o)(l:M<=1000000000000000){q:Int}(j:0<=q)(k:q<=o.filled):Qo M (eY o q)/\(Go.Proofs.YtigaphnafnpfnaaGreatDoor.eY o q).filled=o.filled-q:=by
 obtain⟨a,b,c,i,e,g⟩:=h;have d:(Go.Proofs.YtigaphnafnpfnaaGreatDoor.eY o q).filled=o.filled-q:=by simp only[Go.Proofs.YtigaphnafnpfnaaGreatDoor.eY];exact aU (by omega) (by omega)
 have f:(Go.Proofs.YtigaphnafnpfnaaGreatDoor.eY o q).aX=o.aX+q:=by simp only[Go.Proofs.YtigaphnafnpfnaaGreatDoor.eY];exact aU (by omega) (by omega)
 refine⟨⟨?_,b,by rw[d];omega,by rw[f];omega,e,g⟩,d⟩;show o.entered=o.aH+(Go.Proofs.YtigaphnafnpfnaaGreatDoor.eY o q).filled+(Go.Proofs.YtigaphnafnpfnaaGreatDoor.eY o q).aX+o.exp;rw[d,f];omega
theorem Qo.fD{M:Int}{o:Ord}(h:Qo M o)(l:M<=1000000000000000){q:Int}(j:0<=q)(k:q<=o.filled)(p:Int):Qo M { fD o q with place:=p }/\(Go.Proofs.YtigaphnafnpfnaaGreatDoor.fD o q).filled=o.filled-q/\(Go.Proofs.YtigaphnafnpfnaaGreatDoor.fD o q).aH=o.aH+q:=by
 obtain⟨a,b,c,g,e,i⟩:=h;have d:(Go.Proofs.YtigaphnafnpfnaaGreatDoor.fD o q).filled=o.filled-q:=by simp only[Go.Proofs.YtigaphnafnpfnaaGreatDoor.fD];exact aU (by omega) (by omega)
 have f:(Go.Proofs.YtigaphnafnpfnaaGreatDoor.fD o q).aH=o.aH+q:=by simp only[Go.Proofs.YtigaphnafnpfnaaGreatDoor.fD];exact aU (by omega) (by omega)
 refine⟨⟨?_,?_,?_,g,e,i⟩,d,f⟩
 ·show o.entered=(Go.Proofs.YtigaphnafnpfnaaGreatDoor.fD o q).aH+(Go.Proofs.YtigaphnafnpfnaaGreatDoor.fD o q).filled+o.aX+o.exp;rw[d,f];omega
 ·show 0<=(Go.Proofs.YtigaphnafnpfnaaGreatDoor.fD o q).aH;rw[f];omega
 ·show 0<=(Go.Proofs.YtigaphnafnpfnaaGreatDoor.fD o q).filled;rw[d];omega
theorem Nk{B:Bk}{dG:Nat->Ord}{t b g cap' y x:Nat}(h:dn (B.rest dG t b g cap') y x):dn B y x\/x=b\/x=g:=by
 by_cases e:y=t
 ·subst e;rcases h with h | ⟨k,c,h⟩
  ·simp only[Bk.rest,ah,ig,Option.some.injEq]at h;exact .inr (.inr h.symm)
  ·simp only[Bk.rest,ah]at c h;rcases (jf (lt:=fE dG) (B.h y) b _).1 ⟨k,c,rfl⟩ with a | a
   ·obtain⟨k',f,d⟩:=a;exact .inl (.inr ⟨k',f,by rw[h,d]⟩)
   ·exact .inr (.inl (by rw[h,a]))
 ·left;unfold dn at h ⊢;simp only[Bk.rest,ag _ _ e]at h;exact h
theorem H8{B:Bk}{om:Nat->Ord}{t k y x:Nat}(a:qX (B.n t) (B.h t))(b:k<B.n t)(h:dn (B.leave om t k) y x):dn B y x:=by
 by_cases e:y=t
 ·subst e;rcases h with h | h
  ·exact .inl h
  ·have m:=(lJ (om:=om) a b x).1 h;exact .inr m.1
 ·unfold dn at h ⊢;simp only[Bk.leave,ag _ _ e]at h;exact h
theorem sO(V:aS)(i b:Nat)(q:Int){x:Nat}(h:x≠b):bQ V i b q x=V.om x:=by unfold bQ;rw[ag _ _ h,ag _ _ h]
theorem dW(V:aS)(i b:Nat)(q:Int):bQ V i b q b={ fD (V.om b) q with place:=wrap64 ((V.B i).places+1) }:=by unfold bQ;rw[ah]
theorem Es{B:Bk}{om:Nat->Ord}{sym:ByteArray}{l:Nat->Prop}(i:GB B om sym l){s t:Nat}(hs:s<2)(z:t=1-s){o:Ord}(q:o.kind≠5)(w:o.side=(t:Int))(b:dA B om (bI o) s=none) :
 ∀y,Mem (B.n s) (B.h s) y->if (t:Int)=0 then o.af<(om y).af else (om y).af<o.af:=by
 intro y x;obtain⟨k,c,e⟩:=x;have u:B.n s≠0:=by omega
 unfold dA at b;rw[if_neg u]at b;have p:iC (bI o).kind (bI o).side (bI o).af (om (B.h s 0)).af=false:=by
  split at b
  ·simp at b
  ·rename_i h;simpa using h
 have a:=yI p q;have v:(bI o).side=(t:Int):=w;rw[v]at a;have j:∀k,k<B.n s->(om (B.h s k)).side=(s:Int):=fun k c=>i.side hs c
 have r:=A7 (l9 om (s:Int)) (i.heap s hs) j k c;have d:=(iF _ _).1 r;rw[j k c]at d;have m:(bI o).af=o.af:=rfl;rw[m]at a;rw[<-e]at d;by_cases g:(t:Int)=0
 ·rw[if_pos g]at a ⊢;have f:¬(s:Int)=0:=by omega
  rw[if_neg f]at d;omega
 ·rw[if_neg g]at a ⊢;have f:(s:Int)=0:=by omega
  rw[if_pos f]at d;omega
theorem DF{B:Bk}{om dG:Nat->Ord}{sym:ByteArray}{v:Nat->Prop}{b s t g cap':Nat}(hs:s<2)(O:t=1-s)(i:GB B om sym (fun x=>v x/\x≠b))(M:v b)(FZ:∀x,x≠b->dG x=om x)
 (K:(dG b).sym=sym) (z:(dG b).side=(t:Int)) (L:0<(dG b).aH) (E:∀y,Mem (B.n s) (B.h s) y->if (t:Int)=0 then (dG b).af<(om y).af else (om y).af<(dG b).af) :
 GB (B.rest dG t b g cap') dG sym v:=by
 have t2:t<2:=by omega
 have N:(t:Int)≠(s:Int):=by omega
 have DY:∀x,x<2->x=s\/x=t:=by omega
 have r:(B.rest dG t b g cap').n s=B.n s:=by simp only[Bk.rest];rw[ag _ _ (by omega)]
 have p:(B.rest dG t b g cap').h s=B.h s:=by simp only[Bk.rest];rw[ag _ _ (by omega)]
 have D:(B.rest dG t b g cap').n t=B.n t+1:=by simp only[Bk.rest,ah]
 have A:(B.rest dG t b g cap').h t=uQ (fE dG) (fun k=>if k=B.n t then b else B.h t k) (B.n t):=by simp only[Bk.rest,ah]
 have C:∀x,Mem ((B.rest dG t b g cap').n t) ((B.rest dG t b g cap').h t) x↔Mem (B.n t) (B.h t) x\/x=b:=fun x=>by rw[D,A];exact jf _ _ _
 have ne:∀y,y<2->∀x,Mem (B.n y) (B.h y) x->x≠b/\dG x=om x:=fun y d x f=>by
  have:=((i.mem y d x).1 f).1.2;exact⟨this,FZ x this⟩
 have I:∀y,y<2->ed (fE dG) (B.n y) (B.h y):=fun y d=>(i.heap y d).lW (fun j k F q=>by
  have a:=(ne y d _ ⟨j,F,rfl⟩).2;have c:=(ne y d _ ⟨k,q,rfl⟩).2;exact tN (by rw[a];exact⟨rfl,rfl,rfl⟩) (by rw[c];exact⟨rfl,rfl⟩))
 refine⟨i.lV,fun y d x=>?_,fun y d=>?_,fun y d=>?_,fun x y f d=>?_⟩
 ·rcases DY y d with e | e
  ·rw[e,r,p];constructor
   ·intro f;obtain⟨a,c⟩:=ne s hs x f;have h0:=(i.mem s hs x).1 f;rw[c];exact⟨h0.1.1,h0.2⟩
   ·rintro⟨a,c,l,o⟩;have m:x≠b:=fun e=>by rw[e,z]at l;exact N l
    rw[FZ x m]at c l o;exact (i.mem s hs x).2 ⟨⟨a,m⟩,c,l,o⟩
  ·rw[e,C x];constructor
   ·rintro (f | f)
    ·obtain⟨a,c⟩:=ne t t2 x f;have h0:=(i.mem t t2 x).1 f;rw[c];exact⟨h0.1.1,h0.2⟩
    ·rw[f];exact⟨M,K,z,L⟩
   ·rintro⟨a,c,l,o⟩;by_cases m:x=b
    ·exact .inr m
    ·rw[FZ x m]at c l o;exact .inl ((i.mem t t2 x).2 ⟨⟨a,m⟩,c,l,o⟩)
 ·rcases DY y d with e | e
  ·rw[e,r,p];exact I s hs
  ·rw[e,D,A];refine Ff (l9 dG (t:Int)) _ _ z (fun k q=>?_) (I t t2);rw[(ne t t2 _ ⟨k,q,rfl⟩).2];exact i.side t2 q
 ·rcases DY y d with e | e
  ·rw[e,r,p];exact i.inj s hs
  ·rw[e,D,A];refine qX.up ?_ (by omega);intro j k F q e;simp only at e;by_cases w:j=B.n t
   ·by_cases u:k=B.n t
    ·omega
    ·rw[if_pos w,if_neg u]at e;exact absurd e.symm (ne t t2 _ ⟨k,by omega,rfl⟩).1
   ·by_cases u:k=B.n t
    ·rw[if_neg w,if_pos u]at e;exact absurd e (ne t t2 _ ⟨j,by omega,rfl⟩).1
    ·rw[if_neg w,if_neg u]at e;exact i.inj t t2 j k (by omega) (by omega) e
 ·have J:(s=0/\t=1)\/(s=1/\t=0):=by omega
  rcases J with⟨rfl,rfl⟩ | ⟨rfl,rfl⟩
  ·rw[r,p]at f;rw[C y]at d;have G:(dG x).af=(om x).af:=by rw[(ne 0 hs x f).2]
   rcases d with d | d
   ·rw[G,(ne 1 t2 y d).2];exact i.qG x y f d
   ·have:=E x f;rw[if_neg (by decide)]at this;rw[d,G];exact this
  ·rw[C x]at f;rw[r,p]at d;have H:(dG y).af=(om y).af:=by rw[(ne 1 hs y d).2]
   rcases f with f | f
   ·rw[H,(ne 0 t2 x f).2];exact i.qG x y f d
   ·have:=E y d;rw[if_pos (by decide)]at this;rw[f,H];exact this
def iT.sD(b:iT):Array Value:=#[II b.af,II b.az,II b.num]
structure Bi(w:World)(H n bb:Nat)(S:RS)(m:SM)(ov:Value)(out:List iT)(b:iT)(wi:World):Prop where
 fJ:au wi bb b.sD 93
 st:dF wi H H S m
 row:wi.ownsRow H 93 3 ov n (jF out)
 ne:ov.ownBlock≠some bb
 ge:H<=bb
 jW:aj aA w wi
theorem Bi.ext{w c d:World}{H n a:Nat}{S:RS}{m:SM}{ov:Value}{out:List iT}{b:iT}(h:Bi w H n a S m ov out b c)(k:aj aA c d):Bi w H n a S m ov out b d :=
 ⟨k.ay h.fJ idd,h.st.ax k,aB h.row k (fun _ _ x=>x),h.ne,h.ge,h.jW.trans k⟩
theorem Bi.put{w i g:World}{H n c:Nat}{S:RS}{m:SM}{ov:Value}{out:List iT}{b b':iT}(hH:w.heap.size<=H)(h:Bi w H n c S m ov out b i)(k:aj (fun x=>x=c) i g)(a:au g c b'.sD 93):Bi w H n c S m ov out b' g:=by
 have nb:∀x,SF H m x->¬x=c:=fun x f e=>by subst e;exact h.st.ne h.fJ (by decide) f
 have d:∀{e size n:Nat} {v:Value} {j:List Value},i.ownsRow H e size v n j->(∀b,v.ownBlock=some b->SF H m b)->g.ownsRow H e size v n j:=fun r hs=>aB r k (fun b a=>nb b (hs b a))
 refine⟨a,⟨h.st.ge,k.ay h.st.ay (nb _ (.inl rfl)),d h.st.mZ (fun b a=>.inr (.inl a)),d h.st.dV (fun b a=>jL a),d h.st.dJ (fun b a=>iQ a),d h.st.lZ (fun b a=>xA a)⟩,aB h.row k (fun x f e=>by subst e;exact h.ne f),h.ne,h.ge,h.jW.from (k.mono (fun x f=>.inr (by have:=h.ge;omega)))⟩
theorem C9{f:World}{base cap:Nat}{a:Option Addr}{v:Value}{out:List iT}(h:f.ownsRow base 93 3 v out.length (jF out))(g:v=.slice a out.length cap):(out.length=0/\fU out=none)\/∃k b q,k<out.length/\(out.length:Int)-1=(k:Int)/\a=some ⟨b,0,none⟩/\fU out=some q/\∀c:World,c.ownsRow base 93 3 v out.length (jF out)->c.cell? ⟨b,k * 3,none⟩=some (II q)/\b<c.heap.size:=by
 rcases List.eq_nil_or_concat out with rfl | ⟨ini,l,e⟩
 ·left;exact⟨rfl,rfl⟩
 ·right;rw[List.concat_eq_append]at e;subst e;subst g;have i:(ini++[l]).length=ini.length+1:=by simp
  obtain⟨b,rfl,_⟩:=gQ h (by omega);refine⟨ini.length,b,l.af,by omega,by omega,rfl,by simp[fU],fun c d=>⟨?_,(d.lt b rfl).2⟩⟩;rw[d.cellAt _ (by omega)];have:=KC (ini++[l]) ini.length 0 (by omega) (by omega);rw[show ini.length * 3=3 * ini.length+0 by omega,this];simp[iT.cells]
theorem Gw(s:Int)(b:iT)(p:Int):(wG s b p=true/\b.num=0)\/((b.num == 0)=false/\(if s=0 then decide (b.af<p) else decide (p<b.af))=wG s b p):=by
 unfold wG;by_cases h:b.num=0
 ·left;simp[h]
 ·right;simp[h]
theorem XT{o:Ord}{p a:Int}(b:o.af=p)(c:o.aH=a):pF ⟨o.af,0,0⟩ o=⟨p,wrap64 a,1⟩:=by
 unfold pF;rw[b,c,Int.zero_add];have e:wrap64 (0+1)=1:=aU (by decide) (by decide);simp only;rw[e]
theorem tV{o:Ord}{p a:Int}(b:o.aH=a):pF ⟨p,0,0⟩ o=⟨p,wrap64 a,1⟩:=by
 unfold pF;rw[b,Int.zero_add];have e:wrap64 (0+1)=1:=aU (by decide) (by decide);simp only;rw[e]
theorem EW{b:iT}{o:Ord}{a:Int}(c:o.aH=a):pF b o=⟨b.af,wrap64 (b.az+a),wrap64 (b.num+1)⟩:=by
 unfold pF;rw[c]
theorem yD{d:World}{r:Nat}(a b c f e:Value):aj (fun x=>x=r) d (((((d.setCell ⟨r,0,none⟩ a).setCell ⟨r,1,none⟩ b).setCell ⟨r,2,none⟩ c).setCell ⟨r,1,none⟩ f).setCell ⟨r,2,none⟩ e) :=
 (((((aj.refl (fun x=>x=r) d).setCell (p:=⟨r,0,none⟩) (.inl rfl) _).setCell (p:=⟨r,1,none⟩) (.inl rfl) _).setCell (p:=⟨r,2,none⟩) (.inl rfl) _).setCell (p:=⟨r,1,none⟩) (.inl rfl) _).setCell (p:=⟨r,2,none⟩) (.inl rfl) _
theorem Me{c:World}{r:Nat}(a b:Value):aj (fun x=>x=r) c ((c.setCell ⟨r,1,none⟩ a).setCell ⟨r,2,none⟩ b) :=
 ((aj.refl (fun x=>x=r) c).setCell (p:=⟨r,1,none⟩) (.inl rfl) _).setCell (p:=⟨r,2,none⟩) (.inl rfl) _
theorem Rt(w:World)(b:iT):∀j d,([Value.int .i64 b.af,II b.az,II b.num]:List Value)[j]?=some d->(w.alloc (.cells #[II b.af,II b.az,II b.num] 93)).cell? (Addr.add ⟨w.heap.size,0,none⟩ j)=some d:=by
 intro j d a;have c:=au.new w #[II b.af,II b.az,II b.num] 93
 match j,a with
 | 0,a=>rw[<-a];exact c.cell 0
 | 1,a=>rw[<-a];exact c.cell 1
 | 2,a=>rw[<-a];exact c.cell 2
 | j+3,a=>simp at a
theorem Bi.Us{w a c:World}{n d:Nat}{S:RS}{m:SM}{ov:Value}{out:List iT}{b:iT}{o:Obj}(h:Bi w w.heap.size n d S m ov out b a)(f:(a.alloc o).grownBy c ov.ownBlock):aj (fun x=>ov.ownBlock=some x) a c :=
 ((aj.refl (fun x=>ov.ownBlock=some x) a).alloc o).grown f (fun k e=>.inl e)
theorem Bi.grown{w f d:World}{n i:Nat}{S:RS}{m:SM}{ov:Value}{out:List iT}{b:iT}{o:Obj}(h:Bi w w.heap.size n i S m ov out b f)(l:(f.alloc o).grownBy d ov.ownBlock):dF d w.heap.size w.heap.size S m:=by
 have k:=h.Us l;have nb:∀x,SF w.heap.size m x->¬ov.ownBlock=some x:=fun x p e=>by
  obtain⟨cs,j⟩:=aF h.row e;exact h.st.ne j (by decide) p
 have c:∀{e size n:Nat} {v:Value} {g:List Value},f.ownsRow w.heap.size e size v n g->(∀b,v.ownBlock=some b->SF w.heap.size m b)->d.ownsRow w.heap.size e size v n g:=fun r hs=>aB r k (fun b a=>nb b (hs b a))
 exact⟨h.st.ge,k.ay h.st.ay (nb _ (.inl rfl)),c h.st.mZ (fun b a=>.inr (.inl a)),c h.st.dV (fun b a=>jL a),c h.st.dJ (fun b a=>iQ a),c h.st.lZ (fun b a=>xA a)⟩
theorem Bi.QA{w c a:World}{n d:Nat}{S:RS}{m:SM}{ov:Value}{out:List iT}{b:iT}{o:Obj}(h:Bi w w.heap.size n d S m ov out b c)(e:(c.alloc o).grownBy a ov.ownBlock):aj aA w a :=
 h.jW.from ((h.Us e).mono (fun x f=>.inr (h.row.lt x f).1))
theorem UI:(Tryz.prog.info? 169).map (fun i=>(i.zero.map (fun a=>a.cells.size),i.size,i.bytes))=some (some 13,13,120):=by kernel_rfl
theorem BM:∃i a,Tryz.prog.info? 169=some i/\i.zero=some a/\i.size=13/\i.bytes=120/\a.cells.size=13:=by
 have h:=UI;cases hi:Tryz.prog.info? 169 with
 | none=>rw[hi]at h;simp at h
 | some i =>
   rw[hi]at h;simp at h;obtain⟨⟨a,d,hs⟩,b,c⟩:=h;exact⟨i,a,rfl,d,b,c,hs⟩
theorem V9(tmps:Array Value)(H:Nat)(w:World)(a b c f e d:Int)(g:tmps.getD 4 undef=PP H)(i:tmps.getD 5 undef=II d)(m:au w H #[II a,II b,II c,II f,II e] 87) :
 (results Tryz.f99 tmps).run Tryz.prog w=.ok (.tuple #[dm a b c f e,II d]) w:=by
 obtain⟨c0,c1,j,k,l⟩:=m.c5;simp only[Array.getD_eq_getD_getElem?]at g i;simp[results,Tryz.results99,go_sem,g,i,c0,c1,j,k,l,dm]
theorem RV.PS{d w2:World}{base c n H g cap:Nat}{A:List bD}{R:List Rc}{m:ByteArray}{av l:Value}{x:bD}(h:RV d base c A R m av l)(s:A.length=n)(hown:w2.ownsRow base 169 13 (.slice (some ⟨g,0,none⟩) (n+1) cap) (n+1) (uV A++xG x))(o:d.grownBy w2 av.ownBlock)(r:av.ownBlock=some g\/g=H)(hH:d.heap.size=H) :
 wC base c (A++[x]) R m av l d (w2.setCell ⟨c,0,none⟩ (.slice (some ⟨g,0,none⟩) (n+1) cap)):=by
 have u:av.ownBlock≠some c:=fun e=>by obtain⟨cs,i⟩:=aF h.sQ e;exact au.ne i h.ay (by decide) rfl
 have f:au w2 c _ 129:=(o.block c h.ay.lt (fun e=>u e.symm)).trans h.ay;have q:aj (fun b=>av.ownBlock=some b) d w2:=(aj.refl _ d).grown o (fun k e=>.inl e);have j:aj (fun b=>b=c) w2 (w2.setCell ⟨c,0,none⟩ (.slice (some ⟨g,0,none⟩) (n+1) cap)):=(aj.refl (fun b=>b=c) w2).setCell (p:=⟨c,0,none⟩) (.inl rfl) _;refine⟨.slice (some ⟨g,0,none⟩) (n+1) cap,l,⟨h.ge,f.set 0 _,?_,?_⟩,?_,?_⟩
 ·simp only[List.length_append,List.length_cons,List.length_nil,s,uV,xO];exact bK (t:=0) hown j (fun b a=>by subst a;exact⟨_,_,f,by decide⟩)
 ·have v:=bK (t:=0) h.ug q (fun b a=>by obtain⟨cs,i⟩:=aF h.sQ a;exact⟨cs,_,i,by decide⟩);exact bK (t:=0) v j (fun b a=>by subst a;exact⟨_,_,f,by decide⟩)
 ·rintro b (rfl | a | a)
  ·exact .inl (.inl rfl)
  ·simp only[Value.ownBlock,Option.some.injEq]at a;rcases r with e | e
   ·exact .inl (.inr (.inl (by rw[e,a])))
   ·right;omega
  ·exact .inl (.inr (.inr a))
 ·exact (q.mono (fun b a=>.inr (.inl a))).trans (j.mono (fun b a=>.inl a))
theorem RV.aaD{w:World}{base c:Nat}{A:List bD}{R:List Rc}{e:ByteArray}{av d:Value}(h:RV w base c A R e av d)(L':ByteArray):wC base c A R L' av d w (w.setCell ⟨c,2,none⟩ (.string L')):=by
 have k:aj (fun b=>b=c) w (w.setCell ⟨c,2,none⟩ (.string L')):=(aj.refl (fun b=>b=c) w).setCell (p:=⟨c,2,none⟩) (.inl rfl) _;exact⟨av,d,⟨h.ge,h.ay.set 2 _,bK (t:=0) h.sQ k (fun b a=>by subst a;exact⟨_,_,h.ay,by decide⟩),bK (t:=0) h.ug k (fun b a=>by subst a;exact⟨_,_,h.ay,by decide⟩)⟩,fun b a=>.inl a,k.mono (fun b a=>.inl a)⟩
theorem aaG(w:World)(x:bD):∀j d,(xG x)[j]?=some d->(w.alloc (.cells #[.int .u8 x.kind,.string x.s,II x.o.id,II x.o.aG,.string x.o.sym,II x.o.side,II x.o.kind,II x.o.af,II x.o.az,II x.a,II x.b,II x.c,.bool x.again] 169)).cell? (Addr.add ⟨w.heap.size,0,none⟩ j)=some d:=by
 intro j d g;have f:=au.new w #[.int .u8 x.kind,.string x.s,II x.o.id,II x.o.aG,.string x.o.sym,II x.o.side,II x.o.kind,II x.o.af,II x.o.az,II x.a,II x.b,II x.c,.bool x.again] 169;have e:Addr.add ⟨w.heap.size,0,none⟩ j=⟨w.heap.size,j,none⟩:=by simp[Addr.add];omega
 rw[e,f.cell,<-g];simp[xG]
structure Dn(w:World)(base rb:Nat)(A:List bD)(R:List Rc)(L:ByteArray)(av rv:Value)(S':RS)(m:SM)(act:Array Value)(w3:World):Prop where
 rv:RV w3 base rb A R L av rv
 st:dF w3 (w.heap.size+2) (w.heap.size+2) S' m
 act:au w3 w.heap.size act 169
 z:au w3 (w.heap.size+1) bC 87
 k:aj aA w w3
theorem Dn.of{w w2 d:World}{base g:Nat}{A:List bD}{R:List Rc}{e:ByteArray}{av i:Value}{S S':RS}{m:SM}{a:Array Value}(h:RV w base g A R e av i)(n:aj aA ((w.alloc (.cells a 169)).alloc (.cells bC 87)) w2)(st:dF w2 (w.heap.size+2) (w.heap.size+2) S m)(l:iZ (w.heap.size+2) (w.heap.size+2) S' m w2 d):∃m',Dn w base g A R e av i S' m' a d:=by
 obtain⟨m',p,q,o⟩:=l;have j:((w.alloc (.cells a 169)).alloc (.cells bC 87)).heap.size=w.heap.size+2:=by simp
 have c:aj aA ((w.alloc (.cells a 169)).alloc (.cells bC 87)) d:=n.from (o.mono (fun b k=>.inr (by rw[j];exact (st.lt k).1)));have f:aj aA w ((w.alloc (.cells a 169)).alloc (.cells bC 87)):=((aj.refl aA w).alloc _).alloc _;exact⟨m',h.ax (f.trans c),p,c.ay ((au.new w a 169).alloc _) idd,c.ay (au.qm w _ _ _) idd,f.trans c⟩
theorem Ve(base r:Nat)(A:List bD)(R:List Rc)(D:ByteArray)(av N:Value)(S S':RS)(x:bD)(q t u v y f:Int)(w:World)(h:RV w base r A R D av N)(H:oN A S)(V:A.length<=1000000000)(G:jP S x S' (dm q t u v y) f)(U:f≠0) :
 CT 99 #[PP r,x.val] w fun e w'=>e=.returned (.tuple #[dm q t u v y,II f])/\aj aA w w':=by
 have e0:(f == 0)=false:=by simpa using U
 obtain⟨K,s,⟨id,M,sym,side,L,af,az⟩,a,b,c,again⟩:=x;obtain⟨i,g⟩:=gy (((w.alloc (.cells #[.int .u8 K,.string s,II id,II M,.string sym,II side,II L,II af,II az,II a,II b,II c,.bool again] 169)).alloc (.cells bC 87)));have p:aj aA w i:=by rw[g];exact ((aj.refl aA w).alloc _).alloc _
 have J:i.heap.size=w.heap.size+2:=by rw[g];simp
 have E:au i w.heap.size #[.int .u8 K,.string s,II id,II M,.string sym,II side,II L,II af,II az,II a,II b,II c,.bool again] 169:=by rw[g];exact (au.new w _ _).alloc _
 have n:=ai (iH base r A R D av N S i (h.ax p) H V);rw[J]at n;obtain⟨B,O,Eb,o,Q⟩:=mi G E p g h;simp only[bD.val,bD.cells,bC]at o ⊢;clear G H h p J E g;go_enter Tryz.func99,Tryz.ntmps99;go_wp2_with fail;rw[<-ae o];refine (ae n).mono ?_;rintro e w2 ⟨rfl,⟨m,st⟩,j⟩;have F:=j.ay (ae O) idd;obtain⟨W,X,x2,x3,x4,x5,x6,x7,x8,x9,Y,Z,x12⟩:=F.JK;have l:=ai (ae B _ _ m w2 st);rw[ae o]at j;obtain⟨P,T⟩:=aZ j st;simp only[bD.val,bD.cells,dm]at l;clear B st j F;go_wp2_with fail;refine (ae l).mono ?_;rintro e w3 ⟨rfl,I⟩;obtain⟨m3,d⟩:=Dn.of (ae Q) (ae P) (ae T) I;obtain⟨z0,z1,z2,z3,z4⟩:=d.z.c5;have fz0:=d.z.frozen 0;have Qw:=d.z.frozen 1;have Qx:=d.z.frozen 2;have fz3:=d.z.frozen 3;have Qy:=d.z.frozen 4;have lz:=d.z.lt;have C:=ai d;clear I d W X x2 x3 x4 x5 x6 x7 x8 x9 Y Z x12 l n;go_wp2;refine bodyPost_ret (V9 _ (w.heap.size+1) _ q t u v y f rfl rfl ?_) rfl ⟨rfl,?_⟩
 ·exact (uh (ae C).z _ _ _ _ _).alloc _
 ·exact ((ae C).k.from ((qE _ _ _ _ _).mono (fun b hb=>.inr (by omega)))).alloc _
def RS.uy(S:RS)(k:Nat)(x:Tg)(b:Int):RS:=(S.OT k ⟨{ x.t with af:=b },x.holds⟩).Jg 3 { x.t with af:=b }
theorem AP(base d k:Nat)(S:RS)(m:SM)(x:bD)(t:Tg)(w:World)(h:dF w base d S m)(R:S.t.length<=1000000000)(hto:S.told.length<1000000000)(W:x.kind=107)(B:x.a-1=(k:Int))(o:S.t[k]?=some t)(U:kZ t S.day=0)(u:cZ x.b=true) :
 CT 171 #[PP d,x.val] w fun e w'=>e=.returned (II 0)/\iZ base d (S.uy k t x.b) m w w':=by
 have HH:Hid (∀f,aj aA w f->CT 204 #[PP d,II x.a] f fun e w'=>e=.returned (II 0)/\aj aA f w'):=fun f kW=>by
  have:=nK base d k S m x.a t f (h.ax kW) R B o;rw[U]at this;exact this
 have H:Hid (∀f,CT 198 #[II x.b] f fun e w'=>e=.returned (.bool true)/\w'=f):=fun f=>by
  have:=lQ x.b f;rw[u]at this;exact this
 obtain⟨ta,tc,p⟩:=aJ h.dJ;obtain⟨g,rfl,_,lg,Q,i,v⟩:=h.Vg p o;have hkl:=(List.getElem?_eq_some_iff.1 o).1;obtain⟨HS,I,K⟩:=fK h o p;obtain⟨N,P⟩:=dQ S.t.length;rw[P]at p hkl R;have hgb:w.heap.size≠g:=by omega
 have hgs:d≠g:=fun e=>by obtain⟨cs,hcs⟩:=Q;exact au.ne h.ay hcs (by decide) e
 obtain⟨kind,s,⟨id,Y,sym,side,X,af,az⟩,a,b,c,again⟩:=x;simp only at W B;subst W;simp only[bD.val,bD.cells]at HH H ⊢;obtain rfl:a=(k:Int)+1:=by omega
 obtain⟨A,r⟩:=gy (w.alloc (.cells #[.int .u8 107,.string s,II id,II Y,.string sym,II side,II X,II af,II az,II ((k:Int)+1),II b,II c,.bool again] 169));have C:aj aA w A:=by rw[r];exact (aj.refl aA w).alloc _
 have M:au A w.heap.size #[.int .u8 107,.string s,II id,II Y,.string sym,II side,II X,II af,II az,II ((k:Int)+1),II b,II c,.bool again] 169:=by rw[r];exact au.new _ _ _
 obtain⟨F,E,G,L,HHV⟩:=mi (ae HH A C) M C r p;clear h i v o U u HH B p P M C r Q;go_enter Tryz.func171,Tryz.ntmps171;go_wp2_with fail;rw[<-ae L];refine (ae F).mono ?_;rintro e w2 ⟨rfl,D⟩;have y:=(ae G).trans D;have n:=(ae HS).ax y;have v2:w2.cell? ⟨d,2,none⟩=some (.slice (some ⟨g,0,none⟩) N tc):=by rw[<-ae HHV];exact n.ay.cell 2
 have l:=D.ay (ae E) idd;have x0:CC w2 w.heap.size 0 (.int .u8 107):=l.cell 0;have x9:CC w2 w.heap.size 9 (II ((k:Int)+1)):=l.cell 9;have x10:CC w2 w.heap.size 10 (II b):=l.cell 10;have lb:=l.lt;have VV:=n.ay.lt;obtain⟨g',O,_,YE,_,i,v⟩:=n.Vg (ae K) (ae I);obtain rfl:g=g':=by simpa using O
 have c0:CC w2 g (k * 8) (II t.t.num):=i 0 _ rfl;have c1:CC w2 g (k * 8+1) (.string t.t.sym):=i 1 _ rfl;have c2:CC w2 g (k * 8+2) (II t.t.af):=i 2 _ rfl;have c3:CC w2 g (k * 8+3) (II t.t.az):=i 3 _ rfl;have c4:CC w2 g (k * 8+4) (II t.t.lF):=i 4 _ rfl;have c5:CC w2 g (k * 8+5) (II t.t.dZ):=i 5 _ rfl;have c6:CC w2 g (k * 8+6) (II t.t.day):=i 6 _ rfl;have f2:=v (k * 8+2);have J:Hid (∀q,CT 205 #[PP d,II 3,.agg #[II t.t.num,.string t.t.sym,II b,II t.t.az,II t.t.lF,II t.t.dZ,II t.t.day]] ((w2.drewN q).setCell ⟨g,k * 8+2,none⟩ (II b)) fun e w'=>e=.returned (.tuple #[])/\iZ base d (S.uy k t b) m w w'):=fun q=>by
  obtain⟨p3,Z⟩:=(n.ax ((aj.refl aA w2).drewN q)).Wi (ae K) (ae I) (j:=2) (by omega) (II b) ⟨{ t.t with af:=b },t.holds⟩ rfl;have hlt:(S.OT k ⟨{ t.t with af:=b },t.holds⟩).told.length<1000000000:=hto;refine (xe base d _ m 3 { t.t with af:=b } _ p3 hlt).mono ?_;rintro e w' ⟨rfl,ho⟩;obtain⟨m',a1,a2,a3⟩:=ho.stN;exact⟨rfl,m',a1,fun b u=>(a2 b u).imp_right (fun z=>Nat.le_trans (Nat.le_trans y.size Z.size) z),y.aP.trans (((aj.refl (SF d m) w2).drewN q).trans (Z.trans a3))⟩
 clear y D l F E G L n i v O;go_wp2;go_quiet (fail);go_wp2_with fail;refine (ae H _).mono ?_;rintro e w3 ⟨rfl,V⟩;rw[V];clear V w3;go_wp2_with fail;refine (ae J _).mono ?_;rintro e w4 ⟨rfl,T⟩;have HF:=ai T;clear T J;go_wp2;go_ret;exact⟨rfl,ae HF⟩
end Go.Proofs.YtigaphnafnpfnaaGreatDoor
