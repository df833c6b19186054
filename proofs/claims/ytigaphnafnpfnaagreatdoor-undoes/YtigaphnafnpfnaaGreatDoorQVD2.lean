import Derived.Test.YtigaphnafnpfnaaGreatDoorQVV29
import Derived.Test.YtigaphnafnpfnaaGreatDoorQVV15
set_option linter.unusedVariables false
set_option linter.unusedSimpArgs false
set_option maxHeartbeats 8000000
set_option maxRecDepth 100000
namespace Go.Proofs.YtigaphnafnpfnaaGreatDoor
open Go.RowKit Go.Maps Go.Shelf
open Classical in
noncomputable def Gs(V:aS)(x:Nat):Nat:=if h:∃i,i<V.nb/\(V.om x).sym=(V.B i).sym then V.bk h.choose else 0
theorem zK{V:aS}{M:Int}(g:GW V M){i x:Nat}(a:i<V.nb)(b:(V.om x).sym=(V.B i).sym):Gs V x=V.bk i:=by
 have h:∃i,i<V.nb/\(V.om x).sym=(V.B i).sym:=⟨i,a,b⟩;unfold Gs;rw[dif_pos h];obtain⟨c,d⟩:=h.choose_spec;rw[g.mW _ i c a (d.symm.trans b)]
theorem uw{V:aS}{M:Int}(g:GW V M){i y l:Nat}(a:i<V.nb)(c:y<2)(b:l<(V.B i).n y):Gs V ((V.B i).h y l)=V.bk i :=
 zK g a (((g.gb i a).mem y c _).1 ⟨l,b,rfl⟩).2.1
section
variable {w w' : World} {bv bm bo : Nat} {V : aS} {M : Int} {l : List Nat} {bk : Nat -> Nat} {bG : Lm} {cl : List Value} {q : Bool}
theorem Bc{b:aS}{n:List (List Value)}{nt:List dU}{dP:List Nat}{m:Lm}(R:dL w bv bm bo V)(g:iy w' bv bk w.heap.size q n nt dP m cl)(r:b.nb=V.nb)(k:∀j,j<V.nb->∀y,y<2->(b.B j).sl y=(V.B j).sl y):zH b cl:=fun j p y f a d c i x l e=>by
 subst e;have o:=(g.cap i l).1;rw[k j (by omega) y f]at d;have:=((R.aW j (by omega)).side y f).lt d;omega
theorem Qi{s:ByteArray}{b:Nat}(R:dL w bv bm bo V)(n:∀x,VL V x->x∈l)(o:l.length<1000)(p:V.lg.tr.length<1000000000)(hs:s.size<=maxLen)(i:dL w' bv bm bo (V.bU s b bG))(f:iy w' bv bk w.heap.size q (V.lm.ac.map Prod.snd) [.bU s] V.lm.tb bG cl):Bz bv bm bo V (V.bU s b bG) [] w.heap.size w':=by
 refine Bz.of (ds:=[.bU s]) (Ts:=[[]]) i f (fun j v y t a d c m x r e=>?_) rfl (Tv ⟨n,p⟩ hs ⟨rfl,fun _ _=>rfl,fun _ _=>rfl,fun _ _=>rfl,fun _ _ _ _ _=>Iff.rfl,rfl,rfl,fun _ _=>rfl,rfl,rfl,f.tb⟩) o (by simp) (by simp) rfl;subst e;have u:=(f.cap m r).1;by_cases e:j<V.nb
 ·have g:(V.bU s b bG).B j=V.B j:=ag _ _ (by omega);rw[g]at d;have:=((R.aW j e).side y t).lt d;omega
 ·have k:j=V.nb:=by have:(V.bU s b bG).nb=V.nb+1:=rfl;omega
  subst k;have g:(V.bU s b bG).B V.nb=mD s:=ah _ _ _;rw[g]at d;exact wS s y x (.inl d)
theorem JO{i s k:Nat}(R:dL w bv bm bo V)(g:GW V M)(f:∀x,VL V x->x∈l)(m:l.length<1000)(o:V.lg.tr.length<1000000000)(b:i<V.nb)(hs:s<2)(c:k<(V.B i).n s)(e:bk ((V.B i).h s k)=V.bk i)
 (d:dL w' bv bm bo (V.lS i ((V.B i).leave V.om s k) (aK V.om ((V.B i).h s k) (fZ (V.om ((V.B i).h s k)))) (V.lg.begun.aY [.left ((V.B i).h s k),.fV ((V.B i).h s k) (V.om ((V.B i).h s k))]) bG))
 (a:iy w' bv bk w.heap.size q (V.lm.ac.map Prod.snd) (V.lg.begun.aY [.left ((V.B i).h s k),.fV ((V.B i).h s k) (V.om ((V.B i).h s k))]).nt V.lm.tb bG cl) :
 Bz bv bm bo V (V.lS i ((V.B i).leave V.om s k) (aK V.om ((V.B i).h s k) (fZ (V.om ((V.B i).h s k)))) (V.lg.begun.aY [.left ((V.B i).h s k),.fV ((V.B i).h s k) (V.om ((V.B i).h s k))]) bG) [] w.heap.size w':=by
 have p:=(((g.gb i b).mem s hs _).1 ⟨k,c,rfl⟩).1;exact Bz.of (ds:=[.left ((V.B i).h s k),.fV ((V.B i).h s k) (V.om ((V.B i).h s k))]) (Ts:=[[],[]]) d a (Bc R a rfl (fun j r y t=>xm (V:=V) (i:=i) (B':=(V.B i).leave V.om s k) (fun B=>B.sl y) rfl j)) rfl
  (LQ g ⟨f,o⟩ b hs c e p ⟨rfl,fun _ _=>rfl,fun _ _=>rfl,fun _ _=>rfl,fun _ _ _ _ _=>Iff.rfl,rfl,rfl,fun _ _=>rfl,rfl,rfl,a.tb⟩) m (by simp) (by simp) rfl
theorem Qh{b i:Nat}{af az:Int}(R:dL w bv bm bo V)(f:∀x,VL V x->x∈l)(g:l.length<1000)(m:V.lg.tr.length<1000000000)(e:VL V b)(k:af=(V.om b).af)
 (d:dL w' bv bm bo (V.lS i (V.B i) (aK V.om b (dR (V.om b) af az)) (V.lg.begun.aY [.fV b (V.om b)]) bG))
 (c:iy w' bv bk w.heap.size q (V.lm.ac.map Prod.snd) (V.lg.begun.aY [.fV b (V.om b)]).nt V.lm.tb bG cl) :
 Bz bv bm bo V (V.lS i (V.B i) (aK V.om b (dR (V.om b) af az)) (V.lg.begun.aY [.fV b (V.om b)]) bG) [] w.heap.size w':=by
 have a:aK V.B i (V.B i)=V.B:=Jm _ _;exact Bz.of (ds:=[.fV b (V.om b)]) (Ts:=[[]]) d c (Bc R c rfl (fun j o y p=>by show (aK V.B i (V.B i) j).sl y=_;rw[a])) rfl
  (Tu ⟨f,m⟩ e k ⟨rfl,fun _ _=>rfl,fun j _=>by show (aK V.B i (V.B i) j).sym=_;rw[a],fun j _=>by show (aK V.B i (V.B i) j).places=_;rw[a],fun j _ y _ x=>by show Mem ((aK V.B i (V.B i) j).n y) ((aK V.B i (V.B i) j).h y) x↔_;rw[a],rfl,rfl,fun _ _=>rfl,rfl,rfl,c.tb⟩) g (by simp) (by simp) rfl
theorem GR{k tb:Nat}{x:Tg}{af:Int}(R:dL w bv bm bo V)(c:∀x,VL V x->x∈l)(d:l.length<1000)(f:V.lg.tr.length<1000000000)(g:V.lg.tr[k]?=some x)(e:V.lm.tb[k]?=some tb)
 (b:dL w' bv bm bo { V with lg:=V.lg.rJ k tb x af,lm:=bG }) (a:iy w' bv bk w.heap.size q (V.lm.ac.map Prod.snd) (V.lg.rJ k tb x af).nt V.lm.tb bG cl):Bz bv bm bo V { V with lg:=V.lg.rJ k tb x af,lm:=bG } [(3,x.t)] w.heap.size w' :=
 Bz.of (ds:=[.iV tb x.t.af]) (Ts:=[[(3,x.t)]]) b a (Bc R a rfl (fun j i y m=>rfl)) rfl (Jk ⟨c,f⟩ g e ⟨rfl,fun _ _=>rfl,fun _ _=>rfl,fun _ _=>rfl,fun _ _ _ _ _=>Iff.rfl,rfl,rfl,fun _ _=>rfl,rfl,rfl,a.tb⟩) d (by simp) (by simp) rfl
theorem Nl{d:aS}{A:List (List Value)}{nt:List dU}{dP:List Nat}{m:Lm}{i t oc g cap':Nat}{st:MS}(R:dL w bv bm bo V)(D:i<V.nb)(r:iy w' bv bk w.heap.size q A nt dP m cl)(F:d.nb=V.nb)(s:∀j,d.B j=aK V.B i (dX oc t g cap' st) j)(o:st.B.sl=(V.B i).sl)(u:df (st.om oc)=true->∀c∈cl,∀x,xw c x->x≠g):zH d cl:=fun j E y z a b c n x p e=>by
 subst e;have C:=(r.cap n p).1;have v:j<V.nb:=by omega
 rw[s j]at b;have k:ig ((V.B j).sl y)=some x->False:=fun b=>by
  have:=((R.aW j v).side y z).lt b;omega
 by_cases e:j=i
 ·subst e;rw[ah]at b;unfold dX at b;by_cases f:df (st.om oc)=true
  ·rw[if_pos f]at b;by_cases l:y=t
   ·subst l;simp only[Bk.rest,ah,ig,Option.some.injEq]at b;exact u f c n x p b.symm
   ·simp only[Bk.rest,ag _ _ l,o]at b;exact k b
  ·rw[if_neg f,o]at b;exact k b
 ·rw[ag _ _ e]at b;exact k b
end
def TN(n0:Nat)(G:Lg):Prop:=n0<=G.tp.length/\mg G.nt=(G.tp.drop n0).map (fun r=>(2,r.t))/\∀r∈G.tp.drop n0,r.kind=1
theorem TN.aY{a:Nat}{G:Lg}(h:TN a G){ds:List dU}(b:mg ds=[]):TN a (G.aY ds) :=
 ⟨h.1,by show mg (G.nt++ds)=_;rw[kH,b,List.append_nil];exact h.2.1,h.2.2⟩
theorem TN.bF{a oc s:Nat}{st:MS}(h:TN a st.lg):TN a (Go.Proofs.YtigaphnafnpfnaaGreatDoor.bF oc s st).lg:=by
 unfold Go.Proofs.YtigaphnafnpfnaaGreatDoor.bF;split
 ·exact h.aY rfl
 ·have c:TN a (dD st.lg st.om oc (st.B.h s 0)):=by
   unfold dD;split
   ·exact (h.aY rfl).aY rfl
   ·exact h.aY rfl
  generalize dD st.lg st.om oc (st.B.h s 0)=G at c;generalize jg st.B st.om oc (st.B.h s 0)=t;have e:(G.tp++[(⟨(G.tp.length:Int)+1,1,G.jo t⟩:Rc)]).drop a=G.tp.drop a++[⟨(G.tp.length:Int)+1,1,G.jo t⟩]:=List.drop_append_of_le_length c.1;refine⟨?_,?_,fun r d=>?_⟩
  ·show a<=(G.tp++[_]).length;rw[List.length_append];have:=c.1;omega
  ·show mg (G.nt++[.jh (G.jo t)])=((G.tp++[(⟨(G.tp.length:Int)+1,1,G.jo t⟩:Rc)]).drop a).map _;rw[e,kH,c.2.1,List.map_append];rfl
  ·have b:r∈(G.tp++[(⟨(G.tp.length:Int)+1,1,G.jo t⟩:Rc)]).drop a:=d;rw[e]at b;rcases List.mem_append.1 b with b | b
   ·exact c.2.2 r b
   ·rw[List.mem_singleton.1 b]
theorem TN.match{b oc s:Nat}:∀(a:Nat) (st:MS),TN b st.lg->TN b (bu oc s a st).lg
 | 0,st,h=>h
 | a+1,st,h=>by
   rw[bu];split
   ·exact h
   ·exact TN.match a _ h.bF
theorem TN.ZL{a oc s:Nat}{st:MS}(h:TN a st.lg):TN a (iO oc (mF oc s st)):=by
 have:=TN.match (oc:=oc) (s:=s) (mu oc s st) st h;exact TN.aY this (by split <;> rfl)
section
variable {w w' : World} {bv bm bo : Nat} {V : aS} {M : Int} {l : List Nat} {bk : Nat -> Nat} {bG : Lm} {cl : List Value}
theorem GL{st:MS}{oc s:Nat}{ext:List Nat}{G:Lg}(R:dL w bv bm bo V)(a:bG.tb.length=(iO oc (mF oc s st)).tr.length)(b:bG.tb=V.lm.tb++ext):ext.length+V.lg.tr.length=(mF oc s st).lg.tr.length:=by
 have c:=R.aO.aO.len;rw[b,List.length_append]at a;rw[<-wH oc (mF oc s st)];omega
theorem Qg{i s t a g cap' b:Nat}{af az:Int}{ext:List Nat}(R:dL w bv bm bo V)(gw:GW V M)(P:∀x,VL V x->x∈l)(S:l.length<1000)(y:i<V.nb)(E:s<2)(U:t<2)(A:s≠t)(N:a<(V.B i).n t)(O:(V.B i).h t a=b)(hn:(V.B i).n s<=1000)
 (Y:su b s ⟨(V.B i).leave V.om t a,aK V.om b (dR (V.om b) af az),V.lg.dE b (V.om b)⟩)
 (W:(mF b s ⟨(V.B i).leave V.om t a,aK V.om b (dR (V.om b) af az),V.lg.dE b (V.om b)⟩).lg.tr.length+1<1000000000)
 (I:∀f,f<2->∀k,k<(V.B i).n f->bk ((V.B i).h f k)=V.bk i) (h0:0<=(V.B i).places) (D:(V.B i).places<=1000000000000)
 (p:dL w' bv bm bo (V.lS i (dX b t g cap' (mF b s ⟨(V.B i).leave V.om t a,aK V.om b (dR (V.om b) af az),V.lg.dE b (V.om b)⟩)) (aI b (mF b s ⟨(V.B i).leave V.om t a,aK V.om b (dR (V.om b) af az),V.lg.dE b (V.om b)⟩)) (iO b (mF b s ⟨(V.B i).leave V.om t a,aK V.om b (dR (V.om b) af az),V.lg.dE b (V.om b)⟩)) bG))
 (q:iy w' bv bk w.heap.size false (V.lm.ac.map Prod.snd) (iO b (mF b s ⟨(V.B i).leave V.om t a,aK V.om b (dR (V.om b) af az),V.lg.dE b (V.om b)⟩)).nt (V.lm.tb++ext) bG cl)
 (L:df ((mF b s ⟨(V.B i).leave V.om t a,aK V.om b (dR (V.om b) af az),V.lg.dE b (V.om b)⟩).om b)=true->∀c∈cl,∀x,xw c x->x≠g) :
 ∀d,d=V.lS i (dX b t g cap' (mF b s ⟨(V.B i).leave V.om t a,aK V.om b (dR (V.om b) af az),V.lg.dE b (V.om b)⟩)) (aI b (mF b s ⟨(V.B i).leave V.om t a,aK V.om b (dR (V.om b) af az),V.lg.dE b (V.om b)⟩)) (iO b (mF b s ⟨(V.B i).leave V.om t a,aK V.om b (dR (V.om b) af az),V.lg.dE b (V.om b)⟩)) bG->Bz bv bm bo V d (mg d.lg.nt) w.heap.size w'/\TN V.lg.tp.length d.lg:=by
 subst O;intro d e;have X:=GL (G:=V.lg) R p.aO.aO.len q.tb;have K:=jB ((V.B i).h t a) s (mu ((V.B i).h t a) s ⟨(V.B i).leave V.om t a,aK V.om ((V.B i).h t a) (dR (V.om ((V.B i).h t a)) af az),V.lg.dE ((V.B i).h t a) (V.om ((V.B i).h t a))⟩) ⟨(V.B i).leave V.om t a,aK V.om ((V.B i).h t a) (dR (V.om ((V.B i).h t a)) af az),V.lg.dE ((V.B i).h t a) (V.om ((V.B i).h t a))⟩;have Q:=(qM ((V.B i).h t a) s (mu ((V.B i).h t a) s ⟨(V.B i).leave V.om t a,aK V.om ((V.B i).h t a) (dR (V.om ((V.B i).h t a)) af az),V.lg.dE ((V.B i).h t a) (V.om ((V.B i).h t a))⟩) ⟨(V.B i).leave V.om t a,aK V.om ((V.B i).h t a) (dR (V.om ((V.B i).h t a)) af az),V.lg.dE ((V.B i).h t a) (V.om ((V.B i).h t a))⟩).2;have hmu:mu ((V.B i).h t a) s ⟨(V.B i).leave V.om t a,aK V.om ((V.B i).h t a) (dR (V.om ((V.B i).h t a)) af az),V.lg.dE ((V.B i).h t a) (V.om ((V.B i).h t a))⟩<=1001:=by
  unfold mu;have:((V.B i).leave V.om t a).n s=(V.B i).n s:=by simp only[Bk.leave,ag _ _ A]
  rw[this];split <;> omega
 obtain⟨ds,Ts,C,f⟩:=Tt (bk:=bk) (V1:=d) (G:=V.lg.dE ((V.B i).h t a) (V.om ((V.B i).h t a))) (g:=g) (cap':=cap') gw y E U A N P rfl rfl Y W I X h0 D (by rw[e];exact⟨rfl,fun _ _=>rfl,fun _ _=>rfl,fun _ _=>rfl,fun _ _ _ _ _=>Iff.rfl,rfl,rfl,fun _ _=>rfl,rfl,rfl,q.tb⟩);have Z:TN V.lg.tp.length d.lg:=by
  rw[e];refine TN.ZL (st:=⟨(V.B i).leave V.om t a,aK V.om ((V.B i).h t a) (dR (V.om ((V.B i).h t a)) af az),V.lg.dE ((V.B i).h t a) (V.om ((V.B i).h t a))⟩) ⟨Nat.le_refl _,?_,?_⟩
  ·show []=(V.lg.tp.drop V.lg.tp.length).map _;rw[List.drop_length];rfl
  ·intro r T;have z:r∈V.lg.tp.drop V.lg.tp.length:=T;rw[List.drop_length]at z;simp at z
 have o:d.lg.nt=[.left ((V.B i).h t a),.fV ((V.B i).h t a) (V.om ((V.B i).h t a))]++ds:=by rw[e];exact C
 refine⟨?_,Z⟩;rw[<-e]at p;have u:iy w' bv bk w.heap.size false (V.lm.ac.map Prod.snd) d.lg.nt (V.lm.tb++ext) d.lm cl:=by rw[e];exact q
 have J:∀m∈[.left ((V.B i).h t a),.fV ((V.B i).h t a) (V.om ((V.B i).h t a))]++ds,m.sF=false:=fun m v=>by
  rw[<-o]at v;cases h:m.sF
  ·rfl
  ·exact absurd (u.sF m v h) Bool.false_ne_true
 refine Bz.of p u (Nl (oc:=(V.B i).h t a) (t:=t) (g:=g) (cap':=cap') (st:=mF ((V.B i).h t a) s ⟨(V.B i).leave V.om t a,aK V.om ((V.B i).h t a) (dR (V.om ((V.B i).h t a)) af az),V.lg.dE ((V.B i).h t a) (V.om ((V.B i).h t a))⟩) R y u (by rw[e];rfl) (fun j=>by rw[e];rfl) (by rw[mF,K.2.1];rfl) L) o f S (by simp) ?_ (by rw[o];exact f.jF J)
 ·rw[<-o];have F:d.lg.nt.length=(mF ((V.B i).h t a) s ⟨(V.B i).leave V.om t a,aK V.om ((V.B i).h t a) (dR (V.om ((V.B i).h t a)) af az),V.lg.dE ((V.B i).h t a) (V.om ((V.B i).h t a))⟩).lg.nt.length+1:=by
   rw[e];show ((mF _ _ _).lg.nt++[_]).length=_;rw[List.length_append];rfl
  have H:(V.lg.dE ((V.B i).h t a) (V.om ((V.B i).h t a))).nt.length=2:=rfl;simp only[H]at Q;unfold mF at F;omega
end
theorem TN.start{G:Lg}{ds:List dU}(h:mg ds=[]):TN G.tp.length (G.begun.aY ds):=by
 refine⟨Nat.le_refl _,?_,fun r b=>?_⟩
 ·show mg ([]++ds)=(G.tp.drop G.tp.length).map _;rw[List.drop_length,List.nil_append,h];rfl
 ·have a:r∈G.tp.drop G.tp.length:=b;rw[List.drop_length]at a;simp at a
section
variable {w w' : World} {bv bm bo : Nat} {V : aS} {M : Int} {l : List Nat} {bk : Nat -> Nat} {bG : Lm} {cl : List Value}
theorem NZ{i s t b g cap':Nat}{o:iR}{ext:List Nat}(R:dL w bv bm bo V)(gw:GW V M)(T:∀x,VL V x->x∈l)(U:b∈l)(X:l.length<1000)(q:i<V.nb)(v:s<2)(ht:t=1-s)(S:(Lit.int .i64 o.id).wf=true)(P:V.aV o.id=none)(hb:w.heap.size<=b)(hn:(V.B i).n s<=1000)
 (iv:su b s ⟨V.B i,aK V.om b (aQ o),V.lg.bf o.id⟩) (htr:(mF b s ⟨V.B i,aK V.om b (aQ o),V.lg.bf o.id⟩).lg.tr.length+1<1000000000)
 (K:∀k,k<(V.B i).n s->bk ((V.B i).h s k)=V.bk i) (L:bk b=V.bk i) (h0:0<=(V.B i).places) (H:(V.B i).places<=1000000000000)
 (C:dL w' bv bm bo (V.enter i b s t g cap' o bG)) (a:iy w' bv bk w.heap.size false (V.lm.ac.map Prod.snd) (V.enter i b s t g cap' o bG).lg.nt (V.lm.tb++ext) bG cl)
 (Q:df ((mF b s ⟨V.B i,aK V.om b (aQ o),V.lg.bf o.id⟩).om b)=true->∀c∈cl,∀x,xw c x->x≠g) :
 Bz bv bm bo V (V.enter i b s t g cap' o bG) (mg (V.enter i b s t g cap' o bG).lg.nt) w.heap.size w'/\TN V.lg.tp.length (V.enter i b s t g cap' o bG).lg:=by
 have E:¬VL V b:=fun ⟨id,A⟩=>by
  obtain⟨_,ix,Z⟩:=R.bg id b A;have:=Z.lt;omega
 have hout:Ee V b:=fun j d f z y=>E (((gw.gb j d).mem f z b).1 y).1
 have hxl:=GL (G:=V.lg) (V:=V) (w:=w) R C.aO.aO.len a.tb;have O:=jB b s (mu b s ⟨V.B i,aK V.om b (aQ o),V.lg.bf o.id⟩) ⟨V.B i,aK V.om b (aQ o),V.lg.bf o.id⟩;have W:=(qM b s (mu b s ⟨V.B i,aK V.om b (aQ o),V.lg.bf o.id⟩) ⟨V.B i,aK V.om b (aQ o),V.lg.bf o.id⟩).2;have hmu:mu b s ⟨V.B i,aK V.om b (aQ o),V.lg.bf o.id⟩<=1001:=by
  unfold mu;split <;> (simp only[];omega)
 have Y:∀x,VL (V.yL o.id b (aQ o)) x->x∈l:=fun x A=>by
  obtain⟨j,d⟩:=A;have r:(if j=o.id then some b else V.aV j)=some x:=d;by_cases e:j=o.id
  ·rw[if_pos e]at r;rw[<-Option.some.inj r];exact U
  ·rw[if_neg e]at r;exact T x ⟨j,r⟩
 obtain⟨ds,Ts,F,f⟩:=O4 (bk:=bk) (V:=V) (V1:=V.enter i b s t g cap' o bG) (G:=V.lg.bf o.id) (o:=aQ o) (g:=g) (cap':=cap') (t:=t) (ext:=ext) q v (by omega) S P E hout Y rfl rfl iv htr (fun k u=>⟨K k u,(((gw.gb i q).mem s v _).1 ⟨k,u,rfl⟩).1⟩) (fun k u j d f z y=>gw.one q d v z ⟨k,u,rfl⟩ y) hxl L h0 H ⟨rfl,fun _ _=>rfl,fun _ _=>rfl,fun _ _=>rfl,fun _ _ _ _ _=>Iff.rfl,rfl,rfl,fun _ _=>rfl,rfl,rfl,a.tb⟩;have p:(V.enter i b s t g cap' o bG).lg.nt=[.entered o.id]++ds:=F;have N:∀m∈[.entered o.id]++ds,m.sF=false:=fun m D=>by
  rw[<-p]at D;cases h:m.sF
  ·rfl
  ·exact absurd (a.sF m D h) Bool.false_ne_true
 refine⟨Bz.of C a (Nl (oc:=b) (t:=t) (g:=g) (cap':=cap') (st:=mF b s ⟨V.B i,aK V.om b (aQ o),V.lg.bf o.id⟩) R q a rfl (fun j=>rfl) (by rw[mF,O.2.1]) Q) p f X (by simp) ?_ (by rw[p];exact f.jF N),?_⟩
 ·rw[<-p];have I:(V.enter i b s t g cap' o bG).lg.nt.length=(mF b s ⟨V.B i,aK V.om b (aQ o),V.lg.bf o.id⟩).lg.nt.length+1:=by
   show ((mF _ _ _).lg.nt++[_]).length=_;rw[List.length_append];rfl
  have J:(V.lg.bf o.id).nt.length=1:=rfl;simp only[J]at W;unfold mF at I;omega
 ·exact TN.ZL (st:=⟨V.B i,aK V.om b (aQ o),V.lg.bf o.id⟩) (TN.start (G:=V.lg) (ds:=[.entered o.id]) rfl)
end
theorem Ny{bk:Nat->Nat}{M:Int}{l:List Nat}(D:M<=1000000000000000):∀(m:List Nat) (V:aS),GW V M->KK l V->(∀i x,i<V.nb->VL V x->(V.om x).sym=(V.B i).sym->bk x=V.bk i)->m.Nodup->(∀x∈m,VL V x/\0<(V.om x).aH) ->
 ∃f Ts,jS bk (KK l) (m.flatMap (fun x=>[.left x,.fV x (V.om x)])) Ts V f/\GW f M/\f.aV=V.aV/\f.no=V.no/\f.nb=V.nb/\f.bk=V.bk/\(∀j,(f.B j).sym=(V.B j).sym)/\(∀j,(f.B j).places=(V.B j).places)/\(∀x,f.om x=if x∈m then gG (V.om x) else V.om x)/\f.lg=V.lg/\f.lm=V.lm
 | [],V,g,hK,hbk,_,_=>⟨V,[],jS.nil V hK,g,rfl,rfl,rfl,rfl,fun _=>rfl,fun _=>rfl,fun _=>rfl,rfl,rfl⟩
 | b :: m,V,g,hK,hbk,hnd,hop=>by
   obtain⟨o,E⟩:=hop b (by simp);obtain⟨i,s,w⟩:=g.sym b o;obtain⟨t,y,F⟩:∃t:Nat,t<2/\(V.om b).side=(t:Int):=by
    rcases g.side b o with e | e
    ·exact⟨0,by omega,e⟩
    ·exact⟨1,by omega,e⟩
   obtain⟨k,P,L⟩:=((g.gb i s).mem t y b).2 ⟨o,w,F,E⟩;have a:=ZR (G':=V.lg) (bG:=V.lm) g D s y P L.symm;obtain⟨V1,r⟩:=gy (({ V.turn i ((V.B i).leave V.om t k) (aK V.om b (gG (V.om b))) with lg:=V.lg,lm:=V.lm }:aS));rw[<-r]at a;have u:V1.bk=V.bk:=by rw[r];rfl
   have q:V1.lg=V.lg:=by rw[r]
   have C:V1.lm=V.lm:=by rw[r]
   have vl:∀x,VL V1 x↔VL V x:=fun x=>by unfold VL;rw[a.aV]
   have R:jS bk (KK l) [.left b,.fV b (V.om b)] [[],[]] V V1:=Vk (o':=gG (V.om b)) g a.gw hK o s y w F E (hbk i b s o w) rfl rfl rfl a.nb (fun j _=>by rw[u]) (fun j _=>a.lV j) (fun j _=>a.PY j) a.aV a.no a.om (by rw[q]) (by rw[q]) (by rw[C]);have n:=List.nodup_cons.1 hnd;have FZ:∀x,x≠b->V1.om x=V.om x:=fun x d=>by rw[a.om];exact ag _ _ d
   have v:∀x∈m,x≠b:=fun x d e=>n.1 (e▸d)
   have G:KK l V1:=⟨fun x d=>hK.1 x ((vl x).1 d),by rw[q];exact hK.2⟩;have Q:∀x,(V1.om x).sym=(V.om x).sym:=fun x=>by
    by_cases e:x=b
    ·rw[e,a.om,ah];rfl
    ·rw[FZ x e]
   obtain⟨f,Ts,z,N,H,a2,a3,a4,a5,I,A,J,a9⟩:=Ny D m V1 a.gw G (fun j x O d hs=>by rw[u];exact hbk j x (by rw[<-a.nb];exact O) ((vl x).1 d) (by rw[<-Q x,<-a.lV j];exact hs)) n.2 (fun x d=>⟨(vl x).2 (hop x (by simp[d])).1,by rw[FZ x (v x d)];exact (hop x (by simp[d])).2⟩);have K:m.flatMap (fun x=>[dU.left x,dU.fV x (V1.om x)])=m.flatMap (fun x=>[dU.left x,dU.fV x (V.om x)]):=by
    clear z A
    induction m with
    | nil=>rfl
    | cons c m ih =>
      rw[List.flatMap_cons,List.flatMap_cons,FZ c (v c (by simp)),ih (by rw[List.nodup_cons]at hnd ⊢;exact⟨fun h=>hnd.1 (by simp[h]),(List.nodup_cons.1 hnd.2).2⟩) (fun x d=>hop x (by rcases List.mem_cons.1 d with h | h;simp[h];simp[h])) ⟨fun h=>n.1 (by simp[h]),(List.nodup_cons.1 n.2).2⟩ (fun x d=>v x (by simp[d]))]
   rw[K]at z;refine⟨f,[[],[]]++Ts,?_,N,H.trans a.aV,a2.trans a.no,a3.trans a.nb,a4.trans u,fun j=>(a5 j).trans (a.lV j),fun j=>(I j).trans (a.PY j),fun x=>?_,J.trans q,a9.trans C⟩
   ·rw[List.flatMap_cons];exact R.append z
   ·rw[A x];by_cases e:x=b
    ·subst e;rw[if_neg n.1,if_pos (by simp),a.om,ah]
    ·rw[FZ x e];by_cases p:x∈m
     ·rw[if_pos p,if_pos (by simp[p])]
     ·rw[if_neg p,if_neg (by simp[p,e])]
theorem NY{w w':World}{bv bm bo:Nat}{V:aS}{M:Int}{l:List Nat}{bk:Nat->Nat}(W:M<=1000000000000000)(R:dL w bv bm bo V)(g:GW V M)(C:∀x,VL V x->x∈l)(hll:l.length<1000)(L:V.lg.tr.length<1000000000)(hd0:-9223372036854775808<=V.lg.day)(hd1:V.lg.day<9223372036854775808)(hbk:∀i x,i<V.nb->VL V x->(V.om x).sym=(V.B i).sym->bk x=V.bk i)(h:Px bv bm bo V M bk w w') :
 Next bv bm bo V (fun f=>ClV V M f/\Bz bv bm bo V f [] w.heap.size w') w w':=by
 obtain⟨f,G,c,kc,U,hsl,Z,d,t,r,s,D,cl,z⟩:=h;have E:∀x∈d,VL V x/\0<(V.om x).aH:=fun x m=>by
  obtain⟨id,p⟩:=s x m;exact⟨⟨id,p⟩,((r id x p).1 m).2⟩
 obtain⟨o,Ts,F,P,H,a2,a3,a4,a5,O,v,I,a9⟩:=Ny W d V g ⟨C,L⟩ hbk t E;have vl:∀x,VL o x↔VL V x:=fun x=>by unfold VL;rw[H]
 have N:KK l f:=⟨fun x m=>C x (by unfold VL at m ⊢;rw[c.aV]at m;exact m),by rw[c.tr];exact L⟩;have lk:dK { o with lg:={ o.lg with day:=wrap64 (V.lg.day+1) } } f:=by
  refine GW.J7 (M:=M) (M':=M) (V:={ o with lg:={ o.lg with day:=wrap64 (V.lg.day+1) } }) (P.Sz _ _) c.gw (c.nb.trans a3.symm) (fun j _=>by show f.bk j=o.bk j;rw[Z j,a4]) (fun j _=>(c.lV j).trans (a5 j).symm) (fun j _=>(c.PY j).trans (O j).symm) (c.aV.trans H.symm) (c.no.trans a2.symm) (fun x m=>?_) (by show f.lg.tr=o.lg.tr;rw[c.tr,I]) c.day (by show f.lm.tb=o.lm.tb;rw[a9];exact z.tb);obtain⟨id,p⟩:=(vl x).1 m;show f.om x=o.om x;rw[c.om id x p,v x];unfold BJ;by_cases e:(V.om x).kind=1/\0<(V.om x).aH
  ·rw[if_pos e,if_pos ((r id x p).2 e)]
  ·rw[if_neg e,if_neg (fun h=>e ((r id x p).1 h))]
 have u:jS bk (KK l) (d.flatMap (fun x=>[.left x,.fV x (V.om x)])++[.closed]) (Ts++[[]]) V f:=jS.kL F (JC (dd:=wrap64 (V.lg.day+1)) (by rw[I];unfold wrap64;omega) lk) N;have A:∀J∈d.flatMap (fun x=>[dU.left x,dU.fV x (V.om x)])++[dU.closed],J.sF=false:=fun J q=>by
  rcases List.mem_append.1 q with q | q
  ·obtain⟨x,_,m⟩:=List.mem_flatMap.1 q;simp at m;rcases m with rfl | rfl <;> rfl
  ·rw[List.mem_singleton.1 q];rfl
 refine⟨f,G,⟨c,Bz.of G z (Bc R z c.nb (fun j hj y hy=>hsl j y)) D u hll (by simp) ?_ ?_⟩,kc,U⟩
 ·have Q:d.length<=l.length:=by
   have:=Nq (n:=d.length) (h:=fun k=>d.getD k 0) (l:=l) (fun a b X Y e=>?_) (fun k K=>?_)
   ·exact this
   ·have e:d.getD a 0=d.getD b 0:=e;rw[List.getD_eq_getElem?_getD,List.getD_eq_getElem?_getD,List.getElem?_eq_getElem X,List.getElem?_eq_getElem Y]at e;exact (List.getElem_inj t).1 e
   ·show d.getD k 0∈l;rw[List.getD_eq_getElem?_getD,List.getElem?_eq_getElem K];exact C _ (s _ (List.getElem_mem K))
  have S:(d.flatMap (fun x=>[dU.left x,dU.fV x (V.om x)])).length=2 * d.length:=by
   clear F D u A v Q s r E t
   induction d with
   | nil=>rfl
   | cons c d ih=>rw[List.flatMap_cons,List.length_append,ih,List.length_cons];simp;omega
  rw[List.length_append,S];simp;omega
 ·rw[u.jF A,kH];have T:mg (d.flatMap (fun x=>[dU.left x,dU.fV x (V.om x)]))=[]:=by
   clear F D u A v s r E t
   induction d with
   | nil=>rfl
   | cons c d ih=>rw[List.flatMap_cons,kH,ih];rfl
  rw[T];rfl
theorem uH:∀(t R:List Rc),((nJ R t).drop R.length).map (fun r=>(r.kind,r.t))=t.map (fun r=>(r.kind,r.t))
 | [],R=>by show (R.drop R.length).map _=_;rw[List.drop_length]
 | r :: t,R=>by
   have h:=uH t (R++[{ r with num:=(R.length:Int)+1 }]);have d:=AV (R++[{ r with num:=(R.length:Int)+1 }]) t;have c:∃a,nJ (R++[{ r with num:=(R.length:Int)+1 }]) t=(R++[{ r with num:=(R.length:Int)+1 }])++a:=IP t _;obtain⟨a,b⟩:=c;show ((nJ (R++[_]) t).drop R.length).map _=_;rw[b]at h ⊢;rw[List.drop_left]at h;rw[List.append_assoc,List.drop_left,List.map_append,h]
   rfl
where
 IP:∀(t R:List Rc),∃Z,nJ R t=R++Z
  | [],R=>⟨[],by simp[nJ]⟩
  | r :: t,R=>by
    obtain⟨Z,hZ⟩:=IP t (R++[{ r with num:=(R.length:Int)+1 }]);exact⟨{ r with num:=(R.length:Int)+1 } :: Z,by show nJ _ t=_;rw[hZ];simp⟩
theorem CY{t0:List Tg}:∀{t:List Rc},(∀r∈t,r.kind=1)->lY t0 t=t.map (fun r=>(2,r.t))
 | [],_=>rfl
 | r :: t,h=>by
   have a:=h r (by simp);unfold lY;rw[List.filterMap_cons];simp only[wO,a,if_true];rw[List.map_cons];congr 1;exact CY (fun x b=>h x (by simp[b]))
theorem TN.kinds{R told:List Rc}{G:Lg}(h:TN R.length G)(d:G.tp=nJ R told):∀r∈told,r.kind=1:=fun r b=>by
 have a:=uH told R;rw[<-d]at a;have:(r.kind,r.t)∈told.map (fun r=>(r.kind,r.t)):=List.mem_map.2 ⟨r,b,rfl⟩;rw[<-a]at this;obtain⟨f,c,e⟩:=List.mem_map.1 this;have:=h.2.2 f c;simp only[Prod.mk.injEq]at e;omega
theorem TN.ok{t0:List Tg}{R told:List Rc}{G:Lg}(h:TN R.length G)(b:G.tp=nJ R told):pW t0 told:=fun r a e=>by
 have:=h.kinds b r a;omega
theorem TN.lY{t0:List Tg}{R told:List Rc}{G:Lg}(h:TN R.length G)(c:G.tp=nJ R told):Go.Proofs.YtigaphnafnpfnaaGreatDoor.lY t0 told=mg G.nt:=by
 have b:=uH told R;rw[<-c]at b;rw[CY (h.kinds c),h.2.1];have a:=congrArg (List.map (fun p:Int × Tr=>((2:Int),p.2))) b;rw[List.map_map,List.map_map]at a;exact a.symm
theorem di.ol{p:Nat->Nat}{V:aS}{S:RS}{N:Nat}(h:di p V S N):∃l:List Nat,l.length<=200/\∀x,VL V x->x∈l:=by
 refine⟨(List.range S.l.length).map p,by rw[List.length_map,List.length_range];have:=h.no;have:=h.fM;omega,fun x b=>?_⟩;obtain⟨k,a,e⟩:=(h.vl x).1 b;exact List.mem_map.2 ⟨k,List.mem_range.2 a,e⟩
theorem Next.with{bv bm bo:Nat}{V a:aS}{Q:aS->Prop}{w w':World}(h:Next bv bm bo V (fun b=>b=a) w w')(e:dL w' bv bm bo a->Q a):Next bv bm bo V Q w w':=by
 obtain⟨b,c,rfl,k,d⟩:=h;exact⟨b,c,e c,k,d⟩
theorem Next.mono{bv bm bo:Nat}{V:aS}{Q b:aS->Prop}{w w':World}(h:Next bv bm bo V Q w w')(e:∀a,Q a->b a):Next bv bm bo V b w w':=by
 obtain⟨a,c,q,k,d⟩:=h;exact⟨a,c,e a q,k,d⟩
theorem Bz.QV{bv bm bo:Nat}{V b:aS}{B:List (Int × Tr)}{lo:Nat}{w w':World}(h:Bz bv bm bo V b B lo w){x:Nat}{c:Array Value}(q:au w x c 87)(k:aj (fun y=>y=x) w w'):Bz bv bm bo V b B lo w':=by
 obtain⟨n,l,z,g,j,m,o,p,a,fl⟩:=h;refine⟨n,l,z,g,j,m,o,p,a.ax k (fun c r y v e=>?_),fl⟩;obtain⟨i,d,rfl⟩:=List.mem_iff_getElem.1 r;have s:i<n.ds.length:=by rw[<-a.len];exact d
 obtain⟨cs,t,f,u⟩:=(a.pU i _ _ (List.getElem?_eq_getElem s) (List.getElem?_eq_getElem d)).gZ v;rw[e]at f;have:=Bo f q;subst this;rcases u with e | e | e | e | e | e | e | e | ⟨_,e⟩ <;> exact absurd e (by decide)
theorem NK(V:aS)(i s b:Nat)(again:Bool):mg (Td V i s b again)=[]/\(∀c∈Td V i s b again,c.sF=false)/\(Td V i s b again).length<=3:=by
 unfold Td;split
 ·exact⟨rfl,fun c a=>by rw[List.mem_singleton.1 a];rfl,by simp⟩
 ·split
  ·refine⟨rfl,fun c a=>?_,by simp⟩;simp at a;rcases a with rfl | rfl | rfl <;> rfl
  ·refine⟨rfl,fun c a=>?_,by simp⟩;simp at a;rcases a with rfl | rfl <;> rfl
open Go.RowKit
def ZE(s:Int)(b:iT)(o:Ord):iT:=if wG s b o.af=true then pF ⟨o.af,0,0⟩ o else if o.af=b.af then pF b o else b
def GH(l:List Ord)(sym:ByteArray)(s:Int)(last:Option Int)(i:Nat):List Ord:=((List.range i).filter (fun k=>decide ((ak l k).sym=sym/\(ak l k).side=s/\(ak l k).aH≠0/\oI s last (ak l k).af=true))).map (ak l)
theorem Gt(l:List Ord)(sym:ByteArray)(s:Int)(last:Option Int):∀i,Jo l sym s last i=(GH l sym s last i).foldl (ZE s) ⟨0,0,0⟩
 | 0=>rfl
 | i+1=>by
   rw[Jo,Gt l sym s last i];unfold GH;rw[List.range_succ,List.filter_append,List.map_append,List.foldl_append];unfold lU;by_cases h:(ak l i).sym=sym/\(ak l i).side=s/\(ak l i).aH≠0
   ·obtain⟨e,f,g⟩:=h;rw[if_neg (by simp[e,f,g])];by_cases d:oI s last (ak l i).af=true
    ·rw[if_neg (by simp[d]),List.filter_cons_of_pos (by simp[e,f,g,d])]
     rfl
    ·rw[if_pos (by simpa using d),List.filter_cons_of_neg (by simp[d])]
     rfl
   ·rw[if_pos (by by_cases a:(ak l i).sym=sym <;> by_cases b:(ak l i).side=s <;> by_cases c:(ak l i).aH=0 <;> simp[a,b,c]at h ⊢),List.filter_cons_of_neg (by
     simp only[decide_eq_true_eq];rintro⟨a,b,c,_⟩;exact h ⟨a,b,c⟩)]
    rfl
def LX(s:Int)(C:List (Int × Int))(b:iT):Prop :=
 (C=[]/\b=⟨0,0,0⟩)\/(C≠[]/\(∃a∈C,a.1=b.af)/\(∀a∈C,¬yQ s a.1 b.af)/\b.az=qs b.af C/\b.num=cn b.af C/\0<b.num)
theorem NM(s:Int)(hs:s=0\/s=1)(os:List Ord)(G:os.length<=1000)(p:∀o∈os,0<=o.aH/\o.aH<=1000000000000000):LX s (os.map po) (os.foldl (ZE s) ⟨0,0,0⟩):=by
 have z:∀(A B:List Ord) (b:iT),A++B=os->LX s (A.map po) b->LX s (os.map po) (B.foldl (ZE s) b):=by
  intro A B
  induction B generalizing A with
  | nil=>intro b e h;rw[List.append_nil]at e;subst e;exact h
  | cons o B ih =>
    intro b e h;have w:(A++[o])++B=os:=by rw[<-e];simp
    rw[List.foldl_cons];have L:=p o (by rw[<-e];simp);have F:∀a∈A.map po,0<=a.2/\a.2<=1000000000000000:=by
     intro a c;rw[List.mem_map]at c;obtain⟨x,g,rfl⟩:=c;exact p x (by rw[<-e];simp[g])
    have K:(A.map po).length<=1000:=by rw[List.length_map];rw[<-e,List.length_append]at G;omega
    have H:(A++[o]).map po=A.map po++[(o.af,o.aH)]:=by simp[po]
    have v:pF ⟨o.af,0,0⟩ o=⟨o.af,o.aH,1⟩:=by
     rw[XT rfl rfl,aU (by omega) (by omega)]
    refine ih (A++[o]) _ w ?_;right;rw[H];refine⟨by simp,?_⟩;rcases h with⟨k,C⟩ | ⟨k,⟨a0,n,j⟩,i,l,m,D⟩
    ·subst C;have E:wG s ⟨0,0,0⟩ o.af=true:=rfl;unfold ZE;rw[if_pos E,v];rw[k];simp only[List.nil_append];have t:=oD o.af [] (o.af,o.aH);have u:=oh o.af [] (o.af,o.aH);rw[List.nil_append]at t u;refine⟨⟨_,List.mem_singleton.2 rfl,rfl⟩,fun a c=>?_,?_,?_,by show (0:Int)<1;decide⟩
     ·rw[List.mem_singleton]at c;subst c;exact pX _ _
     ·rw[t];simp[qs,qP]
     ·rw[u];simp[cn]
    ·have I:b.num≠0:=by omega
     have q:wG s b o.af=true↔yQ s o.af b.af:=by
      unfold wG yQ;rw[if_neg I];split <;> simp
     have M:=aaM b.af (A.map po) F;unfold ZE;by_cases d:yQ s o.af b.af
     ·rw[if_pos (q.2 d),v];have r:∀a∈A.map po,a.1≠o.af:=by
       intro a c y;have:=i a c;rw[y]at this;exact this d
      refine⟨⟨_,List.mem_append.2 (.inr (List.mem_singleton.2 rfl)),rfl⟩,fun a c=>?_,?_,?_,by show (0:Int)<1;decide⟩
      ·rw[List.mem_append,List.mem_singleton]at c;rcases c with c | c
       ·exact fun g=>i a c (CO g d)
       ·subst c;exact pX _ _
      ·rw[oD,(wX r).1];simp
      ·rw[oh,(wX r).2];simp
     ·rw[if_neg (fun g=>d (q.1 g))];by_cases f:o.af=b.af
      ·rw[if_pos f];have J:pF b o=⟨b.af,qs b.af (A.map po)+o.aH,cn b.af (A.map po)+1⟩:=by
        unfold pF;rw[l,m,aU (x:=qs b.af (A.map po)+o.aH) (by omega) (by omega),aU (x:=cn b.af (A.map po)+1) (by omega) (by omega)]
       rw[J];refine⟨⟨a0,List.mem_append.2 (.inl n),j⟩,fun a c=>?_,?_,?_,by show 0<cn b.af (A.map po)+1;omega⟩
       ·rw[List.mem_append,List.mem_singleton]at c;rcases c with c | c
        ·exact i a c
        ·subst c;exact d
       ·simp only;rw[oD,if_pos f]
       ·simp only;rw[oh,if_pos f]
      ·rw[if_neg f];refine⟨⟨a0,List.mem_append.2 (.inl n),j⟩,fun a c=>?_,?_,?_,D⟩
       ·rw[List.mem_append,List.mem_singleton]at c;rcases c with c | c
        ·exact i a c
        ·subst c;exact d
       ·rw[oD,if_neg f,Int.add_zero];exact l
       ·rw[oh,if_neg f,Int.add_zero];exact m
 exact z [] os _ rfl (.inl ⟨rfl,rfl⟩)
theorem Vq{s:Int}{last p:Int}:oI s (some last) p=true↔yQ s last p:=by
 unfold oI yQ;simp only;split <;> simp
theorem Ur(l:List Ord)(sym:ByteArray)(s:Nat)(last:Option Int)(c:∀k,k<l.length->0<=(ak l k).aH):(GH l sym (s:Int) last l.length).map po=(((idx l sym s).map (ak l)).map po).filter (fun a=>oI (s:Int) last a.1):=by
 unfold GH idx;rw[List.map_map,List.map_map,List.filter_map,List.filter_filter];congr 1;refine List.filter_congr (fun k b=>?_);rw[List.mem_range]at b;have:=c k b;simp only[Function.comp,po];have e:((ak l k).aH≠0)↔0<(ak l k).aH:=by omega
 cases hw:oI (s:Int) last (ak l k).af <;> simp[hw,e]
theorem EE{a:List iT}{j:Nat}(b:j<a.length):(a.take (j+1)).getLast?=a[j]?:=by
 rw[List.take_add_one,List.getElem?_eq_getElem b,Option.toList_some,List.getLast?_concat]
theorem Dq(s:Nat)(hs:s<2)(l:List Ord)(sym:ByteArray)(A:List (Int × Int))(d:List iT)(hlen:l.length<=1000)(Y:∀k,k<l.length->0<=(ak l k).aH/\(ak l k).aH<=1000000000000000)(S:A.Perm (((idx l sym s).map (ak l)).map po))(h:Zv (s:Int) A d)(j:Nat)(hj:j<=d.length) :
 (j=d.length->(kT l sym (s:Int) (d.take j)).num=0)/\∀x,d[j]?=some x->kT l sym (s:Int) (d.take j)=x/\x.num≠0:=by
 have hs':(s:Int)=0\/(s:Int)=1:=by omega
 have hc0:=Ur l sym s (fU (d.take j)) (fun k D=>(Y k D).1);have hlc:(GH l sym (s:Int) (fU (d.take j)) l.length).length<=1000:=by
  unfold GH;rw[List.length_map];have:=List.length_filter_le (fun k=>decide ((ak l k).sym=sym/\(ak l k).side=(s:Int)/\(ak l k).aH≠0/\oI (s:Int) (fU (d.take j)) (ak l k).af=true)) (List.range l.length);rw[List.length_range]at this;omega
 have hbc:∀o∈GH l sym (s:Int) (fU (d.take j)) l.length,0<=o.aH/\o.aH<=1000000000000000:=by
  intro o J;unfold GH at J;rw[List.mem_map]at J;obtain⟨k,D,rfl⟩:=J;rw[List.mem_filter,List.mem_range]at D;exact Y k D.1
 have v:=NM (s:Int) hs' _ hlc hbc;rw[<-Gt]at v;change LX (s:Int) _ (kT l sym (s:Int) (d.take j)) at v;rw[hc0]at v;generalize hX:((idx l sym s).map (ak l)).map po=X at *;have E:∀a∈A,(oI (s:Int) (fU (d.take j)) a.1=true↔∃i x,j<=i/\d[i]?=some x/\x.af=a.1):=by
  intro a G;obtain⟨x,m,e⟩:=h.all a G;obtain⟨i,t⟩:=List.getElem?_of_mem m;have q:=(List.getElem?_eq_some_iff.1 t).1;have r:=List.pairwise_iff_getElem.1 h.ord;have uniq:∀f w,d[f]?=some w->w.af=a.1->f=i:=by
   intro f w V L;have W:=(List.getElem?_eq_some_iff.1 V).1;have p:=(List.getElem?_eq_some_iff.1 t).2;have P:=(List.getElem?_eq_some_iff.1 V).2;rcases Nat.lt_trichotomy f i with c | c | c
   ·have:=r f i W q c;rw[p,P,e,L]at this;exact absurd this (pX _ _)
   ·exact c
   ·have:=r i f q W c;rw[p,P,e,L]at this;exact absurd this (pX _ _)
  cases j with
  | zero =>
    have:fU (d.take 0)=none:=by simp[fU]
    rw[this];exact⟨fun _=>⟨i,x,by omega,t,e⟩,fun _=>rfl⟩
  | succ j =>
    have u:j<d.length:=by omega
    have hlp:fU (d.take (j+1))=some d[j].af:=by
     unfold fU;rw[EE u,List.getElem?_eq_getElem u]
     rfl
    rw[hlp,Vq];have p:=(List.getElem?_eq_some_iff.1 t).2;constructor
    ·intro H;refine⟨i,x,?_,t,e⟩;rcases Nat.lt_or_ge j i with c | c
     ·omega
     ·exfalso;rcases Nat.lt_or_ge i j with K | K
      ·have:=r i j q u K;rw[p,e]at this;exact PV H this
      ·obtain rfl:i=j:=by omega
       rw[p,e]at H;exact pX _ _ H
    ·rintro⟨f,w,Q,g,B⟩;have Z:=uniq f w g B;subst Z;have:=r j f u q (by omega);rw[p,e]at this;exact this
 have C:∀a,a∈A↔a∈X:=fun a=>S.mem_iff
 constructor
 ·intro u;rcases v with⟨_,e⟩ | ⟨hne,⟨a0,n,F⟩,_⟩
  ·rw[e]
  ·exfalso;rw[List.mem_filter]at n;obtain⟨i,x,Q,g,_⟩:=(E a0 ((C a0).2 n.1)).1 n.2;have:=(List.getElem?_eq_some_iff.1 g).1;omega
 ·intro x m;have hxl:=(List.getElem?_eq_some_iff.1 m).1;have hxm:=List.mem_of_getElem? m;obtain⟨v1,v2,v3⟩:=h.val x hxm;obtain⟨z,T,M⟩:=Qd (by rw[<-v2];exact v3);have I:z∈X.filter (fun a=>oI (s:Int) (fU (d.take j)) a.1):=by
   rw[List.mem_filter];exact⟨(C z).1 T,(E z T).2 ⟨j,x,Nat.le_refl _,m,M.symm⟩⟩
  rcases v with⟨e,_⟩ | ⟨hne,⟨a0,n,F⟩,hb3,hb4,hb5,hb6⟩
  ·rw[e]at I;simp at I
  ·generalize kT l sym (s:Int) (d.take j)=b at *;rw[List.mem_filter]at n;obtain⟨i,y,Q,g,B⟩:=(E a0 ((C a0).2 n.1)).1 n.2;have r:=List.pairwise_iff_getElem.1 h.ord;have q:=(List.getElem?_eq_some_iff.1 g).1;have ei:i=j:=by
    rcases Nat.lt_or_ge j i with c | c
    ·exfalso;have:=r j i hxl q c;rw[(List.getElem?_eq_some_iff.1 m).2,(List.getElem?_eq_some_iff.1 g).2,B,F]at this;have R:=hb3 z I;rw[M]at R;exact R this
    ·omega
   subst ei;rw[m]at g;have exy:=Option.some.inj g;subst exy;have O:b.af=x.af:=by rw[B,F]
   have U:qs b.af (X.filter (fun a=>oI (s:Int) (fU (d.take i)) a.1))=qs b.af X/\cn b.af (X.filter (fun a=>oI (s:Int) (fU (d.take i)) a.1))=cn b.af X:=by
    unfold qs cn;have:(X.filter (fun a=>oI (s:Int) (fU (d.take i)) a.1)).filter (fun x=>decide (x.1=b.af))=X.filter (fun x=>decide (x.1=b.af)):=by
     rw[List.filter_filter];refine List.filter_congr (fun a G=>?_);by_cases N:a.1=b.af
     ·rw[(E a ((C a).2 G)).2 ⟨i,x,Nat.le_refl _,m,by rw[N,O]⟩];simp
     ·simp[N]
    rw[this];exact⟨rfl,rfl⟩
   obtain⟨pq,pc⟩:=Vd b.af S;refine⟨?_,by omega⟩;obtain⟨bp,bq,bn⟩:=b;obtain⟨xp,xq,xn⟩:=x;simp only at *;subst O;rw[hb4,U.1,<-pq,<-v1,hb5,U.2,<-pc,<-v2]
theorem NP(s:Nat)(hs:s<2)(l:List Ord)(sym:ByteArray)(A:List (Int × Int))(a:List iT)(d:l.length<=1000)(f:∀k,k<l.length->0<=(ak l k).aH/\(ak l k).aH<=1000000000000000)(c:A.Perm (((idx l sym s).map (ak l)).map po))(h:Zv (s:Int) A a):nY l sym (s:Int) a.length [] a:=by
 have m:∀k j,j+k=a.length->nY l sym (s:Int) k (a.take j) a:=by
  intro k
  induction k with
  | zero =>
    intro j n;have o:=(Dq s hs l sym A a d f c h j (by omega)).1 (by omega);have e:a.take j=a:=List.take_of_length_le (by omega);have:=nY.stop (l:=l) (sym:=sym) (s:=(s:Int)) 0 (a.take j) o;rw[e]at this ⊢;exact this
  | succ k ih =>
    intro j n;obtain⟨x,g⟩:∃x,a[j]?=some x:=⟨_,List.getElem?_eq_getElem (by omega)⟩;obtain⟨b,i⟩:=(Dq s hs l sym A a d f c h j (by omega)).2 x g;refine nY.go k _ _ (by rw[b];exact i) ?_;rw[b];have:=ih (j+1) (by omega);rw[List.take_add_one,g]at this;exact this
 have:=m a.length 0 (by omega);rw[List.take_zero]at this;exact this
attribute [local go_sem ↓] Go.wp_at_zero Go.wp_at_succ
theorem fP.abr{w:World}{bv bm bo n g cap:Nat}{G:Lg}{m:Lm}{A:List (Value × List Value)}{a:Value × List Value}{F6:List dU}(h:bz w bv bm bo G m)(j:m.ac=A++[a])(o:A.length=n)(E:m.av=.slice (some ⟨g,0,none⟩) (n+1) cap)(N:∀a,A.getLast?=some a->a.2.length=F6.length) :
 bz ((w.setCell ⟨g,n,none⟩ (.slice none 0 0)).setCell ⟨bv,5,none⟩ (.slice (some ⟨g,0,none⟩) n cap)) bv bm bo { G with na:=n,nt:=F6,ud:=G.ud+1 } { m with av:=.slice (some ⟨g,0,none⟩) n cap,ac:=A } /\
  aj (fun b=>b=bv\/m.av.ownBlock=some b) w ((w.setCell ⟨g,n,none⟩ (.slice none 0 0)).setCell ⟨bv,5,none⟩ (.slice (some ⟨g,0,none⟩) n cap)) /\
  (∀b,Lm.F { m with av:=.slice (some ⟨g,0,none⟩) n cap,ac:=A } b->m.F b):=by
 have B:m.av.ownBlock=some g:=by rw[E];rfl
 have k:aj (fun b=>b=bv\/m.av.ownBlock=some b) w ((w.setCell ⟨g,n,none⟩ (.slice none 0 0)).setCell ⟨bv,5,none⟩ (.slice (some ⟨g,0,none⟩) n cap)) :=
  ((aj.refl (fun b=>b=bv\/m.av.ownBlock=some b) w).setCell (p:=⟨g,n,none⟩) (.inl (.inr B)) _).setCell (p:=⟨bv,5,none⟩) (.inl (.inl rfl)) _
 have I:=h.aO.act.row;have D:m.ac.length=n+1:=by rw[j,List.length_append,o];rfl
 have M:G.na=n+1:=by rw[<-h.aO.act.len];exact D
 rw[E,D]at I;obtain⟨Q,h0⟩:=I;obtain⟨f,l,C,z,q,r⟩:∃f,au w g f 109/\n+1<=cap/\cap<=maxLen/\f.size=cap * 1/\f.toList.take ((n+1) * 1)=m.ac.map Prod.fst:=by
  rcases h0 with⟨e,_⟩ | ⟨P,cap',f,e,_,l,C,z,q,r⟩
  ·simp at e
  ·simp only[Value.slice.injEq,Option.some.injEq,Addr.mk.injEq]at e;obtain⟨⟨u,_⟩,_,v⟩:=e;subst u v;exact⟨f,l,C,z,q,r⟩
 have H:g≠bv:=au.ne l h.cO (by decide);have no:∀{b c t},au w b c t->t≠100->t≠109->¬(b=bv\/m.av.ownBlock=some b):=by
  rintro b c t d u v (e | e)
  ·exact au.ne d h.cO u e
  ·rw[B]at e;obtain rfl:=Option.some.inj e;exact au.ne d l v rfl
 refine⟨⟨((h.cO.other (fun e=>H e.symm) _).set 5 _),?_⟩,k,?_⟩
 ·refine⟨aB h.aO.dJ k (fun b e=>?_),aB h.aO.fQ k (fun b e=>?_),h.aO.len,fun i b y K O=>?_,h.aO.nodup,⟨?_,fun x s=>aB (h.aO.act.own x (by rw[j];exact List.mem_append_left _ s)) k (fun b e=>?_),?_,o,N⟩,aB h.aO.lT k (fun b e=>?_),?_⟩
  ·obtain⟨cs,d⟩:=aF h.aO.dJ e;exact no d (by decide) (by decide)
  ·obtain⟨cs,d⟩:=aF h.aO.fQ e;exact no d (by decide) (by decide)
  ·have d:=h.aO.ay i b y K O;exact k.ay d (no d (by decide) (by decide))
  ·refine⟨by simp,.inr ⟨g,cap,f.setIfInBounds n (.slice none 0 0),?_,Nat.zero_le _,(l.set n _).other H _,by simp only[o];omega,z,by simpa using q,?_⟩⟩
   ·simp only[o]
   ·simp only[o,Nat.mul_one]at r ⊢;have e:(f.setIfInBounds n (.slice none 0 0)).toList=f.toList.set n (.slice none 0 0):=by simp
    have L:A.map Prod.fst=(m.ac.map Prod.fst).dropLast:=by rw[j];simp
    rw[e,List.take_set,L,<-r];have J:f.toList.length=cap:=by simpa using q
    rw[List.set_eq_of_length_le (by simp;exact Nat.min_le_left _ _),List.dropLast_eq_take,List.take_take,List.length_take,J,show min (min (n+1) cap-1) (n+1)=n by omega]
  ·obtain⟨cs,d⟩:=aF (h.aO.act.own x (by rw[j];exact List.mem_append_left _ s)) e;exact no d (by decide) (by decide)
  ·have:=h.aO.act.dis;rw[j,List.filterMap_append]at this;exact (List.nodup_append.1 this).1
  ·obtain⟨cs,d⟩:=aF h.aO.lT e;exact no d (by decide) (by decide)
  ·have:=h.aO.jb;show m.jn.length<=300 * (G.ud+1+n);rw[M]at this;omega
 ·rintro b (e | e | e | e | ⟨x,s,e⟩)
  ·exact .inl e
  ·exact .inr (.inl e)
  ·exact jL e
  ·exact iQ (by rw[B];exact e)
  ·exact .inr (.inr (.inr (.inr ⟨x,by rw[j];exact List.mem_append_left _ s,e⟩)))
theorem Bj(Ts:List (List (Int × Tr))):∀k,k<=Ts.length->um (fun i=>Ts.getD i []) Ts.length k=(Ts.drop (Ts.length-k)).reverse.flatten
 | 0,_=>by simp[um]
 | k+1,hk=>by
   have c:=Bj Ts k (by omega);show um _ _ k++Ts.getD (Ts.length-1-k) []=_;rw[c];have b:Ts.length-(k+1)=Ts.length-1-k:=by omega
   have a:Ts.length-1-k<Ts.length:=by omega
   rw[b,List.drop_eq_getElem_cons a,List.reverse_cons,List.flatten_append,show Ts.length-1-k+1=Ts.length-k by omega];congr 1;rw[List.getD_eq_getElem?_getD,List.getElem?_eq_getElem a];simp
theorem GZ:∀{Ts:List (List (Int × Tr))},(∀a∈Ts,a.length<=1)->Ts.reverse.flatten=Ts.flatten.reverse
 | [],_=>rfl
 | a :: Ts,h=>by
   rw[List.reverse_cons,List.flatten_append,GZ (fun x c=>h x (by simp[c])),show ([a]:List (List (Int × Tr))).flatten=a by simp,List.flatten_cons,List.reverse_append];congr 1;have b:=h a (by simp)
   match a,b with
   | [],_=>rfl
   | [x],_=>rfl
   | x :: y :: a,b=>simp at b
def L6(bv bm bo:Nat)(V V0:aS)(B:List (Int × Tr))(cls:List (List Value))(F6:List dU)(w w':World):Prop :=
 ∃V',dL w' bv bm bo V'/\HS V'/\dK V0 V'/\V'.lg.tp=(V.lg.nN B.reverse).tp/\V'.lg.na+1=V.lg.na/\V'.lg.ud=V.lg.ud+2/\V'.lg.nt=F6/\V'.lm.ac.map Prod.snd=cls/\aj (bY bv bm bo V) w w'/\∀x,bY bv bm bo V' x->bY bv bm bo V x\/w.heap.size<=x
theorem dL.aa6{w w':World}{bv bm bo:Nat}{V:aS}{jv:Value}{jn:List Value}(R:dL w bv bm bo V)(a:fP w' bv bm bo V.lg { V.lm with jv:=jv,jn:=jn } (V.lg.ud+V.lg.na+1))(c:∀b,jv.ownBlock=some b->V.lm.jv.ownBlock=some b\/w.heap.size<=b)(k:aj (fun b=>b=bv\/V.lm.jv.ownBlock=some b) w w') :
 dL w' bv bm bo { V with lg:={ V.lg with ud:=V.lg.ud+1 },lm:={ V.lm with jv:=jv,jn:=jn } }/\aj (bY bv bm bo V) w w'/\∀x,bY bv bm bo { V with lg:={ V.lg with ud:=V.lg.ud+1 },lm:={ V.lm with jv:=jv,jn:=jn } } x->bY bv bm bo V x\/w.heap.size<=x:=by
 have d:bz w' bv bm bo { V.lg with ud:=V.lg.ud+1 } { V.lm with jv:=jv,jn:=jn }:=by
  have e:V.lg.ud+1+V.lg.na=V.lg.ud+V.lg.na+1:=by omega
  refine⟨a.cO,a.aO.dJ,a.aO.fQ,a.aO.len,a.aO.ay,a.aO.nodup,a.aO.act,a.aO.lT,?_⟩;show jn.length<=300 * (V.lg.ud+1+V.lg.na);rw[e];exact a.aO.jb
 refine⟨R.kM d (k.mono (fun x h=>h.imp_right (fun h=>.inr (.inl (.inr h))))),k.mono (fun x h=>?_),fun x f=>?_⟩
 ·rcases h with h | h
  ·exact .inl h
  ·exact XZ (.inr h)
 ·rcases f with h | h | h | h | h | h
  ·exact .inl (.inl h)
  ·exact .inl (.inr (.inl h))
  ·exact .inl (jL h)
  ·exact .inl (iQ h)
  ·exact .inl (qo h)
  ·rcases h with h | (h | h) | h | h
   ·exact .inl (ol5 h)
   ·exact .inl (XZ (.inl h))
   ·exact (c x h).imp_left (fun h=>XZ (.inr h))
   ·exact .inl (ol7 h)
   ·exact .inl (X5 h)
theorem O5(bv bm bo:Nat)(V:aS)(w:World)(R:dL w bv bm bo V)(h0:V.lg.na=0) :
 CT 23 #[PP bv] w fun e w'=>e=.returned (II 12)/\aj aA w w':=by
 have a:=R.aO.aO.act.row;rw[R.aO.aO.act.len,h0]at a;obtain⟨c,d,b⟩:=AL a;have v5:CC w bv 5 (.slice c 0 d):=(R.cO.cell 5).trans (by rw[<-b];rfl);clear R a b;go_enter Tryz.func23,Tryz.ntmps23;go_wp2;go_ret;exact⟨rfl,aj.refl aA w⟩
theorem dL.MO{w:World}{bv bm bo k:Nat}{V:aS}{A:List (Value × List Value)}{a:Value × List Value}(R:dL w bv bm bo V)(d:V.lm.ac=A++[a])(n:A.length=k)(h0:0<a.2.length) :
 ∃g cap gf c cs,V.lm.av=.slice (some ⟨g,0,none⟩) (k+1) cap/\k+1<=cap/\(∃b,au w g b 109)/\w.cell? ⟨g,k,none⟩=some a.1/\a.1=.slice (some ⟨gf,0,none⟩) a.2.length c/\au w gf cs 1/\(∀j (m:j<a.2.length),w.cell? ⟨gf,j,none⟩=some a.2[j]):=by
 have o:=R.aO.aO.act.row;have s:V.lm.ac.length=k+1:=by rw[d,List.length_append,n];rfl
 rw[s]at o;have hown:=R.aO.aO.act.own a (by rw[d];simp);rcases o.2 with⟨_,e⟩ | ⟨g,cap,b,t,_,i,q,z,B,r⟩
 ·omega
 rcases hown.2 with⟨_,e⟩ | ⟨gf,c,cs,u,_,l,v,x,y,p⟩
 ·omega
 refine⟨g,cap,gf,c,cs,t,q,⟨b,i⟩,?_,u,l,fun j m=>?_⟩
 ·have f:au w g b 109:=i;rw[f.cell k];have:(b.toList.take ((k+1) * 1))[k]?=some a.1:=by
   rw[r,d,List.map_append];rw[List.getElem?_append_right (by rw[List.length_map];omega),List.length_map,n,Nat.sub_self]
   rfl
  rw[List.getElem?_take_of_lt (by omega)]at this
  simpa using this
 ·have f:au w gf cs 1:=l;rw[f.cell j];have:(cs.toList.take (a.2.length * 1))[j]?=some a.2[j]:=by rw[p,List.getElem?_eq_getElem m]
  rw[List.getElem?_take_of_lt (by omega)]at this
  simpa using this
theorem XQ(V:aS){G':Lg}{bG:Lm}(a:G'.tr=V.lg.tr)(b:G'.day=V.lg.day)(c:bG.tb=V.lm.tb):dK V { V with lg:=G',lm:=bG } :=
 ⟨rfl,fun _ _=>rfl,fun _ _=>rfl,fun _ _=>rfl,fun _ _ _ _ _=>Iff.rfl,rfl,rfl,fun _ _=>rfl,a,b,c⟩
theorem LW{k:Nat}(h:k<1000000000):wrap64 (k:Int)=(k:Int)/\IntKind.i64.wrap (k:Int)=(k:Int)/\IntKind.i64.wrap ((k:Int)+1)=(k:Int)+1:=by
 refine⟨?_,?_,?_⟩
 ·unfold wrap64;omega
 ·rw[IntKind.wrap_i64];omega
 ·rw[IntKind.wrap_i64];omega
theorem Tz(bv bm bo:Nat)(V V0 V1:aS)(n:oO)(l:List Nat)(A:List (Value × List Value))(a:Value × List Value)(F6:List dU)(w:World)(R:dL w bv bm bo V)(hs:HS V)(v:V.lm.ac=A++[a])(H:a.2=n.cl)(t:Pg bv bm bo V n w)(u:jS n.bk (KK l) n.ds n.Ts V0 V1)(hl:dK V1 V)(hll:l.length<1000)(hn0:0<n.ds.length)(hn:n.ds.length<=100000)
 (hnt:∀a,A.getLast?=some a->a.2.length=F6.length) (htp:V.lg.tp.length+100000<1000000000) (hud:V.lg.ud+V.lg.na<3000000) :
 CT 23 #[PP bv] w fun e w'=>e=.returned (II 0)/\L6 bv bm bo V V0 n.Ts.flatten (A.map Prod.snd) F6 w w':=by
 obtain⟨k,z⟩:=dQ A.length;have hna:V.lg.na=k+1:=by rw[<-R.aO.aO.act.len,v,List.length_append,z];rfl
 have ha0:0<a.2.length:=by rw[H,t.len];exact hn0
 obtain⟨m,hm⟩:=gy (k+1);obtain⟨g,cap,gf,Y,cs,J,-,-,-,I,-,-⟩:=R.MO v z ha0;have v5:CC w bv 5 (.slice (some ⟨g,0,none⟩) m cap):=(R.cO.cell 5).trans (by rw[hm,<-J];rfl);have hkm:k<m:=by omega
 have hki:(m:Int)-1=(k:Int):=by omega
 obtain⟨hkw,acw,acx⟩:=LW (k:=k) (by omega);have hk0:¬((k:Int)<0):=by omega
 obtain⟨st,e0,e1,hst,hkk⟩:=u.Yh;have eT:=u.len;have HWr:=ai (D8 bv bm bo V.lg V.lm (V.lg.ud+V.lg.na) ⟨#[117,110,100,111]⟩ w R.aO hud (by decide) (by decide));have Jr:Hid (∀q jv jn,fP q bv bm bo V.lg { V.lm with jv:=jv,jn:=jn } (V.lg.ud+V.lg.na+1)->(∀b,jv.ownBlock=some b->V.lm.jv.ownBlock=some b\/w.heap.size<=b)->aj (fun b=>b=bv\/V.lm.jv.ownBlock=some b) w q ->
  q.cell? ⟨bv,5,none⟩=some (.slice (some ⟨g,0,none⟩) m cap)/\q.cell? ⟨g,k,none⟩=some (.slice (some ⟨gf,0,none⟩) n.ds.length Y) /\
  CT 45 #[.slice (some ⟨gf,0,none⟩) n.ds.length Y] q fun e w2=>e=.returned (.tuple #[])/\∃c,dL w2 bv bm bo c/\HS c/\dK V0 c/\c.lg.tp=(V.lg.nN n.Ts.flatten.reverse).tp/\c.lg.na=V.lg.na/\c.lg.ud=V.lg.ud+1/\c.lm.ac=A++[a]/\aj (bY bv bm bo V) w w2/\∀x,bY bv bm bo c x->bY bv bm bo V x\/w.heap.size<=x):=by
  intro q jv jn y E S;obtain⟨U,TQ,f1⟩:=R.aa6 y E S;obtain⟨g',cap',gf',acn,cs',abx,_,_,cg,X,hcs,hcell⟩:=U.MO (A:=A) (a:=a) v z ha0;have Z:(V.lm.av:Value)=.slice (some ⟨g',0,none⟩) (k+1) cap':=abx;rw[J]at Z;simp only[Value.slice.injEq,Option.some.injEq,Addr.mk.injEq]at Z;obtain⟨⟨e2,_⟩,_,e3⟩:=Z;subst e2 e3;rw[I]at X;simp only[Value.slice.injEq,Option.some.injEq,Addr.mk.injEq]at X;obtain⟨⟨e4,_⟩,_,e5⟩:=X;subst e4 e5;have hcl:a.2.length=n.ds.length:=by rw[H,t.len]
  refine⟨(U.cO.cell 5).trans (by show some V.lm.av=_;rw[J,hm]),by rw[cg,I,hcl],?_⟩;have ZT:=t.aC TQ f1;have lk1:dK V { V with lg:={ V.lg with ud:=V.lg.ud+1 },lm:={ V.lm with jv:=jv,jn:=jn } }:=⟨rfl,fun _ _=>rfl,fun _ _=>rfl,fun _ _=>rfl,fun _ _ _ _ _=>Iff.rfl,rfl,rfl,fun _ _=>rfl,rfl,rfl,rfl⟩;have gd:∀j (h:j<n.ds.length) (h2:j<n.cl.length),n.ds.getD j .closed=n.ds[j]/\n.cl.getD j (.tuple #[])=n.cl[j]:=fun j h h2=>by
   rw[List.getD_eq_getElem?_getD,List.getD_eq_getElem?_getD,List.getElem?_eq_getElem h,List.getElem?_eq_getElem h2];exact⟨rfl,rfl⟩
  have hl2:=t.len;refine (IA bv bm bo 0 n.ds.length gf Y n.bk (fun i=>n.ds.getD i .closed) (fun i=>n.Ts.getD i []) st (fun i=>n.cl.getD i (.tuple #[])) l { V with lg:={ V.lg with ud:=V.lg.ud+1 },lm:={ V.lm with jv:=jv,jn:=jn } } q U hs (by rw[e1];exact hl.trans lk1) (fun j d=>?_) (fun j d=>?_) (fun j d x o=>?_) (fun j d x o=>(hkk j d).1 x o) hll (by omega) (by show V.lg.tp.length+_<_;omega) (fun j d=>(hkk j d).2) ⟨a,by show a∈V.lm.ac;rw[v];simp,by rw[I];rfl⟩ hcs.lt (fun j d=>?_)).mono ?_
  ·have h:=hst j d (by omega);simp only[(gd j d (by omega)).1];rw[List.getD_eq_getElem?_getD,List.getElem?_eq_getElem (show j<n.Ts.length by omega)];exact h
  ·simp only[(gd j d (by omega)).1,(gd j d (by omega)).2];exact ZT.pU j _ _ (List.getElem?_eq_getElem d) (List.getElem?_eq_getElem (by omega))
  ·simp only[(gd j d (by omega)).2]at o;exact ZT.off _ (List.getElem_mem (by omega)) x o
  ·simp only[(gd j d (by omega)).2];rw[hcell j (by omega)];simp only[H]
  ·rintro e w2 ⟨rfl,c,f,N,abM,O,M,P,Xz,s,k2,D⟩;refine⟨rfl,c,f,N,by rw[<-e0];exact abM,?_,M,P,by rw[s];exact v,TQ.from (k2.mono (fun x o=>f1 x o)),fun x o=>?_⟩
   ·rw[O,<-eT,Bj n.Ts _ (Nat.le_refl _),Nat.sub_self,List.drop_zero,GZ (fun T hT=>?_)]
    ·exact Jh (G:={ V.lg with ud:=V.lg.ud+1 }) (G':=V.lg) rfl _
    ·obtain⟨j,d,rfl⟩:=List.mem_iff_getElem.1 hT;exact (hst j (by omega) d).one
   ·rcases D x o with h | h
    ·exact f1 x h
    ·exact .inr (Nat.le_trans TQ.size h)
 have lv:=R.cO.lt;obtain⟨HNa,HKk,HRR⟩:=fK hna z R;have hkb:k<3000000:=by omega
 clear hkk hst e0 e1 eT u hl hs t R J H ha0 I hna htp hud hll hn hm z hn0;go_enter Tryz.func23,Tryz.ntmps23;go_wp2_with fail;refine (ae HWr).mono ?_;rintro e q ⟨rfl,jv,jn,y,E,S⟩;obtain⟨y5,yk,ZV⟩:=ae Jr q jv jn y E S;obtain⟨HP2,Yw⟩:=aZ ZV y.cO;clear v5 y E S ZV HWr Jr;go_wp2_with fail;refine (ae HP2).mono ?_;rintro e w2 ⟨rfl,c,f,N,hl2,O,M,P,s,k2,D⟩;obtain⟨HR2,HS2,HL2,abl,acr,abm,acp,Nz,HF2⟩:=wL f N hl2 O M P s k2 D;have jJ:=f.aO.aO.act.row;have hal:c.lm.ac.length=k+1:=by rw[s,List.length_append,ae HKk];rfl
 rw[hal]at jJ;obtain⟨p,r,abq,K,L,hc2,hz2⟩:∃g cap C,c.lm.av=.slice (some ⟨g,0,none⟩) (k+1) cap/\au w2 g C 109/\k+1<=cap/\C.size=cap * 1:=by
  rcases jJ.2 with⟨_,e⟩ | ⟨g,cap,C,e,_,hg,h1,h2,h3,_⟩
  ·omega
  ·exact⟨g,cap,C,e,hg,h1,h3⟩
 have z5:CC w2 bv 5 (.slice (some ⟨p,0,none⟩) (k+1) r):=(f.cO.cell 5).trans (by rw[<-K];rfl);have hgb:¬p=bv:=au.ne L f.cO (by decide);have hbg:¬bv=p:=fun e=>hgb e.symm
 obtain⟨cv,cn⟩:∃cv,w2.cell? ⟨p,k,none⟩=some cv:=⟨abq[k]'(by omega),(L.cell k).trans (Array.getElem?_eq_getElem (by omega))⟩;have fn:=L.frozen k;have HD:=ai (GN p k r w2 _ (by omega) hc2 cn fn);have Ws:=ai (fun (W:World) (kW:aj aA w2 W)=>(f.aO.ax kW).abr (F6:=F6) s (ae HKk) K hnt);obtain⟨HV2,HAv⟩:=aZ f.cO K;have f5:=f.cO.frozen 5;have lv2:=f.cO.lt;clear f N hl2 O M P s k2 D jJ hal K L hc2 hz2 y5 yk HP2;go_wp2_with fail;refine (ae HD).mono ?_;rintro e B ⟨rfl,q2,Q⟩;have HW3:=ai Q;have c3:B.cell? ⟨bv,5,none⟩=some (.slice (some ⟨p,0,none⟩) (k+1) r):=by rw[Q];exact (au.cell (((ae HV2).drewN _).other hbg _) 5).trans (by rw[<-ae HAv];rfl)
 have f3:B.frozen? ⟨bv,5,none⟩=false:=by rw[Q];exact au.frozen (((ae HV2).drewN _).other hbg _) 5
 clear Q cn fn z5 f5 HD;go_wp2;go_ret;refine⟨rfl,?_⟩;obtain⟨c1,c2,c4⟩:=ae Ws _ ((aj.refl aA w2).drewN q2);rw[<-ae HW3]at c1 c2;have kq:aj (fun b=>b=bv\/c.lm.av.ownBlock=some b) w2 (B.setCell ⟨bv,5,none⟩ (.slice (some ⟨p,0,none⟩) k r)):=((aj.refl aA w2).drewN q2).aP.trans c2;have kF:aj (fun b=>b=bv\/c.lm.F b) w2 (B.setCell ⟨bv,5,none⟩ (.slice (some ⟨p,0,none⟩) k r)):=kq.mono (fun b hb=>hb.imp_right (fun h=>iQ h));have R3:=(ae HR2).kM c1 kF;have kf:aj (bY bv bm bo c) w2 (B.setCell ⟨bv,5,none⟩ (.slice (some ⟨p,0,none⟩) k r)):=kF.mono (fun b hb=>by
  rcases hb with h | h
  ·exact .inl h
  ·exact vk h)
 refine⟨_,R3,ae HS2,(ae HL2).trans (XQ _ rfl rfl rfl),ae abl,by show k+1=V.lg.na;rw[ae HNa],by show c.lg.ud+1=_;rw[ae abm],rfl,rfl,(ae Nz).from (kf.mono (ae HF2)),fun x o=>?_⟩;have h:bY bv bm bo c x:=by
  rcases o with h | h | h | h | h | h
  ·exact .inl h
  ·exact .inr (.inl h)
  ·exact jL h
  ·exact iQ h
  ·exact qo h
  ·exact vk (c4 x h)
 exact ae HF2 x h
theorem H9{w:World}{base c:Nat}{a:Option Addr}{b:List iT}(h:w.ownsRow base 93 3 (.slice a b.length c) b.length (jF b)){i:Nat}{l:iT}(e:b[i]?=some l):∃g,a=some ⟨g,0,none⟩/\g<w.heap.size/\w.cell? ⟨g,i * 3,none⟩=some (II l.af)/\w.cell? ⟨g,i * 3+1,none⟩=some (II l.az)/\w.cell? ⟨g,i * 3+2,none⟩=some (II l.num):=by
 have f:=(List.getElem?_eq_some_iff.1 e).1;have m:=(List.getElem?_eq_some_iff.1 e).2;obtain⟨g,rfl,_⟩:=gQ h (by omega);have d:∀j,j<3->w.cell? ⟨g,i * 3+j,none⟩=(l.cells)[j]?:=fun j k=>by
  rw[h.cellAt _ (by omega)];have:=KC b i j f k;rw[m]at this;rw[show i * 3+j=3 * i+j by omega,this]
 exact⟨g,rfl,(h.lt g rfl).2,d 0 (by omega),d 1 (by omega),d 2 (by omega)⟩
theorem I5(u v:Nat)(m o:Value)(a:List iT)(w:World)(c:w.ownsRow u 93 3 m a.length (jF a))(d:w.ownsRow v 93 3 o a.length (jF a))(x:a.length<=1000) :
 CT 103 #[m,o] w fun e w'=>e=.returned (.bool true)/\aj aA w w':=by
 obtain⟨t,c1,rfl⟩:=aJ c;obtain⟨a2,A,rfl⟩:=aJ d;have p:Hid (∀i l,a[i]?=some l->∃g,t=some ⟨g,0,none⟩/\g<w.heap.size/\w.cell? ⟨g,i * 3,none⟩=some (II l.af)/\w.cell? ⟨g,i * 3+1,none⟩=some (II l.az)/\w.cell? ⟨g,i * 3+2,none⟩=some (II l.num)):=fun i l b=>H9 c b
 have r:Hid (∀i l,a[i]?=some l->∃g,a2=some ⟨g,0,none⟩/\g<w.heap.size/\w.cell? ⟨g,i * 3,none⟩=some (II l.af)/\w.cell? ⟨g,i * 3+1,none⟩=some (II l.az)/\w.cell? ⟨g,i * 3+2,none⟩=some (II l.num)):=fun i l b=>H9 d b
 obtain⟨n,j⟩:=dQ a.length;have s:=ai j;rw[j]at x ⊢;clear c d j;go_enter Tryz.func103,Tryz.ntmps103;go_wp2;go_loopg [5] n (fun k z wr=>∃i q:Nat,z=II (i:Int)/\i<=n/\k=n-i/\wr=w.drewN q)
 case atStart=>exact⟨0,0,rfl,Nat.zero_le _,rfl,rfl⟩
 case round =>
  obtain⟨i,q,rfl,b,D,rfl⟩:=hrel;by_cases y:i<n
  ·obtain⟨l,f⟩:∃l,a[i]?=some l:=⟨_,List.getElem?_eq_getElem (by rw[ae s];exact y)⟩;obtain⟨B,rfl,E,G,H,I⟩:=ae p i l f;obtain⟨C,rfl,F,J,K,L⟩:=ae r i l f;clear f;go_wp2;go_quiet (fail);go_wp2;go_roundg (n-(i+1))
   case measure=>omega
   case rel=>exact⟨i+1,q+nq,by push_cast;rfl,by omega,rfl,by first | rfl | simp⟩
  ·obtain rfl:i=n:=by omega
   go_wp2;go_ret;exact⟨rfl,(aj.refl aA w).drewN _⟩
theorem Ai(b:Nat)(pv:Value)(c:Option Addr)(a d:Nat)(w:World)(h:au w b #[pv,.slice c a d] 78)(f:a<=1000000000) :
 CT 143 #[PP b] w fun e w'=>e=.returned (II (-1000-(a:Int)))/\w'=w:=by
 have g:CC w b 1 (.slice c a d):=h.cell 1;clear h;go_enter Tryz.func143,Tryz.ntmps143;go_wp2;go_ret;exact⟨by first | rfl | (congr 2;unfold wrap64;omega) | simp,rfl⟩
theorem di.aa3{p:Nat->Nat}{V c:aS}{S S':RS}{N:Nat}(h:di p V S N)(gw:GW c (mN N))(w:c.nb=V.nb)(s:∀j,(c.B j).sym=(V.B j).sym)(z:∀j,(c.B j).places=(V.B j).places)(x:c.no=V.no)(y:c.aV=V.aV)
 (C:S'.sy=S.sy) (J:S'.l.length=S.l.length) (A:S'.places=S.places) (L:S'.t=S.t) (H:S'.day=S.day) (O:∀k,k<S.l.length->ny (c.om (p k))=ny (ak S'.l k))
 (d:∀k,k<S.l.length->(ak S'.l k).id=(ak S.l k).id/\(ak S'.l k).sym=(ak S.l k).sym/\(ak S'.l k).place=(ak S.l k).place/\(0<(ak S'.l k).aH->0<(ak S.l k).aH)/\(c.om (p k)).place=(V.om (p k)).place)
 (D:c.lg.tr=V.lg.tr) (M:c.lg.tp=V.lg.tp) (I:c.lg.day=V.lg.day) (K:c.lg.ud+c.lg.na=V.lg.ud+V.lg.na):di p c S' N:=by
 refine⟨gw,by rw[w,C];exact h.nb,fun i v=>by rw[C,s i];exact h.sym i (by omega),by rw[x,J];exact h.no,fun k e=>?_,fun id b f=>?_,fun a b u f=>h.inj a b (by omega) (by omega),fun k e=>O k (by omega),fun a b u f hs o q=>?_,fun a b u f G hs o q=>?_,fun k e h0 i v hs=>?_,fun k e h0=>?_,fun i v=>?_,?_,by rw[D,L];exact h.tr,by rw[I,H];exact h.day,by rw[D];have:=h.xk;omega,by rw[M];have:=h.zA;omega,by rw[K];have:=h.zu;omega,by rw[x];exact h.fM,by rw[w];exact h.Pn,fun k e=>by rw[(d k (by omega)).1];exact h.xx k (by omega)⟩
 ·rw[y,(d k (by omega)).1];exact h.aV k (by omega)
 ·rw[y]at f;obtain⟨k,e,E,F⟩:=h.yY id b f;exact⟨k,by omega,by rw[(d k e).1];exact E,F⟩
 ·obtain⟨_,a2,a3,a4,a5⟩:=d a (by omega);obtain⟨_,g,m,n,r⟩:=d b (by omega);rw[a5,r,a3,m];exact h.place a b (by omega) (by omega) (by rw[<-a2,<-g];exact hs) (a4 o) (n q)
 ·obtain⟨_,a2,a3,a4,a5⟩:=d a (by omega);obtain⟨_,g,m,n,r⟩:=d b (by omega);rw[a3,m];exact h.wI a b (by omega) (by omega) G (by rw[<-a2,<-g];exact hs) (a4 o) (n q)
 ·obtain⟨_,a2,a3,a4,a5⟩:=d k (by omega);rw[a5,z i];exact h.Nb k (by omega) (a4 h0) i (by omega) (by rw[<-s i,hs,a2])
 ·obtain⟨_,a2,a3,a4,a5⟩:=d k (by omega);rw[a3,A];exact h.Nc k (by omega) (a4 h0)
 ·rw[z i];exact h.KQ i (by omega)
 ·rw[A];exact h.Po
theorem NL{S:RS}{j:Nat}{q:Int}(d:j<S.l.length)(o:iR):(eP (S.kN j q).l o).isNone=(eP S.l o).isNone:=by
 have g:∀a,ak (S.kN j q).l a=if a=j then qU (ak S.l j) q else ak S.l a:=fun a=>by
  simp only[RS.kN,RS.dN];exact eX d a
 have f:(S.kN j q).l.length=S.l.length:=by simp[RS.kN,RS.dN]
 have c:∀a,fF o (ak (S.kN j q).l a)=fF o (ak S.l a):=fun a=>by
  rw[g a];by_cases e:a=j
  ·rw[if_pos e,e];rfl
  ·rw[if_neg e]
 rw[Bool.eq_iff_iff,Option.isNone_iff_eq_none,Option.isNone_iff_eq_none];unfold eP;rw[lD,lD,f];constructor
 ·intro h k b;rw[<-c k];exact h k b
 ·intro h k b;rw[c k];exact h k b
theorem di.ZC{p:Nat->Nat}{V:aS}{S:RS}{N:Nat}(h:di p V S N){j i s t:Nat}{q:Int}{again:Bool}(a:j<S.l.length)(g:i<V.nb)(hs:s<2)(n:t=1-s)(k:(V.om (p j)).sym=(V.B i).sym)(m:(V.om (p j)).side=(t:Int)) :
 S.pU j q again=(again && (dS (V.om (p j)).kind && (dA (V.B i) V.om (bI (V.om (p j))) s).isNone)):=by
 have e:=h.same j a;obtain⟨r,x,b,c,d,y,z,A,C,u,v,w⟩:=fC e;have f:=h.qG (o:=bI (ak S.l j)) g hs n (by show (ak S.l j).sym=_;rw[<-b];exact k) (by show (ak S.l j).side=_;rw[<-c];exact m);unfold RS.pU;rw[NL a,MX e,d];congr 2;rw[<-Option.not_isSome,<-Option.not_isSome,f]
theorem di.bZ{p:Nat->Nat}{V x:aS}{S:RS}{N:Nat}(h:di p V S N)(hN:N<3000000){j i s t:Nat}{q P:Int}{again:Bool}(w:j<S.l.length)(z:i<V.nb)(hs:s<2)(hst:t=1-s)(Y:(V.om (p j)).sym=(V.B i).sym)(hside:(V.om (p j)).side=(t:Int))
 (H:∀a,a<V.nb->(V.B a).places<=P) (hPS:S.places<=P) (hP2:P+1<=2 * (N:Int)) (hq:1<=q) (hq2:q<=(V.om (p j)).filled) (tb:WV V (mN N) i s (p j) q again x) (lk:WR V.lg x.lg 3) :
 di p x (S.bZ j q again) N/\(∀a,a<x.nb->(x.B a).places<=P+1)/\(S.bZ j q again).places<=P+1/\(S.bZ j q again).told=S.told/\(S.bZ j q again).l.length=S.l.length:=by
 have X:=h.ZC (q:=q) (again:=again) w z hs hst Y hside;have K:=h.same j w;obtain⟨e1,W,e3,e4,e5,e6,e7,e8,e9,e10,e11,e12⟩:=fC K;obtain⟨O,Z,l3,l4,l5⟩:=lk;have T:∀a,a<S.l.length->a≠j->p a≠p j:=fun a c e W=>e (h.inj a j c w W)
 have hpi:=h.KQ i z;have hps:=h.Po;have C:VL V (p j):=(h.vl _).2 ⟨j,w,rfl⟩;have q1:=(h.gw.q _ C).sum;have q2:=(h.gw.q _ C).o0;have q3:=(h.gw.q _ C).f0;have q4:=(h.gw.q _ C).c0;have q5:=(h.gw.q _ C).e0;have q6:=(h.gw.q _ C).hi;have hmN:mN N<=1000000000000000:=by unfold mN;omega
 rcases tb.way with⟨y,E,A⟩ | ⟨c,hr,hf,E,A⟩
 ·have hb0:S.pU j q again=false:=by
   rw[X];rcases y with y | y | y
   ·rw[y];rfl
   ·rw[y];simp
   ·have:(dA (V.B i) V.om (bI (V.om (p j))) s).isNone=false:=by rw[<-Option.not_isSome,y];rfl
    rw[this];simp
  have L:S.bZ j q again=S.dN j { qU (ak S.l j) q with aX:=wrap64 ((ak S.l j).aX+q) }:=by
   unfold RS.bZ;rw[hb0];simp
  rw[L];have o:∀a,ak (S.dN j { qU (ak S.l j) q with aX:=wrap64 ((ak S.l j).aX+q) }).l a=if a=j then { qU (ak S.l j) q with aX:=wrap64 ((ak S.l j).aX+q) } else ak S.l a:=fun a=>by
   simp only[RS.dN];exact eX w a
  refine⟨h.aa3 tb.gw tb.nb tb.lV A tb.no tb.aV rfl (by simp[RS.dN]) rfl rfl rfl (fun a c=>?_) (fun a c=>?_) O Z l3 (by omega),fun a c=>?_,?_,rfl,by simp[RS.dN]⟩
  ·rw[E,o a];by_cases e:a=j
   ·rw[e,ah,if_pos rfl];show eY (ny (V.om (p j))) q=eY (ny (ak S.l j)) q;rw[K]
   ·rw[ag _ _ (T a c e),if_neg e];exact h.same a c
  ·rw[E,o a];by_cases e:a=j
   ·rw[e,ah,if_pos rfl];exact⟨rfl,rfl,rfl,fun h=>h,rfl⟩
   ·rw[ag _ _ (T a c e),if_neg e];exact⟨rfl,rfl,rfl,fun h=>h,rfl⟩
  ·rw[A a];have:=H a (by rw[<-tb.nb];exact c);omega
  ·show S.places<=_;omega
 ·have hb1:S.pU j q again=true:=by
   rw[X,c,hr,hf];rfl
  have L:S.bZ j q again=(S.kN j q).kC j q:=by
   unfold RS.bZ;rw[hb1];simp
  rw[L];have G:wrap64 ((V.B i).places+1)=(V.B i).places+1:=aU (by omega) (by omega);have ws:wrap64 (S.places+1)=S.places+1:=aU (by omega) (by omega);have hu:ak (S.kN j q).l j=qU (ak S.l j) q:=by simp only[RS.kN,RS.dN];rw[eX w,if_pos rfl]
  have v:((S.kN j q).kC j q).l.length=S.l.length:=by simp[RS.kC,RS.kN,RS.dN]
  have o:∀a,ak ((S.kN j q).kC j q).l a=if a=j then { qU (ak S.l j) q with place:=S.places+1,aH:=wrap64 ((ak S.l j).aH+q) } else ak S.l a:=fun a=>by
   simp only[RS.kC];rw[hu];simp only[RS.kN,RS.dN,List.set_set];rw[eX w a,ws]
   rfl
  have M:((S.kN j q).kC j q).places=S.places+1:=by
   show wrap64 (S.places+1)=_;exact ws
  have D:∀a,a<S.l.length->a≠j->x.om (p a)=V.om (p a):=fun a c e=>by rw[E];exact sO V i (p j) q (T a c e)
  have I:x.om (p j)={ fD (V.om (p j)) q with place:=(V.B i).places+1 }:=by rw[E,dW,G]
  have J:∀k,k<S.l.length->k≠j->0<(ak S.l k).aH->(ak S.l k).sym=(V.B i).sym->(V.om (p k)).place<=(V.B i).places/\(ak S.l k).place<=S.places:=fun k f e h0 d=>⟨h.Nb k f h0 i z d.symm,h.Nc k f h0⟩
  have F:(ak S.l j).sym=(V.B i).sym:=by rw[<-e3];exact Y
  refine⟨⟨tb.gw,by rw[tb.nb];exact h.nb,fun a c=>by rw[tb.lV a];exact h.sym a (by rw[<-tb.nb];exact c),by rw[tb.no,v];exact h.no,fun k f=>?_,fun id b n=>?_,fun a b c n=>h.inj a b (by omega) (by omega),fun k f=>?_,fun a b c n d r u=>?_,fun a b c n hab d r u=>?_,fun k f h0 a c d=>?_,fun k f h0=>?_,fun a c=>?_,?_,by rw[O];exact h.tr,by rw[l3];exact h.day,by rw[O];exact h.xk,by rw[Z];exact h.zA,by have:=h.zu;omega,by rw[tb.no];exact h.fM,by rw[tb.nb];exact h.Pn,fun k f=>?_⟩,fun a c=>?_,by rw[M];omega,rfl,v⟩
  ·rw[v]at f;rw[tb.aV,o k];by_cases e:k=j
   ·rw[if_pos e,e];exact h.aV j w
   ·rw[if_neg e];exact h.aV k f
  ·rw[tb.aV]at n;obtain⟨k,f,U,x2⟩:=h.yY id b n;refine⟨k,by rw[v];exact f,?_,x2⟩;rw[o k];by_cases e:k=j
   ·rw[if_pos e];rw[e]at U;exact U
   ·rw[if_neg e];exact U
  ·rw[v]at f;rw[o k];by_cases e:k=j
   ·rw[if_pos e,e,I];show fD (ny (V.om (p j))) q=fD (ny (ak S.l j)) q;rw[K]
   ·rw[if_neg e,D k f e];exact h.same k f
  ·rw[v]at c n;rw[o a]at d r ⊢;rw[o b]at d u ⊢;by_cases g:a=j <;> by_cases m:b=j
   ·rw[g,m];exact⟨fun h=>by omega,fun h=>by omega⟩
   ·rw[if_neg m]at d u ⊢;rw[if_pos g]at d ⊢;obtain⟨Q,R⟩:=J b n m u (by rw[<-d];exact F);rw[g,I,D b n m];show (V.B i).places+1<(V.om (p b)).place↔S.places+1<(ak S.l b).place;omega
   ·rw[if_neg g]at d r ⊢;rw[if_pos m]at d ⊢;obtain⟨Q,R⟩:=J a c g r (by rw[d];exact F);rw[m,I,D a c g];show (V.om (p a)).place<(V.B i).places+1↔(ak S.l a).place<S.places+1;omega
   ·rw[if_neg g]at d r ⊢;rw[if_neg m]at d u ⊢;rw[D a c g,D b n m];exact h.place a b c n d r u
  ·rw[v]at c n;rw[o a]at d r ⊢;rw[o b]at d u ⊢;by_cases g:a=j <;> by_cases m:b=j
   ·omega
   ·rw[if_neg m]at d u ⊢;rw[if_pos g]at d ⊢;obtain⟨Q,R⟩:=J b n m u (by rw[<-d];exact F);show S.places+1≠(ak S.l b).place;omega
   ·rw[if_neg g]at d r ⊢;rw[if_pos m]at d ⊢;obtain⟨Q,R⟩:=J a c g r (by rw[d];exact F);show (ak S.l a).place≠S.places+1;omega
   ·rw[if_neg g]at d r ⊢;rw[if_neg m]at d u ⊢;exact h.wI a b c n hab d r u
  ·rw[v]at f;rw[tb.nb]at c;rw[tb.lV a]at d;rw[o k]at d h0;rw[A a];by_cases e:k=j
   ·rw[if_pos e]at d;have ej:a=i:=h.gw.mW a i c z (by rw[d];exact F);rw[e,I,if_pos ej,G];show (V.B i).places+1<=(V.B i).places+1;omega
   ·rw[if_neg e]at d h0;rw[D k f e];have:=h.Nb k f h0 a c d;split
    ·rename_i hx;rw[hx]at this;rw[G];omega
    ·exact this
  ·rw[v]at f;rw[o k]at h0 ⊢;rw[M];by_cases e:k=j
   ·rw[if_pos e];show S.places+1<=_;omega
   ·rw[if_neg e]at h0 ⊢;have:=h.Nc k f h0;omega
  ·rw[tb.nb]at c;rw[A a];have:=h.KQ a c;have:=H i z;split
   ·rw[G];omega
   ·omega
  ·rw[M];omega
  ·rw[v]at f;rw[o k];by_cases e:k=j
   ·rw[if_pos e];exact h.xx j w
   ·rw[if_neg e];exact h.xx k f
  ·rw[tb.nb]at c;rw[A a];have:=H a c;have:=H i z;split
   ·rw[G];omega
   ·omega
theorem WV.fl{V a:aS}{M:Int}{i s b:Nat}{q id:Int}{again:Bool}{o:List Tr}{c d:Int->Int}(tb:WV V M i s b q again a)(k:FL V.om V.aV o c)(n:V.aV id=some b)(l:M<=1000000000000000)(m:Qo M (V.om b))(r:1<=q)(p:q<=(V.om b).filled)(f:d id=c id-q)(g:∀j,j≠id->d j=c j):FL a.om a.aV o d:=by
 rw[tb.aV];rcases tb.way with⟨_,e,_⟩ | ⟨_,_,_,e,_⟩
 ·rw[e];exact k.pU n (fun x h=>ag _ _ h) (by rw[ah];rfl) (by rw[ah];rfl) (by rw[ah];rfl) (by rw[ah];exact (m.eY l (by omega) p).2) f g
 ·rw[e];exact k.pU n (fun x h=>sO V i b q h) (by rw[dW];rfl) (by rw[dW];rfl) (by rw[dW];rfl) (by rw[dW];exact (m.fD l (by omega) p 0).2.1) f g
end Go.Proofs.YtigaphnafnpfnaaGreatDoor
