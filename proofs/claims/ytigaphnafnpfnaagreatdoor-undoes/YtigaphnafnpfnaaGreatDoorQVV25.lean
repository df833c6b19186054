import Derived.Test.YtigaphnafnpfnaaGreatDoorQVV21
import Derived.Test.YtigaphnafnpfnaaGreatDoorQVV12
import Derived.Test.YtigaphnafnpfnaaGreatDoorQVU5
set_option linter.unusedVariables false
set_option linter.unusedSimpArgs false
set_option maxHeartbeats 8000000
set_option maxRecDepth 100000
namespace Go.Proofs.YtigaphnafnpfnaaGreatDoor
open Go.RowKit
def HS(V:aS):Prop:=∀i,i<V.nb->∀s,s<2->ed (fE V.om) ((V.B i).n s) ((V.B i).h s)/\qX ((V.B i).n s) ((V.B i).h s)/\∀k,k<(V.B i).n s->(V.om ((V.B i).h s k)).side=(s:Int)
structure dK(V V':aS):Prop where
 nb:V'.nb=V.nb
 bk:∀i,i<V.nb->V'.bk i=V.bk i
 sym:∀i,i<V.nb->(V'.B i).sym=(V.B i).sym
 uO:∀i,i<V.nb->(V'.B i).places=(V.B i).places
 mem:∀i,i<V.nb->∀s,s<2->∀x,Mem ((V'.B i).n s) ((V'.B i).h s) x↔Mem ((V.B i).n s) ((V.B i).h s) x
 aV:V'.aV=V.aV
 no:V'.no=V.no
 om:∀x,VL V x->V'.om x=V.om x
 tr:V'.lg.tr=V.lg.tr
 day:V'.lg.day=V.lg.day
 tb:V'.lm.tb=V.lm.tb
theorem dK.refl(V:aS):dK V V:=⟨rfl,fun _ _=>rfl,fun _ _=>rfl,fun _ _=>rfl,fun _ _ _ _ _=>Iff.rfl,rfl,rfl,fun _ _=>rfl,rfl,rfl,rfl⟩
theorem dK.vl{V a:aS}(h:dK V a)(x:Nat):VL a x↔VL V x:=by unfold VL;rw[h.aV]
theorem dK.trans{V c d:aS}(h:dK V c)(a:dK c d):dK V d:=by
 have e:=h.nb;exact⟨a.nb.trans h.nb,fun i b=>(a.bk i (by omega)).trans (h.bk i b),fun i b=>(a.sym i (by omega)).trans (h.sym i b),fun i b=>(a.uO i (by omega)).trans (h.uO i b),fun i b s hs x=>(a.mem i (by omega) s hs x).trans (h.mem i b s hs x),a.aV.trans h.aV,a.no.trans h.no,fun x f=>(a.om x ((h.vl x).2 f)).trans (h.om x f),a.tr.trans h.tr,a.day.trans h.day,a.tb.trans h.tb⟩
theorem dK.symm{V b:aS}(h:dK V b):dK b V:=by
 have e:=h.nb;exact⟨h.nb.symm,fun i a=>(h.bk i (by omega)).symm,fun i a=>(h.sym i (by omega)).symm,fun i a=>(h.uO i (by omega)).symm,fun i a s hs x=>(h.mem i (by omega) s hs x).symm,h.aV.symm,h.no.symm,fun x c=>(h.om x ((h.vl x).1 c)).symm,h.tr.symm,h.day.symm,h.tb.symm⟩
theorem dK.gw{V m:aS}{M:Int}(h:dK V m)(hs:HS m)(g:GW V M):GW m M:=by
 have e:=h.nb;refine⟨fun i f=>?_,fun i j f v p=>?_,fun x d=>?_,fun x d=>?_,fun x d=>?_⟩
 ·have k:i<V.nb:=by omega
  have l:=g.gb i k;refine⟨rfl,fun s hs x=>?_,fun s n=>(hs i f s n).1,fun s n=>(hs i f s n).2.1,fun x y d u=>?_⟩
  ·rw[h.mem i k s hs x,l.mem s hs x,h.sym i k];constructor
   ·rintro⟨a,b⟩;rw[h.om x a];exact⟨(h.vl x).2 a,b⟩
   ·rintro⟨a,b⟩;have o:=(h.vl x).1 a;rw[h.om x o]at b;exact⟨o,b⟩
  ·have c:=(h.mem i k 0 (by omega) x).1 d;have r:=(h.mem i k 1 (by omega) y).1 u;rw[h.om x ((l.mem 0 (by omega) x).1 c).1,h.om y ((l.mem 1 (by omega) y).1 r).1];exact l.qG x y c r
 ·rw[h.sym i (by omega),h.sym j (by omega)]at p;exact g.mW i j (by omega) (by omega) p
 ·have c:=(h.vl x).1 d;rw[h.om x c];exact g.q x c
 ·have c:=(h.vl x).1 d;obtain⟨i,f,t⟩:=g.sym x c;exact⟨i,by omega,by rw[h.om x c,h.sym i f];exact t⟩
 ·have c:=(h.vl x).1 d;rw[h.om x c];exact g.side x c
theorem GW.hs{V:aS}{M:Int}(g:GW V M):HS V:=fun i b s a=>⟨(g.gb i b).heap s a,(g.gb i b).inj s a,fun k c=>(g.gb i b).side a c⟩
theorem dK.acj{p:Nat->Nat}{V d:aS}{S:RS}{N f:Nat}(h:dK V d)(hs:HS d)(g:di p V S N)(q:N<=f)(t:d.lg.tp.length<=300 * f)(r:d.lg.ud+d.lg.na<=f):di p d S f:=by
 have e:=h.nb;have vl:∀k,k<S.l.length->VL V (p k):=fun k c=>⟨_,g.aV k c⟩
 have u:=g.KQ;have v:=g.Po;have w:=g.xk;refine⟨(h.gw hs g.gw).mono (rU q),h.nb.trans g.nb,fun i n=>?_,h.no.trans g.no,fun k c=>by rw[h.aV];exact g.aV k c,fun id b j=>g.yY id b (by rw[<-h.aV];exact j),g.inj,fun k c=>by rw[h.om _ (vl k c)];exact g.same k c,fun a b m j=>by rw[h.om _ (vl a m),h.om _ (vl b j)];exact g.place a b m j,g.wI,fun k c s i n o=>?_,g.Nc,fun i n=>?_,⟨v.1,by omega⟩,h.tr.trans g.tr,h.day.trans g.day,by rw[h.tr];omega,t,r,by rw[h.no];exact g.fM,by rw[h.nb];exact g.Pn,g.xx⟩
 ·rw[h.sym i (by omega)];exact g.sym i (by omega)
 ·rw[h.sym i (by omega)]at o;rw[h.om _ (vl k c),h.uO i (by omega)];exact g.Nb k c s i (by omega) o
 ·have:=u i (by omega);rw[h.uO i (by omega)];exact⟨this.1,by omega⟩
open Go.RowKit Go.Maps
theorem dL.iW{w w':World}{bv d f b:Nat}{V:aS}{o':Ord}{c:Int}(R:dL w bv d f V)(a:bV w b (V.om b) c)(k:aj (fun x=>x=b) w w')(j:bV w' b o' c)(t:o'.id=(V.om b).id):dL w' bv d f { V with om:=aK V.om b o' }:=by
 obtain⟨n,l,o,p⟩:=R.iM;obtain⟨q,m,r⟩:=R.fA;refine⟨R.aO.aC k (fun e=>au.ne R.cO a (by decide) e) (fun y z e=>?_),⟨n,l.aC k (l.ne a),o,p⟩,⟨q,m.aC k (m.ne a),r⟩,R.F5,fun i s=>(R.aW i s).aK a k j,fun id x u=>?_,R.mem,R.rY,R.nX,R.fM⟩
 ·subst e;exact R.aO.aO.ne a (by decide) (by decide) (by decide) (by decide) (by decide) z
 ·obtain⟨g,A,v⟩:=R.bg id x u;by_cases e:x=b
  ·subst e;simp only[ah];exact⟨by rw[t];exact g,c,j⟩
  ·simp only[ag _ _ e];exact⟨g,A,k.ay v e⟩
theorem U4(bv a c b H:Nat)(o:Ord)(V:aS)(w:World)(R:dL w bv a c V)(i:VL V b)(j:o.id=(V.om b).id)(l:xE w H b o) :
 CT 151 #[dh (H+1),dh H] w fun e w'=>e=.returned (.tuple #[])/\dL w' bv a c { V with om:=aK V.om b { o with place:=(V.om b).place } }/\aj (fun x=>x=b) w w':=by
 obtain⟨id,k⟩:=i;obtain⟨_,m,f⟩:=R.bg id b k;refine (Rz b H o (V.om b) m w f l).mono ?_;rintro e w' ⟨rfl,g,d⟩;exact⟨rfl,R.iW f d g j,d⟩
theorem Q8(bv l o b H i s:Nat)(V:aS)(w:World)(R:dL w bv l o V)(q:i<V.nb)(hs:s<2)(f:VL V b)(K:(V.om b).side=(s:Int))(y:∀j,j<V.nb->∀t,t<2->∀k,k<(V.B j).n t->(V.B j).h t k≠b)(G:(V.B i).n s<1000)(J:wB w H (V.bk i) b) :
 CT 117 #[dh H,dh (H+1)] w fun e w'=>e=.returned (.tuple #[])/\∃g cap',dL w' bv l o { V with B:=aK V.B i ((V.B i).push V.om s b g cap') }/\aj (fun x=>x=V.bk i\/x=b\/dn (V.B i) s x) w w'/\∀x,bY bv l o { V with B:=aK V.B i ((V.B i).push V.om s b g cap') } x->bY bv l o V x\/w.heap.size<=x:=by
 have m:=R.sG q;refine (UR (V.bk i) b s H (V.B i) V.om (VL V) w m f J hs K (y i q) G).mono ?_;rintro e w' ⟨rfl,g,cap',m',k',D⟩;have u:pV V i b:=fun j v L t d h=>by
  rcases h with h | ⟨k,c,e⟩
  ·obtain⟨id,E⟩:=f;obtain⟨_,M,I⟩:=R.bg id b E;exact ((R.aW j v).side t d).ne I (by decide) h
  ·exact y j v t d k c e.symm
 have C:=Next.of (V:=V) R q (B':=(V.B i).push V.om s b g cap') (dG:=V.om) (G':=V.lg) (bG:=V.lm) (fun r=>r={ V with B:=aK V.B i ((V.B i).push V.om s b g cap') }) m' (R.aO.jG k' (fun x h=>m.gZ (by
  rcases h with h | h | h
  ·exact .inl h
  ·exact .inr (.inl (by rw[h];exact f))
  ·exact .inr (.inr ⟨s,hs,h⟩)))) (fun x a=>.inl a) k' (fun x a=>by
  rcases a with h | h | h
  ·exact jL h
  ·exact xA (by rw[h];exact⟨f,u⟩)
  ·exact iQ ⟨s,hs,h⟩) (fun _ _ _ _ _ _ _=>rfl) (fun _=>rfl) rfl (fun t d x a=>?_) rfl
 ·obtain⟨r,z,rfl,N,A⟩:=C;exact⟨rfl,g,cap',z,k',A⟩
 ·by_cases e:t=s
  ·subst e;rcases a with a | ⟨k,c,rfl⟩
   ·simp only[Bk.push,ah,ig,Option.map_some,Option.some.injEq]at a;rcases D with h | h
    ·exact .inl ⟨t,d,.inl (by rw[h,a])⟩
    ·exact .inr (.inr (by omega))
   ·simp only[Bk.push,ah]at c ⊢;rcases (jf (lt:=fE V.om) ((V.B i).h t) b _).1 ⟨k,c,rfl⟩ with⟨k',F,p⟩ | p
    ·exact .inl ⟨t,d,.inr ⟨k',F,p⟩⟩
    ·rw[p];exact .inr (.inl ⟨f,u⟩)
  ·refine .inl ⟨t,d,?_⟩;rcases a with a | ⟨k,c,rfl⟩
   ·simp only[Bk.push,ag _ _ e]at a;exact .inl a
   ·simp only[Bk.push,ag _ _ e]at c ⊢;exact .inr ⟨k,c,rfl⟩
theorem SB(bv c d H i s j:Nat)(p:Int)(V:aS)(w:World)(R:dL w bv c d V)(f:i<V.nb)(hs:s<2)(r:j<(V.B i).n s)(G:(V.om ((V.B i).h s j)).side=(s:Int))(F:¬bY bv c d V (H+1))(E:wE w H (V.bk i) ((V.B i).h s j) p) :
 CT 153 #[dh H,dh (H+1),dh (H+2)] w fun e w'=>e=.returned (.tuple #[])/\dL w' bv c d { V with B:=aK V.B i ((V.B i).kU V.om s j),om:=aK V.om ((V.B i).h s j) { V.om ((V.B i).h s j) with place:=p } }/\aj (fun x=>x=V.bk i\/dn (V.B i) s x) w w' /\
  ∀x,bY bv c d { V with B:=aK V.B i ((V.B i).kU V.om s j),om:=aK V.om ((V.B i).h s j) { V.om ((V.B i).h s j) with place:=p } } x->bY bv c d V x\/w.heap.size<=x:=by
 have m:=R.sG f;refine (FB (V.bk i) s j H p (V.B i) V.om (VL V) w m hs r E G (fun e=>F (iQ ⟨i,f,.inr ⟨s,hs,.inl e⟩⟩))).mono ?_;rintro e w' ⟨rfl,m',k'⟩;have z:=Next.of (V:=V) R f (B':=(V.B i).kU V.om s j) (dG:=aK V.om ((V.B i).h s j) { V.om ((V.B i).h s j) with place:=p }) (G':=V.lg) (bG:=V.lm) (fun q=>q={ V with B:=aK V.B i ((V.B i).kU V.om s j),om:=aK V.om ((V.B i).h s j) { V.om ((V.B i).h s j) with place:=p } }) m' (R.aO.jG k' (fun x h=>m.gZ (by
  rcases h with h | h
  ·exact .inl h
  ·exact .inr (.inr ⟨s,hs,h⟩)))) (fun x b=>.inl b) k' (fun x b=>by
  rcases b with h | h
  ·exact jL h
  ·exact iQ ⟨s,hs,h⟩) (fun a A D t o l C=>?_) (fun x=>?_) rfl (fun t o x b=>?_) rfl
 ·obtain⟨q,v,rfl,I,y⟩:=z;exact⟨rfl,v,k',y⟩
 ·rw[ag];intro e;exact R.nX i a f A (fun e=>D e.symm) s t hs o _ (.inr ⟨j,r,rfl⟩) (.inr ⟨l,C,e.symm⟩)
 ·by_cases e:x=(V.B i).h s j
  ·rw[e,ah]
  ·rw[ag _ _ e]
 ·refine .inl ⟨t,o,?_⟩;by_cases e:t=s
  ·subst e;rcases b with b | ⟨k,g,rfl⟩
   ·exact .inl b
   ·simp only[Bk.kU,Bk.leave,ah]at g ⊢;have u:Mem ((V.B i).n t-1+1) ((V.B i).h t) (eG (fE V.om) ((V.B i).h t) ((V.B i).n t-1) j k):=(qf (lt:=fE V.om) ((V.B i).h t) j (by omega) _).1 ⟨k,by omega,rfl⟩;rw[show (V.B i).n t-1+1=(V.B i).n t by omega]at u;exact .inr u
  ·rcases b with b | ⟨k,g,rfl⟩
   ·exact .inl b
   ·simp only[Bk.kU,Bk.leave,ag _ _ e]at g ⊢;exact .inr ⟨k,g,rfl⟩
theorem HS.fV{V:aS}{b:Nat}{o:Ord}(h:HS V)(r:∀i,i<V.nb->∀s,s<2->Mem ((V.B i).n s) ((V.B i).h s) b->o.side=(V.om b).side/\o.af=(V.om b).af):HS { V with om:=aK V.om b { o with place:=(V.om b).place } }:=by
 intro i l s hs;obtain⟨m,p,q⟩:=h i l s hs;have d:∀k,k<(V.B i).n s->(aK V.om b { o with place:=(V.om b).place } ((V.B i).h s k)).side=(V.om ((V.B i).h s k)).side/\(aK V.om b { o with place:=(V.om b).place } ((V.B i).h s k)).af=(V.om ((V.B i).h s k)).af/\(aK V.om b { o with place:=(V.om b).place } ((V.B i).h s k)).place=(V.om ((V.B i).h s k)).place:=fun k f=>by
  by_cases e:(V.B i).h s k=b
  ·have:=r i l s hs ⟨k,f,e.symm⟩;rw[e,ah];exact⟨this.1,this.2,rfl⟩
  ·rw[ag _ _ e];exact⟨rfl,rfl,rfl⟩
 refine⟨m.lW (fun a c g j=>?_),p,fun k f=>(d k f).1.trans (q k f)⟩;unfold fE jm kP;rw[(d a g).1,(d a g).2.1,(d a g).2.2,(d c j).2.1,(d c j).2.2]
theorem HS.push{V:aS}{i s b g cap':Nat}(h:HS V)(D:i<V.nb)(hs:s<2)(x:(V.om b).side=(s:Int))(w:∀k,k<(V.B i).n s->(V.B i).h s k≠b):HS { V with B:=aK V.B i ((V.B i).push V.om s b g cap') }:=by
 intro j v t y;by_cases e:j=i
 ·subst e;simp only[ah];obtain⟨r,u,o⟩:=h j v t y;by_cases q:t=s
  ·subst q;simp only[Bk.push,ah];refine⟨Ff (l9 V.om (t:Int)) _ b x (fun k p=>o k p) r,?_,fun k p=>?_⟩
   ·refine qX.up (fun a c A C d=>?_) (by omega);by_cases l:a=(V.B j).n t <;> by_cases m:c=(V.B j).n t
    ·omega
    ·simp only[l,m,if_true,if_false]at d;exact absurd d.symm (w c (by omega))
    ·simp only[l,m,if_true,if_false]at d;exact absurd d (w a (by omega))
    ·simp only[l,m,if_false]at d;exact u a c (by omega) (by omega) d
   ·rcases (jf (lt:=fE V.om) ((V.B j).h t) b _).1 ⟨k,p,rfl⟩ with⟨k',z,f⟩ | f
    ·rw[f];exact o k' z
    ·rw[f];exact x
  ·simp only[Bk.push,ag _ _ q];exact⟨r,u,o⟩
 ·simp only[ag _ _ e];exact h j v t y
theorem HS.kU{V:aS}{i s k:Nat}{p:Int}(h:HS V)(E:i<V.nb)(hs:s<2)(C:k<(V.B i).n s)(x:∀j,j<V.nb->∀t,t<2->Mem ((V.B j).n t) ((V.B j).h t) ((V.B i).h s k)->j=i/\t=s):HS { V with B:=aK V.B i ((V.B i).kU V.om s k),om:=aK V.om ((V.B i).h s k) { V.om ((V.B i).h s k) with place:=p } }:=by
 have FZ:∀(n:Nat) (f:Nat->Nat) (t:Nat),ed (fE V.om) n f->(∀a,a<n->(V.om (f a)).side=(t:Int))->(∀a,a<n->f a≠(V.B i).h s k)->ed (fE (aK V.om ((V.B i).h s k) { V.om ((V.B i).h s k) with place:=p })) n f/\∀a,a<n->(aK V.om ((V.B i).h s k) { V.om ((V.B i).h s k) with place:=p } (f a)).side=(t:Int):=fun n f t g l d =>
  ⟨g.lW (fun a c b v=>by unfold fE jm kP;rw[ag _ _ (d a b),ag _ _ (d c v)]),fun a b=>by rw[ag _ _ (d a b)];exact l a b⟩
 intro j q t u;obtain⟨g,l,d⟩:=h j q t u;by_cases e:j=i
 ·subst e;simp only[ah];by_cases o:t=s
  ·subst o;simp only[Bk.kU,Bk.leave,ah];obtain⟨n,D⟩:∃n,(V.B j).n t=n+1:=⟨(V.B j).n t-1,by omega⟩;rw[D]at g l d C ⊢;simp only[Nat.add_sub_cancel];have w:=l.qw (lt:=fE V.om) (i:=k) (n:=n) (by omega);have y:∀a,a<n->Mem (n+1) ((V.B j).h t) (eG (fE V.om) ((V.B j).h t) n k a)/\eG (fE V.om) ((V.B j).h t) n k a≠(V.B j).h t k:=fun a b=>(jY ((V.B j).h t) k (by omega) w _).1 ⟨a,b,rfl⟩
   have r:=FZ n (eG (fE V.om) ((V.B j).h t) n k) t (DC (l9 V.om (t:Int)) _ k (by omega) (fun a b=>d a b) g) (fun a b=>by
    obtain⟨⟨z,A,m⟩,_⟩:=y a b;rw[m];exact d z A) (fun a b=>(y a b).2)
   exact⟨r.1,fun a c b v=>w a c (by omega) (by omega),r.2⟩
  ·simp only[Bk.kU,Bk.leave,ag _ _ o];have r:=FZ _ ((V.B j).h t) t g d (fun a b m=>o (x j q t u ⟨a,b,m.symm⟩).2);exact⟨r.1,l,r.2⟩
 ·simp only[ag _ _ e];have r:=FZ _ ((V.B j).h t) t g d (fun a b m=>e (x j q t u ⟨a,b,m.symm⟩).1);exact⟨r.1,l,r.2⟩
def Ee(V:aS)(b:Nat):Prop:=∀j,j<V.nb->∀t,t<2->¬Mem ((V.B j).n t) ((V.B j).h t) b
structure Wn(i s:Nat)(P:Nat->Prop)(pl:Int)(V1 V:aS):Prop where
 nb:V.nb=V1.nb
 bk:∀j,j<V1.nb->V.bk j=V1.bk j
 sym:∀j,j<V1.nb->(V.B j).sym=(V1.B j).sym
 uO:∀j,j<V1.nb->(V.B j).places=if j=i then pl else (V1.B j).places
 mem:∀j,j<V1.nb->∀t,t<2->∀x,Mem ((V.B j).n t) ((V.B j).h t) x↔if j=i/\t=s then P x else Mem ((V1.B j).n t) ((V1.B j).h t) x
 aV:V.aV=V1.aV
 no:V.no=V1.no
 tr:V.lg.tr=V1.lg.tr
 day:V.lg.day=V1.lg.day
 tb:V.lm.tb=V1.lm.tb
def Cj(bk:Nat->Nat)(d:dU)(T:List (Int × Tr))(V V1:aS):Prop :=
 match d with
 | .fV b o=>T=[]/\VL V1 b/\o.id=(V1.om b).id/\(∀i,i<V1.nb->∀s,s<2->Mem ((V1.B i).n s) ((V1.B i).h s) b->o.side=(V1.om b).side/\o.af=(V1.om b).af)/\dK V { V1 with om:=aK V1.om b { o with place:=(V1.om b).place } }
 | .left b=>T=[]/\∃i s:Nat,i<V1.nb/\s<2/\bk b=V1.bk i/\VL V1 b/\(V1.om b).side=(s:Int)/\Ee V1 b/\Wn i s (fun x=>Mem ((V1.B i).n s) ((V1.B i).h s) x\/x=b) (V1.B i).places V1 V/\∀x,VL V1 x->V.om x=V1.om x
 | .eQ b p=>T=[]/\∃i s:Nat,i<V1.nb/\s<2/\bk b=V1.bk i/\VL V1 b/\Mem ((V1.B i).n s) ((V1.B i).h s) b/\Wn i s (fun x=>Mem ((V1.B i).n s) ((V1.B i).h s) x/\x≠b) (wrap64 ((V1.B i).places-1)) V1 V/\∀x,VL V1 x->V.om x=aK V1.om b { V1.om b with place:=p } x
 | .entered id=>T=[]/\∃b,V1.aV id=some b/\(Lit.int .i64 id).wf=true/\0<V1.no/\Ee V1 b/\dK V (V1.yG id)
 | .bU s=>T=[]/\∃n,V1.nb=n+1/\(V1.B n).sym=s/\s.size<=maxLen/\dK V V1.uU
 | .jh t=>T=[(2,t)]/\∃L x,V1.lg.tr=L++[x]/\t.num=(L.length:Int)+1/\dK V { V1 with lg:={ V1.lg with tr:=L },lm:={ V1.lm with tb:=V1.lm.tb.dropLast } }
 | .jV tb=>∃k x,T=[(1,x.t)]/\V1.lg.tr[k]?=some x/\V1.lm.tb[k]?=some tb/\dK V { V1 with lg:=V1.lg.qp k x.t }
 | .iV tb p=>∃k x,T=[(3,x.t.at p)]/\V1.lg.tr[k]?=some x/\V1.lm.tb[k]?=some tb/\dK V { V1 with lg:=V1.lg.jE k x p }
 | .closed=>T=[]/\dK V { V1 with lg:={ V1.lg with day:=wrap64 (V1.lg.day-1) } }
section
variable {V V1 Vc : aS}
theorem dK.out(h:dK V1 Vc){b:Nat}(e:Ee V1 b):Ee Vc b:=fun j a t c d=>e j (by rw[<-h.nb];exact a) t c ((h.mem j (by rw[<-h.nb];exact a) t c b).1 d)
theorem Rf(h:dK V1 Vc){b:Nat}{o:Ord}(c:VL V1 b)(a:dK V { V1 with om:=aK V1.om b { o with place:=(V1.om b).place } }):dK V { Vc with om:=aK Vc.om b { o with place:=(Vc.om b).place } }:=by
 refine a.trans ⟨h.nb,h.bk,h.sym,h.uO,h.mem,h.aV,h.no,fun x d=>?_,h.tr,h.day,h.tb⟩;by_cases e:x=b
 ·subst e;simp only[ah];rw[h.om x c]
 ·simp only[ag _ _ e];exact h.om x d
theorem Oq(h:dK V1 Vc){i s b g cap':Nat}(p:i<V1.nb)(hs:s<2)(a:Wn i s (fun x=>Mem ((V1.B i).n s) ((V1.B i).h s) x\/x=b) (V1.B i).places V1 V)(l:∀x,VL V1 x->V.om x=V1.om x) :
 dK V { Vc with B:=aK Vc.B i ((Vc.B i).push Vc.om s b g cap') }:=by
 have vl:∀x,VL V x↔VL V1 x:=fun x=>by unfold VL;rw[a.aV]
 have o:=a.nb;refine⟨h.nb.trans a.nb.symm,fun j f=>(h.bk j (by omega)).trans (a.bk j (by omega)).symm,fun j f=>?_,fun j f=>?_,fun j f t c x=>?_,h.aV.trans a.aV.symm,h.no.trans a.no.symm,fun x m=>?_,h.tr.trans a.tr.symm,h.day.trans a.day.symm,h.tb.trans a.tb.symm⟩
 ·rw[a.sym j (by omega),<-h.sym j (by omega)];by_cases e:j=i
  ·subst e;simp only[ah];rfl
  ·simp only[ag _ _ e]
 ·rw[a.uO j (by omega)];by_cases e:j=i
  ·subst e;simp only[ah,if_true];exact h.uO j (by omega)
  ·simp only[ag _ _ e,if_neg e];exact h.uO j (by omega)
 ·rw[a.mem j (by omega) t c x];by_cases e:j=i
  ·subst e;by_cases d:t=s
   ·subst d;simp only[ah,Bk.push,and_self,if_true];rw[jf,h.mem j (by omega) t c x]
   ·simp only[ah,Bk.push,ag _ _ d,d,and_false,if_false];exact h.mem j (by omega) t c x
  ·simp only[ag _ _ e,e,false_and,if_false];exact h.mem j (by omega) t c x
 ·have k:=(vl x).1 m;rw[l x k];exact h.om x k
theorem Ot(h:dK V1 Vc)(v:HS Vc){i s k b:Nat}{p:Int}(A:i<V1.nb)(hs:s<2)(q:k<(Vc.B i).n s)(l:b=(Vc.B i).h s k)(C:VL V1 b)(a:Wn i s (fun x=>Mem ((V1.B i).n s) ((V1.B i).h s) x/\x≠b) (wrap64 ((V1.B i).places-1)) V1 V)(u:∀x,VL V1 x->V.om x=aK V1.om b { V1.om b with place:=p } x) :
 dK V { Vc with B:=aK Vc.B i ((Vc.B i).kU Vc.om s k),om:=aK Vc.om ((Vc.B i).h s k) { Vc.om ((Vc.B i).h s k) with place:=p } }:=by
 have vl:∀x,VL V x↔VL V1 x:=fun x=>by unfold VL;rw[a.aV]
 have y:=a.nb;have z:=h.nb;rw[<-l];refine⟨h.nb.trans a.nb.symm,fun j f=>(h.bk j (by omega)).trans (a.bk j (by omega)).symm,fun j f=>?_,fun j f=>?_,fun j f t c x=>?_,h.aV.trans a.aV.symm,h.no.trans a.no.symm,fun x w=>?_,h.tr.trans a.tr.symm,h.day.trans a.day.symm,h.tb.trans a.tb.symm⟩
 ·rw[a.sym j (by omega),<-h.sym j (by omega)];by_cases e:j=i
  ·subst e;simp only[ah];rfl
  ·simp only[ag _ _ e]
 ·rw[a.uO j (by omega)];by_cases e:j=i
  ·subst e;simp only[ah,if_true,Bk.kU];rw[h.uO j (by omega)]
  ·simp only[ag _ _ e,if_neg e];exact h.uO j (by omega)
 ·rw[a.mem j (by omega) t c x];by_cases e:j=i
  ·subst e;by_cases d:t=s
   ·subst d;simp only[ah,Bk.kU,Bk.leave,and_self,if_true];obtain⟨n,r⟩:∃n,(Vc.B j).n t=n+1:=⟨(Vc.B j).n t-1,by omega⟩;have o:=h.mem j (by omega) t c x;have m:=(v j (by omega) t c).2.1;rw[r]at o m q ⊢;simp only[Nat.add_sub_cancel];rw[jY _ k (by omega) (m.qw (by omega)),o,l]
   ·simp only[ah,Bk.kU,Bk.leave,ag _ _ d,d,and_false,if_false];exact h.mem j (by omega) t c x
  ·simp only[ag _ _ e,e,false_and,if_false];exact h.mem j (by omega) t c x
 ·have g:=(vl x).1 w;rw[u x g];by_cases e:x=b
  ·subst e;simp only[ah];rw[h.om x g]
  ·simp only[ag _ _ e];exact h.om x g
theorem J9(h:dK V1 Vc){id:Int}(b:dK V (V1.yG id)):dK V (Vc.yG id) :=
 b.trans ⟨h.nb,h.bk,h.sym,h.uO,h.mem,by show (fun i=>if i=id then none else Vc.aV i)=_;rw[h.aV];rfl,by show Vc.no-1=V1.no-1;rw[h.no],fun x c=>h.om x (by
  obtain⟨j,a⟩:=c;simp only[aS.yG]at a;by_cases e:j=id
  ·rw[if_pos e]at a;simp at a
  ·rw[if_neg e]at a;exact⟨j,a⟩),h.tr,h.day,h.tb⟩
theorem J8(h:dK V1 Vc)(b:dK V V1.uU):dK V Vc.uU:=by
 have e:=h.nb;refine b.trans ⟨by show Vc.nb-1=V1.nb-1;rw[h.nb],fun i a=>h.bk i ?_,fun i a=>h.sym i ?_,fun i a=>h.uO i ?_,fun i a=>h.mem i ?_,h.aV,h.no,h.om,h.tr,h.day,h.tb⟩ <;> (simp only[aS.uU]at a;omega)
theorem wP(h:dK V1 Vc){G1 a:Lg}{m1 b:Lm}(c:a.tr=G1.tr)(d:a.day=G1.day)(e:b.tb=m1.tb)(f:dK V { V1 with lg:=G1,lm:=m1 }):dK V { Vc with lg:=a,lm:=b } :=
 f.trans ⟨h.nb,h.bk,h.sym,h.uO,h.mem,h.aV,h.no,h.om,c,d,e⟩
end
def zH(V:aS)(cl:List Value):Prop:=∀j,j<V.nb->∀y,y<2->∀a,ig ((V.B j).sl y)=some a->∀c∈cl,∀x,xw c x->x≠a
def Td(V:aS)(i s b:Nat)(again:Bool):List dU :=
 if again=false\/dS (V.om b).kind=false\/(dA (V.B i) V.om (bI (V.om b)) s).isSome=true then [.fV b (V.om b)] else (if 0<(V.om b).aH then [.left b] else [])++[.fV b (V.om b),.eQ b (V.om b).place]
def TbC(bv:Nat)(V:aS)(i s t b:Nat)(again:Bool)(bk:Nat->Nat)(lw:Nat)(old:List (List Value))(dP:List Nat)(V2:aS)(W:World):Prop :=
 V2.bk=V.bk/\V2.lg.nt=V.lg.nt++Td V i s b again/\(∀j y,¬(j=i/\y=t)->(V2.B j).sl y=(V.B j).sl y)/\∃Yz,iy W bv bk lw true old V2.lg.nt dP V2.lm Yz/\zH V2 Yz
theorem ach{w:World}{V b:aS}{f g:List Value}(sD:∀j,j<V.nb->∀y,y<2->∀a,ig ((V.B j).sl y)=some a->a<w.heap.size)(hs:zH V f)(n:PO w f g)(l:∀j y,(b.B j).sl y=(V.B j).sl y)(o:b.nb=V.nb:=by rfl):zH b g:=by
 obtain⟨news,rfl,p⟩:=n;intro j e y k a d c m x i;rw[l j y]at d;rw[o]at e;rcases List.mem_append.1 m with h | h
 ·exact hs j e y k a d c h x i
 ·have:=p c h x i;have:=sD j e y k a d;omega
theorem aaT{w:World}{V d:aS}{l n:List Value}{i t g:Nat}(sD:∀j,j<V.nb->∀y,y<2->∀a,ig ((V.B j).sl y)=some a->a<w.heap.size)(A:∀c∈l,∀x,xw c x->x<w.heap.size)(hs:zH V l)(v:Jt w l g n)(u:ig ((V.B i).sl t)=some g\/w.heap.size<=g)(r:∀j y,¬(j=i/\y=t)->(d.B j).sl y=(V.B j).sl y)(s:∀a,ig ((d.B i).sl t)=some a->a=g)(z:d.nb=V.nb:=by rfl):zH d n:=by
 obtain⟨news,rfl,q⟩:=v;intro j k y m a f c p x b;rw[z]at k;by_cases e:j=i/\y=t
 ·obtain⟨rfl,rfl⟩:=e;have:=s a f;subst this;rcases List.mem_append.1 p with h | h
  ·rcases u with o | o
   ·exact hs j k y m a o c h x b
   ·have:=A c h x b;omega
  ·exact (q c h x b).2
 ·rw[r j y e]at f;rcases List.mem_append.1 p with h | h
  ·exact hs j k y m a f c h x b
  ·have:=(q c h x b).1;have:=sD j k y m a f;omega
theorem zx{V:aS}{Q:Bk}{dG:Nat->Ord}{i t b g cap':Nat}(c:Q.sl=(V.B i).sl)(j y:Nat)(h:¬(j=i/\y=t)):(aK V.B i (Q.rest dG t b g cap') j).sl y=(V.B j).sl y:=by
 by_cases e:j=i
 ·subst e;have a:y≠t:=fun e=>h ⟨rfl,e⟩
  rw[ah];simp only[Bk.rest];rw[ag _ _ a,c]
 ·rw[ag _ _ e]
theorem Nj{V:aS}{Q:Bk}{dG:Nat->Ord}{i t b g cap' a:Nat}(h:ig ((aK V.B i (Q.rest dG t b g cap') i).sl t)=some a):a=g:=by
 rw[ah]at h;simp only[Bk.rest,ah,ig,Option.some.injEq]at h;exact h.symm
theorem jc.of{w w':World}{bv m n i:Nat}{V:aS}(R:dL w bv m n V)(g:i<V.nb){B':Bk}{dG:Nat->Ord}{S:Nat->Prop}(Q:aS->World->Prop){bk:Nat->Nat}{A:Nat}{tq:Bool}{C:List (List Value)}{dP:List Nat}{P:List Value->Prop}{ds:List dU}(T:ds.length<=3)(L:vC bv m n V.lg V.lm bk A tq C dP P ds w w')
 (K:Mk w' (V.bk i) B' dG (fun x=>∃id,V.aV id=some x)) (k:aj (fun x=>S x\/gK V.lm.av V.lm.ac x) w w') (p:∀x,S x->x=V.bk i\/(∃s,s<2/\dn (V.B i) s x)\/((∃id,V.aV id=some x)/\pV V i x))
 (M:∀x,pV V i x\/dG x=V.om x) (J:∀x,(dG x).id=(V.om x).id) (N:B'.sym=(V.B i).sym)
 (z:∀s,s<2->∀x,dn B' s x->(∃t,t<2/\dn (V.B i) t x)\/((∃id,V.aV id=some x)/\pV V i x)\/w.heap.size<=x) (H:∀bG o,iy w' bv bk A tq C (V.lg.aY ds).nt dP bG o->P o->Q { V.turn i B' dG with lg:=V.lg.aY ds,lm:=bG } w'):jc bv m n V Q w w':=by
 have D:∀s,s<2->∀x,dn (V.B i) s x->pV V i x:=fun s hs x a j f v t d h=>R.nX i j g f (fun e=>v e.symm) s t hs d x a h
 obtain⟨bG,o,u,F,I,G⟩:=L;refine⟨{ V.turn i B' dG with lg:=V.lg.aY ds,lm:=bG },R.aa4 g K u (k.mono (fun x h=>h.imp_right (fun h=>BA h))) p (fun j f v s hs l u=>?_) J N (fun s hs x a=>?_),H _ _ I G,⟨rfl,rfl,rfl,rfl,(by simp only[Lg.aY,List.length_append];omega),rfl⟩,fun b c t q d=>?_,rfl,k.mono (fun x a=>?_),fun x a=>?_⟩
 ·rcases M ((V.B j).h s l) with h | h
  ·exact absurd (.inr ⟨l,u,rfl⟩) (h j f v s hs)
  ·exact h
 ·rcases z s hs x a with⟨t,d,h⟩ | ⟨_,h⟩ | h
  ·exact .inl (D t d x h)
  ·exact .inl h
  ·exact .inr h
 ·refine k.ay q ?_;rintro (h | h)
  ·obtain⟨E,O,r,y⟩:=(R.sG g).gZ (b:=b) (by
    rcases p b h with h | h | ⟨h,_⟩
    ·exact .inl h
    ·exact .inr (.inr h)
    ·exact .inr (.inl h))
   exact au.ne q r (by rcases d with rfl | rfl | rfl <;> rcases y with rfl | rfl | rfl <;> decide) rfl
  ·obtain⟨E,O,r,y⟩:=R.aO.aO.act.gZ h;exact au.ne q r (by rcases d with rfl | rfl | rfl <;> rcases y with rfl | rfl <;> decide) rfl
 ·rcases a with a | a
  ·rcases p x a with h | ⟨s,hs,h⟩ | ⟨h,_⟩
   ·exact iQ ⟨i,g,.inl h⟩
   ·exact iQ ⟨i,g,.inr ⟨s,hs,h⟩⟩
   ·exact qo h
  ·exact X5 a
 ·rcases a with h | h | h | ⟨j,f,h⟩ | h | h
  ·exact .inl (.inl h)
  ·exact .inl (.inr (.inl h))
  ·exact .inl (jL h)
  ·rcases h with h | ⟨s,hs,h⟩
   ·exact .inl (iQ ⟨j,f,.inl h⟩)
   ·by_cases e:j=i
    ·subst e;simp only[aS.turn,ah]at h;rcases z s hs x h with⟨t,d,h⟩ | ⟨h,_⟩ | h
     ·exact .inl (iQ ⟨j,f,.inr ⟨t,d,h⟩⟩)
     ·exact .inl (qo h)
     ·exact .inr h
    ·simp only[aS.turn,ag _ _ e]at h;exact .inl (iQ ⟨j,f,.inr ⟨s,hs,h⟩⟩)
  ·exact .inl (qo h)
  ·exact (F x h).imp_left (fun h=>vk h)
theorem OZ(bv E F b i s t:Nat)(V:aS)(M id q:Int)(again:Bool)(w:World)(bk:Nat->Nat)(v:Nat)(U:List (List Value))(dP:List Nat)(z:List Value)(hC:iy w bv bk v true U V.lg.nt dP V.lm z)(hsep:zH V z)(TP:v<=w.heap.size)(Z:bk b=V.bk i)(xy:∀g,ig ((V.B i).sl t)=some g->g<v)(R:dL w bv E F V)(g:GW V M)(hM:M<=1000000000000000)(hcn:(V.B i).n t<1000)(o:V.aV id=some b)(f:i<V.nb)(hs:s<2)(T:t=1-s)(C:(V.om b).sym=(V.B i).sym)(D:(V.om b).side=(t:Int))(hsz:(V.B i).sym.size<=100)(hq:1<=q)(hq2:q<=(V.om b).filled)
 (hna:0<V.lg.na) (kX:V.lg.na<=3000000) (hnt:V.lg.nt.length+3<1000000000) :
 CT 75 #[PP bv,PP b,II q,.bool again] w fun e w'=>e=.returned (.tuple #[])/\jc bv E F V (fun V2 W=>WV V M i s b q again V2/\TbC bv V i s t b again bk v U dP V2 W) w w':=by
 have p:VL V b:=⟨id,o⟩;have t2:t<2:=by omega
 have A:i<V.nb:=f;have XC:(V.om b).side=1-(s:Int):=by rw[D];omega
 have mf:(V.om b).sym=(V.B i).sym:=C;have hlen:(V.B i).sym.size<=maxLen:=by unfold maxLen;omega
 have u:=g.apart R p C f;have qb:=g.q b p;have sD:∀j,j<V.nb->∀y,y<2->∀a,ig ((V.B j).sl y)=some a->a<w.heap.size:=fun j hj y m a r=>((R.aW j hj).side y m).lt r
 have hold:∀c∈z,∀x,xw c x->x<w.heap.size:=fun c l x d=>(hC.cap l d).2
 by_cases l:again=false\/dS (V.om b).kind=false\/(dA (V.B i) V.om (bI (V.om b)) s).isSome=true
 ·refine (xg bv E F i b s V id q again w bk v true U dP z hC TP Z R A o mf hlen hs XC l hna kX hnt).mono ?_;rintro e w' ⟨rfl,N,O,k⟩;obtain⟨q1,q2⟩:=qb.eY hM (by omega) hq2;have FZ:∀x,x≠b->aK V.om b (eY (V.om b) q) x=V.om x:=fun x h=>ag _ _ h
  refine⟨rfl,jc.of (S:=fun x=>x=b) R A _ (by simp) O N k (fun x d=>.inr (.inr (by subst d;exact⟨⟨id,o⟩,u⟩))) (fun x=>?_) (fun x=>?_) rfl (fun s hs x d=>.inl ⟨s,hs,d⟩) (fun bG G I H=>⟨?_,rfl,by rw[Td,if_pos l];rfl,fun j y _=>xm (fun B=>B.sl y) rfl j,G,I,ach sD hsep H (fun j y=>xm (fun B=>B.sl y) rfl j)⟩)⟩
  ·by_cases e:x=b
   ·exact .inl (e▸u)
   ·exact .inr (FZ x e)
  ·by_cases e:x=b
   ·rw[e,ah];rfl
   ·rw[FZ x e]
  ·refine⟨MG g f p C FZ (by rw[ah];rfl) (by rw[ah];rfl) (by rw[ah];exact q1) rfl ((g.gb i f).lW (fun x=>?_) (fun x _ _ _=>?_)),rfl,rfl,rfl,xm (·.sym) rfl,.inl ⟨l,rfl,xm (·.places) rfl⟩⟩
   ·by_cases e:x=b
    ·rw[e,ah];exact Iff.rfl
    ·rw[FZ x e]
   ·by_cases e:x=b
    ·rw[e,ah];exact⟨rfl,rfl,rfl⟩
    ·rw[FZ x e];exact⟨rfl,rfl,rfl⟩
 ·have r:again=true:=by
   cases again
   ·exact absurd (.inl rfl) l
   ·rfl
  have P:dS (V.om b).kind=true:=by
   cases h:dS (V.om b).kind
   ·exact absurd (.inr (.inl h)) l
   ·rfl
  have X:dA (V.B i) V.om (bI (V.om b)) s=none:=by
   cases h:dA (V.B i) V.om (bI (V.om b)) s with
   | none=>rfl
   | some y=>exact absurd (.inr (.inr (by rw[h];rfl))) l
  subst r;have hk5:(V.om b).kind≠5:=fun e=>by rw[e]at P;simp[dS]at P
  have bad:=Es (g.gb i f) hs T hk5 D X;have FZ:∀x,x≠b->bQ V i b q x=V.om x:=fun x h=>sO V i b q h
  obtain⟨q1,q2,q3⟩:=qb.fD hM (by omega) hq2 (wrap64 ((V.B i).places+1));have Af:∀x,pV V i x\/bQ V i b q x=V.om x:=fun x=>by
   by_cases e:x=b
   ·exact .inl (e▸u)
   ·exact .inr (FZ x e)
  have hidx:∀x,(bQ V i b q x).id=(V.om x).id:=fun x=>by
   by_cases e:x=b
   ·rw[e,dW];rfl
   ·rw[FZ x e]
  have fin:∀(B':Bk) (G':Lg) (bG:Lm),B'.sym=(V.B i).sym->B'.places=wrap64 ((V.B i).places+1)->GB B' (bQ V i b q) (V.B i).sym (VL V)->WV V M i s b q true { V.turn i B' (bQ V i b q) with lg:=G',lm:=bG }:=fun B' G' bG hb1 hb2 gb =>
   ⟨MG g f p C FZ (by rw[dW];rfl) (by rw[dW];rfl) (by rw[dW];exact q1) hb1 gb,rfl,rfl,rfl,xm (·.sym) hb1,.inr ⟨rfl,P,X,rfl,fun j=>by
    show (aK V.B i B' j).places=_;by_cases e:j=i
    ·rw[e,ah,if_pos rfl];exact hb2
    ·rw[ag _ _ e,if_neg e]⟩⟩
  have p1:(bQ V i b q b).sym=(V.B i).sym:=by rw[dW];exact C
  have p2:(bQ V i b q b).side=(t:Int):=by rw[dW];exact D
  have p3:0<(bQ V i b q b).aH:=by
   rw[dW];show 0<(fD (V.om b) q).aH;rw[q3];have:=qb.o0;omega
  have p4:(bQ V i b q b).af=(V.om b).af:=by rw[dW];rfl
  have DY:∀x,x<2->x=s\/x=t:=by omega
  by_cases h0:0<(V.om b).aH
  ·obtain⟨k,L,hkb⟩:Mem ((V.B i).n t) ((V.B i).h t) b:=((g.gb i f).mem t t2 b).2 ⟨p,C,D,h0⟩;refine (zi bv E F i b s t k V id q w bk v true U dP z hC TP Z xy R A o mf hlen hs T D P X h0 L hkb.symm (by omega) hna kX hnt).mono ?_;rintro e w' ⟨rfl,g',cap',N,O,kc,K⟩;have Y:GB ((V.B i).leave V.om t k) V.om (V.B i).sym (fun x=>VL V x/\x≠b):=by
    have:=vM (g.gb i f) t2 L;rw[<-hkb]at this;exact this
   have eN:((V.B i).leave V.om t k).n s=(V.B i).n s:=by simp only[Bk.leave];rw[ag _ _ (by omega)]
   have eH:((V.B i).leave V.om t k).h s=(V.B i).h s:=by simp only[Bk.leave];rw[ag _ _ (by omega)]
   refine⟨rfl,jc.of (S:=fun x=>x=V.bk i\/x=b\/dn (V.B i) t x) R A _ (by simp) O N kc (fun x d=>?_) Af hidx rfl (fun y m x d=>?_) (fun bG G I H=>⟨fin _ _ bG rfl rfl (DF hs T Y p FZ p1 p2 p3 (fun y m=>?_)),rfl,by rw[Td,if_neg l,if_pos h0];rfl,zx (V:=V) (Q:=(V.B i).leave V.om t k) rfl,G,I,aaT sD hold hsep H K (zx (V:=V) (Q:=(V.B i).leave V.om t k) rfl) (fun a r=>Nj r)⟩)⟩
   ·rcases d with h | h | h
    ·exact .inl h
    ·exact .inr (.inr (by subst h;exact⟨⟨id,o⟩,u⟩))
    ·exact .inr (.inl ⟨t,t2,h⟩)
   ·rcases Nk d with h | h | h
    ·exact .inl ⟨y,m,H8 ((g.gb i f).inj t t2) L h⟩
    ·exact .inr (.inl (by subst h;exact⟨⟨id,o⟩,u⟩))
    ·rcases K with J | J
     ·exact .inl ⟨t,t2,.inl (by rw[J,h])⟩
     ·exact .inr (.inr (by omega))
   ·rw[eN,eH]at m;rw[p4];exact bad y m
  ·have hno:∀x,x<2->∀k,k<(V.B i).n x->(V.B i).h x k≠b:=fun x d k L e=>by
    have:=(((g.gb i f).mem x d _).1 ⟨k,L,rfl⟩).2.2.2;rw[e]at this;exact h0 this
   refine (Bf bv E F i b s t V id q w bk v true U dP z hC TP Z xy R A o mf hlen hs T D P X h0 hno (by omega) hna kX hnt).mono ?_;rintro e w' ⟨rfl,g',cap',N,O,kc,K⟩;have Y:GB (V.B i) V.om (V.B i).sym (fun x=>VL V x/\x≠b):=(g.gb i f).lW (fun x=>by
    constructor
    ·rintro⟨⟨a,_⟩,c⟩;exact⟨a,c⟩
    ·rintro⟨a,c⟩;exact⟨⟨a,fun e=>h0 (e▸c.2)⟩,c⟩) (fun x _ _ _=>⟨rfl,rfl,rfl⟩)
   refine⟨rfl,jc.of (S:=fun x=>x=V.bk i\/x=b\/dn (V.B i) t x) R A _ (by simp) O N kc (fun x d=>?_) Af hidx rfl (fun y m x d=>?_) (fun bG G I H=>⟨fin _ _ bG rfl rfl (DF hs T Y p FZ p1 p2 p3 (fun y m=>?_)),rfl,by rw[Td,if_neg l,if_neg h0];rfl,zx (V:=V) (Q:=V.B i) rfl,G,I,aaT sD hold hsep H K (zx (V:=V) (Q:=V.B i) rfl) (fun a r=>Nj r)⟩)⟩
   ·rcases d with h | h | h
    ·exact .inl h
    ·exact .inr (.inr (by subst h;exact⟨⟨id,o⟩,u⟩))
    ·exact .inr (.inl ⟨t,t2,h⟩)
   ·rcases Nk d with h | h | h
    ·exact .inl ⟨y,m,h⟩
    ·exact .inr (.inl (by subst h;exact⟨⟨id,o⟩,u⟩))
    ·rcases K with J | J
     ·exact .inl ⟨t,t2,.inl (by rw[J,h])⟩
     ·exact .inr (.inr (by omega))
   ·rw[p4];exact bad y m
attribute [local go_sem ↓] Go.wp_at_zero Go.wp_at_succ
theorem dL.aaz{w w':World}{bv b c x:Nat}{V:aS}(R:dL w bv b c V)(k:aj (fun y=>y=x) w w')(p:¬bY bv b c V x):dL w' bv b c V:=by
 obtain⟨m,s,g,i⟩:=R.iM;obtain⟨n,t,l⟩:=R.fA;have a:∀y,bY bv b c V y->¬y=x:=fun y h e=>p (e▸h)
 exact⟨R.aO.aC k (a _ (.inl rfl)) (fun y f=>a y (vk f)),⟨m,s.aC k (a _ (.inr (.inl rfl))),g,i⟩,⟨n,t.aC k (a _ (jL rfl)),l⟩,R.F5,fun j d=>(R.aW j d).aC k (fun y f=>a y (by
  rcases f with h | ⟨u,q,h⟩
  ·exact iQ ⟨j,d,.inl h⟩
  ·exact iQ ⟨j,d,.inr ⟨u,q,h⟩⟩)),fun id y h=>⟨(R.bg id y h).1,(R.bg id y h).2.elim fun r o=>⟨r,k.ay o (a y (qo ⟨id,h⟩))⟩⟩,R.mem,R.rY,R.nX,R.fM⟩
structure ExV(V:aS)(M:Int)(b:Nat)(V':aS):Prop where
 gw:GW V' M
 aV:V'.aV=V.aV
 no:V'.no=V.no
 nb:V'.nb=V.nb
 lV:∀j,(V'.B j).sym=(V.B j).sym
 PY:∀j,(V'.B j).places=(V.B j).places
 om:V'.om=aK V.om b (gG (V.om b))
theorem ZR{V:aS}{M:Int}(g:GW V M)(e:M<=1000000000000000){i b s k:Nat}{G':Lg}{bG:Lm}(c:i<V.nb)(hs:s<2)(d:k<(V.B i).n s)(f:(V.B i).h s k=b):ExV V M b { V.turn i ((V.B i).leave V.om s k) (aK V.om b (gG (V.om b))) with lg:=G',lm:=bG }:=by
 subst f;have j:=((g.gb i c).mem s hs _).1 ⟨k,d,rfl⟩;obtain⟨l,m⟩:=(g.q _ j.1).Xj e;have a:=g.Q7 (o':=gG (V.om ((V.B i).h s k))) c hs d rfl rfl m l;exact⟨⟨a.gb,a.mW,a.q,a.sym,a.side⟩,rfl,rfl,rfl,xm (·.sym) rfl,xm (·.places) rfl,rfl⟩
def BJ(o:Ord):Ord:=if o.kind=1/\0<o.aH then gG o else o
def xJ(day:Int):Tr:=⟨0,⟨#[]⟩,0,0,0,0,day⟩
structure ClV(V:aS)(M:Int)(V':aS):Prop where
 gw:GW V' M
 aV:V'.aV=V.aV
 no:V'.no=V.no
 nb:V'.nb=V.nb
 lV:∀j,(V'.B j).sym=(V.B j).sym
 PY:∀j,(V'.B j).places=(V.B j).places
 oH:∀x,(V'.om x).sym=(V.om x).sym/\(V'.om x).side=(V.om x).side/\(V'.om x).id=(V.om x).id/\(V'.om x).filled=(V.om x).filled
 om:∀id x,V.aV id=some x->V'.om x=BJ (V.om x)
 tr:V'.lg.tr=V.lg.tr
 tp:V'.lg.tp=V.lg.tp++[⟨(V.lg.tp.length:Int)+1,4,xJ V.lg.day⟩]
 day:V'.lg.day=wrap64 (V.lg.day+1)
 na:V'.lg.na=V.lg.na+1
 ud:V'.lg.ud=V.lg.ud
theorem di.Tq{p:Nat->Nat}{V c:aS}{S S':RS}{N:Nat}(h:di p V S N)(gw:GW c (mN (N+1)))(w:c.nb=V.nb)(s:∀j,(c.B j).sym=(V.B j).sym)(z:∀j,(c.B j).places=(V.B j).places)(x:c.no=V.no)(y:c.aV=V.aV)
 (C:S'.sy=S.sy) (J:S'.l.length=S.l.length) (A:S'.places=S.places) (L:S'.t=S.t) (H:S'.day=S.day) (O:∀k,k<S.l.length->ny (c.om (p k))=ny (ak S'.l k))
 (d:∀k,k<S.l.length->(ak S'.l k).id=(ak S.l k).id/\(ak S'.l k).sym=(ak S.l k).sym/\(ak S'.l k).place=(ak S.l k).place/\(0<(ak S'.l k).aH->0<(ak S.l k).aH)/\(c.om (p k)).place=(V.om (p k)).place)
 (D:c.lg.tr=V.lg.tr) (M:c.lg.tp=V.lg.tp) (I:c.lg.day=V.lg.day) (K:c.lg.ud+c.lg.na=V.lg.ud+V.lg.na+1):di p c S' (N+1):=by
 refine⟨gw,by rw[w,C];exact h.nb,fun i v=>by rw[C,s i];exact h.sym i (by omega),by rw[x,J];exact h.no,fun k e=>?_,fun id b f=>?_,fun a b u f=>h.inj a b (by omega) (by omega),fun k e=>O k (by omega),fun a b u f hs o q=>?_,fun a b u f G hs o q=>?_,fun k e h0 i v hs=>?_,fun k e h0=>?_,fun i v=>?_,?_,by rw[D,L];exact h.tr,by rw[I,H];exact h.day,by rw[D];have:=h.xk;omega,by rw[M];have:=h.zA;omega,by rw[K];have:=h.zu;omega,by rw[x];exact h.fM,by rw[w];exact h.Pn,fun k e=>by rw[(d k (by omega)).1];exact h.xx k (by omega)⟩
 ·rw[y,(d k (by omega)).1];exact h.aV k (by omega)
 ·rw[y]at f;obtain⟨k,e,E,F⟩:=h.yY id b f;exact⟨k,by omega,by rw[(d k e).1];exact E,F⟩
 ·obtain⟨_,a2,a3,a4,a5⟩:=d a (by omega);obtain⟨_,g,m,n,r⟩:=d b (by omega);rw[a5,r,a3,m];exact h.place a b (by omega) (by omega) (by rw[<-a2,<-g];exact hs) (a4 o) (n q)
 ·obtain⟨_,a2,a3,a4,a5⟩:=d a (by omega);obtain⟨_,g,m,n,r⟩:=d b (by omega);rw[a3,m];exact h.wI a b (by omega) (by omega) G (by rw[<-a2,<-g];exact hs) (a4 o) (n q)
 ·obtain⟨_,a2,a3,a4,a5⟩:=d k (by omega);rw[a5,z i];exact h.Nb k (by omega) (a4 h0) i (by omega) (by rw[<-s i,hs,a2])
 ·obtain⟨_,a2,a3,a4,a5⟩:=d k (by omega);rw[a3,A];exact h.Nc k (by omega) (a4 h0)
 ·rw[z i];have:=h.KQ i (by omega);push_cast;omega
 ·rw[A];have:=h.Po;push_cast;omega
theorem di.bU{p:Nat->Nat}{V:aS}{S:RS}{N:Nat}(h:di p V S N){s:ByteArray}{b:Nat}{bG:Lm}(f:∀i,i<V.nb->(V.B i).sym≠s)(r:V.nb<6):di p (V.bU s b bG) (S.fresh.lists s) (N+1):=by
 have d:∀j,j<V.nb->(V.bU s b bG).B j=V.B j:=fun j m=>by
  show aK V.B V.nb (mD s) j=V.B j;exact ag _ _ (by omega)
 have new:(V.bU s b bG).B V.nb=mD s:=ah _ _ _;have n:(V.bU s b bG).nb=V.nb+1:=rfl;have t:(S.fresh.lists s).l=S.l:=rfl;have c:(S.fresh.lists s).sy=S.sy++[s]:=rfl;refine⟨(h.gw.mono (rU (Nat.le_add_right N 1))).bU f,by rw[n,c,h.nb];simp,fun i g=>?_,h.no,h.aV,h.yY,h.inj,h.same,h.place,h.wI,fun k a h0 i g hs=>?_,h.Nc,fun i g=>?_,?_,h.tr,h.day,?_,?_,?_,h.fM,by rw[n];omega,h.xx⟩
 ·by_cases e:i<V.nb
  ·rw[d i e,c,List.getElem?_append_left (by rw[<-h.nb];exact e)];exact h.sym i e
  ·obtain rfl:i=V.nb:=by omega
   rw[new,c,h.nb,List.getElem?_append_right (Nat.le_refl _)];simp[mD]
 ·by_cases e:i<V.nb
  ·rw[d i e]at hs ⊢;exact h.Nb k a h0 i e hs
  ·obtain rfl:i=V.nb:=by omega
   rw[new]at hs;exfalso;obtain⟨j,m,o⟩:=h.gw.sym (p k) ((h.vl _).2 ⟨k,a,rfl⟩);have q:=(fC (h.same k a)).2.2.1;exact f j m (by rw[<-o,q];exact hs.symm)
 ·by_cases e:i<V.nb
  ·rw[d i e];have:=h.KQ i e;push_cast;omega
  ·obtain rfl:i=V.nb:=by omega
   rw[new];show (0:Int)<=0/\(0:Int)<=2 * ((N+1:Nat):Int);exact⟨by omega,by omega⟩
 ·have:=h.Po;show 0<=S.places/\S.places<=_;push_cast;omega
 ·have:=h.xk;show V.lg.tr.length<=_;omega
 ·have:=h.zA;show V.lg.tp.length<=_;omega
 ·have:=h.zu;show V.lg.ud+(V.lg.na+1)<=_;omega
theorem di.found{p:Nat->Nat}{V:aS}{S:RS}{N:Nat}(h:di p V S N)(id:Int):V.aV id=(iU S.l id).map p:=by
 cases hx:iU S.l id with
 | some k =>
   obtain⟨c,d⟩:=jC hx;rw[<-d];exact h.aV k c
 | none =>
   cases hv:V.aV id with
   | none=>rfl
   | some b =>
     exfalso;obtain⟨k,e,a,f⟩:=h.yY id b hv;unfold iU at hx;rw[List.findIdx?_eq_none_iff]at hx;have:=hx (ak S.l k) (List.mem_of_getElem? (lM e));simp[a]at this
theorem uB(S:RS):S.fresh.l=S.l:=rfl
theorem di.oU{p:Nat->Nat}{V:aS}{S:RS}{N:Nat}(h:di p V S N)(w:N<2900000){i s k j:Nat}{ds:List dU}{bG:Lm}(t:i<V.nb)(hs:s<2)(u:k<(V.B i).n s)(d:j<S.l.length)(c:p j=(V.B i).h s k) :
 di p { V.turn i ((V.B i).leave V.om s k) (aK V.om ((V.B i).h s k) (fZ (V.om ((V.B i).h s k)))) with lg:=V.lg.begun.aY ds,lm:=bG } (S.fresh.oU j) (N+1):=by
 have r:mN (N+1)<=1000000000000000:=by unfold mN;omega
 have v:VL V ((V.B i).h s k):=(h.vl _).2 ⟨j,d,c⟩;have q:=h.gw.q _ v;have g:=(h.gw.mono (rU (Nat.le_add_right N 1))).Q7 (o':=fZ (V.om ((V.B i).h s k))) t hs u rfl rfl rfl ((q.mono (rU (Nat.le_add_right N 1))).aX r).1;have f:∀a,ak (S.fresh.oU j).l a=if a=j then { ak S.l j with aX:=wrap64 ((ak S.l j).aX+(ak S.l j).aH),aH:=0 } else ak S.l a:=fun a=>by
  simp only[RS.oU,RS.dN,uB];exact eX d a
 have m:∀a,a<S.l.length->a≠j->p a≠(V.B i).h s k:=fun a b e o=>e (h.inj a j b d (by rw[o,c]))
 refine h.Tq ⟨g.gb,g.mW,g.q,g.sym,g.side⟩ rfl (fun a=>?_) (fun a=>?_) rfl rfl rfl (by simp[RS.oU,RS.dN,uB]) rfl rfl rfl (fun a b=>?_) (fun a b=>?_) rfl rfl rfl rfl
 ·show (aK V.B i _ a).sym=_;by_cases e:a=i
  ·rw[e,ah];rfl
  ·rw[ag _ _ e]
 ·show (aK V.B i _ a).places=_;by_cases e:a=i
  ·rw[e,ah];rfl
  ·rw[ag _ _ e]
 ·show ny (aK V.om ((V.B i).h s k) (fZ (V.om ((V.B i).h s k))) (p a))=_;rw[f a];by_cases e:a=j
  ·subst e;rw[c,ah,if_pos rfl];have:=h.same a b;rw[c]at this;show fZ (ny (V.om ((V.B i).h s k)))=ny _;rw[this]
   rfl
  ·rw[ag _ _ (m a b e),if_neg e];exact h.same a b
 ·show _/\_/\_/\_/\(aK V.om ((V.B i).h s k) (fZ (V.om ((V.B i).h s k))) (p a)).place=_;rw[f a];by_cases e:a=j
  ·subst e;rw[c,ah,if_pos rfl];exact⟨rfl,rfl,rfl,fun h=>absurd h (by simp),rfl⟩
  ·rw[ag _ _ (m a b e),if_neg e];exact⟨rfl,rfl,rfl,fun h=>h,rfl⟩
theorem Fp{M M':Int}{o:Ord}(q:Qo M o)(n:M+1000000<=M')(p:M'<=1000000000000000){af az:Int}(l:1<=az)(m:az<=1000000):Qo M' (dR o af az)/\(dR o af az).entered=o.entered+az-o.aH/\wrap64 (wrap64 (o.entered+az)-o.aH)=o.entered+az-o.aH:=by
 have a:=q.sum;have b:=q.o0;have c:=q.f0;have f:=q.c0;have e:=q.e0;have k:=q.hi;have g:wrap64 (az-o.aH)=az-o.aH:=aU (by omega) (by omega);have w2:wrap64 (o.entered+(az-o.aH))=o.entered+(az-o.aH):=aU (by omega) (by omega);have i:wrap64 (o.entered+az)=o.entered+az:=aU (by omega) (by omega);have j:wrap64 (o.entered+az-o.aH)=o.entered+az-o.aH:=aU (by omega) (by omega);have d:(dR o af az).entered=o.entered+az-o.aH:=by show wrap64 (o.entered+wrap64 (az-o.aH))=_;rw[g,w2];omega
 refine⟨⟨?_,by show 0<=az;omega,c,f,e,by rw[d];omega⟩,d,by rw[i,j]⟩;rw[d];show _=az+o.filled+o.aX+o.exp;omega
theorem di.keeps{p:Nat->Nat}{V:aS}{S:RS}{N:Nat}(h:di p V S N)(L:N<2900000){i j:Nat}{af az:Int}{ds:List dU}{bG:Lm}(c:j<S.l.length)(n:af=(V.om (p j)).af)(v:1<=az)(w:az<=1000000)(k:0<(V.om (p j)).aH) :
 di p { V.turn i (V.B i) (aK V.om (p j) (dR (V.om (p j)) af az)) with lg:=V.lg.begun.aY ds,lm:=bG } (S.fresh.dN j (Lh (ak S.l j) az)) (N+1):=by
 have x:mN (N+1)<=1000000000000000:=by unfold mN;omega
 have y:mN N+1000000<=mN (N+1):=by unfold mN;push_cast;omega
 have o:VL V (p j):=(h.vl _).2 ⟨j,c,rfl⟩;have q:=h.gw.q _ o;obtain⟨z,A,C⟩:=Fp (af:=af) q y x v w;have g:=h.gw.QW (o':=dR (V.om (p j)) af az) (rU (Nat.le_add_right N 1)) o rfl rfl n rfl ⟨fun _=>k,fun _=>by show 0<az;omega⟩ z i;obtain⟨D,d,H,I,J,t,K,u,f,E,F,G⟩:=fC (h.same j c);have r:∀a,ak (S.fresh.dN j (Lh (ak S.l j) az)).l a=if a=j then Lh (ak S.l j) az else ak S.l a:=fun a=>by
  simp only[RS.dN,uB];exact eX c a
 have s:∀a,a<S.l.length->a≠j->p a≠p j:=fun a b e d=>e (h.inj a j b c d)
 have m:∀a,aK V.B i (V.B i) a=V.B a:=fun a=>by
  by_cases e:a=i
  ·rw[e,ah]
  ·rw[ag _ _ e]
 refine h.Tq ⟨g.gb,g.mW,g.q,g.sym,g.side⟩ rfl (fun a=>?_) (fun a=>?_) rfl rfl rfl (by simp[RS.dN,uB]) rfl rfl rfl (fun a b=>?_) (fun a b=>?_) rfl rfl rfl rfl
 ·show (aK V.B i (V.B i) a).sym=_;rw[m a]
 ·show (aK V.B i (V.B i) a).places=_;rw[m a]
 ·show ny (aK V.om (p j) (dR (V.om (p j)) af az) (p a))=_;rw[r a];by_cases e:a=j
  ·subst e;rw[ah,if_pos rfl];have:=h.same a b;show ({ ny (V.om (p a)) with af:=af,entered:=(dR (V.om (p a)) af az).entered,aH:=az }:Ord)={ ny (ak S.l a) with entered:=wrap64 (wrap64 ((ak S.l a).entered+az)-(ak S.l a).aH),aH:=az };rw[A,<-u,<-f,C,this,n,t]
   rfl
  ·rw[ag _ _ (s a b e),if_neg e];exact h.same a b
 ·show _/\_/\_/\_/\(aK V.om (p j) (dR (V.om (p j)) af az) (p a)).place=_;rw[r a];by_cases e:a=j
  ·subst e;rw[ah,if_pos rfl];exact⟨rfl,rfl,rfl,fun _=>by rw[<-f];exact k,rfl⟩
  ·rw[ag _ _ (s a b e),if_neg e];exact⟨rfl,rfl,rfl,fun h=>h,rfl⟩
theorem di.qZ{p:Nat->Nat}{V:aS}{S:RS}{N:Nat}(h:di p V S N)(hN:N<2900000){d s t k j g cap':Nat}{af az:Int}{bG:Lm}(C:d<V.nb)(hs:s<2)(ht:t=1-s)(hk:k<(V.B d).n t)(Q:j<S.l.length)(hpj:(V.B d).h t k=p j)(h1:1<=az)(h2:az<=1000000) :
 su (p j) s ⟨(V.B d).leave V.om t k,aK V.om (p j) (dR (V.om (p j)) af az),V.lg.dE (p j) (V.om (p j))⟩ /\
 ∃r f,uJ j f ⟨S.fresh.dN j (yc (ak S.l j) af az),az,0,0,0⟩ r/\f<=201/\di p (V.qZ d (p j) s t k g cap' (dR (V.om (p j)) af az) bG) (qV j r) (N+1) /\
  kK (dR (V.om (p j)) af az) ((V.qZ d (p j) s t k g cap' (dR (V.om (p j)) af az) bG).om (p j)) V.tr (V.qZ d (p j) s t k g cap' (dR (V.om (p j)) af az) bG).tr=IK j r/\(V.qZ d (p j) s t k g cap' (dR (V.om (p j)) af az) bG).lg.tp=nJ V.lg.tp (qV j r).told/\(qV j r).told.length<=201:=by
 have J:mN (N+1)<=1000000000000000:=by unfold mN;omega
 have hMN:mN N+1000000<=mN (N+1):=by unfold mN;push_cast;omega
 have t2:t<2:=by omega
 have hts:t≠s:=by omega
 have hv:VL V (p j):=(h.vl _).2 ⟨j,Q,rfl⟩;have y:=h.gw.q _ hv;obtain⟨q1,q2,q3⟩:=Fp (af:=af) y hMN J h1 h2;obtain⟨gw',H,iv,hBs,gi⟩:=h.gw.qZ (g:=g) (cap':=cap') (bG:=bG) (rU (Nat.le_add_right N 1)) J C hs ht hk hpj (o':=dR (V.om (p j)) af az) rfl rfl q1;refine⟨iv,?_⟩;obtain⟨st0,m⟩:∃st0:MS,st0=⟨(V.B d).leave V.om t k,aK V.om (p j) (dR (V.om (p j)) af az),V.lg.dE (p j) (V.om (p j))⟩:=⟨_,rfl⟩;rw[<-m]at H iv;have D:=((h.gw.gb d C).mem t t2 _).1 ⟨k,hk,rfl⟩;rw[hpj]at D;obtain⟨Y,I,M,e4,e5,e6,e7,e8,e9,e10,e11,e12⟩:=fC (h.same j Q);have pne:∀a,a<S.l.length->a≠j->p a≠p j:=fun a b e I=>e (h.inj a j b Q I)
 have W:∀a,a<S.l.length->a≠j->aK V.om (p j) (dR (V.om (p j)) af az) (p a)=V.om (p a):=fun a b e=>ag _ _ (pne a b e)
 have nk:∀a,ak (S.fresh.dN j (yc (ak S.l j) af az)).l a=if a=j then yc (ak S.l j) af az else ak S.l a:=fun a=>by
  simp only[RS.dN,uB];exact eX Q a
 have u:∀a,a≠j->ak (S.fresh.dN j (yc (ak S.l j) af az)).l a=ak S.l a:=fun a e=>by rw[nk a,if_neg e]
 have U:ak (S.fresh.dN j (yc (ak S.l j) af az)).l j=yc (ak S.l j) af az:=by rw[nk j,if_pos rfl]
 have F:(S.fresh.dN j (yc (ak S.l j) af az)).l.length=S.l.length:=by simp[RS.dN,uB]
 have G:((V.B d).leave V.om t k).n s=(V.B d).n s/\((V.B d).leave V.om t k).h s=(V.B d).h s:=by simp only[Bk.leave];rw[ag _ _ (fun e=>hts e.symm),ag _ _ (fun e=>hts e.symm)];exact⟨rfl,rfl⟩
 have Wj:(ak S.l j).side=(t:Int):=by rw[<-e4];exact D.2.2.1
 have Yf:wF p (p j) j s ((V.B d).leave V.om t k) (aK V.om (p j) (dR (V.om (p j)) af az)) (S.fresh.dN j (yc (ak S.l j) af az)).l (V.B d).sym:=by
  refine⟨by omega,rfl,fun a c b A e=>h.inj a c (by omega) (by omega) e,fun a b o=>?_,?_,fun a c b A K L E z P=>?_,fun a c b A K L hac E z P=>?_,fun x=>?_,?_,?_,fun a b=>?_,fun a b=>?_⟩
  ·rw[F]at b;rw[W a b o,u a o];exact h.same a b
  ·rw[ah,U];have:=h.same j Q;show ({ ny (V.om (p j)) with af:=af,entered:=(dR (V.om (p j)) af az).entered,aH:=0 }:Ord)={ ny (ak S.l j) with entered:=wrap64 (wrap64 ((ak S.l j).entered+az)-(ak S.l j).aH),aH:=0,af:=af };rw[q2,<-e8,<-e9,q3,this]
  ·rw[F]at b A;rw[u a K,u c L]at E ⊢;rw[u a K]at z;rw[u c L]at P;rw[W a b K,W c A L];exact h.place a c b A E z P
  ·rw[F]at b A;rw[u a K,u c L]at E ⊢;rw[u a K]at z;rw[u c L]at P;exact h.wI a c b A hac E z P
  ·rw[G.1,G.2,(h.gw.gb d C).mem s hs x,h.vl x,F];constructor
   ·rintro⟨⟨a,b,rfl⟩,X,a2,a3⟩;obtain⟨_,_,R,Z,_,_,_,_,T,_⟩:=fC (h.same a b);have o:a≠j:=fun e=>by
     subst e;rw[Z,Wj]at a2;omega
    refine⟨a,b,o,rfl,?_,?_,?_⟩ <;> rw[u a o]
    ·rw[<-R];exact X
    ·rw[<-Z];exact a2
    ·rw[<-T];exact a3
   ·rintro⟨a,b,o,e,X,a2,a3⟩;obtain⟨_,_,R,Z,_,_,_,_,T,_⟩:=fC (h.same a b);rw[u a o]at X a2 a3;subst e;exact⟨⟨a,b,rfl⟩,by rw[R];exact X,by rw[Z];exact a2,by rw[T];exact a3⟩
  ·rw[U];show (ak S.l j).sym=_;rw[<-M];exact D.2.1
  ·rw[U];show (ak S.l j).side=_;rw[Wj];omega
  ·rw[F]at b;by_cases e:a=j
   ·subst e;rw[U];exact h.side b
   ·rw[u a e];exact h.side b
  ·rw[F]at b;by_cases e:a=j
   ·subst e;rw[U];exact Int.le_refl _
   ·rw[u a e];exact (h.aH b).1
 have hcs:=h.count C hs;have abP:=h.fM;have e03:st0.B.n s=(V.B d).n s:=by rw[m];exact G.1
 have hmu:mu (p j) s st0<=201:=by
  unfold mu;rw[e03];split <;> omega
 have hf1:(V.om (p j)).filled<=1000000000000000:=by have:=y.f0;have:=y.o0;have:=y.c0;have:=y.e0;have:=y.sum;have:=y.hi;omega
 have hR:sK p (p j) j s (V.B d).sym V.lg.tp V.tr (V.om (p j)).filled st0 ⟨S.fresh.dN j (yc (ak S.l j) af az),az,0,0,0⟩:=by
  rw[m];refine⟨Yf,?_,h.tr,rfl,h.day,rfl,?_,?_,?_,Int.le_refl _,y.f0,hf1⟩
  ·simp only[ah];rfl
  ·simp only[ah];show (0:Int)=(V.om (p j)).filled-(V.om (p j)).filled;omega
  ·show (0:Int)=(V.lg.tr.length:Int)-V.lg.tr.length;omega
  ·exact (if_pos (show MS.tr ⟨(V.B d).leave V.om t k,aK V.om (p j) (dR (V.om (p j)) af az),V.lg.dE (p j) (V.om (p j))⟩=V.tr from rfl)).symm
 have hqx:∀x,(x=p j\/mJ st0 s x)->Qo (mN (N+1)) (st0.om x):=fun x hx=>by
  rw[m]at hx ⊢;simp only;by_cases e:x=p j
  ·rw[e,ah];exact q1
  ·rw[ag _ _ e];rcases hx with I | I
   ·exact absurd I e
   ·have M:Mem ((V.B d).n s) ((V.B d).h s) x:=by have:=I;simp only[mJ]at this;rw[G.1,G.2]at this;exact this
    exact (h.gw.q x (((h.gw.gb d C).mem s hs x).1 M).1).mono (rU (Nat.le_add_right N 1))
 have hheap:ed (fE st0.om) (st0.B.n s) (st0.B.h s):=by rw[m];exact gi.heap s hs
 have ab2:=h.xk;have abZ:=h.zA;have JY:st0.tr=V.tr:=by rw[m];rfl
 have Xp:V.tr=(V.lg.tr.length:Int):=rfl;obtain⟨r,he,v,E,hpl,w,hpc,htl,hol⟩:=sK.ZQ J hs (by rw[Xp];omega) (mu (p j) s st0) st0 _ hR iv hheap hqx (Nat.le_refl _) (by rw[JY,Xp];omega);change sK _ _ _ _ _ _ _ _ (mF (p j) s st0) r at v;have QN:r.S.sy=S.sy:=E;have hpl':r.S.places=S.places:=hpl;rw[F]at w;have q:=H.q (p j) (.inl rfl);have hlen:=Rh (oc:=p j) (s:=s) (st:=st0);have e0:st0.lg.tr.length=V.lg.tr.length/\st0.lg.tp.length=V.lg.tp.length/\st0.lg.na=V.lg.na+1/\st0.lg.ud=V.lg.ud:=by rw[m];exact⟨rfl,rfl,rfl,rfl⟩
 obtain⟨e01,e02,e04,e05⟩:=e0;rw[e01,e02,e03]at hlen;have idj:∀a,a<S.l.length->(ak r.S.l a).id=(ak S.l a).id:=fun a b=>by
  by_cases e:a=j
  ·subst e;have O:=(fC v.oG.self).1;simp only at O;rw[<-O,(H.oH (p a)).1,m];simp only[ah];exact Y
  ·have O:=(fC (v.oG.same a (by rw[w];exact b) e)).1;rw[<-O,(H.oH (p a)).1,m];simp only;rw[W a b e];exact (fC (h.same a b)).1
 have old:∀a,a<S.l.length->a≠j->(ak r.S.l a).sym=(ak S.l a).sym/\((mF (p j) s st0).om (p a)).place=(V.om (p a)).place/\(0<(ak r.S.l a).aH->0<(ak S.l a).aH)/\(ak r.S.l a).place=(ak S.l a).place:=fun a b o=>by
  obtain⟨O,_,f3,_,_,_,_,_,f9,_⟩:=fC (v.oG.same a (by rw[w];exact b) o);obtain⟨z,_,g3,_,_,_,_,g8,_⟩:=H.oH (p a);have Y:st0.om (p a)=V.om (p a):=by rw[m];exact W a b o
  rw[Y]at z g3 g8;obtain⟨k1,_,R,_,_,_,_,_,T,_⟩:=fC (h.same a b);refine⟨by rw[<-f3,g3,R],g8,fun h0=>?_,by rw[hpc a];exact congrArg Ord.place (u a o)⟩;rw[<-f9]at h0;rw[<-T];by_cases D:mJ st0 s (p a)
  ·rw[m]at D;have M:Mem ((V.B d).n s) ((V.B d).h s) (p a):=by have:=D;simp only[mJ]at this;rw[G.1,G.2]at this;exact this
   exact (((h.gw.gb d C).mem s hs _).1 M).2.2.2
  ·rw[H.FZ _ (pne a b o) D,Y]at h0;exact h0
 refine⟨r,mu (p j) s st0,he,hmu,?_,?_,?_,?_⟩
 ·refine di.RI (V:=V) (g:=g) (cap':=cap') (t:=t) (by omega) C v q gw' rfl (by rw[m];rfl) (by rw[m];rfl) (by rw[m];rfl) hBs (by unfold mF;rw[ql,m];rfl) h.KQ (by rw[QN];exact h.nb) (by rw[QN];exact h.sym) (by rw[w,<-h.no];rfl) (fun a b=>?_) (fun id b2 hb2=>?_) (fun a b o h0 i hi hsj=>?_) (fun a b o h0=>?_) (by rw[hpl'];exact h.Po) (by omega) (by omega) (by rw[VX,VW,e04,e05];have:=h.zu;omega) (by show V.no<=200;omega) h.Pn (fun a b=>by rw[w]at b;rw[idj a b];exact h.xx a b)
  ·rw[w]at b;rw[idj a b];exact h.aV a b
  ·obtain⟨a,b,x1,x2⟩:=h.yY id b2 hb2;exact⟨a,by rw[w];exact b,by rw[idj a b];exact x1,x2⟩
  ·rw[w]at b;obtain⟨o2,o3,o4,_⟩:=old a b o;rw[o3];rw[o2]at hsj;exact h.Nb a b (o4 h0) i hi hsj
  ·rw[w]at b;obtain⟨_,_,o4,o5⟩:=old a b o;rw[o5,hpl'];exact h.Nc a b (o4 h0)
 ·have hrep:=v.report J q (dR (V.om (p j)) af az) rfl (by rw[H.aX,m];simp only[ah]) (by unfold MS.tr;omega) (by rw[Xp];omega);rw[<-hrep,m]
  rfl
 ·obtain⟨_,_,_,_,_,_,f7,_⟩:=v.fin J q;rw[f7,<-v.tp,m]
  rfl
 ·obtain⟨_,_,_,_,_,_,f7,_⟩:=v.fin J q;rw[f7];have abT:r.S.told.length<=0+mu (p j) s st0:=hol;omega
theorem Lc(base d:Nat)(S:RS)(m:SM)(x:bD)(w:World)(h:dF w base d S m)(hx:x.kind=108)(hsz:x.s.size<=1000000000)(hsy:S.sy.length<=1000)(he:rQ S.sy x.s=0) :
 CT 138 #[PP d,x.val] w fun e w'=>e=.returned (.tuple #[dm 0 0 0 0 0,II 0])/\iZ base d (S.fresh.lists x.s) m w w':=by
 have MP:=h.ay.lt;have v5:CC w d 5 m.ov:=h.ay.cell 5;have f5:=h.ay.frozen 5;have sz:d≠w.heap.size:=by omega
 have sr:d≠w.heap.size+1:=by omega
 have sz':=sz.symm;have Yg:=sr.symm;have ES:d<w.heap.size+1:=by omega
 have HNM:Hid (∀g,CT 166 #[.string x.s] g fun e w'=>e=.returned (.bool (lL x.s))/\w'=g):=fun g=>DJ x.s g hsz
 have G:Hid (∀g m',dF g base d S.fresh m'->CT 142 #[PP d,.string x.s] g fun e w'=>e=.returned (.bool (jO S.sy x.s))/\w'=g):=fun g m' hW=>ku base d S.fresh m' x.s g hW hsy
 obtain⟨M,N,z⟩:=aJ h.mZ;have i:=vO S.sy x.s;obtain⟨n,p⟩:=dQ S.sy.length;rw[p]at z i hsy;have v0:w.cell? ⟨d,0,none⟩=some (.slice M n N):=by rw[<-z];exact h.ay.cell 0
 obtain⟨E,hE⟩:=dQ (rQ S.sy x.s);rw[hE]at he i;obtain⟨B,hB⟩:=dQ (lL x.s);obtain⟨C,hC⟩:=dQ (jO S.sy x.s);rw[hB]at i HNM;rw[hC]at i G;obtain⟨kind,s,⟨id,aG,sym,side,iK,af,az⟩,a,b,c,again⟩:=x;simp only at hx;subst hx;simp only[bD.val,bD.cells,iR.val]at HNM G ⊢;have HS:=ai h;obtain⟨q,U,k,H⟩:=h.qy #[.int .u8 108,.string s,II id,II aG,.string sym,II side,II iK,II af,II az,II a,II b,II c,.bool again];obtain⟨f,R⟩:=gy ((((w.setCell ⟨d,5,none⟩ (.slice none 0 0)).alloc (.cells #[.int .u8 108,.string s,II id,II aG,.string sym,II side,II iK,II af,II az,II a,II b,II c,.bool again] 169)).alloc (.cells bC 87)));rw[<-R]at q U k H;obtain⟨X,Zc,WA,Y,HB,HW1⟩:=nH (ae G _ _ q) U q p k R;have y1:CC f w.heap.size 1 (.string s):=H.cell 1;have y0:f.cell? ⟨d,0,none⟩=some (.slice M n N):=by rw[<-z];exact q.ay.cell 0
 have l0:w.heap.size<f.heap.size:=H.lt;have l1:d<f.heap.size:=q.ay.lt;obtain⟨z0,z1,z2,z3,z4⟩:=k.c5;have fz0:=k.frozen 0;have Qw:=k.frozen 1;have Qx:=k.frozen 2;have fz3:=k.frozen 3;have Qy:=k.frozen 4;simp only[bC]at HW1;have hmx:n+1<=maxLen:=by unfold maxLen;omega
 have lH:(n+1) * 16<=140737488355328:=by omega
 have hge:=h.ge;obtain⟨i0,z0',hi0,hz0,hz1,hz2,hz3⟩:=Hq;have u:=ai z;clear q U k H G R h z p hB hC hE;go_enter Tryz.func138,Tryz.ntmps138;go_wp2_with fail;rw[<-ae HW1];refine (ae HNM _).mono ?_;rintro e V ⟨rfl,v⟩;rw[v];clear v V;go_wp2_with fail;refine (ae X).mono ?_;rintro e V ⟨rfl,v⟩;rw[v];clear v V;obtain⟨rfl,rfl,hd,rfl⟩:B=true/\C=false/\decide ((n:Int)>=6)=false/\E=0:=by
  rcases i with⟨I,J⟩ | ⟨I,J,Q⟩ | ⟨I,J,Q,h4⟩ | ⟨I,J,Q,h4⟩
  ·omega
  ·omega
  ·omega
  ·exact⟨I,J,Q,h4⟩
 clear i he;obtain⟨A,y⟩:=gy ((f.alloc (.cells #[.string s] 9)).drew);have L:aj aA f A:=by rw[y];exact ((aj.refl aA f).alloc _).drew
 have T:=(ae WA).ax L;have hs4:A.heap.size=f.heap.size+1:=by rw[y];simp
 have r4:A.ownsRow base 9 1 (.slice M n N) n (S.sy.map Value.string):=by
  have r:=T.mZ;change A.ownsRow base 9 1 m.yv S.sy.length (S.sy.map Value.string) at r;rw[ae u,ae Y]at r;exact r
 have hnews:∀j t,([.string s]:List Value)[j]?=some t->A.cell? (Addr.add ⟨f.heap.size,0,none⟩ j)=some t:=by
  intro j t hj;have:=aaE f s j t hj;rw[y];exact this
 have hone:∀t∈([.string s]:List Value),t.oneCell'=true:=by simp[Value.oneCell']
 obtain⟨LZ,o,HR4,Z,CE,F⟩:=nH y T r4 hnews hone hs4;have D:=ai (L.ay (ae HB) idd);have O:=ai L;clear y T r4 hnews hone hs4 L;go_upto_region 12 with fail;go_cut [] from 42 (fun wc=>iZ base d (S.fresh.lists s) m w wc/\au wc (w.heap.size+1) bC 87)
 case first JJ KK hJ hK =>
  go_region_law (first | (rw[<-ae LZ];refine step_append_lies _ rfl (.tmp 46) (.tmp 49) 106 rfl base 9 i0 z0' 1 16 Tryz.underlying106 hi0 hz0 hz1 hz2 hz3 (by decide) (.slice M n N) n (S.sy.map Value.string) rfl (ae HR4) ⟨f.heap.size,0,none⟩ 1 1 ([.string s]) rfl rfl (ae Z) (ae CE) (by omega) hmx lH (by have:=ae F;omega) (f.heap.size+1) (ae F) ?_;intro g5 cap5 w5 hown2 K hat hlt;have Ec:=ai hown2;have HG2:=ai K;have HA2:=ai hat;have P:au w5 d _ 207:=(K.block d (ae o).ay.lt (fun e=>by obtain⟨cs,i⟩:=aF (ae o).mZ (b:=d) (by show m.yv.ownBlock=_;rw[ae u];exact e.symm);exact au.ne i (ae o).ay (by decide) rfl)).trans (ae o).ay;have v52:=P.cell 0;have f52:=P.frozen 0;simp at v52;have bb1:au w5 (w.heap.size+1) _ 87:=(K.block (w.heap.size+1) (ae D).lt (fun e=>by obtain⟨cs,i⟩:=aF (ae o).mZ (b:=w.heap.size+1) (by show m.yv.ownBlock=_;rw[ae u];exact e.symm);exact au.ne i (ae D) (by decide) rfl)).trans (ae D);have Wp:=ai bb1;clear hown2 K hat P bb1))
  all_goals
   refine hK _ _ (Met.intro (hJ _ _ ?_))
   repeat apply Exists.intro
   refine⟨?rel,rfl⟩
   case rel =>
    obtain⟨m6,p6,q6,r6⟩:=(ae o).Yn (s:=s) (ae Y) (ae Ec) (by show World.grownBy _ _ m.yv.ownBlock;rw[ae u];exact ae HG2) (by show m.yv.ownBlock=_\/_;rw[ae u];exact ae HA2) (ae F);refine⟨⟨m6,p6,fun b hb=>?_,((ae Zc).trans (ae O).aP).trans (r6.mono (ae HS).fresh.2.2)⟩,(ae Wp).other (a:=⟨d,0,none⟩) Yg _⟩;rcases q6 b hb with x | x
    ·exact .inl ((ae HS).fresh.2.2 b x)
    ·exact .inr (Nat.le_trans (ae Zc).size (Nat.le_trans (ae O).size x))
 case rest =>
  clear LZ o HR4 Z CE F D O X HNM z0 z1 z2 z3 z4 fz0 Qw Qx fz3 Qy y1 y0 l0 l1;obtain⟨p,l⟩:=hcut;obtain⟨s0,s1,s2,s3,s4⟩:=l.c5;have fs0:=l.frozen 0;have fs1:=l.frozen 1;have fs2:=l.frozen 2;have fs3:=l.frozen 3;have fs4:=l.frozen 4;obtain⟨W,Yt⟩:=aZ l p;clear l p;go_wp2;refine bodyPost_ret (qx _ (w.heap.size+1) _ 0 0 0 0 0 0 rfl rfl ?_) rfl ⟨rfl,?_⟩
  ·exact uh (ae W) _ _ _ _ _
  ·exact (ae Yt).off (ae W) (by omega) (qE _ _ _ _ _)
structure xC(w0:World) where
 w:World
 k:aj aA w0 w
theorem Bv{P:Program}{id:Nat}{Q:Exit->Act->World->Prop}{a:Act}{w:World}{l:List Oper}(d:P.follows .mixedOrders=true)(c:Region.lexB .any l.toArray=true)
 (h:wpQuiet P l.toArray (fun w'=>∃p:xC w,w'=p.w) (fun b=>∀w',(∃p:xC w,w'=p.w)->Q .normal b w') l a):(Code.region id l.toArray true).wp P Q a w :=
 wp_region_quiet (C:=fun w'=>∃p:xC w,w'=p.w) d c ⟨⟨_,(aj.refl aA w).drew⟩,rfl⟩ (by simpa using h)
theorem Oz{n:Int}(h:qh n){a:World}(p:xC a):CT 173 #[II n] p.w fun e w'=>e=.returned (.string (jR n))/\∃q:xC a,w'=q.w:=by
 refine (pM n h a p.w p.k).mono ?_;rintro e w' ⟨rfl,k'⟩;exact⟨rfl,⟨w',k'⟩,rfl⟩
def Ib(id aG:Int)(sym:ByteArray)(side iK af az:Int):ByteArray :=
 (⟨#[101,110,116,101,114,32]⟩:ByteArray)++jR id++⟨#[32]⟩++jR aG++⟨#[32]⟩++sym++⟨#[32]⟩++jR side++⟨#[32]⟩++jR iK++⟨#[32]⟩++jR af++⟨#[32]⟩++jR az
theorem au.snd(w:World)(o:Obj)(c:Array Value)(t:TypeId):au ((w.alloc o).alloc (.cells c t)) (w.heap.size+1) c t:=by
 have:=au.new (w.alloc o) c t;rw[show (w.alloc o).heap.size=w.heap.size+1 by simp]at this;exact this
theorem ik{P:Program}(a b:ByteArray)(h:a.size<=100000)(d:b.size<=100000)(c:World):(Op.stringOp .add a b).run P c=.ok (.string (a++b)) c:=gu a b (by omega) c
theorem gJ{a b:ByteArray}{n m:Nat}(h:a.size<=n)(c:b.size<=m):(a++b).size<=n+m:=by rw[ByteArray.size_append];omega
theorem IX(s:ByteArray)(id g:Int)(sym:ByteArray)(side f af az a b c:Int)(again:Bool)(w:World)(C:qh id)(E:qh g)(I:qh side)(D:qh f)(F:qh af)(G:qh az)(hs:sym.size<=1000) :
 CT 139 #[.agg #[.int .u8 101,.string s,II id,II g,.string sym,II side,II f,II af,II az,II a,II b,II c,.bool again]] w fun e w'=>e=.returned (.string (Ib id g sym side f af az))/\aj aA w w':=by
 obtain⟨w2,j⟩:=gy ((w.alloc (.cells #[.int .u8 101,.string s,II id,II g,.string sym,II side,II f,II af,II az,II a,II b,II c,.bool again] 169)).alloc (.cells #[II id,II g,.string sym,II side,II f,II af,II az] 52));have J:aj aA w w2:=by rw[j];exact ((aj.refl aA w).alloc _).alloc _
 have i:au w2 (w.heap.size+1) #[II id,II g,.string sym,II side,II f,II af,II az] 52:=by rw[j];exact au.snd _ _ _ _
 obtain⟨H,hH⟩:=dQ w.heap.size;have Q:=ai j;rw[hH]at i;have x0:∀p:xC w2,p.w.cell? ⟨H+1,0,none⟩=some (II id):=fun p=>p.k.cell (i.cell 0) idd
 have x1:∀p:xC w2,p.w.cell? ⟨H+1,1,none⟩=some (II g):=fun p=>p.k.cell (i.cell 1) idd
 have x2:∀p:xC w2,p.w.cell? ⟨H+1,2,none⟩=some (.string sym):=fun p=>p.k.cell (i.cell 2) idd
 have x3:∀p:xC w2,p.w.cell? ⟨H+1,3,none⟩=some (II side):=fun p=>p.k.cell (i.cell 3) idd
 have x4:∀p:xC w2,p.w.cell? ⟨H+1,4,none⟩=some (II f):=fun p=>p.k.cell (i.cell 4) idd
 have x5:∀p:xC w2,p.w.cell? ⟨H+1,5,none⟩=some (II af):=fun p=>p.k.cell (i.cell 5) idd
 have x6:∀p:xC w2,p.w.cell? ⟨H+1,6,none⟩=some (II az):=fun p=>p.k.cell (i.cell 6) idd
 have B:=(dH id C).2;have z2:=(dH g E).2;have z3:=(dH side I).2;have z4:=(dH f D).2;have z5:=(dH af F).2;have L:=(dH az G).2;have d:(⟨#[32]⟩:ByteArray).size<=1:=Nat.le_refl _;have m:(⟨#[101,110,116,101,114,32]⟩:ByteArray).size<=6:=Nat.le_refl _;have n:=gJ m B;have r:=gJ n d;have t:=gJ r z2;have u:=gJ t d;have v:=gJ u hs;have x:=gJ v d;have y:=gJ x z3;have z:=gJ y d;have A:=gJ z z4;have o:=gJ A d;have q:=gJ o z5;have K:=gJ q d;have c0:=ik (P:=Tryz.prog) _ _ (Nat.le_trans m (by decide)) (Nat.le_trans B (by decide));have c1:=ik (P:=Tryz.prog) _ _ (Nat.le_trans n (by decide)) (Nat.le_trans d (by decide));have U:=ik (P:=Tryz.prog) _ _ (Nat.le_trans r (by decide)) (Nat.le_trans z2 (by decide));have V:=ik (P:=Tryz.prog) _ _ (Nat.le_trans t (by decide)) (Nat.le_trans d (by decide));have W:=ik (P:=Tryz.prog) _ _ (Nat.le_trans u (by decide)) (Nat.le_trans hs (by decide));have c5:=ik (P:=Tryz.prog) _ _ (Nat.le_trans v (by decide)) (Nat.le_trans d (by decide));have X:=ik (P:=Tryz.prog) _ _ (Nat.le_trans x (by decide)) (Nat.le_trans z3 (by decide));have c7:=ik (P:=Tryz.prog) _ _ (Nat.le_trans y (by decide)) (Nat.le_trans d (by decide));have c8:=ik (P:=Tryz.prog) _ _ (Nat.le_trans z (by decide)) (Nat.le_trans z4 (by decide));have c9:=ik (P:=Tryz.prog) _ _ (Nat.le_trans A (by decide)) (Nat.le_trans d (by decide));have S:=ik (P:=Tryz.prog) _ _ (Nat.le_trans o (by decide)) (Nat.le_trans z5 (by decide));have T:=ik (P:=Tryz.prog) _ _ (Nat.le_trans q (by decide)) (Nat.le_trans d (by decide));have c12:=ik (P:=Tryz.prog) _ _ (Nat.le_trans K (by decide)) (Nat.le_trans L (by decide));have M:=ai J;have N:Hid (Ib id g sym side f af az=Ib id g sym side f af az):=rfl;obtain⟨Y,l⟩:=dQ (Ib id g sym side f af az);rw[l];have O:=ai l;clear N l J j i B z2 z3 z4 z5 L d m n r t u v x y z A o q K hs;go_enter Tryz.func139,Tryz.ntmps139;go_wp2;rw[<-ae Q]
 haveI:Nonempty (xC w2):=⟨⟨w2,aj.refl _ _⟩⟩
 refine Bv (by kernel_rfl) (by kernel_rfl) ?_
 repeat (quiet_step ((refine Oz ?_ _;first | exact C | exact E | exact I | exact D | exact F | exact G)))
 refine wpQuiet_nil ?_;rintro _ ⟨⟨Z,R⟩,rfl⟩;go_wp2;go_ret;exact⟨by rw[<-ae O];rfl,(ae M).trans R⟩
theorem EK(c:Nat)(w:World):CT 85 #[.int .i32 (c:Int)] w fun e w'=>e=.returned (.bool (rV c))/\w'=w:=by
 have l:(65<=c/\c<=90/\rV c=true)\/(¬(65<=c/\c<=90)/\((48<=c/\c<=57/\rV c=true)\/(¬(48<=c/\c<=57)/\((c=930/\rV c=false)\/(c≠930/\((913<=c/\c<=937/\rV c=true)\/(¬(913<=c/\c<=937)/\rV c=false))))))):=by
  by_cases a:65<=c/\c<=90
  ·left;exact⟨a.1,a.2,by simp[rV,a]⟩
  ·right;refine⟨a,?_⟩;by_cases d:48<=c/\c<=57
   ·left;exact⟨d.1,d.2,by simp[rV,d]⟩
   ·right;refine⟨d,?_⟩;by_cases f:c=930
    ·left;exact⟨f,by subst f;decide⟩
    ·right;refine⟨f,?_⟩;by_cases g:913<=c/\c<=937
     ·left;exact⟨g.1,g.2,by simp[rV,g,f]⟩
     ·right;refine⟨g,?_⟩;simp only[rV,Bool.or_eq_false_iff,Bool.and_eq_false_iff,decide_eq_false_iff_not,Bool.not_eq_false',beq_iff_eq];omega
 obtain⟨b,j⟩:=dQ (rV c);rw[j]at l ⊢;clear j;have o:∀k:Nat,decide ((k:Int)<=(c:Int))=decide (k<=c):=fun k=>by simp
 rcases l with⟨i,a2,rfl⟩ | ⟨i,⟨a2,a3,rfl⟩ | ⟨a2,⟨a3,rfl⟩ | ⟨a3,⟨a4,a5,rfl⟩ | ⟨a4,rfl⟩⟩⟩⟩
 ·go_enter Tryz.func85,Tryz.ntmps85;go_wp2;go_ret;exact⟨rfl,rfl⟩
 ·by_cases p:65<=c
  ·exfalso;omega
  ·go_enter Tryz.func85,Tryz.ntmps85;go_wp2;go_ret;exact⟨rfl,rfl⟩
 ·subst a3;go_enter Tryz.func85,Tryz.ntmps85;go_wp2;go_ret;exact⟨rfl,rfl⟩
 ·have e:((c:Int) == 930)=false:=by simp;omega
  go_enter Tryz.func85,Tryz.ntmps85;go_wp2;go_ret;refine⟨?_,rfl⟩
  first | rfl | (simp;omega)
 ·have e:((c:Int) == 930)=false:=by simp;omega
  have n:(c<48)\/(57<c/\c<65)\/(90<c/\c<913)\/937<c:=by omega
  clear i a2 a4;rcases n with h | ⟨h,m⟩ | ⟨h,m⟩ | h
  all_goals
   go_enter Tryz.func85,Tryz.ntmps85;go_wp2;go_ret;refine⟨?_,rfl⟩
   first | rfl | (simp;omega)
theorem Ey(s:ByteArray)(i:Nat):(Utf8.decode s i).1<=1114111/\1<=(Utf8.decode s i).2:=by
 unfold Utf8.decode;simp only;have a:∀r:Nat,Utf8.valid (r:Int)=true->r<=1114111:=fun r h=>by simp[Utf8.valid]at h;omega
 split
 ·rename_i h;exact⟨Nat.le_trans (Nat.le_of_lt h) (by decide),Nat.le_refl _⟩
 ·split
  ·split
   ·exact⟨by simp;omega,by simp⟩
   ·exact⟨by decide,by simp⟩
  ·split
   ·split
    ·rename_i h;simp at h;exact⟨a _ (by simpa using h.2),by simp⟩
    ·exact⟨by decide,by simp⟩
   ·split
    ·split
     ·rename_i h;simp at h;exact⟨a _ (by simpa using h.2),by simp⟩
     ·exact⟨by decide,by simp⟩
    ·exact⟨by decide,by simp⟩
theorem JZ(s:ByteArray)(hs:s.size<=1000000000):sJ s (lL s):=by
 intro w;have r:Hid (∀(c:Nat) W,CT 85 #[.int .i32 (c:Int)] W fun e w'=>e=.returned (.bool (rV c))/\w'=W):=EK;have v:Hid (∀a,¬a<s.size->∀ty,(Instr.next (PP w.heap.size) true ty).run Tryz.prog (w.iter s a)=.ok (.tuple #[.bool false]) (w.iter s a)):=fun a h ty=>run_next_end w s a ty h
 have u:Hid (∀a c n,a<s.size->Utf8.decode s a=(c,n)->∀ty,(Instr.next (PP w.heap.size) true ty).run Tryz.prog (w.iter s a)=.ok (.tuple #[.bool true,II a,.int .i32 c]) (w.iter s (a+n))):=fun a c n h d ty=>FK w s a c n ty h d
 have p:Hid (∀a,aj aA w (w.iter s a)):=fun a=>(aj.refl aA w).alloc _
 go_enter Tryz.func50,Tryz.ntmps50;go_wp2;go_loopg [3] (s.size+1) (fun q C wr=>∃a n:Nat,C=II (n:Int)/\wr=w.iter s a/\mr s q a n=lL s/\s.size<a+q/\n<=6/\a<=s.size)
 case atStart=>exact⟨0,0,rfl,rfl,rfl,by omega,by omega,by omega⟩
 case round =>
  obtain⟨a,n,rfl,rfl,f,E,z,D⟩:=hrel;by_cases i:a<s.size
  ·obtain⟨q,rfl⟩:∃q,gk=q+1:=⟨gk-1,by omega⟩;have t:=Ey s a;obtain⟨⟨c,k⟩,d⟩:∃x,Utf8.decode s a=x:=⟨_,rfl⟩;have B:=ae u a c k i d;rw[d]at t;simp only at t;have j:mr s (q+1) a n=(if rV (sH s a).1 then mr s q (a+(sH s a).2) (n+1) else false):=by
    conv=>lhs;unfold mr
    rw[if_pos i]
   by_cases y:n=6
   ·have b:lL s=false:=by
     rw[<-f,j];split
     ·exact Ap _ _ _ _ (by omega)
     ·rfl
    have g:=ai b;subst y;clear f j b d;go_wp2;go_ret;exact⟨by rw[ae g];rfl,ae p _⟩
   ·cases hu:rV (sH s a).1
    ·have m:rV c=false:=by have:=Uu i hu;rw[d]at this;exact this
     have b:lL s=false:=by rw[<-f,j,hu];rfl
     obtain⟨g,l⟩:=aZ b (ae r c);rw[m]at l;clear f j b d m hu;go_wp2_with fail;refine (ae l _).mono ?_;rintro e w' ⟨rfl,rfl⟩;go_wp2;go_ret;exact⟨by rw[ae g];rfl,ae p _⟩
    ·have o:=Xi i hu;rw[d]at o;have m:rV c=true:=by rw[<-o]at hu;exact hu
     have A:a+k<=s.size:=by have:=(MZ s a).2.2.1 i;rw[<-o]at this;exact this
     have b:mr s q (a+k) (n+1)=lL s:=by rw[<-f,j,hu,<-o];rfl
     obtain⟨g,l⟩:=aZ b (ae r c);rw[m]at l;clear f j b d m hu o;go_wp2_with fail;refine (ae l _).mono ?_;rintro e w' ⟨rfl,rfl⟩;go_wp2;go_roundg q
     case measure=>omega
     case rel=>exact⟨a+k,n+1,by push_cast;rfl,rfl,ae g,by omega,by omega,A⟩
  ·have B:=ae v a i;obtain⟨q,rfl⟩:∃q,gk=q+1:=by
    cases gk with
    | zero=>exfalso;omega
    | succ q=>exact⟨q,rfl⟩
   have b:lL s=decide (0<n):=by
    rw[<-f];unfold mr;rw[if_neg i];have:decide (n<=6)=true:=by simpa using z
    rw[this,Bool.and_true]
    rfl
   have g:=ai b;clear f b;go_wp2;go_ret;exact⟨by rw[ae g];simp,ae p _⟩
theorem vV(base f:Nat)(S S':RS)(m:SM)(x:bD)(g:Int)(w:World)(h:dF w base f S m)(p:x.kind=98)
 (k:∀i m',dF i base f S.fresh m'->CT 171 #[PP f,x.val] i fun e w'=>e=.returned (II g)/\iZ base f S' m' i w') :
 CT 138 #[PP f,x.val] w fun e w'=>e=.returned (.tuple #[dm 0 0 0 0 0,II g])/\iZ base f S' m w w':=by
 have I:=h.ay.lt;have v5:CC w f 5 m.ov:=h.ay.cell 5;have B:=h.ay.frozen 5;have z:f≠w.heap.size:=by omega
 have y:f≠w.heap.size+1:=by omega
 have L:=z.symm;have K:=y.symm;have J:f<w.heap.size+1:=by omega
 obtain⟨H,s,⟨id,v,sym,side,u,af,az⟩,a,b,c,again⟩:=x;simp only at p;subst p;simp only[bD.val,bD.cells]at k ⊢;obtain⟨HS,t⟩:=aZ h k;clear h k;go_enter Tryz.func138,Tryz.ntmps138;go_wp2_with fail;obtain⟨l,q,o,_⟩:=(ae HS).qy #[.int .u8 98,.string s,II id,II v,.string sym,II side,II u,II af,II az,II a,II b,II c,.bool again];refine (ae t _ _ l).mono ?_;rintro e M ⟨rfl,j⟩;have d:=j.zL l o (by decide);have r:=ai (j.qg (ae HS) q);have z0:=d.cell 0;have A:=d.cell 1;have z2:=d.cell 2;have z3:=d.cell 3;have z4:=d.cell 4;simp[bC]at z0 A z2 z3 z4;have C:=d.frozen 0;have D:=d.frozen 1;have E:=d.frozen 2;have F:=d.frozen 3;have G:=d.frozen 4;have n:=ai d;clear l q o j d;go_wp2;refine bodyPost_ret (qx _ (w.heap.size+1) _ 0 0 0 0 0 g rfl rfl ?_) rfl ⟨rfl,?_⟩
 ·exact uh (ae n) _ _ _ _ _
 ·exact (ae r).off (ae n) (by omega) (qE _ _ _ _ _)
theorem nC(base f:Nat)(S S':RS)(m:SM)(x:bD)(g:Int)(w:World)(h:dF w base f S m)(p:x.kind=107)
 (k:∀i m',dF i base f S.fresh m'->CT 171 #[PP f,x.val] i fun e w'=>e=.returned (II g)/\iZ base f S' m' i w') :
 CT 138 #[PP f,x.val] w fun e w'=>e=.returned (.tuple #[dm 0 0 0 0 0,II g])/\iZ base f S' m w w':=by
 have I:=h.ay.lt;have v5:CC w f 5 m.ov:=h.ay.cell 5;have B:=h.ay.frozen 5;have z:f≠w.heap.size:=by omega
 have y:f≠w.heap.size+1:=by omega
 have L:=z.symm;have K:=y.symm;have J:f<w.heap.size+1:=by omega
 obtain⟨H,s,⟨id,v,sym,side,u,af,az⟩,a,b,c,again⟩:=x;simp only at p;subst p;simp only[bD.val,bD.cells]at k ⊢;obtain⟨HS,t⟩:=aZ h k;clear h k;go_enter Tryz.func138,Tryz.ntmps138;go_wp2_with fail;obtain⟨l,q,o,_⟩:=(ae HS).qy #[.int .u8 107,.string s,II id,II v,.string sym,II side,II u,II af,II az,II a,II b,II c,.bool again];refine (ae t _ _ l).mono ?_;rintro e M ⟨rfl,j⟩;have d:=j.zL l o (by decide);have r:=ai (j.qg (ae HS) q);have z0:=d.cell 0;have A:=d.cell 1;have z2:=d.cell 2;have z3:=d.cell 3;have z4:=d.cell 4;simp[bC]at z0 A z2 z3 z4;have C:=d.frozen 0;have D:=d.frozen 1;have E:=d.frozen 2;have F:=d.frozen 3;have G:=d.frozen 4;have n:=ai d;clear l q o j d;go_wp2;refine bodyPost_ret (qx _ (w.heap.size+1) _ 0 0 0 0 0 g rfl rfl ?_) rfl ⟨rfl,?_⟩
 ·exact uh (ae n) _ _ _ _ _
 ·exact (ae r).off (ae n) (by omega) (qE _ _ _ _ _)
theorem IL(base f:Nat)(S S':RS)(m:SM)(x:bD)(w:World)(h:dF w base f S m)(o:x.kind=120)
 (n:∀g m',dF g base f S.fresh m'->CT 172 #[PP f] g fun e w'=>e=.returned (.tuple #[])/\iZ base f S' m' g w') :
 CT 138 #[PP f,x.val] w fun e w'=>e=.returned (.tuple #[dm 0 0 0 0 0,II 0])/\iZ base f S' m w w':=by
 have H:=h.ay.lt;have v5:CC w f 5 m.ov:=h.ay.cell 5;have A:=h.ay.frozen 5;have y:f≠w.heap.size:=by omega
 have v:f≠w.heap.size+1:=by omega
 have K:=y.symm;have J:=v.symm;have I:f<w.heap.size+1:=by omega
 obtain⟨G,s,⟨id,u,sym,side,t,af,az⟩,a,b,c,again⟩:=x;simp only at o;subst o;simp only[bD.val,bD.cells];obtain⟨HS,r⟩:=aZ h n;clear h n;go_enter Tryz.func138,Tryz.ntmps138;go_wp2_with fail;obtain⟨j,p,l,_⟩:=(ae HS).qy #[.int .u8 120,.string s,II id,II u,.string sym,II side,II t,II af,II az,II a,II b,II c,.bool again];refine (ae r _ _ j).mono ?_;rintro e L ⟨rfl,i⟩;have d:=i.zL j l (by decide);have q:=ai (i.qg (ae HS) p);have z0:=d.cell 0;have z:=d.cell 1;have z2:=d.cell 2;have z3:=d.cell 3;have z4:=d.cell 4;simp[bC]at z0 z z2 z3 z4;have B:=d.frozen 0;have C:=d.frozen 1;have D:=d.frozen 2;have E:=d.frozen 3;have F:=d.frozen 4;have k:=ai d;clear j p l i d;go_wp2;refine bodyPost_ret (qx _ (w.heap.size+1) _ 0 0 0 0 0 0 rfl rfl ?_) rfl ⟨rfl,?_⟩
 ·exact uh (ae k) _ _ _ _ _
 ·exact (ae q).off (ae k) (by omega) (qE _ _ _ _ _)
end Go.Proofs.YtigaphnafnpfnaaGreatDoor
