import Derived.Test.YtigaphnafnpfnaaGreatDoorQVL3
set_option linter.unusedVariables false
set_option linter.unusedSimpArgs false
namespace Go.Proofs.YtigaphnafnpfnaaGreatDoor
open Go.RowKit
attribute [local go_sem ↓] Go.wp_at_zero Go.wp_at_succ
def qX(N:Nat)(h:Nat->Nat):Prop:=∀a b,a<N->b<N->h a=h b->a=b
theorem qX.LC{N:Nat}{h:Nat->Nat}(v:qX N h){i j:Nat}(o:i<N)(p:j<N):qX N (sw h i j):=by
 intro a b q r e;have k:∀c,c<N->∃d,d<N/\sw h i j c=h d/\(c=i->d=j)/\(c≠i->c=j->d=i)/\(c≠i->c≠j->d=c):=by
  intro c s;by_cases f:c=i
  ·subst f;exact⟨j,p,FQ _ _ _,fun _=>rfl,fun h=>absurd rfl h,fun h=>absurd rfl h⟩
  ·by_cases g:c=j
   ·subst g;exact⟨i,o,Lu _ _ _,fun h=>absurd h f,fun _ _=>rfl,fun _ h=>absurd rfl h⟩
   ·exact⟨c,s,kE f g,fun h=>absurd h f,fun _ h=>absurd h g,fun _ _=>rfl⟩
 obtain⟨d,t,m,z,B,D⟩:=k a q;obtain⟨l,u,n,A,C,E⟩:=k b r;rw[m,n]at e;have:=v d l t u e;by_cases w:a=i <;> by_cases a2:a=j <;> by_cases x:b=i <;> by_cases y:b=j <;> simp_all <;> omega
theorem qX.up{lt:Nat->Nat->Bool}{N:Nat}{h:Nat->Nat}{j:Nat}(a:qX N h)(b:j<N):qX N (uQ lt h j):=by
 fun_induction uQ lt h j with
 | case1=>exact a
 | case3=>exact a
 | case2 h j hj0 hl ih=>exact ih (a.LC (by omega) b) (by omega)
theorem qX.down{lt:Nat->Nat->Bool}{n N:Nat}{h:Nat->Nat}{i:Nat}(a:qX N h)(b:n<=N):qX N (dY lt n h i).1:=by
 fun_induction dY lt n h i with
 | case1 h i hn _ hl ih =>
   have:=qI lt n h i hn;exact ih (a.LC (by omega) (by omega))
 | case2=>exact a
 | case3=>exact a
theorem qX.qw{lt:Nat->Nat->Bool}{n:Nat}{h:Nat->Nat}{i:Nat}(a:qX (n+1) h)(b:i<=n):qX (n+1) (eG lt h n i):=by
 unfold eG;split
 ·exact a
 ·split
  ·exact (a.LC (by omega) (by omega)).down (by omega)
  ·exact ((a.LC (by omega) (by omega)).down (by omega)).up (by omega)
theorem jk.inj{w:World}{s:Option Addr}{n cap:Nat}{h:Nat->Nat}{om:Nat->Ord}(hs:jk w s n cap h om):qX n h:=by
 intro a b c d e;rcases hs with⟨_,rfl,_⟩ | ⟨f,_,hs⟩
 ·omega
 ·exact hs.inj c d e
structure Mk(w:World)(bb:Nat)(B:Bk)(om:Nat->Ord)(L:Nat->Prop):Prop where
 aW:bM w bb B om
 bg:∀b,L b->∃ix,bV w b (om b) ix
 mem:∀s,s<2->∀k,k<B.n s->L (B.h s k)
theorem Mk.leave{w w':World}{d:Nat}{B:Bk}{om:Nat->Ord}{l:Nat->Prop}(m:Mk w d B om l){s i:Nat}(hs:s<2)(z:i<B.n s)(o:bM w' d (B.leave om s i) om)(r:∃j,bV w' (B.h s i) (om (B.h s i)) j)(u:aj (fun b=>b=d\/dn B s b) w w'):Mk w' d (B.leave om s i) om l:=by
 have x:∀a b,a<(B.n s-1)+1->b<(B.n s-1)+1->eG (fE om) (B.h s) (B.n s-1) i a=eG (fE om) (B.h s) (B.n s-1) i b->a=b:=by
  have h0:qX (B.n s-1+1) (B.h s):=by rw[show B.n s-1+1=B.n s by omega];exact (m.aW.side s hs).inj
  exact h0.qw (by omega)
 refine⟨o,fun b v=>?_,fun t q k c=>?_⟩
 ·by_cases e:b=B.h s i
  ·rw[e];exact r
  ·obtain⟨j,g⟩:=m.bg b v;by_cases p:Mem (B.n s) (B.h s) b
   ·have y:Mem (B.n s-1+1) (B.h s) b:=by rw[show B.n s-1+1=B.n s by omega];exact p
    obtain⟨k,c,f⟩:=(jY (lt:=fE om) (B.h s) i (by omega) x b).2 ⟨y,e⟩;have:=(o.side s hs).bg (i:=k) (by simp only[Bk.leave,ah];exact c);simp only[Bk.leave,ah]at this;rw[<-f]at this;exact⟨k,this⟩
   ·refine⟨j,u.ay g ?_⟩;rintro (rfl | h | h)
    ·exact au.ne g m.aW.ay (by decide) rfl
    ·exact (m.aW.side s hs).ne g (by decide) h
    ·exact p h
 ·by_cases e:t=s
  ·subst e;simp only[Bk.leave,ah]at c ⊢;obtain⟨k',A,f⟩:=(qf (lt:=fE om) (B.h t) i (n:=B.n t-1) (by omega) _).1 ⟨k,by omega,rfl⟩;rw[f];exact m.mem t q k' (by omega)
  ·simp only[Bk.leave,ag _ _ e]at c ⊢;exact m.mem t q k c
theorem Mk.aK{w w':World}{d:Nat}{B:Bk}{om:Nat->Ord}{c:Nat->Prop}(m:Mk w d B om c){b:Nat}{o':Ord}{a:Int}(g:bV w b (om b) a)(k:aj (fun x=>x=b) w w')(f:bV w' b o' a):Mk w' d B (aK om b o') c:=by
 refine⟨m.aW.aK g k f,fun x i=>?_,m.mem⟩;by_cases e:x=b
 ·subst e;rw[ah];exact⟨a,f⟩
 ·rw[ag _ _ e];obtain⟨l,j⟩:=m.bg x i;exact⟨l,k.ay j e⟩
theorem Mk.aC{w w':World}{d:Nat}{B:Bk}{om:Nat->Ord}{c:Nat->Prop}(m:Mk w d B om c){S:Nat->Prop}(k:aj S w w')(f:¬S d)(e:∀b,c b->¬S b)(g:∀s,s<2->∀b,ig (B.sl s)=some b->¬S b):Mk w' d B om c :=
 ⟨m.aW.aC k (fun b a=>by
  rcases a with rfl | ⟨s,hs,h | ⟨j,i,rfl⟩⟩
  ·exact f
  ·exact g s hs b h
  ·exact e _ (m.mem s hs j i)),fun b a=>by obtain⟨n,l⟩:=m.bg b a;exact⟨n,k.ay l (e b a)⟩,m.mem⟩
def jT(w:World)(b:Nat)(o:Ord)(lo:Nat)(fn:Fn)(cp:Array Value):Prop:=fn=.func 151/\∃H,lo<=H/\cp=#[dh (H+1),dh H]/\xE w H b o
def jr(w:World)(bb b lo:Nat)(fn:Fn)(cp:Array Value):Prop:=fn=.func 117/\∃H,lo<=H/\cp=#[dh H,dh (H+1)]/\wB w H bb b
theorem qJ(a:Nat)(B:Bk)(om:Nat->Ord)(c:Nat->Prop)(s i:Nat)(w:World)(m:Mk w a B om c)(hs:s<2)(g:i<B.n s)(l:(om (B.h s i)).side=(s:Int)) :
 CT 66 #[PP a,PP (B.h s i)] w fun e w'=>∃fn d,e=.returned (.func fn #[] d)/\jr w' a (B.h s i) w.heap.size fn d/\Mk w' a (B.leave om s i) om c/\aj (fun b=>b=a\/dn B s b) w w':=by
 refine (Oo a B om s i w m.aW hs g l).mono ?_;rintro e w' ⟨rfl,h0,j,k,f⟩;exact⟨_,_,rfl,⟨rfl,_,Nat.le_refl _,rfl,h0⟩,m.leave hs g j k f,f⟩
theorem MC(c b:Nat)(B:Bk)(om:Nat->Ord)(a:Nat->Prop)(q:Int)(w:World)(m:Mk w c B om a)(j:a b) :
 CT 177 #[PP b,II q] w fun e w'=>∃fn d,e=.returned (.func fn #[] d)/\jT w' b (om b) w.heap.size fn d/\Mk w' c B (aK om b { om b with aH:=wrap64 ((om b).aH-q),filled:=wrap64 ((om b).filled+q) }) a/\aj (fun x=>x=b) w w':=by
 obtain⟨k,g⟩:=m.bg b j;refine (Qr b (om b) k q w g).mono ?_;rintro e w' ⟨rfl,h0,i,f⟩;exact⟨_,_,rfl,⟨rfl,_,Nat.le_refl _,rfl,h0⟩,m.aK g f i,f⟩
theorem ni(c b:Nat)(B:Bk)(om:Nat->Ord)(a:Nat->Prop)(w:World)(m:Mk w c B om a)(j:a b) :
 CT 67 #[PP b] w fun e w'=>∃fn d,e=.returned (.func fn #[] d)/\jT w' b (om b) w.heap.size fn d/\Mk w' c B (aK om b { om b with aH:=0,aX:=wrap64 ((om b).aX+(om b).aH) }) a/\aj (fun x=>x=b) w w':=by
 obtain⟨k,g⟩:=m.bg b j;refine (zQ b (om b) k w g).mono ?_;rintro e w' ⟨rfl,h0,i,f⟩;exact⟨_,_,rfl,⟨rfl,_,Nat.le_refl _,rfl,h0⟩,m.aK g f i,f⟩
def iY(o:Ord)(q:Int):Ord:={ o with aH:=wrap64 (o.aH-q),filled:=wrap64 (o.filled+q) }
def aT(om:Nat->Ord)(oc ow:Nat):Nat->Ord :=
 let q:=min (om oc).aH (om ow).aH
 aK (aK om oc (iY (om oc) q)) ow (iY (om ow) q)
def dO(B:Bk)(om:Nat->Ord)(oc ow s:Nat):Bk:=if (aT om oc ow ow).aH=0 then B.leave (aT om oc ow) s 0 else B
def jg(B:Bk)(om:Nat->Ord)(oc ow:Nat):Tr :=
 { num:=0,sym:=B.sym,af:=(om ow).af,az:=min (om oc).aH (om ow).aH,lF:=if (om oc).side=1 then (om ow).id else (om oc).id,dZ:=if (om oc).side=1 then (om oc).id else (om ow).id,day:=0 }
theorem Mk.jw{w w':World}{f bv i j:Nat}{B:Bk}{om:Nat->Ord}{d:Nat->Prop}{G:Lg}{lm:Lm}(m:Mk w f B om d)(g:bz w bv i j G lm)(k:aj (fun b=>b=bv\/lm.F b) w w'):Mk w' f B om d:=by
 have no:∀{b c t},au w b c t->t≠100->t≠103->t≠62->t≠105->t≠109->t≠1/\t≠5->¬(b=bv\/lm.F b):=by
  rintro b c t a h0 l n o p q (e | e)
  ·exact au.ne a g.cO h0 e
  ·exact g.aO.ne a l n o p q e
 refine m.aC k (no m.aW.ay (by decide) (by decide) (by decide) (by decide) (by decide) (by decide)) (fun b a=>?_) (fun s hs b a=>?_)
 ·obtain⟨z,v⟩:=m.bg b a;exact no v (by decide) (by decide) (by decide) (by decide) (by decide) (by decide)
 ·rcases m.aW.side s hs with⟨h0,_⟩ | ⟨y,r,x⟩
  ·rw[h0]at a;simp[ig]at a
  ·obtain⟨cs,u,_⟩:=x.sD;rw[r]at a;simp[ig]at a;rw[<-a];exact no u (by decide) (by decide) (by decide) (by decide) (by decide) (by decide)
theorem fP.jG{w w':World}{bv f g:Nat}{G:Lg}{m:Lm}(h:bz w bv f g G m){S:Nat->Prop}(k:aj S w w')(i:∀b,S b->∃c t,au w b c t/\(t=158\/t=116\/t=114)):bz w' bv f g G m:=by
 refine h.aC k (fun d=>?_) (fun b j d=>?_)
 ·obtain⟨c,t,e,a⟩:=i bv d;exact au.ne h.cO e (by rcases a with rfl | rfl | rfl <;> decide) rfl
 ·obtain⟨c,t,e,a⟩:=i b d;exact h.aO.ne e (by rcases a with rfl | rfl | rfl <;> decide) (by rcases a with rfl | rfl | rfl <;> decide) (by rcases a with rfl | rfl | rfl <;> decide) (by rcases a with rfl | rfl | rfl <;> decide) (by rcases a with rfl | rfl | rfl <;> decide) j
theorem Mk.gZ{w:World}{d:Nat}{B:Bk}{om:Nat->Ord}{a:Nat->Prop}(m:Mk w d B om a){b:Nat}(h:b=d\/a b\/∃s,s<2/\dn B s b):∃c t,au w b c t/\(t=158\/t=116\/t=114):=by
 rcases h with rfl | h | ⟨s,hs,h | ⟨k,g,rfl⟩⟩
 ·exact⟨_,158,m.aW.ay,.inl rfl⟩
 ·obtain⟨n,i⟩:=m.bg b h;exact⟨_,116,i,.inr (.inl rfl)⟩
 ·rcases m.aW.side s hs with⟨h0,_⟩ | ⟨l,e,j⟩
  ·rw[h0]at h;simp[ig]at h
  ·obtain⟨cs,f,_⟩:=j.sD;rw[e]at h;simp[ig]at h;rw[<-h];exact⟨_,114,f,.inr (.inr rfl)⟩
 ·exact⟨_,116,(m.aW.side s hs).bg g,.inr (.inl rfl)⟩
def dD(G:Lg)(om:Nat->Ord)(oc ow:Nat):Lg:=if (aT om oc ow ow).aH=0 then (G.aY [.fV oc (om oc),.fV ow (om ow)]).aY [.left ow] else G.aY [.fV oc (om oc),.fV ow (om ow)]
theorem iw(G:Lg)(om:Nat->Ord)(oc a:Nat):(dD G om oc a).tr=G.tr:=by unfold dD;split <;> rfl
theorem qQ(G:Lg)(om:Nat->Ord)(oc a:Nat):(dD G om oc a).tp=G.tp:=by unfold dD;split <;> rfl
theorem rO(G:Lg)(om:Nat->Ord)(oc a:Nat):(dD G om oc a).day=G.day:=by unfold dD;split <;> rfl
theorem yj(G:Lg)(om:Nat->Ord)(oc a:Nat):(dD G om oc a).na=G.na:=by unfold dD;split <;> rfl
theorem yl(G:Lg)(om:Nat->Ord)(oc a:Nat):(dD G om oc a).nt.length<=G.nt.length+3:=by
 unfold dD;split
 ·simp only[Lg.aY,List.length_append,List.length_cons,List.length_nil];omega
 ·simp only[Lg.aY,List.length_append,List.length_cons,List.length_nil];omega
structure MS where
 B:Bk
 om:Nat->Ord
 lg:Lg
def MS.tr(st:MS):Int:=st.lg.tr.length
def bI(o:Ord):iR:=⟨o.id,o.aG,o.sym,o.side,o.kind,o.af,o.az⟩
def fZ(o:Ord):Ord:={ o with aH:=0,aX:=wrap64 (o.aX+o.aH) }
def bF(oc s:Nat)(st:MS):MS :=
 if (st.om (st.B.h s 0)).aG=(st.om oc).aG then ⟨st.B.leave st.om s 0,aK st.om (st.B.h s 0) (fZ (st.om (st.B.h s 0))),st.lg.aY [.left (st.B.h s 0),.fV (st.B.h s 0) (st.om (st.B.h s 0))]⟩
 else ⟨dO st.B st.om oc (st.B.h s 0) s,aT st.om oc (st.B.h s 0),(dD st.lg st.om oc (st.B.h s 0)).lC (jg st.B st.om oc (st.B.h s 0))⟩
def stops(oc s:Nat)(st:MS):Bool:=!decide (0<(st.om oc).aH) || (dA st.B st.om (bI (st.om oc)) s).isNone
def bu(oc s:Nat):Nat->MS->MS
 | 0,st=>st
 | f+1,st=>if stops oc s st then st else bu oc s f (bF oc s st)
def mu(oc s:Nat)(st:MS):Nat:=st.B.n s+(if 0<(st.om oc).aH then 1 else 0)
def mF(oc s:Nat)(st:MS):MS:=bu oc s (mu oc s st) st
structure su(oc s:Nat)(st:MS):Prop where
 mem:∀k,k<st.B.n s->(st.om (st.B.h s k)).side=(s:Int)/\0<(st.om (st.B.h s k)).aH/\(st.om (st.B.h s k)).aH<=1000000000000000/\st.B.h s k≠oc
 inj:qX (st.B.n s) (st.B.h s)
 lo:0<=(st.om oc).aH
 hi:(st.om oc).aH<=1000000000000000
 side:(st.om oc).side=1-(s:Int)
theorem aU{x:Int}(a:-9223372036854775808<=x)(b:x<9223372036854775808):wrap64 x=x:=by
 unfold wrap64;omega
theorem oL{B:Bk}{om:Nat->Ord}{s:Nat}(b:qX (B.n s) (B.h s))(f:0<B.n s):∀k,k<(B.leave om s 0).n s->∃k',k'<B.n s/\(B.leave om s 0).h s k=B.h s k'/\B.h s k'≠B.h s 0:=by
 intro k a;simp only[Bk.leave,ah]at a ⊢;have h0:qX (B.n s-1+1) (B.h s):=by rw[show B.n s-1+1=B.n s by omega];exact b
 obtain⟨⟨k',d,e⟩,c⟩:=(jY (lt:=fE om) (B.h s) 0 (n:=B.n s-1) (by omega) (h0.qw (by omega)) _).1 ⟨k,a,rfl⟩;exact⟨k',by omega,e,by rw[<-e];exact c⟩
theorem Df{B:Bk}{om:Nat->Ord}{s:Nat}(c:qX (B.n s) (B.h s))(g:0<B.n s):qX ((B.leave om s 0).n s) ((B.leave om s 0).h s):=by
 have h0:qX (B.n s-1+1) (B.h s):=by rw[show B.n s-1+1=B.n s by omega];exact c
 simp only[Bk.leave,ah];exact fun a b d f e=>(h0.qw (lt:=fE om) (i:=0) (by omega)) a b (by omega) (by omega) e
theorem tu{B:Bk}{om:Nat->Ord}{o:iR}{s b:Nat}(h:dA B om o s=some b):0<B.n s/\b=B.h s 0:=by
 unfold dA at h;split at h
 ·simp at h
 ·split at h
  ·simp at h;exact⟨by omega,h.symm⟩
  ·simp at h
theorem pG{oc s:Nat}{st:MS}(i:su oc s st)(c:0<st.B.n s)(r:0<(st.om oc).aH):su oc s (bF oc s st)/\mu oc s (bF oc s st)<mu oc s st/\(∀b,dn (bF oc s st).B s b->dn st.B s b):=by
 obtain⟨B,om,tr⟩:=st;have h0:=i.mem 0 c;simp only at h0 c r;have j:=i.mem;have d:=i.inj;have A:=i.lo;have z:=i.hi;have o:=i.side;simp only at j d A z o;obtain⟨J,L,K,u⟩:=h0;have v:oc≠B.h s 0:=fun e=>u e.symm
 have D:∀dG b,dn (B.leave dG s 0) s b->dn B s b:=by
  rintro dG b (h | ⟨k,a,e⟩)
  ·exact .inl h
  ·obtain⟨k',g,G,_⟩:=oL (om:=dG) d c k a;exact .inr ⟨k',g,by rw[e,G]⟩
 have C:∀dG,(B.leave dG s 0).n s=B.n s-1:=fun dG=>by simp only[Bk.leave,ah]
 unfold bF;simp only;split
 ·have m:aK om (B.h s 0) (fZ (om (B.h s 0))) oc=om oc:=ag _ _ v;refine⟨⟨?_,Df d c,by simp only[m];exact A,by simp only[m];exact z,by simp only[m];exact o⟩,?_,D om⟩
  ·intro k a;obtain⟨k',g,e,p⟩:=oL (om:=om) d c k a;simp only[e,ag _ _ p];exact j k' g
  ·unfold mu;simp only[m,C];omega
 ·obtain⟨q,w⟩:=dQ (min (om oc).aH (om (B.h s 0)).aH);have M:0<q:=by omega
  have N:q<=(om oc).aH:=by omega
  have O:q<=(om (B.h s 0)).aH:=by omega
  have f:aT om oc (B.h s 0) oc=iY (om oc) q:=by unfold aT;rw[ag _ _ v,ah,w]
  have F:aT om oc (B.h s 0) (B.h s 0)=iY (om (B.h s 0)) q:=by unfold aT;rw[ah,w]
  have E:∀x,x≠oc->x≠B.h s 0->aT om oc (B.h s 0) x=om x:=fun x H I=>by unfold aT;rw[ag _ _ I,ag _ _ H]
  have l:(iY (om oc) q).aH=(om oc).aH-q:=by simp only[iY];exact aU (by omega) (by omega)
  have t:(iY (om (B.h s 0)) q).aH=(om (B.h s 0)).aH-q:=by simp only[iY];exact aU (by omega) (by omega)
  unfold dO;rw[F,t];by_cases y:(om (B.h s 0)).aH-q=0
  ·rw[if_pos y];refine⟨⟨?_,Df d c,by simp only[f,l];omega,by simp only[f,l];omega,by simp only[f];exact o⟩,?_,D _⟩
   ·intro k a;obtain⟨k',g,e,p⟩:=oL (om:=aT om oc (B.h s 0)) d c k a;simp only[e];rw[E _ (j k' g).2.2.2 p];exact j k' g
   ·unfold mu;simp only[f,l,C];rw[if_pos r];split <;> omega
  ·rw[if_neg y];refine⟨⟨?_,d,by simp only[f,l];omega,by simp only[f,l];omega,by simp only[f];exact o⟩,?_,fun b h=>h⟩
   ·intro k a;simp only;by_cases e:k=0
    ·subst e;rw[F];refine⟨J,by rw[t];omega,by rw[t];omega,u⟩
    ·have:B.h s k≠B.h s 0:=fun h=>e (d k 0 a c h)
     rw[E _ (j k a).2.2.2 this];exact j k a
   ·unfold mu;simp only[f,l];rw[if_pos r,if_neg (by omega)];omega
theorem yK{oc s a:Nat}{st:MS}(h:stops oc s st=true):bu oc s a st=st:=by
 cases a with
 | zero=>rfl
 | succ a=>rw[bu,if_pos h]
end Go.Proofs.YtigaphnafnpfnaaGreatDoor
