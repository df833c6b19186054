import Derived.Test.YtigaphnafnpfnaaGreatDoorQVK1T
import Derived.Test.YtigaphnafnpfnaaGreatDoorQVS1
set_option linter.unusedVariables false
set_option linter.unusedSimpArgs false
set_option maxHeartbeats 8000000
set_option maxRecDepth 100000
namespace Go.Proofs.YtigaphnafnpfnaaGreatDoor
open Go.RowKit Go.Maps
attribute [local go_sem ↓] Go.wp_at_zero Go.wp_at_succ
def pg(h:Ho):Value:=PP h.hb
structure PG(w0 w:World)(wb:Nat)(X:List Pr)(Hs:List Ho)(pv hv:Value)(N:Nat):Prop where
 ay:au w wb #[pv,hv] 78
 fQ:w.ownsRow 0 131 2 pv X.length (oZ X)
 jJ:w.ownsRow 0 133 1 hv Hs.length (Hs.map pg)
 Dw:∀x∈X,jU w x/\x.N<=N
 sep:X.Pairwise (fun x y=>∀b,PF x b->¬PF y b)
 own:∀x∈X,∀b,PF x b->w0.heap.size<=b/\b≠wb/\pv.ownBlock≠some b/\hv.ownBlock≠some b/\∀h∈Hs,¬Yx h b
 QE:∀h∈Hs,Js w h
 hown:∀h∈Hs,∀b,Yx h b->w0.heap.size<=b/\b≠wb/\pv.ownBlock≠some b/\hv.ownBlock≠some b/\b<w.heap.size
 ge:w0.heap.size<=wb/\(∀b,pv.ownBlock=some b->w0.heap.size<=b)/\(∀b,hv.ownBlock=some b->w0.heap.size<=b)
 jW:aj aA w0 w
 YH:qj w0
 xl:X.length<=N+1
 hl:Hs.length<=N
theorem PG.aC{i w w':World}{j:Nat}{e:List Pr}{d:List Ho}{pv g:Value}{N:Nat}(h:PG i w j e d pv g N){c:Nat->Prop}(k:aj c w w')(m:∀x∈e,∀b,PF x b->¬c b)(hH:∀x∈d,∀b,Yx x b->¬c b)(q:¬c j)(p:∀b,pv.ownBlock=some b->¬c b)(o:∀b,g.ownBlock=some b->¬c b)(n:∀b,c b->i.heap.size<=b):PG i w' j e d pv g N :=
 ⟨k.ay h.ay q,aB h.fQ k p,aB h.jJ k o,fun x a=>⟨(h.Dw x a).1.aC k (m x a),(h.Dw x a).2⟩,h.sep,h.own,fun x a=>(h.QE x a).aC k (hH x a),fun x a b f=>by
  obtain⟨l,a2,a3,a4,a5⟩:=h.hown x a b f;exact⟨l,a2,a3,a4,Nat.lt_of_lt_of_le a5 k.size⟩,h.ge,h.jW.from (k.mono (fun b f=>.inr (n b f))),h.YH,h.xl,h.hl⟩
theorem PG.ax{e w w':World}{f:Nat}{c:List Pr}{b:List Ho}{pv d:Value}{N:Nat}(h:PG e w f c b pv d N)(k:aj aA w w'):PG e w' f c b pv d N :=
 h.aC k (fun _ _ _ _ a=>a) (fun _ _ _ _ a=>a) idd (fun _ _ a=>a) (fun _ _ a=>a) (fun _ a=>a.elim)
theorem PG.mono{f w:World}{g:Nat}{c:List Pr}{a:List Ho}{pv d:Value}{N b:Nat}(h:PG f w g c a pv d N)(i:N<=b):PG f w g c a pv d b :=
 ⟨h.ay,h.fQ,h.jJ,fun x e=>⟨(h.Dw x e).1,Nat.le_trans (h.Dw x e).2 i⟩,h.sep,h.own,h.QE,h.hown,h.ge,h.jW,h.YH,by have:=h.xl;omega,by have:=h.hl;omega⟩
theorem PG.turn{P w w':World}{Q:Nat}{f:List Pr}{E:List Ho}{pv M:Value}{N i:Nat}{x:Pr}(h:PG P w Q f E pv M N)(v:f[i]?=some x)(hn:FX x w w'):∃F,PG P w' Q F E pv M (N+1)/\F.length=f.length:=by
 obtain⟨u,p',k,X,T,U,e3⟩:=hn;have O:x∈f:=List.mem_of_getElem? v;have B:=(List.getElem?_eq_some_iff.1 v).1;have p:=h.own x O;have px:=h.Dw x O;have C:(f.set i u).length=f.length:=by simp
 have A:∀j y,(f.set i u)[j]?=some y->(j=i/\y=u)\/(j≠i/\f[j]?=some y):=fun j y g=>by
  by_cases e:i=j
  ·subst e;rw[List.getElem?_set_self B]at g;exact .inl ⟨rfl,(Option.some.inj g).symm⟩
  ·rw[List.getElem?_set_ne e]at g;exact .inr ⟨fun n=>e n.symm,g⟩
 have D:=List.pairwise_iff_getElem.1 h.sep;have apart:∀j y,j≠i->f[j]?=some y->∀b,PF y b->¬PF x b:=fun j y g m b d K=>by
  obtain⟨L,J⟩:=List.getElem?_eq_some_iff.1 m;obtain⟨_,I⟩:=List.getElem?_eq_some_iff.1 v;rcases Nat.lt_or_ge j i with c | c
  ·have:=D j i L B c;rw[J,I]at this;exact this b d K
  ·have:=D i j B L (by omega);rw[J,I]at this;exact this b K d
 have acf:∀j y,j≠i->f[j]?=some y->jU w' y:=fun j y g m=>(h.Dw y (List.mem_of_getElem? m)).1.aC k (apart j y g m)
 have new:∀b,PF u b->w.heap.size<=b\/PF x b:=fun b d=>(X b d).symm
 have wbl:=h.ay.lt;refine⟨f.set i u,⟨k.ay h.ay (fun l=>(p _ l).2.1 rfl),?_,aB h.jJ k (fun b d l=>(p b l).2.2.2.1 d),fun y m=>?_,?_,fun y m b d=>?_,fun n o=>(h.QE n o).aC k (fun b d l=>(p b l).2.2.2.2 n o d),fun n o b d=>?_,h.ge,h.jW.from (k.mono (fun b d=>.inr (p b d).1)),h.YH,by rw[C];have:=h.xl;omega,by have:=h.hl;omega⟩,C⟩
 ·rw[C,Oa v T U];exact aB h.fQ k (fun b d l=>(p b l).2.2.1 d)
 ·obtain⟨j,g⟩:=List.getElem?_of_mem m;rcases A j y g with⟨_,rfl⟩ | ⟨e,z⟩
  ·exact⟨p',by have:=px.2;omega⟩
  ·exact⟨acf j y e z,by have:=(h.Dw y (List.mem_of_getElem? z)).2;omega⟩
 ·rw[List.pairwise_iff_getElem];intro a b ha d hab;have Y:=A a _ (List.getElem?_eq_getElem ha);have Z:=A b _ (List.getElem?_eq_getElem d);intro c s t;rcases Y with⟨G,q⟩ | ⟨G,q⟩ <;> rcases Z with⟨H,r⟩ | ⟨H,r⟩
  ·omega
  ·rw[q]at s;rcases new c s with y | y
   ·have:=(h.Dw _ (List.mem_of_getElem? r)).1.lt t;omega
   ·exact apart b _ H r c t y
  ·rw[r]at t;rcases new c t with y | y
   ·have:=(h.Dw _ (List.mem_of_getElem? q)).1.lt s;omega
   ·exact apart a _ G q c s y
  ·obtain⟨al,V⟩:=List.getElem?_eq_some_iff.1 q;obtain⟨S,W⟩:=List.getElem?_eq_some_iff.1 r;have:=D a b al S hab;rw[V,W]at this;exact this c s t
 ·obtain⟨j,g⟩:=List.getElem?_of_mem m;rcases A j y g with⟨_,rfl⟩ | ⟨e,z⟩
  ·rcases new b d with c | c
   ·have sz:=h.jW.size;refine⟨by omega,by omega,fun e=>?_,fun e=>?_,fun n o l=>?_⟩
    ·have:=(h.fQ.lt _ e).2;omega
    ·have:=(h.jJ.lt _ e).2;omega
    ·have:=(h.hown n o b l).2.2.2.2;omega
   ·exact p b c
  ·exact h.own y (List.mem_of_getElem? z) b d
 ·obtain⟨R,a2,a3,a4,a5⟩:=h.hown n o b d;exact⟨R,a2,a3,a4,Nat.lt_of_lt_of_le a5 k.size⟩
theorem PG.born{A w k w':World}{j:Nat}{i:List Pr}{t:List Ho}{pv n p:Value}{N:Nat}{x:Pr}(h:PG A w j i t pv n N)(u:aj aA w k)(z:jU k x)(I:x.N<=N+1)(s:∀b,PF x b->w.heap.size<=b)
 (r:aj (fun b=>b=j\/pv.ownBlock=some b) k w') (B:au w' j #[p,n] 78) (E:w'.ownsRow 0 131 2 p (i.length+1) (oZ i++Dv x)) (m:∀b,p.ownBlock=some b->pv.ownBlock=some b\/k.heap.size<=b) :
 PG A w' j (i++[x]) t p n (N+1):=by
 have R:=h.ay.lt;have F:∀b,n.ownBlock=some b->b<w.heap.size:=fun b e=>(h.jJ.lt b e).2
 have v:∀b,pv.ownBlock=some b->b<w.heap.size:=fun b e=>(h.fQ.lt b e).2
 have Q:=u.size;have P:=r.size;have o:aj (fun b=>b=j\/pv.ownBlock=some b) w w':=u.aP.trans r;have J:∀b,PF x b->b<k.heap.size:=fun b d=>z.lt d
 have H:∀b,PF x b->¬(b=j\/pv.ownBlock=some b):=fun b d e=>by
  have:=s b d;rcases e with e | e
  ·omega
  ·have:=v b e;omega
 refine⟨B,?_,aB h.jJ o (fun b e a=>?_),fun y c=>?_,?_,fun y c b d=>?_,fun g f=>(h.QE g f).aC o (fun b d a=>?_),fun g f b d=>?_,?_,?_,h.YH,by have:=h.xl;simp;omega,by have:=h.hl;omega⟩
 ·have:oZ (i++[x])=oZ i++Dv x:=by simp[oZ]
  rw[this];simpa using E
 ·rcases a with a | a
  ·subst a;obtain⟨cs,q⟩:=aF h.jJ e;exact au.ne q h.ay (by decide) rfl
  ·obtain⟨cs,q⟩:=aF h.jJ e;obtain⟨K,C⟩:=aF h.fQ a;exact au.ne q C (by decide) rfl
 ·rw[List.mem_append,List.mem_singleton]at c;rcases c with c | c
  ·refine⟨(h.Dw y c).1.aC o (fun b d a=>?_),by have:=(h.Dw y c).2;omega⟩;have:=h.own y c b d;rcases a with a | a
   ·exact this.2.1 a
   ·exact this.2.2.1 a
  ·subst c;exact⟨z.aC r H,I⟩
 ·rw[List.pairwise_append];refine⟨h.sep,List.pairwise_singleton _ _,fun y c g f b d D=>?_⟩;rw[List.mem_singleton]at f;subst f;have:=(h.Dw y c).1.lt d;have:=s b D;omega
 ·have sw:=h.jW.size;rw[List.mem_append,List.mem_singleton]at c;rcases c with c | c
  ·obtain⟨l,a2,a3,a4,a5⟩:=h.own y c b d;have O:=(h.Dw y c).1.lt d;refine⟨l,a2,fun e=>?_,a4,a5⟩;rcases m b e with a | a
   ·exact a3 a
   ·omega
  ·subst c;have L:=s b d;have M:=J b d;refine⟨by omega,by omega,fun e=>?_,fun e=>?_,fun g f G=>?_⟩
   ·rcases m b e with a | a
    ·have:=v b a;omega
    ·omega
   ·have:=F b e;omega
   ·have:=(h.hown g f b G).2.2.2.2;omega
 ·obtain⟨l,a2,a3,a4,a5⟩:=h.hown g f b d;rcases a with a | a
  ·exact a2 a
  ·exact a3 a
 ·obtain⟨l,a2,a3,a4,a5⟩:=h.hown g f b d;refine⟨l,a2,fun e=>?_,a4,by omega⟩;rcases m b e with a | a
  ·exact a3 a
  ·omega
 ·refine⟨h.ge.1,fun b e=>?_,h.ge.2.2⟩;rcases m b e with a | a
  ·exact h.ge.2.1 b a
  ·have:=h.jW.size;omega
 ·refine h.jW.from (o.mono (fun b e=>.inr ?_));rcases e with e | e
  ·subst e;exact h.ge.1
  ·exact h.ge.2.1 b e
theorem PG.QF{z w k w':World}{i:Nat}{t:List Pr}{l:List Ho}{pv f o:Value}{N:Nat}{h0:Ho}(h:PG z w i t l pv f N)(E:Js k h0)(y:aj aA w k)(s:∀b,Yx h0 b->w.heap.size<=b/\b<k.heap.size)
 (r:aj (fun b=>b=i\/f.ownBlock=some b) k w') (A:au w' i #[pv,o] 78) (C:w'.ownsRow 0 133 1 o (l.length+1) (l.map pg++[PP h0.hb])) (n:∀b,o.ownBlock=some b->f.ownBlock=some b\/k.heap.size<=b) :
 PG z w' i t (l++[h0]) pv o (N+1):=by
 have K:=h.ay.lt;have u:∀b,f.ownBlock=some b->b<w.heap.size:=fun b e=>(h.jJ.lt b e).2
 have F:∀b,pv.ownBlock=some b->b<w.heap.size:=fun b e=>(h.fQ.lt b e).2
 have J:=y.size;have I:=r.size;have p:aj (fun b=>b=i\/f.ownBlock=some b) w w':=y.aP.trans r;have D:∀b,Yx h0 b->¬(b=i\/f.ownBlock=some b):=fun b d e=>by
  have:=s b d;rcases e with e | e
  ·omega
  ·have:=u b e;omega
 refine⟨A,aB h.fQ p (fun b e a=>?_),?_,fun x g=>⟨(h.Dw x g).1.aC p (fun b d a=>?_),by have:=(h.Dw x g).2;omega⟩,h.sep,fun x g b d=>?_,fun j c=>?_,fun j c b d=>?_,?_,?_,h.YH,by have:=h.xl;omega,by have:=h.hl;simp;omega⟩
 ·rcases a with a | a
  ·subst a;obtain⟨cs,q⟩:=aF h.fQ e;exact au.ne q h.ay (by decide) rfl
  ·obtain⟨cs,q⟩:=aF h.fQ e;obtain⟨G,B⟩:=aF h.jJ a;exact au.ne q B (by decide) rfl
 ·simpa [pg] using C
 ·have:=h.own x g b d;rcases a with a | a
  ·exact this.2.1 a
  ·exact this.2.2.2.1 a
 ·obtain⟨m,a2,a3,a4,a5⟩:=h.own x g b d;have H:=(h.Dw x g).1.lt d;refine⟨m,a2,a3,fun e=>?_,fun j c v=>?_⟩
  ·rcases n b e with a | a
   ·exact a4 a
   ·omega
  ·rw[List.mem_append,List.mem_singleton]at c;rcases c with c | c
   ·exact a5 j c v
   ·subst c;have:=s b v;omega
 ·rw[List.mem_append,List.mem_singleton]at c;rcases c with c | c
  ·refine (h.QE j c).aC p (fun b d a=>?_);obtain⟨m,a2,a3,a4,a5⟩:=h.hown j c b d;rcases a with a | a
   ·exact a2 a
   ·exact a4 a
  ·subst c;exact E.aC r D
 ·have sw:=h.jW.size;rw[List.mem_append,List.mem_singleton]at c;rcases c with c | c
  ·obtain⟨m,a2,a3,a4,a5⟩:=h.hown j c b d;refine⟨m,a2,a3,fun e=>?_,by omega⟩;rcases n b e with a | a
   ·exact a4 a
   ·omega
  ·subst c;have:=s b d;refine⟨by omega,by omega,fun e=>?_,fun e=>?_,by omega⟩
   ·have:=F b e;omega
   ·rcases n b e with a | a
    ·have:=u b a;omega
    ·omega
 ·refine⟨h.ge.1,h.ge.2.1,fun b e=>?_⟩;rcases n b e with a | a
  ·exact h.ge.2.2 b a
  ·have:=h.jW.size;omega
 ·refine h.jW.from (p.mono (fun b e=>.inr ?_));rcases e with e | e
  ·subst e;exact h.ge.1
  ·exact h.ge.2.2 b e
theorem Ov(j:Nat)(pv A:Value)(a:List Ho)(w:World)(p:au w j #[pv,A] 78)(m:w.ownsRow 0 133 1 A a.length (a.map pg))(t:∀h∈a,Js w h)(G:a.length<=1000000000) :
 CT 33 #[PP j] w fun e w'=>e=.returned (.bool true)/\aj aA w w':=by
 obtain⟨l,q,rfl⟩:=aJ m;have f:CC w j 1 (.slice l a.length q):=p.cell 1;have o:Hid (∀i,i<a.length->∃g b,l=some ⟨g,0,none⟩/\w.cell? ⟨g,i,none⟩=some (PP b)/\∀d,aj aA w d->CT 62 #[PP b] d fun e w'=>e=.returned (.bool true)/\aj aA d w'):=fun i x=>by
  obtain⟨h,u⟩:∃h,a[i]?=some h:=⟨_,List.getElem?_eq_getElem x⟩;obtain⟨g,e,_,r⟩:=zy (i:=i) (v:=pg h) m (by simp) (by rw[List.getElem?_map,u];rfl);exact⟨g,h.hb,e,r,fun d k=>KD h d ((t h (List.mem_of_getElem? u)).aC k (fun _ _ J=>J))⟩
 obtain⟨n,z⟩:=dQ a.length;rw[z]at o f G;have F:=ai f;clear p m t z f;go_enter Tryz.func33,Tryz.ntmps33;go_wp2;go_loopg [3] n (fun k I wr=>∃i:Nat,I=II (i:Int)/\i<=n/\k=n-i/\aj aA w wr)
 case atStart=>exact⟨0,rfl,Nat.zero_le _,rfl,aj.refl _ _⟩
 case round =>
  obtain⟨i,rfl,x,K,c⟩:=hrel;have f:CC wr j 1 (.slice l n q):=c.cell (ae F) idd;by_cases H:i<n
  ·obtain⟨g,b,rfl,s,y⟩:=ae o i H;have r:CC wr g i (PP b):=c.cell s idd;obtain⟨E,C⟩:=aZ (y wr c) c;clear y c s;go_wp2_with fail;refine (ae E).mono ?_;rintro e L ⟨rfl,B⟩;have D:=ai B;clear B;go_wp2;go_roundg (n-(i+1))
   case measure=>omega
   case rel=>exact⟨i+1,by push_cast;rfl,by omega,rfl,(ae C).trans (ae D)⟩
  ·obtain rfl:i=n:=by omega
   go_wp2;go_ret;exact⟨rfl,c⟩
theorem UH:(Tryz.prog.info? 131).map (fun i=>(i.zero,i.size,i.bytes))=some (some (.agg #[.pointer none,.pointer none]),2,16):=by kernel_rfl
theorem aaH(w:World)(a b:Value)(t:TypeId):∀j d,([a,b]:List Value)[j]?=some d->(w.alloc (.cells #[a,b] t)).cell? (Addr.add ⟨w.heap.size,0,none⟩ j)=some d:=by
 intro j d c;have e:=au.new w #[a,b] t
 match j,c with
 | 0,c=>rw[<-c];exact e.cell 0
 | 1,c=>rw[<-c,Addr.add_lit];exact e.cell 1
 | j+2,c=>simp at c
theorem Vf:di (fun _=>0) mY RS.none 0:=by
 have g:∀x,¬VL mY x:=fun x e=>by obtain⟨id,h⟩:=e;simp[mY]at h
 refine⟨⟨fun i d=>absurd d (Nat.not_lt_zero i),fun i j d=>absurd d (Nat.not_lt_zero i),fun x e=>absurd e (g x),fun x e=>absurd e (g x),fun x e=>absurd e (g x)⟩,rfl,fun i d=>absurd d (Nat.not_lt_zero i),rfl,fun k c=>absurd c (Nat.not_lt_zero k),fun id b h=>by simp[mY]at h,fun a b f=>absurd f (Nat.not_lt_zero a),fun k c=>absurd c (Nat.not_lt_zero k),fun a b f=>absurd f (Nat.not_lt_zero a),fun a b f=>absurd f (Nat.not_lt_zero a),fun k c=>absurd c (Nat.not_lt_zero k),fun k c=>absurd c (Nat.not_lt_zero k),fun i d=>absurd d (Nat.not_lt_zero i),⟨Int.le_refl _,by decide⟩,rfl,rfl,Nat.le_refl _,Nat.le_refl _,Nat.le_refl _,Nat.zero_le _,Nat.zero_le _,fun k c=>absurd c (Nat.not_lt_zero k)⟩
def Nh(bv bm bo rb:Nat):Pr:=⟨bv,bm,bo,rb,mY,[],[],⟨#[]⟩,.slice none 0 0,.slice none 0 0,fun _=>0,RS.none,0,[]⟩
theorem pf0{bv a c d b:Nat}(h:PF (Nh bv a c d) b):b=bv\/b=a\/b=c\/b=d:=by
 rcases h with h | h | ⟨y,f,_⟩
 ·rcases h with h | h | h | ⟨i,e,_⟩ | ⟨id,h⟩ | h
  ·exact .inl h
  ·exact .inr (.inl h)
  ·exact jL h
  ·exact absurd e (Nat.not_lt_zero i)
  ·simp[Nh,mY]at h
  ·exfalso;simp[Nh,mY,Lm.F,gK,Value.ownBlock]at h
 ·rcases h with h | h | h
  ·exact BA h
  ·simp[Nh,Value.ownBlock]at h
  ·simp[Nh,Value.ownBlock]at h
 ·simp[Nh]at f
theorem aaZ:vG mY:=⟨fun i c=>absurd c (Nat.not_lt_zero i),⟨fun t d=>by simp[mY,held] at d,fun id b h=>by simp[mY] at h,fun id b h=>by simp[mY] at h⟩,fun x a=>by simp[mY] at a,by show oP [];exact oP.nil,fun k x a=>by simp[mY] at a,by show (-9223372036854775808:Int)<=mY.lg.day/\mY.lg.day<9223372036854775808;decide⟩
theorem aaL{w i:World}{bv f g:Nat}(R:dL w bv f g mY)(k:aj aA w i)(j:au i w.heap.size #[.slice none 0 0,.slice none 0 0,.string ⟨#[]⟩] 129):jU i (Nh bv f g w.heap.size):=by
 refine⟨R.ax k,⟨Nat.zero_le _,j,World.ownsRow_nil _ _ _ _,World.ownsRow_nil _ _ _ _⟩,Vf,oN.nil,fun b c l=>?_,Nat.le_refl _,rfl,Nat.le_refl _,aaZ,rfl,pR.nil ⟨mY,fun _=>0,RS.none,0,Vf,Nat.le_refl _,aaZ,dK.refl _,oN.nil,Nat.zero_le _,fun m n a e=>by simp at e⟩,⟨fun y d=>by simp[Nh]at d,rfl,fun y d=>by simp[Nh]at d⟩⟩;replace c:bY bv f g mY b:=by
  rcases c with c | ⟨y,d,_⟩
  ·exact c
  ·simp[Nh]at d
 have:=R.zn c;rcases l with h | h | h
 ·simp only[Nh]at h;omega
 ·simp[Nh,Value.ownBlock]at h
 ·simp[Nh,Value.ownBlock]at h
def zF(w0:World)(wb N:Nat)(w':World):Prop:=∃X Hs pv hv,PG w0 w' wb X Hs pv hv N/\0<X.length
theorem Dc{M w:World}{d:Nat}{a:List Pr}{A:List Ho}{pv I:Value}{N:Nat}(h:PG M w d a A pv I N)(hN:N<=2000000):CT 31 #[PP d] w fun e w'=>e=.returned (.bool true)/\zF M d (N+1) w':=by
 have hxl:=h.xl;obtain⟨H,y⟩:=aZ h (U2 w);clear h;go_enter Tryz.func31,Tryz.ntmps31;go_wp2_with fail;refine (ae y).mono ?_;rintro e c ⟨bv,W,X,rfl,R,s,g1,g2,g3⟩;obtain⟨f,g,hpv⟩:=aJ (ae H).fQ;subst hpv;have o:=(ae H).ax s;have n:=o.ay;have v0:CC c d 0 (.slice f a.length g):=n.cell 0;have XU:=n.lt;obtain⟨w2,j⟩:=gy (c.alloc (.cells #[.slice none 0 0,.slice none 0 0,.string ⟨#[]⟩] 129));have l:aj aA c w2:=by rw[j];exact (aj.refl aA c).alloc _
 have B:au w2 c.heap.size #[.slice none 0 0,.slice none 0 0,.string ⟨#[]⟩] 129:=by rw[j];exact au.new _ _ _
 have K:=aaL R l B;obtain⟨T,x,Q,HB1⟩:=gY K s l n;have q:=o.ax l;obtain⟨HP2,v⟩:=aZ q.fQ q;obtain⟨i0,hi0,hz0,hz1,hz2⟩:=info_parts UH;have hm1:a.length+1<=maxLen:=by unfold maxLen;omega
 have V:=ai j;have v02:CC w2 d 0 (.slice f a.length g):=l.cell v0 idd;have L:w2.heap.size=c.heap.size+1:=by rw[j];simp
 obtain⟨HR,U⟩:=aZ R L;clear s l n B K o q R y L j;go_wp2_with (at_builtin;rw[<-ae V];refine wpList_append_lies _ rfl _ _ 75 rfl 0 131 i0 (.agg #[.pointer none,.pointer none]) 2 16 Tryz.underlying75 hi0 hz0 hz1 hz2 rfl (by decide) (.slice f a.length g) a.length (oZ a) rfl (aB (ae HP2) ((aj.refl aA w2).alloc _) (fun _ _ z=>z)) ⟨c.heap.size+1,0,none⟩ 1 1 [PP bv,PP c.heap.size] rfl rfl (by have:=aaH w2 (PP bv) (PP c.heap.size) 131;rw[ae U]at this;exact this) (by simp[Value.oneCell']) (by omega) hm1 (by omega) (by omega) (w2.heap.size+1) (by simp) ?_;intro C D m G r E hlt2;have i:au m d _ 78:=(((aj.refl (fun b=>(Value.slice f a.length g).ownBlock=some b) w2).alloc _).grown r (fun k e=>.inl e)).ay (ae v).ay (fun e=>by obtain⟨cs,hc⟩:=aF (ae HP2) e;exact au.ne hc (ae v).ay (by decide) rfl);have Y:=i.cell 0;have f50:=i.frozen 0;have l50:=i.lt;simp at Y;have u:=ai i;have S:=ai G;have P:=ai r;have O:=ai E;clear i G r E v0 v02);go_ret;have k5:aj (fun b=>(Value.slice f a.length g).ownBlock=some b) w2 m:=((aj.refl (fun b=>(Value.slice f a.length g).ownBlock=some b) w2).alloc _).grown (ae P) (fun k e=>.inl e);have J:aj (fun b=>b=d) m (m.setCell ⟨d,0,none⟩ (.slice (some ⟨C,0,none⟩) (a.length+1) D)):=(aj.refl (fun b=>b=d) m).setCell (p:=⟨d,0,none⟩) (.inl rfl) _;refine⟨rfl,a++[Nh bv W X c.heap.size],A,.slice (some ⟨C,0,none⟩) (a.length+1) D,I,?_,by simp⟩;refine (ae H).born ((ae x).trans (ae Q)) (ae T) (Nat.zero_le _) (fun b hf=>?_) ((k5.mono (fun b h=>.inr h)).trans (J.mono (fun b h=>.inl h))) ((ae u).set 0 _) ?_ (fun b F=>?_)
 ·have:=(ae x).size;rcases pf0 hf with e | e | e | e <;> omega
 ·exact bK (t:=0) (ae S) J (fun b Z=>by subst Z;exact⟨_,_,ae u,by decide⟩)
 ·simp only[Value.ownBlock,Option.some.injEq]at F;rcases ae O with e | e
  ·left;rw[e,F]
  ·right;omega
def Vh(h:Ho):Hd:=⟨h.hb,h.lv,h.ls,h.YG⟩
theorem oK(a:List Ho):(a.map Vh).map uY=a.map pg:=by
 rw[List.map_map];rfl
theorem aaw(g f:Nat)(pv d v:Value)(a:List Ho)(i:List iT)(w:World)(t:au w g #[pv,d] 78)(s:w.ownsRow 0 133 1 d a.length (a.map pg))(o:a.length<=100000000)(q:w.ownsRow f 93 3 v i.length (jF i))(p:i.length<=1000)(r:f<=w.heap.size)(u:g<f)(m:∀b,d.ownBlock=some b->b<f) :
 CT 104 #[PP g,v] w fun e w'=>e=.returned (.tuple #[])/\∃l c n lv j k,KL f w.heap.size (-1000-(a.length:Int)) v w c n l lv k/\n<=2000/\l.length<=100 /\
  aj (fun b=>b=g\/d.ownBlock=some b) k w'/\au w' g #[pv,j] 78/\w'.ownsRow 0 133 1 j (a.length+1) (a.map pg++[PP w.heap.size])/\(∀b,j.ownBlock=some b->d.ownBlock=some b\/k.heap.size<=b):=by
 have:=Hu g f pv d v (a.map Vh) i w t (by rw[List.length_map,oK];exact s) (by rw[List.length_map];exact o) q p r u m;rw[List.length_map,oK]at this;exact this
theorem aay(g f:Nat)(pv d v:Value)(a:List Ho)(i:List Tr)(w:World)(t:au w g #[pv,d] 78)(s:w.ownsRow 0 133 1 d a.length (a.map pg))(o:a.length<=100000000)(q:w.ownsRow f 56 7 v i.length (pY i))(p:i.length<=1000000000)(r:f<=w.heap.size)(u:g<f)(m:∀b,d.ownBlock=some b->b<f) :
 CT 107 #[PP g,v] w fun e w'=>e=.returned (.tuple #[])/\∃l c n lv j k,Uf f w.heap.size (-1000-(a.length:Int)) v w c n l lv k/\n<=1000000100/\l.length<=100 /\
  aj (fun b=>b=g\/d.ownBlock=some b) k w'/\au w' g #[pv,j] 78/\w'.ownsRow 0 133 1 j (a.length+1) (a.map pg++[PP w.heap.size])/\(∀b,j.ownBlock=some b->d.ownBlock=some b\/k.heap.size<=b):=by
 have:=Hw g f pv d v (a.map Vh) i w t (by rw[List.length_map,oK];exact s) (by rw[List.length_map];exact o) q p r u m;rw[List.length_map,oK]at this;exact this
theorem aax(g f:Nat)(pv d v:Value)(a:List Ho)(i:List Rc)(w:World)(t:au w g #[pv,d] 78)(s:w.ownsRow 0 133 1 d a.length (a.map pg))(o:a.length<=100000000)(q:w.ownsRow f 62 9 v i.length (gm i))(p:i.length<=1000000000)(r:f<=w.heap.size)(u:g<f)(m:∀b,d.ownBlock=some b->b<f) :
 CT 110 #[PP g,v] w fun e w'=>e=.returned (.tuple #[])/\∃l c n lv j k,Ue f w.heap.size (-1000-(a.length:Int)) v w c n l lv k/\n<=1000000100/\l.length<=100 /\
  aj (fun b=>b=g\/d.ownBlock=some b) k w'/\au w' g #[pv,j] 78/\w'.ownsRow 0 133 1 j (a.length+1) (a.map pg++[PP w.heap.size])/\(∀b,j.ownBlock=some b->d.ownBlock=some b\/k.heap.size<=b):=by
 have:=EL g f pv d v (a.map Vh) i w t (by rw[List.length_map,oK];exact s) (by rw[List.length_map];exact o) q p r u m;rw[List.length_map,oK]at this;exact this
theorem PG.Z9{s w f o w':World}{l n:Nat}{p:List Pr}{i:List Ho}{pv m j v c lv:Value}{g:List Value}{mk:Int}{N:Nat}(h:PG s w l p i pv m N)(q:aj aA w f)(kl:KL w.heap.size f.heap.size mk v f c n g lv o)(D:n<=2000)(E:g.length<=100)
 (B:aj (fun b=>b=l\/m.ownBlock=some b) o w') (u:au w' l #[pv,j] 78) (A:w'.ownsRow 0 133 1 j (i.length+1) (i.map pg++[PP f.heap.size])) (z:∀b,j.ownBlock=some b->m.ownBlock=some b\/o.heap.size<=b) :
 PG s w' l p (i++[⟨f.heap.size,lv,.slice none 0 0,.slice none 0 0,g,[],[],mk⟩]) pv j (N+1):=by
 have r:=q.size;refine h.QF (h0:=⟨f.heap.size,lv,.slice none 0 0,.slice none 0 0,g,[],[],mk⟩) ⟨kl.ay,AB kl.dV (Nat.zero_le _),World.ownsRow_nil _ _ _ _,World.ownsRow_nil _ _ _ _,fun y d=>by obtain⟨a,k,cc,e,C,t⟩:=kl.each y d;exact⟨a,k,cc,e,by omega,t⟩,fun y d=>absurd d (by simp),fun y d=>absurd d (by simp),by show g.length<=1000;omega,by show 0<=1000;omega,by show 0<=1000;omega⟩ (q.from (kl.jW.mono (fun b e=>.inr (kl.Pq b e)))) (fun b x=>?_) B u A z;rcases x with e | e | ⟨y,d,e⟩
 ·simp only at e;subst e;exact⟨r,kl.ay.lt⟩
 ·simp only[Value.ownBlock,reduceCtorEq,Option.map_none,or_false,false_or]at e;exact⟨Nat.le_trans r (kl.Ky b e),(kl.dV.lt b e).2⟩
 ·simp only[List.nil_append,List.append_nil]at d;exact kl.Iw y d b e
theorem PG.iE{s w f o w':World}{l n:Nat}{p:List Pr}{i:List Ho}{pv m j v c lv:Value}{g:List Value}{mk:Int}{N:Nat}(h:PG s w l p i pv m N)(q:aj aA w f)(kl:Uf w.heap.size f.heap.size mk v f c n g lv o)(D:n<=1000000100)(E:g.length<=100)
 (B:aj (fun b=>b=l\/m.ownBlock=some b) o w') (u:au w' l #[pv,j] 78) (A:w'.ownsRow 0 133 1 j (i.length+1) (i.map pg++[PP f.heap.size])) (z:∀b,j.ownBlock=some b->m.ownBlock=some b\/o.heap.size<=b) :
 PG s w' l p (i++[⟨f.heap.size,.slice none 0 0,lv,.slice none 0 0,[],g,[],mk⟩]) pv j (N+1):=by
 have r:=q.size;refine h.QF (h0:=⟨f.heap.size,.slice none 0 0,lv,.slice none 0 0,[],g,[],mk⟩) ⟨kl.ay,World.ownsRow_nil _ _ _ _,AB kl.dV (Nat.zero_le _),World.ownsRow_nil _ _ _ _,fun y d=>absurd d (by simp),fun y d=>by obtain⟨a,k,cc,e,C,t⟩:=kl.each y d;exact⟨a,k,cc,e,by omega,t⟩,fun y d=>absurd d (by simp),by show 0<=1000;omega,by show g.length<=1000;omega,by show 0<=1000;omega⟩ (q.from (kl.jW.mono (fun b e=>.inr (kl.Pq b e)))) (fun b x=>?_) B u A z;rcases x with e | e | ⟨y,d,e⟩
 ·simp only at e;subst e;exact⟨r,kl.ay.lt⟩
 ·simp only[Value.ownBlock,reduceCtorEq,Option.map_none,or_false,false_or]at e;exact⟨Nat.le_trans r (kl.Ky b e),(kl.dV.lt b e).2⟩
 ·simp only[List.nil_append,List.append_nil]at d;exact kl.Iw y d b e
theorem PG.aab{s w f o w':World}{l n:Nat}{p:List Pr}{i:List Ho}{pv m j v c lv:Value}{g:List Value}{mk:Int}{N:Nat}(h:PG s w l p i pv m N)(q:aj aA w f)(kl:Ue w.heap.size f.heap.size mk v f c n g lv o)(D:n<=1000000100)(E:g.length<=100)
 (B:aj (fun b=>b=l\/m.ownBlock=some b) o w') (u:au w' l #[pv,j] 78) (A:w'.ownsRow 0 133 1 j (i.length+1) (i.map pg++[PP f.heap.size])) (z:∀b,j.ownBlock=some b->m.ownBlock=some b\/o.heap.size<=b) :
 PG s w' l p (i++[⟨f.heap.size,.slice none 0 0,.slice none 0 0,lv,[],[],g,mk⟩]) pv j (N+1):=by
 have r:=q.size;refine h.QF (h0:=⟨f.heap.size,.slice none 0 0,.slice none 0 0,lv,[],[],g,mk⟩) ⟨kl.ay,World.ownsRow_nil _ _ _ _,World.ownsRow_nil _ _ _ _,AB kl.dV (Nat.zero_le _),fun y d=>absurd d (by simp),fun y d=>absurd d (by simp),fun y d=>by obtain⟨a,k,cc,e,C,t⟩:=kl.each y d;exact⟨a,k,cc,e,by omega,t⟩,by show 0<=1000;omega,by show 0<=1000;omega,by show g.length<=1000;omega⟩ (q.from (kl.jW.mono (fun b e=>.inr (kl.Pq b e)))) (fun b x=>?_) B u A z;rcases x with e | e | ⟨y,d,e⟩
 ·simp only at e;subst e;exact⟨r,kl.ay.lt⟩
 ·simp only[Value.ownBlock,reduceCtorEq,Option.map_none,or_false,false_or]at e;exact⟨Nat.le_trans r (kl.Ky b e),(kl.dV.lt b e).2⟩
 ·simp only[List.nil_append,List.append_nil]at d;exact kl.Iw y d b e
theorem KU{x:Pr}{w:World}(h:jU w x)(G:x.N<2000000)(id:Int)(f:(Lit.int .i64 id).wf=true):∃(o:Ord) (c:Int),(∀a,aj aA w a->CT 26 #[PP x.bv,II id] a fun e w'=>e=.returned (.tuple #[.agg (qO o),II c])/\aj aA a w')/\(∀a,aj aA w a->CT 101 #[PP x.rb,II id] a fun e w'=>e=.returned (.tuple #[.agg (qO o),II c])/\aj aA a w'):=by
 have d:x.S.l.length<=1000:=by have:=h.oG.no;have:=h.oG.fM;omega
 have F:=h.aN;have b:=h.oG.found id;cases hx:iU x.S.l id with
 | none =>
   rw[hx]at b;exact⟨⟨0,0,⟨#[]⟩,0,0,0,0,0,0,0,0,0,0⟩,6,fun a k=>Ja x.bv x.bm x.bo x.V id a (h.kK.ax k) f b,fun a k=>FH 0 x.rb x.A x.R x.L x.av x.rv x.S id a (h.doc.ax k) h.xP (by omega) d hx⟩
 | some j =>
   rw[hx]at b;have D:=(jC hx).1;obtain⟨g,r,s,t,u,v,y,z,B,m,n,q⟩:=fC (h.oG.same j D);have E:qO (x.V.om (x.p j))=qO (ak x.S.l j):=by simp only[qO,g,r,s,t,u,v,y,z,B,m,n,q]
   refine⟨ak x.S.l j,0,fun a k=>?_,fun a k=>FI 0 x.rb j x.A x.R x.L x.av x.rv x.S id a (h.doc.ax k) h.xP (by omega) d hx⟩;rw[<-E];refine Jb x.bv x.bm x.bo (x.p j) x.V id a (h.kK.ax k) f b ?_;obtain⟨i,C,e⟩:=h.oG.gw.sym (x.p j) ⟨id,b⟩;rw[e];have:=h.sz.sz i C;omega
theorem Gl(x:Pr)(o:kQ)(wv:Value)(w:World)(h:jU w x)(J:x.N<2000000)(hk:o.kind=6)(D:qC o) :
 CT 61 #[wv,.agg #[PP x.bv,PP x.rb],o.val] w fun e w'=>e=.returned (.bool true)/\aj aA w w':=by
 obtain⟨kind,m,a,b,c,s,⟨id,G,sym,side,F,af,az⟩⟩:=o;simp only at hk;subst hk;obtain⟨st,E,i,j⟩:=KU h J a (EG D.a);obtain⟨O,P,S,T,U,V,W,X,Y,Z,Q,R,s12⟩:=st;simp only[qO]at i j;obtain⟨f,d⟩:=gy (((w.alloc (.cells #[PP x.bv,PP x.rb] 131)).alloc (.cells #[II 6,II m,II a,II b,II c,.string s,II id,II G,.string sym,II side,II F,II af,II az] 81)));have p:aj aA w f:=by rw[d];exact ((aj.refl aA w).alloc _).alloc _
 have C:au f w.heap.size #[PP x.bv,PP x.rb] 131:=by rw[d];exact (au.new w _ _).alloc _
 have B:au f (w.heap.size+1) #[II 6,II m,II a,II b,II c,.string s,II id,II G,.string sym,II side,II F,II af,II az] 81:=by rw[d];exact au.qm w _ _ _
 obtain⟨v,y,u,t,z,I⟩:=nH (i f p) j C B p d;simp only[kQ.val,kQ.cells];clear h D p C B d i j;go_enter Tryz.func61,Tryz.ntmps61;go_wp2_with fail;rw[<-ae I];refine (ae v).mono ?_;rintro e w2 ⟨rfl,g⟩;have l:=g.ay (ae u) idd;have k:=g.ay (ae t) idd;have M:CC w2 w.heap.size 1 (PP x.rb):=l.cell 1;have L:CC w2 (w.heap.size+1) 2 (II a):=k.cell 2;have K:=l.lt;have lo:=k.lt;have A:=ai g;clear g l k v;go_wp2_with fail;have q:aj aA w2 (w2.alloc (.cells #[II O,II P,.string S,II T,II U,II V,II W,II X,II Y,II Z,II Q,II R] 54)):=(aj.refl aA w2).alloc _;refine (ae y _ (((ae z).trans (ae A)).trans q)).mono ?_;rintro e w4 ⟨rfl,r⟩;have n:=r.ay (au.new w2 _ _) idd;obtain⟨d0,d1,d2,d3,d4,d5,d6,d7,d8,d9,d10,d11⟩:=n.c12;have ls:=n.lt;have H:=ai (((ae z).trans (ae A)).trans (q.trans r));clear q r n M L K lo y u t;go_wp2;go_ret;exact⟨by first | rfl | simp,(ae H).trans ((aj.refl aA w4).alloc _)⟩
theorem Ea.len{S:RS}{sym:ByteArray}{side:Int}{a:List iT}{b:Int}(h:Ea S sym side a b):a.length<=200:=by
 rcases h with⟨_,rfl,_⟩ | ⟨_,rfl,_⟩ | ⟨_,_,_,_,h⟩
 ·simp
 ·simp
 ·exact h
theorem NI{w0 w:World}{p:Nat}{j:List Pr}{O:List Ho}{pv W:Value}{N:Nat}(h:PG w0 w p j O pv W N)(x:Pr)(X:x∈j)(hN:N<2000000)(o:kQ)(U:o.kind=7)(S:qC o) :
 CT 61 #[PP p,.agg #[PP x.bv,PP x.rb],o.val] w fun e w'=>e=.returned (.bool true)/\zF w0 p (N+1) w':=by
 obtain⟨kind,m,a,b,c,s,⟨id,aG,sym,side,iK,af,az⟩⟩:=o;simp only at U;subst U;have hs:s.size<=1000000000:=by have:=S.s;simp only at this;omega
 have hx0:0<j.length:=List.length_pos_of_mem X;obtain⟨i,f⟩:=gy (((w.alloc (.cells #[PP x.bv,PP x.rb] 131)).alloc (.cells #[II 7,II m,II a,II b,II c,.string s,II id,II aG,.string sym,II side,II iK,II af,II az] 81)));have Y:aj aA w i:=by rw[f];exact ((aj.refl aA w).alloc _).alloc _
 have R:au i w.heap.size #[PP x.bv,PP x.rb] 131:=by rw[f];exact (au.new w _ _).alloc _
 have Q:au i (w.heap.size+1) #[II 7,II m,II a,II b,II c,.string s,II id,II aG,.string sym,II side,II iK,II af,II az] 81:=by rw[f];exact au.qm w _ _ _
 have r:=h.ax Y;have B:=(r.Dw x X);have D:=ai (Va B.1 (by omega) s a hs);obtain⟨K,d,Wq,TF,HW1⟩:=mi B r R Q f;simp only[kQ.val,kQ.cells];clear h S Y R Q f r B;go_enter Tryz.func61,Tryz.ntmps61;go_wp2_with fail;rw[<-ae HW1];refine (ae D).mono ?_;rintro e w2 ⟨v,ls,E,rfl,V,g,t⟩;have q:=g.ay (ae Wq) idd;have k:=g.ay (ae TF) idd;have q1:CC w2 w.heap.size 1 (PP x.rb):=q.cell 1;have o2:CC w2 (w.heap.size+1) 2 (II a):=k.cell 2;have o5:CC w2 (w.heap.size+1) 5 (.string s):=k.cell 5;have lp:=q.lt;have lo:=k.lt;have H:=ai g;have HC2:=ai (RZ ((ae K).1.ax g) (by have:=(ae K).2;omega) t);obtain⟨M,J⟩:=aZ V.owns t.len;clear g q k D V t;go_wp2_with fail;refine (ae HC2).mono ?_;rintro e w3 ⟨v2,rfl,y,z⟩;obtain⟨HR2,I⟩:=aZ y z;have u:=aB (ae M) z (fun _ _ C=>C);have L:=ai u;have F:=ai (I5 _ _ v v2 ls w3 u y (by have:=ae J;omega));clear z u y HC2 q1 o2 o5 lp lo M;go_wp2_with fail;refine (ae F).mono ?_;rintro e w4 ⟨rfl,A⟩;have n:=(ae H).trans ((ae I).trans A);have l:=(ae d).ax n;have G:=ai (aaw p (ae d |> fun _=>i.heap.size) pv W v O ls w4 l.ay l.jJ (by have:=l.hl;omega) (aB (ae L) A (fun _ _ C=>C)) (by have:=ae J;omega) n.size (ae d).ay.lt (fun b hb=>((ae d).jJ.lt b hb).2));have HKK:=ai n;clear A n l F H I L HR2;go_wp2_with fail;refine (ae G).mono ?_;rintro e w5 ⟨rfl,Wl,c5,n5,lv5,hv5,w6,kl,Hf,hs5,Z,P,r6,n6⟩;have T:=(ae d).Z9 (ae HKK) kl Hf hs5 Z P r6 n6;have HF:=ai T;clear T kl Z P r6 n6 G;go_wp2;go_ret;exact⟨by first | rfl | simp,j,_,_,_,ae HF,hx0⟩
theorem oP.seq{R:List Rc}(h:oP R):Zw R:=fun i r a=>(h i r a).1
theorem oP.ty{G:Lg}(h:oP G.tp):Zx G:=fun r b=>by
 obtain⟨i,a⟩:=List.mem_iff_getElem?.1 b;exact (h i r a).2
theorem Oh(tr:List Tg):(iE tr).length<=tr.length:=by
 unfold iE;rw[List.length_map];exact List.length_filter_le _ _
theorem OJ{x:Pr}{w:World}(h:jU w x)(f:x.N<2000000):CT 20 #[PP x.bv] w fun e w'=>∃v,e=.returned v/\w'.ownsRow w.heap.size 56 7 v (iE x.S.t).length (pY (iE x.S.t))/\aj aA w w':=by
 have d:=h.oG.xk;refine (LK x.bv x.bm x.bo x.V.lg x.V.lm w h.kK.aO h.sz.sy (by omega)).mono ?_;rintro e w' ⟨a,c,rfl,b,k⟩;rw[h.oG.tr,Qu]at b;exact⟨_,rfl,by rw[h.oG.tr];exact b,k⟩
theorem KT{x:Pr}{w:World}(h:jU w x)(c:x.N<2000000):CT 106 #[PP x.rb] w fun e w'=>∃v,e=.returned v/\w'.ownsRow w.heap.size 56 7 v (iE x.S.t).length (pY (iE x.S.t))/\aj aA w w':=by
 have a:=h.oG.xk;have b:=h.aN;exact SC 0 x.rb x.A x.R x.L x.av x.rv x.S w h.doc h.xP (by omega) (by rw[<-h.oG.tr];omega)
theorem Vb{x:Pr}{w:World}(h:jU w x)(j:x.N<2000000)(n:Int)(l:n<=9223372036854775807):CT 17 #[PP x.bv,II n] w fun e w'=>∃v,e=.returned v/\w'.ownsRow w.heap.size 62 9 v (lI x.R n).length (gm (lI x.R n))/\aj aA w w':=by
 have i:=h.oG.zA;obtain⟨p,b,f⟩:∃p:Nat,((n<=0/\p=0)\/n=(p:Int)+1)/\p<9223372036854775807:=by
  by_cases h0:n<=0
  ·exact⟨0,.inl ⟨h0,rfl⟩,by omega⟩
  ·exact⟨(n-1).toNat,.inr (by omega),by omega⟩
 have e:=JU h.sz.tp.seq b;rw[h.rt]at e;refine (Tc x.bv x.bm x.bo p n x.V.lg x.V.lm w h.kK.aO h.sz.tp.ty (by omega) b f).mono ?_;rintro g w' ⟨a,c,rfl,d,k⟩;rw[h.rt]at d ⊢;rw[e];exact⟨_,rfl,d,k⟩
theorem Si{x:Pr}{w:World}(h:jU w x)(b:x.N<2000000)(n:Int):CT 109 #[PP x.rb,II n] w fun e w'=>∃v,e=.returned v/\w'.ownsRow w.heap.size 62 9 v (lI x.R n).length (gm (lI x.R n))/\aj aA w w':=by
 have a:=h.oG.zA;exact Yd 0 x.rb x.A x.R x.L x.av x.rv n w h.doc (by rw[<-h.rt];omega)
theorem Og(R:List Rc)(n:Int):(lI R n).length<=R.length:=List.length_filter_le _ _
theorem Gm{w0 w:World}{q:Nat}{n:List Pr}{Q:List Ho}{pv Z:Value}{N:Nat}(h:PG w0 w q n Q pv Z N)(x:Pr)(hx:x∈n)(hN:N<2000000)(o:kQ)(W:o.kind=11)(hO:qC o) :
 CT 61 #[PP q,.agg #[PP x.bv,PP x.rb],o.val] w fun e w'=>e=.returned (.bool true)/\zF w0 q (N+1) w':=by
 obtain⟨kind,m,a,b,c,s,⟨id,aG,sym,side,iK,af,az⟩⟩:=o;simp only at W;subst W;have hx0:0<n.length:=List.length_pos_of_mem hx;obtain⟨l,i⟩:=gy (((w.alloc (.cells #[PP x.bv,PP x.rb] 131)).alloc (.cells #[II 11,II m,II a,II b,II c,.string s,II id,II aG,.string sym,II side,II iK,II af,II az] 81)));have k1:aj aA w l:=by rw[i];exact ((aj.refl aA w).alloc _).alloc _
 have U:au l w.heap.size #[PP x.bv,PP x.rb] 131:=by rw[i];exact (au.new w _ _).alloc _
 have T:au l (w.heap.size+1) #[II 11,II m,II a,II b,II c,.string s,II id,II aG,.string sym,II side,II iK,II af,II az] 81:=by rw[i];exact au.qm w _ _ _
 have f:=h.ax k1;have d:=(f.Dw x hx);have X:(iE x.S.t).length<=1000000000:=by
  have f:=d.1.oG.xk;have h2:=d.1.oG.tr;have h3:=Oh x.S.t;have g:=d.2;rw[h2]at f;omega
 have r:=ai (OJ d.1 (by have:=d.2;omega));obtain⟨M,k,Wq,TF,HW1,u⟩:=nH d f U T i X;simp only[kQ.val,kQ.cells];obtain⟨ls,B⟩:=dQ (iE x.S.t);rw[B]at r u;have HLS:=ai B;clear h hO k1 U T i f d X B;go_enter Tryz.func61,Tryz.ntmps61;go_wp2_with fail;rw[<-ae HW1];refine (ae r).mono ?_;rintro e w2 ⟨v,rfl,Y,j⟩;have z:=j.ay (ae Wq) idd;have y:=j.ay (ae TF) idd;have q1:CC w2 w.heap.size 1 (PP x.rb):=z.cell 1;have o2:CC w2 (w.heap.size+1) 2 (II a):=y.cell 2;have lp:=z.lt;have lo:=y.lt;have K:=ai j;have A:=KT ((ae M).1.ax j) (by have:=(ae M).2;omega);rw[ae HLS]at A;obtain⟨H,P⟩:=aZ A Y;clear j z y r Y A;go_wp2_with fail;refine (ae H).mono ?_;rintro e w3 ⟨v2,rfl,D,E⟩;obtain⟨HR2,L⟩:=aZ D E;have C:=aB (ae P) E (fun _ _ G=>G);have O:=ai C;have I:=ai (I7 _ _ v v2 ls w3 C D (ae u));clear E C D H q1 o2 lp lo P;go_wp2_with fail;refine (ae I).mono ?_;rintro e w4 ⟨rfl,F⟩;have p:=(ae K).trans ((ae L).trans F);have g:=(ae k).ax p;have J:=ai (aay q l.heap.size pv Z v Q ls w4 g.ay g.jJ (by have:=g.hl;omega) (aB (ae O) F (fun _ _ G=>G)) (ae u) p.size (ae k).ay.lt (fun b hb=>((ae k).jJ.lt b hb).2));have HKK:=ai p;clear F p g I K L O HR2;go_wp2_with fail;refine (ae J).mono ?_;rintro e w5 ⟨rfl,Wl,c5,n5,lv5,hv5,w6,kl,Hf,hs5,k6,R,r6,n6⟩;have V:=(ae k).iE (ae HKK) kl Hf hs5 k6 R r6 n6;have HF:=ai V;clear V kl k6 R r6 n6 J;go_wp2;go_ret;exact⟨by first | rfl | simp,n,_,_,_,ae HF,hx0⟩
theorem NJ{w0 w:World}{q:Nat}{n:List Pr}{P:List Ho}{pv Z:Value}{N:Nat}(h:PG w0 w q n P pv Z N)(x:Pr)(hx:x∈n)(hN:N<2000000)(o:kQ)(W:o.kind=12)(U:qC o) :
 CT 61 #[PP q,.agg #[PP x.bv,PP x.rb],o.val] w fun e w'=>e=.returned (.bool true)/\zF w0 q (N+1) w':=by
 obtain⟨kind,m,a,b,c,s,⟨id,aG,sym,side,iK,af,az⟩⟩:=o;simp only at W;subst W;have hx0:0<n.length:=List.length_pos_of_mem hx;obtain⟨l,i⟩:=gy (((w.alloc (.cells #[PP x.bv,PP x.rb] 131)).alloc (.cells #[II 12,II m,II a,II b,II c,.string s,II id,II aG,.string sym,II side,II iK,II af,II az] 81)));have k1:aj aA w l:=by rw[i];exact ((aj.refl aA w).alloc _).alloc _
 have T:au l w.heap.size #[PP x.bv,PP x.rb] 131:=by rw[i];exact (au.new w _ _).alloc _
 have S:au l (w.heap.size+1) #[II 12,II m,II a,II b,II c,.string s,II id,II aG,.string sym,II side,II iK,II af,II az] 81:=by rw[i];exact au.qm w _ _ _
 have f:=h.ax k1;have d:=(f.Dw x hx);have X:(lI x.R a).length<=1000000000:=by
  have f:=d.1.oG.zA;have h2:=d.1.rt;have h3:=Og x.R a;have g:=d.2;rw[h2]at f;omega
 have r:=ai (Vb d.1 (by have:=d.2;omega) a (by have:=U.a;unfold dM at this;simp only at this;omega));obtain⟨L,k,Wq,TF,HW1,t⟩:=nH d f T S i X;simp only[kQ.val,kQ.cells];obtain⟨ls,A⟩:=dQ (lI x.R a);rw[A]at r t;have HLS:=ai A;clear h U k1 T S i f d X A;go_enter Tryz.func61,Tryz.ntmps61;go_wp2_with fail;rw[<-ae HW1];refine (ae r).mono ?_;rintro e w2 ⟨v,rfl,Y,j⟩;have y:=j.ay (ae Wq) idd;have u:=j.ay (ae TF) idd;have q1:CC w2 w.heap.size 1 (PP x.rb):=y.cell 1;have o2:CC w2 (w.heap.size+1) 2 (II a):=u.cell 2;have lp:=y.lt;have lo:=u.lt;have J:=ai j;have z:=Si ((ae L).1.ax j) (by have:=(ae L).2;omega) a;rw[ae HLS]at z;obtain⟨G,O⟩:=aZ z Y;clear j y u r Y z;go_wp2_with fail;refine (ae G).mono ?_;rintro e w3 ⟨v2,rfl,C,D⟩;obtain⟨HR2,K⟩:=aZ C D;have B:=aB (ae O) D (fun _ _ F=>F);have M:=ai B;have H:=ai (FM _ _ v v2 ls w3 B C (ae t));clear D B C G q1 o2 lp lo O;go_wp2_with fail;refine (ae H).mono ?_;rintro e w4 ⟨rfl,E⟩;have p:=(ae J).trans ((ae K).trans E);have g:=(ae k).ax p;have I:=ai (aax q l.heap.size pv Z v P ls w4 g.ay g.jJ (by have:=g.hl;omega) (aB (ae M) E (fun _ _ F=>F)) (ae t) p.size (ae k).ay.lt (fun b hb=>((ae k).jJ.lt b hb).2));have HKK:=ai p;clear E p g H J K M HR2;go_wp2_with fail;refine (ae I).mono ?_;rintro e w5 ⟨rfl,Wl,c5,n5,lv5,hv5,w6,kl,Hf,hs5,k6,Q,r6,n6⟩;have V:=(ae k).aab (ae HKK) kl Hf hs5 k6 Q r6 n6;have HF:=ai V;clear V kl k6 Q r6 n6 I;go_wp2;go_ret;exact⟨by first | rfl | simp,n,_,_,_,ae HF,hx0⟩
theorem NG(x:Pr)(o:kQ)(w:World)(h:jU w x)(Z:qj w)(C:x.N<2000000)(hk:o.kind=13)(Y:qC o) :
 CT 60 #[.agg #[PP x.bv,PP x.rb],o.val] w fun e w'=>e=.returned (.bool true)/\FX x w w':=by
 obtain⟨kind,m,a,b,c,s,⟨id,aG,sym,side,iK,af,az⟩⟩:=o;simp only at hk;subst hk;obtain⟨W1,D,H,G,l,y,v,B,A,I⟩:=nD x 13 m a b c s id aG sym side iK af az w h;obtain⟨r,i,T,M,L,P,O,Q,Gg,u⟩:=QG (RX l C) I l y v B A H G D;simp only[kQ.val,kQ.cells];simp only[bC]at u;clear h Z Y H G l y v B A I D;go_enter Tryz.func60,Tryz.ntmps60;go_wp2_with fail;rw[<-ae u];refine (ae r).mono ?_;rintro e w2 ⟨E,rfl,k⟩;have d:=k.jW;have g:∀b,w.heap.size<=b->¬bY x.bv x.bm x.bo x.V b:=fun b f hf=>ae i b f (.inl hf)
 have z:=d.ay (ae M) (g _ (by omega));have X:=d.ay (ae L) (g _ (by omega));have K:=d.ay (ae P) (g _ (by omega));have J:=d.ay (ae O) (g _ (by omega));have q1:CC w2 w.heap.size 1 (PP x.rb):=z.cell 1;obtain⟨S,W,U,PH⟩:=gY k K J d;clear k d g z X K J r;go_wp2_with fail;have t:=Sj (ae T) C (ae S) (aj.refl aA w2) (fun b f=>f.elim);refine t.mono ?_;rintro e w3 ⟨rfl,F,p⟩;have j:=p.ay (ae W) (fun n=>ae i _ (by omega) (.inr (.inl n)));have q:=p.ay (ae U) (fun n=>ae i _ (by omega) (.inr (.inl n)));obtain⟨u0,u1,u2,u3,u4⟩:=j.c5;obtain⟨v0,v1,v2,v3,v4⟩:=q.c5;have lu:=j.lt;have lv:=q.lt;have R:=ai F;clear F p j q t q1;go_wp2;go_ret;exact⟨by first | rfl | simp,CG.of (ae Q) (ae R) (fun b f=>f.elim)⟩
theorem U8{w:World}{n c:Nat}{a:Option Addr}{b:List Pr}(h:w.ownsRow 0 131 2 (.slice a n c) n (oZ b))(p:b.length=n){i:Nat}{x:Pr}(d:b[i]?=some x):∃g,a=some ⟨g,0,none⟩/\g<w.heap.size/\w.cell? ⟨g,i * 2,none⟩=some (PP x.bv)/\w.cell? ⟨g,i * 2+1,none⟩=some (PP x.rb):=by
 have m:=(List.getElem?_eq_some_iff.1 d).1;obtain⟨g,rfl,_⟩:=gQ h (by omega);have l:∀(b:List Pr) (i:Nat) (x:Pr),b[i]?=some x->(oZ b)[i * 2]?=some (PP x.bv)/\(oZ b)[i * 2+1]?=some (PP x.rb):=by
  intro b
  induction b with
  | nil=>intro i x h;simp at h
  | cons y b ih =>
    intro i x h;cases i with
    | zero=>simp at h;subst h;simp[oZ,Dv]
    | succ i =>
      simp at h;have:=ih i x h;have e:(i+1) * 2=i * 2+2:=by omega
      have f:(i+1) * 2+1=(i * 2+1)+2:=by omega
      rw[f,e]
      simpa [oZ,Dv] using this
 have o:(oZ b).length=n * 2:=h.1;obtain⟨j,k⟩:=l b i x d;exact⟨g,rfl,(h.lt g rfl).2,by rw[h.cellAt _ (by omega)];exact j,by rw[h.cellAt _ (by omega)];exact k⟩
theorem UG{m:Int}{n:Nat}(f:0<n)(e:n<=100000000):∃j:Nat,j<n/\(m.tmod n+n).tmod n=(j:Int)/\-(n:Int)<m.tmod n/\m.tmod n<n:=by
 have a:m.tmod n<n:=Int.tmod_lt_of_pos m (by omega);have b:-(n:Int)<m.tmod n:=Int.lt_tmod_of_pos m (by omega);have c:0<=(m.tmod n+n).tmod n:=Int.tmod_nonneg _ (by omega);have d:(m.tmod n+n).tmod n<n:=Int.tmod_lt_of_pos _ (by omega);exact⟨((m.tmod n+n).tmod n).toNat,by omega,by omega,b,a⟩
theorem Q4{W w:World}{K:Nat}{R:List Pr}{Hs:List Ho}{pv hv:Value}{N:Nat}(h:PG W w K R Hs pv hv N)(hX:0<R.length)(hN:N<2000000)(o:kQ)(hk:o.kind<=13)(hO:qC o) :
 CT 32 #[PP K,o.val] w fun e w'=>e=.returned (.bool true)/\zF W K (N+1) w':=by
 obtain⟨d,m,a,b,c,s,⟨id,H,sym,side,G,af,az⟩⟩:=o;simp only at hk;obtain⟨O,V⟩:=gy ((w.alloc (.cells #[II d,II m,II a,II b,II c,.string s,II id,II H,.string sym,II side,II G,II af,II az] 81)));have k1:aj aA w O:=by rw[V];exact (aj.refl aA w).alloc _
 have hs1:O.heap.size=w.heap.size+1:=by rw[V];simp
 have U:au O w.heap.size #[II d,II m,II a,II b,II c,.string s,II id,II H,.string sym,II side,II G,II af,II az] 81:=by rw[V];exact au.new w _ _
 have T:=h.ax k1;obtain⟨n,hn⟩:=dQ R.length;have Y:=T.fQ;rw[hn]at Y hX;obtain⟨pa,pc,hpv⟩:=aJ Y;subst hpv;have hxl:=T.xl;rw[hn]at hxl;have c0:CC O K 0 (.slice pa n pc):=T.ay.cell 0;have XU:=T.ay.lt;obtain⟨j,hj,hjm,hlo,hhi⟩:=UG (m:=m) hX (by omega);obtain⟨x,hx⟩:∃x,R[j]?=some x:=⟨_,List.getElem?_eq_getElem (by omega)⟩;obtain⟨g,rfl,lg,x0,x1⟩:=U8 Y hn hx;have o0:CC O w.heap.size 0 (II d):=U.cell 0;have o1:CC O w.heap.size 1 (II m):=U.cell 1;have lo:=U.lt;have HB:=ai (Dc T (by omega));obtain⟨Yq,TF,HW1,M,I,Gg⟩:=nH T U V hx hO hs1;simp only[kQ.val,kQ.cells];clear h hO k1 U V T Y hx hs1;go_enter Tryz.func32,Tryz.ntmps32;by_cases hk1:d=1
 ·subst hk1;go_wp2_with fail;rw[<-ae HW1];refine (ae HB).mono ?_;rintro e w2 ⟨rfl,f⟩;go_wp2;go_ret;exact⟨rfl,f⟩
 go_upto_region 6 with fail;rw[<-ae HW1];go_upto_region 7 with fail;go_cut [6] from 26 (fun s6 wc=>s6=PP (w.heap.size+1)/\au wc (w.heap.size+1) #[PP x.bv,PP x.rb] 131/\au wc w.heap.size #[II d,II m,II a,II b,II c,.string s,II id,II H,.string sym,II side,II G,II af,II az] 81/\aj aA O wc)
 case first JJ KK hJ hK =>
  go_region;refine hK _ _ (Met.intro (hJ _ _ ?_))
  repeat apply Exists.intro
  refine⟨?rel,rfl⟩
  case rel =>
   refine⟨by rw[ae Gg],?_,((ae TF).alloc _).drew,((aj.refl aA O).alloc _).drew⟩;have:=(au.new O #[PP x.bv,PP x.rb] 131).drew;rw[ae Gg]at this;exact this
 case rest =>
  obtain⟨rfl,X,bo,kc⟩:=hcut;have Q:=(ae Yq).ax kc;have Z:x∈R:=List.mem_of_getElem? (ae M);have p:=Q.Dw x Z;have r0:CC wc (w.heap.size+1) 0 (PP x.bv):=X.cell 0;have r1:CC wc (w.heap.size+1) 1 (PP x.rb):=X.cell 1;obtain⟨p0,p1,p2,p3,p4,p5,p6,p7,p8,p9,p10,p11,p12⟩:=bo.JK;have lp:=X.lt;have lo2:=bo.lt;have L:=ai Q;have P:qj wc:=Q.YH.ax Q.jW;have v:Hid (d=2->CT 60 #[.agg #[PP x.bv,PP x.rb],(kQ.mk d m a b c s ⟨id,H,sym,side,G,af,az⟩).val] wc fun e w'=>e=.returned (.bool true)/\FX x wc w'):=fun e=>NF x _ wc p.1 P (by have:=p.2;omega) e (ae I)
  have y:Hid (d=3->CT 60 #[.agg #[PP x.bv,PP x.rb],(kQ.mk d m a b c s ⟨id,H,sym,side,G,af,az⟩).val] wc fun e w'=>e=.returned (.bool true)/\FX x wc w'):=fun e=>Jy x _ wc p.1 P (by have:=p.2;omega) e (ae I)
  have z:Hid (d=4->CT 60 #[.agg #[PP x.bv,PP x.rb],(kQ.mk d m a b c s ⟨id,H,sym,side,G,af,az⟩).val] wc fun e w'=>e=.returned (.bool true)/\FX x wc w'):=fun e=>Gi x _ wc p.1 P (by have:=p.2;omega) e (ae I)
  have A:Hid (d=5->CT 60 #[.agg #[PP x.bv,PP x.rb],(kQ.mk d m a b c s ⟨id,H,sym,side,G,af,az⟩).val] wc fun e w'=>e=.returned (.bool true)/\FX x wc w'):=fun e=>Em x _ wc p.1 P (by have:=p.2;omega) e (ae I)
  have B:Hid (d=6->CT 61 #[PP K,.agg #[PP x.bv,PP x.rb],(kQ.mk d m a b c s ⟨id,H,sym,side,G,af,az⟩).val] wc fun e w'=>e=.returned (.bool true)/\aj aA wc w'):=fun e=>Gl x _ _ wc p.1 (by have:=p.2;omega) e (ae I)
  have C:Hid (d=7->CT 61 #[PP K,.agg #[PP x.bv,PP x.rb],(kQ.mk d m a b c s ⟨id,H,sym,side,G,af,az⟩).val] wc fun e w'=>e=.returned (.bool true)/\zF W K (N+1) w'):=fun e=>NI Q x Z hN _ e (ae I)
  have D:Hid (d=8->CT 60 #[.agg #[PP x.bv,PP x.rb],(kQ.mk d m a b c s ⟨id,H,sym,side,G,af,az⟩).val] wc fun e w'=>e=.returned (.bool true)/\FX x wc w'):=fun e=>ND x _ wc p.1 P (by have:=p.2;omega) e (ae I)
  have E:Hid (d=9->CT 60 #[.agg #[PP x.bv,PP x.rb],(kQ.mk d m a b c s ⟨id,H,sym,side,G,af,az⟩).val] wc fun e w'=>e=.returned (.bool true)/\FX x wc w'):=fun e=>Ej x _ wc p.1 P (by have:=p.2;omega) e (ae I)
  have q:Hid (d=10->CT 60 #[.agg #[PP x.bv,PP x.rb],(kQ.mk d m a b c s ⟨id,H,sym,side,G,af,az⟩).val] wc fun e w'=>e=.returned (.bool true)/\FX x wc w'):=fun e=>Jw x _ wc p.1 P (by have:=p.2;omega) e (ae I)
  have r:Hid (d=11->CT 61 #[PP K,.agg #[PP x.bv,PP x.rb],(kQ.mk d m a b c s ⟨id,H,sym,side,G,af,az⟩).val] wc fun e w'=>e=.returned (.bool true)/\zF W K (N+1) w'):=fun e=>Gm Q x Z hN _ e (ae I)
  have t:Hid (d=12->CT 61 #[PP K,.agg #[PP x.bv,PP x.rb],(kQ.mk d m a b c s ⟨id,H,sym,side,G,af,az⟩).val] wc fun e w'=>e=.returned (.bool true)/\zF W K (N+1) w'):=fun e=>NJ Q x Z hN _ e (ae I)
  have u:Hid (d=13->CT 60 #[.agg #[PP x.bv,PP x.rb],(kQ.mk d m a b c s ⟨id,H,sym,side,G,af,az⟩).val] wc fun e w'=>e=.returned (.bool true)/\FX x wc w'):=fun e=>NG x _ wc p.1 P (by have:=p.2;omega) e (ae I)
  have hcase:d=2\/d=3\/d=4\/d=5\/d=6\/d=7\/d=8\/d=9\/d=10\/d=11\/d=12\/d=13\/d<=0:=by omega
  simp only[kQ.val,kQ.cells]at v y z A B C D E q r t u;clear Q p X bo kc P HB TF HW1 Gg c0 x0 x1 o0 o1 XU lo lg hlo hhi hjm hk Yq;rcases hcase with rfl | rfl | rfl | rfl | rfl | rfl | rfl | rfl | rfl | rfl | rfl | rfl | hk0
  ·have i:=ai (ae v rfl);clear v y z A B C D E q r t u;go_wp2_with fail;refine (ae i).mono ?_;rintro e J ⟨rfl,f⟩;obtain⟨F,l,S⟩:=(ae L).turn (ae M) f;have k:=ai l;clear f l;go_wp2;go_ret;exact⟨rfl,F,_,_,_,ae k,by omega⟩
  ·have i:=ai (ae y rfl);clear v y z A B C D E q r t u;go_wp2_with fail;refine (ae i).mono ?_;rintro e J ⟨rfl,f⟩;obtain⟨F,l,S⟩:=(ae L).turn (ae M) f;have k:=ai l;clear f l;go_wp2;go_ret;exact⟨rfl,F,_,_,_,ae k,by omega⟩
  ·have i:=ai (ae z rfl);clear v y z A B C D E q r t u;go_wp2_with fail;refine (ae i).mono ?_;rintro e J ⟨rfl,f⟩;obtain⟨F,l,S⟩:=(ae L).turn (ae M) f;have k:=ai l;clear f l;go_wp2;go_ret;exact⟨rfl,F,_,_,_,ae k,by omega⟩
  ·have i:=ai (ae A rfl);clear v y z A B C D E q r t u;go_wp2_with fail;refine (ae i).mono ?_;rintro e J ⟨rfl,f⟩;obtain⟨F,l,S⟩:=(ae L).turn (ae M) f;have k:=ai l;clear f l;go_wp2;go_ret;exact⟨rfl,F,_,_,_,ae k,by omega⟩
  ·have i:=ai (ae B rfl);clear v y z A B C D E q r t u;go_wp2_with fail;refine (ae i).mono ?_;rintro e J ⟨rfl,f⟩;have k:=ai f;clear f;go_wp2;go_ret;exact⟨rfl,R,_,_,_,((ae L).ax (ae k)).mono (by omega),by omega⟩
  ·have i:=ai (ae C rfl);clear v y z A B C D E q r t u;go_wp2_with fail;refine (ae i).mono ?_;rintro e J ⟨rfl,f⟩;have k:=ai f;clear f;go_wp2;go_ret;exact⟨rfl,ae k⟩
  ·have i:=ai (ae D rfl);clear v y z A B C D E q r t u;go_wp2_with fail;refine (ae i).mono ?_;rintro e J ⟨rfl,f⟩;obtain⟨F,l,S⟩:=(ae L).turn (ae M) f;have k:=ai l;clear f l;go_wp2;go_ret;exact⟨rfl,F,_,_,_,ae k,by omega⟩
  ·have i:=ai (ae E rfl);clear v y z A B C D E q r t u;go_wp2_with fail;refine (ae i).mono ?_;rintro e J ⟨rfl,f⟩;obtain⟨F,l,S⟩:=(ae L).turn (ae M) f;have k:=ai l;clear f l;go_wp2;go_ret;exact⟨rfl,F,_,_,_,ae k,by omega⟩
  ·have i:=ai (ae q rfl);clear v y z A B C D E q r t u;go_wp2_with fail;refine (ae i).mono ?_;rintro e J ⟨rfl,f⟩;obtain⟨F,l,S⟩:=(ae L).turn (ae M) f;have k:=ai l;clear f l;go_wp2;go_ret;exact⟨rfl,F,_,_,_,ae k,by omega⟩
  ·have i:=ai (ae r rfl);clear v y z A B C D E q r t u;go_wp2_with fail;refine (ae i).mono ?_;rintro e J ⟨rfl,f⟩;have k:=ai f;clear f;go_wp2;go_ret;exact⟨rfl,ae k⟩
  ·have i:=ai (ae t rfl);clear v y z A B C D E q r t u;go_wp2_with fail;refine (ae i).mono ?_;rintro e J ⟨rfl,f⟩;have k:=ai f;clear f;go_wp2;go_ret;exact⟨rfl,ae k⟩
  ·have i:=ai (ae u rfl);clear v y z A B C D E q r t u;go_wp2_with fail;refine (ae i).mono ?_;rintro e J ⟨rfl,f⟩;obtain⟨F,l,S⟩:=(ae L).turn (ae M) f;have k:=ai l;clear f l;go_wp2;go_ret;exact⟨rfl,F,_,_,_,ae k,by omega⟩
  ·clear v y z A B C D E q r t u;go_wp2;go_ret;exact⟨rfl,R,_,_,_,(ae L).mono (by omega),by omega⟩
end Go.Proofs.YtigaphnafnpfnaaGreatDoor
