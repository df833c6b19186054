import Derived.Test.YtigaphnafnpfnaaGreatDoorQVG17
set_option linter.unusedVariables false
set_option linter.unusedSimpArgs false
set_option maxHeartbeats 8000000
set_option maxRecDepth 100000
namespace Go.Proofs.YtigaphnafnpfnaaGreatDoor
open Go.RowKit Go.Maps
attribute [local go_sem ↓] Go.wp_at_zero Go.wp_at_succ
def ExC(bv:Nat)(V:aS)(M:Int)(b:Nat)(bk:Nat->Nat)(lw:Nat)(old:List (List Value))(dP:List Nat)(V2:aS)(W:World):Prop :=
 ExV V M b V2/\V2.lg.nt=V.lg.nt++[.left b,.fV b (V.om b)]/\(∀j y,(V2.B j).sl y=(V.B j).sl y)/\(∀j,V2.bk j=V.bk j)/\∃Yz,iy W bv bk lw true old V2.lg.nt dP V2.lm Yz
theorem BL(bv z A i b s k:Nat)(V:aS)(M id:Int)(w:World)(bk:Nat->Nat)(a:Nat)(F:List (List Value))(dP:List Nat)(G:List Value)(Z:iy w bv bk a true F V.lg.nt dP V.lm G)(TP:a<=w.heap.size)(hbk:bk b=V.bk i)(xy:∀g,ig ((V.B i).sl s)=some g->g<a)(R:dL w bv z A V)(g:GW V M)(hM:M<=1000000000000000)(p:i<V.nb)(hs:s<2)(t:k<(V.B i).n s)(D:(V.B i).h s k=b)(I:V.aV id=some b)(hna:0<V.lg.na)(kX:V.lg.na<=3000000)(hnt:V.lg.nt.length+3<1000000000) :
 ∀q w2 c l f o m,Mk w2 (V.bk i) ((V.B i).leave V.om s k) V.om (fun x=>∃id,V.aV id=some x)->aj (fun x=>x=V.bk i\/dn (V.B i) s x) (w.drewN q) w2->Mk c (V.bk i) ((V.B i).leave V.om s k) (aK V.om b (gG (V.om b))) (fun x=>∃id,V.aV id=some x)->aj (fun x=>x=b) w2 c->jr w2 (V.bk i) b (w.drewN q).heap.size l f->jT c b (V.om b) w2.heap.size o m ->
  CT 53 #[PP bv,.slice (some ⟨c.heap.size,0,none⟩) 2 2] (c.alloc (.cells #[.func l #[] f,.func o #[] m] 1)) fun e w'=>e=.returned (.tuple #[]) /\
   jc bv z A V (ExC bv V M b bk a F dP) w w'/\aj (fun x=>(x=V.bk i\/dn (V.B i) s x)\/gK V.lm.av V.lm.ac x) w w'/\Mk w' (V.bk i) ((V.B i).leave V.om s k) (aK V.om b (gG (V.om b))) (fun x=>∃id,V.aV id=some x):=by
 intro q w2 c l f o m N u m3 v W X;have C:i<V.nb:=p;have E:=((g.gb i p).mem s hs _).1 ⟨k,t,rfl⟩;rw[D]at E;have hap:=g.apart R E.1 E.2.1 p;have d:aj aA w (w.drewN q):=(aj.refl aA w).drewN q;have Y:=(R.aO.ax d).jG u (fun x h=>((R.ax d).sG C).gZ (by
  rcases h with h | h
  ·exact .inl h
  ·exact .inr (.inr ⟨s,hs,h⟩)))
 have H:=Y.jG v (fun x h=>by subst h;exact N.gZ (.inr (.inl ⟨id,I⟩)));have mq:=(R.ax d).sG C;have o2:nZ (w.drewN q) a true (fun x=>x=V.bk i\/dn (V.B i) s x):=uf mq hs xy;have O:nZ w2 a true (fun x=>x=b):=jQ N ⟨id,I⟩;have T:=((Z.ax d).aC u o2).aC v O;have i2:bH w2 bv bk a (.left b) (.func l #[] f):=⟨_,_,rfl,by
  show jr w2 (bk b) b a l f;rw[hbk];exact W.mono (by have:=d.size;omega)⟩
 have i2':=i2.aC (q:=true) (fun _=>rfl) v O;have i3:bH c bv bk a (.fV b (V.om b)) (.func o #[] m):=⟨_,_,rfl,X.mono (by have:=d.size;have:=u.size;omega)⟩;refine (vP bv z A V.lg V.lm (.left b) (.fV b (V.om b)) l o f m c bk a true F dP G H T (fun _=>rfl) (fun _=>rfl) i2' i3 hna kX (by omega)).mono ?_;rintro e w' ⟨rfl,bG,Q,a2,a3,a4,a5⟩;have sdb:dn (V.B i) s b:=.inr ⟨k,t,D.symm⟩;have K:aj (fun x=>x=V.bk i\/dn (V.B i) s x) w c:=(d.aP.trans u).trans (v.mono (fun x h=>.inr (by rw[h];exact sdb)));have L:aj (fun x=>(x=V.bk i\/dn (V.B i) s x)\/gK V.lm.av V.lm.ac x) w w':=(K.mono (fun x h=>.inl h)).trans (a3.mono (fun x h=>.inr h));have J:=m3.jw H (a3.mono (fun x h=>xA h));have FZ:∀x,x≠b->aK V.om b (gG (V.om b)) x=V.om x:=fun x h=>ag _ _ h
 refine⟨rfl,jc.of (P:=fun _=>True) (S:=fun x=>x=V.bk i\/dn (V.B i) s x) R C _ (ds:=[.left b,.fV b (V.om b)]) (by simp) ⟨bG,_,Q,fun x r=>(a2 x r).imp_right (fun h=>Nat.le_trans K.size h),a5,trivial⟩ J L (fun x r=>?_) (fun x=>?_) (fun x=>?_) rfl (fun y hy x r=>.inl ⟨y,hy,H8 ((g.gb i p).inj s hs) t r⟩) (fun acC U hcu _=>⟨ZR g hM p hs t D,rfl,fun j y=>xm (V:=V) (i:=i) (B':=(V.B i).leave V.om s k) (fun B=>B.sl y) rfl j,fun _=>rfl,U,hcu⟩),L,J⟩
 ·rcases r with h | h
  ·exact .inl h
  ·exact .inr (.inl ⟨s,hs,h⟩)
 ·by_cases e:x=b
  ·exact .inl (e▸hap)
  ·exact .inr (FZ x e)
 ·by_cases e:x=b
  ·rw[e,ah];rfl
  ·rw[FZ x e]
structure Pv(bv bm bo n:Nat)(M:Int)(V:aS)(r:Nat)(D:DataW Unit)(f:Lit->Option Nat)(bk:Nat->Nat)(w wr:World)(cnt:Nat)(V':aS)(left:Lit->Bool)(cur:Option Int)(ex:List Nat):Prop where
 nt:V'.lg.nt=ex.flatMap (fun x=>[.left x,.fV x (V.om x)])
 exn:ex.Nodup
 YB:∀id x,V.aV id=some x->(x∈ex↔(left (.int .i64 id)=false/\cur≠some id/\(V.om x).kind=1/\0<(V.om x).aH))
 sl:∀j y,(V'.B j).sl y=(V.B j).sl y
 bkE:∀j,V'.bk j=V.bk j
 cu:∃cl,iy wr bv bk w.heap.size true (V.lm.ac.map Prod.snd) V'.lg.nt V.lm.tb V'.lm cl
 exo:∀x∈ex,VL V x
 kK:dL wr bv bm bo V'
 gw:GW V' M
 aV:V'.aV=V.aV
 no:V'.no=V.no
 nb:V'.nb=V.nb
 lV:∀j,(V'.B j).sym=(V.B j).sym
 PY:∀j,(V'.B j).places=(V.B j).places
 oH:∀x,(V'.om x).sym=(V.om x).sym/\(V'.om x).side=(V.om x).side/\(V'.om x).id=(V.om x).id/\(V'.om x).filled=(V.om x).filled
 om:∀id x,V.aV id=some x->V'.om x=if left (.int .i64 id)=true\/cur=some id then V.om x else BJ (V.om x)
 lg:WR V.lg.begun V'.lg (3 * (n-cnt))
 Yb:wr.ranges Tryz.prog 3 jD bo r n D left cnt
 le:∀kl,left kl=true->(f kl).isSome=true
 JS:∀y,bY bv bm bo V' y->bY bv bm bo V y\/w.heap.size<=y
 cn:cnt<=n
 box:au wr w.heap.size #[PP bv] 35
 jW:aj (bY bv bm bo V) w wr
 rr:w.heap.size<=r
theorem Pv.step{bv m g n:Nat}{M:Int}{V:aS}{r:Nat}{j:DataW Unit}{z:Lit->Option Nat}{bk:Nat->Nat}{w wr f:World}{v:List Nat}{u o:Nat}{l:aS}{left:Lit->Bool}{id:Int}(h:Pv bv m g n M V r j z bk w wr u l left none v)(A:left (.int .i64 id)=true)(I:f.ranges Tryz.prog 3 jD g r n j (fun d=>left d && !d.sameKey (.int .i64 id)) o)(S:o<u)(G:wr.grownBy f (some r)) :
 Pv bv m g n M V r j z bk w f o l (fun d=>left d && !d.sameKey (.int .i64 id)) (some id) v:=by
 have i:aj (fun y=>y=r) wr f:=(aj.refl _ wr).grown G (fun k e=>.inl (by simpa using e.symm));have O:¬bY bv m g l r:=by
  obtain⟨R,Q,W,U,c0,_,_,_,_,H,_⟩:=h.Yb;exact h.kK.Oc H
 have B:w.heap.size≠r:=fun e=>(uG h.Yb h.box).2 e.symm
 obtain⟨J,K,L,N,T⟩:=h.lg;have:=h.cn;have P:nZ wr w.heap.size true (fun y=>y=r):=fun b D=>.inr (fun c t E _=>(uG h.Yb E).2 D.symm)
 obtain⟨C,F⟩:=h.cu;refine⟨h.nt,h.exn,fun a x s=>?_,h.sl,h.bkE,⟨C,F.aC i P⟩,h.exo,h.kK.aaz i O,h.gw,h.aV,h.no,h.nb,h.lV,h.PY,h.oH,fun a x s=>?_,⟨J,K,L,N,by omega⟩,I,fun kl e=>h.le kl (by simp at e;exact e.1),h.JS,by omega,i.ay h.box B,h.jW.from (i.mono (fun y e=>.inr (by rw[e];exact h.rr))),h.rr⟩
 ·rw[h.YB a x s];by_cases e:a=id
  ·subst e;simp[A]
  ·have p:(Lit.int .i64 a).sameKey (.int .i64 id)=false:=by simp[Lit.sameKey,e]
   have q:¬(some id=some a):=fun h=>e (Option.some.inj h).symm
   simp[p,q]
 rw[h.om a x s];by_cases e:a=id
 ·subst e;rw[if_pos (.inl A),if_pos (.inr rfl)]
 ·have p:(Lit.int .i64 a).sameKey (.int .i64 id)=false:=by simp[Lit.sameKey,e]
  have q:¬(some id=some a):=fun h=>e (Option.some.inj h).symm
  simp only[p,Bool.not_false,Bool.and_true,q,or_false,reduceCtorEq]
theorem Pv.skip{bv i j n:Nat}{M:Int}{V:aS}{r:Nat}{f:DataW Unit}{m:Lit->Option Nat}{bk:Nat->Nat}{w wr:World}{l:List Nat}{k:Nat}{g:aS}{left:Lit->Bool}{id:Int}{x:Nat}(h:Pv bv i j n M V r f m bk w wr k g left (some id) l)(p:V.aV id=some x)(o:¬((V.om x).kind=1/\0<(V.om x).aH)):Pv bv i j n M V r f m bk w wr k g left none l:=by
 refine { h with om:=fun b d a=>?_,YB:=fun b d a=>?_ }
 ·rw[h.YB b d a];by_cases e:b=id
  ·subst e;rw[p]at a;obtain rfl:=Option.some.inj a;constructor
   ·rintro⟨_,q,_⟩;exact absurd rfl q
   ·rintro⟨_,_,s⟩;exact absurd s o
  ·have c:¬(some id=some b):=fun h=>e (Option.some.inj h).symm
   simp[c]
 rw[h.om b d a];by_cases e:b=id
 ·subst e;rw[p]at a;obtain rfl:=Option.some.inj a;rw[if_pos (.inr rfl)];split
  ·rfl
  ·unfold BJ;rw[if_neg o]
 ·have c:¬(some id=some b):=fun h=>e (Option.some.inj h).symm
  simp only[c,or_false,reduceCtorEq]
theorem Pv.turn{bv z o n:Nat}{M:Int}{V:aS}{r:Nat}{E:DataW Unit}{F:Lit->Option Nat}{bk:Nat->Nat}{w wr v:World}{C:List Nat}{q:Nat}{d:aS}{left:Lit->Bool}{i s x:Nat}{id:Int}(h:Pv bv z o n M V r E F bk w wr q d left (some id) C)(p:V.aV id=some x)(D:(V.om x).kind=1/\0<(V.om x).aH)(H:left (.int .i64 id)=false)(hlt:q<n)(I:d.lg.nt.length<=V.lg.begun.nt.length+3 * (n-(q+1)))(W:i<d.nb)(hs:s<2)
 (Z:jc bv z o d (ExC bv d M x bk w.heap.size (V.lm.ac.map Prod.snd) V.lm.tb) wr v) (kc:aj (fun x=>(x=d.bk i\/dn (d.B i) s x)\/gK d.lm.av d.lm.ac x) wr v) :
 ∃N,Pv bv z o n M V r E F bk w v q N left none (C++[x]):=by
 obtain⟨O,L,⟨m,I,Y,T,U⟩,⟨l1,l2,l3,l4,l5⟩,u,_,k2,R⟩:=Z;have G:i<d.nb:=W;have gZ:∀x,((x=d.bk i\/dn (d.B i) s x)\/gK d.lm.av d.lm.ac x)->∃c t,au wr x c t:=by
  rintro x ((e | e) | e)
  ·obtain⟨c,t,l,_⟩:=(h.kK.sG G).gZ (.inl e);exact⟨c,t,l⟩
  ·obtain⟨c,t,l,_⟩:=(h.kK.sG G).gZ (.inr (.inr ⟨s,hs,e⟩));exact⟨c,t,l⟩
  ·obtain⟨c,t,l,_⟩:=h.kK.aO.aO.act.gZ e;exact⟨c,t,l⟩
 have n1:¬((o=d.bk i\/dn (d.B i) s o)\/gK d.lm.av d.lm.ac o):=fun e=>by
  obtain⟨c,t,l⟩:=gZ o e;exact (uG h.Yb l).1 rfl
 have n2:¬((r=d.bk i\/dn (d.B i) s r)\/gK d.lm.av d.lm.ac r):=fun e=>by
  obtain⟨c,t,l⟩:=gZ r e;exact (uG h.Yb l).2 rfl
 obtain⟨m1,m2,m3,m4,m5⟩:=h.lg;have J:∀g,V.aV g=some x->g=id:=fun g Q=>by
  have P:=(h.kK.bg g x (by rw[h.aV];exact Q)).1;have a2:=(h.kK.bg id x (by rw[h.aV];exact p)).1;rw[<-P,a2]
 have K:d.om x=V.om x:=by rw[h.om id x p,if_pos (.inr rfl)]
 have nx:x∉C:=fun X=>((h.YB id x p).1 X).2.1 rfl
 refine⟨O,by rw[I,h.nt,List.flatMap_append,K];simp,by rw[List.nodup_append];exact⟨h.exn,by simp,fun a S b u e=>by rw[List.mem_singleton]at u;subst u;subst e;exact nx S⟩,fun g y f=>?_,fun j y=>(Y j y).trans (h.sl j y),fun j=>(T j).trans (h.bkE j),U,fun y f=>by rcases List.mem_append.1 f with f | f;exact h.exo y f;rw[List.mem_singleton]at f;subst f;exact⟨id,p⟩,L,m.gw,m.aV.trans h.aV,m.no.trans h.no,m.nb.trans h.nb,fun j=>(m.lV j).trans (h.lV j),fun j=>(m.PY j).trans (h.PY j),fun y=>?_,fun g y f=>?_,⟨l1.trans m1,l2.trans m2,l3.trans m3,l4.trans m4,by omega⟩,IE h.Yb kc n1 n2,h.le,fun y f=>?_,h.cn,u _ _ _ h.box (.inr (.inl rfl)),h.jW.from (k2.mono (fun y f=>h.JS y f)),h.rr⟩
 ·rw[List.mem_append,List.mem_singleton,h.YB g y f];by_cases e:y=x
  ·subst e;have k:=J g f;subst k;simp[H,D.1,D.2]
  ·have A:g≠id:=fun k=>e (by rw[k,p]at f;exact (Option.some.inj f).symm)
   have k:¬(some id=some g):=fun h=>A (Option.some.inj h).symm
   simp[k,e]
 ·rw[m.om];by_cases e:y=x
  ·rw[e,ah];exact h.oH x
  ·rw[ag _ _ e];exact h.oH y
 ·rw[m.om];by_cases e:y=x
  ·subst e;have k:=J g f;subst k;rw[ah,H,K];simp only[Bool.false_eq_true,reduceCtorEq,or_self,if_false];unfold BJ;rw[if_pos D]
  ·have A:g≠id:=fun k=>e (by rw[k,p]at f;exact (Option.some.inj f).symm)
   have k:¬(some id=some g):=fun h=>A (Option.some.inj h).symm
   rw[ag _ _ e,h.om g y f];simp only[k,or_false,reduceCtorEq]
 ·rcases R y f with e | e
  ·exact h.JS y e
  ·exact .inr (Nat.le_trans h.jW.size e)
def Px(bv bm bo:Nat)(V:aS)(M:Int)(bk:Nat->Nat)(w w':World):Prop :=
 ∃V2,dL w' bv bm bo V2/\ClV V M V2/\aj (bY bv bm bo V) w w'/\(∀x,bY bv bm bo V2 x->bY bv bm bo V x\/w.heap.size<=x)/\(∀j y,(V2.B j).sl y=(V.B j).sl y)/\(∀j,V2.bk j=V.bk j) /\
  ∃ex:List Nat,ex.Nodup/\(∀id x,V.aV id=some x->(x∈ex↔((V.om x).kind=1/\0<(V.om x).aH)))/\(∀x∈ex,VL V x)/\V2.lg.nt=ex.flatMap (fun x=>[.left x,.fV x (V.om x)])++[.closed] /\
   ∃cl,iy w' bv bk w.heap.size true (V.lm.ac.map Prod.snd) V2.lg.nt V.lm.tb V2.lm cl
theorem Ut(bv p u n:Nat)(V:aS)(M:Int)(w:World)(bk:Nat->Nat)(hbk:∀i,i<V.nb->∀y,y<2->∀l,l<(V.B i).n y->bk ((V.B i).h y l)=V.bk i)(hbs:∀i x,i<V.nb->VL V x->(V.om x).sym=(V.B i).sym->bk x=V.bk i)(R:dL w bv p u V)(g:GW V M)(hno:V.no=n)(Q:∀i,i<V.nb->(V.B i).sym.size<=100)(hM:M<=1000000000000000)(hn:n<=200)(k1:V.lg.tp.length<1000000000)(k4:V.lg.ud+V.lg.na<3000000) :
 CT 41 #[PP bv] w fun e w'=>e=.returned (.tuple #[])/\Px bv p u V M bk w w':=by
 have kx:aj aA w (w.alloc (.cells #[PP bv] 35)):=(aj.refl aA w).alloc _;have rW:=ai (L9 bv p u V.lg V.lm ⟨#[99,108,111,115,101]⟩ _ (R.aO.ax kx) (by omega) (by decide) (by decide));have UD:=au.new w #[PP bv] 35;have HR:=ai R;have lv:=R.cO.lt;have AA:∀x,w.heap.size<=x->¬(x=bv\/V.lm.F x):=by
  rintro x v (e | e)
  ·omega
  ·have:=R.aO.aO.lt e;omega
 obtain⟨abg,HKx,YR,HG,HSZ,HBS⟩:=nH AA kx UD g Q hbs;have sD:∀j,j<V.nb->∀y,y<2->∀a,ig ((V.B j).sl y)=some a->a<w.heap.size:=fun j hj y D a ha=>((R.aW j hj).side y D).lt ha
 have aa7:=ai sD;clear R AA kx UD g Q sD hbs hbk;go_enter Tryz.func41,Tryz.ntmps41;go_wp2_with fail;refine (ae rW).mono ?_;rintro e z ⟨rfl,UW,hLb,MH,kb',aar,hac⟩;have kb:aj (fun b=>b=bv\/V.lm.F b) (w.alloc (.cells #[PP bv] 35)) z:=kb'.mono (fun b h=>h.imp_right (fun h=>h.elim (fun h=>iQ h) (fun h=>.inr (.inl (.inr h)))));have HCB:Hid (iy z bv bk w.heap.size true (V.lm.ac.map Prod.snd) V.lg.begun.nt V.lm.tb UW []):=iy.begun aar hac;clear kb' aar hac;have Rb:=((ae HR).ax (ae HKx)).kM hLb kb;have VB:=kb.ay (ae YR) (ae abg _ (Nat.le_refl _));have xb:CC z w.heap.size 0 (PP bv):=VB.cell 0;have v1:CC z bv 1 (.map (some u)):=Rb.cO.cell 1;have J4:aj (fun x=>x=bv\/V.lm.F x) w z:=(ae HKx).aP.trans kb;obtain⟨fO,⟨A,hown,Q,hat,hhas⟩,hfO⟩:=Rb.fA;have hown':z.ownsMap Tryz.prog 3 jD u n A:=by rw[<-hno];exact hown
 have hsz':Maps.size A=n:=Q.trans hno;obtain⟨HRb,Yp,HKb⟩:=fK Rb VB J4;have Vw:Hid (∀x,UW.F x->V.lm.F x\/w.heap.size<=x):=fun x h=>(MH x h).imp_right (fun h=>by have:=(ae HKx).size;omega)
 obtain⟨Za,HAt,TV,HFO,Yv⟩:=mi hown' hat hhas hfO hsz';have XU:=VB.lt;clear rW hLb MH kb Rb VB J4 hown hown' hat hhas hfO Q hsz';go_wp2_with (at_range;refine wpList_range_own _ rfl _ 95 rfl 3 114 yT Tryz.underlying95 jD u n A rfl (ae Za) ?_;intro w0 hrg0 hg0 hs0;have HRg:=ai hrg0;have HG0:=ai hg0;clear hrg0 hg0);have X:aj aA z w0:=(aj.refl aA z).grown (ae HG0) (fun k e=>by simp at e);have hI:Pv bv p u n M V z.heap.size A fO bk w w0 n { V with lg:=V.lg.begun,lm:=UW } (Maps.has A) none []:=by
  refine⟨rfl,List.nodup_nil,fun id x v=>?_,fun _ _=>rfl,fun _=>rfl,⟨[],(ae HCB).ax X⟩,fun x v=>by simp at v,(ae HRb).ax X,(ae HG).Sz _ _,rfl,rfl,rfl,fun _=>rfl,fun _=>rfl,fun _=>⟨rfl,rfl,rfl,rfl⟩,fun id x v=>?_,⟨rfl,rfl,rfl,rfl,Nat.le_add_right _ _,rfl⟩,?_,fun kl h=>?_,fun y D=>?_,Nat.le_refl _,X.ay (ae Yp) idd,((ae HKb).mono (fun y h=>?_)).trans X.aP,by omega⟩
  ·have hh:Maps.has A (.int .i64 id)=true:=by
    rw[ae TV (.int .i64 id),(ae HFO) id];show (V.aV id).isSome=true;rw[v];rfl
   simp[hh]
  ·have hh:Maps.has A (.int .i64 id)=true:=by
    rw[ae TV (.int .i64 id),(ae HFO) id];show (V.aV id).isSome=true;rw[v];rfl
   rw[if_pos (.inl hh)]
  ·have:=ae HRg;rw[ae Yv]at this;exact this
  ·rw[<-ae TV kl];exact h
  ·rcases D with h | h | h | h | h | h
   ·exact .inl (.inl h)
   ·exact .inl (.inr (.inl h))
   ·exact .inl (jL h)
   ·exact .inl (iQ h)
   ·exact .inl (qo h)
   ·exact (ae Vw y h).imp_left (fun h=>vk h)
  ·rcases h with h | h
   ·exact .inl h
   ·exact vk h
 have HI:=ai hI;obtain⟨r,hr⟩:=dQ z.heap.size;rw[hr]at HI ⊢;clear hI X HCB HRg HG0 HRb Yp HKb Vw Za TV Yv v1 xb XU hr hs0 HKx YR;go_frame;go_loopg [3] n (fun kk _ wr=>∃(cnt:Nat) (d:aS) (left:Lit->Bool) (ex:List Nat),kk=cnt/\Pv bv p u n M V r A fO bk w wr cnt d left none ex)
 case atStart=>exact⟨_,_,_,_,rfl,ae HI⟩
 case round =>
  obtain⟨cnt,d,left,exs,hkk,f⟩:=hrel;have xb:CC wr w.heap.size 0 (PP bv):=f.box.cell 0;have v4:CC wr bv 4 (II V.lg.day):=by
   have:=f.kK.cO.cell 4;rw[f.lg.2.2.1]at this;exact this
  have f4:=f.kK.cO.frozen 4;obtain⟨J,Zh,Wx⟩:=fK f f.Yb f.le;clear f;go_wp2_with (at_next;refine zk rfl _ rfl u r n A left cnt fO rfl (ae Zh) (ae HAt) (ae Wx) ?_ ?_)
  ·intro hc0;have f:=ae J;have hTl:∀o,aj aA wr o->CT 73 #[PP bv,II 4,(xJ V.lg.day).val] o fun e w'=>e=.returned (.tuple #[])/\∃m',bz w' bv p u (d.lg.told 4 (xJ V.lg.day)) m'/\(∀b,m'.F b->d.lm.F b\/wr.heap.size<=b)/\aj (fun b=>b=bv\/d.lm.F b) wr w'/\w'.cell? ⟨w.heap.size,0,none⟩=some (PP bv)/\au w' w.heap.size #[PP bv] 35/\∃VD,iy w' bv bk w.heap.size true (V.lm.ac.map Prod.snd) d.lg.nt V.lm.tb m' VD:=by
    intro o kW;refine (yh bv p u d.lg d.lm 4 (xJ V.lg.day) o (f.kK.aO.ax kW) (by rw[f.lg.2.1];show V.lg.tp.length<1000000000;omega)).mono ?_;rintro e w' ⟨rfl,m',a1,a2,a3,a4,a5⟩;have T:au w' w.heap.size #[PP bv] 35:=a3.ay (kW.ay f.box idd) (by
     rintro (e | e)
     ·exact au.ne f.box f.kK.cO (by decide) e
     ·exact dC f.kK.aO.aO.fQ e f.box (by decide) rfl)
    obtain⟨cl0,U⟩:=f.cu;have hc1:iy w' bv bk w.heap.size true (V.lm.ac.map Prod.snd) d.lg.nt V.lm.tb m' cl0:=by
     have h:=((U.ax kW).aC a3 (nZ.gZ (fun y D=>by
      rcases D with e | e
      ·rw[e];exact⟨_,100,(f.kK.ax kW).cO,uF⟩
      ·obtain⟨cs,hcs⟩:=aF (f.kK.ax kW).aO.aO.fQ e;exact⟨cs,62,hcs,Au⟩))).Sv (m':=m') a4 (fun _ _ _=>a5.2)
     rw[a5.1,U.tb]at h;exact h
    refine⟨rfl,m',a1,fun b hb=>(a2 b hb).imp_right (fun h=>Nat.le_trans kW.size h),kW.aP.trans (a3.mono (fun b h=>h.imp_right (fun h=>.inr (.inl (.inl h))))),T.cell 0,T,cl0,hc1⟩
   have hdl:d.lg.day=V.lg.day:=f.lg.2.2.1;have hna':d.lg.na=V.lg.na+1:=f.lg.2.2.2.1;have aal:=f.lg.2.2.2.2;have hcn:=f.cn;have aak:V.lg.begun.nt.length=0:=rfl;simp only[Tr.val,xJ]at hTl;have HTl:=ai hTl;clear hTl f;go_wp2;go_region_held3 (fun w'=>w'.cell? ⟨w.heap.size,0,none⟩=some (PP bv)/\w'.cell? ⟨bv,4,none⟩=some (II V.lg.day)) (go_keep)
    (first | (go_at_call 73;refine (ae HTl _ ?cc).mono ?_;(case cc=>repeat (first | exact aj.refl _ _ | refine aj.drew ?_));rintro e wt ⟨rfl,lmt,t1,t2,t3,y1,tbx,clt,tcu⟩;have TBX:=ai tbx;have TCU:=ai tcu;clear tbx tcu;have y2:CC wt bv 4 (II V.lg.day):=(t1.cO.cell 4).trans (by rw[<-hdl];rfl);have ft:=t1.cO.frozen 4;have T1:=ai t1;have T2:=ai t2;have T3:=ai t3;clear t1 t2 t3))
   rename_i QD;clear QD;have S:=(ae T1).FN (wrap64 (V.lg.day+1));have HD:=ai S;have cuD:=(ae TCU).aC S.2 (nZ.gZ (fun y D=>by rw[D];exact⟨_,100,(ae T1).cO,uF⟩));have iD:bH (wt.setCell ⟨bv,4,none⟩ (II (wrap64 (V.lg.day+1)))) bv bk w.heap.size .closed (.func (.func 79) #[] #[PP w.heap.size]):=⟨_,_,rfl,rfl,w.heap.size,Nat.le_refl _,rfl,S.2.ay (ae TBX) (fun e=>au.ne (ae TBX) (ae T1).cO (by decide) e)⟩;have YD:=nV bv p u _ lmt .closed (.func 79) #[PP w.heap.size] _ bk w.heap.size true _ _ _ S.1 cuD (fun _=>rfl) iD (by show 0<d.lg.na;omega) (by show d.lg.na<=3000000;omega) (by show d.lg.nt.length+1<1000000000;omega);have es:(wt.setCell ⟨bv,4,none⟩ (II (wrap64 (V.lg.day+1)))).heap.size=wt.heap.size:=by simp[World.setCell]
   rw[es]at YD;have uS:=ai YD;clear YD es cuD iD;clear S;go_wp2_with fail;refine (ae uS).mono ?_;rintro e w5 ⟨rfl,TS,h1,h2,h3,-,h6⟩;have H6:=ai h6;clear h6;obtain⟨H1,H2,H3⟩:=fK h1 h2 h3;clear h1 h2 h3;go_wp2;go_end0;have f:=ae J;have szt:=(ae T3).size;have hFt:∀y,lmt.F y->d.lm.F y\/wr.heap.size<=y:=ae T2;have kD:aj (fun y=>y=bv\/d.lm.F y) wr (wt.setCell ⟨bv,4,none⟩ (II (wrap64 (V.lg.day+1)))):=(ae T3).trans ((ae HD).2.mono (fun y e=>.inl e));have k5:aj (fun y=>y=bv\/d.lm.F y) wr w5:=kD.from ((ae H3).mono (fun y h=>(hFt y (BA h)).imp_left .inr));have UE:∀y,TS.F y->d.lm.F y\/wr.heap.size<=y:=fun y h=>by
    rcases ae H2 y h with h | h
    ·exact hFt y h
    ·exact .inr (by omega)
   have R5:=f.kK.kM (ae H1) k5;have Hf:∀y,bY bv p u d y->bY bv p u V y\/w.heap.size<=y:=f.JS;have htr:d.lg.tr=V.lg.tr:=f.lg.1;have htp:d.lg.tp=V.lg.tp:=f.lg.2.1;have szw:=f.jW.size;have hall:∀kl,left kl=false:=by
    rcases (ae Zh).next yT 0 with⟨_,ha,_⟩ | ⟨_,_,_,_,_,_,_,_,_,_,_,_,hlt,_⟩
    ·exact ha
    ·omega
   refine⟨rfl,_,R5,⟨f.gw.Sz _ _,f.aV,f.no,f.nb,f.lV,f.PY,f.oH,fun id x v=>?_,htr,?_,rfl,hna',f.lg.2.2.2.2.2⟩,f.jW.from (k5.mono (fun y h=>?_)),fun y D=>?_,f.sl,f.bkE,exs,f.exn,fun id x v=>?_,f.exo,?_,_,ae H6⟩
   ·show d.om x=_;rw[f.om id x v,hall];simp
   ·show d.lg.tp++[⟨(d.lg.tp.length:Int)+1,4,xJ V.lg.day⟩]=_;rw[htp]
   ·rcases h with h | h
    ·exact .inl (.inl h)
    ·exact Hf y (vk h)
   ·have key:bY bv p u d y\/wr.heap.size<=y:=by
     rcases D with h | h | h | h | h | h
     ·exact .inl (.inl h)
     ·exact .inl (.inr (.inl h))
     ·exact .inl (jL h)
     ·exact .inl (iQ h)
     ·exact .inl (qo h)
     ·exact (UE y h).imp_left (fun h=>vk h)
    rcases key with h | h
    ·exact Hf y h
    ·exact .inr (by omega)
   ·rw[f.YB id x v,hall];simp
   ·show d.lg.nt++[.closed]=_;rw[f.nt]
  ·intro id x o N hlk hfx abV hlt hgr Q hen;have f:=(ae J).step hlk abV hlt hgr;have ho0:V.aV id=some x:=by rw[<-hfx];exact ((ae HFO) id).symm
   have omx:d.om x=V.om x:=by rw[f.om id x ho0,if_pos (.inr rfl)]
   obtain⟨HO0,HOM⟩:=aZ ho0 omx;clear ho0 omx hlk;have H:d.aV id=some x:=by rw[f.aV,<-hfx];exact ((ae HFO) id).symm
   obtain⟨_,ix,P⟩:=f.kK.bg id x H;have o4:CC o x 4 (II (d.om x).kind):=P.cell 4;have o8:CC o x 8 (II (d.om x).aH):=P.cell 8;by_cases G:(d.om x).kind=1/\0<(d.om x).aH
   ·obtain⟨O,hop⟩:=G;have e1:((d.om x).kind == 1)=true:=by simp[O]
    have e2:decide (0<(d.om x).aH)=true:=by simp[hop]
    obtain⟨i,s,K,hs,W,hsd⟩:=f.gw.idx ⟨id,H⟩;obtain⟨k,hk,hkb'⟩:=((f.gw.gb i K).mem s hs x).2 ⟨⟨id,H⟩,W,hsd,hop⟩;have hkb:(d.B i).h s k=x:=hkb'.symm;have hi':i<d.nb:=K;have hlen:(d.B i).sym.size<=maxLen:=by rw[f.lV i];have:=ae HSZ i (by rw[<-f.nb];exact K);unfold maxLen;omega
    have o2:o.cell? ⟨x,2,none⟩=some (.string (d.B i).sym):=by rw[<-W];exact P.cell 2
    have v0:CC o bv 0 (.map (some p)):=f.kK.cO.cell 0;have xbW:CC o w.heap.size 0 (PP bv):=f.box.cell 0;have L1:(Instr.lookup 94 (.map (some p)) (.string (d.B i).sym) false).run Tryz.prog o=.ok (PP (d.bk i)) o:=f.kK.yJ hi' hlen;have WQ:(Instr.lookup 94 (.map (some p)) (.string (d.B i).sym) false).run Tryz.prog o.drew=.ok (PP (d.bk i)) o.drew:=f.kK.KA hi' hlen 1;have hL:=fun q=>qJ (d.bk i) (d.B i) d.om (fun x=>∃id,d.aV id=some x) s k (o.drewN q) ((f.kK.ax ((aj.refl aA o).drewN q)).sG hi') hs hk (by rw[hkb];exact hsd)
    rw[hkb]at hL;have HL:=ai hL;have HC:=ai (fun (W2:World) (m:Mk W2 (d.bk i) ((d.B i).leave d.om s k) d.om (fun x=>∃id,d.aV id=some x))=>BK (d.bk i) x ((d.B i).leave d.om s k) d.om _ W2 m ⟨id,H⟩);have aal:=(ae J).lg.2.2.2.2;have hcn:=(ae J).cn;have hna':d.lg.na=V.lg.na+1:=(ae J).lg.2.2.2.1;have aak:V.lg.begun.nt.length=0:=rfl;obtain⟨cl0,U⟩:=f.cu;have T:bk x=d.bk i:=by
     rw[f.bkE i];exact ae HBS i x (by rw[<-f.nb];exact K) ⟨id,ae HO0⟩ (by rw[<-(f.oH x).1,W,f.lV i])
    have uS:=ai (BL bv p u i x s k d M id o bk w.heap.size (V.lm.ac.map Prod.snd) V.lm.tb cl0 U f.jW.size T (fun g hg=>by rw[f.sl i s]at hg;exact ae aa7 i (by rw[<-f.nb];exact K) s hs g hg) f.kK f.gw hM K hs hk hkb H (by omega) (by omega) (by omega));have Yk:∀y,(y=d.bk i\/dn (d.B i) s y)->∃c t,au o y c t/\(t=158\/t=116\/t=114):=fun y e=>(f.kK.sG hi').gZ (by
     rcases e with e | e
     ·exact .inl e
     ·exact .inr (.inr ⟨s,hs,e⟩))
    have nx:w.heap.size≠x:=au.ne f.box P (by decide);have nv:bv≠x:=au.ne f.kK.cO P (by decide);have z2:∀q w2,aj (fun y=>y=d.bk i\/dn (d.B i) s y) (o.drewN q) w2->au w2 w.heap.size #[PP bv] 35/\au w2 bv (rZ p u d.lm d.lg.day) 100:=fun q w2 k2 =>
     ⟨k2.ay (f.box.drewN q) (fun e=>by
      obtain⟨c,t,G,ht⟩:=Yk _ e;exact au.ne f.box G (by rcases ht with rfl | rfl | rfl <;> decide) rfl),k2.ay (f.kK.cO.drewN q) (fun e=>by
      obtain⟨c,t,G,ht⟩:=Yk _ e;exact au.ne f.kK.cO G (by rcases ht with rfl | rfl | rfl <;> decide) rfl)⟩
    have MK:(d.om x).sym=(d.B i).sym:=W;have HZ2:Hid (∀q w2,aj (fun y=>y=d.bk i\/dn (d.B i) s y) (o.drewN q) w2->Mk w2 (d.bk i) ((d.B i).leave d.om s k) d.om (fun x=>∃id,d.aV id=some x)->w2.cell? ⟨w.heap.size,0,none⟩=some (PP bv)/\w2.cell? ⟨bv,0,none⟩=some (.map (some p))/\w2.cell? ⟨x,2,none⟩=some (.string (d.B i).sym)):=fun q w2 C Y=>by
     obtain⟨ix2,ho2⟩:=Y.bg x ⟨id,H⟩;exact⟨(z2 q w2 C).1.cell 0,(z2 q w2 C).2.cell 0,by rw[<-MK];exact ho2.cell 2⟩
    have HZ3:Hid (∀q w2 E,aj (fun y=>y=d.bk i\/dn (d.B i) s y) (o.drewN q) w2->aj (fun y=>y=x) w2 E->Mk E (d.bk i) ((d.B i).leave d.om s k) (aK d.om x (gG (d.om x))) (fun x=>∃id,d.aV id=some x)->E.cell? ⟨w.heap.size,0,none⟩=some (PP bv)/\E.cell? ⟨bv,0,none⟩=some (.map (some p))/\E.cell? ⟨x,2,none⟩=some (.string (d.B i).sym)):=fun q w2 E C L Z=>by
     obtain⟨ix3,ho3⟩:=Z.bg x ⟨id,H⟩;rw[ah]at ho3;exact⟨(L.ay (z2 q w2 C).1 nx).cell 0,(L.ay (z2 q w2 C).2 nv).cell 0,by rw[<-MK];exact ho3.cell 2⟩
    have HZ4:Hid (∀I,jc bv p u d (ExC bv d M x bk w.heap.size (V.lm.ac.map Prod.snd) V.lm.tb) o I->Mk I (d.bk i) ((d.B i).leave d.om s k) (aK d.om x (gG (d.om x))) (fun x=>∃id,d.aV id=some x)->I.cell? ⟨w.heap.size,0,none⟩=some (PP bv)/\I.cell? ⟨bv,0,none⟩=some (.map (some p))/\I.cell? ⟨x,2,none⟩=some (.string (d.B i).sym)):=fun I r4 m4=>by
     obtain⟨V2,R2,_,_,hb,_,_⟩:=r4;obtain⟨ix4,QJ⟩:=m4.bg x ⟨id,H⟩;rw[ah]at QJ;exact⟨(hb _ _ _ f.box (.inr (.inl rfl))).cell 0,R2.cO.cell 0,by rw[<-MK];exact QJ.cell 2⟩
    have HC2:=ai f;clear f U T P hL z2 aal hcn hna' aak W hsd Yk MK nx nv hkb';go_wp2;go_region_held3 (fun w'=>w'.cell? ⟨w.heap.size,0,none⟩=some (PP bv)/\w'.cell? ⟨bv,0,none⟩=some (.map (some p))/\w'.cell? ⟨x,2,none⟩=some (.string (d.B i).sym)) (go_keep)
     (first
       | (go_at_call 66;refine (ae HL _).mono ?_;rintro e w2 ⟨fn2,cp2,rfl,f2,Y,C⟩;have F2:=ai f2;clear f2;obtain⟨y1,y2,y3⟩:=ae HZ2 _ w2 C Y;have M2:=ai Y;have C2:=ai C;clear Y C)
       | (go_at_call 78;refine (ae HC _ (ae M2)).mono ?_;rintro e E ⟨fn3,cp3,rfl,f3,Z,L⟩;have F3:=ai f3;clear f3;obtain⟨u1,u2,u3⟩:=ae HZ3 _ w2 E (ae C2) L Z;have M3:=ai Z;have C3:=ai L;clear Z L)
       | (go_at_call 53;refine (ae uS _ w2 E fn2 cp2 fn3 cp3 (ae M2) (ae C2) (ae M3) (ae C3) (ae F2) (ae F3)).mono ?_;rintro e I ⟨rfl,r4,r5,r6⟩;obtain⟨t1,t2,t3⟩:=ae HZ4 I r4 r6;have R4:=ai r4;have R5:=ai r5;clear r4 r5 r6))
    all_goals
     go_wp2;go_roundg N
     case measure=>omega
     case rel =>
      have c0:=ae J;have:=c0.lg.2.2.2.2;have:=c0.cn;obtain⟨V'',h''⟩:=(ae HC2).turn (ae HO0) (by rw[<-ae HOM];exact⟨O,hop⟩) (by simp[Lit.sameKey]) (by omega) (by omega) K hs (ae R4) (ae R5);exact⟨N,V'',_,_,rfl,h''⟩
   ·have HC2:=ai f;clear f;by_cases O:(d.om x).kind=1
    ·have e1:((d.om x).kind == 1)=true:=by simp[O]
     have e2:decide (0<(d.om x).aH)=false:=by simp;exact Int.not_lt.1 (fun h=>G ⟨O,h⟩)
     go_wp2;go_roundg N
     case measure=>omega
     case rel=>exact⟨N,d,_,_,rfl,(ae HC2).skip (ae HO0) (by rw[<-ae HOM];exact G)⟩
    ·have e1:((d.om x).kind == 1)=false:=by simp[O]
     go_wp2;go_roundg N
     case measure=>omega
     case rel=>exact⟨N,d,_,_,rfl,(ae HC2).skip (ae HO0) (by rw[<-ae HOM];exact G)⟩
open Go.RowKit
theorem di.uj{p:Nat->Nat}{V:aS}{S:RS}{N:Nat}(h:di p V S N)(s:ByteArray):jO S.sy s=true↔∃i,i<V.nb/\(V.B i).sym=s:=by
 constructor
 ·intro b;rw[jO,List.any_eq_true]at b;obtain⟨x,b,e⟩:=b;simp only[decide_eq_true_eq]at e;subst e;obtain⟨i,a⟩:=List.getElem?_of_mem b;have c:=(List.getElem?_eq_some_iff.1 a).1;rw[<-h.nb]at c;have:=h.sym i c;rw[a]at this;exact⟨i,c,(Option.some.inj this).symm⟩
 ·rintro⟨i,a,rfl⟩;exact DT (h.sym i a)
theorem below(a:Nat->Nat):∀n,∃b,∀k,k<n->a k<b
 | 0=>⟨0,fun k d=>by omega⟩
 | n+1=>by
   obtain⟨b,c⟩:=below a n;refine⟨b+a n+1,fun k d=>?_⟩;by_cases e:k=n
   ·subst e;omega
   ·have:=c k (by omega);omega
theorem di.free{p:Nat->Nat}{V:aS}{S:RS}{N:Nat}(h:di p V S N):∃b,¬VL V b:=by
 obtain⟨b,a⟩:=below p S.l.length;refine⟨b,fun d=>?_⟩;obtain⟨k,c,e⟩:=(h.vl b).1 d;have:=a k c;omega
theorem yB{l a:List Ord}(o:iR):∀n,(∀k,k<n->ak l k=ak a k)->gX l o n=gX a o n
 | 0,_=>rfl
 | n+1,h=>by
   have c:=yB o n (fun k d=>h k (by omega));unfold gX;rw[c,h n (by omega)];cases hb:gX a o n with
   | none=>rfl
   | some b =>
     have e:=sS a o n b hb;simp only;rw[h b (by omega)]
theorem di.qG{p:Nat->Nat}{V:aS}{S:RS}{N:Nat}(h:di p V S N){o:iR}{a s t:Nat}(i:a<V.nb)(hs:s<2)(F:t=1-s)(E:o.sym=(V.B a).sym)(D:o.side=(t:Int)):(dA (V.B a) V.om o s).isSome=(eP S.l o).isSome:=by
 obtain⟨b,f⟩:=h.free;have x:=h.VE i hs F E D f;have m:∀k,k<(V.B a).n s->VL V ((V.B a).h s k):=fun k d=>(((h.gw.gb a i).mem s hs _).1 ⟨k,d,rfl⟩).1
 have z:ed (fE (aK V.om b (aQ o))) ((V.B a).n s) ((V.B a).h s):=((h.gw.gb a i).heap s hs).lW (fun j k A d=>by
  have v:(V.B a).h s j≠b:=fun e=>f (e▸m j A)
  have w:(V.B a).h s k≠b:=fun e=>f (e▸m k d)
  unfold fE;rw[ag _ _ v,ag _ _ w])
 have c:=x.fJ hs z;have G:(S.fresh.add o).l=S.l++[wU o]:=rfl;rw[G]at c;rw[oC,ah]at c;have q:bI (wU o)=o:=rfl;have g:bI (aQ o)=o:=rfl;rw[q,g]at c;have r:eP (S.l++[wU o]) o=eP S.l o:=by
  unfold eP;rw[List.length_append,List.length_singleton];rw[gX];have y:fF o (ak (S.l++[wU o]) S.l.length)=false:=by rw[oC];rfl
  rw[y];simp only[Bool.false_eq_true,if_false];exact yB o _ (fun k d=>rH d)
 rw[r]at c;have u:dA (V.B a) (aK V.om b (aQ o)) o s=dA (V.B a) V.om o s:=by
  unfold dA;by_cases e:(V.B a).n s=0
  ·rw[if_pos e,if_pos e]
  ·have C:(V.B a).h s 0≠b:=fun g=>f (g▸m 0 (by omega))
   rw[if_neg e,if_neg e,ag _ _ C]
 rw[u]at c;rw[<-c];cases eP S.l o <;> rfl
def qP:List Int->Int
 | []=>0
 | x :: l=>x+qP l
theorem ui(a b:List Int):qP (a++b)=qP a+qP b:=by
 induction a with
 | nil=>simp[qP]
 | cons x l ih=>simp only[List.cons_append,qP,ih];omega
theorem DR{a b:List Int}(h:a.Perm b):qP a=qP b:=by
 induction h with
 | nil=>rfl
 | cons x _ ih=>simp only[qP,ih]
 | swap x y l=>simp only[qP];omega
 | trans _ _ h1 h2=>rw[h1,h2]
theorem OH{l₁ l₂:List Nat}(c:l₁.Nodup)(d:l₂.Nodup)(h:∀a,a∈l₁↔a∈l₂):l₁.Perm l₂:=by
 induction l₁ generalizing l₂ with
 | nil =>
   have:l₂=[]:=by
    cases l₂ with
    | nil=>rfl
    | cons x l=>exact absurd ((h x).2 (by simp)) (by simp)
   rw[this]
 | cons x l ih =>
   have i:x∈l₂:=(h x).1 (by simp);rw[List.nodup_cons]at c;have g:=List.perm_cons_erase i;refine List.Perm.trans (List.Perm.cons x (ih c.2 (d.erase x) (fun a=>?_))) g.symm;rw[d.mem_erase_iff];constructor
   ·intro b;exact⟨fun e=>c.1 (e▸b),(h a).1 (by simp[b])⟩
   ·rintro⟨f,b⟩;have:=(h a).2 b;simp only[List.mem_cons]at this;exact this.resolve_left f
def idx(l:List Ord)(sym:ByteArray)(s:Nat):List Nat:=(List.range l.length).filter (fun k=>decide ((ak l k).sym=sym/\(ak l k).side=(s:Int)/\0<(ak l k).aH))
theorem IC(n:Nat):(List.range n).Pairwise (fun a b=>a≠b/\a<n/\b<n):=by
 rw[List.pairwise_iff_getElem];intro a b c d e;simp only[List.length_range]at c d;simp only[List.getElem_range];omega
theorem zt{l:List Ord}{sym:ByteArray}{s k:Nat}:k∈idx l sym s↔(k<l.length/\(ak l k).sym=sym/\(ak l k).side=(s:Int)/\0<(ak l k).aH):=by
 unfold idx;rw[List.mem_filter,List.mem_range,decide_eq_true_eq]
theorem di.perm{p:Nat->Nat}{V:aS}{S:RS}{N:Nat}(h:di p V S N){i s:Nat}(u:i<V.nb)(hs:s<2):(upto ((V.B i).h s) ((V.B i).n s)).Perm ((idx S.l (V.B i).sym s).map p):=by
 refine OH ?_ ?_ (fun x=>?_)
 ·unfold upto;refine List.Pairwise.map _ (R:=fun a b=>a≠b/\a<(V.B i).n s/\b<(V.B i).n s) (fun a b d e=>d.1 ((h.gw.gb i u).inj s hs a b d.2.1 d.2.2 e)) (IC _)
 ·refine List.Pairwise.map _ (R:=fun a b=>a≠b/\a<S.l.length/\b<S.l.length) (fun a b d e=>d.1 (h.inj a b d.2.1 d.2.2 e)) ?_;exact List.Pairwise.filter _ (IC _)
 ·constructor
  ·intro g;unfold upto at g;rw[List.mem_map]at g;obtain⟨k,r,rfl⟩:=g;rw[List.mem_range]at r;obtain⟨a,b,c,t⟩:=((h.gw.gb i u).mem s hs _).1 ⟨k,r,rfl⟩;obtain⟨j,f,e⟩:=(h.vl _).1 a;obtain⟨_,_,m,o,_,_,_,_,q,_⟩:=fC (h.same j f);rw[e]at m o q;rw[List.mem_map];exact⟨j,zt.2 ⟨f,by rw[<-m];exact b,by rw[<-o];exact c,by rw[<-q];exact t⟩,e⟩
  ·intro g;rw[List.mem_map]at g;obtain⟨j,f,rfl⟩:=g;obtain⟨f,b,c,t⟩:=zt.1 f;obtain⟨_,_,m,o,_,_,_,_,q,_⟩:=fC (h.same j f);obtain⟨k,r,e⟩:=((h.gw.gb i u).mem s hs (p j)).2 ⟨(h.vl _).2 ⟨j,f,rfl⟩,by rw[m];exact b,by rw[o];exact c,by rw[q];exact t⟩;unfold upto;rw[List.mem_map];exact⟨k,List.mem_range.2 r,e.symm⟩
def KJ(o:iR)(x:Ord):Int:=if x.aG≠o.aG/\iC o.kind o.side o.af x.af=true then x.aH else 0
theorem Jf(om:Nat->Ord)(h:Nat->Nat)(o:iR):∀n,vZ om h o n=qP ((upto h n).map (fun x=>KJ o (om x)))
 | 0=>rfl
 | n+1=>by
   rw[vZ,Jf om h o n];unfold upto;rw[List.range_succ,List.map_append,List.map_append,ui];simp only[List.map_cons,List.map_nil,qP,KJ];omega
theorem Ip(l:List Ord)(o:iR)(s:Nat)(hs:s<2)(q:o.side=1-(s:Int))(f:∀k,k<l.length->(ak l k).side=0\/(ak l k).side=1)(e:∀k,k<l.length->0<=(ak l k).aH):∀n,n<=l.length->kY l o n=qP (((List.range n).filter (fun k=>decide ((ak l k).sym=o.sym/\(ak l k).side=(s:Int)/\0<(ak l k).aH))).map (fun k=>KJ o (ak l k)))
 | 0,_=>rfl
 | n+1,hn=>by
   rw[kY,Ip l o s hs q f e n (by omega),List.range_succ,List.filter_append,List.map_append,ui];congr 1;have u:=f n (by omega);have v:=e n (by omega);unfold fF;by_cases c1:(ak l n).sym=o.sym/\(ak l n).side=(s:Int)/\0<(ak l n).aH
   ·obtain⟨a,b,c⟩:=c1;have m:¬(ak l n).side=o.side:=by omega
    have p:¬(ak l n).aH=0:=by omega
    rw[List.filter_cons_of_pos (by simp[a,b,c])];simp only[List.filter_nil,List.map_cons,List.map_nil,qP,KJ,Int.add_zero];simp only[Bool.and_eq_true,Bool.not_eq_true',beq_eq_false_iff_ne,ne_eq,decide_eq_true_eq,a,m,p,not_false_eq_true,true_and,and_true];by_cases g:iC o.kind o.side o.af (ak l n).af=true <;> by_cases i:(ak l n).aG=o.aG <;> simp[g,i]
   ·rw[List.filter_cons_of_neg (by simpa using c1)];simp only[List.filter_nil,List.map_nil,qP];rw[if_neg];rintro⟨d,_⟩;simp only[Bool.and_eq_true,Bool.not_eq_true',beq_eq_false_iff_ne,ne_eq,decide_eq_true_eq]at d;obtain⟨⟨⟨r,j⟩,t⟩,_⟩:=d;exact c1 ⟨j,by omega,by omega⟩
theorem di.whole{p:Nat->Nat}{V:aS}{S:RS}{N:Nat}(h:di p V S N){o:iR}{b s t:Nat}(f:b<V.nb)(hs:s<2)(j:t=1-s)(g:o.sym=(V.B b).sym)(i:o.side=(t:Int)):vZ V.om ((V.B b).h s) o ((V.B b).n s)=kY S.l o S.l.length:=by
 rw[Jf,Ip S.l o s hs (by omega) (fun k a=>h.side a) (fun k a=>(h.aH a).1) _ (Nat.le_refl _),DR (List.Perm.map _ (h.perm f hs)),List.map_map,g];have:∀k∈idx S.l (V.B b).sym s,((fun x=>KJ o (V.om x))∘p) k=KJ o (ak S.l k):=fun k a=>by
  obtain⟨_,c,_,_,_,d,_,_,e,_⟩:=fC (h.same k (zt.1 a).1);simp only[Function.comp,KJ,c,d,e]
 rw[List.map_congr_left this]
 rfl
def yQ(s:Int)(p q:Int):Prop:=if s=0 then q<p else p<q
theorem pX(s p:Int):¬yQ s p p:=by unfold yQ;split <;> omega
theorem Ul{s p q:Int}(h:¬yQ s p q)(a:p≠q):yQ s q p:=by unfold yQ at *;split at h <;> split <;> omega
theorem CO{s p q r:Int}(h:yQ s p q)(k:yQ s q r):yQ s p r:=by unfold yQ at *;split at h <;> split at k <;> (try split) <;> omega
theorem PV{s p q:Int}(h:yQ s p q):¬yQ s q p:=by unfold yQ at *;split at h <;> split <;> omega
def po(o:Ord):Int × Int:=(o.af,o.aH)
def qs(p:Int)(L:List (Int × Int)):Int:=qP ((L.filter (fun x=>decide (x.1=p))).map (·.2))
def cn(p:Int)(L:List (Int × Int)):Int:=((L.filter (fun x=>decide (x.1=p))).length:Int)
theorem oD(p:Int)(b:List (Int × Int))(a:Int × Int):qs p (b++[a])=qs p b+(if a.1=p then a.2 else 0):=by
 unfold qs;rw[List.filter_append,List.map_append,ui];congr 1;by_cases h:a.1=p <;> simp[h,qP]
theorem oh(p:Int)(b:List (Int × Int))(a:Int × Int):cn p (b++[a])=cn p b+(if a.1=p then 1 else 0):=by
 unfold cn;rw[List.filter_append,List.length_append];by_cases h:a.1=p <;> simp[h]
theorem wX{p:Int}{b:List (Int × Int)}(h:∀a∈b,a.1≠p):qs p b=0/\cn p b=0:=by
 have:b.filter (fun x=>decide (x.1=p))=[]:=by
  rw[List.filter_eq_nil_iff];intro a c
  simpa using h a c
 unfold qs cn;rw[this];exact⟨rfl,rfl⟩
theorem Vd(p:Int){a L':List (Int × Int)}(h:a.Perm L'):qs p a=qs p L'/\cn p a=cn p L':=by
 unfold qs cn;have:=h.filter (fun x=>decide (x.1=p));exact⟨DR (this.map _),by rw[this.length_eq]⟩
theorem aaM(p:Int)(b:List (Int × Int))(h:∀a∈b,0<=a.2/\a.2<=1000000000000000):0<=qs p b/\qs p b<=b.length * 1000000000000000/\0<=cn p b/\cn p b<=b.length:=by
 induction b with
 | nil=>simp[qs,cn,qP]
 | cons a b ih =>
   have g:=h a (by simp);have i:=ih (fun x f=>h x (by simp[f]));by_cases e:a.1=p
   ·have c:qs p (a :: b)=a.2+qs p b:=by unfold qs;rw[List.filter_cons_of_pos (by simpa using e)];rfl
    have d:cn p (a :: b)=cn p b+1:=by unfold cn;rw[List.filter_cons_of_pos (by simpa using e)];simp
    rw[c,d,List.length_cons];push_cast;omega
   ·have c:qs p (a :: b)=qs p b:=by unfold qs;rw[List.filter_cons_of_neg (by simpa using e)]
    have d:cn p (a :: b)=cn p b:=by unfold cn;rw[List.filter_cons_of_neg (by simpa using e)]
    rw[c,d,List.length_cons];push_cast;omega
theorem Qd{p:Int}{b:List (Int × Int)}(h:0<cn p b):∃a∈b,a.1=p:=by
 by_cases h0:∀a∈b,a.1≠p
 ·rw[(wX h0).2]at h;omega
 ·simp only[ne_eq,Classical.not_forall,Classical.not_not,not_imp]at h0;obtain⟨a,c,e⟩:=h0;exact⟨a,c,e⟩
structure Zv(s:Int)(A:List (Int × Int))(ls:List iT):Prop where
 ord:ls.Pairwise (fun a b=>yQ s a.af b.af)
 val:∀l∈ls,l.az=qs l.af A/\l.num=cn l.af A/\0<l.num
 all:∀a∈A,∃l∈ls,l.af=a.1
theorem UZ(s:Int)(os:List Ord)(N:os.length<=1000)(v:∀o∈os,0<=o.aH/\o.aH<=1000000000000000)(hs:os.Pairwise (fun a b=>¬yQ s b.af a.af)) :
 Zv s (os.map po) (je os):=by
 have H:∀(A B:List Ord) (i:List iT),A++B=os->Zv s (A.map po) i->(∀l,i.getLast?=some l->∃o,A.getLast?=some o/\o.af=l.af)->(i=[]->A=[])->Zv s (os.map po) (B.foldl jK i):=by
  intro A B
  induction B generalizing A with
  | nil=>intro i e h _ _;rw[List.append_nil]at e;subst e;exact h
  | cons o B ih =>
    intro i e h S O;have u:(A++[o])++B=os:=by rw[<-e];simp
    rw[List.foldl_cons];have K:∀x∈A,¬yQ s o.af x.af:=by
     intro x c;rw[<-u,List.append_assoc,List.pairwise_append]at hs;exact hs.2.2 x c o (by simp)
    have T:=v o (by rw[<-e];simp);have M:∀a∈A.map po,0<=a.2/\a.2<=1000000000000000:=by
     intro a d;rw[List.mem_map]at d;obtain⟨x,c,rfl⟩:=d;exact v x (by rw[<-e];simp[c])
    have R:(A.map po).length<=1000:=by rw[List.length_map];rw[<-e,List.length_append]at N;omega
    have p:(A++[o]).map po=A.map po++[(o.af,o.aH)]:=by simp[po]
    have L:∀l∈i,¬yQ s o.af l.af:=by
     intro l f;obtain⟨_,I,J⟩:=h.val l f;obtain⟨a,d,F⟩:=Qd (by rw[<-I];exact J);rw[List.mem_map]at d;obtain⟨x,c,rfl⟩:=d;have:=K x c;rw[<-F];exact this
    refine ih (A++[o]) (jK i o) u ?_ ?_ ?_
    ·rcases List.eq_nil_or_concat i with rfl | ⟨ini,l,k⟩
     ·have:A=[]:=O rfl;subst this;refine⟨by simp[jK],fun l f=>?_,fun a d=>?_⟩
      ·simp only[jK,List.getLast?_nil,List.mem_singleton]at f;subst f;simp only[List.nil_append,List.map_cons,List.map_nil];have D:=oD o.af [] (po o);have E:=oh o.af [] (po o);rw[List.nil_append]at D E;rw[D,E];refine⟨?_,?_,by decide⟩
       ·rw[aU (by omega) (by omega)];simp[po,qs,qP]
       ·simp[po,cn]
      ·simp only[List.nil_append,List.map_cons,List.map_nil,List.mem_singleton]at d;subst d;exact⟨⟨o.af,wrap64 o.aH,1⟩,by simp[jK],rfl⟩
     ·rw[List.concat_eq_append]at k;subst k;have C:=h.val l (by simp);have z:=h.ord;rw[List.pairwise_append]at z;obtain⟨P,_,t⟩:=z;have U:=aaM l.af (A.map po) M;by_cases g:l.af=o.af
      ·rw[qc _ _ _ g];have Q:wrap64 (l.az+o.aH)=qs l.af (A.map po)+o.aH:=by rw[C.1];exact aU (by omega) (by omega)
       have w2:wrap64 (l.num+1)=cn l.af (A.map po)+1:=by rw[C.2.1];exact aU (by omega) (by omega)
       refine⟨?_,fun x c=>?_,fun a d=>?_⟩
       ·rw[List.pairwise_append];exact⟨P,List.pairwise_singleton _ _,fun a d b m=>by rw[List.mem_singleton]at m;subst m;exact t a d l (by simp)⟩
       ·rw[List.mem_append,List.mem_singleton]at c;rw[p];rcases c with c | c
        ·have n:¬o.af=x.af:=fun j=>by
          have:=t x c l (by simp);rw[<-j,<-g]at this;exact pX _ _ this
         have:=h.val x (by simp[c]);rw[oD,oh,if_neg n,if_neg n,Int.add_zero,Int.add_zero];exact this
        ·subst c;simp only;rw[oD,oh,if_pos g.symm,if_pos g.symm];exact⟨Q,w2,by rw[w2];omega⟩
       ·rw[p,List.mem_append,List.mem_singleton]at d;rcases d with d | d
        ·obtain⟨x,c,j⟩:=h.all a d;rw[List.mem_append,List.mem_singleton]at c;rcases c with c | c
         ·exact⟨x,by simp[c],j⟩
         ·subst c;exact⟨⟨x.af,wrap64 (x.az+o.aH),wrap64 (x.num+1)⟩,by simp,j⟩
        ·subst d;exact⟨⟨l.af,wrap64 (l.az+o.aH),wrap64 (l.num+1)⟩,by simp,g⟩
      ·rw[oz _ _ _ g];have w:yQ s l.af o.af:=Ul (L l (by simp)) (fun x=>g x.symm);have q:∀x∈ini++[l],yQ s x.af o.af:=by
        intro x c;rw[List.mem_append,List.mem_singleton]at c;rcases c with c | c
        ·exact CO (t x c l (by simp)) w
        ·rw[c];exact w
       have y:∀a∈A.map po,a.1≠o.af:=by
        intro a d j;obtain⟨x,c,G⟩:=h.all a d;have:=q x c;rw[G,j]at this;exact pX _ _ this
       refine⟨?_,fun x c=>?_,fun a d=>?_⟩
       ·rw[List.pairwise_append];exact⟨h.ord,List.pairwise_singleton _ _,fun a d b m=>by rw[List.mem_singleton]at m;subst m;exact q a d⟩
       ·rw[List.mem_append,List.mem_singleton]at c;rw[p];rcases c with c | c
        ·have n:¬o.af=x.af:=fun j=>by
          have:=q x c;rw[<-j]at this;exact pX _ _ this
         rw[oD,oh,if_neg n,if_neg n,Int.add_zero,Int.add_zero];exact h.val x c
        ·subst c;simp only;rw[oD,oh,if_pos rfl,if_pos rfl,(wX y).1,(wX y).2];refine⟨?_,rfl,by decide⟩;rw[aU (by omega) (by omega)];simp
       ·rw[p,List.mem_append,List.mem_singleton]at d;rcases d with d | d
        ·obtain⟨x,c,j⟩:=h.all a d;exact⟨x,by rw[List.mem_append];exact .inl c,j⟩
        ·subst d;exact⟨⟨o.af,wrap64 o.aH,1⟩,by simp,rfl⟩
    ·intro l f;refine⟨o,by simp,?_⟩;rcases List.eq_nil_or_concat i with rfl | ⟨ini,r,k⟩
     ·simp[jK]at f;rw[<-f]
     ·rw[List.concat_eq_append]at k;subst k;by_cases g:r.af=o.af
      ·rw[qc _ _ _ g]at f;simp at f;rw[<-f];exact g.symm
      ·rw[oz _ _ _ g]at f;simp at f;rw[<-f]
    ·intro c;exfalso;rcases List.eq_nil_or_concat i with rfl | ⟨ini,r,k⟩
     ·simp[jK]at c
     ·rw[List.concat_eq_append]at k;subst k;by_cases g:r.af=o.af
      ·rw[qc _ _ _ g]at c;simp at c
      ·rw[oz _ _ _ g]at c;simp at c
 exact H [] os [] rfl ⟨List.Pairwise.nil,fun l f=>absurd f (by simp),fun a d=>absurd d (by simp)⟩ (fun l f=>by simp at f) (fun _=>rfl)
theorem zg(s:ByteArray)(id j:Int)(sym:ByteArray)(side i af az a b c:Int)(w:World)(l:qh a)  :
 CT 139 #[.agg #[.int .u8 98,.string s,II id,II j,.string sym,II side,II i,II af,II az,II a,II b,II c,.bool true]] w fun e w'=>e=.returned (.string (((⟨#[98,117,115,116,32]⟩:ByteArray)++(jR a))++(⟨#[32,49]⟩:ByteArray)))/\aj aA w w':=by
 obtain⟨d,g⟩:=gy (w.alloc (.cells #[.int .u8 98,.string s,II id,II j,.string sym,II side,II i,II af,II az,II a,II b,II c,.bool true] 169));have o:aj aA w d:=by rw[g];exact (aj.refl aA w).alloc _
 have f:au d w.heap.size #[.int .u8 98,.string s,II id,II j,.string sym,II side,II i,II af,II az,II a,II b,II c,.bool true] 169:=by rw[g];exact au.new _ _ _
 have B:=dH a l;have r:Hid (∀n,qh n->∀k,aj aA d k->CT 173 #[II n] k fun e w'=>e=.returned (.string (jR n))/\aj aA d w'):=fun n h=>pM n h d
 have c0:=gu (P:=Tryz.prog) (⟨#[98,117,115,116,32]⟩:ByteArray) (jR a) (by (repeat rw[ByteArray.size_append]);show 5+(jR a).size<=1000000;omega);have c1:=gu (P:=Tryz.prog) ((⟨#[98,117,115,116,32]⟩:ByteArray)++(jR a)) (⟨#[32,49]⟩:ByteArray) (by (repeat rw[ByteArray.size_append]);show (5+(jR a).size)+2<=1000000;omega);obtain⟨H,hH⟩:=dQ w.heap.size;rw[hH]at f;have y:CC d H 0 (.int .u8 98):=f.cell 0;have A:CC d H 9 (II a):=f.cell 9;have z:CC d H 12 (.bool true):=f.cell 12;have v:H<d.heap.size:=f.lt;obtain⟨p,t⟩:=aZ o g;have u:Hid (aj aA d d):=aj.refl _ _;clear o g f;go_enter Tryz.func139,Tryz.ntmps139;go_wp2_with (go_at_call 173;(try rw[<-ae t]);refine (ae r _ l _ (ae u)).mono ?_;rintro e x ⟨rfl,m⟩;have q:=ai m;clear m);go_ret;exact⟨rfl,(ae p).trans (ae q)⟩
theorem yf(s:ByteArray)(id j:Int)(sym:ByteArray)(side i af az a b c:Int)(w:World)(l:qh a)  :
 CT 139 #[.agg #[.int .u8 98,.string s,II id,II j,.string sym,II side,II i,II af,II az,II a,II b,II c,.bool false]] w fun e w'=>e=.returned (.string (((⟨#[98,117,115,116,32]⟩:ByteArray)++(jR a))++(⟨#[32,48]⟩:ByteArray)))/\aj aA w w':=by
 obtain⟨d,g⟩:=gy (w.alloc (.cells #[.int .u8 98,.string s,II id,II j,.string sym,II side,II i,II af,II az,II a,II b,II c,.bool false] 169));have o:aj aA w d:=by rw[g];exact (aj.refl aA w).alloc _
 have f:au d w.heap.size #[.int .u8 98,.string s,II id,II j,.string sym,II side,II i,II af,II az,II a,II b,II c,.bool false] 169:=by rw[g];exact au.new _ _ _
 have B:=dH a l;have r:Hid (∀n,qh n->∀k,aj aA d k->CT 173 #[II n] k fun e w'=>e=.returned (.string (jR n))/\aj aA d w'):=fun n h=>pM n h d
 have c0:=gu (P:=Tryz.prog) (⟨#[98,117,115,116,32]⟩:ByteArray) (jR a) (by (repeat rw[ByteArray.size_append]);show 5+(jR a).size<=1000000;omega);have c1:=gu (P:=Tryz.prog) ((⟨#[98,117,115,116,32]⟩:ByteArray)++(jR a)) (⟨#[32,48]⟩:ByteArray) (by (repeat rw[ByteArray.size_append]);show (5+(jR a).size)+2<=1000000;omega);obtain⟨H,hH⟩:=dQ w.heap.size;rw[hH]at f;have y:CC d H 0 (.int .u8 98):=f.cell 0;have A:CC d H 9 (II a):=f.cell 9;have z:CC d H 12 (.bool false):=f.cell 12;have v:H<d.heap.size:=f.lt;obtain⟨p,t⟩:=aZ o g;have u:Hid (aj aA d d):=aj.refl _ _;clear o g f;go_enter Tryz.func139,Tryz.ntmps139;go_wp2_with (go_at_call 173;(try rw[<-ae t]);refine (ae r _ l _ (ae u)).mono ?_;rintro e x ⟨rfl,m⟩;have q:=ai m;clear m);go_ret;exact⟨rfl,(ae p).trans (ae q)⟩
theorem Cc(s:ByteArray)(id k:Int)(sym:ByteArray)(side j af az a b c:Int)(again:Bool)(w:World)(o:qh a)(q:qh b)  :
 CT 139 #[.agg #[.int .u8 107,.string s,II id,II k,.string sym,II side,II j,II af,II az,II a,II b,II c,.bool again]] w fun e w'=>e=.returned (.string ((((⟨#[99,111,114,114,101,99,116,32]⟩:ByteArray)++(jR a))++(⟨#[32]⟩:ByteArray))++(jR b)))/\aj aA w w':=by
 obtain⟨d,i⟩:=gy (w.alloc (.cells #[.int .u8 107,.string s,II id,II k,.string sym,II side,II j,II af,II az,II a,II b,II c,.bool again] 169));have r:aj aA w d:=by rw[i];exact (aj.refl aA w).alloc _
 have f:au d w.heap.size #[.int .u8 107,.string s,II id,II k,.string sym,II side,II j,II af,II az,II a,II b,II c,.bool again] 169:=by rw[i];exact au.new _ _ _
 have G:=dH a o;have I:=dH b q;have u:Hid (∀n,qh n->∀m,aj aA d m->CT 173 #[II n] m fun e w'=>e=.returned (.string (jR n))/\aj aA d w'):=fun n h=>pM n h d
 have c0:=gu (P:=Tryz.prog) (⟨#[99,111,114,114,101,99,116,32]⟩:ByteArray) (jR a) (by (repeat rw[ByteArray.size_append]);show 8+(jR a).size<=1000000;omega);have c1:=gu (P:=Tryz.prog) ((⟨#[99,111,114,114,101,99,116,32]⟩:ByteArray)++(jR a)) (⟨#[32]⟩:ByteArray) (by (repeat rw[ByteArray.size_append]);show (8+(jR a).size)+1<=1000000;omega);have z:=gu (P:=Tryz.prog) (((⟨#[99,111,114,114,101,99,116,32]⟩:ByteArray)++(jR a))++(⟨#[32]⟩:ByteArray)) (jR b) (by (repeat rw[ByteArray.size_append]);show ((8+(jR a).size)+1)+(jR b).size<=1000000;omega);obtain⟨H,hH⟩:=dQ w.heap.size;rw[hH]at f;have D:CC d H 0 (.int .u8 107):=f.cell 0;have y:CC d H 9 (II a):=f.cell 9;have x:CC d H 10 (II b):=f.cell 10;have B:H<d.heap.size:=f.lt;obtain⟨t,v⟩:=aZ r i;have A:Hid (aj aA d d):=aj.refl _ _;clear r i f;go_enter Tryz.func139,Tryz.ntmps139;go_wp2;rw[<-ae v];go_region_held3 (fun w'=>w'.cell? ⟨H,9,none⟩=some (II a)/\w'.cell? ⟨H,10,none⟩=some (II b)) (go_keep)
  (first
    | (go_at_call 173;refine (ae u _ ?b _ ?cc).mono ?_;(case b=>first | exact o | exact q);(case cc=>repeat (first | exact ae l | exact aj.refl _ _ | refine aj.drew ?_ | refine aj.alloc ?_ _));rintro e C ⟨rfl,g⟩;have F:=g.cell (p:=⟨H,9,none⟩) y idd;have E:=g.cell (p:=⟨H,10,none⟩) x idd;have l:=ai g;clear g))
 all_goals
  go_wp2;go_ret;exact⟨rfl,(ae t).trans (by repeat (first | exact ae l | refine aj.drew ?_ | refine aj.drewN ?_ _))⟩
end Go.Proofs.YtigaphnafnpfnaaGreatDoor
