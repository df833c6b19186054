import Derived.Test.YtigaphnafnpfnaaGreatDoorQVV7
import Derived.Test.YtigaphnafnpfnaaGreatDoorQVU1
set_option linter.unusedVariables false
set_option linter.unusedSimpArgs false
set_option maxHeartbeats 8000000
set_option maxRecDepth 100000
namespace Go.Proofs.YtigaphnafnpfnaaGreatDoor
open Go.RowKit Go.Maps
attribute [local go_sem ↓] Go.wp_at_zero Go.wp_at_succ
theorem oQ(bv c d:Nat)(G:Lg)(m:Lm)(line:ByteArray)(w:World)(o:bz w bv c d G m)(r:G.ud+G.na<3000000)(h0:0<line.size)(q:line.size<=290) :
 ∀a,aj aA w a->CT 51 #[PP bv,.string line] a fun e w'=>e=.returned (.tuple #[]) /\
  ∃m',bz w' bv c d G.begun m'/\(∀b,m'.F b->m.F b\/w.heap.size<=b)/\aj (fun b=>b=bv\/m.F b) w w'/\(m'.tb=m.tb/\m'.tv=m.tv)/\aj (fun b=>b=bv\/m.av.ownBlock=some b\/m.jv.ownBlock=some b) w w'/\m'.ac.map Prod.snd=m.ac.map Prod.snd++[[]]:=by
 intro a k;refine (L9 bv c d G m line a (o.ax k) r h0 q).mono ?_;rintro e w' ⟨rfl,m',g,i,j,l,n⟩;have f:aj (fun b=>b=bv\/m.av.ownBlock=some b\/m.jv.ownBlock=some b) w w':=k.aP.trans j;exact⟨rfl,m',g,fun b p=>(i b p).imp_right (fun h=>Nat.le_trans k.size h),f.mono (fun b h=>h.imp_right (fun h=>h.elim (fun h=>iQ h) (fun h=>.inr (.inl (.inr h))))),l,f,n⟩
theorem iy.begun{w:World}{bv:Nat}{bk:Nat->Nat}{lo:Nat}{q:Bool}{G:Lg}{m m':Lm}(e:m'.tb=m.tb/\m'.tv=m.tv)(d:m'.ac.map Prod.snd=m.ac.map Prod.snd++[[]]):iy w bv bk lo q (m.ac.map Prod.snd) G.begun.nt m.tb m' []:=by
 refine⟨e.1,d,rfl,fun b a=>?_,fun j b c a=>?_,fun b a=>?_⟩
 ·simp[Lg.begun]at a
 ·simp[Lg.begun]at a
 ·simp[Lg.begun]at a
def D9(bv bm bo:Nat)(G:Lg)(lm:Lm)(bk:Nat->Nat)(q:Bool)(ds:List dU)(w w':World):Prop :=
 ∃bG,bz w' bv bm bo (G.begun.aY ds) bG/\(∀x,bG.F x->lm.F x\/w.heap.size<=x)/\∃cl,iy w' bv bk w.heap.size q (lm.ac.map Prod.snd) (G.begun.aY ds).nt lm.tb bG cl
theorem P8(bv f t i s k:Nat)(V:aS)(id:Int)(w:World)(bk:Nat->Nat)(hbk:bk ((V.B i).h s k)=V.bk i)(R:dL w bv f t V)(hT:qj w)(hid:(Lit.int .i64 id).wf=true)(r:i<V.nb)(hs:s<2)(hk:k<(V.B i).n s)(C:V.aV id=some ((V.B i).h s k))(h0:(V.om ((V.B i).h s k)).aH≠0)
 (hside:(V.om ((V.B i).h s k)).side=(s:Int)) (mf:(V.om ((V.B i).h s k)).sym=(V.B i).sym) (hlen:(V.B i).sym.size<=maxLen) (hna:V.lg.ud+V.lg.na<3000000) :
 CT 37 #[PP bv,II id] w fun e w'=>e=.returned (II 0) /\
  Mk w' (V.bk i) ((V.B i).leave V.om s k) (aK V.om ((V.B i).h s k) (fZ (V.om ((V.B i).h s k)))) (fun x=>∃id,V.aV id=some x)/\D9 bv f t V.lg V.lm bk true [.left ((V.B i).h s k),.fV ((V.B i).h s k) (V.om ((V.B i).h s k))] w w'/\aj (fun x=>x=bv\/V.lm.F x\/x=V.bk i\/dn (V.B i) s x) w w':=by
 have J:=R.ve hid;rw[C]at J;simp only[ja]at J;obtain⟨_,ix,y⟩:=R.bg id _ C;have o8:CC w ((V.B i).h s k) 8 (II (V.om ((V.B i).h s k)).aH):=y.cell 8;have e0:((V.om ((V.B i).h s k)).aH == 0)=false:=by simp[h0]
 have v1:CC w bv 1 (.map (some t)):=R.cO.cell 1;have v:=rG ⟨#[99,97,110,99,101,108]⟩ (fun _=>id) 1 w hT (by decide) (by decide) (by omega) (fun _ _=>bounds_i64 hid);generalize iJ (fun _=>id) ⟨#[99,97,110,99,101,108]⟩ 1=ln at v;obtain⟨Q,T⟩:=aZ (oQ bv f t V.lg V.lm ln w R.aO hna v.1.1 v.1.2) v.2;clear v;obtain⟨I,u,W,U⟩:=gY R C mf hside;clear R C y h0 mf hside;go_enter Tryz.func37,Tryz.ntmps37;go_wp2_with fail;refine (ae T _ ((aj.refl aA w).alloc _) _ _ (fun i r=>by obtain rfl:i=0:=(by omega);exact (au.new w _ _).cell 0)).mono ?_;rintro e wl ⟨rfl,kl⟩;have S:=ai kl;clear kl;go_wp2_with fail;refine (ae Q _ (ae S)).mono ?_;rintro e a ⟨rfl,H,O,N,G,htb,-,Z⟩;clear T S;clear J o8 e0 v1;have d:=(ae I).kM O G;have hnb:({ V with lg:=V.lg.begun,lm:=H }:aS).aV id=some ((V.B i).h s k):=ae u;obtain⟨_,ix,y⟩:=d.bg id _ hnb;have o2:a.cell? ⟨(V.B i).h s k,2,none⟩=some (.string (V.B i).sym):=by rw[<-ae W];exact au.cell y 2
 have v0:CC a bv 0 (.map (some f)):=d.cO.cell 0;have L1:(Instr.lookup 94 (.map (some f)) (.string (V.B i).sym) false).run Tryz.prog a=.ok (PP (V.bk i)) a:=d.yJ r hlen;have WQ:(Instr.lookup 94 (.map (some f)) (.string (V.B i).sym) false).run Tryz.prog a.drew=.ok (PP (V.bk i)) a.drew:=d.KA r hlen 1;have HL:=ai (fun q=>qJ (V.bk i) (V.B i) V.om (fun x=>∃id,V.aV id=some x) s k (a.drewN q) ((d.ax ((aj.refl aA a).drewN q)).sG r) hs hk (ae U));have HC:=ai (fun (X:World) (m:Mk X (V.bk i) ((V.B i).leave V.om s k) V.om (fun x=>∃id,V.aV id=some x))=>ni (V.bk i) ((V.B i).h s k) ((V.B i).leave V.om s k) V.om _ X m ⟨id,ae u⟩);have uS:Hid (∀q w2 c l j p o,Mk w2 (V.bk i) ((V.B i).leave V.om s k) V.om (fun x=>∃id,V.aV id=some x)->aj (fun x=>x=V.bk i\/dn (V.B i) s x) (a.drewN q) w2->Mk c (V.bk i) ((V.B i).leave V.om s k) (aK V.om ((V.B i).h s k) (fZ (V.om ((V.B i).h s k)))) (fun x=>∃id,V.aV id=some x)->aj (fun x=>x=(V.B i).h s k) w2 c->jr w2 (V.bk i) ((V.B i).h s k) (a.drewN q).heap.size l j->jT c ((V.B i).h s k) (V.om ((V.B i).h s k)) w2.heap.size p o ->
  CT 53 #[PP bv,.slice (some ⟨c.heap.size,0,none⟩) 2 2] (c.alloc (.cells #[.func l #[] j,.func p #[] o] 1)) fun e w'=>e=.returned (.tuple #[]) /\
   Mk w' (V.bk i) ((V.B i).leave V.om s k) (aK V.om ((V.B i).h s k) (fZ (V.om ((V.B i).h s k)))) (fun x=>∃id,V.aV id=some x)/\D9 bv f t V.lg V.lm bk true [.left ((V.B i).h s k),.fV ((V.B i).h s k) (V.om ((V.B i).h s k))] w w'/\aj (fun x=>x=bv\/V.lm.F x\/x=V.bk i\/dn (V.B i) s x) w w'):=by
  intro q w2 c l j p o z D P E L M;have h2:=(O.ax ((aj.refl aA a).drewN q)).jG D (fun x h=>((d.ax ((aj.refl aA a).drewN q)).sG r).gZ (by
   rcases h with h | h
   ·exact .inl h
   ·exact .inr (.inr ⟨s,hs,h⟩)))
  have Y:=h2.jG E (fun x h=>by subst h;exact z.gZ (.inr (.inl ⟨id,ae u⟩)));have A:aj aA a (a.drewN q):=(aj.refl aA a).drewN q;have mb:=(d.ax A).sG r;have xy:∀g,ig ((V.B i).sl s)=some g->g<w.heap.size:=fun g hg=>(((ae I).aW i r).side s hs).lt hg
  have cb:iy a bv bk w.heap.size true (V.lm.ac.map Prod.snd) V.lg.begun.nt V.lm.tb H []:=iy.begun htb Z;have o2:nZ (a.drewN q) w.heap.size true (fun x=>x=V.bk i\/dn (V.B i) s x):=uf mb hs xy;have o3:nZ w2 w.heap.size true (fun x=>x=(V.B i).h s k):=jQ z ⟨id,ae u⟩;have K:=((cb.ax A).aC D o2).aC E o3;have szb:=G.size;have i2:bH w2 bv bk w.heap.size (.left ((V.B i).h s k)) (.func l #[] j):=⟨_,_,rfl,by
   show jr w2 (bk ((V.B i).h s k)) ((V.B i).h s k) _ l j;rw[hbk];exact L.mono (by have:=A.size;omega)⟩
  have i2':=i2.aC (q:=true) (fun _=>rfl) E o3;have i3:bH c bv bk w.heap.size (.fV ((V.B i).h s k) (V.om ((V.B i).h s k))) (.func p #[] o):=⟨_,_,rfl,M.mono (by have:=A.size;have:=D.size;omega)⟩;refine (vP bv f t _ H (.left ((V.B i).h s k)) (.fV ((V.B i).h s k) (V.om ((V.B i).h s k))) l p j o c bk w.heap.size true _ _ _ Y K (fun _=>rfl) (fun _=>rfl) i2' i3 (by show 0<V.lg.na+1;omega) (by show V.lg.na+1<=3000000;omega) (by show 0+2<1000000000;omega)).mono ?_;rintro e w' ⟨rfl,bG,a1,a2,a3',-,a5⟩;have a3:aj (fun x=>H.F x) c w':=a3'.mono (fun b h=>BA h);have kb':aj (fun x=>x=bv\/V.lm.F x\/x=V.bk i\/dn (V.B i) s x) w a:=G.mono (fun x h=>h.imp_right .inl);have Ht:=(kb'.drewN q).trans ((D.mono (fun x h=>.inr (.inr h))).trans (E.mono (fun x h=>xA ⟨k,hk,h⟩)));refine⟨rfl,P.jw Y (a3.mono (fun _ h=>.inr h)),⟨bG,a1,fun x hx=>?_,_,a5⟩,Ht.from (a3.mono (fun x h=>(N x h).imp_left (fun h=>.inr (.inl h))))⟩;rcases a2 x hx with h | h
  ·exact N x h
  ·exact .inr (Nat.le_trans Ht.size h)
 clear y hnb d O N G htb Z Q I W U u;go_wp2;go_region_with (first | (go_at_call 66;refine (ae HL _).mono ?_;rintro e w2 ⟨l,j,rfl,L,z,c2⟩) | (go_at_call 67;refine (ae HC _ z).mono ?_;rintro e c ⟨p,o,rfl,M,P,K⟩) | (go_at_call 53;refine (ae uS _ w2 c l j p o z c2 P K L M).mono ?_;rintro e w4 ⟨rfl,r4⟩))
 all_goals
  go_wp2;go_ret;exact⟨rfl,r4⟩
open Go.RowKit
theorem Rz(b H:Nat)(o p:Ord)(f:Int)(w:World)(c:bV w b p f)(a:xE w H b o) :
 CT 151 #[dh (H+1),dh H] w fun e w'=>e=.returned (.tuple #[])/\bV w' b { o with place:=p.place } f/\aj (fun x=>x=b) w w':=by
 have O:CC w H 0 (PP b):=a.box.cell 0;obtain⟨c0,c1,r,s,t,c5,u,c7,c8,c9,n,q⟩:=a.fV.c12;have hH:=a.fV.lt;obtain⟨z,A,D,E,F,G,I,J,K,L,B,C⟩:=c.c12;have y:∀i,w.frozen? ⟨b,i,none⟩=false:=fun i=>c.frozen i
 have M:H+1≠b:=au.ne a.fV c (by decide);have N:H≠b:=au.ne a.box c (by decide);obtain⟨g,m⟩:=aZ c a;clear c a;simp only[dh];go_enter Tryz.func151,Tryz.ntmps151;go_wp2;go_end0;refine⟨rfl,?_,?_⟩
 ·have h:=ae g;unfold bV at h ⊢;have d:=au.set (au.set (au.set (au.set (au.set (au.set (au.set (au.set (au.set (au.set (au.set (au.set h 0 (II o.id)) 1 (II o.aG)) 2 (.string o.sym)) 3 (II o.side)) 4 (II o.kind)) 5 (II o.af)) 6 (II o.az)) 7 (II o.entered)) 8 (II o.aH)) 9 (II o.filled)) 10 (II o.aX)) 11 (II o.exp);simp only[Ord.cells,List.setIfInBounds_toArray,List.set_cons_zero,List.set_cons_succ]at d ⊢;exact d
 ·have l:=aj.refl (fun x=>x=b) w;have k:=fun (j:World) (h:aj (fun x=>x=b) w j) (i:Nat) (v:Value)=>h.setCell (p:=⟨b,i,none⟩) (.inl rfl) v
  exact k _ (k _ (k _ (k _ (k _ (k _ (k _ (k _ (k _ (k _ (k _ (k _ l _ _) _ _) _ _) _ _) _ _) _ _) _ _) _ _) _ _) _ _) _ _) _ _
theorem Mk.X7{w:World}{a:Nat}{B:Bk}{om:Nat->Ord}{c:Nat->Prop}(m:Mk w a B om c)(v:Int):Mk (w.setCell ⟨a,3,none⟩ (II v)) a { B with places:=v } om c:=by
 have k:aj (fun x=>x=a) w (w.setCell ⟨a,3,none⟩ (II v)):=(aj.refl (fun x=>x=a) w).setCell (p:=⟨a,3,none⟩) (.inl rfl) _;refine⟨⟨m.aW.ay.set 3 _,fun s hs=>(m.aW.side s hs).aC k (fun b h e=>by subst e;exact m.aW.L8 hs h),m.aW.apart,m.aW.vI⟩,fun b f=>?_,m.mem⟩;obtain⟨g,d⟩:=m.bg b f;exact⟨g,k.ay d (fun e=>au.ne d m.aW.ay (by decide) e)⟩
theorem Mk.push{w w':World}{d a s g cap':Nat}{B:Bk}{om:Nat->Ord}{f:Nat->Prop}(m:Mk w d B om f)(hs:s<2)(y:f a)(q:bM w' d (B.push om s a g cap') om)(x:aj (fun b=>b=d\/b=a\/dn B s b) w w'):Mk w' d (B.push om s a g cap') om f:=by
 have u:∀b,Mem (B.n s) (B.h s) b\/b=a->∃p,bV w' b (om b) p:=by
  intro b l;obtain⟨k,c,e⟩:=(jf (lt:=fE om) (B.h s) a b).2 l;have:=(q.side s hs).bg (i:=k) (by simp only[Bk.push,ah];exact c);simp only[Bk.push,ah]at this;rw[<-e]at this;exact⟨k,this⟩
 refine⟨q,fun b l=>?_,fun t v k c=>?_⟩
 ·by_cases e:b=a
  ·exact u b (.inr e)
  ·by_cases r:Mem (B.n s) (B.h s) b
   ·exact u b (.inl r)
   ·obtain⟨p,o⟩:=m.bg b l;refine⟨p,x.ay o ?_⟩;rintro (rfl | h | h | h)
    ·exact au.ne o m.aW.ay (by decide) rfl
    ·exact e h
    ·exact (m.aW.side s hs).ne o (by decide) h
    ·exact r h
 ·by_cases e:t=s
  ·subst e;simp only[Bk.push,ah]at c ⊢;rcases (jf (lt:=fE om) (B.h t) a _).1 ⟨k,c,rfl⟩ with⟨k',z,j⟩ | j
   ·rw[j];exact m.mem t v k' z
   ·rw[j];exact y
  ·simp only[Bk.push,ag _ _ e]at c ⊢;exact m.mem t v k c
theorem UR(c a s H:Nat)(B:Bk)(om:Nat->Ord)(d:Nat->Prop)(w:World)(m:Mk w c B om d)(j:d a)(f:wB w H c a)(hs:s<2)(x:(om a).side=(s:Int))(v:∀t,t<2->∀k,k<B.n t->B.h t k≠a)(u:B.n s<1000) :
 CT 117 #[dh H,dh (H+1)] w fun e w'=>e=.returned (.tuple #[])/\∃g cap',Mk w' c (B.push om s a g cap') om d/\aj (fun b=>b=c\/b=a\/dn B s b) w w'/\(ig (B.sl s)=some g\/w.heap.size<=g):=by
 obtain⟨y,l⟩:=m.bg a j;have o:=ai (CQ c a s B om y w m.aW l hs x v u);have A:CC w H 0 (PP c):=f.aW.cell 0;have C:CC w (H+1) 0 (PP a):=f.ord.cell 0;have p:=ai m;clear m l f;simp only[dh];go_enter Tryz.func117,Tryz.ntmps117;go_wp2_with fail;refine (ae o).mono ?_;rintro e z ⟨rfl,g,cap',q,i,r⟩;go_wp2;go_end0;exact⟨rfl,g,cap',(ae p).push hs j q i,i,r⟩
def Bk.kU(B:Bk)(om:Nat->Ord)(s i:Nat):Bk:={ B.leave om s i with places:=wrap64 (B.places-1) }
theorem FB(a s i H:Nat)(p:Int)(B:Bk)(om:Nat->Ord)(q:Nat->Prop)(w:World)(m:Mk w a B om q)(hs:s<2)(v:i<B.n s)(d:wE w H a (B.h s i) p)(O:(om (B.h s i)).side=(s:Int))(I:ig (B.sl s)≠some (H+1)) :
 CT 153 #[dh H,dh (H+1),dh (H+2)] w fun e w'=>e=.returned (.tuple #[]) /\
  Mk w' a (B.kU om s i) (aK om (B.h s i) { om (B.h s i) with place:=p }) q/\aj (fun b=>b=a\/dn B s b) w w':=by
 obtain⟨f,y⟩:=gy (B.h s i);have D:=ai (yC a B om s i w m.aW hs v O);rw[<-y]at d D ⊢;have G:q f:=y▸m.mem s hs i v;have x0:CC w H 0 (PP a):=d.vS.aW.cell 0;have x1:CC w (H+1) 0 (PP f):=d.vS.ord.cell 0;have lo:=d.vS.aW.lt;obtain⟨W,C⟩:=m.bg f G;have X:¬H=f:=au.ne d.vS.aW C (by decide);have Y:¬H=a:=au.ne d.vS.aW m.aW.ay (by decide);have Z:¬H+1=f:=au.ne d.vS.ord C (by decide);have n3:¬H+1=a:=au.ne d.vS.ord m.aW.ay (by decide);have z:∀x c t,au w x c t->t≠158->t≠116->¬(ig (B.sl s)=some x)->¬(x=a\/dn B s x):=by
  rintro x c t u j r l (e | e | ⟨k,N,e⟩)
  ·rw[e]at u;exact au.ne u m.aW.ay j rfl
  ·exact l e
  ·rw[e]at u;exact au.ne u ((m.aW.side s hs).bg N) r rfl
 have M:Hid (∀g,aj (fun b=>b=a\/dn B s b) w g->g.cell? ⟨H,0,none⟩=some (PP a)/\g.cell? ⟨H+1,0,none⟩=some (PP f)/\g.cell? ⟨H+2,0,none⟩=some (II p)):=fun g k =>
  ⟨(k.ay d.vS.aW (z _ _ _ d.vS.aW (by decide) (by decide) ((m.aW.side s hs).ne d.vS.aW (by decide)))).cell 0,(k.ay d.vS.ord (z _ _ _ d.vS.ord (by decide) (by decide) I)).cell 0,(k.ay d.place (z _ _ _ d.place (by decide) (by decide) ((m.aW.side s hs).ne d.place (by decide)))).cell 0⟩
 obtain⟨F,K⟩:=aZ y m;clear m d z y C lo I;simp only[dh];go_enter Tryz.func153,Tryz.ntmps153;go_wp2_with fail;refine (ae D).mono ?_;rintro e g ⟨rfl,j,r,l⟩;obtain⟨y0,y1,y2⟩:=ae M g l;have m1:Mk g a (B.leave om s i) om q:=(ae K).leave hs v j (by rw[<-ae F];exact r) l;obtain⟨V,o⟩:=m1.bg f G;have XY:CC g f 12 (II (om f).place):=au.cell o 12;have R:=au.frozen o 12;have Q:CC g a 3 (II B.places):=j.ay.cell 3;have S:=j.ay.frozen 3;have A:f≠a:=au.ne o j.ay (by decide);have T:¬f=a:=A;have U:¬a=f:=fun e=>A e.symm
 obtain⟨L,E⟩:=aZ m1 o;clear m1 o j r A;go_wp2;go_end0;have J:aj (fun x=>x=f) g (g.setCell ⟨f,12,none⟩ (II p)):=(aj.refl (fun x=>x=f) g).setCell (p:=⟨f,12,none⟩) (.inl rfl) _;have P:=(ae L).aK (o':={ om f with place:=p }) (ae E) J (au.set (ae E) 12 (II p));refine⟨rfl,P.X7 (wrap64 (B.places-1)),l.trans ((J.mono (fun x e=>.inr (.inr ⟨i,v,e.trans (ae F)⟩))).setCell (p:=⟨a,3,none⟩) (.inl (.inl rfl)) _)⟩
open Go.RowKit Go.Maps Go.Lib
theorem SK{s a:ByteArray}(h:sl s=sl a):s=a:=by
 simp only[sl,Lit.string.injEq]at h;exact ByteArray.ext (Array.ext' h)
def aS.bU(V:aS)(s:ByteArray)(b:Nat)(bG:Lm):aS:={ V.list s b with lg:=V.lg.begun.aY [.bU s],lm:=bG }
end Go.Proofs.YtigaphnafnpfnaaGreatDoor
