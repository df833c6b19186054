import Derived.Test.YtigaphnafnpfnaaGreatDoorQVX10
set_option linter.unusedVariables false
set_option linter.unusedSimpArgs false
set_option maxHeartbeats 8000000
set_option maxRecDepth 100000
namespace Go.Proofs.YtigaphnafnpfnaaGreatDoor
open Go.RowKit
attribute [local go_sem ↓] Go.wp_at_zero Go.wp_at_succ
structure bD where
 kind:Int
 s:ByteArray
 o:iR
 a:Int
 b:Int
 c:Int
 again:Bool
def bD.cells(x:bD):Array Value:=#[.int .u8 x.kind,.string x.s,II x.o.id,II x.o.aG,.string x.o.sym,II x.o.side,II x.o.kind,II x.o.af,II x.o.az,II x.a,II x.b,II x.c,.bool x.again]
def bD.val(x:bD):Value:=.agg x.cells
theorem Fv(tmps:Array Value)(H:Nat)(w:World)(a b c f e d:Int)(g:tmps.getD 4 undef=PP H)(i:tmps.getD 5 undef=II d)(m:au w H #[II a,II b,II c,II f,II e] 87) :
 (results Tryz.f170 tmps).run Tryz.prog w=.ok (.tuple #[dm a b c f e,II d]) w:=by
 obtain⟨c0,c1,j,k,l⟩:=m.c5;simp only[Array.getD_eq_getD_getElem?]at g i;simp[results,Tryz.results170,go_sem,g,i,c0,c1,j,k,l,dm]
theorem wZ(base f:Nat)(S:RS)(m:SM)(x:bD)(w:World)(h:dF w base f S m)(o:S.l.length<=1000)(i:gp S.l x.a≠0) :
 CT 170 #[PP f,x.val] w fun e w'=>e=.returned (.tuple #[dm 0 0 0 0 0,II (gp S.l x.a)])/\aj aA w w':=by
 have g:Hid (∀d,aj aA w d->CT 169 #[PP f,II x.a] d fun e w'=>e=.returned (.tuple #[II (oi (iU S.l x.a)),II (gp S.l x.a)])/\w'=d):=fun d k=>oM base f S m x.a d (h.ax k) o
 obtain⟨j,n⟩:=dQ (gp S.l x.a);rw[n]at g i ⊢;have p:(j == 0)=false:=by simpa using i
 have r:=h.ay.lt;clear h n i o;obtain⟨q,s,⟨id,u,sym,side,t,af,az⟩,a,b,c,again⟩:=x;simp only[bD.val,bD.cells]at g ⊢;go_enter Tryz.func170,Tryz.ntmps170;go_wp2_with (first | (go_at_call 169;refine (ae g _ ?cc).mono ?_;(case cc=>exact ((aj.refl _ _).alloc _).alloc _);rintro e w' ⟨rfl,rfl⟩));refine bodyPost_ret (Fv _ (w.heap.size+1) _ 0 0 0 0 0 j rfl rfl ?_) rfl ⟨rfl,?_⟩
 ·exact au.qm w _ _ 87
 ·exact ((aj.refl _ _).alloc _).alloc _
theorem A8(base f:Nat)(S:RS)(m:SM)(x:bD)(w:World)(h:dF w base f S m)(o:S.l.length<=1000)(j:gp S.l x.a=0)(g:cZ x.b=false\/cZ x.c=false) :
 CT 170 #[PP f,x.val] w fun e w'=>e=.returned (.tuple #[dm 0 0 0 0 0,II 4])/\aj aA w w':=by
 have i:Hid (∀d,aj aA w d->CT 169 #[PP f,II x.a] d fun e w'=>e=.returned (.tuple #[II (oi (iU S.l x.a)),II 0])/\w'=d):=fun d k=>by
  have:=oM base f S m x.a d (h.ax k) o;rw[j]at this;exact this
 have q:Hid (∀n w,CT 198 #[II n] w fun e w'=>e=.returned (.bool (cZ n))/\w'=w):=lQ;have u:=h.ay.lt;have p:cZ x.b=false\/(cZ x.b=true/\cZ x.c=false):=by
  cases h1:cZ x.b
  ·exact .inl rfl
  ·right;rw[h1]at g;simpa using g
 clear h j o g;obtain⟨t,s,⟨id,y,sym,side,v,af,az⟩,a,b,c,again⟩:=x;simp only[bD.val,bD.cells]at i p ⊢;rcases p with r | ⟨r,z⟩
 all_goals
  go_enter Tryz.func170,Tryz.ntmps170;go_wp2_with (first
   | (go_at_call 169;refine (ae i _ ?cc).mono ?_;(case cc=>exact ((aj.refl _ _).alloc _).alloc _);rintro e w' ⟨rfl,rfl⟩)
   | (go_at_call 198;refine (ae q _ _).mono ?_;rintro e w' ⟨rfl,rfl⟩))
  refine bodyPost_ret (Fv _ (w.heap.size+1) _ 0 0 0 0 0 4 rfl rfl ?_) rfl ⟨rfl,?_⟩
  ·exact au.qm w _ _ 87
  ·exact ((aj.refl _ _).alloc _).alloc _
theorem iZ.off{base g:Nat}{S':RS}{m:SM}{w d i:World}(h:iZ base g S' m w d){r:Nat}{c:Array Value}(a:au d r c 87)(s:w.heap.size<=r)(k:aj (fun b=>b=r) d i):iZ base g S' m w i:=by
 obtain⟨m',p,q,o⟩:=h;have nb:∀b,SF g m' b->¬b=r:=fun b l e=>by subst e;exact p.ne a (by decide) l
 have f:∀{e size n:Nat} {v:Value} {j:List Value},d.ownsRow base e size v n j->(∀b,v.ownBlock=some b->SF g m' b)->i.ownsRow base e size v n j:=fun r hs=>aB r k (fun b a=>nb b (hs b a))
 exact⟨m',⟨p.ge,k.ay p.ay (nb _ (.inl rfl)),f p.mZ (fun b a=>.inr (.inl a)),f p.dV (fun b a=>jL a),f p.dJ (fun b a=>iQ a),f p.lZ (fun b a=>xA a)⟩,q,o.from (k.mono (fun b a=>.inr (by omega)))⟩
theorem qE{d:World}{r:Nat}(a b c f e:Value):aj (fun x=>x=r) d (((((d.setCell ⟨r,0,none⟩ a).setCell ⟨r,1,none⟩ b).setCell ⟨r,2,none⟩ c).setCell ⟨r,3,none⟩ f).setCell ⟨r,4,none⟩ e) :=
 (((((aj.refl (fun x=>x=r) d).setCell (p:=⟨r,0,none⟩) (.inl rfl) _).setCell (p:=⟨r,1,none⟩) (.inl rfl) _).setCell (p:=⟨r,2,none⟩) (.inl rfl) _).setCell (p:=⟨r,3,none⟩) (.inl rfl) _).setCell (p:=⟨r,4,none⟩) (.inl rfl) _
theorem uh{d:World}{r:Nat}(h:au d r bC 87)(a b c f e:Value):au (((((d.setCell ⟨r,0,none⟩ a).setCell ⟨r,1,none⟩ b).setCell ⟨r,2,none⟩ c).setCell ⟨r,3,none⟩ f).setCell ⟨r,4,none⟩ e) r #[a,b,c,f,e] 87:=((((h.set 0 _).set 1 _).set 2 _).set 3 _).set 4 _
def Lh(o:Ord)(c:Int):Ord:={ o with entered:=wrap64 (wrap64 (o.entered+c)-o.aH),aH:=c }
def yc(o:Ord)(b c:Int):Ord:={ o with entered:=wrap64 (wrap64 (o.entered+c)-o.aH),aH:=0,af:=b }
theorem Ci(base f k:Nat)(S:RS)(m:SM)(x:bD)(w:World)(h:dF w base f S m)(I:S.l.length<=1000)(r:iU S.l x.a=some k)(J:(ak S.l k).aH≠0)(A:cZ x.b=true)(P:cZ x.c=true)(v:x.b=(ak S.l k).af)(y:x.c<=(ak S.l k).aH) :
 CT 170 #[PP f,x.val] w fun e w'=>e=.returned (.tuple #[dm 0 x.c 0 0 0,II 0])/\iZ base f (S.dN k (Lh (ak S.l k) x.c)) m w w':=by
 have H:gp S.l x.a=0:=by unfold gp;rw[r];simp[J]
 have D:Hid (∀d,aj aA w d->CT 169 #[PP f,II x.a] d fun e w'=>e=.returned (.tuple #[II (k:Int),II 0])/\w'=d):=fun d T=>by
  have:=oM base f S m x.a d (h.ax T) I;rw[H,r]at this;exact this
 have L:Hid (∀n w,CT 198 #[II n] w fun e w'=>e=.returned (.bool (cZ n))/\w'=w):=lQ;obtain⟨N,z⟩:=dQ S.l.length;have p:=(jC r).1;have C:k<N:=by rw[<-z];exact p
 obtain⟨g,cc,v1,t,hsg,lg,Q,q,B⟩:=h.SG z (by omega);have Z:CC w g (k * 13+5) (II (ak S.l k).af):=q k C 5 _ rfl;have y7:CC w g (k * 13+7) (II (ak S.l k).entered):=q k C 7 _ rfl;have y8:CC w g (k * 13+8) (II (ak S.l k).aH):=q k C 8 _ rfl;have f7:=B (k * 13+7);have f8:=B (k * 13+8);have MP:=h.ay.lt;have n1:¬k * 13+8=k * 13+7:=by omega
 have O:g≠w.heap.size:=by omega
 have M:g≠w.heap.size+1:=by omega
 have gz':=O.symm;have G:=M.symm;have lg1:g<w.heap.size+1:=by omega
 have ES:f<w.heap.size+1:=by omega
 have hlN:N<=1000:=by omega
 obtain⟨o,u⟩:=dQ (ak S.l k);have E:Hid (∀d,aj aA w d->iZ base f (S.dN k (Lh o x.c)) m w ((d.setCell ⟨g,k * 13+7,none⟩ (II (wrap64 (wrap64 (o.entered+x.c)-o.aH)))).setCell ⟨g,k * 13+8,none⟩ (II x.c))):=by
  intro d kW;obtain⟨W,X⟩:=(h.ax kW).iW t p (j:=7) (by omega) (II (wrap64 (wrap64 (o.entered+x.c)-o.aH))) { o with entered:=wrap64 (wrap64 (o.entered+x.c)-o.aH) } (by rw[u];rfl);obtain⟨K,Y⟩:=W.iW (i:=k) (by simp only[List.length_set];exact t) (by simp only[List.length_set];exact p) (j:=8) (by omega) (II x.c) (Lh o x.c) (by simp only;rw[dB p];rfl);simp only[List.set_set]at K;exact⟨m,K,fun b A=>.inl A,(kW.aP.trans X).trans Y⟩
 obtain⟨HS,TG,TY⟩:=fK h t p;rw[u]at Z y7 y8 v y ⊢;have HOO:=ai u;obtain⟨R,s,⟨id,V,sym,side,U,af,az⟩,a,b,c,again⟩:=x;simp only[bD.val,bD.cells]at D A P v y E ⊢;have e1:(b == o.af)=true:=by simp[v]
 have e2:decide (c<=o.aH)=true:=by simpa using y
 clear h r J H z p t Q q B v y u I;go_enter Tryz.func170,Tryz.ntmps170;go_wp2_with (first
  | (go_at_call 169;refine (ae D _ ?cc).mono ?_;(case cc=>exact ((aj.refl _ _).alloc _).alloc _);rintro e w' ⟨rfl,rfl⟩)
  | (go_at_call 198;refine (ae L _ _).mono ?_;rintro e w' ⟨rfl,rfl⟩))
 go_quiet (fail);go_wp2;go_region;go_wp2;have F:au (((((w.alloc (.cells #[.int .u8 R,.string s,II id,II V,.string sym,II side,II U,II af,II az,II a,II b,II c,.bool again] 169)).alloc (.cells bC 87)).drewN (nq+1)).setCell ⟨g,k * 13+7,none⟩ (II (wrap64 (wrap64 (o.entered+c)-o.aH)))).setCell ⟨g,k * 13+8,none⟩ (II c)) (w.heap.size+1) bC 87 :=
  (((au.qm w _ bC 87).drewN _).other (a:=⟨g,k * 13+7,none⟩) G _).other (a:=⟨g,k * 13+8,none⟩) G _
 refine bodyPost_ret (Fv _ (w.heap.size+1) _ 0 c 0 0 0 0 rfl rfl ?_) rfl ⟨rfl,?_⟩
 ·exact uh F _ _ _ _ _
 ·exact (ae E _ ((((aj.refl _ _).alloc _).alloc _).drewN _)).off F (by omega) (qE _ _ _ _ _)
theorem wY(i:Nat)(c:RC):∃b r n a k,IK i c=dm b r n a k:=by
 unfold IK;split
 ·exact⟨_,_,_,_,_,rfl⟩
 ·split <;> exact⟨_,_,_,_,_,rfl⟩
theorem iZ.zL{base d:Nat}{S S':RS}{m:SM}{w a:World}(h:iZ base d S' m w a)(h0:dF w base d S m){r:Nat}{c:Array Value}{t:TypeId}(b:au w r c t)(e:t≠207/\t≠9/\t≠212/\t≠210/\t≠62):au a r c t:=by
 obtain⟨m',p,q,f⟩:=h;exact f.ay b (h0.ne b e)
theorem Cf(base p k v:Nat)(S:RS)(m:SM)(x:bD)(q:RC)(w:World)(h:dF w base p S m)(X:S.l.length<=1000)(A:iU S.l x.a=some k)(Y:(ak S.l k).aH≠0)(G:cZ x.b=true)(hc:cZ x.c=true)(L:¬(x.b=(ak S.l k).af/\x.c<=(ak S.l k).aH))
 (E:uJ k v ⟨S.dN k (yc (ak S.l k) x.b x.c),x.c,0,0,0⟩ q) (ht:S.t.length+v<1000000000) (hto:S.told.length+v<1000000000) :
 CT 170 #[PP p,x.val] w fun e w'=>e=.returned (.tuple #[IK k q,II 0])/\iZ base p (qV k q) m w w':=by
 have W:gp S.l x.a=0:=by unfold gp;rw[A];simp[Y]
 have R:Hid (∀d,aj aA w d->CT 169 #[PP p,II x.a] d fun e w'=>e=.returned (.tuple #[II (k:Int),II 0])/\w'=d):=fun d kk=>by
  have:=oM base p S m x.a d (h.ax kk) X;rw[W,A]at this;exact this
 have HN:Hid (∀n w,CT 198 #[II n] w fun e w'=>e=.returned (.bool (cZ n))/\w'=w):=lQ;obtain⟨N,F⟩:=dQ S.l.length;have r:=(jC A).1;have H:k<N:=by rw[<-F];exact r
 obtain⟨g,cc,v1,B,hsg,lg,Ae,y,z⟩:=h.SG F (by omega);have y5:CC w g (k * 13+5) (II (ak S.l k).af):=y k H 5 _ rfl;have y7:CC w g (k * 13+7) (II (ak S.l k).entered):=y k H 7 _ rfl;have y8:CC w g (k * 13+8) (II (ak S.l k).aH):=y k H 8 _ rfl;have f5:=z (k * 13+5);have f7:=z (k * 13+7);have f8:=z (k * 13+8);have MP:=h.ay.lt;have n1:¬k * 13+8=k * 13+7:=by omega
 have n2:¬k * 13+5=k * 13+7:=by omega
 have n3:¬k * 13+5=k * 13+8:=by omega
 have gz:g≠w.heap.size:=by omega
 have gr:g≠w.heap.size+1:=by omega
 have gz':=gz.symm;have D:=gr.symm;have lg1:g<w.heap.size+1:=by omega
 have ES:p<w.heap.size+1:=by omega
 have hlN:N<=1000:=by omega
 obtain⟨o,J⟩:=dQ (ak S.l k);rw[J]at y5 y7 y8 L E;have T:Hid (∀d,aj aA w d->dF (((d.setCell ⟨g,k * 13+7,none⟩ (II (wrap64 (wrap64 (o.entered+x.c)-o.aH)))).setCell ⟨g,k * 13+8,none⟩ (II 0)).setCell ⟨g,k * 13+5,none⟩ (II x.b)) base p (S.dN k (yc o x.b x.c)) m/\aj (SF p m) w (((d.setCell ⟨g,k * 13+7,none⟩ (II (wrap64 (wrap64 (o.entered+x.c)-o.aH)))).setCell ⟨g,k * 13+8,none⟩ (II 0)).setCell ⟨g,k * 13+5,none⟩ (II x.b))):=by
  intro d kW;obtain⟨p1,q1⟩:=(h.ax kW).iW B r (j:=7) (by omega) (II (wrap64 (wrap64 (o.entered+x.c)-o.aH))) { o with entered:=wrap64 (wrap64 (o.entered+x.c)-o.aH) } (by rw[J];rfl);obtain⟨p2,q2⟩:=p1.iW (i:=k) (by simp only[List.length_set];exact B) (by simp only[List.length_set];exact r) (j:=8) (by omega) (II 0) { o with entered:=wrap64 (wrap64 (o.entered+x.c)-o.aH),aH:=0 } (by simp only;rw[dB r];rfl);obtain⟨C,O⟩:=p2.iW (i:=k) (by simp only[List.length_set];exact B) (by simp only[List.length_set];exact r) (j:=5) (by omega) (II x.b) (yc o x.b x.c) (by simp only;rw[dB (by simp only[List.length_set];exact r)];rfl);simp only[List.set_set]at C;exact⟨C,((kW.aP.trans q1).trans q2).trans O⟩
 have u:Hid (∀d,dF d base p (S.dN k (yc o x.b x.c)) m->CT 168 #[PP p,II (k:Int),II x.c] d fun e w'=>e=.returned (IK k q)/\iZ base p (qV k q) m d w'):=fun d hW=>Dz base p k v _ m x.c q d hW (by simp only[RS.dN,List.length_set];omega) (by simp only[RS.dN,List.length_set];exact r) E ht hto
 obtain⟨rf,rr,rn,ra,rk,Z⟩:=wY k q;rw[Z]at u ⊢;simp only[dm]at u;have HS:=ai h;have V:((x.b == o.af)=false)\/((x.b == o.af)=true/\decide (x.c<=o.aH)=false):=by
  by_cases K:x.b=o.af
  ·right;exact⟨by simp[K],by have:=fun h=>L ⟨K,h⟩;simpa using this⟩
  ·left;simpa using K
 obtain⟨kind,s,⟨id,aG,sym,side,iK,af,az⟩,a,b,c,again⟩:=x;simp only[bD.val,bD.cells]at R G hc V T u ⊢;clear h A Y W F r B Ae y z L J X E Z;rcases V with e1 | ⟨e1,e2⟩
 all_goals
  go_enter Tryz.func170,Tryz.ntmps170;go_wp2_with (first
   | (go_at_call 169;refine (ae R _ ?cc).mono ?_;(case cc=>exact ((aj.refl _ _).alloc _).alloc _);rintro e w' ⟨rfl,rfl⟩)
   | (go_at_call 198;refine (ae HN _ _).mono ?_;rintro e w' ⟨rfl,rfl⟩))
  go_quiet (fail);go_wp2;go_region;go_wp2_with fail;obtain⟨M,P⟩:=ae T _ ((((aj.refl aA w).alloc (.cells #[.int .u8 kind,.string s,II id,II aG,.string sym,II side,II iK,II af,II az,II a,II b,II c,.bool again] 169)).alloc (.cells bC 87)).drewN (nq+1));have U:=((((au.qm w (.cells #[.int .u8 kind,.string s,II id,II aG,.string sym,II side,II iK,II af,II az,II a,II b,II c,.bool again] 169) bC 87).drewN (nq+1)).other (a:=⟨g,k * 13+7,none⟩) D (II (wrap64 (wrap64 (o.entered+c)-o.aH)))).other (a:=⟨g,k * 13+8,none⟩) D (II 0)).other (a:=⟨g,k * 13+5,none⟩) D (II b);refine (ae u _ M).mono ?_;rintro e w3 ⟨rfl,I⟩;have f:=I.zL M U (by decide);have HN3:Hid (iZ base p (qV k q) m w w3):=by
   obtain⟨m3,C,O,k3⟩:=I;refine⟨m3,C,fun b G=>(O b G).imp_right (fun h=>Nat.le_trans P.size h),P.trans k3⟩
  have z0:=f.cell 0;have z1:=f.cell 1;have z2:=f.cell 2;have z3:=f.cell 3;have z4:=f.cell 4;simp[bC]at z0 z1 z2 z3 z4;have fz0:=f.frozen 0;have Qw:=f.frozen 1;have Qx:=f.frozen 2;have fz3:=f.frozen 3;have Qy:=f.frozen 4;have l3:=f.lt;have Q:=ai f;clear M P U I f;go_wp2;refine bodyPost_ret (Fv _ (w.heap.size+1) _ rf rr rn ra rk 0 rfl rfl ?_) rfl ⟨rfl,?_⟩
  ·exact (uh (ae Q) _ _ _ _ _).alloc _
  ·exact ((ae HN3).off (ae Q) (by omega) (qE _ _ _ _ _)).ext ((aj.refl _ _).alloc _)
def RS.fresh(S:RS):RS:={ S with told:=[] }
def SM.fresh(m:SM):SM:={ m with ov:=.slice none 0 0 }
theorem dF.fresh{w:World}{base a:Nat}{S:RS}{m:SM}(h:dF w base a S m):dF (w.setCell ⟨a,5,none⟩ (.slice none 0 0)) base a S.fresh m.fresh/\aj (SF a m) w (w.setCell ⟨a,5,none⟩ (.slice none 0 0))/\∀b,SF a m.fresh b->SF a m b:=by
 have k:aj (fun b=>b=a) w (w.setCell ⟨a,5,none⟩ (.slice none 0 0)):=(aj.refl (fun b=>b=a) w).setCell (p:=⟨a,5,none⟩) (.inl rfl) _;have ty:∀e,e≠207->∀b,b=a->∃c f,au w b c f/\f≠e:=fun e g b d=>by subst d;exact⟨_,_,h.ay,fun x=>g x.symm⟩
 refine⟨⟨h.ge,h.ay.set 5 _,bK (t:=0) h.mZ k (ty _ (by decide)),bK (t:=0) h.dV k (ty _ (by decide)),bK (t:=0) h.dJ k (ty _ (by decide)),World.ownsRow_nil _ _ _ _⟩,k.mono (fun b d=>.inl d),?_⟩;rintro b (rfl | d | d | d | d)
 ·exact .inl rfl
 ·exact .inr (.inl d)
 ·exact jL d
 ·exact iQ d
 ·simp[SM.fresh,Value.ownBlock]at d
theorem iZ.qg{base a:Nat}{S S':RS}{m:SM}{w c d:World}(h0:dF w base a S m)(k:aj (SF a m) w c)(h:iZ base a S' m.fresh c d):iZ base a S' m w d:=by
 obtain⟨m',p,q,f⟩:=h;have hs:=h0.fresh.2.2;refine⟨m',p,fun b e=>?_,k.trans (f.mono hs)⟩;rcases q b e with h | h
 ·exact .inl (hs b h)
 ·exact .inr (Nat.le_trans k.size h)
theorem dF.qy{w:World}{base a:Nat}{S:RS}{m:SM}(h:dF w base a S m)(b:Array Value) :
 dF (((w.setCell ⟨a,5,none⟩ (.slice none 0 0)).alloc (.cells b 169)).alloc (.cells bC 87)) base a S.fresh m.fresh/\aj (SF a m) w (((w.setCell ⟨a,5,none⟩ (.slice none 0 0)).alloc (.cells b 169)).alloc (.cells bC 87)) /\
  au (((w.setCell ⟨a,5,none⟩ (.slice none 0 0)).alloc (.cells b 169)).alloc (.cells bC 87)) (w.heap.size+1) bC 87/\au (((w.setCell ⟨a,5,none⟩ (.slice none 0 0)).alloc (.cells b 169)).alloc (.cells bC 87)) w.heap.size b 169:=by
 obtain⟨p,q,_⟩:=h.fresh;have e:(w.setCell ⟨a,5,none⟩ (.slice none 0 0)).heap.size=w.heap.size:=by simp
 have d:=au.qm (w.setCell ⟨a,5,none⟩ (.slice none 0 0)) (.cells b 169) bC 87;have c:=(au.new (w.setCell ⟨a,5,none⟩ (.slice none 0 0)) b 169).alloc (.cells bC 87);rw[e]at d c;exact⟨p.ax (((aj.refl aA _).alloc _).alloc _),(q.alloc _).alloc _,d,c⟩
theorem qx(tmps:Array Value)(H:Nat)(w:World)(a b c f e d:Int)(g:tmps.getD 4 undef=PP H)(i:tmps.getD 5 undef=II d)(m:au w H #[II a,II b,II c,II f,II e] 87) :
 (results Tryz.f138 tmps).run Tryz.prog w=.ok (.tuple #[dm a b c f e,II d]) w:=by
 obtain⟨c0,c1,j,k,l⟩:=m.c5;simp only[Array.getD_eq_getD_getElem?]at g i;simp[results,Tryz.results138,go_sem,g,i,c0,c1,j,k,l,dm]
theorem lh(base f:Nat)(S S':RS)(m:SM)(x:bD)(o r q n p g:Int)(w:World)(h:dF w base f S m)(v:x.kind=114)
 (k:∀i m',dF i base f S.fresh m'->CT 170 #[PP f,x.val] i fun e w'=>e=.returned (.tuple #[dm o r q n p,II g])/\iZ base f S' m' i w') :
 CT 138 #[PP f,x.val] w fun e w'=>e=.returned (.tuple #[dm o r q n p,II g])/\iZ base f S' m w w':=by
 have N:=h.ay.lt;have v5:CC w f 5 m.ov:=h.ay.cell 5;have G:=h.ay.frozen 5;have E:f≠w.heap.size:=by omega
 have D:f≠w.heap.size+1:=by omega
 have Q:=E.symm;have P:=D.symm;have O:f<w.heap.size+1:=by omega
 obtain⟨M,s,⟨id,C,sym,side,B,af,az⟩,a,b,c,again⟩:=x;simp only at v;subst v;simp only[bD.val,bD.cells]at k ⊢;obtain⟨HS,A⟩:=aZ h k;clear h k;go_enter Tryz.func138,Tryz.ntmps138;go_wp2_with fail;obtain⟨l,y,u,_⟩:=(ae HS).qy #[.int .u8 114,.string s,II id,II C,.string sym,II side,II B,II af,II az,II a,II b,II c,.bool again];refine (ae A _ _ l).mono ?_;rintro e R ⟨rfl,j⟩;have d:=j.zL l u (by decide);have z:=ai (j.qg (ae HS) y);have z0:=d.cell 0;have F:=d.cell 1;have z2:=d.cell 2;have z3:=d.cell 3;have z4:=d.cell 4;simp[bC]at z0 F z2 z3 z4;have H:=d.frozen 0;have I:=d.frozen 1;have J:=d.frozen 2;have K:=d.frozen 3;have L:=d.frozen 4;have t:=ai d;clear l y u j d;simp only[dm];go_wp2;refine bodyPost_ret (qx _ (w.heap.size+1) _ o r q n p g rfl rfl ?_) rfl ⟨rfl,?_⟩
 ·exact uh (ae t) _ _ _ _ _
 ·exact (ae z).off (ae t) (by omega) (qE _ _ _ _ _)
def jP(S:RS)(x:bD)(S':RS)(kK:Value)(E:Int):Prop :=
 ∀base sb m w,dF w base sb S m->CT 138 #[PP sb,x.val] w fun e w'=>e=.returned (.tuple #[kK,II E])/\iZ base sb S' m w w'
def RS.none:RS:=⟨[],[],[],1,0,[]⟩
def oN(A:List bD)(S:RS):Prop:=∃sts:Nat->RS,sts 0=RS.none/\sts A.length=S/\∀i x,A[i]?=some x->∃kK,jP (sts i) x (sts (i+1)) kK 0
theorem oN.nil:oN [] RS.none:=⟨fun _=>RS.none,rfl,rfl,fun i x h=>by simp at h⟩
theorem oN.kL{A:List bD}{S S':RS}{x:bD}{kK:Value}(h:oN A S)(b:jP S x S' kK 0):oN (A++[x]) S':=by
 obtain⟨g,h0,c,d⟩:=h;refine⟨fun i=>if i<=A.length then g i else S',by simp[h0],by simp;intro h;omega,fun i y a=>?_⟩;by_cases e:i<A.length
 ·rw[List.getElem?_append_left e]at a;dsimp only;rw[if_pos (by omega),if_pos (by omega)];exact d i y a
 ·have f:i<(A++[x]).length:=(List.getElem?_eq_some_iff.1 a).1;simp only[List.length_append,List.length_cons,List.length_nil]at f;obtain rfl:i=A.length:=by omega
  rw[List.getElem?_append_right (Nat.le_refl _)]at a;simp at a;subst a;dsimp only;rw[if_pos (Nat.le_refl _),if_neg (by omega),c];exact⟨kK,b⟩
def xG(x:bD):List Value:=[.int .u8 x.kind,.string x.s,II x.o.id,II x.o.aG,.string x.o.sym,II x.o.side,II x.o.kind,II x.o.af,II x.o.az,II x.a,II x.b,II x.c,.bool x.again]
theorem zJ(x:bD):(xG x).length=13:=rfl
def uV(l:List bD):List Value:=l.flatMap xG
structure RV(w:World)(base rb:Nat)(A:List bD)(R:List Rc)(L:ByteArray)(av rv:Value):Prop where
 ge:base<=rb
 ay:au w rb #[av,rv,.string L] 129
 sQ:w.ownsRow base 169 13 av A.length (uV A)
 ug:w.ownsRow base 62 9 rv R.length (gm R)
theorem RV.aC{w w':World}{base d:Nat}{A:List bD}{R:List Rc}{g:ByteArray}{av e:Value}(h:RV w base d A R g av e){f:Nat->Prop}(k:aj f w w')(a:∀b,(b=d\/av.ownBlock=some b\/e.ownBlock=some b)->¬f b):RV w' base d A R g av e :=
 ⟨h.ge,k.ay h.ay (a _ (.inl rfl)),aB h.sQ k (fun b c=>a b (.inr (.inl c))),aB h.ug k (fun b c=>a b (.inr (.inr c)))⟩
theorem RV.ax{w w':World}{base b:Nat}{A:List bD}{R:List Rc}{a:ByteArray}{av c:Value}(h:RV w base b A R a av c)(k:aj aA w w'):RV w' base b A R a av c:=h.aC k (fun _ _ x=>x)
theorem RV.abo{w:World}{base m c:Nat}{a:Option Addr}{A:List bD}{R:List Rc}{f:ByteArray}{av n:Value}(h:RV w base m A R f av n)(l:av=.slice a A.length c){i:Nat}{x:bD}(d:A[i]?=some x):∃g,a=some ⟨g,0,none⟩/\g<w.heap.size/\(∀j b,(xG x)[j]?=some b->w.cell? ⟨g,i * 13+j,none⟩=some b):=by
 have p:i<A.length:=(List.getElem?_eq_some_iff.1 d).1;have r:=h.sQ;rw[l]at r;obtain⟨g,rfl,o⟩:=gQ r (by omega);refine⟨g,rfl,(r.lt g rfl).2,fun j b e=>?_⟩;have k:j<13:=by have:=(List.getElem?_eq_some_iff.1 e).1;rw[zJ]at this;exact this
 rw[r.cellAt _ (by omega)];exact (ou xG 13 zJ A i j _ d k).trans e
theorem dF.start(w:World):dF (w.alloc (.cells #[.slice none 0 0,.slice none 0 0,.slice none 0 0,II 1,II 0,.slice none 0 0] 207)) w.heap.size w.heap.size RS.none ⟨.slice none 0 0,.slice none 0 0,.slice none 0 0,.slice none 0 0⟩ :=
 ⟨Nat.le_refl _,au.new _ _ _,World.ownsRow_nil _ _ _ _,World.ownsRow_nil _ _ _ _,World.ownsRow_nil _ _ _ _,World.ownsRow_nil _ _ _ _⟩
theorem iH(base u:Nat)(A:List bD)(R:List Rc)(O:ByteArray)(av rv:Value)(S:RS)(w:World)(h:RV w base u A R O av rv)(V:oN A S)(Y:A.length<=1000000000) :
 CT 137 #[PP u] w fun e w'=>e=.returned (PP w.heap.size)/\(∃m,dF w' w.heap.size w.heap.size S m)/\aj aA w w':=by
 obtain⟨y,h0,B,C⟩:=V;obtain⟨N,D⟩:=dQ A.length;obtain⟨a,c,r⟩:=aJ h.sQ;have G:Hid (∀i,i<N->∃(g:Nat) (x:bD) (kK:Value),a=some ⟨g,0,none⟩/\g<w.heap.size/\jP (y i) x (y (i+1)) kK 0/\(∀j F,(xG x)[j]?=some F->w.cell? ⟨g,i * 13+j,none⟩=some F)):=fun i W=>by
  obtain⟨x,f⟩:∃x,A[i]?=some x:=⟨_,List.getElem?_eq_getElem (by omega)⟩;obtain⟨g,P,Q,T⟩:=h.abo r f;obtain⟨kK,n⟩:=C i x f;exact⟨g,x,kK,P,Q,n,T⟩
 rw[D]at r Y B;have v0:w.cell? ⟨u,0,none⟩=some (.slice a N c):=by rw[<-r];exact h.ay.cell 0
 have lrb:=h.ay.lt;have v:=ai (dF.start w);rw[<-h0]at v;obtain⟨w1,t⟩:=gy ((w.alloc (.cells #[.slice none 0 0,.slice none 0 0,.slice none 0 0,II 1,II 0,.slice none 0 0] 207)));rw[<-t]at v;have H:Hid (aj aA w w1):=by rw[t];exact (aj.refl aA w).alloc _
 obtain⟨L,M⟩:=aZ v0 t;clear h r C D v0 t;go_enter Tryz.func137,Tryz.ntmps137;go_wp2;rw[<-ae M];go_loopg [4] N (fun k Z wr=>∃(i:Nat) (m:SM),Z=II (i:Int)/\i<=N/\k=N-i/\dF wr w.heap.size w.heap.size (y i) m/\aj aA w wr)
 case atStart=>exact⟨0,_,rfl,Nat.zero_le _,rfl,ae v,ae H⟩
 case round =>
  obtain⟨i,m,rfl,W,hgk,l,d⟩:=hrel;have v0:CC wr u 0 (.slice a N c):=d.cell (ae L) idd;obtain⟨K,I⟩:=aZ l d;by_cases X:i<N
  ·obtain⟨g,x,kK,rfl,lg,n,f⟩:=ae G i X;have x0:CC wr g (i * 13) (.int .u8 x.kind):=d.cell (f 0 _ rfl) idd;have x1:CC wr g (i * 13+1) (.string x.s):=d.cell (f 1 _ rfl) idd;have x2:CC wr g (i * 13+2) (II x.o.id):=d.cell (f 2 _ rfl) idd;have x3:CC wr g (i * 13+3) (II x.o.aG):=d.cell (f 3 _ rfl) idd;have x4:CC wr g (i * 13+4) (.string x.o.sym):=d.cell (f 4 _ rfl) idd;have x5:CC wr g (i * 13+5) (II x.o.side):=d.cell (f 5 _ rfl) idd;have x6:CC wr g (i * 13+6) (II x.o.kind):=d.cell (f 6 _ rfl) idd;have x7:CC wr g (i * 13+7) (II x.o.af):=d.cell (f 7 _ rfl) idd;have x8:CC wr g (i * 13+8) (II x.o.az):=d.cell (f 8 _ rfl) idd;have x9:CC wr g (i * 13+9) (II x.a):=d.cell (f 9 _ rfl) idd;have x10:CC wr g (i * 13+10) (II x.b):=d.cell (f 10 _ rfl) idd;have x11:CC wr g (i * 13+11) (II x.c):=d.cell (f 11 _ rfl) idd;have x12:CC wr g (i * 13+12) (.bool x.again):=d.cell (f 12 _ rfl) idd;have z:=ai (n w.heap.size w.heap.size m wr l);simp only[bD.val,bD.cells]at z;clear n f l d;go_wp2_with fail;refine (ae z).mono ?_;rintro e w3 ⟨rfl,E⟩;have J:=ai E;clear E;go_wp2;go_roundg (N-(i+1))
   case measure=>omega
   case rel =>
    obtain⟨m',p,q,kk⟩:=ae J;exact⟨i+1,m',by push_cast;rfl,by omega,rfl,p,(ae I).from (kk.mono (fun b U=>.inr ((ae K).lt U).1))⟩
  ·obtain rfl:i=N:=by omega
   go_wp2;go_ret;rw[B]at l;exact⟨rfl,⟨m,l⟩,d⟩
open Go.RowKit Go.Maps
theorem zS(bv d b:Nat)(V:aS)(id:Int)(w:World)(R:dL w bv d b V)(f:(Lit.int .i64 id).wf=true)(c:V.aV id=none) :
 CT 37 #[PP bv,II id] w fun e w'=>e=.returned (II 6)/\aj aA w w':=by
 have a:=R.ve f;rw[c]at a;simp only[ja]at a;have g:CC w bv 1 (.map (some b)):=R.cO.cell 1;clear R c;go_enter Tryz.func37,Tryz.ntmps37;go_wp2;go_ret;exact⟨rfl,by repeat (first | exact aj.refl _ _ | refine aj.drewN ?_ _ | refine aj.drew ?_)⟩
theorem BD(bv g d b:Nat)(V:aS)(id:Int)(w:World)(R:dL w bv g d V)(i:(Lit.int .i64 id).wf=true)(a:V.aV id=some b)(h0:(V.om b).aH=0) :
 CT 37 #[PP bv,II id] w fun e w'=>e=.returned (II 10)/\aj aA w w':=by
 have c:=R.ve i;rw[a]at c;simp only[ja]at c;obtain⟨_,j,f⟩:=R.bg id b a;have k:w.cell? ⟨b,8,none⟩=some (II 0):=by rw[<-h0];exact f.cell 8
 have l:CC w bv 1 (.map (some d)):=R.cO.cell 1;clear R a f h0;go_enter Tryz.func37,Tryz.ntmps37;go_wp2;go_ret;exact⟨rfl,by repeat (first | exact aj.refl _ _ | refine aj.drewN ?_ _ | refine aj.drew ?_)⟩
structure Qo(M:Int)(o:Ord):Prop where
 sum:o.entered=o.aH+o.filled+o.aX+o.exp
 o0:0<=o.aH
 f0:0<=o.filled
 c0:0<=o.aX
 e0:0<=o.exp
 hi:o.entered<=M
theorem Qo.fill{M:Int}{o:Ord}(h:Qo M o){q:Int}(j:0<=q)(k:q<=o.aH)(l:M<=1000000000000000):Qo M (iY o q)/\(iY o q).aH=o.aH-q/\(iY o q).filled=o.filled+q:=by
 obtain⟨a,b,c,g,e,i⟩:=h;have d:(iY o q).aH=o.aH-q:=by simp only[iY];exact aU (by omega) (by omega)
 have f:(iY o q).filled=o.filled+q:=by simp only[iY];exact aU (by omega) (by omega)
 refine⟨⟨?_,by rw[d];omega,by rw[f];omega,g,e,i⟩,d,f⟩;show o.entered=_;rw[d,f,a];show _=o.aH-q+(o.filled+q)+o.aX+o.exp;omega
theorem Qo.aX{M:Int}{o:Ord}(h:Qo M o)(i:M<=1000000000000000):Qo M (fZ o)/\(fZ o).aH=0/\(fZ o).aX=o.aX+o.aH:=by
 obtain⟨a,b,c,g,e,f⟩:=h;have d:(fZ o).aX=o.aX+o.aH:=by simp only[fZ];exact aU (by omega) (by omega)
 refine⟨⟨?_,by show (0:Int)<=0;omega,c,by rw[d];omega,e,f⟩,rfl,d⟩;show o.entered=_;rw[d,a];show _=0+o.filled+(o.aX+o.aH)+o.exp;omega
def qi(o o':Ord):Prop:=o'.id=o.id/\o'.aG=o.aG/\o'.sym=o.sym/\o'.side=o.side/\o'.kind=o.kind/\o'.af=o.af/\o'.az=o.az/\o'.place=o.place/\o'.entered=o.entered/\o'.exp=o.exp
theorem qi.refl(o:Ord):qi o o:=⟨rfl,rfl,rfl,rfl,rfl,rfl,rfl,rfl,rfl,rfl⟩
theorem qi.trans{a b c:Ord}(h:qi a b)(k:qi b c):qi a c:=by
 obtain⟨d,a2,a3,a4,a5,f,g,i,a9,e⟩:=h;obtain⟨j,m,n,o,p,q,r,s,t,l⟩:=k;exact⟨j.trans d,m.trans a2,n.trans a3,o.trans a4,p.trans a5,q.trans f,r.trans g,s.trans i,t.trans a9,l.trans e⟩
theorem qi.fill(o:Ord)(q:Int):qi o (iY o q):=⟨rfl,rfl,rfl,rfl,rfl,rfl,rfl,rfl,rfl,rfl⟩
theorem qi.aX(o:Ord):qi o (fZ o):=⟨rfl,rfl,rfl,rfl,rfl,rfl,rfl,rfl,rfl,rfl⟩
abbrev mJ(st:MS)(s x:Nat):Prop:=Mem (st.B.n s) (st.B.h s) x
structure PR(oc s:Nat)(M:Int)(st0 st:MS):Prop where
 q:∀x,(x=oc\/mJ st0 s x)->Qo M (st.om x)
 mem:∀x,mJ st s x->mJ st0 s x
 gone:∀x,mJ st0 s x->¬mJ st s x->(st.om x).aH=0
 heap:ed (fE st.om) (st.B.n s) (st.B.h s)
 FZ:∀x,x≠oc->¬mJ st0 s x->st.om x=st0.om x
 oH:∀x,qi (st0.om x) (st.om x)
 fil:(st0.om oc).filled<=(st.om oc).filled
 trl:st0.tr<=st.tr
 eqv:(st.om oc).filled=(st0.om oc).filled↔st.tr=st0.tr
 aX:(st.om oc).aX=(st0.om oc).aX
 inv:su oc s st
theorem PR.trans{oc s:Nat}{M:Int}{a b c:MS}(h:PR oc s M a b)(k:PR oc s M b c)(r:su oc s a):PR oc s M a c:=by
 have no:∀x,mJ a s x->x≠oc:=fun x ⟨l,o,e⟩=>by rw[e];exact (r.mem l o).2.2.2
 refine⟨fun x f=>?_,fun x f=>h.mem x (k.mem x f),fun x f p=>?_,k.heap,fun x m n=>?_,fun x=>(h.oH x).trans (k.oH x),by have:=h.fil;have:=k.fil;omega,by have:=h.trl;have:=k.trl;omega,?_,k.aX.trans h.aX,k.inv⟩
 ·by_cases e:x=oc
  ·exact k.q x (.inl e)
  ·by_cases d:mJ b s x
   ·exact k.q x (.inr d)
   ·rw[k.FZ x e d];exact h.q x f
 ·by_cases d:mJ b s x
  ·exact k.gone x d p
  ·rw[k.FZ x (no x f) d];exact h.gone x f d
 ·rw[k.FZ x m (fun d=>n (h.mem x d)),h.FZ x m n]
 ·have t:=h.fil;have a2:=k.fil;have a3:=h.trl;have a4:=k.trl;have a5:=h.eqv;have j:=k.eqv;constructor
  ·intro e;have g:(b.om oc).filled=(a.om oc).filled:=by omega
   have i:(c.om oc).filled=(b.om oc).filled:=by omega
   rw[j.1 i,a5.1 g]
  ·intro e;have g:b.tr=a.tr:=by omega
   have i:c.tr=b.tr:=by omega
   rw[j.2 i,a5.2 g]
theorem lJ{B:Bk}{om:Nat->Ord}{s i:Nat}(a:qX (B.n s) (B.h s))(b:i<B.n s)(x:Nat):Mem ((B.leave om s i).n s) ((B.leave om s i).h s) x↔Mem (B.n s) (B.h s) x/\x≠B.h s i:=by
 have h0:qX (B.n s-1+1) (B.h s):=by rw[show B.n s-1+1=B.n s by omega];exact a
 have:=jY (lt:=fE om) (B.h s) i (n:=B.n s-1) (by omega) (h0.qw (by omega)) x;rw[show B.n s-1+1=B.n s by omega]at this;simp only[Bk.leave,ah];exact this
theorem vN{B:Bk}{om dG:Nat->Ord}{s i:Nat}(a:fE dG=fE om)(b:∀k,k<B.n s->(om (B.h s k)).side=(s:Int))(ok:ed (fE om) (B.n s) (B.h s))(c:i<B.n s):ed (fE dG) ((B.leave dG s i).n s) ((B.leave dG s i).h s):=by
 simp only[Bk.leave,ah];rw[a];refine DC (l9 om (s:Int)) (B.h s) i (by omega) (fun k d=>b k (by omega)) ?_;rw[show B.n s-1+1=B.n s by omega];exact ok
theorem LJ{om:Nat->Ord}{oc b:Nat}(a:b≠oc):fE (aT om oc b)=fE om:=by
 unfold aT;simp only;rw[ET,ET]
 ·rfl
 ·rfl
 ·rfl
 ·rw[ag _ _ a];rfl
 ·rw[ag _ _ a];rfl
 ·rw[ag _ _ a];rfl
theorem xW{oc s:Nat}{M:Int}{st:MS}(u:M<=1000000000000000)(p:su oc s st)(b:0<st.B.n s)(D:0<(st.om oc).aH)(l:ed (fE st.om) (st.B.n s) (st.B.h s))(o:∀x,(x=oc\/mJ st s x)->Qo M (st.om x)):PR oc s M st (bF oc s st):=by
 have d:=(pG p b D).1;obtain⟨B,om,lg⟩:=st;simp only at b D l;have F:=p.mem 0 b;simp only at F;obtain⟨W,V,U,v⟩:=F;have y:mJ ⟨B,om,lg⟩ s (B.h s 0):=⟨0,b,rfl⟩;have G:∀k,k<B.n s->(om (B.h s k)).side=(s:Int):=fun k O=>(p.mem k O).1
 have r:qX (B.n s) (B.h s):=p.inj;have I:Qo M (om (B.h s 0)):=o _ (.inr y);have R:Qo M (om oc):=o _ (.inl rfl);unfold bF at d ⊢;simp only at d ⊢;by_cases C:(om (B.h s 0)).aG=(om oc).aG
 ·rw[if_pos C]at d ⊢;obtain⟨c1,A,t⟩:=I.aX u;have w:aK om (B.h s 0) (fZ (om (B.h s 0))) oc=om oc:=ag _ _ (fun e=>v e.symm);have m:fE (aK om (B.h s 0) (fZ (om (B.h s 0))))=fE om:=ET rfl rfl rfl;refine⟨fun x a=>?_,fun x a=>?_,fun x a c=>?_,?_,fun x j g=>?_,fun x=>?_,?_,Int.le_refl _,?_,?_,d⟩
  ·by_cases e:x=B.h s 0
   ·simp only[e,ah];exact c1
   ·simp only[ag _ _ e];exact o x a
  ·exact ((lJ r b x).1 a).1
  ·have e:x=B.h s 0:=by
    by_cases e:x=B.h s 0
    ·exact e
    ·exact absurd ((lJ r b x).2 ⟨a,e⟩) c
   simp only[e,ah];exact A
  ·simp only;have:=vN (dG:=om) rfl G l b;rw[m];exact this
  ·exact ag _ _ (fun e=>g (e▸y))
  ·simp only;by_cases e:x=B.h s 0
   ·rw[e,ah];exact qi.aX _
   ·rw[ag _ _ e];exact qi.refl _
  ·simp only[w];exact Int.le_refl _
  ·exact⟨fun _=>rfl,fun _=>by simp only[w]⟩
  ·simp only[w]
 ·rw[if_neg C]at d ⊢;obtain⟨q,E⟩:=dQ (min (om oc).aH (om (B.h s 0)).aH);have X:0<q:=by omega
  obtain⟨c1,A,t⟩:=R.fill (q:=q) (by omega) (by omega) u;obtain⟨K,S,T⟩:=I.fill (q:=q) (by omega) (by omega) u;have i:aT om oc (B.h s 0) oc=iY (om oc) q:=by unfold aT;rw[ag _ _ (fun e=>v e.symm),ah,E]
  have J:aT om oc (B.h s 0) (B.h s 0)=iY (om (B.h s 0)) q:=by unfold aT;rw[ah,E]
  have z:∀x,x≠oc->x≠B.h s 0->aT om oc (B.h s 0) x=om x:=fun x j g=>by unfold aT;rw[ag _ _ g,ag _ _ j]
  have m:=LJ (om:=om) v;have P:∀x,Mem ((dO B om oc (B.h s 0) s).n s) ((dO B om oc (B.h s 0) s).h s) x->Mem (B.n s) (B.h s) x:=by
   intro x a;unfold dO at a;split at a
   ·exact ((lJ r b x).1 a).1
   ·exact a
  have L:∀x,Mem (B.n s) (B.h s) x->¬Mem ((dO B om oc (B.h s 0) s).n s) ((dO B om oc (B.h s 0) s).h s) x->(aT om oc (B.h s 0) x).aH=0:=by
   intro x a c;unfold dO at c;split at c
   ·rename_i Q;have e:x=B.h s 0:=by
     by_cases e:x=B.h s 0
     ·exact e
     ·exact absurd ((lJ r b x).2 ⟨a,e⟩) c
    rw[e];exact Q
   ·exact absurd a c
  have N:ed (fE (aT om oc (B.h s 0))) ((dO B om oc (B.h s 0) s).n s) ((dO B om oc (B.h s 0) s).h s):=by
   unfold dO;split
   ·exact vN m G l b
   ·rw[m];exact l
  have H:MS.tr ⟨dO B om oc (B.h s 0) s,aT om oc (B.h s 0),(dD lg om oc (B.h s 0)).lC (jg B om oc (B.h s 0))⟩=MS.tr ⟨B,om,lg⟩+1:=by simp[MS.tr,Lg.lC,Lg.told,Lg.aC,Lg.aY,iw]
  refine⟨fun x a=>?_,P,L,N,fun x j g=>z x j (fun e=>g (e▸y)),fun x=>?_,?_,?_,?_,?_,d⟩
  ·simp only;by_cases e:x=oc
   ·rw[e,i];exact c1
   ·by_cases f:x=B.h s 0
    ·rw[f,J];exact K
    ·rw[z x e f];exact o x a
  ·simp only;by_cases e:x=oc
   ·rw[e,i];exact qi.fill _ _
   ·by_cases f:x=B.h s 0
    ·rw[f,J];exact qi.fill _ _
    ·rw[z x e f];exact qi.refl _
  ·simp only[i];rw[t];omega
  ·rw[H];omega
  ·rw[H];simp only[i];rw[t];constructor <;> intro h <;> omega
  ·simp only[i];rfl
theorem KI{oc s:Nat}{M:Int}(g:M<=1000000000000000):∀(d:Nat) (st:MS),su oc s st->ed (fE st.om) (st.B.n s) (st.B.h s)->(∀x,(x=oc\/mJ st s x)->Qo M (st.om x))->PR oc s M st (bu oc s d st):=by
 intro d
 induction d with
 | zero=>exact fun st b e f=>⟨f,fun _ h=>h,fun _ h a=>absurd h a,e,fun _ _ _=>rfl,fun _=>qi.refl _,Int.le_refl _,Int.le_refl _,⟨fun _=>rfl,fun _=>rfl⟩,rfl,b⟩
 | succ d ih =>
   intro st b e f;rw[bu];split
   ·exact⟨f,fun _ h=>h,fun _ h a=>absurd h a,e,fun _ _ _=>rfl,fun _=>qi.refl _,Int.le_refl _,Int.le_refl _,⟨fun _=>rfl,fun _=>rfl⟩,rfl,b⟩
   ·rename_i j;obtain⟨a,i⟩:=nM j;have c:=xW g b a i e f;exact c.trans (ih _ c.inv c.heap (fun x k=>c.q x (k.imp_right (c.mem x)))) b
theorem EX{oc s:Nat}:∀(a:Nat) (st:MS),su oc s st->mu oc s st<=a->stops oc s (bu oc s a st)=true:=by
 intro a
 induction a with
 | zero =>
   intro st c b;have h0:st.B.n s=0:=by unfold mu at b;omega
   simp[bu,stops,dA,h0]
 | succ a ih =>
   intro st c b;rw[bu];by_cases h:stops oc s st=true
   ·rw[if_pos h];exact h
   ·rw[if_neg h];obtain⟨d,e⟩:=nM h;obtain⟨f,g,_⟩:=pG c d e;exact ih _ f (by omega)
def aS.lS(V:aS)(i:Nat)(B':Bk)(dG:Nat->Ord)(G':Lg)(bG:Lm):aS:={ V with B:=aK V.B i B',om:=dG,lg:=G',lm:=bG }
def Next(bv bm bo:Nat)(V:aS)(Q:aS->Prop)(w w':World):Prop :=
 ∃V2,dL w' bv bm bo V2/\Q V2/\aj (bY bv bm bo V) w w'/\∀x,bY bv bm bo V2 x->bY bv bm bo V x\/w.heap.size<=x
theorem Next.of{w w':World}{bv A C i:Nat}{V:aS}(R:dL w bv A C V)(v:i<V.nb){B':Bk}{dG:Nat->Ord}{G':Lg}{bG:Lm}{S:Nat->Prop}(Q:aS->Prop)
 (K:Mk w' (V.bk i) B' dG (fun x=>∃id,V.aV id=some x)) (m:bz w' bv A C G' bG) (hf:∀x,bG.F x->V.lm.F x\/w.heap.size<=x) (k:aj S w w')
 (H:∀x,S x->x=bv\/V.lm.F x\/x=V.bk i\/(∃s,s<2/\dn (V.B i) s x)\/((∃id,V.aV id=some x)/\pV V i x))
 (Af:∀j,j<V.nb->j≠i->∀s,s<2->∀l,l<(V.B j).n s->dG ((V.B j).h s l)=V.om ((V.B j).h s l)) (hid:∀x,(dG x).id=(V.om x).id) (T:B'.sym=(V.B i).sym)
 (P:∀s,s<2->∀x,dn B' s x->(∃t,t<2/\dn (V.B i) t x)\/((∃id,V.aV id=some x)/\pV V i x)\/w.heap.size<=x) (hQ:Q (V.lS i B' dG G' bG)):Next bv A C V Q w w':=by
 have gZ:∀x,S x->∃c t,au w x c t:=fun x b=>by
  rcases H x b with rfl | h | h | h | ⟨h,_⟩
  ·exact⟨_,_,R.cO⟩
  ·obtain⟨c,t,g,_⟩:=R.aO.aO.gZ h;exact⟨c,t,g⟩
  ·obtain⟨c,t,g,_⟩:=(R.sG v).gZ (.inl h);exact⟨c,t,g⟩
  ·obtain⟨c,t,g,_⟩:=(R.sG v).gZ (.inr (.inr h));exact⟨c,t,g⟩
  ·obtain⟨c,t,g,_⟩:=(R.sG v).gZ (.inr (.inl h));exact⟨c,t,g⟩
 obtain⟨Y,U,M,Z⟩:=R.iM;obtain⟨fO,W,fO1⟩:=R.fA;have nB:¬S A:=fun h=>by obtain⟨c,t,g⟩:=gZ A h;exact U.ne g rfl
 have nO:¬S C:=fun h=>by obtain⟨c,t,g⟩:=gZ C h;exact W.ne g rfl
 have Ye:∀j,j<V.nb->∀x,x<2->∀y,dn (V.B j) x y->y<w.heap.size:=fun j a x b y h=>by
  rcases h with h | ⟨l,m,rfl⟩
  ·exact ((R.aW j a).side x b).lt h
  ·exact (((R.aW j a).side x b).bg m).lt
 have L:∀s,s<2->∀x,dn (V.B i) s x->pV V i x:=fun s hs x b j a o t z h=>R.nX i j v a (fun e=>o e.symm) s t hs z x b h
 have I:∀j,j<V.nb->∀y,y<2->∀x c t,au w x c t->t≠114->t≠116->¬dn (V.B j) y x:=fun j a y d x c t J r f h=>by
  rcases h with h | ⟨l,m,h⟩
  ·exact ((R.aW j a).side y d).ne J r h
  ·rw[h]at J;exact au.ne J (((R.aW j a).side y d).bg m) f rfl
 have FZ:∀j,j<V.nb->j≠i->bM w' (V.bk j) (V.B j) dG:=fun j a o=>by
  have G:bM w' (V.bk j) (V.B j) V.om:=(R.aW j a).aC k (by
   rintro x (rfl | ⟨y,d,h⟩) b
   ·rcases H _ b with h | h | h | ⟨s,hs,h⟩ | ⟨⟨id,h⟩,_⟩
    ·exact au.ne (R.aW j a).ay R.cO (by decide) h
    ·exact R.aO.aO.ne (R.aW j a).ay (by decide) (by decide) (by decide) (by decide) (by decide) h
    ·exact R.rY j i a v o h
    ·exact I i v s hs _ _ _ (R.aW j a).ay (by decide) (by decide) h
    ·obtain⟨_,ix,ho⟩:=R.bg id _ h;exact au.ne (R.aW j a).ay ho (by decide) rfl
   ·rcases H _ b with e | e | e | ⟨s,hs,e⟩ | ⟨_,e⟩
    ·rw[e]at h;exact I j a y d _ _ _ R.cO (by decide) (by decide) h
    ·obtain⟨c,t,g,z⟩:=R.aO.aO.gZ e;exact I j a y d _ _ _ g (by rcases z with rfl | rfl | rfl | rfl | rfl | rfl <;> decide) (by rcases z with rfl | rfl | rfl | rfl | rfl | rfl <;> decide) h
    ·rw[e]at h;exact I j a y d _ _ _ (R.aW i v).ay (by decide) (by decide) h
    ·exact L s hs x e j a o y d h
    ·exact e j a o y d h)
  exact⟨G.ay,fun y d=>(G.side y d).om (fun l m=>Af j a o y d l m),G.apart,G.vI⟩
 have hRep:dL w' bv A C (V.lS i B' dG G' bG):=by
  refine⟨m,⟨Y,U.aC k nB,?_,?_⟩,⟨fO,W.aC k nO,fO1⟩,R.F5,?_,?_,?_,R.rY,?_,R.fM⟩
  ·intro j a;by_cases e:j=i
   ·subst e;simp only[aS.lS,ah,T];exact M j a
   ·simp only[aS.lS,ag _ _ e];exact M j a
  ·intro s' b' h;obtain⟨j,a,X,E⟩:=Z s' b' h;refine⟨j,a,X,?_⟩;by_cases e:j=i
   ·subst e;simp only[aS.lS,ah,T];exact E
   ·simp only[aS.lS,ag _ _ e];exact E
  ·intro j a;by_cases e:j=i
   ·subst e;simp only[aS.lS,ah];exact K.aW
   ·simp only[aS.lS,ag _ _ e];exact FZ j a e
  ·intro id x b;simp only[aS.lS]at b ⊢;rw[hid];exact⟨(R.bg id x b).1,K.bg x ⟨id,b⟩⟩
  ·intro j a x b l m;simp only[aS.lS]at a m ⊢;by_cases e:j=i
   ·subst e;simp only[ah]at m ⊢;exact K.mem x b l m
   ·simp only[ag _ _ e]at m ⊢;exact R.mem j a x b l m
  ·intro p q O D o x y b d u r f;have N:∀q,q<V.nb->q≠i->∀x y,x<2->y<2->∀u,dn B' x u->dn (V.B q) y u->False:=by
    intro q D o x y b d u r f;rcases P x b u r with⟨t,z,h⟩ | ⟨_,h⟩ | h
    ·exact L t z u h q D o y d f
    ·exact h q D o y d f
    ·have:=Ye q D y d u f;omega
   simp only[aS.lS]at r f;by_cases e:p=i
   ·rw[e,ah]at r;rw[ag _ _ (show q≠i by omega)]at f;exact N q D (by omega) x y b d u r f
   ·rw[ag _ _ e]at r;by_cases E:q=i
    ·rw[E,ah]at f;exact N p O e y x d b u f r
    ·rw[ag _ _ E]at f;exact R.nX p q O D o x y b d u r f
 refine⟨_,hRep,hQ,k.mono (fun x b=>?_),fun x b=>?_⟩
 ·rcases H x b with h | h | h | ⟨s,hs,h⟩ | ⟨h,_⟩
  ·exact .inl h
  ·exact vk h
  ·exact iQ ⟨i,v,.inl h⟩
  ·exact iQ ⟨i,v,.inr ⟨s,hs,h⟩⟩
  ·exact qo h
 ·rcases b with h | h | h | ⟨j,a,h⟩ | h | h
  ·exact .inl (.inl h)
  ·exact .inl (.inr (.inl h))
  ·exact .inl (jL h)
  ·rcases h with h | ⟨s,hs,h⟩
   ·exact .inl (iQ ⟨j,a,.inl h⟩)
   ·by_cases e:j=i
    ·subst e;simp only[aS.lS,ah]at h;rcases P s hs x h with⟨t,z,h⟩ | ⟨h,_⟩ | h
     ·exact .inl (iQ ⟨j,a,.inr ⟨t,z,h⟩⟩)
     ·exact .inl (qo h)
     ·exact .inr h
    ·simp only[aS.lS,ag _ _ e]at h;exact .inl (iQ ⟨j,a,.inr ⟨s,hs,h⟩⟩)
  ·exact .inl (qo h)
  ·rcases hf x h with h | h
   ·exact .inl (vk h)
   ·exact .inr h
theorem Next.QV{w w' m:World}{bv d f:Nat}{V:aS}{Q:aS->Prop}(h:Next bv d f V Q w w'){x:Nat}{c:Array Value}(t:au w' x c 87)(G:w.heap.size<=x)(k:aj (fun y=>y=x) w' m):Next bv d f V Q w m:=by
 obtain⟨g,a,E,A,n⟩:=h;have D:¬bY bv d f g x:=a.JS t (by decide) (by decide) (by decide) (by decide) (by decide) (by decide) (by decide);obtain⟨r,B,o,p⟩:=a.iM;obtain⟨s,C,q⟩:=a.fA;have b:∀y,bY bv d f g y->¬y=x:=fun y h e=>D (e▸h)
 refine⟨g,⟨a.aO.aC k (b _ (.inl rfl)) (fun y l=>b y (vk l)),⟨r,B.aC k (b _ (.inr (.inl rfl))),o,p⟩,⟨s,C.aC k (b _ (jL rfl)),q⟩,a.F5,fun j i=>(a.aW j i).aC k (fun y l=>b y (by
  rcases l with h | ⟨F,v,h⟩
  ·exact iQ ⟨j,i,.inl h⟩
  ·exact iQ ⟨j,i,.inr ⟨F,v,h⟩⟩)),fun id y h=>⟨(a.bg id y h).1,(a.bg id y h).2.elim fun z u=>⟨z,k.ay u (b y (qo ⟨id,h⟩))⟩⟩,a.mem,a.rY,a.nX,a.fM⟩,E,A.from (k.mono (fun y h=>.inr (by omega))),n⟩
def Gz(s:ByteArray)(i:Nat):Nat:=(s.get! i).toNat
theorem Eu(s:ByteArray)(i:Nat):Gz s i<256:=(s.get! i).toNat_lt
def sH(s:ByteArray)(i:Nat):Nat × Nat :=
 if Gz s i<128 then (Gz s i,1) else if i+1<s.size/\Gz s i=206/\145<=Gz s (i+1)/\Gz s (i+1)<=169 then (768+Gz s (i+1),2) else (0,1)
def rV(c:Nat):Bool:=(decide (65<=c) && decide (c<=90)) || (decide (48<=c) && decide (c<=57)) || (decide (913<=c) && decide (c<=937) && !(c == 930))
theorem MZ(s:ByteArray)(i:Nat):1<=(sH s i).2/\(sH s i).2<=2/\(i<s.size->i+(sH s i).2<=s.size)/\(sH s i).1<=937:=by
 have:=Eu s i;unfold sH;split
 ·simp;omega
 ·split <;> simp <;> omega
theorem Xi{s:ByteArray}{i:Nat}(f:i<s.size)(h:rV (sH s i).1=true):Utf8.decode s i=sH s i:=by
 have h0:=Eu s i;unfold sH at h ⊢;split at h
 ·rename_i a;rw[if_pos a];unfold Utf8.decode;have:(s.get! (i+0)).toNat=Gz s i:=rfl;simp only[this];rw[if_pos (by omega)]
 ·split at h
  ·rename_i a e;obtain⟨b,a2,a3,a4⟩:=e;rw[if_neg a,if_pos ⟨b,a2,a3,a4⟩];unfold Utf8.decode;have c:(s.get! (i+0)).toNat=Gz s i:=rfl;have d:(s.get! (i+1)).toNat=Gz s (i+1):=rfl;simp only[c,d];rw[if_neg (by omega),if_pos (by simp[b,a2];omega)];rw[if_pos (by omega)];rw[a2];ext <;> simp <;> omega
  ·simp[rV]at h
theorem Uu{s:ByteArray}{i:Nat}(n:i<s.size)(h:rV (sH s i).1=false):rV (Utf8.decode s i).1=false:=by
 have h0:=Eu s i;have l:=Eu s (i+1);unfold Utf8.decode;have e:(s.get! (i+0)).toNat=Gz s i:=rfl;have f:(s.get! (i+1)).toNat=Gz s (i+1):=rfl;simp only[e,f];have a:rV Utf8.runeError=false:=by decide
 unfold sH at h;split at h
 ·rename_i g;rw[if_pos (by omega)];exact h
 ·rename_i g;rw[if_neg (by omega)];split
  ·rename_i d;simp at d;split
   ·rename_i b;split at h
    ·rename_i c;obtain⟨k,a2,a3,a4⟩:=c;rw[a2];have:206 % 32 * 64+Gz s (i+1) % 64=768+Gz s (i+1):=by omega
     simp only[this];exact h
    ·rename_i c;simp only[rV,Bool.or_eq_false_iff,Bool.and_eq_false_iff,decide_eq_false_iff_not,Bool.not_eq_false',beq_iff_eq];refine⟨⟨?_,?_⟩,?_⟩
     ·right;omega
     ·right;omega
     ·left;by_cases j:913<=Gz s i % 32 * 64+Gz s (i+1) % 64
      ·right;intro m;exact c ⟨d.2.1,by omega,by omega,by omega⟩
      ·left;exact j
   ·exact a
  ·split
   ·split
    ·rename_i b;simp at b;simp only[rV,Bool.or_eq_false_iff,Bool.and_eq_false_iff,decide_eq_false_iff_not,Bool.not_eq_false',beq_iff_eq];refine⟨⟨?_,?_⟩,?_⟩
     ·right;omega
     ·right;omega
     ·left;right;omega
    ·exact a
   ·split
    ·split
     ·rename_i b;simp at b;simp only[rV,Bool.or_eq_false_iff,Bool.and_eq_false_iff,decide_eq_false_iff_not,Bool.not_eq_false',beq_iff_eq];refine⟨⟨?_,?_⟩,?_⟩
      ·right;omega
      ·right;omega
      ·left;right;omega
     ·exact a
    ·exact a
def mr(s:ByteArray):Nat->Nat->Nat->Bool
 | 0,_,_=>false
 | f+1,i,n=>if i<s.size then (if rV (sH s i).1 then mr s f (i+(sH s i).2) (n+1) else false) else (decide (1<=n) && decide (n<=6))
def lL(s:ByteArray):Bool:=mr s (s.size+1) 0 0
theorem Ap(s:ByteArray):∀a i n,7<=n->mr s a i n=false
 | 0,_,_,_=>rfl
 | a+1,i,n,h=>by
   unfold mr;split
   ·split
    ·exact Ap s a _ _ (by omega)
    ·rfl
   ·simp;omega
end Go.Proofs.YtigaphnafnpfnaaGreatDoor
