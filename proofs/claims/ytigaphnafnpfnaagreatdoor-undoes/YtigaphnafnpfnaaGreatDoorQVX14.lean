import Derived.Test.YtigaphnafnpfnaaGreatDoorQVU1
set_option linter.unusedVariables false
set_option linter.unusedSimpArgs false
set_option maxHeartbeats 8000000
set_option maxRecDepth 100000
namespace Go.Proofs.YtigaphnafnpfnaaGreatDoor
open Go.RowKit
attribute [local go_sem ↓] Go.wp_at_zero Go.wp_at_succ
def RS.oU(S:RS)(k:Nat):RS:=S.dN k { ak S.l k with aX:=wrap64 ((ak S.l k).aX+(ak S.l k).aH),aH:=0 }
theorem xY(base d:Nat)(S:RS)(m:SM)(x:bD)(w:World)(h:dF w base d S m)(v:x.kind=99)(E:S.l.length<=1000)(n:gp S.l x.a≠0) :
 CT 138 #[PP d,x.val] w fun e w'=>e=.returned (.tuple #[dm 0 0 0 0 0,II (gp S.l x.a)])/\iZ base d S.fresh m w w':=by
 have Q:=h.ay.lt;have v5:CC w d 5 m.ov:=h.ay.cell 5;have J:=h.ay.frozen 5;have G:d≠w.heap.size:=by omega
 have F:d≠w.heap.size+1:=by omega
 have U:=G.symm;have T:=F.symm;have R:d<w.heap.size+1:=by omega
 have i:Hid (∀g m',dF g base d S.fresh m'->CT 169 #[PP d,II x.a] g fun e w'=>e=.returned (.tuple #[II (oi (iU S.l x.a)),II (gp S.l x.a)])/\w'=g):=fun g m' D=>oM base d S.fresh m' x.a g D E
 obtain⟨p,t⟩:=dQ (gp S.l x.a);rw[t]at i n ⊢;have I:(p == 0)=false:=by simpa using n
 obtain⟨P,s,⟨id,z,sym,side,y,af,az⟩,a,b,c,again⟩:=x;simp only at v;subst v;simp only[bD.val,bD.cells]at i ⊢;have HS:=ai h;clear h t n;obtain⟨j,o,f,_⟩:=(ae HS).qy #[.int .u8 99,.string s,II id,II z,.string sym,II side,II y,II af,II az,II a,II b,II c,.bool again];obtain⟨C,k⟩:=gy ((((w.setCell ⟨d,5,none⟩ (.slice none 0 0)).alloc (.cells #[.int .u8 99,.string s,II id,II z,.string sym,II side,II y,II af,II az,II a,II b,II c,.bool again] 169)).alloc (.cells bC 87)));rw[<-k]at j o f;have A:=ai (ae i _ _ j);have B:Hid (iZ base d S.fresh m w C):=iZ.qg (ae HS) o (iZ.refl j);obtain⟨z0,V,z2,z3,z4⟩:=f.c5;have K:=f.frozen 0;have L:=f.frozen 1;have M:=f.frozen 2;have N:=f.frozen 3;have O:=f.frozen 4;obtain⟨q,r⟩:=aZ f k;simp only[bC]at r;clear j o f i k;go_enter Tryz.func138,Tryz.ntmps138;go_wp2_with fail;rw[<-ae r];refine (ae A).mono ?_;rintro e H ⟨rfl,u⟩;rw[u];clear u H;go_wp2;refine bodyPost_ret (qx _ (w.heap.size+1) _ 0 0 0 0 0 p rfl rfl ?_) rfl ⟨rfl,?_⟩
 ·exact uh (ae q) _ _ _ _ _
 ·exact (ae B).off (ae q) (by omega) (qE _ _ _ _ _)
theorem Fh(base d k:Nat)(S:RS)(m:SM)(x:bD)(w:World)(h:dF w base d S m)(P:x.kind=99)(L:S.l.length<=1000)(z:iU S.l x.a=some k)(M:(ak S.l k).aH≠0) :
 CT 138 #[PP d,x.val] w fun e w'=>e=.returned (.tuple #[dm 0 0 0 0 0,II 0])/\iZ base d (S.fresh.oU k) m w w':=by
 have K:gp S.l x.a=0:=by unfold gp;rw[z];simp[M]
 have MP:=h.ay.lt;have v5:CC w d 5 m.ov:=h.ay.cell 5;have f5:=h.ay.frozen 5;have sz:d≠w.heap.size:=by omega
 have sr:d≠w.heap.size+1:=by omega
 have sz':=sz.symm;have Yg:=sr.symm;have ES:d<w.heap.size+1:=by omega
 have B:Hid (∀n m',dF n base d S.fresh m'->CT 169 #[PP d,II x.a] n fun e w'=>e=.returned (.tuple #[II (k:Int),II 0])/\w'=n):=fun n m' W=>by
  have:=oM base d S.fresh m' x.a n W L;rw[show gp S.fresh.l x.a=0 from K,show iU S.fresh.l x.a=some k from z]at this;exact this
 obtain⟨N,C⟩:=dQ S.l.length;have r:=(jC z).1;have Z:k<N:=by rw[<-C];exact r
 have hlN:N<=1000:=by omega
 obtain⟨kind,s,⟨id,R,sym,side,Q,af,az⟩,a,b,c,again⟩:=x;simp only at P;subst P;simp only[bD.val,bD.cells]at B ⊢;have HS:=ai h;clear h K z M L;obtain⟨t,G,f,_⟩:=(ae HS).qy #[.int .u8 99,.string s,II id,II R,.string sym,II side,II Q,II af,II az,II a,II b,II c,.bool again];obtain⟨g,cc,v1,F,hsg,lg,E,D,y⟩:=t.SG C (by omega);obtain⟨o,A⟩:=dQ (ak S.l k);have I:=ai (ae B _ _ t);have V:∃p,p=(((w.setCell ⟨d,5,none⟩ (.slice none 0 0)).alloc (.cells #[.int .u8 99,.string s,II id,II R,.string sym,II side,II Q,II af,II az,II a,II b,II c,.bool again] 169)).alloc (.cells bC 87)):=⟨_,rfl⟩;obtain⟨p,u⟩:=V;rw[<-u]at t G f v1 lg D y I;have v:=D k Z;rw[show ak S.fresh.l k=o from A]at v;have y8:CC p g (k * 13+8) (II o.aH):=v 8 _ rfl;have y10:CC p g (k * 13+10) (II o.aX):=v 10 _ rfl;have f8:=y (k * 13+8);have f10:=y (k * 13+10);have n1:¬k * 13+8=k * 13+10:=by omega
 have q:w.heap.size+1≠g:=by
  intro e;rw[<-u]at E;obtain⟨cs,Y⟩:=E;exact au.ne Y f (by decide) e.symm
 have gr':=q.symm;obtain⟨z0,z1,z2,z3,z4⟩:=f.c5;have fz0:=f.frozen 0;have Qw:=f.frozen 1;have Qx:=f.frozen 2;have fz3:=f.frozen 3;have Qy:=f.frozen 4;have U:Hid (iZ base d (S.fresh.oU k) m w ((p.setCell ⟨g,k * 13+10,none⟩ (II (wrap64 (o.aX+o.aH)))).setCell ⟨g,k * 13+8,none⟩ (II 0))):=by
  obtain⟨p2,q2⟩:=t.iW F r (j:=10) (by omega) (II (wrap64 (o.aX+o.aH))) { o with aX:=wrap64 (o.aX+o.aH) } (by rw[show ak S.fresh.l k=o from A];rfl);obtain⟨T,q3⟩:=p2.iW (i:=k) (by simp only[List.length_set];exact F) (by simp only[List.length_set];exact r) (j:=8) (by omega) (II 0) { o with aX:=wrap64 (o.aX+o.aH),aH:=0 } (by simp only;rw[dB (l:=S.fresh.l) r];rfl);simp only[List.set_set]at T;have e:S.fresh.oU k=S.fresh.dN k { o with aX:=wrap64 (o.aX+o.aH),aH:=0 }:=by unfold RS.oU;rw[show ak S.fresh.l k=o from A]
  rw[e];exact iZ.qg (ae HS) G ⟨m.fresh,T,fun b X=>.inl X,q2.trans q3⟩
 obtain⟨H,J⟩:=aZ f u;simp only[bC]at J;clear t G f B F E D v y A r C u;go_enter Tryz.func138,Tryz.ntmps138;go_wp2_with fail;rw[<-ae J];refine (ae I).mono ?_;rintro e w3 ⟨rfl,O⟩;rw[O];clear O w3;go_wp2;go_region;go_wp2;refine bodyPost_ret (qx _ (w.heap.size+1) _ 0 0 0 0 0 0 rfl rfl ?_) rfl ⟨rfl,?_⟩
 ·exact (uh (((ae H).other (a:=⟨g,k * 13+10,none⟩) q _).other (a:=⟨g,k * 13+8,none⟩) q _) _ _ _ _ _).drew
 ·exact ((ae U).off (((ae H).other (a:=⟨g,k * 13+10,none⟩) q _).other (a:=⟨g,k * 13+8,none⟩) q _) (by omega) (qE _ _ _ _ _)).ext (aj.refl _ _).drew
open Go.RowKit Go.Maps
end Go.Proofs.YtigaphnafnpfnaaGreatDoor
