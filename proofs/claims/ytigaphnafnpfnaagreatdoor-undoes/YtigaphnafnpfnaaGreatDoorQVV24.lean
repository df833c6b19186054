import Derived.Test.YtigaphnafnpfnaaGreatDoorQVV12
set_option linter.unusedVariables false
set_option linter.unusedSimpArgs false
set_option maxHeartbeats 8000000
set_option maxRecDepth 100000
namespace Go.Proofs.YtigaphnafnpfnaaGreatDoor
open Go.RowKit
attribute [local go_sem ↓] Go.wp_at_zero Go.wp_at_succ
theorem fP.abt{w:World}{bv B C n g cap:Nat}{G:Lg}{m:Lm}{r:List Tg}{x:Tg}(h:bz w bv B C G m)(E:G.tr=r++[x])(f:r.length=n)(K:m.tv=.slice (some ⟨g,0,none⟩) (n+1) cap) :
 bz ((w.setCell ⟨g,n,none⟩ (.pointer none)).setCell ⟨bv,2,none⟩ (.slice (some ⟨g,0,none⟩) n cap)) bv B C { G with tr:=r } { m with tv:=.slice (some ⟨g,0,none⟩) n cap,tb:=m.tb.dropLast } /\
  aj (fun b=>b=bv\/m.tv.ownBlock=some b) w ((w.setCell ⟨g,n,none⟩ (.pointer none)).setCell ⟨bv,2,none⟩ (.slice (some ⟨g,0,none⟩) n cap)) /\
  (∀b,Lm.F { m with tv:=.slice (some ⟨g,0,none⟩) n cap,tb:=m.tb.dropLast } b->m.F b):=by
 have A:m.tv.ownBlock=some g:=by rw[K];rfl
 have k:aj (fun b=>b=bv\/m.tv.ownBlock=some b) w ((w.setCell ⟨g,n,none⟩ (.pointer none)).setCell ⟨bv,2,none⟩ (.slice (some ⟨g,0,none⟩) n cap)) :=
  ((aj.refl (fun b=>b=bv\/m.tv.ownBlock=some b) w).setCell (p:=⟨g,n,none⟩) (.inl (.inr A)) _).setCell (p:=⟨bv,2,none⟩) (.inl (.inl rfl)) _
 have l:=h.aO.dJ;have J:G.tr.length=n+1:=by rw[E,List.length_append,f];rfl
 have z:m.tb.length=n+1:=by rw[h.aO.len,J]
 rw[K,J]at l;obtain⟨Q,h0⟩:=l;obtain⟨d,j,D,v,o,q⟩:∃d,au w g d 103/\n+1<=cap/\cap<=maxLen/\d.size=cap * 1/\d.toList.take ((n+1) * 1)=m.tb.map dh:=by
  rcases h0 with⟨e,_⟩ | ⟨P,cap',d,e,_,j,D,v,o,q⟩
  ·simp at e
  ·simp only[Value.slice.injEq,Option.some.injEq,Addr.mk.injEq]at e;obtain⟨⟨s,_⟩,_,u⟩:=e;subst s u;exact⟨d,j,D,v,o,q⟩
 have I:g≠bv:=au.ne j h.cO (by decide);have no:∀{b c t},au w b c t->t≠100->t≠103->¬(b=bv\/m.tv.ownBlock=some b):=by
  rintro b c t a s u (e | e)
  ·exact au.ne a h.cO s e
  ·rw[A]at e;obtain rfl:=Option.some.inj e;exact au.ne a j u rfl
 refine⟨⟨((h.cO.other (fun e=>I e.symm) _).set 2 _),?_⟩,k,?_⟩
 ·refine⟨?_,aB h.aO.fQ k (fun b e=>?_),?_,fun i b y H O=>?_,h.aO.nodup.sublist (List.dropLast_sublist _),h.aO.act.aC k (fun b e=>?_),aB h.aO.lT k (fun b e=>?_),h.aO.jb⟩
  ·refine⟨by simp[List.length_dropLast,z,f],.inr ⟨g,cap,d.setIfInBounds n (.pointer none),?_,Nat.zero_le _,(j.set n _).other I _,by simp only[f];omega,v,by simpa using o,?_⟩⟩
   ·simp only[f]
   ·simp only[f,Nat.mul_one]at q ⊢;have e:(d.setIfInBounds n (.pointer none)).toList=d.toList.set n (.pointer none):=by simp
    rw[e,List.take_set,List.map_dropLast,<-q];have L:d.toList.length=cap:=by simpa using o
    rw[List.set_eq_of_length_le (by simp;exact Nat.min_le_left _ _),List.dropLast_eq_take,List.take_take,List.length_take,L,show min (min (n+1) cap-1) (n+1)=n by omega]
  ·obtain⟨cs,a⟩:=aF h.aO.fQ e;exact no a (by decide) (by decide)
  ·simp[z,f]
  ·have M:i<m.tb.dropLast.length:=(List.getElem?_eq_some_iff.1 H).1;simp[z]at M;have N:m.tb[i]?=some b:=by rw[<-H,List.getElem?_dropLast,if_pos (by omega)]
   have a:=h.aO.ay i b y N (by rw[E,List.getElem?_append_left (by omega)];exact O);exact k.ay a (no a (by decide) (by decide))
  ·obtain⟨cs,t,a,l⟩:=h.aO.act.gZ e;exact no a (by rcases l with rfl | rfl <;> decide) (by rcases l with rfl | rfl <;> decide)
  ·obtain⟨cs,a⟩:=aF h.aO.lT e;exact no a (by decide) (by decide)
 ·rintro b (e | e | e | e)
  ·exact .inl (by rw[A];exact e)
  ·exact .inr (.inl e)
  ·exact jL ((List.dropLast_sublist _).subset e)
  ·exact BA e
theorem Tn(bv y z H n:Nat)(t:Tr)(x:Tg)(v:List Tg)(G:Lg)(m:Lm)(w:World)(a:bz w bv y z G m)(A:G.tr=v++[x])(D:v.length=n)(S:t.num=(n:Int)+1)(hlen:G.tp.length<1000000000)(hlt:n<1000000000)
 (d:au w H #[dh bv] 35) (i:au w (H+1) t.cells.toArray 56) :
 CT 211 #[dh H,dh (H+1)] w fun e w'=>e=.returned (.tuple #[]) /\
  ∃m',bz w' bv y z (Lg.told { G with tr:=v } 2 t) m'/\(∀b,m'.F b->m.F b\/w.heap.size<=b)/\aj (fun b=>b=bv\/m.tv.ownBlock=some b\/m.pv.ownBlock=some b) w w'/\m'.ac=m.ac/\m'.tb=m.tb.dropLast:=by
 obtain⟨tn,ts,tp,tq,DV,tse,td⟩:=t;simp only at S;subst S;have U:G.tr.length=n+1:=by rw[A,List.length_append,D];rfl
 have E:=a.aO.dJ;rw[U]at E;obtain⟨g,cap,c,l,f,hnc,hcm,hcz⟩:∃g cap c,m.tv=.slice (some ⟨g,0,none⟩) (n+1) cap/\au w g c 103/\n+1<=cap/\cap<=maxLen/\c.size=cap * 1:=by
  rcases E.2 with⟨_,h⟩ | ⟨g,cap,c,e,_,C,d,i,h3,_⟩
  ·omega
  ·exact⟨g,cap,c,e,C,d,i,h3⟩
 have T:m.tv.ownBlock=some g:=by rw[l];rfl
 have Y:=ai (fun (W:World) (k:aj aA w W)=>(a.ax k).abt A D l);obtain⟨r,p,u,HTv,N,K⟩:=nH a.cO d i l T f;obtain⟨Q,cn⟩:∃Q,w.cell? ⟨g,n,none⟩=some Q:=⟨c[n]'(by omega),(f.cell n).trans (Array.getElem?_eq_getElem (by omega))⟩;have fn:=f.frozen n;have x0:CC w H 0 (PP bv):=d.cell 0;have x1:CC w (H+1) 0 (II ((n:Int)+1)):=i.cell 0;have v2:CC w bv 2 (.slice (some ⟨g,0,none⟩) (n+1) cap):=(a.cO.cell 2).trans (by rw[<-l];rfl);have fv2:=a.cO.frozen 2;have hgb:¬g=bv:=au.ne f a.cO (by decide);have R:¬bv=g:=fun e=>hgb e.symm
 have hHg:¬H=g:=au.ne d f (by decide);have L:=ai (fun q=>BH g n cap (w.drewN q) _ (by omega) hnc cn fn);have ew4:IntKind.i64.wrap (n:Int)=(n:Int):=by rw[IntKind.wrap_i64];omega
 clear d i f l T E a A U D;simp only[dh];go_enter Tryz.func211,Tryz.ntmps211;go_wp2;go_region_with (first | (go_at_call 212;refine (ae L _).mono ?_;rintro e w2 ⟨rfl,V,o⟩;have HW2:=ai o;have c2:w2.cell? ⟨bv,2,none⟩=some (.slice (some ⟨g,0,none⟩) (n+1) cap):=(by rw[o];exact (au.cell ((((ae r).drewN _).drewN _).other R _) 2).trans (by rw[<-ae HTv];rfl));have f2:w2.frozen? ⟨bv,2,none⟩=false:=(by rw[o];exact au.frozen ((((ae r).drewN _).drewN _).other R _) 2);have y0:w2.cell? ⟨H,0,none⟩=some (PP bv):=(by rw[o];exact au.cell ((((ae p).drewN _).drewN _).other hHg _) 0);clear o))
 all_goals
  clear y0 c2 f2 cn fn x0 x1 v2 fv2 L;obtain⟨J,I⟩:=gy (w2.setCell ⟨bv,2,none⟩ (.slice (some ⟨g,0,none⟩) n cap));rw[<-I];have j:=ae Y _ (((aj.refl aA w).drewN 1).drewN V);rw[<-ae HW2,<-I]at j;have s:aj (fun b=>b=bv\/m.tv.ownBlock=some b) w J:=(((aj.refl _ w).drewN 1).drewN V).trans j.2.1;have O:=s.ay (ae p) (by
   rintro (e | e)
   ·exact au.ne (ae p) (ae r) (by decide) e
   ·rw[ae N]at e;exact au.ne (ae p) (ae K) (by decide) (Option.some.inj e).symm)
  have P:=s.ay (ae u) (by
   rintro (e | e)
   ·exact au.ne (ae u) (ae r) (by decide) e
   ·rw[ae N]at e;exact au.ne (ae u) (ae K) (by decide) (Option.some.inj e).symm)
  have y0:CC J H 0 (PP bv):=O.cell 0;obtain⟨t0,t1,t2,t3,t4,t5,t6⟩:=P.c7;have B:=yh bv y z _ _ 2 ⟨(n:Int)+1,ts,tp,tq,DV,tse,td⟩ J j.1 hlen;simp only[Tr.val]at B;obtain⟨Z,M,X⟩:=fK B s j;clear B j s O P I;go_wp2_with fail;refine (ae Z).mono ?_;rintro e w4 ⟨rfl,m',r1,r2,r3,r4,r5⟩;go_wp2;go_end0;refine⟨rfl,m',r1,fun b C=>(r2 b C).elim (fun h=>.inl ((ae X).2.2 b h)) (fun h=>.inr (Nat.le_trans (ae M).size h)),((ae M).mono (fun b h=>h.imp_right .inl)).trans (r3.mono (fun b h=>h.imp_right .inr)),r4,r5.1⟩
end Go.Proofs.YtigaphnafnpfnaaGreatDoor
