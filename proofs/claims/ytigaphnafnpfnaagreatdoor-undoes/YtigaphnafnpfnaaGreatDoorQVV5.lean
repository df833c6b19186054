import Derived.Test.YtigaphnafnpfnaaGreatDoorQVV4
import Derived.Test.YtigaphnafnpfnaaGreatDoorQVX11
set_option linter.unusedVariables false
set_option linter.unusedSimpArgs false
set_option maxHeartbeats 8000000
set_option maxRecDepth 100000
namespace Go.Proofs.YtigaphnafnpfnaaGreatDoor
open Go.RowKit
attribute [local go_sem ↓] Go.wp_at_zero Go.wp_at_succ
theorem jQ{w:World}{c:Nat}{B:Bk}{om:Nat->Ord}{a:Nat->Prop}(m:Mk w c B om a){x lo:Nat}{q:Bool}(f:a x):nZ w lo q (fun b=>b=x):=nZ.gZ (fun b h=>by
 subst h;obtain⟨g,d⟩:=m.bg _ f;exact⟨_,116,d,by rintro (e | e | e | e | e | e | e | e | ⟨_,e⟩) <;> exact absurd e (by decide)⟩)
theorem E8{w:World}{a:Nat}{B:Bk}{om:Nat->Ord}{c:Nat->Prop}(m:Mk w a B om c){lo:Nat}{q:Bool}:nZ w lo q (fun b=>b=a):=nZ.gZ (fun b h=>by
 subst h;exact⟨_,158,m.aW.ay,by rintro (e | e | e | e | e | e | e | e | ⟨_,e⟩) <;> exact absurd e (by decide)⟩)
theorem uf{w:World}{a:Nat}{B:Bk}{om:Nat->Ord}{c:Nat->Prop}(m:Mk w a B om c){s lo:Nat}{q:Bool}(hs:s<2)(xy:∀g,ig (B.sl s)=some g->g<lo):nZ w lo q (fun b=>b=a\/dn B s b):=fun b h=>by
 rcases h with h | h | ⟨k,d,h⟩
 ·exact E8 m b h
 ·exact .inl (xy b h)
 ·exact jQ m (m.mem s hs k d) b h
theorem O3(B:Bk)(om:Nat->Ord)(oc a s:Nat):(dO B om oc a s).sl=B.sl:=by
 unfold dO;split <;> rfl
theorem LH{B:Bk}{om:Nat->Ord}{oc s:Nat}(b:qX (B.n s) (B.h s))(d:0<B.n s)(k:Nat)(a:k<(dO B om oc (B.h s 0) s).n s):∃k',k'<B.n s/\(dO B om oc (B.h s 0) s).h s k=B.h s k':=by
 unfold dO at a ⊢;split at a
 ·rename_i h0;rw[if_pos h0];obtain⟨k',c,e,_⟩:=oL b d k a;exact⟨k',c,e⟩
 ·rename_i h0;rw[if_neg h0];exact⟨k,a,rfl⟩
theorem U1(bv c oc s z A:Nat)(a:MS)(lm:Lm)(p:Nat->Prop)(w:World)(bk:Nat->Nat)(lo:Nat)(G:List (List Value))(dP:List Nat)(cl:List Value)(hC:iy w bv bk lo false G a.lg.nt dP lm cl)(hlo:lo<=w.heap.size)(hbk:∀k,k<a.B.n s->bk (a.B.h s k)=c)(xy:∀g,ig (a.B.sl s)=some g->g<lo)(hv:bz w bv z A a.lg lm)(m:Mk w c a.B a.om p)(hs:s<2)(Y:p oc)(iv:su oc s a)(M:Nat)(hM:M<1000000000)(hl1:a.lg.tp.length+mu oc s a<=M)(hl2:a.lg.tr.length+mu oc s a<=M)(hna:0<a.lg.na)(kX:a.lg.na<=3000000)(hl3:a.lg.nt.length+4 * mu oc s a<=M) :
 CT 120 #[PP bv,PP c,PP oc] w fun e w'=>e=.returned (.tuple #[]) /\
  Mk w' c (mF oc s a).B (mF oc s a).om p/\(∃bG,bz w' bv z A (mF oc s a).lg bG/\(∀b,bG.F b->lm.F b\/w.heap.size<=b)/\∃ext T,iy w' bv bk lo false G (mF oc s a).lg.nt (dP++ext) bG T)/\su oc s (mF oc s a)/\aj (fun b=>b=bv\/lm.F b\/b=c\/b=oc\/dn a.B s b) w w':=by
 go_enter Tryz.func120,Tryz.ntmps120;go_wp2;go_loopg [6] (mu oc s a) (fun k _ wr=>∃(st:MS) (i:Lm),mu oc s st<=k/\bu oc s k st=mF oc s a/\Mk wr c st.B st.om p/\bz wr bv z A st.lg i/\su oc s st/\(∀b,dn st.B s b->dn a.B s b)/\aj (fun b=>b=bv\/lm.F b\/b=c\/b=oc\/dn a.B s b) w wr/\(∀b,i.F b->lm.F b\/w.heap.size<=b)/\st.lg.tp.length+k<=M/\st.lg.tr.length+k<=M/\st.lg.na=a.lg.na/\st.lg.nt.length+4 * k<=M/\st.B.sl s=a.B.sl s/\(∀k,k<st.B.n s->bk (st.B.h s k)=c)/\∃ext T,iy wr bv bk lo false G st.lg.nt (dP++ext) i T)
 case atStart=>exact⟨a,lm,Nat.le_refl _,rfl,m,hv,iv,fun _ h=>h,aj.refl _ _,fun _ h=>.inl h,hl1,hl2,rfl,hl3,rfl,hbk,[],cl,by rw[List.append_nil];exact hC⟩
 case round =>
  obtain⟨st,i,N,hm,m1,hv1,t,H,c1,hf1,hb1,hb2,X,hb4,hsl,hbk1,ext,VD,YA⟩:=hrel;obtain⟨L,I,J⟩:=fK hsl hbk1 YA;rw[<-X]at hna kX;obtain⟨K,u,HB3⟩:=fK hm hf1 X;clear hm m hv iv hf1 hl1 hl2 hl3 X hsl hbk1 YA hC hbk;obtain⟨ixc,l⟩:=m1.bg oc Y;have c8:CC wr oc 8 (II (st.om oc).aH):=l.cell 8;by_cases hp:0<(st.om oc).aH
  ·have Xa:CC wr oc 0 (II (st.om oc).id):=l.cell 0;have VC:CC wr oc 1 (II (st.om oc).aG):=l.cell 1;have Xb:CC wr oc 2 (.string (st.om oc).sym):=l.cell 2;have Xc:CC wr oc 3 (II (st.om oc).side):=l.cell 3;have Xd:CC wr oc 4 (II (st.om oc).kind):=l.cell 4;have Xe:CC wr oc 5 (II (st.om oc).af):=l.cell 5;have Xf:CC wr oc 6 (II (st.om oc).az):=l.cell 6;go_wp2_with fail;refine (kV c st.B st.om (bI (st.om oc)) s wr m1.aW hs t.side).mono ?_;rintro e w2 ⟨rfl,f⟩;have j:=m1.aC f idd (fun _ _ x=>x) (fun _ _ _ _ x=>x);have hv2:=hv1.ax f;clear Xa Xb Xc Xd Xe Xf c8;cases hf:dA st.B st.om (bI (st.om oc)) s
   ·have o:stops oc s st=true:=by simp[stops,hf]
    have HS:=ai o;clear hf o;simp only[ja];go_wp2
    try simp only[Exit.inBlock,Exit.then]
    refine bodyPost_ret (results_none rfl _ _ _) rfl ?_;have hfin:mF oc s a=st:=by rw[<-ae K,yK (ae HS)]
    rw[hfin];exact⟨rfl,j,⟨i,hv2,ae u,ext,VD,(ae J).ax f⟩,t,c1.trans f.aP⟩
   ·rename_i b;obtain⟨d,rfl⟩:=tu hf;have o:stops oc s st=false:=by simp[stops,hf,hp]
    obtain⟨iv3,mu3,P⟩:=pG t d hp;obtain⟨g,rfl⟩:∃g,gk=g+1:=⟨gk-1,by omega⟩;have hm3:bu oc s g (bF oc s st)=mF oc s a:=by rw[<-ae K,bu,o];rfl
    obtain⟨H3,HI,HU⟩:=fK hm3 iv3 mu3;clear hf o hm3 iv3 mu3 K;obtain⟨acA,abR⟩:=j.bg oc Y;obtain⟨acB,abU⟩:=j.bg _ (j.mem s hs 0 d);have a1:CC w2 oc 1 (II (st.om oc).aG):=abR.cell 1;have b1:CC w2 (st.B.h s 0) 1 (II (st.om (st.B.h s 0)).aG):=abU.cell 1;have i0:=t.mem 0 d;simp only[ja];by_cases v:(st.om (st.B.h s 0)).aG=(st.om oc).aG
    ·have e1:((st.om (st.B.h s 0)).aG == (st.om oc).aG)=true:=by simp[v]
     have S:Hid (bF oc s st=⟨st.B.leave st.om s 0,aK st.om (st.B.h s 0) (fZ (st.om (st.B.h s 0))),st.lg.aY [.left (st.B.h s 0),.fV (st.B.h s 0) (st.om (st.B.h s 0))]⟩):=by show _=_;unfold bF;rw[if_pos v]
     clear v VC;go_wp2;go_quiet (fail);go_wp2_with fail;have m2':=j.aC ((aj.refl aA w2).drewN nq) idd (fun _ _ x=>x) (fun _ _ _ _ x=>x);refine (qJ c st.B st.om p s 0 _ m2' hs d i0.1).mono ?_;rintro e Q ⟨W,U,rfl,f3,E,y⟩;clear a1 b1;go_wp2_with fail;refine (ni c (st.B.h s 0) _ st.om p _ E (j.mem s hs 0 d)).mono ?_;rintro e R ⟨YC,cp4,rfl,f4,m4,O⟩;have hv3:=(hv2.ax ((aj.refl aA w2).drewN nq)).jG y (fun b h=>m2'.gZ (by rcases h with h | h;exact .inl h;exact .inr (.inr ⟨s,hs,h⟩)));have hv4:=hv3.jG O (fun b h=>by subst h;exact E.gZ (.inr (.inl (j.mem s hs 0 d))));have Z:aj aA wr (w2.drewN nq):=f.drewN nq;have szw:=c1.size;have o3:nZ (w2.drewN nq) lo false (fun b=>b=c\/dn st.B s b):=uf m2' hs (by rw[ae L];exact xy);have o4:nZ Q lo false (fun b=>b=st.B.h s 0):=jQ E (j.mem s hs 0 d);have c4:=(((ae J).ax Z).aC y o3).aC O o4;have i3:bH Q bv bk lo (.left (st.B.h s 0)) (.func W #[] U):=⟨_,_,rfl,by
      show jr Q (bk (st.B.h s 0)) (st.B.h s 0) lo W U;rw[ae I 0 d];exact f3.mono (by have:=Z.size;omega)⟩
     have i3':=i3.aC (q:=false) (fun h=>by cases h) O o4;have i4:bH R bv bk lo (.fV (st.B.h s 0) (st.om (st.B.h s 0))) (.func YC #[] cp4):=⟨_,_,rfl,f4.mono (by have:=Z.size;have:=y.size;omega)⟩;have uS:=ai (vP bv z A _ i (.left (st.B.h s 0)) (.fV (st.B.h s 0) (st.om (st.B.h s 0))) W YC U cp4 R bk lo false G _ _ hv4 c4 (fun h=>by cases h) (fun h=>by cases h) i3' i4 hna kX (by omega));go_wp2_with fail;refine (ae uS).mono ?_;rintro e w5 ⟨rfl,TS,hv5,hf5,k5',-,c5⟩;have k5:aj (fun b=>i.F b) R w5:=k5'.mono (fun b h=>BA h);have Vt:=ai c5;clear c5 k5' c4 i3 i3' i4 o3 o4 f3 f4;go_wp2;go_roundg g
     case measure=>omega
     case rel =>
      have m5:=m4.jw hv4 (k5.mono (fun b h=>.inr h));have hh:=ae S;have D:=ae HI;have hu:=ae HU;have C:=ae H3;rw[hh]at D hu C P;have J3:aj (fun b=>b=bv\/lm.F b\/b=c\/b=oc\/dn a.B s b) w R:=((c1.trans f.aP).drewN _).trans ((y.mono (fun b h=>by rcases h with h | h;exact jL h;exact xA (H b h))).trans (O.mono (fun b h=>xA (H b (.inr ⟨0,d,h⟩)))));refine⟨_,TS,by omega,C,m5,hv5,D,fun b r=>H b (P b r),J3.from (k5.mono (fun b h=>(ae u b h).imp_left (fun h=>.inr (.inl h)))),fun b r=>?_,by simp only[Lg.aY];omega,by simp only[Lg.aY];omega,ae HB3,by simp only[Lg.aY,List.length_append,List.length_cons,List.length_nil];omega,ae L,fun k N=>?_,ext,_,ae Vt⟩
      ·rcases hf5 b r with h | h
       ·exact ae u b h
       ·exact .inr (Nat.le_trans J3.size h)
      ·obtain⟨k',hk',V,_⟩:=oL t.inj d k N;show bk ((st.B.leave st.om s 0).h s k)=c;rw[V];exact ae I k' hk'
    ·have e1:((st.om (st.B.h s 0)).aG == (st.om oc).aG)=false:=by simp[v]
     have S:Hid (bF oc s st=⟨dO st.B st.om oc (st.B.h s 0) s,aT st.om oc (st.B.h s 0),(dD st.lg st.om oc (st.B.h s 0)).lC (jg st.B st.om oc (st.B.h s 0))⟩):=by show _=_;unfold bF;rw[if_neg v]
     clear v VC;go_wp2;go_quiet (fail);go_wp2_with fail;refine (Vj bv c oc s z A st.lg i st.B st.om p _ bk lo G _ _ (((ae J).ax f).ax ((aj.refl aA w2).drewN _)) (by have:=c1.size;have:=f.size;have:=((aj.refl aA w2).drewN nq).size;omega) (ae I 0 d) (by rw[ae L];exact xy) (hv2.ax ((aj.refl aA w2).drewN _)) (j.aC ((aj.refl aA w2).drewN _) idd (fun _ _ x=>x) (fun _ _ _ _ x=>x)) hs d Y i0.2.2.2 i0.1 (by omega) (by omega) hna kX (by omega)).mono ?_;rintro e Q ⟨rfl,E,yX,hv3,hf3,y,x3,cl3,GM⟩;have PD:=ai GM;clear GM;clear a1 b1;go_wp2;go_roundg g
     case measure=>omega
     case rel =>
      have hh:=ae S;have D:=ae HI;have hu:=ae HU;have C:=ae H3;rw[hh]at D hu C P;have hsz:=((c1.trans f.aP).drewN nq).size;have g4:=yl st.lg st.om oc (st.B.h s 0);refine⟨_,yX,by omega,C,E,hv3,D,fun b r=>H b (P b r),((c1.trans f.aP).drewN _).from (y.mono (fun b h=>?_)),fun b r=>?_,by simp only[Lg.lC,Lg.told,Lg.aC,Lg.aY,qQ,List.length_append,List.length_cons,List.length_nil];omega,by simp only[Lg.lC,Lg.told,Lg.aC,Lg.aY,iw,List.length_append,List.length_cons,List.length_nil];omega,by simp only[Lg.lC,Lg.told,Lg.aC,Lg.aY,yj];exact ae HB3,by simp only[Lg.lC,Lg.told,Lg.aC,Lg.aY,List.length_append,List.length_cons,List.length_nil];omega,by show (dO st.B st.om oc (st.B.h s 0) s).sl s=_;rw[O3];exact ae L,fun k N=>?_,ext++[x3],cl3,by rw[<-List.append_assoc];exact ae PD⟩
      ·rcases h with h | h | h | h | h
       ·exact .inl (.inl h)
       ·exact (ae u b h).imp_left (fun h=>.inr (.inl h))
       ·exact .inl (jL h)
       ·exact .inl (iQ h)
       ·exact .inl (xA (H b h))
      ·rcases hf3 b r with h | h
       ·exact ae u b h
       ·exact .inr (Nat.le_trans hsz h)
      ·obtain⟨k',hk',V⟩:=LH (om:=st.om) (oc:=oc) t.inj d k N;show bk ((dO st.B st.om oc (st.B.h s 0) s).h s k)=c;rw[V];exact ae I k' hk'
  ·have o:stops oc s st=true:=by simp[stops,hp]
   have HS:=ai o;clear o;go_wp2;go_end0;have hfin:mF oc s a=st:=by rw[<-ae K,yK (ae HS)]
   rw[hfin];exact⟨rfl,m1,⟨i,hv1,ae u,ext,VD,ae J⟩,t,c1⟩
def xw(c:Value)(b:Nat):Prop:=∃fn cp,c=.func fn #[] cp/\dh b∈cp.toList
theorem fH{a b:Nat}(h:dh a=dh b):a=b:=by
 simp only[dh,Value.pointer.injEq,Option.some.injEq,Addr.mk.injEq]at h;exact h.1
theorem bH.cap{w:World}{bv:Nat}{bk:Nat->Nat}{lo:Nat}{j:dU}{c:Value}(h:bH w bv bk lo j c){b:Nat}(l:xw c b):lo<=b/\b<w.heap.size:=by
 obtain⟨fn,n,rfl,h⟩:=h;obtain⟨q,o,e,a⟩:=l;simp only[Value.func.injEq]at e;obtain⟨_,_,rfl⟩:=e;cases j with
 | fV b od =>
   obtain⟨e,H,h0,rfl,d,f⟩:=h;have:=d.lt;have:=f.lt;simp at a;rcases a with a | a <;> (have:=fH a;omega)
 | left b =>
   obtain⟨e,H,h0,rfl,d,f⟩:=h;have:=d.lt;have:=f.lt;simp at a;rcases a with a | a <;> (have:=fH a;omega)
 | eQ b p =>
   obtain⟨e,H,h0,rfl,⟨d,f⟩,g⟩:=h;have:=d.lt;have:=f.lt;have:=g.lt;simp at a;rcases a with a | a | a <;> (have:=fH a;omega)
 | entered id =>
   obtain⟨e,H,cs,h0,rfl,d,f,g⟩:=h;have:=d.lt;have:=f.lt;simp at a;rcases a with a | a <;> (have:=fH a;omega)
 | bU s =>
   obtain⟨e,H,i,h0,k,rfl,d,f⟩:=h;have:=d.lt;have:=f.lt;simp at a;rcases a with a | a <;> (have:=fH a;omega)
 | jh t =>
   obtain⟨e,H,h0,rfl,d,f⟩:=h;have:=d.lt;have:=f.lt;simp at a;rcases a with a | a <;> (have:=fH a;omega)
 | jV tb =>
   obtain⟨e,H,i,h0,k,rfl,d,f⟩:=h;have:=d.lt;have:=f.lt;simp at a;rcases a with a | a <;> (have:=fH a;omega)
 | iV tb p =>
   obtain⟨e,H,i,m,h0,k,r,rfl,d,f,g⟩:=h;have:=d.lt;have:=f.lt;have:=g.lt;simp at a;rcases a with a | a | a <;> (have:=fH a;omega)
 | closed =>
   obtain⟨e,H,h0,rfl,d⟩:=h;have:=d.lt;simp at a;have:=fH a;omega
theorem iy.cap{w:World}{bv:Nat}{bk:Nat->Nat}{lo:Nat}{q:Bool}{j:List (List Value)}{nt:List dU}{dP:List Nat}{m:Lm}{a:List Value}(h:iy w bv bk lo q j nt dP m a){c:Value}(g:c∈a){b:Nat}(f:xw c b):lo<=b/\b<w.heap.size:=by
 obtain⟨i,d⟩:=List.mem_iff_getElem?.1 g;have e:=(List.getElem?_eq_some_iff.1 d).1;rw[h.len]at e;exact (h.pU i _ c (List.getElem?_eq_getElem e) d).cap f
theorem Ya(c a s:Nat)(B:Bk)(om:Nat->Ord)(A:Int)(w:World)(d:bM w c B om)(j:bV w a (om a) A)(hs:s<2)(Z:(om a).side=(s:Int))(y:∀t,t<2->∀k,k<B.n t->B.h t k≠a)(X:B.n s<1000) :
 CT 122 #[PP c,PP a] w fun e w'=>e=.returned (.func (.func 153) #[] #[PP w.heap.size,PP (w.heap.size+1),PP (w.heap.size+2)])/\wE w' w.heap.size c a (om a).place /\
  ∃g cap',bM w' c (B.rest (aK om a { om a with place:=wrap64 (B.places+1) }) s a g cap') (aK om a { om a with place:=wrap64 (B.places+1) })/\aj (fun b=>b=c\/b=a\/dn B s b) w w'/\(ig (B.sl s)=some g\/w.heap.size+3<=g):=by
 have H:a≠c:=au.ne j d.ay (by decide);obtain⟨dG,m⟩:=gy (aK om a { om a with place:=wrap64 (B.places+1) });rw[<-m];obtain⟨f,l⟩:=gy ((w.setCell ⟨c,3,none⟩ (II (wrap64 (B.places+1)))).setCell ⟨a,12,none⟩ (II (wrap64 (B.places+1))));have C:aj (fun b=>b=c\/b=a) w f:=by
  rw[l];exact ((aj.refl (fun b=>b=c\/b=a) w).setCell (p:=⟨c,3,none⟩) (.inl (.inl rfl)) _).setCell (p:=⟨a,12,none⟩) (.inl (.inr rfl)) _
 have z:f.heap.size=w.heap.size:=by rw[l];simp[World.setCell]
 have E:au f c (B.cells.setIfInBounds 3 (II (wrap64 (B.places+1)))) 158:=by rw[l];exact (d.ay.set 3 _).other (fun e=>H e.symm) _
 have I:bV f a (dG a) A:=by rw[l,m,ah];exact (j.other H _).set 12 _
 have K:∀t,t<2->jk f (B.sl t) (B.n t) (B.cap t) (B.h t) dG:=fun t o=>((d.side t o).aC C (fun b h hx=>by
  rcases hx with rfl | rfl
  ·exact d.L8 o h
  ·rcases h with h | ⟨k,v,e⟩
   ·exact (d.side t o).ne j (by decide) h
   ·exact y t o k v e.symm)).om (fun k v=>by rw[m,ag _ _ (y t o k v)])
 have F:bM f c { B with places:=wrap64 (B.places+1) } dG:=⟨E,K,d.apart,d.vI⟩;obtain⟨i,q⟩:=gy ((((f.alloc (.cells #[PP c] 111)).alloc (.cells #[PP a] 114)).alloc (.cells #[II (om a).place] 3)).drew);have r:aj aA f i:=by rw[q];exact ((((aj.refl aA f).alloc _).alloc _).alloc _).drew
 have Y:i.heap.size=w.heap.size+3:=by rw[q];simp[z]
 have u:wE i w.heap.size c a (om a).place:=by
  rw[q,<-z];exact⟨⟨((au.new f _ _).alloc _).alloc _,(au.qm f _ _ _).alloc _⟩,au.MR f _ _ _ _⟩
 have J:=CQ c a s { B with places:=wrap64 (B.places+1) } dG A i (F.aC r (fun _ _ x=>x)) (r.ay I idd) hs (by rw[m,ah];exact Z) y X;have lb:=d.ay.lt;have lo:=j.lt;have M:∀b,dn B s b->b<w.heap.size:=fun b h=>d.DL hs h
 have O:Hid (∀w',(∃g cap',bM w' c (Bk.push { B with places:=wrap64 (B.places+1) } dG s a g cap') dG/\aj (fun b=>b=c\/b=a\/dn { B with places:=wrap64 (B.places+1) } s b) i w'/\(ig (B.sl s)=some g\/i.heap.size<=g)) ->
  wE w' w.heap.size c a (om a).place/\∃g cap',bM w' c (B.rest dG s a g cap') dG/\aj (fun b=>b=c\/b=a\/dn B s b) w w'/\(ig (B.sl s)=some g\/w.heap.size+3<=g)):=by
  rintro w' ⟨g,cap',V,D,W⟩;have out:∀b,w.heap.size<=b->¬(b=c\/b=a\/dn B s b):=by
   rintro b h (e | e | e)
   ·omega
   ·omega
   ·have:=M b e;omega
  refine⟨u.aC (S:=fun b=>b=c\/b=a\/dn B s b) D (out _ (Nat.le_refl _)) (out _ (by omega)) (out _ (by omega)),g,cap',V,((C.mono (fun b d=>by rcases d with h | h;exact .inl h;exact .inr (.inl h))).trans r.aP).trans D,W.imp_right (fun h=>?_)⟩;omega
 have P:=ai J;have Q:Hid (i=(((((w.setCell ⟨c,3,none⟩ (II (wrap64 (B.places+1)))).setCell ⟨a,12,none⟩ (II (wrap64 (B.places+1)))).alloc (.cells #[PP c] 111)).alloc (.cells #[PP a] 114)).alloc (.cells #[II (om a).place] 3)).drew):=by
  show _=_;rw[q,l]
 have R:CC w c 3 (II B.places):=d.ay.cell 3;have T:=d.ay.frozen 3;have XY:CC w a 12 (II (om a).place):=j.cell 12;have U:=j.frozen 12;have y0:CC i w.heap.size 0 (PP c):=u.vS.aW.cell 0;have y1:CC i (w.heap.size+1) 0 (PP a):=u.vS.ord.cell 0;have lb1:c<w.heap.size+1:=by omega
 have lb2:c<w.heap.size+1+1:=by omega
 have lo1:a<w.heap.size+1:=by omega
 have lo2:a<w.heap.size+1+1:=by omega
 have VV:w.heap.size<w.heap.size+1+1:=by omega
 have nb1:¬w.heap.size=c:=by omega
 have nb2:¬w.heap.size+1=c:=by omega
 clear J K I E C m q l F M z Y r u;go_enter Tryz.func122,Tryz.ntmps122;go_wp2;go_region;rw[<-ae Q];clear R T XY U;go_wp2_with fail;refine (ae P).mono ?_;rintro e w2 ⟨rfl,L⟩;have G:=ae O w2 L;have N:=ai G;clear G L;go_wp2;go_ret;exact⟨rfl,ae N⟩
theorem Fz(c a s:Nat)(B:Bk)(om:Nat->Ord)(i:Int)(w:World)(l:bM w c B om)(r:bV w a (om a) i)(hs:s<2)(u:(om a).side=(s:Int))(q:∀t,t<2->∀k,k<B.n t->B.h t k≠a)(p:B.n s<1000) :
 CT 122 #[PP c,PP a] w fun e w'=>∃fn f,e=.returned (.func fn #[] f)/\lq w' c a (om a).place w.heap.size fn f/\(∀b,xw (.func fn #[] f) b->b<w.heap.size+3) /\
  ∃g cap',bM w' c (B.rest (aK om a { om a with place:=wrap64 (B.places+1) }) s a g cap') (aK om a { om a with place:=wrap64 (B.places+1) })/\aj (fun b=>b=c\/b=a\/dn B s b) w w'/\(ig (B.sl s)=some g\/w.heap.size+3<=g):=by
 refine (Ya c a s B om i w l r hs u q p).mono ?_;rintro e w' ⟨rfl,h0,j⟩;refine⟨_,_,rfl,⟨rfl,_,Nat.le_refl _,rfl,h0⟩,fun b m=>?_,j⟩;obtain⟨fn,f,e,o⟩:=m;simp only[Value.func.injEq]at e;obtain⟨_,_,rfl⟩:=e;have d:dh b∈[dh w.heap.size,dh (w.heap.size+1),dh (w.heap.size+2)]:=o;simp at d;rcases d with d | d | d <;> (have:=fH d;omega)
theorem ed.lW{lt b:Nat->Nat->Bool}{n:Nat}{h:Nat->Nat}(ok:ed lt n h)(c:∀j k,j<n->k<n->b (h j) (h k)=lt (h j) (h k)):ed b n h:=by
 intro k h0 a;rw[c k (par k) a (by unfold par;omega)];exact ok k h0 a
theorem tN{om dG:Nat->Ord}{x y:Nat}(a:(dG x).side=(om x).side/\(dG x).af=(om x).af/\(dG x).place=(om x).place)(b:(dG y).af=(om y).af/\(dG y).place=(om y).place):fE dG x y=fE om x y:=by
 unfold fE jm kP;rw[a.1,a.2.1,a.2.2,b.1,b.2]
structure GB(B:Bk)(om:Nat->Ord)(sym:ByteArray)(L:Nat->Prop):Prop where
 lV:B.sym=sym
 mem:∀s,s<2->∀x,Mem (B.n s) (B.h s) x↔(L x/\(om x).sym=sym/\(om x).side=(s:Int)/\0<(om x).aH)
 heap:∀s,s<2->ed (fE om) (B.n s) (B.h s)
 inj:∀s,s<2->qX (B.n s) (B.h s)
 qG:∀x y,Mem (B.n 0) (B.h 0) x->Mem (B.n 1) (B.h 1) y->(om x).af<(om y).af
theorem GB.side{B:Bk}{om:Nat->Ord}{sym:ByteArray}{a:Nat->Prop}(h:GB B om sym a){s k:Nat}(hs:s<2)(b:k<B.n s):(om (B.h s k)).side=(s:Int):=((h.mem s hs _).1 ⟨k,b,rfl⟩).2.2.1
theorem GB.lW{B:Bk}{om dG:Nat->Ord}{sym:ByteArray}{l L':Nat->Prop}(h:GB B om sym l)(o:∀x,(L' x/\(dG x).sym=sym/\0<(dG x).aH)↔(l x/\(om x).sym=sym/\0<(om x).aH))(m:∀x,l x->(om x).sym=sym->0<(om x).aH->(dG x).side=(om x).side/\(dG x).af=(om x).af/\(dG x).place=(om x).place):GB B dG sym L':=by
 have g:∀s,s<2->∀x,Mem (B.n s) (B.h s) x->(dG x).side=(om x).side/\(dG x).af=(om x).af/\(dG x).place=(om x).place:=fun s hs x i=>by
  obtain⟨a,b,_,d⟩:=(h.mem s hs x).1 i;exact m x a b d
 refine⟨h.lV,fun s hs x=>?_,fun s hs=>(h.heap s hs).lW (fun j k q r=>?_),h.inj,fun x y i p=>?_⟩
 ·rw[h.mem s hs x];constructor
  ·rintro⟨a,b,c,d⟩;obtain⟨e,b',f⟩:=(o x).2 ⟨a,b,d⟩;exact⟨e,b',by rw[(m x a b d).1];exact c,f⟩
  ·rintro⟨a,b,c,d⟩;obtain⟨e,b',f⟩:=(o x).1 ⟨a,b,d⟩;exact⟨e,b',by rw[<-(m x e b' f).1];exact c,f⟩
 ·exact tN (g s hs _ ⟨j,q,rfl⟩) (g s hs _ ⟨k,r,rfl⟩).2
 ·rw[(g 0 (by omega) x i).2.1,(g 1 (by omega) y p).2.1];exact h.qG x y i p
theorem yI{a side af p:Int}(h:iC a side af p=false)(b:a≠5):if side=0 then af<p else p<af:=by
 unfold iC at h;rw[if_neg b]at h;split at h
 ·rename_i e;rw[if_pos e];simpa using h
 ·rename_i e;rw[if_neg e];simpa using h
theorem NS{B:Bk}{om:Nat->Ord}{lg:Lg}{sym:ByteArray}{r:Nat->Prop}{M:Int}{oc s t g cap':Nat}(hM:M<=1000000000000000)(hs:s<2)(ht:t=1-s)
 (V:r oc) (mf:(om oc).sym=sym) (X:(om oc).side=(t:Int)) (J:∀x,r x->Qo M (om x)) (i:GB B om sym (fun x=>r x/\x≠oc)) :
 su oc s ⟨B,om,lg⟩/\GB (dX oc t g cap' (mF oc s ⟨B,om,lg⟩)) (aI oc (mF oc s ⟨B,om,lg⟩)) sym r/\(∀x,r x->Qo M (aI oc (mF oc s ⟨B,om,lg⟩) x)) /\
  PR oc s M ⟨B,om,lg⟩ (mF oc s ⟨B,om,lg⟩)/\(∀x,x≠oc->qi (om x) (aI oc (mF oc s ⟨B,om,lg⟩) x))/\(∀x,x≠oc->((om x).sym≠sym\/¬0<(om x).aH\/¬r x)->aI oc (mF oc s ⟨B,om,lg⟩) x=om x):=by
 have t2:t<2:=by omega
 have hts:(t:Int)≠(s:Int):=by omega
 have iv:su oc s ⟨B,om,lg⟩:=by
  refine⟨fun k o=>?_,i.inj s hs,(J oc V).o0,?_,by show (om oc).side=_;rw[X];omega⟩
  ·obtain⟨⟨a,a'⟩,b,c,l⟩:=(i.mem s hs _).1 ⟨k,o,rfl⟩;have q:=J _ a;exact⟨c,l,by have:=q.sum;have:=q.f0;have:=q.c0;have:=q.e0;have:=q.hi;show (om (B.h s k)).aH<=_;omega,a'⟩
  ·have q:=J oc V;have:=q.sum;have:=q.f0;have:=q.c0;have:=q.e0;have:=q.hi;show (om oc).aH<=_;omega
 have VM:∀x,Mem (B.n s) (B.h s) x->r x/\x≠oc:=fun x d=>((i.mem s hs x).1 d).1
 have w:PR oc s M ⟨B,om,lg⟩ (mF oc s ⟨B,om,lg⟩):=KI hM _ _ iv (i.heap s hs) (fun x d=>by
  rcases d with rfl | d
  ·exact J _ V
  ·exact J x (VM x d).1)
 have stp:stops oc s (mF oc s ⟨B,om,lg⟩)=true:=EX _ _ iv (Nat.le_refl _);obtain⟨f1,f2,f3,f4,f5⟩:=jB oc s (mu oc s ⟨B,om,lg⟩) ⟨B,om,lg⟩;change ∀t,t≠s->(mF oc s ⟨B,om,lg⟩).B.n t=B.n t/\(mF oc s ⟨B,om,lg⟩).B.h t=B.h t at f1;change (mF oc s ⟨B,om,lg⟩).B.sym=B.sym at f4;have v:=f1 t (by omega);generalize hst:mF oc s ⟨B,om,lg⟩=st at *;have rq:=w.q;have H:=w.mem;have We:=w.gone;have Wh:=w.heap;have K:=w.FZ;have z:=w.oH;simp only at rq H We K z;have D:Qo M (st.om oc):=rq oc (.inl rfl);have U:=z oc;have q1:∀x,r x->Qo M (st.om x):=fun x d=>by
  by_cases e:x=oc
  ·rw[e];exact D
  ·by_cases p:Mem (B.n s) (B.h s) x
   ·exact rq x (.inr p)
   ·rw[K x e p];exact J x d
 have m:∀x,x≠oc->aI oc st x=st.om x:=fun x h=>ru oc st h
 have coc:Qo M (aI oc st oc)/\(aI oc st oc).sym=sym/\(aI oc st oc).side=(t:Int)/\(aI oc st oc).af=(st.om oc).af/\(df (st.om oc)=true->(aI oc st oc).aH=(st.om oc).aH)/\(df (st.om oc)=false->(aI oc st oc).aH=0):=by
  unfold aI;cases hw:df (st.om oc)
  ·simp only[Bool.false_eq_true,if_false,ah];exact⟨(D.aX hM).1,U.2.2.1.trans mf,U.2.2.2.1.trans X,by first | rfl | trivial,fun h=>by simp at h,fun _=>by first | rfl | trivial⟩
  ·simp only[if_true,ah];exact⟨⟨D.sum,D.o0,D.f0,D.c0,D.e0,D.hi⟩,U.2.2.1.trans mf,U.2.2.2.1.trans X,by first | rfl | trivial,fun _=>by first | rfl | trivial,fun h=>by simp at h⟩
 obtain⟨c1,c2,Y,c4,c5,c6⟩:=coc;have C:∀x,Mem (B.n t) (B.h t) x->(r x/\x≠oc)/\aI oc st x=om x:=fun x d=>by
  obtain⟨a,b,c,l⟩:=(i.mem t t2 x).1 d;refine⟨a,?_⟩;rw[m x a.2];exact K x a.2 (fun p=>hts ((((i.mem t t2 x).1 d).2.2.1).symm.trans ((i.mem s hs x).1 p).2.2.1))
 have R:∀x,Mem (st.B.n s) (st.B.h s) x->(r x/\x≠oc)/\0<(st.om x).aH:=fun x d=>by
  refine⟨VM x (H x d),?_⟩;obtain⟨k,o,e⟩:=d;rw[e];exact (w.inv.mem k o).2.1
 have inS:∀x,r x->x≠oc->(st.om x).sym=sym->(st.om x).side=(s:Int)->0<(st.om x).aH->Mem (st.B.n s) (st.B.h s) x:=fun x G A L I N=>by
  by_cases p:Mem (B.n s) (B.h s) x
  ·by_cases hm1:Mem (st.B.n s) (st.B.h s) x
   ·exact hm1
   ·have:=We x p hm1;omega
  ·rw[K x A p]at L I N;exact absurd ((i.mem s hs x).2 ⟨⟨G,A⟩,L,I,N⟩) p
 have inT:∀x,r x->x≠oc->(st.om x).sym=sym->(st.om x).side=(t:Int)->0<(st.om x).aH->Mem (B.n t) (B.h t) x:=fun x G A L I N=>by
  have p:¬Mem (B.n s) (B.h s) x:=fun p=>hts (((z x).2.2.2.1.symm.trans I).symm.trans ((i.mem s hs x).1 p).2.2.1)
  rw[K x A p]at L I N;exact (i.mem t t2 x).2 ⟨⟨G,A⟩,L,I,N⟩
 have ltS:ed (fE (aI oc st)) (st.B.n s) (st.B.h s):=Wh.lW (fun j k hj o=>by
  have G:=(R _ ⟨j,hj,rfl⟩).1.2;have A:=(R _ ⟨k,o,rfl⟩).1.2;exact tN (by rw[m _ G];exact⟨rfl,rfl,rfl⟩) (by rw[m _ A];exact⟨rfl,rfl⟩))
 have ltT:ed (fE (aI oc st)) (B.n t) (B.h t):=(i.heap t t2).lW (fun j k hj o=>by
  have G:=(C _ ⟨j,hj,rfl⟩).2;have A:=(C _ ⟨k,o,rfl⟩).2;exact tN (by rw[G];exact⟨rfl,rfl,rfl⟩) (by rw[A];exact⟨rfl,rfl⟩))
 have T:∀x,Mem (st.B.n s) (st.B.h s) x->(aI oc st x).af=(om x).af:=fun x d=>by
  rw[m x (R x d).1.2];exact (z x).2.2.2.2.2.1
 have aaX:∀x,x≠oc->qi (om x) (aI oc st x):=fun x d=>by rw[m x d];exact z x
 have keep':∀x,x≠oc->((om x).sym≠sym\/¬0<(om x).aH\/¬r x)->aI oc st x=om x:=fun x d h=>by
  rw[m x d];refine K x d (fun p=>?_);obtain⟨⟨a,_⟩,b,_,l⟩:=(i.mem s hs x).1 p;rcases h with h | h | h
  ·exact h b
  ·exact h l
  ·exact h a
 have DY:∀x,x<2->x=s\/x=t:=by omega
 refine⟨iv,?_,fun x d=>?_,w,aaX,keep'⟩
 ·cases hw:df (st.om oc)
  ·have hB:dX oc t g cap' st=st.B:=by unfold dX;rw[hw];rfl
   rw[hB];have o0:=c6 hw;refine⟨f4.trans i.lV,fun y f x=>?_,fun y f=>?_,fun y f=>?_,fun x y d f=>?_⟩
   ·rcases DY y f with rfl | rfl
    ·constructor
     ·intro d;obtain⟨⟨a,b⟩,l⟩:=R x d;have h0:=(i.mem y hs x).1 (H x d);exact⟨a,by rw[m x b];exact (z x).2.2.1.trans h0.2.1,by rw[m x b];exact (z x).2.2.2.1.trans h0.2.2.1,by rw[m x b];exact l⟩
     ·rintro⟨a,b,c,l⟩;have u:x≠oc:=fun e=>by rw[e,o0]at l;omega
      rw[m x u]at b c l;exact inS x a u b c l
    ·rw[v.1,v.2];constructor
     ·intro d;obtain⟨⟨a,b⟩,e⟩:=C x d;have h0:=(i.mem y t2 x).1 d;rw[e];exact⟨a,h0.2⟩
     ·rintro⟨a,b,c,l⟩;have u:x≠oc:=fun e=>by rw[e,o0]at l;omega
      rw[m x u]at b c l;exact inT x a u b c l
   ·rcases DY y f with rfl | rfl
    ·exact ltS
    ·rw[v.1,v.2];exact ltT
   ·rcases DY y f with rfl | rfl
    ·exact w.inv.inj
    ·rw[v.1,v.2];exact i.inj y t2
   ·have key:∀E,(E=0\/E=1)->∀x,Mem (st.B.n E) (st.B.h E) x->Mem (B.n E) (B.h E) x/\(aI oc st x).af=(om x).af:=fun E hz x d=>by
     rcases DY E (by omega) with e | e
     ·rw[e]at d ⊢;exact⟨H x d,T x d⟩
     ·rw[e,v.1,v.2]at d;rw[e];exact⟨d,by rw[(C x d).2]⟩
    obtain⟨a1,a2⟩:=key 0 (.inl rfl) x d;obtain⟨b1,b2⟩:=key 1 (.inr rfl) y f;rw[a2,b2];exact i.qG x y a1 b1
  ·have hB:dX oc t g cap' st=st.B.rest (aI oc st) t oc g cap':=by unfold dX;rw[hw];rfl
   rw[hB];have hop:0<(st.om oc).aH:=by simp[df]at hw;exact hw.1
   have hk5:(st.om oc).kind≠5:=by
    simp only[df,dS,Bool.and_eq_true,Bool.or_eq_true,beq_iff_eq]at hw;omega
   have oo:=c5 hw;have S:(st.B.rest (aI oc st) t oc g cap').n s=st.B.n s:=by simp only[Bk.rest];rw[ag _ _ (by omega)]
   have O:(st.B.rest (aI oc st) t oc g cap').h s=st.B.h s:=by simp only[Bk.rest];rw[ag _ _ (by omega)]
   have nT:(st.B.rest (aI oc st) t oc g cap').n t=B.n t+1:=by simp only[Bk.rest,ah,v.1]
   have hT:(st.B.rest (aI oc st) t oc g cap').h t=uQ (fE (aI oc st)) (fun k=>if k=B.n t then oc else B.h t k) (B.n t):=by simp only[Bk.rest,ah,v.1,v.2]
   have mT:∀x,Mem ((st.B.rest (aI oc st) t oc g cap').n t) ((st.B.rest (aI oc st) t oc g cap').h t) x↔Mem (B.n t) (B.h t) x\/x=oc:=fun x=>by rw[nT,hT];exact jf _ _ _
   have bad:∀y,Mem (st.B.n s) (st.B.h s) y->if (t:Int)=0 then (aI oc st oc).af<(om y).af else (om y).af<(aI oc st oc).af:=by
    intro y f;have W:dA st.B st.om (bI (st.om oc)) s=none:=by
     simp only[stops,Bool.or_eq_true,Bool.not_eq_true',decide_eq_false_iff_not]at stp;rcases stp with h | h
     ·exact absurd hop h
     ·simpa using h
    obtain⟨k,o,e⟩:=f;have hn0:st.B.n s≠0:=by omega
    unfold dA at W;rw[if_neg hn0]at W;have hg:iC (bI (st.om oc)).kind (bI (st.om oc)).side (bI (st.om oc)).af (st.om (st.B.h s 0)).af=false:=by
     split at W
     ·simp at W
     ·rename_i h;simpa using h
    have P:=yI hg hk5;have hsd:(bI (st.om oc)).side=(t:Int):=U.2.2.2.1.trans X;rw[hsd]at P;have QK:∀k,k<st.B.n s->(st.om (st.B.h s k)).side=(s:Int):=fun k o=>(w.inv.mem k o).1
    have hmin:=A7 (l9 st.om (s:Int)) Wh QK k o;have Q:=(iF _ _).1 hmin;rw[QK k o]at Q;have hp0:(st.om y).af=(om y).af:=(z y).2.2.2.2.2.1;rw[c4];rw[<-e]at Q;rw[hp0]at Q;show if (t:Int)=0 then (st.om oc).af<(om y).af else (om y).af<(st.om oc).af
    have hap:(bI (st.om oc)).af=(st.om oc).af:=rfl;rw[hap]at P;by_cases e0:(t:Int)=0
    ·rw[if_pos e0]at P ⊢;have es:¬(s:Int)=0:=by omega
     rw[if_neg es]at Q;omega
    ·rw[if_neg e0]at P ⊢;have es:(s:Int)=0:=by omega
     rw[if_pos es]at Q;omega
   refine⟨f4.trans i.lV,fun y f x=>?_,fun y f=>?_,fun y f=>?_,fun x y d f=>?_⟩
   ·rcases DY y f with e | e
    ·rw[e,S,O];constructor
     ·intro d;obtain⟨⟨a,b⟩,l⟩:=R x d;have h0:=(i.mem s hs x).1 (H x d);exact⟨a,by rw[m x b];exact (z x).2.2.1.trans h0.2.1,by rw[m x b];exact (z x).2.2.2.1.trans h0.2.2.1,by rw[m x b];exact l⟩
     ·rintro⟨a,b,c,l⟩;have u:x≠oc:=fun e=>by rw[e,Y]at c;exact hts c
      rw[m x u]at b c l;exact inS x a u b c l
    ·rw[e,mT x];constructor
     ·rintro (d | d)
      ·obtain⟨⟨a,b⟩,e⟩:=C x d;have h0:=(i.mem t t2 x).1 d;rw[e];exact⟨a,h0.2⟩
      ·rw[d];exact⟨V,c2,Y,by rw[oo];exact hop⟩
     ·rintro⟨a,b,c,l⟩;by_cases u:x=oc
      ·exact .inr u
      ·rw[m x u]at b c l;exact .inl (inT x a u b c l)
   ·rcases DY y f with e | e
    ·rw[e,S,O];exact ltS
    ·rw[e,nT,hT];refine Ff (l9 (aI oc st) (t:Int)) _ _ Y (fun k o=>?_) ltT;rw[(C _ ⟨k,o,rfl⟩).2];exact i.side t2 o
   ·rcases DY y f with e | e
    ·rw[e,S,O];exact w.inv.inj
    ·rw[e,nT,hT];refine qX.up ?_ (by omega);intro a b ha P F;simp only at F;have hno:∀k,k<B.n t->B.h t k≠oc:=fun k o=>((C _ ⟨k,o,rfl⟩).1).2
     by_cases Z:a=B.n t <;> by_cases eb:b=B.n t
     ·omega
     ·rw[if_pos Z,if_neg eb]at F;exact absurd F.symm (hno b (by omega))
     ·rw[if_neg Z,if_pos eb]at F;exact absurd F (hno a (by omega))
     ·rw[if_neg Z,if_neg eb]at F;exact i.inj t t2 a b (by omega) (by omega) F
   ·have h01:(s=0/\t=1)\/(s=1/\t=0):=by omega
    rcases h01 with⟨rfl,rfl⟩ | ⟨rfl,rfl⟩
    ·rw[S,O]at d;rw[mT y]at f;rcases f with f | f
     ·rw[T x d,(C y f).2];exact i.qG x y (H x d) f
     ·have:=bad x d;rw[if_neg (by decide)]at this;rw[f,T x d];exact this
    ·rw[mT x]at d;rw[S,O]at f;rcases d with d | d
     ·rw[T y f,(C x d).2];exact i.qG x y d (H y f)
     ·have:=bad y f;rw[if_pos (by decide)]at this;rw[d,T y f];exact this
 ·by_cases e:x=oc
  ·rw[e];exact c1
  ·rw[m x e];exact q1 x d
def oI(s:Int)(last:Option Int)(p:Int):Bool:=match last with
 | none=>true
 | some q=>if s=0 then decide (p<q) else decide (q<p)
def wG(s:Int)(b:iT)(p:Int):Bool:=if b.num=0 then true else if s=0 then decide (b.af<p) else decide (p<b.af)
def pF(b:iT)(o:Ord):iT:=⟨b.af,wrap64 (b.az+o.aH),wrap64 (b.num+1)⟩
def lU(sym:ByteArray)(s:Int)(last:Option Int)(b:iT)(o:Ord):iT :=
 if o.sym≠sym\/o.side≠s\/o.aH=0 then b else if oI s last o.af=false then b
 else if wG s b o.af=true then pF ⟨o.af,0,0⟩ o else if o.af=b.af then pF b o else b
def Jo(l:List Ord)(sym:ByteArray)(s:Int)(last:Option Int):Nat->iT
 | 0=>⟨0,0,0⟩
 | i+1=>lU sym s last (Jo l sym s last i) (ak l i)
def fU(out:List iT):Option Int:=out.getLast?.map iT.af
def kT(l:List Ord)(sym:ByteArray)(s:Int)(out:List iT):iT:=Jo l sym s (fU out) l.length
inductive nY (l:List Ord) (sym:ByteArray) (s:Int):Nat->List iT->List iT->Prop
 | stop (f:Nat) (out:List iT) (h:(kT l sym s out).num=0):nY l sym s f out out
 | go (f:Nat) (out out':List iT) (h:(kT l sym s out).num≠0) (e:nY l sym s f (out++[kT l sym s out]) out'):nY l sym s (f+1) out out'
theorem nY.inv{l:List Ord}{sym:ByteArray}{s:Int}{q:Nat}{out b:List iT}(h:nY l sym s q out b):(b=out/\(kT l sym s out).num=0)\/∃a,q=a+1/\(kT l sym s out).num≠0/\nY l sym s a (out++[kT l sym s out]) b:=by
 cases h with
 | stop _ _ hs=>exact .inl ⟨rfl,hs⟩
 | go a _ _ h e=>exact .inr ⟨a,rfl,h,e⟩
theorem Gu(sym:ByteArray)(s:Int)(last:Option Int)(b:iT)(o:Ord) :
 ((o.sym.toList == sym.toList)=false/\lU sym s last b o=b) \/
 (o.sym=sym/\(o.side == s)=false/\lU sym s last b o=b) \/
 (o.sym=sym/\o.side=s/\o.aH=0/\lU sym s last b o=b) \/
 (o.sym=sym/\o.side=s/\(o.aH == 0)=false/\(
   (oI s last o.af=false/\lU sym s last b o=b) \/
   (oI s last o.af=true/\wG s b o.af=true/\lU sym s last b o=pF ⟨o.af,0,0⟩ o) \/
   (oI s last o.af=true/\wG s b o.af=false/\o.af=b.af/\lU sym s last b o=pF b o) \/
   (oI s last o.af=true/\wG s b o.af=false/\(o.af == b.af)=false/\lU sym s last b o=b))):=by
 unfold lU;rw[SN];by_cases a:o.sym=sym
 ·by_cases c:o.side=s
  ·by_cases d:o.aH=0
   ·right;right;left;simp[a,c,d]
   ·right;right;right;refine⟨a,c,by simp[d],?_⟩;rw[if_neg (by simp[a,c,d])];cases oI s last o.af
    ·left;simp
    ·cases wG s b o.af
     ·by_cases e:o.af=b.af
      ·right;right;left;simp[e]
      ·right;right;right;simp[e]
     ·right;left;simp
  ·right;left;simp[a,c]
 ·left;simp[a]
end Go.Proofs.YtigaphnafnpfnaaGreatDoor
