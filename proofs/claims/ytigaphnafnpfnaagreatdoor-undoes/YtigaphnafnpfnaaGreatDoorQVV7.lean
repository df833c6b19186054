import Derived.Test.YtigaphnafnpfnaaGreatDoorQVV5
set_option linter.unusedVariables false
set_option linter.unusedSimpArgs false
set_option maxHeartbeats 8000000
set_option maxRecDepth 100000
namespace Go.Proofs.YtigaphnafnpfnaaGreatDoor
open Go.RowKit
attribute [local go_sem ↓] Go.wp_at_zero Go.wp_at_succ
def zC(bv bb oc s t bm bo:Nat)(st0:MS)(lm:Lm)(L:Nat->Prop)(w:World)(bk:Nat->Nat)(lw:Nat)(old:List (List Value))(dP:List Nat)(v:Value)(w':World):Prop :=
 v=kK (st0.om oc) (aI oc (mF oc s st0) oc) st0.tr (mF oc s st0).tr /\
   ∃g cap' bG,Mk w' bb (dX oc t g cap' (mF oc s st0)) (aI oc (mF oc s st0)) L/\bz w' bv bm bo (iO oc (mF oc s st0)) bG/\(∀b,bG.F b->lm.F b\/w.heap.size<=b) /\
    aj (fun b=>b=bv\/lm.F b\/b=bb\/b=oc\/dn st0.B s b\/dn st0.B t b) w w'/\(ig (st0.B.sl t)=some g\/w.heap.size<=g)/\∃ext cl',iy w' bv bk lw false old (iO oc (mF oc s st0)).nt (dP++ext) bG cl'/\(df ((mF oc s st0).om oc)=true->∀c∈cl',∀b,xw c b->b≠g)
theorem Qe(bv z oc s t bm bo:Nat)(a:MS)(lm:Lm)(U:Nat->Prop)(w:World)(bk:Nat->Nat)(H:Nat)(old:List (List Value))(dP:List Nat)(cl:List Value)(hC:iy w bv bk H false old a.lg.nt dP lm cl)(TP:H<=w.heap.size)(hbk:∀k,k<a.B.n s->bk (a.B.h s k)=z)(aby:bk oc=z)(xy:∀y,y<2->∀g,ig (a.B.sl y)=some g->g<H)(hv:bz w bv bm bo a.lg lm)(m:Mk w z a.B a.om U)(hs:s<2)(ht:t=1-s)(V:U oc)(iv:su oc s a)
 (hnew:∀t,t<2->∀k,k<a.B.n t->a.B.h t k≠oc) (hn:a.B.n t<1000) (M:Nat) (hM:M<1000000000) (hl1:a.lg.tp.length+mu oc s a<=M) (hl2:a.lg.tr.length+mu oc s a<=M) (hna:0<a.lg.na) (kX:a.lg.na<=3000000) (hl3:a.lg.nt.length+4 * mu oc s a+1<=M) :
 CT 70 #[PP bv,PP z,PP oc] w fun e w' =>
  ∃v,e=.returned v/\zC bv z oc s t bm bo a lm U w bk H old dP v w':=by
 obtain⟨ixc,hoc⟩:=m.bg oc V;obtain⟨c0,c1,c2,c3,c4,c5,c6,c7,c8,c9,c10,c11⟩:=hoc.c12;obtain⟨u,hn0⟩:=dQ a.lg.tr.length;obtain⟨pa0,pc0,aas⟩:=hv.aO.yt hn0;have v2:w.cell? ⟨bv,2,none⟩=some (.slice pa0 u pc0):=by rw[<-aas];exact hv.cO.cell 2
 have HN0:=ai hn0;have lo:=hoc.lt;have lv:=hv.cO.lt;have lb:=m.aW.ay.lt;obtain⟨w1,hw1⟩:∃w1,w1=((w.alloc (.cells #[II 0,II 0,II 0,II 0,II 0] 87)).alloc (.cells #[II (a.om oc).id,II (a.om oc).aG,.string (a.om oc).sym,II (a.om oc).side,II (a.om oc).kind,II (a.om oc).af,II (a.om oc).az,II (a.om oc).entered,II (a.om oc).aH,II (a.om oc).filled,II (a.om oc).aX,II (a.om oc).exp] 54)).drew:=⟨_,rfl⟩;have HW:=ai hw1;have Q:aj aA w w1:=by rw[hw1];exact (((aj.refl aA w).alloc _).alloc _).drew
 have hr1:au w1 w.heap.size bC 87:=by rw[hw1];exact ((au.new w _ _).alloc _).drew
 have hs1:au w1 (w.heap.size+1) (qO (a.om oc)) 54:=by
  rw[hw1];have:=(au.new (w.alloc (.cells #[II 0,II 0,II 0,II 0,II 0] 87)) (qO (a.om oc)) 54).drew;have e:(w.alloc (.cells #[II 0,II 0,II 0,II 0,II 0] 87)).heap.size=w.heap.size+1:=by simp
  rw[e]at this;exact this
 have m1:=m.aC Q idd (fun _ _ x=>x) (fun _ _ _ _ x=>x);have hv1:=hv.ax Q;have QI:=U1 bv z oc s bm bo a lm U w1 bk H old dP cl (hC.ax Q) (by have:=Q.size;omega) hbk (xy s hs) hv1 m1 hs V iv M hM hl1 hl2 hna kX (by omega);have aai:=qM oc s (mu oc s a) a;have PL:Hid (0<(mF oc s a).lg.na/\(mF oc s a).lg.na<=3000000/\(mF oc s a).lg.nt.length+1<1000000000):=by
  show _/\_;unfold mF;rw[aai.1];exact⟨hna,kX,by omega⟩
 have RP:∀b,w.heap.size<=b->¬(b=bv\/lm.F b\/b=z\/b=oc\/dn a.B s b):=by
  rintro b o (h | h | h | h | h)
  ·omega
  ·have:=hv.aO.lt h;omega
  ·omega
  ·omega
  ·have:=m.DL hs h;omega
 obtain⟨HX,HT⟩:=aZ QI ht;clear QI hw1 ht hn0 aas hM hl1 hl2 hl3 hna kX aai;go_enter Tryz.func70,Tryz.ntmps70;go_wp2;go_region;rw[<-ae HW];clear c0 c1 c2 c3 c4 c5 c6 c7 c8 c9 c10 c11 v2;go_wp2_with fail;refine (ae HX).mono ?_;rintro e w2 ⟨rfl,S,⟨UU,hv2,hf2,ext,Yz,ZN⟩,iv2,k2⟩;have HC2:=ai ZN;clear ZN hC;have hr2:=k2.ay hr1 (RP _ (Nat.le_refl _));have hs2:=k2.ay hs1 (RP _ (by omega));obtain⟨ix2,ho2⟩:=S.bg oc V;have o8:CC w2 oc 8 (II ((mF oc s a).om oc).aH):=ho2.cell 8;by_cases hp:0<((mF oc s a).om oc).aH
 ·cases hr:dS ((mF oc s a).om oc).kind
  ·have T:Hid (df ((mF oc s a).om oc)=false):=by show _=_;unfold df;rw[hr];simp
   go_wp2_with fail;refine (qN oc _ ix2 w2 ho2).mono ?_;rintro e w2' ⟨rfl,rfl⟩;rw[hr];clear hr;go_wp2_with fail;refine (ni z oc _ _ U _ S V).mono ?_;rintro e N ⟨TM,TL,rfl,fq,I,J⟩;have Af:aK (mF oc s a).om oc { (mF oc s a).om oc with aH:=0,aX:=wrap64 (((mF oc s a).om oc).aX+((mF oc s a).om oc).aH) }=aI oc (mF oc s a):=by unfold aI;rw[ae T];rfl
   rw[Af]at I;have hB:dX oc t 0 0 (mF oc s a)=(mF oc s a).B:=by unfold dX;rw[ae T];rfl
   rw[<-hB]at I;have O:∃g cap',Mk N z (dX oc t g cap' (mF oc s a)) (aI oc (mF oc s a)) U/\(ig (a.B.sl t)=some g\/w.heap.size<=g):=⟨w.heap.size,0,by have e:dX oc t w.heap.size 0 (mF oc s a)=dX oc t 0 0 (mF oc s a):=by { unfold dX;rw[ae T];rfl };rw[e];exact I,.inr (Nat.le_refl _)⟩;have K:aj (fun b=>b=bv\/lm.F b\/b=z\/b=oc\/dn a.B s b\/dn a.B t b) w N:=(Q.aP.trans (k2.mono (fun b h=>by rcases h with h | h | h | h | h;exact .inl h;exact .inr (.inl h);exact jL h;exact iQ h;exact qo h))).trans (J.mono (fun b h=>iQ h));have C:=hv2.jG J (fun b h=>by subst h;exact S.gZ (.inr (.inl V)));have hrq:=J.ay hr2 (fun h=>by omega);have QM:=J.ay hs2 (fun h=>by omega);have oq:nZ w2' H false (fun b=>b=oc):=jQ S V;have cq:=(ae HC2).aC J oq;have iq:bH N bv bk H (.fV oc ((mF oc s a).om oc)) (.func TM #[] TL):=⟨_,_,rfl,fq.mono (by have:=Q.size;have:=k2.size;omega)⟩;have uS:=ai (nV bv bm bo _ UU (.fV oc ((mF oc s a).om oc)) TM TL N bk H false old _ _ C cq (fun h=>by cases h) iq (ae PL).1 (ae PL).2.1 (ae PL).2.2);obtain⟨VA,Vy,Vx⟩:=fK C O K;clear I J O C K oq cq iq fq;go_wp2_with fail;refine (ae uS).mono ?_;rintro e d ⟨rfl,yX,G,hf3,VP,-,c3⟩;have R:aj (fun b=>UU.F b) N d:=VP.mono (fun b h=>BA h);have C:=ae VA;have K:=ae Vx;have hG:iO oc (mF oc s a)=(mF oc s a).lg.aY [.fV oc ((mF oc s a).om oc)]:=by unfold iO;rw[ae T];rfl
   rw[<-hG]at G c3;obtain⟨gq,P9,I,O⟩:=ae Vy;have m3:=I.jw C (R.mono (fun b h=>.inr h));have hgc:∃g cap',Mk d z (dX oc t g cap' (mF oc s a)) (aI oc (mF oc s a)) U/\(ig (a.B.sl t)=some g\/w.heap.size<=g)/\∃X,iy d bv bk H false old (iO oc (mF oc s a)).nt (dP++ext) yX X/\(df ((mF oc s a).om oc)=true->∀c∈X,∀b,xw c b->b≠g):=⟨gq,P9,m3,O,_,c3,fun hw=>by rw[ae T]at hw;cases hw⟩;have Ad:∀b,UU.F b->lm.F b\/w.heap.size<=b:=fun b o=>(hf2 b o).imp_right (fun h=>Nat.le_trans Q.size h)
   have G9:∀b,yX.F b->lm.F b\/w.heap.size<=b:=fun b o=>by
    rcases hf3 b o with h | h
    ·exact Ad b h
    ·exact .inr (Nat.le_trans K.size h)
   have kc:aj (fun b=>b=bv\/lm.F b\/b=z\/b=oc\/dn a.B s b\/dn a.B t b) w d:=K.from (R.mono (fun b h=>(Ad b h).imp_left (fun h=>.inr (.inl h))));have E:=R.ay hrq (C.aO.ne hrq (by decide) (by decide) (by decide) (by decide) (by decide));have Z:=R.ay QM (C.aO.ne QM (by decide) (by decide) (by decide) (by decide) (by decide));clear C I K hrq QM hf3 uS hG VA Vy Vx O Ad VP c3;clear Af hB;obtain⟨ix3,P⟩:=m3.bg oc V;obtain⟨l,q,i,hF1,hR1,QB⟩:∃l q i,l=(aI oc (mF oc s a) oc).filled/\q=(aI oc (mF oc s a) oc).aH/\i=(aI oc (mF oc s a) oc).aX:=⟨_,_,_,rfl,rfl,rfl⟩;obtain⟨j,f,r,QC,hC0,hT1⟩:∃j f r,j=(a.om oc).filled/\f=(a.om oc).aX/\(mF oc s a).lg.tr.length=r:=⟨_,_,_,rfl,rfl,rfl⟩;have a8:d.cell? ⟨oc,8,none⟩=some (II q):=by rw[hR1];exact P.cell 8
   have a9:d.cell? ⟨oc,9,none⟩=some (II l):=by rw[hF1];exact P.cell 9
   have a10:d.cell? ⟨oc,10,none⟩=some (II i):=by rw[QB];exact P.cell 10
   have b9:d.cell? ⟨w.heap.size+1,9,none⟩=some (II j):=by rw[QC];exact Z.cell 9
   have b10:d.cell? ⟨w.heap.size+1,10,none⟩=some (II f):=by rw[hC0];exact Z.cell 10
   have l1:w.heap.size+1<d.heap.size:=Z.lt;have l2:oc<d.heap.size:=P.lt;have fin:∀w' v,v=kK (a.om oc) (aI oc (mF oc s a) oc) a.tr (mF oc s a).tr->aj (fun b=>b=w.heap.size) d w'->zC bv z oc s t bm bo a lm U w bk H old dP v w':=by
    intro w' v hv' kw;obtain⟨g,cap',hm,hg,X,GM,hcg⟩:=hgc;refine⟨hv',g,cap',yX,hm.aC kw (by omega) (fun b o e=>?_) (fun x hx b o e=>?_),G.aC kw (by omega) (fun b o e=>G.aO.ne E (by decide) (by decide) (by decide) (by decide) (by decide) (e▸o)),G9,?_,hg,ext,X,GM.aC kw (nZ.gZ (fun b h=>by subst h;exact⟨_,87,E,by unfold pO;decide⟩)),hcg⟩
    ·obtain⟨ix,ho⟩:=hm.bg b o;subst e;exact au.ne ho E (by decide) rfl
    ·subst e;exact (hm.aW.side x hx).ne E (by decide) o
    ·exact kc.from (kw.mono (fun b h=>.inr (by omega)))
   have HFin:=ai fin;have nn1:=World.new_ne d _ a8;have nn2:=World.new_ne d _ a9;have nn3:=World.new_ne d _ a10;have nn4:=World.new_ne d _ b9;have nn5:=World.new_ne d _ b10;have Gf:Hid (kK (a.om oc) (aI oc (mF oc s a) oc) a.tr (mF oc s a).tr=if (u:Int)<(r:Int) then dm (wrap64 (l-j)) q (wrap64 (i-f)) (wrap64 ((u:Int)+1)) (wrap64 ((r:Int)-(u:Int))) else dm (wrap64 (l-j)) q (wrap64 (i-f)) 0 0):=by
    show _=_;unfold kK MS.tr;rw[hF1,hR1,QB,QC,hC0,hT1,ae HN0]
   obtain⟨pa1,pc1,Hm⟩:=G.aO.yt (n:=r) (by rw[wH];exact hT1);have v2:d.cell? ⟨bv,2,none⟩=some (.slice pa1 r pc1):=by rw[<-Hm];exact G.cO.cell 2
   clear Hm;have l3:bv<d.heap.size:=G.cO.lt;have HR3:=ai E;obtain⟨L,hw4⟩:=gy ((d.alloc (.cells #[II (wrap64 (l-j)),II q,II (wrap64 (i-f)),II 0,II 0] 87)).drew);have hn4:au L d.heap.size #[II (wrap64 (l-j)),II q,II (wrap64 (i-f)),II 0,II 0] 87:=by rw[hw4];exact (au.new d _ _).drew
   have k4:aj aA d L:=by rw[hw4];exact ((aj.refl aA d).alloc _).drew
   obtain⟨LZ,W⟩:=aZ hw4 hn4;clear hw4;have CB:=ai k4;have A:=ai (k4.ay E idd);have v4:=k4.cell v2 idd;have Zp:=ai v4;clear hn4 v4;clear fin hF1 hR1 QB QC hC0 hT1 m3 G hf2 G9 Z P hs2 hr2 S hv2 iv2 ho2 k2 Q hr1 hs1 m1 hv1 HW HX RP hnew iv hgc kc E m hv hn hoc R k4;go_wp2;go_region_held3 (fun w'=>w'.cell? ⟨oc,8,none⟩=some (II q)/\w'.cell? ⟨oc,9,none⟩=some (II l)/\w'.cell? ⟨oc,10,none⟩=some (II i)/\w'.cell? ⟨w.heap.size+1,9,none⟩=some (II j)/\w'.cell? ⟨w.heap.size+1,10,none⟩=some (II f)) (go_keep) (fail);rw[yx (l-j),yx (i-f),<-ae LZ];rename_i hS4;clear hS4 nn1 nn2 nn3 nn4 nn5;clear a8 a9 a10 b9 b10 v2;have v4:=ae Zp;obtain⟨n0,n1,n2,n3,n4⟩:=(ae W).c5;have f3:=(ae W).frozen 3;have f4:=(ae W).frozen 4;have hne:d.heap.size≠w.heap.size:=by omega
   have hvn:bv≠d.heap.size:=by omega
   by_cases htr:(u:Int)<(r:Int)
   ·obtain⟨w5,hw5⟩:=gy (((L.setCell ⟨d.heap.size,3,none⟩ (II (wrap64 ((u:Int)+1)))).setCell ⟨d.heap.size,4,none⟩ (II (wrap64 ((r:Int)-(u:Int))))).drew);have Hf:au w5 d.heap.size #[II (wrap64 (l-j)),II q,II (wrap64 (i-f)),II (wrap64 ((u:Int)+1)),II (wrap64 ((r:Int)-(u:Int)))] 87:=by rw[hw5];exact (((ae W).set 3 _).set 4 _).drew
    have k5:aj (fun b=>b=d.heap.size) L w5:=by rw[hw5];exact (((aj.refl (fun b=>b=d.heap.size) L).setCell (p:=⟨d.heap.size,3,none⟩) (.inl rfl) _).setCell (p:=⟨d.heap.size,4,none⟩) (.inl rfl) _).drew
    obtain⟨Pj,Ua⟩:=aZ hw5 Hf;have D:=ai (k5.ay (ae A) (fun e=>hne e.symm));obtain⟨LY,HH⟩:=aZ k5 htr;clear hw5 Hf k5;go_wp2;go_region;rw[<-ae Pj];clear v4 n0 n1 n2 n3 n4 f3 f4;obtain⟨n0,n1,n2,n3,n4⟩:=(ae Ua).c5;obtain⟨r0,r1,r2,r3,r4⟩:=(ae D).c5;have q0:=(ae D).frozen 0;have q1:=(ae D).frozen 1;have q2:=(ae D).frozen 2;have q3:=(ae D).frozen 3;have q4:=(ae D).frozen 4;clear htr;go_wp2;refine bodyPost_ret (v:=dm (wrap64 (l-j)) q (wrap64 (i-f)) (wrap64 ((u:Int)+1)) (wrap64 ((r:Int)-(u:Int)))) (DD _ w.heap.size _ _ _ _ _ _ rfl ?_) rfl ⟨_,rfl,ae HFin _ _ ?_ ?_⟩
    ·exact (((((ae D).set 0 _).set 1 _).set 2 _).set 3 _).set 4 _
    ·rw[ae Gf,if_pos (ae HH)]
    ·have kk:aj (fun b=>b=w.heap.size) d w5:=(ae CB).aP.from ((ae LY).mono (fun b h=>.inr (by omega)));exact (((((kk).setCell (p:=⟨w.heap.size,0,none⟩) (.inl rfl) _).setCell (p:=⟨w.heap.size,1,none⟩) (.inl rfl) _).setCell (p:=⟨w.heap.size,2,none⟩) (.inl rfl) _).setCell (p:=⟨w.heap.size,3,none⟩) (.inl rfl) _).setCell (p:=⟨w.heap.size,4,none⟩) (.inl rfl) _
   ·have HH:=ai htr;obtain⟨r0,r1,r2,r3,r4⟩:=(ae A).c5;have q0:=(ae A).frozen 0;have q1:=(ae A).frozen 1;have q2:=(ae A).frozen 2;have q3:=(ae A).frozen 3;have q4:=(ae A).frozen 4;clear f3 f4;go_wp2;refine bodyPost_ret (v:=dm (wrap64 (l-j)) q (wrap64 (i-f)) 0 0) (DD _ w.heap.size _ _ _ _ _ _ rfl ?_) rfl ⟨_,rfl,ae HFin _ _ ?_ ?_⟩
    ·exact (((((ae A).set 0 _).set 1 _).set 2 _).set 3 _).set 4 _
    ·have:=ae HH;rw[ae Gf,if_neg (by omega)]
    ·have kk:aj (fun b=>b=w.heap.size) d L:=(ae CB).aP;exact (((((kk).setCell (p:=⟨w.heap.size,0,none⟩) (.inl rfl) _).setCell (p:=⟨w.heap.size,1,none⟩) (.inl rfl) _).setCell (p:=⟨w.heap.size,2,none⟩) (.inl rfl) _).setCell (p:=⟨w.heap.size,3,none⟩) (.inl rfl) _).setCell (p:=⟨w.heap.size,4,none⟩) (.inl rfl) _
  ·have T:Hid (df ((mF oc s a).om oc)=true):=by show _=_;unfold df;rw[hr];simp[hp]
   have htt:=ae HT;have Y:=jB oc s (mu oc s a) a;change (∀t,t≠s->(mF oc s a).B.n t=a.B.n t/\(mF oc s a).B.h t=a.B.h t)/\(mF oc s a).B.sl=a.B.sl/\(mF oc s a).B.cap=a.B.cap/\(mF oc s a).B.sym=a.B.sym/\(mF oc s a).B.places=a.B.places at Y;have Xm:(mF oc s a).B.n t=a.B.n t:=(Y.1 t (by omega)).1;have Hg:∀x,x<2->∀k,k<(mF oc s a).B.n x->(mF oc s a).B.h x k≠oc:=fun x hx k hk=>by
    by_cases e:x=s
    ·subst e;exact (iv2.mem k hk).2.2.2
    ·rw[(Y.1 x e).1]at hk;rw[(Y.1 x e).2];exact hnew x hx k hk
   obtain⟨HN2,HF2,HE2⟩:=fK Xm Y Hg;clear Xm Y Hg htt;go_wp2_with fail;refine (qN oc _ ix2 w2 ho2).mono ?_;rintro e w2' ⟨rfl,rfl⟩;rw[hr];clear hr;go_wp2_with fail;have htt:=ae HT;have Xm:=ae HN2;have Y:=ae HF2;have Hg:=ae HE2;refine (Fz z oc t (mF oc s a).B (mF oc s a).om ix2 _ S.aW ho2 (by omega) (by rw[iv2.side];omega) Hg (by rw[Xm];exact hn)).mono ?_;rintro e N ⟨TM,TL,rfl,fq,hq3,g,cap',hbq,J,Xw⟩;have Af:aK (mF oc s a).om oc { (mF oc s a).om oc with place:=wrap64 ((mF oc s a).B.places+1) }=aI oc (mF oc s a):=by unfold aI;rw[ae T];rfl
   rw[Af]at hbq;have I:=S.rest (dG:=aI oc (mF oc s a)) (by omega) V (fun b o=>by rw[<-Af,ag _ _ o]) hbq J;have hB:(mF oc s a).B.rest (aI oc (mF oc s a)) t oc g cap'=dX oc t g cap' (mF oc s a):=by unfold dX;rw[ae T];rfl
   rw[hB]at I;have O:Mk N z (dX oc t g cap' (mF oc s a)) (aI oc (mF oc s a)) U/\(ig (a.B.sl t)=some g\/w.heap.size<=g):=⟨I,by
    rcases Xw with h | h
    ·left;rw[<-Y.2.1];exact h
    ·right;have:=Q.size;have:=k2.size;omega⟩
   have sdt:∀b,dn (mF oc s a).B t b->dn a.B t b:=fun b h=>by
    unfold dn at h ⊢;rw[Y.2.1,(Y.1 t (by omega)).1,(Y.1 t (by omega)).2]at h;exact h
   have K:aj (fun b=>b=bv\/lm.F b\/b=z\/b=oc\/dn a.B s b\/dn a.B t b) w N:=(Q.aP.trans (k2.mono (fun b h=>by rcases h with h | h | h | h | h;exact .inl h;exact .inr (.inl h);exact jL h;exact iQ h;exact qo h))).trans (J.mono (fun b h=>by rcases h with h | h | h;exact jL h;exact iQ h;exact vk (sdt b h)));have C:=hv2.jG J (fun b h=>S.gZ (by rcases h with h | h | h;exact .inl h;exact .inr (.inl (h▸V));exact .inr (.inr ⟨t,by omega,h⟩)));have X6:∀b,w.heap.size<=b->¬(b=z\/b=oc\/dn (mF oc s a).B t b):=by
    rintro b o (h | h | h)
    ·omega
    ·omega
    ·have:=m.DL (by omega) (sdt b h);omega
   have hrq:=J.ay hr2 (X6 _ (Nat.le_refl _));have QM:=J.ay hs2 (X6 _ (by omega));have oq:nZ w2' H false (fun b=>b=z\/b=oc\/dn (mF oc s a).B t b):=fun b h=>by
    rcases h with h | h | h
    ·exact E8 S b h
    ·exact jQ S V b h
    ·exact uf S (by omega) (by rw[Y.2.1];exact xy t (by omega)) b (.inr h)
   have cq:=(ae HC2).aC J oq;have iq:bH N bv bk H (.eQ oc ((mF oc s a).om oc).place) (.func TM #[] TL):=⟨_,_,rfl,by
    show lq N (bk oc) oc _ H TM TL;rw[aby];exact fq.mono (by have:=Q.size;have:=k2.size;omega)⟩
   have hgn:∀c∈Yz++[.func TM #[] TL],∀b,xw c b->b≠g:=fun c hc2 b o=>by
    have hcb:H<=b/\b<w2'.heap.size+3:=by
     rcases List.mem_append.1 hc2 with h | h
     ·have:=(ae HC2).cap h o;omega
     ·rw[List.mem_singleton]at h;subst h;exact⟨(iq.cap o).1,hq3 b o⟩
    rcases Xw with h | h
    ·have:=xy t (by omega) g (by rw[<-Y.2.1];exact h);omega
    ·omega
   have HGN:=ai hgn;have uS:=ai (nV bv bm bo _ UU (.eQ oc ((mF oc s a).om oc).place) TM TL N bk H false old _ _ C cq (fun h=>by cases h) iq (ae PL).1 (ae PL).2.1 (ae PL).2.2);obtain⟨VA,Vy,Vx⟩:=fK C O K;clear I J O C K oq cq iq fq;go_wp2_with fail;refine (ae uS).mono ?_;rintro e d ⟨rfl,yX,G,hf3,VP,-,c3⟩;have R:aj (fun b=>UU.F b) N d:=VP.mono (fun b h=>BA h);have C:=ae VA;have K:=ae Vx;have hG:iO oc (mF oc s a)=(mF oc s a).lg.aY [.eQ oc ((mF oc s a).om oc).place]:=by unfold iO;rw[ae T];rfl
   rw[<-hG]at G c3;obtain⟨gq,abG⟩:=gy g;obtain⟨P9,Z7⟩:=gy cap';subst abG Z7;obtain⟨I,O⟩:=ae Vy;have m3:=I.jw C (R.mono (fun b h=>.inr h));have hgc:∃g cap',Mk d z (dX oc t g cap' (mF oc s a)) (aI oc (mF oc s a)) U/\(ig (a.B.sl t)=some g\/w.heap.size<=g)/\∃X,iy d bv bk H false old (iO oc (mF oc s a)).nt (dP++ext) yX X/\(df ((mF oc s a).om oc)=true->∀c∈X,∀b,xw c b->b≠g):=⟨gq,P9,m3,O,_,c3,fun _=>ae HGN⟩;have Ad:∀b,UU.F b->lm.F b\/w.heap.size<=b:=fun b o=>(hf2 b o).imp_right (fun h=>Nat.le_trans Q.size h)
   have G9:∀b,yX.F b->lm.F b\/w.heap.size<=b:=fun b o=>by
    rcases hf3 b o with h | h
    ·exact Ad b h
    ·exact .inr (Nat.le_trans K.size h)
   have kc:aj (fun b=>b=bv\/lm.F b\/b=z\/b=oc\/dn a.B s b\/dn a.B t b) w d:=K.from (R.mono (fun b h=>(Ad b h).imp_left (fun h=>.inr (.inl h))));have E:=R.ay hrq (C.aO.ne hrq (by decide) (by decide) (by decide) (by decide) (by decide));have Z:=R.ay QM (C.aO.ne QM (by decide) (by decide) (by decide) (by decide) (by decide));clear C I K hrq QM hf3 uS hG VA Vy Vx O Ad VP c3;clear Af hB hbq Xw sdt X6 Y Xm Hg;clear HN2 HF2 HE2 htt;obtain⟨ix3,P⟩:=m3.bg oc V;obtain⟨l,q,i,hF1,hR1,QB⟩:∃l q i,l=(aI oc (mF oc s a) oc).filled/\q=(aI oc (mF oc s a) oc).aH/\i=(aI oc (mF oc s a) oc).aX:=⟨_,_,_,rfl,rfl,rfl⟩;obtain⟨j,f,r,QC,hC0,hT1⟩:∃j f r,j=(a.om oc).filled/\f=(a.om oc).aX/\(mF oc s a).lg.tr.length=r:=⟨_,_,_,rfl,rfl,rfl⟩;have a8:d.cell? ⟨oc,8,none⟩=some (II q):=by rw[hR1];exact P.cell 8
   have a9:d.cell? ⟨oc,9,none⟩=some (II l):=by rw[hF1];exact P.cell 9
   have a10:d.cell? ⟨oc,10,none⟩=some (II i):=by rw[QB];exact P.cell 10
   have b9:d.cell? ⟨w.heap.size+1,9,none⟩=some (II j):=by rw[QC];exact Z.cell 9
   have b10:d.cell? ⟨w.heap.size+1,10,none⟩=some (II f):=by rw[hC0];exact Z.cell 10
   have l1:w.heap.size+1<d.heap.size:=Z.lt;have l2:oc<d.heap.size:=P.lt;have fin:∀w' v,v=kK (a.om oc) (aI oc (mF oc s a) oc) a.tr (mF oc s a).tr->aj (fun b=>b=w.heap.size) d w'->zC bv z oc s t bm bo a lm U w bk H old dP v w':=by
    intro w' v hv' kw;obtain⟨g,cap',hm,hg,X,GM,hcg⟩:=hgc;refine⟨hv',g,cap',yX,hm.aC kw (by omega) (fun b o e=>?_) (fun x hx b o e=>?_),G.aC kw (by omega) (fun b o e=>G.aO.ne E (by decide) (by decide) (by decide) (by decide) (by decide) (e▸o)),G9,?_,hg,ext,X,GM.aC kw (nZ.gZ (fun b h=>by subst h;exact⟨_,87,E,by unfold pO;decide⟩)),hcg⟩
    ·obtain⟨ix,ho⟩:=hm.bg b o;subst e;exact au.ne ho E (by decide) rfl
    ·subst e;exact (hm.aW.side x hx).ne E (by decide) o
    ·exact kc.from (kw.mono (fun b h=>.inr (by omega)))
   have HFin:=ai fin;have nn1:=World.new_ne d _ a8;have nn2:=World.new_ne d _ a9;have nn3:=World.new_ne d _ a10;have nn4:=World.new_ne d _ b9;have nn5:=World.new_ne d _ b10;have Gf:Hid (kK (a.om oc) (aI oc (mF oc s a) oc) a.tr (mF oc s a).tr=if (u:Int)<(r:Int) then dm (wrap64 (l-j)) q (wrap64 (i-f)) (wrap64 ((u:Int)+1)) (wrap64 ((r:Int)-(u:Int))) else dm (wrap64 (l-j)) q (wrap64 (i-f)) 0 0):=by
    show _=_;unfold kK MS.tr;rw[hF1,hR1,QB,QC,hC0,hT1,ae HN0]
   obtain⟨pa1,pc1,Hm⟩:=G.aO.yt (n:=r) (by rw[wH];exact hT1);have v2:d.cell? ⟨bv,2,none⟩=some (.slice pa1 r pc1):=by rw[<-Hm];exact G.cO.cell 2
   clear Hm;have l3:bv<d.heap.size:=G.cO.lt;have HR3:=ai E;obtain⟨L,hw4⟩:=gy ((d.alloc (.cells #[II (wrap64 (l-j)),II q,II (wrap64 (i-f)),II 0,II 0] 87)).drew);have hn4:au L d.heap.size #[II (wrap64 (l-j)),II q,II (wrap64 (i-f)),II 0,II 0] 87:=by rw[hw4];exact (au.new d _ _).drew
   have k4:aj aA d L:=by rw[hw4];exact ((aj.refl aA d).alloc _).drew
   obtain⟨LZ,W⟩:=aZ hw4 hn4;clear hw4;have CB:=ai k4;have A:=ai (k4.ay E idd);have v4:=k4.cell v2 idd;have Zp:=ai v4;clear hn4 v4;clear fin hF1 hR1 QB QC hC0 hT1 m3 G hf2 G9 Z P hs2 hr2 S hv2 iv2 ho2 k2 Q hr1 hs1 m1 hv1 HW HX RP hnew iv hgc kc E m hv hn hoc R k4;go_wp2;go_region_held3 (fun w'=>w'.cell? ⟨oc,8,none⟩=some (II q)/\w'.cell? ⟨oc,9,none⟩=some (II l)/\w'.cell? ⟨oc,10,none⟩=some (II i)/\w'.cell? ⟨w.heap.size+1,9,none⟩=some (II j)/\w'.cell? ⟨w.heap.size+1,10,none⟩=some (II f)) (go_keep) (fail);rw[yx (l-j),yx (i-f),<-ae LZ];rename_i hS4;clear hS4 nn1 nn2 nn3 nn4 nn5;clear a8 a9 a10 b9 b10 v2;have v4:=ae Zp;obtain⟨n0,n1,n2,n3,n4⟩:=(ae W).c5;have f3:=(ae W).frozen 3;have f4:=(ae W).frozen 4;have hne:d.heap.size≠w.heap.size:=by omega
   have hvn:bv≠d.heap.size:=by omega
   by_cases htr:(u:Int)<(r:Int)
   ·obtain⟨w5,hw5⟩:=gy (((L.setCell ⟨d.heap.size,3,none⟩ (II (wrap64 ((u:Int)+1)))).setCell ⟨d.heap.size,4,none⟩ (II (wrap64 ((r:Int)-(u:Int))))).drew);have Hf:au w5 d.heap.size #[II (wrap64 (l-j)),II q,II (wrap64 (i-f)),II (wrap64 ((u:Int)+1)),II (wrap64 ((r:Int)-(u:Int)))] 87:=by rw[hw5];exact (((ae W).set 3 _).set 4 _).drew
    have k5:aj (fun b=>b=d.heap.size) L w5:=by rw[hw5];exact (((aj.refl (fun b=>b=d.heap.size) L).setCell (p:=⟨d.heap.size,3,none⟩) (.inl rfl) _).setCell (p:=⟨d.heap.size,4,none⟩) (.inl rfl) _).drew
    obtain⟨Pj,Ua⟩:=aZ hw5 Hf;have D:=ai (k5.ay (ae A) (fun e=>hne e.symm));obtain⟨LY,HH⟩:=aZ k5 htr;clear hw5 Hf k5;go_wp2;go_region;rw[<-ae Pj];clear v4 n0 n1 n2 n3 n4 f3 f4;obtain⟨n0,n1,n2,n3,n4⟩:=(ae Ua).c5;obtain⟨r0,r1,r2,r3,r4⟩:=(ae D).c5;have q0:=(ae D).frozen 0;have q1:=(ae D).frozen 1;have q2:=(ae D).frozen 2;have q3:=(ae D).frozen 3;have q4:=(ae D).frozen 4;clear htr;go_wp2;refine bodyPost_ret (v:=dm (wrap64 (l-j)) q (wrap64 (i-f)) (wrap64 ((u:Int)+1)) (wrap64 ((r:Int)-(u:Int)))) (DD _ w.heap.size _ _ _ _ _ _ rfl ?_) rfl ⟨_,rfl,ae HFin _ _ ?_ ?_⟩
    ·exact (((((ae D).set 0 _).set 1 _).set 2 _).set 3 _).set 4 _
    ·rw[ae Gf,if_pos (ae HH)]
    ·have kk:aj (fun b=>b=w.heap.size) d w5:=(ae CB).aP.from ((ae LY).mono (fun b h=>.inr (by omega)));exact (((((kk).setCell (p:=⟨w.heap.size,0,none⟩) (.inl rfl) _).setCell (p:=⟨w.heap.size,1,none⟩) (.inl rfl) _).setCell (p:=⟨w.heap.size,2,none⟩) (.inl rfl) _).setCell (p:=⟨w.heap.size,3,none⟩) (.inl rfl) _).setCell (p:=⟨w.heap.size,4,none⟩) (.inl rfl) _
   ·have HH:=ai htr;obtain⟨r0,r1,r2,r3,r4⟩:=(ae A).c5;have q0:=(ae A).frozen 0;have q1:=(ae A).frozen 1;have q2:=(ae A).frozen 2;have q3:=(ae A).frozen 3;have q4:=(ae A).frozen 4;clear f3 f4;go_wp2;refine bodyPost_ret (v:=dm (wrap64 (l-j)) q (wrap64 (i-f)) 0 0) (DD _ w.heap.size _ _ _ _ _ _ rfl ?_) rfl ⟨_,rfl,ae HFin _ _ ?_ ?_⟩
    ·exact (((((ae A).set 0 _).set 1 _).set 2 _).set 3 _).set 4 _
    ·have:=ae HH;rw[ae Gf,if_neg (by omega)]
    ·have kk:aj (fun b=>b=w.heap.size) d L:=(ae CB).aP;exact (((((kk).setCell (p:=⟨w.heap.size,0,none⟩) (.inl rfl) _).setCell (p:=⟨w.heap.size,1,none⟩) (.inl rfl) _).setCell (p:=⟨w.heap.size,2,none⟩) (.inl rfl) _).setCell (p:=⟨w.heap.size,3,none⟩) (.inl rfl) _).setCell (p:=⟨w.heap.size,4,none⟩) (.inl rfl) _
 ·have T:Hid (df ((mF oc s a).om oc)=false):=by show _=_;unfold df;simp[hp]
  go_wp2_with fail;refine (ni z oc _ _ U _ S V).mono ?_;rintro e N ⟨TM,TL,rfl,fq,I,J⟩;have Af:aK (mF oc s a).om oc { (mF oc s a).om oc with aH:=0,aX:=wrap64 (((mF oc s a).om oc).aX+((mF oc s a).om oc).aH) }=aI oc (mF oc s a):=by unfold aI;rw[ae T];rfl
  rw[Af]at I;have hB:dX oc t 0 0 (mF oc s a)=(mF oc s a).B:=by unfold dX;rw[ae T];rfl
  rw[<-hB]at I;have O:∃g cap',Mk N z (dX oc t g cap' (mF oc s a)) (aI oc (mF oc s a)) U/\(ig (a.B.sl t)=some g\/w.heap.size<=g):=⟨w.heap.size,0,by have e:dX oc t w.heap.size 0 (mF oc s a)=dX oc t 0 0 (mF oc s a):=by { unfold dX;rw[ae T];rfl };rw[e];exact I,.inr (Nat.le_refl _)⟩;have K:aj (fun b=>b=bv\/lm.F b\/b=z\/b=oc\/dn a.B s b\/dn a.B t b) w N:=(Q.aP.trans (k2.mono (fun b h=>by rcases h with h | h | h | h | h;exact .inl h;exact .inr (.inl h);exact jL h;exact iQ h;exact qo h))).trans (J.mono (fun b h=>iQ h));have C:=hv2.jG J (fun b h=>by subst h;exact S.gZ (.inr (.inl V)));have hrq:=J.ay hr2 (fun h=>by omega);have QM:=J.ay hs2 (fun h=>by omega);have oq:nZ w2 H false (fun b=>b=oc):=jQ S V;have cq:=(ae HC2).aC J oq;have iq:bH N bv bk H (.fV oc ((mF oc s a).om oc)) (.func TM #[] TL):=⟨_,_,rfl,fq.mono (by have:=Q.size;have:=k2.size;omega)⟩;have uS:=ai (nV bv bm bo _ UU (.fV oc ((mF oc s a).om oc)) TM TL N bk H false old _ _ C cq (fun h=>by cases h) iq (ae PL).1 (ae PL).2.1 (ae PL).2.2);obtain⟨VA,Vy,Vx⟩:=fK C O K;clear I J O C K oq cq iq fq;go_wp2_with fail;refine (ae uS).mono ?_;rintro e d ⟨rfl,yX,G,hf3,VP,-,c3⟩;have R:aj (fun b=>UU.F b) N d:=VP.mono (fun b h=>BA h);have C:=ae VA;have K:=ae Vx;have hG:iO oc (mF oc s a)=(mF oc s a).lg.aY [.fV oc ((mF oc s a).om oc)]:=by unfold iO;rw[ae T];rfl
  rw[<-hG]at G c3;obtain⟨gq,P9,I,O⟩:=ae Vy;have m3:=I.jw C (R.mono (fun b h=>.inr h));have hgc:∃g cap',Mk d z (dX oc t g cap' (mF oc s a)) (aI oc (mF oc s a)) U/\(ig (a.B.sl t)=some g\/w.heap.size<=g)/\∃X,iy d bv bk H false old (iO oc (mF oc s a)).nt (dP++ext) yX X/\(df ((mF oc s a).om oc)=true->∀c∈X,∀b,xw c b->b≠g):=⟨gq,P9,m3,O,_,c3,fun hw=>by rw[ae T]at hw;cases hw⟩;have Ad:∀b,UU.F b->lm.F b\/w.heap.size<=b:=fun b o=>(hf2 b o).imp_right (fun h=>Nat.le_trans Q.size h)
  have G9:∀b,yX.F b->lm.F b\/w.heap.size<=b:=fun b o=>by
   rcases hf3 b o with h | h
   ·exact Ad b h
   ·exact .inr (Nat.le_trans K.size h)
  have kc:aj (fun b=>b=bv\/lm.F b\/b=z\/b=oc\/dn a.B s b\/dn a.B t b) w d:=K.from (R.mono (fun b h=>(Ad b h).imp_left (fun h=>.inr (.inl h))));have E:=R.ay hrq (C.aO.ne hrq (by decide) (by decide) (by decide) (by decide) (by decide));have Z:=R.ay QM (C.aO.ne QM (by decide) (by decide) (by decide) (by decide) (by decide));clear C I K hrq QM hf3 uS hG VA Vy Vx O Ad VP c3;clear Af hB;obtain⟨ix3,P⟩:=m3.bg oc V;obtain⟨l,q,i,hF1,hR1,QB⟩:∃l q i,l=(aI oc (mF oc s a) oc).filled/\q=(aI oc (mF oc s a) oc).aH/\i=(aI oc (mF oc s a) oc).aX:=⟨_,_,_,rfl,rfl,rfl⟩;obtain⟨j,f,r,QC,hC0,hT1⟩:∃j f r,j=(a.om oc).filled/\f=(a.om oc).aX/\(mF oc s a).lg.tr.length=r:=⟨_,_,_,rfl,rfl,rfl⟩;have a8:d.cell? ⟨oc,8,none⟩=some (II q):=by rw[hR1];exact P.cell 8
  have a9:d.cell? ⟨oc,9,none⟩=some (II l):=by rw[hF1];exact P.cell 9
  have a10:d.cell? ⟨oc,10,none⟩=some (II i):=by rw[QB];exact P.cell 10
  have b9:d.cell? ⟨w.heap.size+1,9,none⟩=some (II j):=by rw[QC];exact Z.cell 9
  have b10:d.cell? ⟨w.heap.size+1,10,none⟩=some (II f):=by rw[hC0];exact Z.cell 10
  have l1:w.heap.size+1<d.heap.size:=Z.lt;have l2:oc<d.heap.size:=P.lt;have fin:∀w' v,v=kK (a.om oc) (aI oc (mF oc s a) oc) a.tr (mF oc s a).tr->aj (fun b=>b=w.heap.size) d w'->zC bv z oc s t bm bo a lm U w bk H old dP v w':=by
   intro w' v hv' kw;obtain⟨g,cap',hm,hg,X,GM,hcg⟩:=hgc;refine⟨hv',g,cap',yX,hm.aC kw (by omega) (fun b o e=>?_) (fun x hx b o e=>?_),G.aC kw (by omega) (fun b o e=>G.aO.ne E (by decide) (by decide) (by decide) (by decide) (by decide) (e▸o)),G9,?_,hg,ext,X,GM.aC kw (nZ.gZ (fun b h=>by subst h;exact⟨_,87,E,by unfold pO;decide⟩)),hcg⟩
   ·obtain⟨ix,ho⟩:=hm.bg b o;subst e;exact au.ne ho E (by decide) rfl
   ·subst e;exact (hm.aW.side x hx).ne E (by decide) o
   ·exact kc.from (kw.mono (fun b h=>.inr (by omega)))
  have HFin:=ai fin;have nn1:=World.new_ne d _ a8;have nn2:=World.new_ne d _ a9;have nn3:=World.new_ne d _ a10;have nn4:=World.new_ne d _ b9;have nn5:=World.new_ne d _ b10;have Gf:Hid (kK (a.om oc) (aI oc (mF oc s a) oc) a.tr (mF oc s a).tr=if (u:Int)<(r:Int) then dm (wrap64 (l-j)) q (wrap64 (i-f)) (wrap64 ((u:Int)+1)) (wrap64 ((r:Int)-(u:Int))) else dm (wrap64 (l-j)) q (wrap64 (i-f)) 0 0):=by
   show _=_;unfold kK MS.tr;rw[hF1,hR1,QB,QC,hC0,hT1,ae HN0]
  obtain⟨pa1,pc1,Hm⟩:=G.aO.yt (n:=r) (by rw[wH];exact hT1);have v2:d.cell? ⟨bv,2,none⟩=some (.slice pa1 r pc1):=by rw[<-Hm];exact G.cO.cell 2
  clear Hm;have l3:bv<d.heap.size:=G.cO.lt;have HR3:=ai E;obtain⟨L,hw4⟩:=gy ((d.alloc (.cells #[II (wrap64 (l-j)),II q,II (wrap64 (i-f)),II 0,II 0] 87)).drew);have hn4:au L d.heap.size #[II (wrap64 (l-j)),II q,II (wrap64 (i-f)),II 0,II 0] 87:=by rw[hw4];exact (au.new d _ _).drew
  have k4:aj aA d L:=by rw[hw4];exact ((aj.refl aA d).alloc _).drew
  obtain⟨LZ,W⟩:=aZ hw4 hn4;clear hw4;have CB:=ai k4;have A:=ai (k4.ay E idd);have v4:=k4.cell v2 idd;have Zp:=ai v4;clear hn4 v4;clear fin hF1 hR1 QB QC hC0 hT1 m3 G hf2 G9 Z P hs2 hr2 S hv2 iv2 ho2 k2 Q hr1 hs1 m1 hv1 HW HX RP hnew iv hgc kc E m hv hn hoc R k4;go_wp2;go_region_held3 (fun w'=>w'.cell? ⟨oc,8,none⟩=some (II q)/\w'.cell? ⟨oc,9,none⟩=some (II l)/\w'.cell? ⟨oc,10,none⟩=some (II i)/\w'.cell? ⟨w.heap.size+1,9,none⟩=some (II j)/\w'.cell? ⟨w.heap.size+1,10,none⟩=some (II f)) (go_keep) (fail);rw[yx (l-j),yx (i-f),<-ae LZ];rename_i hS4;clear hS4 nn1 nn2 nn3 nn4 nn5;clear a8 a9 a10 b9 b10 v2;have v4:=ae Zp;obtain⟨n0,n1,n2,n3,n4⟩:=(ae W).c5;have f3:=(ae W).frozen 3;have f4:=(ae W).frozen 4;have hne:d.heap.size≠w.heap.size:=by omega
  have hvn:bv≠d.heap.size:=by omega
  by_cases htr:(u:Int)<(r:Int)
  ·obtain⟨w5,hw5⟩:=gy (((L.setCell ⟨d.heap.size,3,none⟩ (II (wrap64 ((u:Int)+1)))).setCell ⟨d.heap.size,4,none⟩ (II (wrap64 ((r:Int)-(u:Int))))).drew);have Hf:au w5 d.heap.size #[II (wrap64 (l-j)),II q,II (wrap64 (i-f)),II (wrap64 ((u:Int)+1)),II (wrap64 ((r:Int)-(u:Int)))] 87:=by rw[hw5];exact (((ae W).set 3 _).set 4 _).drew
   have k5:aj (fun b=>b=d.heap.size) L w5:=by rw[hw5];exact (((aj.refl (fun b=>b=d.heap.size) L).setCell (p:=⟨d.heap.size,3,none⟩) (.inl rfl) _).setCell (p:=⟨d.heap.size,4,none⟩) (.inl rfl) _).drew
   obtain⟨Pj,Ua⟩:=aZ hw5 Hf;have D:=ai (k5.ay (ae A) (fun e=>hne e.symm));obtain⟨LY,HH⟩:=aZ k5 htr;clear hw5 Hf k5;go_wp2;go_region;rw[<-ae Pj];clear v4 n0 n1 n2 n3 n4 f3 f4;obtain⟨n0,n1,n2,n3,n4⟩:=(ae Ua).c5;obtain⟨r0,r1,r2,r3,r4⟩:=(ae D).c5;have q0:=(ae D).frozen 0;have q1:=(ae D).frozen 1;have q2:=(ae D).frozen 2;have q3:=(ae D).frozen 3;have q4:=(ae D).frozen 4;clear htr;go_wp2;refine bodyPost_ret (v:=dm (wrap64 (l-j)) q (wrap64 (i-f)) (wrap64 ((u:Int)+1)) (wrap64 ((r:Int)-(u:Int)))) (DD _ w.heap.size _ _ _ _ _ _ rfl ?_) rfl ⟨_,rfl,ae HFin _ _ ?_ ?_⟩
   ·exact (((((ae D).set 0 _).set 1 _).set 2 _).set 3 _).set 4 _
   ·rw[ae Gf,if_pos (ae HH)]
   ·have kk:aj (fun b=>b=w.heap.size) d w5:=(ae CB).aP.from ((ae LY).mono (fun b h=>.inr (by omega)));exact (((((kk).setCell (p:=⟨w.heap.size,0,none⟩) (.inl rfl) _).setCell (p:=⟨w.heap.size,1,none⟩) (.inl rfl) _).setCell (p:=⟨w.heap.size,2,none⟩) (.inl rfl) _).setCell (p:=⟨w.heap.size,3,none⟩) (.inl rfl) _).setCell (p:=⟨w.heap.size,4,none⟩) (.inl rfl) _
  ·have HH:=ai htr;obtain⟨r0,r1,r2,r3,r4⟩:=(ae A).c5;have q0:=(ae A).frozen 0;have q1:=(ae A).frozen 1;have q2:=(ae A).frozen 2;have q3:=(ae A).frozen 3;have q4:=(ae A).frozen 4;clear f3 f4;go_wp2;refine bodyPost_ret (v:=dm (wrap64 (l-j)) q (wrap64 (i-f)) 0 0) (DD _ w.heap.size _ _ _ _ _ _ rfl ?_) rfl ⟨_,rfl,ae HFin _ _ ?_ ?_⟩
   ·exact (((((ae A).set 0 _).set 1 _).set 2 _).set 3 _).set 4 _
   ·have:=ae HH;rw[ae Gf,if_neg (by omega)]
   ·have kk:aj (fun b=>b=w.heap.size) d L:=(ae CB).aP;exact (((((kk).setCell (p:=⟨w.heap.size,0,none⟩) (.inl rfl) _).setCell (p:=⟨w.heap.size,1,none⟩) (.inl rfl) _).setCell (p:=⟨w.heap.size,2,none⟩) (.inl rfl) _).setCell (p:=⟨w.heap.size,3,none⟩) (.inl rfl) _).setCell (p:=⟨w.heap.size,4,none⟩) (.inl rfl) _
end Go.Proofs.YtigaphnafnpfnaaGreatDoor
