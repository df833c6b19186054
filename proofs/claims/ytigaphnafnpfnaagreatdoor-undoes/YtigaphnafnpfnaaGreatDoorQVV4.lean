import Derived.Test.YtigaphnafnpfnaaGreatDoorQVV3
set_option linter.unusedVariables false
set_option linter.unusedSimpArgs false
set_option maxHeartbeats 8000000
set_option maxRecDepth 100000
namespace Go.Proofs.YtigaphnafnpfnaaGreatDoor
open Go.RowKit
attribute [local go_sem ↓] Go.wp_at_zero Go.wp_at_succ
theorem jT.mono{w:World}{b:Nat}{o:Ord}{lo c:Nat}{fn:Fn}{a:Array Value}(h:jT w b o c fn a)(f:lo<=c):jT w b o lo fn a:=by
 obtain⟨e,H,h0,d⟩:=h;exact⟨e,H,Nat.le_trans f h0,d⟩
theorem jr.mono{w:World}{a b lo d:Nat}{fn:Fn}{c:Array Value}(h:jr w a b d fn c)(g:lo<=d):jr w a b lo fn c:=by
 obtain⟨e,H,h0,f⟩:=h;exact⟨e,H,Nat.le_trans g h0,f⟩
theorem lq.mono{w:World}{a b lo d:Nat}{p:Int}{fn:Fn}{c:Array Value}(h:lq w a b p d fn c)(g:lo<=d):lq w a b p lo fn c:=by
 obtain⟨e,H,h0,f⟩:=h;exact⟨e,H,Nat.le_trans g h0,f⟩
theorem Vj(bv c oc s z A:Nat)(G:Lg)(lm:Lm)(B:Bk)(om:Nat->Ord)(p:Nat->Prop)(w:World)(bk:Nat->Nat)(lo:Nat)(C:List (List Value))(dP:List Nat)(cl:List Value)(hC:iy w bv bk lo false C G.nt dP lm cl)(hlo:lo<=w.heap.size)(hbk:bk (B.h s 0)=c)(xy:∀g,ig (B.sl s)=some g->g<lo)(hv:bz w bv z A G lm)(m:Mk w c B om p)(hs:s<2)(K:0<B.n s)(hc:p oc)(hne:B.h s 0≠oc)(hside:(om (B.h s 0)).side=(s:Int))(hlen:G.tp.length<1000000000)(hlen2:G.tr.length<1000000000)(hna:0<G.na)(kX:G.na<=3000000)(hnf:G.nt.length+4<1000000000) :
 CT 152 #[PP bv,PP c,PP oc,PP (B.h s 0)] w fun e w'=>e=.returned (.tuple #[]) /\
  Mk w' c (dO B om oc (B.h s 0) s) (aT om oc (B.h s 0)) p/\∃bG,bz w' bv z A ((dD G om oc (B.h s 0)).lC (jg B om oc (B.h s 0))) bG/\(∀b,bG.F b->lm.F b\/w.heap.size<=b)/\aj (fun b=>b=bv\/lm.F b\/b=c\/b=oc\/dn B s b) w w'/\∃x cl',iy w' bv bk lo false C ((dD G om oc (B.h s 0)).lC (jg B om oc (B.h s 0))).nt (dP++[x]) bG cl':=by
 obtain⟨ixc,hoc⟩:=m.bg oc hc;obtain⟨ixw,how⟩:=m.bg _ (m.mem s hs 0 K);have c8:CC w oc 8 (II (om oc).aH):=hoc.cell 8;have w8:CC w (B.h s 0) 8 (II (om (B.h s 0)).aH):=how.cell 8;obtain⟨q,hq⟩:=dQ (min (om oc).aH (om (B.h s 0)).aH);have HQ:=ai hq;clear hq;go_enter Tryz.func152,Tryz.ntmps152;go_wp2;go_quiet (fail);rw[ae HQ];go_wp2_with fail;refine (MC c oc B om p q _ (m.aC ((aj.refl aA w).drewN _) idd (fun _ _ x=>x) (fun _ _ _ _ x=>x)) hc).mono ?_;rintro e w1 ⟨fn1,cp1,rfl,f1,m1,W⟩;clear c8 w8;go_wp2_with fail;refine (MC c (B.h s 0) B _ p q _ m1 (m.mem s hs 0 K)).mono ?_;rintro e w2 ⟨fn2,cp2,rfl,f2,m2,X⟩;have hd0:aj aA w (w.drewN nq):=(aj.refl aA w).drewN _;have o1:nZ (w.drewN nq) lo false (fun b=>b=oc):=nZ.gZ (fun b h=>by subst h;exact⟨_,116,hoc.drewN _,by unfold pO;decide⟩);have hmw:=m.mem s hs 0 K;have o2:nZ w1 lo false (fun b=>b=B.h s 0):=nZ.gZ (fun b h=>by
  subst h;obtain⟨ix,hx⟩:=m1.bg _ hmw;exact⟨_,116,hx,by unfold pO;decide⟩)
 have c2:iy w2 bv bk lo false C G.nt dP lm cl:=((hC.ax hd0).aC W o1).aC X o2;have i1:bH w1 bv bk lo (.fV oc (om oc)) (.func fn1 #[] cp1):=⟨_,_,rfl,f1.mono (by have:=hd0.size;omega)⟩;have i1':=i1.aC (q:=false) (fun h=>by cases h) X o2;have i2:bH w2 bv bk lo (.fV (B.h s 0) (om (B.h s 0))) (.func fn2 #[] cp2):=⟨_,_,rfl,by
  rw[ag _ _ hne]at f2;exact f2.mono (by have:=hd0.size;have:=W.size;omega)⟩
 rw[ag _ _ hne]at m2;have Af:aK (aK om oc { om oc with aH:=wrap64 ((om oc).aH-q),filled:=wrap64 ((om oc).filled+q) }) (B.h s 0) { om (B.h s 0) with aH:=wrap64 ((om (B.h s 0)).aH-q),filled:=wrap64 ((om (B.h s 0)).filled+q) }=aT om oc (B.h s 0):=by
  unfold aT iY;rw[ae HQ]
 rw[Af]at m2;have hv2:bz w2 bv z A G lm:=((hv.ax ((aj.refl aA w).drewN _)).jG W (fun b h=>by subst h;exact⟨_,116,hoc.drewN _,.inr (.inl rfl)⟩)).jG X (fun b h=>by subst h;exact m1.gZ (.inr (.inl (m.mem s hs 0 K))));have kc2:aj (fun b=>b=bv\/lm.F b\/b=c\/b=oc\/dn B s b) w w2:=(((aj.refl _ w).drewN _).trans (W.mono (fun b h=>iQ h))).trans (X.mono (fun b h=>vk ⟨0,K,h⟩));have Q:=ai (vP bv z A G lm (.fV oc (om oc)) (.fV (B.h s 0) (om (B.h s 0))) fn1 fn2 cp1 cp2 w2 bk lo false C dP cl hv2 c2 (fun h=>by cases h) (fun h=>by cases h) i1' i2 hna kX (by omega));have hmem:=m.mem s hs 0 K;have sz2:=kc2.size;clear Af W X hoc how m1 m o1 o2 c2 i1 i1' i2 f1 f2 hC hd0;go_wp2_with fail;refine (ae Q).mono ?_;rintro e Z ⟨rfl,yX,hv3,hf3,aaB,-,c3⟩;have kn3:aj (fun b=>lm.F b) w2 Z:=aaB.mono (fun b h=>BA h);have u:=m2.jw hv2 (kn3.mono (fun b h=>.inr h));have Y:aj (fun b=>b=bv\/lm.F b\/b=c\/b=oc\/dn B s b) w Z:=kc2.trans (kn3.mono (fun b h=>.inr (.inl h)));have J:∀b,yX.F b->lm.F b\/w.heap.size<=b:=fun b R=>(hf3 b R).imp_right (fun h=>Nat.le_trans kc2.size h)
 obtain⟨iw3,aan⟩:=u.bg _ hmem;have o8:CC Z (B.h s 0) 8 (II (aT om oc (B.h s 0) (B.h s 0)).aH):=aan.cell 8;have hsd2:(aT om oc (B.h s 0) (B.h s 0)).side=(s:Int):=by unfold aT;rw[ah];exact hside
 have toc:(aT om oc (B.h s 0) oc).side=(om oc).side/\(aT om oc (B.h s 0) oc).id=(om oc).id:=by
  unfold aT;rw[ag _ _ (fun e=>hne e.symm),ah];exact⟨rfl,rfl⟩
 have tow:(aT om oc (B.h s 0) (B.h s 0)).af=(om (B.h s 0)).af/\(aT om oc (B.h s 0) (B.h s 0)).id=(om (B.h s 0)).id:=by
  unfold aT;rw[ah];exact⟨rfl,rfl⟩
 have HT:Hid (jg B om oc (B.h s 0)=⟨0,B.sym,(om (B.h s 0)).af,q,if (om oc).side=1 then (om (B.h s 0)).id else (om oc).id,if (om oc).side=1 then (om oc).id else (om (B.h s 0)).id,0⟩):=by
  show _=_;unfold jg;rw[ae HQ]
 have g1:=qQ G om oc (B.h s 0);have g2:=iw G om oc (B.h s 0);have g3:=yj G om oc (B.h s 0);have g4:=yl G om oc (B.h s 0);have tail:∀a B5 L V cl5,(jg B om oc (B.h s 0)).val=V->iy a bv bk lo false C (dD G om oc (B.h s 0)).nt dP L cl5->Mk a c B5 (aT om oc (B.h s 0)) p->bz a bv z A (dD G om oc (B.h s 0)) L->(∀b,L.F b->lm.F b\/w.heap.size<=b)->aj (fun b=>b=bv\/lm.F b\/b=c\/b=oc\/dn B s b) w a ->
  CT 178 #[PP bv,V] a fun e w'=>e=.returned (.tuple #[]) /\
  Mk w' c B5 (aT om oc (B.h s 0)) p/\∃bG,bz w' bv z A ((dD G om oc (B.h s 0)).lC (jg B om oc (B.h s 0))) bG/\(∀b,bG.F b->lm.F b\/w.heap.size<=b)/\aj (fun b=>b=bv\/lm.F b\/b=c\/b=oc\/dn B s b) w w'/\∃x cl',iy w' bv bk lo false C ((dD G om oc (B.h s 0)).lC (jg B om oc (B.h s 0))).nt (dP++[x]) bG cl':=by
  rintro a B5 L V cl5 rfl c5 i h5 T k5;refine (Jz bv z A _ L (jg B om oc (B.h s 0)) a bk lo C dP cl5 h5 c5 (by have:=k5.size;omega) (by rw[g1];exact hlen) (by rw[g2];exact hlen2) (by rw[g3];exact hna) (by rw[g3];exact kX) (by omega)).mono ?_;rintro e D ⟨rfl,bG,l1,l2,l3,x6,c6,-,l4⟩;refine⟨rfl,i.jw h5 l3,bG,l1,fun b R=>?_,k5.from (l3.mono (fun b h=>?_)),x6,_,l4⟩
  ·rcases l2 b R with h | h
   ·exact T b h
   ·exact .inr (Nat.le_trans k5.size h)
  ·rcases h with h | h
   ·exact .inl (.inl h)
   ·exact (T b h).imp_left (fun h=>.inr (.inl h))
 have v:=ai tail;have M:Hid (∀j B4,Mk j c B4 (aT om oc (B.h s 0)) p->B4.sym=B.sym->j.cell? ⟨c,0,none⟩=some (.string B.sym)/\j.cell? ⟨B.h s 0,5,none⟩=some (II (om (B.h s 0)).af)/\j.cell? ⟨B.h s 0,0,none⟩=some (II (om (B.h s 0)).id)/\j.cell? ⟨oc,0,none⟩=some (II (om oc).id)/\j.cell? ⟨oc,3,none⟩=some (II (om oc).side)):=by
  intro j B4 N U;obtain⟨ic4,hc4⟩:=N.bg oc hc;obtain⟨iw4,hw4⟩:=N.bg _ hmem;refine⟨?_,?_,?_,?_,?_⟩
  ·rw[<-U];exact N.aW.ay.cell 0
  ·rw[<-tow.1];exact hw4.cell 5
  ·rw[<-tow.2];exact hw4.cell 0
  ·rw[<-toc.2];exact hc4.cell 0
  ·rw[<-toc.1];exact hc4.cell 3
 have PD:=ai c3;clear tail hv hv2 m2 Q kn3 aaB kc2 hf3 aan tow toc g1 g2 g3 g4 c3;by_cases h0:(aT om oc (B.h s 0) (B.h s 0)).aH=0
 ·have e0':((aT om oc (B.h s 0) (B.h s 0)).aH == 0)=true:=by simp[h0]
  have O:Hid (dO B om oc (B.h s 0) s=B.leave (aT om oc (B.h s 0)) s 0):=by show _=_;unfold dO;rw[if_pos h0]
  have HG:Hid (dD G om oc (B.h s 0)=(G.aY [.fV oc (om oc),.fV (B.h s 0) (om (B.h s 0))]).aY [.left (B.h s 0)]):=by show _=_;unfold dD;rw[if_pos h0]
  clear h0;go_wp2_with fail;refine (qJ c B _ p s 0 _ u hs K hsd2).mono ?_;rintro e j ⟨YC,cp4,rfl,f4,N,k4⟩;have o4:nZ Z lo false (fun b=>b=c\/dn B s b):=fun b h=>by
   rcases h with h | h | ⟨k,hk,h⟩
   ·subst h;exact (nZ.gZ (S:=fun y=>y=b) (fun y hy=>by subst hy;exact⟨_,158,u.aW.ay,by unfold pO;decide⟩)) b rfl
   ·exact .inl (xy b h)
   ·subst h;exact (nZ.gZ (S:=fun y=>y=B.h s k) (fun y hy=>by subst hy;obtain⟨ix,hx⟩:=u.bg _ (u.mem s hs k hk);exact⟨_,116,hx,by unfold pO;decide⟩)) _ rfl
  have c4:=(ae PD).aC k4 o4;have i4:bH j bv bk lo (.left (B.h s 0)) (.func YC #[] cp4):=⟨_,_,rfl,by
   show jr j (bk (B.h s 0)) (B.h s 0) lo YC cp4;rw[hbk];exact f4.mono (by have:=Y.size;omega)⟩
  have hv4:=hv3.jG k4 (fun b h=>u.gZ (by rcases h with h | h;exact .inl h;exact .inr (.inr ⟨s,hs,h⟩)));have J3:=Y.trans (k4.mono (fun b h=>by rcases h with h | h;exact jL h;exact xA h));have Q:=ai (nV bv z A _ yX (.left (B.h s 0)) YC cp4 j bk lo false C dP _ hv4 c4 (fun h=>by cases h) i4 hna kX (by simp only[Lg.aY,List.length_append,List.length_cons,List.length_nil];omega));clear o8 hv3 u Y k4 o4 c4 i4 f4;go_wp2_with fail;refine (ae Q).mono ?_;rintro e a ⟨rfl,L,l,T,aaC,-,c5⟩;have kn5:aj (fun b=>yX.F b) j a:=aaC.mono (fun b h=>BA h);rw[<-ae HG]at l c5;have i:=N.jw hv4 (kn5.mono (fun b h=>.inr h));have t:aj (fun b=>b=bv\/lm.F b\/b=c\/b=oc\/dn B s b) w a:=J3.from (kn5.mono (fun b h=>(J b h).imp_left (fun h=>.inr (.inl h))));have r:∀b,L.F b->lm.F b\/w.heap.size<=b:=fun b R=>by
   rcases T b R with h | h
   ·exact J b h
   ·exact .inr (Nat.le_trans J3.size h)
  have U:(B.leave (aT om oc (B.h s 0)) s 0).sym=B.sym:=rfl;obtain⟨y0,e5,e0,d0,s3⟩:=ae M a _ i U;have P:=ai c5;clear N hv4 J3 T kn5 aaC Q c5;by_cases d:(om oc).side=1
  ·have es:((om oc).side == 1)=true:=by simp[d]
   have E:=ai (ae v a.drew _ _ (.agg #[II 0,.string B.sym,II (om (B.h s 0)).af,II q,II (om (B.h s 0)).id,II (om oc).id,II 0]) _ (by rw[ae HT];simp only[Tr.val,if_pos d]) ((ae P).ax ((aj.refl aA a).drew)) (i.aC ((aj.refl aA a).drew) idd (fun _ _ x=>x) (fun _ _ _ _ x=>x)) (l.ax ((aj.refl aA a).drew)) r t.drew);have HS:=ai d;clear d v i l t r J;go_wp2;go_region_held3 (fun w'=>w'.cell? ⟨c,0,none⟩=some (.string B.sym)/\w'.cell? ⟨B.h s 0,5,none⟩=some (II (om (B.h s 0)).af)/\w'.cell? ⟨B.h s 0,0,none⟩=some (II (om (B.h s 0)).id)/\w'.cell? ⟨oc,0,none⟩=some (II (om oc).id)) (go_keep)
    (first | (go_at_call 178;refine (ae E).mono ?_;rintro e D ⟨rfl,f,o⟩;obtain⟨z1,z2,z3,z4,-⟩:=ae M D _ f rfl;have H:=ai f;have I:=ai o;clear f o))
   go_wp2;go_end0;rw[ae O];exact⟨rfl,ae H,ae I⟩
  ·have es:((om oc).side == 1)=false:=by simp[d]
   have E:=ai (ae v a.drew _ _ (.agg #[II 0,.string B.sym,II (om (B.h s 0)).af,II q,II (om oc).id,II (om (B.h s 0)).id,II 0]) _ (by rw[ae HT];simp only[Tr.val,if_neg d]) ((ae P).ax ((aj.refl aA a).drew)) (i.aC ((aj.refl aA a).drew) idd (fun _ _ x=>x) (fun _ _ _ _ x=>x)) (l.ax ((aj.refl aA a).drew)) r t.drew);have HS:=ai d;clear d v i l t r J;go_wp2;go_region_held3 (fun w'=>w'.cell? ⟨c,0,none⟩=some (.string B.sym)/\w'.cell? ⟨B.h s 0,5,none⟩=some (II (om (B.h s 0)).af)/\w'.cell? ⟨B.h s 0,0,none⟩=some (II (om (B.h s 0)).id)/\w'.cell? ⟨oc,0,none⟩=some (II (om oc).id)) (go_keep)
    (first | (go_at_call 178;refine (ae E).mono ?_;rintro e D ⟨rfl,f,o⟩;obtain⟨z1,z2,z3,z4,-⟩:=ae M D _ f rfl;have H:=ai f;have I:=ai o;clear f o))
   go_wp2;go_end0;rw[ae O];exact⟨rfl,ae H,ae I⟩
 ·have e0':((aT om oc (B.h s 0) (B.h s 0)).aH == 0)=false:=by simp[h0]
  have O:Hid (dO B om oc (B.h s 0) s=B):=by show _=_;unfold dO;rw[if_neg h0]
  have HG:Hid (dD G om oc (B.h s 0)=G.aY [.fV oc (om oc),.fV (B.h s 0) (om (B.h s 0))]):=by show _=_;unfold dD;rw[if_neg h0]
  clear h0;obtain⟨a,ab4⟩:=gy Z;subst ab4;have l:=hv3;have c5:=ae PD;rw[<-ae HG]at l c5;have P:=ai c5;clear c5;have i:=u;have t:=Y;have r:=J;have U:B.sym=B.sym:=rfl;obtain⟨y0,e5,e0,d0,s3⟩:=ae M a _ i U;clear u hv3 Y;by_cases d:(om oc).side=1
  ·have es:((om oc).side == 1)=true:=by simp[d]
   have E:=ai (ae v a.drew _ _ (.agg #[II 0,.string B.sym,II (om (B.h s 0)).af,II q,II (om (B.h s 0)).id,II (om oc).id,II 0]) _ (by rw[ae HT];simp only[Tr.val,if_pos d]) ((ae P).ax ((aj.refl aA a).drew)) (i.aC ((aj.refl aA a).drew) idd (fun _ _ x=>x) (fun _ _ _ _ x=>x)) (l.ax ((aj.refl aA a).drew)) r t.drew);have HS:=ai d;clear d v i l t r J;go_wp2;go_region_held3 (fun w'=>w'.cell? ⟨c,0,none⟩=some (.string B.sym)/\w'.cell? ⟨B.h s 0,5,none⟩=some (II (om (B.h s 0)).af)/\w'.cell? ⟨B.h s 0,0,none⟩=some (II (om (B.h s 0)).id)/\w'.cell? ⟨oc,0,none⟩=some (II (om oc).id)) (go_keep)
    (first | (go_at_call 178;refine (ae E).mono ?_;rintro e D ⟨rfl,f,o⟩;obtain⟨z1,z2,z3,z4,-⟩:=ae M D _ f rfl;have H:=ai f;have I:=ai o;clear f o))
   go_wp2;go_end0;rw[ae O];exact⟨rfl,ae H,ae I⟩
  ·have es:((om oc).side == 1)=false:=by simp[d]
   have E:=ai (ae v a.drew _ _ (.agg #[II 0,.string B.sym,II (om (B.h s 0)).af,II q,II (om oc).id,II (om (B.h s 0)).id,II 0]) _ (by rw[ae HT];simp only[Tr.val,if_neg d]) ((ae P).ax ((aj.refl aA a).drew)) (i.aC ((aj.refl aA a).drew) idd (fun _ _ x=>x) (fun _ _ _ _ x=>x)) (l.ax ((aj.refl aA a).drew)) r t.drew);have HS:=ai d;clear d v i l t r J;go_wp2;go_region_held3 (fun w'=>w'.cell? ⟨c,0,none⟩=some (.string B.sym)/\w'.cell? ⟨B.h s 0,5,none⟩=some (II (om (B.h s 0)).af)/\w'.cell? ⟨B.h s 0,0,none⟩=some (II (om (B.h s 0)).id)/\w'.cell? ⟨oc,0,none⟩=some (II (om oc).id)) (go_keep)
    (first | (go_at_call 178;refine (ae E).mono ?_;rintro e D ⟨rfl,f,o⟩;obtain⟨z1,z2,z3,z4,-⟩:=ae M D _ f rfl;have H:=ai f;have I:=ai o;clear f o))
   go_wp2;go_end0;rw[ae O];exact⟨rfl,ae H,ae I⟩
end Go.Proofs.YtigaphnafnpfnaaGreatDoor
