import Derived.Test.YtigaphnafnpfnaaGreatDoorQNV3
set_option linter.unusedVariables false
set_option linter.unusedSimpArgs false
set_option maxHeartbeats 8000000
set_option maxRecDepth 100000
namespace Go.Proofs.YtigaphnafnpfnaaGreatDoor
open Go.RowKit
attribute [local go_sem ↓] Go.wp_at_zero Go.wp_at_succ
theorem jS.mono{w:World}{b:Nat}{o:Ord}{lo lo':Nat}{fn:Fn}{cp:Array Value}(h:jS w b o lo' fn cp)(hl:lo<=lo'):jS w b o lo fn cp:=by
 obtain⟨e,H,h0,h1⟩:=h;exact⟨e,H,Nat.le_trans hl h0,h1⟩
theorem jo.mono{w:World}{bb b lo lo':Nat}{fn:Fn}{cp:Array Value}(h:jo w bb b lo' fn cp)(hl:lo<=lo'):jo w bb b lo fn cp:=by
 obtain⟨e,H,h0,h1⟩:=h;exact⟨e,H,Nat.le_trans hl h0,h1⟩
theorem lC.mono{w:World}{bb b lo lo':Nat}{p:Int}{fn:Fn}{cp:Array Value}(h:lC w bb b p lo' fn cp)(hl:lo<=lo'):lC w bb b p lo fn cp:=by
 obtain⟨e,H,h0,h1⟩:=h;exact⟨e,H,Nat.le_trans hl h0,h1⟩
theorem X4(bv bb oc s bm bo:Nat)(G:Lg)(lm:Lm)(B:Bk)(om:Nat->Ord)(L:Nat->Prop)(w:World)(bk:Nat->Nat)(lo:Nat)(old:List (List Value))(dW:List Nat)(cl:List Value)(hC:iw w bv bk lo false old G.nt dW lm cl)(hlo:lo<=w.heap.size)(hbk:bk (B.h s 0)=bb)(uP:∀g,ig (B.sl s)=some g->g<lo)(hv:bG w bv bm bo G lm)(m:Mk w bb B om L)(hs:s<2)(hn:0<B.n s)(hc:L oc)(hne:B.h s 0≠oc)(hside:(om (B.h s 0)).side=(s:Int))(hlen:G.tp.length<1000000000)(hlen2:G.tr.length<1000000000)(hna:0<G.na)(iJ:G.na<=3000000)(hnf:G.nt.length+4<1000000000) :
 CT 152 #[PP bv,PP bb,PP oc,PP (B.h s 0)] w fun e w'=>e=.returned (.tuple #[]) /\
  Mk w' bb (dU B om oc (B.h s 0) s) (aV om oc (B.h s 0)) L/\∃bM,bG w' bv bm bo ((dn G om oc (B.h s 0)).jT (iY B om oc (B.h s 0))) bM/\(∀b,bM.F b->lm.F b\/w.heap.size<=b)/\aj (fun b=>b=bv\/lm.F b\/b=bb\/b=oc\/dG B s b) w w'/\∃x cl',iw w' bv bk lo false old ((dn G om oc (B.h s 0)).jT (iY B om oc (B.h s 0))).nt (dW++[x]) bM cl':=by
 obtain⟨ixc,hoc⟩:=m.bz oc hc;obtain⟨ixw,how⟩:=m.bz _ (m.mem s hs 0 hn);have c8:CC w oc 8 (II (om oc).aO):=hoc.cell 8;have w8:CC w (B.h s 0) 8 (II (om (B.h s 0)).aO):=how.cell 8;obtain⟨q,hq⟩:=mf (min (om oc).aO (om (B.h s 0)).aO);have HQ:=au hq;clear hq;go_enter Tryz.func152,Tryz.ntmps152;go_wp2;go_quiet (fail);rw[ae HQ];go_wp2_with fail;refine (OB bb oc B om L q _ (m.aC ((aj.refl aJ w).drewN _) aU (fun _ _ x=>x) (fun _ _ _ _ x=>x)) hc).mono ?_;rintro e w1 ⟨fn1,cp1,rfl,f1,m1,k1⟩;clear c8 w8;go_wp2_with fail;refine (OB bb (B.h s 0) B _ L q _ m1 (m.mem s hs 0 hn)).mono ?_;rintro e w2 ⟨uN,cp2,rfl,f2,m2,k2⟩;have hd0:aj aJ w (w.drewN nq):=(aj.refl aJ w).drewN _;have o1:nP (w.drewN nq) lo false (fun b=>b=oc):=nP.gK (fun b h=>by subst h;exact⟨_,116,hoc.drewN _,by unfold o7;decide⟩);have hmw:=m.mem s hs 0 hn;have o2:nP w1 lo false (fun b=>b=B.h s 0):=nP.gK (fun b h=>by
  subst h;obtain⟨ix,hx⟩:=m1.bz _ hmw;exact⟨_,116,hx,by unfold o7;decide⟩)
 have c2:iw w2 bv bk lo false old G.nt dW lm cl:=((hC.aB hd0).aC k1 o1).aC k2 o2;have i1:bU w1 bv bk lo (.gp oc (om oc)) (.func fn1 #[] cp1):=⟨_,_,rfl,f1.mono (by have:=hd0.size;omega)⟩;have i1':=i1.aC (q:=false) (fun h=>by cases h) k2 o2;have i2:bU w2 bv bk lo (.gp (B.h s 0) (om (B.h s 0))) (.func uN #[] cp2):=⟨_,_,rfl,by
  rw[ah _ _ hne]at f2;exact f2.mono (by have:=hd0.size;have:=k1.size;omega)⟩
 rw[ah _ _ hne]at m2;have jK:aQ (aQ om oc { om oc with aO:=wrap64 ((om oc).aO-q),filled:=wrap64 ((om oc).filled+q) }) (B.h s 0) { om (B.h s 0) with aO:=wrap64 ((om (B.h s 0)).aO-q),filled:=wrap64 ((om (B.h s 0)).filled+q) }=aV om oc (B.h s 0):=by
  unfold aV ja;rw[ae HQ]
 rw[jK]at m2;have hv2:bG w2 bv bm bo G lm:=((hv.aB ((aj.refl aJ w).drewN _)).jF k1 (fun b h=>by subst h;exact⟨_,116,hoc.drewN _,.inr (.inl rfl)⟩)).jF k2 (fun b h=>by subst h;exact m1.gK (.inr (.inl (m.mem s hs 0 hn))));have EG:aj (fun b=>b=bv\/lm.F b\/b=bb\/b=oc\/dG B s b) w w2:=(((aj.refl _ w).drewN _).trans (k1.mono (fun b h=>jZ h))).trans (k2.mono (fun b h=>vU ⟨0,hn,h⟩));have rZ:=au (wJ bv bm bo G lm (.gp oc (om oc)) (.gp (B.h s 0) (om (B.h s 0))) fn1 uN cp1 cp2 w2 bk lo false old dW cl hv2 c2 (fun h=>by cases h) (fun h=>by cases h) i1' i2 hna iJ (by omega));have hmem:=m.mem s hs 0 hn;have sz2:=EG.size;clear jK k1 k2 hoc how m1 m o1 o2 c2 i1 i1' i2 f1 f2 hC hd0;go_wp2_with fail;refine (ae rZ).mono ?_;rintro e w3 ⟨rfl,lZ,hv3,hf3,abW,-,c3⟩;have kn3:aj (fun b=>lm.F b) w2 w3:=abW.mono (fun b h=>DR h);have m3:=m2.jw hv2 (kn3.mono (fun b h=>.inr h));have Ea:aj (fun b=>b=bv\/lm.F b\/b=bb\/b=oc\/dG B s b) w w3:=EG.trans (kn3.mono (fun b h=>.inr (.inl h)));have vg:∀b,lZ.F b->lm.F b\/w.heap.size<=b:=fun b hb=>(hf3 b hb).imp_right (fun h=>Nat.le_trans EG.size h)
 obtain⟨iw3,abE⟩:=m3.bz _ hmem;have o8:CC w3 (B.h s 0) 8 (II (aV om oc (B.h s 0) (B.h s 0)).aO):=abE.cell 8;have hsd2:(aV om oc (B.h s 0) (B.h s 0)).side=(s:Int):=by unfold aV;rw[ai];exact hside
 have DD:(aV om oc (B.h s 0) oc).side=(om oc).side/\(aV om oc (B.h s 0) oc).id=(om oc).id:=by
  unfold aV;rw[ah _ _ (fun e=>hne e.symm),ai];exact⟨rfl,rfl⟩
 have QW:(aV om oc (B.h s 0) (B.h s 0)).af=(om (B.h s 0)).af/\(aV om oc (B.h s 0) (B.h s 0)).id=(om (B.h s 0)).id:=by
  unfold aV;rw[ai];exact⟨rfl,rfl⟩
 have HT:Hid (iY B om oc (B.h s 0)=⟨0,B.sym,(om (B.h s 0)).af,q,if (om oc).side=1 then (om (B.h s 0)).id else (om oc).id,if (om oc).side=1 then (om oc).id else (om (B.h s 0)).id,0⟩):=by
  show _=_;unfold iY;rw[ae HQ]
 have g1:=oH G om oc (B.h s 0);have g2:=gW G om oc (B.h s 0);have g3:=y8 G om oc (B.h s 0);have g4:=y9 G om oc (B.h s 0);have tail:∀w5 B5 vw V cl5,(iY B om oc (B.h s 0)).val=V->iw w5 bv bk lo false old (dn G om oc (B.h s 0)).nt dW vw cl5->Mk w5 bb B5 (aV om oc (B.h s 0)) L->bG w5 bv bm bo (dn G om oc (B.h s 0)) vw->(∀b,vw.F b->lm.F b\/w.heap.size<=b)->aj (fun b=>b=bv\/lm.F b\/b=bb\/b=oc\/dG B s b) w w5 ->
  CT 178 #[PP bv,V] w5 fun e w'=>e=.returned (.tuple #[]) /\
  Mk w' bb B5 (aV om oc (B.h s 0)) L/\∃bM,bG w' bv bm bo ((dn G om oc (B.h s 0)).jT (iY B om oc (B.h s 0))) bM/\(∀b,bM.F b->lm.F b\/w.heap.size<=b)/\aj (fun b=>b=bv\/lm.F b\/b=bb\/b=oc\/dG B s b) w w'/\∃x cl',iw w' bv bk lo false old ((dn G om oc (B.h s 0)).jT (iY B om oc (B.h s 0))).nt (dW++[x]) bM cl':=by
  rintro w5 B5 vw V cl5 rfl c5 m5 h5 hf5 k5;refine (LQ bv bm bo _ vw (iY B om oc (B.h s 0)) w5 bk lo old dW cl5 h5 c5 (by have:=k5.size;omega) (by rw[g1];exact hlen) (by rw[g2];exact hlen2) (by rw[g3];exact hna) (by rw[g3];exact iJ) (by omega)).mono ?_;rintro e w6 ⟨rfl,bM,l1,l2,l3,x6,c6,-,l4⟩;refine⟨rfl,m5.jw h5 l3,bM,l1,fun b hb=>?_,k5.from (l3.mono (fun b h=>?_)),x6,_,l4⟩
  ·rcases l2 b hb with h | h
   ·exact hf5 b h
   ·exact .inr (Nat.le_trans k5.size h)
  ·rcases h with h | h
   ·exact .inl (.inl h)
   ·exact (hf5 b h).imp_left (fun h=>.inr (.inl h))
 have Yn:=au tail;have HZ:Hid (∀w4 B4,Mk w4 bb B4 (aV om oc (B.h s 0)) L->B4.sym=B.sym->w4.cell? ⟨bb,0,none⟩=some (.string B.sym)/\w4.cell? ⟨B.h s 0,5,none⟩=some (II (om (B.h s 0)).af)/\w4.cell? ⟨B.h s 0,0,none⟩=some (II (om (B.h s 0)).id)/\w4.cell? ⟨oc,0,none⟩=some (II (om oc).id)/\w4.cell? ⟨oc,3,none⟩=some (II (om oc).side)):=by
  intro w4 B4 m4 hsy;obtain⟨ic4,hc4⟩:=m4.bz oc hc;obtain⟨iw4,hw4⟩:=m4.bz _ hmem;refine⟨?_,?_,?_,?_,?_⟩
  ·rw[<-hsy];exact m4.aY.aF.cell 0
  ·rw[<-QW.1];exact hw4.cell 5
  ·rw[<-QW.2];exact hw4.cell 0
  ·rw[<-DD.2];exact hc4.cell 0
  ·rw[<-DD.1];exact hc4.cell 3
 have RG:=au c3;clear tail hv hv2 m2 rZ kn3 abW EG hf3 abE QW DD g1 g2 g3 g4 c3;by_cases h0:(aV om oc (B.h s 0) (B.h s 0)).aO=0
 ·have e0':((aV om oc (B.h s 0) (B.h s 0)).aO == 0)=true:=by simp[h0]
  have HB:Hid (dU B om oc (B.h s 0) s=B.leave (aV om oc (B.h s 0)) s 0):=by show _=_;unfold dU;rw[if_pos h0]
  have HG:Hid (dn G om oc (B.h s 0)=(G.aX [.gp oc (om oc),.gp (B.h s 0) (om (B.h s 0))]).aX [.left (B.h s 0)]):=by show _=_;unfold dn;rw[if_pos h0]
  clear h0;go_wp2_with fail;refine (qJ bb B _ L s 0 _ m3 hs hn hsd2).mono ?_;rintro e w4 ⟨xB,cp4,rfl,f4,m4,k4⟩;have o4:nP w3 lo false (fun b=>b=bb\/dG B s b):=fun b h=>by
   rcases h with h | h | ⟨k,hk,h⟩
   ·subst h;exact (nP.gK (S:=fun y=>y=b) (fun y hy=>by subst hy;exact⟨_,158,m3.aY.aF,by unfold o7;decide⟩)) b rfl
   ·exact .inl (uP b h)
   ·subst h;exact (nP.gK (S:=fun y=>y=B.h s k) (fun y hy=>by subst hy;obtain⟨ix,hx⟩:=m3.bz _ (m3.mem s hs k hk);exact⟨_,116,hx,by unfold o7;decide⟩)) _ rfl
  have c4:=(ae RG).aC k4 o4;have i4:bU w4 bv bk lo (.left (B.h s 0)) (.func xB #[] cp4):=⟨_,_,rfl,by
   show jo w4 (bk (B.h s 0)) (B.h s 0) lo xB cp4;rw[hbk];exact f4.mono (by have:=Ea.size;omega)⟩
  have hv4:=hv3.jF k4 (fun b h=>m3.gK (by rcases h with h | h;exact .inl h;exact .inr (.inr ⟨s,hs,h⟩)));have Gh:=Ea.trans (k4.mono (fun b h=>by rcases h with h | h;exact lN h;exact QF h));have rZ:=au (nJ bv bm bo _ lZ (.left (B.h s 0)) xB cp4 w4 bk lo false old dW _ hv4 c4 (fun h=>by cases h) i4 hna iJ (by simp only[Lg.aX,List.length_append,List.length_cons,List.length_nil];omega));clear o8 hv3 m3 Ea k4 o4 c4 i4 f4;go_wp2_with fail;refine (ae rZ).mono ?_;rintro e w5 ⟨rfl,vw,hv5,hf5,abX,-,c5⟩;have kn5:aj (fun b=>lZ.F b) w4 w5:=abX.mono (fun b h=>DR h);rw[<-ae HG]at hv5 c5;have m5:=m4.jw hv4 (kn5.mono (fun b h=>.inr h));have Rw:aj (fun b=>b=bv\/lm.F b\/b=bb\/b=oc\/dG B s b) w w5:=Gh.from (kn5.mono (fun b h=>(vg b h).imp_left (fun h=>.inr (.inl h))));have F7:∀b,vw.F b->lm.F b\/w.heap.size<=b:=fun b hb=>by
   rcases hf5 b hb with h | h
   ·exact vg b h
   ·exact .inr (Nat.le_trans Gh.size h)
  have hsy:(B.leave (aV om oc (B.h s 0)) s 0).sym=B.sym:=rfl;obtain⟨y0,e5,e0,d0,s3⟩:=ae HZ w5 _ m5 hsy;have VZ:=au c5;clear m4 hv4 Gh hf5 kn5 abX rZ c5;by_cases hsd:(om oc).side=1
  ·have es:((om oc).side == 1)=true:=by simp[hsd]
   have HC:=au (ae Yn w5.drew _ _ (.agg #[II 0,.string B.sym,II (om (B.h s 0)).af,II q,II (om (B.h s 0)).id,II (om oc).id,II 0]) _ (by rw[ae HT];simp only[Tr.val,if_pos hsd]) ((ae VZ).aB ((aj.refl aJ w5).drew)) (m5.aC ((aj.refl aJ w5).drew) aU (fun _ _ x=>x) (fun _ _ _ _ x=>x)) (hv5.aB ((aj.refl aJ w5).drew)) F7 Rw.drew);have HS:=au hsd;clear hsd Yn m5 hv5 Rw F7 vg;go_wp2;go_region_held3 (fun w'=>w'.cell? ⟨bb,0,none⟩=some (.string B.sym)/\w'.cell? ⟨B.h s 0,5,none⟩=some (II (om (B.h s 0)).af)/\w'.cell? ⟨B.h s 0,0,none⟩=some (II (om (B.h s 0)).id)/\w'.cell? ⟨oc,0,none⟩=some (II (om oc).id)) (go_keep)
    (first | (go_at_call 178;refine (ae HC).mono ?_;rintro e w6 ⟨rfl,m6,r6⟩;obtain⟨z1,z2,z3,z4,-⟩:=ae HZ w6 _ m6 rfl;have Zd:=au m6;have WI:=au r6;clear m6 r6))
   go_wp2;go_end0;rw[ae HB];exact⟨rfl,ae Zd,ae WI⟩
  ·have es:((om oc).side == 1)=false:=by simp[hsd]
   have HC:=au (ae Yn w5.drew _ _ (.agg #[II 0,.string B.sym,II (om (B.h s 0)).af,II q,II (om oc).id,II (om (B.h s 0)).id,II 0]) _ (by rw[ae HT];simp only[Tr.val,if_neg hsd]) ((ae VZ).aB ((aj.refl aJ w5).drew)) (m5.aC ((aj.refl aJ w5).drew) aU (fun _ _ x=>x) (fun _ _ _ _ x=>x)) (hv5.aB ((aj.refl aJ w5).drew)) F7 Rw.drew);have HS:=au hsd;clear hsd Yn m5 hv5 Rw F7 vg;go_wp2;go_region_held3 (fun w'=>w'.cell? ⟨bb,0,none⟩=some (.string B.sym)/\w'.cell? ⟨B.h s 0,5,none⟩=some (II (om (B.h s 0)).af)/\w'.cell? ⟨B.h s 0,0,none⟩=some (II (om (B.h s 0)).id)/\w'.cell? ⟨oc,0,none⟩=some (II (om oc).id)) (go_keep)
    (first | (go_at_call 178;refine (ae HC).mono ?_;rintro e w6 ⟨rfl,m6,r6⟩;obtain⟨z1,z2,z3,z4,-⟩:=ae HZ w6 _ m6 rfl;have Zd:=au m6;have WI:=au r6;clear m6 r6))
   go_wp2;go_end0;rw[ae HB];exact⟨rfl,ae Zd,ae WI⟩
 ·have e0':((aV om oc (B.h s 0) (B.h s 0)).aO == 0)=false:=by simp[h0]
  have HB:Hid (dU B om oc (B.h s 0) s=B):=by show _=_;unfold dU;rw[if_neg h0]
  have HG:Hid (dn G om oc (B.h s 0)=G.aX [.gp oc (om oc),.gp (B.h s 0) (om (B.h s 0))]):=by show _=_;unfold dn;rw[if_neg h0]
  clear h0;obtain⟨w5,adp⟩:=kL w3;subst adp;have hv5:=hv3;have c5:=ae RG;rw[<-ae HG]at hv5 c5;have VZ:=au c5;clear c5;have m5:=m3;have Rw:=Ea;have F7:=vg;have hsy:B.sym=B.sym:=rfl;obtain⟨y0,e5,e0,d0,s3⟩:=ae HZ w5 _ m5 hsy;clear m3 hv3 Ea;by_cases hsd:(om oc).side=1
  ·have es:((om oc).side == 1)=true:=by simp[hsd]
   have HC:=au (ae Yn w5.drew _ _ (.agg #[II 0,.string B.sym,II (om (B.h s 0)).af,II q,II (om (B.h s 0)).id,II (om oc).id,II 0]) _ (by rw[ae HT];simp only[Tr.val,if_pos hsd]) ((ae VZ).aB ((aj.refl aJ w5).drew)) (m5.aC ((aj.refl aJ w5).drew) aU (fun _ _ x=>x) (fun _ _ _ _ x=>x)) (hv5.aB ((aj.refl aJ w5).drew)) F7 Rw.drew);have HS:=au hsd;clear hsd Yn m5 hv5 Rw F7 vg;go_wp2;go_region_held3 (fun w'=>w'.cell? ⟨bb,0,none⟩=some (.string B.sym)/\w'.cell? ⟨B.h s 0,5,none⟩=some (II (om (B.h s 0)).af)/\w'.cell? ⟨B.h s 0,0,none⟩=some (II (om (B.h s 0)).id)/\w'.cell? ⟨oc,0,none⟩=some (II (om oc).id)) (go_keep)
    (first | (go_at_call 178;refine (ae HC).mono ?_;rintro e w6 ⟨rfl,m6,r6⟩;obtain⟨z1,z2,z3,z4,-⟩:=ae HZ w6 _ m6 rfl;have Zd:=au m6;have WI:=au r6;clear m6 r6))
   go_wp2;go_end0;rw[ae HB];exact⟨rfl,ae Zd,ae WI⟩
  ·have es:((om oc).side == 1)=false:=by simp[hsd]
   have HC:=au (ae Yn w5.drew _ _ (.agg #[II 0,.string B.sym,II (om (B.h s 0)).af,II q,II (om oc).id,II (om (B.h s 0)).id,II 0]) _ (by rw[ae HT];simp only[Tr.val,if_neg hsd]) ((ae VZ).aB ((aj.refl aJ w5).drew)) (m5.aC ((aj.refl aJ w5).drew) aU (fun _ _ x=>x) (fun _ _ _ _ x=>x)) (hv5.aB ((aj.refl aJ w5).drew)) F7 Rw.drew);have HS:=au hsd;clear hsd Yn m5 hv5 Rw F7 vg;go_wp2;go_region_held3 (fun w'=>w'.cell? ⟨bb,0,none⟩=some (.string B.sym)/\w'.cell? ⟨B.h s 0,5,none⟩=some (II (om (B.h s 0)).af)/\w'.cell? ⟨B.h s 0,0,none⟩=some (II (om (B.h s 0)).id)/\w'.cell? ⟨oc,0,none⟩=some (II (om oc).id)) (go_keep)
    (first | (go_at_call 178;refine (ae HC).mono ?_;rintro e w6 ⟨rfl,m6,r6⟩;obtain⟨z1,z2,z3,z4,-⟩:=ae HZ w6 _ m6 rfl;have Zd:=au m6;have WI:=au r6;clear m6 r6))
   go_wp2;go_end0;rw[ae HB];exact⟨rfl,ae Zd,ae WI⟩
end Go.Proofs.YtigaphnafnpfnaaGreatDoor
