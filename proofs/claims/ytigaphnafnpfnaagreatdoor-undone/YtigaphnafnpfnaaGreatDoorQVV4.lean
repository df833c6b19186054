import Derived.Test.YtigaphnafnpfnaaGreatDoorQVV3
set_option linter.unusedVariables false
set_option linter.unusedSimpArgs false
set_option maxHeartbeats 8000000
set_option maxRecDepth 100000
namespace Go.Proofs.YtigaphnafnpfnaaGreatDoor
open Go.RowKit
attribute [local go_sem ↓] Go.wp_at_zero Go.wp_at_succ
theorem jr.mono{w:World}{b:Nat}{o:Ord}{lo lo':Nat}{fn:Fn}{cp:Array Value}(h:jr w b o lo' fn cp)(hl:lo<=lo'):jr w b o lo fn cp:=by
 obtain⟨e,H,h0,h1⟩:=h
 exact⟨e,H,Nat.le_trans hl h0,h1⟩
theorem iZ.mono{w:World}{bb b lo lo':Nat}{fn:Fn}{cp:Array Value}(h:iZ w bb b lo' fn cp)(hl:lo<=lo'):iZ w bb b lo fn cp:=by
 obtain⟨e,H,h0,h1⟩:=h
 exact⟨e,H,Nat.le_trans hl h0,h1⟩
theorem jU.mono{w:World}{bb b lo lo':Nat}{p:Int}{fn:Fn}{cp:Array Value}(h:jU w bb b p lo' fn cp)(hl:lo<=lo'):jU w bb b p lo fn cp:=by
 obtain⟨e,H,h0,h1⟩:=h
 exact⟨e,H,Nat.le_trans hl h0,h1⟩
theorem UK(bv bb oc s bm bo:Nat)(G:Lg)(lm:Lm)(B:Bk)(om:Nat->Ord)(L:Nat->Prop)(w:World)(bk:Nat->Nat)(lo:Nat)(old:List (List Value))(dQ:List Nat)(cl:List Value)(hC:gI w bv bk lo false old G.nt dQ lm cl)(hlo:lo<=w.heap.size)(hbk:bk (B.h s 0)=bb)(qH:∀g,gG (B.sl s)=some g->g<lo)(hv:bu w bv bm bo G lm)(m:Mk w bb B om L)(hs:s<2)(hn:0<B.n s)(hc:L oc)(hne:B.h s 0≠oc)(hside:(om (B.h s 0)).side=(s:Int))(hlen:G.tp.length<1000000000)(hlen2:G.tr.length<1000000000)(hna:0<G.na)(gZ:G.na<=3000000)(hnf:G.nt.length+4<1000000000) :
 Calls Tryz.prog 152 #[.pointer (some ⟨bv,0,none⟩),.pointer (some ⟨bb,0,none⟩),.pointer (some ⟨oc,0,none⟩),.pointer (some ⟨B.h s 0,0,none⟩)] w fun e w'=>e=.returned (.tuple #[]) /\
  Mk w' bb (dO B om oc (B.h s 0) s) (aT om oc (B.h s 0)) L/\∃bH,bu w' bv bm bo ((dh G om oc (B.h s 0)).jG (iG B om oc (B.h s 0))) bH/\(∀b,bH.F b->lm.F b\/w.heap.size<=b)/\au (fun b=>b=bv\/lm.F b\/b=bb\/b=oc\/dC B s b) w w'/\∃x cl',gI w' bv bk lo false old ((dh G om oc (B.h s 0)).jG (iG B om oc (B.h s 0))).nt (dQ++[x]) bH cl':=by
 obtain⟨ixc,hoc⟩:=m.bg oc hc
 obtain⟨ixw,how⟩:=m.bg _ (m.mem s hs 0 hn)
 have c8:w.cell? ⟨oc,8,none⟩=some (.int .i64 (om oc).aK):=hoc.cell 8
 have w8:w.cell? ⟨B.h s 0,8,none⟩=some (.int .i64 (om (B.h s 0)).aK):=how.cell 8
 obtain⟨q,hq⟩:∃q,min (om oc).aK (om (B.h s 0)).aK=q:=⟨_,rfl⟩
 have HQ:=ai hq
 clear hq
 go_enter Tryz.func152,Tryz.ntmps152
 go_wp2
 go_quiet (fail)
 rw[ae HQ]
 go_wp2_with fail
 refine (KL bb oc B om L q _ (m.aC ((au.refl aP w).drewN _) (fun x=>x) (fun _ _ x=>x) (fun _ _ _ _ x=>x)) hc).mono ?_
 rintro e w1 ⟨fn1,cp1,rfl,f1,m1,k1⟩
 clear c8 w8
 go_wp2_with fail
 refine (KL bb (B.h s 0) B _ L q _ m1 (m.mem s hs 0 hn)).mono ?_
 rintro e w2 ⟨sH,cp2,rfl,f2,m2,k2⟩
 have hd0:au aP w (w.drewN nq):=(au.refl aP w).drewN _
 have o1:l9 (w.drewN nq) lo false (fun b=>b=oc):=l9.fZ (fun b h=>by subst h;exact⟨_,116,hoc.drewN _,by unfold nK;decide⟩)
 have hmw:=m.mem s hs 0 hn
 have o2:l9 w1 lo false (fun b=>b=B.h s 0):=l9.fZ (fun b h=>by
  subst h
  obtain⟨ix,hx⟩:=m1.bg _ hmw
  exact⟨_,116,hx,by unfold nK;decide⟩)
 have c2:gI w2 bv bk lo false old G.nt dQ lm cl:=((hC.aH hd0).aC k1 o1).aC k2 o2
 have i1:bJ w1 bv bk lo (.fA oc (om oc)) (.func fn1 #[] cp1):=⟨_,_,rfl,f1.mono (by have:=hd0.size;omega)⟩
 have i1':=i1.aC (q:=false) (fun h=>by cases h) k2 o2
 have i2:bJ w2 bv bk lo (.fA (B.h s 0) (om (B.h s 0))) (.func sH #[] cp2):=⟨_,_,rfl,by
  rw[ah _ _ hne]at f2
  exact f2.mono (by have:=hd0.size;have:=k1.size;omega)⟩
 rw[ah _ _ hne]at m2
 have jk:aN (aN om oc { om oc with aK:=wrap64 ((om oc).aK-q),filled:=wrap64 ((om oc).filled+q) }) (B.h s 0) { om (B.h s 0) with aK:=wrap64 ((om (B.h s 0)).aK-q),filled:=wrap64 ((om (B.h s 0)).filled+q) }=aT om oc (B.h s 0):=by
  unfold aT iI;rw[ae HQ]
 rw[jk]at m2
 have hv2:bu w2 bv bm bo G lm:=((hv.aH ((au.refl aP w).drewN _)).jg k1 (fun b h=>by subst h;exact⟨_,116,hoc.drewN _,.inr (.inl rfl)⟩)).jg k2 (fun b h=>by subst h;exact m1.fZ (.inr (.inl (m.mem s hs 0 hn))))
 have Nk:au (fun b=>b=bv\/lm.F b\/b=bb\/b=oc\/dC B s b) w w2:=(((au.refl _ w).drewN _).trans (k1.mono (fun b h=>.inr (.inr (.inr (.inl h)))))).trans (k2.mono (fun b h=>.inr (.inr (.inr (.inr (.inr ⟨0,hn,h⟩))))))
 have qF:=ai (uN bv bm bo G lm (.fA oc (om oc)) (.fA (B.h s 0) (om (B.h s 0))) fn1 sH cp1 cp2 w2 bk lo false old dQ cl hv2 c2 (fun h=>by cases h) (fun h=>by cases h) i1' i2 hna gZ (by omega))
 have hmem:=m.mem s hs 0 hn
 have sz2:=Nk.size
 clear jk k1 k2 hoc how m1 m o1 o2 c2 i1 i1' i2 f1 f2 hC hd0
 go_wp2_with fail
 refine (ae qF).mono ?_
 rintro e w3 ⟨rfl,kR,hv3,hf3,aaf,-,c3⟩
 have kn3:au (fun b=>lm.F b) w2 w3:=aaf.mono (fun b h=>.inr (.inr (.inr h)))
 have m3:=m2.jc hv2 (kn3.mono (fun b h=>.inr h))
 have Gi:au (fun b=>b=bv\/lm.F b\/b=bb\/b=oc\/dC B s b) w w3:=Nk.trans (kn3.mono (fun b h=>.inr (.inl h)))
 have tu:∀b,kR.F b->lm.F b\/w.heap.size<=b:=fun b hb=>(hf3 b hb).imp_right (fun h=>Nat.le_trans Nk.size h)
 obtain⟨iw3,ZP⟩:=m3.bg _ hmem
 have o8:w3.cell? ⟨B.h s 0,8,none⟩=some (.int .i64 (aT om oc (B.h s 0) (B.h s 0)).aK):=ZP.cell 8
 have hsd2:(aT om oc (B.h s 0) (B.h s 0)).side=(s:Int):=by unfold aT;rw[aj];exact hside
 have Bj:(aT om oc (B.h s 0) oc).side=(om oc).side/\(aT om oc (B.h s 0) oc).id=(om oc).id:=by
  unfold aT;rw[ah _ _ (fun e=>hne e.symm),aj];exact⟨rfl,rfl⟩
 have NW:(aT om oc (B.h s 0) (B.h s 0)).af=(om (B.h s 0)).af/\(aT om oc (B.h s 0) (B.h s 0)).id=(om (B.h s 0)).id:=by
  unfold aT;rw[aj];exact⟨rfl,rfl⟩
 have HT:Hid (iG B om oc (B.h s 0)=⟨0,B.sym,(om (B.h s 0)).af,q,if (om oc).side=1 then (om (B.h s 0)).id else (om oc).id,if (om oc).side=1 then (om oc).id else (om (B.h s 0)).id,0⟩):=by
  show _=_;unfold iG;rw[ae HQ]
 have g1:=mX G om oc (B.h s 0)
 have g2:=gu G om oc (B.h s 0)
 have g3:=xG G om oc (B.h s 0)
 have g4:=xH G om oc (B.h s 0)
 have tail:∀w5 B5 tJ V cl5,(iG B om oc (B.h s 0)).val=V->gI w5 bv bk lo false old (dh G om oc (B.h s 0)).nt dQ tJ cl5->Mk w5 bb B5 (aT om oc (B.h s 0)) L->bu w5 bv bm bo (dh G om oc (B.h s 0)) tJ->(∀b,tJ.F b->lm.F b\/w.heap.size<=b)->au (fun b=>b=bv\/lm.F b\/b=bb\/b=oc\/dC B s b) w w5 ->
  Calls Tryz.prog 178 #[.pointer (some ⟨bv,0,none⟩),V] w5 fun e w'=>e=.returned (.tuple #[]) /\
  Mk w' bb B5 (aT om oc (B.h s 0)) L/\∃bH,bu w' bv bm bo ((dh G om oc (B.h s 0)).jG (iG B om oc (B.h s 0))) bH/\(∀b,bH.F b->lm.F b\/w.heap.size<=b)/\au (fun b=>b=bv\/lm.F b\/b=bb\/b=oc\/dC B s b) w w'/\∃x cl',gI w' bv bk lo false old ((dh G om oc (B.h s 0)).jG (iG B om oc (B.h s 0))).nt (dQ++[x]) bH cl':=by
  rintro w5 B5 tJ V cl5 rfl c5 m5 h5 hf5 k5
  refine (IZ bv bm bo _ tJ (iG B om oc (B.h s 0)) w5 bk lo old dQ cl5 h5 c5 (by have:=k5.size;omega) (by rw[g1];exact hlen) (by rw[g2];exact hlen2) (by rw[g3];exact hna) (by rw[g3];exact gZ) (by omega)).mono ?_
  rintro e w6 ⟨rfl,bH,l1,l2,l3,x6,c6,-,l4⟩
  refine⟨rfl,m5.jc h5 l3,bH,l1,fun b hb=>?_,k5.from (l3.mono (fun b h=>?_)),x6,_,l4⟩
  ·rcases l2 b hb with h|h
   ·exact hf5 b h
   ·exact .inr (Nat.le_trans k5.size h)
  ·rcases h with h|h
   ·exact .inl (.inl h)
   ·exact (hf5 b h).imp_left (fun h=>.inr (.inl h))
 have Vh:=ai tail
 have HZ:Hid (∀w4 B4,Mk w4 bb B4 (aT om oc (B.h s 0)) L->B4.sym=B.sym->w4.cell? ⟨bb,0,none⟩=some (.string B.sym)/\w4.cell? ⟨B.h s 0,5,none⟩=some (.int .i64 (om (B.h s 0)).af)/\w4.cell? ⟨B.h s 0,0,none⟩=some (.int .i64 (om (B.h s 0)).id)/\w4.cell? ⟨oc,0,none⟩=some (.int .i64 (om oc).id)/\w4.cell? ⟨oc,3,none⟩=some (.int .i64 (om oc).side)):=by
  intro w4 B4 m4 hsy
  obtain⟨ic4,hc4⟩:=m4.bg oc hc
  obtain⟨iw4,hw4⟩:=m4.bg _ hmem
  refine⟨?_,?_,?_,?_,?_⟩
  ·rw[<-hsy];exact m4.aW.aB.cell 0
  ·rw[<-NW.1];exact hw4.cell 5
  ·rw[<-NW.2];exact hw4.cell 0
  ·rw[<-Bj.2];exact hc4.cell 0
  ·rw[<-Bj.1];exact hc4.cell 3
 have OD:=ai c3
 clear tail hv hv2 m2 qF kn3 aaf Nk hf3 ZP NW Bj g1 g2 g3 g4 c3
 by_cases h0:(aT om oc (B.h s 0) (B.h s 0)).aK=0
 ·have e0':((aT om oc (B.h s 0) (B.h s 0)).aK == 0)=true:=by simp[h0]
  have HB:Hid (dO B om oc (B.h s 0) s=B.leave (aT om oc (B.h s 0)) s 0):=by show _=_;unfold dO;rw[if_pos h0]
  have HG:Hid (dh G om oc (B.h s 0)=(G.aV [.fA oc (om oc),.fA (B.h s 0) (om (B.h s 0))]).aV [.left (B.h s 0)]):=by show _=_;unfold dh;rw[if_pos h0]
  clear h0
  go_wp2_with fail
  refine (pF bb B _ L s 0 _ m3 hs hn hsd2).mono ?_
  rintro e w4 ⟨vC,cp4,rfl,f4,m4,k4⟩
  have o4:l9 w3 lo false (fun b=>b=bb\/dC B s b):=fun b h=>by
   rcases h with h|h|⟨k,hk,h⟩
   ·subst h
    exact (l9.fZ (S:=fun y=>y=b) (fun y hy=>by subst hy;exact⟨_,158,m3.aW.aB,by unfold nK;decide⟩)) b rfl
   ·exact .inl (qH b h)
   ·subst h
    exact (l9.fZ (S:=fun y=>y=B.h s k) (fun y hy=>by subst hy;obtain⟨ix,hx⟩:=m3.bg _ (m3.mem s hs k hk);exact⟨_,116,hx,by unfold nK;decide⟩)) _ rfl
  have c4:=(ae OD).aC k4 o4
  have i4:bJ w4 bv bk lo (.left (B.h s 0)) (.func vC #[] cp4):=⟨_,_,rfl,by
   show iZ w4 (bk (B.h s 0)) (B.h s 0) lo vC cp4
   rw[hbk]
   exact f4.mono (by have:=Gi.size;omega)⟩
  have hv4:=hv3.jg k4 (fun b h=>m3.fZ (by rcases h with h|h;exact .inl h;exact .inr (.inr ⟨s,hs,h⟩)))
  have Jv:=Gi.trans (k4.mono (fun b h=>by rcases h with h|h;exact .inr (.inr (.inl h));exact .inr (.inr (.inr (.inr h)))))
  have qF:=ai (lV bv bm bo _ kR (.left (B.h s 0)) vC cp4 w4 bk lo false old dQ _ hv4 c4 (fun h=>by cases h) i4 hna gZ (by simp only[Lg.aV,List.length_append,List.length_cons,List.length_nil];omega))
  clear o8 hv3 m3 Gi k4 o4 c4 i4 f4
  go_wp2_with fail
  refine (ae qF).mono ?_
  rintro e w5 ⟨rfl,tJ,hv5,hf5,aag,-,c5⟩
  have kn5:au (fun b=>kR.F b) w4 w5:=aag.mono (fun b h=>.inr (.inr (.inr h)))
  rw[<-ae HG]at hv5 c5
  have m5:=m4.jc hv4 (kn5.mono (fun b h=>.inr h))
  have Ov:au (fun b=>b=bv\/lm.F b\/b=bb\/b=oc\/dC B s b) w w5:=Jv.from (kn5.mono (fun b h=>(tu b h).imp_left (fun h=>.inr (.inl h))))
  have D8:∀b,tJ.F b->lm.F b\/w.heap.size<=b:=fun b hb=>by
   rcases hf5 b hb with h|h
   ·exact tu b h
   ·exact .inr (Nat.le_trans Jv.size h)
  have hsy:(B.leave (aT om oc (B.h s 0)) s 0).sym=B.sym:=rfl
  obtain⟨y0,e5,e0,d0,s3⟩:=ae HZ w5 _ m5 hsy
  have Sl:=ai c5
  clear m4 hv4 Jv hf5 kn5 aag qF c5
  by_cases hsd:(om oc).side=1
  ·have es:((om oc).side == 1)=true:=by simp[hsd]
   have HC:=ai (ae Vh w5.drew _ _ (.agg #[.int .i64 0,.string B.sym,.int .i64 (om (B.h s 0)).af,.int .i64 q,.int .i64 (om (B.h s 0)).id,.int .i64 (om oc).id,.int .i64 0]) _ (by rw[ae HT];simp only[Tr.val,if_pos hsd]) ((ae Sl).aH ((au.refl aP w5).drew)) (m5.aC ((au.refl aP w5).drew) (fun x=>x) (fun _ _ x=>x) (fun _ _ _ _ x=>x)) (hv5.aH ((au.refl aP w5).drew)) D8 Ov.drew)
   have HS:=ai hsd
   clear hsd Vh m5 hv5 Ov D8 tu
   go_wp2
   go_region_held3 (fun w'=>w'.cell? ⟨bb,0,none⟩=some (.string B.sym)/\w'.cell? ⟨B.h s 0,5,none⟩=some (.int .i64 (om (B.h s 0)).af)/\w'.cell? ⟨B.h s 0,0,none⟩=some (.int .i64 (om (B.h s 0)).id)/\w'.cell? ⟨oc,0,none⟩=some (.int .i64 (om oc).id)) (go_keep)
    (first|(go_at_call 178;refine (ae HC).mono ?_;rintro e w6 ⟨rfl,m6,r6⟩;obtain⟨z1,z2,z3,z4,-⟩:=ae HZ w6 _ m6 rfl;have V8:=ai m6;have Tf:=ai r6;clear m6 r6))
   go_wp2
   go_end0
   rw[ae HB]
   exact⟨rfl,ae V8,ae Tf⟩
  ·have es:((om oc).side == 1)=false:=by simp[hsd]
   have HC:=ai (ae Vh w5.drew _ _ (.agg #[.int .i64 0,.string B.sym,.int .i64 (om (B.h s 0)).af,.int .i64 q,.int .i64 (om oc).id,.int .i64 (om (B.h s 0)).id,.int .i64 0]) _ (by rw[ae HT];simp only[Tr.val,if_neg hsd]) ((ae Sl).aH ((au.refl aP w5).drew)) (m5.aC ((au.refl aP w5).drew) (fun x=>x) (fun _ _ x=>x) (fun _ _ _ _ x=>x)) (hv5.aH ((au.refl aP w5).drew)) D8 Ov.drew)
   have HS:=ai hsd
   clear hsd Vh m5 hv5 Ov D8 tu
   go_wp2
   go_region_held3 (fun w'=>w'.cell? ⟨bb,0,none⟩=some (.string B.sym)/\w'.cell? ⟨B.h s 0,5,none⟩=some (.int .i64 (om (B.h s 0)).af)/\w'.cell? ⟨B.h s 0,0,none⟩=some (.int .i64 (om (B.h s 0)).id)/\w'.cell? ⟨oc,0,none⟩=some (.int .i64 (om oc).id)) (go_keep)
    (first|(go_at_call 178;refine (ae HC).mono ?_;rintro e w6 ⟨rfl,m6,r6⟩;obtain⟨z1,z2,z3,z4,-⟩:=ae HZ w6 _ m6 rfl;have V8:=ai m6;have Tf:=ai r6;clear m6 r6))
   go_wp2
   go_end0
   rw[ae HB]
   exact⟨rfl,ae V8,ae Tf⟩
 ·have e0':((aT om oc (B.h s 0) (B.h s 0)).aK == 0)=false:=by simp[h0]
  have HB:Hid (dO B om oc (B.h s 0) s=B):=by show _=_;unfold dO;rw[if_neg h0]
  have HG:Hid (dh G om oc (B.h s 0)=G.aV [.fA oc (om oc),.fA (B.h s 0) (om (B.h s 0))]):=by show _=_;unfold dh;rw[if_neg h0]
  clear h0
  obtain⟨w5,abD⟩:∃w5,w5=w3:=⟨_,rfl⟩
  subst abD
  have hv5:=hv3
  have c5:=ae OD
  rw[<-ae HG]at hv5 c5
  have Sl:=ai c5
  clear c5
  have m5:=m3
  have Ov:=Gi
  have D8:=tu
  have hsy:B.sym=B.sym:=rfl
  obtain⟨y0,e5,e0,d0,s3⟩:=ae HZ w5 _ m5 hsy
  clear m3 hv3 Gi
  by_cases hsd:(om oc).side=1
  ·have es:((om oc).side == 1)=true:=by simp[hsd]
   have HC:=ai (ae Vh w5.drew _ _ (.agg #[.int .i64 0,.string B.sym,.int .i64 (om (B.h s 0)).af,.int .i64 q,.int .i64 (om (B.h s 0)).id,.int .i64 (om oc).id,.int .i64 0]) _ (by rw[ae HT];simp only[Tr.val,if_pos hsd]) ((ae Sl).aH ((au.refl aP w5).drew)) (m5.aC ((au.refl aP w5).drew) (fun x=>x) (fun _ _ x=>x) (fun _ _ _ _ x=>x)) (hv5.aH ((au.refl aP w5).drew)) D8 Ov.drew)
   have HS:=ai hsd
   clear hsd Vh m5 hv5 Ov D8 tu
   go_wp2
   go_region_held3 (fun w'=>w'.cell? ⟨bb,0,none⟩=some (.string B.sym)/\w'.cell? ⟨B.h s 0,5,none⟩=some (.int .i64 (om (B.h s 0)).af)/\w'.cell? ⟨B.h s 0,0,none⟩=some (.int .i64 (om (B.h s 0)).id)/\w'.cell? ⟨oc,0,none⟩=some (.int .i64 (om oc).id)) (go_keep)
    (first|(go_at_call 178;refine (ae HC).mono ?_;rintro e w6 ⟨rfl,m6,r6⟩;obtain⟨z1,z2,z3,z4,-⟩:=ae HZ w6 _ m6 rfl;have V8:=ai m6;have Tf:=ai r6;clear m6 r6))
   go_wp2
   go_end0
   rw[ae HB]
   exact⟨rfl,ae V8,ae Tf⟩
  ·have es:((om oc).side == 1)=false:=by simp[hsd]
   have HC:=ai (ae Vh w5.drew _ _ (.agg #[.int .i64 0,.string B.sym,.int .i64 (om (B.h s 0)).af,.int .i64 q,.int .i64 (om oc).id,.int .i64 (om (B.h s 0)).id,.int .i64 0]) _ (by rw[ae HT];simp only[Tr.val,if_neg hsd]) ((ae Sl).aH ((au.refl aP w5).drew)) (m5.aC ((au.refl aP w5).drew) (fun x=>x) (fun _ _ x=>x) (fun _ _ _ _ x=>x)) (hv5.aH ((au.refl aP w5).drew)) D8 Ov.drew)
   have HS:=ai hsd
   clear hsd Vh m5 hv5 Ov D8 tu
   go_wp2
   go_region_held3 (fun w'=>w'.cell? ⟨bb,0,none⟩=some (.string B.sym)/\w'.cell? ⟨B.h s 0,5,none⟩=some (.int .i64 (om (B.h s 0)).af)/\w'.cell? ⟨B.h s 0,0,none⟩=some (.int .i64 (om (B.h s 0)).id)/\w'.cell? ⟨oc,0,none⟩=some (.int .i64 (om oc).id)) (go_keep)
    (first|(go_at_call 178;refine (ae HC).mono ?_;rintro e w6 ⟨rfl,m6,r6⟩;obtain⟨z1,z2,z3,z4,-⟩:=ae HZ w6 _ m6 rfl;have V8:=ai m6;have Tf:=ai r6;clear m6 r6))
   go_wp2
   go_end0
   rw[ae HB]
   exact⟨rfl,ae V8,ae Tf⟩
theorem jl{w:World}{bb:Nat}{B:Bk}{om:Nat->Ord}{L:Nat->Prop}(m:Mk w bb B om L){x lo:Nat}{q:Bool}(hx:L x):l9 w lo q (fun b=>b=x):=l9.fZ (fun b h=>by
 subst h
 obtain⟨ix,ho⟩:=m.bg _ hx
 exact⟨_,116,ho,by rintro (e|e|e|e|e|e|e|e|⟨_,e⟩) <;> exact absurd e (by decide)⟩)
theorem Ez{w:World}{bb:Nat}{B:Bk}{om:Nat->Ord}{L:Nat->Prop}(m:Mk w bb B om L){lo:Nat}{q:Bool}:l9 w lo q (fun b=>b=bb):=l9.fZ (fun b h=>by
 subst h
 exact⟨_,158,m.aW.aB,by rintro (e|e|e|e|e|e|e|e|⟨_,e⟩) <;> exact absurd e (by decide)⟩)
theorem rH{w:World}{bb:Nat}{B:Bk}{om:Nat->Ord}{L:Nat->Prop}(m:Mk w bb B om L){s lo:Nat}{q:Bool}(hs:s<2)(qH:∀g,gG (B.sl s)=some g->g<lo):l9 w lo q (fun b=>b=bb\/dC B s b):=fun b h=>by
 rcases h with h|h|⟨k,hk,h⟩
 ·exact Ez m b h
 ·exact .inl (qH b h)
 ·exact jl m (m.mem s hs k hk) b h
theorem NZ(B:Bk)(om:Nat->Ord)(oc ow s:Nat):(dO B om oc ow s).sl=B.sl:=by
 unfold dO
 split <;> rfl
theorem Kr{B:Bk}{om:Nat->Ord}{oc s:Nat}(hinj:qf (B.n s) (B.h s))(hn:0<B.n s)(k:Nat)(hk:k<(dO B om oc (B.h s 0) s).n s):∃k',k'<B.n s/\(dO B om oc (B.h s 0) s).h s k=B.h s k':=by
 unfold dO at hk ⊢
 split at hk
 ·rename_i h0
  rw[if_pos h0]
  obtain⟨k',hk',e,_⟩:=mW hinj hn k hk
  exact⟨k',hk',e⟩
 ·rename_i h0
  rw[if_neg h0]
  exact⟨k,hk,rfl⟩
theorem Uw(bv bb oc s bm bo:Nat)(st0:MS)(lm:Lm)(L:Nat->Prop)(w:World)(bk:Nat->Nat)(lo:Nat)(old:List (List Value))(dQ:List Nat)(cl:List Value)(hC:gI w bv bk lo false old st0.lg.nt dQ lm cl)(hlo:lo<=w.heap.size)(hbk:∀k,k<st0.B.n s->bk (st0.B.h s k)=bb)(qH:∀g,gG (st0.B.sl s)=some g->g<lo)(hv:bu w bv bm bo st0.lg lm)(m:Mk w bb st0.B st0.om L)(hs:s<2)(hc:L oc)(iv:qN oc s st0)(M:Nat)(hM:M<1000000000)(hl1:st0.lg.tp.length+mu oc s st0<=M)(hl2:st0.lg.tr.length+mu oc s st0<=M)(hna:0<st0.lg.na)(gZ:st0.lg.na<=3000000)(hl3:st0.lg.nt.length+4 * mu oc s st0<=M) :
 Calls Tryz.prog 120 #[.pointer (some ⟨bv,0,none⟩),.pointer (some ⟨bb,0,none⟩),.pointer (some ⟨oc,0,none⟩)] w fun e w'=>e=.returned (.tuple #[]) /\
  Mk w' bb (mF oc s st0).B (mF oc s st0).om L/\(∃bH,bu w' bv bm bo (mF oc s st0).lg bH/\(∀b,bH.F b->lm.F b\/w.heap.size<=b)/\∃ext cl',gI w' bv bk lo false old (mF oc s st0).lg.nt (dQ++ext) bH cl')/\qN oc s (mF oc s st0)/\au (fun b=>b=bv\/lm.F b\/b=bb\/b=oc\/dC st0.B s b) w w':=by
 go_enter Tryz.func120,Tryz.ntmps120
 go_wp2
 go_loopg [6] (mu oc s st0) (fun k _ wr=>∃(st:MS) (EZ:Lm),mu oc s st<=k/\aZ oc s k st=mF oc s st0/\Mk wr bb st.B st.om L/\bu wr bv bm bo st.lg EZ/\qN oc s st/\(∀b,dC st.B s b->dC st0.B s b)/\au (fun b=>b=bv\/lm.F b\/b=bb\/b=oc\/dC st0.B s b) w wr/\(∀b,EZ.F b->lm.F b\/w.heap.size<=b)/\st.lg.tp.length+k<=M/\st.lg.tr.length+k<=M/\st.lg.na=st0.lg.na/\st.lg.nt.length+4 * k<=M/\st.B.sl s=st0.B.sl s/\(∀k,k<st.B.n s->bk (st.B.h s k)=bb)/\∃ext cl',gI wr bv bk lo false old st.lg.nt (dQ++ext) EZ cl')
 case atStart=>exact⟨st0,lm,Nat.le_refl _,rfl,m,hv,iv,fun _ h=>h,au.refl _ _,fun _ h=>.inl h,hl1,hl2,rfl,hl3,rfl,hbk,[],cl,by rw[List.append_nil];exact hC⟩
 case round =>
  obtain⟨st,EZ,hk,hm,m1,hv1,XD,sub,c1,hf1,hb1,hb2,hb3,hb4,hsl,hbk1,ext,Vq,Yf⟩:=hrel
  have HSL:=ai hsl
  have SN:=ai hbk1
  have HCU:=ai Yf
  rw[<-hb3]at hna gZ
  have HM:=ai hm
  have Yb:=ai hf1
  have HB3:=ai hb3
  clear hm m hv iv hf1 hl1 hl2 hl3 hb3 hsl hbk1 Yf hC hbk
  obtain⟨ixc,hoc⟩:=m1.bg oc hc
  have c8:wr.cell? ⟨oc,8,none⟩=some (.int .i64 (st.om oc).aK):=hoc.cell 8
  by_cases hp:0<(st.om oc).aK
  ·have WM:wr.cell? ⟨oc,0,none⟩=some (.int .i64 (st.om oc).id):=hoc.cell 0
   have Vp:wr.cell? ⟨oc,1,none⟩=some (.int .i64 (st.om oc).aA):=hoc.cell 1
   have WN:wr.cell? ⟨oc,2,none⟩=some (.string (st.om oc).sym):=hoc.cell 2
   have WO:wr.cell? ⟨oc,3,none⟩=some (.int .i64 (st.om oc).side):=hoc.cell 3
   have WQ:wr.cell? ⟨oc,4,none⟩=some (.int .i64 (st.om oc).kind):=hoc.cell 4
   have WR:wr.cell? ⟨oc,5,none⟩=some (.int .i64 (st.om oc).af):=hoc.cell 5
   have WS:wr.cell? ⟨oc,6,none⟩=some (.int .i64 (st.om oc).aI):=hoc.cell 6
   go_wp2_with fail
   refine (jP bb st.B st.om (cZ (st.om oc)) s wr m1.aW hs XD.side).mono ?_
   rintro e w2 ⟨rfl,k2⟩
   have m2:=m1.aC k2 (fun x=>x) (fun _ _ x=>x) (fun _ _ _ _ x=>x)
   have hv2:=hv1.aH k2
   clear WM WN WO WQ WR WS c8
   cases hf:dF st.B st.om (cZ (st.om oc)) s
   ·have hst:stops oc s st=true:=by simp[stops,hf]
    have HS:=ai hst
    clear hf hst
    simp only[iR]
    go_wp2
    try simp only[Exit.inBlock,Exit.then]
    refine bodyPost_ret (results_none rfl _ _ _) rfl ?_
    have hfin:mF oc s st0=st:=by rw[<-ae HM,xZ (ae HS)]
    rw[hfin]
    exact⟨rfl,m2,⟨EZ,hv2,ae Yb,ext,Vq,(ae HCU).aH k2⟩,XD,c1.trans k2.bI⟩
   ·rename_i b
    obtain⟨hn,rfl⟩:=ry hf
    have hst:stops oc s st=false:=by simp[stops,hf,hp]
    obtain⟨iv3,mu3,UH⟩:=nH XD hn hp
    obtain⟨g,rfl⟩:∃g,gk=g+1:=⟨gk-1,by omega⟩
    have hm3:aZ oc s g (bz oc s st)=mF oc s st0:=by rw[<-ae HM,aZ,hst];rfl
    have H3:=ai hm3
    have HI:=ai iv3
    have HU:=ai mu3
    clear hf hst hm3 iv3 mu3 HM
    obtain⟨ab2,abw⟩:=m2.bg oc hc
    obtain⟨ab3,aby⟩:=m2.bg _ (m2.mem s hs 0 hn)
    have a1:w2.cell? ⟨oc,1,none⟩=some (.int .i64 (st.om oc).aA):=abw.cell 1
    have b1:w2.cell? ⟨st.B.h s 0,1,none⟩=some (.int .i64 (st.om (st.B.h s 0)).aA):=aby.cell 1
    have i0:=XD.mem 0 hn
    simp only[iR]
    by_cases ho:(st.om (st.B.h s 0)).aA=(st.om oc).aA
    ·have e1:((st.om (st.B.h s 0)).aA == (st.om oc).aA)=true:=by simp[ho]
     have HE:Hid (bz oc s st=⟨st.B.leave st.om s 0,aN st.om (st.B.h s 0) (fU (st.om (st.B.h s 0))),st.lg.aV [.left (st.B.h s 0),.fA (st.B.h s 0) (st.om (st.B.h s 0))]⟩):=by show _=_;unfold bz;rw[if_pos ho]
     clear ho Vp
     go_wp2
     go_quiet (fail)
     go_wp2_with fail
     have m2':=m2.aC ((au.refl aP w2).drewN nq) (fun x=>x) (fun _ _ x=>x) (fun _ _ _ _ x=>x)
     refine (pF bb st.B st.om L s 0 _ m2' hs hn i0.1).mono ?_
     rintro e w3 ⟨nC,cp3,rfl,f3,m3,k3⟩
     clear a1 b1
     go_wp2_with fail
     refine (lF bb (st.B.h s 0) _ st.om L _ m3 (m2.mem s hs 0 hn)).mono ?_
     rintro e w4 ⟨vC,cp4,rfl,f4,m4,k4⟩
     have hv3:=(hv2.aH ((au.refl aP w2).drewN nq)).jg k3 (fun b h=>m2'.fZ (by rcases h with h|h;exact .inl h;exact .inr (.inr ⟨s,hs,h⟩)))
     have hv4:=hv3.jg k4 (fun b h=>by subst h;exact m3.fZ (.inr (.inl (m2.mem s hs 0 hn))))
     have hd2:au aP wr (w2.drewN nq):=k2.drewN nq
     have szw:=c1.size
     have o3:l9 (w2.drewN nq) lo false (fun b=>b=bb\/dC st.B s b):=rH m2' hs (by rw[ae HSL];exact qH)
     have o4:l9 w3 lo false (fun b=>b=st.B.h s 0):=jl m3 (m2.mem s hs 0 hn)
     have c4:=(((ae HCU).aH hd2).aC k3 o3).aC k4 o4
     have i3:bJ w3 bv bk lo (.left (st.B.h s 0)) (.func nC #[] cp3):=⟨_,_,rfl,by
      show iZ w3 (bk (st.B.h s 0)) (st.B.h s 0) lo nC cp3
      rw[ae SN 0 hn]
      exact f3.mono (by have:=hd2.size;omega)⟩
     have i3':=i3.aC (q:=false) (fun h=>by cases h) k4 o4
     have i4:bJ w4 bv bk lo (.fA (st.B.h s 0) (st.om (st.B.h s 0))) (.func vC #[] cp4):=⟨_,_,rfl,f4.mono (by have:=hd2.size;have:=k3.size;omega)⟩
     have qF:=ai (uN bv bm bo _ EZ (.left (st.B.h s 0)) (.fA (st.B.h s 0) (st.om (st.B.h s 0))) nC vC cp3 cp4 w4 bk lo false old _ _ hv4 c4 (fun h=>by cases h) (fun h=>by cases h) i3' i4 hna gZ (by omega))
     go_wp2_with fail
     refine (ae qF).mono ?_
     rintro e w5 ⟨rfl,tJ,hv5,hf5,k5',-,c5⟩
     have k5:au (fun b=>EZ.F b) w4 w5:=k5'.mono (fun b h=>.inr (.inr (.inr h)))
     have Sl:=ai c5
     clear c5 k5' c4 i3 i3' i4 o3 o4 f3 f4
     go_wp2
     go_roundg g
     case measure=>omega
     case rel =>
      have m5:=m4.jc hv4 (k5.mono (fun b h=>.inr h))
      have hh:=ae HE
      have hi:=ae HI
      have hu:=ae HU
      have h3:=ae H3
      rw[hh]at hi hu h3 UH
      have Jv:au (fun b=>b=bv\/lm.F b\/b=bb\/b=oc\/dC st0.B s b) w w4:=((c1.trans k2.bI).drewN _).trans ((k3.mono (fun b h=>by rcases h with h|h;exact .inr (.inr (.inl h));exact .inr (.inr (.inr (.inr (sub b h)))))).trans (k4.mono (fun b h=>.inr (.inr (.inr (.inr (sub b (.inr ⟨0,hn,h⟩))))))))
      refine⟨_,tJ,by omega,h3,m5,hv5,hi,fun b hb=>sub b (UH b hb),Jv.from (k5.mono (fun b h=>(ae Yb b h).imp_left (fun h=>.inr (.inl h)))),fun b hb=>?_,by simp only[Lg.aV];omega,by simp only[Lg.aV];omega,ae HB3,by simp only[Lg.aV,List.length_append,List.length_cons,List.length_nil];omega,ae HSL,fun k hk=>?_,ext,_,ae Sl⟩
      ·rcases hf5 b hb with h|h
       ·exact ae Yb b h
       ·exact .inr (Nat.le_trans Jv.size h)
      ·obtain⟨k',hk',e',_⟩:=mW XD.inj hn k hk
       show bk ((st.B.leave st.om s 0).h s k)=bb
       rw[e'];exact ae SN k' hk'
    ·have e1:((st.om (st.B.h s 0)).aA == (st.om oc).aA)=false:=by simp[ho]
     have HE:Hid (bz oc s st=⟨dO st.B st.om oc (st.B.h s 0) s,aT st.om oc (st.B.h s 0),(dh st.lg st.om oc (st.B.h s 0)).jG (iG st.B st.om oc (st.B.h s 0))⟩):=by show _=_;unfold bz;rw[if_neg ho]
     clear ho Vp
     go_wp2
     go_quiet (fail)
     go_wp2_with fail
     refine (UK bv bb oc s bm bo st.lg EZ st.B st.om L _ bk lo old _ _ (((ae HCU).aH k2).aH ((au.refl aP w2).drewN _)) (by have:=c1.size;have:=k2.size;have:=((au.refl aP w2).drewN nq).size;omega) (ae SN 0 hn) (by rw[ae HSL];exact qH) (hv2.aH ((au.refl aP w2).drewN _)) (m2.aC ((au.refl aP w2).drewN _) (fun x=>x) (fun _ _ x=>x) (fun _ _ _ _ x=>x)) hs hn hc i0.2.2.2 i0.1 (by omega) (by omega) hna gZ (by omega)).mono ?_
     rintro e w3 ⟨rfl,m3,kR,hv3,hf3,k3,x3,rZ,FP⟩
     have OD:=ai FP
     clear FP
     clear a1 b1
     go_wp2
     go_roundg g
     case measure=>omega
     case rel =>
      have hh:=ae HE
      have hi:=ae HI
      have hu:=ae HU
      have h3:=ae H3
      rw[hh]at hi hu h3 UH
      have hsz:=((c1.trans k2.bI).drewN nq).size
      have g4:=xH st.lg st.om oc (st.B.h s 0)
      refine⟨_,kR,by omega,h3,m3,hv3,hi,fun b hb=>sub b (UH b hb),((c1.trans k2.bI).drewN _).from (k3.mono (fun b h=>?_)),fun b hb=>?_,by simp only[Lg.jG,Lg.told,Lg.aC,Lg.aV,mX,List.length_append,List.length_cons,List.length_nil];omega,by simp only[Lg.jG,Lg.told,Lg.aC,Lg.aV,gu,List.length_append,List.length_cons,List.length_nil];omega,by simp only[Lg.jG,Lg.told,Lg.aC,Lg.aV,xG];exact ae HB3,by simp only[Lg.jG,Lg.told,Lg.aC,Lg.aV,List.length_append,List.length_cons,List.length_nil];omega,by show (dO st.B st.om oc (st.B.h s 0) s).sl s=_;rw[NZ];exact ae HSL,fun k hk=>?_,ext++[x3],rZ,by rw[<-List.append_assoc];exact ae OD⟩
      ·rcases h with h|h|h|h|h
       ·exact .inl (.inl h)
       ·exact (ae Yb b h).imp_left (fun h=>.inr (.inl h))
       ·exact .inl (.inr (.inr (.inl h)))
       ·exact .inl (.inr (.inr (.inr (.inl h))))
       ·exact .inl (.inr (.inr (.inr (.inr (sub b h)))))
      ·rcases hf3 b hb with h|h
       ·exact ae Yb b h
       ·exact .inr (Nat.le_trans hsz h)
      ·obtain⟨k',hk',e'⟩:=Kr (om:=st.om) (oc:=oc) XD.inj hn k hk
       show bk ((dO st.B st.om oc (st.B.h s 0) s).h s k)=bb
       rw[e'];exact ae SN k' hk'
  ·have hst:stops oc s st=true:=by simp[stops,hp]
   have HS:=ai hst
   clear hst
   go_wp2
   go_end0
   have hfin:mF oc s st0=st:=by rw[<-ae HM,xZ (ae HS)]
   rw[hfin]
   exact⟨rfl,m1,⟨EZ,hv1,ae Yb,ext,Vq,ae HCU⟩,XD,c1⟩
def wI(c:Value)(b:Nat):Prop:=∃fn cp,c=.func fn #[] cp/\dn b∈cp.toList
theorem fK{a b:Nat}(h:dn a=dn b):a=b:=by
 simp only[dn,Value.pointer.injEq,Option.some.injEq,Addr.mk.injEq]at h
 exact h.1
theorem bJ.cap{w:World}{bv:Nat}{bk:Nat->Nat}{lo:Nat}{d:dS}{c:Value}(h:bJ w bv bk lo d c){b:Nat}(hb:wI c b):lo<=b/\b<w.heap.size:=by
 obtain⟨fn,cp,rfl,h⟩:=h
 obtain⟨fn',cp',e,hm⟩:=hb
 simp only[Value.func.injEq]at e
 obtain⟨_,_,rfl⟩:=e
 cases d with
 | fA b od =>
   obtain⟨e,H,h0,rfl,h1,h2⟩:=h
   have:=h1.lt;have:=h2.lt
   simp at hm
   rcases hm with hm|hm <;> (have:=fK hm;omega)
 | left b =>
   obtain⟨e,H,h0,rfl,h1,h2⟩:=h
   have:=h1.lt;have:=h2.lt
   simp at hm
   rcases hm with hm|hm <;> (have:=fK hm;omega)
 | eQ b p =>
   obtain⟨e,H,h0,rfl,⟨h1,h2⟩,h3⟩:=h
   have:=h1.lt;have:=h2.lt;have:=h3.lt
   simp at hm
   rcases hm with hm|hm|hm <;> (have:=fK hm;omega)
 | entered id =>
   obtain⟨e,H,cs,h0,rfl,h1,h2,h3⟩:=h
   have:=h1.lt;have:=h2.lt
   simp at hm
   rcases hm with hm|hm <;> (have:=fK hm;omega)
 | cO s =>
   obtain⟨e,H,K,h0,hK,rfl,h1,h2⟩:=h
   have:=h1.lt;have:=h2.lt
   simp at hm
   rcases hm with hm|hm <;> (have:=fK hm;omega)
 | iH t =>
   obtain⟨e,H,h0,rfl,h1,h2⟩:=h
   have:=h1.lt;have:=h2.lt
   simp at hm
   rcases hm with hm|hm <;> (have:=fK hm;omega)
 | jw tb =>
   obtain⟨e,H,K,h0,hK,rfl,h1,h2⟩:=h
   have:=h1.lt;have:=h2.lt
   simp at hm
   rcases hm with hm|hm <;> (have:=fK hm;omega)
 | iE tb p =>
   obtain⟨e,H,K,J,h0,hK,hJ,rfl,h1,h2,h3⟩:=h
   have:=h1.lt;have:=h2.lt;have:=h3.lt
   simp at hm
   rcases hm with hm|hm|hm <;> (have:=fK hm;omega)
 | closed =>
   obtain⟨e,H,h0,rfl,h1⟩:=h
   have:=h1.lt
   simp at hm
   have:=fK hm
   omega
theorem gI.cap{w:World}{bv:Nat}{bk:Nat->Nat}{lo:Nat}{q:Bool}{old:List (List Value)}{nt:List dS}{dQ:List Nat}{m:Lm}{cl:List Value}(h:gI w bv bk lo q old nt dQ m cl){c:Value}(hc:c∈cl){b:Nat}(hb:wI c b):lo<=b/\b<w.heap.size:=by
 obtain⟨i,hi⟩:=List.mem_iff_getElem?.1 hc
 have hil:=(List.getElem?_eq_some_iff.1 hi).1
 rw[h.len]at hil
 exact (h.mi i _ c (List.getElem?_eq_getElem hil) hi).cap hb
theorem XW(bb ob s:Nat)(B:Bk)(om:Nat->Ord)(ix:Int)(w:World)(hb:bU w bb B om)(ho:df w ob (om ob) ix)(hs:s<2)(hside:(om ob).side=(s:Int))(hnew:∀t,t<2->∀k,k<B.n t->B.h t k≠ob)(hn:B.n s<1000) :
 Calls Tryz.prog 122 #[.pointer (some ⟨bb,0,none⟩),.pointer (some ⟨ob,0,none⟩)] w fun e w'=>e=.returned (.func (.func 153) #[] #[.pointer (some ⟨w.heap.size,0,none⟩),.pointer (some ⟨w.heap.size+1,0,none⟩),.pointer (some ⟨w.heap.size+2,0,none⟩)])/\uZ w' w.heap.size bb ob (om ob).place /\
  ∃g cap',bU w' bb (B.rest (aN om ob { om ob with place:=wrap64 (B.places+1) }) s ob g cap') (aN om ob { om ob with place:=wrap64 (B.places+1) })/\au (fun b=>b=bb\/b=ob\/dC B s b) w w'/\(gG (B.sl s)=some g\/w.heap.size+3<=g):=by
 have hne:ob≠bb:=az.ne ho hb.aB (by decide)
 obtain⟨dG,PX⟩:∃dG,dG=aN om ob { om ob with place:=wrap64 (B.places+1) }:=⟨_,rfl⟩
 rw[<-PX]
 obtain⟨w0,hw0⟩:∃w0,w0=(w.setCell ⟨bb,3,none⟩ (.int .i64 (wrap64 (B.places+1)))).setCell ⟨ob,12,none⟩ (.int .i64 (wrap64 (B.places+1))):=⟨_,rfl⟩
 have k0:au (fun b=>b=bb\/b=ob) w w0:=by
  rw[hw0]
  exact ((au.refl (fun b=>b=bb\/b=ob) w).setCell (p:=⟨bb,3,none⟩) (.inl (.inl rfl)) _).setCell (p:=⟨ob,12,none⟩) (.inl (.inr rfl)) _
 have hs0:w0.heap.size=w.heap.size:=by rw[hw0];simp[World.setCell]
 have hb0:az w0 bb (B.cells.setIfInBounds 3 (.int .i64 (wrap64 (B.places+1)))) 158:=by rw[hw0];exact (hb.aB.set 3 _).other (fun e=>hne e.symm) _
 have ho0:df w0 ob (dG ob) ix:=by rw[hw0,PX,aj];exact (ho.other hne _).set 12 _
 have ZW:∀t,t<2->iU w0 (B.sl t) (B.n t) (B.cap t) (B.h t) dG:=fun t ht=>((hb.side t ht).aC k0 (fun b h hx=>by
  rcases hx with rfl|rfl
  ·exact hb.KG ht h
  ·rcases h with h|⟨k,hk,e⟩
   ·exact (hb.side t ht).ne ho (by decide) h
   ·exact hnew t ht k hk e.symm)).om (fun k hk=>by rw[PX,ah _ _ (hnew t ht k hk)])
 have hbk0:bU w0 bb { B with places:=wrap64 (B.places+1) } dG:=⟨hb0,ZW,hb.apart,hb.uF⟩
 obtain⟨w1,hw1⟩:∃w1,w1=(((w0.alloc (.cells #[.pointer (some ⟨bb,0,none⟩)] 111)).alloc (.cells #[.pointer (some ⟨ob,0,none⟩)] 114)).alloc (.cells #[.int .i64 (om ob).place] 3)).drew:=⟨_,rfl⟩
 have k1:au aP w0 w1:=by rw[hw1];exact ((((au.refl aP w0).alloc _).alloc _).alloc _).drew
 have hs1:w1.heap.size=w.heap.size+3:=by rw[hw1];simp[hs0]
 have pa:uZ w1 w.heap.size bb ob (om ob).place:=by
  rw[hw1,<-hs0]
  exact⟨⟨((az.new w0 _ _).alloc _).alloc _,(az.xy w0 _ _ _).alloc _⟩,az.QC w0 _ _ _ _⟩
 have hpush:=Cc bb ob s { B with places:=wrap64 (B.places+1) } dG ix w1 (hbk0.aC k1 (fun _ _ x=>x)) (k1.aB ho0 (fun x=>x)) hs (by rw[PX,aj];exact hside) hnew hn
 have lb:=hb.aB.lt
 have lo:=ho.lt
 have sdl:∀b,dC B s b->b<w.heap.size:=fun b h=>hb.Dn hs h
 have HFin:Hid (∀w',(∃g cap',bU w' bb (Bk.push { B with places:=wrap64 (B.places+1) } dG s ob g cap') dG/\au (fun b=>b=bb\/b=ob\/dC { B with places:=wrap64 (B.places+1) } s b) w1 w'/\(gG (B.sl s)=some g\/w1.heap.size<=g)) ->
  uZ w' w.heap.size bb ob (om ob).place/\∃g cap',bU w' bb (B.rest dG s ob g cap') dG/\au (fun b=>b=bb\/b=ob\/dC B s b) w w'/\(gG (B.sl s)=some g\/w.heap.size+3<=g)):=by
  rintro w' ⟨g,cap',h1,h2,h3⟩
  have out:∀b,w.heap.size<=b->¬(b=bb\/b=ob\/dC B s b):=by
   rintro b h (e|e|e)
   ·omega
   ·omega
   ·have:=sdl b e;omega
  refine⟨pa.aC (S:=fun b=>b=bb\/b=ob\/dC B s b) h2 (out _ (Nat.le_refl _)) (out _ (by omega)) (out _ (by omega)),g,cap',h1,((k0.mono (fun b hb=>by rcases hb with h|h;exact .inl h;exact .inr (.inl h))).trans k1.bI).trans h2,h3.imp_right (fun h=>?_)⟩
  omega
 have HR:=ai hpush
 have HW:Hid (w1=(((((w.setCell ⟨bb,3,none⟩ (.int .i64 (wrap64 (B.places+1)))).setCell ⟨ob,12,none⟩ (.int .i64 (wrap64 (B.places+1)))).alloc (.cells #[.pointer (some ⟨bb,0,none⟩)] 111)).alloc (.cells #[.pointer (some ⟨ob,0,none⟩)] 114)).alloc (.cells #[.int .i64 (om ob).place] 3)).drew):=by
  show _=_
  rw[hw1,hw0]
 have c3:w.cell? ⟨bb,3,none⟩=some (.int .i64 B.places):=hb.aB.cell 3
 have f3:=hb.aB.frozen 3
 have o12:w.cell? ⟨ob,12,none⟩=some (.int .i64 (om ob).place):=ho.cell 12
 have fo:=ho.frozen 12
 have y0:w1.cell? ⟨w.heap.size,0,none⟩=some (.pointer (some ⟨bb,0,none⟩)):=pa.uO.aW.cell 0
 have y1:w1.cell? ⟨w.heap.size+1,0,none⟩=some (.pointer (some ⟨ob,0,none⟩)):=pa.uO.ord.cell 0
 have lb1:bb<w.heap.size+1:=by omega
 have lb2:bb<w.heap.size+1+1:=by omega
 have lo1:ob<w.heap.size+1:=by omega
 have lo2:ob<w.heap.size+1+1:=by omega
 have ls2:w.heap.size<w.heap.size+1+1:=by omega
 have nb1:¬w.heap.size=bb:=by omega
 have nb2:¬w.heap.size+1=bb:=by omega
 clear hpush ZW ho0 hb0 k0 PX hw1 hw0 hbk0 sdl hs0 hs1 k1 pa
 go_enter Tryz.func122,Tryz.ntmps122
 go_wp2
 go_region
 rw[<-ae HW]
 clear c3 f3 o12 fo
 go_wp2_with fail
 refine (ae HR).mono ?_
 rintro e w2 ⟨rfl,hw2⟩
 have hf:=ae HFin w2 hw2
 have HF:=ai hf
 clear hf hw2
 go_wp2
 go_ret
 exact⟨rfl,ae HF⟩
theorem EK(bb ob s:Nat)(B:Bk)(om:Nat->Ord)(ix:Int)(w:World)(hb:bU w bb B om)(ho:df w ob (om ob) ix)(hs:s<2)(hside:(om ob).side=(s:Int))(hnew:∀t,t<2->∀k,k<B.n t->B.h t k≠ob)(hn:B.n s<1000) :
 Calls Tryz.prog 122 #[.pointer (some ⟨bb,0,none⟩),.pointer (some ⟨ob,0,none⟩)] w fun e w'=>∃fn cp,e=.returned (.func fn #[] cp)/\jU w' bb ob (om ob).place w.heap.size fn cp/\(∀b,wI (.func fn #[] cp) b->b<w.heap.size+3) /\
  ∃g cap',bU w' bb (B.rest (aN om ob { om ob with place:=wrap64 (B.places+1) }) s ob g cap') (aN om ob { om ob with place:=wrap64 (B.places+1) })/\au (fun b=>b=bb\/b=ob\/dC B s b) w w'/\(gG (B.sl s)=some g\/w.heap.size+3<=g):=by
 refine (XW bb ob s B om ix w hb ho hs hside hnew hn).mono ?_
 rintro e w' ⟨rfl,h0,h1⟩
 refine⟨_,_,rfl,⟨rfl,_,Nat.le_refl _,rfl,h0⟩,fun b hc=>?_,h1⟩
 obtain⟨fn,cp,e,hm⟩:=hc
 simp only[Value.func.injEq]at e
 obtain⟨_,_,rfl⟩:=e
 have hm':dn b∈[dn w.heap.size,dn (w.heap.size+1),dn (w.heap.size+2)]:=hm
 simp at hm'
 rcases hm' with hm'|hm'|hm' <;> (have:=fK hm';omega)
end Go.Proofs.YtigaphnafnpfnaaGreatDoor
