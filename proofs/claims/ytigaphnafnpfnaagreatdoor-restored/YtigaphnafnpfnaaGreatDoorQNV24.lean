import Derived.Test.YtigaphnafnpfnaaGreatDoorQNV13
set_option linter.unusedVariables false
set_option linter.unusedSimpArgs false
set_option maxHeartbeats 8000000
set_option maxRecDepth 100000
namespace Go.Proofs.YtigaphnafnpfnaaGreatDoor
open Go.RowKit
attribute [local go_sem ↓] Go.wp_at_zero Go.wp_at_succ
theorem fU.acR{w:World}{bv bm bo n g cap:Nat}{G:Lg}{m:Lm}{L:List Tg}{x:Tg}(h:bG w bv bm bo G m)(hG:G.tr=L++[x])(hn:L.length=n)(zF:m.tv=.slice (some ⟨g,0,none⟩) (n+1) cap) :
 bG ((w.setCell ⟨g,n,none⟩ (.pointer none)).setCell ⟨bv,2,none⟩ (.slice (some ⟨g,0,none⟩) n cap)) bv bm bo { G with tr:=L } { m with tv:=.slice (some ⟨g,0,none⟩) n cap,tb:=m.tb.dropLast } /\
  aj (fun b=>b=bv\/m.tv.ownBlock=some b) w ((w.setCell ⟨g,n,none⟩ (.pointer none)).setCell ⟨bv,2,none⟩ (.slice (some ⟨g,0,none⟩) n cap)) /\
  (∀b,Lm.F { m with tv:=.slice (some ⟨g,0,none⟩) n cap,tb:=m.tb.dropLast } b->m.F b):=by
 have hob:m.tv.ownBlock=some g:=by rw[zF];rfl
 have k:aj (fun b=>b=bv\/m.tv.ownBlock=some b) w ((w.setCell ⟨g,n,none⟩ (.pointer none)).setCell ⟨bv,2,none⟩ (.slice (some ⟨g,0,none⟩) n cap)) :=
  ((aj.refl (fun b=>b=bv\/m.tv.ownBlock=some b) w).setCell (p:=⟨g,n,none⟩) (.inl (.inr hob)) _).setCell (p:=⟨bv,2,none⟩) (.inl (.inl rfl)) _
 have ht:=h.aP.jJ;have htl:G.tr.length=n+1:=by rw[hG,List.length_append,hn];rfl
 have hbl:m.tb.length=n+1:=by rw[h.aP.len,htl]
 rw[zF,htl]at ht;obtain⟨hl0,h0⟩:=ht;obtain⟨cur,hb,h1,h2,h3,h4⟩:∃cur,aA w g cur 103/\n+1<=cap/\cap<=maxLen/\cur.size=cap * 1/\cur.toList.take ((n+1) * 1)=m.tb.map dD:=by
  rcases h0 with⟨e,_⟩ | ⟨g',cap',cur,e,_,hb,h1,h2,h3,h4⟩
  ·simp at e
  ·simp only[Value.slice.injEq,Option.some.injEq,Addr.mk.injEq]at e;obtain⟨⟨e1,_⟩,_,e2⟩:=e;subst e1 e2;exact⟨cur,hb,h1,h2,h3,h4⟩
 have hne:g≠bv:=aA.ne hb h.dC (by decide);have no:∀{b c t},aA w b c t->t≠100->t≠103->¬(b=bv\/m.tv.ownBlock=some b):=by
  rintro b c t hc e1 e2 (e | e)
  ·exact aA.ne hc h.dC e1 e
  ·rw[hob]at e;obtain rfl:=Option.some.inj e;exact aA.ne hc hb e2 rfl
 refine⟨⟨((h.dC.other (fun e=>hne e.symm) _).set 2 _),?_⟩,k,?_⟩
 ·refine⟨?_,aI h.aP.iO k (fun b e=>?_),?_,fun i b y hi hy=>?_,h.aP.nodup.sublist (List.dropLast_sublist _),h.aP.act.aC k (fun b e=>?_),aI h.aP.kV k (fun b e=>?_),h.aP.jb⟩
  ·refine⟨by simp[List.length_dropLast,hbl,hn],.inr ⟨g,cap,cur.setIfInBounds n (.pointer none),?_,Nat.zero_le _,(hb.set n _).other hne _,by simp only[hn];omega,h2,by simpa using h3,?_⟩⟩
   ·simp only[hn]
   ·simp only[hn,Nat.mul_one]at h4 ⊢;have e:(cur.setIfInBounds n (.pointer none)).toList=cur.toList.set n (.pointer none):=by simp
    rw[e,List.take_set,List.map_dropLast,<-h4];have hcl:cur.toList.length=cap:=by simpa using h3
    rw[List.set_eq_of_length_le (by simp;exact Nat.min_le_left _ _),List.dropLast_eq_take,List.take_take,List.length_take,hcl,show min (min (n+1) cap-1) (n+1)=n by omega]
  ·obtain⟨cs,hc⟩:=bK h.aP.iO e;exact no hc (by decide) (by decide)
  ·simp[hbl,hn]
  ·have hi':i<m.tb.dropLast.length:=(List.getElem?_eq_some_iff.1 hi).1;simp[hbl]at hi';have hi2:m.tb[i]?=some b:=by rw[<-hi,List.getElem?_dropLast,if_pos (by omega)]
   have hc:=h.aP.aF i b y hi2 (by rw[hG,List.getElem?_append_left (by omega)];exact hy);exact k.aF hc (no hc (by decide) (by decide))
  ·obtain⟨cs,t,hc,ht⟩:=h.aP.act.gK e;exact no hc (by rcases ht with rfl | rfl <;> decide) (by rcases ht with rfl | rfl <;> decide)
  ·obtain⟨cs,hc⟩:=bK h.aP.kV e;exact no hc (by decide) (by decide)
 ·rintro b (e | e | e | e)
  ·exact .inl (by rw[hob];exact e)
  ·exact .inr (.inl e)
  ·exact lN ((List.dropLast_sublist _).subset e)
  ·exact DR e
theorem VM(bv bm bo H n:Nat)(t:Tr)(x:Tg)(L:List Tg)(G:Lg)(m:Lm)(w:World)(hL:bG w bv bm bo G m)(hG:G.tr=L++[x])(hn:L.length=n)(hnum:t.num=(n:Int)+1)(hlen:G.tp.length<1000000000)(hlt:n<1000000000)
 (h1:aA w H #[dD bv] 35) (h2:aA w (H+1) t.cells.toArray 56) :
 CT 211 #[dD H,dD (H+1)] w fun e w'=>e=.returned (.tuple #[]) /\
  ∃m',bG w' bv bm bo (Lg.told { G with tr:=L } 2 t) m'/\(∀b,m'.F b->m.F b\/w.heap.size<=b)/\aj (fun b=>b=bv\/m.tv.ownBlock=some b\/m.pv.ownBlock=some b) w w'/\m'.ac=m.ac/\m'.tb=m.tb.dropLast:=by
 obtain⟨tn,ts,tp,tq,uY,uZ,td⟩:=t;simp only at hnum;subst hnum;have htl:G.tr.length=n+1:=by rw[hG,List.length_append,hn];rfl
 have ht:=hL.aP.jJ;rw[htl]at ht;obtain⟨g,cap,cur,zF,hcs,hnc,hcm,hcz⟩:∃g cap cur,m.tv=.slice (some ⟨g,0,none⟩) (n+1) cap/\aA w g cur 103/\n+1<=cap/\cap<=maxLen/\cur.size=cap * 1:=by
  rcases ht.2 with⟨_,h⟩ | ⟨g,cap,cur,e,_,hb,h1,h2,h3,_⟩
  ·omega
  ·exact⟨g,cap,cur,e,hb,h1,h2,h3⟩
 have hob:m.tv.ownBlock=some g:=by rw[zF];rfl
 have Za:=au (fun (W:World) (k:aj aJ w W)=>(hL.aB k).acR hG hn zF);obtain⟨HV,HB1,HB2,HTv,WH,HCs⟩:=zC hL.dC h1 h2 zF hob hcs;obtain⟨cv,cn⟩:∃cv,w.cell? ⟨g,n,none⟩=some cv:=⟨cur[n]'(by omega),(hcs.cell n).trans (Array.getElem?_eq_getElem (by omega))⟩;have fn:=hcs.frozen n;have x0:CC w H 0 (PP bv):=h1.cell 0;have x1:CC w (H+1) 0 (II ((n:Int)+1)):=h2.cell 0;have v2:CC w bv 2 (.slice (some ⟨g,0,none⟩) (n+1) cap):=(hL.dC.cell 2).trans (by rw[<-zF];rfl);have fv2:=hL.dC.frozen 2;have hgb:¬g=bv:=aA.ne hcs hL.dC (by decide);have hbg:¬bv=g:=fun e=>hgb e.symm
 have hHg:¬H=g:=aA.ne h1 hcs (by decide);have HD:=au (fun q=>D6 g n cap (w.drewN q) _ (by omega) hnc cn fn);have ew4:IntKind.i64.wrap (n:Int)=(n:Int):=by rw[IntKind.wrap_i64];omega
 clear h1 h2 hcs zF hob ht hL hG htl hn;simp only[dD];go_enter Tryz.func211,Tryz.ntmps211;go_wp2;go_region_with (first | (go_at_call 212;refine (ae HD _).mono ?_;rintro e w2 ⟨rfl,q2,hw2⟩;have HW2:=au hw2;have c2:w2.cell? ⟨bv,2,none⟩=some (.slice (some ⟨g,0,none⟩) (n+1) cap):=(by rw[hw2];exact (aA.cell ((((ae HV).drewN _).drewN _).other hbg _) 2).trans (by rw[<-ae HTv];rfl));have f2:w2.frozen? ⟨bv,2,none⟩=false:=(by rw[hw2];exact aA.frozen ((((ae HV).drewN _).drewN _).other hbg _) 2);have y0:w2.cell? ⟨H,0,none⟩=some (PP bv):=(by rw[hw2];exact aA.cell ((((ae HB1).drewN _).drewN _).other hHg _) 0);clear hw2))
 all_goals
  clear y0 c2 f2 cn fn x0 x1 v2 fv2 HD;obtain⟨w3,hw3⟩:=kL (w2.setCell ⟨bv,2,none⟩ (.slice (some ⟨g,0,none⟩) n cap));rw[<-hw3];have hc:=ae Za _ (((aj.refl aJ w).drewN 1).drewN q2);rw[<-ae HW2,<-hw3]at hc;have k3:aj (fun b=>b=bv\/m.tv.ownBlock=some b) w w3:=(((aj.refl _ w).drewN 1).drewN q2).trans hc.2.1;have b1:=k3.aF (ae HB1) (by
   rintro (e | e)
   ·exact aA.ne (ae HB1) (ae HV) (by decide) e
   ·rw[ae WH]at e;exact aA.ne (ae HB1) (ae HCs) (by decide) (Option.some.inj e).symm)
  have b2:=k3.aF (ae HB2) (by
   rintro (e | e)
   ·exact aA.ne (ae HB2) (ae HV) (by decide) e
   ·rw[ae WH]at e;exact aA.ne (ae HB2) (ae HCs) (by decide) (Option.some.inj e).symm)
  have y0:CC w3 H 0 (PP bv):=b1.cell 0;obtain⟨t0,t1,t2,t3,t4,t5,t6⟩:=b2.c7;have hT:=yY bv bm bo _ _ 2 ⟨(n:Int)+1,ts,tp,tq,uY,uZ,td⟩ w3 hc.1 hlen;simp only[Tr.val]at hT;obtain⟨HT,LG,HC⟩:=eY hT k3 hc;clear hT hc k3 b1 b2 hw3;go_wp2_with fail;refine (ae HT).mono ?_;rintro e w4 ⟨rfl,m',r1,r2,r3,r4,r5⟩;go_wp2;go_end0;refine⟨rfl,m',r1,fun b hb=>(r2 b hb).elim (fun h=>.inl ((ae HC).2.2 b h)) (fun h=>.inr (Nat.le_trans (ae LG).size h)),((ae LG).mono (fun b h=>h.imp_right .inl)).trans (r3.mono (fun b h=>h.imp_right .inr)),r4,r5.1⟩
end Go.Proofs.YtigaphnafnpfnaaGreatDoor
