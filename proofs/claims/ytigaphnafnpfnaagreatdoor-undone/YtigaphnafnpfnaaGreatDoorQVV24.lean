import Derived.Test.YtigaphnafnpfnaaGreatDoorQVV12
set_option linter.unusedVariables false
set_option linter.unusedSimpArgs false
set_option maxHeartbeats 8000000
set_option maxRecDepth 100000
namespace Go.Proofs.YtigaphnafnpfnaaGreatDoor
open Go.RowKit
attribute [local go_sem ↓] Go.wp_at_zero Go.wp_at_succ
theorem fP.aa5{w:World}{bv bm bo n g cap:Nat}{G:Lg}{m:Lm}{L:List Tg}{x:Tg}(h:bu w bv bm bo G m)(hG:G.tr=L++[x])(hn:L.length=n)(xY:m.tv=.slice (some ⟨g,0,none⟩) (n+1) cap) :
 bu ((w.setCell ⟨g,n,none⟩ (.pointer none)).setCell ⟨bv,2,none⟩ (.slice (some ⟨g,0,none⟩) n cap)) bv bm bo { G with tr:=L } { m with tv:=.slice (some ⟨g,0,none⟩) n cap,tb:=m.tb.dropLast } /\
  au (fun b=>b=bv\/m.tv.ownBlock=some b) w ((w.setCell ⟨g,n,none⟩ (.pointer none)).setCell ⟨bv,2,none⟩ (.slice (some ⟨g,0,none⟩) n cap)) /\
  (∀b,Lm.F { m with tv:=.slice (some ⟨g,0,none⟩) n cap,tb:=m.tb.dropLast } b->m.F b):=by
 have hob:m.tv.ownBlock=some g:=by rw[xY];rfl
 have k:au (fun b=>b=bv\/m.tv.ownBlock=some b) w ((w.setCell ⟨g,n,none⟩ (.pointer none)).setCell ⟨bv,2,none⟩ (.slice (some ⟨g,0,none⟩) n cap)) :=
  ((au.refl (fun b=>b=bv\/m.tv.ownBlock=some b) w).setCell (p:=⟨g,n,none⟩) (.inl (.inr hob)) _).setCell (p:=⟨bv,2,none⟩) (.inl (.inl rfl)) _
 have ht:=h.aO.jq
 have htl:G.tr.length=n+1:=by rw[hG,List.length_append,hn];rfl
 have hbl:m.tb.length=n+1:=by rw[h.aO.len,htl]
 rw[xY,htl]at ht
 obtain⟨hl0,h0⟩:=ht
 obtain⟨cur,hb,h1,h2,h3,h4⟩:∃cur,az w g cur 103/\n+1<=cap/\cap<=maxLen/\cur.size=cap * 1/\cur.toList.take ((n+1) * 1)=m.tb.map dn:=by
  rcases h0 with⟨e,_⟩|⟨g',cap',cur,e,_,hb,h1,h2,h3,h4⟩
  ·simp at e
  ·simp only[Value.slice.injEq,Option.some.injEq,Addr.mk.injEq]at e
   obtain⟨⟨e1,_⟩,_,e2⟩:=e
   subst e1 e2
   exact⟨cur,hb,h1,h2,h3,h4⟩
 have hne:g≠bv:=az.ne hb h.dA (by decide)
 have no:∀{b c t},az w b c t->t≠100->t≠103->¬(b=bv\/m.tv.ownBlock=some b):=by
  rintro b c t hc e1 e2 (e|e)
  ·exact az.ne hc h.dA e1 e
  ·rw[hob]at e;obtain rfl:=Option.some.inj e;exact az.ne hc hb e2 rfl
 refine⟨⟨((h.dA.other (fun e=>hne e.symm) _).set 2 _),?_⟩,k,?_⟩
 ·refine⟨?_,aG h.aO.iF k (fun b e=>?_),?_,fun i b y hi hy=>?_,h.aO.nodup.sublist (List.dropLast_sublist _),h.aO.act.aC k (fun b e=>?_),aG h.aO.kH k (fun b e=>?_),h.aO.jb⟩
  ·refine⟨by simp[List.length_dropLast,hbl,hn],.inr ⟨g,cap,cur.setIfInBounds n (.pointer none),?_,Nat.zero_le _,(hb.set n _).other hne _,by simp only[hn];omega,h2,by simpa using h3,?_⟩⟩
   ·simp only[hn]
   ·simp only[hn,Nat.mul_one]at h4 ⊢
    have e:(cur.setIfInBounds n (.pointer none)).toList=cur.toList.set n (.pointer none):=by simp
    rw[e,List.take_set,List.map_dropLast,<-h4]
    have hcl:cur.toList.length=cap:=by simpa using h3
    rw[List.set_eq_of_length_le (by simp;exact Nat.min_le_left _ _),List.dropLast_eq_take,List.take_take,List.length_take,hcl,show min (min (n+1) cap-1) (n+1)=n by omega]
  ·obtain⟨cs,hc⟩:=bF h.aO.iF e;exact no hc (by decide) (by decide)
  ·simp[hbl,hn]
  ·have hi':i<m.tb.dropLast.length:=(List.getElem?_eq_some_iff.1 hi).1
   simp[hbl]at hi'
   have hi2:m.tb[i]?=some b:=by rw[<-hi,List.getElem?_dropLast,if_pos (by omega)]
   have hc:=h.aO.aB i b y hi2 (by rw[hG,List.getElem?_append_left (by omega)];exact hy)
   exact k.aB hc (no hc (by decide) (by decide))
  ·obtain⟨cs,t,hc,ht⟩:=h.aO.act.fZ e
   exact no hc (by rcases ht with rfl|rfl <;> decide) (by rcases ht with rfl|rfl <;> decide)
  ·obtain⟨cs,hc⟩:=bF h.aO.kH e;exact no hc (by decide) (by decide)
 ·rintro b (e|e|e|e)
  ·exact .inl (by rw[hob];exact e)
  ·exact .inr (.inl e)
  ·exact .inr (.inr (.inl ((List.dropLast_sublist _).subset e)))
  ·exact .inr (.inr (.inr e))
theorem RG(bv bm bo H n:Nat)(t:Tr)(x:Tg)(L:List Tg)(G:Lg)(m:Lm)(w:World)(hL:bu w bv bm bo G m)(hG:G.tr=L++[x])(hn:L.length=n)(hnum:t.num=(n:Int)+1)(hlen:G.tp.length<1000000000)(hlt:n<1000000000)
 (h1:az w H #[dn bv] 35) (h2:az w (H+1) t.cells.toArray 56) :
 Calls Tryz.prog 211 #[dn H,dn (H+1)] w fun e w'=>e=.returned (.tuple #[]) /\
  ∃m',bu w' bv bm bo (Lg.told { G with tr:=L } 2 t) m'/\(∀b,m'.F b->m.F b\/w.heap.size<=b)/\au (fun b=>b=bv\/m.tv.ownBlock=some b\/m.pv.ownBlock=some b) w w'/\m'.ac=m.ac/\m'.tb=m.tb.dropLast:=by
 obtain⟨tn,ts,tp,tq,qB,qE,td⟩:=t
 simp only at hnum
 subst hnum
 have htl:G.tr.length=n+1:=by rw[hG,List.length_append,hn];rfl
 have ht:=hL.aO.jq
 rw[htl]at ht
 obtain⟨g,cap,cur,xY,hcs,hnc,hcm,hcz⟩:∃g cap cur,m.tv=.slice (some ⟨g,0,none⟩) (n+1) cap/\az w g cur 103/\n+1<=cap/\cap<=maxLen/\cur.size=cap * 1:=by
  rcases ht.2 with⟨_,h⟩|⟨g,cap,cur,e,_,hb,h1,h2,h3,_⟩
  ·omega
  ·exact⟨g,cap,cur,e,hb,h1,h2,h3⟩
 have hob:m.tv.ownBlock=some g:=by rw[xY];rfl
 have VX:=ai (fun (W:World) (k:au aP w W)=>(hL.aH k).aa5 hG hn xY)
 have HV:=ai hL.dA
 have HB1:=ai h1
 have HB2:=ai h2
 have HTv:=ai xY
 have Td:=ai hob
 have HCs:=ai hcs
 obtain⟨cv,cn⟩:∃cv,w.cell? ⟨g,n,none⟩=some cv:=⟨cur[n]'(by omega),(hcs.cell n).trans (Array.getElem?_eq_getElem (by omega))⟩
 have fn:=hcs.frozen n
 have x0:w.cell? ⟨H,0,none⟩=some (.pointer (some ⟨bv,0,none⟩)):=h1.cell 0
 have x1:w.cell? ⟨H+1,0,none⟩=some (.int .i64 ((n:Int)+1)):=h2.cell 0
 have v2:w.cell? ⟨bv,2,none⟩=some (.slice (some ⟨g,0,none⟩) (n+1) cap):=(hL.dA.cell 2).trans (by rw[<-xY];rfl)
 have fv2:=hL.dA.frozen 2
 have hgb:¬g=bv:=az.ne hcs hL.dA (by decide)
 have hbg:¬bv=g:=fun e=>hgb e.symm
 have hHg:¬H=g:=az.ne h1 hcs (by decide)
 have HD:=ai (fun q=>BL g n cap (w.drewN q) _ (by omega) hnc cn fn)
 have ew4:IntKind.i64.wrap (n:Int)=(n:Int):=by rw[IntKind.wrap_i64];omega
 clear h1 h2 hcs xY hob ht hL hG htl hn
 simp only[dn]
 go_enter Tryz.func211,Tryz.ntmps211
 go_wp2
 go_region_with (first|(go_at_call 212;refine (ae HD _).mono ?_;rintro e w2 ⟨rfl,q2,hw2⟩;have HW2:=ai hw2;have c2:w2.cell? ⟨bv,2,none⟩=some (.slice (some ⟨g,0,none⟩) (n+1) cap):=(by rw[hw2];exact (az.cell ((((ae HV).drewN _).drewN _).other hbg _) 2).trans (by rw[<-ae HTv];rfl));have f2:w2.frozen? ⟨bv,2,none⟩=false:=(by rw[hw2];exact az.frozen ((((ae HV).drewN _).drewN _).other hbg _) 2);have y0:w2.cell? ⟨H,0,none⟩=some (.pointer (some ⟨bv,0,none⟩)):=(by rw[hw2];exact az.cell ((((ae HB1).drewN _).drewN _).other hHg _) 0);clear hw2))
 all_goals
  clear y0 c2 f2 cn fn x0 x1 v2 fv2 HD
  obtain⟨w3,hw3⟩:∃w3,w3=w2.setCell ⟨bv,2,none⟩ (.slice (some ⟨g,0,none⟩) n cap):=⟨_,rfl⟩
  rw[<-hw3]
  have hc:=ae VX _ (((au.refl aP w).drewN 1).drewN q2)
  rw[<-ae HW2,<-hw3]at hc
  have k3:au (fun b=>b=bv\/m.tv.ownBlock=some b) w w3:=(((au.refl _ w).drewN 1).drewN q2).trans hc.2.1
  have b1:=k3.aB (ae HB1) (by
   rintro (e|e)
   ·exact az.ne (ae HB1) (ae HV) (by decide) e
   ·rw[ae Td]at e;exact az.ne (ae HB1) (ae HCs) (by decide) (Option.some.inj e).symm)
  have b2:=k3.aB (ae HB2) (by
   rintro (e|e)
   ·exact az.ne (ae HB2) (ae HV) (by decide) e
   ·rw[ae Td]at e;exact az.ne (ae HB2) (ae HCs) (by decide) (Option.some.inj e).symm)
  have y0:w3.cell? ⟨H,0,none⟩=some (.pointer (some ⟨bv,0,none⟩)):=b1.cell 0
  have t0:w3.cell? ⟨H+1,0,none⟩=some (.int .i64 ((n:Int)+1)):=b2.cell 0
  have t1:w3.cell? ⟨H+1,1,none⟩=some (.string ts):=b2.cell 1
  have t2:w3.cell? ⟨H+1,2,none⟩=some (.int .i64 tp):=b2.cell 2
  have t3:w3.cell? ⟨H+1,3,none⟩=some (.int .i64 tq):=b2.cell 3
  have t4:w3.cell? ⟨H+1,4,none⟩=some (.int .i64 qB):=b2.cell 4
  have t5:w3.cell? ⟨H+1,5,none⟩=some (.int .i64 qE):=b2.cell 5
  have t6:w3.cell? ⟨H+1,6,none⟩=some (.int .i64 td):=b2.cell 6
  have hT:=xC bv bm bo _ _ 2 ⟨(n:Int)+1,ts,tp,tq,qB,qE,td⟩ w3 hc.1 hlen
  simp only[Tr.val]at hT
  have HT:=ai hT
  have LP:=ai k3
  have HC:=ai hc
  clear hT hc k3 b1 b2 hw3
  go_wp2_with fail
  refine (ae HT).mono ?_
  rintro e w4 ⟨rfl,m',r1,r2,r3,r4,r5⟩
  go_wp2
  go_end0
  refine⟨rfl,m',r1,fun b hb=>(r2 b hb).elim (fun h=>.inl ((ae HC).2.2 b h)) (fun h=>.inr (Nat.le_trans (ae LP).size h)),((ae LP).mono (fun b h=>h.imp_right .inl)).trans (r3.mono (fun b h=>h.imp_right .inr)),r4,r5.1⟩
end Go.Proofs.YtigaphnafnpfnaaGreatDoor
