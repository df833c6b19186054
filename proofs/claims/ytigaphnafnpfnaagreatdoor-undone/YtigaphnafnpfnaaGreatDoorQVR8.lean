import Derived.Test.YtigaphnafnpfnaaGreatDoorQVP1
set_option linter.unusedVariables false
set_option linter.unusedSimpArgs false
set_option maxHeartbeats 8000000
set_option maxRecDepth 100000
namespace Go.Proofs.YtigaphnafnpfnaaGreatDoor
open Go.RowKit
attribute [local go_sem ↓] Go.wp_at_zero Go.wp_at_succ
def iK(tr:List Tg):List Tr:=(tr.filter (·.holds)).map (·.t)
theorem Jr(l:List Tg)(i:Nat)(x:Tg)(h:l[i]?=some x):iK (l.take (i+1))=iK (l.take i)++(if x.holds then [x.t] else []):=by
 unfold iK
 rw[List.take_add_one,h]
 simp only[Option.toList_some,List.filter_append,List.map_append]
 cases hx:x.holds <;> simp[hx]
open Go.RowKit Go.Maps
theorem aaq(tmps:Array Value)(H:Nat)(w:World)(t:Tr)(ht:tmps.getD 2 undef=.pointer (some ⟨H,0,none⟩))(hb:az w H #[.int .i64 t.num,.string t.sym,.int .i64 t.af,.int .i64 t.aI,.int .i64 t.kZ,.int .i64 t.fM,.int .i64 t.day] 56) :
 (results Tryz.f43 tmps).run Tryz.prog w=.ok t.val w:=by
 have c0:w.cell? ⟨H,0,none⟩=some (.int .i64 t.num):=hb.cell 0
 have c1:w.cell? ⟨H,1,none⟩=some (.string t.sym):=hb.cell 1
 have c2:w.cell? ⟨H,2,none⟩=some (.int .i64 t.af):=hb.cell 2
 have c3:w.cell? ⟨H,3,none⟩=some (.int .i64 t.aI):=hb.cell 3
 have c4:w.cell? ⟨H,4,none⟩=some (.int .i64 t.kZ):=hb.cell 4
 have c5:w.cell? ⟨H,5,none⟩=some (.int .i64 t.fM):=hb.cell 5
 have c6:w.cell? ⟨H,6,none⟩=some (.int .i64 t.day):=hb.cell 6
 simp only[Array.getD_eq_getD_getElem?]at ht
 simp[results,Tryz.results43,go_sem,ht,c0,c1,c2,c3,c4,c5,c6,Tr.val]
theorem uh(t:Tr)(w:World)(hs:t.sym.size<=100000):Calls Tryz.prog 43 #[t.val] w fun e w'=>e=.returned t.val/\au aP w w':=by
 obtain⟨tn,ts,tp,tq,qB,qE,td⟩:=t
 simp only[Tr.val]at hs ⊢
 obtain⟨w1,hw1⟩:∃w1,w1=(w.alloc (.cells #[.int .i64 tn,.string ts,.int .i64 tp,.int .i64 tq,.int .i64 qB,.int .i64 qE,.int .i64 td] 56)).alloc (.cells #[.int .i64 0,.string ⟨#[]⟩,.int .i64 0,.int .i64 0,.int .i64 0,.int .i64 0,.int .i64 0] 56):=⟨_,rfl⟩
 have k1:au aP w w1:=by rw[hw1];exact ((au.refl aP w).alloc _).alloc _
 have b1:az w1 w.heap.size #[.int .i64 tn,.string ts,.int .i64 tp,.int .i64 tq,.int .i64 qB,.int .i64 qE,.int .i64 td] 56:=by rw[hw1];exact (az.new w _ _).alloc _
 have r1:az w1 (w.heap.size+1) #[.int .i64 0,.string ⟨#[]⟩,.int .i64 0,.int .i64 0,.int .i64 0,.int .i64 0,.int .i64 0] 56:=by rw[hw1];exact az.xy w _ _ _
 have HW:=ai hw1
 clear hw1
 go_enter Tryz.func43,Tryz.ntmps43
 go_wp2_with fail
 rw[<-ae HW]
 refine (wW ts w1 hs).mono ?_
 rintro e w2 ⟨rfl,k2⟩
 have b2:=k2.aB b1 (fun x=>x)
 have r2:=k2.aB r1 (fun x=>x)
 have kk:=k1.trans k2
 have t0:w2.cell? ⟨w.heap.size,0,none⟩=some (.int .i64 tn):=b2.cell 0
 have t1:w2.cell? ⟨w.heap.size,1,none⟩=some (.string ts):=b2.cell 1
 have t2:w2.cell? ⟨w.heap.size,2,none⟩=some (.int .i64 tp):=b2.cell 2
 have t3:w2.cell? ⟨w.heap.size,3,none⟩=some (.int .i64 tq):=b2.cell 3
 have t4:w2.cell? ⟨w.heap.size,4,none⟩=some (.int .i64 qB):=b2.cell 4
 have t5:w2.cell? ⟨w.heap.size,5,none⟩=some (.int .i64 qE):=b2.cell 5
 have t6:w2.cell? ⟨w.heap.size,6,none⟩=some (.int .i64 td):=b2.cell 6
 have g1:=b2.frozen 1
 have u0:w2.cell? ⟨w.heap.size+1,0,none⟩=some (.int .i64 0):=r2.cell 0
 have u1:w2.cell? ⟨w.heap.size+1,1,none⟩=some (.string ⟨#[]⟩):=r2.cell 1
 have u2:w2.cell? ⟨w.heap.size+1,2,none⟩=some (.int .i64 0):=r2.cell 2
 have u3:w2.cell? ⟨w.heap.size+1,3,none⟩=some (.int .i64 0):=r2.cell 3
 have u4:w2.cell? ⟨w.heap.size+1,4,none⟩=some (.int .i64 0):=r2.cell 4
 have u5:w2.cell? ⟨w.heap.size+1,5,none⟩=some (.int .i64 0):=r2.cell 5
 have u6:w2.cell? ⟨w.heap.size+1,6,none⟩=some (.int .i64 0):=r2.cell 6
 have q0:=r2.frozen 0
 have q1:=r2.frozen 1
 have q2:=r2.frozen 2
 have q3:=r2.frozen 3
 have q4:=r2.frozen 4
 have q5:=r2.frozen 5
 have q6:=r2.frozen 6
 have HB2:=ai b2
 have HR2:=ai r2
 have HK:=ai kk
 clear b1 r1 b2 r2 k1 k2 kk
 go_wp2
 refine bodyPost_ret (aaq _ (w.heap.size+1) _ ⟨tn,ts,tp,tq,qB,qE,td⟩ rfl ?_) rfl ⟨rfl,?_⟩
 ·exact ((((((((ae HR2).other (a:=⟨w.heap.size,1,none⟩) (by simp) _).set 0 _).set 1 _).set 2 _).set 3 _).set 4 _).set 5 _).set 6 _
 ·exact ((((((((ae HK).setCell (p:=⟨w.heap.size,1,none⟩) (.inr (Nat.le_refl _)) _).setCell (p:=⟨w.heap.size+1,0,none⟩) (.inr (by simp)) _).setCell (p:=⟨w.heap.size+1,1,none⟩) (.inr (by simp)) _).setCell (p:=⟨w.heap.size+1,2,none⟩) (.inr (by simp)) _).setCell (p:=⟨w.heap.size+1,3,none⟩) (.inr (by simp)) _).setCell (p:=⟨w.heap.size+1,4,none⟩) (.inr (by simp)) _).setCell (p:=⟨w.heap.size+1,5,none⟩) (.inr (by simp)) _).setCell (p:=⟨w.heap.size+1,6,none⟩) (.inr (by simp)) _
theorem Xx:(Tryz.prog.info? 56).map (fun i=>(i.zero.map (fun z=>z.cells.size),i.size,i.bytes))=some (some 7,7,64):=by kernel_rfl
theorem qm:∃i z,Tryz.prog.info? 56=some i/\i.zero=some z/\i.size=7/\i.bytes=64/\z.cells.size=7:=by
 have h:=Xx
 cases hi:Tryz.prog.info? 56 with
 | none=>rw[hi]at h;simp at h
 | some i =>
   rw[hi]at h
   simp at h
   obtain⟨⟨z,hz,hs⟩,h2,h3⟩:=h
   exact⟨i,z,rfl,hz,h2,h3,hs⟩
theorem zW(w:World)(t:Tr):∀j u,t.cells[j]?=some u->(w.alloc (.cells #[.int .i64 t.num,.string t.sym,.int .i64 t.af,.int .i64 t.aI,.int .i64 t.kZ,.int .i64 t.fM,.int .i64 t.day] 56)).cell? (Addr.add ⟨w.heap.size,0,none⟩ j)=some u:=by
 intro j u hj
 exact World.news_of_block (az.new w #[.int .i64 t.num,.string t.sym,.int .i64 t.af,.int .i64 t.aI,.int .i64 t.kZ,.int .i64 t.fM,.int .i64 t.day] 56) j u hj
def dR(ts:List Tr):List Value:=ts.flatMap Tr.cells
theorem bK(a b:List Tr):dR (a++b)=dR a++dR b:=by simp[dR,List.flatMap_append]
theorem Ji(a:List Tr)(t:Tr):dR (a++[t])=dR a++t.cells:=by rw[bK];simp[dR]
theorem Cm(a:List Tr):(dR a).length=a.length * 7:=by
 induction a with
 | nil=>rfl
 | cons x a ih =>
   show (x.cells++dR a).length=_
   rw[List.length_append,ih,List.length_cons]
   show 7+_=_
   omega
theorem zF(tr:List Tg)(i:Nat):(iK (tr.take i)).length<=i:=by
 unfold iK
 rw[List.length_map]
 refine Nat.le_trans (List.length_filter_le _ _) ?_
 rw[List.length_take]
 omega
theorem Bv(bv bm bo:Nat)(G:Lg)(lm:Lm)(w:World)(hL:bu w bv bm bo G lm)(hsy:LX G)(hlen:G.tr.length<=1000000000) :
 Calls Tryz.prog 20 #[.pointer (some ⟨bv,0,none⟩)] w fun e w'=>∃a c,e=.returned (.slice a (iK G.tr).length c)/\w'.ownsRow w.heap.size 56 7 (.slice a (iK G.tr).length c) (iK G.tr).length (dR (iK G.tr))/\au aP w w':=by
 obtain⟨n,hn⟩:∃n,G.tr.length=n:=⟨_,rfl⟩
 obtain⟨pa,pc,xY⟩:=hL.aO.xJ hn
 have v2:w.cell? ⟨bv,2,none⟩=some (.slice pa n pc):=by rw[<-xY];exact hL.dA.cell 2
 have HX:Hid (∀i,i<n->∃g b x,G.tr[i]?=some x/\pa=some ⟨g,0,none⟩/\w.cell? ⟨g,i,none⟩=some (.pointer (some ⟨b,0,none⟩))/\az w b (Tg.cells x) 105/\x.t.sym.size<=100000):=by
  intro i hi
  have hi':i<G.tr.length:=by omega
  obtain⟨g,cap,b,h1,h2,_,h4⟩:=hL.aO.at (List.getElem?_eq_getElem hi')
  rw[xY]at h1
  simp only[Value.slice.injEq]at h1
  exact⟨g,b,_,List.getElem?_eq_getElem hi',h1.1,h2,h4,hsy _ (List.getElem_mem hi')⟩
 rw[hn]at hlen
 obtain⟨H,hH⟩:∃H:Nat->List Tr,H=fun i=>iK (G.tr.take i):=⟨_,rfl⟩
 have HS:Hid (∀i x,G.tr[i]?=some x->H (i+1)=H i++(if x.holds then [x.t] else [])):=fun i x hx=>by rw[hH];exact Jr _ _ _ hx
 have hLn:∀i,(H i).length<=i:=fun i=>by rw[hH];exact zF _ _
 have HE:Hid (H n=iK G.tr):=by rw[hH];show iK (G.tr.take n)=_;rw[<-hn,List.take_length]
 have H0:H 0=[]:=by rw[hH];rfl
 have HHG:=ai hH
 clear hL xY hn hsy hH
 go_enter Tryz.func20,Tryz.ntmps20
 go_wp2
 go_loopg [3,5,11] n (fun k al _ iv wr=>∃i m:Nat,iv=.int .i64 (i:Int)/\i<=n/\m=(H i).length/\k=n-i/\wr.ownsRow w.heap.size 56 7 al m (dR (H i))/\au aP w wr)
 case atStart=>exact⟨0,0,rfl,Nat.zero_le _,by rw[H0];rfl,rfl,by rw[H0];exact World.ownsRow_nil _ _ _ _,au.refl _ _⟩
 case round =>
  obtain⟨i,m,rfl,hi,hmi,hgk,hrow,kr⟩:=hrel
  have abq:=hLn i
  obtain⟨xs,hxs⟩:∃xs,dR (H i)=xs:=⟨_,rfl⟩
  rw[hxs]at hrow
  have HXS:=ai hxs
  have HM:=ai hmi
  have hm1:m<=i:=by omega
  clear hxs hmi abq hLn
  by_cases hlt:i<n
  ·obtain⟨g,b,x,hx,rfl,c1,hb,hsz⟩:=ae HX i hlt
   have HN:=ai (ae HS i x hx)
   clear hx
   have c1':=kr.cell c1 (fun x=>x)
   have hb':=kr.aB hb (fun x=>x)
   have c7:wr.cell? ⟨b,7,none⟩=some (.bool x.holds):=hb'.cell 7
   have t0:wr.cell? ⟨b,0,none⟩=some (.int .i64 x.t.num):=hb'.cell 0
   have t1:wr.cell? ⟨b,1,none⟩=some (.string x.t.sym):=hb'.cell 1
   have t2:wr.cell? ⟨b,2,none⟩=some (.int .i64 x.t.af):=hb'.cell 2
   have t3:wr.cell? ⟨b,3,none⟩=some (.int .i64 x.t.aI):=hb'.cell 3
   have t4:wr.cell? ⟨b,4,none⟩=some (.int .i64 x.t.kZ):=hb'.cell 4
   have t5:wr.cell? ⟨b,5,none⟩=some (.int .i64 x.t.fM):=hb'.cell 5
   have t6:wr.cell? ⟨b,6,none⟩=some (.int .i64 x.t.day):=hb'.cell 6
   have IQ:=ai hrow
   have HK:=ai kr
   clear hrow kr hb hb' c1
   cases hh:x.holds
   ·rw[hh]at c7
    go_wp2
    go_roundg (n-(i+1))
    case measure=>omega
    case rel =>
     have hN:=ae HN
     rw[hh]at hN
     simp only[Bool.false_eq_true,if_false,List.append_nil]at hN
     exact⟨i+1,m,by push_cast;rfl,by omega,by rw[hN];exact ae HM,rfl,by rw[hN,ae HXS];exact ae IQ,ae HK⟩
   ·rw[hh]at c7
    obtain⟨va,vc,rfl⟩:∃va vc,u3=.slice va m vc:=by
     rcases (ae IQ).2 with⟨h,h0⟩|⟨g,cap,cs,h,_⟩
     ·exact⟨none,0,by rw[h,h0]⟩
     ·exact⟨_,cap,h⟩
    have HH:=ai (uh x.t wr hsz)
    go_wp2_with fail
    refine (ae HH).mono ?_
    rintro e w2 ⟨rfl,k2⟩
    have hrow2:=aG (ae IQ) k2 (fun _ _ x=>x)
    have hmx:m+1<=maxLen:=by unfold maxLen;omega
    have tC:(m+1) * 64<=140737488355328:=by omega
    obtain⟨i0,z0,hi0,hz0,hz1,hz2,hz3⟩:=qm
    have hrow3:=hrow2.alloc (.cells #[.int .i64 x.t.num,.string x.t.sym,.int .i64 x.t.af,.int .i64 x.t.aI,.int .i64 x.t.kZ,.int .i64 x.t.fM,.int .i64 x.t.day] 56)
    have hbs:w.heap.size<=w2.heap.size:=by have:=(ae HK).size;have:=k2.size;omega
    have HR3:=ai hrow3
    have yS:=ai ((ae HK).trans k2)
    have hone:∀u∈x.t.cells,u.oneCell'=true:=by simp[Tr.cells,Value.oneCell']
    clear hrow2 hrow3 k2 c7 t0 t1 t2 t3 t4 t5 t6 c1'
    simp only[Tr.val]
    go_wp2_with (at_builtin;refine wpList_append_own _ rfl _ _ 39 rfl w.heap.size 56 i0 z0 7 64 Tryz.underlying39 hi0 hz0 hz1 hz2 hz3 (by decide) _ m xs rfl (ae HR3) ⟨w2.heap.size,0,none⟩ 1 1 x.t.cells rfl rfl (zW _ _) hone hmx tC (by simp;omega) ?_;intro v' w4 hown' hgrow hnil;clear hnil)
    change (w2.alloc _).grownBy w4 (Value.slice va m vc).ownBlock at hgrow
    go_wp2
    go_roundg (n-(i+1))
    case measure=>omega
    case rel =>
     have hN:=ae HN
     rw[hh]at hN
     simp only[if_true]at hN
     refine⟨i+1,m+1,by push_cast;rfl,by omega,by rw[hN,List.length_append,<-ae HM];rfl,rfl,by rw[hN,Ji,ae HXS];exact hown',?_⟩
     refine au.grown ((ae yS).alloc _) hgrow (fun k e=>.inr ?_)
     rcases (ae HR3).2 with⟨h,_⟩|⟨g2,cap2,cs2,h,hg2,_⟩
     ·simp only[Value.slice.injEq]at h
      rw[h.1]at e
      exact absurd e (by simp[Value.ownBlock])
     ·simp only[Value.slice.injEq]at h
      rw[h.1]at e
      have e':g2=k:=by simpa [Value.ownBlock] using e
      omega
  ·obtain rfl:i=n:=by omega
   obtain⟨va,vc,rfl⟩:∃va vc,u3=.slice va m vc:=by
    rcases hrow.2 with⟨h,h0⟩|⟨g,cap,cs,h,_⟩
    ·exact⟨none,0,by rw[h,h0]⟩
    ·exact⟨_,cap,h⟩
   go_wp2
   go_ret
   rw[<-ae HE,<-ae HM,ae HXS]
   exact⟨_,_,rfl,hrow,kr⟩
end Go.Proofs.YtigaphnafnpfnaaGreatDoor
