import Derived.Test.YtigaphnafnpfnaaGreatDoorQVC1
set_option linter.unusedVariables false
set_option linter.unusedSimpArgs false
set_option maxHeartbeats 8000000
set_option maxRecDepth 100000
namespace Go.Proofs.YtigaphnafnpfnaaGreatDoor
open Go.RowKit
attribute [local go_sem ↓] Go.wp_at_zero Go.wp_at_succ
def RS.cu(S:RS)(i:Nat)(o:Ord):RS:={ S with l:=S.l.set i o }
theorem bG{l:List Ord}{i:Nat}{o:Ord}(h:i<l.length):ah (l.set i o) i=o:=tN (by rw[List.getElem?_set_self h])
theorem iK{l:List Ord}{i k:Nat}{o:Ord}(h:i≠k):ah (l.set i o) k=ah l k:=by
 unfold ah;rw[List.getD_eq_getElem?_getD,List.getD_eq_getElem?_getD,List.getElem?_set_ne h]
def RS.tr(S:RS)(i k:Nat)(n:Int):Tr :=
 { num:=(S.t.length:Int)+1,sym:=(ah S.l i).sym,price:=(ah S.l k).price,qty:=n,jh:=if (ah S.l i).side=1 then (ah S.l k).id else (ah S.l i).id,sell:=if (ah S.l i).side=1 then (ah S.l i).id else (ah S.l k).id,day:=S.day }
def RS.fills(S:RS)(i k:Nat)(n:Int):RS :=
 (S.cu k { ah S.l k with opn:=wrap64 ((ah S.l k).opn-n),filled:=wrap64 ((ah S.l k).filled+n) }).cu i { ah S.l i with filled:=wrap64 ((ah S.l i).filled+n) }
def RS.dZ(S:RS)(i k:Nat)(n:Int):RS:={ S.fills i k n with t:=S.t++[⟨S.tr i k n,true⟩],told:=S.told++[⟨0,1,S.tr i k n⟩] }
theorem QS:(Tryz.prog.info? 210).map (fun i=>(i.zero.map (fun z=>z.cells.size),i.size,i.bytes))=some (some 8,8,72):=by kernel_rfl
theorem zA:∃i z,Tryz.prog.info? 210=some i∧i.zero=some z∧i.size=8∧i.bytes=72∧z.cells.size=8:=by
 have h:=QS
 cases hi:Tryz.prog.info? 210 with
 | none=>rw[hi]at h;simp at h
 | some i =>
   rw[hi]at h
   simp at h
   obtain⟨⟨z,hz,hs⟩,h2,h3⟩:=h
   exact⟨i,z,rfl,hz,h2,h3,hs⟩
theorem SQ(w:World)(g:Tg):∀j u,(D5 g)[j]?=some u→(w.alloc (.cells #[.int .i64 g.t.num,.string g.t.sym,.int .i64 g.t.price,.int .i64 g.t.qty,.int .i64 g.t.jh,.int .i64 g.t.sell,.int .i64 g.t.day,.bool g.holds] 210)).cell? (Addr.add ⟨w.heap.size,0,none⟩ j)=some u:=by
 intro j u hj
 have hb:=ai.new w #[.int .i64 g.t.num,.string g.t.sym,.int .i64 g.t.price,.int .i64 g.t.qty,.int .i64 g.t.jh,.int .i64 g.t.sell,.int .i64 g.t.day,.bool g.holds] 210
 have e:Addr.add ⟨w.heap.size,0,none⟩ j=⟨w.heap.size,j,none⟩:=by simp[Addr.add];omega
 rw[e,hb.cell,←hj]
 simp[D5]
theorem bH.PQ{w1 w2:World}{base sb n H g cap:Nat}{S:RS}{m:SM}{r:Tg}(h:bH w1 base sb S m)(hn:S.t.length=n)(hown:w2.ownsRow base 210 8 (.slice (some ⟨g,0,none⟩) (n+1) cap) (n+1) (pO S.t++D5 r))(hgrow:w1.grownBy w2 m.tv.ownBlock)(hat:m.tv.ownBlock=some g∨g=H)(hH:w1.heap.size=H) :
 fP base sb { S with t:=S.t++[r] } m w1 (w2.setCell ⟨sb,2,none⟩ (.slice (some ⟨g,0,none⟩) (n+1) cap)):=by
 have hne:m.tv.ownBlock≠some sb:=fun e=>by obtain⟨cs,hc⟩:=ay h.dE e;exact ai.ne hc h.blk (by decide) rfl
 have hb2:ai w2 sb _ 207:=(hgrow.block sb h.blk.lt (fun e=>hne e.symm)).trans h.blk
 have k1:ag (fun b=>m.tv.ownBlock=some b) w1 w2:=(ag.refl _ w1).grown hgrow (fun k e=>.inl e)
 have k2:ag (fun b=>b=sb) w2 (w2.setCell ⟨sb,2,none⟩ (.slice (some ⟨g,0,none⟩) (n+1) cap)):=(ag.refl (fun b=>b=sb) w2).setCell (p:=⟨sb,2,none⟩) (.inl rfl) _
 have jF:∀{e size n':Nat} {v:Value} {xs:List Value},w1.ownsRow base e size v n' xs→e≠210→e≠207→(w2.setCell ⟨sb,2,none⟩ (.slice (some ⟨g,0,none⟩) (n+1) cap)).ownsRow base e size v n' xs:=fun {e size n' v xs} r h1 h2=>by
  have r1:=aJ (t:=0) r k1 (fun b hb=>by obtain⟨cs,hc⟩:=ay h.dE hb;exact⟨cs,_,hc,fun x=>h1 x.symm⟩)
  exact aJ (t:=0) r1 k2 (fun b hb=>by subst hb;exact⟨_,_,hb2,fun x=>h2 x.symm⟩)
 refine⟨{ m with tv:=.slice (some ⟨g,0,none⟩) (n+1) cap },⟨h.ge,hb2.set 2 _,jF h.jH (by decide) (by decide),jF h.bI (by decide) (by decide),?_,jF h.jS (by decide) (by decide)⟩,?_,?_⟩
 ·simp only[List.length_append,List.length_cons,List.length_nil,hn,pO,uB]
  exact aJ (t:=0) hown k2 (fun b hb=>by subst hb;exact⟨_,_,hb2,by decide⟩)
 ·rintro b (rfl | hb | hb | hb | hb)
  ·exact .inl (.inl rfl)
  ·exact .inl (.inr (.inl hb))
  ·exact .inl (.inr (.inr (.inl hb)))
  ·simp only[Value.ownBlock,Option.some.injEq]at hb
   rcases hat with e | e
   ·exact .inl (.inr (.inr (.inr (.inl (by rw[e,hb])))))
   ·right;omega
  ·exact .inl (.inr (.inr (.inr (.inr hb))))
 ·exact (k1.mono (fun b hb=>.inr (.inr (.inr (.inl hb))))).trans (k2.mono (fun b hb=>.inl hb))
theorem Gl(base sb i k:Nat)(S:RS)(m:SM)(n:Int)(w:World)(h:bH w base sb S m)(hlen:S.l.length≤1000)(hi:i<S.l.length)(hk:k<S.l.length)(hik:i≠k)(ht:S.t.length<1000000000)(ho:S.told.length<1000000000) :
 Calls Tryz.prog 201 #[.pointer (some ⟨sb,0,none⟩),.int .i64 (i:Int),.int .i64 (k:Int),.int .i64 n] w fun e w'=>e=.returned (.tuple #[])∧fP base sb (S.dZ i k n) m w w':=by
 obtain⟨N,hN⟩:∃N,S.l.length=N:=⟨_,rfl⟩
 obtain⟨a,c,hv⟩:=az h.bI
 obtain⟨g,rfl,hgb,hc,hf⟩:=h.rY hv hi
 obtain⟨g',e',_,hd,_⟩:=h.rY hv hk
 obtain rfl:g=g':=by simpa using e'
 clear e'
 have HV:=hide hv
 have HI:Hid (i<S.l.length∧k<S.l.length):=⟨hi,hk⟩
 rw[hN]at hv hlen hi hk
 have v1:w.cell? ⟨sb,1,none⟩=some (.slice (some ⟨g,0,none⟩) N c):=by rw[←hv];exact h.blk.cell 1
 have uj:=h.blk.lt
 obtain⟨x,hx⟩:∃x,ah S.l i=x:=⟨_,rfl⟩
 obtain⟨y,hy⟩:∃y,ah S.l k=y:=⟨_,rfl⟩
 rw[hx]at hc
 rw[hy]at hd
 have c9:w.cell? ⟨g,i * 13+9,none⟩=some (.int .i64 x.filled):=hc 9 _ rfl
 have d8:w.cell? ⟨g,k * 13+8,none⟩=some (.int .i64 y.opn):=hd 8 _ rfl
 have d9:w.cell? ⟨g,k * 13+9,none⟩=some (.int .i64 y.filled):=hd 9 _ rfl
 have f1:=hf (k * 13+8)
 have f2:=hf (k * 13+9)
 have f3:=hf (i * 13+9)
 have hsg:sb≠g:=fun e=>by
  have r:=h.bI
  rw[ae HV]at r
  obtain⟨cs,hcs⟩:=ay r (b:=g) rfl
  exact ai.ne h.blk hcs (by decide) e
 have hgs:=hsg.symm
 have n1:¬k * 13+9=k * 13+8:=by omega
 have n2:¬i * 13+9=k * 13+8:=by omega
 have n3:¬i * 13+9=k * 13+9:=by omega
 obtain⟨w3,hw3⟩:∃w3,w3=(((w.setCell ⟨g,k * 13+8,none⟩ (.int .i64 (wrap64 (y.opn-n)))).setCell ⟨g,k * 13+9,none⟩ (.int .i64 (wrap64 (y.filled+n)))).setCell ⟨g,i * 13+9,none⟩ (.int .i64 (wrap64 (x.filled+n)))).drew.drew.drew:=⟨_,rfl⟩
 have h3:bH w3 base sb (S.fills i k n) m∧ag (SF sb m) w w3:=by
  obtain⟨p1,q1⟩:=h.fM (ae HV) (ae HI).2 (j:=8) (by omega) (.int .i64 (wrap64 (y.opn-n))) { y with opn:=wrap64 (y.opn-n) } (by rw[hy];rfl)
  obtain⟨p2,q2⟩:=p1.fM (i:=k) (by simp only[List.length_set];exact ae HV) (by simp only[List.length_set];exact (ae HI).2) (j:=9) (by omega) (.int .i64 (wrap64 (y.filled+n))) { y with opn:=wrap64 (y.opn-n),filled:=wrap64 (y.filled+n) } (by simp only;rw[bG (ae HI).2];rfl)
  obtain⟨p3,q3⟩:=p2.fM (i:=i) (by simp only[List.length_set];exact ae HV) (by simp only[List.length_set];exact (ae HI).1) (j:=9) (by omega) (.int .i64 (wrap64 (x.filled+n))) { x with filled:=wrap64 (x.filled+n) } (by simp only;rw[iK hik.symm,iK hik.symm,hx];rfl)
  rw[hw3]
  refine⟨?_,((q1.trans q2).trans q3).drew.drew.drew⟩
  have e:({ S with l:=((S.l.set k { y with opn:=wrap64 (y.opn-n) }).set k { y with opn:=wrap64 (y.opn-n),filled:=wrap64 (y.filled+n) }).set i { x with filled:=wrap64 (x.filled+n) } }:RS)=S.fills i k n:=by
   unfold RS.fills RS.cu
   rw[hx,hy,List.set_set]
  rw[←e]
  exact ((p3.aj (ag.refl ak _).drew).aj (ag.refl ak _).drew).aj (ag.refl ak _).drew
 obtain⟨h3,k3⟩:=h3
 obtain⟨nt,hnt⟩:∃N,S.t.length=N:=⟨_,rfl⟩
 obtain⟨ta,tc,Ak⟩:=az h3.dE
 change m.tv=.slice ta S.t.length tc at Ak
 rw[hnt]at Ak
 have hi3:i<(S.fills i k n).l.length:=by simp only[RS.fills,RS.cu,List.length_set];exact (ae HI).1
 have hk3:k<(S.fills i k n).l.length:=by simp only[RS.fills,RS.cu,List.length_set];exact (ae HI).2
 have hv3:m.lv=.slice (some ⟨g,0,none⟩) (S.fills i k n).l.length c:=by simp only[RS.fills,RS.cu,List.length_set];exact ae HV
 have ei:ah (S.fills i k n).l i={ x with filled:=wrap64 (x.filled+n) }:=by simp only[RS.fills,RS.cu];rw[bG (by simp only[List.length_set];exact (ae HI).1),hx]
 have ek:ah (S.fills i k n).l k={ y with opn:=wrap64 (y.opn-n),filled:=wrap64 (y.filled+n) }:=by simp only[RS.fills,RS.cu];rw[iK hik,bG (ae HI).2,hy]
 obtain⟨g1,e1,_,hc3,_⟩:=h3.rY hv3 hi3
 obtain rfl:g=g1:=by simpa using e1
 obtain⟨g2,e2,_,hd3,_⟩:=h3.rY hv3 hk3
 obtain rfl:g=g2:=by simpa using e2
 rw[ei]at hc3
 rw[ek]at hd3
 have u1:w3.cell? ⟨sb,1,none⟩=some (.slice (some ⟨g,0,none⟩) N c):=by rw[←hv];exact h3.blk.cell 1
 have u2:w3.cell? ⟨sb,2,none⟩=some (.slice ta nt tc):=by rw[←Ak];exact h3.blk.cell 2
 have u3:w3.cell? ⟨sb,3,none⟩=some (.int .i64 S.day):=h3.blk.cell 3
 have x0:w3.cell? ⟨g,i * 13,none⟩=some (.int .i64 x.id):=hc3 0 _ rfl
 have x2:w3.cell? ⟨g,i * 13+2,none⟩=some (.string x.sym):=hc3 2 _ rfl
 have x3:w3.cell? ⟨g,i * 13+3,none⟩=some (.int .i64 x.side):=hc3 3 _ rfl
 have y0:w3.cell? ⟨g,k * 13,none⟩=some (.int .i64 y.id):=hd3 0 _ rfl
 have y5:w3.cell? ⟨g,k * 13+5,none⟩=some (.int .i64 y.price):=hd3 5 _ rfl
 have hs3:w3.heap.size=w.heap.size:=by rw[hw3];simp
 have HW3:=hide hw3
 have H3:=hide h3
 have lV:=hide k3
 have HT:=hide hnt
 have GM:=hide Ak
 have Q9:sb<w3.heap.size:=h3.blk.lt
 have Zg:g<w3.heap.size:=World.block_lt_of_cell? _ _ x0
 have HS3:=hide hs3
 clear hw3 h3 k3 hnt Ak hi3 hk3 hv3 ei ek hc3 hd3 e1 e2 hs3
 rw[show S.t.length=nt from ae HT]at ht
 have HS:=hide h
 have HX:=hide hx
 have HY:=hide hy
 have HN:=hide hN
 clear hc hd hf h hv hx hy hN
 go_enter Tryz.func201,Tryz.ntmps201
 go_wp2
 go_region
 go_wp2
 go_region
 go_wp2
 go_region
 rw[←ae HW3]
 clear c9 d8 d9 f1 f2 f3 v1 n1 n2 n3
 go_wp2
 go_region_held3 (fun w'=>w'.cell? ⟨sb,1,none⟩=some (.slice (some ⟨g,0,none⟩) N c)∧w'.cell? ⟨sb,2,none⟩=some (.slice ta nt tc)∧w'.cell? ⟨sb,3,none⟩=some (.int .i64 S.day)∧w'.cell? ⟨g,i * 13,none⟩=some (.int .i64 x.id)∧w'.cell? ⟨g,i * 13+2,none⟩=some (.string x.sym)∧w'.cell? ⟨g,k * 13,none⟩=some (.int .i64 y.id)∧w'.cell? ⟨g,k * 13+5,none⟩=some (.int .i64 y.price)) (go_keep) (first | fail)
 obtain⟨tr,htr⟩:∃tr,S.tr i k n=tr:=⟨_,rfl⟩
 have hwr:IntKind.i64.wrap ((nt:Int)+1)=(nt:Int)+1:=by rw[IntKind.wrap_i64];omega
 obtain⟨w4,hw4⟩:∃w4,w4=(w3.alloc (.cells #[.int .i64 (IntKind.i64.wrap ((nt:Int)+1)),.string x.sym,.int .i64 y.price,.int .i64 n,.int .i64 x.id,.int .i64 y.id,.int .i64 S.day] 56)).drew:=⟨_,rfl⟩
 rw[←hw4]
 have k4:ag ak w3 w4:=by rw[hw4];exact ((ag.refl ak w3).alloc _).drew
 have b4:ai w4 w3.heap.size #[.int .i64 (IntKind.i64.wrap ((nt:Int)+1)),.string x.sym,.int .i64 y.price,.int .i64 n,.int .i64 x.id,.int .i64 y.id,.int .i64 S.day] 56:=by rw[hw4];exact (ai.new _ _ _).drew
 have hs4:w4.heap.size=w3.heap.size+1:=by rw[hw4];simp
 have v4:=k4.cell x3 (fun x=>x)
 have v41:=k4.cell u1 (fun x=>x)
 have vx0:=k4.cell x0 (fun x=>x)
 have vy0:=k4.cell y0 (fun x=>x)
 have q4:w4.cell? ⟨w3.heap.size,4,none⟩=some (.int .i64 x.id):=b4.cell 4
 have q5:w4.cell? ⟨w3.heap.size,5,none⟩=some (.int .i64 y.id):=b4.cell 5
 have g4:=b4.frozen 4
 have g5:=b4.frozen 5
 have HTR:Hid (S.tr i k n=⟨(nt:Int)+1,x.sym,y.price,n,if x.side=1 then y.id else x.id,if x.side=1 then x.id else y.id,S.day⟩):=by
  show _=_
  unfold RS.tr
  rw[ae HX,ae HY,ae HT]
 have h4:=(ae H3).aj k4
 have HB4:=hide b4
 have zh:=hide k4
 have MK:=hide hs4
 have YY:=hide hwr
 clear b4 hs4 hwr hw4 k4 htr tr
 obtain⟨i0,z0,hi0,hz0,hz1,hz2,hz3⟩:=zA
 have hmx:nt+1≤maxLen:=by unfold maxLen;omega
 have ik:(nt+1) * 72≤140737488355328:=by omega
 have hge:=h4.ge
 by_cases hsd:x.side=1
 ·have es:(x.side == 1)=true:=by simp[hsd]
  have Qp:=hide hsd
  clear hsd
  obtain⟨w5,hw5⟩:∃w5,w5=(w4.setCell ⟨w3.heap.size,4,none⟩ (.int .i64 y.id)).setCell ⟨w3.heap.size,5,none⟩ (.int .i64 x.id):=⟨_,rfl⟩
  have kb:ag (fun b=>b=w3.heap.size) w4 w5:=by rw[hw5];exact ((ag.refl (fun b=>b=w3.heap.size) w4).setCell (p:=⟨w3.heap.size,4,none⟩) (.inl rfl) _).setCell (p:=⟨w3.heap.size,5,none⟩) (.inl rfl) _
  have b5:ai w5 w3.heap.size #[.int .i64 (IntKind.i64.wrap ((nt:Int)+1)),.string x.sym,.int .i64 y.price,.int .i64 n,.int .i64 y.id,.int .i64 x.id,.int .i64 S.day] 56:=by rw[hw5];exact ((ae HB4).set 4 _).set 5 _
  have h5:bH w5 base sb (S.fills i k n) m:=by
   have nb:∀b,SF sb m b→b≠w3.heap.size:=fun b hb e=>by have:=((ae H3).lt hb).2;omega
   have hr:∀{e size n:Nat} {v:Value} {xs:List Value},w4.ownsRow base e size v n xs→(∀b,v.ownBlock=some b→SF sb m b)→w5.ownsRow base e size v n xs:=fun r hs=>au r kb (fun b hb=>nb b (hs b hb))
   exact⟨h4.ge,kb.blk h4.blk (nb _ (.inl rfl)),hr h4.jH (fun b hb=>.inr (.inl hb)),hr h4.bI (fun b hb=>.inr (.inr (.inl hb))),hr h4.dE (fun b hb=>.inr (.inr (.inr (.inl hb)))),hr h4.jS (fun b hb=>.inr (.inr (.inr (.inr hb))))⟩
  have k5:ag ak w3 w5:=(ae zh).from (kb.mono (fun b hb=>.inr (by omega)))
  have hs5:w5.heap.size=w3.heap.size+1:=by rw[hw5];simp[ae MK]
  have ML:=hide hw5
  clear hw5 kb h4
  go_wp2
  rw[←ae ML]
  have HTS:Hid (S.tr i k n=⟨(nt:Int)+1,x.sym,y.price,n,y.id,x.id,S.day⟩):=by show _=_;rw[ae HTR,if_pos (ae Qp),if_pos (ae Qp)]
  have t0:w5.cell? ⟨w3.heap.size,0,none⟩=some (.int .i64 (IntKind.i64.wrap ((nt:Int)+1))):=b5.cell 0
  have t1:w5.cell? ⟨w3.heap.size,1,none⟩=some (.string x.sym):=b5.cell 1
  have t2:w5.cell? ⟨w3.heap.size,2,none⟩=some (.int .i64 y.price):=b5.cell 2
  have t3:w5.cell? ⟨w3.heap.size,3,none⟩=some (.int .i64 n):=b5.cell 3
  have t4:w5.cell? ⟨w3.heap.size,4,none⟩=some (.int .i64 y.id):=b5.cell 4
  have t5:w5.cell? ⟨w3.heap.size,5,none⟩=some (.int .i64 x.id):=b5.cell 5
  have t6:w5.cell? ⟨w3.heap.size,6,none⟩=some (.int .i64 S.day):=b5.cell 6
  have u5:w5.cell? ⟨sb,2,none⟩=some (.slice ta nt tc):=by rw[←ae GM];exact h5.blk.cell 2
  obtain⟨w7,hw7⟩:∃w7,w7=(w5.alloc (.cells #[.int .i64 (IntKind.i64.wrap ((nt:Int)+1)),.string x.sym,.int .i64 y.price,.int .i64 n,.int .i64 y.id,.int .i64 x.id,.int .i64 S.day,.bool true] 210)).drew:=⟨_,rfl⟩
  have k7:ag ak w5 w7:=by rw[hw7];exact ((ag.refl ak w5).alloc _).drew
  have Oz:w7.heap.size=w3.heap.size+2:=by rw[hw7];simp[hs5]
  have h7:=h5.aj k7
  have ER:w7.ownsRow base 210 8 (.slice ta nt tc) nt (pO S.t):=by
   have r:=h7.dE
   change w7.ownsRow base 210 8 m.tv S.t.length (pO S.t) at r
   rw[ae GM,ae HT]at r
   exact r
  have hnews:∀j u,(D5 ⟨⟨IntKind.i64.wrap ((nt:Int)+1),x.sym,y.price,n,y.id,x.id,S.day⟩,true⟩)[j]?=some u→w7.cell? (Addr.add ⟨w5.heap.size,0,none⟩ j)=some u:=by
   intro j u hj
   have:=SQ w5 ⟨⟨IntKind.i64.wrap ((nt:Int)+1),x.sym,y.price,n,y.id,x.id,S.day⟩,true⟩ j u hj
   rw[hw7]
   exact this
  have hone:∀u∈D5 ⟨⟨IntKind.i64.wrap ((nt:Int)+1),x.sym,y.price,n,y.id,x.id,S.day⟩,true⟩,u.oneCell'=true:=by simp[D5,Value.oneCell']
  have b7:=k7.blk b5 (fun x=>x)
  have HC:Hid (∀W m9,bH W base sb { S.fills i k n with t:=S.t++[⟨⟨IntKind.i64.wrap ((nt:Int)+1),x.sym,y.price,n,y.id,x.id,S.day⟩,true⟩] } m9→Calls Tryz.prog 205 #[.pointer (some ⟨sb,0,none⟩),.int .i64 1,.agg #[.int .i64 (IntKind.i64.wrap ((nt:Int)+1)),.string x.sym,.int .i64 y.price,.int .i64 n,.int .i64 y.id,.int .i64 x.id,.int .i64 S.day]] W fun e w'=>e=.returned (.tuple #[])∧fP base sb (S.dZ i k n) m9 W w'):=by
   intro W m9 h9
   have:=yQ base sb _ m9 1 ⟨IntKind.i64.wrap ((nt:Int)+1),x.sym,y.price,n,y.id,x.id,S.day⟩ W h9 ho
   have e9:S.dZ i k n=RS.tell { S.fills i k n with t:=S.t++[⟨⟨IntKind.i64.wrap ((nt:Int)+1),x.sym,y.price,n,y.id,x.id,S.day⟩,true⟩] } 1 ⟨IntKind.i64.wrap ((nt:Int)+1),x.sym,y.price,n,y.id,x.id,S.day⟩:=by
    unfold RS.dZ RS.tell
    rw[ae HTS,ae YY]
    rfl
   rw[e9]
   exact this
  have zl:Hid (bH w5 base sb (S.fills i k n) m∧ag (SF sb m) w w5):=⟨h5,(ae lV).trans k5.aC⟩
  have Tz:Hid (w.heap.size≤w3.heap.size):=(ae lV).size
  have VV:=hide k7
  have H7:=hide h7
  have wU:=hide Oz
  have HR7:=hide ER
  have zi:=hide hnews
  have oN:=hide hone
  have HW7:=hide hw7
  have Jo:=hide b7
  have ZM:Hid ((S.fills i k n).t.length=nt):=ae HT
  have aaD:sb<w3.heap.size:=Q9
  have ne8:w3.heap.size≠sb:=by omega
  have ls5:sb<w5.heap.size:=by omega
  have lh5:w3.heap.size<w5.heap.size:=by omega
  clear b5 h5 k5 hs5 hw7 k7 Oz h7 ER hnews hone b7
  go_region_law (first | (rw[←ae HW7];refine step_append_lies _ rfl (.tmp 142) (.tmp 145) 205 rfl base 210 i0 z0 8 72 Tryz.underlying205 hi0 hz0 hz1 hz2 hz3 (by decide) (.slice ta nt tc) nt (pO S.t) rfl (ae HR7) ⟨w5.heap.size,0,none⟩ 1 1 (D5 ⟨⟨IntKind.i64.wrap ((nt:Int)+1),x.sym,y.price,n,y.id,x.id,S.day⟩,true⟩) rfl rfl (ae zi) (ae oN) (by omega) hmx ik (by have:=ae wU;omega) (w3.heap.size+2) (ae wU) ?_;intro g8 TQ w8 hown2 hgrow hat hlt;have vk:=hide hown2;have HG2:=hide hgrow;have HA2:=hide hat;have b2:ai w8 sb _ 207:=(hgrow.block sb (ae H7).blk.lt (fun e=>by obtain⟨cs,hc⟩:=ay (ae H7).dE (b:=sb) (by rw[ae GM];exact e.symm);exact ai.ne hc (ae H7).blk (by decide) rfl)).trans (ae H7).blk;have v82:=b2.cell 2;have f82:=b2.frozen 2;simp at v82;have b3:ai w8 w3.heap.size _ 56:=(hgrow.block w3.heap.size (by have:=ae wU;omega) (fun e=>by obtain⟨cs,hc⟩:=ay (ae H7).dE (b:=w3.heap.size) (by rw[ae GM];exact e.symm);exact ai.ne hc (ae Jo) (by decide) rfl)).trans (ae Jo);have HB3:=hide b3;clear hown2 hgrow hat b2 b3))
  all_goals
   have a1:=(ae H7).PQ (r:=⟨⟨IntKind.i64.wrap ((nt:Int)+1),x.sym,y.price,n,y.id,x.id,S.day⟩,true⟩) (ae ZM) (ae vk) (by rw[ae GM];exact ae HG2) (by rw[ae GM];exact ae HA2) (ae wU)
   have b9:=(ae HB3).other (a:=⟨sb,2,none⟩) ne8 (.slice (some ⟨g8,0,none⟩) (nt+1) TQ)
   have s0:=b9.cell 0
   have s1:=b9.cell 1
   have s2:=b9.cell 2
   have s3:=b9.cell 3
   have s4:=b9.cell 4
   have s5:=b9.cell 5
   have s6:=b9.cell 6
   simp at s0 s1 s2 s3 s4 s5 s6
   obtain⟨m9,p9,q9,r9⟩:=a1
   have VO:=hide (ae HC _ m9 p9)
   rw[ae YY]at VO
   have Wj:Hid (∀b,SF sb m9 b→SF sb m b∨w.heap.size≤b):=fun b hb=>(q9 b hb).imp_right (fun h=>by have:=ae wU;have:=ae Tz;omega)
   have Wl:=hide (((ae zl).2.trans (ae VV).aC).trans r9)
   clear p9 q9 r9 b9
   go_wp2_with fail
   refine (ae VO).mono ?_
   rintro e w' ⟨rfl,hn'⟩
   go_wp2
   go_end0
   refine⟨rfl,?_⟩
   obtain⟨m10,p10,q10,r10⟩:=hn'
   refine⟨m10,p10,fun b hb=>?_,(ae Wl).from (r10.mono (ae Wj))⟩
   rcases q10 b hb with h | h
   ·exact ae Wj b h
   ·exact .inr (Nat.le_trans (ae Wl).size h)
 ·have es:(x.side == 1)=false:=by simp[hsd]
  have Qp:=hide hsd
  clear hsd
  go_wp2
  obtain⟨w5,hw5⟩:∃w5,w5=w4:=⟨_,rfl⟩
  have b5:=ae HB4
  have h5:=h4
  have k5:=ae zh
  have hs5:=ae MK
  rw[←hw5]at b5 h5 k5 hs5 ⊢
  clear hw5 h4
  have HTS:Hid (S.tr i k n=⟨(nt:Int)+1,x.sym,y.price,n,x.id,y.id,S.day⟩):=by show _=_;rw[ae HTR,if_neg (ae Qp),if_neg (ae Qp)]
  have t0:w5.cell? ⟨w3.heap.size,0,none⟩=some (.int .i64 (IntKind.i64.wrap ((nt:Int)+1))):=b5.cell 0
  have t1:w5.cell? ⟨w3.heap.size,1,none⟩=some (.string x.sym):=b5.cell 1
  have t2:w5.cell? ⟨w3.heap.size,2,none⟩=some (.int .i64 y.price):=b5.cell 2
  have t3:w5.cell? ⟨w3.heap.size,3,none⟩=some (.int .i64 n):=b5.cell 3
  have t4:w5.cell? ⟨w3.heap.size,4,none⟩=some (.int .i64 x.id):=b5.cell 4
  have t5:w5.cell? ⟨w3.heap.size,5,none⟩=some (.int .i64 y.id):=b5.cell 5
  have t6:w5.cell? ⟨w3.heap.size,6,none⟩=some (.int .i64 S.day):=b5.cell 6
  have u5:w5.cell? ⟨sb,2,none⟩=some (.slice ta nt tc):=by rw[←ae GM];exact h5.blk.cell 2
  obtain⟨w7,hw7⟩:∃w7,w7=(w5.alloc (.cells #[.int .i64 (IntKind.i64.wrap ((nt:Int)+1)),.string x.sym,.int .i64 y.price,.int .i64 n,.int .i64 x.id,.int .i64 y.id,.int .i64 S.day,.bool true] 210)).drew:=⟨_,rfl⟩
  have k7:ag ak w5 w7:=by rw[hw7];exact ((ag.refl ak w5).alloc _).drew
  have Oz:w7.heap.size=w3.heap.size+2:=by rw[hw7];simp[hs5]
  have h7:=h5.aj k7
  have ER:w7.ownsRow base 210 8 (.slice ta nt tc) nt (pO S.t):=by
   have r:=h7.dE
   change w7.ownsRow base 210 8 m.tv S.t.length (pO S.t) at r
   rw[ae GM,ae HT]at r
   exact r
  have hnews:∀j u,(D5 ⟨⟨IntKind.i64.wrap ((nt:Int)+1),x.sym,y.price,n,x.id,y.id,S.day⟩,true⟩)[j]?=some u→w7.cell? (Addr.add ⟨w5.heap.size,0,none⟩ j)=some u:=by
   intro j u hj
   have:=SQ w5 ⟨⟨IntKind.i64.wrap ((nt:Int)+1),x.sym,y.price,n,x.id,y.id,S.day⟩,true⟩ j u hj
   rw[hw7]
   exact this
  have hone:∀u∈D5 ⟨⟨IntKind.i64.wrap ((nt:Int)+1),x.sym,y.price,n,x.id,y.id,S.day⟩,true⟩,u.oneCell'=true:=by simp[D5,Value.oneCell']
  have b7:=k7.blk b5 (fun x=>x)
  have HC:Hid (∀W m9,bH W base sb { S.fills i k n with t:=S.t++[⟨⟨IntKind.i64.wrap ((nt:Int)+1),x.sym,y.price,n,x.id,y.id,S.day⟩,true⟩] } m9→Calls Tryz.prog 205 #[.pointer (some ⟨sb,0,none⟩),.int .i64 1,.agg #[.int .i64 (IntKind.i64.wrap ((nt:Int)+1)),.string x.sym,.int .i64 y.price,.int .i64 n,.int .i64 x.id,.int .i64 y.id,.int .i64 S.day]] W fun e w'=>e=.returned (.tuple #[])∧fP base sb (S.dZ i k n) m9 W w'):=by
   intro W m9 h9
   have:=yQ base sb _ m9 1 ⟨IntKind.i64.wrap ((nt:Int)+1),x.sym,y.price,n,x.id,y.id,S.day⟩ W h9 ho
   have e9:S.dZ i k n=RS.tell { S.fills i k n with t:=S.t++[⟨⟨IntKind.i64.wrap ((nt:Int)+1),x.sym,y.price,n,x.id,y.id,S.day⟩,true⟩] } 1 ⟨IntKind.i64.wrap ((nt:Int)+1),x.sym,y.price,n,x.id,y.id,S.day⟩:=by
    unfold RS.dZ RS.tell
    rw[ae HTS,ae YY]
    rfl
   rw[e9]
   exact this
  have zl:Hid (bH w5 base sb (S.fills i k n) m∧ag (SF sb m) w w5):=⟨h5,(ae lV).trans k5.aC⟩
  have Tz:Hid (w.heap.size≤w3.heap.size):=(ae lV).size
  have VV:=hide k7
  have H7:=hide h7
  have wU:=hide Oz
  have HR7:=hide ER
  have zi:=hide hnews
  have oN:=hide hone
  have HW7:=hide hw7
  have Jo:=hide b7
  have ZM:Hid ((S.fills i k n).t.length=nt):=ae HT
  have aaD:sb<w3.heap.size:=Q9
  have ne8:w3.heap.size≠sb:=by omega
  have ls5:sb<w5.heap.size:=by omega
  have lh5:w3.heap.size<w5.heap.size:=by omega
  clear b5 h5 k5 hs5 hw7 k7 Oz h7 ER hnews hone b7
  go_region_law (first | (rw[←ae HW7];refine step_append_lies _ rfl (.tmp 142) (.tmp 145) 205 rfl base 210 i0 z0 8 72 Tryz.underlying205 hi0 hz0 hz1 hz2 hz3 (by decide) (.slice ta nt tc) nt (pO S.t) rfl (ae HR7) ⟨w5.heap.size,0,none⟩ 1 1 (D5 ⟨⟨IntKind.i64.wrap ((nt:Int)+1),x.sym,y.price,n,x.id,y.id,S.day⟩,true⟩) rfl rfl (ae zi) (ae oN) (by omega) hmx ik (by have:=ae wU;omega) (w3.heap.size+2) (ae wU) ?_;intro g8 TQ w8 hown2 hgrow hat hlt;have vk:=hide hown2;have HG2:=hide hgrow;have HA2:=hide hat;have b2:ai w8 sb _ 207:=(hgrow.block sb (ae H7).blk.lt (fun e=>by obtain⟨cs,hc⟩:=ay (ae H7).dE (b:=sb) (by rw[ae GM];exact e.symm);exact ai.ne hc (ae H7).blk (by decide) rfl)).trans (ae H7).blk;have v82:=b2.cell 2;have f82:=b2.frozen 2;simp at v82;have b3:ai w8 w3.heap.size _ 56:=(hgrow.block w3.heap.size (by have:=ae wU;omega) (fun e=>by obtain⟨cs,hc⟩:=ay (ae H7).dE (b:=w3.heap.size) (by rw[ae GM];exact e.symm);exact ai.ne hc (ae Jo) (by decide) rfl)).trans (ae Jo);have HB3:=hide b3;clear hown2 hgrow hat b2 b3))
  all_goals
   have a1:=(ae H7).PQ (r:=⟨⟨IntKind.i64.wrap ((nt:Int)+1),x.sym,y.price,n,x.id,y.id,S.day⟩,true⟩) (ae ZM) (ae vk) (by rw[ae GM];exact ae HG2) (by rw[ae GM];exact ae HA2) (ae wU)
   have b9:=(ae HB3).other (a:=⟨sb,2,none⟩) ne8 (.slice (some ⟨g8,0,none⟩) (nt+1) TQ)
   have s0:=b9.cell 0
   have s1:=b9.cell 1
   have s2:=b9.cell 2
   have s3:=b9.cell 3
   have s4:=b9.cell 4
   have s5:=b9.cell 5
   have s6:=b9.cell 6
   simp at s0 s1 s2 s3 s4 s5 s6
   obtain⟨m9,p9,q9,r9⟩:=a1
   have VO:=hide (ae HC _ m9 p9)
   rw[ae YY]at VO
   have Wj:Hid (∀b,SF sb m9 b→SF sb m b∨w.heap.size≤b):=fun b hb=>(q9 b hb).imp_right (fun h=>by have:=ae wU;have:=ae Tz;omega)
   have Wl:=hide (((ae zl).2.trans (ae VV).aC).trans r9)
   clear p9 q9 r9 b9
   go_wp2_with fail
   refine (ae VO).mono ?_
   rintro e w' ⟨rfl,hn'⟩
   go_wp2
   go_end0
   refine⟨rfl,?_⟩
   obtain⟨m10,p10,q10,r10⟩:=hn'
   refine⟨m10,p10,fun b hb=>?_,(ae Wl).from (r10.mono (ae Wj))⟩
   rcases q10 b hb with h | h
   ·exact ae Wj b h
   ·exact .inr (Nat.le_trans (ae Wl).size h)
end Go.Proofs.YtigaphnafnpfnaaGreatDoor
