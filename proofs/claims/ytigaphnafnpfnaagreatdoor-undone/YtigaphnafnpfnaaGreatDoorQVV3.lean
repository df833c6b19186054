import Derived.Test.YtigaphnafnpfnaaGreatDoorQVF3
set_option linter.unusedVariables false
set_option linter.unusedSimpArgs false
set_option maxHeartbeats 8000000
set_option maxRecDepth 100000
namespace Go.Proofs.YtigaphnafnpfnaaGreatDoor
open Go.RowKit
attribute [local go_sem ↓] Go.wp_at_zero Go.wp_at_succ
theorem xC(bv bm bo:Nat)(G:Lg)(m:Lm)(kind:Int)(t:Tr)(w:World)(hL:bu w bv bm bo G m)(hlen:G.tp.length<1000000000) :
 Calls Tryz.prog 73 #[.pointer (some ⟨bv,0,none⟩),.int .i64 kind,t.val] w fun e w'=>e=.returned (.tuple #[]) /\
  ∃m',bu w' bv bm bo (G.told kind t) m'/\(∀b,m'.F b->m.F b\/w.heap.size<=b)/\au (fun b=>b=bv\/m.pv.ownBlock=some b) w w'/\m'.ac=m.ac/\m'.tb=m.tb/\m'.tv=m.tv:=by
 obtain⟨n,hn⟩:∃n,G.tp.length=n:=⟨_,rfl⟩
 have F6:=hL.aO.iF
 rw[hn]at F6 hlen
 obtain⟨pa,lX,hpv⟩:∃pa lX,m.pv=.slice pa n lX:=by
  rcases F6.2 with⟨h,h0⟩|⟨g,cap,cs,h,_⟩
  ·exact⟨none,0,by rw[h,h0]⟩
  ·exact⟨_,cap,h⟩
 rw[hpv]at F6
 have hv:=hL.dA
 have v3:w.cell? ⟨bv,3,none⟩=some (.slice pa n lX):=(hv.cell 3).trans (by rw[<-hpv];rfl)
 have f3:=hv.frozen 3
 have lv:=hv.lt
 have hmx:n+1<=maxLen:=by unfold maxLen;omega
 have tC:(n+1) * 80<=140737488355328:=by omega
 obtain⟨i0,z0,hi0,hz0,hz1,hz2,hz3⟩:=vF
 obtain⟨tn,ts,tp,tq,qB,qE,td⟩:=t
 simp only[Tr.val]
 obtain⟨w0,hw0⟩:∃w0,w0=w.alloc (.cells #[.int .i64 tn,.string ts,.int .i64 tp,.int .i64 tq,.int .i64 qB,.int .i64 qE,.int .i64 td] 56):=⟨_,rfl⟩
 have k0:au aP w w0:=by rw[hw0];exact (au.refl aP w).alloc _
 have b0:az w0 w.heap.size #[.int .i64 tn,.string ts,.int .i64 tp,.int .i64 tq,.int .i64 qB,.int .i64 qE,.int .i64 td] 56:=by rw[hw0];exact az.new _ _ _
 have hs0:w0.heap.size=w.heap.size+1:=by rw[hw0];simp
 have hL0:=hL.aH k0
 have hrow0:=aG F6 k0 (fun _ _ x=>x)
 have v3':w0.cell? ⟨bv,3,none⟩=some (.slice pa n lX):=k0.cell v3 (fun x=>x)
 have t0:w0.cell? ⟨w.heap.size,0,none⟩=some (.int .i64 tn):=b0.cell 0
 have t1:w0.cell? ⟨w.heap.size,1,none⟩=some (.string ts):=b0.cell 1
 have t2:w0.cell? ⟨w.heap.size,2,none⟩=some (.int .i64 tp):=b0.cell 2
 have t3:w0.cell? ⟨w.heap.size,3,none⟩=some (.int .i64 tq):=b0.cell 3
 have t4:w0.cell? ⟨w.heap.size,4,none⟩=some (.int .i64 qB):=b0.cell 4
 have t5:w0.cell? ⟨w.heap.size,5,none⟩=some (.int .i64 qE):=b0.cell 5
 have t6:w0.cell? ⟨w.heap.size,6,none⟩=some (.int .i64 td):=b0.cell 6
 obtain⟨w1,hw1⟩:∃w1,w1=(w0.alloc (.cells #[.int .i64 (IntKind.i64.wrap ((n:Int)+1)),.int .i64 kind,.int .i64 tn,.string ts,.int .i64 tp,.int .i64 tq,.int .i64 qB,.int .i64 qE,.int .i64 td] 62)).drew:=⟨_,rfl⟩
 have k1:au aP w0 w1:=by rw[hw1];exact ((au.refl aP w0).alloc _).drew
 have hrow1:=aG hrow0 k1 (fun _ _ x=>x)
 have hsz1:w1.heap.size=w.heap.size+2:=by rw[hw1];simp[hs0]
 have hnews:∀j u,(Rc.cells ⟨IntKind.i64.wrap ((n:Int)+1),kind,⟨tn,ts,tp,tq,qB,qE,td⟩⟩)[j]?=some u->w1.cell? (Addr.add ⟨w.heap.size+1,0,none⟩ j)=some u:=by
  intro j u hj
  have:=aaj w0 ⟨IntKind.i64.wrap ((n:Int)+1),kind,⟨tn,ts,tp,tq,qB,qE,td⟩⟩ j u hj
  rw[hs0]at this
  rw[hw1]
  exact this
 have hone:∀u∈Rc.cells ⟨IntKind.i64.wrap ((n:Int)+1),kind,⟨tn,ts,tp,tq,qB,qE,td⟩⟩,u.oneCell'=true:=by simp[Rc.cells,Value.oneCell']
 have hL1:=hL0.aH k1
 have hwr:IntKind.i64.wrap ((n:Int)+1)=(n:Int)+1:=by rw[IntKind.wrap_i64];omega
 have HE:Hid (Lg.told G kind ⟨tn,ts,tp,tq,qB,qE,td⟩={ G with tp:=G.tp++[⟨IntKind.i64.wrap ((n:Int)+1),kind,⟨tn,ts,tp,tq,qB,qE,td⟩⟩] }):=by
  show _=_
  unfold Lg.told
  rw[hn,hwr]
 clear hwr
 have HR:=ai hrow1
 have EY:=ai hnews
 have HON:=ai hone
 have Ti:=ai hsz1
 have HL:=ai hL
 have DF:=ai hL1
 have HPV:=ai hpv
 have HW:=ai hw0
 have HW1:=ai hw1
 have HB:=ai (k1.aB b0 (fun x=>x))
 have hne:w.heap.size≠bv:=by omega
 have HK:=ai (k0.trans k1)
 clear F6 hL hpv hrow0 hL0 hw0 b0 v3 hrow1 hnews hone hw1 hsz1 hL1 k0 k1 f3
 go_enter Tryz.func73,Tryz.ntmps73
 go_wp2
 rw[<-ae HW]
 go_region_law (first|(rw[<-ae HW1];refine step_append_lies _ rfl (.tmp 10) (.tmp 20) 34 rfl 0 62 i0 z0 9 80 Tryz.underlying34 hi0 hz0 hz1 hz2 hz3 (by decide) (.slice pa n lX) n (iW G.tp) rfl (ae HR) ⟨w.heap.size+1,0,none⟩ 1 1 (Rc.cells ⟨IntKind.i64.wrap ((n:Int)+1),kind,⟨tn,ts,tp,tq,qB,qE,td⟩⟩) rfl rfl (ae EY) (ae HON) (by omega) hmx tC (by omega) (w.heap.size+2) (ae Ti) ?_;intro g cap w2 hown2 hgrow hat hlt;have KD:=ai hown2;have HG2:=ai hgrow;have HA2:=ai hat;have b2:az w2 bv (qM bm bo m G.day) 100:=(hgrow.block bv (ae DF).dA.lt (fun e=>(ae DF).Jb (.inr (.inl (.inl (by rw[ae HPV];exact e.symm)))))).trans (ae DF).dA;have v32:=b2.cell 3;have f32:=b2.frozen 3;simp only[qM]at v32;simp at v32;have HB2:=ai b2;clear hown2 hgrow hat b2))
 all_goals
  go_end0
  obtain⟨a1,a2,a3⟩:=(ae DF).NT hn (ae KD) (by rw[ae HPV];exact ae HG2) (by rw[ae HPV];exact ae HA2) (ae Ti)
  refine⟨rfl,_,?_,fun b hb=>(a2 b hb).imp_right (fun h=>by omega),(ae HK).bI.trans a3,rfl,rfl,rfl⟩
  rw[ae HE]
  exact a1
theorem IZ(bv bm bo:Nat)(G:Lg)(m:Lm)(t:Tr)(w:World)(bk:Nat->Nat)(lo:Nat)(old:List (List Value))(dQ:List Nat)(cl:List Value)(hL:bu w bv bm bo G m)(hC:gI w bv bk lo false old G.nt dQ m cl)(hlo:lo<=w.heap.size)(hlen:G.tp.length<1000000000)(hlen2:G.tr.length<1000000000)(hna:0<G.na)(gZ:G.na<=3000000)(hnf:G.nt.length+1<1000000000) :
 Calls Tryz.prog 178 #[.pointer (some ⟨bv,0,none⟩),t.val] w fun e w'=>e=.returned (.tuple #[]) /\
  ∃m',bu w' bv bm bo (G.jG t) m'/\(∀b,m'.F b->m.F b\/w.heap.size<=b)/\au (fun b=>b=bv\/m.F b) w w'/\∃tb c,dQ.length+1=G.tr.length+1/\gI w' bv bk lo false old (G.jG t).nt (dQ++[tb]) m' (cl++[c]):=by
 obtain⟨n,hn⟩:∃n,G.tr.length=n:=⟨_,rfl⟩
 have F9:=hL.aO.jq
 rw[hn]at F9 hlen2
 obtain⟨pa,lX,xY⟩:∃pa lX,m.tv=.slice pa n lX:=by
  rcases F9.2 with⟨h,h0⟩|⟨g,cap,cs,h,_⟩
  ·exact⟨none,0,by rw[h,h0]⟩
  ·exact⟨_,cap,h⟩
 rw[xY]at F9
 have v2:w.cell? ⟨bv,2,none⟩=some (.slice pa n lX):=(hL.dA.cell 2).trans (by rw[<-xY];rfl)
 have v4:w.cell? ⟨bv,4,none⟩=some (.int .i64 G.day):=hL.dA.cell 4
 have lv:=hL.dA.lt
 obtain⟨tn,ts,tp,tq,qB,qE,td⟩:=t
 simp only[Tr.val]
 obtain⟨w0,hw0⟩:∃w0,w0=((w.alloc (.cells #[.pointer (some ⟨bv,0,none⟩)] 35)).alloc (.cells #[.int .i64 ((n:Int)+1),.string ts,.int .i64 tp,.int .i64 tq,.int .i64 qB,.int .i64 qE,.int .i64 G.day] 56)).drew:=⟨_,rfl⟩
 have k0:au aP w w0:=by rw[hw0];exact (((au.refl aP w).alloc _).alloc _).drew
 have b0:az w0 (w.heap.size+1) #[.int .i64 ((n:Int)+1),.string ts,.int .i64 tp,.int .i64 tq,.int .i64 qB,.int .i64 qE,.int .i64 G.day] 56:=by rw[hw0];exact (az.xy w _ _ _).drew
 have bx0:az w0 w.heap.size #[.pointer (some ⟨bv,0,none⟩)] 35:=by rw[hw0];exact ((az.new w _ _).alloc _).drew
 have x0:w0.cell? ⟨w.heap.size,0,none⟩=some (.pointer (some ⟨bv,0,none⟩)):=bx0.cell 0
 have hs0:w0.heap.size=w.heap.size+2:=by rw[hw0];simp
 have v20:w0.cell? ⟨bv,2,none⟩=some (.slice pa n lX):=k0.cell v2 (fun x=>x)
 have t0:w0.cell? ⟨w.heap.size+1,0,none⟩=some (.int .i64 ((n:Int)+1)):=b0.cell 0
 have t1:w0.cell? ⟨w.heap.size+1,1,none⟩=some (.string ts):=b0.cell 1
 have t2:w0.cell? ⟨w.heap.size+1,2,none⟩=some (.int .i64 tp):=b0.cell 2
 have t3:w0.cell? ⟨w.heap.size+1,3,none⟩=some (.int .i64 tq):=b0.cell 3
 have t4:w0.cell? ⟨w.heap.size+1,4,none⟩=some (.int .i64 qB):=b0.cell 4
 have t5:w0.cell? ⟨w.heap.size+1,5,none⟩=some (.int .i64 qE):=b0.cell 5
 have t6:w0.cell? ⟨w.heap.size+1,6,none⟩=some (.int .i64 G.day):=b0.cell 6
 obtain⟨w1,hw1⟩:∃w1,w1=((w0.alloc (.cells #[.int .i64 ((n:Int)+1),.string ts,.int .i64 tp,.int .i64 tq,.int .i64 qB,.int .i64 qE,.int .i64 G.day,.bool true] 105)).alloc (.cells #[.pointer (some ⟨w.heap.size+2,0,none⟩)] 103)).drew:=⟨_,rfl⟩
 have k1:au aP w0 w1:=by rw[hw1];exact (((au.refl aP w0).alloc _).alloc _).drew
 have hsz1:w1.heap.size=w.heap.size+4:=by rw[hw1];simp[hs0]
 have hnb:az w1 (w.heap.size+2) (Tg.cells ⟨G.iC ⟨tn,ts,tp,tq,qB,qE,td⟩,true⟩) 105:=by
  rw[hw1]
  have h:=((az.new w0 #[.int .i64 ((n:Int)+1),.string ts,.int .i64 tp,.int .i64 tq,.int .i64 qB,.int .i64 qE,.int .i64 G.day,.bool true] 105).alloc (.cells #[.pointer (some ⟨w.heap.size+2,0,none⟩)] 103)).drew
  rw[hs0]at h
  simp only[Tg.cells,Lg.iC,hn]
  exact h
 have hnews:∀j u,([dn (w.heap.size+2)]:List Value)[j]?=some u->w1.cell? (Addr.add ⟨w.heap.size+3,0,none⟩ j)=some u:=by
  intro j u hj
  have hb:=(az.new (w0.alloc (.cells #[.int .i64 ((n:Int)+1),.string ts,.int .i64 tp,.int .i64 tq,.int .i64 qB,.int .i64 qE,.int .i64 G.day,.bool true] 105)) #[.pointer (some ⟨w.heap.size+2,0,none⟩)] 103).drew
  have e:(w0.alloc (.cells #[.int .i64 ((n:Int)+1),.string ts,.int .i64 tp,.int .i64 tq,.int .i64 qB,.int .i64 qE,.int .i64 G.day,.bool true] 105)).heap.size=w.heap.size+3:=by simp[hs0]
  rw[e,<-hw1]at hb
  exact World.news_of_block hb j u hj
 have hL1:=(hL.aH k0).aH k1
 have hrow1:=aG (aG F9 k0 (fun _ _ x=>x)) k1 (fun _ _ x=>x)
 have hmx:n+1<=maxLen:=by unfold maxLen;omega
 have tC:(n+1) * 8<=140737488355328:=by omega
 obtain⟨i0,hi0,hz0,hz1,hz2⟩:=vG
 have hone:∀u∈([dn (w.heap.size+2)]:List Value),u.oneCell'=true:=by simp[dn,Value.oneCell']
 have hnot:¬(w.heap.size+2)∈m.tb:=fun h=>by have:=hL.aO.lt (.inr (.inr (.inl h)));omega
 have HCu:=ai hC
 have Vg:=ai (show dQ.length+1=G.tr.length+1 by rw[<-hC.tb,hL.aO.len])
 have HR:=ai hrow1
 have EY:=ai hnews
 have HON:=ai hone
 have Ti:=ai hsz1
 have HL:=ai hL
 have DF:=ai hL1
 have YP:=ai xY
 have HW:=ai hw0
 have HW1:=ai hw1
 have HB:=ai (k1.aB b0 (fun x=>x))
 have HX:=ai (k1.aB bx0 (fun x=>x))
 have HNB:=ai hnb
 have HNO:=ai hnot
 have HK:=ai (k0.trans k1)
 clear hC F9 hL xY hw0 b0 bx0 hrow1 hnews hone hw1 hsz1 hL1 k0 k1 hnb hnot
 go_enter Tryz.func178,Tryz.ntmps178
 go_wp2
 go_region
 rw[<-ae HW]
 clear v2 v4
 have l1:bv≠w.heap.size+2:=by omega
 have l2:bv≠w.heap.size+2+1:=by omega
 have l3:bv<w0.heap.size:=by omega
 have l4:bv<w.heap.size+2:=by omega
 have l5:bv<w.heap.size+2+1:=by omega
 go_wp2
 obtain⟨Fact,Vw⟩:∃Fact:Nat->Nat->World->Prop,Fact=fun g cap w3=>bu w3 bv bm bo { G with tr:=G.tr++[⟨G.iC ⟨tn,ts,tp,tq,qB,qE,td⟩,true⟩] } { m with tv:=.slice (some ⟨g,0,none⟩) (n+1) cap,tb:=m.tb++[w.heap.size+2] } /\
  (∀b,Lm.F { m with tv:=.slice (some ⟨g,0,none⟩) (n+1) cap,tb:=m.tb++[w.heap.size+2] } b->m.F b\/b=w.heap.size+2\/w.heap.size+4<=b)/\au (fun b=>b=bv\/m.tv.ownBlock=some b) w1 w3:=⟨_,rfl⟩
 obtain⟨T,hT⟩:∃T:Nat->Nat->Act,T=fun g cap=>{ tmps:=#[.pointer (some ⟨bv,0,none⟩),.agg #[.int .i64 tn,.string ts,.int .i64 tp,.int .i64 tq,.int .i64 qB,.int .i64 qE,.int .i64 td],.pointer (some ⟨w.heap.size,0,none⟩),.pointer (some ⟨w.heap.size+1,0,none⟩),.pointer (some ⟨bv,0,none⟩),.pointer (some ⟨bv,0,none⟩),.pointer (some ⟨bv,2,none⟩),.slice pa n lX,.int .i64 (n:Int),.int .i64 ((n:Int)+1),.pointer (some ⟨bv,0,none⟩),.pointer (some ⟨bv,0,none⟩),.pointer (some ⟨bv,4,none⟩),.int .i64 G.day,.pointer (some ⟨w.heap.size+1,0,none⟩),.pointer (some ⟨w.heap.size+1,6,none⟩),.pointer (some ⟨bv,0,none⟩),.pointer (some ⟨bv,0,none⟩),.pointer (some ⟨bv,0,none⟩),.pointer (some ⟨bv,2,none⟩),.slice pa n lX,.agg #[.int .i64 ((n:Int)+1),.string ts,.int .i64 tp,.int .i64 tq,.int .i64 qB,.int .i64 qE,.int .i64 G.day],.agg #[.int .i64 ((n:Int)+1),.string ts,.int .i64 tp,.int .i64 tq,.int .i64 qB,.int .i64 qE,.int .i64 G.day,.bool true],.pointer (some ⟨w.heap.size+2,0,none⟩),.slice (some ⟨w.heap.size+2+1,0,none⟩) 1 1,.slice (some ⟨g,0,none⟩) (n+1) cap,.pointer (some ⟨bv,0,none⟩),.pointer (some ⟨bv,2,none⟩),undef,undef,undef,undef,undef,undef,undef],defers:=[] }:=⟨_,rfl⟩
 have U7:=ai Vw
 have HTm:=ai hT
 clear Vw hT
 refine Code.wp_mono (Q:=Exit.then (fun a w3=>∃g cap,a=T g cap/\Fact g cap w3) (fun _ _ _=>False)) ?tail ?walk
 case walk =>
  go_region_law (first|(rw[<-ae HW1];refine step_append_lies _ rfl (.tmp 20) (.tmp 24) 96 rfl 0 103 i0 (.pointer none) 1 8 Tryz.underlying96 hi0 hz0 hz1 hz2 rfl (by decide) (.slice pa n lX) n (m.tb.map dn) rfl (ae HR) ⟨w.heap.size+3,0,none⟩ 1 1 [dn (w.heap.size+2)] rfl rfl (ae EY) (ae HON) (by omega) hmx tC (by omega) (w.heap.size+4) (ae Ti) ?_;intro g cap w2 hown2 hgrow hat hlt;have KD:=ai hown2;have HG2:=ai hgrow;have HA2:=ai hat;have b2:az w2 bv (qM bm bo m G.day) 100:=(hgrow.block bv (ae DF).dA.lt (fun e=>(ae DF).Jb (.inl (by rw[ae YP];exact e.symm)))).trans (ae DF).dA;have v32:=b2.cell 2;have f32:=b2.frozen 2;simp only[qM]at v32;simp at v32;have HB2:=ai b2;have x02:w2.cell? ⟨w.heap.size,0,none⟩=some (.pointer (some ⟨bv,0,none⟩)):=(World.cell?_of_block (a:=⟨w.heap.size,0,none⟩) (hgrow.block w.heap.size (ae HX).lt (fun e=>bV (ae HR) e.symm (ae HX) (by decide) rfl))).trans ((ae HX).cell 0);clear hown2 hgrow hat b2))
  all_goals
   obtain⟨a1,a2,a3⟩:=(ae DF).Iu hn (ae HNB) (ae HNO) (ae KD) (by rw[ae YP];exact ae HG2) (by rw[ae YP];exact ae HA2) (ae Ti)
   exact⟨g,cap,by rw[ae HTm],by rw[ae U7];exact⟨a1,a2,a3⟩⟩
 case tail =>
  intro e a w3 h
  cases e <;> (try exact (h:False).elim)
  obtain⟨g,cap,ha,hf⟩:=h
  rw[ae U7]at hf
  rw[ae HTm]at ha
  obtain⟨a1,a2,a3⟩:=hf
  simp only at ha
  subst ha
  have b3:=a3.aB (ae HB) (by
   rintro (e|e)
   ·omega
   ·exact bV (ae DF).aO.jq e (ae HB) (by decide) rfl)
  have bx3:=a3.aB (ae HX) (by
   rintro (e|e)
   ·omega
   ·exact bV (ae DF).aO.jq e (ae HX) (by decide) rfl)
  clear v20 x0 t0 t1 t2 t3 t4 t5 t6
  have x0:w3.cell? ⟨w.heap.size,0,none⟩=some (.pointer (some ⟨bv,0,none⟩)):=bx3.cell 0
  have t0:w3.cell? ⟨w.heap.size+1,0,none⟩=some (.int .i64 ((n:Int)+1)):=b3.cell 0
  have t1:w3.cell? ⟨w.heap.size+1,1,none⟩=some (.string ts):=b3.cell 1
  have t2:w3.cell? ⟨w.heap.size+1,2,none⟩=some (.int .i64 tp):=b3.cell 2
  have t3:w3.cell? ⟨w.heap.size+1,3,none⟩=some (.int .i64 tq):=b3.cell 3
  have t4:w3.cell? ⟨w.heap.size+1,4,none⟩=some (.int .i64 qB):=b3.cell 4
  have t5:w3.cell? ⟨w.heap.size+1,5,none⟩=some (.int .i64 qE):=b3.cell 5
  have t6:w3.cell? ⟨w.heap.size+1,6,none⟩=some (.int .i64 G.day):=b3.cell 6
  have hT:=xC bv bm bo _ _ 1 (G.iC ⟨tn,ts,tp,tq,qB,qE,td⟩) w3 a1 hlen
  simp only[Tr.val,Lg.iC,hn]at hT
  have HT:=ai hT
  have HA1:=ai a1
  have X9:=ai a3
  have Yx:=ai a2
  clear hT a1 a3 a2
  go_wp2_with fail
  refine (ae HT).mono ?_
  rintro e w4 ⟨rfl,m4,c1,c2,c3,c4,c5⟩
  have hno:∀{b:Nat} {c:Array Value} {t:TypeId},az w3 b c t->t≠100->t≠62->az w4 b c t:=fun hb h1 h2=>c3.aB hb (by
   rintro (e|e)
   ·exact az.ne hb (ae HA1).dA h1 e
   ·exact bV (ae HA1).aO.iF e hb (fun e=>h2 e.symm) rfl)
  have bx4:=hno bx3 (by decide) (by decide)
  have y0:w4.cell? ⟨w.heap.size,0,none⟩=some (.pointer (some ⟨bv,0,none⟩)):=bx4.cell 0
  obtain⟨w5,hw5⟩:∃w5,w5=w4.alloc (.cells #[.func (.func 211) #[] #[.pointer (some ⟨w.heap.size,0,none⟩),.pointer (some ⟨w.heap.size+1,0,none⟩)]] 1):=⟨_,rfl⟩
  have k5:au aP w4 w5:=by rw[hw5];exact (au.refl aP w4).alloc _
  have b5:az w5 w4.heap.size #[.func (.func 211) #[] #[.pointer (some ⟨w.heap.size,0,none⟩),.pointer (some ⟨w.heap.size+1,0,none⟩)]] 1:=by rw[hw5];exact az.new _ _ _
  have hc1:gI w1 bv bk lo false old G.nt dQ m cl:=(ae HCu).aH (ae HK)
  have hc3:gI w3 bv bk lo false old G.nt (m.tb++[w.heap.size+2]) { m with tv:=.slice (some ⟨g,0,none⟩) (n+1) cap,tb:=m.tb++[w.heap.size+2] } cl:=(hc1.aC (ae X9) (l9.fZ (fun b hb=>by
   rcases hb with e|e
   ·subst e;exact⟨_,100,(ae DF).dA,by unfold nK;decide⟩
   ·obtain⟨cs,hcs⟩:=bF (ae DF).aO.jq e
    exact⟨cs,103,hcs,by unfold nK;decide⟩))).QR (m':={ m with tv:=.slice (some ⟨g,0,none⟩) (n+1) cap,tb:=m.tb++[w.heap.size+2] }) rfl (fun d hd hT=>absurd (hc1.qP d hd hT) Bool.false_ne_true)
  have hc4:gI w4 bv bk lo false old G.nt (m.tb++[w.heap.size+2]) m4 cl:=by
   have:=(hc3.aC c3 (l9.fZ (fun b hb=>by
    rcases hb with e|e
    ·subst e;exact⟨_,100,(ae HA1).dA,by unfold nK;decide⟩
    ·obtain⟨cs,hcs⟩:=bF (ae HA1).aO.iF e
     exact⟨cs,62,hcs,by unfold nK;decide⟩))).QR (m':=m4) c4 (fun d hd hT=>absurd (hc1.qP d hd hT) Bool.false_ne_true)
   rw[c5.1]at this
   exact this
  have b4:=hno b3 (by decide) (by decide)
  have hbk:bJ w5 bv bk lo (.iH (G.iC ⟨tn,ts,tp,tq,qB,qE,td⟩)) (.func (.func 211) #[] #[.pointer (some ⟨w.heap.size,0,none⟩),.pointer (some ⟨w.heap.size+1,0,none⟩)]):=by
   refine⟨_,_,rfl,rfl,w.heap.size,hlo,rfl,k5.aB bx4 (fun z=>z),?_⟩
   have:=k5.aB b4 (fun z=>z)
   simp only[Lg.iC,hn,Tr.cells]
   exact this
  have hN:=QE bv bm bo _ _ [.iH (G.iC ⟨tn,ts,tp,tq,qB,qE,td⟩)] [.func (.func 211) #[] #[.pointer (some ⟨w.heap.size,0,none⟩),.pointer (some ⟨w.heap.size+1,0,none⟩)]] w4.heap.size 1 1 w5 bk lo false old (m.tb++[w.heap.size+2]) cl (c1.aH k5) (hc4.aH k5) (fun x hx=>by rw[List.mem_singleton.1 hx];intro h;cases h) (fun i d c hd hc=>by
   cases i with
   | zero=>simp at hd hc;subst hd hc;exact hbk
   | succ i=>simp at hd) hna gZ hnf (by omega) rfl rfl (World.news_of_block b5) (by simp[Value.oneCell']) (fun x hx h=>by rw[List.mem_singleton.1 hx]at h;cases h)
  have qF:=ai hN
  have Wn:=ai hw5
  have Og:=ai c1
  have HC2:=ai c2
  have OD:=ai c3
  have IC:=ai k5
  clear hN hw5 c1 c2 c3 k5 b5 hno hc1 hc3 hc4 hbk b4 c4 c5 x0 t0 t1 t2 t3 t4 t5 t6
  go_wp2_with fail
  rw[<-ae Wn]
  refine (ae qF).mono ?_
  rintro e w6 ⟨rfl,m',d1,d2,d3',-,d5⟩
  have d3:=d3'.mono (fun b h=>show m4.F b from .inr (.inr (.inr h)))
  go_wp2
  go_end0
  have e4:(ae X9).size=(ae X9).size:=rfl
  refine⟨rfl,m',?_,fun b hb=>?_,?_,w.heap.size+2,.func (.func 211) #[] #[.pointer (some ⟨w.heap.size,0,none⟩),.pointer (some ⟨w.heap.size+1,0,none⟩)],ae Vg,?_⟩
  ·have e:G.jG ⟨tn,ts,tp,tq,qB,qE,td⟩=(Lg.told { G with tr:=G.tr++[⟨G.iC ⟨tn,ts,tp,tq,qB,qE,td⟩,true⟩] } 1 ⟨(n:Int)+1,ts,tp,tq,qB,qE,G.day⟩).aV [.iH (G.iC ⟨tn,ts,tp,tq,qB,qE,td⟩)]:=by
    simp only[Lg.jG,Lg.aC,Lg.iC,hn]
   rw[e]
   simp only[Lg.iC,hn]at d1 ⊢
   exact d1
  ·have s3:=(ae X9).size
   have s1:=ae Ti
   have s4:=(ae OD).size
   have s5:=(ae IC).size
   rcases d2 b hb with h|h
   ·rcases ae HC2 b h with h|h
    ·rcases ae Yx b h with h|h|h
     ·exact .inl h
     ·right;omega
     ·right;omega
    ·right;omega
   ·right;omega
  ·have s1:=ae Ti
   have s3:=(ae X9).size
   refine (((ae HK).bI.trans ((ae X9).mono (fun b h=>?_))).from ((ae OD).mono (fun b h=>?_))).from (((ae IC).bI.trans d3).mono (fun b h=>?_))
   ·rcases h with h|h
    ·exact .inl h
    ·exact .inr (.inl h)
   ·rcases h with h|h
    ·exact .inl (.inl h)
    ·exact .inl (.inr (.inr (.inl (.inl h))))
   ·rcases ae HC2 b h with h|h
    ·rcases ae Yx b h with h|h|h
     ·exact .inl (.inr h)
     ·right;omega
     ·right;omega
    ·right;omega
  ·rw[<-(ae HCu).tb]
   exact d5
end Go.Proofs.YtigaphnafnpfnaaGreatDoor
