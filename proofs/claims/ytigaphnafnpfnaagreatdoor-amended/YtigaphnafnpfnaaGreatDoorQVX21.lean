import Derived.Test.YtigaphnafnpfnaaGreatDoorQVY5
set_option linter.unusedVariables false
set_option linter.unusedSimpArgs false
set_option maxHeartbeats 8000000
set_option maxRecDepth 100000
namespace Go.Proofs.YtigaphnafnpfnaaGreatDoor
open Go.RowKit
attribute [local go_sem ↓] Go.wp_at_zero Go.wp_at_succ
theorem Ae{P:Program}(a b:ByteArray)(h:a.size+b.size≤100000000000)(W:World):(Op.stringOp .add a b).run P W=.ok (.string (a++b)) W:=run_string_add_sum W _ _ (by omega)
theorem Rc.Ag(r:Rc):r.cells.length=9:=rfl
theorem bH.YE{w:World}{base sb c:Nat}{a:Option Addr}{S:RS}{m:SM}(h:bH w base sb S m)(hv:m.ov=.slice a S.told.length c){i:Nat}{r:Rc}(hi:S.told[i]?=some r):∃g,a=some ⟨g,0,none⟩∧g<w.heap.size∧(∀j u,(r.cells)[j]?=some u→w.cell? ⟨g,i * 9+j,none⟩=some u):=by
 have hi':i<S.told.length:=(List.getElem?_eq_some_iff.1 hi).1
 have r0:=h.jS
 rw[hv]at r0
 obtain⟨g,rfl,hg⟩:=fH r0 (by omega)
 refine⟨g,rfl,(r0.lt g rfl).2,fun j u hu=>?_⟩
 have hj:j<9:=by have:=(List.getElem?_eq_some_iff.1 hu).1;rw[Rc.Ag]at this;exact this
 rw[r0.cellAt _ (by omega)]
 exact (og Rc.cells 9 Rc.Ag S.told i j _ hi hj).trans hu
theorem Dn.ext{w w3 w4:World}{base rb:Nat}{A:List aP}{R:List Rc}{L:ByteArray}{av rv:Value}{S':RS}{m:SM}{act:Array Value}(h:Dn w base rb A R L av rv S' m act w3)(k:ag ak w3 w4):Dn w base rb A R L av rv S' m act w4 :=
 ⟨h.rv.aj k,h.st.aj k,k.blk h.act (fun x=>x),k.blk h.z (fun x=>x),h.k.trans k⟩
theorem Dn.keep{w w4 W:World}{base rb:Nat}{A:List aP}{R:List Rc}{L:ByteArray}{av rv:Value}{S':RS}{m:SM}{act:Array Value}(h0:RV w base rb A R L av rv)(h:Dn w base rb A R L av rv S' m act w4)(k:ag (RF rb av rv) w4 W):bH W (w.heap.size+2) (w.heap.size+2) S' m∧ai W w.heap.size act 169∧ai W (w.heap.size+1) aB 87:=by
 have nb:∀b,w.heap.size≤b→¬RF rb av rv b:=fun b hb hr=>by have:=(h0.lt hr).2;omega
 exact⟨h.st.kept k (fun b hb _=>nb b (by omega)),k.blk h.act (nb _ (Nat.le_refl _)),k.blk h.z (nb _ (by omega))⟩
theorem UZ(base rb:Nat)(A:List aP)(R:List Rc)(L ln:ByteArray)(av rv:Value)(S S':RS)(x:aP)(ra MR rc rd re:Int)(w:World)(h:RV w base rb A R L av rv)(hh:Hist A S)(hn:A.length<1000000000)(hd:iD S x S' (bu ra MR rc rd re) 0)
 (hl:∀W,Calls Tryz.prog 139 #[x.val] W fun e w'=>e=.returned (.string ln)∧ag ak W w') (hL:L.size≤10000000000) (hln:ln.size≤1000000) (hR:R.length+S'.told.length<1000000000) :
 Calls Tryz.prog 99 #[.pointer (some ⟨rb,0,none⟩),x.val] w fun e w'=>e=.returned (.tuple #[bu ra MR rc rd re,.int .i64 0])∧zV base rb (A++[x]) (recs R S'.told) (L++ln++⟨#[10]⟩) av rv w w':=by
 obtain⟨kind,s,⟨id,owner,sym,side,ax,price,qty⟩,a,b,c,again⟩:=x
 obtain⟨W1,hW1⟩:∃W1,W1=((w.alloc (.cells #[.int .u8 kind,.string s,.int .i64 id,.int .i64 owner,.string sym,.int .i64 side,.int .i64 ax,.int .i64 price,.int .i64 qty,.int .i64 a,.int .i64 b,.int .i64 c,.bool again] 169)).alloc (.cells aB 87)):=⟨_,rfl⟩
 have k1:ag ak w W1:=by rw[hW1];exact ((ag.refl ak w).alloc _).alloc _
 have hs1:W1.heap.size=w.heap.size+2:=by rw[hW1];simp
 have b0:ai W1 w.heap.size #[.int .u8 kind,.string s,.int .i64 id,.int .i64 owner,.string sym,.int .i64 side,.int .i64 ax,.int .i64 price,.int .i64 qty,.int .i64 a,.int .i64 b,.int .i64 c,.bool again] 169:=by rw[hW1];exact (ai.new w _ _).alloc _
 have HST:=hide (gX base rb A R L av rv S W1 (h.aj k1) hh (by omega))
 rw[hs1]at HST
 have HD:=hide hd
 have HB0:=hide b0
 have kV:=hide k1
 have HW1:=hide hW1
 have Vj:=hide h
 have lrb:=h.blk.lt
 have hge:=h.ge
 have VY:=hide hl
 obtain⟨X,hX⟩:∃X:aP,X=⟨kind,s,⟨id,owner,sym,side,ax,price,qty⟩,a,b,c,again⟩:=⟨_,rfl⟩
 have HX:=hide hX
 rw[←hX]
 rw[←hX]at HD
 simp only[aP.val,aP.cells]at VY
 have hxv:X.val=.agg #[.int .u8 kind,.string s,.int .i64 id,.int .i64 owner,.string sym,.int .i64 side,.int .i64 ax,.int .i64 price,.int .i64 qty,.int .i64 a,.int .i64 b,.int .i64 c,.bool again]:=by rw[hX];rfl
 rw[hxv]
 have HXV:=hide hxv
 have c1:=Ae (P:=Tryz.prog) L ln (by omega)
 have c2:=Ae (P:=Tryz.prog) (L++ln) (⟨#[10]⟩:ByteArray) (by rw[ByteArray.size_append];show L.size+ln.size+1≤_;omega)
 obtain⟨n,hn'⟩:∃n,A.length=n:=⟨_,rfl⟩
 obtain⟨i0,z0',hi0,hz0,hz1,hz2,hz3⟩:=zy
 have hmx:n+1≤maxLen:=by unfold maxLen;omega
 have ik:(n+1) * 120≤140737488355328:=by omega
 have HN:=hide hn'
 simp only[aB]at HW1
 clear hd hh h k1 hs1 b0 hW1 hl hX hxv hn'
 go_enter Tryz.func99,Tryz.ntmps99
 go_wp2_with fail
 rw[←ae HW1]
 refine (ae HST).mono ?_
 rintro e w2 ⟨rfl,⟨m,st⟩,k2⟩
 have b2:=k2.blk (ae HB0) (fun x=>x)
 have x0:w2.cell? ⟨w.heap.size,0,none⟩=some (.int .u8 kind):=b2.cell 0
 have x1:w2.cell? ⟨w.heap.size,1,none⟩=some (.string s):=b2.cell 1
 have x2:w2.cell? ⟨w.heap.size,2,none⟩=some (.int .i64 id):=b2.cell 2
 have x3:w2.cell? ⟨w.heap.size,3,none⟩=some (.int .i64 owner):=b2.cell 3
 have x4:w2.cell? ⟨w.heap.size,4,none⟩=some (.string sym):=b2.cell 4
 have x5:w2.cell? ⟨w.heap.size,5,none⟩=some (.int .i64 side):=b2.cell 5
 have x6:w2.cell? ⟨w.heap.size,6,none⟩=some (.int .i64 ax):=b2.cell 6
 have x7:w2.cell? ⟨w.heap.size,7,none⟩=some (.int .i64 price):=b2.cell 7
 have x8:w2.cell? ⟨w.heap.size,8,none⟩=some (.int .i64 qty):=b2.cell 8
 have x9:w2.cell? ⟨w.heap.size,9,none⟩=some (.int .i64 a):=b2.cell 9
 have x10:w2.cell? ⟨w.heap.size,10,none⟩=some (.int .i64 b):=b2.cell 10
 have x11:w2.cell? ⟨w.heap.size,11,none⟩=some (.int .i64 c):=b2.cell 11
 have x12:w2.cell? ⟨w.heap.size,12,none⟩=some (.bool again):=b2.cell 12
 have HD2:=hide (ae HD _ _ m w2 st)
 rw[ae HW1]at k2
 have jC:=hide k2
 have J9:=hide st
 rw[ae HXV]at HD2
 simp only[bu]at HD2
 clear HD st k2 b2
 go_wp2_with fail
 refine (ae HD2).mono ?_
 rintro e w3 ⟨rfl,hn3⟩
 obtain⟨m3,d3⟩:=Dn.of (ae Vj) (ae jC) (ae J9) hn3
 obtain⟨w4,hw4⟩:∃w4,w4=w3.alloc (.cells #[.int .i64 ra,.int .i64 MR,.int .i64 rc,.int .i64 rd,.int .i64 re] 87):=⟨_,rfl⟩
 have k4:ag ak w3 w4:=by rw[hw4];exact (ag.refl ak w3).alloc _
 have bT:ai w4 w3.heap.size #[.int .i64 ra,.int .i64 MR,.int .i64 rc,.int .i64 rd,.int .i64 re] 87:=by rw[hw4];exact ai.new _ _ _
 have d4:=d3.ext k4
 have lz:=d3.z.lt
 obtain⟨T,hT⟩:∃T,w3.heap.size=T:=⟨_,rfl⟩
 rw[hT]at bT lz
 have YP:Hid (∀W,ag (RF rb av rv) w4 W→(bH W (w.heap.size+2) (w.heap.size+2) S' m3∧ai W w.heap.size #[.int .u8 kind,.string s,.int .i64 id,.int .i64 owner,.string sym,.int .i64 side,.int .i64 ax,.int .i64 price,.int .i64 qty,.int .i64 a,.int .i64 b,.int .i64 c,.bool again] 169∧ai W (w.heap.size+1) aB 87)∧ai W T #[.int .i64 ra,.int .i64 MR,.int .i64 rc,.int .i64 rd,.int .i64 re] 87):=fun W k =>
  ⟨Dn.keep (ae Vj) d4 k,k.blk bT (fun hr=>by have:=((ae Vj).lt hr).2;omega)⟩
 obtain⟨aa,ac,hav⟩:=az d4.rv.xm
 rw[ae HN]at hav
 have u0:w4.cell? ⟨rb,0,none⟩=some (.slice aa n ac):=by rw[←hav];exact d4.rv.blk.cell 0
 obtain⟨w5,hw5⟩:∃w5,w5=(w4.alloc (.cells #[.int .u8 kind,.string s,.int .i64 id,.int .i64 owner,.string sym,.int .i64 side,.int .i64 ax,.int .i64 price,.int .i64 qty,.int .i64 a,.int .i64 b,.int .i64 c,.bool again] 169)).drew:=⟨_,rfl⟩
 have k5:ag ak w4 w5:=by rw[hw5];exact ((ag.refl ak w4).alloc _).drew
 have hs5:w5.heap.size=w4.heap.size+1:=by rw[hw5];simp
 have r5:w5.ownsRow base 169 13 (.slice aa n ac) n (EG A):=by
  have r:=(d4.rv.aj k5).xm
  rw[hav,ae HN]at r
  exact r
 have hnews:∀j u,(vY X)[j]?=some u→w5.cell? (Addr.add ⟨w4.heap.size,0,none⟩ j)=some u:=by
  intro j u hj
  have:=Ya w4 X j u hj
  rw[ae HX]at this
  rw[hw5]
  exact this
 have hone:∀u∈vY X,u.oneCell'=true:=by simp[vY,Value.oneCell']
 have y0:w4.cell? ⟨w.heap.size,0,none⟩=some (.int .u8 kind):=d4.act.cell 0
 have y1:w4.cell? ⟨w.heap.size,1,none⟩=some (.string s):=d4.act.cell 1
 have y2:w4.cell? ⟨w.heap.size,2,none⟩=some (.int .i64 id):=d4.act.cell 2
 have y3:w4.cell? ⟨w.heap.size,3,none⟩=some (.int .i64 owner):=d4.act.cell 3
 have y4:w4.cell? ⟨w.heap.size,4,none⟩=some (.string sym):=d4.act.cell 4
 have y5:w4.cell? ⟨w.heap.size,5,none⟩=some (.int .i64 side):=d4.act.cell 5
 have y6:w4.cell? ⟨w.heap.size,6,none⟩=some (.int .i64 ax):=d4.act.cell 6
 have y7:w4.cell? ⟨w.heap.size,7,none⟩=some (.int .i64 price):=d4.act.cell 7
 have y8:w4.cell? ⟨w.heap.size,8,none⟩=some (.int .i64 qty):=d4.act.cell 8
 have y9:w4.cell? ⟨w.heap.size,9,none⟩=some (.int .i64 a):=d4.act.cell 9
 have VG:w4.cell? ⟨w.heap.size,10,none⟩=some (.int .i64 b):=d4.act.cell 10
 have Zv:w4.cell? ⟨w.heap.size,11,none⟩=some (.int .i64 c):=d4.act.cell 11
 have Zw:w4.cell? ⟨w.heap.size,12,none⟩=some (.bool again):=d4.act.cell 12
 have aaB:rb<w4.heap.size:=d4.rv.blk.lt
 have lH4:w.heap.size<w4.heap.size:=d4.act.lt
 have mQ:=hide r5
 have YW:=hide hs5
 have zi:=hide hnews
 have oN:=hide hone
 have MH:=hide hav
 have J7:=hide (d4.rv.aj k5)
 have J4:=hide k5
 have Jr:=hide hw4
 have ML:=hide hw5
 have HD4:=hide d4
 have HT:=hide hT
 clear hn3 d3 d4 x0 x1 x2 x3 x4 x5 x6 x7 x8 x9 x10 x11 x12 HD2 HST k4 bT hav hw4 hw5 k5 r5 hs5 hnews hone hT
 go_upto_region 5 with fail
 rw[←ae Jr]
 go_cut [] from 22 (fun wc=>zV base rb (A++[X]) R L av rv w4 wc)
 case first JJ KK hJ hK =>
  go_region_law (first | (rw[←ae ML];refine step_append_lies _ rfl (.tmp 26) (.tmp 28) 127 rfl base 169 i0 z0' 13 120 Tryz.underlying127 hi0 hz0 hz1 hz2 hz3 (by decide) (.slice aa n ac) n (EG A) rfl (ae mQ) ⟨w4.heap.size,0,none⟩ 1 1 (vY X) rfl rfl (ae zi) (ae oN) (by omega) hmx ik (by have:=ae YW;omega) (w4.heap.size+1) (ae YW) ?_;intro g6 cap6 w6 hown2 hgrow hat hlt;have vk:=hide hown2;have HG2:=hide hgrow;have HA2:=hide hat;have b2:ai w6 rb _ 129:=(hgrow.block rb (ae J7).blk.lt (fun e=>by obtain⟨cs,hc⟩:=ay (ae J7).xm (b:=rb) (by rw[ae MH];exact e.symm);exact ai.ne hc (ae J7).blk (by decide) rfl)).trans (ae J7).blk;have v52:=b2.cell 0;have f52:=b2.frozen 0;simp at v52;clear hown2 hgrow hat b2))
  all_goals
   refine hK _ _ (Met.intro (hJ _ _ ?_))
   repeat apply Exists.intro
   refine⟨?rel,rfl⟩
   case rel =>
    exact zV.pre (ae J4) ((ae J7).Ns (x:=X) (ae HN) (ae vk) (by rw[ae MH];exact ae HG2) (by rw[ae MH];exact ae HA2) (ae YW))
 case rest =>
  clear u0 y0 y1 y2 y3 y4 y5 y6 y7 y8 y9 VG Zv Zw aaB lH4 mQ YW zi oN MH J7 J4 Jr ML
  have YN:=hide hcut
  obtain⟨a1,r1,v1,q1,kc⟩:=hcut
  obtain⟨⟨U4,Eg,Hm⟩,QB⟩:=ae YP wc kc
  have y0:wc.cell? ⟨w.heap.size,0,none⟩=some (.int .u8 kind):=Eg.cell 0
  have y1:wc.cell? ⟨w.heap.size,1,none⟩=some (.string s):=Eg.cell 1
  have y2:wc.cell? ⟨w.heap.size,2,none⟩=some (.int .i64 id):=Eg.cell 2
  have y3:wc.cell? ⟨w.heap.size,3,none⟩=some (.int .i64 owner):=Eg.cell 3
  have y4:wc.cell? ⟨w.heap.size,4,none⟩=some (.string sym):=Eg.cell 4
  have y5:wc.cell? ⟨w.heap.size,5,none⟩=some (.int .i64 side):=Eg.cell 5
  have y6:wc.cell? ⟨w.heap.size,6,none⟩=some (.int .i64 ax):=Eg.cell 6
  have y7:wc.cell? ⟨w.heap.size,7,none⟩=some (.int .i64 price):=Eg.cell 7
  have y8:wc.cell? ⟨w.heap.size,8,none⟩=some (.int .i64 qty):=Eg.cell 8
  have y9:wc.cell? ⟨w.heap.size,9,none⟩=some (.int .i64 a):=Eg.cell 9
  have VG:wc.cell? ⟨w.heap.size,10,none⟩=some (.int .i64 b):=Eg.cell 10
  have Zv:wc.cell? ⟨w.heap.size,11,none⟩=some (.int .i64 c):=Eg.cell 11
  have Zw:wc.cell? ⟨w.heap.size,12,none⟩=some (.bool again):=Eg.cell 12
  have l2:wc.cell? ⟨rb,2,none⟩=some (.string L):=v1.blk.cell 2
  have f2:=v1.blk.frozen 2
  have aaC:=v1.blk.lt
  have TF:=hide v1
  clear v1 q1 kc U4 Eg Hm QB
  go_upto_region 6 with fail
  go_cut [] from 32 (fun wd=>zV base rb (A++[X]) R (L++ln++⟨#[10]⟩) av rv w4 wd)
  case first JJ KK hJ hK =>
   go_region_with (first | (go_at_call 139;refine (ae VY _).mono ?_;rintro e w7 ⟨rfl,k7⟩;have v7:=((ae TF).aj ((ag.refl ak wc).drew)).aj k7;have l27:w7.cell? ⟨rb,2,none⟩=some (.string L):=v7.blk.cell 2;have f27:=v7.blk.frozen 2;have l7:=v7.blk.lt;have HV7:=hide v7;have VV:=hide k7;clear k7 v7))
   all_goals
    refine hK _ _ (Met.intro (hJ _ _ ?_))
    repeat apply Exists.intro
    refine⟨?rel,rfl⟩
    case rel =>
     exact ((ae YN).ext (((ag.refl ak wc).drew).trans (ae VV))).trans (fun a' b' hv=>hv.X4 _)
  case rest =>
   clear TF YN y0 y1 y2 y3 y4 y5 y6 y7 y8 y9 VG Zv Zw l2 f2 aaC VY
   obtain⟨N,Vp⟩:∃N,S'.told.length=N:=⟨_,rfl⟩
   have Z4:=hide Vp
   have hNb:N<1000000000:=by omega
   have YN:=hide hcut
   clear hcut Vp c1 c2
   go_wp2
   go_loopg [9] N (fun k iv wr=>∃i:Nat,iv=.int .i64 (i:Int)∧i≤N∧k=N-i∧zV base rb (A++[X]) (recs R (S'.told.take i)) (L++ln++⟨#[10]⟩) av rv w4 wr)
   case atStart=>exact⟨0,rfl,Nat.zero_le _,rfl,by rw[List.take_zero];exact ae YN⟩
   case round =>
    obtain⟨i,rfl,hi,hgk,JE⟩:=hrel
    have HRN:=hide JE
    obtain⟨a1,r1,v1,q1,kc⟩:=JE
    obtain⟨⟨U4,Eg,Hm⟩,QB⟩:=ae YP wr kc
    obtain⟨oa,oc,hov⟩:=az U4.jS
    have o5:wr.cell? ⟨w.heap.size+2,5,none⟩=some (.slice oa N oc):=by rw[←ae Z4,←hov];exact U4.blk.cell 5
    by_cases hlt:i<N
    ·obtain⟨r,hr⟩:∃r,S'.told[i]?=some r:=⟨_,List.getElem?_eq_getElem (by rw[ae Z4];exact hlt)⟩
     obtain⟨g,rfl,lg,hc⟩:=U4.YE hov hr
     have x0:wr.cell? ⟨g,i * 9,none⟩=some (.int .i64 r.num):=hc 0 _ rfl
     have x1:wr.cell? ⟨g,i * 9+1,none⟩=some (.int .i64 r.kind):=hc 1 _ rfl
     have x2:wr.cell? ⟨g,i * 9+2,none⟩=some (.int .i64 r.t.num):=hc 2 _ rfl
     have x3:wr.cell? ⟨g,i * 9+3,none⟩=some (.string r.t.sym):=hc 3 _ rfl
     have x4:wr.cell? ⟨g,i * 9+4,none⟩=some (.int .i64 r.t.price):=hc 4 _ rfl
     have x5:wr.cell? ⟨g,i * 9+5,none⟩=some (.int .i64 r.t.qty):=hc 5 _ rfl
     have x6:wr.cell? ⟨g,i * 9+6,none⟩=some (.int .i64 r.t.jh):=hc 6 _ rfl
     have x7:wr.cell? ⟨g,i * 9+7,none⟩=some (.int .i64 r.t.sell):=hc 7 _ rfl
     have x8:wr.cell? ⟨g,i * 9+8,none⟩=some (.int .i64 r.t.day):=hc 8 _ rfl
     have HRC:=hide (Gj base rb _ _ _ a1 r1 r wr v1 (by rw[F8,List.length_take];omega))
     simp only[Rc.val]at HRC
     have Wi:=hide q1
     have HKC:=hide kc
     have HR:=hide hr
     clear v1 q1 kc U4 Eg Hm QB hov hc hr
     go_wp2_with fail
     refine (ae HRC).mono ?_
     rintro e w8 ⟨rfl,hn8⟩
     have HN8:=hide hn8
     clear hn8 HRC
     go_wp2
     go_roundg (N-(i+1))
     case measure=>omega
     case rel =>
      refine⟨i+1,by push_cast;rfl,by omega,rfl,?_⟩
      rw[List.take_add_one,ae HR]
      simp only[Option.toList_some]
      rw[uO]
      obtain⟨a2,r2,v2,q2,k2⟩:=ae HN8
      refine⟨a2,r2,v2,fun b hb=>?_,(ae HKC).from (k2.mono (ae Wi))⟩
      rcases q2 b hb with x | x
      ·exact ae Wi b x
      ·exact .inr (Nat.le_trans (ae HKC).size x)
    ·obtain rfl:i=N:=by omega
     have t0:wr.cell? ⟨T,0,none⟩=some (.int .i64 ra):=QB.cell 0
     have t1:wr.cell? ⟨T,1,none⟩=some (.int .i64 MR):=QB.cell 1
     have t2:wr.cell? ⟨T,2,none⟩=some (.int .i64 rc):=QB.cell 2
     have t3:wr.cell? ⟨T,3,none⟩=some (.int .i64 rd):=QB.cell 3
     have t4:wr.cell? ⟨T,4,none⟩=some (.int .i64 re):=QB.cell 4
     have z0:wr.cell? ⟨w.heap.size+1,0,none⟩=some (.int .i64 0):=Hm.cell 0
     have z1:wr.cell? ⟨w.heap.size+1,1,none⟩=some (.int .i64 0):=Hm.cell 1
     have z2:wr.cell? ⟨w.heap.size+1,2,none⟩=some (.int .i64 0):=Hm.cell 2
     have z3:wr.cell? ⟨w.heap.size+1,3,none⟩=some (.int .i64 0):=Hm.cell 3
     have z4:wr.cell? ⟨w.heap.size+1,4,none⟩=some (.int .i64 0):=Hm.cell 4
     have fz0:=Hm.frozen 0
     have BV:=Hm.frozen 1
     have BX:=Hm.frozen 2
     have fz3:=Hm.frozen 3
     have BZ:=Hm.frozen 4
     have GV:=hide Hm
     have HTT:=ae HT
     clear v1 q1 kc U4 Eg Hm QB hov
     rw[←HTT]at t0 t1 t2 t3 t4
     clear HTT
     go_wp2
     refine bodyPost_ret (Td _ (w.heap.size+1) _ ra MR rc rd re 0 rfl rfl ?_) rfl ⟨rfl,?_⟩
     ·exact qj (ae GV) _ _ _ _ _
     ·obtain⟨a1,r1,v1,q1,kc⟩:=ae HRN
      rw[←ae Z4,List.take_length]at v1
      have kz:ag (fun b=>b=w.heap.size+1) wr (((((wr.setCell ⟨w.heap.size+1,0,none⟩ (.int .i64 ra)).setCell ⟨w.heap.size+1,1,none⟩ (.int .i64 MR)).setCell ⟨w.heap.size+1,2,none⟩ (.int .i64 rc)).setCell ⟨w.heap.size+1,3,none⟩ (.int .i64 rd)).setCell ⟨w.heap.size+1,4,none⟩ (.int .i64 re)):=mX _ _ _ _ _
      have k4:ag ak w w4:=(ae HD4).k
      have nz:∀b,RF rb a1 r1 b→b≠w.heap.size+1:=fun b hb e=>by
       rcases q1 b hb with x | x
       ·have:=((ae Vj).lt x).2;omega
       ·have:=(ae HD4).z.lt;omega
      refine⟨a1,r1,v1.kept kz nz,fun b hb=>(q1 b hb).imp_right (fun x=>Nat.le_trans k4.size x),(k4.aC.trans kc).from (kz.mono (fun b hb=>.inr (by omega)))⟩
end Go.Proofs.YtigaphnafnpfnaaGreatDoor
