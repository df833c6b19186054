import Derived.Test.YtigaphnafnpfnaaGreatDoorQVF1
import Derived.Deep.CutRange
set_option linter.unusedVariables false
set_option linter.unusedSimpArgs false
set_option maxHeartbeats 8000000
set_option maxRecDepth 100000
namespace Go.Proofs.YtigaphnafnpfnaaGreatDoor
open Go.RowKit
attribute [local go_sem ↓] Go.wp_at_zero Go.wp_at_succ
theorem fP.pre{base sb:Nat}{S':RS}{m:SM}{w0 w w':World}(k:ag ak w0 w)(h:fP base sb S' m w w'):fP base sb S' m w0 w':=by
 obtain⟨m',p,q,kk⟩:=h
 exact⟨m',p,fun b hb=>(q b hb).imp_right (fun x=>Nat.le_trans k.size x),k.aC.trans kk⟩
theorem fP.PV{base sb:Nat}{S':RS}{m m6:SM}{w w' w'':World}(h2:∀b,SF sb m6 b→SF sb m b∨w.heap.size≤b)(h3:ag (SF sb m) w w')(k:fP base sb S' m6 w' w''):fP base sb S' m w w'':=by
 obtain⟨m'',k1,k2,k3⟩:=k
 refine⟨m'',k1,fun b hb=>?_,h3.from (k3.mono (fun b hb=>h2 b hb))⟩
 rcases k2 b hb with hb | hb
 ·exact h2 b hb
 ·exact .inr (Nat.le_trans h3.size hb)
theorem bH.al{w:World}{base sb:Nat}{S:RS}{m:SM}(h:bH w base sb S m)(o:Obj):bH (w.alloc o) base sb S m:=h.aj ((ag.refl ak w).alloc o)
theorem F7(base sb f:Nat)(S:RS)(m:SM)(x:aP)(c':RC)(w:World)(h:bH w base sb S m)(hx:x.kind=101)(hlen:S.l.length<1000)(hsy:S.sy.length≤1000)(hop:∀k,k<S.l.length→0≤(ah S.l k).opn∧(ah S.l k).opn≤1000000000000000)(he:lS S x.o=0)
 (hE:Ends S.l.length f ⟨S.fresh.add x.o,x.o.qty,0,0,0⟩ c') (ht:S.t.length+f<1000000000) (hf:f<1000000000) :
 Calls Tryz.prog 138 #[.pointer (some ⟨sb,0,none⟩),x.val] w fun e w'=>e=.returned (.tuple #[F5 S.l.length c',.int .i64 0])∧fP base sb (nN S.l.length c') m w w':=by
 have uj:=h.blk.lt
 have hge:=h.ge
 have v5:w.cell? ⟨sb,5,none⟩=some m.ov:=h.blk.cell 5
 have f5:=h.blk.frozen 5
 have sz:sb≠w.heap.size:=by omega
 have sr:sb≠w.heap.size+1:=by omega
 have sz':=sz.symm
 have MV:=sr.symm
 have tH:sb<w.heap.size+1:=by omega
 have HO:Hid (∀W m',bH W base sb S.fresh m'→Calls Tryz.prog 167 #[.pointer (some ⟨sb,0,none⟩),x.o.val] W fun e w'=>e=.returned (.int .i64 0)∧ag ak W w'):=fun W m' hW=>by
  have:=rD base sb S.fresh m' x.o W hW (by show S.l.length≤1000;omega) hsy hop
  rw[show lS S.fresh x.o=0 from he]at this
  exact this
 obtain⟨N,hN⟩:∃N,S.l.length=N:=⟨_,rfl⟩
 have hCO:∀W m',bH W base sb (S.fresh.add x.o) m'→Calls Tryz.prog 168 #[.pointer (some ⟨sb,0,none⟩),.int .i64 (N:Int),.int .i64 x.o.qty] W fun e w'=>e=.returned (F5 N c')∧fP base sb (nN N c') m' W w':=fun W m' hW=>by
  rw[hN]at hE
  exact AX base sb N f _ m' x.o.qty c' W hW (by simp only[RS.add,RS.fresh,List.length_append,List.length_cons,List.length_nil];omega) (by simp only[RS.add,RS.fresh,List.length_append,List.length_cons,List.length_nil];omega) hE ht (by show 0+f<_;omega)
 have Qh:=hide hCO
 clear hCO
 rw[hN]
 obtain⟨rf,rr,rn,ra,rk,JE⟩:=tX N c'
 rw[JE]at Qh ⊢
 simp only[bu]at Qh
 obtain⟨kind,s,⟨id,owner,sym,side,ax,price,qty⟩,a,b,c,again⟩:=x
 simp only at hx
 subst hx
 simp only[aP.val,aP.cells,Ask.val]at HO Qh ⊢
 have HS:=hide h
 obtain⟨p1,q1,b1,b0⟩:=h.starts #[.int .u8 101,.string s,.int .i64 id,.int .i64 owner,.string sym,.int .i64 side,.int .i64 ax,.int .i64 price,.int .i64 qty,.int .i64 a,.int .i64 b,.int .i64 c,.bool again]
 obtain⟨W1,hW1⟩:∃W1,W1=(((w.setCell ⟨sb,5,none⟩ (.slice none 0 0)).alloc (.cells #[.int .u8 101,.string s,.int .i64 id,.int .i64 owner,.string sym,.int .i64 side,.int .i64 ax,.int .i64 price,.int .i64 qty,.int .i64 a,.int .i64 b,.int .i64 c,.bool again] 169)).alloc (.cells aB 87)):=⟨_,rfl⟩
 rw[←hW1]at p1 q1 b1 b0
 have HC:=hide (ae HO _ _ p1)
 have H1:Hid (bH W1 base sb S.fresh m.fresh∧ag (SF sb m) w W1∧ai W1 (w.heap.size+1) aB 87∧ai W1 w.heap.size #[.int .u8 101,.string s,.int .i64 id,.int .i64 owner,.string sym,.int .i64 side,.int .i64 ax,.int .i64 price,.int .i64 qty,.int .i64 a,.int .i64 b,.int .i64 c,.bool again] 169):=⟨p1,q1,b1,b0⟩
 have HW1:=hide hW1
 have HN:=hide hN
 simp only[aB]at HW1
 clear p1 q1 b1 b0 HO hW1 h he hE hop JE hN
 obtain⟨i0,z0,hi0,hz0,hz1,hz2,hz3⟩:=zB
 have hmx:N+1≤maxLen:=by have:=ae HN;unfold maxLen;omega
 have ik:(N+1) * 112≤140737488355328:=by have:=ae HN;omega
 go_enter Tryz.func138,Tryz.ntmps138
 go_wp2_with fail
 rw[←ae HW1]
 refine (ae HC).mono ?_
 rintro e w3 ⟨rfl,k3⟩
 obtain⟨p1,q1,b1,b0⟩:=ae H1
 have p3:=p1.aj k3
 have b13:=k3.blk b1 (fun x=>x)
 have P9:=k3.blk b0 (fun x=>x)
 obtain⟨la,lc,hlv⟩:=az p3.bI
 change m.fresh.lv=.slice la S.l.length lc at hlv
 rw[ae HN]at hlv
 have u1:w3.cell? ⟨sb,1,none⟩=some (.slice la N lc):=by rw[←hlv];exact p3.blk.cell 1
 have x2:w3.cell? ⟨w.heap.size,2,none⟩=some (.int .i64 id):=P9.cell 2
 have x3:w3.cell? ⟨w.heap.size,3,none⟩=some (.int .i64 owner):=P9.cell 3
 have x4:w3.cell? ⟨w.heap.size,4,none⟩=some (.string sym):=P9.cell 4
 have x5:w3.cell? ⟨w.heap.size,5,none⟩=some (.int .i64 side):=P9.cell 5
 have x6:w3.cell? ⟨w.heap.size,6,none⟩=some (.int .i64 ax):=P9.cell 6
 have x7:w3.cell? ⟨w.heap.size,7,none⟩=some (.int .i64 price):=P9.cell 7
 have x8:w3.cell? ⟨w.heap.size,8,none⟩=some (.int .i64 qty):=P9.cell 8
 have l03:w.heap.size<w3.heap.size:=P9.lt
 have Q9:sb<w3.heap.size:=p3.blk.lt
 obtain⟨w4,hw4⟩:∃w4,w4=(w3.alloc (.cells #[.int .i64 id,.int .i64 owner,.string sym,.int .i64 side,.int .i64 ax,.int .i64 price,.int .i64 qty,.int .i64 qty,.int .i64 0,.int .i64 0,.int .i64 0,.int .i64 0,.int .i64 0] 212)).drew:=⟨_,rfl⟩
 have k4:ag ak w3 w4:=by rw[hw4];exact ((ag.refl ak w3).alloc _).drew
 have p4:=p3.aj k4
 have hs4:w4.heap.size=w3.heap.size+1:=by rw[hw4];simp
 have r4:w4.ownsRow base 212 13 (.slice la N lc) N (vM S.l):=by
  have r:=p4.bI
  change w4.ownsRow base 212 13 m.fresh.lv S.l.length (vM S.l) at r
  rw[hlv,ae HN]at r
  exact r
 have hnews:∀j u,(qJ (tK ⟨id,owner,sym,side,ax,price,qty⟩))[j]?=some u→w4.cell? (Addr.add ⟨w3.heap.size,0,none⟩ j)=some u:=by
  intro j u hj
  have:=UQ w3 (tK ⟨id,owner,sym,side,ax,price,qty⟩) j u hj
  rw[hw4]
  exact this
 have hone:∀u∈qJ (tK ⟨id,owner,sym,side,ax,price,qty⟩),u.oneCell'=true:=by simp[qJ,Value.oneCell']
 have Jr:=hide hw4
 have H4:=hide p4
 have HR4:=hide r4
 have zi:=hide hnews
 have oN:=hide hone
 have MK:=hide hs4
 have zU:=hide hlv
 have HB4:=hide (k4.blk b13 (fun x=>x))
 have Qg:=hide (k4.blk P9 (fun x=>x))
 have Vg:=hide ((q1.trans k3.aC).trans k4.aC)
 clear hw4 p4 r4 hnews hone hs4 hlv k4 p1 q1 b1 b0 p3 b13 P9 k3
 go_upto_region 18 with fail
 go_cut [] from 64 (fun wc=>∃m6,bH wc base sb (S.fresh.add ⟨id,owner,sym,side,ax,price,qty⟩) m6∧(∀b,SF sb m6 b→SF sb m b∨w.heap.size≤b)∧ag (SF sb m) w wc∧ai wc (w.heap.size+1) aB 87∧ai wc w.heap.size #[.int .u8 101,.string s,.int .i64 id,.int .i64 owner,.string sym,.int .i64 side,.int .i64 ax,.int .i64 price,.int .i64 qty,.int .i64 a,.int .i64 b,.int .i64 c,.bool again] 169)
 case first JJ KK hJ hK =>
  go_region_law (first | (rw[←ae Jr];refine step_append_lies _ rfl (.tmp 68) (.tmp 75) 204 rfl base 212 i0 z0 13 112 Tryz.underlying204 hi0 hz0 hz1 hz2 hz3 (by decide) (.slice la N lc) N (vM S.l) rfl (ae HR4) ⟨w3.heap.size,0,none⟩ 1 1 (qJ (tK ⟨id,owner,sym,side,ax,price,qty⟩)) rfl rfl (ae zi) (ae oN) (by omega) hmx ik (by have:=ae MK;omega) (w3.heap.size+1) (ae MK) ?_;intro g5 cap5 w5 hown2 hgrow hat hlt;have vk:=hide hown2;have HG2:=hide hgrow;have HA2:=hide hat;have b2:ai w5 sb _ 207:=(hgrow.block sb (ae H4).blk.lt (fun e=>by obtain⟨cs,hc⟩:=ay (ae H4).bI (b:=sb) (by rw[ae zU];exact e.symm);exact ai.ne hc (ae H4).blk (by decide) rfl)).trans (ae H4).blk;have v52:=b2.cell 1;have f52:=b2.frozen 1;simp at v52;have bb0:ai w5 w.heap.size _ 169:=(hgrow.block w.heap.size (ae Qg).lt (fun e=>by obtain⟨cs,hc⟩:=ay (ae H4).bI (b:=w.heap.size) (by rw[ae zU];exact e.symm);exact ai.ne hc (ae Qg) (by decide) rfl)).trans (ae Qg);have bb1:ai w5 (w.heap.size+1) _ 87:=(hgrow.block (w.heap.size+1) (ae HB4).lt (fun e=>by obtain⟨cs,hc⟩:=ay (ae H4).bI (b:=w.heap.size+1) (by rw[ae zU];exact e.symm);exact ai.ne hc (ae HB4) (by decide) rfl)).trans (ae HB4);have ZC:=hide bb0;have Tn:=hide bb1;clear hown2 hgrow hat b2 bb0 bb1))
  all_goals
   refine hK _ _ (Met.intro (hJ _ _ ?_))
   repeat apply Exists.intro
   refine⟨?rel,rfl⟩
   case rel =>
    obtain⟨m6,p6,q6,r6⟩:=(ae H4).UK (r:=tK ⟨id,owner,sym,side,ax,price,qty⟩) (ae HN) (ae vk) (by rw[ae zU];exact ae HG2) (by rw[ae zU];exact ae HA2) (ae MK)
    refine⟨m6,p6,fun b hb=>?_,(ae Vg).trans (r6.mono (ae HS).fresh.2.2),(ae Tn).other (a:=⟨sb,1,none⟩) MV _,(ae ZC).other (a:=⟨sb,1,none⟩) sz' _⟩
    rcases q6 b hb with x | x
    ·exact .inl ((ae HS).fresh.2.2 b x)
    ·exact .inr (Nat.le_trans (ae Vg).size x)
 case rest =>
  clear Jr H4 HR4 zi oN MK zU HB4 Qg Vg u1 x2 x3 x4 x5 x6 x7 x8 l03 Q9
  obtain⟨m6,p6,q6,r6,b6,b06⟩:=hcut
  obtain⟨la,lc,hlv⟩:=az p6.bI
  have hl1:(S.fresh.add ⟨id,owner,sym,side,ax,price,qty⟩).l.length=N+1:=by simp only[RS.add,RS.fresh,List.length_append,List.length_cons,List.length_nil];rw[ae HN]
  rw[hl1]at hlv
  have v1:wc.cell? ⟨sb,1,none⟩=some (.slice la (N+1) lc):=by rw[←hlv];exact p6.blk.cell 1
  have y8:wc.cell? ⟨w.heap.size,8,none⟩=some (.int .i64 qty):=b06.cell 8
  have ls6:sb<wc.heap.size:=p6.blk.lt
  have l06:w.heap.size<wc.heap.size:=b06.lt
  have l16:w.heap.size+1<wc.heap.size:=b6.lt
  have hwr:IntKind.i64.wrap (N:Int)=(N:Int):=by have:=ae HN;rw[IntKind.wrap_i64];omega
  have HC6:Hid (∀W m',bH W base sb (S.fresh.add ⟨id,owner,sym,side,ax,price,qty⟩) m'→Calls Tryz.prog 168 #[.pointer (some ⟨sb,0,none⟩),.int .i64 (IntKind.i64.wrap (N:Int)),.int .i64 qty] W fun e w'=>e=.returned (.agg #[.int .i64 rf,.int .i64 rr,.int .i64 rn,.int .i64 ra,.int .i64 rk])∧fP base sb (nN N c') m' W w'):=by rw[hwr];exact ae Qh
  clear hwr
  have TD:=hide p6
  have P8:=hide q6
  have J6:=hide r6
  have HB6:=hide b6
  have h1N:(N:Int)+1-1=(N:Int):=by omega
  clear p6 q6 r6 b6 b06 hlv
  go_upto_region 19 with fail
  go_cut [9] from 79 (fun s9 wd=>∃p,s9=.pointer (some ⟨p,0,none⟩)∧p≠w.heap.size+1∧ai wd p #[.int .i64 rf,.int .i64 rr,.int .i64 rn,.int .i64 ra,.int .i64 rk] 87∧ai wd (w.heap.size+1) aB 87∧fP base sb (nN N c') m w wd)
  case first JJ KK hJ hK =>
   go_region_with (first
    | (go_at_call 168;refine (ae HC6 _ m6 ?st).mono ?_;(case st=>repeat (first | exact ae TD | refine bH.dr ?_ | refine bH.al ?_ _));rintro e w7 ⟨rfl,Y7⟩;(try (have bt:ai w7 wc.heap.size aB 87:=Y7.xu (S:=S.fresh.add ⟨id,owner,sym,side,ax,price,qty⟩) (by repeat (first | exact ae TD | refine bH.dr ?_ | refine bH.al ?_ _)) (by first | exact ai.new wc aB 87 | exact (ai.new wc aB 87).drew) (by decide);have t0:=bt.cell 0;have t1:=bt.cell 1;have t2:=bt.cell 2;have t3:=bt.cell 3;have t4:=bt.cell 4;simp[aB]at t0 t1 t2 t3 t4;have ft0:=bt.frozen 0;have ft1:=bt.frozen 1;have ft2:=bt.frozen 2;have ft3:=bt.frozen 3;have ft4:=bt.frozen 4;have HBT:=hide bt;clear bt));have b7:ai w7 (w.heap.size+1) aB 87:=Y7.xu (S:=S.fresh.add ⟨id,owner,sym,side,ax,price,qty⟩) (by repeat (first | exact ae TD | refine bH.dr ?_ | refine bH.al ?_ _)) (by repeat (first | exact ae HB6 | refine ai.drew ?_ | refine ai.alloc ?_ _)) (by decide);have l7:=b7.lt;have Jo:=hide b7;have Vf:=hide Y7;clear Y7 b7))
   all_goals
    refine hK _ _ (Met.intro (hJ _ _ ?_))
    repeat apply Exists.intro
    refine⟨?rel,rfl⟩
    case rel =>
     first
     | (have hbt:=ae HBT
        exact⟨wc.heap.size,rfl,by omega,qj hbt _ _ _ _ _,(mX _ _ _ _ _).blk (ae Jo) (by omega),fP.PV (ae P8) (ae J6) ((fP.pre (by first | exact ((ag.refl ak wc).alloc _).drew | exact ((ag.refl ak wc).drew).alloc _) (ae Vf)).off hbt (Nat.le_refl _) (mX _ _ _ _ _))⟩)
     | exact⟨w7.heap.size,rfl,by omega,ai.new _ _ _,(ae Jo).alloc _,fP.PV (ae P8) (ae J6) ((fP.pre ((ag.refl ak wc).drew) (ae Vf)).ext ((ag.refl _ _).alloc _))⟩
  case rest =>
   clear TD P8 J6 HB6 HC6 v1 y8 ls6 l06 l16 h1N
   obtain⟨p,rfl,hp,bp,b7,hn⟩:=hcut
   have q0:wc.cell? ⟨p,0,none⟩=some (.int .i64 rf):=bp.cell 0
   have q1:wc.cell? ⟨p,1,none⟩=some (.int .i64 rr):=bp.cell 1
   have q2:wc.cell? ⟨p,2,none⟩=some (.int .i64 rn):=bp.cell 2
   have q3:wc.cell? ⟨p,3,none⟩=some (.int .i64 ra):=bp.cell 3
   have q4:wc.cell? ⟨p,4,none⟩=some (.int .i64 rk):=bp.cell 4
   have s0:wc.cell? ⟨w.heap.size+1,0,none⟩=some (.int .i64 0):=b7.cell 0
   have s1:wc.cell? ⟨w.heap.size+1,1,none⟩=some (.int .i64 0):=b7.cell 1
   have s2:wc.cell? ⟨w.heap.size+1,2,none⟩=some (.int .i64 0):=b7.cell 2
   have s3:wc.cell? ⟨w.heap.size+1,3,none⟩=some (.int .i64 0):=b7.cell 3
   have s4:wc.cell? ⟨w.heap.size+1,4,none⟩=some (.int .i64 0):=b7.cell 4
   have fs0:=b7.frozen 0
   have fs1:=b7.frozen 1
   have fs2:=b7.frozen 2
   have fs3:=b7.frozen 3
   have fs4:=b7.frozen 4
   have Jo:=hide b7
   have Vf:=hide hn
   clear bp b7 hn
   go_wp2
   refine bodyPost_ret (mM _ (w.heap.size+1) _ rf rr rn ra rk 0 rfl rfl ?_) rfl ⟨rfl,?_⟩
   ·exact qj (ae Jo) _ _ _ _ _
   ·exact (ae Vf).off (ae Jo) (by omega) (mX _ _ _ _ _)
end Go.Proofs.YtigaphnafnpfnaaGreatDoor
