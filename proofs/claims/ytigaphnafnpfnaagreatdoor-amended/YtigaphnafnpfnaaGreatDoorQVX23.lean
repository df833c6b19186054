import Derived.Test.YtigaphnafnpfnaaGreatDoorQVN3
import Derived.Deep.CutRange
set_option linter.unusedVariables false
set_option linter.unusedSimpArgs false
set_option maxHeartbeats 8000000
set_option maxRecDepth 100000
namespace Go.Proofs.YtigaphnafnpfnaaGreatDoor
open Go.RowKit
attribute [local go_sem ↓] Go.wp_at_zero Go.wp_at_succ
theorem IX(base sb:Nat)(S:RS)(m:SM)(x:aP)(w:World)(h:bH w base sb S m)(hx:x.kind=108)(hsz:x.s.size≤1000000000)(hsy:S.sy.length≤1000)(he:oJ S.sy x.s=0) :
 Calls Tryz.prog 138 #[.pointer (some ⟨sb,0,none⟩),x.val] w fun e w'=>e=.returned (.tuple #[bu 0 0 0 0 0,.int .i64 0])∧fP base sb (S.fresh.lists x.s) m w w':=by
 have uj:=h.blk.lt
 have v5:w.cell? ⟨sb,5,none⟩=some m.ov:=h.blk.cell 5
 have f5:=h.blk.frozen 5
 have sz:sb≠w.heap.size:=by omega
 have sr:sb≠w.heap.size+1:=by omega
 have sz':=sz.symm
 have MV:=sr.symm
 have tH:sb<w.heap.size+1:=by omega
 have RY:Hid (∀W,Calls Tryz.prog 166 #[.string x.s] W fun e w'=>e=.returned (.bool (nameB x.s))∧w'=W):=fun W=>Ba x.s W hsz
 have wR:Hid (∀W m',bH W base sb S.fresh m'→Calls Tryz.prog 142 #[.pointer (some ⟨sb,0,none⟩),.string x.s] W fun e w'=>e=.returned (.bool (iC S.sy x.s))∧w'=W):=fun W m' hW=>iM base sb S.fresh m' x.s W hW hsy
 obtain⟨ya,yc,hyv⟩:=az h.jH
 have hc:=rW S.sy x.s
 obtain⟨n,hn⟩:∃n,S.sy.length=n:=⟨_,rfl⟩
 rw[hn]at hyv hc hsy
 have v0:w.cell? ⟨sb,0,none⟩=some (.slice ya n yc):=by rw[←hyv];exact h.blk.cell 0
 obtain⟨E,hE⟩:∃E,oJ S.sy x.s=E:=⟨_,rfl⟩
 rw[hE]at he hc
 obtain⟨B,hB⟩:∃B,nameB x.s=B:=⟨_,rfl⟩
 obtain⟨C,hC⟩:∃C,iC S.sy x.s=C:=⟨_,rfl⟩
 rw[hB]at hc RY
 rw[hC]at hc wR
 obtain⟨kind,s,⟨id,owner,sym,side,ax,price,qty⟩,a,b,c,again⟩:=x
 simp only at hx
 subst hx
 simp only[aP.val,aP.cells,Ask.val]at RY wR ⊢
 have HS:=hide h
 obtain⟨p1,q1,b1,b0⟩:=h.starts #[.int .u8 108,.string s,.int .i64 id,.int .i64 owner,.string sym,.int .i64 side,.int .i64 ax,.int .i64 price,.int .i64 qty,.int .i64 a,.int .i64 b,.int .i64 c,.bool again]
 obtain⟨W1,hW1⟩:∃W1,W1=(((w.setCell ⟨sb,5,none⟩ (.slice none 0 0)).alloc (.cells #[.int .u8 108,.string s,.int .i64 id,.int .i64 owner,.string sym,.int .i64 side,.int .i64 ax,.int .i64 price,.int .i64 qty,.int .i64 a,.int .i64 b,.int .i64 c,.bool again] 169)).alloc (.cells aB 87)):=⟨_,rfl⟩
 rw[←hW1]at p1 q1 b1 b0
 have HC:=hide (ae wR _ _ p1)
 have Wi:=hide q1
 have sS:=hide p1
 have MJ:=hide hn
 have HB:=hide b1
 have HW1:=hide hW1
 have y1:W1.cell? ⟨w.heap.size,1,none⟩=some (.string s):=b0.cell 1
 have y0:W1.cell? ⟨sb,0,none⟩=some (.slice ya n yc):=by rw[←hyv];exact p1.blk.cell 0
 have l0:w.heap.size<W1.heap.size:=b0.lt
 have l1:sb<W1.heap.size:=p1.blk.lt
 have z0:W1.cell? ⟨w.heap.size+1,0,none⟩=some (.int .i64 0):=b1.cell 0
 have z1:W1.cell? ⟨w.heap.size+1,1,none⟩=some (.int .i64 0):=b1.cell 1
 have z2:W1.cell? ⟨w.heap.size+1,2,none⟩=some (.int .i64 0):=b1.cell 2
 have z3:W1.cell? ⟨w.heap.size+1,3,none⟩=some (.int .i64 0):=b1.cell 3
 have z4:W1.cell? ⟨w.heap.size+1,4,none⟩=some (.int .i64 0):=b1.cell 4
 have fz0:=b1.frozen 0
 have BV:=b1.frozen 1
 have BX:=b1.frozen 2
 have fz3:=b1.frozen 3
 have BZ:=b1.frozen 4
 simp only[aB]at HW1
 have hmx:n+1≤maxLen:=by unfold maxLen;omega
 have ik:(n+1) * 16≤140737488355328:=by omega
 have hge:=h.ge
 obtain⟨i0,z0',hi0,hz0,hz1,hz2,hz3⟩:=EU
 have WC:=hide hyv
 clear p1 q1 b1 b0 wR hW1 h hyv hn hB hC hE
 go_enter Tryz.func138,Tryz.ntmps138
 go_wp2_with fail
 rw[←ae HW1]
 refine (ae RY _).mono ?_
 rintro e w3 ⟨rfl,hw3⟩
 rw[hw3]
 clear hw3 w3
 go_wp2_with fail
 refine (ae HC).mono ?_
 rintro e w3 ⟨rfl,hw3⟩
 rw[hw3]
 clear hw3 w3
 obtain⟨rfl,rfl,hd,rfl⟩:B=true∧C=false∧decide ((n:Int)≥6)=false∧E=0:=by
  rcases hc with⟨h1,h2⟩ | ⟨h1,h2,h3⟩ | ⟨h1,h2,h3,h4⟩ | ⟨h1,h2,h3,h4⟩
  ·omega
  ·omega
  ·omega
  ·exact⟨h1,h2,h3,h4⟩
 clear hc he
 obtain⟨w4,hw4⟩:∃w4,w4=(W1.alloc (.cells #[.string s] 9)).drew:=⟨_,rfl⟩
 have k4:ag ak W1 w4:=by rw[hw4];exact ((ag.refl ak W1).alloc _).drew
 have p4:=(ae sS).aj k4
 have hs4:w4.heap.size=W1.heap.size+1:=by rw[hw4];simp
 have r4:w4.ownsRow base 9 1 (.slice ya n yc) n (S.sy.map Value.string):=by
  have r:=p4.jH
  change w4.ownsRow base 9 1 m.yv S.sy.length (S.sy.map Value.string) at r
  rw[ae WC,ae MJ]at r
  exact r
 have hnews:∀j u,([.string s]:List Value)[j]?=some u→w4.cell? (Addr.add ⟨W1.heap.size,0,none⟩ j)=some u:=by
  intro j u hj
  have:=X8 W1 s j u hj
  rw[hw4]
  exact this
 have hone:∀u∈([.string s]:List Value),u.oneCell'=true:=by simp[Value.oneCell']
 have Jr:=hide hw4
 have H4:=hide p4
 have HR4:=hide r4
 have zi:=hide hnews
 have oN:=hide hone
 have MK:=hide hs4
 have HB4:=hide (k4.blk (ae HB) (fun x=>x))
 have zh:=hide k4
 clear hw4 p4 r4 hnews hone hs4 k4
 go_upto_region 12 with fail
 go_cut [] from 42 (fun wc=>fP base sb (S.fresh.lists s) m w wc∧ai wc (w.heap.size+1) aB 87)
 case first JJ KK hJ hK =>
  go_region_law (first | (rw[←ae Jr];refine step_append_lies _ rfl (.tmp 46) (.tmp 49) 106 rfl base 9 i0 z0' 1 16 Tryz.underlying106 hi0 hz0 hz1 hz2 hz3 (by decide) (.slice ya n yc) n (S.sy.map Value.string) rfl (ae HR4) ⟨W1.heap.size,0,none⟩ 1 1 ([.string s]) rfl rfl (ae zi) (ae oN) (by omega) hmx ik (by have:=ae MK;omega) (W1.heap.size+1) (ae MK) ?_;intro g5 cap5 w5 hown2 hgrow hat hlt;have vk:=hide hown2;have HG2:=hide hgrow;have HA2:=hide hat;have b2:ai w5 sb _ 207:=(hgrow.block sb (ae H4).blk.lt (fun e=>by obtain⟨cs,hc⟩:=ay (ae H4).jH (b:=sb) (by show m.yv.ownBlock=_;rw[ae WC];exact e.symm);exact ai.ne hc (ae H4).blk (by decide) rfl)).trans (ae H4).blk;have v52:=b2.cell 0;have f52:=b2.frozen 0;simp at v52;have bb1:ai w5 (w.heap.size+1) _ 87:=(hgrow.block (w.heap.size+1) (ae HB4).lt (fun e=>by obtain⟨cs,hc⟩:=ay (ae H4).jH (b:=w.heap.size+1) (by show m.yv.ownBlock=_;rw[ae WC];exact e.symm);exact ai.ne hc (ae HB4) (by decide) rfl)).trans (ae HB4);have Tn:=hide bb1;clear hown2 hgrow hat b2 bb1))
  all_goals
   refine hK _ _ (Met.intro (hJ _ _ ?_))
   repeat apply Exists.intro
   refine⟨?rel,rfl⟩
   case rel =>
    obtain⟨m6,p6,q6,r6⟩:=(ae H4).Va (s:=s) (ae MJ) (ae vk) (by show World.grownBy _ _ m.yv.ownBlock;rw[ae WC];exact ae HG2) (by show m.yv.ownBlock=_∨_;rw[ae WC];exact ae HA2) (ae MK)
    refine⟨⟨m6,p6,fun b hb=>?_,((ae Wi).trans (ae zh).aC).trans (r6.mono (ae HS).fresh.2.2)⟩,(ae Tn).other (a:=⟨sb,0,none⟩) MV _⟩
    rcases q6 b hb with x | x
    ·exact .inl ((ae HS).fresh.2.2 b x)
    ·exact .inr (Nat.le_trans (ae Wi).size (Nat.le_trans (ae zh).size x))
 case rest =>
  clear Jr H4 HR4 zi oN MK HB4 zh HC RY z0 z1 z2 z3 z4 fz0 BV BX fz3 BZ y1 y0 l0 l1
  obtain⟨hn,b7⟩:=hcut
  have s0:wc.cell? ⟨w.heap.size+1,0,none⟩=some (.int .i64 0):=b7.cell 0
  have s1:wc.cell? ⟨w.heap.size+1,1,none⟩=some (.int .i64 0):=b7.cell 1
  have s2:wc.cell? ⟨w.heap.size+1,2,none⟩=some (.int .i64 0):=b7.cell 2
  have s3:wc.cell? ⟨w.heap.size+1,3,none⟩=some (.int .i64 0):=b7.cell 3
  have s4:wc.cell? ⟨w.heap.size+1,4,none⟩=some (.int .i64 0):=b7.cell 4
  have fs0:=b7.frozen 0
  have fs1:=b7.frozen 1
  have fs2:=b7.frozen 2
  have fs3:=b7.frozen 3
  have fs4:=b7.frozen 4
  have Jo:=hide b7
  have Vf:=hide hn
  clear b7 hn
  go_wp2
  refine bodyPost_ret (mM _ (w.heap.size+1) _ 0 0 0 0 0 0 rfl rfl ?_) rfl ⟨rfl,?_⟩
  ·exact qj (ae Jo) _ _ _ _ _
  ·exact (ae Vf).off (ae Jo) (by omega) (mX _ _ _ _ _)
end Go.Proofs.YtigaphnafnpfnaaGreatDoor
