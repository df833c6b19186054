import Derived.Test.YtigaphnafnpfnaaGreatDoorQVB2
import Derived.Deep.QuietTactic
import Derived.BigQuiet
import Derived.BigRegion
import Derived.Deep.RegionWith
import Derived.Deep.RegionHeld3
import Derived.Deep.DrawnRows
import Derived.Deep.RegionLaw
import Derived.Deep.AppendLies
set_option linter.unusedVariables false
set_option linter.unusedSimpArgs false
set_option maxHeartbeats 8000000
set_option maxRecDepth 100000
namespace Go.Proofs.YtigaphnafnpfnaaGreatDoor
open Go.RowKit
attribute [local go_sem ↓] Go.wp_at_zero Go.wp_at_succ
theorem uf(bv bm bo:Nat)(G:Lg)(m:Lm)(kind:Int)(t:Tr)(w:World)(hL:aK w bv bm bo G m)(hlen:G.tp.length<1000000000) :
 Calls Tryz.prog 73 #[.pointer (some ⟨bv,0,none⟩),.int .i64 kind,t.val] w fun e w'=>e=.returned (.tuple #[]) ∧
  ∃m',aK w' bv bm bo (G.told kind t) m'∧(∀b,m'.F b→m.F b∨w.heap.size≤b)∧ag (fun b=>b=bv∨m.pv.ownBlock=some b) w w':=by
 obtain⟨n,hn⟩:∃n,G.tp.length=n:=⟨_,rfl⟩
 have fQ:=hL.log.fU
 rw[hn]at fQ hlen
 obtain⟨pa,iL,hpv⟩:∃pa iL,m.pv=.slice pa n iL:=by
  rcases fQ.2 with⟨h,h0⟩ | ⟨g,cap,cs,h,_⟩
  ·exact⟨none,0,by rw[h,h0]⟩
  ·exact⟨_,cap,h⟩
 rw[hpv]at fQ
 have hv:=hL.cZ
 have v3:w.cell? ⟨bv,3,none⟩=some (.slice pa n iL):=(hv.cell 3).trans (by rw[←hpv];rfl)
 have f3:=hv.frozen 3
 have lv:=hv.lt
 have hmx:n+1≤maxLen:=by unfold maxLen;omega
 have ik:(n+1) * 80≤140737488355328:=by omega
 obtain⟨i0,z0,hi0,hz0,hz1,hz2,hz3⟩:=iQ
 obtain⟨tn,ts,tp,tq,jd,jf,td⟩:=t
 simp only[Tr.val]
 obtain⟨w0,hw0⟩:∃w0,w0=w.alloc (.cells #[.int .i64 tn,.string ts,.int .i64 tp,.int .i64 tq,.int .i64 jd,.int .i64 jf,.int .i64 td] 56):=⟨_,rfl⟩
 have k0:ag ak w w0:=by rw[hw0];exact (ag.refl ak w).alloc _
 have b0:ai w0 w.heap.size #[.int .i64 tn,.string ts,.int .i64 tp,.int .i64 tq,.int .i64 jd,.int .i64 jf,.int .i64 td] 56:=by rw[hw0];exact ai.new _ _ _
 have hs0:w0.heap.size=w.heap.size+1:=by rw[hw0];simp
 have hL0:=hL.aj k0
 have hrow0:=au fQ k0 (fun _ _ x=>x)
 have v3':w0.cell? ⟨bv,3,none⟩=some (.slice pa n iL):=k0.cell v3 (fun x=>x)
 have t0:w0.cell? ⟨w.heap.size,0,none⟩=some (.int .i64 tn):=b0.cell 0
 have t1:w0.cell? ⟨w.heap.size,1,none⟩=some (.string ts):=b0.cell 1
 have t2:w0.cell? ⟨w.heap.size,2,none⟩=some (.int .i64 tp):=b0.cell 2
 have t3:w0.cell? ⟨w.heap.size,3,none⟩=some (.int .i64 tq):=b0.cell 3
 have t4:w0.cell? ⟨w.heap.size,4,none⟩=some (.int .i64 jd):=b0.cell 4
 have t5:w0.cell? ⟨w.heap.size,5,none⟩=some (.int .i64 jf):=b0.cell 5
 have t6:w0.cell? ⟨w.heap.size,6,none⟩=some (.int .i64 td):=b0.cell 6
 obtain⟨w1,hw1⟩:∃w1,w1=(w0.alloc (.cells #[.int .i64 (IntKind.i64.wrap ((n:Int)+1)),.int .i64 kind,.int .i64 tn,.string ts,.int .i64 tp,.int .i64 tq,.int .i64 jd,.int .i64 jf,.int .i64 td] 62)).drew:=⟨_,rfl⟩
 have k1:ag ak w0 w1:=by rw[hw1];exact ((ag.refl ak w0).alloc _).drew
 have hrow1:=au hrow0 k1 (fun _ _ x=>x)
 have hsz1:w1.heap.size=w.heap.size+2:=by rw[hw1];simp[hs0]
 have hnews:∀j u,(Rc.cells ⟨IntKind.i64.wrap ((n:Int)+1),kind,⟨tn,ts,tp,tq,jd,jf,td⟩⟩)[j]?=some u→w1.cell? (Addr.add ⟨w.heap.size+1,0,none⟩ j)=some u:=by
  intro j u hj
  have:=FH w0 ⟨IntKind.i64.wrap ((n:Int)+1),kind,⟨tn,ts,tp,tq,jd,jf,td⟩⟩ j u hj
  rw[hs0]at this
  rw[hw1]
  exact this
 have hone:∀u∈Rc.cells ⟨IntKind.i64.wrap ((n:Int)+1),kind,⟨tn,ts,tp,tq,jd,jf,td⟩⟩,u.oneCell'=true:=by simp[Rc.cells,Value.oneCell']
 have hL1:=hL0.aj k1
 have hwr:IntKind.i64.wrap ((n:Int)+1)=(n:Int)+1:=by rw[IntKind.wrap_i64];omega
 have HE:Hid (Lg.told G kind ⟨tn,ts,tp,tq,jd,jf,td⟩={ G with tp:=G.tp++[⟨IntKind.i64.wrap ((n:Int)+1),kind,⟨tn,ts,tp,tq,jd,jf,td⟩⟩] }):=by
  show _=_
  unfold Lg.told
  rw[hn,hwr]
 clear hwr
 have HR:=hide hrow1
 have zi:=hide hnews
 have oN:=hide hone
 have wS:=hide hsz1
 have HL:=hide hL
 have sO:=hide hL1
 have GY:=hide hpv
 have HW:=hide hw0
 have HW1:=hide hw1
 have HB:=hide (k1.blk b0 (fun x=>x))
 have hne:w.heap.size≠bv:=by omega
 have HK:=hide (k0.trans k1)
 clear fQ hL hpv hrow0 hL0 hw0 b0 v3 hrow1 hnews hone hw1 hsz1 hL1 k0 k1 f3
 go_enter Tryz.func73,Tryz.ntmps73
 go_wp2
 rw[←ae HW]
 go_region_law (first | (rw[←ae HW1];refine step_append_lies _ rfl (.tmp 10) (.tmp 20) 34 rfl 0 62 i0 z0 9 80 Tryz.underlying34 hi0 hz0 hz1 hz2 hz3 (by decide) (.slice pa n iL) n (dP G.tp) rfl (ae HR) ⟨w.heap.size+1,0,none⟩ 1 1 (Rc.cells ⟨IntKind.i64.wrap ((n:Int)+1),kind,⟨tn,ts,tp,tq,jd,jf,td⟩⟩) rfl rfl (ae zi) (ae oN) (by omega) hmx ik (by omega) (w.heap.size+2) (ae wS) ?_;intro g cap w2 hown2 hgrow hat hlt;have vk:=hide hown2;have HG2:=hide hgrow;have HA2:=hide hat;have b2:ai w2 bv (oM bm bo m G.day) 100:=(hgrow.block bv (ae sO).cZ.lt (fun e=>(ae sO).Hg (.inr (.inl (.inl (by rw[ae GY];exact e.symm)))))).trans (ae sO).cZ;have v32:=b2.cell 3;have f32:=b2.frozen 3;simp only[oM]at v32;simp at v32;have HB2:=hide b2;clear hown2 hgrow hat b2))
 all_goals
  go_end0
  obtain⟨a1,a2,a3⟩:=(ae sO).Md hn (ae vk) (by rw[ae GY];exact ae HG2) (by rw[ae GY];exact ae HA2) (ae wS)
  refine⟨rfl,_,?_,fun b hb=>(a2 b hb).imp_right (fun h=>by omega),(ae HK).aC.trans a3⟩
  rw[ae HE]
  exact a1
end Go.Proofs.YtigaphnafnpfnaaGreatDoor
