import Derived.Test.YtigaphnafnpfnaaGreatDoorRows
import Derived.RangeFuncBox
import Derived.RangeFuncNested
import Derived.RangeFuncBound
import Derived.RangeFuncCalls
import Derived.RangeFuncLeaves
import Derived.Shelf.Abstract
import Derived.Shelf.RegionOpen
import Derived.WalkKit
import Derived.OwnWalkIn
import Derived.TacticsInMore
import Derived.LoopNIn
import Derived.LoopIn
import Derived.Maps.AppendAt
import Derived.Test.YtigaphnafnpfnaaGreatDoorQVW
import Derived.Sort.Grow
set_option linter.unusedVariables false
set_option linter.unusedSimpArgs false
set_option maxHeartbeats 8000000
set_option maxRecDepth 100000
namespace Go.Proofs.YtigaphnafnpfnaaGreatDoor
open Go.RowKit Go.Shelf
attribute [local go_sem] Oper.semAt_some
def qM(x:Nat):Value:=.pointer (some ⟨x,0,none⟩)
def upto(f:Nat→Nat)(k:Nat):List Nat:=(List.range k).map f
theorem upto_succ(f:Nat→Nat)(k:Nat):upto f (k+1)=upto f k++[f k]:=by simp[upto,List.range_succ]
theorem upto_length(f:Nat→Nat)(k:Nat):(upto f k).length=k:=by simp[upto]
theorem values1_in(F:Fence)(n:Nat)(h7:F.fn 129)(hro:F.round=none)(hn:1≤n)(l Bs n₀ b len cap:Nat)(f:Nat→Nat)(hreach:len * 8≤140737488351232)(hb:b<n₀)(J Jx:List Nat→World→Prop)
 (hY:∀pre x W,J pre W→pre.length<len→YieldAt F (n-1) Tryz.prog l #[.pointer (some ⟨x,0,none⟩)] W fun e W' =>
   (e=.returned (.bool true)∧J (pre++[x]) W'∧Below n₀ W W')∨(e=.returned (.bool false)∧Jx (pre++[x]) W'))
 (W:World) (hBs:W.cell? ⟨Bs,0,none⟩=some (.slice (some ⟨b,0,none⟩) len cap)) (hc:∀j,j<len→W.cell? ⟨b,j,none⟩=some (.pointer (some ⟨f j,0,none⟩))) (h0:J [] W) :
 CallsIn F n Tryz.prog 129 #[.func (.yield l) #[] #[],.pointer (some ⟨Bs,0,none⟩)] W fun e W'=>(∃v,e=.returned v) ∧
  ((∃ys,ys=upto f len∧J ys W')∨(∃pre,(∃k,k≤len∧pre=upto f k)∧Jx pre W')):=by
 refine callsIn_of_wp Tryz.func129 rfl h7 ?_ hro
 simp only[Tryz.ntmps129,List.size_toArray,List.length_cons,List.length_nil,Nat.reduceAdd,Nat.reduceSub,Array.replicate_succ,Array.replicate_zero,List.push_toArray,List.append_toArray,List.nil_append,List.cons_append]
 gi_wp2
 gi_loopw [7] (fun i wr=>∃k:Nat,k≤len∧i=.int .i64 k∧J (upto f k) wr∧Below n₀ W wr)
  (fun i _=>len-(intOf i).toNat)
 case atStart=>exact⟨0,Nat.zero_le _,rfl,h0,Below.refl _ _⟩
 case round =>
  obtain⟨k,hk,rfl,hJs,hnx⟩:=hrel
  have hcx:k<len→wr.cell? ⟨b,k,none⟩=some (.pointer (some ⟨f k,0,none⟩)):=fun h=>(hnx.cell (p:=⟨b,k,none⟩) hb).trans (hc k h)
  by_cases hlt:k<len
  ·obtain⟨fn,tmps,assign,body,hy,hR⟩:=hY _ (f k) wr hJs (by rw[upto_length];exact hlt)
   have hcx':=hcx hlt
   gi_wp2
   refine hR.mono ?_
   rintro e W3 (⟨rfl,hJ3,hk3⟩ | ⟨rfl,hJx3⟩)
   ·gi_wp2
    go_roundw
    case rel=>exact⟨k+1,by omega,by simp,by rw[upto_succ];exact hJ3,hnx.trans hk3⟩
    case measure=>simp[intOf];omega
   ·gi_wp2
    refine bodyPost_ret (results_none rfl _ _ _) rfl ?_
    exact⟨⟨_,rfl⟩,.inr ⟨_,⟨k+1,by omega,(upto_succ _ _).symm⟩,hJx3⟩⟩
  ·obtain rfl:k=len:=by omega
   gi_wp2
   go_end0
   exact⟨⟨_,rfl⟩,.inl ⟨_,rfl,hJs⟩⟩
theorem values1_nil_in(F:Fence)(n:Nat)(h7:F.fn 129)(hro:F.round=none)(l Bs:Nat)(J:List Nat→World→Prop)(W:World)(hBs:W.cell? ⟨Bs,0,none⟩=some (.slice none 0 0))(h0:J [] W) :
 CallsIn F n Tryz.prog 129 #[.func (.yield l) #[] #[],.pointer (some ⟨Bs,0,none⟩)] W fun e W'=>(∃v,e=.returned v)∧J [] W':=by
 refine callsIn_of_wp Tryz.func129 rfl h7 ?_ hro
 simp only[Tryz.ntmps129,List.size_toArray,List.length_cons,List.length_nil,Nat.reduceAdd,Nat.reduceSub,Array.replicate_succ,Array.replicate_zero,List.push_toArray,List.append_toArray,List.nil_append,List.cons_append]
 gi_wp2
 gi_loopw [7] (fun i wr=>i=.int .i64 0∧J [] wr) (fun _ _=>0)
 case atStart=>exact⟨rfl,h0⟩
 case round =>
  obtain⟨rfl,hJs⟩:=hrel
  gi_wp2
  go_end0
  exact⟨⟨_,rfl⟩,hJs⟩
theorem values_in(F:Fence)(n:Nat)(h5:F.fn 82)(hro:F.round=none)(a:Option Addr)(len cap:Nat)(w:World) :
 CallsIn F n Tryz.prog 82 #[.slice a len cap] w fun e w'=>e=.returned (.func (.func 129) #[] #[.pointer (some ⟨w.heap.size,0,none⟩)])∧w'=w.alloc (.cells #[.slice a len cap] 155):=by
 refine callsIn_of_wp Tryz.func82 rfl h5 ?_ hro
 simp only[Tryz.ntmps82,List.size_toArray,List.length_cons,List.length_nil,Nat.reduceAdd,Nat.reduceSub,Array.replicate_succ,Array.replicate_zero,List.push_toArray,List.append_toArray,List.nil_append,List.cons_append]
 gi_wp2
 go_ret
 exact⟨rfl,rfl⟩
def BC(n₀:Nat)(W:World)(a:Option Addr)(len cap:Nat)(f:Nat→Nat):Prop :=
 (a=none∧len=0∧cap=0)∨∃b,a=some ⟨b,0,none⟩∧b<n₀∧∀j,j<len→W.cell? ⟨b,j,none⟩=some (.pointer (some ⟨f j,0,none⟩))
theorem BC.below{n₀:Nat}{A B:World}(h:Below n₀ A B){a:Option Addr}{len cap:Nat}{f:Nat→Nat}(hp:BC n₀ A a len cap f):BC n₀ B a len cap f:=by
 rcases hp with e | ⟨b,e,hb,hc⟩
 ·exact .inl e
 ·exact .inr ⟨b,e,hb,fun j hj=>(h.cell (p:=⟨b,j,none⟩) hb).trans (hc j hj)⟩
theorem values_stops(F:Fence)(n:Nat)(h7:F.fn 129)(hro:F.round=none)(hn:1≤n)(Bs n₀:Nat)(a:Option Addr)(len cap:Nat)(f:Nat→Nat)(hreach:len * 8≤140737488351232)(w:World)(hBs:Bs<w.heap.size)(hn₀:n₀≤w.heap.size)
 (hc:w.cell? ⟨Bs,0,none⟩=some (.slice a len cap)) (hI:BC n₀ w a len cap f) :
 SeqStopsK F n Tryz.prog 129 #[.pointer (some ⟨Bs,0,none⟩)] (fun x:Nat=>#[Value.pointer (some ⟨x,0,none⟩)]) (Below n₀) (fun ys=>ys=upto f len) (fun pre=>pre <+: upto f len) len w:=fun l J Jx W hW _ _ hY h0=>by
 have hc':=(hW.cell (p:=⟨Bs,0,none⟩) hBs).trans hc
 rcases hI.below (hW.mono hn₀) with⟨rfl,rfl,rfl⟩ | ⟨b,rfl,hb,hcs⟩
 ·exact (values1_nil_in F n h7 hro l Bs J W hc' h0).mono fun e W' ⟨he,hj⟩=>⟨he,.inl ⟨_,rfl,hj⟩⟩
 ·refine (values1_in F n h7 hro hn l Bs n₀ b len cap f hreach hb J Jx hY W hc' hcs h0).mono ?_
  rintro e W' ⟨he,⟨ys,rfl,hj⟩ | ⟨pre,⟨k,hk,rfl⟩,hj⟩⟩
  ·exact⟨he,.inl ⟨_,rfl,hj⟩⟩
  ·refine⟨he,.inr ⟨_,?_,hj⟩⟩
   obtain⟨d,rfl⟩:=Nat.exists_eq_add_of_le hk
   exact⟨((List.range d).map (fun i=>k+i)).map f,by unfold upto;rw[List.range_add,List.map_append]⟩
theorem QU:(Tryz.prog.info? 114).map (fun i=>(i.zero,i.size,i.bytes))=some (some (.pointer none),1,8):=by kernel_rfl
theorem appendSeq_in(F:Fence)(n:Nat)(h62:F.fn 156)(h59:F.fn 129)(hro:F.round=none)(hn:3≤n)(Bs:Nat)(a:Option Addr)(len cap:Nat)(f:Nat→Nat)(hlen:len≤100000)(w:World)(hBs:Bs<w.heap.size)
 (hcB:w.cell? ⟨Bs,0,none⟩=some (.slice a len cap)) (hI:BC w.heap.size w a len cap f) :
 CallsIn F n Tryz.prog 156 #[.slice none 0 0,.func (.func 129) #[] #[.pointer (some ⟨Bs,0,none⟩)]] w fun e W'=>∃v,e=.returned v∧W'.ownsRow w.heap.size 114 1 v len ((upto f len).map qM)∧(v=.slice none 0 0↔upto f len=[])∧Below w.heap.size w W':=by
 have h1:1≤n:=by omega
 have hm:len≤maxLen:=by unfold maxLen;omega
 have hm8:len * 8≤140737488355328:=by omega
 obtain⟨i0,hi,hz0,hz1,hz2⟩:=info_parts QU
 refine callsIn_of_wp_marks Tryz.func156 rfl h62 ?_ hro
 simp only[Tryz.ntmps156,List.size_toArray,List.length_cons,List.length_nil,Nat.reduceAdd,Nat.reduceSub,Array.replicate_succ,Array.replicate_zero,List.push_toArray,List.append_toArray,List.nil_append,List.cons_append]
 gi_wp2
 have bO:=Boxed.new w 150 (.slice none 0 0)
 have hB0:Below w.heap.size w (w.alloc (.cells #[.slice none 0 0] 150)):=(Below.refl _ w).alloc (Nat.le_refl _) _
 have hcB':=(hB0.cell (p:=⟨Bs,0,none⟩) hBs).trans hcB
 refine wpIn_rangeFunc_ownG hro h1 (gf:=129) (lb:=#[.pointer (some ⟨Bs,0,none⟩)]) rfl h59 (enters_of Tryz.func129 (by kernel_rfl) rfl)
  (values_stops F (n-1) h59 hro (by omega) Bs w.heap.size a len cap f (by omega) _ (by simp;omega) (by simp) hcB' (hI.below hB0)) belowK_t (belowK_b (by simp)) (Below.refl _ _) (fun _=>rfl)
  (fun pre W=>(∃v,Boxed W w.heap.size 150 v∧W.ownsRow w.heap.size 114 1 v pre.length (pre.map qM)∧(v=.slice none 0 0↔pre=[]))∧Below w.heap.size w W)
  (fun _ _ _=>False)
  (OwnFrom.and (Own.from (holdsRow_own w.heap.size w.heap.size 150 114 1 (fun pre=>pre.length) (fun pre=>pre.map qM) (fun pre v=>v=.slice none 0 0↔pre=[])) _) (ownFrom_below (Nat.le_refl _) (by simp)))
  (fun _ _ _ _ _ hs _ _=>hs)
  ⟨⟨_,bO,World.ownsRow_nil _ _ _ _,by simp⟩,hB0⟩
  (fun x=>{ tmps:=#[.slice none 0 0,.func (.func 129) #[] #[.pointer (some ⟨Bs,0,none⟩)],.pointer (some ⟨w.heap.size,0,none⟩),undef,.slice none 0 0,.pointer (some ⟨x,0,none⟩),.func (.func 129) #[] #[.pointer (some ⟨Bs,0,none⟩)],.pointer (some ⟨x,0,none⟩),undef,undef,undef,undef,undef],defers:=[] }) ?assign ?body ?done ?stop
 case assign =>
  intro l x W K hK
  gi_wp2
  exact hK
 case body =>
  rintro l pre x W ⟨⟨v,hv,hrow,hnil⟩,hB⟩ hlt
  have hc:=hv.cell
  gi_wp2_with (gi_at_builtin;refine wpListIn_append_own _ rfl _ _ 150 rfl w.heap.size 114 i0 (.pointer none) 1 8 Tryz.underlying150 hi hz0 hz1 hz2 rfl (by decide) _ _ _ rfl (hrow.alloc _) ⟨W.heap.size,0,none⟩ 1 1 [.pointer (some ⟨x,0,none⟩)] rfl rfl (cell_one_new _ _ _) (by simp[Value.oneCell']) (by omega) (by omega) (by have:=hB.size;simp;omega) ?_;intro v' w1 hown' hgrow _;obtain⟨g',cap',rfl⟩:=ownsRow_succ hown';obtain⟨hv1,hv2,hr2,hk2,hb2⟩:=hv.appended (by decide) hrow hB.size (Nat.le_refl _) hown' hgrow;have hc1:=hv1.cell;have hf1:=hv1.frozen)
  exact⟨hk2.from _,hb2,⟨_,hv2,by simpa [qM] using hr2,by simp⟩,hB.trans hb2⟩
 case done =>
  rintro D ys W hD rfl ⟨⟨v,hv,hrow,hnil⟩,hB⟩ hK
  have hc:=hv.cell
  gi_wp2
  refine⟨by simp,.inl ⟨_,_,rfl,run_takeDeferred hK,?_⟩⟩
  rw[upto_length]at hrow
  exact⟨_,results_tmp rfl _ _ _,v,rfl,ownsRow_putObj hrow _ hK rfl,hnil,hB.trans (belowK_b (w:=w) (Nat.le_refl _) W D _ _ (by simp at hD;omega) hK rfl rfl)⟩
 case stop =>
  rintro D c pre W _ _ h _
  exact h.elim
end Go.Proofs.YtigaphnafnpfnaaGreatDoor
namespace Go.Proofs.YtigaphnafnpfnaaGreatDoor
open Go.RowKit Go.Sort
attribute [local go_sem ↓] Go.wp_at_zero Go.wp_at_succ
theorem NG(a b:Nat)(oa ob:Ord)(ia ib:Int)(w:World)(ha:bC w a oa ia)(hb:bC w b ob ib) :
 Calls Tryz.prog 83 #[.pointer (some ⟨a,0,none⟩),.pointer (some ⟨b,0,none⟩)] w fun e w'=>e=.returned (.int .i64 (jw oa ob))∧∃q os',w'=grow (w.drewN q) os':=by
 have a3:=ha.cell 3
 have a5:=ha.cell 5
 have a12:=ha.cell 12
 have b5:=hb.cell 5
 have b12:=hb.cell 12
 have la:=ha.lt
 have lb:=hb.lt
 simp only[Ord.cells]at a3 a5 a12 b5 b12
 simp at a3 a5 a12 b5 b12
 clear ha hb
 obtain⟨p1,p2⟩:=NK oa.price ob.price
 by_cases hs:oa.side=0
 ·have hs':(oa.side == 0)=true:=by simp[hs]
  have HF:Hid (jw oa ob=Pg (-(jO oa.price ob.price)) (jO oa.place ob.place)):=by show jw oa ob=_;simp only[jw,hs,if_true]
  clear hs
  go_enter Tryz.func83,Tryz.ntmps83
  go_wp2
  go_quiet ((go_at_call 130;exact Calls.quiet_of_same (gI _ _ _)))
  go_wp2
  go_region_held3 (fun w'=>w'.cell? ⟨a,12,none⟩=some (.int .i64 oa.place)∧w'.cell? ⟨b,12,none⟩=some (.int .i64 ob.place)) (go_keep)
   (first | (go_at_call 130;refine (gI _ _ _).mono ?_;rintro e w' ⟨rfl,rfl⟩) | (go_at_call 131;refine (C9 _ _ (-(jO oa.price ob.price)) (jO oa.place ob.place) _ ?_ ?_).mono ?_;(exact (ai.new _ _ _).cell 0);(exact (ai.new _ _ _).cell 1);rintro e w' ⟨rfl,rfl⟩))
  go_wp2
  go_ret
  exact⟨by rw[HF.out];rfl,_,_,alloc_eq_grow _ _⟩
 ·have hs':(oa.side == 0)=false:=by simp[hs]
  have HF:Hid (jw oa ob=Pg (jO oa.price ob.price) (jO oa.place ob.place)):=by show jw oa ob=_;simp only[jw,hs,if_false]
  clear hs
  go_enter Tryz.func83,Tryz.ntmps83
  go_wp2
  go_quiet ((go_at_call 130;exact Calls.quiet_of_same (gI _ _ _)))
  go_wp2
  go_region_held3 (fun w'=>w'.cell? ⟨a,12,none⟩=some (.int .i64 oa.place)∧w'.cell? ⟨b,12,none⟩=some (.int .i64 ob.place)) (go_keep)
   (first | (go_at_call 130;refine (gI _ _ _).mono ?_;rintro e w' ⟨rfl,rfl⟩) | (go_at_call 131;refine (C9 _ _ (jO oa.price ob.price) (jO oa.place ob.place) _ ?_ ?_).mono ?_;(exact (ai.new _ _ _).cell 0);(exact (ai.new _ _ _).cell 1);rintro e w' ⟨rfl,rfl⟩))
  go_wp2
  go_ret
  exact⟨by rw[HF.out];rfl,_,_,alloc_eq_grow _ _⟩
theorem zn(Bs:Nat)(a:Option Addr)(len cap:Nat)(f:Nat→Nat)(hlen:len≤100000)(w:World)(hBs:Bs<w.heap.size)
 (hcB:w.cell? ⟨Bs,0,none⟩=some (.slice a len cap)) (hI:BC w.heap.size w a len cap f) :
 Calls Tryz.prog 156 #[.slice none 0 0,.func (.func 129) #[] #[.pointer (some ⟨Bs,0,none⟩)]] w fun e W'=>∃v,e=.returned v∧W'.ownsRow w.heap.size 114 1 v len ((upto f len).map qM)∧(v=.slice none 0 0↔upto f len=[])∧Below w.heap.size w W' :=
 callsIn_wide.1 (appendSeq_in Fence.wide 3 trivial trivial rfl (by omega) Bs a len cap f hlen w hBs hcB hI)
theorem Jh(a:Option Addr)(len cap:Nat)(w:World) :
 Calls Tryz.prog 82 #[.slice a len cap] w fun e w'=>e=.returned (.func (.func 129) #[] #[.pointer (some ⟨w.heap.size,0,none⟩)])∧w'=w.alloc (.cells #[.slice a len cap] 155) :=
 callsIn_wide.1 (values_in Fence.wide 3 trivial rfl a len cap w)
theorem vH(Bs:Nat)(a:Option Addr)(len cap:Nat)(f:Nat→Nat)(hlen:len≤100000)(w:World)(hBs:Bs<w.heap.size)
 (hcB:w.cell? ⟨Bs,0,none⟩=some (.slice a len cap)) (hI:BC w.heap.size w a len cap f) :
 Calls Tryz.prog 127 #[.func (.func 129) #[] #[.pointer (some ⟨Bs,0,none⟩)]] w fun e W'=>∃v,e=.returned v∧W'.ownsRow w.heap.size 114 1 v len ((upto f len).map qM)∧(v=.slice none 0 0↔upto f len=[])∧Below w.heap.size w W':=by
 have hcon:=zn Bs a len cap f hlen w hBs hcB hI
 clear hcB hI
 go_enter Tryz.func127,Tryz.ntmps127
 go_wp2_with (go_at_call 156;refine hcon.mono ?_;clear hcon;rintro e w' ⟨v,rfl,hv⟩)
 go_ret
 exact⟨v,rfl,hv⟩
end Go.Proofs.YtigaphnafnpfnaaGreatDoor
