import Derived.Test.YtigaphnafnpfnaaGreatDoorQVX1
set_option linter.unusedVariables false
set_option linter.unusedSimpArgs false
set_option maxHeartbeats 8000000
set_option maxRecDepth 100000
namespace Go.Proofs.YtigaphnafnpfnaaGreatDoor
open Go.RowKit
attribute [local go_sem ↓] Go.wp_at_zero Go.wp_at_succ
theorem yf(a b:Ord):iF a b=(if a.price=b.price then decide (a.place<b.place) else if a.side=0 then decide (b.price<a.price) else decide (a.price<b.price)):=by
 unfold iF jw Pg jO
 by_cases h1:a.price=b.price
 ·rw[if_pos h1,h1]
  simp
  split <;> (repeat' split) <;> simp <;> omega
 ·rw[if_neg h1]
  by_cases h2:a.side=0
  ·rw[if_pos h2]
   by_cases h3:a.price<b.price
   ·simp[h2,h3];omega
   ·have:b.price<a.price:=by omega
    simp[h2,h3,this]
  ·rw[if_neg h2]
   by_cases h3:a.price<b.price
   ·simp[h2,h3]
   ·have:b.price<a.price:=by omega
    simp[h2,h3,this]
theorem FY(base sb i k:Nat)(S:RS)(m:SM)(w:World)(h:bH w base sb S m)(hlen:S.l.length≤1000)(hi:i<S.l.length)(hk:k<S.l.length) :
 Calls Tryz.prog 225 #[.pointer (some ⟨sb,0,none⟩),.int .i64 (i:Int),.int .i64 (k:Int)] w fun e w'=>e=.returned (.bool (iF (ah S.l i) (ah S.l k)))∧ag ak w w':=by
 obtain⟨n,hn⟩:∃n,S.l.length=n:=⟨_,rfl⟩
 obtain⟨a,c,hv⟩:=az h.bI
 obtain⟨g,rfl,_,hc,_⟩:=h.rY hv hi
 obtain⟨g',e',_,hd,_⟩:=h.rY hv hk
 obtain rfl:g=g':=by simpa using e'
 clear e'
 rw[hn]at hv hlen hi hk
 have v1:w.cell? ⟨sb,1,none⟩=some (.slice (some ⟨g,0,none⟩) n c):=by rw[←hv];exact h.blk.cell 1
 have uj:=h.blk.lt
 obtain⟨x,hx⟩:∃x,ah S.l i=x:=⟨_,rfl⟩
 obtain⟨y,hy⟩:∃y,ah S.l k=y:=⟨_,rfl⟩
 rw[hx]at hc ⊢
 rw[hy]at hd ⊢
 have c0:w.cell? ⟨g,i * 13,none⟩=some (.int .i64 x.id):=hc 0 _ rfl
 have c1:w.cell? ⟨g,i * 13+1,none⟩=some (.int .i64 x.owner):=hc 1 _ rfl
 have c2:w.cell? ⟨g,i * 13+2,none⟩=some (.string x.sym):=hc 2 _ rfl
 have c3:w.cell? ⟨g,i * 13+3,none⟩=some (.int .i64 x.side):=hc 3 _ rfl
 have c4:w.cell? ⟨g,i * 13+4,none⟩=some (.int .i64 x.kind):=hc 4 _ rfl
 have c5:w.cell? ⟨g,i * 13+5,none⟩=some (.int .i64 x.price):=hc 5 _ rfl
 have c6:w.cell? ⟨g,i * 13+6,none⟩=some (.int .i64 x.qty):=hc 6 _ rfl
 have c7:w.cell? ⟨g,i * 13+7,none⟩=some (.int .i64 x.entered):=hc 7 _ rfl
 have c8:w.cell? ⟨g,i * 13+8,none⟩=some (.int .i64 x.opn):=hc 8 _ rfl
 have c9:w.cell? ⟨g,i * 13+9,none⟩=some (.int .i64 x.filled):=hc 9 _ rfl
 have c10:w.cell? ⟨g,i * 13+10,none⟩=some (.int .i64 x.aG):=hc 10 _ rfl
 have c11:w.cell? ⟨g,i * 13+11,none⟩=some (.int .i64 x.exp):=hc 11 _ rfl
 have c12:w.cell? ⟨g,i * 13+12,none⟩=some (.int .i64 x.place):=hc 12 _ rfl
 have d0:w.cell? ⟨g,k * 13,none⟩=some (.int .i64 y.id):=hd 0 _ rfl
 have d1:w.cell? ⟨g,k * 13+1,none⟩=some (.int .i64 y.owner):=hd 1 _ rfl
 have d2:w.cell? ⟨g,k * 13+2,none⟩=some (.string y.sym):=hd 2 _ rfl
 have d3:w.cell? ⟨g,k * 13+3,none⟩=some (.int .i64 y.side):=hd 3 _ rfl
 have d4:w.cell? ⟨g,k * 13+4,none⟩=some (.int .i64 y.kind):=hd 4 _ rfl
 have d5:w.cell? ⟨g,k * 13+5,none⟩=some (.int .i64 y.price):=hd 5 _ rfl
 have d6:w.cell? ⟨g,k * 13+6,none⟩=some (.int .i64 y.qty):=hd 6 _ rfl
 have d7:w.cell? ⟨g,k * 13+7,none⟩=some (.int .i64 y.entered):=hd 7 _ rfl
 have d8:w.cell? ⟨g,k * 13+8,none⟩=some (.int .i64 y.opn):=hd 8 _ rfl
 have d9:w.cell? ⟨g,k * 13+9,none⟩=some (.int .i64 y.filled):=hd 9 _ rfl
 have d10:w.cell? ⟨g,k * 13+10,none⟩=some (.int .i64 y.aG):=hd 10 _ rfl
 have d11:w.cell? ⟨g,k * 13+11,none⟩=some (.int .i64 y.exp):=hd 11 _ rfl
 have d12:w.cell? ⟨g,k * 13+12,none⟩=some (.int .i64 y.place):=hd 12 _ rfl
 have lg:g<w.heap.size:=World.block_lt_of_cell? w _ c0
 clear hc hd hv hn hx hy h
 by_cases h1:x.price=y.price
 ·have e1:(x.price == y.price)=true:=by simp[h1]
  have HR:Hid (iF x y=decide (x.place<y.place)):=by show _=_;rw[yf,if_pos h1]
  clear h1
  go_enter Tryz.func225,Tryz.ntmps225
  go_wp2
  go_region
  all_goals
   go_wp2
   go_ret
   exact⟨by rw[HR.out];rfl,by repeat (first | exact ag.refl _ _ | refine ag.drewN ?_ _ | refine ag.drew ?_ | refine ag.alloc ?_ _ | refine ag.setCell ?_ (.inr (by simp)) _)⟩
 ·have e1:(x.price == y.price)=false:=by simp[h1]
  by_cases h2:x.side=0
  ·have e2:(x.side == 0)=true:=by simp[h2]
   have HR:Hid (iF x y=decide (y.price<x.price)):=by show _=_;rw[yf,if_neg h1,if_pos h2]
   clear h1 h2
   go_enter Tryz.func225,Tryz.ntmps225
   go_wp2
   go_region
   all_goals
    go_wp2
    go_ret
    exact⟨by rw[HR.out];rfl,by repeat (first | exact ag.refl _ _ | refine ag.drewN ?_ _ | refine ag.drew ?_ | refine ag.alloc ?_ _ | refine ag.setCell ?_ (.inr (by simp)) _)⟩
  ·have e2:(x.side == 0)=false:=by simp[h2]
   have HR:Hid (iF x y=decide (x.price<y.price)):=by show _=_;rw[yf,if_neg h1,if_neg h2]
   clear h1 h2
   go_enter Tryz.func225,Tryz.ntmps225
   go_wp2
   go_region
   all_goals
    go_wp2
    go_ret
    exact⟨by rw[HR.out];rfl,by repeat (first | exact ag.refl _ _ | refine ag.drewN ?_ _ | refine ag.drew ?_ | refine ag.alloc ?_ _ | refine ag.setCell ?_ (.inr (by simp)) _)⟩
end Go.Proofs.YtigaphnafnpfnaaGreatDoor
