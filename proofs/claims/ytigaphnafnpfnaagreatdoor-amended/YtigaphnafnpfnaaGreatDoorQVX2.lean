import Derived.Test.YtigaphnafnpfnaaGreatDoorQVX1
set_option linter.unusedVariables false
set_option linter.unusedSimpArgs false
set_option maxHeartbeats 8000000
set_option maxRecDepth 100000
namespace Go.Proofs.YtigaphnafnpfnaaGreatDoor
open Go.RowKit
attribute [local go_sem ↓] Go.wp_at_zero Go.wp_at_succ
def dK(o:Ask)(x:Ord):Bool:=!(x.opn == 0) && decide (x.sym=o.sym) && !(x.side == o.side) && eQ o.kind o.side o.price x.price
theorem A8(base sb i:Nat)(S:RS)(m:SM)(o:Ask)(w:World)(h:bH w base sb S m)(hlen:S.l.length≤1000)(hi:i<S.l.length) :
 Calls Tryz.prog 224 #[.pointer (some ⟨sb,0,none⟩),o.val,.int .i64 (i:Int)] w fun e w'=>e=.returned (.bool (dK o (ah S.l i)))∧ag ak w w':=by
 obtain⟨n,hn⟩:∃n,S.l.length=n:=⟨_,rfl⟩
 obtain⟨a,c,hv⟩:=az h.bI
 obtain⟨g,rfl,_,hc,_⟩:=h.rY hv hi
 rw[hn]at hv hlen hi
 have v1:w.cell? ⟨sb,1,none⟩=some (.slice (some ⟨g,0,none⟩) n c):=by rw[←hv];exact h.blk.cell 1
 have uj:=h.blk.lt
 obtain⟨x,hx⟩:∃x,ah S.l i=x:=⟨_,rfl⟩
 rw[hx]at hc ⊢
 have c0:w.cell? ⟨g,i * 13,none⟩=some (.int .i64 x.id):=hc 0 _ rfl
 have c1:w.cell? ⟨g,i * 13+1,none⟩=some (.int .i64 x.owner):=hc 1 _ rfl
 have c2:w.cell? ⟨g,i * 13+2,none⟩=some (.string x.sym):=hc 2 _ rfl
 have c3:w.cell? ⟨g,i * 13+3,none⟩=some (.int .i64 x.side):=hc 3 _ rfl
 have c4:w.cell? ⟨g,i * 13+4,none⟩=some (.int .i64 x.kind):=hc 4 _ rfl
 have c5:w.cell? ⟨g,i * 13+5,none⟩=some (.int .i64 x.price):=hc 5 _ rfl
 have c6:w.cell? ⟨g,i * 13+6,none⟩=some (.int .i64 x.qty):=hc 6 _ rfl
 have c7:w.cell? ⟨g,i * 13+7,none⟩=some (.int .i64 x.entered):=hc 7 _ rfl
 have c8:w.cell? ⟨g,i * 13+8,none⟩=some (.int .i64 x.opn):=hc 8 _ rfl
 have c9:w.cell? ⟨g,i * 13+9,none⟩=some (.int .i64 x.filled):=hc 9 _ rfl
 have c10:w.cell? ⟨g,i * 13+10,none⟩=some (.int .i64 x.aG):=hc 10 _ rfl
 have c11:w.cell? ⟨g,i * 13+11,none⟩=some (.int .i64 x.exp):=hc 11 _ rfl
 have c12:w.cell? ⟨g,i * 13+12,none⟩=some (.int .i64 x.place):=hc 12 _ rfl
 have lg:g<w.heap.size:=World.block_lt_of_cell? w _ c0
 clear hc hv hn hx h
 obtain⟨id,owner,sym,side,kind,price,qty⟩:=o
 simp only[Ask.val]
 by_cases h1:x.opn=0
 ·have e1:(x.opn == 0)=true:=by simp[h1]
  have HR:Hid (dK ⟨id,owner,sym,side,kind,price,qty⟩ x=false):=by show _=_;simp[dK,e1]
  clear h1
  go_enter Tryz.func224,Tryz.ntmps224
  go_wp2
  go_ret
  exact⟨by rw[HR.out];rfl,by repeat (first | exact ag.refl _ _ | refine ag.drewN ?_ _ | refine ag.drew ?_ | refine ag.alloc ?_ _ | refine ag.setCell ?_ (.inr (by simp)) _)⟩
 ·have e1:(x.opn == 0)=false:=by simp[h1]
  by_cases h2:x.sym=sym
  ·by_cases h3:x.side=side
   ·have e3:(x.side == side)=true:=by simp[h3]
    have HR:Hid (dK ⟨id,owner,sym,side,kind,price,qty⟩ x=false):=by show _=_;simp[dK,e3]
    clear h1 h3
    go_enter Tryz.func224,Tryz.ntmps224
    go_wp2
    go_ret
    exact⟨by rw[HR.out];rfl,by repeat (first | exact ag.refl _ _ | refine ag.drewN ?_ _ | refine ag.drew ?_ | refine ag.alloc ?_ _ | refine ag.setCell ?_ (.inr (by simp)) _)⟩
   ·have e3:(x.side == side)=false:=by simp[h3]
    by_cases h4:kind=5
    ·have e4:(kind == 5)=true:=by simp[h4]
     have HR:Hid (dK ⟨id,owner,sym,side,kind,price,qty⟩ x=true):=by show _=_;simp[dK,e1,h2,e3,eQ,h4]
     clear h1 h3 h4
     go_enter Tryz.func224,Tryz.ntmps224
     go_wp2
     go_ret
     exact⟨by rw[HR.out];rfl,by repeat (first | exact ag.refl _ _ | refine ag.drewN ?_ _ | refine ag.drew ?_ | refine ag.alloc ?_ _ | refine ag.setCell ?_ (.inr (by simp)) _)⟩
    ·have e4:(kind == 5)=false:=by simp[h4]
     by_cases h5:side=0
     ·have e5:(side == 0)=true:=by simp[h5]
      have h3':¬x.side=0:=by rw[←h5];exact h3
      have HR:Hid (dK ⟨id,owner,sym,side,kind,price,qty⟩ x=decide (x.price≤price)):=by show _=_;simp[dK,e1,h2,eQ,h4,h5,h3']
      clear h3'
      clear h1 h3 h4 h5
      go_enter Tryz.func224,Tryz.ntmps224
      go_wp2
      go_ret
      exact⟨by rw[HR.out];rfl,by repeat (first | exact ag.refl _ _ | refine ag.drewN ?_ _ | refine ag.drew ?_ | refine ag.alloc ?_ _ | refine ag.setCell ?_ (.inr (by simp)) _)⟩
     ·have e5:(side == 0)=false:=by simp[h5]
      have HR:Hid (dK ⟨id,owner,sym,side,kind,price,qty⟩ x=decide (price≤x.price)):=by show _=_;simp[dK,e1,h2,e3,eQ,h4,h5]
      clear h1 h3 h4 h5
      go_enter Tryz.func224,Tryz.ntmps224
      go_wp2
      go_ret
      exact⟨by rw[HR.out];rfl,by repeat (first | exact ag.refl _ _ | refine ag.drewN ?_ _ | refine ag.drew ?_ | refine ag.alloc ?_ _ | refine ag.setCell ?_ (.inr (by simp)) _)⟩
  ·have e2:(x.sym.toList == sym.toList)=false:=by rw[PK];simpa using h2
   have HR:Hid (dK ⟨id,owner,sym,side,kind,price,qty⟩ x=false):=by show _=_;simp[dK,h2]
   clear h1
   go_enter Tryz.func224,Tryz.ntmps224
   go_wp2
   go_ret
   exact⟨by rw[HR.out];rfl,by repeat (first | exact ag.refl _ _ | refine ag.drewN ?_ _ | refine ag.drew ?_ | refine ag.alloc ?_ _ | refine ag.setCell ?_ (.inr (by simp)) _)⟩
end Go.Proofs.YtigaphnafnpfnaaGreatDoor
