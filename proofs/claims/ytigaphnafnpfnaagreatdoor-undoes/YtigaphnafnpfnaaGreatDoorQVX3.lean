import Derived.Test.YtigaphnafnpfnaaGreatDoorQVX1
set_option linter.unusedVariables false
set_option linter.unusedSimpArgs false
set_option maxHeartbeats 8000000
set_option maxRecDepth 100000
namespace Go.Proofs.YtigaphnafnpfnaaGreatDoor
open Go.RowKit
attribute [local go_sem ↓] Go.wp_at_zero Go.wp_at_succ
theorem Ag(a b:Ord):jm a b=(if a.af=b.af then decide (a.place<b.place) else if a.side=0 then decide (b.af<a.af) else decide (a.af<b.af)):=by
 unfold jm kP RN mP;by_cases e:a.af=b.af
 ·rw[if_pos e,e];simp;split <;> (repeat' split) <;> simp <;> omega
 ·rw[if_neg e];by_cases c:a.side=0
  ·rw[if_pos c];by_cases d:a.af<b.af
   ·simp[c,d];omega
   ·have:b.af<a.af:=by omega
    simp[c,d,this]
  ·rw[if_neg c];by_cases d:a.af<b.af
   ·simp[c,d]
   ·have:b.af<a.af:=by omega
    simp[c,d,this]
theorem IG(base q i k:Nat)(S:RS)(m:SM)(w:World)(h:dF w base q S m)(D:S.l.length<=1000)(s:i<S.l.length)(t:k<S.l.length) :
 CT 225 #[PP q,II (i:Int),II (k:Int)] w fun e w'=>e=.returned (.bool (jm (ak S.l i) (ak S.l k)))/\aj aA w w':=by
 obtain⟨n,u⟩:=dQ S.l.length;obtain⟨a,c,p⟩:=aJ h.dV;obtain⟨g,rfl,_,b,_⟩:=h.wW p s;obtain⟨C,r,_,d,_⟩:=h.wW p t;obtain rfl:g=C:=by simpa using r
 clear r;rw[u]at p D s t;have Z:w.cell? ⟨q,1,none⟩=some (.slice (some ⟨g,0,none⟩) n c):=by rw[<-p];exact h.ay.cell 1
 have Y:=h.ay.lt;obtain⟨x,v⟩:=dQ (ak S.l i);obtain⟨y,z⟩:=dQ (ak S.l k);rw[v]at b ⊢;rw[z]at d ⊢;have c0:CC w g (i * 13) (II x.id):=b 0 _ rfl;have c1:CC w g (i * 13+1) (II x.aG):=b 1 _ rfl;have G:CC w g (i * 13+2) (.string x.sym):=b 2 _ rfl;have H:CC w g (i * 13+3) (II x.side):=b 3 _ rfl;have I:CC w g (i * 13+4) (II x.kind):=b 4 _ rfl;have c5:CC w g (i * 13+5) (II x.af):=b 5 _ rfl;have J:CC w g (i * 13+6) (II x.az):=b 6 _ rfl;have c7:CC w g (i * 13+7) (II x.entered):=b 7 _ rfl;have c8:CC w g (i * 13+8) (II x.aH):=b 8 _ rfl;have c9:CC w g (i * 13+9) (II x.filled):=b 9 _ rfl;have E:CC w g (i * 13+10) (II x.aX):=b 10 _ rfl;have F:CC w g (i * 13+11) (II x.exp):=b 11 _ rfl;have c12:CC w g (i * 13+12) (II x.place):=b 12 _ rfl;have K:CC w g (k * 13) (II y.id):=d 0 _ rfl;have L:CC w g (k * 13+1) (II y.aG):=d 1 _ rfl;have P:CC w g (k * 13+2) (.string y.sym):=d 2 _ rfl;have Q:CC w g (k * 13+3) (II y.side):=d 3 _ rfl;have R:CC w g (k * 13+4) (II y.kind):=d 4 _ rfl;have T:CC w g (k * 13+5) (II y.af):=d 5 _ rfl;have U:CC w g (k * 13+6) (II y.az):=d 6 _ rfl;have V:CC w g (k * 13+7) (II y.entered):=d 7 _ rfl;have W:CC w g (k * 13+8) (II y.aH):=d 8 _ rfl;have X:CC w g (k * 13+9) (II y.filled):=d 9 _ rfl;have M:CC w g (k * 13+10) (II y.aX):=d 10 _ rfl;have N:CC w g (k * 13+11) (II y.exp):=d 11 _ rfl;have O:CC w g (k * 13+12) (II y.place):=d 12 _ rfl;have lg:g<w.heap.size:=World.block_lt_of_cell? w _ c0;clear b d p u v z h;by_cases f:x.af=y.af
 ·have A:(x.af == y.af)=true:=by simp[f]
  have o:Hid (jm x y=decide (x.place<y.place)):=by show _=_;rw[Ag,if_pos f]
  clear f;go_enter Tryz.func225,Tryz.ntmps225;go_wp2;go_region
  all_goals
   go_wp2;go_ret;exact⟨by rw[o.out];rfl,by repeat (first | exact aj.refl _ _ | refine aj.drewN ?_ _ | refine aj.drew ?_ | refine aj.alloc ?_ _ | refine aj.setCell ?_ (.inr (by simp)) _)⟩
 ·have A:(x.af == y.af)=false:=by simp[f]
  by_cases j:x.side=0
  ·have B:(x.side == 0)=true:=by simp[j]
   have o:Hid (jm x y=decide (y.af<x.af)):=by show _=_;rw[Ag,if_neg f,if_pos j]
   clear f j;go_enter Tryz.func225,Tryz.ntmps225;go_wp2;go_region
   all_goals
    go_wp2;go_ret;exact⟨by rw[o.out];rfl,by repeat (first | exact aj.refl _ _ | refine aj.drewN ?_ _ | refine aj.drew ?_ | refine aj.alloc ?_ _ | refine aj.setCell ?_ (.inr (by simp)) _)⟩
  ·have B:(x.side == 0)=false:=by simp[j]
   have o:Hid (jm x y=decide (x.af<y.af)):=by show _=_;rw[Ag,if_neg f,if_neg j]
   clear f j;go_enter Tryz.func225,Tryz.ntmps225;go_wp2;go_region
   all_goals
    go_wp2;go_ret;exact⟨by rw[o.out];rfl,by repeat (first | exact aj.refl _ _ | refine aj.drewN ?_ _ | refine aj.drew ?_ | refine aj.alloc ?_ _ | refine aj.setCell ?_ (.inr (by simp)) _)⟩
end Go.Proofs.YtigaphnafnpfnaaGreatDoor
