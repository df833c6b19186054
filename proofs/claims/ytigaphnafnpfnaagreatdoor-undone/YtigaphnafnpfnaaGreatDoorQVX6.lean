import Derived.Test.YtigaphnafnpfnaaGreatDoorQVC1
set_option linter.unusedVariables false
set_option linter.unusedSimpArgs false
namespace Go.Proofs.YtigaphnafnpfnaaGreatDoor
open Go.RowKit
attribute [local go_sem ↓] Go.wp_at_zero Go.wp_at_succ
def jh(o:iL)(taken fV full gK whole:Bool):Int :=
 if fH o.id=false then 1 else if taken=true then 2 else if nI o.aA=false\/lQ o.side=false then 4 else if nV o.kind=false then 5
 else if fH o.aI=false\/iQ o.kind o.af=false then 4 else if fV=false then 6 else if full=true then 7 else if o.kind=4/\gK=true then 8 else if o.kind=3/\whole=true then 9 else 0
def rJ(S:RS)(o:iL):Int:=jh o (jX S.l o.id).isSome (kN S.sy o.sym) (decide (200<=S.l.length)) (gz S.l o).isSome (decide (rG S.l o S.l.length<o.aI))
end Go.Proofs.YtigaphnafnpfnaaGreatDoor
