import Derived.Test.YtigaphnafnpfnaaGreatDoorQVJ1
set_option linter.unusedVariables false
set_option linter.unusedSimpArgs false
namespace Go.Proofs.YtigaphnafnpfnaaGreatDoor
open Go.RowKit
attribute [local go_sem ↓] Go.wp_at_zero Go.wp_at_succ
def ku(o:iL)(x:Ord):Bool:=!(x.aK == 0) && decide (x.sym=o.sym) && !(x.side == o.side) && iJ o.kind o.side o.af x.af
end Go.Proofs.YtigaphnafnpfnaaGreatDoor
