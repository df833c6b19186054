import Derived.Test.YtigaphnafnpfnaaGreatDoorQVE10
set_option linter.unusedVariables false
set_option linter.unusedSimpArgs false
namespace Go.Proofs.YtigaphnafnpfnaaGreatDoor
open Go.RowKit
attribute [local go_sem ↓] Go.wp_at_zero Go.wp_at_succ
def RS.gX(S:RS)(i:Nat)(o:Ord):RS:={ S with l:=S.l.set i o }
theorem oM{l:List Ord}{i:Nat}{o:Ord}(h:i<l.length):ax (l.set i o) i=o:=Le (by rw[List.getElem?_set_self h])
theorem x8{l:List Ord}{i k:Nat}{o:Ord}(h:i≠k):ax (l.set i o) k=ax l k:=by
 unfold ax;rw[List.getD_eq_getElem?_getD,List.getD_eq_getElem?_getD,List.getElem?_set_ne h]
def RS.tr(S:RS)(i k:Nat)(n:Int):Tr :=
 { num:=(S.t.length:Int)+1,sym:=(ax S.l i).sym,af:=(ax S.l k).af,aI:=n,kZ:=if (ax S.l i).side=1 then (ax S.l k).id else (ax S.l i).id,fM:=if (ax S.l i).side=1 then (ax S.l i).id else (ax S.l k).id,day:=S.day }
def RS.xW(S:RS)(i k:Nat)(n:Int):RS :=
 (S.gX k { ax S.l k with aK:=wrap64 ((ax S.l k).aK-n),filled:=wrap64 ((ax S.l k).filled+n) }).gX i { ax S.l i with filled:=wrap64 ((ax S.l i).filled+n) }
def RS.oV(S:RS)(i k:Nat)(n:Int):RS:={ S.xW i k n with t:=S.t++[⟨S.tr i k n,true⟩],told:=S.told++[⟨0,1,S.tr i k n⟩] }
end Go.Proofs.YtigaphnafnpfnaaGreatDoor
