import Derived.Test.YtigaphnafnpfnaaGreatDoorQVU4
set_option linter.unusedVariables false
set_option linter.unusedSimpArgs false
namespace Go.Proofs.YtigaphnafnpfnaaGreatDoor
open Go.RowKit
attribute [local go_sem ↓] Go.wp_at_zero Go.wp_at_succ
def RS.Vm(S:RS)(k:Nat)(x:Tg):RS:=(S.aay k ⟨x.t,false⟩).aaD 2 x.t
theorem GI{l:List Ord}{i:Nat}{y:Ord}(hi:i<l.length)(hy:y.id=(ax l i).id)(id:Int):jX (l.set i y) id=jX l id:=by
 unfold jX
 induction l generalizing i with
 | nil=>simp at hi
 | cons a l ih =>
   cases i with
   | zero =>
     have:(ax (a :: l) 0).id=a.id:=rfl
     rw[this]at hy
     simp only[List.set_cons_zero,List.findIdx?_cons,hy]
   | succ i =>
     have hi2:i<l.length:=by simpa using hi
     have:=ih hi2 (by rw[hy];rfl)
     simp only[List.set_cons_succ,List.findIdx?_cons,this]
theorem RS.rU(S:RS){i:Nat}(hi:i<S.l.length)(n:Int)(again:Bool)(id:Int):jX (S.fQ i n again).l id=jX S.l id/\(S.fQ i n again).l.length=S.l.length:=by
 unfold RS.fQ
 split
 ·unfold RS.pV RS.rQ RS.gX
  simp only[List.set_set,List.length_set,and_true]
  exact GI hi (by rw[oM hi];rfl) id
 ·unfold RS.gX
  simp only[List.length_set,and_true]
  exact GI hi (y:={ ET (ax S.l i) n with bQ:=wrap64 ((ax S.l i).bQ+n) }) rfl id
def D5(o:Ord):Ord:=if o.kind=1 then { o with exp:=wrap64 (o.exp+o.aK),aK:=0 } else o
def RS.qg(S:RS):RS:={ S with l:=S.l.map D5,told:=S.told++[⟨0,4,⟨0,⟨#[]⟩,0,0,0,0,S.day⟩⟩],day:=wrap64 (S.day+1) }
end Go.Proofs.YtigaphnafnpfnaaGreatDoor
