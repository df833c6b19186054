import Derived.Test.YtigaphnafnpfnaaGreatDoorQVX14
import Derived.Test.YtigaphnafnpfnaaGreatDoorQVX6
import Derived.Test.YtigaphnafnpfnaaGreatDoorQVY3
set_option linter.unusedVariables false
set_option linter.unusedSimpArgs false
namespace Go.Proofs.YtigaphnafnpfnaaGreatDoor
open Go.RowKit
attribute [local go_sem ↓] Go.wp_at_zero Go.wp_at_succ
def Et(o:iL):Ord:=⟨o.id,o.aA,o.sym,o.side,o.kind,o.af,o.aI,o.aI,0,0,0,0,0⟩
def RS.add(S:RS)(o:iL):RS:={ S with l:=S.l++[Et o] }
open Go.RowKit Go.Maps
theorem JF(word:ByteArray)(a b:Int)(w:World)(hT:oC w)(h0:0<word.size)(hw:word.size<=100)(ha:gW a)(hb:gW b) :
 (0<(gY (uw a b) word 2).size/\(gY (uw a b) word 2).size<=290)/\∀W,au aP w W->∀sb cap,W.cell? ⟨sb,0,none⟩=some (.int .i64 a)->W.cell? ⟨sb,1,none⟩=some (.int .i64 b) ->
  Calls Tryz.prog 65 #[.string word,.slice (some ⟨sb,0,none⟩) 2 cap] W fun e w'=>e=.returned (.string (gY (uw a b) word 2))/\au aP w w':=by
 have h:=qw word (uw a b) 2 w hT h0 hw (by omega) (fun i hi=>by
  match i,hi with
  | 0,_=>exact ha
  | 1,_=>exact hb)
 refine⟨h.1,fun W k sb cap c0 c1=>h.2 W k sb cap (fun i hi=>?_)⟩
 match i,hi with
 | 0,_=>exact c0
 | 1,_=>exact c1
def Lg.lI(G:Lg)(k tb:Nat)(x:Tg)(p:Int):Lg:=((G.begun.jf k x p).told 3 (x.t.at p)).aV [.iE tb x.t.af]
end Go.Proofs.YtigaphnafnpfnaaGreatDoor
