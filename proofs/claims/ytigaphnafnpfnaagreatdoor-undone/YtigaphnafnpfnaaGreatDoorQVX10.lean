import Derived.Test.YtigaphnafnpfnaaGreatDoorQVX8
import Derived.Test.YtigaphnafnpfnaaGreatDoorQVF3
set_option linter.unusedVariables false
set_option linter.unusedSimpArgs false
namespace Go.Proofs.YtigaphnafnpfnaaGreatDoor
open Go.RowKit
attribute [local go_sem ↓] Go.wp_at_zero Go.wp_at_succ
structure RC where
 S:RS
 left:Int
 filled:Int
 count:Int
 first:Int
def RC.o(c:RC)(i:Nat):iL:=cZ (ax c.S.l i)
def RC.BI(c:RC)(i:Nat):Option Nat:=gz c.S.l (c.o i)
def RC.QA(c:RC)(k:Nat):Int:=if (ax c.S.l k).aK<c.left then (ax c.S.l k).aK else c.left
def RC.step(c:RC)(i k:Nat):RC :=
 if (ax c.S.l k).aA=(ax c.S.l i).aA then { c with S:=c.S.gX k { ax c.S.l k with bQ:=wrap64 ((ax c.S.l k).bQ+(ax c.S.l k).aK),aK:=0 } }
 else ⟨c.S.oV i k (c.QA k),wrap64 (c.left-c.QA k),wrap64 (c.filled+c.QA k),wrap64 (c.count+1),if wrap64 (c.count+1)=1 then (c.S.t.length:Int)+1 else c.first⟩
inductive DC (i:Nat):Nat->RC->RC->Prop
 | stop (f:Nat) (c:RC) (h:¬0<c.left\/c.BI i=none):DC i f c c
 | go (f k:Nat) (c c':RC) (h:0<c.left) (hk:c.BI i=some k) (e:DC i f (c.step i k) c'):DC i (f+1) c c'
theorem ni(l:List Ord)(o:iL):∀i b,jY l o i=some b->ku o (ax l b)=true
 | 0,b,h=>by simp[jY]at h
 | i+1,b,h=>by
   unfold jY at h
   split at h
   ·rename_i hg
    split at h
    ·simp at h;subst h;exact hg
    ·rename_i b' hb'
     split at h <;> simp at h <;> subst h
     ·exact hg
     ·exact ni l o i b' hb'
   ·exact ni l o i b h
theorem Rk(c:RC)(i k:Nat):(c.step i k).S.l.length=c.S.l.length:=by
 unfold RC.step
 split
 ·simp[RS.gX]
 ·simp[RS.oV,RS.xW,RS.gX]
theorem J6(c:RC)(i k:Nat):(c.step i k).S.t.length<=c.S.t.length+1/\(c.step i k).S.told.length<=c.S.told.length+1:=by
 unfold RC.step
 split
 ·simp[RS.gX]
 ·simp[RS.oV]
def yA(i:Nat)(c:RC):RS:=if c.left=0 then c.S else if eU (ax c.S.l i).kind=true then c.S.pV i c.left else c.S.gX i { ax c.S.l i with bQ:=wrap64 ((ax c.S.l i).bQ+c.left) }
def Yq(i:Nat)(c:RC):Value:=if c.left=0 then lq c.filled 0 0 c.first c.count else if eU (ax c.S.l i).kind=true then lq c.filled c.left 0 c.first c.count else lq c.filled 0 c.left c.first c.count
end Go.Proofs.YtigaphnafnpfnaaGreatDoor
