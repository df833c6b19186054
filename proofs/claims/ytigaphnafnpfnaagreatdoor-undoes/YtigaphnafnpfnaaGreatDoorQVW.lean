import Derived.WalkKit
import Derived.WalkSpells
import Derived.WalkLawsBesides
import Derived.Maps.OwnSet
import Derived.Test.YtigaphnafnpfnaaGreatDoorRows
import Derived.Deep.QuietTactic
import Derived.BigQuiet
import Derived.BigRegion
import Derived.Deep.RegionWith
import Derived.Deep.LoopGhost
import Derived.Deep.RegionHeld3
import Derived.Deep.DrawnRows
import Derived.Deep.AppendLies
import Derived.Shelf.SlLaysF
import Derived.RangeFuncBox
import Derived.RangeFuncNested
import Derived.RangeFuncBound
import Derived.RangeFuncCalls
import Derived.RangeFuncLeaves
import Derived.Shelf.Abstract
import Derived.Shelf.RegionOpen
import Derived.OwnWalkIn
import Derived.TacticsInMore
import Derived.LoopNIn
import Derived.LoopIn
import Derived.Maps.AppendAt
set_option linter.unusedVariables false
set_option linter.unusedSimpArgs false
set_option maxHeartbeats 8000000
set_option maxRecDepth 100000
namespace Go.Proofs.YtigaphnafnpfnaaGreatDoor
open Go.RowKit
theorem ai{p:Prop}(h:p):Hid p:=h
theorem ae{p:Prop}(h:Hid p):p:=h
structure aj(S:Nat->Prop)(w w':World):Prop where
 os:w'.os=w.os
 tape:w'.tape=w.tape
 output:w'.output=w.output
 size:w.heap.size<=w'.heap.size
 block:∀k,k<w.heap.size->¬S k->w'.heap[k]?=w.heap[k]?
def aA:Nat->Prop:=fun _=>False
theorem aj.refl(S:Nat->Prop)(w:World):aj S w w:=⟨rfl,rfl,rfl,Nat.le_refl _,fun _ _ _=>rfl⟩
theorem aj.trans{S:Nat->Prop}{a b c:World}(h:aj S a b)(k:aj S b c):aj S a c :=
 ⟨k.os.trans h.os,k.tape.trans h.tape,k.output.trans h.output,Nat.le_trans h.size k.size,fun i d hs=>(k.block i (Nat.lt_of_lt_of_le d h.size) hs).trans (h.block i d hs)⟩
theorem aj.mono{S S':Nat->Prop}{a b:World}(h:aj S a b)(c:∀k,S k->S' k):aj S' a b :=
 ⟨h.os,h.tape,h.output,h.size,fun k d hs=>h.block k d (fun x=>hs (c k x))⟩
theorem aj.aP{S:Nat->Prop}{a b:World}(h:aj aA a b):aj S a b:=h.mono (fun _ x=>x.elim)
theorem aj.from{S:Nat->Prop}{a b c:World}(h:aj S a b)(k:aj (fun i=>S i\/a.heap.size<=i) b c):aj S a c :=
 ⟨k.os.trans h.os,k.tape.trans h.tape,k.output.trans h.output,Nat.le_trans h.size k.size,fun i d hs=>(k.block i (Nat.lt_of_lt_of_le d h.size) (fun x=>x.elim hs (fun y=>by omega))).trans (h.block i d hs)⟩
theorem aj.drew{S:Nat->Prop}{a w:World}(h:aj S a w):aj S a w.drew:=⟨h.os,h.tape,h.output,h.size,h.block⟩
theorem aj.drewN{S:Nat->Prop}{a w:World}(h:aj S a w)(n:Nat):aj S a (w.drewN n):=⟨h.os,h.tape,h.output,h.size,h.block⟩
theorem aj.alloc{S:Nat->Prop}{a w:World}(h:aj S a w)(o:Obj):aj S a (w.alloc o) :=
 ⟨h.os,h.tape,h.output,by have:=h.size;simp;omega,fun k b hs=>(Below.heap_alloc _ _ _ (Nat.lt_of_lt_of_le b h.size)).trans (h.block k b hs)⟩
theorem aj.setCell{S:Nat->Prop}{a w:World}(h:aj S a w){p:Addr}(b:S p.block\/a.heap.size<=p.block)(d:Value):aj S a (w.setCell p d) :=
 ⟨h.os,h.tape,h.output,by have:=h.size;simpa [World.setCell] using this,fun k c hs=>(Below.heap_setCell _ _ _ _ (by rintro rfl;rcases b with b | b;exact hs b;omega)).trans (h.block k c hs)⟩
theorem aj.tZ{w w':World}(h:Below w.heap.size w w'):aj aA w w':=⟨h.os,h.tape,h.output,h.size,fun k a _=>h.block k a⟩
theorem aj.below{w w':World}(h:aj aA w w'):Below w.heap.size w w':=⟨h.os,h.tape,h.output,h.size,fun k a=>h.block k a (fun x=>x)⟩
theorem aj.Um{S:Nat->Prop}{B:Nat}{w w':World}(h:aj S w w')(b:B<=w.heap.size)(a:∀k,S k->B<=k):Below B w w':=⟨h.os,h.tape,h.output,h.size,fun k c=>h.block k (by omega) (fun x=>by have:=a k x;omega)⟩
theorem aj.grown{S:Nat->Prop}{a w w':World}{c:Option Nat}(h:aj S a w)(b:w.grownBy w' c)(f:∀k,c=some k->S k\/a.heap.size<=k):aj S a w' :=
 h.from ⟨b.os,b.tape,b.output,b.size,fun k d hs=>b.block k d (fun e=>by rcases f k e.symm with x | x;exact hs (.inl x);exact hs (.inr x))⟩
def au(w:World)(b:Nat)(c:Array Value)(t:TypeId):Prop:=w.heap[b]?=some (.cells c t)
theorem au.lt{w:World}{b:Nat}{c:Array Value}{t:TypeId}(h:au w b c t):b<w.heap.size:=(Array.getElem?_eq_some_iff.1 h).1
theorem au.cell{w:World}{b:Nat}{c:Array Value}{t:TypeId}(h:au w b c t)(i:Nat):w.cell? ⟨b,i,none⟩=c[i]?:=by
 unfold au at h;simp[World.cell?,h]
theorem au.frozen{w:World}{b:Nat}{c:Array Value}{t:TypeId}(h:au w b c t)(i:Nat):w.frozen? ⟨b,i,none⟩=false:=by
 unfold au at h;simp[World.frozen?,h]
theorem au.ne{w:World}{b b':Nat}{c e:Array Value}{t d:TypeId}(h:au w b c t)(a:au w b' e d)(f:t≠d):b≠b':=by
 rintro rfl;unfold au at h a;rw[h]at a;simp at a;exact f a.2
theorem au.uniq{w:World}{b:Nat}{c d:Array Value}{t e:TypeId}(h:au w b c t)(a:au w b d e):c=d:=by
 unfold au at h a;rw[h]at a;simp at a;exact a.1
theorem au.set{w:World}{b:Nat}{c:Array Value}{t:TypeId}(h:au w b c t)(i:Nat)(v:Value):au (w.setCell ⟨b,i,none⟩ v) b (c.setIfInBounds i v) t:=by
 unfold au at h ⊢;simp[World.setCell,Array.getElem?_modify,h]
theorem au.other{w:World}{b:Nat}{c:Array Value}{t:TypeId}(h:au w b c t){a:Addr}(d:b≠a.block)(v:Value):au (w.setCell a v) b c t:=by
 unfold au at h ⊢;rw[Below.heap_setCell _ _ _ _ d];exact h
theorem au.alloc{w:World}{b:Nat}{c:Array Value}{t:TypeId}(h:au w b c t)(o:Obj):au (w.alloc o) b c t:=by
 have:=h.lt;unfold au at h ⊢;rw[Below.heap_alloc _ _ _ this];exact h
theorem au.new(w:World)(c:Array Value)(t:TypeId):au (w.alloc (.cells c t)) w.heap.size c t:=by
 unfold au;show (w.heap.push _)[w.heap.size]?=_;simp
theorem au.drew{w:World}{b:Nat}{c:Array Value}{t:TypeId}(h:au w b c t):au w.drew b c t:=h
theorem au.drewN{w:World}{b:Nat}{c:Array Value}{t:TypeId}(h:au w b c t)(n:Nat):au (w.drewN n) b c t:=h
theorem aj.ay{S:Nat->Prop}{w w':World}(k:aj S w w'){b:Nat}{c:Array Value}{t:TypeId}(h:au w b c t)(hs:¬S b):au w' b c t:=by
 have:=h.lt;unfold au at h ⊢;rw[k.block b this hs];exact h
theorem aj.cell{S:Nat->Prop}{w w':World}(k:aj S w w'){p:Addr}{v:Value}(h:w.cell? p=some v)(hs:¬S p.block):w'.cell? p=some v :=
 (World.cell?_of_block (k.block p.block (World.block_lt_of_cell? w p h) hs)).trans h
abbrev II(n:Int):Value:=.int .i64 n
abbrev PP(b:Nat):Value:=.pointer (some ⟨b,0,none⟩)
abbrev CC(w:World)(b i:Nat)(v:Value):Prop:=w.cell? ⟨b,i,none⟩=some v
theorem idd{p:Prop}(h:p):p:=h
theorem dQ{α:Type}(e:α):∃x,e=x:=⟨_,rfl⟩
theorem gy{α:Type}(e:α):∃x,x=e:=⟨_,rfl⟩
theorem au.c5{w:World}{b:Nat}{t:TypeId}{a0 a a2 a3 a4:Value}(h:au w b #[a0,a,a2,a3,a4] t):CC w b 0 a0/\CC w b 1 a/\CC w b 2 a2/\CC w b 3 a3/\CC w b 4 a4:=⟨h.cell 0,h.cell 1,h.cell 2,h.cell 3,h.cell 4⟩
theorem au.c7{w:World}{b:Nat}{t:TypeId}{a0 a a2 a3 a4 a5 c:Value}(h:au w b #[a0,a,a2,a3,a4,a5,c] t):CC w b 0 a0/\CC w b 1 a/\CC w b 2 a2/\CC w b 3 a3/\CC w b 4 a4/\CC w b 5 a5/\CC w b 6 c:=⟨h.cell 0,h.cell 1,h.cell 2,h.cell 3,h.cell 4,h.cell 5,h.cell 6⟩
theorem au.c8{w:World}{b:Nat}{t:TypeId}{a0 a a2 a3 a4 a5 c d:Value}(h:au w b #[a0,a,a2,a3,a4,a5,c,d] t):CC w b 0 a0/\CC w b 1 a/\CC w b 2 a2/\CC w b 3 a3/\CC w b 4 a4/\CC w b 5 a5/\CC w b 6 c/\CC w b 7 d:=⟨h.cell 0,h.cell 1,h.cell 2,h.cell 3,h.cell 4,h.cell 5,h.cell 6,h.cell 7⟩
theorem au.c9{w:World}{b:Nat}{t:TypeId}{a0 a a2 a3 a4 a5 c d e:Value}(h:au w b #[a0,a,a2,a3,a4,a5,c,d,e] t):CC w b 0 a0/\CC w b 1 a/\CC w b 2 a2/\CC w b 3 a3/\CC w b 4 a4/\CC w b 5 a5/\CC w b 6 c/\CC w b 7 d/\CC w b 8 e:=⟨h.cell 0,h.cell 1,h.cell 2,h.cell 3,h.cell 4,h.cell 5,h.cell 6,h.cell 7,h.cell 8⟩
theorem au.c12{w:World}{b:Nat}{t:TypeId}{a0 a a2 a3 a4 a5 e f g a9 c d:Value}(h:au w b #[a0,a,a2,a3,a4,a5,e,f,g,a9,c,d] t):CC w b 0 a0/\CC w b 1 a/\CC w b 2 a2/\CC w b 3 a3/\CC w b 4 a4/\CC w b 5 a5/\CC w b 6 e/\CC w b 7 f/\CC w b 8 g/\CC w b 9 a9/\CC w b 10 c/\CC w b 11 d:=⟨h.cell 0,h.cell 1,h.cell 2,h.cell 3,h.cell 4,h.cell 5,h.cell 6,h.cell 7,h.cell 8,h.cell 9,h.cell 10,h.cell 11⟩
theorem au.JK{w:World}{b:Nat}{t:TypeId}{a0 a a2 a3 a4 a5 f g i a9 c d e:Value}(h:au w b #[a0,a,a2,a3,a4,a5,f,g,i,a9,c,d,e] t):CC w b 0 a0/\CC w b 1 a/\CC w b 2 a2/\CC w b 3 a3/\CC w b 4 a4/\CC w b 5 a5/\CC w b 6 f/\CC w b 7 g/\CC w b 8 i/\CC w b 9 a9/\CC w b 10 c/\CC w b 11 d/\CC w b 12 e:=⟨h.cell 0,h.cell 1,h.cell 2,h.cell 3,h.cell 4,h.cell 5,h.cell 6,h.cell 7,h.cell 8,h.cell 9,h.cell 10,h.cell 11,h.cell 12⟩
theorem aZ{a b:Prop}(h0:a)(c:b):Hid a/\Hid b:=⟨ai h0,ai c⟩
theorem fK{a b c:Prop}(h0:a)(d:b)(e:c):Hid a/\Hid b/\Hid c:=⟨ai h0,ai d,ai e⟩
theorem gY{a b c d:Prop}(h0:a)(e:b)(f:c)(g:d):Hid a/\Hid b/\Hid c/\Hid d:=⟨ai h0,ai e,ai f,ai g⟩
theorem mi{a b c d e:Prop}(h0:a)(f:b)(g:c)(i:d)(j:e):Hid a/\Hid b/\Hid c/\Hid d/\Hid e:=⟨ai h0,ai f,ai g,ai i,ai j⟩
theorem nH{a b c d e f:Prop}(h0:a)(g:b)(i:c)(j:d)(k:e)(l:f):Hid a/\Hid b/\Hid c/\Hid d/\Hid e/\Hid f:=⟨ai h0,ai g,ai i,ai j,ai k,ai l⟩
theorem aaf{a b c d e f g:Prop}(h0:a)(i:b)(j:c)(k:d)(l:e)(m:f)(n:g):Hid a/\Hid b/\Hid c/\Hid d/\Hid e/\Hid f/\Hid g:=⟨ai h0,ai i,ai j,ai k,ai l,ai m,ai n⟩
theorem Ha{a b c d e f g i:Prop}(h0:a)(j:b)(k:c)(l:d)(m:e)(n:f)(o:g)(p:i):Hid a/\Hid b/\Hid c/\Hid d/\Hid e/\Hid f/\Hid g/\Hid i:=⟨ai h0,ai j,ai k,ai l,ai m,ai n,ai o,ai p⟩
theorem wL{a b c d e f g i j:Prop}(h0:a)(k:b)(l:c)(m:d)(n:e)(o:f)(p:g)(q:i)(r:j):Hid a/\Hid b/\Hid c/\Hid d/\Hid e/\Hid f/\Hid g/\Hid i/\Hid j:=⟨ai h0,ai k,ai l,ai m,ai n,ai o,ai p,ai q,ai r⟩
theorem QG{a b c d e f g i j k:Prop}(h0:a)(l:b)(m:c)(n:d)(o:e)(p:f)(q:g)(r:i)(s:j)(t:k):Hid a/\Hid b/\Hid c/\Hid d/\Hid e/\Hid f/\Hid g/\Hid i/\Hid j/\Hid k:=⟨ai h0,ai l,ai m,ai n,ai o,ai p,ai q,ai r,ai s,ai t⟩
theorem QH{a b d e f g i j k l c:Prop}(h0:a)(m:b)(o:d)(p:e)(q:f)(r:g)(s:i)(t:j)(u:k)(v:l)(n:c):Hid a/\Hid b/\Hid d/\Hid e/\Hid f/\Hid g/\Hid i/\Hid j/\Hid k/\Hid l/\Hid c:=⟨ai h0,ai m,ai o,ai p,ai q,ai r,ai s,ai t,ai u,ai v,ai n⟩
theorem abK{a b e f g i j k l m c d:Prop}(h0:a)(n:b)(q:e)(r:f)(s:g)(t:i)(u:j)(v:k)(w:l)(x:m)(o:c)(p:d):Hid a/\Hid b/\Hid e/\Hid f/\Hid g/\Hid i/\Hid j/\Hid k/\Hid l/\Hid m/\Hid c/\Hid d:=⟨ai h0,ai n,ai q,ai r,ai s,ai t,ai u,ai v,ai w,ai x,ai o,ai p⟩
theorem jL{a b q r:Prop}(h:q):a\/b\/q\/r:=.inr (.inr (.inl h))
theorem or2{a b q:Prop}(h:q):a\/b\/q:=.inr (.inr h)
theorem iQ{a b c q r:Prop}(h:q):a\/b\/c\/q\/r:=.inr (.inr (.inr (.inl h)))
theorem BA{a b c q:Prop}(h:q):a\/b\/c\/q:=.inr (.inr (.inr h))
theorem qo{a b c d q r:Prop}(h:q):a\/b\/c\/d\/q\/r:=.inr (.inr (.inr (.inr (.inl h))))
theorem xA{a b c d q:Prop}(h:q):a\/b\/c\/d\/q:=.inr (.inr (.inr (.inr h)))
theorem ol5{a b c d e q r:Prop}(h:q):a\/b\/c\/d\/e\/q\/r:=.inr (.inr (.inr (.inr (.inr (.inl h)))))
theorem vk{a b c d e q:Prop}(h:q):a\/b\/c\/d\/e\/q:=.inr (.inr (.inr (.inr (.inr h))))
theorem XZ{a b c d e f q r:Prop}(h:q):a\/b\/c\/d\/e\/f\/q\/r:=.inr (.inr (.inr (.inr (.inr (.inr (.inl h))))))
theorem or6{a b c d e f q:Prop}(h:q):a\/b\/c\/d\/e\/f\/q:=.inr (.inr (.inr (.inr (.inr (.inr h)))))
theorem ol7{a b c d e f g q r:Prop}(h:q):a\/b\/c\/d\/e\/f\/g\/q\/r:=.inr (.inr (.inr (.inr (.inr (.inr (.inr (.inl h)))))))
theorem or7{a b c d e f g q:Prop}(h:q):a\/b\/c\/d\/e\/f\/g\/q:=.inr (.inr (.inr (.inr (.inr (.inr (.inr h))))))
theorem ol8{a b c d e f g i q r:Prop}(h:q):a\/b\/c\/d\/e\/f\/g\/i\/q\/r:=.inr (.inr (.inr (.inr (.inr (.inr (.inr (.inr (.inl h))))))))
theorem X5{a b c d e f g i q:Prop}(h:q):a\/b\/c\/d\/e\/f\/g\/i\/q:=.inr (.inr (.inr (.inr (.inr (.inr (.inr (.inr h)))))))
attribute [local go_sem ↓] Go.wp_at_zero Go.wp_at_succ
abbrev CT(f:Nat)(a:Array Value)(w:World)(Q:Ending->World->Prop):Prop:=Calls Tryz.prog f a w Q
theorem Ol(a:Int)(w:World):CT 159 #[II a] w fun e w'=>e=.returned (.bool false)/\w'=w:=by
 go_enter Tryz.func159,Tryz.ntmps159;go_wp2;go_ret;exact⟨by simp,rfl⟩
def mP(a b:Int):Int:=if a<b then -1 else if b<a then 1 else 0
theorem jl(a b:Int)(w:World):CT 130 #[II a,II b] w fun e w'=>e=.returned (II (mP a b))/\w'=w:=by
 go_enter Tryz.func130,Tryz.ntmps130;go_wp2_with (go_at_call 159;refine (Ol _ _).mono ?_;rintro e w' ⟨rfl,rfl⟩)
 all_goals (go_ret;refine⟨congrArg (fun n=>Ending.returned (II n)) ?_,rfl⟩)
 ·rw[mP,if_pos (by omega)]
 ·rw[mP,if_neg (by omega),if_pos (by omega)]
 ·rw[mP,if_neg (by omega),if_neg (by omega)]
def RN(p q:Int):Int:=if p=0 then q else p
theorem Fa(g cap:Nat)(p q:Int)(w:World)(h0:w.cell? ⟨g,0,none⟩=some (II p))(b:w.cell? ⟨g,1,none⟩=some (II q)) :
 CT 131 #[.slice (some ⟨g,0,none⟩) 2 cap] w fun e w'=>e=.returned (II (RN p q))/\w'=w:=by
 by_cases a:p=0
 ·subst a;by_cases c:q=0
  ·subst c;go_enter Tryz.func131,Tryz.ntmps131;go_wp2;go_loop [5,8] (fun _ i=>∃k:Nat,k<=2/\i=II k) (fun _ i=>2-(intOf i).toNat)
   case atStart=>exact⟨0,by omega,rfl⟩
   case round =>
    obtain⟨k,d,rfl⟩:=hrel;by_cases j:k<2
    ·have f:CC w g k (II 0):=by
      have:k=0\/k=1:=by omega
      rcases this with rfl | rfl
      ·exact h0
      ·exact b
     clear h0 b;go_wp2;go_round
     case rel=>exact⟨k+1,by omega,by go_num⟩
     case measure=>simp[intOf];omega
    ·go_wp2;go_ret;exact⟨by simp[RN],rfl⟩
  ·have m:(q != 0)=true:=by simp[c]
   go_enter Tryz.func131,Tryz.ntmps131;go_wp2;go_loop [5,8] (fun _ i=>∃k:Nat,k<=1/\i=II k) (fun _ i=>2-(intOf i).toNat)
   case atStart=>exact⟨0,by omega,rfl⟩
   case round =>
    obtain⟨k,d,rfl⟩:=hrel;have:k=0\/k=1:=by omega
    rcases this with rfl | rfl
    ·go_wp2;go_round
     case rel=>exact⟨1,by omega,by go_num⟩
     case measure=>simp[intOf]
    ·go_wp2;go_ret;exact⟨by simp[RN],rfl⟩
 ·have l:(p != 0)=true:=by simp[a]
  go_enter Tryz.func131,Tryz.ntmps131;go_wp2;go_loop [5,8] (fun _ i=>i=II 0) (fun _ _=>0)
  case atStart=>rfl
  case round =>
   subst hrel;go_wp2;go_ret;exact⟨by simp[RN,a],rfl⟩
structure Ord where
 id:Int
 aG:Int
 sym:ByteArray
 side:Int
 kind:Int
 af:Int
 az:Int
 entered:Int
 aH:Int
 filled:Int
 aX:Int
 exp:Int
 place:Int
def Ord.cells(o:Ord)(idx:Int):Array Value :=
 #[II o.id,II o.aG,.string o.sym,II o.side,II o.kind,II o.af,II o.az,II o.entered,II o.aH,II o.filled,II o.aX,II o.exp,II o.place,II idx]
def bV(w:World)(b:Nat)(o:Ord)(idx:Int):Prop:=au w b (o.cells idx) 116
theorem bV.c7{w:World}{b:Nat}{o:Ord}{a:Int}(h:bV w b o a):CC w b 0 (II o.id)/\CC w b 1 (II o.aG)/\CC w b 2 (.string o.sym)/\CC w b 3 (II o.side)/\CC w b 4 (II o.kind)/\CC w b 5 (II o.af)/\CC w b 6 (II o.az):=⟨h.cell 0,h.cell 1,h.cell 2,h.cell 3,h.cell 4,h.cell 5,h.cell 6⟩
theorem bV.c12{w:World}{b:Nat}{o:Ord}{a:Int}(h:bV w b o a):CC w b 0 (II o.id)/\CC w b 1 (II o.aG)/\CC w b 2 (.string o.sym)/\CC w b 3 (II o.side)/\CC w b 4 (II o.kind)/\CC w b 5 (II o.af)/\CC w b 6 (II o.az)/\CC w b 7 (II o.entered)/\CC w b 8 (II o.aH)/\CC w b 9 (II o.filled)/\CC w b 10 (II o.aX)/\CC w b 11 (II o.exp):=⟨h.cell 0,h.cell 1,h.cell 2,h.cell 3,h.cell 4,h.cell 5,h.cell 6,h.cell 7,h.cell 8,h.cell 9,h.cell 10,h.cell 11⟩
def kP(a b:Ord):Int :=
 let p:=mP a.af b.af;let p':=if a.side=0 then -p else p
 RN p' (mP a.place b.place)
theorem Qc(a b:Int):-1<=mP a b/\mP a b<=1:=by unfold mP;split <;> (try split) <;> omega
theorem JI(a b:Nat)(c d:Ord)(n o:Int)(w:World)(f:bV w a c n)(g:bV w b d o) :
 CT 83 #[PP a,PP b] w fun e w'=>e=.returned (II (kP c d))/\Below w.heap.size w w':=by
 have a3:=f.cell 3;have a5:=f.cell 5;have j:=f.cell 12;have l:=g.cell 5;have k:=g.cell 12;have p:=f.lt;have lb:=g.lt;simp only[Ord.cells]at a3 a5 j l k;simp at a3 a5 j l k;clear f g;obtain⟨q,r⟩:=Qc c.af d.af;by_cases hs:c.side=0
 ·have m:(c.side == 0)=true:=by simp[hs]
  have i:Hid (kP c d=RN (-(mP c.af d.af)) (mP c.place d.place)):=by show kP c d=_;simp only[kP,hs,if_true]
  clear hs;go_enter Tryz.func83,Tryz.ntmps83;go_wp2;go_quiet ((go_at_call 130;exact Calls.quiet_of_same (jl _ _ _)));go_wp2;go_region_held3 (fun w'=>w'.cell? ⟨a,12,none⟩=some (II c.place)/\w'.cell? ⟨b,12,none⟩=some (II d.place)) (go_keep)
   (first | (go_at_call 130;refine (jl _ _ _).mono ?_;rintro e w' ⟨rfl,rfl⟩) | (go_at_call 131;refine (Fa _ _ (-(mP c.af d.af)) (mP c.place d.place) _ ?_ ?_).mono ?_;(exact (au.new _ _ _).cell 0);(exact (au.new _ _ _).cell 1);rintro e w' ⟨rfl,rfl⟩))
  go_wp2;go_ret;exact⟨by rw[i.out];rfl,((aj.refl aA w).drewN _ |>.alloc _).below⟩
 ·have m:(c.side == 0)=false:=by simp[hs]
  have i:Hid (kP c d=RN (mP c.af d.af) (mP c.place d.place)):=by show kP c d=_;simp only[kP,hs,if_false]
  clear hs;go_enter Tryz.func83,Tryz.ntmps83;go_wp2;go_quiet ((go_at_call 130;exact Calls.quiet_of_same (jl _ _ _)));go_wp2;go_region_held3 (fun w'=>w'.cell? ⟨a,12,none⟩=some (II c.place)/\w'.cell? ⟨b,12,none⟩=some (II d.place)) (go_keep)
   (first | (go_at_call 130;refine (jl _ _ _).mono ?_;rintro e w' ⟨rfl,rfl⟩) | (go_at_call 131;refine (Fa _ _ (mP c.af d.af) (mP c.place d.place) _ ?_ ?_).mono ?_;(exact (au.new _ _ _).cell 0);(exact (au.new _ _ _).cell 1);rintro e w' ⟨rfl,rfl⟩))
  go_wp2;go_ret;exact⟨by rw[i.out];rfl,((aj.refl aA w).drewN _ |>.alloc _).below⟩
def jm(a b:Ord):Bool:=decide (kP a b<0)
theorem Q9(c n cap i j a b:Nat)(f g:Ord)(k l:Int)(w:World)(t:i<n)(u:j<n)(s:n<=1000)
 (m:w.cell? ⟨c,i,none⟩=some (PP a)) (o:w.cell? ⟨c,j,none⟩=some (PP b)) (q:bV w a f k) (r:bV w b g l) :
 CT 257 #[.slice (some ⟨c,0,none⟩) n cap,II i,II j] w fun e w'=>e=.returned (.bool (jm f g))/\Below w.heap.size w w':=by
 have i0:(0:Int)<=(i:Int):=by omega
 have v:(i:Int)<(n:Int):=by omega
 have x:(0:Int)<=(j:Int):=by omega
 have y:(j:Int)<(n:Int):=by omega
 go_enter Tryz.func257,Tryz.ntmps257;go_wp2;go_region_held3 (fun w'=>w'.cell? ⟨c,i,none⟩=some (PP a)/\w'.cell? ⟨c,j,none⟩=some (PP b)) (go_keep)
  (first | (go_at_call 83;refine (JI _ _ f g k l _ ?_ ?_).mono ?_;(exact q.drew);(exact r.drew);rintro e B ⟨rfl,d⟩;have z:=(aj.tZ d).cell (p:=⟨c,i,none⟩) m id;have A:=(aj.tZ d).cell (p:=⟨c,j,none⟩) o id))
 go_wp2;go_ret;exact⟨rfl,((aj.refl aA w).drew.trans (aj.tZ d)).below⟩
theorem EP(v:Option Addr)(n cap:Nat)(w:World):CT 256 #[.slice v n cap] w fun e w'=>e=.returned (II n)/\w'=w:=by
 go_enter Tryz.func256,Tryz.ntmps256;go_wp2;go_ret;exact⟨rfl,rfl⟩
theorem SX(c n cap i j a b:Nat)(d f:Value)(w:World)(x:i<n)(z:j<n)(y:i≠j)(u:a≠b)(t:a≠c)(v:b≠c)
 (l:w.cell? ⟨c,i,none⟩=some (PP a)) (m:w.cell? ⟨c,j,none⟩=some (PP b))
 (r:w.frozen? ⟨c,i,none⟩=false) (s:w.frozen? ⟨c,j,none⟩=false) (g:w.cell? ⟨a,13,none⟩=some d) (k:w.cell? ⟨b,13,none⟩=some f) (o:w.frozen? ⟨a,13,none⟩=false) (p:w.frozen? ⟨b,13,none⟩=false) :
 CT 258 #[.slice (some ⟨c,0,none⟩) n cap,II i,II j] w fun e w'=>e=.returned (.tuple #[]) /\
  ∃q,w'=((((w.setCell ⟨c,i,none⟩ (PP b)).setCell ⟨c,j,none⟩ (PP a)).setCell ⟨b,13,none⟩ (II i)).setCell ⟨a,13,none⟩ (II j)).drewN q:=by
 have i0:(0:Int)<=(i:Int):=by omega
 have A:(i:Int)<(n:Int):=by omega
 have B:(0:Int)<=(j:Int):=by omega
 have C:(j:Int)<(n:Int):=by omega
 go_enter Tryz.func258,Tryz.ntmps258;go_wp2;go_region;go_wp2;go_region;go_wp2;go_end0;exact⟨rfl,2,rfl⟩
structure kR(w:World)(ab cap n:Nat)(h:Nat->Nat)(om:Nat->Ord):Prop where
 sD:∃cs,au w ab cs 114/\cs.size=cap/\∀i,i<n->cs[i]?=some (PP (h i))
 ord:∀i,i<n->bV w (h i) (om (h i)) i
 le:n<=cap
 small:n<=1000
 NR:cap<=maxLen
def Sd(ab n:Nat)(h:Nat->Nat):Nat->Prop:=fun b=>b=ab\/∃k,k<n/\b=h k
def sw(h:Nat->Nat)(i j:Nat):Nat->Nat:=fun k=>if k=i then h j else if k=j then h i else h k
theorem zG{d n:Nat}{h:Nat->Nat}{i j:Nat}(g:i<n)(l:j<n):Sd d n (sw h i j)=Sd d n h:=by
 funext b;apply propext;unfold Sd sw;constructor
 ·rintro (rfl | ⟨k,c,rfl⟩)
  ·exact .inl rfl
  ·right;split
   ·exact⟨j,l,rfl⟩
   ·split
    ·exact⟨i,g,rfl⟩
    ·exact⟨k,c,rfl⟩
 ·rintro (rfl | ⟨k,c,rfl⟩)
  ·exact .inl rfl
  ·right;by_cases a:k=i
   ·refine⟨j,l,?_⟩;split
    ·subst a;rename_i e;rw[e]
    ·rw[if_pos rfl,a]
   ·by_cases f:k=j
    ·exact⟨i,g,by rw[if_pos rfl,f]⟩
    ·exact⟨k,c,by rw[if_neg a,if_neg f]⟩
theorem Ord.CU{o o':Ord}{i j:Int}(h:o.cells i=o'.cells j):i=j/\o=o':=by
 cases o;cases o';simp[Ord.cells]at h
 simp_all
theorem kR.inj{w:World}{b cap n:Nat}{h:Nat->Nat}{om:Nat->Ord}(s:kR w b cap n h om){i j:Nat}(d:i<n)(f:j<n)(e:h i=h j):i=j:=by
 have a:=s.ord i d;have c:=s.ord j f;rw[e]at a;have:=(Ord.CU (au.uniq a c)).1;omega
theorem kR.aC{w w':World}{a cap n:Nat}{h:Nat->Nat}{om:Nat->Ord}(s:kR w a cap n h om){S:Nat->Prop}(k:aj S w w')(c:∀b,Sd a n h b->¬S b):kR w' a cap n h om:=by
 obtain⟨cs,e,f,g⟩:=s.sD;exact⟨⟨cs,k.ay e (c _ (.inl rfl)),f,g⟩,fun i d=>k.ay (s.ord i d) (c _ (.inr ⟨i,d,rfl⟩)),s.le,s.small,s.NR⟩
theorem zB.jW{w w':World}(h:∃q,w'=w.drewN q):aj aA w w':=by
 obtain⟨q,rfl⟩:=h;exact (aj.refl _ w).drewN q
theorem zB.ay{w w':World}(h:∃q,w'=w.drewN q){b:Nat}{c:Array Value}{t:TypeId}(k:au w b c t):au w' b c t:=(zB.jW h).ay k id
theorem kR.LC{w w':World}{a cap n:Nat}{h:Nat->Nat}{om:Nat->Ord}(s:kR w a cap n h om){i j:Nat}(l:i<n)(m:j<n)(v:i≠j)
 (p:∃q,w'=((((w.setCell ⟨a,i,none⟩ (PP (h j))).setCell ⟨a,j,none⟩ (PP (h i))).setCell ⟨h j,13,none⟩ (II i)).setCell ⟨h i,13,none⟩ (II j)).drewN q) :
 kR w' a cap n (sw h i j) om/\aj (Sd a n h) w w':=by
 obtain⟨cs,r,y,z⟩:=s.sD;have o:∀k,k<n->h k≠a:=fun k d=>au.ne (s.ord k d) r (by decide)
 have u:h i≠h j:=fun e=>v (s.inj l m e)
 have A:=s.le;refine⟨⟨⟨(cs.setIfInBounds i (PP (h j))).setIfInBounds j (PP (h i)),?_,by simpa using y,?_⟩,?_,s.le,s.small,s.NR⟩,?_⟩
 ·exact zB.ay p ((((r.set i _).set j _).other (fun e=>o j m e.symm) _).other (fun e=>o i l e.symm) _)
 ·intro k d;have:=z k d;unfold sw;by_cases f:k=i
  ·subst f;rw[if_pos rfl,Array.getElem?_setIfInBounds_ne (fun e=>v e.symm),Array.getElem?_setIfInBounds_self_of_lt (by omega)]
  ·rw[if_neg f];by_cases g:k=j
   ·subst g;rw[if_pos rfl,Array.getElem?_setIfInBounds_self_of_lt (by simp;omega)]
   ·rw[if_neg g,Array.getElem?_setIfInBounds_ne (fun e=>g e.symm),Array.getElem?_setIfInBounds_ne (fun e=>f e.symm),this]
 ·intro k d;unfold sw;have base:∀{b:Nat} {c:Array Value} {t:TypeId},au w b c t->b≠a->au ((w.setCell ⟨a,i,none⟩ (PP (h j))).setCell ⟨a,j,none⟩ (PP (h i))) b c t:=fun r x=>(r.other x _).other x _
  by_cases f:k=i
  ·subst f;rw[if_pos rfl];have:=(base (s.ord j m) (o j m)).set 13 (II (k:Int));exact zB.ay p (this.other (fun e=>u e.symm) _)
  ·rw[if_neg f];by_cases g:k=j
   ·subst g;rw[if_pos rfl];exact zB.ay p (((base (s.ord i l) (o i l)).other u _).set 13 _)
   ·rw[if_neg g];exact zB.ay p (((base (s.ord k d) (o k d)).other (fun e=>g (s.inj d m e)) _).other (fun e=>f (s.inj d l e)) _)
 ·refine aj.trans ?_ (zB.jW p).aP;exact ((((aj.refl _ w).setCell (.inl (.inl rfl)) _).setCell (.inl (.inl rfl)) _).setCell (.inl (.inr ⟨j,m,rfl⟩)) _).setCell (.inl (.inr ⟨i,l,rfl⟩)) _
def fE(om:Nat->Ord)(x y:Nat):Bool:=jm (om x) (om y)
def uQ(lt:Nat->Nat->Bool)(h:Nat->Nat)(j:Nat):Nat->Nat :=
 if hj:j=0 then h else
  if lt (h j) (h ((j-1) / 2)) then uQ lt (sw h ((j-1) / 2) j) ((j-1) / 2) else h
theorem Di(b cap n i j:Nat)(h:Nat->Nat)(om:Nat->Ord)(w:World)(hs:kR w b cap n h om)(c:i<n)(d:j<n) :
 CT 257 #[.slice (some ⟨b,0,none⟩) n cap,II i,II j] w fun e w'=>e=.returned (.bool (fE om (h i) (h j)))/\aj aA w w':=by
 obtain⟨cs,a,g,f⟩:=hs.sD;have:=hs.le;have:=hs.small;refine (Q9 b n cap i j (h i) (h j) (om (h i)) (om (h j)) i j w c d (by omega) ((a.cell i).trans (f i c)) ((a.cell j).trans (f j d)) (hs.ord i c) (hs.ord j d)).mono ?_;rintro e w' ⟨rfl,a⟩;exact⟨rfl,aj.tZ a⟩
theorem yg(a cap n i j:Nat)(h:Nat->Nat)(om:Nat->Ord)(w:World)(hs:kR w a cap n h om)(b:i<n)(c:j<n)(f:i≠j) :
 CT 258 #[.slice (some ⟨a,0,none⟩) n cap,II i,II j] w fun e w'=>e=.returned (.tuple #[])/\kR w' a cap n (sw h i j) om/\aj (Sd a n h) w w':=by
 obtain⟨cs,d,q,l⟩:=hs.sD;have g:∀k,k<n->h k≠a:=fun k o=>au.ne (hs.ord k o) d (by decide)
 have oi:=hs.ord i b;have m:=hs.ord j c;refine (SX a n cap i j (h i) (h j) (II i) (II j) w b c f (fun e=>f (hs.inj b c e)) (g i b) (g j c) ((d.cell i).trans (l i b)) ((d.cell j).trans (l j c)) (d.frozen i) (d.frozen j)
  (oi.cell 13) (m.cell 13) (oi.frozen 13) (m.frozen 13)).mono ?_
 rintro e w' ⟨rfl,p⟩;exact⟨rfl,hs.LC b c f p⟩
theorem Kz(a:Addr)(w:World)(s:Option Addr)(n c:Nat)(h:w.cell? a=some (.slice s n c)):(loadVar 155 a).run Tryz.prog w=.ok (.slice s n c) w:=by
 go_simp
theorem Am (a : Addr) (w : World) (s : Option Addr) (n c : Nat) (h : w.cell? a = some (.slice s n c)) : Sem.run Tryz.prog (method 416 216 (.pointer (some a)) "Less") w = .ok (257, .slice s n c) w := by
 have e : Sem.run Tryz.prog (method 416 216 (.pointer (some a)) "Less") w = Sem.run Tryz.prog (do let v <- loadVar 155 a; pure (257, v)) w := by kernel_rfl
 rw[e];have:=Kz a w s n c h;go_simp
theorem tY (a : Addr) (w : World) (s : Option Addr) (n c : Nat) (h : w.cell? a = some (.slice s n c)) : Sem.run Tryz.prog (method 416 216 (.pointer (some a)) "Swap") w = .ok (258, .slice s n c) w := by
 have e : Sem.run Tryz.prog (method 416 216 (.pointer (some a)) "Swap") w = Sem.run Tryz.prog (do let v <- loadVar 155 a; pure (258, v)) w := by kernel_rfl
 rw[e];have:=Kz a w s n c h;go_simp
theorem MQ (a : Addr) (w : World) (s : Option Addr) (n c : Nat) (h : w.cell? a = some (.slice s n c)) : Sem.run Tryz.prog (method 416 216 (.pointer (some a)) "Len") w = .ok (256, .slice s n c) w := by
 have e : Sem.run Tryz.prog (method 416 216 (.pointer (some a)) "Len") w = Sem.run Tryz.prog (do let v <- loadVar 155 a; pure (256, v)) w := by kernel_rfl
 rw[e];have:=Kz a w s n c h;go_simp
theorem Rj (a : Addr) (w : World) : Sem.run Tryz.prog (method 416 216 (.pointer (some a)) "Push") w = .ok (260, .pointer (some a)) w := by kernel_rfl
theorem EZ (a : Addr) (w : World) : Sem.run Tryz.prog (method 416 216 (.pointer (some a)) "Pop") w = .ok (259, .pointer (some a)) w := by kernel_rfl
theorem Jl{lt:Nat->Nat->Bool}{h:Nat->Nat}{j:Nat}(a:j=0\/lt (h j) (h ((j-1) / 2))=false):uQ lt h j=h:=by
 rw[uQ];rcases a with a | a
 ·rw[dif_pos a]
 ·split
  ·rfl
  ·rw[a];rfl
theorem Ym{lt:Nat->Nat->Bool}{h:Nat->Nat}{j:Nat}(h0:j≠0)(a:lt (h j) (h ((j-1) / 2))=true):uQ lt h j=uQ lt (sw h ((j-1) / 2) j) ((j-1) / 2):=by
 rw[uQ,dif_neg h0,a,if_pos rfl]
theorem TA(s l a cap n j:Nat)(t:Array Value)(h:Nat->Nat)(om:Nat->Ord)(w:World)(q:au w s t 158)(z:t[l]?=some (.slice (some ⟨a,0,none⟩) n cap))(hs:kR w a cap n h om)(y:j<n) :
 CT 176 #[.iface 216 (.pointer (some ⟨s,l,none⟩)),II j] w fun e w'=>e=.returned (.tuple #[])/\kR w' a cap n (uQ (fE om) h j) om/\aj (Sd a n h) w w':=by
 go_enter Tryz.func176,Tryz.ntmps176;go_wp2;go_loopg [1,4] j (fun k jv _ wr=>∃c:Nat->Nat,jv=II (k:Int)/\k<n/\kR wr a cap n c om/\aj (Sd a n h) w wr/\Sd a n c=Sd a n h/\uQ (fE om) c k=uQ (fE om) h j)
 case atStart=>exact⟨h,rfl,y,hs,aj.refl _ _,rfl,rfl⟩
 case round =>
  obtain⟨c,rfl,f,g,i,u,A⟩:=hrel;have o:Hid (Sd a n c=Sd a n h/\uQ (fE om) c gk=uQ (fE om) h j):=⟨u,A⟩;clear u A;by_cases h0:gk=0
  ·subst h0;go_wp2;go_end0;refine⟨rfl,?_,i⟩;rw[<-o.out.2,Jl (.inl rfl)];exact g
  ·obtain⟨m,rfl⟩:∃m,gk=m+1:=⟨gk-1,by omega⟩;have G:=g.small;have M:m+1<1000:=by omega
   have L:((m:Int) / 2 == (m:Int)+1)=false:=by simp;omega
   have v:=i.ay q (fun x=>by
    rcases x with rfl | ⟨k,f,rfl⟩
    ·obtain⟨cs,p,_⟩:=hs.sD;exact au.ne q p (by decide) rfl
    ·exact au.ne q (hs.ord k f) (by decide) rfl)
   have C:=(v.cell l).trans z;have H:=Am _ _ _ _ _ C;clear h0 y G;push_cast;go_wp2_with fail;rw[show (m:Int) / 2=((m / 2:Nat):Int) from by omega,show (m:Int)+1=((m+1:Nat):Int) from by omega];refine (Di a cap n (m+1) (m / 2) c om wr g f (by omega)).mono ?_;rintro e w2 ⟨rfl,d⟩;cases hl:fE om (c (m+1)) (c (m / 2))
   ·have B:=hl;clear hl;go_wp2;go_end0;refine⟨rfl,?_,i.trans d.aP⟩;rw[<-o.out.2,Jl (.inr B)];exact g.aC d (fun _ _ x=>x)
   ·have J:=g.aC d (fun _ _ x=>x);have E:=d.ay v idd;have D:=(E.cell l).trans z;have I:=tY _ _ _ _ _ D;clear H;go_wp2_with fail;refine (yg a cap n (m / 2) (m+1) c om w2 J (by omega) f (by omega)).mono ?_;rintro e N ⟨rfl,K,F⟩;clear I;go_wp2;go_roundg (m / 2)
    case measure=>omega
    case rel =>
     obtain⟨r,a2⟩:=o.out;refine⟨sw c (m / 2) (m+1),by simp,by omega,K,?_,?_,?_⟩
     ·exact (i.trans d.aP).trans (F.mono (fun b p=>by rw[<-r];exact p))
     ·rw[zG (by omega) f,r]
     ·rw[<-a2,Ym (j:=m+1) (by omega) hl]
      rfl
def zo(lt:Nat->Nat->Bool)(n:Nat)(h:Nat->Nat)(i:Nat):Nat:=if 2 * i+2<n/\lt (h (2 * i+2)) (h (2 * i+1))=true then 2 * i+2 else 2 * i+1
theorem qI(lt:Nat->Nat->Bool)(n:Nat)(h:Nat->Nat)(i:Nat)(a:2 * i+1<n):i<zo lt n h i/\zo lt n h i<n:=by
 unfold zo;split <;> omega
def dY(lt:Nat->Nat->Bool)(n:Nat)(h:Nat->Nat)(i:Nat):(Nat->Nat) × Nat :=
 if hn:2 * i+1<n then
  have _:=qI lt n h i hn
  if lt (h (zo lt n h i)) (h i) then dY lt n (sw h i (zo lt n h i)) (zo lt n h i) else (h,i)
 else (h,i)
theorem uA{lt:Nat->Nat->Bool}{n:Nat}{h:Nat->Nat}{i:Nat}(a:¬2 * i+1<n):dY lt n h i=(h,i):=by
 rw[dY,dif_neg a]
theorem oW{lt:Nat->Nat->Bool}{n:Nat}{h:Nat->Nat}{i:Nat}(a:2 * i+1<n)(b:lt (h (zo lt n h i)) (h i)=false):dY lt n h i=(h,i):=by
 rw[dY,dif_pos a,b];rfl
theorem sW{lt:Nat->Nat->Bool}{n:Nat}{h:Nat->Nat}{i:Nat}(a:2 * i+1<n)(b:lt (h (zo lt n h i)) (h i)=true):dY lt n h i=dY lt n (sw h i (zo lt n h i)) (zo lt n h i):=by
 rw[dY,dif_pos a,b,if_pos rfl]
theorem rE(a cap n i j:Nat)(h:Nat->Nat)(om:Nat->Ord)(w:World)(x y:Int)(hs:kR w a cap n h om)(b:i<n)(c:j<n)(d:x=(i:Int))(f:y=(j:Int)) :
 CT 257 #[.slice (some ⟨a,0,none⟩) n cap,II x,II y] w fun e w'=>e=.returned (.bool (fE om (h i) (h j)))/\aj aA w w':=by
 subst d;subst f;exact Di a cap n i j h om w hs b c
theorem wo(a cap n i j:Nat)(h:Nat->Nat)(om:Nat->Ord)(w:World)(x y:Int)(hs:kR w a cap n h om)(b:i<n)(d:j<n)(c:i≠j)(f:x=(i:Int))(g:y=(j:Int)) :
 CT 258 #[.slice (some ⟨a,0,none⟩) n cap,II x,II y] w fun e w'=>e=.returned (.tuple #[])/\kR w' a cap n (sw h i j) om/\aj (Sd a n h) w w':=by
 subst f;subst g;exact yg a cap n i j h om w hs b d c
theorem Ql(J s c cap N n i0:Nat)(O:Array Value)(h:Nat->Nat)(om:Nat->Ord)(w:World)(K:au w J O 158)(E:O[s]?=some (.slice (some ⟨c,0,none⟩) N cap))(hs:kR w c cap N h om)(hn:n<=N)(X:i0<=n) :
 CT 175 #[.iface 216 (.pointer (some ⟨J,s,none⟩)),II i0,II n] w fun e w'=>e=.returned (.bool (decide (i0<(dY (fE om) n h i0).2)))/\kR w' c cap N (dY (fE om) n h i0).1 om/\aj (Sd c N h) w w':=by
 have hN:=hs.small;have Y:¬Sd c N h J:=by
  rintro (rfl | ⟨k,R,rfl⟩)
  ·obtain⟨cs,g,_⟩:=hs.sD;exact au.ne K g (by decide) rfl
  ·exact au.ne K (hs.ord k R) (by decide) rfl
 go_enter Tryz.func175,Tryz.ntmps175;go_wp2;go_loopg [7,8,9,10] (n-i0) (fun k Z _ _ _ wr=>∃(a:Nat->Nat) (i:Nat),Z=II (i:Int)/\i<=n/\k=n-i/\kR wr c cap N a om/\aj (Sd c N h) w wr/\Sd c N a=Sd c N h/\dY (fE om) n a i=dY (fE om) n h i0)
 case atStart=>exact⟨h,i0,rfl,X,rfl,hs,aj.refl _ _,rfl,rfl⟩
 case round =>
  obtain⟨a,i,rfl,R,Q,C,G,P,S⟩:=hrel;have d:Hid (gk=n-i/\Sd c N a=Sd c N h/\dY (fE om) n a i=dY (fE om) n h i0):=⟨Q,P,S⟩;clear P S Q;have L:=G.ay K Y;have U:=(L.cell s).trans E;have A:=Am _ _ _ _ _ U;by_cases o:2 * i+1<n
  ·by_cases W:2 * i+2<n
   ·go_wp2_with fail;refine (rE c cap N (2 * i+2) (2 * i+1) a om wr _ _ C (by omega) (by omega) (by push_cast;omega) (by push_cast;omega)).mono ?_;rintro e w2 ⟨rfl,M⟩;have I:=C.aC M (fun _ _ x=>x);have y:=M.ay L idd;have r:=G.trans M.aP;have V:=(y.cell s).trans E;have H:=Am _ _ _ _ _ V;cases g:fE om (a (2 * i+2)) (a (2 * i+1))
    ·have m:zo (fE om) n a i=2 * i+1:=by unfold zo;rw[if_neg (by rw[g];simp)]
     have j:=ai m;clear m g A;go_wp2_with fail;refine (rE c cap N (2 * i+1) i a om w2 _ _ I (by omega) (by omega) (by push_cast;omega) rfl).mono ?_;rintro e F ⟨rfl,f⟩;have p:=I.aC f (fun _ _ x=>x);cases hl:fE om (a (2 * i+1)) (a i)
     ·have t:=ai hl;clear hl H;go_wp2;go_ret;have q:dY (fE om) n a i=(a,i):=oW o (by rw[ae j];exact ae t);refine⟨?_,?_,r.trans f.aP⟩
      ·rw[<-d.out.2.2,q];simp
      ·rw[<-d.out.2.2,q];exact p
     ·have v:=f.ay y idd;have u:=(v.cell s).trans E;have B:=tY _ _ _ _ _ u;clear H;go_wp2_with fail;refine (wo c cap N i (2 * i+1) a om F _ _ p (by omega) (by omega) (by omega) rfl (by push_cast;omega)).mono ?_;rintro e T ⟨rfl,D,z⟩;clear B;go_wp2;go_roundg (n-(2 * i+1))
      case measure=>have:=d.out.1;omega
      case rel =>
       obtain⟨_,l,a2⟩:=d.out;refine⟨sw a i (2 * i+1),2 * i+1,by push_cast;rfl,by omega,rfl,D,?_,?_,?_⟩
       ·exact (r.trans f.aP).trans (z.mono (fun b g=>by rw[<-l];exact g))
       ·rw[zG (by omega) (by omega),l]
       ·rw[<-a2,sW o (by rw[ae j];exact hl),ae j]
    ·have m:zo (fE om) n a i=2 * i+2:=by unfold zo;rw[if_pos ⟨W,g⟩]
     have j:=ai m;clear m g A;go_wp2_with fail;refine (rE c cap N (2 * i+2) i a om w2 _ _ I (by omega) (by omega) (by push_cast;omega) rfl).mono ?_;rintro e F ⟨rfl,f⟩;have p:=I.aC f (fun _ _ x=>x);cases hl:fE om (a (2 * i+2)) (a i)
     ·have t:=ai hl;clear hl H;go_wp2;go_ret;have q:dY (fE om) n a i=(a,i):=oW o (by rw[ae j];exact ae t);refine⟨?_,?_,r.trans f.aP⟩
      ·rw[<-d.out.2.2,q];simp
      ·rw[<-d.out.2.2,q];exact p
     ·have v:=f.ay y idd;have u:=(v.cell s).trans E;have B:=tY _ _ _ _ _ u;clear H;go_wp2_with fail;refine (wo c cap N i (2 * i+2) a om F _ _ p (by omega) (by omega) (by omega) rfl (by push_cast;omega)).mono ?_;rintro e T ⟨rfl,D,z⟩;clear B;go_wp2;go_roundg (n-(2 * i+2))
      case measure=>have:=d.out.1;omega
      case rel =>
       obtain⟨_,l,a2⟩:=d.out;refine⟨sw a i (2 * i+2),2 * i+2,by push_cast;rfl,by omega,rfl,D,?_,?_,?_⟩
       ·exact (r.trans f.aP).trans (z.mono (fun b g=>by rw[<-l];exact g))
       ·rw[zG (by omega) (by omega),l]
       ·rw[<-a2,sW o (by rw[ae j];exact hl),ae j]
   ·have m:zo (fE om) n a i=2 * i+1:=by unfold zo;rw[if_neg (by omega)]
    have j:=ai m;have y:=L;have r:=G;clear m;go_wp2_with fail;refine (rE c cap N (2 * i+1) i a om wr _ _ C (by omega) (by omega) (by push_cast;omega) rfl).mono ?_;rintro e F ⟨rfl,f⟩;have p:=C.aC f (fun _ _ x=>x);cases hl:fE om (a (2 * i+1)) (a i)
    ·have t:=ai hl;clear hl A;go_wp2;go_ret;have q:dY (fE om) n a i=(a,i):=oW o (by rw[ae j];exact ae t);refine⟨?_,?_,r.trans f.aP⟩
     ·rw[<-d.out.2.2,q];simp
     ·rw[<-d.out.2.2,q];exact p
    ·have v:=f.ay y idd;have u:=(v.cell s).trans E;have B:=tY _ _ _ _ _ u;clear A;go_wp2_with fail;refine (wo c cap N i (2 * i+1) a om F _ _ p (by omega) (by omega) (by omega) rfl (by push_cast;omega)).mono ?_;rintro e T ⟨rfl,D,z⟩;clear B;go_wp2;go_roundg (n-(2 * i+1))
     case measure=>have:=d.out.1;omega
     case rel =>
      obtain⟨_,l,a2⟩:=d.out;refine⟨sw a i (2 * i+1),2 * i+1,by push_cast;rfl,by omega,rfl,D,?_,?_,?_⟩
      ·exact (r.trans f.aP).trans (z.mono (fun b g=>by rw[<-l];exact g))
      ·rw[zG (by omega) (by omega),l]
      ·rw[<-a2,sW o (by rw[ae j];exact hl),ae j]
  ·clear A;have e1:decide ((n:Int)<=2 * (i:Int)+1)=true:=by simp;omega
   go_wp2;go_ret;refine⟨?_,?_,G⟩
   ·rw[<-d.out.2.2,uA o];simp
   ·rw[<-d.out.2.2,uA o];exact C
open Go.Shelf
def OU:Go.Shelf.Ren:=⟨fun | 6=>128 | 15=>158 | 14=>157 | 28=>187 | 29=>188 | 20=>179 | 21=>180 | 22=>181 | 23=>182 | 24=>183 | 25=>184 | 26=>185 | 27=>186 | 46=>213 | 47=>214 | 48=>215 | 49=>216 | 50=>217 | 57=>230 | n=>n,fun | 22=>150 | 24=>114 | 25=>159 | 3=>3 | 39=>223 | 0=>0 | 53=>251 | 55=>253 | 4=>4 | 46=>244 | 45=>243 | 50=>248 | 5=>5 | 9=>9 | 66=>273 | 70=>277 | 76=>289 | 77=>262 | n=>n,fun | n=>n⟩
theorem aaV:Go.Proofs.SlLaysF.n6 Tryz.prog OU :=
 { mixed:=by kernel_rfl,f6:=⟨Tryz.f128.name,by decide,Tryz.func128.trans (congrArg some (by kernel_rfl))⟩,f14:=⟨Tryz.f157.name,by decide,Tryz.func157.trans (congrArg some (by kernel_rfl))⟩,f15:=Tryz.func158.trans (congrArg some (by kernel_rfl)),f20:=⟨Tryz.f179.name,by decide,Tryz.func179.trans (congrArg some (by kernel_rfl))⟩,f21:=⟨Tryz.f180.name,by decide,Tryz.func180.trans (congrArg some (by kernel_rfl))⟩,f22:=⟨Tryz.f181.name,by decide,Tryz.func181.trans (congrArg some (by kernel_rfl))⟩,f23:=⟨Tryz.f182.name,by decide,Tryz.func182.trans (congrArg some (by kernel_rfl))⟩,f24:=⟨Tryz.f183.name,by decide,Tryz.func183.trans (congrArg some (by kernel_rfl))⟩,f25:=⟨Tryz.f184.name,by decide,Tryz.func184.trans (congrArg some (by kernel_rfl))⟩,f26:=⟨Tryz.f185.name,by decide,Tryz.func185.trans (congrArg some (by kernel_rfl))⟩,f27:=⟨Tryz.f186.name,by decide,Tryz.func186.trans (congrArg some (by kernel_rfl))⟩,f28:=Tryz.func187.trans (congrArg some (by kernel_rfl)),f29:=Tryz.func188.trans (congrArg some (by kernel_rfl)),f46:=⟨Tryz.f213.name,by decide,Tryz.func213.trans (congrArg some (by kernel_rfl))⟩,f47:=Tryz.func214.trans (congrArg some (by kernel_rfl)),f48:=Tryz.func215.trans (congrArg some (by kernel_rfl)),f49:=⟨Tryz.f216.name,by decide,Tryz.func216.trans (congrArg some (by kernel_rfl))⟩,f50:=⟨Tryz.f217.name,by decide,Tryz.func217.trans (congrArg some (by kernel_rfl))⟩,f57:=⟨Tryz.f230.name,by decide,Tryz.func230.trans (congrArg some (by kernel_rfl))⟩,t0:=Tryz.underlying0,a0:=Tryz.isAgg0,z0:=Tryz.sizeOf0,v0:=Tryz.zeroValue0,t3:=Tryz.underlying3,a3:=Tryz.isAgg3,z3:=Tryz.sizeOf3,v3:=Tryz.zeroValue3,t4:=Tryz.underlying4,a4:=Tryz.isAgg4,z4:=Tryz.sizeOf4,v4:=Tryz.zeroValue4,t5:=Tryz.underlying5,a5:=Tryz.isAgg5,z5:=Tryz.sizeOf5,v5:=Tryz.zeroValue5,t9:=Tryz.underlying9,a9:=Tryz.isAgg9,z9:=Tryz.sizeOf9,v9:=Tryz.zeroValue9,t22:=Tryz.underlying150,a22:=Tryz.isAgg150,z22:=Tryz.sizeOf150,v22:=Tryz.zeroValue150,a24:=Tryz.isAgg114,z24:=Tryz.sizeOf114,t25:=Tryz.underlying159,a25:=Tryz.isAgg159,z25:=Tryz.sizeOf159,v25:=Tryz.zeroValue159,t39:=Tryz.underlying223,a39:=Tryz.isAgg223,z39:=Tryz.sizeOf223,v39:=Tryz.zeroValue223,t45:=Tryz.underlying243,a45:=Tryz.isAgg243,z45:=Tryz.sizeOf243,v45:=Tryz.zeroValue243,t46:=Tryz.underlying244,a46:=Tryz.isAgg244,z46:=Tryz.sizeOf244,v46:=Tryz.zeroValue244,t50:=Tryz.underlying248,a50:=Tryz.isAgg248,z50:=Tryz.sizeOf248,v50:=Tryz.zeroValue248,t53:=Tryz.underlying251,a53:=Tryz.isAgg251,z53:=Tryz.sizeOf251,v53:=Tryz.zeroValue251,t55:=Tryz.underlying253,a55:=Tryz.isAgg253,z55:=Tryz.sizeOf253,v55:=Tryz.zeroValue253,t66:=Tryz.underlying273,a66:=Tryz.isAgg273,z66:=Tryz.sizeOf273,v66:=Tryz.zeroValue273,t70:=Tryz.underlying277,a70:=Tryz.isAgg277,z70:=Tryz.sizeOf277,v70:=Tryz.zeroValue277,t76:=Tryz.underlying289,a76:=Tryz.isAgg289,z76:=Tryz.sizeOf289,v76:=Tryz.zeroValue289,t77:=Tryz.underlying262,a77:=Tryz.isAgg262,z77:=Tryz.sizeOf262,v77:=Tryz.zeroValue262 }
open Go.RowKit Go.Shelf
attribute [local go_sem] Oper.semAt_some
def uP(x:Nat):Value:=PP x
def upto(f:Nat->Nat)(k:Nat):List Nat:=(List.range k).map f
theorem D5(a:Nat->Nat)(k:Nat):upto a (k+1)=upto a k++[a k]:=by simp[upto,List.range_succ]
theorem nP(a:Nat->Nat)(k:Nat):(upto a k).length=k:=by simp[upto]
theorem LU(F:Fence)(n:Nat)(s:F.fn 129)(D:F.round=none)(J:1<=n)(l Bs n₀ b len cap:Nat)(d:Nat->Nat)(K:len * 8<=140737488351232)(z:b<n₀)(f g:List Nat->World->Prop)
 (y:∀pre x a,f pre a->pre.length<len->YieldAt F (n-1) Tryz.prog l #[PP x] a fun e c =>
   (e=.returned (.bool true)/\f (pre++[x]) c/\Below n₀ a c)\/(e=.returned (.bool false)/\g (pre++[x]) c))
 (a:World) (G:a.cell? ⟨Bs,0,none⟩=some (.slice (some ⟨b,0,none⟩) len cap)) (A:∀j,j<len->a.cell? ⟨b,j,none⟩=some (PP (d j))) (h0:f [] a) :
 CallsIn F n Tryz.prog 129 #[.func (.yield l) #[] #[],PP Bs] a fun e c=>(∃v,e=.returned v) /\
  ((∃r,r=upto d len/\f r c)\/(∃pre,(∃k,k<=len/\pre=upto d k)/\g pre c)):=by
 refine callsIn_of_wp Tryz.func129 rfl s ?_ D;simp only[Tryz.ntmps129,List.size_toArray,List.length_cons,List.length_nil,Nat.reduceAdd,Nat.reduceSub,Array.replicate_succ,Array.replicate_zero,List.push_toArray,List.append_toArray,List.nil_append,List.cons_append]
 gi_wp2
 gi_loopw [7] (fun i wr=>∃k:Nat,k<=len/\i=II k/\f (upto d k) wr/\Below n₀ a wr)
  (fun i _=>len-(intOf i).toNat)
 case atStart=>exact⟨0,Nat.zero_le _,rfl,h0,Below.refl _ _⟩
 case round =>
  obtain⟨k,I,rfl,m,q⟩:=hrel;have B:k<len->wr.cell? ⟨b,k,none⟩=some (PP (d k)):=fun h=>(q.cell (p:=⟨b,k,none⟩) z).trans (A k h)
  by_cases o:k<len
  ·obtain⟨fn,tmps,assign,body,L,w⟩:=y _ (d k) wr m (by rw[nP];exact o);have H:=B o
   gi_wp2
   refine w.mono ?_;rintro e E (⟨rfl,t,C⟩ | ⟨rfl,u⟩)
   ·gi_wp2
    go_roundw
    case rel=>exact⟨k+1,by omega,by simp,by rw[D5];exact t,q.trans C⟩
    case measure=>simp[intOf];omega
   ·gi_wp2
    refine bodyPost_ret (results_none rfl _ _ _) rfl ?_;exact⟨⟨_,rfl⟩,.inr ⟨_,⟨k+1,by omega,(D5 _ _).symm⟩,u⟩⟩
  ·obtain rfl:k=len:=by omega
   gi_wp2
   go_end0;exact⟨⟨_,rfl⟩,.inl ⟨_,rfl,m⟩⟩
theorem Bq(F:Fence)(n:Nat)(f:F.fn 129)(j:F.round=none)(l c:Nat)(a:List Nat->World->Prop)(b:World)(k:b.cell? ⟨c,0,none⟩=some (.slice none 0 0))(h0:a [] b) :
 CallsIn F n Tryz.prog 129 #[.func (.yield l) #[] #[],PP c] b fun e d=>(∃v,e=.returned v)/\a [] d:=by
 refine callsIn_of_wp Tryz.func129 rfl f ?_ j;simp only[Tryz.ntmps129,List.size_toArray,List.length_cons,List.length_nil,Nat.reduceAdd,Nat.reduceSub,Array.replicate_succ,Array.replicate_zero,List.push_toArray,List.append_toArray,List.nil_append,List.cons_append]
 gi_wp2
 gi_loopw [7] (fun i wr=>i=II 0/\a [] wr) (fun _ _=>0)
 case atStart=>exact⟨rfl,h0⟩
 case round =>
  obtain⟨rfl,g⟩:=hrel
  gi_wp2
  go_end0;exact⟨⟨_,rfl⟩,g⟩
theorem O6(F:Fence)(n:Nat)(b:F.fn 82)(c:F.round=none)(a:Option Addr)(len cap:Nat)(w:World) :
 CallsIn F n Tryz.prog 82 #[.slice a len cap] w fun e w'=>e=.returned (.func (.func 129) #[] #[PP w.heap.size])/\w'=w.alloc (.cells #[.slice a len cap] 155):=by
 refine callsIn_of_wp Tryz.func82 rfl b ?_ c;simp only[Tryz.ntmps82,List.size_toArray,List.length_cons,List.length_nil,Nat.reduceAdd,Nat.reduceSub,Array.replicate_succ,Array.replicate_zero,List.push_toArray,List.append_toArray,List.nil_append,List.cons_append]
 gi_wp2
 go_ret;exact⟨rfl,rfl⟩
def Ef(n₀:Nat)(W:World)(a:Option Addr)(len cap:Nat)(f:Nat->Nat):Prop :=
 (a=none/\len=0/\cap=0)\/∃b,a=some ⟨b,0,none⟩/\b<n₀/\∀j,j<len->W.cell? ⟨b,j,none⟩=some (PP (f j))
theorem Ef.below{n₀:Nat}{A B:World}(h:Below n₀ A B){a:Option Addr}{len cap:Nat}{c:Nat->Nat}(i:Ef n₀ A a len cap c):Ef n₀ B a len cap c:=by
 rcases i with e | ⟨b,e,d,f⟩
 ·exact .inl e
 ·exact .inr ⟨b,e,d,fun j g=>(h.cell (p:=⟨b,j,none⟩) d).trans (f j g)⟩
theorem FW(F:Fence)(n:Nat)(o:F.fn 129)(s:F.round=none)(g:1<=n)(Bs n₀:Nat)(a:Option Addr)(len cap:Nat)(c:Nat->Nat)(H:len * 8<=140737488351232)(w:World)(z:Bs<w.heap.size)(g₀:n₀<=w.heap.size)
 (D:w.cell? ⟨Bs,0,none⟩=some (.slice a len cap)) (A:Ef n₀ w a len cap c) :
 SeqStopsK F n Tryz.prog 129 #[PP Bs] (fun x:Nat=>#[Value.pointer (some ⟨x,0,none⟩)]) (Below n₀) (fun t=>t=upto c len) (fun pre=>pre <+: upto c len) len w:=fun l j u m q _ _ B h0=>by
 have r:=(q.cell (p:=⟨Bs,0,none⟩) z).trans D;rcases A.below (q.mono g₀) with⟨rfl,rfl,rfl⟩ | ⟨b,rfl,C,E⟩
 ·exact (Bq F n o s l Bs j m r h0).mono fun e v ⟨f,d⟩=>⟨f,.inl ⟨_,rfl,d⟩⟩
 ·refine (LU F n o s g l Bs n₀ b len cap c H C j u B m r E h0).mono ?_;rintro e v ⟨f,⟨t,rfl,d⟩ | ⟨pre,⟨k,G,rfl⟩,d⟩⟩
  ·exact⟨f,.inl ⟨_,rfl,d⟩⟩
  ·refine⟨f,.inr ⟨_,?_,d⟩⟩;obtain⟨y,rfl⟩:=Nat.exists_eq_add_of_le G;exact⟨((List.range y).map (fun i=>k+i)).map c,by unfold upto;rw[List.range_add,List.map_append]⟩
theorem UL:(Tryz.prog.info? 114).map (fun i=>(i.zero,i.size,i.bytes))=some (some (.pointer none),1,8):=by kernel_rfl
theorem En(F:Fence)(n:Nat)(C:F.fn 156)(s:F.fn 129)(o:F.round=none)(hn:3<=n)(d:Nat)(a:Option Addr)(len cap:Nat)(j:Nat->Nat)(W:len<=100000)(w:World)(D:d<w.heap.size)
 (I:w.cell? ⟨d,0,none⟩=some (.slice a len cap)) (G:Ef w.heap.size w a len cap j) :
 CallsIn F n Tryz.prog 156 #[.slice none 0 0,.func (.func 129) #[] #[PP d]] w fun e r=>∃v,e=.returned v/\r.ownsRow w.heap.size 114 1 v len ((upto j len).map uP)/\(v=.slice none 0 0↔upto j len=[])/\Below w.heap.size w r:=by
 have B:1<=n:=by omega
 have Y:len<=maxLen:=by unfold maxLen;omega
 have Z:len * 8<=140737488355328:=by omega
 obtain⟨i0,L,P,Q,R⟩:=info_parts UL;refine callsIn_of_wp_marks Tryz.func156 rfl C ?_ o;simp only[Tryz.ntmps156,List.size_toArray,List.length_cons,List.length_nil,Nat.reduceAdd,Nat.reduceSub,Array.replicate_succ,Array.replicate_zero,List.push_toArray,List.append_toArray,List.nil_append,List.cons_append]
 gi_wp2
 have A:=Boxed.new w 150 (.slice none 0 0);have m:Below w.heap.size w (w.alloc (.cells #[.slice none 0 0] 150)):=(Below.refl _ w).alloc (Nat.le_refl _) _;have J:=(m.cell (p:=⟨d,0,none⟩) D).trans I;refine wpIn_rangeFunc_ownG o B (gf:=129) (lb:=#[PP d]) rfl s (enters_of Tryz.func129 (by kernel_rfl) rfl)
  (FW F (n-1) s o (by omega) d w.heap.size a len cap j (by omega) _ (by simp;omega) (by simp) J (G.below m)) belowK_t (belowK_b (by simp)) (Below.refl _ _) (fun _=>rfl)
  (fun pre b=>(∃v,Boxed b w.heap.size 150 v/\b.ownsRow w.heap.size 114 1 v pre.length (pre.map uP)/\(v=.slice none 0 0↔pre=[]))/\Below w.heap.size w b)
  (fun _ _ _=>False)
  (OwnFrom.and (Own.from (holdsRow_own w.heap.size w.heap.size 150 114 1 (fun pre=>pre.length) (fun pre=>pre.map uP) (fun pre v=>v=.slice none 0 0↔pre=[])) _) (ownFrom_below (Nat.le_refl _) (by simp)))
  (fun _ _ _ _ _ hs _ _=>hs)
  ⟨⟨_,A,World.ownsRow_nil _ _ _ _,by simp⟩,m⟩
  (fun x=>{ tmps:=#[.slice none 0 0,.func (.func 129) #[] #[PP d],PP w.heap.size,undef,.slice none 0 0,PP x,.func (.func 129) #[] #[PP d],PP x,undef,undef,undef,undef,undef],defers:=[] }) ?assign ?body ?done ?stop
 case assign =>
  intro l x b S g
  gi_wp2
  exact g
 case body =>
  rintro l pre x b ⟨⟨v,k,i,u⟩,f⟩ X;have H:=k.cell
  gi_wp2_with (gi_at_builtin;refine wpListIn_append_own _ rfl _ _ 150 rfl w.heap.size 114 i0 (.pointer none) 1 8 Tryz.underlying150 L P Q R rfl (by decide) _ _ _ rfl (i.alloc _) ⟨b.heap.size,0,none⟩ 1 1 [PP x] rfl rfl (cell_one_new _ _ _) (by simp[Value.oneCell']) (by omega) (by omega) (by have:=f.size;simp;omega) ?_;intro v' w1 y K _;obtain⟨T,cap',rfl⟩:=ownsRow_succ y;obtain⟨z,O,N,M,t⟩:=k.appended (by decide) i f.size (Nat.le_refl _) y K;have U:=z.cell;have V:=z.frozen)
  exact⟨M.from _,t,⟨_,O,by simpa [uP] using N,by simp⟩,f.trans t⟩
 case done =>
  rintro q ys b E rfl ⟨⟨v,k,i,u⟩,f⟩ g;have H:=k.cell
  gi_wp2
  refine⟨by simp,.inl ⟨_,_,rfl,run_takeDeferred g,?_⟩⟩;rw[nP]at i;exact⟨_,results_tmp rfl _ _ _,v,rfl,ownsRow_putObj i _ g rfl,u,f.trans (belowK_b (w:=w) (Nat.le_refl _) b q _ _ (by simp at E;omega) g rfl rfl)⟩
 case stop =>
  rintro q c pre b _ _ h _;exact h.elim
end Go.Proofs.YtigaphnafnpfnaaGreatDoor
