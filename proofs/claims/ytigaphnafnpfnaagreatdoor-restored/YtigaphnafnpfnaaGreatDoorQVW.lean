import Derived.WalkKit
import Derived.WalkSpells
import Derived.WalkLawsBesides
import Derived.Maps.OwnSet
import Derived.Test.YtigaphnafnpfnaaGreatDoorRows
import Derived.Deep.QuietTactic
import Derived.BigQuiet
import Derived.BigRegion
import Derived.Deep.RegionWith
import Derived.Deep.LoopGhost
import Derived.Deep.RegionHeld3
import Derived.Deep.DrawnRows
import Derived.Deep.AppendLies
import Derived.Shelf.LaysM
import Derived.Shelf.Strconv.Itoa3
import Derived.Lib.ItoaLen
import Derived.Shelf.SlLaysF
set_option linter.unusedVariables false
set_option linter.unusedSimpArgs false
set_option maxHeartbeats 8000000
set_option maxRecDepth 100000
namespace Go.Proofs.YtigaphnafnpfnaaGreatDoor
open Go.RowKit
theorem au{p:Prop}(h:p):Hid p:=h
theorem ae{p:Prop}(h:Hid p):p:=h
structure aj(S:Nat->Prop)(w w':World):Prop where
 os:w'.os=w.os
 tape:w'.tape=w.tape
 output:w'.output=w.output
 size:w.heap.size<=w'.heap.size
 block:∀k,k<w.heap.size->¬S k->w'.heap[k]?=w.heap[k]?
def aJ:Nat->Prop:=fun _=>False
theorem aj.refl(S:Nat->Prop)(w:World):aj S w w:=⟨rfl,rfl,rfl,Nat.le_refl _,fun _ _ _=>rfl⟩
theorem aj.trans{S:Nat->Prop}{a b c:World}(h:aj S a b)(k:aj S b c):aj S a c :=
 ⟨k.os.trans h.os,k.tape.trans h.tape,k.output.trans h.output,Nat.le_trans h.size k.size,fun i hi hs=>(k.block i (Nat.lt_of_lt_of_le hi h.size) hs).trans (h.block i hi hs)⟩
theorem aj.mono{S S':Nat->Prop}{a b:World}(h:aj S a b)(hS:∀k,S k->S' k):aj S' a b :=
 ⟨h.os,h.tape,h.output,h.size,fun k hk hs=>h.block k hk (fun x=>hs (hS k x))⟩
theorem aj.bI{S:Nat->Prop}{a b:World}(h:aj aJ a b):aj S a b:=h.mono (fun _ x=>x.elim)
theorem aj.from{S:Nat->Prop}{a b c:World}(h:aj S a b)(k:aj (fun i=>S i\/a.heap.size<=i) b c):aj S a c :=
 ⟨k.os.trans h.os,k.tape.trans h.tape,k.output.trans h.output,Nat.le_trans h.size k.size,fun i hi hs=>(k.block i (Nat.lt_of_lt_of_le hi h.size) (fun x=>x.elim hs (fun y=>by omega))).trans (h.block i hi hs)⟩
theorem aj.drew{S:Nat->Prop}{a w:World}(h:aj S a w):aj S a w.drew:=⟨h.os,h.tape,h.output,h.size,h.block⟩
theorem aj.drewN{S:Nat->Prop}{a w:World}(h:aj S a w)(n:Nat):aj S a (w.drewN n):=⟨h.os,h.tape,h.output,h.size,h.block⟩
theorem aj.alloc{S:Nat->Prop}{a w:World}(h:aj S a w)(o:Obj):aj S a (w.alloc o) :=
 ⟨h.os,h.tape,h.output,by have:=h.size;simp;omega,fun k hk hs=>(Below.heap_alloc _ _ _ (Nat.lt_of_lt_of_le hk h.size)).trans (h.block k hk hs)⟩
theorem aj.setCell{S:Nat->Prop}{a w:World}(h:aj S a w){p:Addr}(hp:S p.block\/a.heap.size<=p.block)(u:Value):aj S a (w.setCell p u) :=
 ⟨h.os,h.tape,h.output,by have:=h.size;simpa [World.setCell] using this,fun k hk hs=>(Below.heap_setCell _ _ _ _ (by rintro rfl;rcases hp with hp | hp;exact hs hp;omega)).trans (h.block k hk hs)⟩
theorem aj.qO{w w':World}(h:Below w.heap.size w w'):aj aJ w w':=⟨h.os,h.tape,h.output,h.size,fun k hk _=>h.block k hk⟩
theorem aj.below{w w':World}(h:aj aJ w w'):Below w.heap.size w w':=⟨h.os,h.tape,h.output,h.size,fun k hk=>h.block k hk (fun x=>x)⟩
theorem aj.Ox{S:Nat->Prop}{B:Nat}{w w':World}(h:aj S w w')(hB:B<=w.heap.size)(hS:∀k,S k->B<=k):Below B w w':=⟨h.os,h.tape,h.output,h.size,fun k hk=>h.block k (by omega) (fun x=>by have:=hS k x;omega)⟩
theorem aj.grown{S:Nat->Prop}{a w w':World}{row:Option Nat}(h:aj S a w)(hg:w.grownBy w' row)(hr:∀k,row=some k->S k\/a.heap.size<=k):aj S a w' :=
 h.from ⟨hg.os,hg.tape,hg.output,hg.size,fun k hk hs=>hg.block k hk (fun e=>by rcases hr k e.symm with x | x;exact hs (.inl x);exact hs (.inr x))⟩
def aA(w:World)(b:Nat)(c:Array Value)(t:TypeId):Prop:=w.heap[b]?=some (.cells c t)
theorem aA.lt{w:World}{b:Nat}{c:Array Value}{t:TypeId}(h:aA w b c t):b<w.heap.size:=(Array.getElem?_eq_some_iff.1 h).1
theorem aA.cell{w:World}{b:Nat}{c:Array Value}{t:TypeId}(h:aA w b c t)(i:Nat):w.cell? ⟨b,i,none⟩=c[i]?:=by
 unfold aA at h;simp[World.cell?,h]
theorem aA.frozen{w:World}{b:Nat}{c:Array Value}{t:TypeId}(h:aA w b c t)(i:Nat):w.frozen? ⟨b,i,none⟩=false:=by
 unfold aA at h;simp[World.frozen?,h]
theorem aA.ne{w:World}{b b':Nat}{c c':Array Value}{t t':TypeId}(h:aA w b c t)(h':aA w b' c' t')(ht:t≠t'):b≠b':=by
 rintro rfl;unfold aA at h h';rw[h]at h';simp at h';exact ht h'.2
theorem aA.uniq{w:World}{b:Nat}{c c':Array Value}{t t':TypeId}(h:aA w b c t)(h':aA w b c' t'):c=c':=by
 unfold aA at h h';rw[h]at h';simp at h';exact h'.1
theorem aA.set{w:World}{b:Nat}{c:Array Value}{t:TypeId}(h:aA w b c t)(i:Nat)(v:Value):aA (w.setCell ⟨b,i,none⟩ v) b (c.setIfInBounds i v) t:=by
 unfold aA at h ⊢;simp[World.setCell,Array.getElem?_modify,h]
theorem aA.other{w:World}{b:Nat}{c:Array Value}{t:TypeId}(h:aA w b c t){a:Addr}(ha:b≠a.block)(v:Value):aA (w.setCell a v) b c t:=by
 unfold aA at h ⊢;rw[Below.heap_setCell _ _ _ _ ha];exact h
theorem aA.alloc{w:World}{b:Nat}{c:Array Value}{t:TypeId}(h:aA w b c t)(o:Obj):aA (w.alloc o) b c t:=by
 have:=h.lt;unfold aA at h ⊢;rw[Below.heap_alloc _ _ _ this];exact h
theorem aA.new(w:World)(c:Array Value)(t:TypeId):aA (w.alloc (.cells c t)) w.heap.size c t:=by
 unfold aA;show (w.heap.push _)[w.heap.size]?=_;simp
theorem aA.drew{w:World}{b:Nat}{c:Array Value}{t:TypeId}(h:aA w b c t):aA w.drew b c t:=h
theorem aA.drewN{w:World}{b:Nat}{c:Array Value}{t:TypeId}(h:aA w b c t)(n:Nat):aA (w.drewN n) b c t:=h
theorem aj.aF{S:Nat->Prop}{w w':World}(k:aj S w w'){b:Nat}{c:Array Value}{t:TypeId}(h:aA w b c t)(hs:¬S b):aA w' b c t:=by
 have:=h.lt;unfold aA at h ⊢;rw[k.block b this hs];exact h
theorem aj.cell{S:Nat->Prop}{w w':World}(k:aj S w w'){p:Addr}{v:Value}(h:w.cell? p=some v)(hs:¬S p.block):w'.cell? p=some v :=
 (World.cell?_of_block (k.block p.block (World.block_lt_of_cell? w p h) hs)).trans h
abbrev II(n:Int):Value:=.int .i64 n
abbrev PP(b:Nat):Value:=.pointer (some ⟨b,0,none⟩)
abbrev CC(w:World)(b i:Nat)(v:Value):Prop:=w.cell? ⟨b,i,none⟩=some v
theorem aU{p:Prop}(h:p):p:=h
theorem mf{α:Type}(e:α):∃x,e=x:=⟨_,rfl⟩
theorem kL{α:Type}(e:α):∃x,x=e:=⟨_,rfl⟩
theorem aA.c5{w:World}{b:Nat}{t:TypeId}{a0 a1 a2 a3 a4:Value}(h:aA w b #[a0,a1,a2,a3,a4] t):CC w b 0 a0/\CC w b 1 a1/\CC w b 2 a2/\CC w b 3 a3/\CC w b 4 a4:=⟨h.cell 0,h.cell 1,h.cell 2,h.cell 3,h.cell 4⟩
theorem aA.c7{w:World}{b:Nat}{t:TypeId}{a0 a1 a2 a3 a4 a5 a6:Value}(h:aA w b #[a0,a1,a2,a3,a4,a5,a6] t):CC w b 0 a0/\CC w b 1 a1/\CC w b 2 a2/\CC w b 3 a3/\CC w b 4 a4/\CC w b 5 a5/\CC w b 6 a6:=⟨h.cell 0,h.cell 1,h.cell 2,h.cell 3,h.cell 4,h.cell 5,h.cell 6⟩
theorem aA.c8{w:World}{b:Nat}{t:TypeId}{a0 a1 a2 a3 a4 a5 a6 a7:Value}(h:aA w b #[a0,a1,a2,a3,a4,a5,a6,a7] t):CC w b 0 a0/\CC w b 1 a1/\CC w b 2 a2/\CC w b 3 a3/\CC w b 4 a4/\CC w b 5 a5/\CC w b 6 a6/\CC w b 7 a7:=⟨h.cell 0,h.cell 1,h.cell 2,h.cell 3,h.cell 4,h.cell 5,h.cell 6,h.cell 7⟩
theorem aA.c9{w:World}{b:Nat}{t:TypeId}{a0 a1 a2 a3 a4 a5 a6 a7 a8:Value}(h:aA w b #[a0,a1,a2,a3,a4,a5,a6,a7,a8] t):CC w b 0 a0/\CC w b 1 a1/\CC w b 2 a2/\CC w b 3 a3/\CC w b 4 a4/\CC w b 5 a5/\CC w b 6 a6/\CC w b 7 a7/\CC w b 8 a8:=⟨h.cell 0,h.cell 1,h.cell 2,h.cell 3,h.cell 4,h.cell 5,h.cell 6,h.cell 7,h.cell 8⟩
theorem aA.Oy{w:World}{b:Nat}{t:TypeId}{a0 a1 a2 a3 a4 a5 a6 a7 a8 a9 a10 a11:Value}(h:aA w b #[a0,a1,a2,a3,a4,a5,a6,a7,a8,a9,a10,a11] t):CC w b 0 a0/\CC w b 1 a1/\CC w b 2 a2/\CC w b 3 a3/\CC w b 4 a4/\CC w b 5 a5/\CC w b 6 a6/\CC w b 7 a7/\CC w b 8 a8/\CC w b 9 a9/\CC w b 10 a10/\CC w b 11 a11:=⟨h.cell 0,h.cell 1,h.cell 2,h.cell 3,h.cell 4,h.cell 5,h.cell 6,h.cell 7,h.cell 8,h.cell 9,h.cell 10,h.cell 11⟩
theorem aA.c13{w:World}{b:Nat}{t:TypeId}{a0 a1 a2 a3 a4 a5 a6 a7 a8 a9 a10 a11 a12:Value}(h:aA w b #[a0,a1,a2,a3,a4,a5,a6,a7,a8,a9,a10,a11,a12] t):CC w b 0 a0/\CC w b 1 a1/\CC w b 2 a2/\CC w b 3 a3/\CC w b 4 a4/\CC w b 5 a5/\CC w b 6 a6/\CC w b 7 a7/\CC w b 8 a8/\CC w b 9 a9/\CC w b 10 a10/\CC w b 11 a11/\CC w b 12 a12:=⟨h.cell 0,h.cell 1,h.cell 2,h.cell 3,h.cell 4,h.cell 5,h.cell 6,h.cell 7,h.cell 8,h.cell 9,h.cell 10,h.cell 11,h.cell 12⟩
theorem dE{p0 p1:Prop}(h0:p0)(h1:p1):Hid p0/\Hid p1:=⟨au h0,au h1⟩
theorem eY{p0 p1 p2:Prop}(h0:p0)(h1:p1)(h2:p2):Hid p0/\Hid p1/\Hid p2:=⟨au h0,au h1,au h2⟩
theorem pJ{p0 p1 p2 p3:Prop}(h0:p0)(h1:p1)(h2:p2)(h3:p3):Hid p0/\Hid p1/\Hid p2/\Hid p3:=⟨au h0,au h1,au h2,au h3⟩
theorem BD{p0 p1 p2 p3 p4:Prop}(h0:p0)(h1:p1)(h2:p2)(h3:p3)(h4:p4):Hid p0/\Hid p1/\Hid p2/\Hid p3/\Hid p4:=⟨au h0,au h1,au h2,au h3,au h4⟩
theorem zC{p0 p1 p2 p3 p4 p5:Prop}(h0:p0)(h1:p1)(h2:p2)(h3:p3)(h4:p4)(h5:p5):Hid p0/\Hid p1/\Hid p2/\Hid p3/\Hid p4/\Hid p5:=⟨au h0,au h1,au h2,au h3,au h4,au h5⟩
theorem adE{p0 p1 p2 p3 p4 p5 p6:Prop}(h0:p0)(h1:p1)(h2:p2)(h3:p3)(h4:p4)(h5:p5)(h6:p6):Hid p0/\Hid p1/\Hid p2/\Hid p3/\Hid p4/\Hid p5/\Hid p6:=⟨au h0,au h1,au h2,au h3,au h4,au h5,au h6⟩
theorem adF{p0 p1 p2 p3 p4 p5 p6 p7:Prop}(h0:p0)(h1:p1)(h2:p2)(h3:p3)(h4:p4)(h5:p5)(h6:p6)(h7:p7):Hid p0/\Hid p1/\Hid p2/\Hid p3/\Hid p4/\Hid p5/\Hid p6/\Hid p7:=⟨au h0,au h1,au h2,au h3,au h4,au h5,au h6,au h7⟩
theorem YF{p0 p1 p2 p3 p4 p5 p6 p7 p8:Prop}(h0:p0)(h1:p1)(h2:p2)(h3:p3)(h4:p4)(h5:p5)(h6:p6)(h7:p7)(h8:p8):Hid p0/\Hid p1/\Hid p2/\Hid p3/\Hid p4/\Hid p5/\Hid p6/\Hid p7/\Hid p8:=⟨au h0,au h1,au h2,au h3,au h4,au h5,au h6,au h7,au h8⟩
theorem ZW{p0 p1 p2 p3 p4 p5 p6 p7 p8 p9:Prop}(h0:p0)(h1:p1)(h2:p2)(h3:p3)(h4:p4)(h5:p5)(h6:p6)(h7:p7)(h8:p8)(h9:p9):Hid p0/\Hid p1/\Hid p2/\Hid p3/\Hid p4/\Hid p5/\Hid p6/\Hid p7/\Hid p8/\Hid p9:=⟨au h0,au h1,au h2,au h3,au h4,au h5,au h6,au h7,au h8,au h9⟩
theorem ZX{p0 p1 p2 p3 p4 p5 p6 p7 p8 p9 p10:Prop}(h0:p0)(h1:p1)(h2:p2)(h3:p3)(h4:p4)(h5:p5)(h6:p6)(h7:p7)(h8:p8)(h9:p9)(h10:p10):Hid p0/\Hid p1/\Hid p2/\Hid p3/\Hid p4/\Hid p5/\Hid p6/\Hid p7/\Hid p8/\Hid p9/\Hid p10:=⟨au h0,au h1,au h2,au h3,au h4,au h5,au h6,au h7,au h8,au h9,au h10⟩
theorem ac6{p0 p1 p2 p3 p4 p5 p6 p7 p8 p9 p10 p11:Prop}(h0:p0)(h1:p1)(h2:p2)(h3:p3)(h4:p4)(h5:p5)(h6:p6)(h7:p7)(h8:p8)(h9:p9)(h10:p10)(h11:p11):Hid p0/\Hid p1/\Hid p2/\Hid p3/\Hid p4/\Hid p5/\Hid p6/\Hid p7/\Hid p8/\Hid p9/\Hid p10/\Hid p11:=⟨au h0,au h1,au h2,au h3,au h4,au h5,au h6,au h7,au h8,au h9,au h10,au h11⟩
theorem lN{p0 p1 q r:Prop}(h:q):p0\/p1\/q\/r:=.inr (.inr (.inl h))
theorem or2{p0 p1 q:Prop}(h:q):p0\/p1\/q:=.inr (.inr h)
theorem jZ{p0 p1 p2 q r:Prop}(h:q):p0\/p1\/p2\/q\/r:=.inr (.inr (.inr (.inl h)))
theorem DR{p0 p1 p2 q:Prop}(h:q):p0\/p1\/p2\/q:=.inr (.inr (.inr h))
theorem qm{p0 p1 p2 p3 q r:Prop}(h:q):p0\/p1\/p2\/p3\/q\/r:=.inr (.inr (.inr (.inr (.inl h))))
theorem QF{p0 p1 p2 p3 q:Prop}(h:q):p0\/p1\/p2\/p3\/q:=.inr (.inr (.inr (.inr h)))
theorem ol5{p0 p1 p2 p3 p4 q r:Prop}(h:q):p0\/p1\/p2\/p3\/p4\/q\/r:=.inr (.inr (.inr (.inr (.inr (.inl h)))))
theorem vU{p0 p1 p2 p3 p4 q:Prop}(h:q):p0\/p1\/p2\/p3\/p4\/q:=.inr (.inr (.inr (.inr (.inr h))))
theorem ol6{p0 p1 p2 p3 p4 p5 q r:Prop}(h:q):p0\/p1\/p2\/p3\/p4\/p5\/q\/r:=.inr (.inr (.inr (.inr (.inr (.inr (.inl h))))))
theorem or6{p0 p1 p2 p3 p4 p5 q:Prop}(h:q):p0\/p1\/p2\/p3\/p4\/p5\/q:=.inr (.inr (.inr (.inr (.inr (.inr h)))))
theorem ol7{p0 p1 p2 p3 p4 p5 p6 q r:Prop}(h:q):p0\/p1\/p2\/p3\/p4\/p5\/p6\/q\/r:=.inr (.inr (.inr (.inr (.inr (.inr (.inr (.inl h)))))))
theorem or7{p0 p1 p2 p3 p4 p5 p6 q:Prop}(h:q):p0\/p1\/p2\/p3\/p4\/p5\/p6\/q:=.inr (.inr (.inr (.inr (.inr (.inr (.inr h))))))
theorem ol8{p0 p1 p2 p3 p4 p5 p6 p7 q r:Prop}(h:q):p0\/p1\/p2\/p3\/p4\/p5\/p6\/p7\/q\/r:=.inr (.inr (.inr (.inr (.inr (.inr (.inr (.inr (.inl h))))))))
theorem or8{p0 p1 p2 p3 p4 p5 p6 p7 q:Prop}(h:q):p0\/p1\/p2\/p3\/p4\/p5\/p6\/p7\/q:=.inr (.inr (.inr (.inr (.inr (.inr (.inr (.inr h)))))))
attribute [local go_sem ↓] Go.wp_at_zero Go.wp_at_succ
abbrev CT(f:Nat)(a:Array Value)(w:World)(Q:Ending->World->Prop):Prop:=Calls Tryz.prog f a w Q
theorem Qj(a:Int)(w:World):CT 159 #[II a] w fun e w'=>e=.returned (.bool false)/\w'=w:=by
 go_enter Tryz.func159,Tryz.ntmps159;go_wp2;go_ret;exact⟨by simp,rfl⟩
def mZ(a b:Int):Int:=if a<b then -1 else if b<a then 1 else 0
theorem jl(a b:Int)(w:World):CT 130 #[II a,II b] w fun e w'=>e=.returned (II (mZ a b))/\w'=w:=by
 go_enter Tryz.func130,Tryz.ntmps130;go_wp2_with (go_at_call 159;refine (Qj _ _).mono ?_;rintro e w' ⟨rfl,rfl⟩)
 all_goals (go_ret;refine⟨congrArg (fun n=>Ending.returned (II n)) ?_,rfl⟩)
 ·rw[mZ,if_pos (by omega)]
 ·rw[mZ,if_neg (by omega),if_pos (by omega)]
 ·rw[mZ,if_neg (by omega),if_neg (by omega)]
def Wp(p q:Int):Int:=if p=0 then q else p
theorem GK(g cap:Nat)(p q:Int)(w:World)(h0:w.cell? ⟨g,0,none⟩=some (II p))(h1:w.cell? ⟨g,1,none⟩=some (II q)) :
 CT 131 #[.slice (some ⟨g,0,none⟩) 2 cap] w fun e w'=>e=.returned (II (Wp p q))/\w'=w:=by
 by_cases hp:p=0
 ·subst hp;by_cases hq:q=0
  ·subst hq;go_enter Tryz.func131,Tryz.ntmps131;go_wp2;go_loop [5,8] (fun _ i=>∃k:Nat,k<=2/\i=II k) (fun _ i=>2-(intOf i).toNat)
   case atStart=>exact⟨0,by omega,rfl⟩
   case round =>
    obtain⟨k,hk,rfl⟩:=hrel;by_cases hlt:k<2
    ·have hc:CC w g k (II 0):=by
      have:k=0\/k=1:=by omega
      rcases this with rfl | rfl
      ·exact h0
      ·exact h1
     clear h0 h1;go_wp2;go_round
     case rel=>exact⟨k+1,by omega,by go_num⟩
     case measure=>simp[intOf];omega
    ·go_wp2;go_ret;exact⟨by simp[Wp],rfl⟩
  ·have hq':(q != 0)=true:=by simp[hq]
   go_enter Tryz.func131,Tryz.ntmps131;go_wp2;go_loop [5,8] (fun _ i=>∃k:Nat,k<=1/\i=II k) (fun _ i=>2-(intOf i).toNat)
   case atStart=>exact⟨0,by omega,rfl⟩
   case round =>
    obtain⟨k,hk,rfl⟩:=hrel;have:k=0\/k=1:=by omega
    rcases this with rfl | rfl
    ·go_wp2;go_round
     case rel=>exact⟨1,by omega,by go_num⟩
     case measure=>simp[intOf]
    ·go_wp2;go_ret;exact⟨by simp[Wp],rfl⟩
 ·have hp':(p != 0)=true:=by simp[hp]
  go_enter Tryz.func131,Tryz.ntmps131;go_wp2;go_loop [5,8] (fun _ i=>i=II 0) (fun _ _=>0)
  case atStart=>rfl
  case round =>
   subst hrel;go_wp2;go_ret;exact⟨by simp[Wp,hp],rfl⟩
structure Ord where
 id:Int
 aG:Int
 sym:ByteArray
 side:Int
 kind:Int
 af:Int
 aK:Int
 entered:Int
 aO:Int
 filled:Int
 bZ:Int
 exp:Int
 place:Int
def Ord.cells(o:Ord)(idx:Int):Array Value :=
 #[II o.id,II o.aG,.string o.sym,II o.side,II o.kind,II o.af,II o.aK,II o.entered,II o.aO,II o.filled,II o.bZ,II o.exp,II o.place,II idx]
def df(w:World)(b:Nat)(o:Ord)(idx:Int):Prop:=aA w b (o.cells idx) 116
theorem df.c7{w:World}{b:Nat}{o:Ord}{ix:Int}(h:df w b o ix):CC w b 0 (II o.id)/\CC w b 1 (II o.aG)/\CC w b 2 (.string o.sym)/\CC w b 3 (II o.side)/\CC w b 4 (II o.kind)/\CC w b 5 (II o.af)/\CC w b 6 (II o.aK):=⟨h.cell 0,h.cell 1,h.cell 2,h.cell 3,h.cell 4,h.cell 5,h.cell 6⟩
theorem df.Oy{w:World}{b:Nat}{o:Ord}{ix:Int}(h:df w b o ix):CC w b 0 (II o.id)/\CC w b 1 (II o.aG)/\CC w b 2 (.string o.sym)/\CC w b 3 (II o.side)/\CC w b 4 (II o.kind)/\CC w b 5 (II o.af)/\CC w b 6 (II o.aK)/\CC w b 7 (II o.entered)/\CC w b 8 (II o.aO)/\CC w b 9 (II o.filled)/\CC w b 10 (II o.bZ)/\CC w b 11 (II o.exp):=⟨h.cell 0,h.cell 1,h.cell 2,h.cell 3,h.cell 4,h.cell 5,h.cell 6,h.cell 7,h.cell 8,h.cell 9,h.cell 10,h.cell 11⟩
def kY(a b:Ord):Int :=
 let p:=mZ a.af b.af;let p':=if a.side=0 then -p else p
 Wp p' (mZ a.place b.place)
theorem SG(a b:Int):-1<=mZ a b/\mZ a b<=1:=by unfold mZ;split <;> (try split) <;> omega
theorem L8(a b:Nat)(oa ob:Ord)(ia ib:Int)(w:World)(ha:df w a oa ia)(hb:df w b ob ib) :
 CT 83 #[PP a,PP b] w fun e w'=>e=.returned (II (kY oa ob))/\Below w.heap.size w w':=by
 have a3:=ha.cell 3;have a5:=ha.cell 5;have a12:=ha.cell 12;have b5:=hb.cell 5;have b12:=hb.cell 12;have la:=ha.lt;have lb:=hb.lt;simp only[Ord.cells]at a3 a5 a12 b5 b12;simp at a3 a5 a12 b5 b12;clear ha hb;obtain⟨p1,p2⟩:=SG oa.af ob.af;by_cases hs:oa.side=0
 ·have hs':(oa.side == 0)=true:=by simp[hs]
  have HF:Hid (kY oa ob=Wp (-(mZ oa.af ob.af)) (mZ oa.place ob.place)):=by show kY oa ob=_;simp only[kY,hs,if_true]
  clear hs;go_enter Tryz.func83,Tryz.ntmps83;go_wp2;go_quiet ((go_at_call 130;exact Calls.quiet_of_same (jl _ _ _)));go_wp2;go_region_held3 (fun w'=>w'.cell? ⟨a,12,none⟩=some (II oa.place)/\w'.cell? ⟨b,12,none⟩=some (II ob.place)) (go_keep)
   (first | (go_at_call 130;refine (jl _ _ _).mono ?_;rintro e w' ⟨rfl,rfl⟩) | (go_at_call 131;refine (GK _ _ (-(mZ oa.af ob.af)) (mZ oa.place ob.place) _ ?_ ?_).mono ?_;(exact (aA.new _ _ _).cell 0);(exact (aA.new _ _ _).cell 1);rintro e w' ⟨rfl,rfl⟩))
  go_wp2;go_ret;exact⟨by rw[HF.out];rfl,((aj.refl aJ w).drewN _ |>.alloc _).below⟩
 ·have hs':(oa.side == 0)=false:=by simp[hs]
  have HF:Hid (kY oa ob=Wp (mZ oa.af ob.af) (mZ oa.place ob.place)):=by show kY oa ob=_;simp only[kY,hs,if_false]
  clear hs;go_enter Tryz.func83,Tryz.ntmps83;go_wp2;go_quiet ((go_at_call 130;exact Calls.quiet_of_same (jl _ _ _)));go_wp2;go_region_held3 (fun w'=>w'.cell? ⟨a,12,none⟩=some (II oa.place)/\w'.cell? ⟨b,12,none⟩=some (II ob.place)) (go_keep)
   (first | (go_at_call 130;refine (jl _ _ _).mono ?_;rintro e w' ⟨rfl,rfl⟩) | (go_at_call 131;refine (GK _ _ (mZ oa.af ob.af) (mZ oa.place ob.place) _ ?_ ?_).mono ?_;(exact (aA.new _ _ _).cell 0);(exact (aA.new _ _ _).cell 1);rintro e w' ⟨rfl,rfl⟩))
  go_wp2;go_ret;exact⟨by rw[HF.out];rfl,((aj.refl aJ w).drewN _ |>.alloc _).below⟩
def mg(a b:Ord):Bool:=decide (kY a b<0)
theorem Uw(ab n cap i j a b:Nat)(oa ob:Ord)(ia ib:Int)(w:World)(hi:i<n)(hj:j<n)(_hn:n<=1000)
 (ci:w.cell? ⟨ab,i,none⟩=some (PP a)) (cj:w.cell? ⟨ab,j,none⟩=some (PP b)) (ha:df w a oa ia) (hb:df w b ob ib) :
 CT 257 #[.slice (some ⟨ab,0,none⟩) n cap,II i,II j] w fun e w'=>e=.returned (.bool (mg oa ob))/\Below w.heap.size w w':=by
 have i0:(0:Int)<=(i:Int):=by omega
 have i1:(i:Int)<(n:Int):=by omega
 have j0:(0:Int)<=(j:Int):=by omega
 have j1:(j:Int)<(n:Int):=by omega
 go_enter Tryz.func257,Tryz.ntmps257;go_wp2;go_region_held3 (fun w'=>w'.cell? ⟨ab,i,none⟩=some (PP a)/\w'.cell? ⟨ab,j,none⟩=some (PP b)) (go_keep)
  (first | (go_at_call 83;refine (L8 _ _ oa ob ia ib _ ?_ ?_).mono ?_;(exact ha.drew);(exact hb.drew);rintro e w1 ⟨rfl,hb1⟩;have k1:=(aj.qO hb1).cell (p:=⟨ab,i,none⟩) ci id;have k2:=(aj.qO hb1).cell (p:=⟨ab,j,none⟩) cj id))
 go_wp2;go_ret;exact⟨rfl,((aj.refl aJ w).drew.trans (aj.qO hb1)).below⟩
theorem Gn(v:Option Addr)(n cap:Nat)(w:World):CT 256 #[.slice v n cap] w fun e w'=>e=.returned (II n)/\w'=w:=by
 go_enter Tryz.func256,Tryz.ntmps256;go_wp2;go_ret;exact⟨rfl,rfl⟩
theorem VA(ab n cap i j a b:Nat)(ia ib:Value)(w:World)(hi:i<n)(hj:j<n)(hij:i≠j)(hab:a≠b)(haa:a≠ab)(hba:b≠ab)
 (ci:w.cell? ⟨ab,i,none⟩=some (PP a)) (cj:w.cell? ⟨ab,j,none⟩=some (PP b))
 (fi:w.frozen? ⟨ab,i,none⟩=false) (fj:w.frozen? ⟨ab,j,none⟩=false) (ca:w.cell? ⟨a,13,none⟩=some ia) (cb:w.cell? ⟨b,13,none⟩=some ib) (fa:w.frozen? ⟨a,13,none⟩=false) (fb:w.frozen? ⟨b,13,none⟩=false) :
 CT 258 #[.slice (some ⟨ab,0,none⟩) n cap,II i,II j] w fun e w'=>e=.returned (.tuple #[]) /\
  ∃q,w'=((((w.setCell ⟨ab,i,none⟩ (PP b)).setCell ⟨ab,j,none⟩ (PP a)).setCell ⟨b,13,none⟩ (II i)).setCell ⟨a,13,none⟩ (II j)).drewN q:=by
 have i0:(0:Int)<=(i:Int):=by omega
 have i1:(i:Int)<(n:Int):=by omega
 have j0:(0:Int)<=(j:Int):=by omega
 have j1:(j:Int)<(n:Int):=by omega
 go_enter Tryz.func258,Tryz.ntmps258;go_wp2;go_region;go_wp2;go_region;go_wp2;go_end0;exact⟨rfl,2,rfl⟩
structure kM(w:World)(ab cap n:Nat)(h:Nat->Nat)(om:Nat->Ord):Prop where
 sJ:∃cs,aA w ab cs 114/\cs.size=cap/\∀i,i<n->cs[i]?=some (PP (h i))
 ord:∀i,i<n->df w (h i) (om (h i)) i
 le:n<=cap
 small:n<=1000
 PS:cap<=maxLen
def Sd(ab n:Nat)(h:Nat->Nat):Nat->Prop:=fun b=>b=ab\/∃k,k<n/\b=h k
def sw(h:Nat->Nat)(i j:Nat):Nat->Nat:=fun k=>if k=i then h j else if k=j then h i else h k
theorem AL{ab n:Nat}{h:Nat->Nat}{i j:Nat}(hi:i<n)(hj:j<n):Sd ab n (sw h i j)=Sd ab n h:=by
 funext b;apply propext;unfold Sd sw;constructor
 ·rintro (rfl | ⟨k,hk,rfl⟩)
  ·exact .inl rfl
  ·right;split
   ·exact⟨j,hj,rfl⟩
   ·split
    ·exact⟨i,hi,rfl⟩
    ·exact⟨k,hk,rfl⟩
 ·rintro (rfl | ⟨k,hk,rfl⟩)
  ·exact .inl rfl
  ·right;by_cases h1:k=i
   ·refine⟨j,hj,?_⟩;split
    ·subst h1;rename_i e;rw[e]
    ·rw[if_pos rfl,h1]
   ·by_cases h2:k=j
    ·exact⟨i,hi,by rw[if_pos rfl,h2]⟩
    ·exact⟨k,hk,by rw[if_neg h1,if_neg h2]⟩
theorem Ord.Eu{o o':Ord}{i j:Int}(h:o.cells i=o'.cells j):i=j/\o=o':=by
 cases o;cases o';simp[Ord.cells]at h
 simp_all
theorem kM.inj{w:World}{ab cap n:Nat}{h:Nat->Nat}{om:Nat->Ord}(s:kM w ab cap n h om){i j:Nat}(hi:i<n)(hj:j<n)(e:h i=h j):i=j:=by
 have h1:=s.ord i hi;have h2:=s.ord j hj;rw[e]at h1;have:=(Ord.Eu (aA.uniq h1 h2)).1;omega
theorem kM.aC{w w':World}{ab cap n:Nat}{h:Nat->Nat}{om:Nat->Ord}(s:kM w ab cap n h om){S:Nat->Prop}(k:aj S w w')(hS:∀b,Sd ab n h b->¬S b):kM w' ab cap n h om:=by
 obtain⟨cs,hb,hc,hp⟩:=s.sJ;exact⟨⟨cs,k.aF hb (hS _ (.inl rfl)),hc,hp⟩,fun i hi=>k.aF (s.ord i hi) (hS _ (.inr ⟨i,hi,rfl⟩)),s.le,s.small,s.PS⟩
theorem Aq.jV{w w':World}(h:∃q,w'=w.drewN q):aj aJ w w':=by
 obtain⟨q,rfl⟩:=h;exact (aj.refl _ w).drewN q
theorem Aq.aF{w w':World}(h:∃q,w'=w.drewN q){b:Nat}{c:Array Value}{t:TypeId}(k:aA w b c t):aA w' b c t:=(Aq.jV h).aF k id
theorem kM.swap{w w':World}{ab cap n:Nat}{h:Nat->Nat}{om:Nat->Ord}(s:kM w ab cap n h om){i j:Nat}(hi:i<n)(hj:j<n)(hij:i≠j)
 (hw:∃q,w'=((((w.setCell ⟨ab,i,none⟩ (PP (h j))).setCell ⟨ab,j,none⟩ (PP (h i))).setCell ⟨h j,13,none⟩ (II i)).setCell ⟨h i,13,none⟩ (II j)).drewN q) :
 kM w' ab cap n (sw h i j) om/\aj (Sd ab n h) w w':=by
 obtain⟨cs,hb,hc,hp⟩:=s.sJ;have hne:∀k,k<n->h k≠ab:=fun k hk=>aA.ne (s.ord k hk) hb (by decide)
 have hab:h i≠h j:=fun e=>hij (s.inj hi hj e)
 have hle:=s.le;refine⟨⟨⟨(cs.setIfInBounds i (PP (h j))).setIfInBounds j (PP (h i)),?_,by simpa using hc,?_⟩,?_,s.le,s.small,s.PS⟩,?_⟩
 ·exact Aq.aF hw ((((hb.set i _).set j _).other (fun e=>hne j hj e.symm) _).other (fun e=>hne i hi e.symm) _)
 ·intro k hk;have:=hp k hk;unfold sw;by_cases h1:k=i
  ·subst h1;rw[if_pos rfl,Array.getElem?_setIfInBounds_ne (fun e=>hij e.symm),Array.getElem?_setIfInBounds_self_of_lt (by omega)]
  ·rw[if_neg h1];by_cases h2:k=j
   ·subst h2;rw[if_pos rfl,Array.getElem?_setIfInBounds_self_of_lt (by simp;omega)]
   ·rw[if_neg h2,Array.getElem?_setIfInBounds_ne (fun e=>h2 e.symm),Array.getElem?_setIfInBounds_ne (fun e=>h1 e.symm),this]
 ·intro k hk;unfold sw;have base:∀{b:Nat} {c:Array Value} {t:TypeId},aA w b c t->b≠ab->aA ((w.setCell ⟨ab,i,none⟩ (PP (h j))).setCell ⟨ab,j,none⟩ (PP (h i))) b c t:=fun hb hn=>(hb.other hn _).other hn _
  by_cases h1:k=i
  ·subst h1;rw[if_pos rfl];have:=(base (s.ord j hj) (hne j hj)).set 13 (II (k:Int));exact Aq.aF hw (this.other (fun e=>hab e.symm) _)
  ·rw[if_neg h1];by_cases h2:k=j
   ·subst h2;rw[if_pos rfl];exact Aq.aF hw (((base (s.ord i hi) (hne i hi)).other hab _).set 13 _)
   ·rw[if_neg h2];exact Aq.aF hw (((base (s.ord k hk) (hne k hk)).other (fun e=>h2 (s.inj hk hj e)) _).other (fun e=>h1 (s.inj hk hi e)) _)
 ·refine aj.trans ?_ (Aq.jV hw).bI;exact ((((aj.refl _ w).setCell (.inl (.inl rfl)) _).setCell (.inl (.inl rfl)) _).setCell (.inl (.inr ⟨j,hj,rfl⟩)) _).setCell (.inl (.inr ⟨i,hi,rfl⟩)) _
def fP(om:Nat->Ord)(x y:Nat):Bool:=mg (om x) (om y)
def vF(lt:Nat->Nat->Bool)(h:Nat->Nat)(j:Nat):Nat->Nat :=
 if hj:j=0 then h else
  if lt (h j) (h ((j-1) / 2)) then vF lt (sw h ((j-1) / 2) j) ((j-1) / 2) else h
theorem EL(ab cap n i j:Nat)(h:Nat->Nat)(om:Nat->Ord)(w:World)(hs:kM w ab cap n h om)(hi:i<n)(hj:j<n) :
 CT 257 #[.slice (some ⟨ab,0,none⟩) n cap,II i,II j] w fun e w'=>e=.returned (.bool (fP om (h i) (h j)))/\aj aJ w w':=by
 obtain⟨cs,hb,hc,hp⟩:=hs.sJ;have:=hs.le;have:=hs.small;refine (Uw ab n cap i j (h i) (h j) (om (h i)) (om (h j)) i j w hi hj (by omega) ((hb.cell i).trans (hp i hi)) ((hb.cell j).trans (hp j hj)) (hs.ord i hi) (hs.ord j hj)).mono ?_;rintro e w' ⟨rfl,hb⟩;exact⟨rfl,aj.qO hb⟩
theorem yV(ab cap n i j:Nat)(h:Nat->Nat)(om:Nat->Ord)(w:World)(hs:kM w ab cap n h om)(hi:i<n)(hj:j<n)(hij:i≠j) :
 CT 258 #[.slice (some ⟨ab,0,none⟩) n cap,II i,II j] w fun e w'=>e=.returned (.tuple #[])/\kM w' ab cap n (sw h i j) om/\aj (Sd ab n h) w w':=by
 obtain⟨cs,hb,hc,hp⟩:=hs.sJ;have hne:∀k,k<n->h k≠ab:=fun k hk=>aA.ne (hs.ord k hk) hb (by decide)
 have oi:=hs.ord i hi;have oj:=hs.ord j hj;refine (VA ab n cap i j (h i) (h j) (II i) (II j) w hi hj hij (fun e=>hij (hs.inj hi hj e)) (hne i hi) (hne j hj) ((hb.cell i).trans (hp i hi)) ((hb.cell j).trans (hp j hj)) (hb.frozen i) (hb.frozen j)
  (oi.cell 13) (oj.cell 13) (oi.frozen 13) (oj.frozen 13)).mono ?_
 rintro e w' ⟨rfl,hw⟩;exact⟨rfl,hs.swap hi hj hij hw⟩
theorem Ns(a:Addr)(w:World)(s:Option Addr)(n c:Nat)(h:w.cell? a=some (.slice s n c)):(loadVar 155 a).run Tryz.prog w=.ok (.slice s n c) w:=by
 go_simp
theorem BR (a : Addr) (w : World) (s : Option Addr) (n c : Nat) (h : w.cell? a = some (.slice s n c)) : Sem.run Tryz.prog (method 416 216 (.pointer (some a)) "Less") w = .ok (257, .slice s n c) w := by
 have e : Sem.run Tryz.prog (method 416 216 (.pointer (some a)) "Less") w = Sem.run Tryz.prog (do let v <- loadVar 155 a; pure (257, v)) w := by kernel_rfl
 rw[e];have:=Ns a w s n c h;go_simp
theorem uk (a : Addr) (w : World) (s : Option Addr) (n c : Nat) (h : w.cell? a = some (.slice s n c)) : Sem.run Tryz.prog (method 416 216 (.pointer (some a)) "Swap") w = .ok (258, .slice s n c) w := by
 have e : Sem.run Tryz.prog (method 416 216 (.pointer (some a)) "Swap") w = Sem.run Tryz.prog (do let v <- loadVar 155 a; pure (258, v)) w := by kernel_rfl
 rw[e];have:=Ns a w s n c h;go_simp
theorem OY (a : Addr) (w : World) (s : Option Addr) (n c : Nat) (h : w.cell? a = some (.slice s n c)) : Sem.run Tryz.prog (method 416 216 (.pointer (some a)) "Len") w = .ok (256, .slice s n c) w := by
 have e : Sem.run Tryz.prog (method 416 216 (.pointer (some a)) "Len") w = Sem.run Tryz.prog (do let v <- loadVar 155 a; pure (256, v)) w := by kernel_rfl
 rw[e];have:=Ns a w s n c h;go_simp
theorem UA (a : Addr) (w : World) : Sem.run Tryz.prog (method 416 216 (.pointer (some a)) "Push") w = .ok (260, .pointer (some a)) w := by kernel_rfl
theorem Gv (a : Addr) (w : World) : Sem.run Tryz.prog (method 416 216 (.pointer (some a)) "Pop") w = .ok (259, .pointer (some a)) w := by kernel_rfl
theorem Lc{lt:Nat->Nat->Bool}{h:Nat->Nat}{j:Nat}(hh:j=0\/lt (h j) (h ((j-1) / 2))=false):vF lt h j=h:=by
 rw[vF];rcases hh with hh | hh
 ·rw[dif_pos hh]
 ·split
  ·rfl
  ·rw[hh];rfl
theorem aaJ{lt:Nat->Nat->Bool}{h:Nat->Nat}{j:Nat}(h0:j≠0)(hh:lt (h j) (h ((j-1) / 2))=true):vF lt h j=vF lt (sw h ((j-1) / 2) j) ((j-1) / 2):=by
 rw[vF,dif_neg h0,hh,if_pos rfl]
theorem VT(bb so ab cap n j:Nat)(bc:Array Value)(h:Nat->Nat)(om:Nat->Ord)(w:World)(hbk:aA w bb bc 158)(hso:bc[so]?=some (.slice (some ⟨ab,0,none⟩) n cap))(hs:kM w ab cap n h om)(hj:j<n) :
 CT 176 #[.iface 216 (.pointer (some ⟨bb,so,none⟩)),II j] w fun e w'=>e=.returned (.tuple #[])/\kM w' ab cap n (vF (fP om) h j) om/\aj (Sd ab n h) w w':=by
 go_enter Tryz.func176,Tryz.ntmps176;go_wp2;go_loopg [1,4] j (fun k jv _ wr=>∃hh:Nat->Nat,jv=II (k:Int)/\k<n/\kM wr ab cap n hh om/\aj (Sd ab n h) w wr/\Sd ab n hh=Sd ab n h/\vF (fP om) hh k=vF (fP om) h j)
 case atStart=>exact⟨h,rfl,hj,hs,aj.refl _ _,rfl,rfl⟩
 case round =>
  obtain⟨hh,rfl,hk,hs1,hc1,hS1,hu⟩:=hrel;have AU:Hid (Sd ab n hh=Sd ab n h/\vF (fP om) hh gk=vF (fP om) h j):=⟨hS1,hu⟩;clear hS1 hu;by_cases h0:gk=0
  ·subst h0;go_wp2;go_end0;refine⟨rfl,?_,hc1⟩;rw[<-AU.out.2,Lc (.inl rfl)];exact hs1
  ·obtain⟨m,rfl⟩:∃m,gk=m+1:=⟨gk-1,by omega⟩;have hcl:=hs1.small;have hcap2:m+1<1000:=by omega
   have e1:((m:Int) / 2 == (m:Int)+1)=false:=by simp;omega
   have hbk1:=hc1.aF hbk (fun x=>by
    rcases x with rfl | ⟨k,hk,rfl⟩
    ·obtain⟨cs,hb,_⟩:=hs.sJ;exact aA.ne hbk hb (by decide) rfl
    ·exact aA.ne hbk (hs.ord k hk) (by decide) rfl)
   have cb1:=(hbk1.cell so).trans hso;have hml:=BR _ _ _ _ _ cb1;clear h0 hj hcl;push_cast;go_wp2_with fail;rw[show (m:Int) / 2=((m / 2:Nat):Int) from by omega,show (m:Int)+1=((m+1:Nat):Int) from by omega];refine (EL ab cap n (m+1) (m / 2) hh om wr hs1 hk (by omega)).mono ?_;rintro e w2 ⟨rfl,hc2⟩;cases hl:fP om (hh (m+1)) (hh (m / 2))
   ·have HL:=hl;clear hl;go_wp2;go_end0;refine⟨rfl,?_,hc1.trans hc2.bI⟩;rw[<-AU.out.2,Lc (.inr HL)];exact hs1.aC hc2 (fun _ _ x=>x)
   ·have hs2:=hs1.aC hc2 (fun _ _ x=>x);have hbk2:=hc2.aF hbk1 aU;have cb2:=(hbk2.cell so).trans hso;have hms:=uk _ _ _ _ _ cb2;clear hml;go_wp2_with fail;refine (yV ab cap n (m / 2) (m+1) hh om w2 hs2 (by omega) hk (by omega)).mono ?_;rintro e w3 ⟨rfl,hs3,hc3⟩;clear hms;go_wp2;go_roundg (m / 2)
    case measure=>omega
    case rel =>
     obtain⟨a1,a2⟩:=AU.out;refine⟨sw hh (m / 2) (m+1),by simp,by omega,hs3,?_,?_,?_⟩
     ·exact (hc1.trans hc2.bI).trans (hc3.mono (fun b hb=>by rw[<-a1];exact hb))
     ·rw[AL (by omega) hk,a1]
     ·rw[<-a2,aaJ (j:=m+1) (by omega) hl]
      rfl
open Go.Shelf
def Gm:Go.Shelf.Ren:=⟨fun | 171=>115 | 243=>148 | 246=>174 | 283=>207 | 284=>208 | 285=>209 | 286=>210 | 129=>188 | 317=>226 | 318=>227 | 319=>228 | 320=>229 | 337=>237 | 338=>238 | n=>n,fun | 3=>3 | 9=>9 | 2=>2 | 4=>4 | 171=>268 | 0=>0 | 53=>253 | 37=>98 | 5=>5 | 173=>270 | 212=>287 | 51=>251 | 20=>20 | 213=>288 | 46=>223 | 232=>301 | 233=>302 | n=>n,fun | 17=>3 | 18=>6 | 19=>7 | n=>n⟩
theorem Uo:Go.Proofs.LaysM.n171 Tryz.prog Gm :=
 { mixed:=by kernel_rfl,f129:=Tryz.func188.trans (congrArg some (by kernel_rfl)),f171:=Tryz.func115.trans (congrArg some (by kernel_rfl)),f243:=Tryz.func148.trans (congrArg some (by kernel_rfl)),f246:=Tryz.func174.trans (congrArg some (by kernel_rfl)),f283:=Tryz.func207.trans (congrArg some (by kernel_rfl)),f284:=Tryz.func208.trans (congrArg some (by kernel_rfl)),f285:=Tryz.func209.trans (congrArg some (by kernel_rfl)),f286:=Tryz.func210.trans (congrArg some (by kernel_rfl)),f317:=Tryz.func226.trans (congrArg some (by kernel_rfl)),f318:=Tryz.func227.trans (congrArg some (by kernel_rfl)),f319:=Tryz.func228.trans (congrArg some (by kernel_rfl)),f320:=Tryz.func229.trans (congrArg some (by kernel_rfl)),f337:=Tryz.func237.trans (congrArg some (by kernel_rfl)),f338:=Tryz.func238.trans (congrArg some (by kernel_rfl)),t0:=Tryz.underlying0,a0:=Tryz.isAgg0,z0:=Tryz.sizeOf0,v0:=Tryz.zeroValue0,t2:=Tryz.underlying2,a2:=Tryz.isAgg2,z2:=Tryz.sizeOf2,v2:=Tryz.zeroValue2,t3:=Tryz.underlying3,a3:=Tryz.isAgg3,z3:=Tryz.sizeOf3,v3:=Tryz.zeroValue3,t4:=Tryz.underlying4,a4:=Tryz.isAgg4,z4:=Tryz.sizeOf4,v4:=Tryz.zeroValue4,t5:=Tryz.underlying5,a5:=Tryz.isAgg5,z5:=Tryz.sizeOf5,v5:=Tryz.zeroValue5,t9:=Tryz.underlying9,a9:=Tryz.isAgg9,z9:=Tryz.sizeOf9,v9:=Tryz.zeroValue9,t20:=Tryz.underlying20,a20:=Tryz.isAgg20,z20:=Tryz.sizeOf20,v20:=Tryz.zeroValue20,t37:=Tryz.underlying98,a37:=Tryz.isAgg98,z37:=Tryz.sizeOf98,v37:=Tryz.zeroValue98,t46:=Tryz.underlying223,a46:=Tryz.isAgg223,z46:=Tryz.sizeOf223,v46:=Tryz.zeroValue223,t51:=Tryz.underlying251,a51:=Tryz.isAgg251,z51:=Tryz.sizeOf251,v51:=Tryz.zeroValue251,t53:=Tryz.underlying253,a53:=Tryz.isAgg253,z53:=Tryz.sizeOf253,v53:=Tryz.zeroValue253,t171:=Tryz.underlying268,a171:=Tryz.isAgg268,z171:=Tryz.sizeOf268,v171:=Tryz.zeroValue268,t173:=Tryz.underlying270,a173:=Tryz.isAgg270,z173:=Tryz.sizeOf270,v173:=Tryz.zeroValue270,t212:=Tryz.underlying287,a212:=Tryz.isAgg287,z212:=Tryz.sizeOf287,v212:=Tryz.zeroValue287,t213:=Tryz.underlying288,a213:=Tryz.isAgg288,z213:=Tryz.sizeOf288,t232:=Tryz.underlying301,a232:=Tryz.isAgg301,z232:=Tryz.sizeOf301,v232:=Tryz.zeroValue301,t233:=Tryz.underlying302,a233:=Tryz.isAgg302,z233:=Tryz.sizeOf302,v233:=Tryz.zeroValue302,g17:=by kernel_rfl,g18:=by kernel_rfl,g19:=by kernel_rfl,i0:=by kernel_rfl,i2:=by kernel_rfl,i3:=by kernel_rfl,i4:=by kernel_rfl,i5:=by kernel_rfl,i9:=by kernel_rfl,i20:=by kernel_rfl,i37:=by kernel_rfl,i46:=by kernel_rfl,i51:=by kernel_rfl,i53:=by kernel_rfl,i171:=by kernel_rfl,i173:=by kernel_rfl,i212:=by kernel_rfl,i232:=by kernel_rfl,i233:=by kernel_rfl,m17:=by kernel_rfl,m18:=by kernel_rfl,m19:=by kernel_rfl }
def kP (w : World) : Prop := Lib.TabIs Tryz.prog w "internal/strconv.uint64pow10" .u64 Lib.pow10Tab
def lh:Nat:=3
theorem NZ : Tryz.prog.globalNamed "internal/strconv.uint64pow10" = some lh := by kernel_rfl
theorem kP.aC{S:Nat->Prop}{w w':World}(h:kP w)(k:aj S w w')(hS:¬S lh):kP w':=by
 unfold kP Lib.TabIs World.var? at h ⊢;rw[NZ]at h ⊢;simp only[Option.bind_some]at h ⊢;have hlt:lh<w.heap.size:=by
  rcases Nat.lt_or_ge lh w.heap.size with h' | h'
  ·exact h'
  ·rw[Array.getElem?_eq_none h']at h;simp at h
 rw[k.block lh hlt hS];exact h
theorem kP.lt{w:World}(h:kP w):lh<w.heap.size:=by
 unfold kP Lib.TabIs World.var? at h;rw[NZ]at h;simp only[Option.bind_some]at h;rcases Nat.lt_or_ge lh w.heap.size with h' | h'
 ·exact h'
 ·rw[Array.getElem?_eq_none h']at h;simp at h
theorem kP.aB{w w':World}(h:kP w)(k:aj aJ w w'):kP w':=h.aC k aU
theorem Ji(n:Int)(h0:-9223372036854775808<=n)(h1:n<=9223372036854775807)(w:World)(hT:kP w) :
 CT 115 #[II n] w fun e w'=>e=.returned (.string ⟨(Lib.itoa n).toArray⟩)/\aj aJ w w':=by
 refine (Any.strconv_Itoa Uo n h0 h1 w hT).mono ?_;rintro e w' ⟨rfl,k,os,rfl⟩;refine⟨rfl,rfl,rfl,rfl,?_,?_⟩
 ·show w.heap.size<=(w.heap++os).size;rw[Array.size_append];omega
 ·intro j hj _;show (w.heap++os)[j]?=w.heap[j]?;rw[Array.getElem?_append_left hj]
def GH(n:Int):ByteArray:=⟨#[32]⟩++⟨(Lib.itoa n).toArray⟩
def fJ(f:Nat->Int)(word:ByteArray):Nat->ByteArray
 | 0=>word
 | i+1=>fJ f word i++GH (f i)
theorem QD(n:Int)(h0:-9223372036854775808<=n)(h1:n<=9223372036854775807):(GH n).size<=22:=by
 have:=Lib.itoa_length_le n h0 h1;have e:(GH n).size=1+(Lib.itoa n).length:=by simp[GH,ByteArray.size_append];rfl
 omega
theorem jX(f:Nat->Int)(word:ByteArray):∀k,(∀i,i<k->-9223372036854775808<=f i/\f i<=9223372036854775807)->(fJ f word k).size<=word.size+22 * k
 | 0,_=>by simp[fJ]
 | k+1,h=>by
   have h1:=jX f word k (fun i hi=>h i (by omega));have h2:=QD (f k) (h k (by omega)).1 (h k (by omega)).2;simp only[fJ,ByteArray.size_append];omega
def QO:Go.Shelf.Ren:=⟨fun | 6=>128 | 15=>158 | 14=>157 | 28=>187 | 29=>188 | 20=>179 | 21=>180 | 22=>181 | 23=>182 | 24=>183 | 25=>184 | 26=>185 | 27=>186 | 46=>213 | 47=>214 | 48=>215 | 49=>216 | 50=>217 | 57=>230 | n=>n,fun | 22=>150 | 24=>114 | 25=>159 | 3=>3 | 39=>223 | 0=>0 | 53=>251 | 55=>253 | 4=>4 | 46=>244 | 45=>243 | 50=>248 | 5=>5 | 9=>9 | 66=>273 | 70=>277 | 76=>289 | 77=>262 | n=>n,fun | n=>n⟩
theorem acm:Go.Proofs.SlLaysF.n6 Tryz.prog QO :=
 { mixed:=by kernel_rfl,f6:=⟨Tryz.f128.name,by decide,Tryz.func128.trans (congrArg some (by kernel_rfl))⟩,f14:=⟨Tryz.f157.name,by decide,Tryz.func157.trans (congrArg some (by kernel_rfl))⟩,f15:=Tryz.func158.trans (congrArg some (by kernel_rfl)),f20:=⟨Tryz.f179.name,by decide,Tryz.func179.trans (congrArg some (by kernel_rfl))⟩,f21:=⟨Tryz.f180.name,by decide,Tryz.func180.trans (congrArg some (by kernel_rfl))⟩,f22:=⟨Tryz.f181.name,by decide,Tryz.func181.trans (congrArg some (by kernel_rfl))⟩,f23:=⟨Tryz.f182.name,by decide,Tryz.func182.trans (congrArg some (by kernel_rfl))⟩,f24:=⟨Tryz.f183.name,by decide,Tryz.func183.trans (congrArg some (by kernel_rfl))⟩,f25:=⟨Tryz.f184.name,by decide,Tryz.func184.trans (congrArg some (by kernel_rfl))⟩,f26:=⟨Tryz.f185.name,by decide,Tryz.func185.trans (congrArg some (by kernel_rfl))⟩,f27:=⟨Tryz.f186.name,by decide,Tryz.func186.trans (congrArg some (by kernel_rfl))⟩,f28:=Tryz.func187.trans (congrArg some (by kernel_rfl)),f29:=Tryz.func188.trans (congrArg some (by kernel_rfl)),f46:=⟨Tryz.f213.name,by decide,Tryz.func213.trans (congrArg some (by kernel_rfl))⟩,f47:=Tryz.func214.trans (congrArg some (by kernel_rfl)),f48:=Tryz.func215.trans (congrArg some (by kernel_rfl)),f49:=⟨Tryz.f216.name,by decide,Tryz.func216.trans (congrArg some (by kernel_rfl))⟩,f50:=⟨Tryz.f217.name,by decide,Tryz.func217.trans (congrArg some (by kernel_rfl))⟩,f57:=⟨Tryz.f230.name,by decide,Tryz.func230.trans (congrArg some (by kernel_rfl))⟩,t0:=Tryz.underlying0,a0:=Tryz.isAgg0,z0:=Tryz.sizeOf0,v0:=Tryz.zeroValue0,t3:=Tryz.underlying3,a3:=Tryz.isAgg3,z3:=Tryz.sizeOf3,v3:=Tryz.zeroValue3,t4:=Tryz.underlying4,a4:=Tryz.isAgg4,z4:=Tryz.sizeOf4,v4:=Tryz.zeroValue4,t5:=Tryz.underlying5,a5:=Tryz.isAgg5,z5:=Tryz.sizeOf5,v5:=Tryz.zeroValue5,t9:=Tryz.underlying9,a9:=Tryz.isAgg9,z9:=Tryz.sizeOf9,v9:=Tryz.zeroValue9,t22:=Tryz.underlying150,a22:=Tryz.isAgg150,z22:=Tryz.sizeOf150,v22:=Tryz.zeroValue150,a24:=Tryz.isAgg114,z24:=Tryz.sizeOf114,t25:=Tryz.underlying159,a25:=Tryz.isAgg159,z25:=Tryz.sizeOf159,v25:=Tryz.zeroValue159,t39:=Tryz.underlying223,a39:=Tryz.isAgg223,z39:=Tryz.sizeOf223,v39:=Tryz.zeroValue223,t45:=Tryz.underlying243,a45:=Tryz.isAgg243,z45:=Tryz.sizeOf243,v45:=Tryz.zeroValue243,t46:=Tryz.underlying244,a46:=Tryz.isAgg244,z46:=Tryz.sizeOf244,v46:=Tryz.zeroValue244,t50:=Tryz.underlying248,a50:=Tryz.isAgg248,z50:=Tryz.sizeOf248,v50:=Tryz.zeroValue248,t53:=Tryz.underlying251,a53:=Tryz.isAgg251,z53:=Tryz.sizeOf251,v53:=Tryz.zeroValue251,t55:=Tryz.underlying253,a55:=Tryz.isAgg253,z55:=Tryz.sizeOf253,v55:=Tryz.zeroValue253,t66:=Tryz.underlying273,a66:=Tryz.isAgg273,z66:=Tryz.sizeOf273,v66:=Tryz.zeroValue273,t70:=Tryz.underlying277,a70:=Tryz.isAgg277,z70:=Tryz.sizeOf277,v70:=Tryz.zeroValue277,t76:=Tryz.underlying289,a76:=Tryz.isAgg289,z76:=Tryz.sizeOf289,v76:=Tryz.zeroValue289,t77:=Tryz.underlying262,a77:=Tryz.isAgg262,z77:=Tryz.sizeOf262,v77:=Tryz.zeroValue262 }
end Go.Proofs.YtigaphnafnpfnaaGreatDoor
