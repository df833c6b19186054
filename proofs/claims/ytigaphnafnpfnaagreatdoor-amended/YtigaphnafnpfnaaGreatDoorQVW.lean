import Derived.WalkKit
import Derived.WalkSpells
import Derived.WalkLawsBesides
import Derived.Maps.OwnSet
import Derived.Test.YtigaphnafnpfnaaGreatDoorRows
import Derived.Deep.QuietTactic
import Derived.BigQuiet
import Derived.BigRegion
import Derived.Deep.RegionWith
import Derived.Deep.LoopGhost
import Derived.Deep.RegionHeld3
import Derived.Deep.DrawnRows
import Derived.Deep.AppendLies
set_option linter.unusedVariables false
set_option linter.unusedSimpArgs false
set_option maxHeartbeats 8000000
set_option maxRecDepth 100000
namespace Go.Proofs.YtigaphnafnpfnaaGreatDoor
open Go.RowKit
theorem hide{p:Prop}(h:p):Hid p:=h
theorem ae{p:Prop}(h:Hid p):p:=h
structure ag(S:Nat→Prop)(w w':World):Prop where
 os:w'.os=w.os
 tape:w'.tape=w.tape
 output:w'.output=w.output
 size:w.heap.size≤w'.heap.size
 block:∀k,k<w.heap.size→¬S k→w'.heap[k]?=w.heap[k]?
def ak:Nat→Prop:=fun _=>False
theorem ag.refl(S:Nat→Prop)(w:World):ag S w w:=⟨rfl,rfl,rfl,Nat.le_refl _,fun _ _ _=>rfl⟩
theorem ag.trans{S:Nat→Prop}{a b c:World}(h:ag S a b)(k:ag S b c):ag S a c :=
 ⟨k.os.trans h.os,k.tape.trans h.tape,k.output.trans h.output,Nat.le_trans h.size k.size,fun i hi hs=>(k.block i (Nat.lt_of_lt_of_le hi h.size) hs).trans (h.block i hi hs)⟩
theorem ag.mono{S S':Nat→Prop}{a b:World}(h:ag S a b)(hS:∀k,S k→S' k):ag S' a b :=
 ⟨h.os,h.tape,h.output,h.size,fun k hk hs=>h.block k hk (fun x=>hs (hS k x))⟩
theorem ag.aC{S:Nat→Prop}{a b:World}(h:ag ak a b):ag S a b:=h.mono (fun _ x=>x.elim)
theorem ag.from{S:Nat→Prop}{a b c:World}(h:ag S a b)(k:ag (fun i=>S i∨a.heap.size≤i) b c):ag S a c :=
 ⟨k.os.trans h.os,k.tape.trans h.tape,k.output.trans h.output,Nat.le_trans h.size k.size,fun i hi hs=>(k.block i (Nat.lt_of_lt_of_le hi h.size) (fun x=>x.elim hs (fun y=>by omega))).trans (h.block i hi hs)⟩
theorem ag.drew{S:Nat→Prop}{a w:World}(h:ag S a w):ag S a w.drew:=⟨h.os,h.tape,h.output,h.size,h.block⟩
theorem ag.drewN{S:Nat→Prop}{a w:World}(h:ag S a w)(n:Nat):ag S a (w.drewN n):=⟨h.os,h.tape,h.output,h.size,h.block⟩
theorem ag.alloc{S:Nat→Prop}{a w:World}(h:ag S a w)(o:Obj):ag S a (w.alloc o) :=
 ⟨h.os,h.tape,h.output,by have:=h.size;simp;omega,fun k hk hs=>(Below.heap_alloc _ _ _ (Nat.lt_of_lt_of_le hk h.size)).trans (h.block k hk hs)⟩
theorem ag.setCell{S:Nat→Prop}{a w:World}(h:ag S a w){p:Addr}(hp:S p.block∨a.heap.size≤p.block)(u:Value):ag S a (w.setCell p u) :=
 ⟨h.os,h.tape,h.output,by have:=h.size;simpa [World.setCell] using this,fun k hk hs=>(Below.heap_setCell _ _ _ _ (by rintro rfl;rcases hp with hp | hp;exact hs hp;omega)).trans (h.block k hk hs)⟩
theorem ag.of_below{w w':World}(h:Below w.heap.size w w'):ag ak w w':=⟨h.os,h.tape,h.output,h.size,fun k hk _=>h.block k hk⟩
theorem ag.below{w w':World}(h:ag ak w w'):Below w.heap.size w w':=⟨h.os,h.tape,h.output,h.size,fun k hk=>h.block k hk (fun x=>x)⟩
theorem ag.Qy{S:Nat→Prop}{B:Nat}{w w':World}(h:ag S w w')(hB:B≤w.heap.size)(hS:∀k,S k→B≤k):Below B w w':=⟨h.os,h.tape,h.output,h.size,fun k hk=>h.block k (by omega) (fun x=>by have:=hS k x;omega)⟩
theorem ag.grown{S:Nat→Prop}{a w w':World}{row:Option Nat}(h:ag S a w)(hg:w.grownBy w' row)(hr:∀k,row=some k→S k∨a.heap.size≤k):ag S a w' :=
 h.from ⟨hg.os,hg.tape,hg.output,hg.size,fun k hk hs=>hg.block k hk (fun e=>by rcases hr k e.symm with x | x;exact hs (.inl x);exact hs (.inr x))⟩
def ai(w:World)(b:Nat)(c:Array Value)(t:TypeId):Prop:=w.heap[b]?=some (.cells c t)
theorem ai.lt{w:World}{b:Nat}{c:Array Value}{t:TypeId}(h:ai w b c t):b<w.heap.size:=(Array.getElem?_eq_some_iff.1 h).1
theorem ai.cell{w:World}{b:Nat}{c:Array Value}{t:TypeId}(h:ai w b c t)(i:Nat):w.cell? ⟨b,i,none⟩=c[i]?:=by
 unfold ai at h;simp[World.cell?,h]
theorem ai.frozen{w:World}{b:Nat}{c:Array Value}{t:TypeId}(h:ai w b c t)(i:Nat):w.frozen? ⟨b,i,none⟩=false:=by
 unfold ai at h;simp[World.frozen?,h]
theorem ai.ne{w:World}{b b':Nat}{c c':Array Value}{t t':TypeId}(h:ai w b c t)(h':ai w b' c' t')(ht:t≠t'):b≠b':=by
 rintro rfl;unfold ai at h h';rw[h]at h';simp at h';exact ht h'.2
theorem ai.uniq{w:World}{b:Nat}{c c':Array Value}{t t':TypeId}(h:ai w b c t)(h':ai w b c' t'):c=c':=by
 unfold ai at h h';rw[h]at h';simp at h';exact h'.1
theorem ai.set{w:World}{b:Nat}{c:Array Value}{t:TypeId}(h:ai w b c t)(i:Nat)(v:Value):ai (w.setCell ⟨b,i,none⟩ v) b (c.setIfInBounds i v) t:=by
 unfold ai at h ⊢;simp[World.setCell,Array.getElem?_modify,h]
theorem ai.other{w:World}{b:Nat}{c:Array Value}{t:TypeId}(h:ai w b c t){a:Addr}(ha:b≠a.block)(v:Value):ai (w.setCell a v) b c t:=by
 unfold ai at h ⊢;rw[Below.heap_setCell _ _ _ _ ha];exact h
theorem ai.alloc{w:World}{b:Nat}{c:Array Value}{t:TypeId}(h:ai w b c t)(o:Obj):ai (w.alloc o) b c t:=by
 have:=h.lt;unfold ai at h ⊢;rw[Below.heap_alloc _ _ _ this];exact h
theorem ai.new(w:World)(c:Array Value)(t:TypeId):ai (w.alloc (.cells c t)) w.heap.size c t:=by
 unfold ai;show (w.heap.push _)[w.heap.size]?=_;simp
theorem ai.drew{w:World}{b:Nat}{c:Array Value}{t:TypeId}(h:ai w b c t):ai w.drew b c t:=h
theorem ai.drewN{w:World}{b:Nat}{c:Array Value}{t:TypeId}(h:ai w b c t)(n:Nat):ai (w.drewN n) b c t:=h
theorem ag.blk{S:Nat→Prop}{w w':World}(k:ag S w w'){b:Nat}{c:Array Value}{t:TypeId}(h:ai w b c t)(hs:¬S b):ai w' b c t:=by
 have:=h.lt;unfold ai at h ⊢;rw[k.block b this hs];exact h
theorem ag.cell{S:Nat→Prop}{w w':World}(k:ag S w w'){p:Addr}{v:Value}(h:w.cell? p=some v)(hs:¬S p.block):w'.cell? p=some v :=
 (World.cell?_of_block (k.block p.block (World.block_lt_of_cell? w p h) hs)).trans h
end Go.Proofs.YtigaphnafnpfnaaGreatDoor
namespace Go.Proofs.YtigaphnafnpfnaaGreatDoor
open Go.RowKit
attribute [local go_sem ↓] Go.wp_at_zero Go.wp_at_succ
theorem Lc(a:Int)(w:World):Calls Tryz.prog 159 #[.int .i64 a] w fun e w'=>e=.returned (.bool false)∧w'=w:=by
 go_enter Tryz.func159,Tryz.ntmps159
 go_wp2
 go_ret
 exact⟨by simp,rfl⟩
def jO(a b:Int):Int:=if a<b then -1 else if b<a then 1 else 0
theorem gI(a b:Int)(w:World):Calls Tryz.prog 130 #[.int .i64 a,.int .i64 b] w fun e w'=>e=.returned (.int .i64 (jO a b))∧w'=w:=by
 go_enter Tryz.func130,Tryz.ntmps130
 go_wp2_with (go_at_call 159;refine (Lc _ _).mono ?_;rintro e w' ⟨rfl,rfl⟩)
 all_goals (go_ret;refine⟨congrArg (fun n=>Ending.returned (.int .i64 n)) ?_,rfl⟩)
 ·rw[jO,if_pos (by omega)]
 ·rw[jO,if_neg (by omega),if_pos (by omega)]
 ·rw[jO,if_neg (by omega),if_neg (by omega)]
def Pg(p q:Int):Int:=if p=0 then q else p
theorem C9(g cap:Nat)(p q:Int)(w:World)(h0:w.cell? ⟨g,0,none⟩=some (.int .i64 p))(h1:w.cell? ⟨g,1,none⟩=some (.int .i64 q)) :
 Calls Tryz.prog 131 #[.slice (some ⟨g,0,none⟩) 2 cap] w fun e w'=>e=.returned (.int .i64 (Pg p q))∧w'=w:=by
 by_cases hp:p=0
 ·subst hp
  by_cases hq:q=0
  ·subst hq
   go_enter Tryz.func131,Tryz.ntmps131
   go_wp2
   go_loop [5,8] (fun _ i=>∃k:Nat,k≤2∧i=.int .i64 k) (fun _ i=>2-(intOf i).toNat)
   case atStart=>exact⟨0,by omega,rfl⟩
   case round =>
    obtain⟨k,hk,rfl⟩:=hrel
    by_cases hlt:k<2
    ·have hc:w.cell? ⟨g,k,none⟩=some (.int .i64 0):=by
      have:k=0∨k=1:=by omega
      rcases this with rfl | rfl
      ·exact h0
      ·exact h1
     clear h0 h1
     go_wp2
     go_round
     case rel=>exact⟨k+1,by omega,by go_num⟩
     case measure=>simp[intOf];omega
    ·go_wp2
     go_ret
     exact⟨by simp[Pg],rfl⟩
  ·have hq':(q != 0)=true:=by simp[hq]
   go_enter Tryz.func131,Tryz.ntmps131
   go_wp2
   go_loop [5,8] (fun _ i=>∃k:Nat,k≤1∧i=.int .i64 k) (fun _ i=>2-(intOf i).toNat)
   case atStart=>exact⟨0,by omega,rfl⟩
   case round =>
    obtain⟨k,hk,rfl⟩:=hrel
    have:k=0∨k=1:=by omega
    rcases this with rfl | rfl
    ·go_wp2
     go_round
     case rel=>exact⟨1,by omega,by go_num⟩
     case measure=>simp[intOf]
    ·go_wp2
     go_ret
     exact⟨by simp[Pg],rfl⟩
 ·have hp':(p != 0)=true:=by simp[hp]
  go_enter Tryz.func131,Tryz.ntmps131
  go_wp2
  go_loop [5,8] (fun _ i=>i=.int .i64 0) (fun _ _=>0)
  case atStart=>rfl
  case round =>
   subst hrel
   go_wp2
   go_ret
   exact⟨by simp[Pg,hp],rfl⟩
structure Ord where
 id:Int
 owner:Int
 sym:ByteArray
 side:Int
 kind:Int
 price:Int
 qty:Int
 entered:Int
 opn:Int
 filled:Int
 aG:Int
 exp:Int
 place:Int
def Ord.cells(o:Ord)(idx:Int):Array Value :=
 #[.int .i64 o.id,.int .i64 o.owner,.string o.sym,.int .i64 o.side,.int .i64 o.kind,.int .i64 o.price,.int .i64 o.qty,.int .i64 o.entered,.int .i64 o.opn,.int .i64 o.filled,.int .i64 o.aG,.int .i64 o.exp,.int .i64 o.place,.int .i64 idx]
def bC(w:World)(b:Nat)(o:Ord)(idx:Int):Prop:=ai w b (o.cells idx) 116
def jw(a b:Ord):Int :=
 let p:=jO a.price b.price
 let p':=if a.side=0 then -p else p
 Pg p' (jO a.place b.place)
theorem NK(a b:Int):-1≤jO a b∧jO a b≤1:=by unfold jO;split <;> (try split) <;> omega
theorem Hl(a b:Nat)(oa ob:Ord)(ia ib:Int)(w:World)(ha:bC w a oa ia)(hb:bC w b ob ib) :
 Calls Tryz.prog 83 #[.pointer (some ⟨a,0,none⟩),.pointer (some ⟨b,0,none⟩)] w fun e w'=>e=.returned (.int .i64 (jw oa ob))∧Below w.heap.size w w':=by
 have a3:=ha.cell 3
 have a5:=ha.cell 5
 have a12:=ha.cell 12
 have b5:=hb.cell 5
 have b12:=hb.cell 12
 have la:=ha.lt
 have lb:=hb.lt
 simp only[Ord.cells]at a3 a5 a12 b5 b12
 simp at a3 a5 a12 b5 b12
 clear ha hb
 obtain⟨p1,p2⟩:=NK oa.price ob.price
 by_cases hs:oa.side=0
 ·have hs':(oa.side == 0)=true:=by simp[hs]
  have HF:Hid (jw oa ob=Pg (-(jO oa.price ob.price)) (jO oa.place ob.place)):=by show jw oa ob=_;simp only[jw,hs,if_true]
  clear hs
  go_enter Tryz.func83,Tryz.ntmps83
  go_wp2
  go_quiet ((go_at_call 130;exact Calls.quiet_of_same (gI _ _ _)))
  go_wp2
  go_region_held3 (fun w'=>w'.cell? ⟨a,12,none⟩=some (.int .i64 oa.place)∧w'.cell? ⟨b,12,none⟩=some (.int .i64 ob.place)) (go_keep)
   (first | (go_at_call 130;refine (gI _ _ _).mono ?_;rintro e w' ⟨rfl,rfl⟩) | (go_at_call 131;refine (C9 _ _ (-(jO oa.price ob.price)) (jO oa.place ob.place) _ ?_ ?_).mono ?_;(exact (ai.new _ _ _).cell 0);(exact (ai.new _ _ _).cell 1);rintro e w' ⟨rfl,rfl⟩))
  go_wp2
  go_ret
  exact⟨by rw[HF.out];rfl,((ag.refl ak w).drewN _ |>.alloc _).below⟩
 ·have hs':(oa.side == 0)=false:=by simp[hs]
  have HF:Hid (jw oa ob=Pg (jO oa.price ob.price) (jO oa.place ob.place)):=by show jw oa ob=_;simp only[jw,hs,if_false]
  clear hs
  go_enter Tryz.func83,Tryz.ntmps83
  go_wp2
  go_quiet ((go_at_call 130;exact Calls.quiet_of_same (gI _ _ _)))
  go_wp2
  go_region_held3 (fun w'=>w'.cell? ⟨a,12,none⟩=some (.int .i64 oa.place)∧w'.cell? ⟨b,12,none⟩=some (.int .i64 ob.place)) (go_keep)
   (first | (go_at_call 130;refine (gI _ _ _).mono ?_;rintro e w' ⟨rfl,rfl⟩) | (go_at_call 131;refine (C9 _ _ (jO oa.price ob.price) (jO oa.place ob.place) _ ?_ ?_).mono ?_;(exact (ai.new _ _ _).cell 0);(exact (ai.new _ _ _).cell 1);rintro e w' ⟨rfl,rfl⟩))
  go_wp2
  go_ret
  exact⟨by rw[HF.out];rfl,((ag.refl ak w).drewN _ |>.alloc _).below⟩
def iF(a b:Ord):Bool:=decide (jw a b<0)
theorem OQ(ab n cap i j a b:Nat)(oa ob:Ord)(ia ib:Int)(w:World)(hi:i<n)(hj:j<n)(_hn:n≤1000)
 (ci:w.cell? ⟨ab,i,none⟩=some (.pointer (some ⟨a,0,none⟩))) (cj:w.cell? ⟨ab,j,none⟩=some (.pointer (some ⟨b,0,none⟩))) (ha:bC w a oa ia) (hb:bC w b ob ib) :
 Calls Tryz.prog 257 #[.slice (some ⟨ab,0,none⟩) n cap,.int .i64 i,.int .i64 j] w fun e w'=>e=.returned (.bool (iF oa ob))∧Below w.heap.size w w':=by
 have i0:(0:Int)≤(i:Int):=by omega
 have i1:(i:Int)<(n:Int):=by omega
 have j0:(0:Int)≤(j:Int):=by omega
 have j1:(j:Int)<(n:Int):=by omega
 go_enter Tryz.func257,Tryz.ntmps257
 go_wp2
 go_region_held3 (fun w'=>w'.cell? ⟨ab,i,none⟩=some (.pointer (some ⟨a,0,none⟩))∧w'.cell? ⟨ab,j,none⟩=some (.pointer (some ⟨b,0,none⟩))) (go_keep)
  (first | (go_at_call 83;refine (Hl _ _ oa ob ia ib _ ?_ ?_).mono ?_;(exact ha.drew);(exact hb.drew);rintro e w1 ⟨rfl,hb1⟩;have k1:=(ag.of_below hb1).cell (p:=⟨ab,i,none⟩) ci id;have k2:=(ag.of_below hb1).cell (p:=⟨ab,j,none⟩) cj id))
 go_wp2
 go_ret
 exact⟨rfl,((ag.refl ak w).drew.trans (ag.of_below hb1)).below⟩
theorem len_any(v:Option Addr)(n cap:Nat)(w:World):Calls Tryz.prog 256 #[.slice v n cap] w fun e w'=>e=.returned (.int .i64 n)∧w'=w:=by
 go_enter Tryz.func256,Tryz.ntmps256
 go_wp2
 go_ret
 exact⟨rfl,rfl⟩
theorem swap_any(ab n cap i j a b:Nat)(ia ib:Value)(w:World)(hi:i<n)(hj:j<n)(hij:i≠j)(hab:a≠b)(haa:a≠ab)(hba:b≠ab)
 (ci:w.cell? ⟨ab,i,none⟩=some (.pointer (some ⟨a,0,none⟩))) (cj:w.cell? ⟨ab,j,none⟩=some (.pointer (some ⟨b,0,none⟩)))
 (fi:w.frozen? ⟨ab,i,none⟩=false) (fj:w.frozen? ⟨ab,j,none⟩=false) (ca:w.cell? ⟨a,13,none⟩=some ia) (cb:w.cell? ⟨b,13,none⟩=some ib) (fa:w.frozen? ⟨a,13,none⟩=false) (fb:w.frozen? ⟨b,13,none⟩=false) :
 Calls Tryz.prog 258 #[.slice (some ⟨ab,0,none⟩) n cap,.int .i64 i,.int .i64 j] w fun e w'=>e=.returned (.tuple #[]) ∧
  ∃q,w'=((((w.setCell ⟨ab,i,none⟩ (.pointer (some ⟨b,0,none⟩))).setCell ⟨ab,j,none⟩ (.pointer (some ⟨a,0,none⟩))).setCell ⟨b,13,none⟩ (.int .i64 i)).setCell ⟨a,13,none⟩ (.int .i64 j)).drewN q:=by
 have i0:(0:Int)≤(i:Int):=by omega
 have i1:(i:Int)<(n:Int):=by omega
 have j0:(0:Int)≤(j:Int):=by omega
 have j1:(j:Int)<(n:Int):=by omega
 go_enter Tryz.func258,Tryz.ntmps258
 go_wp2
 go_region
 go_wp2
 go_region
 go_wp2
 go_end0
 exact⟨rfl,2,rfl⟩
structure Side(w:World)(ab cap n:Nat)(h:Nat→Nat)(om:Nat→Ord):Prop where
 arr:∃cs,ai w ab cs 114∧cs.size=cap∧∀i,i<n→cs[i]?=some (.pointer (some ⟨h i,0,none⟩))
 ord:∀i,i<n→bC w (h i) (om (h i)) i
 le:n≤cap
 small:n≤1000
 KF:cap≤maxLen
def Sd(ab n:Nat)(h:Nat→Nat):Nat→Prop:=fun b=>b=ab∨∃k,k<n∧b=h k
def sw(h:Nat→Nat)(i j:Nat):Nat→Nat:=fun k=>if k=i then h j else if k=j then h i else h k
theorem xg{ab n:Nat}{h:Nat→Nat}{i j:Nat}(hi:i<n)(hj:j<n):Sd ab n (sw h i j)=Sd ab n h:=by
 funext b
 apply propext
 unfold Sd sw
 constructor
 ·rintro (rfl | ⟨k,hk,rfl⟩)
  ·exact .inl rfl
  ·right
   split
   ·exact⟨j,hj,rfl⟩
   ·split
    ·exact⟨i,hi,rfl⟩
    ·exact⟨k,hk,rfl⟩
 ·rintro (rfl | ⟨k,hk,rfl⟩)
  ·exact .inl rfl
  ·right
   by_cases h1:k=i
   ·refine⟨j,hj,?_⟩
    split
    ·subst h1;rename_i e;rw[e]
    ·rw[if_pos rfl,h1]
   ·by_cases h2:k=j
    ·exact⟨i,hi,by rw[if_pos rfl,h2]⟩
    ·exact⟨k,hk,by rw[if_neg h1,if_neg h2]⟩
theorem Ord.Af{o o':Ord}{i j:Int}(h:o.cells i=o'.cells j):i=j∧o=o':=by
 cases o;cases o'
 simp[Ord.cells]at h
 simp_all
theorem Side.inj{w:World}{ab cap n:Nat}{h:Nat→Nat}{om:Nat→Ord}(s:Side w ab cap n h om){i j:Nat}(hi:i<n)(hj:j<n)(e:h i=h j):i=j:=by
 have h1:=s.ord i hi
 have h2:=s.ord j hj
 rw[e]at h1
 have:=(Ord.Af (ai.uniq h1 h2)).1
 omega
theorem Side.kept{w w':World}{ab cap n:Nat}{h:Nat→Nat}{om:Nat→Ord}(s:Side w ab cap n h om){S:Nat→Prop}(k:ag S w w')(hS:∀b,Sd ab n h b→¬S b):Side w' ab cap n h om:=by
 obtain⟨cs,hb,hc,hp⟩:=s.arr
 exact⟨⟨cs,k.blk hb (hS _ (.inl rfl)),hc,hp⟩,fun i hi=>k.blk (s.ord i hi) (hS _ (.inr ⟨i,hi,rfl⟩)),s.le,s.small,s.KF⟩
theorem Alike.gY{w w':World}(h:∃q,w'=w.drewN q):ag ak w w':=by
 obtain⟨q,rfl⟩:=h
 exact (ag.refl _ w).drewN q
theorem Alike.blk{w w':World}(h:∃q,w'=w.drewN q){b:Nat}{c:Array Value}{t:TypeId}(k:ai w b c t):ai w' b c t:=(Alike.gY h).blk k id
theorem Side.swap{w w':World}{ab cap n:Nat}{h:Nat→Nat}{om:Nat→Ord}(s:Side w ab cap n h om){i j:Nat}(hi:i<n)(hj:j<n)(hij:i≠j)
 (hw:∃q,w'=((((w.setCell ⟨ab,i,none⟩ (.pointer (some ⟨h j,0,none⟩))).setCell ⟨ab,j,none⟩ (.pointer (some ⟨h i,0,none⟩))).setCell ⟨h j,13,none⟩ (.int .i64 i)).setCell ⟨h i,13,none⟩ (.int .i64 j)).drewN q) :
 Side w' ab cap n (sw h i j) om∧ag (Sd ab n h) w w':=by
 obtain⟨cs,hb,hc,hp⟩:=s.arr
 have hne:∀k,k<n→h k≠ab:=fun k hk=>ai.ne (s.ord k hk) hb (by decide)
 have hab:h i≠h j:=fun e=>hij (s.inj hi hj e)
 have hle:=s.le
 refine⟨⟨⟨(cs.setIfInBounds i (.pointer (some ⟨h j,0,none⟩))).setIfInBounds j (.pointer (some ⟨h i,0,none⟩)),?_,by simpa using hc,?_⟩,?_,s.le,s.small,s.KF⟩,?_⟩
 ·exact Alike.blk hw ((((hb.set i _).set j _).other (fun e=>hne j hj e.symm) _).other (fun e=>hne i hi e.symm) _)
 ·intro k hk
  have:=hp k hk
  unfold sw
  by_cases h1:k=i
  ·subst h1
   rw[if_pos rfl,Array.getElem?_setIfInBounds_ne (fun e=>hij e.symm),Array.getElem?_setIfInBounds_self_of_lt (by omega)]
  ·rw[if_neg h1]
   by_cases h2:k=j
   ·subst h2
    rw[if_pos rfl,Array.getElem?_setIfInBounds_self_of_lt (by simp;omega)]
   ·rw[if_neg h2,Array.getElem?_setIfInBounds_ne (fun e=>h2 e.symm),Array.getElem?_setIfInBounds_ne (fun e=>h1 e.symm),this]
 ·intro k hk
  unfold sw
  have base:∀{b:Nat} {c:Array Value} {t:TypeId},ai w b c t→b≠ab→ai ((w.setCell ⟨ab,i,none⟩ (.pointer (some ⟨h j,0,none⟩))).setCell ⟨ab,j,none⟩ (.pointer (some ⟨h i,0,none⟩))) b c t:=fun hb hn=>(hb.other hn _).other hn _
  by_cases h1:k=i
  ·subst h1
   rw[if_pos rfl]
   have:=(base (s.ord j hj) (hne j hj)).set 13 (.int .i64 (k:Int))
   exact Alike.blk hw (this.other (fun e=>hab e.symm) _)
  ·rw[if_neg h1]
   by_cases h2:k=j
   ·subst h2
    rw[if_pos rfl]
    exact Alike.blk hw (((base (s.ord i hi) (hne i hi)).other hab _).set 13 _)
   ·rw[if_neg h2]
    exact Alike.blk hw (((base (s.ord k hk) (hne k hk)).other (fun e=>h2 (s.inj hk hj e)) _).other (fun e=>h1 (s.inj hk hi e)) _)
 ·refine ag.trans ?_ (Alike.gY hw).aC
  exact ((((ag.refl _ w).setCell (.inl (.inl rfl)) _).setCell (.inl (.inl rfl)) _).setCell (.inl (.inr ⟨j,hj,rfl⟩)) _).setCell (.inl (.inr ⟨i,hi,rfl⟩)) _
def dW(om:Nat→Ord)(x y:Nat):Bool:=iF (om x) (om y)
def qN(lt:Nat→Nat→Bool)(h:Nat→Nat)(j:Nat):Nat→Nat :=
 if hj:j=0 then h else
  if lt (h j) (h ((j-1) / 2)) then qN lt (sw h ((j-1) / 2) j) ((j-1) / 2) else h
theorem Au(ab cap n i j:Nat)(h:Nat→Nat)(om:Nat→Ord)(w:World)(hs:Side w ab cap n h om)(hi:i<n)(hj:j<n) :
 Calls Tryz.prog 257 #[.slice (some ⟨ab,0,none⟩) n cap,.int .i64 i,.int .i64 j] w fun e w'=>e=.returned (.bool (dW om (h i) (h j)))∧ag ak w w':=by
 obtain⟨cs,hb,hc,hp⟩:=hs.arr
 have:=hs.le
 have:=hs.small
 refine (OQ ab n cap i j (h i) (h j) (om (h i)) (om (h j)) i j w hi hj (by omega) ((hb.cell i).trans (hp i hi)) ((hb.cell j).trans (hp j hj)) (hs.ord i hi) (hs.ord j hj)).mono ?_
 rintro e w' ⟨rfl,hb⟩
 exact⟨rfl,ag.of_below hb⟩
theorem uU(ab cap n i j:Nat)(h:Nat→Nat)(om:Nat→Ord)(w:World)(hs:Side w ab cap n h om)(hi:i<n)(hj:j<n)(hij:i≠j) :
 Calls Tryz.prog 258 #[.slice (some ⟨ab,0,none⟩) n cap,.int .i64 i,.int .i64 j] w fun e w'=>e=.returned (.tuple #[])∧Side w' ab cap n (sw h i j) om∧ag (Sd ab n h) w w':=by
 obtain⟨cs,hb,hc,hp⟩:=hs.arr
 have hne:∀k,k<n→h k≠ab:=fun k hk=>ai.ne (hs.ord k hk) hb (by decide)
 have oi:=hs.ord i hi
 have oj:=hs.ord j hj
 refine (swap_any ab n cap i j (h i) (h j) (.int .i64 i) (.int .i64 j) w hi hj hij (fun e=>hij (hs.inj hi hj e)) (hne i hi) (hne j hj) ((hb.cell i).trans (hp i hi)) ((hb.cell j).trans (hp j hj)) (hb.frozen i) (hb.frozen j)
  (oi.cell 13) (oj.cell 13) (oi.frozen 13) (oj.frozen 13)).mono ?_
 rintro e w' ⟨rfl,hw⟩
 exact⟨rfl,hs.swap hi hj hij hw⟩
theorem Ir(a:Addr)(w:World)(s:Option Addr)(n c:Nat)(h:w.cell? a=some (.slice s n c)):(loadVar 155 a).run Tryz.prog w=.ok (.slice s n c) w:=by
 go_simp
theorem yt (a : Addr) (w : World) (s : Option Addr) (n c : Nat) (h : w.cell? a = some (.slice s n c)) : Sem.run Tryz.prog (method 416 216 (.pointer (some a)) "Less") w = .ok (257, .slice s n c) w := by
 have e : Sem.run Tryz.prog (method 416 216 (.pointer (some a)) "Less") w = Sem.run Tryz.prog (do let v ← loadVar 155 a; pure (257, v)) w := by kernel_rfl
 rw[e];have:=Ir a w s n c h;go_simp
theorem qh (a : Addr) (w : World) (s : Option Addr) (n c : Nat) (h : w.cell? a = some (.slice s n c)) : Sem.run Tryz.prog (method 416 216 (.pointer (some a)) "Swap") w = .ok (258, .slice s n c) w := by
 have e : Sem.run Tryz.prog (method 416 216 (.pointer (some a)) "Swap") w = Sem.run Tryz.prog (do let v ← loadVar 155 a; pure (258, v)) w := by kernel_rfl
 rw[e];have:=Ir a w s n c h;go_simp
theorem JL (a : Addr) (w : World) (s : Option Addr) (n c : Nat) (h : w.cell? a = some (.slice s n c)) : Sem.run Tryz.prog (method 416 216 (.pointer (some a)) "Len") w = .ok (256, .slice s n c) w := by
 have e : Sem.run Tryz.prog (method 416 216 (.pointer (some a)) "Len") w = Sem.run Tryz.prog (do let v ← loadVar 155 a; pure (256, v)) w := by kernel_rfl
 rw[e];have:=Ir a w s n c h;go_simp
theorem OV (a : Addr) (w : World) : Sem.run Tryz.prog (method 416 216 (.pointer (some a)) "Push") w = .ok (260, .pointer (some a)) w := by kernel_rfl
theorem CY (a : Addr) (w : World) : Sem.run Tryz.prog (method 416 216 (.pointer (some a)) "Pop") w = .ok (259, .pointer (some a)) w := by kernel_rfl
theorem GH{lt:Nat→Nat→Bool}{h:Nat→Nat}{j:Nat}(hh:j=0∨lt (h j) (h ((j-1) / 2))=false):qN lt h j=h:=by
 rw[qN]
 rcases hh with hh | hh
 ·rw[dif_pos hh]
 ·split
  ·rfl
  ·rw[hh];rfl
theorem U8{lt:Nat→Nat→Bool}{h:Nat→Nat}{j:Nat}(h0:j≠0)(hh:lt (h j) (h ((j-1) / 2))=true):qN lt h j=qN lt (sw h ((j-1) / 2) j) ((j-1) / 2):=by
 rw[qN,dif_neg h0,hh,if_pos rfl]
theorem PW(bb so ab cap n j:Nat)(bc:Array Value)(h:Nat→Nat)(om:Nat→Ord)(w:World)(hbk:ai w bb bc 158)(hso:bc[so]?=some (.slice (some ⟨ab,0,none⟩) n cap))(hs:Side w ab cap n h om)(hj:j<n) :
 Calls Tryz.prog 176 #[.iface 216 (.pointer (some ⟨bb,so,none⟩)),.int .i64 j] w fun e w'=>e=.returned (.tuple #[])∧Side w' ab cap n (qN (dW om) h j) om∧ag (Sd ab n h) w w':=by
 go_enter Tryz.func176,Tryz.ntmps176
 go_wp2
 go_loopg [1,4] j (fun k jv _ wr=>∃hh:Nat→Nat,jv=.int .i64 (k:Int)∧k<n∧Side wr ab cap n hh om∧ag (Sd ab n h) w wr∧Sd ab n hh=Sd ab n h∧qN (dW om) hh k=qN (dW om) h j)
 case atStart=>exact⟨h,rfl,hj,hs,ag.refl _ _,rfl,rfl⟩
 case round =>
  obtain⟨hh,rfl,hk,hs1,hc1,hS1,hu⟩:=hrel
  have AU:Hid (Sd ab n hh=Sd ab n h∧qN (dW om) hh gk=qN (dW om) h j):=⟨hS1,hu⟩
  clear hS1 hu
  by_cases h0:gk=0
  ·subst h0
   go_wp2
   go_end0
   refine⟨rfl,?_,hc1⟩
   rw[←AU.out.2,GH (.inl rfl)]
   exact hs1
  ·obtain⟨m,rfl⟩:∃m,gk=m+1:=⟨gk-1,by omega⟩
   have hcl:=hs1.small
   have hcap2:m+1<1000:=by omega
   have e1:((m:Int) / 2 == (m:Int)+1)=false:=by simp;omega
   have hbk1:=hc1.blk hbk (fun x=>by
    rcases x with rfl | ⟨k,hk,rfl⟩
    ·obtain⟨cs,hb,_⟩:=hs.arr
     exact ai.ne hbk hb (by decide) rfl
    ·exact ai.ne hbk (hs.ord k hk) (by decide) rfl)
   have cb1:=(hbk1.cell so).trans hso
   have hml:=yt _ _ _ _ _ cb1
   clear h0 hj hcl
   push_cast
   go_wp2_with fail
   rw[show (m:Int) / 2=((m / 2:Nat):Int) from by omega,show (m:Int)+1=((m+1:Nat):Int) from by omega]
   refine (Au ab cap n (m+1) (m / 2) hh om wr hs1 hk (by omega)).mono ?_
   rintro e w2 ⟨rfl,hc2⟩
   cases hl:dW om (hh (m+1)) (hh (m / 2))
   ·have HL:=hl
    clear hl
    go_wp2
    go_end0
    refine⟨rfl,?_,hc1.trans hc2.aC⟩
    rw[←AU.out.2,GH (.inr HL)]
    exact hs1.kept hc2 (fun _ _ x=>x)
   ·have hs2:=hs1.kept hc2 (fun _ _ x=>x)
    have hbk2:=hc2.blk hbk1 (fun x=>x)
    have cb2:=(hbk2.cell so).trans hso
    have hms:=qh _ _ _ _ _ cb2
    clear hml
    go_wp2_with fail
    refine (uU ab cap n (m / 2) (m+1) hh om w2 hs2 (by omega) hk (by omega)).mono ?_
    rintro e w3 ⟨rfl,hs3,hc3⟩
    clear hms
    go_wp2
    go_roundg (m / 2)
    case measure=>omega
    case rel =>
     obtain⟨a1,a2⟩:=AU.out
     refine⟨sw hh (m / 2) (m+1),by simp,by omega,hs3,?_,?_,?_⟩
     ·exact (hc1.trans hc2.aC).trans (hc3.mono (fun b hb=>by rw[←a1];exact hb))
     ·rw[xg (by omega) hk,a1]
     ·rw[←a2,U8 (j:=m+1) (by omega) hl]
      rfl
end Go.Proofs.YtigaphnafnpfnaaGreatDoor
namespace Go.Proofs.YtigaphnafnpfnaaGreatDoor
open Go.RowKit
def kid(lt:Nat→Nat→Bool)(n:Nat)(h:Nat→Nat)(i:Nat):Nat:=if 2 * i+2<n∧lt (h (2 * i+2)) (h (2 * i+1))=true then 2 * i+2 else 2 * i+1
theorem ny(lt:Nat→Nat→Bool)(n:Nat)(h:Nat→Nat)(i:Nat)(h1:2 * i+1<n):i<kid lt n h i∧kid lt n h i<n:=by
 unfold kid;split <;> omega
def dn(lt:Nat→Nat→Bool)(n:Nat)(h:Nat→Nat)(i:Nat):(Nat→Nat) × Nat :=
 if hn:2 * i+1<n then
  have _:=ny lt n h i hn
  if lt (h (kid lt n h i)) (h i) then dn lt n (sw h i (kid lt n h i)) (kid lt n h i) else (h,i)
 else (h,i)
theorem qy{lt:Nat→Nat→Bool}{n:Nat}{h:Nat→Nat}{i:Nat}(hh:¬2 * i+1<n):dn lt n h i=(h,i):=by
 rw[dn,dif_neg hh]
theorem lq{lt:Nat→Nat→Bool}{n:Nat}{h:Nat→Nat}{i:Nat}(hh:2 * i+1<n)(hl:lt (h (kid lt n h i)) (h i)=false):dn lt n h i=(h,i):=by
 rw[dn,dif_pos hh,hl];rfl
theorem pI{lt:Nat→Nat→Bool}{n:Nat}{h:Nat→Nat}{i:Nat}(hh:2 * i+1<n)(hl:lt (h (kid lt n h i)) (h i)=true):dn lt n h i=dn lt n (sw h i (kid lt n h i)) (kid lt n h i):=by
 rw[dn,dif_pos hh,hl,if_pos rfl]
theorem oh(ab cap n i j:Nat)(h:Nat→Nat)(om:Nat→Ord)(w:World)(x y:Int)(hs:Side w ab cap n h om)(hi:i<n)(hj:j<n)(hx:x=(i:Int))(hy:y=(j:Int)) :
 Calls Tryz.prog 257 #[.slice (some ⟨ab,0,none⟩) n cap,.int .i64 x,.int .i64 y] w fun e w'=>e=.returned (.bool (dW om (h i) (h j)))∧ag ak w w':=by
 subst hx;subst hy;exact Au ab cap n i j h om w hs hi hj
theorem sG(ab cap n i j:Nat)(h:Nat→Nat)(om:Nat→Ord)(w:World)(x y:Int)(hs:Side w ab cap n h om)(hi:i<n)(hj:j<n)(hij:i≠j)(hx:x=(i:Int))(hy:y=(j:Int)) :
 Calls Tryz.prog 258 #[.slice (some ⟨ab,0,none⟩) n cap,.int .i64 x,.int .i64 y] w fun e w'=>e=.returned (.tuple #[])∧Side w' ab cap n (sw h i j) om∧ag (Sd ab n h) w w':=by
 subst hx;subst hy;exact uU ab cap n i j h om w hs hi hj hij
theorem NR(bb so ab cap N n i0:Nat)(bc:Array Value)(h:Nat→Nat)(om:Nat→Ord)(w:World)(hbk:ai w bb bc 158)(hso:bc[so]?=some (.slice (some ⟨ab,0,none⟩) N cap))(hs:Side w ab cap N h om)(hn:n≤N)(hi:i0≤n) :
 Calls Tryz.prog 175 #[.iface 216 (.pointer (some ⟨bb,so,none⟩)),.int .i64 i0,.int .i64 n] w fun e w'=>e=.returned (.bool (decide (i0<(dn (dW om) n h i0).2)))∧Side w' ab cap N (dn (dW om) n h i0).1 om∧ag (Sd ab N h) w w':=by
 have hN:=hs.small
 have hout:¬Sd ab N h bb:=by
  rintro (rfl | ⟨k,hk,rfl⟩)
  ·obtain⟨cs,hb,_⟩:=hs.arr
   exact ai.ne hbk hb (by decide) rfl
  ·exact ai.ne hbk (hs.ord k hk) (by decide) rfl
 go_enter Tryz.func175,Tryz.ntmps175
 go_wp2
 go_loopg [7,8,9,10] (n-i0) (fun k iv _ _ _ wr=>∃(hh:Nat→Nat) (i:Nat),iv=.int .i64 (i:Int)∧i≤n∧k=n-i∧Side wr ab cap N hh om∧ag (Sd ab N h) w wr∧Sd ab N hh=Sd ab N h∧dn (dW om) n hh i=dn (dW om) n h i0)
 case atStart=>exact⟨h,i0,rfl,hi,rfl,hs,ag.refl _ _,rfl,rfl⟩
 case round =>
  obtain⟨hh,i,rfl,hk,hgk,hs1,hc1,hS1,hu⟩:=hrel
  have AU:Hid (gk=n-i∧Sd ab N hh=Sd ab N h∧dn (dW om) n hh i=dn (dW om) n h i0):=⟨hgk,hS1,hu⟩
  clear hS1 hu hgk
  have hbk1:=hc1.blk hbk hout
  have cb1:=(hbk1.cell so).trans hso
  have hml:=yt _ _ _ _ _ cb1
  by_cases hlast:2 * i+1<n
  ·by_cases h2:2 * i+2<n
   ·go_wp2_with fail
    refine (oh ab cap N (2 * i+2) (2 * i+1) hh om wr _ _ hs1 (by omega) (by omega) (by push_cast;omega) (by push_cast;omega)).mono ?_
    rintro e w2 ⟨rfl,hc2⟩
    have hs2:=hs1.kept hc2 (fun _ _ x=>x)
    have Oi:=hc2.blk hbk1 (fun x=>x)
    have Uj:=hc1.trans hc2.aC
    have cb2:=(Oi.cell so).trans hso
    have hm2:=yt _ _ _ _ _ cb2
    cases hb:dW om (hh (2 * i+2)) (hh (2 * i+1))
    ·have EL:kid (dW om) n hh i=2 * i+1:=by unfold kid;rw[if_neg (by rw[hb];simp)]
     have HK:=hide EL
     clear EL hb hml
     go_wp2_with fail
     refine (oh ab cap N (2 * i+1) i hh om w2 _ _ hs2 (by omega) (by omega) (by push_cast;omega) rfl).mono ?_
     rintro e w3 ⟨rfl,hc3⟩
     have hs3:=hs2.kept hc3 (fun _ _ x=>x)
     cases hl:dW om (hh (2 * i+1)) (hh i)
     ·have HL:=hide hl
      clear hl hm2
      go_wp2
      go_ret
      have hst:dn (dW om) n hh i=(hh,i):=lq hlast (by rw[ae HK];exact ae HL)
      refine⟨?_,?_,Uj.trans hc3.aC⟩
      ·rw[←AU.out.2.2,hst]
       simp
      ·rw[←AU.out.2.2,hst]
       exact hs3
     ·have Oh:=hc3.blk Oi (fun x=>x)
      have cb3:=(Oh.cell so).trans hso
      have hms:=qh _ _ _ _ _ cb3
      clear hm2
      go_wp2_with fail
      refine (sG ab cap N i (2 * i+1) hh om w3 _ _ hs3 (by omega) (by omega) (by omega) rfl (by push_cast;omega)).mono ?_
      rintro e w4 ⟨rfl,hs4,hc4⟩
      clear hms
      go_wp2
      go_roundg (n-(2 * i+1))
      case measure=>have:=AU.out.1;omega
      case rel =>
       obtain⟨_,a1,a2⟩:=AU.out
       refine⟨sw hh i (2 * i+1),2 * i+1,by push_cast;rfl,by omega,rfl,hs4,?_,?_,?_⟩
       ·exact (Uj.trans hc3.aC).trans (hc4.mono (fun b hb=>by rw[←a1];exact hb))
       ·rw[xg (by omega) (by omega),a1]
       ·rw[←a2,pI hlast (by rw[ae HK];exact hl),ae HK]
    ·have EL:kid (dW om) n hh i=2 * i+2:=by unfold kid;rw[if_pos ⟨h2,hb⟩]
     have HK:=hide EL
     clear EL hb hml
     go_wp2_with fail
     refine (oh ab cap N (2 * i+2) i hh om w2 _ _ hs2 (by omega) (by omega) (by push_cast;omega) rfl).mono ?_
     rintro e w3 ⟨rfl,hc3⟩
     have hs3:=hs2.kept hc3 (fun _ _ x=>x)
     cases hl:dW om (hh (2 * i+2)) (hh i)
     ·have HL:=hide hl
      clear hl hm2
      go_wp2
      go_ret
      have hst:dn (dW om) n hh i=(hh,i):=lq hlast (by rw[ae HK];exact ae HL)
      refine⟨?_,?_,Uj.trans hc3.aC⟩
      ·rw[←AU.out.2.2,hst]
       simp
      ·rw[←AU.out.2.2,hst]
       exact hs3
     ·have Oh:=hc3.blk Oi (fun x=>x)
      have cb3:=(Oh.cell so).trans hso
      have hms:=qh _ _ _ _ _ cb3
      clear hm2
      go_wp2_with fail
      refine (sG ab cap N i (2 * i+2) hh om w3 _ _ hs3 (by omega) (by omega) (by omega) rfl (by push_cast;omega)).mono ?_
      rintro e w4 ⟨rfl,hs4,hc4⟩
      clear hms
      go_wp2
      go_roundg (n-(2 * i+2))
      case measure=>have:=AU.out.1;omega
      case rel =>
       obtain⟨_,a1,a2⟩:=AU.out
       refine⟨sw hh i (2 * i+2),2 * i+2,by push_cast;rfl,by omega,rfl,hs4,?_,?_,?_⟩
       ·exact (Uj.trans hc3.aC).trans (hc4.mono (fun b hb=>by rw[←a1];exact hb))
       ·rw[xg (by omega) (by omega),a1]
       ·rw[←a2,pI hlast (by rw[ae HK];exact hl),ae HK]
   ·have EL:kid (dW om) n hh i=2 * i+1:=by unfold kid;rw[if_neg (by omega)]
    have HK:=hide EL
    have Oi:=hbk1
    have Uj:=hc1
    clear EL
    go_wp2_with fail
    refine (oh ab cap N (2 * i+1) i hh om wr _ _ hs1 (by omega) (by omega) (by push_cast;omega) rfl).mono ?_
    rintro e w3 ⟨rfl,hc3⟩
    have hs3:=hs1.kept hc3 (fun _ _ x=>x)
    cases hl:dW om (hh (2 * i+1)) (hh i)
    ·have HL:=hide hl
     clear hl hml
     go_wp2
     go_ret
     have hst:dn (dW om) n hh i=(hh,i):=lq hlast (by rw[ae HK];exact ae HL)
     refine⟨?_,?_,Uj.trans hc3.aC⟩
     ·rw[←AU.out.2.2,hst]
      simp
     ·rw[←AU.out.2.2,hst]
      exact hs3
    ·have Oh:=hc3.blk Oi (fun x=>x)
     have cb3:=(Oh.cell so).trans hso
     have hms:=qh _ _ _ _ _ cb3
     clear hml
     go_wp2_with fail
     refine (sG ab cap N i (2 * i+1) hh om w3 _ _ hs3 (by omega) (by omega) (by omega) rfl (by push_cast;omega)).mono ?_
     rintro e w4 ⟨rfl,hs4,hc4⟩
     clear hms
     go_wp2
     go_roundg (n-(2 * i+1))
     case measure=>have:=AU.out.1;omega
     case rel =>
      obtain⟨_,a1,a2⟩:=AU.out
      refine⟨sw hh i (2 * i+1),2 * i+1,by push_cast;rfl,by omega,rfl,hs4,?_,?_,?_⟩
      ·exact (Uj.trans hc3.aC).trans (hc4.mono (fun b hb=>by rw[←a1];exact hb))
      ·rw[xg (by omega) (by omega),a1]
      ·rw[←a2,pI hlast (by rw[ae HK];exact hl),ae HK]
  ·clear hml
   have e1:decide ((n:Int)≤2 * (i:Int)+1)=true:=by simp;omega
   go_wp2
   go_ret
   refine⟨?_,?_,hc1⟩
   ·rw[←AU.out.2.2,qy hlast]
    simp
   ·rw[←AU.out.2.2,qy hlast]
    exact hs1
end Go.Proofs.YtigaphnafnpfnaaGreatDoor
