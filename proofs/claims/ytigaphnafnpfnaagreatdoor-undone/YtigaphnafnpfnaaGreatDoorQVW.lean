import Derived.WalkKit
import Derived.WalkSpells
import Derived.WalkLawsBesides
import Derived.Maps.OwnSet
import Derived.Test.YtigaphnafnpfnaaGreatDoorRows
import Derived.Deep.QuietTactic
import Derived.BigQuiet
import Derived.BigRegion
import Derived.Deep.RegionWith
import Derived.Deep.LoopGhost
import Derived.Deep.RegionHeld3
import Derived.Deep.DrawnRows
import Derived.Deep.AppendLies
import Derived.Shelf.SlLaysF
import Derived.RangeFuncBox
import Derived.RangeFuncNested
import Derived.RangeFuncBound
import Derived.RangeFuncCalls
import Derived.RangeFuncLeaves
import Derived.Shelf.Abstract
import Derived.Shelf.RegionOpen
import Derived.OwnWalkIn
import Derived.TacticsInMore
import Derived.LoopNIn
import Derived.LoopIn
import Derived.Maps.AppendAt
set_option linter.unusedVariables false
set_option linter.unusedSimpArgs false
set_option maxHeartbeats 8000000
set_option maxRecDepth 100000
namespace Go.Proofs.YtigaphnafnpfnaaGreatDoor
open Go.RowKit
theorem ai{p:Prop}(h:p):Hid p:=h
theorem ae{p:Prop}(h:Hid p):p:=h
structure au(S:Nat->Prop)(w w':World):Prop where
 os:w'.os=w.os
 tape:w'.tape=w.tape
 output:w'.output=w.output
 size:w.heap.size<=w'.heap.size
 block:∀k,k<w.heap.size->¬S k->w'.heap[k]?=w.heap[k]?
def aP:Nat->Prop:=fun _=>False
theorem au.refl(S:Nat->Prop)(w:World):au S w w:=⟨rfl,rfl,rfl,Nat.le_refl _,fun _ _ _=>rfl⟩
theorem au.trans{S:Nat->Prop}{a b c:World}(h:au S a b)(k:au S b c):au S a c :=
 ⟨k.os.trans h.os,k.tape.trans h.tape,k.output.trans h.output,Nat.le_trans h.size k.size,fun i hi hs=>(k.block i (Nat.lt_of_lt_of_le hi h.size) hs).trans (h.block i hi hs)⟩
theorem au.mono{S S':Nat->Prop}{a b:World}(h:au S a b)(hS:∀k,S k->S' k):au S' a b :=
 ⟨h.os,h.tape,h.output,h.size,fun k hk hs=>h.block k hk (fun x=>hs (hS k x))⟩
theorem au.bI{S:Nat->Prop}{a b:World}(h:au aP a b):au S a b:=h.mono (fun _ x=>x.elim)
theorem au.from{S:Nat->Prop}{a b c:World}(h:au S a b)(k:au (fun i=>S i\/a.heap.size<=i) b c):au S a c :=
 ⟨k.os.trans h.os,k.tape.trans h.tape,k.output.trans h.output,Nat.le_trans h.size k.size,fun i hi hs=>(k.block i (Nat.lt_of_lt_of_le hi h.size) (fun x=>x.elim hs (fun y=>by omega))).trans (h.block i hi hs)⟩
theorem au.drew{S:Nat->Prop}{a w:World}(h:au S a w):au S a w.drew:=⟨h.os,h.tape,h.output,h.size,h.block⟩
theorem au.drewN{S:Nat->Prop}{a w:World}(h:au S a w)(n:Nat):au S a (w.drewN n):=⟨h.os,h.tape,h.output,h.size,h.block⟩
theorem au.alloc{S:Nat->Prop}{a w:World}(h:au S a w)(o:Obj):au S a (w.alloc o) :=
 ⟨h.os,h.tape,h.output,by have:=h.size;simp;omega,fun k hk hs=>(Below.heap_alloc _ _ _ (Nat.lt_of_lt_of_le hk h.size)).trans (h.block k hk hs)⟩
theorem au.setCell{S:Nat->Prop}{a w:World}(h:au S a w){p:Addr}(hp:S p.block\/a.heap.size<=p.block)(u:Value):au S a (w.setCell p u) :=
 ⟨h.os,h.tape,h.output,by have:=h.size;simpa [World.setCell] using this,fun k hk hs=>(Below.heap_setCell _ _ _ _ (by rintro rfl;rcases hp with hp|hp;exact hs hp;omega)).trans (h.block k hk hs)⟩
theorem au.rF{w w':World}(h:Below w.heap.size w w'):au aP w w':=⟨h.os,h.tape,h.output,h.size,fun k hk _=>h.block k hk⟩
theorem au.below{w w':World}(h:au aP w w'):Below w.heap.size w w':=⟨h.os,h.tape,h.output,h.size,fun k hk=>h.block k hk (fun x=>x)⟩
theorem au.KI{S:Nat->Prop}{B:Nat}{w w':World}(h:au S w w')(hB:B<=w.heap.size)(hS:∀k,S k->B<=k):Below B w w':=⟨h.os,h.tape,h.output,h.size,fun k hk=>h.block k (by omega) (fun x=>by have:=hS k x;omega)⟩
theorem au.grown{S:Nat->Prop}{a w w':World}{row:Option Nat}(h:au S a w)(hg:w.grownBy w' row)(hr:∀k,row=some k->S k\/a.heap.size<=k):au S a w' :=
 h.from ⟨hg.os,hg.tape,hg.output,hg.size,fun k hk hs=>hg.block k hk (fun e=>by rcases hr k e.symm with x|x;exact hs (.inl x);exact hs (.inr x))⟩
def az(w:World)(b:Nat)(c:Array Value)(t:TypeId):Prop:=w.heap[b]?=some (.cells c t)
theorem az.lt{w:World}{b:Nat}{c:Array Value}{t:TypeId}(h:az w b c t):b<w.heap.size:=(Array.getElem?_eq_some_iff.1 h).1
theorem az.cell{w:World}{b:Nat}{c:Array Value}{t:TypeId}(h:az w b c t)(i:Nat):w.cell? ⟨b,i,none⟩=c[i]?:=by
 unfold az at h;simp[World.cell?,h]
theorem az.frozen{w:World}{b:Nat}{c:Array Value}{t:TypeId}(h:az w b c t)(i:Nat):w.frozen? ⟨b,i,none⟩=false:=by
 unfold az at h;simp[World.frozen?,h]
theorem az.ne{w:World}{b b':Nat}{c c':Array Value}{t t':TypeId}(h:az w b c t)(h':az w b' c' t')(ht:t≠t'):b≠b':=by
 rintro rfl;unfold az at h h';rw[h]at h';simp at h';exact ht h'.2
theorem az.uniq{w:World}{b:Nat}{c c':Array Value}{t t':TypeId}(h:az w b c t)(h':az w b c' t'):c=c':=by
 unfold az at h h';rw[h]at h';simp at h';exact h'.1
theorem az.set{w:World}{b:Nat}{c:Array Value}{t:TypeId}(h:az w b c t)(i:Nat)(v:Value):az (w.setCell ⟨b,i,none⟩ v) b (c.setIfInBounds i v) t:=by
 unfold az at h ⊢;simp[World.setCell,Array.getElem?_modify,h]
theorem az.other{w:World}{b:Nat}{c:Array Value}{t:TypeId}(h:az w b c t){a:Addr}(ha:b≠a.block)(v:Value):az (w.setCell a v) b c t:=by
 unfold az at h ⊢;rw[Below.heap_setCell _ _ _ _ ha];exact h
theorem az.alloc{w:World}{b:Nat}{c:Array Value}{t:TypeId}(h:az w b c t)(o:Obj):az (w.alloc o) b c t:=by
 have:=h.lt;unfold az at h ⊢;rw[Below.heap_alloc _ _ _ this];exact h
theorem az.new(w:World)(c:Array Value)(t:TypeId):az (w.alloc (.cells c t)) w.heap.size c t:=by
 unfold az;show (w.heap.push _)[w.heap.size]?=_;simp
theorem az.drew{w:World}{b:Nat}{c:Array Value}{t:TypeId}(h:az w b c t):az w.drew b c t:=h
theorem az.drewN{w:World}{b:Nat}{c:Array Value}{t:TypeId}(h:az w b c t)(n:Nat):az (w.drewN n) b c t:=h
theorem au.aB{S:Nat->Prop}{w w':World}(k:au S w w'){b:Nat}{c:Array Value}{t:TypeId}(h:az w b c t)(hs:¬S b):az w' b c t:=by
 have:=h.lt;unfold az at h ⊢;rw[k.block b this hs];exact h
theorem au.cell{S:Nat->Prop}{w w':World}(k:au S w w'){p:Addr}{v:Value}(h:w.cell? p=some v)(hs:¬S p.block):w'.cell? p=some v :=
 (World.cell?_of_block (k.block p.block (World.block_lt_of_cell? w p h) hs)).trans h
attribute [local go_sem ↓] Go.wp_at_zero Go.wp_at_succ
theorem Nh(a:Int)(w:World):Calls Tryz.prog 159 #[.int .i64 a] w fun e w'=>e=.returned (.bool false)/\w'=w:=by
 go_enter Tryz.func159,Tryz.ntmps159
 go_wp2
 go_ret
 exact⟨by simp,rfl⟩
def lL(a b:Int):Int:=if a<b then -1 else if b<a then 1 else 0
theorem iV(a b:Int)(w:World):Calls Tryz.prog 130 #[.int .i64 a,.int .i64 b] w fun e w'=>e=.returned (.int .i64 (lL a b))/\w'=w:=by
 go_enter Tryz.func130,Tryz.ntmps130
 go_wp2_with (go_at_call 159;refine (Nh _ _).mono ?_;rintro e w' ⟨rfl,rfl⟩)
 all_goals (go_ret;refine⟨congrArg (fun n=>Ending.returned (.int .i64 n)) ?_,rfl⟩)
 ·rw[lL,if_pos (by omega)]
 ·rw[lL,if_neg (by omega),if_pos (by omega)]
 ·rw[lL,if_neg (by omega),if_neg (by omega)]
def SE(p q:Int):Int:=if p=0 then q else p
theorem EC(g cap:Nat)(p q:Int)(w:World)(h0:w.cell? ⟨g,0,none⟩=some (.int .i64 p))(h1:w.cell? ⟨g,1,none⟩=some (.int .i64 q)) :
 Calls Tryz.prog 131 #[.slice (some ⟨g,0,none⟩) 2 cap] w fun e w'=>e=.returned (.int .i64 (SE p q))/\w'=w:=by
 by_cases hp:p=0
 ·subst hp
  by_cases hq:q=0
  ·subst hq
   go_enter Tryz.func131,Tryz.ntmps131
   go_wp2
   go_loop [5,8] (fun _ i=>∃k:Nat,k<=2/\i=.int .i64 k) (fun _ i=>2-(intOf i).toNat)
   case atStart=>exact⟨0,by omega,rfl⟩
   case round =>
    obtain⟨k,hk,rfl⟩:=hrel
    by_cases hlt:k<2
    ·have hc:w.cell? ⟨g,k,none⟩=some (.int .i64 0):=by
      have:k=0\/k=1:=by omega
      rcases this with rfl|rfl
      ·exact h0
      ·exact h1
     clear h0 h1
     go_wp2
     go_round
     case rel=>exact⟨k+1,by omega,by go_num⟩
     case measure=>simp[intOf];omega
    ·go_wp2
     go_ret
     exact⟨by simp[SE],rfl⟩
  ·have hq':(q != 0)=true:=by simp[hq]
   go_enter Tryz.func131,Tryz.ntmps131
   go_wp2
   go_loop [5,8] (fun _ i=>∃k:Nat,k<=1/\i=.int .i64 k) (fun _ i=>2-(intOf i).toNat)
   case atStart=>exact⟨0,by omega,rfl⟩
   case round =>
    obtain⟨k,hk,rfl⟩:=hrel
    have:k=0\/k=1:=by omega
    rcases this with rfl|rfl
    ·go_wp2
     go_round
     case rel=>exact⟨1,by omega,by go_num⟩
     case measure=>simp[intOf]
    ·go_wp2
     go_ret
     exact⟨by simp[SE],rfl⟩
 ·have hp':(p != 0)=true:=by simp[hp]
  go_enter Tryz.func131,Tryz.ntmps131
  go_wp2
  go_loop [5,8] (fun _ i=>i=.int .i64 0) (fun _ _=>0)
  case atStart=>rfl
  case round =>
   subst hrel
   go_wp2
   go_ret
   exact⟨by simp[SE,hp],rfl⟩
structure Ord where
 id:Int
 aA:Int
 sym:ByteArray
 side:Int
 kind:Int
 af:Int
 aI:Int
 entered:Int
 aK:Int
 filled:Int
 bQ:Int
 exp:Int
 place:Int
def Ord.cells(o:Ord)(idx:Int):Array Value :=
 #[.int .i64 o.id,.int .i64 o.aA,.string o.sym,.int .i64 o.side,.int .i64 o.kind,.int .i64 o.af,.int .i64 o.aI,.int .i64 o.entered,.int .i64 o.aK,.int .i64 o.filled,.int .i64 o.bQ,.int .i64 o.exp,.int .i64 o.place,.int .i64 idx]
def df(w:World)(b:Nat)(o:Ord)(idx:Int):Prop:=az w b (o.cells idx) 116
def jQ(a b:Ord):Int :=
 let p:=lL a.af b.af
 let p':=if a.side=0 then -p else p
 SE p' (lL a.place b.place)
theorem O5(a b:Int):-1<=lL a b/\lL a b<=1:=by unfold lL;split <;> (try split) <;> omega
theorem Jc(a b:Nat)(oa ob:Ord)(ia ib:Int)(w:World)(ha:df w a oa ia)(hb:df w b ob ib) :
 Calls Tryz.prog 83 #[.pointer (some ⟨a,0,none⟩),.pointer (some ⟨b,0,none⟩)] w fun e w'=>e=.returned (.int .i64 (jQ oa ob))/\Below w.heap.size w w':=by
 have a3:=ha.cell 3
 have a5:=ha.cell 5
 have a12:=ha.cell 12
 have b5:=hb.cell 5
 have b12:=hb.cell 12
 have la:=ha.lt
 have lb:=hb.lt
 simp only[Ord.cells]at a3 a5 a12 b5 b12
 simp at a3 a5 a12 b5 b12
 clear ha hb
 obtain⟨p1,p2⟩:=O5 oa.af ob.af
 by_cases hs:oa.side=0
 ·have hs':(oa.side == 0)=true:=by simp[hs]
  have HF:Hid (jQ oa ob=SE (-(lL oa.af ob.af)) (lL oa.place ob.place)):=by show jQ oa ob=_;simp only[jQ,hs,if_true]
  clear hs
  go_enter Tryz.func83,Tryz.ntmps83
  go_wp2
  go_quiet ((go_at_call 130;exact Calls.quiet_of_same (iV _ _ _)))
  go_wp2
  go_region_held3 (fun w'=>w'.cell? ⟨a,12,none⟩=some (.int .i64 oa.place)/\w'.cell? ⟨b,12,none⟩=some (.int .i64 ob.place)) (go_keep)
   (first|(go_at_call 130;refine (iV _ _ _).mono ?_;rintro e w' ⟨rfl,rfl⟩)|(go_at_call 131;refine (EC _ _ (-(lL oa.af ob.af)) (lL oa.place ob.place) _ ?_ ?_).mono ?_;(exact (az.new _ _ _).cell 0);(exact (az.new _ _ _).cell 1);rintro e w' ⟨rfl,rfl⟩))
  go_wp2
  go_ret
  exact⟨by rw[HF.out];rfl,((au.refl aP w).drewN _ |>.alloc _).below⟩
 ·have hs':(oa.side == 0)=false:=by simp[hs]
  have HF:Hid (jQ oa ob=SE (lL oa.af ob.af) (lL oa.place ob.place)):=by show jQ oa ob=_;simp only[jQ,hs,if_false]
  clear hs
  go_enter Tryz.func83,Tryz.ntmps83
  go_wp2
  go_quiet ((go_at_call 130;exact Calls.quiet_of_same (iV _ _ _)))
  go_wp2
  go_region_held3 (fun w'=>w'.cell? ⟨a,12,none⟩=some (.int .i64 oa.place)/\w'.cell? ⟨b,12,none⟩=some (.int .i64 ob.place)) (go_keep)
   (first|(go_at_call 130;refine (iV _ _ _).mono ?_;rintro e w' ⟨rfl,rfl⟩)|(go_at_call 131;refine (EC _ _ (lL oa.af ob.af) (lL oa.place ob.place) _ ?_ ?_).mono ?_;(exact (az.new _ _ _).cell 0);(exact (az.new _ _ _).cell 1);rintro e w' ⟨rfl,rfl⟩))
  go_wp2
  go_ret
  exact⟨by rw[HF.out];rfl,((au.refl aP w).drewN _ |>.alloc _).below⟩
def kU(a b:Ord):Bool:=decide (jQ a b<0)
theorem Qq(ab n cap i j a b:Nat)(oa ob:Ord)(ia ib:Int)(w:World)(hi:i<n)(hj:j<n)(_hn:n<=1000)
 (ci:w.cell? ⟨ab,i,none⟩=some (.pointer (some ⟨a,0,none⟩))) (cj:w.cell? ⟨ab,j,none⟩=some (.pointer (some ⟨b,0,none⟩))) (ha:df w a oa ia) (hb:df w b ob ib) :
 Calls Tryz.prog 257 #[.slice (some ⟨ab,0,none⟩) n cap,.int .i64 i,.int .i64 j] w fun e w'=>e=.returned (.bool (kU oa ob))/\Below w.heap.size w w':=by
 have i0:(0:Int)<=(i:Int):=by omega
 have i1:(i:Int)<(n:Int):=by omega
 have j0:(0:Int)<=(j:Int):=by omega
 have j1:(j:Int)<(n:Int):=by omega
 go_enter Tryz.func257,Tryz.ntmps257
 go_wp2
 go_region_held3 (fun w'=>w'.cell? ⟨ab,i,none⟩=some (.pointer (some ⟨a,0,none⟩))/\w'.cell? ⟨ab,j,none⟩=some (.pointer (some ⟨b,0,none⟩))) (go_keep)
  (first|(go_at_call 83;refine (Jc _ _ oa ob ia ib _ ?_ ?_).mono ?_;(exact ha.drew);(exact hb.drew);rintro e w1 ⟨rfl,hb1⟩;have k1:=(au.rF hb1).cell (p:=⟨ab,i,none⟩) ci id;have k2:=(au.rF hb1).cell (p:=⟨ab,j,none⟩) cj id))
 go_wp2
 go_ret
 exact⟨rfl,((au.refl aP w).drew.trans (au.rF hb1)).below⟩
theorem Eh(v:Option Addr)(n cap:Nat)(w:World):Calls Tryz.prog 256 #[.slice v n cap] w fun e w'=>e=.returned (.int .i64 n)/\w'=w:=by
 go_enter Tryz.func256,Tryz.ntmps256
 go_wp2
 go_ret
 exact⟨rfl,rfl⟩
theorem Ro(ab n cap i j a b:Nat)(ia ib:Value)(w:World)(hi:i<n)(hj:j<n)(hij:i≠j)(hab:a≠b)(haa:a≠ab)(hba:b≠ab)
 (ci:w.cell? ⟨ab,i,none⟩=some (.pointer (some ⟨a,0,none⟩))) (cj:w.cell? ⟨ab,j,none⟩=some (.pointer (some ⟨b,0,none⟩)))
 (fi:w.frozen? ⟨ab,i,none⟩=false) (fj:w.frozen? ⟨ab,j,none⟩=false) (ca:w.cell? ⟨a,13,none⟩=some ia) (cb:w.cell? ⟨b,13,none⟩=some ib) (fa:w.frozen? ⟨a,13,none⟩=false) (fb:w.frozen? ⟨b,13,none⟩=false) :
 Calls Tryz.prog 258 #[.slice (some ⟨ab,0,none⟩) n cap,.int .i64 i,.int .i64 j] w fun e w'=>e=.returned (.tuple #[]) /\
  ∃q,w'=((((w.setCell ⟨ab,i,none⟩ (.pointer (some ⟨b,0,none⟩))).setCell ⟨ab,j,none⟩ (.pointer (some ⟨a,0,none⟩))).setCell ⟨b,13,none⟩ (.int .i64 i)).setCell ⟨a,13,none⟩ (.int .i64 j)).drewN q:=by
 have i0:(0:Int)<=(i:Int):=by omega
 have i1:(i:Int)<(n:Int):=by omega
 have j0:(0:Int)<=(j:Int):=by omega
 have j1:(j:Int)<(n:Int):=by omega
 go_enter Tryz.func258,Tryz.ntmps258
 go_wp2
 go_region
 go_wp2
 go_region
 go_wp2
 go_end0
 exact⟨rfl,2,rfl⟩
structure jJ(w:World)(ab cap n:Nat)(h:Nat->Nat)(om:Nat->Ord):Prop where
 oH:∃cs,az w ab cs 114/\cs.size=cap/\∀i,i<n->cs[i]?=some (.pointer (some ⟨h i,0,none⟩))
 ord:∀i,i<n->df w (h i) (om (h i)) i
 le:n<=cap
 small:n<=1000
 Md:cap<=maxLen
def Sd(ab n:Nat)(h:Nat->Nat):Nat->Prop:=fun b=>b=ab\/∃k,k<n/\b=h k
def sw(h:Nat->Nat)(i j:Nat):Nat->Nat:=fun k=>if k=i then h j else if k=j then h i else h k
theorem yX{ab n:Nat}{h:Nat->Nat}{i j:Nat}(hi:i<n)(hj:j<n):Sd ab n (sw h i j)=Sd ab n h:=by
 funext b
 apply propext
 unfold Sd sw
 constructor
 ·rintro (rfl|⟨k,hk,rfl⟩)
  ·exact .inl rfl
  ·right
   split
   ·exact⟨j,hj,rfl⟩
   ·split
    ·exact⟨i,hi,rfl⟩
    ·exact⟨k,hk,rfl⟩
 ·rintro (rfl|⟨k,hk,rfl⟩)
  ·exact .inl rfl
  ·right
   by_cases h1:k=i
   ·refine⟨j,hj,?_⟩
    split
    ·subst h1;rename_i e;rw[e]
    ·rw[if_pos rfl,h1]
   ·by_cases h2:k=j
    ·exact⟨i,hi,by rw[if_pos rfl,h2]⟩
    ·exact⟨k,hk,by rw[if_neg h1,if_neg h2]⟩
theorem Ord.Ce{o o':Ord}{i j:Int}(h:o.cells i=o'.cells j):i=j/\o=o':=by
 cases o;cases o'
 simp[Ord.cells]at h
 simp_all
theorem jJ.inj{w:World}{ab cap n:Nat}{h:Nat->Nat}{om:Nat->Ord}(s:jJ w ab cap n h om){i j:Nat}(hi:i<n)(hj:j<n)(e:h i=h j):i=j:=by
 have h1:=s.ord i hi
 have h2:=s.ord j hj
 rw[e]at h1
 have:=(Ord.Ce (az.uniq h1 h2)).1
 omega
theorem jJ.aC{w w':World}{ab cap n:Nat}{h:Nat->Nat}{om:Nat->Ord}(s:jJ w ab cap n h om){S:Nat->Prop}(k:au S w w')(hS:∀b,Sd ab n h b->¬S b):jJ w' ab cap n h om:=by
 obtain⟨cs,hb,hc,hp⟩:=s.oH
 exact⟨⟨cs,k.aB hb (hS _ (.inl rfl)),hc,hp⟩,fun i hi=>k.aB (s.ord i hi) (hS _ (.inr ⟨i,hi,rfl⟩)),s.le,s.small,s.Md⟩
theorem yN.oJ{w w':World}(h:∃q,w'=w.drewN q):au aP w w':=by
 obtain⟨q,rfl⟩:=h
 exact (au.refl _ w).drewN q
theorem yN.aB{w w':World}(h:∃q,w'=w.drewN q){b:Nat}{c:Array Value}{t:TypeId}(k:az w b c t):az w' b c t:=(yN.oJ h).aB k id
theorem jJ.swap{w w':World}{ab cap n:Nat}{h:Nat->Nat}{om:Nat->Ord}(s:jJ w ab cap n h om){i j:Nat}(hi:i<n)(hj:j<n)(hij:i≠j)
 (hw:∃q,w'=((((w.setCell ⟨ab,i,none⟩ (.pointer (some ⟨h j,0,none⟩))).setCell ⟨ab,j,none⟩ (.pointer (some ⟨h i,0,none⟩))).setCell ⟨h j,13,none⟩ (.int .i64 i)).setCell ⟨h i,13,none⟩ (.int .i64 j)).drewN q) :
 jJ w' ab cap n (sw h i j) om/\au (Sd ab n h) w w':=by
 obtain⟨cs,hb,hc,hp⟩:=s.oH
 have hne:∀k,k<n->h k≠ab:=fun k hk=>az.ne (s.ord k hk) hb (by decide)
 have hab:h i≠h j:=fun e=>hij (s.inj hi hj e)
 have hle:=s.le
 refine⟨⟨⟨(cs.setIfInBounds i (.pointer (some ⟨h j,0,none⟩))).setIfInBounds j (.pointer (some ⟨h i,0,none⟩)),?_,by simpa using hc,?_⟩,?_,s.le,s.small,s.Md⟩,?_⟩
 ·exact yN.aB hw ((((hb.set i _).set j _).other (fun e=>hne j hj e.symm) _).other (fun e=>hne i hi e.symm) _)
 ·intro k hk
  have:=hp k hk
  unfold sw
  by_cases h1:k=i
  ·subst h1
   rw[if_pos rfl,Array.getElem?_setIfInBounds_ne (fun e=>hij e.symm),Array.getElem?_setIfInBounds_self_of_lt (by omega)]
  ·rw[if_neg h1]
   by_cases h2:k=j
   ·subst h2
    rw[if_pos rfl,Array.getElem?_setIfInBounds_self_of_lt (by simp;omega)]
   ·rw[if_neg h2,Array.getElem?_setIfInBounds_ne (fun e=>h2 e.symm),Array.getElem?_setIfInBounds_ne (fun e=>h1 e.symm),this]
 ·intro k hk
  unfold sw
  have base:∀{b:Nat} {c:Array Value} {t:TypeId},az w b c t->b≠ab->az ((w.setCell ⟨ab,i,none⟩ (.pointer (some ⟨h j,0,none⟩))).setCell ⟨ab,j,none⟩ (.pointer (some ⟨h i,0,none⟩))) b c t:=fun hb hn=>(hb.other hn _).other hn _
  by_cases h1:k=i
  ·subst h1
   rw[if_pos rfl]
   have:=(base (s.ord j hj) (hne j hj)).set 13 (.int .i64 (k:Int))
   exact yN.aB hw (this.other (fun e=>hab e.symm) _)
  ·rw[if_neg h1]
   by_cases h2:k=j
   ·subst h2
    rw[if_pos rfl]
    exact yN.aB hw (((base (s.ord i hi) (hne i hi)).other hab _).set 13 _)
   ·rw[if_neg h2]
    exact yN.aB hw (((base (s.ord k hk) (hne k hk)).other (fun e=>h2 (s.inj hk hj e)) _).other (fun e=>h1 (s.inj hk hi e)) _)
 ·refine au.trans ?_ (yN.oJ hw).bI
  exact ((((au.refl _ w).setCell (.inl (.inl rfl)) _).setCell (.inl (.inl rfl)) _).setCell (.inl (.inr ⟨j,hj,rfl⟩)) _).setCell (.inl (.inr ⟨i,hi,rfl⟩)) _
def fG(om:Nat->Ord)(x y:Nat):Bool:=kU (om x) (om y)
def tV(lt:Nat->Nat->Bool)(h:Nat->Nat)(j:Nat):Nat->Nat :=
 if hj:j=0 then h else
  if lt (h j) (h ((j-1) / 2)) then tV lt (sw h ((j-1) / 2) j) ((j-1) / 2) else h
theorem CQ(ab cap n i j:Nat)(h:Nat->Nat)(om:Nat->Ord)(w:World)(hs:jJ w ab cap n h om)(hi:i<n)(hj:j<n) :
 Calls Tryz.prog 257 #[.slice (some ⟨ab,0,none⟩) n cap,.int .i64 i,.int .i64 j] w fun e w'=>e=.returned (.bool (fG om (h i) (h j)))/\au aP w w':=by
 obtain⟨cs,hb,hc,hp⟩:=hs.oH
 have:=hs.le
 have:=hs.small
 refine (Qq ab n cap i j (h i) (h j) (om (h i)) (om (h j)) i j w hi hj (by omega) ((hb.cell i).trans (hp i hi)) ((hb.cell j).trans (hp j hj)) (hs.ord i hi) (hs.ord j hj)).mono ?_
 rintro e w' ⟨rfl,hb⟩
 exact⟨rfl,au.rF hb⟩
theorem xB(ab cap n i j:Nat)(h:Nat->Nat)(om:Nat->Ord)(w:World)(hs:jJ w ab cap n h om)(hi:i<n)(hj:j<n)(hij:i≠j) :
 Calls Tryz.prog 258 #[.slice (some ⟨ab,0,none⟩) n cap,.int .i64 i,.int .i64 j] w fun e w'=>e=.returned (.tuple #[])/\jJ w' ab cap n (sw h i j) om/\au (Sd ab n h) w w':=by
 obtain⟨cs,hb,hc,hp⟩:=hs.oH
 have hne:∀k,k<n->h k≠ab:=fun k hk=>az.ne (hs.ord k hk) hb (by decide)
 have oi:=hs.ord i hi
 have oj:=hs.ord j hj
 refine (Ro ab n cap i j (h i) (h j) (.int .i64 i) (.int .i64 j) w hi hj hij (fun e=>hij (hs.inj hi hj e)) (hne i hi) (hne j hj) ((hb.cell i).trans (hp i hi)) ((hb.cell j).trans (hp j hj)) (hb.frozen i) (hb.frozen j)
  (oi.cell 13) (oj.cell 13) (oi.frozen 13) (oj.frozen 13)).mono ?_
 rintro e w' ⟨rfl,hw⟩
 exact⟨rfl,hs.swap hi hj hij hw⟩
theorem JL(a:Addr)(w:World)(s:Option Addr)(n c:Nat)(h:w.cell? a=some (.slice s n c)):(loadVar 155 a).run Tryz.prog w=.ok (.slice s n c) w:=by
 go_simp
theorem zS (a : Addr) (w : World) (s : Option Addr) (n c : Nat) (h : w.cell? a = some (.slice s n c)) : Sem.run Tryz.prog (method 416 216 (.pointer (some a)) "Less") w = .ok (257, .slice s n c) w := by
 have e : Sem.run Tryz.prog (method 416 216 (.pointer (some a)) "Less") w = Sem.run Tryz.prog (do let v <- loadVar 155 a; pure (257, v)) w := by kernel_rfl
 rw[e];have:=JL a w s n c h;go_simp
theorem rE (a : Addr) (w : World) (s : Option Addr) (n c : Nat) (h : w.cell? a = some (.slice s n c)) : Sem.run Tryz.prog (method 416 216 (.pointer (some a)) "Swap") w = .ok (258, .slice s n c) w := by
 have e : Sem.run Tryz.prog (method 416 216 (.pointer (some a)) "Swap") w = Sem.run Tryz.prog (do let v <- loadVar 155 a; pure (258, v)) w := by kernel_rfl
 rw[e];have:=JL a w s n c h;go_simp
theorem La (a : Addr) (w : World) (s : Option Addr) (n c : Nat) (h : w.cell? a = some (.slice s n c)) : Sem.run Tryz.prog (method 416 216 (.pointer (some a)) "Len") w = .ok (256, .slice s n c) w := by
 have e : Sem.run Tryz.prog (method 416 216 (.pointer (some a)) "Len") w = Sem.run Tryz.prog (do let v <- loadVar 155 a; pure (256, v)) w := by kernel_rfl
 rw[e];have:=JL a w s n c h;go_simp
theorem Qu (a : Addr) (w : World) : Sem.run Tryz.prog (method 416 216 (.pointer (some a)) "Push") w = .ok (260, .pointer (some a)) w := by kernel_rfl
theorem Ep (a : Addr) (w : World) : Sem.run Tryz.prog (method 416 216 (.pointer (some a)) "Pop") w = .ok (259, .pointer (some a)) w := by kernel_rfl
theorem Iz{lt:Nat->Nat->Bool}{h:Nat->Nat}{j:Nat}(hh:j=0\/lt (h j) (h ((j-1) / 2))=false):tV lt h j=h:=by
 rw[tV]
 rcases hh with hh|hh
 ·rw[dif_pos hh]
 ·split
  ·rfl
  ·rw[hh];rfl
theorem X7{lt:Nat->Nat->Bool}{h:Nat->Nat}{j:Nat}(h0:j≠0)(hh:lt (h j) (h ((j-1) / 2))=true):tV lt h j=tV lt (sw h ((j-1) / 2) j) ((j-1) / 2):=by
 rw[tV,dif_neg h0,hh,if_pos rfl]
theorem RQ(bb so ab cap n j:Nat)(bc:Array Value)(h:Nat->Nat)(om:Nat->Ord)(w:World)(hbk:az w bb bc 158)(hso:bc[so]?=some (.slice (some ⟨ab,0,none⟩) n cap))(hs:jJ w ab cap n h om)(hj:j<n) :
 Calls Tryz.prog 176 #[.iface 216 (.pointer (some ⟨bb,so,none⟩)),.int .i64 j] w fun e w'=>e=.returned (.tuple #[])/\jJ w' ab cap n (tV (fG om) h j) om/\au (Sd ab n h) w w':=by
 go_enter Tryz.func176,Tryz.ntmps176
 go_wp2
 go_loopg [1,4] j (fun k jv _ wr=>∃hh:Nat->Nat,jv=.int .i64 (k:Int)/\k<n/\jJ wr ab cap n hh om/\au (Sd ab n h) w wr/\Sd ab n hh=Sd ab n h/\tV (fG om) hh k=tV (fG om) h j)
 case atStart=>exact⟨h,rfl,hj,hs,au.refl _ _,rfl,rfl⟩
 case round =>
  obtain⟨hh,rfl,hk,hs1,hc1,hS1,hu⟩:=hrel
  have AU:Hid (Sd ab n hh=Sd ab n h/\tV (fG om) hh gk=tV (fG om) h j):=⟨hS1,hu⟩
  clear hS1 hu
  by_cases h0:gk=0
  ·subst h0
   go_wp2
   go_end0
   refine⟨rfl,?_,hc1⟩
   rw[<-AU.out.2,Iz (.inl rfl)]
   exact hs1
  ·obtain⟨m,rfl⟩:∃m,gk=m+1:=⟨gk-1,by omega⟩
   have hcl:=hs1.small
   have hcap2:m+1<1000:=by omega
   have e1:((m:Int) / 2 == (m:Int)+1)=false:=by simp;omega
   have hbk1:=hc1.aB hbk (fun x=>by
    rcases x with rfl|⟨k,hk,rfl⟩
    ·obtain⟨cs,hb,_⟩:=hs.oH
     exact az.ne hbk hb (by decide) rfl
    ·exact az.ne hbk (hs.ord k hk) (by decide) rfl)
   have cb1:=(hbk1.cell so).trans hso
   have hml:=zS _ _ _ _ _ cb1
   clear h0 hj hcl
   push_cast
   go_wp2_with fail
   rw[show (m:Int) / 2=((m / 2:Nat):Int) from by omega,show (m:Int)+1=((m+1:Nat):Int) from by omega]
   refine (CQ ab cap n (m+1) (m / 2) hh om wr hs1 hk (by omega)).mono ?_
   rintro e w2 ⟨rfl,hc2⟩
   cases hl:fG om (hh (m+1)) (hh (m / 2))
   ·have HL:=hl
    clear hl
    go_wp2
    go_end0
    refine⟨rfl,?_,hc1.trans hc2.bI⟩
    rw[<-AU.out.2,Iz (.inr HL)]
    exact hs1.aC hc2 (fun _ _ x=>x)
   ·have hs2:=hs1.aC hc2 (fun _ _ x=>x)
    have hbk2:=hc2.aB hbk1 (fun x=>x)
    have cb2:=(hbk2.cell so).trans hso
    have hms:=rE _ _ _ _ _ cb2
    clear hml
    go_wp2_with fail
    refine (xB ab cap n (m / 2) (m+1) hh om w2 hs2 (by omega) hk (by omega)).mono ?_
    rintro e w3 ⟨rfl,hs3,hc3⟩
    clear hms
    go_wp2
    go_roundg (m / 2)
    case measure=>omega
    case rel =>
     obtain⟨a1,a2⟩:=AU.out
     refine⟨sw hh (m / 2) (m+1),by simp,by omega,hs3,?_,?_,?_⟩
     ·exact (hc1.trans hc2.bI).trans (hc3.mono (fun b hb=>by rw[<-a1];exact hb))
     ·rw[yX (by omega) hk,a1]
     ·rw[<-a2,X7 (j:=m+1) (by omega) hl]
      rfl
def uJ(lt:Nat->Nat->Bool)(n:Nat)(h:Nat->Nat)(i:Nat):Nat:=if 2 * i+2<n/\lt (h (2 * i+2)) (h (2 * i+1))=true then 2 * i+2 else 2 * i+1
theorem pg(lt:Nat->Nat->Bool)(n:Nat)(h:Nat->Nat)(i:Nat)(h1:2 * i+1<n):i<uJ lt n h i/\uJ lt n h i<n:=by
 unfold uJ;split <;> omega
def dW(lt:Nat->Nat->Bool)(n:Nat)(h:Nat->Nat)(i:Nat):(Nat->Nat) × Nat :=
 if hn:2 * i+1<n then
  have _:=pg lt n h i hn
  if lt (h (uJ lt n h i)) (h i) then dW lt n (sw h i (uJ lt n h i)) (uJ lt n h i) else (h,i)
 else (h,i)
theorem sD{lt:Nat->Nat->Bool}{n:Nat}{h:Nat->Nat}{i:Nat}(hh:¬2 * i+1<n):dW lt n h i=(h,i):=by
 rw[dW,dif_neg hh]
theorem ny{lt:Nat->Nat->Bool}{n:Nat}{h:Nat->Nat}{i:Nat}(hh:2 * i+1<n)(hl:lt (h (uJ lt n h i)) (h i)=false):dW lt n h i=(h,i):=by
 rw[dW,dif_pos hh,hl];rfl
theorem ru{lt:Nat->Nat->Bool}{n:Nat}{h:Nat->Nat}{i:Nat}(hh:2 * i+1<n)(hl:lt (h (uJ lt n h i)) (h i)=true):dW lt n h i=dW lt n (sw h i (uJ lt n h i)) (uJ lt n h i):=by
 rw[dW,dif_pos hh,hl,if_pos rfl]
theorem qo(ab cap n i j:Nat)(h:Nat->Nat)(om:Nat->Ord)(w:World)(x y:Int)(hs:jJ w ab cap n h om)(hi:i<n)(hj:j<n)(hx:x=(i:Int))(hy:y=(j:Int)) :
 Calls Tryz.prog 257 #[.slice (some ⟨ab,0,none⟩) n cap,.int .i64 x,.int .i64 y] w fun e w'=>e=.returned (.bool (fG om (h i) (h j)))/\au aP w w':=by
 subst hx;subst hy;exact CQ ab cap n i j h om w hs hi hj
theorem uT(ab cap n i j:Nat)(h:Nat->Nat)(om:Nat->Ord)(w:World)(x y:Int)(hs:jJ w ab cap n h om)(hi:i<n)(hj:j<n)(hij:i≠j)(hx:x=(i:Int))(hy:y=(j:Int)) :
 Calls Tryz.prog 258 #[.slice (some ⟨ab,0,none⟩) n cap,.int .i64 x,.int .i64 y] w fun e w'=>e=.returned (.tuple #[])/\jJ w' ab cap n (sw h i j) om/\au (Sd ab n h) w w':=by
 subst hx;subst hy;exact xB ab cap n i j h om w hs hi hj hij
theorem Po(bb so ab cap N n i0:Nat)(bc:Array Value)(h:Nat->Nat)(om:Nat->Ord)(w:World)(hbk:az w bb bc 158)(hso:bc[so]?=some (.slice (some ⟨ab,0,none⟩) N cap))(hs:jJ w ab cap N h om)(hn:n<=N)(hi:i0<=n) :
 Calls Tryz.prog 175 #[.iface 216 (.pointer (some ⟨bb,so,none⟩)),.int .i64 i0,.int .i64 n] w fun e w'=>e=.returned (.bool (decide (i0<(dW (fG om) n h i0).2)))/\jJ w' ab cap N (dW (fG om) n h i0).1 om/\au (Sd ab N h) w w':=by
 have hN:=hs.small
 have hout:¬Sd ab N h bb:=by
  rintro (rfl|⟨k,hk,rfl⟩)
  ·obtain⟨cs,hb,_⟩:=hs.oH
   exact az.ne hbk hb (by decide) rfl
  ·exact az.ne hbk (hs.ord k hk) (by decide) rfl
 go_enter Tryz.func175,Tryz.ntmps175
 go_wp2
 go_loopg [7,8,9,10] (n-i0) (fun k iv _ _ _ wr=>∃(hh:Nat->Nat) (i:Nat),iv=.int .i64 (i:Int)/\i<=n/\k=n-i/\jJ wr ab cap N hh om/\au (Sd ab N h) w wr/\Sd ab N hh=Sd ab N h/\dW (fG om) n hh i=dW (fG om) n h i0)
 case atStart=>exact⟨h,i0,rfl,hi,rfl,hs,au.refl _ _,rfl,rfl⟩
 case round =>
  obtain⟨hh,i,rfl,hk,hgk,hs1,hc1,hS1,hu⟩:=hrel
  have AU:Hid (gk=n-i/\Sd ab N hh=Sd ab N h/\dW (fG om) n hh i=dW (fG om) n h i0):=⟨hgk,hS1,hu⟩
  clear hS1 hu hgk
  have hbk1:=hc1.aB hbk hout
  have cb1:=(hbk1.cell so).trans hso
  have hml:=zS _ _ _ _ _ cb1
  by_cases hlast:2 * i+1<n
  ·by_cases h2:2 * i+2<n
   ·go_wp2_with fail
    refine (qo ab cap N (2 * i+2) (2 * i+1) hh om wr _ _ hs1 (by omega) (by omega) (by push_cast;omega) (by push_cast;omega)).mono ?_
    rintro e w2 ⟨rfl,hc2⟩
    have hs2:=hs1.aC hc2 (fun _ _ x=>x)
    have PM:=hc2.aB hbk1 (fun x=>x)
    have Xd:=hc1.trans hc2.bI
    have cb2:=(PM.cell so).trans hso
    have hm2:=zS _ _ _ _ _ cb2
    cases hb:fG om (hh (2 * i+2)) (hh (2 * i+1))
    ·have FZ:uJ (fG om) n hh i=2 * i+1:=by unfold uJ;rw[if_neg (by rw[hb];simp)]
     have HK:=ai FZ
     clear FZ hb hml
     go_wp2_with fail
     refine (qo ab cap N (2 * i+1) i hh om w2 _ _ hs2 (by omega) (by omega) (by push_cast;omega) rfl).mono ?_
     rintro e w3 ⟨rfl,hc3⟩
     have hs3:=hs2.aC hc3 (fun _ _ x=>x)
     cases hl:fG om (hh (2 * i+1)) (hh i)
     ·have HL:=ai hl
      clear hl hm2
      go_wp2
      go_ret
      have hst:dW (fG om) n hh i=(hh,i):=ny hlast (by rw[ae HK];exact ae HL)
      refine⟨?_,?_,Xd.trans hc3.bI⟩
      ·rw[<-AU.out.2.2,hst]
       simp
      ·rw[<-AU.out.2.2,hst]
       exact hs3
     ·have PL:=hc3.aB PM (fun x=>x)
      have cb3:=(PL.cell so).trans hso
      have hms:=rE _ _ _ _ _ cb3
      clear hm2
      go_wp2_with fail
      refine (uT ab cap N i (2 * i+1) hh om w3 _ _ hs3 (by omega) (by omega) (by omega) rfl (by push_cast;omega)).mono ?_
      rintro e w4 ⟨rfl,hs4,hc4⟩
      clear hms
      go_wp2
      go_roundg (n-(2 * i+1))
      case measure=>have:=AU.out.1;omega
      case rel =>
       obtain⟨_,a1,a2⟩:=AU.out
       refine⟨sw hh i (2 * i+1),2 * i+1,by push_cast;rfl,by omega,rfl,hs4,?_,?_,?_⟩
       ·exact (Xd.trans hc3.bI).trans (hc4.mono (fun b hb=>by rw[<-a1];exact hb))
       ·rw[yX (by omega) (by omega),a1]
       ·rw[<-a2,ru hlast (by rw[ae HK];exact hl),ae HK]
    ·have FZ:uJ (fG om) n hh i=2 * i+2:=by unfold uJ;rw[if_pos ⟨h2,hb⟩]
     have HK:=ai FZ
     clear FZ hb hml
     go_wp2_with fail
     refine (qo ab cap N (2 * i+2) i hh om w2 _ _ hs2 (by omega) (by omega) (by push_cast;omega) rfl).mono ?_
     rintro e w3 ⟨rfl,hc3⟩
     have hs3:=hs2.aC hc3 (fun _ _ x=>x)
     cases hl:fG om (hh (2 * i+2)) (hh i)
     ·have HL:=ai hl
      clear hl hm2
      go_wp2
      go_ret
      have hst:dW (fG om) n hh i=(hh,i):=ny hlast (by rw[ae HK];exact ae HL)
      refine⟨?_,?_,Xd.trans hc3.bI⟩
      ·rw[<-AU.out.2.2,hst]
       simp
      ·rw[<-AU.out.2.2,hst]
       exact hs3
     ·have PL:=hc3.aB PM (fun x=>x)
      have cb3:=(PL.cell so).trans hso
      have hms:=rE _ _ _ _ _ cb3
      clear hm2
      go_wp2_with fail
      refine (uT ab cap N i (2 * i+2) hh om w3 _ _ hs3 (by omega) (by omega) (by omega) rfl (by push_cast;omega)).mono ?_
      rintro e w4 ⟨rfl,hs4,hc4⟩
      clear hms
      go_wp2
      go_roundg (n-(2 * i+2))
      case measure=>have:=AU.out.1;omega
      case rel =>
       obtain⟨_,a1,a2⟩:=AU.out
       refine⟨sw hh i (2 * i+2),2 * i+2,by push_cast;rfl,by omega,rfl,hs4,?_,?_,?_⟩
       ·exact (Xd.trans hc3.bI).trans (hc4.mono (fun b hb=>by rw[<-a1];exact hb))
       ·rw[yX (by omega) (by omega),a1]
       ·rw[<-a2,ru hlast (by rw[ae HK];exact hl),ae HK]
   ·have FZ:uJ (fG om) n hh i=2 * i+1:=by unfold uJ;rw[if_neg (by omega)]
    have HK:=ai FZ
    have PM:=hbk1
    have Xd:=hc1
    clear FZ
    go_wp2_with fail
    refine (qo ab cap N (2 * i+1) i hh om wr _ _ hs1 (by omega) (by omega) (by push_cast;omega) rfl).mono ?_
    rintro e w3 ⟨rfl,hc3⟩
    have hs3:=hs1.aC hc3 (fun _ _ x=>x)
    cases hl:fG om (hh (2 * i+1)) (hh i)
    ·have HL:=ai hl
     clear hl hml
     go_wp2
     go_ret
     have hst:dW (fG om) n hh i=(hh,i):=ny hlast (by rw[ae HK];exact ae HL)
     refine⟨?_,?_,Xd.trans hc3.bI⟩
     ·rw[<-AU.out.2.2,hst]
      simp
     ·rw[<-AU.out.2.2,hst]
      exact hs3
    ·have PL:=hc3.aB PM (fun x=>x)
     have cb3:=(PL.cell so).trans hso
     have hms:=rE _ _ _ _ _ cb3
     clear hml
     go_wp2_with fail
     refine (uT ab cap N i (2 * i+1) hh om w3 _ _ hs3 (by omega) (by omega) (by omega) rfl (by push_cast;omega)).mono ?_
     rintro e w4 ⟨rfl,hs4,hc4⟩
     clear hms
     go_wp2
     go_roundg (n-(2 * i+1))
     case measure=>have:=AU.out.1;omega
     case rel =>
      obtain⟨_,a1,a2⟩:=AU.out
      refine⟨sw hh i (2 * i+1),2 * i+1,by push_cast;rfl,by omega,rfl,hs4,?_,?_,?_⟩
      ·exact (Xd.trans hc3.bI).trans (hc4.mono (fun b hb=>by rw[<-a1];exact hb))
      ·rw[yX (by omega) (by omega),a1]
      ·rw[<-a2,ru hlast (by rw[ae HK];exact hl),ae HK]
  ·clear hml
   have e1:decide ((n:Int)<=2 * (i:Int)+1)=true:=by simp;omega
   go_wp2
   go_ret
   refine⟨?_,?_,hc1⟩
   ·rw[<-AU.out.2.2,sD hlast]
    simp
   ·rw[<-AU.out.2.2,sD hlast]
    exact hs1
open Go.Shelf
def NP:Go.Shelf.Ren:=⟨fun|6=>128|15=>158|14=>157|28=>187|29=>188|20=>179|21=>180|22=>181|23=>182|24=>183|25=>184|26=>185|27=>186|46=>213|47=>214|48=>215|49=>216|50=>217|57=>230|n=>n,fun|22=>150|24=>114|25=>159|3=>3|39=>223|0=>0|53=>251|55=>253|4=>4|46=>244|45=>243|50=>248|5=>5|9=>9|66=>273|70=>277|76=>289|77=>262|n=>n,fun|n=>n⟩
theorem aaz:Go.Proofs.SlLaysF.n6 Tryz.prog NP :=
 { mixed:=by kernel_rfl,f6:=⟨Tryz.f128.name,by decide,Tryz.func128.trans (congrArg some (by kernel_rfl))⟩,f14:=⟨Tryz.f157.name,by decide,Tryz.func157.trans (congrArg some (by kernel_rfl))⟩,f15:=Tryz.func158.trans (congrArg some (by kernel_rfl)),f20:=⟨Tryz.f179.name,by decide,Tryz.func179.trans (congrArg some (by kernel_rfl))⟩,f21:=⟨Tryz.f180.name,by decide,Tryz.func180.trans (congrArg some (by kernel_rfl))⟩,f22:=⟨Tryz.f181.name,by decide,Tryz.func181.trans (congrArg some (by kernel_rfl))⟩,f23:=⟨Tryz.f182.name,by decide,Tryz.func182.trans (congrArg some (by kernel_rfl))⟩,f24:=⟨Tryz.f183.name,by decide,Tryz.func183.trans (congrArg some (by kernel_rfl))⟩,f25:=⟨Tryz.f184.name,by decide,Tryz.func184.trans (congrArg some (by kernel_rfl))⟩,f26:=⟨Tryz.f185.name,by decide,Tryz.func185.trans (congrArg some (by kernel_rfl))⟩,f27:=⟨Tryz.f186.name,by decide,Tryz.func186.trans (congrArg some (by kernel_rfl))⟩,f28:=Tryz.func187.trans (congrArg some (by kernel_rfl)),f29:=Tryz.func188.trans (congrArg some (by kernel_rfl)),f46:=⟨Tryz.f213.name,by decide,Tryz.func213.trans (congrArg some (by kernel_rfl))⟩,f47:=Tryz.func214.trans (congrArg some (by kernel_rfl)),f48:=Tryz.func215.trans (congrArg some (by kernel_rfl)),f49:=⟨Tryz.f216.name,by decide,Tryz.func216.trans (congrArg some (by kernel_rfl))⟩,f50:=⟨Tryz.f217.name,by decide,Tryz.func217.trans (congrArg some (by kernel_rfl))⟩,f57:=⟨Tryz.f230.name,by decide,Tryz.func230.trans (congrArg some (by kernel_rfl))⟩,t0:=Tryz.underlying0,a0:=Tryz.isAgg0,z0:=Tryz.sizeOf0,v0:=Tryz.zeroValue0,t3:=Tryz.underlying3,a3:=Tryz.isAgg3,z3:=Tryz.sizeOf3,v3:=Tryz.zeroValue3,t4:=Tryz.underlying4,a4:=Tryz.isAgg4,z4:=Tryz.sizeOf4,v4:=Tryz.zeroValue4,t5:=Tryz.underlying5,a5:=Tryz.isAgg5,z5:=Tryz.sizeOf5,v5:=Tryz.zeroValue5,t9:=Tryz.underlying9,a9:=Tryz.isAgg9,z9:=Tryz.sizeOf9,v9:=Tryz.zeroValue9,t22:=Tryz.underlying150,a22:=Tryz.isAgg150,z22:=Tryz.sizeOf150,v22:=Tryz.zeroValue150,a24:=Tryz.isAgg114,z24:=Tryz.sizeOf114,t25:=Tryz.underlying159,a25:=Tryz.isAgg159,z25:=Tryz.sizeOf159,v25:=Tryz.zeroValue159,t39:=Tryz.underlying223,a39:=Tryz.isAgg223,z39:=Tryz.sizeOf223,v39:=Tryz.zeroValue223,t45:=Tryz.underlying243,a45:=Tryz.isAgg243,z45:=Tryz.sizeOf243,v45:=Tryz.zeroValue243,t46:=Tryz.underlying244,a46:=Tryz.isAgg244,z46:=Tryz.sizeOf244,v46:=Tryz.zeroValue244,t50:=Tryz.underlying248,a50:=Tryz.isAgg248,z50:=Tryz.sizeOf248,v50:=Tryz.zeroValue248,t53:=Tryz.underlying251,a53:=Tryz.isAgg251,z53:=Tryz.sizeOf251,v53:=Tryz.zeroValue251,t55:=Tryz.underlying253,a55:=Tryz.isAgg253,z55:=Tryz.sizeOf253,v55:=Tryz.zeroValue253,t66:=Tryz.underlying273,a66:=Tryz.isAgg273,z66:=Tryz.sizeOf273,v66:=Tryz.zeroValue273,t70:=Tryz.underlying277,a70:=Tryz.isAgg277,z70:=Tryz.sizeOf277,v70:=Tryz.zeroValue277,t76:=Tryz.underlying289,a76:=Tryz.isAgg289,z76:=Tryz.sizeOf289,v76:=Tryz.zeroValue289,t77:=Tryz.underlying262,a77:=Tryz.isAgg262,z77:=Tryz.sizeOf262,v77:=Tryz.zeroValue262 }
open Go.RowKit Go.Shelf
attribute [local go_sem] Oper.semAt_some
def tN(x:Nat):Value:=.pointer (some ⟨x,0,none⟩)
def upto(f:Nat->Nat)(k:Nat):List Nat:=(List.range k).map f
theorem Dv(f:Nat->Nat)(k:Nat):upto f (k+1)=upto f k++[f k]:=by simp[upto,List.range_succ]
theorem lU(f:Nat->Nat)(k:Nat):(upto f k).length=k:=by simp[upto]
theorem Ky(F:Fence)(n:Nat)(h7:F.fn 129)(hro:F.round=none)(hn:1<=n)(l Bs n₀ b len cap:Nat)(f:Nat->Nat)(hreach:len * 8<=140737488351232)(hb:b<n₀)(J Jx:List Nat->World->Prop)
 (hY:∀pre x W,J pre W->pre.length<len->YieldAt F (n-1) Tryz.prog l #[.pointer (some ⟨x,0,none⟩)] W fun e W' =>
   (e=.returned (.bool true)/\J (pre++[x]) W'/\Below n₀ W W')\/(e=.returned (.bool false)/\Jx (pre++[x]) W'))
 (W:World) (hBs:W.cell? ⟨Bs,0,none⟩=some (.slice (some ⟨b,0,none⟩) len cap)) (hc:∀j,j<len->W.cell? ⟨b,j,none⟩=some (.pointer (some ⟨f j,0,none⟩))) (h0:J [] W) :
 CallsIn F n Tryz.prog 129 #[.func (.yield l) #[] #[],.pointer (some ⟨Bs,0,none⟩)] W fun e W'=>(∃v,e=.returned v) /\
  ((∃ys,ys=upto f len/\J ys W')\/(∃pre,(∃k,k<=len/\pre=upto f k)/\Jx pre W')):=by
 refine callsIn_of_wp Tryz.func129 rfl h7 ?_ hro
 simp only[Tryz.ntmps129,List.size_toArray,List.length_cons,List.length_nil,Nat.reduceAdd,Nat.reduceSub,Array.replicate_succ,Array.replicate_zero,List.push_toArray,List.append_toArray,List.nil_append,List.cons_append]
 gi_wp2
 gi_loopw [7] (fun i wr=>∃k:Nat,k<=len/\i=.int .i64 k/\J (upto f k) wr/\Below n₀ W wr)
  (fun i _=>len-(intOf i).toNat)
 case atStart=>exact⟨0,Nat.zero_le _,rfl,h0,Below.refl _ _⟩
 case round =>
  obtain⟨k,hk,rfl,hJs,hnx⟩:=hrel
  have hcx:k<len->wr.cell? ⟨b,k,none⟩=some (.pointer (some ⟨f k,0,none⟩)):=fun h=>(hnx.cell (p:=⟨b,k,none⟩) hb).trans (hc k h)
  by_cases hlt:k<len
  ·obtain⟨fn,tmps,assign,body,hy,hR⟩:=hY _ (f k) wr hJs (by rw[lU];exact hlt)
   have hcx':=hcx hlt
   gi_wp2
   refine hR.mono ?_
   rintro e W3 (⟨rfl,hJ3,hk3⟩|⟨rfl,hJx3⟩)
   ·gi_wp2
    go_roundw
    case rel=>exact⟨k+1,by omega,by simp,by rw[Dv];exact hJ3,hnx.trans hk3⟩
    case measure=>simp[intOf];omega
   ·gi_wp2
    refine bodyPost_ret (results_none rfl _ _ _) rfl ?_
    exact⟨⟨_,rfl⟩,.inr ⟨_,⟨k+1,by omega,(Dv _ _).symm⟩,hJx3⟩⟩
  ·obtain rfl:k=len:=by omega
   gi_wp2
   go_end0
   exact⟨⟨_,rfl⟩,.inl ⟨_,rfl,hJs⟩⟩
theorem BA(F:Fence)(n:Nat)(h7:F.fn 129)(hro:F.round=none)(l Bs:Nat)(J:List Nat->World->Prop)(W:World)(hBs:W.cell? ⟨Bs,0,none⟩=some (.slice none 0 0))(h0:J [] W) :
 CallsIn F n Tryz.prog 129 #[.func (.yield l) #[] #[],.pointer (some ⟨Bs,0,none⟩)] W fun e W'=>(∃v,e=.returned v)/\J [] W':=by
 refine callsIn_of_wp Tryz.func129 rfl h7 ?_ hro
 simp only[Tryz.ntmps129,List.size_toArray,List.length_cons,List.length_nil,Nat.reduceAdd,Nat.reduceSub,Array.replicate_succ,Array.replicate_zero,List.push_toArray,List.append_toArray,List.nil_append,List.cons_append]
 gi_wp2
 gi_loopw [7] (fun i wr=>i=.int .i64 0/\J [] wr) (fun _ _=>0)
 case atStart=>exact⟨rfl,h0⟩
 case round =>
  obtain⟨rfl,hJs⟩:=hrel
  gi_wp2
  go_end0
  exact⟨⟨_,rfl⟩,hJs⟩
theorem N9(F:Fence)(n:Nat)(h5:F.fn 82)(hro:F.round=none)(a:Option Addr)(len cap:Nat)(w:World) :
 CallsIn F n Tryz.prog 82 #[.slice a len cap] w fun e w'=>e=.returned (.func (.func 129) #[] #[.pointer (some ⟨w.heap.size,0,none⟩)])/\w'=w.alloc (.cells #[.slice a len cap] 155):=by
 refine callsIn_of_wp Tryz.func82 rfl h5 ?_ hro
 simp only[Tryz.ntmps82,List.size_toArray,List.length_cons,List.length_nil,Nat.reduceAdd,Nat.reduceSub,Array.replicate_succ,Array.replicate_zero,List.push_toArray,List.append_toArray,List.nil_append,List.cons_append]
 gi_wp2
 go_ret
 exact⟨rfl,rfl⟩
def DL(n₀:Nat)(W:World)(a:Option Addr)(len cap:Nat)(f:Nat->Nat):Prop :=
 (a=none/\len=0/\cap=0)\/∃b,a=some ⟨b,0,none⟩/\b<n₀/\∀j,j<len->W.cell? ⟨b,j,none⟩=some (.pointer (some ⟨f j,0,none⟩))
theorem DL.below{n₀:Nat}{A B:World}(h:Below n₀ A B){a:Option Addr}{len cap:Nat}{f:Nat->Nat}(hp:DL n₀ A a len cap f):DL n₀ B a len cap f:=by
 rcases hp with e|⟨b,e,hb,hc⟩
 ·exact .inl e
 ·exact .inr ⟨b,e,hb,fun j hj=>(h.cell (p:=⟨b,j,none⟩) hb).trans (hc j hj)⟩
theorem EX(F:Fence)(n:Nat)(h7:F.fn 129)(hro:F.round=none)(hn:1<=n)(Bs n₀:Nat)(a:Option Addr)(len cap:Nat)(f:Nat->Nat)(hreach:len * 8<=140737488351232)(w:World)(hBs:Bs<w.heap.size)(hn₀:n₀<=w.heap.size)
 (hc:w.cell? ⟨Bs,0,none⟩=some (.slice a len cap)) (hI:DL n₀ w a len cap f) :
 SeqStopsK F n Tryz.prog 129 #[.pointer (some ⟨Bs,0,none⟩)] (fun x:Nat=>#[Value.pointer (some ⟨x,0,none⟩)]) (Below n₀) (fun ys=>ys=upto f len) (fun pre=>pre <+: upto f len) len w:=fun l J Jx W hW _ _ hY h0=>by
 have hc':=(hW.cell (p:=⟨Bs,0,none⟩) hBs).trans hc
 rcases hI.below (hW.mono hn₀) with⟨rfl,rfl,rfl⟩|⟨b,rfl,hb,hcs⟩
 ·exact (BA F n h7 hro l Bs J W hc' h0).mono fun e W' ⟨he,hj⟩=>⟨he,.inl ⟨_,rfl,hj⟩⟩
 ·refine (Ky F n h7 hro hn l Bs n₀ b len cap f hreach hb J Jx hY W hc' hcs h0).mono ?_
  rintro e W' ⟨he,⟨ys,rfl,hj⟩|⟨pre,⟨k,hk,rfl⟩,hj⟩⟩
  ·exact⟨he,.inl ⟨_,rfl,hj⟩⟩
  ·refine⟨he,.inr ⟨_,?_,hj⟩⟩
   obtain⟨d,rfl⟩:=Nat.exists_eq_add_of_le hk
   exact⟨((List.range d).map (fun i=>k+i)).map f,by unfold upto;rw[List.range_add,List.map_append]⟩
theorem Ub:(Tryz.prog.info? 114).map (fun i=>(i.zero,i.size,i.bytes))=some (some (.pointer none),1,8):=by kernel_rfl
theorem DN(F:Fence)(n:Nat)(h62:F.fn 156)(h59:F.fn 129)(hro:F.round=none)(hn:3<=n)(Bs:Nat)(a:Option Addr)(len cap:Nat)(f:Nat->Nat)(hlen:len<=100000)(w:World)(hBs:Bs<w.heap.size)
 (hcB:w.cell? ⟨Bs,0,none⟩=some (.slice a len cap)) (hI:DL w.heap.size w a len cap f) :
 CallsIn F n Tryz.prog 156 #[.slice none 0 0,.func (.func 129) #[] #[.pointer (some ⟨Bs,0,none⟩)]] w fun e W'=>∃v,e=.returned v/\W'.ownsRow w.heap.size 114 1 v len ((upto f len).map tN)/\(v=.slice none 0 0↔upto f len=[])/\Below w.heap.size w W':=by
 have h1:1<=n:=by omega
 have hm:len<=maxLen:=by unfold maxLen;omega
 have hm8:len * 8<=140737488355328:=by omega
 obtain⟨i0,hi,hz0,hz1,hz2⟩:=info_parts Ub
 refine callsIn_of_wp_marks Tryz.func156 rfl h62 ?_ hro
 simp only[Tryz.ntmps156,List.size_toArray,List.length_cons,List.length_nil,Nat.reduceAdd,Nat.reduceSub,Array.replicate_succ,Array.replicate_zero,List.push_toArray,List.append_toArray,List.nil_append,List.cons_append]
 gi_wp2
 have bO:=Boxed.new w 150 (.slice none 0 0)
 have hB0:Below w.heap.size w (w.alloc (.cells #[.slice none 0 0] 150)):=(Below.refl _ w).alloc (Nat.le_refl _) _
 have hcB':=(hB0.cell (p:=⟨Bs,0,none⟩) hBs).trans hcB
 refine wpIn_rangeFunc_ownG hro h1 (gf:=129) (lb:=#[.pointer (some ⟨Bs,0,none⟩)]) rfl h59 (enters_of Tryz.func129 (by kernel_rfl) rfl)
  (EX F (n-1) h59 hro (by omega) Bs w.heap.size a len cap f (by omega) _ (by simp;omega) (by simp) hcB' (hI.below hB0)) belowK_t (belowK_b (by simp)) (Below.refl _ _) (fun _=>rfl)
  (fun pre W=>(∃v,Boxed W w.heap.size 150 v/\W.ownsRow w.heap.size 114 1 v pre.length (pre.map tN)/\(v=.slice none 0 0↔pre=[]))/\Below w.heap.size w W)
  (fun _ _ _=>False)
  (OwnFrom.and (Own.from (holdsRow_own w.heap.size w.heap.size 150 114 1 (fun pre=>pre.length) (fun pre=>pre.map tN) (fun pre v=>v=.slice none 0 0↔pre=[])) _) (ownFrom_below (Nat.le_refl _) (by simp)))
  (fun _ _ _ _ _ hs _ _=>hs)
  ⟨⟨_,bO,World.ownsRow_nil _ _ _ _,by simp⟩,hB0⟩
  (fun x=>{ tmps:=#[.slice none 0 0,.func (.func 129) #[] #[.pointer (some ⟨Bs,0,none⟩)],.pointer (some ⟨w.heap.size,0,none⟩),undef,.slice none 0 0,.pointer (some ⟨x,0,none⟩),.func (.func 129) #[] #[.pointer (some ⟨Bs,0,none⟩)],.pointer (some ⟨x,0,none⟩),undef,undef,undef,undef,undef],defers:=[] }) ?assign ?body ?done ?stop
 case assign =>
  intro l x W K hK
  gi_wp2
  exact hK
 case body =>
  rintro l pre x W ⟨⟨v,hv,hrow,hnil⟩,hB⟩ hlt
  have hc:=hv.cell
  gi_wp2_with (gi_at_builtin;refine wpListIn_append_own _ rfl _ _ 150 rfl w.heap.size 114 i0 (.pointer none) 1 8 Tryz.underlying150 hi hz0 hz1 hz2 rfl (by decide) _ _ _ rfl (hrow.alloc _) ⟨W.heap.size,0,none⟩ 1 1 [.pointer (some ⟨x,0,none⟩)] rfl rfl (cell_one_new _ _ _) (by simp[Value.oneCell']) (by omega) (by omega) (by have:=hB.size;simp;omega) ?_;intro v' w1 hown' hgrow _;obtain⟨g',cap',rfl⟩:=ownsRow_succ hown';obtain⟨hv1,hv2,hr2,hk2,hb2⟩:=hv.appended (by decide) hrow hB.size (Nat.le_refl _) hown' hgrow;have hc1:=hv1.cell;have hf1:=hv1.frozen)
  exact⟨hk2.from _,hb2,⟨_,hv2,by simpa [tN] using hr2,by simp⟩,hB.trans hb2⟩
 case done =>
  rintro D ys W hD rfl ⟨⟨v,hv,hrow,hnil⟩,hB⟩ hK
  have hc:=hv.cell
  gi_wp2
  refine⟨by simp,.inl ⟨_,_,rfl,run_takeDeferred hK,?_⟩⟩
  rw[lU]at hrow
  exact⟨_,results_tmp rfl _ _ _,v,rfl,ownsRow_putObj hrow _ hK rfl,hnil,hB.trans (belowK_b (w:=w) (Nat.le_refl _) W D _ _ (by simp at hD;omega) hK rfl rfl)⟩
 case stop =>
  rintro D c pre W _ _ h _
  exact h.elim
end Go.Proofs.YtigaphnafnpfnaaGreatDoor
