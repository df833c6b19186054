import Derived.Test.YtigaphnafnpfnaaGreatDoorQVA5
import Derived.Lib.MinMax
import Derived.Deep.QuietTactic
import Derived.BigQuiet
import Derived.BigRegion
import Derived.Deep.RegionWith
import Derived.Deep.RegionHeld3
import Derived.Deep.DrawnRows
import Derived.Deep.RegionLaw
import Derived.Deep.AppendLies
import Derived.Test.YtigaphnafnpfnaaGreatDoorQVE2
import Derived.Shelf.Small.Bits
import Derived.Shelf.SlSortCmp.Kit1
import Derived.Shelf.GgSortFunc.Compose
set_option linter.unusedVariables false
set_option linter.unusedSimpArgs false
set_option maxHeartbeats 8000000
set_option maxRecDepth 100000
namespace Go.Proofs.YtigaphnafnpfnaaGreatDoor
open Go.RowKit
attribute [local go_sem ↓] Go.wp_at_zero Go.wp_at_succ
def upd{α:Type}(f:Nat→α)(s:Nat)(v:α):Nat→α:=fun t=>if t=s then v else f t
theorem upd_same{α:Type}(f:Nat→α)(s:Nat)(v:α):upd f s v s=v:=by simp[upd]
theorem af{α:Type}(f:Nat→α){s t:Nat}(v:α)(h:t≠s):upd f s v t=f t:=by simp[upd,h]
def qK(b:Nat):Value:=.pointer (some ⟨b,0,none⟩)
def nI(o:Ord):Array Value:=#[.int .i64 o.id,.int .i64 o.owner,.string o.sym,.int .i64 o.side,.int .i64 o.kind,.int .i64 o.price,.int .i64 o.qty,.int .i64 o.entered,.int .i64 o.opn,.int .i64 o.filled,.int .i64 o.aG,.int .i64 o.exp]
theorem ai.jR(w:World)(o:Obj)(c:Array Value)(t:TypeId):ai ((w.alloc o).alloc (.cells c t)) (w.heap.size+1) c t:=by
 have h:=ai.new (w.alloc o) c t
 have e:(w.alloc o).heap.size=w.heap.size+1:=by simp
 rw[e]at h
 exact h
structure wX(w:World)(H b:Nat)(o:Ord):Prop where
 box:ai w H #[.pointer (some ⟨b,0,none⟩)] 114
 now:ai w (H+1) (nI o) 54
theorem wX.kept{w w':World}{H b:Nat}{o:Ord}(h:wX w H b o){S:Nat→Prop}(k:ag S w w')(h1:¬S H)(h2:¬S (H+1)):wX w' H b o:=⟨k.blk h.box h1,k.blk h.now h2⟩
theorem kX(b:Nat)(o:Ord)(ix:Int)(w:World)(ho:bC w b o ix) :
 Calls Tryz.prog 119 #[.pointer (some ⟨b,0,none⟩)] w fun e w'=>e=.returned (.func (.func 151) #[] #[.pointer (some ⟨w.heap.size+1,0,none⟩),.pointer (some ⟨w.heap.size,0,none⟩)])∧wX w' w.heap.size b o∧ag ak w w':=by
 have c0:w.cell? ⟨b,0,none⟩=some (.int .i64 o.id):=ho.cell 0
 have c1:w.cell? ⟨b,1,none⟩=some (.int .i64 o.owner):=ho.cell 1
 have c2:w.cell? ⟨b,2,none⟩=some (.string o.sym):=ho.cell 2
 have c3:w.cell? ⟨b,3,none⟩=some (.int .i64 o.side):=ho.cell 3
 have c4:w.cell? ⟨b,4,none⟩=some (.int .i64 o.kind):=ho.cell 4
 have c5:w.cell? ⟨b,5,none⟩=some (.int .i64 o.price):=ho.cell 5
 have c6:w.cell? ⟨b,6,none⟩=some (.int .i64 o.qty):=ho.cell 6
 have c7:w.cell? ⟨b,7,none⟩=some (.int .i64 o.entered):=ho.cell 7
 have c8:w.cell? ⟨b,8,none⟩=some (.int .i64 o.opn):=ho.cell 8
 have c9:w.cell? ⟨b,9,none⟩=some (.int .i64 o.filled):=ho.cell 9
 have c10:w.cell? ⟨b,10,none⟩=some (.int .i64 o.aG):=ho.cell 10
 have c11:w.cell? ⟨b,11,none⟩=some (.int .i64 o.exp):=ho.cell 11
 have lo:=ho.lt
 have hne:b≠w.heap.size:=by omega
 go_enter Tryz.func119,Tryz.ntmps119
 go_wp2
 go_ret
 refine⟨rfl,⟨(ai.new w _ _).alloc _,ai.jR w _ _ _⟩,((ag.refl ak w).alloc _).alloc _⟩
theorem NY(b:Nat)(o:Ord)(ix q:Int)(w:World)(ho:bC w b o ix) :
 Calls Tryz.prog 177 #[.pointer (some ⟨b,0,none⟩),.int .i64 q] w fun e w'=>e=.returned (.func (.func 151) #[] #[.pointer (some ⟨w.heap.size+1,0,none⟩),.pointer (some ⟨w.heap.size,0,none⟩)])∧wX w' w.heap.size b o∧bC w' b { o with opn:=wrap64 (o.opn-q),filled:=wrap64 (o.filled+q) } ix∧ag (fun x=>x=b) w w':=by
 have HA:=hide (kX b o ix w ho)
 have lo:=ho.lt
 go_enter Tryz.func177,Tryz.ntmps177
 go_wp2_with fail
 refine (ae HA).mono ?_
 rintro e w1 ⟨rfl,n1,k1⟩
 have ho1:=k1.blk ho (fun x=>x)
 have h8:w1.cell? ⟨b,8,none⟩=some (.int .i64 o.opn):=ai.cell ho1 8
 have h9:w1.cell? ⟨b,9,none⟩=some (.int .i64 o.filled):=ai.cell ho1 9
 have f8:=ai.frozen ho1 8
 have f9:=ai.frozen ho1 9
 go_wp2
 go_ret
 have k2:=((ag.refl (fun x=>x=b) w1).setCell (p:=⟨b,8,none⟩) (.inl rfl) (.int .i64 (wrap64 (o.opn-q)))).setCell (p:=⟨b,9,none⟩) (.inl rfl) (.int .i64 (wrap64 (o.filled+q)))
 exact⟨rfl,n1.kept k2 (by omega) (by omega),(ho1.set 8 _).set 9 _,k1.aC.trans k2⟩
theorem xA(b:Nat)(o:Ord)(ix:Int)(w:World)(ho:bC w b o ix) :
 Calls Tryz.prog 67 #[.pointer (some ⟨b,0,none⟩)] w fun e w'=>e=.returned (.func (.func 151) #[] #[.pointer (some ⟨w.heap.size+1,0,none⟩),.pointer (some ⟨w.heap.size,0,none⟩)])∧wX w' w.heap.size b o∧bC w' b { o with opn:=0,aG:=wrap64 (o.aG+o.opn) } ix∧ag (fun x=>x=b) w w':=by
 have HA:=hide (kX b o ix w ho)
 have lo:=ho.lt
 go_enter Tryz.func67,Tryz.ntmps67
 go_wp2_with fail
 refine (ae HA).mono ?_
 rintro e w1 ⟨rfl,n1,k1⟩
 have ho1:=k1.blk ho (fun x=>x)
 have h8:w1.cell? ⟨b,8,none⟩=some (.int .i64 o.opn):=ai.cell ho1 8
 have h10:w1.cell? ⟨b,10,none⟩=some (.int .i64 o.aG):=ai.cell ho1 10
 have f8:=ai.frozen ho1 8
 have f10:=ai.frozen ho1 10
 go_wp2
 go_region
 go_wp2
 go_ret
 have k2:=(((ag.refl (fun x=>x=b) w1).setCell (p:=⟨b,10,none⟩) (.inl rfl) (.int .i64 (wrap64 (o.aG+o.opn)))).setCell (p:=⟨b,8,none⟩) (.inl rfl) (.int .i64 0)).drew
 refine⟨rfl,n1.kept k2 (by omega) (by omega),?_,k1.aC.trans k2⟩
 have:=(ho1.set 10 (.int .i64 (wrap64 (o.aG+o.opn)))).set 8 (.int .i64 0)
 exact this
def di(kind:Int):Bool:=kind == 0 || kind == 1 || kind == 4
theorem nG(b:Nat)(o:Ord)(ix:Int)(w:World)(ho:bC w b o ix) :
 Calls Tryz.prog 121 #[.pointer (some ⟨b,0,none⟩)] w fun e w'=>e=.returned (.bool (di o.kind))∧w'=w:=by
 have h4:w.cell? ⟨b,4,none⟩=some (.int .i64 o.kind):=ho.cell 4
 by_cases h0:o.kind=0
 ·have e0:(o.kind == 0)=true:=by simp[h0]
  have HR:Hid (di o.kind=true):=by show _=_;simp[di,h0]
  clear h0
  go_enter Tryz.func121,Tryz.ntmps121
  go_wp2
  go_ret
  exact⟨by rw[HR.out];rfl,rfl⟩
 ·have e0:(o.kind == 0)=false:=by simp[h0]
  by_cases h1:o.kind=1
  ·have e1:(o.kind == 1)=true:=by simp[h1]
   have HR:Hid (di o.kind=true):=by show _=_;simp[di,h1]
   clear h0 h1
   go_enter Tryz.func121,Tryz.ntmps121
   go_wp2
   go_ret
   exact⟨by rw[HR.out];rfl,rfl⟩
  ·have e1:(o.kind == 1)=false:=by simp[h1]
   by_cases h2:o.kind=4
   ·have e2:(o.kind == 4)=true:=by simp[h2]
    have HR:Hid (di o.kind=true):=by show _=_;simp[di,h2]
    clear h0 h1 h2
    go_enter Tryz.func121,Tryz.ntmps121
    go_wp2
    go_ret
    exact⟨by rw[HR.out];rfl,rfl⟩
   ·have e2:(o.kind == 4)=false:=by simp[h2]
    have HR:Hid (di o.kind=false):=by show _=_;simp[di,h0,h1,h2]
    clear h0 h1 h2
    go_enter Tryz.func121,Tryz.ntmps121
    go_wp2
    go_ret
    exact⟨by rw[HR.out];rfl,rfl⟩
def Bk.leave(B:Bk)(om:Nat→Ord)(s i:Nat):Bk:={ B with n:=upd B.n s (B.n s-1),h:=upd B.h s (dO (dW om) (B.h s) (B.n s-1) i) }
theorem Bk.Fa(B:Bk)(om:Nat→Ord)(s i:Nat)(hs:s<2):(B.leave om s i).cells=B.cells.setIfInBounds (1+s) (.slice (B.sl s) (B.n s-1) (B.cap s)):=by
 have:s=0∨s=1:=by omega
 rcases this with rfl | rfl <;> rfl
def bQ(B:Bk)(s:Nat):Nat→Prop:=fun b=>iP (B.sl s)=some b∨∃k,k<B.n s∧b=B.h s k
theorem aX.far{w:World}{bb:Nat}{B:Bk}{om:Nat→Ord}(hb:aX w bb B om){s t:Nat}(hs:s<2)(ht:t<2)(hne:s≠t){b:Nat}(h:bQ B s b):¬bQ B t b:=by
 have key:∀b,bQ B 0 b→¬bQ B 1 b:=by
  rintro b (h | ⟨k,hk,rfl⟩) (h' | ⟨j,hj,e⟩)
  ·exact hb.apart b h h'
  ·subst e;exact (hb.side 0 (by omega)).ne ((hb.side 1 (by omega)).aQ hj) (by decide) h
  ·exact (hb.side 1 (by omega)).ne ((hb.side 0 (by omega)).aQ hk) (by decide) h'
  ·exact hb.sZ k j hk hj e
 have h2:(s=0∧t=1)∨(s=1∧t=0):=by omega
 rcases h2 with⟨rfl,rfl⟩ | ⟨rfl,rfl⟩
 ·exact key b h
 ·exact fun h'=>key b h' h
theorem aX.Ny{w:World}{bb:Nat}{B:Bk}{om:Nat→Ord}(hb:aX w bb B om){s:Nat}(hs:s<2):¬bQ B s bb:=by
 rintro (h | ⟨k,hk,e⟩)
 ·exact (hb.side s hs).ne hb.blk (by decide) h
 ·subst e;exact ai.ne hb.blk ((hb.side s hs).aQ hk) (by decide) rfl
theorem Em(bb:Nat)(B:Bk)(om:Nat→Ord)(s i:Nat)(w:World)(hb:aX w bb B om)(hs:s<2)(hi:i<B.n s)(hside:(om (B.h s i)).side=(s:Int)) :
 Calls Tryz.prog 116 #[.pointer (some ⟨bb,0,none⟩),.pointer (some ⟨B.h s i,0,none⟩)] w fun e w'=>e=.returned (.tuple #[]) ∧
  aX w' bb (B.leave om s i) om∧(∃ix,bC w' (B.h s i) (om (B.h s i)) ix)∧ag (fun b=>b=bb∨bQ B s b) w w':=by
 have hsd:=hb.side s hs
 rcases hsd with⟨_,h0,_⟩ | ⟨ab,hab,hsd⟩
 ·omega
 obtain⟨n,hn⟩:∃n,B.n s=n+1:=⟨B.n s-1,by omega⟩
 rw[hn]at hsd hi
 have hord:=hsd.ord i hi
 have c3:w.cell? ⟨B.h s i,3,none⟩=some (.int .i64 (s:Int)):=(hord.cell 3).trans (by rw[←hside];rfl)
 have c13:w.cell? ⟨B.h s i,13,none⟩=some (.int .i64 (i:Int)):=hord.cell 13
 have hso:B.cells[1+s]?=some (.slice (some ⟨ab,0,none⟩) (n+1) (B.cap s)):=by rw[B.rJ hs,hab,hn]
 have XK:=fun q=>IZ bb (1+s) ab n (B.cap s) i B.cells (B.h s) om (w.drewN q) (hb.blk.drewN q) hso (hsd.kept ((ag.refl ak w).drewN q) (fun _ _ x=>x)) (by omega)
 have fin:∀(q:Nat) (w':World),(ai w' bb (B.cells.setIfInBounds (1+s) (.slice (some ⟨ab,0,none⟩) n (B.cap s))) 158∧Side w' ab (B.cap s) n (dO (dW om) (B.h s) n i) om∧bC w' (B.h s i) (om (B.h s i)) n∧ag (fun b=>b=bb∨Sd ab (n+1) (B.h s) b) (w.drewN q) w') →
  aX w' bb (B.leave om s i) om∧(∃ix,bC w' (B.h s i) (om (B.h s i)) ix)∧ag (fun b=>b=bb∨bQ B s b) w w':=by
  rintro q w' ⟨h1,h2,h3,h4⟩
  have h5:ag (fun b=>b=bb∨bQ B s b) w w':=ag.trans ((ag.refl _ w).drewN q) (h4.mono (fun b hb=>by
   rcases hb with hb | hb
   ·exact .inl hb
   ·refine .inr ?_
    rcases hb with rfl | ⟨k,hk,rfl⟩
    ·exact .inl (Nu hab)
    ·exact .inr ⟨k,by omega,rfl⟩))
  refine⟨⟨?_,?_,hb.apart,?_⟩,⟨n,h3⟩,h5⟩
  ·rw[B.Fa om s i hs,hn,hab];exact h1
  ·intro t ht
   by_cases e:t=s
   ·subst e
    refine .inr ⟨ab,hab,?_⟩
    show Side w' ab (B.cap t) (upd B.n t (B.n t-1) t) (upd B.h t _ t) om
    rw[upd_same,upd_same,hn]
    exact h2
   ·show gG w' (B.sl t) (upd B.n s (B.n s-1) t) (B.cap t) (upd B.h s _ t) om
    rw[af _ _ e,af _ _ e]
    refine (hb.side t ht).kept h5 (fun b hb' hx=>?_)
    rcases hx with rfl | hx
    ·exact hb.Ny ht hb'
    ·exact hb.far hs ht (fun h=>e h.symm) hx hb'
  ·have sub:∀k,k<n→Mem (n+1) (B.h s) (dO (dW om) (B.h s) n i k):=fun k hk=>(qg (lt:=dW om) (B.h s) i (by omega) _).1 ⟨k,by omega,rfl⟩
   have h2':s=0∨s=1:=by omega
   intro k j hk hj
   rcases h2' with rfl | rfl
   ·simp only[Bk.leave,upd_same,af _ _ (show (1:Nat)≠0 by omega),hn,Nat.add_sub_cancel]at hk hj ⊢
    obtain⟨k',hk',e⟩:=sub k hk
    rw[e]
    exact hb.sZ k' j (by omega) hj
   ·simp only[Bk.leave,upd_same,af _ _ (show (0:Nat)≠1 by omega),hn,Nat.add_sub_cancel]at hk hj ⊢
    obtain⟨j',hj',e⟩:=sub j hj
    rw[e]
    exact hb.sZ k j' hk (by omega)
 have HF:=hide fin
 have HR:=hide XK
 clear fin XK
 have e2:s=0∨s=1:=by omega
 rcases e2 with rfl | rfl
 all_goals
  go_enter Tryz.func116,Tryz.ntmps116
  go_wp2
  go_region_with (first | (go_at_call 149;refine (ae HR _).mono ?_;rintro e w1 ⟨rfl,hw1⟩))
  all_goals
   go_wp2
   go_end0
   exact⟨rfl,ae HF _ _ hw1⟩
structure wZ(w:World)(H bb b:Nat):Prop where
 book:ai w H #[.pointer (some ⟨bb,0,none⟩)] 111
 ord:ai w (H+1) #[.pointer (some ⟨b,0,none⟩)] 114
theorem wZ.kept{w w':World}{H bb b:Nat}(h:wZ w H bb b){S:Nat→Prop}(k:ag S w w')(h1:¬S H)(h2:¬S (H+1)):wZ w' H bb b:=⟨k.blk h.book h1,k.blk h.ord h2⟩
theorem aX.Bd{w:World}{bb:Nat}{B:Bk}{om:Nat→Ord}(hb:aX w bb B om){s:Nat}(hs:s<2){b:Nat}(h:bQ B s b):b<w.heap.size:=by
 rcases h with h | ⟨k,hk,rfl⟩
 ·exact (hb.side s hs).lt h
 ·exact ((hb.side s hs).aQ hk).lt
theorem Lh(bb:Nat)(B:Bk)(om:Nat→Ord)(s i:Nat)(w:World)(hb:aX w bb B om)(hs:s<2)(hi:i<B.n s)(hside:(om (B.h s i)).side=(s:Int)) :
 Calls Tryz.prog 66 #[.pointer (some ⟨bb,0,none⟩),.pointer (some ⟨B.h s i,0,none⟩)] w fun e w'=>e=.returned (.func (.func 117) #[] #[.pointer (some ⟨w.heap.size,0,none⟩),.pointer (some ⟨w.heap.size+1,0,none⟩)])∧wZ w' w.heap.size bb (B.h s i) ∧
  aX w' bb (B.leave om s i) om∧(∃ix,bC w' (B.h s i) (om (B.h s i)) ix)∧ag (fun b=>b=bb∨bQ B s b) w w':=by
 obtain⟨w1,hw1⟩:∃w1,w1=(w.alloc (.cells #[.pointer (some ⟨bb,0,none⟩)] 111)).alloc (.cells #[.pointer (some ⟨B.h s i,0,none⟩)] 114):=⟨_,rfl⟩
 have k1:ag ak w w1:=by rw[hw1];exact ((ag.refl ak w).alloc _).alloc _
 have p1:wZ w1 w.heap.size bb (B.h s i):=by rw[hw1];exact⟨(ai.new w _ _).alloc _,ai.jR w _ _ _⟩
 have hb1:=hb.kept k1 (fun _ _ x=>x)
 have HR:=hide (Em bb B om s i w1 hb1 hs hi hside)
 have HW:=hide hw1
 have x0:w1.cell? ⟨w.heap.size,0,none⟩=some (.pointer (some ⟨bb,0,none⟩)):=p1.book.cell 0
 have x1:w1.cell? ⟨w.heap.size+1,0,none⟩=some (.pointer (some ⟨B.h s i,0,none⟩)):=p1.ord.cell 0
 have lb:=hb.blk.lt
 have out:∀b,w.heap.size≤b→¬(b=bb∨bQ B s b):=by
  rintro b h (e | e)
  ·omega
  ·have:=hb.Bd hs e;omega
 have HO:=hide out
 clear hw1 out
 go_enter Tryz.func66,Tryz.ntmps66
 go_wp2_with fail
 rw[←ae HW]
 refine (ae HR).mono ?_
 rintro e w2 ⟨rfl,b2,o2,k2⟩
 go_wp2
 go_ret
 exact⟨rfl,p1.kept k2 (ae HO _ (Nat.le_refl _)) (ae HO _ (by omega)),b2,o2,k1.aC.trans k2⟩
theorem Side.om{w:World}{ab cap n:Nat}{h:Nat→Nat}{om df:Nat→Ord}(hs:Side w ab cap n h om)(he:∀k,k<n→df (h k)=om (h k)):Side w ab cap n h df :=
 ⟨hs.arr,fun i hi=>by rw[he i hi];exact hs.ord i hi,hs.le,hs.small,hs.KF⟩
theorem gG.om{w:World}{s:Option Addr}{cap n:Nat}{h:Nat→Nat}{om df:Nat→Ord}(hs:gG w s n cap h om)(he:∀k,k<n→df (h k)=om (h k)):gG w s n cap h df:=by
 rcases hs with hs | ⟨ab,e,hs⟩
 ·exact .inl hs
 ·exact .inr ⟨ab,e,hs.om he⟩
theorem gG.upd{w w':World}{s:Option Addr}{cap n:Nat}{h:Nat→Nat}{om:Nat→Ord}(hs:gG w s n cap h om){b:Nat}{o o':Ord}{ix:Int}(ho:bC w b o ix)(k:ag (fun x=>x=b) w w')(ho':bC w' b o' ix):gG w' s n cap h (upd om b o'):=by
 rcases hs with hs | ⟨ab,rfl,hs⟩
 ·exact .inl hs
 ·refine .inr ⟨ab,rfl,?_⟩
  obtain⟨cs,hb,hc,hp⟩:=hs.arr
  refine⟨⟨cs,k.blk hb (fun e=>ai.ne ho hb (by decide) e.symm),hc,hp⟩,fun i hi=>?_,hs.le,hs.small,hs.KF⟩
  have hoi:=hs.ord i hi
  by_cases e:h i=b
  ·rw[e]at hoi ⊢
   rw[upd_same]
   have:=(Ord.Af (ai.uniq ho hoi)).1
   rw[←this]
   exact ho'
  ·rw[af _ _ e]
   exact k.blk hoi e
theorem aX.upd{w w':World}{bb:Nat}{B:Bk}{om:Nat→Ord}(hb:aX w bb B om){b:Nat}{o o':Ord}{ix:Int}(ho:bC w b o ix)(k:ag (fun x=>x=b) w w')(ho':bC w' b o' ix):aX w' bb B (upd om b o') :=
 ⟨k.blk hb.blk (fun e=>ai.ne ho hb.blk (by decide) e.symm),fun s hs=>(hb.side s hs).upd ho k ho',hb.apart,hb.sZ⟩
theorem CQ{om:Nat→Ord}{b:Nat}{o':Ord}(h1:o'.side=(om b).side)(h2:o'.price=(om b).price)(h3:o'.place=(om b).place):dW (upd om b o')=dW om:=by
 have:∀x,(upd om b o' x).side=(om x).side∧(upd om b o' x).price=(om x).price∧(upd om b o' x).place=(om x).place:=by
  intro x
  by_cases e:x=b
  ·subst e;rw[upd_same];exact⟨h1,h2,h3⟩
  ·rw[af _ _ e];exact⟨rfl,rfl,rfl⟩
 funext x y
 unfold dW iF jw
 rw[(this x).1,(this x).2.1,(this x).2.2,(this y).2.1,(this y).2.2]
def Bk.push(B:Bk)(om:Nat→Ord)(s ob g cap':Nat):Bk :=
 { B with sl:=upd B.sl s (some ⟨g,0,none⟩),n:=upd B.n s (B.n s+1),cap:=upd B.cap s cap',h:=upd B.h s (qN (dW om) (fun k=>if k=B.n s then ob else B.h s k) (B.n s)) }
theorem Bk.IQ(B:Bk)(om:Nat→Ord)(s ob g cap':Nat)(hs:s<2):(B.push om s ob g cap').cells=B.cells.setIfInBounds (1+s) (.slice (some ⟨g,0,none⟩) (B.n s+1) cap'):=by
 have:s=0∨s=1:=by omega
 rcases this with rfl | rfl <;> rfl
def Bk.rest(B:Bk)(om:Nat→Ord)(s ob g cap':Nat):Bk :=
 { B with sl:=upd B.sl s (some ⟨g,0,none⟩),n:=upd B.n s (B.n s+1),cap:=upd B.cap s cap',h:=upd B.h s (qN (dW om) (fun k=>if k=B.n s then ob else B.h s k) (B.n s)),places:=wrap64 (B.places+1) }
theorem KC(bb ob s:Nat)(B:Bk)(om:Nat→Ord)(ix:Int)(w:World)(hb:aX w bb B om)(ho:bC w ob (om ob) ix)(hs:s<2)(hside:(om ob).side=(s:Int))(hnew:∀t,t<2→∀k,k<B.n t→B.h t k≠ob)(hn:B.n s<1000) :
 Calls Tryz.prog 118 #[.pointer (some ⟨bb,0,none⟩),.pointer (some ⟨ob,0,none⟩)] w fun e w'=>e=.returned (.tuple #[]) ∧
  ∃g cap',aX w' bb (B.push om s ob g cap') om∧ag (fun b=>b=bb∨b=ob∨bQ B s b) w w'∧(iP (B.sl s)=some g∨w.heap.size≤g):=by
 have hne:ob≠bb:=ai.ne ho hb.blk (by decide)
 have hpush:=fun q=>KY bb (1+s) ob (B.n s) (B.cap s) (B.sl s) _ (B.h s) om ix (w.drewN q) (hb.blk.drewN q) (B.rJ hs) ((hb.side s hs).kept ((ag.refl ak w).drewN q) (fun _ _ x=>x)) (ho.drewN q) (hnew s hs) hn
 have fin:∀(q:Nat) (w':World),(∃g cap',ai w' bb (B.cells.setIfInBounds (1+s) (.slice (some ⟨g,0,none⟩) (B.n s+1) cap')) 158∧Side w' g cap' (B.n s+1) (qN (dW om) (fun k=>if k=B.n s then ob else B.h s k) (B.n s)) om ∧
  ag (fun b=>b=bb∨b=ob∨iP (B.sl s)=some b∨∃k,k<B.n s∧b=B.h s k) (w.drewN q) w'∧(iP (B.sl s)=some g∨(w.drewN q).heap.size≤g)) →
  ∃g cap',aX w' bb (B.push om s ob g cap') om∧ag (fun b=>b=bb∨b=ob∨bQ B s b) w w'∧(iP (B.sl s)=some g∨w.heap.size≤g):=by
  rintro q w' ⟨g,cap',h1,h2,h3,h4⟩
  have h4':iP (B.sl s)=some g∨w.heap.size≤g:=h4
  have h5:ag (fun b=>b=bb∨b=ob∨bQ B s b) w w':=ag.trans ((ag.refl _ w).drewN q) (h3.mono (fun b hb=>hb))
  refine⟨g,cap',⟨?_,?_,?_,?_⟩,h5,h4'⟩
  ·rw[B.IQ om s ob g cap' hs];exact h1
  ·intro t ht
   by_cases e:t=s
   ·subst e
    refine .inr ⟨g,by simp only[Bk.push,upd_same],?_⟩
    simp only[Bk.push,upd_same]
    exact h2
   ·simp only[Bk.push,af _ _ e]
    refine (hb.side t ht).kept h5 (fun b hb' hx=>?_)
    rcases hx with rfl | rfl | hx
    ·exact hb.Ny ht hb'
    ·rcases hb' with hb' | ⟨k,hk,e'⟩
     ·exact (hb.side t ht).ne ho (by decide) hb'
     ·exact hnew t ht k hk e'.symm
    ·exact hb.far hs ht (fun h=>e h.symm) hx hb'
  ·have key:∀t,t<2→t≠s→iP (B.sl t)≠some g:=by
    intro t ht e
    rcases h4' with h | h
    ·have e2:(t=0∧s=1)∨(t=1∧s=0):=by omega
     rcases e2 with⟨rfl,rfl⟩ | ⟨rfl,rfl⟩
     ·exact fun h'=>hb.apart g h' h
     ·exact hb.apart g h
    ·intro h'
     have:=(hb.side t ht).lt h'
     omega
   have e2:s=0∨s=1:=by omega
   intro a
   rcases e2 with rfl | rfl
   ·simp only[Bk.push,upd_same,af _ _ (show (1:Nat)≠0 by omega)]
    intro h h'
    simp[iP]at h
    subst h
    exact key 1 (by omega) (by omega) h'
   ·simp only[Bk.push,upd_same,af _ _ (show (0:Nat)≠1 by omega)]
    intro h h'
    simp[iP]at h'
    subst h'
    exact key 0 (by omega) (by omega) h
  ·have sub:∀k,k<B.n s+1→Mem (B.n s) (B.h s) (qN (dW om) (fun k=>if k=B.n s then ob else B.h s k) (B.n s) k)∨qN (dW om) (fun k=>if k=B.n s then ob else B.h s k) (B.n s) k=ob:=fun k hk=>(mem_push (lt:=dW om) (B.h s) ob _).1 ⟨k,hk,rfl⟩
   have e2:s=0∨s=1:=by omega
   intro k j hk hj
   rcases e2 with rfl | rfl
   ·simp only[Bk.push,upd_same,af _ _ (show (1:Nat)≠0 by omega)]at hk hj ⊢
    rcases sub k hk with⟨k',hk',e⟩ | e
    ·rw[e];exact hb.sZ k' j hk' hj
    ·rw[e];exact fun h=>hnew 1 (by omega) j hj h.symm
   ·simp only[Bk.push,upd_same,af _ _ (show (0:Nat)≠1 by omega)]at hk hj ⊢
    rcases sub j hj with⟨j',hj',e⟩ | e
    ·rw[e];exact hb.sZ k j' hk hj'
    ·rw[e];exact hnew 0 (by omega) k hk
 have HF:=hide fin
 have HR:=hide hpush
 have o3:w.cell? ⟨ob,3,none⟩=some (.int .i64 (s:Int)):=(ho.cell 3).trans (by rw[←hside];rfl)
 clear fin hpush
 have e2:s=0∨s=1:=by omega
 rcases e2 with rfl | rfl
 all_goals
  go_enter Tryz.func118,Tryz.ntmps118
  go_wp2
  go_region_with (first | (go_at_call 150;refine (ae HR _).mono ?_;rintro e w2 ⟨rfl,hw2⟩))
  all_goals
   go_wp2
   go_end0
   exact⟨rfl,ae HF _ _ hw2⟩
structure xe(w:World)(H bb b:Nat)(p:Int):Prop where
 pair:wZ w H bb b
 place:ai w (H+2) #[.int .i64 p] 3
theorem xe.kept{w w':World}{H bb b:Nat}{p:Int}(h:xe w H bb b p){S:Nat→Prop}(k:ag S w w')(h1:¬S H)(h2:¬S (H+1))(h3:¬S (H+2)):xe w' H bb b p:=⟨h.pair.kept k h1 h2,k.blk h.place h3⟩
theorem ai.ru(w:World)(o o2:Obj)(c:Array Value)(t:TypeId):ai (((w.alloc o).alloc o2).alloc (.cells c t)) (w.heap.size+2) c t:=by
 have h:=ai.new ((w.alloc o).alloc o2) c t
 have e:((w.alloc o).alloc o2).heap.size=w.heap.size+2:=by simp
 rw[e]at h
 exact h
theorem Pz(bb ob s:Nat)(B:Bk)(om:Nat→Ord)(ix:Int)(w:World)(hb:aX w bb B om)(ho:bC w ob (om ob) ix)(hs:s<2)(hside:(om ob).side=(s:Int))(hnew:∀t,t<2→∀k,k<B.n t→B.h t k≠ob)(hn:B.n s<1000) :
 Calls Tryz.prog 122 #[.pointer (some ⟨bb,0,none⟩),.pointer (some ⟨ob,0,none⟩)] w fun e w'=>e=.returned (.func (.func 153) #[] #[.pointer (some ⟨w.heap.size,0,none⟩),.pointer (some ⟨w.heap.size+1,0,none⟩),.pointer (some ⟨w.heap.size+2,0,none⟩)])∧xe w' w.heap.size bb ob (om ob).place ∧
  ∃g cap',aX w' bb (B.rest (upd om ob { om ob with place:=wrap64 (B.places+1) }) s ob g cap') (upd om ob { om ob with place:=wrap64 (B.places+1) })∧ag (fun b=>b=bb∨b=ob∨bQ B s b) w w'∧(iP (B.sl s)=some g∨w.heap.size≤g):=by
 have hne:ob≠bb:=ai.ne ho hb.blk (by decide)
 obtain⟨df,Ot⟩:∃df,df=upd om ob { om ob with place:=wrap64 (B.places+1) }:=⟨_,rfl⟩
 rw[←Ot]
 obtain⟨w0,hw0⟩:∃w0,w0=(w.setCell ⟨bb,3,none⟩ (.int .i64 (wrap64 (B.places+1)))).setCell ⟨ob,12,none⟩ (.int .i64 (wrap64 (B.places+1))):=⟨_,rfl⟩
 have k0:ag (fun b=>b=bb∨b=ob) w w0:=by
  rw[hw0]
  exact ((ag.refl (fun b=>b=bb∨b=ob) w).setCell (p:=⟨bb,3,none⟩) (.inl (.inl rfl)) _).setCell (p:=⟨ob,12,none⟩) (.inl (.inr rfl)) _
 have hs0:w0.heap.size=w.heap.size:=by rw[hw0];simp[World.setCell]
 have hb0:ai w0 bb (B.cells.setIfInBounds 3 (.int .i64 (wrap64 (B.places+1)))) 158:=by rw[hw0];exact (hb.blk.set 3 _).other (fun e=>hne e.symm) _
 have ho0:bC w0 ob (df ob) ix:=by rw[hw0,Ot,upd_same];exact (ho.other hne _).set 12 _
 have XL:∀t,t<2→gG w0 (B.sl t) (B.n t) (B.cap t) (B.h t) df:=fun t ht=>((hb.side t ht).kept k0 (fun b h hx=>by
  rcases hx with rfl | rfl
  ·exact hb.Ny ht h
  ·rcases h with h | ⟨k,hk,e⟩
   ·exact (hb.side t ht).ne ho (by decide) h
   ·exact hnew t ht k hk e.symm)).om (fun k hk=>by rw[Ot,af _ _ (hnew t ht k hk)])
 have hbk0:aX w0 bb { B with places:=wrap64 (B.places+1) } df:=⟨hb0,XL,hb.apart,hb.sZ⟩
 obtain⟨w1,hw1⟩:∃w1,w1=(((w0.alloc (.cells #[.pointer (some ⟨bb,0,none⟩)] 111)).alloc (.cells #[.pointer (some ⟨ob,0,none⟩)] 114)).alloc (.cells #[.int .i64 (om ob).place] 3)).drew:=⟨_,rfl⟩
 have k1:ag ak w0 w1:=by rw[hw1];exact ((((ag.refl ak w0).alloc _).alloc _).alloc _).drew
 have pa:xe w1 w.heap.size bb ob (om ob).place:=by
  rw[hw1,←hs0]
  exact⟨⟨((ai.new w0 _ _).alloc _).alloc _,(ai.jR w0 _ _ _).alloc _⟩,ai.ru w0 _ _ _ _⟩
 have hpush:=KC bb ob s { B with places:=wrap64 (B.places+1) } df ix w1 (hbk0.kept k1 (fun _ _ x=>x)) (k1.blk ho0 (fun x=>x)) hs (by rw[Ot,upd_same];exact hside) hnew hn
 have lb:=hb.blk.lt
 have lo:=ho.lt
 have sdl:∀b,bQ B s b→b<w.heap.size:=fun b h=>hb.Bd hs h
 have HFin:Hid (∀w',(∃g cap',aX w' bb (Bk.push { B with places:=wrap64 (B.places+1) } df s ob g cap') df∧ag (fun b=>b=bb∨b=ob∨bQ { B with places:=wrap64 (B.places+1) } s b) w1 w'∧(iP (B.sl s)=some g∨w1.heap.size≤g)) →
  xe w' w.heap.size bb ob (om ob).place∧∃g cap',aX w' bb (B.rest df s ob g cap') df∧ag (fun b=>b=bb∨b=ob∨bQ B s b) w w'∧(iP (B.sl s)=some g∨w.heap.size≤g)):=by
  rintro w' ⟨g,cap',h1,h2,h3⟩
  have out:∀b,w.heap.size≤b→¬(b=bb∨b=ob∨bQ B s b):=by
   rintro b h (e | e | e)
   ·omega
   ·omega
   ·have:=sdl b e;omega
  refine⟨pa.kept (S:=fun b=>b=bb∨b=ob∨bQ B s b) h2 (out _ (Nat.le_refl _)) (out _ (by omega)) (out _ (by omega)),g,cap',h1,((k0.mono (fun b hb=>by rcases hb with h | h;exact .inl h;exact .inr (.inl h))).trans k1.aC).trans h2,h3.imp_right (fun h=>?_)⟩
  have:=k1.size
  omega
 have HR:=hide hpush
 have HW:Hid (w1=(((((w.setCell ⟨bb,3,none⟩ (.int .i64 (wrap64 (B.places+1)))).setCell ⟨ob,12,none⟩ (.int .i64 (wrap64 (B.places+1)))).alloc (.cells #[.pointer (some ⟨bb,0,none⟩)] 111)).alloc (.cells #[.pointer (some ⟨ob,0,none⟩)] 114)).alloc (.cells #[.int .i64 (om ob).place] 3)).drew):=by
  show _=_
  rw[hw1,hw0]
 have c3:w.cell? ⟨bb,3,none⟩=some (.int .i64 B.places):=hb.blk.cell 3
 have f3:=hb.blk.frozen 3
 have VA:w.cell? ⟨ob,12,none⟩=some (.int .i64 (om ob).place):=ho.cell 12
 have fo:=ho.frozen 12
 have y0:w1.cell? ⟨w.heap.size,0,none⟩=some (.pointer (some ⟨bb,0,none⟩)):=pa.pair.book.cell 0
 have y1:w1.cell? ⟨w.heap.size+1,0,none⟩=some (.pointer (some ⟨ob,0,none⟩)):=pa.pair.ord.cell 0
 have lb1:bb<w.heap.size+1:=by omega
 have lb2:bb<w.heap.size+1+1:=by omega
 have lo1:ob<w.heap.size+1:=by omega
 have lo2:ob<w.heap.size+1+1:=by omega
 have Q8:w.heap.size<w.heap.size+1+1:=by omega
 have nb1:¬w.heap.size=bb:=by omega
 have nb2:¬w.heap.size+1=bb:=by omega
 clear hpush XL ho0 hb0 k0 Ot hw1 hw0 hbk0 sdl hs0 k1 pa
 go_enter Tryz.func122,Tryz.ntmps122
 go_wp2
 go_region
 rw[←ae HW]
 clear c3 f3 VA fo
 go_wp2_with fail
 refine (ae HR).mono ?_
 rintro e w2 ⟨rfl,hw2⟩
 have hf:=ae HFin w2 hw2
 have HF:=hide hf
 clear hf hw2
 go_wp2
 go_ret
 exact⟨rfl,ae HF⟩
structure Tr where
 num:Int
 sym:ByteArray
 price:Int
 qty:Int
 jh:Int
 sell:Int
 day:Int
def Tr.cells(t:Tr):List Value:=[.int .i64 t.num,.string t.sym,.int .i64 t.price,.int .i64 t.qty,.int .i64 t.jh,.int .i64 t.sell,.int .i64 t.day]
def Tr.val(t:Tr):Value:=.agg #[.int .i64 t.num,.string t.sym,.int .i64 t.price,.int .i64 t.qty,.int .i64 t.jh,.int .i64 t.sell,.int .i64 t.day]
structure Tg where
 t:Tr
 holds:Bool
def Tg.cells(g:Tg):Array Value:=#[.int .i64 g.t.num,.string g.t.sym,.int .i64 g.t.price,.int .i64 g.t.qty,.int .i64 g.t.jh,.int .i64 g.t.sell,.int .i64 g.t.day,.bool g.holds]
structure Rc where
 num:Int
 kind:Int
 t:Tr
def Rc.cells(r:Rc):List Value:=[.int .i64 r.num,.int .i64 r.kind,.int .i64 r.t.num,.string r.t.sym,.int .i64 r.t.price,.int .i64 r.t.qty,.int .i64 r.t.jh,.int .i64 r.t.sell,.int .i64 r.t.day]
def dP(rs:List Rc):List Value:=rs.flatMap Rc.cells
theorem lD(rs:List Rc)(r:Rc):dP (rs++[r])=dP rs++r.cells:=by simp[dP,List.flatMap_append]
theorem BR(rs:List Rc):(dP rs).length=rs.length * 9:=by
 induction rs with
 | nil=>rfl
 | cons r rs ih=>simp only[dP,List.flatMap_cons,List.length_append,List.length_cons]at ih ⊢;rw[ih];simp only[Rc.cells,List.length_cons,List.length_nil];omega
inductive Back where
 | now (b:Nat) (o:Ord)
 | left (b:Nat)
 | oD (b:Nat) (p:Int)
 | entered (id:Int)
 | listed (s:ByteArray)
 | Jf (t:Tr)
 | NF (tb:Nat)
 | Dh (tb:Nat) (p:Int)
 | closed
structure Lg where
 tr:List Tg
 tp:List Rc
 day:Int
 na:Nat
 nt:List Back
structure Lm where
 tv:Value
 pv:Value
 tb:List Nat
 av:Value
 ac:List (Value × List Value)
 jv:Value
 jn:List Value
def gm(av:Value)(ac:List (Value × List Value))(b:Nat):Prop:=av.ownBlock=some b∨∃a,a∈ac∧a.1.ownBlock=some b
def Lm.F(m:Lm)(b:Nat):Prop:=m.tv.ownBlock=some b∨(m.pv.ownBlock=some b∨m.jv.ownBlock=some b)∨b∈m.tb∨gm m.av m.ac b
def oM(bm bo:Nat)(m:Lm)(day:Int):Array Value:=#[.map (some bm),.map (some bo),m.tv,m.pv,.int .i64 day,m.av,m.jv]
theorem ay{w:World}{base e size n:Nat}{v:Value}{xs:List Value}(h:w.ownsRow base e size v n xs){b:Nat}(hb:v.ownBlock=some b):∃cs,ai w b cs e:=by
 rcases h.2 with⟨rfl,_⟩ | ⟨g,cap,cs,rfl,_,hg,_⟩
 ·simp[Value.ownBlock]at hb
 ·simp only[Value.ownBlock,Option.some.injEq]at hb
  subst hb
  exact⟨cs,hg⟩
structure JY(w:World)(av:Value)(ac:List (Value × List Value))(na nf:Nat):Prop where
 row:w.ownsRow 0 109 1 av ac.length (ac.map Prod.fst)
 own:∀a,a∈ac→w.ownsRow 0 1 1 a.1 a.2.length a.2
 dis:(ac.filterMap (fun a=>a.1.ownBlock)).Nodup
 len:ac.length=na
 last:∀a,ac.getLast?=some a→a.2.length=nf
theorem JY.typ{w:World}{av:Value}{ac:List (Value × List Value)}{na nf:Nat}(h:JY w av ac na nf){b:Nat}(hb:gm av ac b):∃cs t,ai w b cs t∧(t=109∨t=1):=by
 rcases hb with hb | ⟨a,ha,hb⟩
 ·obtain⟨cs,hc⟩:=ay h.row hb;exact⟨cs,109,hc,.inl rfl⟩
 ·obtain⟨cs,hc⟩:=ay (h.own a ha) hb;exact⟨cs,1,hc,.inr rfl⟩
theorem au{w w':World}{base e size n:Nat}{v:Value}{xs:List Value}(h:w.ownsRow base e size v n xs){S:Nat→Prop}(k:ag S w w')(hS:∀b,v.ownBlock=some b→¬S b):w'.ownsRow base e size v n xs:=by
 refine⟨h.1,?_⟩
 rcases h.2 with h | ⟨g,cap,cs,rfl,h1,hg,h3⟩
 ·exact .inl h
 ·exact .inr ⟨g,cap,cs,rfl,h1,k.blk hg (hS g rfl),h3⟩
theorem JY.kept{w w':World}{av:Value}{ac:List (Value × List Value)}{na nf:Nat}(h:JY w av ac na nf){S:Nat→Prop}(k:ag S w w')(hS:∀b,gm av ac b→¬S b):JY w' av ac na nf :=
 ⟨au h.row k (fun b hb=>hS b (.inl hb)),fun a ha=>au (h.own a ha) k (fun b hb=>hS b (.inr ⟨a,ha,hb⟩)),h.dis,h.len,h.last⟩
structure mW(w:World)(G:Lg)(m:Lm)(q:Nat):Prop where
 dE:w.ownsRow 0 103 1 m.tv G.tr.length (m.tb.map qK)
 fU:w.ownsRow 0 62 9 m.pv G.tp.length (dP G.tp)
 len:m.tb.length=G.tr.length
 blk:∀(i b:Nat) (g:Tg),m.tb[i]?=some b→G.tr[i]?=some g→ai w b g.cells 105
 nodup:m.tb.Nodup
 act:JY w m.av m.ac G.na G.nt.length
 mJ:w.ownsRow 0 5 1 m.jv m.jn.length m.jn
 jb:m.jn.length≤300 * q
abbrev WE(w:World)(G:Lg)(m:Lm):Prop:=mW w G m G.na
structure eP(w:World)(bv bm bo:Nat)(G:Lg)(m:Lm)(q:Nat):Prop where
 cZ:ai w bv (oM bm bo m G.day) 100
 log:mW w G m q
abbrev aK(w:World)(bv bm bo:Nat)(G:Lg)(m:Lm):Prop:=eP w bv bm bo G m G.na
theorem mW.typ{w:World}{G:Lg}{m:Lm}{q:Nat}(h:mW w G m q){b:Nat}(hb:m.F b):∃cs t,ai w b cs t∧(t=103∨t=62∨t=105∨t=109∨t=1∨t=5):=by
 rcases hb with hb | (hb | hb) | hb | hb
 ·obtain⟨cs,hc⟩:=ay h.dE hb;exact⟨cs,103,hc,.inl rfl⟩
 ·obtain⟨cs,hc⟩:=ay h.fU hb;exact⟨cs,62,hc,.inr (.inl rfl)⟩
 ·obtain⟨cs,hc⟩:=ay h.mJ hb;exact⟨cs,5,hc,.inr (.inr (.inr (.inr (.inr rfl))))⟩
 ·obtain⟨i,hi,e⟩:=List.mem_iff_getElem.1 hb
  have hj:i<G.tr.length:=by rw[←h.len];exact hi
  exact⟨_,105,h.blk i b _ (by rw[List.getElem?_eq_getElem hi,e]) (List.getElem?_eq_getElem hj),.inr (.inr (.inl rfl))⟩
 ·obtain⟨cs,t,hc,ht⟩:=h.act.typ hb
  exact⟨cs,t,hc,ht.elim (fun e=>.inr (.inr (.inr (.inl e)))) (fun e=>.inr (.inr (.inr (.inr (.inl e)))))⟩
theorem mW.lt{w:World}{G:Lg}{m:Lm}{q:Nat}(h:mW w G m q){b:Nat}(hb:m.F b):b<w.heap.size:=by
 obtain⟨cs,t,hc,_⟩:=h.typ hb
 exact hc.lt
theorem mW.ne{w:World}{G:Lg}{m:Lm}{q:Nat}(h:mW w G m q){b:Nat}{c:Array Value}{t:TypeId}(hb:ai w b c t)(h1:t≠103)(h2:t≠62)(h3:t≠105)(h4:t≠109:=by decide)(h5:t≠1∧t≠5:=by decide):¬m.F b:=by
 intro hf
 obtain⟨cs,t',hc,ht⟩:=h.typ hf
 unfold ai at hb hc
 rw[hb]at hc
 simp only[Option.some.injEq,Obj.cells.injEq]at hc
 obtain⟨_,e,_⟩:=hc
 subst e
 rcases ht with e | e | e | e | e | e
 ·exact h1 e
 ·exact h2 e
 ·exact h3 e
 ·exact h4 e
 ·exact h5.1 e
 ·exact h5.2 e
theorem mW.kept{w w':World}{G:Lg}{m:Lm}{q:Nat}(h:mW w G m q){S:Nat→Prop}(k:ag S w w')(hS:∀b,m.F b→¬S b):mW w' G m q :=
 ⟨au h.dE k (fun b hb=>hS b (.inl hb)),au h.fU k (fun b hb=>hS b (.inr (.inl (.inl hb)))),h.len,fun i b g hi hg=>k.blk (h.blk i b g hi hg) (hS b (.inr (.inr (.inl (List.mem_of_getElem? hi))))),h.nodup,h.act.kept k (fun b hb=>hS b (.inr (.inr (.inr hb)))),au h.mJ k (fun b hb=>hS b (.inr (.inl (.inr hb)))),h.jb⟩
theorem eP.kept{w w':World}{bv bm bo:Nat}{G:Lg}{m:Lm}{q:Nat}(h:eP w bv bm bo G m q){S:Nat→Prop}(k:ag S w w')(h1:¬S bv)(hS:∀b,m.F b→¬S b):eP w' bv bm bo G m q :=
 ⟨k.blk h.cZ h1,h.log.kept k hS⟩
theorem eP.aj{w w':World}{bv bm bo:Nat}{G:Lg}{m:Lm}{q:Nat}(h:eP w bv bm bo G m q)(k:ag ak w w'):eP w' bv bm bo G m q:=h.kept k (fun x=>x) (fun _ _ x=>x)
theorem eP.Hg{w:World}{bv bm bo:Nat}{G:Lg}{m:Lm}{q:Nat}(h:eP w bv bm bo G m q):¬m.F bv:=h.log.ne h.cZ (by decide) (by decide) (by decide)
def Lg.told(G:Lg)(kind:Int)(t:Tr):Lg:={ G with tp:=G.tp++[⟨(G.tp.length:Int)+1,kind,t⟩] }
theorem UD:(Tryz.prog.info? 62).map (fun i=>(i.zero.map (fun z=>z.cells.size),i.size,i.bytes))=some (some 9,9,80):=by kernel_rfl
theorem UE:(Tryz.prog.info? 103).map (fun i=>(i.zero,i.size,i.bytes))=some (some (.pointer none),1,8):=by kernel_rfl
theorem iQ:∃i z,Tryz.prog.info? 62=some i∧i.zero=some z∧i.size=9∧i.bytes=80∧z.cells.size=9:=by
 have h:=UD
 cases hi:Tryz.prog.info? 62 with
 | none=>rw[hi]at h;simp at h
 | some i =>
   rw[hi]at h
   simp at h
   obtain⟨⟨z,hz,hs⟩,h2,h3⟩:=h
   exact⟨i,z,rfl,hz,h2,h3,hs⟩
theorem FH(w:World)(r:Rc):∀j u,r.cells[j]?=some u→(w.alloc (.cells #[.int .i64 r.num,.int .i64 r.kind,.int .i64 r.t.num,.string r.t.sym,.int .i64 r.t.price,.int .i64 r.t.qty,.int .i64 r.t.jh,.int .i64 r.t.sell,.int .i64 r.t.day] 62)).cell? (Addr.add ⟨w.heap.size,0,none⟩ j)=some u:=by
 intro j u hj
 have hb:=ai.new w #[.int .i64 r.num,.int .i64 r.kind,.int .i64 r.t.num,.string r.t.sym,.int .i64 r.t.price,.int .i64 r.t.qty,.int .i64 r.t.jh,.int .i64 r.t.sell,.int .i64 r.t.day] 62
 have e:Addr.add ⟨w.heap.size,0,none⟩ j=⟨w.heap.size,j,none⟩:=by simp[Addr.add];omega
 rw[e,hb.cell,←hj]
 simp[Rc.cells]
theorem own_ne{w:World}{base e size n:Nat}{v:Value}{xs:List Value}(h:w.ownsRow base e size v n xs){b:Nat}(hb:v.ownBlock=some b){b':Nat}{c:Array Value}{t:TypeId}(hb':ai w b' c t)(ht:e≠t):b≠b':=by
 obtain⟨cs,hc⟩:=ay h hb
 exact ai.ne hc hb' ht
theorem eP.Md{w1 w2:World}{bv bm bo:Nat}{G:Lg}{m:Lm}(h:aK w1 bv bm bo G m){n H g cap:Nat}{r:Rc}(hn:G.tp.length=n)(hown:w2.ownsRow 0 62 9 (.slice (some ⟨g,0,none⟩) (n+1) cap) (n+1) (dP G.tp++r.cells))(hgrow:w1.grownBy w2 m.pv.ownBlock)(hat:m.pv.ownBlock=some g∨g=H)(hH:w1.heap.size=H) :
 aK (w2.setCell ⟨bv,3,none⟩ (.slice (some ⟨g,0,none⟩) (n+1) cap)) bv bm bo { G with tp:=G.tp++[r] } { m with pv:=.slice (some ⟨g,0,none⟩) (n+1) cap } ∧
  (∀b,Lm.F { m with pv:=.slice (some ⟨g,0,none⟩) (n+1) cap } b→m.F b∨H≤b)∧ag (fun b=>b=bv∨m.pv.ownBlock=some b) w1 (w2.setCell ⟨bv,3,none⟩ (.slice (some ⟨g,0,none⟩) (n+1) cap)):=by
 have hb2:ai w2 bv (oM bm bo m G.day) 100:=(hgrow.block bv h.cZ.lt (fun e=>h.Hg (.inr (.inl (.inl e.symm))))).trans h.cZ
 have k2:ag (fun b=>b=bv∨m.pv.ownBlock=some b) w1 (w2.setCell ⟨bv,3,none⟩ (.slice (some ⟨g,0,none⟩) (n+1) cap)) :=
  ((ag.refl _ w1).grown hgrow (fun k e=>.inl (.inr e))).setCell (p:=⟨bv,3,none⟩) (.inl (.inl rfl)) _
 have k3:ag (fun b=>b=bv) w2 (w2.setCell ⟨bv,3,none⟩ (.slice (some ⟨g,0,none⟩) (n+1) cap)):=(ag.refl (fun b=>b=bv) w2).setCell (p:=⟨bv,3,none⟩) (.inl rfl) _
 refine⟨⟨hb2.set 3 _,?_⟩,?_,k2⟩
 ·refine⟨au h.log.dE k2 ?_,?_,h.log.len,fun i b g hi hg=>k2.blk (h.log.blk i b g hi hg) ?_,h.log.nodup,h.log.act.kept k2 ?_,au h.log.mJ k2 ?_,h.log.jb⟩
  ·rintro b hb (e | e)
   ·exact own_ne h.log.dE hb h.cZ (by decide) e
   ·obtain⟨cs,hc⟩:=ay h.log.fU e
    exact own_ne h.log.dE hb hc (by decide) rfl
  ·simp only[List.length_append,List.length_cons,List.length_nil,hn,lD]
   refine au hown k3 (fun b hb e=>?_)
   exact own_ne hown hb hb2 (by decide) e
  ·have hbk:=h.log.blk i b g hi hg
   rintro (e | e)
   ·exact ai.ne hbk h.cZ (by decide) e
   ·exact own_ne h.log.fU e hbk (by decide) rfl
  ·intro b hb
   obtain⟨cs,t,hc,ht⟩:=h.log.act.typ hb
   rintro (e | e)
   ·exact ai.ne hc h.cZ (by rcases ht with rfl | rfl <;> decide) e
   ·exact own_ne h.log.fU e hc (by rcases ht with rfl | rfl <;> decide) rfl
  ·rintro b hb (e | e)
   ·exact own_ne h.log.mJ hb h.cZ (by decide) e
   ·obtain⟨cs,hc⟩:=ay h.log.fU e
    exact own_ne h.log.mJ hb hc (by decide) rfl
 ·rintro b (hb | (hb | hb) | hb)
  ·exact .inl (.inl hb)
  ·simp only[Value.ownBlock,Option.some.injEq]at hb
   rcases hat with e | e
   ·exact .inl (.inr (.inl (.inl (by rw[e,hb]))))
   ·right;omega
  ·exact .inl (.inr (.inl (.inr hb)))
  ·exact .inl (.inr (.inr hb))
theorem Q4(w:World):Calls Tryz.prog 158 #[.int .u64 0] w fun e w'=>(∃n,e=.returned (.int .i64 n))∧w'=w:=by
 have h75:Calls Tryz.prog 188 #[.int .u64 0] w fun e w'=>(∃n,e=.returned (.int .i64 n))∧w'=w:=by
  go_enter Tryz.func188,Tryz.ntmps188
  go_wp2
  all_goals (go_ret;exact⟨⟨_,rfl⟩,rfl⟩)
 go_enter Tryz.func158,Tryz.ntmps158
 go_wp2_with (go_at_call 188;refine h75.mono ?_;rintro e w' ⟨⟨n,rfl⟩,rfl⟩)
 all_goals (go_ret;exact⟨⟨_,rfl⟩,rfl⟩)
theorem EW(fv:Value)(w:World):Calls Tryz.prog 179 #[.slice none 0 0,.int .i64 0,.int .i64 0,fv] w fun e w'=>e=.returned (.tuple #[])∧w'=w:=by
 go_enter Tryz.func179,Tryz.ntmps179
 go_wp2
 refine wp_loop_rounds 1 ?_
 rw[rounds_succ]
 go_wp2
 go_end0
 exact⟨rfl,rfl⟩
theorem Yn(lim:Int)(fv:Value)(w:World):Calls Tryz.prog 157 #[.slice none 0 0,.int .i64 0,.int .i64 0,.int .i64 lim,fv] w fun e w'=>e=.returned (.tuple #[])∧w'=w:=by
 go_enter Tryz.func157,Tryz.ntmps157
 go_wp2
 refine wp_loop_rounds 1 ?_
 rw[rounds_succ]
 go_wp2_with (go_at_call 179;refine (EW _ _).mono ?_;rintro e w' ⟨rfl,rfl⟩)
 (try simp only[Exit.inBlock,Exit.then])
 refine bodyPost_ret (results_none rfl _ _ _) rfl ?_
 exact⟨rfl,rfl⟩
theorem yR(fv:Value)(w:World):Calls Tryz.prog 128 #[.slice none 0 0,fv] w fun e w'=>e=.returned (.tuple #[])∧w'=w:=by
 go_enter Tryz.func128,Tryz.ntmps128
 go_wp2_with (first | (go_at_call 158;refine (Q4 _).mono ?_;rintro e w' ⟨⟨n,rfl⟩,rfl⟩) | (go_at_call 157;refine (Yn _ _ _).mono ?_;rintro e w' ⟨rfl,rfl⟩))
 go_end0
 exact⟨rfl,rfl⟩
end Go.Proofs.YtigaphnafnpfnaaGreatDoor
namespace Go.Proofs.YtigaphnafnpfnaaGreatDoor
open Go.RowKit Go.Sort
theorem nD(a b:Ord):iF a b=true↔((if a.side=0 then b.price<a.price else a.price<b.price)∨(a.price=b.price∧a.place<b.place)):=by
 unfold iF jw Pg jO
 simp only[decide_eq_true_eq]
 by_cases hs:a.side=0 <;> simp only[hs,if_true,if_false] <;> (repeat' split) <;> omega
theorem eX(a b:Ord):iF a b=false↔¬((if a.side=0 then b.price<a.price else a.price<b.price)∨(a.price=b.price∧a.place<b.place)):=by
 rw[←nD,Bool.not_eq_true]
theorem lQ(om:Nat→Ord)(s:Int):Pre (dW om) (fun x=>(om x).side=s):=by
 refine⟨?_,?_,?_⟩
 ·intro x y hx hy h
  unfold dW at *
  rw[nD]at h
  rw[eX]
  rw[hx]at h
  rw[hy]
  split at h <;> simp_all <;> omega
 ·intro x y z hx hy hz h1 h2
  unfold dW at *
  rw[eX]at *
  rw[hy]at h1
  rw[hz]at h2
  rw[hz]
  by_cases hs:s=0 <;> simp only[hs,if_true,if_false]at * <;> omega
 ·intro x hx
  unfold dW at *
  rw[eX]
  split <;> omega
def MM(w:World)(om:Nat→Ord)(s:Int)(x:Nat):Prop:=(∃ix,bC w x (om x) ix)∧(om x).side=s
def BO{w:World}{om:Nat→Ord}{s:Int}(x:{ x:Nat // MM w om s x }):Value:=qM x.1
def WT{w:World}{om:Nat→Ord}{s:Int}(x y:{ x:Nat // MM w om s x }):Int:=jw (om x.1) (om y.1)
theorem CS{w:World}{om:Nat→Ord}{s:Int}(x y:{ x:Nat // MM w om s x }):ltOf WT x y=dW om x.1 y.1:=rfl
theorem YC(w:World)(om:Nat→Ord)(s:Int):SWO (ltOf (@WT w om s)):=by
 have pre:=lQ om s
 refine⟨fun x=>?_,fun x y z h1 h2=>?_,fun x y z h1 h2=>?_⟩
 ·rw[CS];exact pre.Y9 _ x.2.2
 ·rw[CS]at *
  cases h:dW om x.1 z.1 with
  | true=>rfl
  | false =>
    have h3:=pre.trans y.1 z.1 x.1 y.2.2 z.2.2 x.2.2 (pre.asym _ _ y.2.2 z.2.2 h2) h
    rw[h3]at h1
    exact h1
 ·rw[CS]at *
  exact pre.trans z.1 y.1 x.1 z.2.2 y.2.2 x.2.2 h2 h1
theorem xR{α:Type}[Inhabited α](enc:α→Value)(w:World)(blk off m:Nat)(dk:Array α)(os:Array Obj){k:Nat}(hk:k<w.heap.size)(hne:k≠blk):(sortWorld enc w blk off m dk os).heap[k]?=w.heap[k]?:=by
 unfold sortWorld putRow mapBlock grow
 simp only[Array.getElem?_append,Array.size_modify,Array.getElem?_modify]
 rw[if_pos (by simpa [Sort.ahead] using hk),if_neg (fun e=>hne e.symm)]
 rfl
theorem qV{α:Type}[Inhabited α](enc:α→Value)(w:World)(blk off m:Nat)(dk:Array α)(os:Array Obj):ag (fun x=>x=blk) w (sortWorld enc w blk off m dk os) :=
 ⟨rfl,rfl,rfl,by simp[sortWorld,putRow,mapBlock,grow,Sort.ahead],fun k hk hne=>xR enc w blk off m dk os hk hne⟩
theorem WU{w:World}{om:Nat→Ord}{s:Int}[Inhabited { x:Nat // MM w om s x }]{blk size:Nat}{cs:Array Value}(hb:ai w blk cs 114):CmpLays1 Tryz.prog 83 #[] (@BO w om s) WT blk 0 size w:=by
 intro m os dk hs x y
 obtain⟨ix,hx⟩:=x.2.1
 obtain⟨iy,hy⟩:=y.2.1
 have k:=qV (@BO w om s) w blk 0 m dk os
 exact NG x.1 y.1 _ _ ix iy _ (k.blk hx (ai.ne hx hb (by decide))) (k.blk hy (ai.ne hy hb (by decide)))
theorem Gs{w:World}{om:Nat→Ord}{s:Int}[Inhabited { x:Nat // MM w om s x }]{blk len n:Nat}{f:Nat→Nat}{cs:Array Value}(hb:ai w blk cs 114){d d':Array { x:Nat // MM w om s x }}{os:Array Obj}
 (hd:d.size=len) (hdf:∀j,j<len→(d[j]!).1=f j) (hH:Holds BO w blk 0 d) (hp:PermIn 0 d.size d d') (hs:SortedIn (ltOf WT) 0 d.size d') :
 ∃ys:List Nat,ys.Perm (upto f len)∧ys.Pairwise (fun a b=>dW om b a=false)∧(∀j,j<len→(sortWorld BO w blk 0 n d' os).cell? ⟨blk,j,none⟩=some (qM (ys.getD j 0))):=by
 have hd':d'.size=len:=hp.1.trans hd
 refine⟨d'.toList.map Subtype.val,?_,?_,?_⟩
 ·have h3:=hp.2.2
  rw[hd,Array.extract_eq_self_of_le (by omega),Array.extract_eq_self_of_le (by omega)]at h3
  have h4:=h3.map Subtype.val
  have:d.toList.map Subtype.val=upto f len:=by
   apply List.ext_getElem
   ·simp[upto,hd]
   ·intro i h1 h2
    have hi:i<len:=by simpa [upto] using h2
    have:=hdf i hi
    rw[getElem!_pos d i (by omega)]at this
    simp[upto,this]
  rw[←this]
  exact h4
 ·rw[List.pairwise_map,List.pairwise_iff_getElem]
  intro i j hi hj hij
  have hi':i<d'.size:=by simpa using hi
  have hj':j<d'.size:=by simpa using hj
  have:=hs i j (Nat.zero_le _) hij (by omega)
  rw[getElem!_pos d' i hi',getElem!_pos d' j hj',CS]at this
  simpa using this
 ·intro j hj
  have:=(holds_sortWorld BO w blk 0 n d d' os hb.lt hH hp.1 j (by omega)).1
  rw[Nat.zero_add,getElem!_pos d' j (by omega)]at this
  rw[this]
  have hj':j<d'.toList.length:=by simpa [hd'] using hj
  simp[BO,List.getD_eq_getElem?_getD,hj',hd',hj]
end Go.Proofs.YtigaphnafnpfnaaGreatDoor
