import Derived.Test.YtigaphnafnpfnaaGreatDoorQVB2
import Derived.Laws.OwnMore
import Derived.Deep.QuietTactic
import Derived.BigQuiet
import Derived.BigRegion
import Derived.Deep.RegionWith
import Derived.Deep.LoopGhost
import Derived.Deep.RegionHeld3
import Derived.Deep.DrawnRows
import Derived.Test.YtigaphnafnpfnaaGreatDoorRows
import Derived.Test.YtigaphnafnpfnaaGreatDoorQVW
import Derived.Shelf.LaysM
import Derived.Shelf.Strconv.Itoa3
import Derived.Lib.ItoaLen
import Derived.Lib.AppendStr
import Derived.Deep.RegionLaw
import Derived.Deep.AppendLies
import Derived.Shelf.SlLaysF
import Derived.Shelf.SlSortCmp.Whole1
import Derived.Laws.AppendOwn
set_option linter.unusedVariables false
set_option linter.unusedSimpArgs false
set_option maxHeartbeats 8000000
set_option maxRecDepth 100000
namespace Go.Proofs.YtigaphnafnpfnaaGreatDoor
open Go.RowKit
attribute [local go_sem ↓] Go.wp_at_zero Go.wp_at_succ
section
variable {α : Type} (f : α → List Value) (k : Nat)
theorem og(hk:∀x,(f x).length=k):∀(l:List α) (i j:Nat) (x:α),l[i]?=some x→j<k→(l.flatMap f)[i * k+j]?=(f x)[j]?
 | [],i,j,x,h,_=>by simp at h
 | y :: l,0,j,x,h,hj=>by
   simp only[List.getElem?_cons_zero,Option.some.injEq]at h
   subst h
   rw[List.flatMap_cons,Nat.zero_mul,Nat.zero_add,List.getElem?_append_left (by rw[hk];exact hj)]
 | y :: l,i+1,j,x,h,hj=>by
   simp only[List.getElem?_cons_succ]at h
   have e:(i+1) * k+j-k=i * k+j:=by rw[Nat.add_mul];omega
   rw[List.flatMap_cons,List.getElem?_append_right (by rw[hk,Nat.add_mul];omega),hk,e]
   exact og hk l i j x h hj
theorem xM(hk:∀x,(f x).length=k):∀(l:List α) (i j:Nat) (x y:α) (u:Value),l[i]?=some x→j<k→f y=(f x).set j u→(l.flatMap f).set (i * k+j) u=(l.set i y).flatMap f
 | [],i,j,x,y,u,h,_,_=>by simp at h
 | z :: l,0,j,x,y,u,h,hj,e=>by
   simp only[List.getElem?_cons_zero,Option.some.injEq]at h
   subst h
   rw[List.flatMap_cons,Nat.zero_mul,Nat.zero_add,List.set_append_left _ _ (by rw[hk];exact hj),List.set_cons_zero,List.flatMap_cons,e]
 | z :: l,i+1,j,x,y,u,h,hj,e=>by
   simp only[List.getElem?_cons_succ]at h
   have e2:(i+1) * k+j-(f z).length=i * k+j:=by rw[Nat.add_mul,hk];omega
   rw[List.flatMap_cons,List.set_append_right _ _ (by rw[hk,Nat.add_mul];omega),e2,List.set_cons_succ,List.flatMap_cons,xM hk l i j x y u h hj e]
theorem uB(l:List α)(x:α):(l++[x]).flatMap f=l.flatMap f++f x:=by simp[List.flatMap_append]
end
def qJ(o:Ord):List Value:=[.int .i64 o.id,.int .i64 o.owner,.string o.sym,.int .i64 o.side,.int .i64 o.kind,.int .i64 o.price,.int .i64 o.qty,.int .i64 o.entered,.int .i64 o.opn,.int .i64 o.filled,.int .i64 o.aG,.int .i64 o.exp,.int .i64 o.place]
theorem yF(o:Ord):(qJ o).length=13:=rfl
def D5(g:Tg):List Value:=[.int .i64 g.t.num,.string g.t.sym,.int .i64 g.t.price,.int .i64 g.t.qty,.int .i64 g.t.jh,.int .i64 g.t.sell,.int .i64 g.t.day,.bool g.holds]
theorem DR(g:Tg):(D5 g).length=8:=rfl
def vM(l:List Ord):List Value:=l.flatMap qJ
def pO(l:List Tg):List Value:=l.flatMap D5
structure RS where
 sy:List ByteArray
 l:List Ord
 t:List Tg
 day:Int
 places:Int
 told:List Rc
structure SM where
 yv:Value
 lv:Value
 tv:Value
 ov:Value
structure bH(w:World)(base sb:Nat)(S:RS)(m:SM):Prop where
 ge:base≤sb
 blk:ai w sb #[m.yv,m.lv,m.tv,.int .i64 S.day,.int .i64 S.places,m.ov] 207
 jH:w.ownsRow base 9 1 m.yv S.sy.length (S.sy.map Value.string)
 bI:w.ownsRow base 212 13 m.lv S.l.length (vM S.l)
 dE:w.ownsRow base 210 8 m.tv S.t.length (pO S.t)
 jS:w.ownsRow base 62 9 m.ov S.told.length (dP S.told)
theorem bH.kept{w w':World}{base sb:Nat}{S:RS}{m:SM}(h:bH w base sb S m){K:Nat→Prop}(k:ag K w w')(hK:∀b,base≤b→b<w.heap.size→¬K b):bH w' base sb S m:=by
 have hr:∀{e size n:Nat} {v:Value} {xs:List Value},w.ownsRow base e size v n xs→w'.ownsRow base e size v n xs:=fun {e size n v xs} r=>au r k (fun b hb=>hK b (r.lt b hb).1 (r.lt b hb).2)
 exact⟨h.ge,k.blk h.blk (hK _ h.ge h.blk.lt),hr h.jH,hr h.bI,hr h.dE,hr h.jS⟩
theorem bH.aj{w w':World}{base sb:Nat}{S:RS}{m:SM}(h:bH w base sb S m)(k:ag ak w w'):bH w' base sb S m:=h.kept k (fun _ _ _ x=>x)
theorem az{w:World}{base e size n:Nat}{v:Value}{xs:List Value}(h:w.ownsRow base e size v n xs):∃a c,v=.slice a n c:=by
 rcases h.2 with⟨rfl,h0⟩ | ⟨g,cap,cs,rfl,_⟩
 ·exact⟨none,0,by rw[h0]⟩
 ·exact⟨_,cap,rfl⟩
theorem fH{w:World}{base e size n c:Nat}{a:Option Addr}{xs:List Value}(h:w.ownsRow base e size (.slice a n c) n xs)(hn:0<n):∃g,a=some ⟨g,0,none⟩∧base≤g:=by
 rcases h.2 with⟨_,h0⟩ | ⟨g,cap,cs,h1,hb,_⟩
 ·omega
 ·injection h1 with h1 _ _
  exact⟨g,h1,hb⟩
def ah(l:List Ord)(i:Nat):Ord:=l.getD i ⟨0,0,⟨#[]⟩,0,0,0,0,0,0,0,0,0,0⟩
theorem jr{l:List Ord}{i:Nat}(h:i<l.length):l[i]?=some (ah l i):=by
 unfold ah;rw[List.getD_eq_getElem?_getD,List.getElem?_eq_getElem h];rfl
theorem tN{l:List Ord}{i:Nat}{o:Ord}(h:l[i]?=some o):ah l i=o:=by
 unfold ah;rw[List.getD_eq_getElem?_getD,h];rfl
theorem bH.rY{w:World}{base sb c:Nat}{a:Option Addr}{S:RS}{m:SM}(h:bH w base sb S m)(hv:m.lv=.slice a S.l.length c){i:Nat}(hi:i<S.l.length):∃g,a=some ⟨g,0,none⟩∧base≤g∧(∀j u,(qJ (ah S.l i))[j]?=some u→w.cell? ⟨g,i * 13+j,none⟩=some u)∧∀j,w.frozen? ⟨g,j,none⟩=false:=by
 have r:=h.bI
 rw[hv]at r
 obtain⟨g,rfl,hg⟩:=fH r (by omega)
 refine⟨g,rfl,hg,fun j u hu=>?_,fun j=>r.frozenAt j⟩
 have hj:j<13:=by have:=(List.getElem?_eq_some_iff.1 hu).1;rw[yF]at this;exact this
 rw[r.cellAt _ (by omega)]
 exact (og qJ 13 yF S.l i j _ (jr hi) hj).trans hu
def oi:Option Nat→Int
 | some k=>k
 | none=>-1
theorem sD(n:Int)(w:World):Calls Tryz.prog 202 #[.int .i64 n] w fun e w'=>e=.returned (.bool (di n))∧w'=w:=by
 by_cases h1:n=0
 ·subst h1
  go_enter Tryz.func202,Tryz.ntmps202
  go_wp2
  go_ret
  exact⟨rfl,rfl⟩
 ·have e1:(n == 0)=false:=by simp[h1]
  by_cases h2:n=1
  ·subst h2
   go_enter Tryz.func202,Tryz.ntmps202
   go_wp2
   go_ret
   exact⟨rfl,rfl⟩
  ·have e2:(n == 1)=false:=by simp[h2]
   have HR:Hid (di n=(n == 4)):=by show _=_;simp[di,e1,e2]
   go_enter Tryz.func202,Tryz.ntmps202
   go_wp2
   go_ret
   exact⟨by rw[HR.out];rfl,rfl⟩
theorem PK(x y:ByteArray):(x.toList == y.toList)=decide (x=y):=by
 by_cases h:x=y
 ·subst h;simp
 ·rw[decide_eq_false h]
  simp only[beq_eq_false_iff_ne,ne_eq,ByteArray.toList_eq]
  intro e
  exact h (by cases x;cases y;simp at e;rw[e])
def iC(l:List ByteArray)(s:ByteArray):Bool:=l.any (fun x=>decide (x=s))
theorem Bh{l:List ByteArray}{s:ByteArray}{i:Nat}(h:l[i]?=some s):iC l s=true:=List.any_eq_true.2 ⟨s,List.mem_of_getElem? h,by simp⟩
theorem Jc{l:List ByteArray}{s:ByteArray}(h:∀i:Nat,i<l.length→l[i]?≠some s):iC l s=false:=by
 rw[iC,List.any_eq_false]
 intro x hx
 obtain⟨j,hj⟩:=List.getElem?_of_mem hx
 have:=h j (List.getElem?_eq_some_iff.1 hj).1
 simp only[decide_eq_true_eq]
 rintro rfl
 exact this hj
theorem iM(base sb:Nat)(S:RS)(m:SM)(s:ByteArray)(w:World)(h:bH w base sb S m)(hlen:S.sy.length≤1000) :
 Calls Tryz.prog 142 #[.pointer (some ⟨sb,0,none⟩),.string s] w fun e w'=>e=.returned (.bool (iC S.sy s))∧w'=w:=by
 obtain⟨n,hn⟩:∃n,S.sy.length=n:=⟨_,rfl⟩
 obtain⟨a,c,hv⟩:=az h.jH
 rw[hn]at hv hlen
 have v0:w.cell? ⟨sb,0,none⟩=some (.slice a n c):=by rw[←hv];exact h.blk.cell 0
 have HX:Hid (∀i,i<n→∃(g:Nat) (x:ByteArray),a=some ⟨g,0,none⟩∧w.cell? ⟨g,i,none⟩=some (.string x)∧S.sy[i]?=some x):=fun i hi=>by
  have r:=h.jH
  rw[hv,hn]at r
  obtain⟨g,rfl,_⟩:=fH r (by omega)
  have hi':i<S.sy.length:=by omega
  refine⟨g,S.sy[i],rfl,?_,List.getElem?_eq_getElem hi'⟩
  rw[r.cellAt i (by omega),List.getElem?_map,List.getElem?_eq_getElem hi'];rfl
 obtain⟨L,hL⟩:∃L,S.sy=L:=⟨_,rfl⟩
 rw[hL]at hn HX ⊢
 have HN:=hide hn
 clear h hv hL hn
 go_enter Tryz.func142,Tryz.ntmps142
 go_wp2
 go_loopg [5] n (fun k iv wr=>∃i:Nat,iv=.int .i64 (i:Int)∧i≤n∧k=n-i∧(∀j,j<i→L[j]?≠some s)∧wr=w)
 case atStart=>exact⟨0,rfl,Nat.zero_le _,rfl,fun j hj=>by omega,rfl⟩
 case round =>
  obtain⟨i,rfl,hi,hgk,hno,rfl⟩:=hrel
  have HO:=hide hno
  clear hno
  by_cases hlt:i<n
  ·obtain⟨g,x,rfl,hx,hxl⟩:=ae HX i hlt
   have HXL:=hide hxl
   clear hxl
   by_cases he:x=s
   ·subst he
    go_wp2
    go_ret
    exact⟨by rw[Bh (ae HXL)];rfl,rfl⟩
   ·have e1:(x.toList == s.toList)=false:=by rw[PK];simpa using he
    go_wp2
    go_roundg (n-(i+1))
    case measure=>omega
    case rel=>exact⟨i+1,by push_cast;rfl,by omega,rfl,fun j hj=>by
     by_cases hji:j=i
     ·subst hji;rw[ae HXL];intro e;exact he (Option.some.inj e)
     ·exact ae HO j (by omega),rfl⟩
  ·obtain rfl:i=n:=by omega
   go_wp2
   go_ret
   refine⟨?_,rfl⟩
   rw[Jc (fun j hj=>ae HO j (by rw[ae HN]at hj;exact hj))]
   rfl
def fK(l:List Ord)(id:Int):Option Nat:=l.findIdx? (fun o=>o.id == id)
theorem lT(base sb:Nat)(S:RS)(m:SM)(id:Int)(w:World)(h:bH w base sb S m)(hlen:S.l.length≤1000) :
 Calls Tryz.prog 141 #[.pointer (some ⟨sb,0,none⟩),.int .i64 id] w fun e w'=>e=.returned (.int .i64 (oi (fK S.l id)))∧w'=w:=by
 obtain⟨n,hn⟩:∃n,S.l.length=n:=⟨_,rfl⟩
 obtain⟨a,c,hv⟩:=az h.bI
 have HX:Hid (∀i,i<n→∃(g:Nat),a=some ⟨g,0,none⟩∧w.cell? ⟨g,i * 13,none⟩=some (.int .i64 (ah S.l i).id)):=fun i hi=>by
  obtain⟨g,e,_,hc,_⟩:=h.rY hv (i:=i) (by omega)
  exact⟨g,e,hc 0 _ rfl⟩
 rw[hn]at hv hlen
 have v1:w.cell? ⟨sb,1,none⟩=some (.slice a n c):=by rw[←hv];exact h.blk.cell 1
 obtain⟨L,hL⟩:∃L,S.l=L:=⟨_,rfl⟩
 rw[hL]at hn HX ⊢
 have HN:=hide hn
 clear h hv hL hn
 go_enter Tryz.func141,Tryz.ntmps141
 go_wp2
 go_loopg [5] n (fun k iv wr=>∃i:Nat,iv=.int .i64 (i:Int)∧i≤n∧k=n-i∧(∀j,j<i→(ah L j).id≠id)∧wr=w)
 case atStart=>exact⟨0,rfl,Nat.zero_le _,rfl,fun j hj=>by omega,rfl⟩
 case round =>
  obtain⟨i,rfl,hi,hgk,hno,rfl⟩:=hrel
  have HO:=hide hno
  clear hno
  by_cases hlt:i<n
  ·obtain⟨g,rfl,hx⟩:=ae HX i hlt
   by_cases he:(ah L i).id=id
   ·have e1:((ah L i).id == id)=true:=by simpa using he
    go_wp2
    go_ret
    refine⟨?_,rfl⟩
    have:fK L id=some i:=by
     unfold fK
     rw[List.findIdx?_eq_some_iff_getElem]
     have hi':i<L.length:=by rw[ae HN];exact hlt
     have g2:∀j (hj:j<L.length),L[j]=ah L j:=fun j hj=>by have:=jr hj;rw[List.getElem?_eq_getElem hj]at this;exact Option.some.inj this
     refine⟨hi',by rw[g2 i hi'];exact e1,fun j hj=>?_⟩
     rw[g2 j (by omega)]
     simpa using ae HO j hj
    rw[this];rfl
   ·have e1:((ah L i).id == id)=false:=by simpa using he
    go_wp2
    go_roundg (n-(i+1))
    case measure=>omega
    case rel=>exact⟨i+1,by push_cast;rfl,by omega,rfl,fun j hj=>by
     by_cases hji:j=i
     ·subst hji;exact he
     ·exact ae HO j (by omega),rfl⟩
  ·obtain rfl:i=n:=by omega
   go_wp2
   go_ret
   refine⟨?_,rfl⟩
   have:fK L id=none:=by
    unfold fK
    rw[List.findIdx?_eq_none_iff]
    intro x hx
    obtain⟨j,hj⟩:=List.getElem?_of_mem hx
    have hlt':=(List.getElem?_eq_some_iff.1 hj).1
    have:=ae HO j (by rw[ae HN]at hlt';exact hlt')
    rw[tN hj]at this
    simpa using this
   rw[this];rfl
open Go.Shelf
def CO:Go.Shelf.Ren:=⟨fun | 171=>115 | 243=>148 | 246=>174 | 283=>207 | 284=>208 | 285=>209 | 286=>210 | 129=>188 | 317=>226 | 318=>227 | 319=>228 | 320=>229 | 337=>237 | 338=>238 | n=>n,fun | 3=>3 | 9=>9 | 2=>2 | 4=>4 | 171=>268 | 0=>0 | 53=>253 | 37=>98 | 5=>5 | 173=>270 | 212=>287 | 51=>251 | 20=>20 | 213=>288 | 46=>223 | 232=>301 | 233=>302 | n=>n,fun | 17=>3 | 18=>6 | 19=>7 | n=>n⟩
theorem laysM171:Go.Proofs.LaysM.n171 Tryz.prog CO :=
 { mixed:=by kernel_rfl,f129:=Tryz.func188.trans (congrArg some (by kernel_rfl)),f171:=Tryz.func115.trans (congrArg some (by kernel_rfl)),f243:=Tryz.func148.trans (congrArg some (by kernel_rfl)),f246:=Tryz.func174.trans (congrArg some (by kernel_rfl)),f283:=Tryz.func207.trans (congrArg some (by kernel_rfl)),f284:=Tryz.func208.trans (congrArg some (by kernel_rfl)),f285:=Tryz.func209.trans (congrArg some (by kernel_rfl)),f286:=Tryz.func210.trans (congrArg some (by kernel_rfl)),f317:=Tryz.func226.trans (congrArg some (by kernel_rfl)),f318:=Tryz.func227.trans (congrArg some (by kernel_rfl)),f319:=Tryz.func228.trans (congrArg some (by kernel_rfl)),f320:=Tryz.func229.trans (congrArg some (by kernel_rfl)),f337:=Tryz.func237.trans (congrArg some (by kernel_rfl)),f338:=Tryz.func238.trans (congrArg some (by kernel_rfl)),t0:=Tryz.underlying0,a0:=Tryz.isAgg0,z0:=Tryz.sizeOf0,v0:=Tryz.zeroValue0,t2:=Tryz.underlying2,a2:=Tryz.isAgg2,z2:=Tryz.sizeOf2,v2:=Tryz.zeroValue2,t3:=Tryz.underlying3,a3:=Tryz.isAgg3,z3:=Tryz.sizeOf3,v3:=Tryz.zeroValue3,t4:=Tryz.underlying4,a4:=Tryz.isAgg4,z4:=Tryz.sizeOf4,v4:=Tryz.zeroValue4,t5:=Tryz.underlying5,a5:=Tryz.isAgg5,z5:=Tryz.sizeOf5,v5:=Tryz.zeroValue5,t9:=Tryz.underlying9,a9:=Tryz.isAgg9,z9:=Tryz.sizeOf9,v9:=Tryz.zeroValue9,t20:=Tryz.underlying20,a20:=Tryz.isAgg20,z20:=Tryz.sizeOf20,v20:=Tryz.zeroValue20,t37:=Tryz.underlying98,a37:=Tryz.isAgg98,z37:=Tryz.sizeOf98,v37:=Tryz.zeroValue98,t46:=Tryz.underlying223,a46:=Tryz.isAgg223,z46:=Tryz.sizeOf223,v46:=Tryz.zeroValue223,t51:=Tryz.underlying251,a51:=Tryz.isAgg251,z51:=Tryz.sizeOf251,v51:=Tryz.zeroValue251,t53:=Tryz.underlying253,a53:=Tryz.isAgg253,z53:=Tryz.sizeOf253,v53:=Tryz.zeroValue253,t171:=Tryz.underlying268,a171:=Tryz.isAgg268,z171:=Tryz.sizeOf268,v171:=Tryz.zeroValue268,t173:=Tryz.underlying270,a173:=Tryz.isAgg270,z173:=Tryz.sizeOf270,v173:=Tryz.zeroValue270,t212:=Tryz.underlying287,a212:=Tryz.isAgg287,z212:=Tryz.sizeOf287,v212:=Tryz.zeroValue287,t213:=Tryz.underlying288,a213:=Tryz.isAgg288,z213:=Tryz.sizeOf288,t232:=Tryz.underlying301,a232:=Tryz.isAgg301,z232:=Tryz.sizeOf301,v232:=Tryz.zeroValue301,t233:=Tryz.underlying302,a233:=Tryz.isAgg302,z233:=Tryz.sizeOf302,v233:=Tryz.zeroValue302,g17:=by kernel_rfl,g18:=by kernel_rfl,g19:=by kernel_rfl,i0:=by kernel_rfl,i2:=by kernel_rfl,i3:=by kernel_rfl,i4:=by kernel_rfl,i5:=by kernel_rfl,i9:=by kernel_rfl,i20:=by kernel_rfl,i37:=by kernel_rfl,i46:=by kernel_rfl,i51:=by kernel_rfl,i53:=by kernel_rfl,i171:=by kernel_rfl,i173:=by kernel_rfl,i212:=by kernel_rfl,i232:=by kernel_rfl,i233:=by kernel_rfl,m17:=by kernel_rfl,m18:=by kernel_rfl,m19:=by kernel_rfl }
def Tab (w : World) : Prop := Lib.TabIs Tryz.prog w "internal/strconv.uint64pow10" .u64 Lib.pow10Tab
def Bj:Nat:=3
theorem PR : Tryz.prog.globalNamed "internal/strconv.uint64pow10" = some Bj := by kernel_rfl
theorem Tab.kept{S:Nat→Prop}{w w':World}(h:Tab w)(k:ag S w w')(hS:¬S Bj):Tab w':=by
 unfold Tab Lib.TabIs World.var? at h ⊢
 rw[PR]at h ⊢
 simp only[Option.bind_some]at h ⊢
 have hlt:Bj<w.heap.size:=by
  rcases Nat.lt_or_ge Bj w.heap.size with h' | h'
  ·exact h'
  ·rw[Array.getElem?_eq_none h']at h;simp at h
 rw[k.block Bj hlt hS]
 exact h
theorem Tab.aj{w w':World}(h:Tab w)(k:ag ak w w'):Tab w':=h.kept k (fun x=>x)
theorem OC(n:Int)(h0:-9223372036854775808≤n)(h1:n≤9223372036854775807)(w:World)(hT:Tab w) :
 Calls Tryz.prog 115 #[.int .i64 n] w fun e w'=>e=.returned (.string ⟨(Lib.itoa n).toArray⟩)∧ag ak w w':=by
 refine (Any.strconv_Itoa laysM171 n h0 h1 w hT).mono ?_
 rintro e w' ⟨rfl,k,os,rfl⟩
 refine⟨rfl,rfl,rfl,rfl,?_,?_⟩
 ·show w.heap.size≤(w.heap++os).size
  rw[Array.size_append];omega
 ·intro j hj _
  show (w.heap++os)[j]?=w.heap[j]?
  rw[Array.getElem?_append_left hj]
def LC(n:Int):ByteArray:=⟨#[32]⟩++⟨(Lib.itoa n).toArray⟩
def fC(f:Nat→Int)(word:ByteArray):Nat→ByteArray
 | 0=>word
 | i+1=>fC f word i++LC (f i)
theorem LD(n:Int)(h0:-9223372036854775808≤n)(h1:n≤9223372036854775807):(LC n).size≤22:=by
 have:=Lib.itoa_length_le n h0 h1
 have e:(LC n).size=1+(Lib.itoa n).length:=by simp[LC,ByteArray.size_append];rfl
 omega
theorem iJ(f:Nat→Int)(word:ByteArray):∀k,(∀i,i<k→-9223372036854775808≤f i∧f i≤9223372036854775807)→(fC f word k).size≤word.size+22 * k
 | 0,_=>by simp[fC]
 | k+1,h=>by
   have h1:=iJ f word k (fun i hi=>h i (by omega))
   have h2:=LD (f k) (h k (by omega)).1 (h k (by omega)).2
   simp only[fC,ByteArray.size_append]
   omega
theorem UJ:∃i,Tryz.prog.info? 5=some i∧i.zero=some (.int .u8 0)∧i.size=1∧i.bytes=1:=by
 have h:(Tryz.prog.info? 5).map (fun i=>(i.zero,i.size,i.bytes))=some (some (.int .u8 0),1,1):=by kernel_rfl
 cases hi:Tryz.prog.info? 5 with
 | none=>rw[hi]at h;simp at h
 | some i =>
   rw[hi]at h
   simp at h
   exact⟨i,rfl,h.1,h.2.1,h.2.2⟩
theorem He{P:Program}(w:World)(t u ty e:TypeId)(i:TypeInfo)(ht:P.underlying t=some (.slice e))(hu:P.underlying u=some .string)(hi:P.info? e=some i)(hz:i.zero=some (.int .u8 0))(hsize:i.size=1)(hby:i.bytes=1)
 (v:Value) (n:Nat) (xs:List Value) (hown:w.ownsRow 0 e 1 v n xs) (s:ByteArray) (hs0:0<s.size) (hb:n+s.size≤1000000000) :
 ∃g cap w',(Builtin.append_ #[t,u] ty #[v,.string s]).run P w=.ok (.slice (some ⟨g,0,none⟩) (n+s.size) cap) w'∧w'.ownsRow 0 e 1 (.slice (some ⟨g,0,none⟩) (n+s.size) cap) (n+s.size) (xs++Lib.strCells s)∧w.grownBy w' v.ownBlock∧(v.ownBlock=some g∨g=w.heap.size):=by
 obtain⟨v',w',hr,h2,h3,h4⟩:=Lib.run_append_own_string (P:=P) w 0 t u ty e i ht hu hi hz hsize hby v n xs hown s (by unfold maxLen;omega) (by omega) (by omega)
 have hx:∃g cap,v'=.slice (some ⟨g,0,none⟩) (n+s.size) cap∧(v.ownBlock=some g∨g=w.heap.size):=by
  have hxl:xs.length=n:=by simpa using hown.1
  rcases hown.2 with⟨rfl,rfl⟩ | ⟨g,cap,cur,rfl,hbg,hg,hnc,hcm,hcs,htake⟩
  ·have hr2:=run_append_nil_string (P:=P) w t u ty e i (.int .u8 0) ht hu hi hz s hs0 (by omega) (by rw[hby];omega)
   rw[hr]at hr2
   injection hr2 with e1 _
   exact⟨_,_,by rw[e1,Nat.zero_add],.inr rfl⟩
  ·by_cases hroom:n+s.size≤cap
   ·have hr2:=Lib.run_append_room_string (P:=P) w t u ty e i ht hu hi hsize g n cap cur hg s hroom (by omega)
    rw[hr]at hr2
    injection hr2 with e1 _
    exact⟨_,_,e1,.inl rfl⟩
   ·have holds:∀j u,xs[j]?=some u→w.cell? ((⟨g,0,none⟩:Addr).add j)=some u:=World.ownsRow.cells (g:=g) ⟨hown.1,.inr ⟨g,cap,cur,rfl,hbg,hg,hnc,hcm,hcs,htake⟩⟩ rfl
    have hr2:=Lib.run_append_grow_string (P:=P) w t u ty e i (.int .u8 0) ht hu hi hz ⟨g,0,none⟩ n cap xs (by rw[hsize];simpa using hxl) holds s (by omega) (by omega) (by rw[hby];exact growslice_fits (by omega) (by omega))
    rw[hr]at hr2
    injection hr2 with e1 _
    exact⟨_,_,e1,.inr rfl⟩
 obtain⟨g,cap,rfl,hg⟩:=hx
 exact⟨g,cap,w',hr,h2,h3,hg⟩
theorem ug{P:Program}{w:World}{ops:Array Oper}{rest:List Oper}{o:Oper}{a:Act}{Q:Exit→Act→World→Prop}(hgd:o.guard=none)(sl x:Operand)(t u:TypeId)
 (ho:o.op=.call { callee:=.builtin .append,args:=#[sl,x],argTypes:=#[t,u] })
 (e:TypeId) (i:TypeInfo) (ht:P.underlying t=some (.slice e)) (hu:P.underlying u=some .string) (hi:P.info? e=some i) (hz:i.zero=some (.int .u8 0)) (hsize:i.size=1) (hby:i.bytes=1)
 (v:Value) (n:Nat) (xs:List Value) (hs:a.eval sl=v) (hown:w.ownsRow 0 e 1 v n xs) (s:ByteArray) (hx:a.eval x=.string s) (hs0:0<s.size) (hb:n+s.size≤1000000000)
 (h:∀g cap w',w'.ownsRow 0 e 1 (.slice (some ⟨g,0,none⟩) (n+s.size) cap) (n+s.size) (xs++Lib.strCells s)→w.grownBy w' v.ownBlock→(v.ownBlock=some g∨g=w.heap.size)→wpList P ops Q rest (a.put o.dst (.slice (some ⟨g,0,none⟩) (n+s.size) cap)) w'):wpList P ops Q (o :: rest) a w:=by
 refine wpList_plain hgd fun K hK=>?_
 obtain⟨g,cap,w',hr,h2,h3,h4⟩:=He (P:=P) w t u o.type e i ht hu hi hz hsize hby v n xs hown s hs0 hb
 unfold Oper.wp execOp
 simp only[ho,resolve,invoke,builtin,Sem.run_bind,Sem.run_pure,Result.andThen_ok,List.map_toArray,List.map_cons,List.map_nil,hs,hx,hr]
 exact hK _ _ (h g cap w' h2 h3 h4)
theorem AL{w:World}{base e size n:Nat}{v:Value}{xs:List Value}(h:w.ownsRow base e size v n xs):∃a c,v=.slice a n c:=by
 rcases h.2 with⟨h,h0⟩ | ⟨g,cap,cs,h,_⟩
 ·exact⟨none,0,by rw[h,h0]⟩
 ·exact⟨_,cap,h⟩
theorem eP.aaH{w w4:World}{bv bm bo:Nat}{G:Lg}{m:Lm}{q q' n:Nat}(h:eP w bv bm bo G m q)(k:ag (fun b=>m.jv.ownBlock=some b) w w4){jv:Value}{jn:List Value}(hn:jn.length=n)(hown:w4.ownsRow 0 5 1 jv n jn)(hq:n≤300 * q') :
 eP (w4.setCell ⟨bv,6,none⟩ jv) bv bm bo G { m with jv:=jv,jn:=jn } q'∧ag (fun b=>b=bv∨m.jv.ownBlock=some b) w (w4.setCell ⟨bv,6,none⟩ jv):=by
 subst hn
 have no:∀{b c t},ai w b c t→t≠5→¬(m.jv.ownBlock=some b):=fun hb ht e=>own_ne h.log.mJ e hb (fun e=>ht e.symm) rfl
 have b4:ai w4 bv (oM bm bo m G.day) 100:=k.blk h.cZ (no h.cZ (by decide))
 have k5:ag (fun b=>b=bv) w4 (w4.setCell ⟨bv,6,none⟩ jv):=(ag.refl (fun b=>b=bv) w4).setCell (p:=⟨bv,6,none⟩) (.inl rfl) _
 have kk:ag (fun b=>b=bv∨m.jv.ownBlock=some b) w (w4.setCell ⟨bv,6,none⟩ jv):=(k.mono (fun b e=>.inr e)).trans (k5.mono (fun b e=>.inl e))
 have Yi:∀{b c t},ai w b c t→t≠5→t≠100→¬(b=bv∨m.jv.ownBlock=some b):=by
  rintro b c t hb h5 h0 (e | e)
  ·exact ai.ne hb h.cZ h0 e
  ·exact no hb h5 e
 refine⟨⟨b4.set 6 _,?_⟩,kk⟩
 refine⟨au h.log.dE kk ?_,au h.log.fU kk ?_,h.log.len,fun i b g hi hg=>kk.blk (h.log.blk i b g hi hg) (Yi (h.log.blk i b g hi hg) (by decide) (by decide)),h.log.nodup,h.log.act.kept kk ?_,au hown k5 (fun b hb e=>own_ne hown hb b4 (by decide) e),hq⟩
 ·intro b hb
  obtain⟨cs,hc⟩:=ay h.log.dE hb
  exact Yi hc (by decide) (by decide)
 ·intro b hb
  obtain⟨cs,hc⟩:=ay h.log.fU hb
  exact Yi hc (by decide) (by decide)
 ·intro b hb
  obtain⟨cs,t,hc,ht⟩:=h.log.act.typ hb
  exact Yi hc (by rcases ht with rfl | rfl <;> decide) (by rcases ht with rfl | rfl <;> decide)
theorem write_any(bv bm bo:Nat)(G:Lg)(m:Lm)(q:Nat)(line:ByteArray)(w:World)(hL:eP w bv bm bo G m q)(hq:q<3000000)(h0:0<line.size)(hl:line.size≤290) :
 Calls Tryz.prog 44 #[.pointer (some ⟨bv,0,none⟩),.string line] w fun e w'=>e=.returned (.tuple #[]) ∧
  ∃jv jn,eP w' bv bm bo G { m with jv:=jv,jn:=jn } (q+1)∧(∀b,jv.ownBlock=some b→m.jv.ownBlock=some b∨w.heap.size≤b)∧ag (fun b=>b=bv∨m.jv.ownBlock=some b) w w':=by
 obtain⟨n,hn⟩:∃n,m.jn.length=n:=⟨_,rfl⟩
 have hrow:=hL.log.mJ
 have hjb:=hL.log.jb
 rw[hn]at hrow hjb
 obtain⟨pa,iL,Y5⟩:=AL hrow
 rw[Y5]at hrow
 have v6:w.cell? ⟨bv,6,none⟩=some (.slice pa n iL):=(hL.cZ.cell 6).trans (by rw[←Y5];rfl)
 have f6:=hL.cZ.frozen 6
 have lv:=hL.cZ.lt
 obtain⟨i0,hi0,hz0,hz1,hz2⟩:=UJ
 have hbd:n+line.size≤1000000000:=by omega
 have hmx:n+line.size+1≤maxLen:=by unfold maxLen;omega
 have ik:(n+line.size+1) * 1≤140737488355328:=by omega
 have HR:=hide hrow
 have HL:=hide hL
 have HJV:=hide Y5
 have HN:=hide hn
 have hnb:(Value.slice pa n iL).ownBlock≠some bv:=fun e=>own_ne hrow e hL.cZ (by decide) rfl
 have ZZ:=hide hnb
 have HB:=hide hL.cZ
 clear hrow hL Y5 hn hnb
 go_enter Tryz.func44,Tryz.ntmps44
 go_wp2_with (at_builtin;first
  | (refine ug rfl _ _ 98 9 rfl 5 i0 Tryz.underlying98 Tryz.underlying9 hi0 hz0 hz1 hz2 (.slice pa n iL) n _ rfl (ae HR) line rfl h0 hbd ?_;intro g cap w2 hown2 hgrow hat;have vk:=hide hown2;have HG2:=hide hgrow;have HA2:=hide hat;have b2:ai w2 bv (oM bm bo m G.day) 100:=(hgrow.block bv lv (fun e=>ae ZZ e.symm)).trans (ae HB);have HB2:=hide b2;clear hown2 hgrow hat b2)
  | (refine wpList_append_lies _ rfl _ _ 98 rfl 0 5 i0 (.int .u8 0) 1 1 Tryz.underlying98 hi0 hz0 hz1 hz2 rfl (by decide) (.slice (some ⟨g,0,none⟩) (n+line.size) cap) (n+line.size) _ rfl (au (ae vk) ((ag.refl ak w2).alloc _) (fun _ _ x=>x)) ⟨w2.heap.size,0,none⟩ 1 1 [.int .u8 10] rfl rfl (World.news_of_block (ai.new w2 #[.int .u8 10] 5)) (by simp[Value.oneCell']) (by omega) hmx ik (by omega) (w2.heap.size+1) (by simp) ?_;intro g4 cap4 w4 hown4 hgrow4 Xk hlt4;have Qm:=hide hown4;have Nb:=hide hgrow4;have DT:=hide Xk;have b4:ai w4 bv (oM bm bo m G.day) 100:=(hgrow4.block bv (((ae HB2).alloc _).lt) (fun e=>ai.ne (ae HB2) (ay (ae vk) (show (Value.slice (some ⟨g,0,none⟩) (n+line.size) cap).ownBlock=some bv from e.symm)).choose_spec (by decide) rfl)).trans ((ae HB2).alloc _);have v64:=b4.cell 6;have f64:=b4.frozen 6;simp only[oM]at v64;simp at v64;clear hown4 hgrow4 Xk b4))
 go_end0
 have hj:=ae HJV
 have k2:ag (fun b=>m.jv.ownBlock=some b) w w2:=(ag.refl _ w).grown (ae HG2) (fun k e=>.inl (by rw[hj];exact e))
 have k4:ag (fun b=>m.jv.ownBlock=some b) w w4:=(k2.alloc _).grown (ae Nb) (fun k e=>by
  simp only[Value.ownBlock,Option.some.injEq]at e
  subst e
  rcases ae HA2 with e | e
  ·exact .inl (by rw[hj];exact e)
  ·exact .inr (by omega))
 have o4:=ae Qm
 have hlen:((m.jn++Lib.strCells line)++[Value.int .u8 10]).length=n+line.size+1:=by have:=o4.1;omega
 have hs:=(ae HL).aaH k4 (q':=q+1) hlen o4 (by omega)
 refine⟨rfl,_,_,hs.1,?_,hs.2⟩
 intro b hb
 simp only[Value.ownBlock,Option.some.injEq]at hb
 subst hb
 rcases ae DT with e | e
 ·simp only[Value.ownBlock,Option.some.injEq]at e
  subst e
  rcases ae HA2 with e | e
  ·exact .inl (by rw[hj];exact e)
  ·exact .inr (by omega)
 ·have:=k2.size
  exact .inr (by omega)
theorem BI(w:World)(ty:TypeId)(a b:Option Addr)(n c m k:Nat):(Builtin.append_ #[109,108] ty #[.slice a n c,.slice b m k]).run Tryz.prog w=(Builtin.append_ #[109,109] ty #[.slice a n c,.slice b m k]).run Tryz.prog w:=by kernel_rfl
theorem XT:∃i,Tryz.prog.info? 1=some i∧i.zero=some .nilFunc∧i.size=1∧i.bytes=8:=by
 have h:(Tryz.prog.info? 1).map (fun i=>(i.zero,i.size,i.bytes))=some (some .nilFunc,1,8):=by kernel_rfl
 cases hi:Tryz.prog.info? 1 with
 | none=>rw[hi]at h;simp at h
 | some i=>rw[hi]at h;simp at h;exact⟨i,rfl,h.1,h.2.1,h.2.2⟩
theorem UC:∃i,Tryz.prog.info? 109=some i∧i.zero=some (.slice none 0 0)∧i.size=1∧i.bytes=24:=by
 have h:(Tryz.prog.info? 109).map (fun i=>(i.zero,i.size,i.bytes))=some (some (.slice none 0 0),1,24):=by kernel_rfl
 cases hi:Tryz.prog.info? 109 with
 | none=>rw[hi]at h;simp at h
 | some i=>rw[hi]at h;simp at h;exact⟨i,rfl,h.1,h.2.1,h.2.2⟩
theorem wJ{ops:Array Oper}{o:Oper}{a:Act}{K:Act→World→Prop}{Q:Exit→Act→World→Prop}{E:Prop}{w:World}(hgd:o.guard=none)(s x:Operand)
 (ho:o.op=.call { callee:=.builtin .append,args:=#[s,x],argTypes:=#[109,108] })
 (sa:Option Addr) (n sc:Nat) (xs:List Value) (hs:a.eval s=.slice sa n sc) (hown:w.ownsRow 0 1 1 (.slice sa n sc) n xs)
 (ad:Addr) (m c:Nat) (news:List Value) (hx:a.eval x=.slice (some ad) m c) (hl:news.length=m * 1) (hnews:∀j u,news[j]?=some u→w.cell? (ad.add j)=some u) (h1:∀u∈news,u.oneCell'=true)
 (hm:0<m) (hb:n+m≤2000000000) (H:Nat) (hH:w.heap.size=H)
 (h:∀g cap w',w'.ownsRow 0 1 1 (.slice (some ⟨g,0,none⟩) (n+m) cap) (n+m) (xs++news)→w.grownBy w' (Value.slice sa n sc).ownBlock→((Value.slice sa n sc).ownBlock=some g∨g=H)→g<w'.heap.size→K (a.put o.dst (.slice (some ⟨g,0,none⟩) (n+m) cap)) w') :
 if Region.wanted o (yielded ops a.tmps)=true then Oper.wp Tryz.prog o a w K Q else E:=by
 have hw:Region.wanted o (yielded ops a.tmps)=true:=by simp[Region.wanted,hgd]
 rw[if_pos hw]
 obtain⟨i,hi,hz,hsz,hby⟩:=XT
 obtain⟨g,cap,w',hr,h2,h3,h4,h5⟩:=run_append_lies (P:=Tryz.prog) w 109 o.type 0 1 i .nilFunc 1 8 Tryz.underlying109 hi hz hsz hby rfl (by decide) (.slice sa n sc) n xs hown ad m c news hl hnews h1 hm (by unfold maxLen;omega) (by omega) (by omega) H hH
 rw[←BI]at hr
 unfold Oper.wp execOp
 simp only[ho,resolve,invoke,builtin,Sem.run_bind,Sem.run_pure,Result.andThen_ok,List.map_toArray,List.map_cons,List.map_nil,hs,hx,hr]
 exact h g cap w' h2 h3 h4 h5
def Lg.begun(G:Lg):Lg:={ G with na:=G.na+1,nt:=[] }
def Lg.aS(G:Lg)(ds:List Back):Lg:={ G with nt:=G.nt++ds }
theorem FT{w:World}{base e size n:Nat}{v:Value}{xs:List Value}(h:w.ownsRow base e size v n xs):∃a c,v=.slice a n c:=AL h
theorem eP.QK{w1 w2:World}{bv bm bo:Nat}{G:Lg}{m:Lm}{q:Nat}(h:eP w1 bv bm bo G m q)(hq:q≤G.na+1){n H g cap:Nat}(hn:G.na=n)(hown:w2.ownsRow 0 109 1 (.slice (some ⟨g,0,none⟩) (n+1) cap) (n+1) (m.ac.map Prod.fst++[.slice none 0 0]))(hgrow:w1.grownBy w2 m.av.ownBlock)(hat:m.av.ownBlock=some g∨g=H)(hH:w1.heap.size=H) :
 aK (w2.setCell ⟨bv,5,none⟩ (.slice (some ⟨g,0,none⟩) (n+1) cap)) bv bm bo G.begun { m with av:=.slice (some ⟨g,0,none⟩) (n+1) cap,ac:=m.ac++[(.slice none 0 0,[])] } ∧
  (∀b,Lm.F { m with av:=.slice (some ⟨g,0,none⟩) (n+1) cap,ac:=m.ac++[(.slice none 0 0,[])] } b→m.F b∨H≤b)∧ag (fun b=>b=bv∨m.av.ownBlock=some b) w1 (w2.setCell ⟨bv,5,none⟩ (.slice (some ⟨g,0,none⟩) (n+1) cap)):=by
 have hb2:ai w2 bv (oM bm bo m G.day) 100:=(hgrow.block bv h.cZ.lt (fun e=>h.Hg (.inr (.inr (.inr (.inl e.symm)))))).trans h.cZ
 have k2:ag (fun b=>b=bv∨m.av.ownBlock=some b) w1 (w2.setCell ⟨bv,5,none⟩ (.slice (some ⟨g,0,none⟩) (n+1) cap)) :=
  ((ag.refl _ w1).grown hgrow (fun k e=>.inl (.inr e))).setCell (p:=⟨bv,5,none⟩) (.inl (.inl rfl)) _
 have k3:ag (fun b=>b=bv) w2 (w2.setCell ⟨bv,5,none⟩ (.slice (some ⟨g,0,none⟩) (n+1) cap)):=(ag.refl (fun b=>b=bv) w2).setCell (p:=⟨bv,5,none⟩) (.inl rfl) _
 have no:∀{b c t},ai w1 b c t→t≠100→t≠109→¬(b=bv∨m.av.ownBlock=some b):=by
  rintro b c t hb h0 h1 (e | e)
  ·exact ai.ne hb h.cZ h0 e
  ·exact own_ne h.log.act.row e hb (fun e=>h1 e.symm) rfl
 refine⟨⟨hb2.set 5 _,?_⟩,?_,k2⟩
 ·refine⟨au h.log.dE k2 ?_,au h.log.fU k2 ?_,h.log.len,fun i b g hi hg=>k2.blk (h.log.blk i b g hi hg) (no (h.log.blk i b g hi hg) (by decide) (by decide)),h.log.nodup,⟨?_,?_,?_,?_,?_⟩,au h.log.mJ k2 ?_,Nat.le_trans h.log.jb (Nat.mul_le_mul_left 300 hq)⟩
  ·intro b hb
   obtain⟨cs,hc⟩:=ay h.log.dE hb
   exact no hc (by decide) (by decide)
  ·intro b hb
   obtain⟨cs,hc⟩:=ay h.log.fU hb
   exact no hc (by decide) (by decide)
  ·have hl:(m.ac++[((.slice none 0 0:Value),([]:List Value))]).length=n+1:=by rw[List.length_append,h.log.act.len,hn];rfl
   simp only[hl,List.map_append,List.map_cons,List.map_nil]
   exact au hown k3 (fun b hb e=>own_ne hown hb hb2 (by decide) e)
  ·intro a ha
   rcases List.mem_append.1 ha with ha | ha
   ·refine au (h.log.act.own a ha) k2 (fun b hb=>?_)
    obtain⟨cs,hc⟩:=ay (h.log.act.own a ha) hb
    exact no hc (by decide) (by decide)
   ·simp only[List.mem_singleton]at ha
    subst ha
    exact World.ownsRow_nil _ _ _ _
  ·rw[List.filterMap_append]
   simpa [Value.ownBlock] using h.log.act.dis
  ·show _=G.na+1
   rw[List.length_append,h.log.act.len];rfl
  ·intro a ha
   rw[List.getLast?_append]at ha
   simp at ha
   rw[←ha]
   rfl
  ·intro b hb
   obtain⟨cs,hc⟩:=ay h.log.mJ hb
   exact no hc (by decide) (by decide)
 ·rintro b (hb | hb | hb | hb | ⟨a,ha,hb⟩)
  ·exact .inl (.inl hb)
  ·exact .inl (.inr (.inl hb))
  ·exact .inl (.inr (.inr (.inl hb)))
  ·simp only[Value.ownBlock,Option.some.injEq]at hb
   rcases hat with e | e
   ·exact .inl (.inr (.inr (.inr (.inl (by rw[e,hb])))))
   ·right;omega
  ·rcases List.mem_append.1 ha with ha | ha
   ·exact .inl (.inr (.inr (.inr (.inr ⟨a,ha,hb⟩))))
   ·simp only[List.mem_singleton]at ha
    subst ha
    simp[Value.ownBlock]at hb
theorem zY(bv bm bo:Nat)(G:Lg)(m:Lm)(line:ByteArray)(w:World)(hL:aK w bv bm bo G m)(hna:G.na<3000000)(h0:0<line.size)(hl:line.size≤290) :
 Calls Tryz.prog 51 #[.pointer (some ⟨bv,0,none⟩),.string line] w fun e w'=>e=.returned (.tuple #[]) ∧
  ∃m',aK w' bv bm bo G.begun m'∧(∀b,m'.F b→m.F b∨w.heap.size≤b)∧ag (fun b=>b=bv∨m.av.ownBlock=some b∨m.jv.ownBlock=some b) w w'∧m'.tb=m.tb:=by
 obtain⟨n,hn⟩:∃n,G.na=n:=⟨_,rfl⟩
 have hav:∃pa iL,m.av=.slice pa n iL:=by
  have hrow:=hL.log.act.row
  rw[hL.log.act.len,hn]at hrow
  exact FT hrow
 obtain⟨pa,iL,hav⟩:=hav
 obtain⟨i0,hi0,hz0,hz1,hz2⟩:=UC
 have hmx:n+1≤maxLen:=by unfold maxLen;omega
 have ik:(n+1) * 24≤140737488355328:=by omega
 have HWr:=hide (write_any bv bm bo G m G.na line w hL hna h0 hl)
 have HL:=hide hL
 have MH:=hide hav
 have HN:=hide hn
 clear hL hav hn
 go_enter Tryz.func51,Tryz.ntmps51
 go_wp2_with (first
  | (go_at_call 44;refine (ae HWr).mono ?_;rintro e wq ⟨rfl,jv,jn,hLq,hFq,hkq⟩;have YT:=hide hLq;have HFq:=hide hFq;have P7:=hide hkq;have v5:wq.cell? ⟨bv,5,none⟩=some (.slice pa n iL):=(hLq.cZ.cell 5).trans (by rw[←ae MH];rfl);have f5:=hLq.cZ.frozen 5;have lv:=hLq.cZ.lt;have hrow:wq.ownsRow 0 109 1 (.slice pa n iL) n (m.ac.map Prod.fst):=(by have hr:=hLq.log.act.row;simp only at hr;rw[hLq.log.act.len,ae HN,ae MH]at hr;exact hr);have HR:=hide hrow;clear hLq hFq hkq hrow)
  | (at_builtin;refine wpList_append_lies _ rfl _ _ 97 rfl 0 109 i0 (.slice none 0 0) 1 24 Tryz.underlying97 hi0 hz0 hz1 hz2 rfl (by decide) (.slice pa n iL) n _ rfl (au (ae HR) ((ag.refl ak wq).alloc _) (fun _ _ x=>x)) ⟨wq.heap.size,0,none⟩ 1 1 [.slice none 0 0] rfl rfl (World.news_of_block (ai.new wq #[.slice none 0 0] 109)) (by simp[Value.oneCell']) (by omega) hmx ik (by omega) (wq.heap.size+1) (by simp) ?_;intro g cap w2 hown2 hgrow hat hlt;have vk:=hide hown2;have HG2:=hide hgrow;have HA2:=hide hat;have b2:ai w2 bv (oM bm bo { m with jv:=jv,jn:=jn } G.day) 100:=(hgrow.block bv ((ae YT).cZ.alloc _).lt (fun e=>(ae YT).Hg (.inr (.inr (.inr (.inl (by show m.av.ownBlock=_;rw[ae MH];exact e.symm))))))).trans ((ae YT).cZ.alloc _);have v52:=b2.cell 5;have f52:=b2.frozen 5;simp only[oM]at v52;simp at v52;clear hown2 hgrow hat b2))
 go_end0
 have k1:ag ak wq (wq.alloc (.cells #[.slice none 0 0] 109)):=(ag.refl ak wq).alloc _
 have hg:=((ae YT).aj k1).QK (Nat.le_refl _) (ae HN) (ae vk) (by show World.grownBy _ w2 m.av.ownBlock;rw[ae MH];exact ae HG2) (by show m.av.ownBlock=_∨_;rw[ae MH];exact ae HA2) (by simp)
 have kq:=ae P7
 refine⟨rfl,_,hg.1,fun b hb=>?_,?_,rfl⟩
 ·rcases hg.2.1 b hb with h | h
  ·rcases h with h | (h | h) | h | h
   ·exact .inl (.inl h)
   ·exact .inl (.inr (.inl (.inl h)))
   ·exact (ae HFq b h).imp_left (fun h=>.inr (.inl (.inr h)))
   ·exact .inl (.inr (.inr (.inl h)))
   ·exact .inl (.inr (.inr (.inr h)))
  ·have:=kq.size
   exact .inr (by omega)
 ·exact (kq.mono (fun b h=>h.imp_right .inr)).trans ((k1.aC.trans hg.2.2).mono (fun b h=>h.imp_right .inl))
theorem zZ(bv bm bo:Nat)(G:Lg)(m:Lm)(line:ByteArray)(w:World)(hL:aK w bv bm bo G m)(hna:G.na<3000000)(h0:0<line.size)(hl:line.size≤290) :
 Calls Tryz.prog 51 #[.pointer (some ⟨bv,0,none⟩),.string line] w fun e w'=>e=.returned (.tuple #[]) ∧
  ∃m',aK w' bv bm bo G.begun m'∧(∀b,m'.F b→m.F b∨w.heap.size≤b)∧ag (fun b=>b=bv∨m.F b) w w':=by
 refine (zY bv bm bo G m line w hL hna h0 hl).mono ?_
 rintro e w' ⟨rfl,m',h1,h2,h3,_⟩
 exact⟨rfl,m',h1,h2,h3.mono (fun b h=>h.imp_right (fun h=>h.elim (fun h=>.inr (.inr (.inr (.inl h)))) (fun h=>.inr (.inl (.inr h)))))⟩
theorem PI{α:Type}(l:List α)(x y:α):(l++[x]).set l.length y=l++[y]:=by
 induction l with
 | nil=>rfl
 | cons a l ih=>simp only[List.cons_append,List.length_cons,List.set_cons_succ,ih]
theorem eP.Oa{w1 w2:World}{bv bm bo:Nat}{G:Lg}{m:Lm}(h:aK w1 bv bm bo G m){init:List (Value × List Value)}{hd:Value}{fs news:List Value}{ds:List Back}{n k ga Nr g cap c H:Nat}(hac:m.ac=init++[(hd,fs)])(hav:m.av=.slice (some ⟨ga,0,none⟩) n Nr)(hn:G.na=n)(hk:k+1=n)
 (hown:w2.ownsRow 0 1 1 (.slice (some ⟨g,0,none⟩) (fs.length+c) cap) (fs.length+c) (fs++news)) (hgrow:w1.grownBy w2 hd.ownBlock) (hat:hd.ownBlock=some g∨g=H) (hH:w1.heap.size=H) (hds:ds.length=c) :
 aK (w2.setCell ⟨ga,k,none⟩ (.slice (some ⟨g,0,none⟩) (fs.length+c) cap)) bv bm bo (G.aS ds) { m with ac:=init++[(.slice (some ⟨g,0,none⟩) (fs.length+c) cap,fs++news)] } ∧
  (∀b,Lm.F { m with ac:=init++[(.slice (some ⟨g,0,none⟩) (fs.length+c) cap,fs++news)] } b→m.F b∨H≤b)∧ag (fun b=>gm m.av m.ac b) w1 (w2.setCell ⟨ga,k,none⟩ (.slice (some ⟨g,0,none⟩) (fs.length+c) cap)) ∧
  (∀b,gm m.av (init++[(.slice (some ⟨g,0,none⟩) (fs.length+c) cap,fs++news)]) b→gm m.av m.ac b∨H≤b):=by
 have hA:=h.log.act
 have hlast:(hd,fs)∈m.ac:=by rw[hac];simp
 have hga:m.av.ownBlock=some ga:=by rw[hav];rfl
 have hlen:init.length=k:=by
  have:=hA.len
  rw[hac,hn,List.length_append]at this
  simp at this
  omega
 have hne:hd.ownBlock≠some ga:=fun e=>by
  obtain⟨cs,hc⟩:=ay (hA.own _ hlast) e
  exact own_ne hA.row hga hc (by decide) rfl
 have k2:ag (fun b=>b=ga∨hd.ownBlock=some b) w1 (w2.setCell ⟨ga,k,none⟩ (.slice (some ⟨g,0,none⟩) (fs.length+c) cap)) :=
  ((ag.refl _ w1).grown hgrow (fun k e=>.inl (.inr e))).setCell (p:=⟨ga,k,none⟩) (.inl (.inl rfl)) _
 have k3:ag (fun b=>b=ga) w2 (w2.setCell ⟨ga,k,none⟩ (.slice (some ⟨g,0,none⟩) (fs.length+c) cap)):=(ag.refl (fun b=>b=ga) w2).setCell (p:=⟨ga,k,none⟩) (.inl rfl) _
 have no:∀{b c t},ai w1 b c t→t≠109→t≠1→¬(b=ga∨hd.ownBlock=some b):=by
  rintro b c t hb h0 h1 (e | e)
  ·exact own_ne hA.row hga hb (fun e=>h0 e.symm) e.symm
  ·exact own_ne (hA.own _ hlast) e hb (fun e=>h1 e.symm) rfl
 have hdis:=hA.dis
 rw[hac,List.filterMap_append]at hdis
 have WZ:∀a,a∈init→∀b,a.1.ownBlock=some b→hd.ownBlock≠some b:=by
  intro a ha b hb e
  have h2:=(List.nodup_append.1 hdis).2.2
  exact h2 b (List.mem_filterMap.2 ⟨a,ha,hb⟩) b (by simp[e]) rfl
 have ltI:∀a,a∈init→∀b,a.1.ownBlock=some b→b<w1.heap.size:=by
  intro a ha b hb
  obtain⟨cs,hc⟩:=ay (hA.own a (by rw[hac];exact List.mem_append.2 (.inl ha))) hb
  exact hc.lt
 have WL:∀b,gm m.av (init++[(.slice (some ⟨g,0,none⟩) (fs.length+c) cap,fs++news)]) b→gm m.av m.ac b∨H≤b:=by
  rintro b (hb | ⟨a,ha,hb⟩)
  ·exact .inl (.inl hb)
  ·rcases List.mem_append.1 ha with ha | ha
   ·exact .inl (.inr ⟨a,by rw[hac];exact List.mem_append.2 (.inl ha),hb⟩)
   ·simp only[List.mem_singleton]at ha
    subst ha
    simp only[Value.ownBlock,Option.some.injEq]at hb
    subst hb
    rcases hat with e | e
    ·exact .inl (.inr ⟨_,hlast,e⟩)
    ·right;omega
 refine⟨⟨k2.blk h.cZ (no h.cZ (by decide) (by decide)),?_⟩,?_,k2.mono (fun b hb=>by
  rcases hb with e | e
  ·subst e;exact .inl hga
  ·exact .inr ⟨_,hlast,e⟩),?_⟩
 ·refine⟨au h.log.dE k2 ?_,au h.log.fU k2 ?_,h.log.len,fun i b g hi hg=>k2.blk (h.log.blk i b g hi hg) (no (h.log.blk i b g hi hg) (by decide) (by decide)),h.log.nodup,⟨?_,?_,?_,?_,?_⟩,au h.log.mJ k2 ?_,h.log.jb⟩
  ·intro b hb
   obtain⟨cs,hc⟩:=ay h.log.dE hb
   exact no hc (by decide) (by decide)
  ·intro b hb
   obtain⟨cs,hc⟩:=ay h.log.fU hb
   exact no hc (by decide) (by decide)
  ·have hr:=hA.row
   rw[hA.len,hn]at hr
   have hl:(init++[((.slice (some ⟨g,0,none⟩) (fs.length+c) cap:Value),fs++news)]).length=n:=by rw[List.length_append,hlen];exact hk
   rcases hr.2 with⟨e,_⟩ | ⟨g',cap',cur,e,h0,hg,h1,h2,h3,h4⟩
   ·rw[hav]at e;simp at e
   ·rw[hav]at e
    simp only[Value.slice.injEq,Option.some.injEq,Addr.mk.injEq]at e
    obtain⟨⟨e1,_⟩,_,e2⟩:=e
    subst e1 e2
    have hb2:ai w2 ga cur 109:=(hgrow.block ga (ai.lt hg) (fun e=>hne e.symm)).trans hg
    have hb3:=hb2.set k (.slice (some ⟨g,0,none⟩) (fs.length+c) cap)
    rw[hl]
    refine⟨by simp only[List.length_map,hl];omega,.inr ⟨ga,Nr,_,hav,h0,hb3,h1,h2,by rw[Array.size_setIfInBounds];exact h3,?_⟩⟩
    rw[Array.toList_setIfInBounds,List.take_set,h4,hac]
    simp only[List.map_append,List.map_cons,List.map_nil]
    have:k=(init.map Prod.fst).length:=by rw[List.length_map,hlen]
    rw[this]
    exact PI _ _ _
  ·intro a ha
   rcases List.mem_append.1 ha with ha | ha
   ·have hm:a∈m.ac:=by rw[hac];exact List.mem_append.2 (.inl ha)
    refine au (hA.own a hm) k2 ?_
    rintro b hb (e | e)
    ·obtain⟨cs,hc⟩:=ay (hA.own a hm) hb
     subst e
     exact own_ne hA.row hga hc (by decide) rfl
    ·exact WZ a ha b hb e
   ·simp only[List.mem_singleton]at ha
    subst ha
    have e:(fs++news).length=fs.length+c:=by have:=hown.1;omega
    simp only[e]
    refine au hown k3 (fun b hb e=>?_)
    simp only[Value.ownBlock,Option.some.injEq]at hb
    subst hb
    subst e
    obtain⟨cs,hc⟩:=ay hA.row hga
    have hb2:ai w2 g cs 109:=(hgrow.block g hc.lt (fun e=>hne e.symm)).trans hc
    exact own_ne hown rfl hb2 (by decide) rfl
  ·rw[List.filterMap_append,List.nodup_append]
   refine⟨(List.nodup_append.1 hdis).1,by simp[Value.ownBlock],?_⟩
   intro x hx y hy e
   simp[Value.ownBlock]at hy
   subst hy
   subst e
   obtain⟨a,ha,hb⟩:=List.mem_filterMap.1 hx
   rcases hat with e | e
   ·exact WZ a ha _ hb e
   ·have:=ltI a ha _ hb;omega
  ·have:init.length+1=n:=by omega
   simpa [hn,Lg.aS] using this
  ·intro a ha
   simp at ha
   subst ha
   have h1:=hA.last (hd,fs) (by rw[hac];simp)
   simp only at h1
   have:=hown.1
   simp only[Lg.aS,List.length_append]at this ⊢
   omega
  ·intro b hb
   obtain⟨cs,hc⟩:=ay h.log.mJ hb
   exact no hc (by decide) (by decide)
 ·rintro b (hb | hb | hb | hb)
  ·exact .inl (.inl hb)
  ·exact .inl (.inr (.inl hb))
  ·exact .inl (.inr (.inr (.inl hb)))
  ·exact (WL b hb).imp_left (fun h=>.inr (.inr (.inr h)))
 ·exact WL
theorem vU{α:Type}:∀l:List α,0<l.length→∃i x,l=i++[x]
 | [],h=>absurd h (by simp)
 | [x],_=>⟨[],x,rfl⟩
 | a :: b :: l,_=>by
   obtain⟨i,x,e⟩:=vU (b :: l) (by simp)
   exact⟨a :: i,x,by rw[e];rfl⟩
theorem FI(bv bm bo:Nat)(G:Lg)(m:Lm)(ds:List Back)(news:List Value)(sb c kc:Nat)(w:World)(hL:aK w bv bm bo G m)(hna:0<G.na)(fF:G.na≤3000000)(hnf:G.nt.length+c<1000000000)(hc:0<c)(hds:ds.length=c)(hl:news.length=c)(hnews:∀j u,news[j]?=some u→w.cell? ((⟨sb,0,none⟩:Addr).add j)=some u)(hone:∀u∈news,u.oneCell'=true) :
 Calls Tryz.prog 53 #[.pointer (some ⟨bv,0,none⟩),.slice (some ⟨sb,0,none⟩) c kc] w fun e w'=>e=.returned (.tuple #[]) ∧
  ∃m',aK w' bv bm bo (G.aS ds) m'∧(∀b,m'.F b→m.F b∨w.heap.size≤b)∧ag (fun b=>gm m.av m.ac b) w w'∧(∀b,gm m'.av m'.ac b→gm m.av m.ac b∨w.heap.size≤b):=by
 obtain⟨n,hn⟩:∃n,G.na=n:=⟨_,rfl⟩
 have hA:=hL.log.act
 obtain⟨init,⟨hd,fs⟩,hac⟩:=vU m.ac (by rw[hA.len];exact hna)
 have hlen:=hA.len
 rw[hac,List.length_append,hn]at hlen
 simp at hlen
 obtain⟨k,hk⟩:∃k,k+1=n:=⟨init.length,hlen⟩
 have hrow:=hA.row
 rw[hA.len,hn]at hrow
 obtain⟨ga,Nr,hav,_,hga⟩:=hrow.form (by omega)
 rcases hrow.2 with⟨e,_⟩ | ⟨g',cap',cur,e,h0,hg,h1,h2,h3,h4⟩
 ·rw[hav]at e;simp at e
 have ee:=hav.symm.trans e
 simp only[Value.slice.injEq,Option.some.injEq,Addr.mk.injEq]at ee
 obtain⟨⟨e1,_⟩,_,e2⟩:=ee
 subst e1 e2
 have hfs:=hA.last (hd,fs) (by rw[hac];simp)
 simp only at hfs
 have hown:=hA.own (hd,fs) (by rw[hac];simp)
 simp only at hown
 obtain⟨ha,hcap,hhd⟩:=FT hown
 rw[hfs]at hhd
 obtain⟨q,hq⟩:∃q,fs.length=q:=⟨_,rfl⟩
 rw[hq]at hown hfs
 rw[←hfs]at hhd
 rw[hhd]at hown
 have hB:ai w ga cur 109:=hg
 have hcell:cur[k]?=some hd:=by
  have:cur.toList.take (n * 1)=init.map Prod.fst++[hd]:=by rw[h4,hac];simp
  have h5:(cur.toList.take (n * 1))[k]?=some hd:=by
   rw[this]
   have e:k=(init.map Prod.fst).length:=by rw[List.length_map];omega
   rw[e];simp
  rw[List.getElem?_take_of_lt (by omega)]at h5
  simpa using h5
 have cK:w.cell? ⟨ga,k,none⟩=some (.slice ha q hcap):=by rw[hB.cell k,hcell,hhd]
 have v5:w.cell? ⟨bv,5,none⟩=some (.slice (some ⟨ga,0,none⟩) n Nr):=(hL.cZ.cell 5).trans (by rw[←hav];rfl)
 have hkn:k<n:=by omega
 have hki:(n:Int)-1=(k:Int):=by omega
 have hkw:wrap64 (k:Int)=(k:Int):=by unfold wrap64;omega
 have hnd:(Value.slice ha q hcap).ownBlock≠some ga:=fun e=>by
  obtain⟨cs,hc⟩:=ay hown e
  exact ai.ne hc hB (by decide) rfl
 have hnv:(Value.slice ha q hcap).ownBlock≠some bv:=fun e=>by
  obtain⟨cs,hc⟩:=ay hown e
  exact ai.ne hc hL.cZ (by decide) rfl
 have HNv:=hide hnv
 clear hnv
 have HOn:=hide hown
 have HNw:=hide hnews
 have HL:=hide hL
 have HB:=hide hB
 have VS:=hide (show cur[k]?=some (.slice ha q hcap) by rw[hcell,hhd])
 have HAC:=hide hac
 have MH:=hide hav
 have HN:=hide hn
 have HK:=hide hk
 have HHd:=hide hhd
 have HQ:=hide hq
 have Z9:=hide hone
 have HNd:=hide hnd
 have HLn:=hide hl
 have hv:=hide hL.cZ
 have lv:=hL.cZ.lt
 have hnb:q+c≤2000000000:=by omega
 clear hown hnews hL hB hcell hac hav hn hk hhd hq hone hnd hg hA hlen hrow h0 h1 h2 h3 h4 e hfs hl hnf
 go_enter Tryz.func53,Tryz.ntmps53
 go_wp2
 go_region_law (first | (refine wJ rfl (.tmp 22) (.tmp 23) rfl ha q hcap fs rfl (ae HOn) ⟨sb,0,none⟩ c kc news rfl (by rw[ae HLn];omega) (ae HNw) (ae Z9) hc hnb w.heap.size rfl ?_;intro g cap w2 hown2 hgrow hat hlt;have vk:=hide hown2;have HG2:=hide hgrow;have HA2:=hide hat;have b2:ai w2 ga cur 109:=(hgrow.block ga hga (fun e=>ae HNd e.symm)).trans (ae HB);have c2:w2.cell? ⟨ga,k,none⟩=some (.slice ha q hcap):=(b2.cell k).trans (ae VS);have f2:=b2.frozen k;have v52:w2.cell? ⟨bv,5,none⟩=some (.slice (some ⟨ga,0,none⟩) n Nr):=(World.cell?_of_block (a:=⟨bv,5,none⟩) (hgrow.block bv lv (fun e=>ae HNv e.symm))).trans v5;clear hown2 hgrow hat b2))
 all_goals
  go_end0
  have hh:=ae HHd
  have hg:=((ae HL).aj (ag.refl ak w).drew).Oa (ds:=ds) (c:=c) (fs:=fs) (news:=news) (ae HAC) (ae MH) (ae HN) (ae HK) (by rw[ae HQ];exact ae vk) (by rw[hh];exact ae HG2) (by rw[hh];exact ae HA2) rfl hds
  rw[ae HQ]at hg
  exact⟨rfl,_,hg.1,hg.2.1,(ag.refl _ w).drew.trans hg.2.2.1,hg.2.2.2⟩
theorem note_any(bv bm bo:Nat)(G:Lg)(m:Lm)(ds:List Back)(news:List Value)(sb c kc:Nat)(w:World)(hL:aK w bv bm bo G m)(hna:0<G.na)(fF:G.na≤3000000)(hnf:G.nt.length+c<1000000000)(hc:0<c)(hds:ds.length=c)(hl:news.length=c)(hnews:∀j u,news[j]?=some u→w.cell? ((⟨sb,0,none⟩:Addr).add j)=some u)(hone:∀u∈news,u.oneCell'=true) :
 Calls Tryz.prog 53 #[.pointer (some ⟨bv,0,none⟩),.slice (some ⟨sb,0,none⟩) c kc] w fun e w'=>e=.returned (.tuple #[]) ∧
  ∃m',aK w' bv bm bo (G.aS ds) m'∧(∀b,m'.F b→m.F b∨w.heap.size≤b)∧ag (fun b=>m.F b) w w':=by
 refine (FI bv bm bo G m ds news sb c kc w hL hna fF hnf hc hds hl hnews hone).mono ?_
 rintro e w' ⟨rfl,m',h1,h2,h3,-⟩
 exact⟨rfl,m',h1,h2,h3.mono (fun b h=>.inr (.inr (.inr h)))⟩
theorem OD(n:Int)(h0:-9223372036854775808≤n)(h1:n≤9223372036854775807)(w:World)(hT:Tab w) :
 Calls Tryz.prog 115 #[.int .i64 n] w fun e w'=>∃s:ByteArray,e=.returned (.string s)∧s.size≤21∧(⟨#[32]⟩++s:ByteArray)=LC n∧ag ak w w':=by
 refine (OC n h0 h1 w hT).mono ?_
 rintro e w' ⟨rfl,k⟩
 refine⟨_,rfl,?_,rfl,k⟩
 have:=Lib.itoa_length_le n h0 h1
 have e:(ByteArray.mk (Lib.itoa n).toArray).size=(Lib.itoa n).length:=by show (Lib.itoa n).toArray.size=_;simp
 omega
theorem dV{P:Program}(a b:ByteArray)(h:a.size+b.size≤1000000)(W:World):(Op.stringOp .add a b).run P W=.ok (.string (a++b)) W:=run_string_add_sum W _ _ (by omega)
theorem oq(word:ByteArray)(f:Nat→Int)(sb m cap:Nat)(w:World)(hT:Tab w)(hm:m≤100)(hw:word.size≤1000)
 (hc:∀i,i<m→w.cell? ⟨sb,i,none⟩=some (.int .i64 (f i))) (hf:∀i,i<m→-9223372036854775808≤f i∧f i≤9223372036854775807) :
 Calls Tryz.prog 65 #[.string word,.slice (some ⟨sb,0,none⟩) m cap] w fun e w'=>e=.returned (.string (fC f word m))∧ag ak w w':=by
 have HT:=hide hT
 have HC:=hide hc
 have HF:=hide hf
 clear hT hc hf
 go_enter Tryz.func65,Tryz.ntmps65
 go_wp2
 go_loopg [0,6,9] m (fun k sv _ iv wr=>∃i:Nat,iv=.int .i64 (i:Int)∧i≤m∧k=m-i∧sv=.string (fC f word i)∧ag ak w wr)
 case atStart=>exact⟨0,rfl,Nat.zero_le _,rfl,rfl,ag.refl _ _⟩
 case round =>
  obtain⟨i,rfl,hi,hgk,rfl,hc⟩:=hrel
  by_cases hin:i<m
  ·have hcell:wr.cell? ⟨sb,i,none⟩=some (.int .i64 (f i)):=hc.cell (ae HC i hin) (fun x=>x)
   have hb:=ae HF i hin
   have HTr:=hide ((ae HT).aj hc)
   have HK:=hide hc
   clear hc
   have hls:(fC f word i).size≤10000:=by
    have:=iJ f word i (fun j hj=>ae HF j (by omega))
    omega
   have HX:Hid (fC f word (i+1)=fC f word i++LC (f i)):=rfl
   generalize hv:f i=v at *
   generalize hsw:fC f word i=sw at *
   clear hv hsw
   go_wp2_with (go_at_call 115;refine (OD v hb.1 hb.2 _ (ae HTr)).mono ?_;rintro e w' ⟨s,rfl,hs1,hs2,hk⟩;have jC:=hide hk;have HS2:=hide hs2;clear hk hs2;have c1:=dV (P:=Tryz.prog) ⟨#[32]⟩ s (by show 1+s.size≤1000000;omega);have c2:=dV (P:=Tryz.prog) sw (⟨#[32]⟩++s) (by rw[ByteArray.size_append];show sw.size+(1+s.size)≤1000000;omega))
   go_roundg (m-(i+1))
   case measure=>omega
   case rel=>exact⟨i+1,by push_cast;rfl,by omega,rfl,by rw[ae HX,ae HS2],(ae HK).trans (ae jC)⟩
  ·obtain rfl:i=m:=by omega
   go_wp2
   go_ret
   exact⟨rfl,hc⟩
end Go.Proofs.YtigaphnafnpfnaaGreatDoor
namespace Go.Proofs.YtigaphnafnpfnaaGreatDoor
def recs:List Rc→List Rc→List Rc
 | R,[]=>R
 | R,r :: t=>recs (R++[{ r with num:=(R.length:Int)+1 }]) t
theorem uO:∀(R t:List Rc) (r:Rc),recs R (t++[r])=recs R t++[{ r with num:=((recs R t).length:Int)+1 }]
 | R,[],r=>rfl
 | R,x :: t,r=>by show recs _ (t++[r])=recs _ t++_;rw[uO];rfl
theorem F8:∀(R t:List Rc),(recs R t).length=R.length+t.length
 | R,[]=>rfl
 | R,x :: t=>by show (recs _ t).length=_;rw[F8];simp;omega
open Go.Shelf
def L8:Go.Shelf.Ren:=⟨fun | 6=>128 | 15=>158 | 14=>157 | 28=>187 | 29=>188 | 20=>179 | 21=>180 | 22=>181 | 23=>182 | 24=>183 | 25=>184 | 26=>185 | 27=>186 | 46=>213 | 47=>214 | 48=>215 | 49=>216 | 50=>217 | 57=>230 | n=>n,fun | 22=>150 | 24=>114 | 25=>159 | 3=>3 | 39=>223 | 0=>0 | 53=>251 | 55=>253 | 4=>4 | 46=>244 | 45=>243 | 50=>248 | 5=>5 | 9=>9 | 66=>273 | 70=>277 | 76=>289 | 77=>262 | n=>n,fun | n=>n⟩
theorem Yz:Go.Proofs.SlLaysF.n6 Tryz.prog L8 :=
 { mixed:=by kernel_rfl,f6:=⟨Tryz.f128.name,by decide,Tryz.func128.trans (congrArg some (by kernel_rfl))⟩,f14:=⟨Tryz.f157.name,by decide,Tryz.func157.trans (congrArg some (by kernel_rfl))⟩,f15:=Tryz.func158.trans (congrArg some (by kernel_rfl)),f20:=⟨Tryz.f179.name,by decide,Tryz.func179.trans (congrArg some (by kernel_rfl))⟩,f21:=⟨Tryz.f180.name,by decide,Tryz.func180.trans (congrArg some (by kernel_rfl))⟩,f22:=⟨Tryz.f181.name,by decide,Tryz.func181.trans (congrArg some (by kernel_rfl))⟩,f23:=⟨Tryz.f182.name,by decide,Tryz.func182.trans (congrArg some (by kernel_rfl))⟩,f24:=⟨Tryz.f183.name,by decide,Tryz.func183.trans (congrArg some (by kernel_rfl))⟩,f25:=⟨Tryz.f184.name,by decide,Tryz.func184.trans (congrArg some (by kernel_rfl))⟩,f26:=⟨Tryz.f185.name,by decide,Tryz.func185.trans (congrArg some (by kernel_rfl))⟩,f27:=⟨Tryz.f186.name,by decide,Tryz.func186.trans (congrArg some (by kernel_rfl))⟩,f28:=Tryz.func187.trans (congrArg some (by kernel_rfl)),f29:=Tryz.func188.trans (congrArg some (by kernel_rfl)),f46:=⟨Tryz.f213.name,by decide,Tryz.func213.trans (congrArg some (by kernel_rfl))⟩,f47:=Tryz.func214.trans (congrArg some (by kernel_rfl)),f48:=Tryz.func215.trans (congrArg some (by kernel_rfl)),f49:=⟨Tryz.f216.name,by decide,Tryz.func216.trans (congrArg some (by kernel_rfl))⟩,f50:=⟨Tryz.f217.name,by decide,Tryz.func217.trans (congrArg some (by kernel_rfl))⟩,f57:=⟨Tryz.f230.name,by decide,Tryz.func230.trans (congrArg some (by kernel_rfl))⟩,t0:=Tryz.underlying0,a0:=Tryz.isAgg0,z0:=Tryz.sizeOf0,v0:=Tryz.zeroValue0,t3:=Tryz.underlying3,a3:=Tryz.isAgg3,z3:=Tryz.sizeOf3,v3:=Tryz.zeroValue3,t4:=Tryz.underlying4,a4:=Tryz.isAgg4,z4:=Tryz.sizeOf4,v4:=Tryz.zeroValue4,t5:=Tryz.underlying5,a5:=Tryz.isAgg5,z5:=Tryz.sizeOf5,v5:=Tryz.zeroValue5,t9:=Tryz.underlying9,a9:=Tryz.isAgg9,z9:=Tryz.sizeOf9,v9:=Tryz.zeroValue9,t22:=Tryz.underlying150,a22:=Tryz.isAgg150,z22:=Tryz.sizeOf150,v22:=Tryz.zeroValue150,a24:=Tryz.isAgg114,z24:=Tryz.sizeOf114,t25:=Tryz.underlying159,a25:=Tryz.isAgg159,z25:=Tryz.sizeOf159,v25:=Tryz.zeroValue159,t39:=Tryz.underlying223,a39:=Tryz.isAgg223,z39:=Tryz.sizeOf223,v39:=Tryz.zeroValue223,t45:=Tryz.underlying243,a45:=Tryz.isAgg243,z45:=Tryz.sizeOf243,v45:=Tryz.zeroValue243,t46:=Tryz.underlying244,a46:=Tryz.isAgg244,z46:=Tryz.sizeOf244,v46:=Tryz.zeroValue244,t50:=Tryz.underlying248,a50:=Tryz.isAgg248,z50:=Tryz.sizeOf248,v50:=Tryz.zeroValue248,t53:=Tryz.underlying251,a53:=Tryz.isAgg251,z53:=Tryz.sizeOf251,v53:=Tryz.zeroValue251,t55:=Tryz.underlying253,a55:=Tryz.isAgg253,z55:=Tryz.sizeOf253,v55:=Tryz.zeroValue253,t66:=Tryz.underlying273,a66:=Tryz.isAgg273,z66:=Tryz.sizeOf273,v66:=Tryz.zeroValue273,t70:=Tryz.underlying277,a70:=Tryz.isAgg277,z70:=Tryz.sizeOf277,v70:=Tryz.zeroValue277,t76:=Tryz.underlying289,a76:=Tryz.isAgg289,z76:=Tryz.sizeOf289,v76:=Tryz.zeroValue289,t77:=Tryz.underlying262,a77:=Tryz.isAgg262,z77:=Tryz.sizeOf262,v77:=Tryz.zeroValue262 }
end Go.Proofs.YtigaphnafnpfnaaGreatDoor
namespace Go.Proofs.YtigaphnafnpfnaaGreatDoor
open Go.RowKit Go.Sort
attribute [local go_sem ↓] Go.wp_at_zero Go.wp_at_succ
theorem DI(blk cap len:Nat)(f:Nat→Nat)(om:Nat→Ord)(s:Int)(w:World)(h0:0<len)(hlen:len≤100000)(hl:∀j,j<len→MM w om s (f j))(cs:Array Value)(hb:ai w blk cs 114)(hc:∀j,j<len→cs[j]?=some (qM (f j))) :
 Calls Tryz.prog 128 #[.slice (some ⟨blk,0,none⟩) len cap,.func (.func 83) #[] #[]] w fun e w'=>e=.returned (.tuple #[]) ∧
  ∃ys:List Nat,ys.Perm (upto f len)∧ys.Pairwise (fun a b=>dW om b a=false)∧(∀j,j<len→w'.cell? ⟨blk,j,none⟩=some (qM (ys.getD j 0)))∧ag (fun x=>x=blk) w w':=by
 let inh:Inhabited { x:Nat // MM w om s x }:=⟨⟨f 0,hl 0 h0⟩⟩
 obtain⟨d,hd,hdf⟩:∃d:Array { x:Nat // MM w om s x },d.size=len∧∀j,j<len→(d[j]!).1=f j:=by
  refine⟨Array.ofFn (n:=len) (fun j=>⟨f j,hl j j.2⟩),by simp,fun j hj=>?_⟩
  rw[getElem!_pos _ j (by simpa using hj)]
  simp
 have hH:Holds BO w blk 0 d:=by
  intro j hj
  rw[hd]at hj
  rw[Nat.zero_add]
  refine⟨(hb.cell j).trans ((hc j hj).trans ?_),hb.frozen j⟩
  unfold BO
  rw[hdf j hj]
 have eg:∀args w,(callFunc 83 args).run Tryz.prog w=.ok (.enter 83 args) w:=enters_of Tryz.func83 (by kernel_rfl) rfl
 have hcon:=Any.slices_SortFunc Yz (@BO w om s) (fun _=>rfl) WT (YC w om s) 83 #[] blk 0 cap d w eg (WU hb) hH hb.lt (by omega)
 change Calls Tryz.prog 128 _ _ _ at hcon
 rw[hd]at hcon
 refine hcon.mono ?_
 rintro e w' ⟨rfl,d',n,os,hp,hs,rfl⟩
 obtain⟨ys,h1,h2,h3⟩:=Gs (n:=n) (os:=os) hb hd hdf hH (by rw[hd];exact hp) (by rw[hd];exact hs)
 exact⟨rfl,ys,h1,h2,h3,qV _ _ _ _ _ _ _⟩
def G7(n₀:Nat)(w:World)(v:Value)(ys:List Nat):Prop :=
 (v=.slice none 0 0∧ys=[])∨∃b cap,v=.slice (some ⟨b,0,none⟩) ys.length cap∧n₀≤b∧ys.length≤cap∧∀j,j<ys.length→w.cell? ⟨b,j,none⟩=some (qM (ys.getD j 0))
def rH(len:Nat)(f:Nat→Nat)(om:Nat→Ord)(w:World)(v:Value)(w':World):Prop :=
 ∃ys:List Nat,ys.Perm (upto f len)∧ys.Pairwise (fun a b=>dW om b a=false)∧G7 w.heap.size w' v ys∧Below w.heap.size w w'
theorem YA(len:Nat)(f:Nat→Nat)(om:Nat→Ord)(s:Int)(w W:World)(v:Value)(hlen:len≤100000)(hl:∀j,j<len→MM w om s (f j))(hr:W.ownsRow w.heap.size 114 1 v len ((upto f len).map qM))(hn:v=.slice none 0 0↔upto f len=[])(hB:Below w.heap.size w W) :
 Calls Tryz.prog 128 #[v,.func (.func 83) #[] #[]] W fun e w'=>e=.returned (.tuple #[])∧rH len f om w v w':=by
 obtain⟨hr1,⟨rfl,rfl⟩ | ⟨g,cap,cur,rfl,hg,hb,hcap,hcm,hsz,htk⟩⟩:=hr
 ·refine (yR _ W).mono ?_
  rintro e w' ⟨rfl,rfl⟩
  exact⟨rfl,[],by simp[upto],List.Pairwise.nil,.inl ⟨rfl,rfl⟩,hB⟩
 ·have h0:0<len:=by
   rcases Nat.eq_zero_or_pos len with h | h
   ·subst h
    have:=hn.2 (by simp[upto])
    cases this
   ·exact h
  have hl':∀j,j<len→MM W om s (f j):=fun j hj=>by
   obtain⟨⟨ix,ho⟩,hs⟩:=hl j hj
   exact⟨⟨ix,(hB.block (f j) ho.lt).trans ho⟩,hs⟩
  have hc:∀j,j<len→cur[j]?=some (qM (f j)):=fun j hj=>by
   have h1:(cur.toList.take (len * 1))[j]?=((upto f len).map qM)[j]?:=by rw[htk]
   rw[List.getElem?_take,if_pos (by omega)]at h1
   rw[←Array.getElem?_toList,h1]
   simp[upto,hj]
  refine (DI g cap len f om s W h0 hlen hl' cur hb hc).mono ?_
  rintro e w' ⟨rfl,ys,h1,h2,h3,h4⟩
  have hy:ys.length=len:=by rw[h1.length_eq,upto_length]
  refine⟨rfl,ys,h1,h2,.inr ⟨g,cap,by rw[hy],hg,by omega,fun j hj=>h3 j (by omega)⟩,?_⟩
  exact hB.trans (h4.Qy hB.size (fun k e=>by omega))
theorem ql(Bs:Nat)(a:Option Addr)(len cap:Nat)(f:Nat→Nat)(om:Nat→Ord)(s:Int)(hlen:len≤100000)(w:World)(hBs:Bs<w.heap.size)
 (hcB:w.cell? ⟨Bs,0,none⟩=some (.slice a len cap)) (hI:BC w.heap.size w a len cap f) (hl:∀j,j<len→MM w om s (f j)) :
 Calls Tryz.prog 81 #[.func (.func 129) #[] #[.pointer (some ⟨Bs,0,none⟩)],.func (.func 83) #[] #[]] w fun e w'=>∃v,e=.returned v∧rH len f om w v w':=by
 have Xq:=vH Bs a len cap f hlen w hBs hcB hI
 have hsort:=fun (W:World) (v:Value) hr hn hB=>YA len f om s w W v hlen hl hr hn hB
 clear hcB hI hl
 go_enter Tryz.func81,Tryz.ntmps81
 go_wp2_with (first | (go_at_call 127;refine Xq.mono ?_;clear Xq;rintro e w1 ⟨v,rfl,hr,hn,hB⟩;have hs:=hsort w1 v hr hn hB;clear hsort hr hn hB) | (go_at_call 128;refine hs.mono ?_;clear hs;rintro e w2 ⟨rfl,hp⟩))
 go_ret
 exact⟨v,rfl,hp⟩
structure fJ where
 price:Int
 qty:Int
 num:Int
def fJ.cells(l:fJ):List Value:=[.int .i64 l.price,.int .i64 l.qty,.int .i64 l.num]
def flat(ls:List fJ):List Value:=ls.flatMap fJ.cells
theorem flat_length(ls:List fJ):(flat ls).length=3 * ls.length:=by
 induction ls with
 | nil=>rfl
 | cons l ls ih=>simp only[flat,List.flatMap_cons,List.length_append,List.length_cons]at *;simp only[fJ.cells,List.length_cons,List.length_nil];omega
theorem CV(ls:List fJ)(k c:Nat)(hk:k<ls.length)(hc:c<3):(flat ls)[3 * k+c]?=(ls[k].cells)[c]?:=by
 induction ls generalizing k with
 | nil=>exact absurd hk (by simp)
 | cons l ls ih =>
   have hl:(fJ.cells l).length=3:=rfl
   cases k with
   | zero =>
     simp only[flat,List.flatMap_cons]
     rw[List.getElem?_append_left (by omega)]
     simp
   | succ k =>
     have:=ih k (by simpa using hk)
     simp only[flat,List.flatMap_cons]at *
     rw[List.getElem?_append_right (by omega),hl,show 3 * (k+1)+c-3=3 * k+c from by omega,this]
     simp
def iq(ls:List fJ)(o:Ord):List fJ :=
 match ls.getLast? with
 | some l=>if l.price=o.price then ls.dropLast++[⟨l.price,wrap64 (l.qty+o.opn),wrap64 (l.num+1)⟩] else ls++[⟨o.price,wrap64 o.opn,1⟩]
 | none=>[⟨o.price,wrap64 o.opn,1⟩]
def gu(os:List Ord):List fJ:=os.foldl iq []
def qE(n₀:Nat)(W:World)(v:Value)(ls:List fJ):Prop :=
 (v=.slice none 0 0∧ls=[])∨∃g cap cs,v=.slice (some ⟨g,0,none⟩) ls.length cap∧n₀≤g∧ai W g cs 93∧ls.length≤cap∧cap≤maxLen∧cs.size=cap * 3∧cs.toList.take (ls.length * 3)=flat ls∧0<ls.length
theorem qE.owns{n₀:Nat}{W:World}{v:Value}{ls:List fJ}(h:qE n₀ W v ls):W.ownsRow n₀ 93 3 v ls.length (flat ls):=by
 refine⟨by rw[flat_length];omega,?_⟩
 rcases h with⟨rfl,rfl⟩ | ⟨g,cap,cs,rfl,h1,h2,h3,h4,h5,h6⟩
 ·exact .inl ⟨rfl,rfl⟩
 ·exact .inr ⟨g,cap,cs,rfl,h1,h2,h3,h4,h5,h6.1⟩
theorem Ci:(Tryz.prog.info? 93).map (fun i=>(i.zero,i.size,i.bytes))=some (some (.agg #[.int .i64 0,.int .i64 0,.int .i64 0]),3,24):=by kernel_rfl
def eY(om:Nat→Ord)(ys:List Nat):List Ord:=ys.map om
end Go.Proofs.YtigaphnafnpfnaaGreatDoor
