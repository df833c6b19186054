import Derived.Test.YtigaphnafnpfnaaGreatDoorQVW
set_option linter.unusedVariables false
set_option linter.unusedSimpArgs false
set_option maxHeartbeats 8000000
set_option maxRecDepth 100000
namespace Go.Proofs.YtigaphnafnpfnaaGreatDoor
open Go.RowKit
def gG(w:World)(s:Option Addr)(n cap:Nat)(h:Nat→Nat)(om:Nat→Ord):Prop :=
 (s=none∧n=0∧cap=0)∨∃ab,s=some ⟨ab,0,none⟩∧Side w ab cap n h om
def ptrs(n:Nat)(h:Nat→Nat):List Value:=(List.range n).map fun k=>.pointer (some ⟨h k,0,none⟩)
theorem gG.owns{w:World}{s:Option Addr}{n cap:Nat}{h:Nat→Nat}{om:Nat→Ord}(hs:gG w s n cap h om):w.ownsRow 0 114 1 (.slice s n cap) n (ptrs n h):=by
 refine⟨by simp[ptrs],?_⟩
 rcases hs with⟨rfl,rfl,rfl⟩ | ⟨ab,rfl,hs⟩
 ·exact .inl ⟨rfl,rfl⟩
 ·right
  obtain⟨cs,hb,hc,hp⟩:=hs.arr
  have hle:=hs.le
  refine⟨ab,cap,cs,rfl,Nat.zero_le _,hb,hs.le,hs.KF,by omega,?_⟩
  apply List.ext_getElem?
  intro i
  by_cases hi:i<n
  ·rw[List.getElem?_take_of_lt (by omega),Array.getElem?_toList,hp i hi]
   simp[ptrs,hi]
  ·rw[List.getElem?_eq_none (by simp;omega),List.getElem?_eq_none (by simp[ptrs];omega)]
theorem IJ{w:World}{g n cap:Nat}{h:Nat→Nat}(ho:w.ownsRow 0 114 1 (.slice (some ⟨g,0,none⟩) n cap) n (ptrs n h)) :
 n≤cap∧cap≤maxLen∧∃cs,ai w g cs 114∧cs.size=cap∧∀i,i<n→cs[i]?=some (.pointer (some ⟨h i,0,none⟩)):=by
 rcases ho.2 with⟨h1,_⟩ | ⟨g',cap',cur,h1,_,hg,hn,hc,hs,ht⟩
 ·simp at h1
 ·simp at h1
  obtain⟨rfl,rfl⟩:=h1
  refine⟨hn,hc,cur,hg,by omega,fun i hi=>?_⟩
  have:(cur.toList.take (n * 1))[i]?=(ptrs n h)[i]?:=by rw[ht]
  rw[List.getElem?_take_of_lt (by omega),Array.getElem?_toList]at this
  rw[this]
  simp[ptrs,hi]
theorem LW(n:Nat)(h:Nat→Nat)(ob:Nat):ptrs n h++[.pointer (some ⟨ob,0,none⟩)]=ptrs (n+1) (fun k=>if k=n then ob else h k):=by
 simp only[ptrs,List.range_succ,List.map_append,List.map_cons,List.map_nil,if_true]
 congr 1
 apply List.map_congr_left
 intro k hk
 simp at hk
 rw[if_neg (by omega)]
def iP:Option Addr→Option Nat
 | some a=>some a.block
 | none=>none
theorem UB:∃i,Tryz.prog.info? 114=some i∧i.zero=some (.pointer none)∧i.size=1∧i.bytes=8:=by
 have h:(Tryz.prog.info? 114).map (fun i=>(i.zero,i.size,i.bytes))=some (some (.pointer none),1,8):=by kernel_rfl
 exact info_parts h
theorem gG.kept{w w':World}{s:Option Addr}{n cap:Nat}{h:Nat→Nat}{om:Nat→Ord}(hs:gG w s n cap h om){S:Nat→Prop}(k:ag S w w')(hS:∀b,(iP s=some b∨∃k,k<n∧b=h k)→¬S b):gG w' s n cap h om:=by
 rcases hs with hs | ⟨ab,rfl,hs⟩
 ·exact .inl hs
 ·refine .inr ⟨ab,rfl,hs.kept k (fun b hb=>hS b ?_)⟩
  rcases hb with rfl | hb
  ·exact .inl rfl
  ·exact .inr hb
theorem gG.ne{w:World}{s:Option Addr}{n cap:Nat}{h:Nat→Nat}{om:Nat→Ord}(hs:gG w s n cap h om){b:Nat}{c:Array Value}{t:TypeId}(hb:ai w b c t)(ht:t≠114):iP s≠some b:=by
 rcases hs with⟨rfl,_⟩ | ⟨ab,rfl,hs⟩
 ·simp[iP]
 ·obtain⟨cs,hc,_⟩:=hs.arr
  intro e
  simp[iP]at e
  exact ai.ne hb hc ht e.symm
theorem gG.lt{w:World}{s:Option Addr}{n cap:Nat}{h:Nat→Nat}{om:Nat→Ord}(hs:gG w s n cap h om){b:Nat}(e:iP s=some b):b<w.heap.size:=by
 rcases hs with⟨rfl,_⟩ | ⟨ab,rfl,hs⟩
 ·simp[iP]at e
 ·obtain⟨cs,hc,_⟩:=hs.arr
  simp[iP]at e
  exact e▸hc.lt
theorem gG.aQ{w:World}{s:Option Addr}{n cap:Nat}{h:Nat→Nat}{om:Nat→Ord}(hs:gG w s n cap h om){i:Nat}(hi:i<n):bC w (h i) (om (h i)) i:=by
 rcases hs with⟨rfl,rfl,_⟩ | ⟨ab,rfl,hs⟩
 ·omega
 ·exact hs.ord i hi
theorem ownB(s:Option Addr)(n cap:Nat):(Value.slice s n cap).ownBlock=iP s:=by cases s <;> rfl
theorem Nv(v:Value)(w:World):Sem.run Tryz.prog (Instr.typeAssert (.iface 114 v) 20 114 false) w=.ok v w:=by kernel_rfl
theorem push_any(bb so ob n cap:Nat)(s:Option Addr)(bc:Array Value)(h:Nat→Nat)(om:Nat→Ord)(ix:Int)(w:World)(hbk:ai w bb bc 158)(hso:bc[so]?=some (.slice s n cap))(hsd:gG w s n cap h om)
 (ho:bC w ob (om ob) ix) (hnew:∀k,k<n→h k≠ob) (hn:n<1000) :
 Calls Tryz.prog 260 #[.pointer (some ⟨bb,so,none⟩),.iface 114 (.pointer (some ⟨ob,0,none⟩))] w fun e w'=>e=.returned (.tuple #[]) ∧
  ∃g cap',ai w' bb (bc.setIfInBounds so (.slice (some ⟨g,0,none⟩) (n+1) cap')) 158∧Side w' g cap' (n+1) (fun k=>if k=n then ob else h k) om∧ag (fun b=>b=bb∨b=ob∨iP s=some b) w w'∧(iP s=some g∨w.heap.size≤g):=by
 have cb:=(hbk.cell so).trans hso
 have fb:=hbk.frozen so
 have co:=ho.cell 13
 simp only[Ord.cells]at co
 simp at co
 have fo:=ho.frozen 13
 have hne:ob≠bb:=ai.ne ho hbk (by decide)
 have hown:=hsd.owns
 obtain⟨i0,hi,hz0,hz1,hz2⟩:=UB
 have cb1:(w.setCell ⟨ob,13,none⟩ (.int .i64 n)).cell? ⟨bb,so,none⟩=some (.slice s n cap):=((hbk.other (a:=⟨ob,13,none⟩) (fun e=>hne e.symm) _).cell so).trans hso
 have hta:=Nv (.pointer (some ⟨ob,0,none⟩)) w
 have HO:Hid (w.ownsRow 0 114 1 (.slice s n cap) n (ptrs n h)):=hown
 clear hown
 have hc1:ag (fun b=>b=ob) w ((w.setCell ⟨ob,13,none⟩ (.int .i64 n)).alloc (.cells #[.pointer (some ⟨ob,0,none⟩)] 114)):=((ag.refl (fun b=>b=ob) w).setCell (p:=⟨ob,13,none⟩) (.inl rfl) _).alloc _
 have hsd1:=hsd.kept hc1 (fun b hb e=>by
  subst e
  rcases hb with hb | ⟨k,hk,hb⟩
  ·exact hsd.ne ho (by decide) hb
  ·exact hnew k hk hb.symm)
 have ho1:=(ho.set 13 (.int .i64 n)).alloc (.cells #[.pointer (some ⟨ob,0,none⟩)] 114)
 have hb1:=hc1.blk hbk (fun e=>hne e.symm)
 go_enter Tryz.func260,Tryz.ntmps260
 go_wp2_with (at_builtin;refine wpList_append_lies _ rfl _ _ _ rfl 0 114 i0 (.pointer none) 1 8 Tryz.underlying155 hi hz0 hz1 hz2 rfl (by omega) (.slice s n cap) n (ptrs n h) rfl ?hown ⟨w.heap.size,0,none⟩ 1 1 [.pointer (some ⟨ob,0,none⟩)] rfl rfl ?hnews ?hone (by omega) ?h63 ?hbytes (by omega) (w.heap.size+1) ?hH ?hrest)
 case hown=>exact hsd1.owns
 case hnews =>
  have e:=cell_one_new (w.setCell ⟨ob,13,none⟩ (.int .i64 n)) (.pointer (some ⟨ob,0,none⟩)) 114
  have e2:(w.setCell ⟨ob,13,none⟩ (.int .i64 n)).heap.size=w.heap.size:=by simp[World.setCell]
  rw[e2]at e
  exact e
 case hone=>intro u hu;simp at hu;subst hu;rfl
 case h63=>unfold maxLen;omega
 case hbytes=>omega
 case hH=>simp
 case hrest =>
  intro g cap1 w2 hown2 hgrow hat hlt
  rw[ownB]at hgrow hat
  have hnb:some bb≠iP s:=fun e=>hsd.ne hbk (by decide) e.symm
  have hno:some ob≠iP s:=fun e=>hsd.ne ho (by decide) e.symm
  have hc2:=ag.grown (S:=fun b=>b=bb∨b=ob∨iP s=some b) (hc1.mono (fun b hb=>.inr (.inl hb))) hgrow (fun k e=>.inl (.inr (.inr e)))
  have hb2:ai w2 bb bc 158:=(hgrow.block bb hb1.lt hnb).trans hb1
  have ho2:ai w2 ob _ 116:=(hgrow.block ob ho1.lt hno).trans ho1
  have hor:∀k,k<n→bC w2 (h k) (om (h k)) k:=fun k hk=>(hgrow.block (h k) (hsd1.aQ hk).lt (fun e=>hsd1.ne (hsd1.aQ hk) (by decide) e.symm)).trans (hsd1.aQ hk)
  have cb2:=(hb2.cell so).trans hso
  have fb2:=hb2.frozen so
  have HW:=hide hown2
  clear cb1 cb fb hta hown2
  go_wp2
  go_end0
  refine⟨rfl,g,cap1,hb2.set so _,?_,hc2.setCell (.inl (.inl rfl)) _,?_⟩
  ·obtain⟨h1,h2,cs,h3,h4,h5⟩:=IJ (h:=fun k=>if k=n then ob else h k) (by rw[←LW];exact ae HW)
   refine⟨⟨cs,h3.other ?_ _,h4,h5⟩,?_,h1,by omega,h2⟩
   ·exact Ne.symm (ai.ne hb2 h3 (by decide))
   ·intro i hi
    by_cases e:i=n
    ·subst e
     rw[if_pos rfl]
     exact ho2.other hne _
    ·rw[if_neg e]
     exact (hor i (by omega)).other (ai.ne (hor i (by omega)) hb2 (by decide)) _
  ·rcases hat with hat | hat
   ·exact .inl hat
   ·right;omega
theorem pop_any(bb so ab n cap:Nat)(bc:Array Value)(h:Nat→Nat)(om:Nat→Ord)(w:World)(hbk:ai w bb bc 158)(hso:bc[so]?=some (.slice (some ⟨ab,0,none⟩) (n+1) cap))(hsd:Side w ab cap (n+1) h om) :
 Calls Tryz.prog 259 #[.pointer (some ⟨bb,so,none⟩)] w fun e w'=>e=.returned (.iface 114 (.pointer (some ⟨h n,0,none⟩))) ∧
  ai w' bb (bc.setIfInBounds so (.slice (some ⟨ab,0,none⟩) n cap)) 158∧Side w' ab cap n h om∧bC w' (h n) (om (h n)) n∧ag (fun b=>b=bb∨b=ab) w w':=by
 have cb:=(hbk.cell so).trans hso
 have fb:=hbk.frozen so
 obtain⟨cs,hb,hc,hp⟩:=hsd.arr
 have ca:=(hb.cell n).trans (hp n (by omega))
 have fa:=hb.frozen n
 have hne:ab≠bb:=ai.ne hb hbk (by decide)
 have hsm:=hsd.small
 have hle:=hsd.le
 have n0:(0:Int)≤(n:Int):=by omega
 have n1:(n:Int)<(n:Int)+1:=by omega
 have n2:(n:Int)≤(cap:Int):=by omega
 have cb1:(w.setCell ⟨ab,n,none⟩ (.pointer none)).cell? ⟨bb,so,none⟩=some (.slice (some ⟨ab,0,none⟩) (n+1) cap):=((hbk.other (a:=⟨ab,n,none⟩) (fun e=>hne e.symm) _).cell so).trans hso
 have fb1:(w.setCell ⟨ab,n,none⟩ (.pointer none)).frozen? ⟨bb,so,none⟩=false:=(hbk.other (a:=⟨ab,n,none⟩) (fun e=>hne e.symm) _).frozen so
 have HC:Hid (cs.size=cap∧∀i,i<n+1→cs[i]?=some (.pointer (some ⟨h i,0,none⟩))):=⟨hc,hp⟩
 clear hp hc
 go_enter Tryz.func259,Tryz.ntmps259
 go_wp2
 go_ret
 refine⟨rfl,(hbk.other (fun e=>hne e.symm) _).set so _,?_,?_,?_⟩
 ·refine⟨⟨_,(hb.set n _).other hne _,by simpa using HC.out.1,fun i hi=>?_⟩,fun i hi=>?_,by omega,by omega,hsd.KF⟩
  ·rw[Array.getElem?_setIfInBounds_ne (by omega)]
   exact HC.out.2 i (by omega)
  ·exact ((hsd.ord i (by omega)).other (ai.ne (hsd.ord i (by omega)) hb (by decide)) _).other (ai.ne (hsd.ord i (by omega)) hbk (by decide)) _
 ·exact ((hsd.ord n (by omega)).other (ai.ne (hsd.ord n (by omega)) hb (by decide)) _).other (ai.ne (hsd.ord n (by omega)) hbk (by decide)) _
 ·exact ((ag.refl (fun b=>b=bb∨b=ab) w).setCell (p:=⟨ab,n,none⟩) (.inl (.inr rfl)) _).setCell (p:=⟨bb,so,none⟩) (.inl (.inl rfl)) _
theorem Nu{s:Option Addr}{ab:Nat}(h:s=some ⟨ab,0,none⟩):iP s=some ab:=by subst h;rfl
theorem KY(bb so ob n cap:Nat)(s:Option Addr)(bc:Array Value)(h:Nat→Nat)(om:Nat→Ord)(ix:Int)(w:World)(hbk:ai w bb bc 158)(hso:bc[so]?=some (.slice s n cap))(hsd:gG w s n cap h om)
 (ho:bC w ob (om ob) ix) (hnew:∀k,k<n→h k≠ob) (hn:n<1000) :
 Calls Tryz.prog 150 #[.iface 216 (.pointer (some ⟨bb,so,none⟩)),.iface 114 (.pointer (some ⟨ob,0,none⟩))] w fun e w'=>e=.returned (.tuple #[]) ∧
  ∃g cap',ai w' bb (bc.setIfInBounds so (.slice (some ⟨g,0,none⟩) (n+1) cap')) 158∧Side w' g cap' (n+1) (qN (dW om) (fun k=>if k=n then ob else h k) n) om ∧
   ag (fun b=>b=bb∨b=ob∨iP s=some b∨∃k,k<n∧b=h k) w w'∧(iP s=some g∨w.heap.size≤g):=by
 have hm:=OV ⟨bb,so,none⟩ w
 have hlt:so<bc.size:=(Array.getElem?_eq_some_iff.1 hso).1
 go_enter Tryz.func150,Tryz.ntmps150
 go_wp2_with fail
 refine (push_any bb so ob n cap s bc h om ix w hbk hso hsd ho hnew hn).mono ?_
 rintro e w1 ⟨rfl,g,cap1,hb1,hs1,hc1,hg1⟩
 have XN:(bc.setIfInBounds so (.slice (some ⟨g,0,none⟩) (n+1) cap1))[so]?=some (.slice (some ⟨g,0,none⟩) (n+1) cap1):=Array.getElem?_setIfInBounds_self_of_lt hlt
 have hm1:=JL ⟨bb,so,none⟩ w1 (some ⟨g,0,none⟩) (n+1) cap1 ((hb1.cell so).trans XN)
 clear hm
 go_wp2_with fail
 refine (len_any (some ⟨g,0,none⟩) (n+1) cap1 w1).mono ?_
 rintro e w2 ⟨rfl,rfl⟩
 clear hm1
 have e1:(((n+1:Nat):Int)-1)=(n:Int):=by omega
 go_wp2_with fail
 refine (PW bb so g cap1 (n+1) n _ _ om _ hb1 XN hs1 (by omega)).mono ?_
 rintro e w3 ⟨rfl,hs3,hc3⟩
 go_wp2
 go_end0
 have hnb:¬Sd g (n+1) (fun k=>if k=n then ob else h k) bb:=by
  rintro (rfl | ⟨k,hk,rfl⟩)
  ·obtain⟨cs,hb,_⟩:=hs1.arr
   exact ai.ne hb1 hb (by decide) rfl
  ·exact ai.ne hb1 (hs1.ord k hk) (by decide) rfl
 refine⟨rfl,g,cap1,hc3.blk hb1 hnb,hs3,?_,hg1⟩
 refine ag.from (hc1.mono (fun b hb=>by rcases hb with h | h | h;exact .inl h;exact .inr (.inl h);exact .inr (.inr (.inl h)))) (hc3.mono ?_)
 rintro b (rfl | ⟨k,hk,rfl⟩)
 ·rcases hg1 with h | h
  ·exact .inl (.inr (.inr (.inl h)))
  ·exact .inr h
 ·left
  by_cases e:k=n
  ·exact .inr (.inl (by simp[e]))
  ·exact .inr (.inr (.inr ⟨k,by omega,by simp[e]⟩))
def dO(lt:Nat→Nat→Bool)(h:Nat→Nat)(n i:Nat):Nat→Nat :=
 if i=n then h else if i<(dn lt n (sw h i n) i).2 then (dn lt n (sw h i n) i).1 else qN lt (dn lt n (sw h i n) i).1 i
theorem iO{h:Nat→Nat}{i j k:Nat}(h1:k≠i)(h2:k≠j):sw h i j k=h k:=by unfold sw;rw[if_neg h1,if_neg h2]
theorem KH{lt:Nat→Nat→Bool}{n:Nat}{k:Nat}(hk:n≤k)(h:Nat→Nat)(i:Nat):(dn lt n h i).1 k=h k:=by
 fun_induction dn lt n h i with
 | case1 h i hn _ hl ih =>
   rw[ih]
   have:=ny lt n h i hn
   exact iO (by omega) (by omega)
 | case2=>rfl
 | case3=>rfl
theorem RH{lt:Nat→Nat→Bool}{k:Nat}(h:Nat→Nat)(j:Nat)(hk:j<k):(qN lt h j) k=h k:=by
 fun_induction qN lt h j with
 | case1=>rfl
 | case2 h j hj hl ih =>
   rw[ih (by omega)]
   exact iO (by omega) (by omega)
 | case3=>rfl
theorem oC{lt:Nat→Nat→Bool}{h:Nat→Nat}{n i:Nat}(hi:i≤n):dO lt h n i n=h i:=by
 unfold dO
 split
 ·rename_i e;rw[e]
 ·have h1:(dn lt n (sw h i n) i).1 n=h i:=by
   rw[KH (Nat.le_refl _)]
   unfold sw
   rw[if_neg (by omega),if_pos rfl]
  split
  ·exact h1
  ·rw[RH _ _ (by omega)];exact h1
theorem Qu{lt:Nat→Nat→Bool}{ab N n:Nat}{h:Nat→Nat}{i:Nat}(hi:i≤n)(hn:n≤N):Sd ab N (dn lt n h i).1=Sd ab N h:=by
 fun_induction dn lt n h i with
 | case1 h i hn' _ hl ih =>
   have:=ny lt n h i hn'
   rw[ih (by omega),xg (by omega) (by omega)]
 | case2=>rfl
 | case3=>rfl
theorem IZ(bb so ab n cap i:Nat)(bc:Array Value)(h:Nat→Nat)(om:Nat→Ord)(w:World)(hbk:ai w bb bc 158)(hso:bc[so]?=some (.slice (some ⟨ab,0,none⟩) (n+1) cap))(hsd:Side w ab cap (n+1) h om)(hi:i≤n) :
 Calls Tryz.prog 149 #[.iface 216 (.pointer (some ⟨bb,so,none⟩)),.int .i64 i] w fun e w'=>e=.returned (.iface 114 (.pointer (some ⟨h i,0,none⟩))) ∧
  ai w' bb (bc.setIfInBounds so (.slice (some ⟨ab,0,none⟩) n cap)) 158∧Side w' ab cap n (dO (dW om) h n i) om∧bC w' (h i) (om (h i)) n∧ag (fun b=>b=bb∨Sd ab (n+1) h b) w w':=by
 have hm:=JL ⟨bb,so,none⟩ w (some ⟨ab,0,none⟩) (n+1) cap ((hbk.cell so).trans hso)
 have hsm:=hsd.small
 have hout:¬Sd ab (n+1) h bb:=by
  rintro (rfl | ⟨k,hk,rfl⟩)
  ·obtain⟨cs,hb,_⟩:=hsd.arr
   exact ai.ne hbk hb (by decide) rfl
  ·exact ai.ne hbk (hsd.ord k hk) (by decide) rfl
 by_cases hin:i=n
 ·subst hin
  go_enter Tryz.func149,Tryz.ntmps149
  go_wp2_with fail
  refine (len_any (some ⟨ab,0,none⟩) (i+1) cap w).mono ?_
  rintro e w2 ⟨rfl,rfl⟩
  have hp:=CY ⟨bb,so,none⟩ w2
  clear hm
  go_wp2_with fail
  refine (pop_any bb so ab i cap bc h om _ hbk hso hsd).mono ?_
  rintro e w3 ⟨rfl,hb3,hs3,ho3,hc3⟩
  clear hp
  go_wp2
  go_ret
  refine⟨rfl,hb3,?_,ho3,hc3.mono ?_⟩
  ·unfold dO
   rw[if_pos rfl]
   exact hs3
  ·rintro b (rfl | rfl)
   ·exact .inl rfl
   ·exact .inr (.inl rfl)
 ·have e1:((n:Int) != (i:Int))=true:=by simp;omega
  go_enter Tryz.func149,Tryz.ntmps149
  go_wp2_with fail
  refine (len_any (some ⟨ab,0,none⟩) (n+1) cap w).mono ?_
  rintro e w2 ⟨rfl,rfl⟩
  have hms:=qh ⟨bb,so,none⟩ w2 (some ⟨ab,0,none⟩) (n+1) cap ((hbk.cell so).trans hso)
  clear hm
  go_wp2_with fail
  refine (uU ab cap (n+1) i n h om _ hsd (by omega) (by omega) hin).mono ?_
  rintro e w3 ⟨rfl,hs3,hc3⟩
  have hb3:=hc3.blk hbk hout
  clear hms
  go_wp2_with fail
  refine (NR bb so ab cap (n+1) n i bc _ om _ hb3 hso hs3 (by omega) hi).mono ?_
  rintro e w4 ⟨rfl,hs4,hc4⟩
  rw[xg (by omega) (by omega)]at hc4
  have hb4:=hc4.blk hb3 hout
  by_cases hd:i<(dn (dW om) n (sw h i n) i).2
  ·have hdt:decide (i<(dn (dW om) n (sw h i n) i).2)=true:=by simp[hd]
   rw[hdt]
   have hp:=CY ⟨bb,so,none⟩ w4
   have hN:(dn (dW om) n (sw h i n) i).1=dO (dW om) h n i:=by unfold dO;rw[if_neg hin,if_pos hd]
   rw[hN]at hs4
   have hl:=oC (lt:=dW om) (h:=h) hi
   have HL:=hide hl
   clear hN hd hdt hl
   go_wp2_with fail
   refine (pop_any bb so ab n cap bc _ om _ hb4 hso hs4).mono ?_
   rintro e w5 ⟨rfl,hb5,hs5,SA,hc5⟩
   clear hp
   rw[ae HL]
   rw[ae HL]at SA
   go_wp2
   go_ret
   refine⟨rfl,hb5,hs5,SA,((hc3.trans hc4).mono (fun b hb=>.inr hb)).trans (hc5.mono ?_)⟩
   rintro b (rfl | rfl)
   ·exact .inl rfl
   ·exact .inr (.inl rfl)
  ·have hdt:decide (i<(dn (dW om) n (sw h i n) i).2)=false:=by simp[hd]
   rw[hdt]
   have hN:qN (dW om) (dn (dW om) n (sw h i n) i).1 i=dO (dW om) h n i:=by unfold dO;rw[if_neg hin,if_neg hd]
   have HS:Hid (Sd ab (n+1) (dn (dW om) n (sw h i n) i).1=Sd ab (n+1) h):=by
    show _=_
    rw[Qu hi (by omega),xg (by omega) (by omega)]
   have HN:=hide hN
   clear hN hd hdt
   go_wp2_with fail
   refine (PW bb so ab cap (n+1) i bc _ om _ hb4 hso hs4 (by omega)).mono ?_
   rintro e w5 ⟨rfl,hs5,hc5⟩
   rw[ae HS]at hc5
   have hb5:=hc5.blk hb4 hout
   have hp:=CY ⟨bb,so,none⟩ w5
   rw[ae HN]at hs5
   have HL:=hide (oC (lt:=dW om) (h:=h) hi)
   go_wp2_with fail
   refine (pop_any bb so ab n cap bc _ om _ hb5 hso hs5).mono ?_
   rintro e w6 ⟨rfl,hb6,hs6,ho6,hc6⟩
   clear hp
   rw[ae HL]
   rw[ae HL]at ho6
   go_wp2
   go_ret
   refine⟨rfl,hb6,hs6,ho6,(((hc3.trans hc4).trans hc5).mono (fun b hb=>.inr hb)).trans (hc6.mono ?_)⟩
   rintro b (rfl | rfl)
   ·exact .inl rfl
   ·exact .inr (.inl rfl)
structure Pre(lt:Nat→Nat→Bool)(P:Nat→Prop):Prop where
 asym:∀x y,P x→P y→lt x y=true→lt y x=false
 trans:∀x y z,P x→P y→P z→lt y x=false→lt z y=false→lt z x=false
 Y9:∀x,P x→lt x x=false
def par(k:Nat):Nat:=(k-1) / 2
def dH(lt:Nat→Nat→Bool)(n:Nat)(h:Nat→Nat):Prop:=∀k,0<k→k<n→lt (h k) (h (par k))=false
theorem yN{lt:Nat→Nat→Bool}{P:Nat→Prop}(pre:Pre lt P){n:Nat}{h:Nat→Nat}(ok:dH lt n h)(hP:∀k,k<n→P (h k)):∀k,k<n→lt (h k) (h 0)=false:=by
 intro k
 induction k using Nat.strongRecOn with
 | _ k ih =>
   intro hk
   by_cases h0:k=0
   ·subst h0;exact pre.Y9 _ (hP 0 hk)
   ·have hp:par k<k:=by unfold par;omega
    exact pre.trans (h 0) (h (par k)) (h k) (hP 0 (by omega)) (hP _ (by omega)) (hP k hk) (ih (par k) hp (by omega)) (ok k (by omega) hk)
def VH(lt:Nat→Nat→Bool)(n:Nat)(h:Nat→Nat)(j:Nat):Prop :=
 (∀k,0<k→k<n→k≠j→lt (h k) (h (par k))=false)∧(∀c,0<c→c<n→par c=j→0<j→lt (h c) (h (par j))=false)
theorem DK(h:Nat→Nat)(i j:Nat):sw h i j i=h j:=by unfold sw;rw[if_pos rfl]
theorem Jb(h:Nat→Nat)(i j:Nat):sw h i j j=h i:=by
 unfold sw
 split
 ·rename_i e;rw[e]
 ·rw[if_pos rfl]
theorem U6{P:Nat→Prop}{n:Nat}{h:Nat→Nat}(hP:∀k,k<n→P (h k)){i j:Nat}(hi:i<n)(hj:j<n):∀k,k<n→P (sw h i j k):=by
 intro k hk
 unfold sw
 split
 ·exact hP j hj
 ·split
  ·exact hP i hi
  ·exact hP k hk
theorem PX{lt:Nat→Nat→Bool}{P:Nat→Prop}(pre:Pre lt P){n:Nat}(h:Nat→Nat)(j:Nat)(hP:∀k,k<n→P (h k))(hj:j<n)(ex:VH lt n h j):dH lt n (qN lt h j):=by
 fun_induction qN lt h j with
 | case1 h=>exact fun k h0 hk=>ex.1 k h0 hk (by omega)
 | case3 h j hj0 hl =>
   intro k h0 hk
   by_cases e:k=j
   ·subst e;simpa [par] using hl
   ·exact ex.1 k h0 hk e
 | case2 h j hj0 hl ih =>
   have hp:(j-1) / 2<j:=by omega
   have MO:par j=(j-1) / 2:=rfl
   have hlt:=pre.asym _ _ (hP j hj) (hP _ (by omega)) hl
   refine ih (U6 hP (by omega) hj) (by omega) ⟨?_,?_⟩
   ·intro k h0 hk hne
    by_cases e1:k=j
    ·subst e1
     rw[MO,Jb,DK]
     exact hlt
    ·rw[iO hne e1]
     by_cases e2:par k=(j-1) / 2
     ·rw[e2,DK]
      have:=ex.1 k h0 hk e1
      rw[e2]at this
      exact pre.trans _ _ _ (hP j hj) (hP _ (by omega)) (hP k hk) hlt this
     ·by_cases e3:par k=j
      ·rw[e3,Jb]
       exact ex.2 k h0 hk e3 (by omega)
      ·rw[iO e2 e3]
       exact ex.1 k h0 hk e1
   ·intro c h0 hc hpc hp0
    have hpp:par ((j-1) / 2)<(j-1) / 2:=by unfold par;omega
    rw[iO (k:=par ((j-1) / 2)) (by omega) (by omega)]
    have h1:lt (h ((j-1) / 2)) (h (par ((j-1) / 2)))=false:=ex.1 _ hp0 (by omega) (by omega)
    by_cases e1:c=j
    ·subst e1
     rw[Jb]
     exact h1
    ·have e2:c≠(j-1) / 2:=by unfold par at hpc;omega
     rw[iO e2 e1]
     have h2:=ex.1 c h0 hc e1
     rw[hpc]at h2
     exact pre.trans _ _ _ (hP _ (by omega)) (hP _ (by omega)) (hP c hc) h1 h2
def MX(lt:Nat→Nat→Bool)(n:Nat)(h:Nat→Nat)(i:Nat):Prop :=
 (∀k,0<k→k<n→k≠i→par k≠i→lt (h k) (h (par k))=false)∧(∀c,0<c→c<n→par c=i→0<i→lt (h c) (h (par i))=false)
theorem CG{lt:Nat→Nat→Bool}{P:Nat→Prop}(pre:Pre lt P){n:Nat}{h:Nat→Nat}(hP:∀k,k<n→P (h k)){i:Nat}(hn:2 * i+1<n){c:Nat}(h0:0<c)(hc:c<n)(hpc:par c=i):lt (h c) (h (kid lt n h i))=false:=by
 have:c=2 * i+1∨c=2 * i+2:=by unfold par at hpc;omega
 unfold kid
 split
 ·rename_i hh
  rcases this with rfl | rfl
  ·exact pre.asym _ _ (hP _ hh.1) (hP _ hc) hh.2
  ·exact pre.Y9 _ (hP _ hc)
 ·rename_i hh
  rcases this with rfl | rfl
  ·exact pre.Y9 _ (hP _ hc)
  ·by_cases e:lt (h (2 * i+2)) (h (2 * i+1))=true
   ·exact absurd ⟨hc,e⟩ hh
   ·simpa using e
theorem QX(lt:Nat→Nat→Bool)(n:Nat)(h:Nat→Nat)(i:Nat):par (kid lt n h i)=i:=by
 unfold par kid;split <;> omega
theorem Ah{lt:Nat→Nat→Bool}{P:Nat→Prop}(pre:Pre lt P){n:Nat}{h:Nat→Nat}{i:Nat}(hP:∀k,k<n→P (h k))(hn:2 * i+1<n)(ex:MX lt n h i)(hl:lt (h (kid lt n h i)) (h i)=true) :
 (∀k,0<k→k<n→par k≠kid lt n h i→lt (sw h i (kid lt n h i) k) (sw h i (kid lt n h i) (par k))=false)∧MX lt n (sw h i (kid lt n h i)) (kid lt n h i):=by
 have hb:=ny lt n h i hn
 have hkp:=QX lt n h i
 have hmin:=fun {c:Nat}=>CG pre (h:=h) hP hn (c:=c)
 generalize kid lt n h i=d at *
 have hlt:=pre.asym _ _ (hP d hb.2) (hP i (by omega)) hl
 have key:∀k,0<k→k<n→par k≠d→lt (sw h i d k) (sw h i d (par k))=false:=by
  intro k h0 hk hne
  have hpk:par k<k:=by unfold par;omega
  by_cases e1:k=i
  ·subst e1
   rw[DK,iO (by omega) hne]
   exact ex.2 d (by omega) hb.2 hkp h0
  ·by_cases e2:k=d
   ·subst e2
    rw[Jb,hkp,DK]
    exact hlt
   ·rw[iO e1 e2]
    by_cases e3:par k=i
    ·rw[e3,DK]
     exact hmin h0 hk e3
    ·rw[iO e3 hne]
     exact ex.1 k h0 hk e1 e3
 refine⟨key,fun k h0 hk _ hne=>key k h0 hk hne,?_⟩
 intro c h0 hc hpc _
 rw[hkp,DK]
 have hpk:par c<c:=by unfold par;omega
 rw[iO (by omega) (by omega)]
 have:=ex.1 c h0 hc (by omega) (by omega)
 rw[hpc]at this
 exact this
theorem QF{lt:Nat→Nat→Bool}{P:Nat→Prop}(pre:Pre lt P){n:Nat}(h:Nat→Nat)(i:Nat)(hP:∀k,k<n→P (h k))(ex:MX lt n h i)(all:∀k,0<k→k<n→par k≠i→lt (h k) (h (par k))=false):dH lt n (dn lt n h i).1:=by
 fun_induction dn lt n h i with
 | case1 h i hn _ hl ih =>
   have hb:=ny lt n h i hn
   obtain⟨h1,h2⟩:=Ah pre hP hn ex hl
   exact ih (U6 hP (by omega) hb.2) h2 h1
 | case2 h i hn _ hl =>
   intro k h0 hk
   by_cases e:par k=i
   ·have:=CG pre hP hn h0 hk e
    have hb:=ny lt n h i hn
    rw[e]
    exact pre.trans _ _ _ (hP i (by omega)) (hP _ hb.2) (hP k hk) (by simpa using hl) this
   ·exact all k h0 hk e
 | case3 h i hn =>
   intro k h0 hk
   exact all k h0 hk (by unfold par;omega)
theorem vJ{lt:Nat→Nat→Bool}{P:Nat→Prop}(pre:Pre lt P){n:Nat}(h:Nat→Nat)(i:Nat)(hP:∀k,k<n→P (h k))(ex:MX lt n h i) :
 dH lt n (dn lt n h i).1∨(dn lt n h i=(h,i)∧VH lt n h i):=by
 by_cases hn:2 * i+1<n
 ·cases hl:lt (h (kid lt n h i)) (h i)
  ·right
   refine⟨lq hn hl,?_,ex.2⟩
   intro k h0 hk hne
   by_cases e:par k=i
   ·have:=CG pre hP hn h0 hk e
    have hb:=ny lt n h i hn
    rw[e]
    exact pre.trans _ _ _ (hP i (by omega)) (hP _ hb.2) (hP k hk) hl this
   ·exact ex.1 k h0 hk hne e
  ·left
   have hb:=ny lt n h i hn
   obtain⟨h1,h2⟩:=Ah pre hP hn ex hl
   rw[pI hn hl]
   exact QF pre _ _ (U6 hP (by omega) hb.2) h2 h1
 ·right
  refine⟨qy hn,?_,ex.2⟩
  intro k h0 hk hne
  exact ex.1 k h0 hk hne (by unfold par;omega)
theorem NQ{lt:Nat→Nat→Bool}{n:Nat}(h:Nat→Nat)(i:Nat):i≤(dn lt n h i).2:=by
 fun_induction dn lt n h i with
 | case1 h i hn _ hl ih=>have:=ny lt n h i hn;omega
 | case2=>exact Nat.le_refl _
 | case3=>exact Nat.le_refl _
theorem NP{lt:Nat→Nat→Bool}{n:Nat}(h:Nat→Nat)(i:Nat)(he:¬i<(dn lt n h i).2):dn lt n h i=(h,i):=by
 by_cases hn:2 * i+1<n
 ·cases hl:lt (h (kid lt n h i)) (h i)
  ·exact lq hn hl
  ·exfalso
   rw[pI hn hl]at he
   have:=NQ (lt:=lt) (n:=n) (sw h i (kid lt n h i)) (kid lt n h i)
   have:=ny lt n h i hn
   omega
 ·exact qy hn
theorem aaK{lt:Nat→Nat→Bool}{P:Nat→Prop}{n:Nat}(h:Nat→Nat)(j:Nat)(hP:∀k,k<n→P (h k))(hj:j<n):∀k,k<n→P (qN lt h j k):=by
 fun_induction qN lt h j with
 | case1=>exact hP
 | case3=>exact hP
 | case2 h j hj0 hl ih=>exact ih (U6 hP (by omega) hj) (by omega)
theorem WW{lt:Nat→Nat→Bool}{P:Nat→Prop}{n N:Nat}(hN:n≤N)(h:Nat→Nat)(i:Nat)(hP:∀k,k<N→P (h k)):∀k,k<N→P ((dn lt n h i).1 k):=by
 fun_induction dn lt n h i with
 | case1 h i hn _ hl ih =>
   have:=ny lt n h i hn
   exact ih (U6 hP (by omega) (by omega))
 | case2=>exact hP
 | case3=>exact hP
theorem AY{lt:Nat→Nat→Bool}{P:Nat→Prop}(pre:Pre lt P){n:Nat}(h:Nat→Nat)(i:Nat)(hi:i≤n)(hP:∀k,k<n+1→P (h k))(ok:dH lt (n+1) h):dH lt n (dO lt h n i):=by
 unfold dO
 split
 ·exact fun k h0 hk=>ok k h0 (by omega)
 ·rename_i hne
  have hPs:=U6 hP (show i<n+1 by omega) (show n<n+1 by omega)
  have Ub:∀k,k<n→P (sw h i n k):=fun k hk=>hPs k (by omega)
  have ex:MX lt n (sw h i n) i:=by
   refine⟨?_,?_⟩
   ·intro k h0 hk h1 h2
    have:par k<k:=by unfold par;omega
    rw[iO h1 (by omega),iO h2 (by omega)]
    exact ok k h0 (by omega)
   ·intro c h0 hc hpc hi0
    have h1:par c<c:=by unfold par;omega
    have h2:par i<i:=by unfold par;omega
    rw[iO (by omega) (by omega),iO (by omega) (by omega)]
    have a1:=ok c h0 (by omega)
    rw[hpc]at a1
    exact pre.trans _ _ _ (hP _ (by omega)) (hP i (by omega)) (hP c (by omega)) (ok i hi0 (by omega)) a1
  split
  ·rename_i hm
   rcases vJ pre _ _ Ub ex with h1 | ⟨h1,_⟩
   ·exact h1
   ·rw[h1]at hm
    exact absurd hm (by simp)
  ·rename_i hm
   have e:=NP _ _ hm
   rw[e]
   rcases vJ pre _ _ Ub ex with h1 | ⟨_,h1⟩
   ·rw[e]at h1
    refine PX pre _ _ Ub (by omega) ⟨fun k h0 hk _=>h1 k h0 hk,?_⟩
    intro c h0 hc hpc hi0
    have a1:=h1 c h0 hc
    rw[hpc]at a1
    exact pre.trans _ _ _ (Ub _ (by unfold par;omega)) (Ub i (by omega)) (Ub c hc) (h1 i hi0 (by omega)) a1
   ·exact PX pre _ _ Ub (by omega) h1
theorem JS{lt:Nat→Nat→Bool}{P:Nat→Prop}(pre:Pre lt P){n:Nat}(h:Nat→Nat)(x:Nat)(hx:P x)(hP:∀k,k<n→P (h k))(ok:dH lt n h):dH lt (n+1) (qN lt (fun k=>if k=n then x else h k) n):=by
 refine PX pre _ _ (fun k hk=>?_) (by omega) ⟨?_,?_⟩
 ·by_cases e:k=n
  ·simp only[e,if_true];exact hx
  ·simp only[e,if_false];exact hP k (by omega)
 ·intro k h0 hk hne
  have:par k<k:=by unfold par;omega
  simp only[hne,if_false,show par k≠n by omega]
  exact ok k h0 (by omega)
 ·intro c h0 hc hpc _
  have:par c<c:=by unfold par;omega
  omega
def Mem(n:Nat)(h:Nat→Nat)(x:Nat):Prop:=∃k,k<n∧x=h k
theorem TI(n:Nat)(h:Nat→Nat):∀k,k<n→Mem n h (h k):=fun k hk=>⟨k,hk,rfl⟩
theorem CX{n:Nat}{h:Nat→Nat}{i j:Nat}(hi:i<n)(hj:j<n)(x:Nat):Mem n (sw h i j) x↔Mem n h x:=by
 have key:∀h:Nat→Nat,∀x,Mem n (sw h i j) x→Mem n h x:=by
  rintro h x ⟨k,hk,rfl⟩
  exact U6 (TI n h) hi hj k hk
 constructor
 ·exact key h x
 ·intro hx
  have e:sw (sw h i j) i j=h:=by
   funext k
   by_cases e1:k=i
   ·subst e1;rw[DK,Jb]
   ·by_cases e2:k=j
    ·subst e2;rw[Jb,DK]
    ·rw[iO e1 e2,iO e1 e2]
  rw[←e]at hx
  exact key _ x hx
theorem OU{lt:Nat→Nat→Bool}{n:Nat}(h:Nat→Nat)(j:Nat)(hj:j<n)(x:Nat):Mem n (qN lt h j) x↔Mem n h x:=by
 fun_induction qN lt h j with
 | case1=>rfl
 | case3=>rfl
 | case2 h j hj0 hl ih=>rw[ih (by omega),CX (by omega) hj]
theorem FC{lt:Nat→Nat→Bool}{n N:Nat}(hN:n≤N)(h:Nat→Nat)(i:Nat)(x:Nat):Mem N (dn lt n h i).1 x↔Mem N h x:=by
 fun_induction dn lt n h i with
 | case1 h i hn _ hl ih =>
   have:=ny lt n h i hn
   rw[ih,CX (by omega) (by omega)]
 | case2=>rfl
 | case3=>rfl
theorem mem_push{lt:Nat→Nat→Bool}{n:Nat}(h:Nat→Nat)(x y:Nat):Mem (n+1) (qN lt (fun k=>if k=n then x else h k) n) y↔Mem n h y∨y=x:=by
 rw[OU _ _ (by omega)]
 constructor
 ·rintro⟨k,hk,rfl⟩
  by_cases e:k=n
  ·right;simp[e]
  ·left;exact⟨k,by omega,by simp[e]⟩
 ·rintro (⟨k,hk,rfl⟩ | rfl)
  ·exact⟨k,by omega,by simp[show k≠n by omega]⟩
  ·exact⟨n,by omega,by simp⟩
theorem qg{lt:Nat→Nat→Bool}{n:Nat}(h:Nat→Nat)(i:Nat)(hi:i≤n)(y:Nat):Mem (n+1) (dO lt h n i) y↔Mem (n+1) h y:=by
 unfold dO
 split
 ·rfl
 ·split
  ·rw[FC (by omega),CX (by omega) (by omega)]
  ·rw[OU _ _ (by omega),FC (by omega),CX (by omega) (by omega)]
theorem lL{lt:Nat→Nat→Bool}{n:Nat}(h:Nat→Nat)(i:Nat)(hi:i≤n)(inj:∀a b,a<n+1→b<n+1→dO lt h n i a=dO lt h n i b→a=b)(y:Nat) :
 Mem n (dO lt h n i) y↔Mem (n+1) h y∧y≠h i:=by
 rw[←qg (lt:=lt) h i hi y]
 have hl:=oC (lt:=lt) (h:=h) hi
 constructor
 ·rintro⟨k,hk,rfl⟩
  refine⟨⟨k,by omega,rfl⟩,fun e=>?_⟩
  rw[←hl]at e
  have:=inj k n (by omega) (by omega) e
  omega
 ·rintro⟨⟨k,hk,rfl⟩,hne⟩
  refine⟨k,?_,rfl⟩
  by_cases e:k=n
  ·subst e;exact absurd hl hne
  ·omega
end Go.Proofs.YtigaphnafnpfnaaGreatDoor
namespace Go.Proofs.YtigaphnafnpfnaaGreatDoor
open Go.RowKit
attribute [local go_sem ↓] Go.wp_at_zero Go.wp_at_succ
theorem jT(s:Int)(w:World)(h0:0≤s)(h1:s≤1):Calls Tryz.prog 154 #[.int .i64 s] w fun e w'=>e=.returned (.int .i64 (1-s))∧w'=w:=by
 go_enter Tryz.func154,Tryz.ntmps154
 go_wp2
 go_ret
 exact⟨rfl,rfl⟩
structure Ask where
 id:Int
 owner:Int
 sym:ByteArray
 side:Int
 kind:Int
 price:Int
 qty:Int
def Ask.val(o:Ask):Value:=.agg #[.int .i64 o.id,.int .i64 o.owner,.string o.sym,.int .i64 o.side,.int .i64 o.kind,.int .i64 o.price,.int .i64 o.qty]
def eQ(kind side price p:Int):Bool:=if kind=5 then true else if side=0 then decide (p≤price) else decide (price≤p)
theorem ng(o:Ask)(p:Int)(w:World):Calls Tryz.prog 155 #[o.val,.int .i64 p] w fun e w'=>e=.returned (.bool (eQ o.kind o.side o.price p))∧ag ak w w':=by
 obtain⟨id,owner,sym,side,kind,price,qty⟩:=o
 simp only[Ask.val]
 by_cases h1:kind=5
 ·have e1:(kind == 5)=true:=by simp[h1]
  have HG:Hid (eQ kind side price p=true):=by show _=_;unfold eQ;rw[if_pos h1]
  clear h1
  go_enter Tryz.func155,Tryz.ntmps155
  go_wp2
  go_ret
  exact⟨by rw[HG.out];rfl,(ag.refl _ _).alloc _⟩
 ·have e1:(kind == 5)=false:=by simp[h1]
  by_cases h2:side=0
  ·have e2:(side == 0)=true:=by simp[h2]
   have HG:Hid (eQ kind side price p=decide (p≤price)):=by show _=_;unfold eQ;rw[if_neg h1,if_pos h2]
   clear h1 h2
   go_enter Tryz.func155,Tryz.ntmps155
   go_wp2
   go_ret
   exact⟨by rw[HG.out];rfl,(ag.refl _ _).alloc _⟩
  ·have e2:(side == 0)=false:=by simp[h2]
   have HG:Hid (eQ kind side price p=decide (price≤p)):=by show _=_;unfold eQ;rw[if_neg h1,if_neg h2]
   clear h1 h2
   go_enter Tryz.func155,Tryz.ntmps155
   go_wp2
   go_ret
   exact⟨by rw[HG.out];rfl,(ag.refl _ _).alloc _⟩
structure Bk where
 sym:ByteArray
 sl:Nat→Option Addr
 n:Nat→Nat
 cap:Nat→Nat
 h:Nat→Nat→Nat
 places:Int
def Bk.cells(B:Bk):Array Value:=#[.string B.sym,.slice (B.sl 0) (B.n 0) (B.cap 0),.slice (B.sl 1) (B.n 1) (B.cap 1),.int .i64 B.places]
structure aX(w:World)(bb:Nat)(B:Bk)(om:Nat→Ord):Prop where
 blk:ai w bb B.cells 158
 side:∀s,s<2→gG w (B.sl s) (B.n s) (B.cap s) (B.h s) om
 apart:∀a,iP (B.sl 0)=some a→iP (B.sl 1)≠some a
 sZ:∀k j,k<B.n 0→j<B.n 1→B.h 0 k≠B.h 1 j
theorem aX.kept{w w':World}{bb:Nat}{B:Bk}{om:Nat→Ord}(hb:aX w bb B om){S:Nat→Prop}(k:ag S w w')(hS:∀b,(b=bb∨∃s,s<2∧(iP (B.sl s)=some b∨∃k,k<B.n s∧b=B.h s k))→¬S b):aX w' bb B om :=
 ⟨k.blk hb.blk (hS _ (.inl rfl)),fun s hs=>(hb.side s hs).kept k (fun b h=>hS b (.inr ⟨s,hs,h⟩)),hb.apart,hb.sZ⟩
theorem Bk.rJ(B:Bk){s:Nat}(hs:s<2):B.cells[1+s]?=some (.slice (B.sl s) (B.n s) (B.cap s)):=by
 have:s=0∨s=1:=by omega
 rcases this with rfl | rfl <;> rfl
theorem aX.Eu{w:World}{bb:Nat}{B:Bk}{om:Nat→Ord}(hb:aX w bb B om){s:Nat}(hs:s<2):w.cell? ⟨bb,1+s,none⟩=some (.slice (B.sl s) (B.n s) (B.cap s)):=(hb.blk.cell _).trans (B.rJ hs)
def bK(B:Bk)(om:Nat→Ord)(o:Ask)(s:Nat):Option Nat:=if B.n s=0 then none else if eQ o.kind o.side o.price (om (B.h s 0)).price=true then some (B.h s 0) else none
def fV:Option Nat→Value
 | none=>.pointer none
 | some b=>.pointer (some ⟨b,0,none⟩)
theorem iY(bb:Nat)(B:Bk)(om:Nat→Ord)(o:Ask)(s:Nat)(w:World)(hb:aX w bb B om)(hs:s<2)(ho:o.side=1-(s:Int)) :
 Calls Tryz.prog 123 #[.pointer (some ⟨bb,0,none⟩),o.val] w fun e w'=>e=.returned (fV (bK B om o s))∧ag ak w w':=by
 have hlt:=hb.blk.lt
 have hsd:=hb.side s hs
 by_cases hn:B.n s=0
 ·have e1:((B.n s:Int) == 0)=true:=by simp[hn]
  have HF:Hid (bK B om o s=none):=by show _=_;unfold bK;rw[if_pos hn]
  obtain⟨id,owner,sym,side,kind,price,qty⟩:=o
  simp only at ho
  subst ho
  simp only[Ask.val]
  clear hn
  have:s=0∨s=1:=by omega
  rcases this with rfl | rfl
  ·have hcs:w.cell? ⟨bb,1,none⟩=some (.slice (B.sl 0) (B.n 0) (B.cap 0)):=hb.blk.cell 1
   go_enter Tryz.func123,Tryz.ntmps123
   go_wp2
   go_quiet ((go_at_call 154;exact Calls.quiet_of_same (jT _ _ (by omega) (by omega))))
   go_wp2
   go_quiet (fail)
   go_wp2
   go_ret
   exact⟨by rw[HF.out];rfl,(by repeat (first | exact ag.refl _ _ | refine ag.drewN ?_ _ | refine ag.drew ?_ | refine ag.alloc ?_ _))⟩
  ·have hcs:w.cell? ⟨bb,2,none⟩=some (.slice (B.sl 1) (B.n 1) (B.cap 1)):=hb.blk.cell 2
   go_enter Tryz.func123,Tryz.ntmps123
   go_wp2
   go_quiet ((go_at_call 154;exact Calls.quiet_of_same (jT _ _ (by omega) (by omega))))
   go_wp2
   go_quiet (fail)
   go_wp2
   go_ret
   exact⟨by rw[HF.out];rfl,(by repeat (first | exact ag.refl _ _ | refine ag.drewN ?_ _ | refine ag.drew ?_ | refine ag.alloc ?_ _))⟩
 ·have e1:((B.n s:Int) == 0)=false:=by simp;omega
  rcases hsd with⟨_,h0,_⟩ | ⟨ab,hab,hsd⟩
  ·exact absurd h0 hn
  obtain⟨cs,ha,hc,hp⟩:=hsd.arr
  have ca:=(ha.cell 0).trans (hp 0 (by omega))
  have cp:=(hsd.ord 0 (by omega)).cell 5
  simp only[Ord.cells]at cp
  simp at cp
  have n0:0<B.n s:=by omega
  have la:=ha.lt
  have ho0:=hsd.ord 0 (by omega)
  have lo:=ho0.lt
  have HP:=hp 0 (by omega)
  clear hp hc hsd
  obtain⟨id,owner,sym,side,kind,price,qty⟩:=o
  simp only at ho
  subst ho
  simp only[Ask.val]
  cases hg:eQ kind (1-(s:Int)) price (om (B.h s 0)).price
  ·have HF:Hid (bK B om ⟨id,owner,sym,1-(s:Int),kind,price,qty⟩ s=none):=by show _=_;unfold bK;rw[if_neg hn,if_neg (by simp[hg])]
   clear hn
   have:s=0∨s=1:=by omega
   rcases this with rfl | rfl
   ·have GG:eQ kind 1 price (om (B.h 0 0)).price=false:=hg
    clear hg
    have hcs:w.cell? ⟨bb,1,none⟩=some (.slice (some ⟨ab,0,none⟩) (B.n 0) (B.cap 0)):=(hb.blk.cell 1).trans (by rw[←hab];rfl)
    go_enter Tryz.func123,Tryz.ntmps123
    go_wp2
    go_quiet ((go_at_call 154;exact Calls.quiet_of_same (jT _ _ (by omega) (by omega))))
    go_wp2
    go_region_held3 (fun w'=>w'.cell? ⟨w.heap.size,0,none⟩=some (.int .i64 id)∧w'.cell? ⟨w.heap.size,1,none⟩=some (.int .i64 owner)∧w'.cell? ⟨w.heap.size,2,none⟩=some (.string sym)∧w'.cell? ⟨w.heap.size,3,none⟩=some (.int .i64 1)∧w'.cell? ⟨w.heap.size,4,none⟩=some (.int .i64 kind)∧w'.cell? ⟨w.heap.size,5,none⟩=some (.int .i64 price)∧w'.cell? ⟨w.heap.size,6,none⟩=some (.int .i64 qty)∧w'.cell? ⟨ab,0,none⟩=some (.pointer (some ⟨B.h 0 0,0,none⟩))∧w'.cell? ⟨B.h 0 0,5,none⟩=some (.int .i64 (om (B.h 0 0)).price)) (go_keep)
     (first | (go_at_call 155;refine (ng ⟨id,owner,sym,1,kind,price,qty⟩ _ _).mono ?_;rintro e w2 ⟨rfl,hc2⟩;rw[GG];have k0:=hc2.cell (p:=⟨w.heap.size,0,none⟩) ((ai.new w _ _).cell 0) (fun x=>x);have k1:=hc2.cell (p:=⟨w.heap.size,1,none⟩) ((ai.new w _ _).cell 1) (fun x=>x);have k2:=hc2.cell (p:=⟨w.heap.size,2,none⟩) ((ai.new w _ _).cell 2) (fun x=>x);have k3:=hc2.cell (p:=⟨w.heap.size,3,none⟩) ((ai.new w _ _).cell 3) (fun x=>x);have k4:=hc2.cell (p:=⟨w.heap.size,4,none⟩) ((ai.new w _ _).cell 4) (fun x=>x);have k5:=hc2.cell (p:=⟨w.heap.size,5,none⟩) ((ai.new w _ _).cell 5) (fun x=>x);have k6:=hc2.cell (p:=⟨w.heap.size,6,none⟩) ((ai.new w _ _).cell 6) (fun x=>x);have k7:=hc2.cell (p:=⟨ab,0,none⟩) (((ha.alloc _).cell 0).trans HP) (fun x=>x);have k8:w2.cell? ⟨B.h 0 0,5,none⟩=some (.int .i64 (om (B.h 0 0)).price):=hc2.cell (p:=⟨B.h 0 0,5,none⟩) ((ho0.alloc _).cell 5) (fun x=>x)))
    go_wp2
    go_ret
    exact⟨by rw[HF.out];rfl,ag.trans (by repeat (first | exact ag.refl _ _ | refine ag.drewN ?_ _ | refine ag.drew ?_ | refine ag.alloc ?_ _)) hc2⟩
   ·have GG:eQ kind 0 price (om (B.h 1 0)).price=false:=hg
    clear hg
    have hcs:w.cell? ⟨bb,2,none⟩=some (.slice (some ⟨ab,0,none⟩) (B.n 1) (B.cap 1)):=(hb.blk.cell 2).trans (by rw[←hab];rfl)
    go_enter Tryz.func123,Tryz.ntmps123
    go_wp2
    go_quiet ((go_at_call 154;exact Calls.quiet_of_same (jT _ _ (by omega) (by omega))))
    go_wp2
    go_region_held3 (fun w'=>w'.cell? ⟨w.heap.size,0,none⟩=some (.int .i64 id)∧w'.cell? ⟨w.heap.size,1,none⟩=some (.int .i64 owner)∧w'.cell? ⟨w.heap.size,2,none⟩=some (.string sym)∧w'.cell? ⟨w.heap.size,3,none⟩=some (.int .i64 0)∧w'.cell? ⟨w.heap.size,4,none⟩=some (.int .i64 kind)∧w'.cell? ⟨w.heap.size,5,none⟩=some (.int .i64 price)∧w'.cell? ⟨w.heap.size,6,none⟩=some (.int .i64 qty)∧w'.cell? ⟨ab,0,none⟩=some (.pointer (some ⟨B.h 1 0,0,none⟩))∧w'.cell? ⟨B.h 1 0,5,none⟩=some (.int .i64 (om (B.h 1 0)).price)) (go_keep)
     (first | (go_at_call 155;refine (ng ⟨id,owner,sym,0,kind,price,qty⟩ _ _).mono ?_;rintro e w2 ⟨rfl,hc2⟩;rw[GG];have k0:=hc2.cell (p:=⟨w.heap.size,0,none⟩) ((ai.new w _ _).cell 0) (fun x=>x);have k1:=hc2.cell (p:=⟨w.heap.size,1,none⟩) ((ai.new w _ _).cell 1) (fun x=>x);have k2:=hc2.cell (p:=⟨w.heap.size,2,none⟩) ((ai.new w _ _).cell 2) (fun x=>x);have k3:=hc2.cell (p:=⟨w.heap.size,3,none⟩) ((ai.new w _ _).cell 3) (fun x=>x);have k4:=hc2.cell (p:=⟨w.heap.size,4,none⟩) ((ai.new w _ _).cell 4) (fun x=>x);have k5:=hc2.cell (p:=⟨w.heap.size,5,none⟩) ((ai.new w _ _).cell 5) (fun x=>x);have k6:=hc2.cell (p:=⟨w.heap.size,6,none⟩) ((ai.new w _ _).cell 6) (fun x=>x);have k7:=hc2.cell (p:=⟨ab,0,none⟩) (((ha.alloc _).cell 0).trans HP) (fun x=>x);have k8:w2.cell? ⟨B.h 1 0,5,none⟩=some (.int .i64 (om (B.h 1 0)).price):=hc2.cell (p:=⟨B.h 1 0,5,none⟩) ((ho0.alloc _).cell 5) (fun x=>x)))
    go_wp2
    go_ret
    exact⟨by rw[HF.out];rfl,ag.trans (by repeat (first | exact ag.refl _ _ | refine ag.drewN ?_ _ | refine ag.drew ?_ | refine ag.alloc ?_ _)) hc2⟩
  ·have HF:Hid (bK B om ⟨id,owner,sym,1-(s:Int),kind,price,qty⟩ s=some (B.h s 0)):=by show _=_;unfold bK;rw[if_neg hn,if_pos hg]
   clear hn
   have:s=0∨s=1:=by omega
   rcases this with rfl | rfl
   ·have GG:eQ kind 1 price (om (B.h 0 0)).price=true:=hg
    clear hg
    have hcs:w.cell? ⟨bb,1,none⟩=some (.slice (some ⟨ab,0,none⟩) (B.n 0) (B.cap 0)):=(hb.blk.cell 1).trans (by rw[←hab];rfl)
    go_enter Tryz.func123,Tryz.ntmps123
    go_wp2
    go_quiet ((go_at_call 154;exact Calls.quiet_of_same (jT _ _ (by omega) (by omega))))
    go_wp2
    go_region_held3 (fun w'=>w'.cell? ⟨w.heap.size,0,none⟩=some (.int .i64 id)∧w'.cell? ⟨w.heap.size,1,none⟩=some (.int .i64 owner)∧w'.cell? ⟨w.heap.size,2,none⟩=some (.string sym)∧w'.cell? ⟨w.heap.size,3,none⟩=some (.int .i64 1)∧w'.cell? ⟨w.heap.size,4,none⟩=some (.int .i64 kind)∧w'.cell? ⟨w.heap.size,5,none⟩=some (.int .i64 price)∧w'.cell? ⟨w.heap.size,6,none⟩=some (.int .i64 qty)∧w'.cell? ⟨ab,0,none⟩=some (.pointer (some ⟨B.h 0 0,0,none⟩))∧w'.cell? ⟨B.h 0 0,5,none⟩=some (.int .i64 (om (B.h 0 0)).price)) (go_keep)
     (first | (go_at_call 155;refine (ng ⟨id,owner,sym,1,kind,price,qty⟩ _ _).mono ?_;rintro e w2 ⟨rfl,hc2⟩;rw[GG];have k0:=hc2.cell (p:=⟨w.heap.size,0,none⟩) ((ai.new w _ _).cell 0) (fun x=>x);have k1:=hc2.cell (p:=⟨w.heap.size,1,none⟩) ((ai.new w _ _).cell 1) (fun x=>x);have k2:=hc2.cell (p:=⟨w.heap.size,2,none⟩) ((ai.new w _ _).cell 2) (fun x=>x);have k3:=hc2.cell (p:=⟨w.heap.size,3,none⟩) ((ai.new w _ _).cell 3) (fun x=>x);have k4:=hc2.cell (p:=⟨w.heap.size,4,none⟩) ((ai.new w _ _).cell 4) (fun x=>x);have k5:=hc2.cell (p:=⟨w.heap.size,5,none⟩) ((ai.new w _ _).cell 5) (fun x=>x);have k6:=hc2.cell (p:=⟨w.heap.size,6,none⟩) ((ai.new w _ _).cell 6) (fun x=>x);have k7:=hc2.cell (p:=⟨ab,0,none⟩) (((ha.alloc _).cell 0).trans HP) (fun x=>x);have k8:w2.cell? ⟨B.h 0 0,5,none⟩=some (.int .i64 (om (B.h 0 0)).price):=hc2.cell (p:=⟨B.h 0 0,5,none⟩) ((ho0.alloc _).cell 5) (fun x=>x)))
    go_wp2
    go_ret
    exact⟨by rw[HF.out];rfl,ag.trans (by repeat (first | exact ag.refl _ _ | refine ag.drewN ?_ _ | refine ag.drew ?_ | refine ag.alloc ?_ _)) hc2⟩
   ·have GG:eQ kind 0 price (om (B.h 1 0)).price=true:=hg
    clear hg
    have hcs:w.cell? ⟨bb,2,none⟩=some (.slice (some ⟨ab,0,none⟩) (B.n 1) (B.cap 1)):=(hb.blk.cell 2).trans (by rw[←hab];rfl)
    go_enter Tryz.func123,Tryz.ntmps123
    go_wp2
    go_quiet ((go_at_call 154;exact Calls.quiet_of_same (jT _ _ (by omega) (by omega))))
    go_wp2
    go_region_held3 (fun w'=>w'.cell? ⟨w.heap.size,0,none⟩=some (.int .i64 id)∧w'.cell? ⟨w.heap.size,1,none⟩=some (.int .i64 owner)∧w'.cell? ⟨w.heap.size,2,none⟩=some (.string sym)∧w'.cell? ⟨w.heap.size,3,none⟩=some (.int .i64 0)∧w'.cell? ⟨w.heap.size,4,none⟩=some (.int .i64 kind)∧w'.cell? ⟨w.heap.size,5,none⟩=some (.int .i64 price)∧w'.cell? ⟨w.heap.size,6,none⟩=some (.int .i64 qty)∧w'.cell? ⟨ab,0,none⟩=some (.pointer (some ⟨B.h 1 0,0,none⟩))∧w'.cell? ⟨B.h 1 0,5,none⟩=some (.int .i64 (om (B.h 1 0)).price)) (go_keep)
     (first | (go_at_call 155;refine (ng ⟨id,owner,sym,0,kind,price,qty⟩ _ _).mono ?_;rintro e w2 ⟨rfl,hc2⟩;rw[GG];have k0:=hc2.cell (p:=⟨w.heap.size,0,none⟩) ((ai.new w _ _).cell 0) (fun x=>x);have k1:=hc2.cell (p:=⟨w.heap.size,1,none⟩) ((ai.new w _ _).cell 1) (fun x=>x);have k2:=hc2.cell (p:=⟨w.heap.size,2,none⟩) ((ai.new w _ _).cell 2) (fun x=>x);have k3:=hc2.cell (p:=⟨w.heap.size,3,none⟩) ((ai.new w _ _).cell 3) (fun x=>x);have k4:=hc2.cell (p:=⟨w.heap.size,4,none⟩) ((ai.new w _ _).cell 4) (fun x=>x);have k5:=hc2.cell (p:=⟨w.heap.size,5,none⟩) ((ai.new w _ _).cell 5) (fun x=>x);have k6:=hc2.cell (p:=⟨w.heap.size,6,none⟩) ((ai.new w _ _).cell 6) (fun x=>x);have k7:=hc2.cell (p:=⟨ab,0,none⟩) (((ha.alloc _).cell 0).trans HP) (fun x=>x);have k8:w2.cell? ⟨B.h 1 0,5,none⟩=some (.int .i64 (om (B.h 1 0)).price):=hc2.cell (p:=⟨B.h 1 0,5,none⟩) ((ho0.alloc _).cell 5) (fun x=>x)))
    go_wp2
    go_ret
    exact⟨by rw[HF.out];rfl,ag.trans (by repeat (first | exact ag.refl _ _ | refine ag.drewN ?_ _ | refine ag.drew ?_ | refine ag.alloc ?_ _)) hc2⟩
end Go.Proofs.YtigaphnafnpfnaaGreatDoor
