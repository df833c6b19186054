import Derived.Test.YtigaphnafnpfnaaGreatDoorQVW
import Derived.Sort.Grow
set_option linter.unusedVariables false
set_option linter.unusedSimpArgs false
set_option maxHeartbeats 8000000
set_option maxRecDepth 100000
namespace Go.Proofs.YtigaphnafnpfnaaGreatDoor
open Go.RowKit
def iU(w:World)(s:Option Addr)(n cap:Nat)(h:Nat->Nat)(om:Nat->Ord):Prop :=
 (s=none/\n=0/\cap=0)\/∃ab,s=some ⟨ab,0,none⟩/\jJ w ab cap n h om
def uP(n:Nat)(h:Nat->Nat):List Value:=(List.range n).map fun k=>.pointer (some ⟨h k,0,none⟩)
theorem iU.owns{w:World}{s:Option Addr}{n cap:Nat}{h:Nat->Nat}{om:Nat->Ord}(hs:iU w s n cap h om):w.ownsRow 0 114 1 (.slice s n cap) n (uP n h):=by
 refine⟨by simp[uP],?_⟩
 rcases hs with⟨rfl,rfl,rfl⟩|⟨ab,rfl,hs⟩
 ·exact .inl ⟨rfl,rfl⟩
 ·right
  obtain⟨cs,hb,hc,hp⟩:=hs.oH
  have hle:=hs.le
  refine⟨ab,cap,cs,rfl,Nat.zero_le _,hb,hs.le,hs.Md,by omega,?_⟩
  apply List.ext_getElem?
  intro i
  by_cases hi:i<n
  ·rw[List.getElem?_take_of_lt (by omega),Array.getElem?_toList,hp i hi]
   simp[uP,hi]
  ·rw[List.getElem?_eq_none (by simp;omega),List.getElem?_eq_none (by simp[uP];omega)]
theorem JS{w:World}{g n cap:Nat}{h:Nat->Nat}(ho:w.ownsRow 0 114 1 (.slice (some ⟨g,0,none⟩) n cap) n (uP n h)) :
 n<=cap/\cap<=maxLen/\∃cs,az w g cs 114/\cs.size=cap/\∀i,i<n->cs[i]?=some (.pointer (some ⟨h i,0,none⟩)):=by
 rcases ho.2 with⟨h1,_⟩|⟨g',cap',cur,h1,_,hg,hn,hc,hs,ht⟩
 ·simp at h1
 ·simp at h1
  obtain⟨rfl,rfl⟩:=h1
  refine⟨hn,hc,cur,hg,by omega,fun i hi=>?_⟩
  have:(cur.toList.take (n * 1))[i]?=(uP n h)[i]?:=by rw[ht]
  rw[List.getElem?_take_of_lt (by omega),Array.getElem?_toList]at this
  rw[this]
  simp[uP,hi]
theorem NJ(n:Nat)(h:Nat->Nat)(ob:Nat):uP n h++[.pointer (some ⟨ob,0,none⟩)]=uP (n+1) (fun k=>if k=n then ob else h k):=by
 simp only[uP,List.range_succ,List.map_append,List.map_cons,List.map_nil,if_true]
 congr 1
 apply List.map_congr_left
 intro k hk
 simp at hk
 rw[if_neg (by omega)]
def gG:Option Addr->Option Nat
 | some a=>some a.block
 | none=>none
theorem Xz:∃i,Tryz.prog.info? 114=some i/\i.zero=some (.pointer none)/\i.size=1/\i.bytes=8:=by
 have h:(Tryz.prog.info? 114).map (fun i=>(i.zero,i.size,i.bytes))=some (some (.pointer none),1,8):=by kernel_rfl
 exact info_parts h
theorem iU.aC{w w':World}{s:Option Addr}{n cap:Nat}{h:Nat->Nat}{om:Nat->Ord}(hs:iU w s n cap h om){S:Nat->Prop}(k:au S w w')(hS:∀b,(gG s=some b\/∃k,k<n/\b=h k)->¬S b):iU w' s n cap h om:=by
 rcases hs with hs|⟨ab,rfl,hs⟩
 ·exact .inl hs
 ·refine .inr ⟨ab,rfl,hs.aC k (fun b hb=>hS b ?_)⟩
  rcases hb with rfl|hb
  ·exact .inl rfl
  ·exact .inr hb
theorem iU.ne{w:World}{s:Option Addr}{n cap:Nat}{h:Nat->Nat}{om:Nat->Ord}(hs:iU w s n cap h om){b:Nat}{c:Array Value}{t:TypeId}(hb:az w b c t)(ht:t≠114):gG s≠some b:=by
 rcases hs with⟨rfl,_⟩|⟨ab,rfl,hs⟩
 ·simp[gG]
 ·obtain⟨cs,hc,_⟩:=hs.oH
  intro e
  simp[gG]at e
  exact az.ne hb hc ht e.symm
theorem iU.lt{w:World}{s:Option Addr}{n cap:Nat}{h:Nat->Nat}{om:Nat->Ord}(hs:iU w s n cap h om){b:Nat}(e:gG s=some b):b<w.heap.size:=by
 rcases hs with⟨rfl,_⟩|⟨ab,rfl,hs⟩
 ·simp[gG]at e
 ·obtain⟨cs,hc,_⟩:=hs.oH
  simp[gG]at e
  exact e▸hc.lt
theorem iU.bg{w:World}{s:Option Addr}{n cap:Nat}{h:Nat->Nat}{om:Nat->Ord}(hs:iU w s n cap h om){i:Nat}(hi:i<n):df w (h i) (om (h i)) i:=by
 rcases hs with⟨rfl,rfl,_⟩|⟨ab,rfl,hs⟩
 ·omega
 ·exact hs.ord i hi
theorem abK(s:Option Addr)(n cap:Nat):(Value.slice s n cap).ownBlock=gG s:=by cases s <;> rfl
theorem OU(v:Value)(w:World):Sem.run Tryz.prog (Instr.typeAssert (.iface 114 v) 20 114 false) w=.ok v w:=by kernel_rfl
theorem QP(bb so ob n cap:Nat)(s:Option Addr)(bc:Array Value)(h:Nat->Nat)(om:Nat->Ord)(ix:Int)(w:World)(hbk:az w bb bc 158)(hso:bc[so]?=some (.slice s n cap))(hsd:iU w s n cap h om)
 (ho:df w ob (om ob) ix) (hnew:∀k,k<n->h k≠ob) (hn:n<1000) :
 Calls Tryz.prog 260 #[.pointer (some ⟨bb,so,none⟩),.iface 114 (.pointer (some ⟨ob,0,none⟩))] w fun e w'=>e=.returned (.tuple #[]) /\
  ∃g cap',az w' bb (bc.setIfInBounds so (.slice (some ⟨g,0,none⟩) (n+1) cap')) 158/\jJ w' g cap' (n+1) (fun k=>if k=n then ob else h k) om/\au (fun b=>b=bb\/b=ob\/gG s=some b) w w'/\(gG s=some g\/w.heap.size<=g):=by
 have cb:=(hbk.cell so).trans hso
 have fb:=hbk.frozen so
 have co:=ho.cell 13
 simp only[Ord.cells]at co
 simp at co
 have fo:=ho.frozen 13
 have hne:ob≠bb:=az.ne ho hbk (by decide)
 have hown:=hsd.owns
 obtain⟨i0,hi,hz0,hz1,hz2⟩:=Xz
 have cb1:(w.setCell ⟨ob,13,none⟩ (.int .i64 n)).cell? ⟨bb,so,none⟩=some (.slice s n cap):=((hbk.other (a:=⟨ob,13,none⟩) (fun e=>hne e.symm) _).cell so).trans hso
 have hta:=OU (.pointer (some ⟨ob,0,none⟩)) w
 have HO:Hid (w.ownsRow 0 114 1 (.slice s n cap) n (uP n h)):=hown
 clear hown
 have hc1:au (fun b=>b=ob) w ((w.setCell ⟨ob,13,none⟩ (.int .i64 n)).alloc (.cells #[.pointer (some ⟨ob,0,none⟩)] 114)):=((au.refl (fun b=>b=ob) w).setCell (p:=⟨ob,13,none⟩) (.inl rfl) _).alloc _
 have hsd1:=hsd.aC hc1 (fun b hb e=>by
  subst e
  rcases hb with hb|⟨k,hk,hb⟩
  ·exact hsd.ne ho (by decide) hb
  ·exact hnew k hk hb.symm)
 have ho1:=(ho.set 13 (.int .i64 n)).alloc (.cells #[.pointer (some ⟨ob,0,none⟩)] 114)
 have hb1:=hc1.aB hbk (fun e=>hne e.symm)
 go_enter Tryz.func260,Tryz.ntmps260
 go_wp2_with (at_builtin;refine wpList_append_lies _ rfl _ _ _ rfl 0 114 i0 (.pointer none) 1 8 Tryz.underlying155 hi hz0 hz1 hz2 rfl (by omega) (.slice s n cap) n (uP n h) rfl ?hown ⟨w.heap.size,0,none⟩ 1 1 [.pointer (some ⟨ob,0,none⟩)] rfl rfl ?hnews ?hone (by omega) ?h63 ?hbytes (by omega) (w.heap.size+1) ?hH ?hrest)
 case hown=>exact hsd1.owns
 case hnews =>
  have e:=cell_one_new (w.setCell ⟨ob,13,none⟩ (.int .i64 n)) (.pointer (some ⟨ob,0,none⟩)) 114
  have e2:(w.setCell ⟨ob,13,none⟩ (.int .i64 n)).heap.size=w.heap.size:=by simp[World.setCell]
  rw[e2]at e
  exact e
 case hone=>intro u hu;simp at hu;subst hu;rfl
 case h63=>unfold maxLen;omega
 case hbytes=>omega
 case hH=>simp
 case hrest =>
  intro g cap1 w2 hown2 hgrow hat hlt
  rw[abK]at hgrow hat
  have hnb:some bb≠gG s:=fun e=>hsd.ne hbk (by decide) e.symm
  have hno:some ob≠gG s:=fun e=>hsd.ne ho (by decide) e.symm
  have hc2:=au.grown (S:=fun b=>b=bb\/b=ob\/gG s=some b) (hc1.mono (fun b hb=>.inr (.inl hb))) hgrow (fun k e=>.inl (.inr (.inr e)))
  have hb2:az w2 bb bc 158:=(hgrow.block bb hb1.lt hnb).trans hb1
  have ho2:az w2 ob _ 116:=(hgrow.block ob ho1.lt hno).trans ho1
  have hor:∀k,k<n->df w2 (h k) (om (h k)) k:=fun k hk=>(hgrow.block (h k) (hsd1.bg hk).lt (fun e=>hsd1.ne (hsd1.bg hk) (by decide) e.symm)).trans (hsd1.bg hk)
  have cb2:=(hb2.cell so).trans hso
  have fb2:=hb2.frozen so
  have HW:=ai hown2
  clear cb1 cb fb hta hown2
  go_wp2
  go_end0
  refine⟨rfl,g,cap1,hb2.set so _,?_,hc2.setCell (.inl (.inl rfl)) _,?_⟩
  ·obtain⟨h1,h2,cs,h3,h4,h5⟩:=JS (h:=fun k=>if k=n then ob else h k) (by rw[<-NJ];exact ae HW)
   refine⟨⟨cs,h3.other ?_ _,h4,h5⟩,?_,h1,by omega,h2⟩
   ·exact Ne.symm (az.ne hb2 h3 (by decide))
   ·intro i hi
    by_cases e:i=n
    ·subst e
     rw[if_pos rfl]
     exact ho2.other hne _
    ·rw[if_neg e]
     exact (hor i (by omega)).other (az.ne (hor i (by omega)) hb2 (by decide)) _
  ·rcases hat with hat|hat
   ·exact .inl hat
   ·right;omega
theorem EF(bb so ab n cap:Nat)(bc:Array Value)(h:Nat->Nat)(om:Nat->Ord)(w:World)(hbk:az w bb bc 158)(hso:bc[so]?=some (.slice (some ⟨ab,0,none⟩) (n+1) cap))(hsd:jJ w ab cap (n+1) h om) :
 Calls Tryz.prog 259 #[.pointer (some ⟨bb,so,none⟩)] w fun e w'=>e=.returned (.iface 114 (.pointer (some ⟨h n,0,none⟩))) /\
  az w' bb (bc.setIfInBounds so (.slice (some ⟨ab,0,none⟩) n cap)) 158/\jJ w' ab cap n h om/\df w' (h n) (om (h n)) n/\au (fun b=>b=bb\/b=ab) w w':=by
 have cb:=(hbk.cell so).trans hso
 have fb:=hbk.frozen so
 obtain⟨cs,hb,hc,hp⟩:=hsd.oH
 have ca:=(hb.cell n).trans (hp n (by omega))
 have fa:=hb.frozen n
 have hne:ab≠bb:=az.ne hb hbk (by decide)
 have hsm:=hsd.small
 have hle:=hsd.le
 have n0:(0:Int)<=(n:Int):=by omega
 have n1:(n:Int)<(n:Int)+1:=by omega
 have n2:(n:Int)<=(cap:Int):=by omega
 have cb1:(w.setCell ⟨ab,n,none⟩ (.pointer none)).cell? ⟨bb,so,none⟩=some (.slice (some ⟨ab,0,none⟩) (n+1) cap):=((hbk.other (a:=⟨ab,n,none⟩) (fun e=>hne e.symm) _).cell so).trans hso
 have fb1:(w.setCell ⟨ab,n,none⟩ (.pointer none)).frozen? ⟨bb,so,none⟩=false:=(hbk.other (a:=⟨ab,n,none⟩) (fun e=>hne e.symm) _).frozen so
 have HC:Hid (cs.size=cap/\∀i,i<n+1->cs[i]?=some (.pointer (some ⟨h i,0,none⟩))):=⟨hc,hp⟩
 clear hp hc
 go_enter Tryz.func259,Tryz.ntmps259
 go_wp2
 go_ret
 refine⟨rfl,(hbk.other (fun e=>hne e.symm) _).set so _,?_,?_,?_⟩
 ·refine⟨⟨_,(hb.set n _).other hne _,by simpa using HC.out.1,fun i hi=>?_⟩,fun i hi=>?_,by omega,by omega,hsd.Md⟩
  ·rw[Array.getElem?_setIfInBounds_ne (by omega)]
   exact HC.out.2 i (by omega)
  ·exact ((hsd.ord i (by omega)).other (az.ne (hsd.ord i (by omega)) hb (by decide)) _).other (az.ne (hsd.ord i (by omega)) hbk (by decide)) _
 ·exact ((hsd.ord n (by omega)).other (az.ne (hsd.ord n (by omega)) hb (by decide)) _).other (az.ne (hsd.ord n (by omega)) hbk (by decide)) _
 ·exact ((au.refl (fun b=>b=bb\/b=ab) w).setCell (p:=⟨ab,n,none⟩) (.inl (.inr rfl)) _).setCell (p:=⟨bb,so,none⟩) (.inl (.inl rfl)) _
theorem OT{s:Option Addr}{ab:Nat}(h:s=some ⟨ab,0,none⟩):gG s=some ab:=by subst h;rfl
theorem MX(bb so ob n cap:Nat)(s:Option Addr)(bc:Array Value)(h:Nat->Nat)(om:Nat->Ord)(ix:Int)(w:World)(hbk:az w bb bc 158)(hso:bc[so]?=some (.slice s n cap))(hsd:iU w s n cap h om)
 (ho:df w ob (om ob) ix) (hnew:∀k,k<n->h k≠ob) (hn:n<1000) :
 Calls Tryz.prog 150 #[.iface 216 (.pointer (some ⟨bb,so,none⟩)),.iface 114 (.pointer (some ⟨ob,0,none⟩))] w fun e w'=>e=.returned (.tuple #[]) /\
  ∃g cap',az w' bb (bc.setIfInBounds so (.slice (some ⟨g,0,none⟩) (n+1) cap')) 158/\jJ w' g cap' (n+1) (tV (fG om) (fun k=>if k=n then ob else h k) n) om /\
   au (fun b=>b=bb\/b=ob\/gG s=some b\/∃k,k<n/\b=h k) w w'/\(gG s=some g\/w.heap.size<=g):=by
 have hm:=Qu ⟨bb,so,none⟩ w
 have hlt:so<bc.size:=(Array.getElem?_eq_some_iff.1 hso).1
 go_enter Tryz.func150,Tryz.ntmps150
 go_wp2_with fail
 refine (QP bb so ob n cap s bc h om ix w hbk hso hsd ho hnew hn).mono ?_
 rintro e w1 ⟨rfl,g,cap1,hb1,hs1,hc1,hg1⟩
 have ZY:(bc.setIfInBounds so (.slice (some ⟨g,0,none⟩) (n+1) cap1))[so]?=some (.slice (some ⟨g,0,none⟩) (n+1) cap1):=Array.getElem?_setIfInBounds_self_of_lt hlt
 have hm1:=La ⟨bb,so,none⟩ w1 (some ⟨g,0,none⟩) (n+1) cap1 ((hb1.cell so).trans ZY)
 clear hm
 go_wp2_with fail
 refine (Eh (some ⟨g,0,none⟩) (n+1) cap1 w1).mono ?_
 rintro e w2 ⟨rfl,rfl⟩
 clear hm1
 have e1:(((n+1:Nat):Int)-1)=(n:Int):=by omega
 go_wp2_with fail
 refine (RQ bb so g cap1 (n+1) n _ _ om _ hb1 ZY hs1 (by omega)).mono ?_
 rintro e w3 ⟨rfl,hs3,hc3⟩
 go_wp2
 go_end0
 have hnb:¬Sd g (n+1) (fun k=>if k=n then ob else h k) bb:=by
  rintro (rfl|⟨k,hk,rfl⟩)
  ·obtain⟨cs,hb,_⟩:=hs1.oH
   exact az.ne hb1 hb (by decide) rfl
  ·exact az.ne hb1 (hs1.ord k hk) (by decide) rfl
 refine⟨rfl,g,cap1,hc3.aB hb1 hnb,hs3,?_,hg1⟩
 refine au.from (hc1.mono (fun b hb=>by rcases hb with h|h|h;exact .inl h;exact .inr (.inl h);exact .inr (.inr (.inl h)))) (hc3.mono ?_)
 rintro b (rfl|⟨k,hk,rfl⟩)
 ·rcases hg1 with h|h
  ·exact .inl (.inr (.inr (.inl h)))
  ·exact .inr h
 ·left
  by_cases e:k=n
  ·exact .inr (.inl (by simp[e]))
  ·exact .inr (.inr (.inr ⟨k,by omega,by simp[e]⟩))
def dZ(lt:Nat->Nat->Bool)(h:Nat->Nat)(n i:Nat):Nat->Nat :=
 if i=n then h else if i<(dW lt n (sw h i n) i).2 then (dW lt n (sw h i n) i).1 else tV lt (dW lt n (sw h i n) i).1 i
theorem jC{h:Nat->Nat}{i j k:Nat}(h1:k≠i)(h2:k≠j):sw h i j k=h k:=by unfold sw;rw[if_neg h1,if_neg h2]
theorem MJ{lt:Nat->Nat->Bool}{n:Nat}{k:Nat}(hk:n<=k)(h:Nat->Nat)(i:Nat):(dW lt n h i).1 k=h k:=by
 fun_induction dW lt n h i with
 | case1 h i hn _ hl ih =>
   rw[ih]
   have:=pg lt n h i hn
   exact jC (by omega) (by omega)
 | case2=>rfl
 | case3=>rfl
theorem UO{lt:Nat->Nat->Bool}{k:Nat}(h:Nat->Nat)(j:Nat)(hk:j<k):(tV lt h j) k=h k:=by
 fun_induction tV lt h j with
 | case1=>rfl
 | case2 h j hj hl ih =>
   rw[ih (by omega)]
   exact jC (by omega) (by omega)
 | case3=>rfl
theorem qA{lt:Nat->Nat->Bool}{h:Nat->Nat}{n i:Nat}(hi:i<=n):dZ lt h n i n=h i:=by
 unfold dZ
 split
 ·rename_i e;rw[e]
 ·have h1:(dW lt n (sw h i n) i).1 n=h i:=by
   rw[MJ (Nat.le_refl _)]
   unfold sw
   rw[if_neg (by omega),if_pos rfl]
  split
  ·exact h1
  ·rw[UO _ _ (by omega)];exact h1
theorem Tm{lt:Nat->Nat->Bool}{ab N n:Nat}{h:Nat->Nat}{i:Nat}(hi:i<=n)(hn:n<=N):Sd ab N (dW lt n h i).1=Sd ab N h:=by
 fun_induction dW lt n h i with
 | case1 h i hn' _ hl ih =>
   have:=pg lt n h i hn'
   rw[ih (by omega),yX (by omega) (by omega)]
 | case2=>rfl
 | case3=>rfl
theorem JY(bb so ab n cap i:Nat)(bc:Array Value)(h:Nat->Nat)(om:Nat->Ord)(w:World)(hbk:az w bb bc 158)(hso:bc[so]?=some (.slice (some ⟨ab,0,none⟩) (n+1) cap))(hsd:jJ w ab cap (n+1) h om)(hi:i<=n) :
 Calls Tryz.prog 149 #[.iface 216 (.pointer (some ⟨bb,so,none⟩)),.int .i64 i] w fun e w'=>e=.returned (.iface 114 (.pointer (some ⟨h i,0,none⟩))) /\
  az w' bb (bc.setIfInBounds so (.slice (some ⟨ab,0,none⟩) n cap)) 158/\jJ w' ab cap n (dZ (fG om) h n i) om/\df w' (h i) (om (h i)) n/\au (fun b=>b=bb\/Sd ab (n+1) h b) w w':=by
 have hm:=La ⟨bb,so,none⟩ w (some ⟨ab,0,none⟩) (n+1) cap ((hbk.cell so).trans hso)
 have hsm:=hsd.small
 have hout:¬Sd ab (n+1) h bb:=by
  rintro (rfl|⟨k,hk,rfl⟩)
  ·obtain⟨cs,hb,_⟩:=hsd.oH
   exact az.ne hbk hb (by decide) rfl
  ·exact az.ne hbk (hsd.ord k hk) (by decide) rfl
 by_cases hin:i=n
 ·subst hin
  go_enter Tryz.func149,Tryz.ntmps149
  go_wp2_with fail
  refine (Eh (some ⟨ab,0,none⟩) (i+1) cap w).mono ?_
  rintro e w2 ⟨rfl,rfl⟩
  have hp:=Ep ⟨bb,so,none⟩ w2
  clear hm
  go_wp2_with fail
  refine (EF bb so ab i cap bc h om _ hbk hso hsd).mono ?_
  rintro e w3 ⟨rfl,hb3,hs3,ho3,hc3⟩
  clear hp
  go_wp2
  go_ret
  refine⟨rfl,hb3,?_,ho3,hc3.mono ?_⟩
  ·unfold dZ
   rw[if_pos rfl]
   exact hs3
  ·rintro b (rfl|rfl)
   ·exact .inl rfl
   ·exact .inr (.inl rfl)
 ·have e1:((n:Int) != (i:Int))=true:=by simp;omega
  go_enter Tryz.func149,Tryz.ntmps149
  go_wp2_with fail
  refine (Eh (some ⟨ab,0,none⟩) (n+1) cap w).mono ?_
  rintro e w2 ⟨rfl,rfl⟩
  have hms:=rE ⟨bb,so,none⟩ w2 (some ⟨ab,0,none⟩) (n+1) cap ((hbk.cell so).trans hso)
  clear hm
  go_wp2_with fail
  refine (xB ab cap (n+1) i n h om _ hsd (by omega) (by omega) hin).mono ?_
  rintro e w3 ⟨rfl,hs3,hc3⟩
  have hb3:=hc3.aB hbk hout
  clear hms
  go_wp2_with fail
  refine (Po bb so ab cap (n+1) n i bc _ om _ hb3 hso hs3 (by omega) hi).mono ?_
  rintro e w4 ⟨rfl,hs4,hc4⟩
  rw[yX (by omega) (by omega)]at hc4
  have hb4:=hc4.aB hb3 hout
  by_cases hd:i<(dW (fG om) n (sw h i n) i).2
  ·have hdt:decide (i<(dW (fG om) n (sw h i n) i).2)=true:=by simp[hd]
   rw[hdt]
   have hp:=Ep ⟨bb,so,none⟩ w4
   have hN:(dW (fG om) n (sw h i n) i).1=dZ (fG om) h n i:=by unfold dZ;rw[if_neg hin,if_pos hd]
   rw[hN]at hs4
   have hl:=qA (lt:=fG om) (h:=h) hi
   have HL:=ai hl
   clear hN hd hdt hl
   go_wp2_with fail
   refine (EF bb so ab n cap bc _ om _ hb4 hso hs4).mono ?_
   rintro e w5 ⟨rfl,hb5,hs5,VC,hc5⟩
   clear hp
   rw[ae HL]
   rw[ae HL]at VC
   go_wp2
   go_ret
   refine⟨rfl,hb5,hs5,VC,((hc3.trans hc4).mono (fun b hb=>.inr hb)).trans (hc5.mono ?_)⟩
   rintro b (rfl|rfl)
   ·exact .inl rfl
   ·exact .inr (.inl rfl)
  ·have hdt:decide (i<(dW (fG om) n (sw h i n) i).2)=false:=by simp[hd]
   rw[hdt]
   have hN:tV (fG om) (dW (fG om) n (sw h i n) i).1 i=dZ (fG om) h n i:=by unfold dZ;rw[if_neg hin,if_neg hd]
   have HS:Hid (Sd ab (n+1) (dW (fG om) n (sw h i n) i).1=Sd ab (n+1) h):=by
    show _=_
    rw[Tm hi (by omega),yX (by omega) (by omega)]
   have HN:=ai hN
   clear hN hd hdt
   go_wp2_with fail
   refine (RQ bb so ab cap (n+1) i bc _ om _ hb4 hso hs4 (by omega)).mono ?_
   rintro e w5 ⟨rfl,hs5,hc5⟩
   rw[ae HS]at hc5
   have hb5:=hc5.aB hb4 hout
   have hp:=Ep ⟨bb,so,none⟩ w5
   rw[ae HN]at hs5
   have HL:=ai (qA (lt:=fG om) (h:=h) hi)
   go_wp2_with fail
   refine (EF bb so ab n cap bc _ om _ hb5 hso hs5).mono ?_
   rintro e w6 ⟨rfl,hb6,hs6,ho6,hc6⟩
   clear hp
   rw[ae HL]
   rw[ae HL]at ho6
   go_wp2
   go_ret
   refine⟨rfl,hb6,hs6,ho6,(((hc3.trans hc4).trans hc5).mono (fun b hb=>.inr hb)).trans (hc6.mono ?_)⟩
   rintro b (rfl|rfl)
   ·exact .inl rfl
   ·exact .inr (.inl rfl)
open Go.RowKit Go.Sort
attribute [local go_sem ↓] Go.wp_at_zero Go.wp_at_succ
theorem O1(a b:Nat)(oa ob:Ord)(ia ib:Int)(w:World)(ha:df w a oa ia)(hb:df w b ob ib) :
 Calls Tryz.prog 83 #[.pointer (some ⟨a,0,none⟩),.pointer (some ⟨b,0,none⟩)] w fun e w'=>e=.returned (.int .i64 (jQ oa ob))/\∃q os',w'=grow (w.drewN q) os':=by
 have a3:=ha.cell 3
 have a5:=ha.cell 5
 have a12:=ha.cell 12
 have b5:=hb.cell 5
 have b12:=hb.cell 12
 have la:=ha.lt
 have lb:=hb.lt
 simp only[Ord.cells]at a3 a5 a12 b5 b12
 simp at a3 a5 a12 b5 b12
 clear ha hb
 obtain⟨p1,p2⟩:=O5 oa.af ob.af
 by_cases hs:oa.side=0
 ·have hs':(oa.side == 0)=true:=by simp[hs]
  have HF:Hid (jQ oa ob=SE (-(lL oa.af ob.af)) (lL oa.place ob.place)):=by show jQ oa ob=_;simp only[jQ,hs,if_true]
  clear hs
  go_enter Tryz.func83,Tryz.ntmps83
  go_wp2
  go_quiet ((go_at_call 130;exact Calls.quiet_of_same (iV _ _ _)))
  go_wp2
  go_region_held3 (fun w'=>w'.cell? ⟨a,12,none⟩=some (.int .i64 oa.place)/\w'.cell? ⟨b,12,none⟩=some (.int .i64 ob.place)) (go_keep)
   (first|(go_at_call 130;refine (iV _ _ _).mono ?_;rintro e w' ⟨rfl,rfl⟩)|(go_at_call 131;refine (EC _ _ (-(lL oa.af ob.af)) (lL oa.place ob.place) _ ?_ ?_).mono ?_;(exact (az.new _ _ _).cell 0);(exact (az.new _ _ _).cell 1);rintro e w' ⟨rfl,rfl⟩))
  go_wp2
  go_ret
  exact⟨by rw[HF.out];rfl,_,_,alloc_eq_grow _ _⟩
 ·have hs':(oa.side == 0)=false:=by simp[hs]
  have HF:Hid (jQ oa ob=SE (lL oa.af ob.af) (lL oa.place ob.place)):=by show jQ oa ob=_;simp only[jQ,hs,if_false]
  clear hs
  go_enter Tryz.func83,Tryz.ntmps83
  go_wp2
  go_quiet ((go_at_call 130;exact Calls.quiet_of_same (iV _ _ _)))
  go_wp2
  go_region_held3 (fun w'=>w'.cell? ⟨a,12,none⟩=some (.int .i64 oa.place)/\w'.cell? ⟨b,12,none⟩=some (.int .i64 ob.place)) (go_keep)
   (first|(go_at_call 130;refine (iV _ _ _).mono ?_;rintro e w' ⟨rfl,rfl⟩)|(go_at_call 131;refine (EC _ _ (lL oa.af ob.af) (lL oa.place ob.place) _ ?_ ?_).mono ?_;(exact (az.new _ _ _).cell 0);(exact (az.new _ _ _).cell 1);rintro e w' ⟨rfl,rfl⟩))
  go_wp2
  go_ret
  exact⟨by rw[HF.out];rfl,_,_,alloc_eq_grow _ _⟩
theorem BG(Bs:Nat)(a:Option Addr)(len cap:Nat)(f:Nat->Nat)(hlen:len<=100000)(w:World)(hBs:Bs<w.heap.size)
 (hcB:w.cell? ⟨Bs,0,none⟩=some (.slice a len cap)) (hI:DL w.heap.size w a len cap f) :
 Calls Tryz.prog 156 #[.slice none 0 0,.func (.func 129) #[] #[.pointer (some ⟨Bs,0,none⟩)]] w fun e W'=>∃v,e=.returned v/\W'.ownsRow w.heap.size 114 1 v len ((upto f len).map tN)/\(v=.slice none 0 0↔upto f len=[])/\Below w.heap.size w W' :=
 callsIn_wide.1 (DN Fence.wide 3 trivial trivial rfl (by omega) Bs a len cap f hlen w hBs hcB hI)
theorem Kz(a:Option Addr)(len cap:Nat)(w:World) :
 Calls Tryz.prog 82 #[.slice a len cap] w fun e w'=>e=.returned (.func (.func 129) #[] #[.pointer (some ⟨w.heap.size,0,none⟩)])/\w'=w.alloc (.cells #[.slice a len cap] 155) :=
 callsIn_wide.1 (N9 Fence.wide 3 trivial rfl a len cap w)
theorem FN(Bs:Nat)(a:Option Addr)(len cap:Nat)(f:Nat->Nat)(hlen:len<=100000)(w:World)(hBs:Bs<w.heap.size)
 (hcB:w.cell? ⟨Bs,0,none⟩=some (.slice a len cap)) (hI:DL w.heap.size w a len cap f) :
 Calls Tryz.prog 127 #[.func (.func 129) #[] #[.pointer (some ⟨Bs,0,none⟩)]] w fun e W'=>∃v,e=.returned v/\W'.ownsRow w.heap.size 114 1 v len ((upto f len).map tN)/\(v=.slice none 0 0↔upto f len=[])/\Below w.heap.size w W':=by
 have hcon:=BG Bs a len cap f hlen w hBs hcB hI
 clear hcB hI
 go_enter Tryz.func127,Tryz.ntmps127
 go_wp2_with (go_at_call 156;refine hcon.mono ?_;clear hcon;rintro e w' ⟨v,rfl,hv⟩)
 go_ret
 exact⟨v,rfl,hv⟩
end Go.Proofs.YtigaphnafnpfnaaGreatDoor
