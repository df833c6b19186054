import Derived.Test.YtigaphnafnpfnaaGreatDoorQVW
import Derived.RangeFuncBox
import Derived.RangeFuncNested
import Derived.RangeFuncBound
import Derived.RangeFuncCalls
import Derived.RangeFuncLeaves
import Derived.Shelf.Abstract
import Derived.Shelf.RegionOpen
import Derived.OwnWalkIn
import Derived.TacticsInMore
import Derived.LoopNIn
import Derived.LoopIn
import Derived.Maps.AppendAt
set_option linter.unusedVariables false
set_option linter.unusedSimpArgs false
set_option maxHeartbeats 8000000
set_option maxRecDepth 100000
namespace Go.Proofs.YtigaphnafnpfnaaGreatDoor
open Go.RowKit
def wE(lt:Nat->Nat->Bool)(n:Nat)(h:Nat->Nat)(i:Nat):Nat:=if 2 * i+2<n/\lt (h (2 * i+2)) (h (2 * i+1))=true then 2 * i+2 else 2 * i+1
theorem qI(lt:Nat->Nat->Bool)(n:Nat)(h:Nat->Nat)(i:Nat)(h1:2 * i+1<n):i<wE lt n h i/\wE lt n h i<n:=by
 unfold wE;split <;> omega
def eF(lt:Nat->Nat->Bool)(n:Nat)(h:Nat->Nat)(i:Nat):(Nat->Nat) × Nat :=
 if hn:2 * i+1<n then
  have _:=qI lt n h i hn
  if lt (h (wE lt n h i)) (h i) then eF lt n (sw h i (wE lt n h i)) (wE lt n h i) else (h,i)
 else (h,i)
theorem uK{lt:Nat->Nat->Bool}{n:Nat}{h:Nat->Nat}{i:Nat}(hh:¬2 * i+1<n):eF lt n h i=(h,i):=by
 rw[eF,dif_neg hh]
theorem oM{lt:Nat->Nat->Bool}{n:Nat}{h:Nat->Nat}{i:Nat}(hh:2 * i+1<n)(hl:lt (h (wE lt n h i)) (h i)=false):eF lt n h i=(h,i):=by
 rw[eF,dif_pos hh,hl];rfl
theorem tZ{lt:Nat->Nat->Bool}{n:Nat}{h:Nat->Nat}{i:Nat}(hh:2 * i+1<n)(hl:lt (h (wE lt n h i)) (h i)=true):eF lt n h i=eF lt n (sw h i (wE lt n h i)) (wE lt n h i):=by
 rw[eF,dif_pos hh,hl,if_pos rfl]
theorem rM(ab cap n i j:Nat)(h:Nat->Nat)(om:Nat->Ord)(w:World)(x y:Int)(hs:kM w ab cap n h om)(hi:i<n)(hj:j<n)(hx:x=(i:Int))(hy:y=(j:Int)) :
 CT 257 #[.slice (some ⟨ab,0,none⟩) n cap,II x,II y] w fun e w'=>e=.returned (.bool (fP om (h i) (h j)))/\aj aJ w w':=by
 subst hx;subst hy;exact EL ab cap n i j h om w hs hi hj
theorem wS(ab cap n i j:Nat)(h:Nat->Nat)(om:Nat->Ord)(w:World)(x y:Int)(hs:kM w ab cap n h om)(hi:i<n)(hj:j<n)(hij:i≠j)(hx:x=(i:Int))(hy:y=(j:Int)) :
 CT 258 #[.slice (some ⟨ab,0,none⟩) n cap,II x,II y] w fun e w'=>e=.returned (.tuple #[])/\kM w' ab cap n (sw h i j) om/\aj (Sd ab n h) w w':=by
 subst hx;subst hy;exact yV ab cap n i j h om w hs hi hj hij
theorem S9(bb so ab cap N n i0:Nat)(bc:Array Value)(h:Nat->Nat)(om:Nat->Ord)(w:World)(hbk:aA w bb bc 158)(hso:bc[so]?=some (.slice (some ⟨ab,0,none⟩) N cap))(hs:kM w ab cap N h om)(hn:n<=N)(hi:i0<=n) :
 CT 175 #[.iface 216 (.pointer (some ⟨bb,so,none⟩)),II i0,II n] w fun e w'=>e=.returned (.bool (decide (i0<(eF (fP om) n h i0).2)))/\kM w' ab cap N (eF (fP om) n h i0).1 om/\aj (Sd ab N h) w w':=by
 have hN:=hs.small;have hout:¬Sd ab N h bb:=by
  rintro (rfl | ⟨k,hk,rfl⟩)
  ·obtain⟨cs,hb,_⟩:=hs.sJ;exact aA.ne hbk hb (by decide) rfl
  ·exact aA.ne hbk (hs.ord k hk) (by decide) rfl
 go_enter Tryz.func175,Tryz.ntmps175;go_wp2;go_loopg [7,8,9,10] (n-i0) (fun k iv _ _ _ wr=>∃(hh:Nat->Nat) (i:Nat),iv=II (i:Int)/\i<=n/\k=n-i/\kM wr ab cap N hh om/\aj (Sd ab N h) w wr/\Sd ab N hh=Sd ab N h/\eF (fP om) n hh i=eF (fP om) n h i0)
 case atStart=>exact⟨h,i0,rfl,hi,rfl,hs,aj.refl _ _,rfl,rfl⟩
 case round =>
  obtain⟨hh,i,rfl,hk,hgk,hs1,hc1,hS1,hu⟩:=hrel;have AU:Hid (gk=n-i/\Sd ab N hh=Sd ab N h/\eF (fP om) n hh i=eF (fP om) n h i0):=⟨hgk,hS1,hu⟩;clear hS1 hu hgk;have hbk1:=hc1.aF hbk hout;have cb1:=(hbk1.cell so).trans hso;have hml:=BR _ _ _ _ _ cb1;by_cases hlast:2 * i+1<n
  ·by_cases h2:2 * i+2<n
   ·go_wp2_with fail;refine (rM ab cap N (2 * i+2) (2 * i+1) hh om wr _ _ hs1 (by omega) (by omega) (by push_cast;omega) (by push_cast;omega)).mono ?_;rintro e w2 ⟨rfl,hc2⟩;have hs2:=hs1.aC hc2 (fun _ _ x=>x);have TD:=hc2.aF hbk1 aU;have ZQ:=hc1.trans hc2.bI;have cb2:=(TD.cell so).trans hso;have hm2:=BR _ _ _ _ _ cb2;cases hb:fP om (hh (2 * i+2)) (hh (2 * i+1))
    ·have I8:wE (fP om) n hh i=2 * i+1:=by unfold wE;rw[if_neg (by rw[hb];simp)]
     have HK:=au I8;clear I8 hb hml;go_wp2_with fail;refine (rM ab cap N (2 * i+1) i hh om w2 _ _ hs2 (by omega) (by omega) (by push_cast;omega) rfl).mono ?_;rintro e w3 ⟨rfl,hc3⟩;have hs3:=hs2.aC hc3 (fun _ _ x=>x);cases hl:fP om (hh (2 * i+1)) (hh i)
     ·have HL:=au hl;clear hl hm2;go_wp2;go_ret;have hst:eF (fP om) n hh i=(hh,i):=oM hlast (by rw[ae HK];exact ae HL);refine⟨?_,?_,ZQ.trans hc3.bI⟩
      ·rw[<-AU.out.2.2,hst];simp
      ·rw[<-AU.out.2.2,hst];exact hs3
     ·have TC:=hc3.aF TD aU;have cb3:=(TC.cell so).trans hso;have hms:=uk _ _ _ _ _ cb3;clear hm2;go_wp2_with fail;refine (wS ab cap N i (2 * i+1) hh om w3 _ _ hs3 (by omega) (by omega) (by omega) rfl (by push_cast;omega)).mono ?_;rintro e w4 ⟨rfl,hs4,hc4⟩;clear hms;go_wp2;go_roundg (n-(2 * i+1))
      case measure=>have:=AU.out.1;omega
      case rel =>
       obtain⟨_,a1,a2⟩:=AU.out;refine⟨sw hh i (2 * i+1),2 * i+1,by push_cast;rfl,by omega,rfl,hs4,?_,?_,?_⟩
       ·exact (ZQ.trans hc3.bI).trans (hc4.mono (fun b hb=>by rw[<-a1];exact hb))
       ·rw[AL (by omega) (by omega),a1]
       ·rw[<-a2,tZ hlast (by rw[ae HK];exact hl),ae HK]
    ·have I8:wE (fP om) n hh i=2 * i+2:=by unfold wE;rw[if_pos ⟨h2,hb⟩]
     have HK:=au I8;clear I8 hb hml;go_wp2_with fail;refine (rM ab cap N (2 * i+2) i hh om w2 _ _ hs2 (by omega) (by omega) (by push_cast;omega) rfl).mono ?_;rintro e w3 ⟨rfl,hc3⟩;have hs3:=hs2.aC hc3 (fun _ _ x=>x);cases hl:fP om (hh (2 * i+2)) (hh i)
     ·have HL:=au hl;clear hl hm2;go_wp2;go_ret;have hst:eF (fP om) n hh i=(hh,i):=oM hlast (by rw[ae HK];exact ae HL);refine⟨?_,?_,ZQ.trans hc3.bI⟩
      ·rw[<-AU.out.2.2,hst];simp
      ·rw[<-AU.out.2.2,hst];exact hs3
     ·have TC:=hc3.aF TD aU;have cb3:=(TC.cell so).trans hso;have hms:=uk _ _ _ _ _ cb3;clear hm2;go_wp2_with fail;refine (wS ab cap N i (2 * i+2) hh om w3 _ _ hs3 (by omega) (by omega) (by omega) rfl (by push_cast;omega)).mono ?_;rintro e w4 ⟨rfl,hs4,hc4⟩;clear hms;go_wp2;go_roundg (n-(2 * i+2))
      case measure=>have:=AU.out.1;omega
      case rel =>
       obtain⟨_,a1,a2⟩:=AU.out;refine⟨sw hh i (2 * i+2),2 * i+2,by push_cast;rfl,by omega,rfl,hs4,?_,?_,?_⟩
       ·exact (ZQ.trans hc3.bI).trans (hc4.mono (fun b hb=>by rw[<-a1];exact hb))
       ·rw[AL (by omega) (by omega),a1]
       ·rw[<-a2,tZ hlast (by rw[ae HK];exact hl),ae HK]
   ·have I8:wE (fP om) n hh i=2 * i+1:=by unfold wE;rw[if_neg (by omega)]
    have HK:=au I8;have TD:=hbk1;have ZQ:=hc1;clear I8;go_wp2_with fail;refine (rM ab cap N (2 * i+1) i hh om wr _ _ hs1 (by omega) (by omega) (by push_cast;omega) rfl).mono ?_;rintro e w3 ⟨rfl,hc3⟩;have hs3:=hs1.aC hc3 (fun _ _ x=>x);cases hl:fP om (hh (2 * i+1)) (hh i)
    ·have HL:=au hl;clear hl hml;go_wp2;go_ret;have hst:eF (fP om) n hh i=(hh,i):=oM hlast (by rw[ae HK];exact ae HL);refine⟨?_,?_,ZQ.trans hc3.bI⟩
     ·rw[<-AU.out.2.2,hst];simp
     ·rw[<-AU.out.2.2,hst];exact hs3
    ·have TC:=hc3.aF TD aU;have cb3:=(TC.cell so).trans hso;have hms:=uk _ _ _ _ _ cb3;clear hml;go_wp2_with fail;refine (wS ab cap N i (2 * i+1) hh om w3 _ _ hs3 (by omega) (by omega) (by omega) rfl (by push_cast;omega)).mono ?_;rintro e w4 ⟨rfl,hs4,hc4⟩;clear hms;go_wp2;go_roundg (n-(2 * i+1))
     case measure=>have:=AU.out.1;omega
     case rel =>
      obtain⟨_,a1,a2⟩:=AU.out;refine⟨sw hh i (2 * i+1),2 * i+1,by push_cast;rfl,by omega,rfl,hs4,?_,?_,?_⟩
      ·exact (ZQ.trans hc3.bI).trans (hc4.mono (fun b hb=>by rw[<-a1];exact hb))
      ·rw[AL (by omega) (by omega),a1]
      ·rw[<-a2,tZ hlast (by rw[ae HK];exact hl),ae HK]
  ·clear hml;have e1:decide ((n:Int)<=2 * (i:Int)+1)=true:=by simp;omega
   go_wp2;go_ret;refine⟨?_,?_,hc1⟩
   ·rw[<-AU.out.2.2,uK hlast];simp
   ·rw[<-AU.out.2.2,uK hlast];exact hs1
def jk(w:World)(s:Option Addr)(n cap:Nat)(h:Nat->Nat)(om:Nat->Ord):Prop :=
 (s=none/\n=0/\cap=0)\/∃ab,s=some ⟨ab,0,none⟩/\kM w ab cap n h om
def wM(n:Nat)(h:Nat->Nat):List Value:=(List.range n).map fun k=>PP (h k)
theorem jk.owns{w:World}{s:Option Addr}{n cap:Nat}{h:Nat->Nat}{om:Nat->Ord}(hs:jk w s n cap h om):w.ownsRow 0 114 1 (.slice s n cap) n (wM n h):=by
 refine⟨by simp[wM],?_⟩;rcases hs with⟨rfl,rfl,rfl⟩ | ⟨ab,rfl,hs⟩
 ·exact .inl ⟨rfl,rfl⟩
 ·right;obtain⟨cs,hb,hc,hp⟩:=hs.sJ;have hle:=hs.le;refine⟨ab,cap,cs,rfl,Nat.zero_le _,hb,hs.le,hs.PS,by omega,?_⟩;apply List.ext_getElem?;intro i;by_cases hi:i<n
  ·rw[List.getElem?_take_of_lt (by omega),Array.getElem?_toList,hp i hi];simp[wM,hi]
  ·rw[List.getElem?_eq_none (by simp;omega),List.getElem?_eq_none (by simp[wM];omega)]
theorem NF{w:World}{g n cap:Nat}{h:Nat->Nat}(ho:w.ownsRow 0 114 1 (.slice (some ⟨g,0,none⟩) n cap) n (wM n h)) :
 n<=cap/\cap<=maxLen/\∃cs,aA w g cs 114/\cs.size=cap/\∀i,i<n->cs[i]?=some (PP (h i)):=by
 rcases ho.2 with⟨h1,_⟩ | ⟨g',cap',cur,h1,_,hg,hn,hc,hs,ht⟩
 ·simp at h1
 ·simp at h1;obtain⟨rfl,rfl⟩:=h1;refine⟨hn,hc,cur,hg,by omega,fun i hi=>?_⟩;have:(cur.toList.take (n * 1))[i]?=(wM n h)[i]?:=by rw[ht]
  rw[List.getElem?_take_of_lt (by omega),Array.getElem?_toList]at this;rw[this];simp[wM,hi]
theorem QI(n:Nat)(h:Nat->Nat)(ob:Nat):wM n h++[PP ob]=wM (n+1) (fun k=>if k=n then ob else h k):=by
 simp only[wM,List.range_succ,List.map_append,List.map_cons,List.map_nil,if_true];congr 1;apply List.map_congr_left;intro k hk;simp at hk;rw[if_neg (by omega)]
def ig:Option Addr->Option Nat
 | some a=>some a.block
 | none=>none
theorem aag:∃i,Tryz.prog.info? 114=some i/\i.zero=some (.pointer none)/\i.size=1/\i.bytes=8:=by
 have h:(Tryz.prog.info? 114).map (fun i=>(i.zero,i.size,i.bytes))=some (some (.pointer none),1,8):=by kernel_rfl
 exact info_parts h
theorem jk.aC{w w':World}{s:Option Addr}{n cap:Nat}{h:Nat->Nat}{om:Nat->Ord}(hs:jk w s n cap h om){S:Nat->Prop}(k:aj S w w')(hS:∀b,(ig s=some b\/∃k,k<n/\b=h k)->¬S b):jk w' s n cap h om:=by
 rcases hs with hs | ⟨ab,rfl,hs⟩
 ·exact .inl hs
 ·refine .inr ⟨ab,rfl,hs.aC k (fun b hb=>hS b ?_)⟩;rcases hb with rfl | hb
  ·exact .inl rfl
  ·exact .inr hb
theorem jk.ne{w:World}{s:Option Addr}{n cap:Nat}{h:Nat->Nat}{om:Nat->Ord}(hs:jk w s n cap h om){b:Nat}{c:Array Value}{t:TypeId}(hb:aA w b c t)(ht:t≠114):ig s≠some b:=by
 rcases hs with⟨rfl,_⟩ | ⟨ab,rfl,hs⟩
 ·simp[ig]
 ·obtain⟨cs,hc,_⟩:=hs.sJ;intro e;simp[ig]at e;exact aA.ne hb hc ht e.symm
theorem jk.lt{w:World}{s:Option Addr}{n cap:Nat}{h:Nat->Nat}{om:Nat->Ord}(hs:jk w s n cap h om){b:Nat}(e:ig s=some b):b<w.heap.size:=by
 rcases hs with⟨rfl,_⟩ | ⟨ab,rfl,hs⟩
 ·simp[ig]at e
 ·obtain⟨cs,hc,_⟩:=hs.sJ;simp[ig]at e;exact e▸hc.lt
theorem jk.bz{w:World}{s:Option Addr}{n cap:Nat}{h:Nat->Nat}{om:Nat->Ord}(hs:jk w s n cap h om){i:Nat}(hi:i<n):df w (h i) (om (h i)) i:=by
 rcases hs with⟨rfl,rfl,_⟩ | ⟨ab,rfl,hs⟩
 ·omega
 ·exact hs.ord i hi
theorem adv(s:Option Addr)(n cap:Nat):(Value.slice s n cap).ownBlock=ig s:=by cases s <;> rfl
theorem RZ(v:Value)(w:World):Sem.run Tryz.prog (Instr.typeAssert (.iface 114 v) 20 114 false) w=.ok v w:=by kernel_rfl
theorem U0(bb so ob n cap:Nat)(s:Option Addr)(bc:Array Value)(h:Nat->Nat)(om:Nat->Ord)(ix:Int)(w:World)(hbk:aA w bb bc 158)(hso:bc[so]?=some (.slice s n cap))(hsd:jk w s n cap h om)
 (ho:df w ob (om ob) ix) (hnew:∀k,k<n->h k≠ob) (hn:n<1000) :
 CT 260 #[.pointer (some ⟨bb,so,none⟩),.iface 114 (PP ob)] w fun e w'=>e=.returned (.tuple #[]) /\
  ∃g cap',aA w' bb (bc.setIfInBounds so (.slice (some ⟨g,0,none⟩) (n+1) cap')) 158/\kM w' g cap' (n+1) (fun k=>if k=n then ob else h k) om/\aj (fun b=>b=bb\/b=ob\/ig s=some b) w w'/\(ig s=some g\/w.heap.size<=g):=by
 have cb:=(hbk.cell so).trans hso;have fb:=hbk.frozen so;have co:=ho.cell 13;simp only[Ord.cells]at co;simp at co;have fo:=ho.frozen 13;have hne:ob≠bb:=aA.ne ho hbk (by decide);have hown:=hsd.owns;obtain⟨i0,hi,hz0,hz1,hz2⟩:=aag;have cb1:(w.setCell ⟨ob,13,none⟩ (II n)).cell? ⟨bb,so,none⟩=some (.slice s n cap):=((hbk.other (a:=⟨ob,13,none⟩) (fun e=>hne e.symm) _).cell so).trans hso;have hta:=RZ (PP ob) w;have HO:Hid (w.ownsRow 0 114 1 (.slice s n cap) n (wM n h)):=hown;clear hown;have hc1:aj (fun b=>b=ob) w ((w.setCell ⟨ob,13,none⟩ (II n)).alloc (.cells #[PP ob] 114)):=((aj.refl (fun b=>b=ob) w).setCell (p:=⟨ob,13,none⟩) (.inl rfl) _).alloc _;have hsd1:=hsd.aC hc1 (fun b hb e=>by
  subst e;rcases hb with hb | ⟨k,hk,hb⟩
  ·exact hsd.ne ho (by decide) hb
  ·exact hnew k hk hb.symm)
 have ho1:=(ho.set 13 (II n)).alloc (.cells #[PP ob] 114);have hb1:=hc1.aF hbk (fun e=>hne e.symm);go_enter Tryz.func260,Tryz.ntmps260;go_wp2_with (at_builtin;refine wpList_append_lies _ rfl _ _ _ rfl 0 114 i0 (.pointer none) 1 8 Tryz.underlying155 hi hz0 hz1 hz2 rfl (by omega) (.slice s n cap) n (wM n h) rfl ?hown ⟨w.heap.size,0,none⟩ 1 1 [PP ob] rfl rfl ?hnews ?hone (by omega) ?h63 ?hbytes (by omega) (w.heap.size+1) ?hH ?hrest)
 case hown=>exact hsd1.owns
 case hnews =>
  have e:=cell_one_new (w.setCell ⟨ob,13,none⟩ (II n)) (PP ob) 114;have e2:(w.setCell ⟨ob,13,none⟩ (II n)).heap.size=w.heap.size:=by simp[World.setCell]
  rw[e2]at e;exact e
 case hone=>intro u hu;simp at hu;subst hu;rfl
 case h63=>unfold maxLen;omega
 case hbytes=>omega
 case hH=>simp
 case hrest =>
  intro g cap1 w2 hown2 hgrow hat hlt;rw[adv]at hgrow hat;have hnb:some bb≠ig s:=fun e=>hsd.ne hbk (by decide) e.symm
  have hno:some ob≠ig s:=fun e=>hsd.ne ho (by decide) e.symm
  have hc2:=aj.grown (S:=fun b=>b=bb\/b=ob\/ig s=some b) (hc1.mono (fun b hb=>.inr (.inl hb))) hgrow (fun k e=>.inl (.inr (.inr e)));have hb2:aA w2 bb bc 158:=(hgrow.block bb hb1.lt hnb).trans hb1;have ho2:aA w2 ob _ 116:=(hgrow.block ob ho1.lt hno).trans ho1;have hor:∀k,k<n->df w2 (h k) (om (h k)) k:=fun k hk=>(hgrow.block (h k) (hsd1.bz hk).lt (fun e=>hsd1.ne (hsd1.bz hk) (by decide) e.symm)).trans (hsd1.bz hk)
  have cb2:=(hb2.cell so).trans hso;have fb2:=hb2.frozen so;have HW:=au hown2;clear cb1 cb fb hta hown2;go_wp2;go_end0;refine⟨rfl,g,cap1,hb2.set so _,?_,hc2.setCell (.inl (.inl rfl)) _,?_⟩
  ·obtain⟨h1,h2,cs,h3,h4,h5⟩:=NF (h:=fun k=>if k=n then ob else h k) (by rw[<-QI];exact ae HW);refine⟨⟨cs,h3.other ?_ _,h4,h5⟩,?_,h1,by omega,h2⟩
   ·exact Ne.symm (aA.ne hb2 h3 (by decide))
   ·intro i hi;by_cases e:i=n
    ·subst e;rw[if_pos rfl];exact ho2.other hne _
    ·rw[if_neg e];exact (hor i (by omega)).other (aA.ne (hor i (by omega)) hb2 (by decide)) _
  ·rcases hat with hat | hat
   ·exact .inl hat
   ·right;omega
theorem GM(bb so ab n cap:Nat)(bc:Array Value)(h:Nat->Nat)(om:Nat->Ord)(w:World)(hbk:aA w bb bc 158)(hso:bc[so]?=some (.slice (some ⟨ab,0,none⟩) (n+1) cap))(hsd:kM w ab cap (n+1) h om) :
 CT 259 #[.pointer (some ⟨bb,so,none⟩)] w fun e w'=>e=.returned (.iface 114 (PP (h n))) /\
  aA w' bb (bc.setIfInBounds so (.slice (some ⟨ab,0,none⟩) n cap)) 158/\kM w' ab cap n h om/\df w' (h n) (om (h n)) n/\aj (fun b=>b=bb\/b=ab) w w':=by
 have cb:=(hbk.cell so).trans hso;have fb:=hbk.frozen so;obtain⟨cs,hb,hc,hp⟩:=hsd.sJ;have ca:=(hb.cell n).trans (hp n (by omega));have fa:=hb.frozen n;have hne:ab≠bb:=aA.ne hb hbk (by decide);have hsm:=hsd.small;have hle:=hsd.le;have n0:(0:Int)<=(n:Int):=by omega
 have n1:(n:Int)<(n:Int)+1:=by omega
 have n2:(n:Int)<=(cap:Int):=by omega
 have cb1:(w.setCell ⟨ab,n,none⟩ (.pointer none)).cell? ⟨bb,so,none⟩=some (.slice (some ⟨ab,0,none⟩) (n+1) cap):=((hbk.other (a:=⟨ab,n,none⟩) (fun e=>hne e.symm) _).cell so).trans hso;have fb1:(w.setCell ⟨ab,n,none⟩ (.pointer none)).frozen? ⟨bb,so,none⟩=false:=(hbk.other (a:=⟨ab,n,none⟩) (fun e=>hne e.symm) _).frozen so;have HC:Hid (cs.size=cap/\∀i,i<n+1->cs[i]?=some (PP (h i))):=⟨hc,hp⟩;clear hp hc;go_enter Tryz.func259,Tryz.ntmps259;go_wp2;go_ret;refine⟨rfl,(hbk.other (fun e=>hne e.symm) _).set so _,?_,?_,?_⟩
 ·refine⟨⟨_,(hb.set n _).other hne _,by simpa using HC.out.1,fun i hi=>?_⟩,fun i hi=>?_,by omega,by omega,hsd.PS⟩
  ·rw[Array.getElem?_setIfInBounds_ne (by omega)];exact HC.out.2 i (by omega)
  ·exact ((hsd.ord i (by omega)).other (aA.ne (hsd.ord i (by omega)) hb (by decide)) _).other (aA.ne (hsd.ord i (by omega)) hbk (by decide)) _
 ·exact ((hsd.ord n (by omega)).other (aA.ne (hsd.ord n (by omega)) hb (by decide)) _).other (aA.ne (hsd.ord n (by omega)) hbk (by decide)) _
 ·exact ((aj.refl (fun b=>b=bb\/b=ab) w).setCell (p:=⟨ab,n,none⟩) (.inl (.inr rfl)) _).setCell (p:=⟨bb,so,none⟩) (.inl (.inl rfl)) _
open Go.RowKit Go.Shelf
attribute [local go_sem] Oper.semAt_some
def vC(x:Nat):Value:=PP x
def upto(f:Nat->Nat)(k:Nat):List Nat:=(List.range k).map f
theorem Fj(f:Nat->Nat)(k:Nat):upto f (k+1)=upto f k++[f k]:=by simp[upto,List.range_succ]
theorem nD(f:Nat->Nat)(k:Nat):(upto f k).length=k:=by simp[upto]
theorem Og(F:Fence)(n:Nat)(h7:F.fn 129)(hro:F.round=none)(hn:1<=n)(l Bs n₀ b len cap:Nat)(f:Nat->Nat)(hreach:len * 8<=140737488351232)(hb:b<n₀)(J Jx:List Nat->World->Prop)
 (hY:∀pre x W,J pre W->pre.length<len->YieldAt F (n-1) Tryz.prog l #[PP x] W fun e W' =>
   (e=.returned (.bool true)/\J (pre++[x]) W'/\Below n₀ W W')\/(e=.returned (.bool false)/\Jx (pre++[x]) W'))
 (W:World) (hBs:W.cell? ⟨Bs,0,none⟩=some (.slice (some ⟨b,0,none⟩) len cap)) (hc:∀j,j<len->W.cell? ⟨b,j,none⟩=some (PP (f j))) (h0:J [] W) :
 CallsIn F n Tryz.prog 129 #[.func (.yield l) #[] #[],PP Bs] W fun e W'=>(∃v,e=.returned v) /\
  ((∃ys,ys=upto f len/\J ys W')\/(∃pre,(∃k,k<=len/\pre=upto f k)/\Jx pre W')):=by
 refine callsIn_of_wp Tryz.func129 rfl h7 ?_ hro;simp only[Tryz.ntmps129,List.size_toArray,List.length_cons,List.length_nil,Nat.reduceAdd,Nat.reduceSub,Array.replicate_succ,Array.replicate_zero,List.push_toArray,List.append_toArray,List.nil_append,List.cons_append]
 gi_wp2
 gi_loopw [7] (fun i wr=>∃k:Nat,k<=len/\i=II k/\J (upto f k) wr/\Below n₀ W wr)
  (fun i _=>len-(intOf i).toNat)
 case atStart=>exact⟨0,Nat.zero_le _,rfl,h0,Below.refl _ _⟩
 case round =>
  obtain⟨k,hk,rfl,hJs,hnx⟩:=hrel;have hcx:k<len->wr.cell? ⟨b,k,none⟩=some (PP (f k)):=fun h=>(hnx.cell (p:=⟨b,k,none⟩) hb).trans (hc k h)
  by_cases hlt:k<len
  ·obtain⟨fn,tmps,assign,body,hy,hR⟩:=hY _ (f k) wr hJs (by rw[nD];exact hlt);have hcx':=hcx hlt
   gi_wp2
   refine hR.mono ?_;rintro e W3 (⟨rfl,hJ3,hk3⟩ | ⟨rfl,hJx3⟩)
   ·gi_wp2
    go_roundw
    case rel=>exact⟨k+1,by omega,by simp,by rw[Fj];exact hJ3,hnx.trans hk3⟩
    case measure=>simp[intOf];omega
   ·gi_wp2
    refine bodyPost_ret (results_none rfl _ _ _) rfl ?_;exact⟨⟨_,rfl⟩,.inr ⟨_,⟨k+1,by omega,(Fj _ _).symm⟩,hJx3⟩⟩
  ·obtain rfl:k=len:=by omega
   gi_wp2
   go_end0;exact⟨⟨_,rfl⟩,.inl ⟨_,rfl,hJs⟩⟩
theorem DK(F:Fence)(n:Nat)(h7:F.fn 129)(hro:F.round=none)(l Bs:Nat)(J:List Nat->World->Prop)(W:World)(hBs:W.cell? ⟨Bs,0,none⟩=some (.slice none 0 0))(h0:J [] W) :
 CallsIn F n Tryz.prog 129 #[.func (.yield l) #[] #[],PP Bs] W fun e W'=>(∃v,e=.returned v)/\J [] W':=by
 refine callsIn_of_wp Tryz.func129 rfl h7 ?_ hro;simp only[Tryz.ntmps129,List.size_toArray,List.length_cons,List.length_nil,Nat.reduceAdd,Nat.reduceSub,Array.replicate_succ,Array.replicate_zero,List.push_toArray,List.append_toArray,List.nil_append,List.cons_append]
 gi_wp2
 gi_loopw [7] (fun i wr=>i=II 0/\J [] wr) (fun _ _=>0)
 case atStart=>exact⟨rfl,h0⟩
 case round =>
  obtain⟨rfl,hJs⟩:=hrel
  gi_wp2
  go_end0;exact⟨⟨_,rfl⟩,hJs⟩
theorem Q4(F:Fence)(n:Nat)(h5:F.fn 82)(hro:F.round=none)(a:Option Addr)(len cap:Nat)(w:World) :
 CallsIn F n Tryz.prog 82 #[.slice a len cap] w fun e w'=>e=.returned (.func (.func 129) #[] #[PP w.heap.size])/\w'=w.alloc (.cells #[.slice a len cap] 155):=by
 refine callsIn_of_wp Tryz.func82 rfl h5 ?_ hro;simp only[Tryz.ntmps82,List.size_toArray,List.length_cons,List.length_nil,Nat.reduceAdd,Nat.reduceSub,Array.replicate_succ,Array.replicate_zero,List.push_toArray,List.append_toArray,List.nil_append,List.cons_append]
 gi_wp2
 go_ret;exact⟨rfl,rfl⟩
def FH(n₀:Nat)(W:World)(a:Option Addr)(len cap:Nat)(f:Nat->Nat):Prop :=
 (a=none/\len=0/\cap=0)\/∃b,a=some ⟨b,0,none⟩/\b<n₀/\∀j,j<len->W.cell? ⟨b,j,none⟩=some (PP (f j))
theorem FH.below{n₀:Nat}{A B:World}(h:Below n₀ A B){a:Option Addr}{len cap:Nat}{f:Nat->Nat}(hp:FH n₀ A a len cap f):FH n₀ B a len cap f:=by
 rcases hp with e | ⟨b,e,hb,hc⟩
 ·exact .inl e
 ·exact .inr ⟨b,e,hb,fun j hj=>(h.cell (p:=⟨b,j,none⟩) hb).trans (hc j hj)⟩
theorem Hy(F:Fence)(n:Nat)(h7:F.fn 129)(hro:F.round=none)(hn:1<=n)(Bs n₀:Nat)(a:Option Addr)(len cap:Nat)(f:Nat->Nat)(hreach:len * 8<=140737488351232)(w:World)(hBs:Bs<w.heap.size)(hn₀:n₀<=w.heap.size)
 (hc:w.cell? ⟨Bs,0,none⟩=some (.slice a len cap)) (hI:FH n₀ w a len cap f) :
 SeqStopsK F n Tryz.prog 129 #[PP Bs] (fun x:Nat=>#[Value.pointer (some ⟨x,0,none⟩)]) (Below n₀) (fun ys=>ys=upto f len) (fun pre=>pre <+: upto f len) len w:=fun l J Jx W hW _ _ hY h0=>by
 have hc':=(hW.cell (p:=⟨Bs,0,none⟩) hBs).trans hc;rcases hI.below (hW.mono hn₀) with⟨rfl,rfl,rfl⟩ | ⟨b,rfl,hb,hcs⟩
 ·exact (DK F n h7 hro l Bs J W hc' h0).mono fun e W' ⟨he,hj⟩=>⟨he,.inl ⟨_,rfl,hj⟩⟩
 ·refine (Og F n h7 hro hn l Bs n₀ b len cap f hreach hb J Jx hY W hc' hcs h0).mono ?_;rintro e W' ⟨he,⟨ys,rfl,hj⟩ | ⟨pre,⟨k,hk,rfl⟩,hj⟩⟩
  ·exact⟨he,.inl ⟨_,rfl,hj⟩⟩
  ·refine⟨he,.inr ⟨_,?_,hj⟩⟩;obtain⟨d,rfl⟩:=Nat.exists_eq_add_of_le hk;exact⟨((List.range d).map (fun i=>k+i)).map f,by unfold upto;rw[List.range_add,List.map_append]⟩
theorem Xn:(Tryz.prog.info? 114).map (fun i=>(i.zero,i.size,i.bytes))=some (some (.pointer none),1,8):=by kernel_rfl
theorem FI(F:Fence)(n:Nat)(h62:F.fn 156)(h59:F.fn 129)(hro:F.round=none)(hn:3<=n)(Bs:Nat)(a:Option Addr)(len cap:Nat)(f:Nat->Nat)(hlen:len<=100000)(w:World)(hBs:Bs<w.heap.size)
 (hcB:w.cell? ⟨Bs,0,none⟩=some (.slice a len cap)) (hI:FH w.heap.size w a len cap f) :
 CallsIn F n Tryz.prog 156 #[.slice none 0 0,.func (.func 129) #[] #[PP Bs]] w fun e W'=>∃v,e=.returned v/\W'.ownsRow w.heap.size 114 1 v len ((upto f len).map vC)/\(v=.slice none 0 0↔upto f len=[])/\Below w.heap.size w W':=by
 have h1:1<=n:=by omega
 have hm:len<=maxLen:=by unfold maxLen;omega
 have hm8:len * 8<=140737488355328:=by omega
 obtain⟨i0,hi,hz0,hz1,hz2⟩:=info_parts Xn;refine callsIn_of_wp_marks Tryz.func156 rfl h62 ?_ hro;simp only[Tryz.ntmps156,List.size_toArray,List.length_cons,List.length_nil,Nat.reduceAdd,Nat.reduceSub,Array.replicate_succ,Array.replicate_zero,List.push_toArray,List.append_toArray,List.nil_append,List.cons_append]
 gi_wp2
 have bO:=Boxed.new w 150 (.slice none 0 0);have hB0:Below w.heap.size w (w.alloc (.cells #[.slice none 0 0] 150)):=(Below.refl _ w).alloc (Nat.le_refl _) _;have hcB':=(hB0.cell (p:=⟨Bs,0,none⟩) hBs).trans hcB;refine wpIn_rangeFunc_ownG hro h1 (gf:=129) (lb:=#[PP Bs]) rfl h59 (enters_of Tryz.func129 (by kernel_rfl) rfl)
  (Hy F (n-1) h59 hro (by omega) Bs w.heap.size a len cap f (by omega) _ (by simp;omega) (by simp) hcB' (hI.below hB0)) belowK_t (belowK_b (by simp)) (Below.refl _ _) (fun _=>rfl)
  (fun pre W=>(∃v,Boxed W w.heap.size 150 v/\W.ownsRow w.heap.size 114 1 v pre.length (pre.map vC)/\(v=.slice none 0 0↔pre=[]))/\Below w.heap.size w W)
  (fun _ _ _=>False)
  (OwnFrom.and (Own.from (holdsRow_own w.heap.size w.heap.size 150 114 1 (fun pre=>pre.length) (fun pre=>pre.map vC) (fun pre v=>v=.slice none 0 0↔pre=[])) _) (ownFrom_below (Nat.le_refl _) (by simp)))
  (fun _ _ _ _ _ hs _ _=>hs)
  ⟨⟨_,bO,World.ownsRow_nil _ _ _ _,by simp⟩,hB0⟩
  (fun x=>{ tmps:=#[.slice none 0 0,.func (.func 129) #[] #[PP Bs],PP w.heap.size,undef,.slice none 0 0,PP x,.func (.func 129) #[] #[PP Bs],PP x,undef,undef,undef,undef,undef],defers:=[] }) ?assign ?body ?done ?stop
 case assign =>
  intro l x W K hK
  gi_wp2
  exact hK
 case body =>
  rintro l pre x W ⟨⟨v,hv,hrow,hnil⟩,hB⟩ hlt;have hc:=hv.cell
  gi_wp2_with (gi_at_builtin;refine wpListIn_append_own _ rfl _ _ 150 rfl w.heap.size 114 i0 (.pointer none) 1 8 Tryz.underlying150 hi hz0 hz1 hz2 rfl (by decide) _ _ _ rfl (hrow.alloc _) ⟨W.heap.size,0,none⟩ 1 1 [PP x] rfl rfl (cell_one_new _ _ _) (by simp[Value.oneCell']) (by omega) (by omega) (by have:=hB.size;simp;omega) ?_;intro v' w1 hown' hgrow _;obtain⟨g',cap',rfl⟩:=ownsRow_succ hown';obtain⟨hv1,hv2,hr2,hk2,hb2⟩:=hv.appended (by decide) hrow hB.size (Nat.le_refl _) hown' hgrow;have hc1:=hv1.cell;have hf1:=hv1.frozen)
  exact⟨hk2.from _,hb2,⟨_,hv2,by simpa [vC] using hr2,by simp⟩,hB.trans hb2⟩
 case done =>
  rintro D ys W hD rfl ⟨⟨v,hv,hrow,hnil⟩,hB⟩ hK;have hc:=hv.cell
  gi_wp2
  refine⟨by simp,.inl ⟨_,_,rfl,run_takeDeferred hK,?_⟩⟩;rw[nD]at hrow;exact⟨_,results_tmp rfl _ _ _,v,rfl,ownsRow_putObj hrow _ hK rfl,hnil,hB.trans (belowK_b (w:=w) (Nat.le_refl _) W D _ _ (by simp at hD;omega) hK rfl rfl)⟩
 case stop =>
  rintro D c pre W _ _ h _;exact h.elim
end Go.Proofs.YtigaphnafnpfnaaGreatDoor
