import Derived.Test.YtigaphnafnpfnaaGreatDoorQVB2
import Derived.Sort.Grow
set_option linter.unusedVariables false
set_option linter.unusedSimpArgs false
set_option maxHeartbeats 8000000
set_option maxRecDepth 100000
namespace Go.Proofs.YtigaphnafnpfnaaGreatDoor
open Go.RowKit
attribute [local go_sem ↓] Go.wp_at_zero Go.wp_at_succ
def tC(a b:Int)(i:Nat):Int:=if i=0 then a else b
def MI(a b c d:Int)(i:Nat):Int:=if i=0 then a else if i=1 then b else if i=2 then c else d
def qy:ByteArray:=⟨#[101,110,116,101,114]⟩
def zN:ByteArray:=⟨#[98,117,115,116]⟩
def oN(id aG:Int)(sym:ByteArray)(side kind af aK:Int):ByteArray:=(fJ (tC id aG) qy 2++⟨#[32]⟩)++fJ (MI side kind af aK) sym 4
def iI(n:Int):Prop:=-9223372036854775808<=n/\n<=9223372036854775807
def acM(W:World)(w1:ByteArray)(a b:Int)(s1 w2:ByteArray)(c d e f:Int)(s2:ByteArray)(word:ByteArray)(sb m:Nat)(s:ByteArray):Prop :=
 (m=2/\word=w1/\W.cell? ⟨sb,0,none⟩=some (II a)/\W.cell? ⟨sb,1,none⟩=some (II b)/\s=s1) \/
 (m=4/\word=w2/\W.cell? ⟨sb,0,none⟩=some (II c)/\W.cell? ⟨sb,1,none⟩=some (II d)/\W.cell? ⟨sb,2,none⟩=some (II e)/\W.cell? ⟨sb,3,none⟩=some (II f)/\s=s2)
theorem VW(w1 w2:ByteArray)(a b c d e f:Int)(h1:w1.size<=1000)(h2:w2.size<=1000)(ha:iI a)(hb:iI b)(hc:iI c)(hd:iI d)(he:iI e)(hf:iI f)(w0:World)(hT:kP w0) :
 ∀W,aj aJ w0 W->∀word sb m cap s,acM W w1 a b (fJ (tC a b) w1 2) w2 c d e f (fJ (MI c d e f) w2 4) word sb m s ->
  CT 65 #[.string word,.slice (some ⟨sb,0,none⟩) m cap] W fun e w'=>e=.returned (.string s)/\aj aJ w0 w'/\aj aJ W w':=by
 intro W k word sb m cap s hw;have hTW:=hT.aB k;rcases hw with⟨rfl,rfl,c0,c1,rfl⟩ | ⟨rfl,rfl,c0,c1,c2,c3,rfl⟩
 ·refine (rO word (tC a b) sb 2 cap W hTW (by omega) h1 ?_ ?_).mono ?_
  ·intro i hi
   match i,hi with
   | 0,_=>exact c0
   | 1,_=>exact c1
  ·intro i hi
   match i,hi with
   | 0,_=>exact ha
   | 1,_=>exact hb
  ·rintro e w' ⟨rfl,k2⟩;exact⟨rfl,k.trans k2,k2⟩
 ·refine (rO word (MI c d e f) sb 4 cap W hTW (by omega) h2 ?_ ?_).mono ?_
  ·intro i hi
   match i,hi with
   | 0,_=>exact c0
   | 1,_=>exact c1
   | 2,_=>exact c2
   | 3,_=>exact c3
  ·intro i hi
   match i,hi with
   | 0,_=>exact hc
   | 1,_=>exact hd
   | 2,_=>exact he
   | 3,_=>exact hf
  ·rintro e w' ⟨rfl,k2⟩;exact⟨rfl,k.trans k2,k2⟩
theorem zW(id aG:Int)(sym:ByteArray)(side kind af aK:Int)(w:World)(hT:kP w)(hs:sym.size<=1000)(h1:iI id)(h2:iI aG)(h3:iI side)(h4:iI kind)(h5:iI af)(h6:iI aK) :
 CT 113 #[.agg #[II id,II aG,.string sym,II side,II kind,II af,II aK]] w fun e w'=>e=.returned (.string (oN id aG sym side kind af aK))/\aj aJ w w':=by
 obtain⟨w1,hw1⟩:=kL (w.alloc (.cells #[II id,II aG,.string sym,II side,II kind,II af,II aK] 52));have k0:aj aJ w w1:=by rw[hw1];exact (aj.refl aJ w).alloc _
 have b0:aA w1 w.heap.size #[II id,II aG,.string sym,II side,II kind,II af,II aK] 52:=by rw[hw1];exact aA.new _ _ _
 have hT1:=hT.aB k0;have HW:=VW qy sym id aG side kind af aK (by decide) hs h1 h2 h3 h4 h5 h6 w1 hT1;have z1:=jX (tC id aG) qy 2 (fun i hi=>by match i,hi with | 0,_=>exact h1 | 1,_=>exact h2);have z2:=jX (MI side kind af aK) sym 4 (fun i hi=>by match i,hi with | 0,_=>exact h3 | 1,_=>exact h4 | 2,_=>exact h5 | 3,_=>exact h6);unfold oN;have zE:qy.size=5:=by decide
 rw[zE]at z1;generalize fJ (tC id aG) qy 2=s1 at *;generalize fJ (MI side kind af aK) sym 4=s2 at *;have c1:=xw (P:=Tryz.prog) s1 ⟨#[32]⟩ (by show s1.size+1<=1000000;omega);have c2:=xw (P:=Tryz.prog) (s1++⟨#[32]⟩) s2 (by rw[ByteArray.size_append];show (s1.size+1)+s2.size<=1000000;omega);obtain⟨H,hH⟩:=mf w.heap.size;rw[hH]at b0;obtain⟨x0,x1,x2,x3,x4,x5,x6⟩:=b0.c7;have lH:H<w1.heap.size:=b0.lt;obtain⟨HWW,HK0,HW1⟩:=eY HW k0 hw1;clear HW k0 hw1 hT1 hT b0 h1 h2 h3 h4 h5 h6 z1 z2 zE hs;go_enter Tryz.func113,Tryz.ntmps113;go_wp2;rw[<-ae HW1];go_region_held3 (fun w'=>w'.cell? ⟨H,0,none⟩=some (II id)/\w'.cell? ⟨H,1,none⟩=some (II aG)/\w'.cell? ⟨H,2,none⟩=some (.string sym)/\w'.cell? ⟨H,3,none⟩=some (II side)/\w'.cell? ⟨H,4,none⟩=some (II kind)/\w'.cell? ⟨H,5,none⟩=some (II af)/\w'.cell? ⟨H,6,none⟩=some (II aK)) (go_keep)
  (first
    | (go_at_call 65;refine (ae HWW _ ?cc _ _ _ _ s1 ?wt).mono ?_;(case wt=>exact Or.inl ⟨rfl,rfl,by go_keep,by go_keep,rfl⟩);(case cc=>repeat (first | exact ae HKn | exact aj.refl _ _ | refine aj.drew ?_ | refine aj.alloc ?_ _));rintro e w3 ⟨rfl,hk,hkW⟩;have HKW:=au hkW;clear hkW;have k0:=hk.cell (p:=⟨H,0,none⟩) x0 aU;have k1:=hk.cell (p:=⟨H,1,none⟩) x1 aU;have k2:=hk.cell (p:=⟨H,2,none⟩) x2 aU;have k3:=hk.cell (p:=⟨H,3,none⟩) x3 aU;have k4:=hk.cell (p:=⟨H,4,none⟩) x4 aU;have k5:=hk.cell (p:=⟨H,5,none⟩) x5 aU;have k6:=hk.cell (p:=⟨H,6,none⟩) x6 aU;have HKn:=au hk;clear hk)
    | (go_at_call 65;refine (ae HWW _ ?cc _ _ _ _ s2 ?wt).mono ?_;(case wt=>exact Or.inr ⟨rfl,rfl,(by first | go_keep | exact (ae HKW).cell (by go_keep) aU),(by first | go_keep | exact (ae HKW).cell (by go_keep) aU),(by first | go_keep | exact (ae HKW).cell (by go_keep) aU),(by first | go_keep | exact (ae HKW).cell (by go_keep) aU),rfl⟩);(case cc=>repeat (first | exact ae HKn | exact aj.refl _ _ | refine aj.drew ?_ | refine aj.alloc ?_ _));rintro e w3 ⟨rfl,hk,hkW⟩;have HKW:=au hkW;clear hkW;have k0:=hk.cell (p:=⟨H,0,none⟩) x0 aU;have k1:=hk.cell (p:=⟨H,1,none⟩) x1 aU;have k2:=hk.cell (p:=⟨H,2,none⟩) x2 aU;have k3:=hk.cell (p:=⟨H,3,none⟩) x3 aU;have k4:=hk.cell (p:=⟨H,4,none⟩) x4 aU;have k5:=hk.cell (p:=⟨H,5,none⟩) x5 aU;have k6:=hk.cell (p:=⟨H,6,none⟩) x6 aU;have HKn:=au hk;clear hk))
 all_goals
  go_wp2;go_ret;exact⟨rfl,(ae HK0).trans (by repeat (first | exact ae HKn | exact aj.refl _ _ | refine aj.drew ?_ | refine aj.drewN ?_ _ | refine aj.alloc ?_ _))⟩
open Go.RowKit Go.Sort
theorem SA(a b:Nat)(oa ob:Ord)(ia ib:Int)(w:World)(ha:df w a oa ia)(hb:df w b ob ib) :
 CT 83 #[PP a,PP b] w fun e w'=>e=.returned (II (kY oa ob))/\∃q os',w'=grow (w.drewN q) os':=by
 have a3:=ha.cell 3;have a5:=ha.cell 5;have a12:=ha.cell 12;have b5:=hb.cell 5;have b12:=hb.cell 12;have la:=ha.lt;have lb:=hb.lt;simp only[Ord.cells]at a3 a5 a12 b5 b12;simp at a3 a5 a12 b5 b12;clear ha hb;obtain⟨p1,p2⟩:=SG oa.af ob.af;by_cases hs:oa.side=0
 ·have hs':(oa.side == 0)=true:=by simp[hs]
  have HF:Hid (kY oa ob=Wp (-(mZ oa.af ob.af)) (mZ oa.place ob.place)):=by show kY oa ob=_;simp only[kY,hs,if_true]
  clear hs;go_enter Tryz.func83,Tryz.ntmps83;go_wp2;go_quiet ((go_at_call 130;exact Calls.quiet_of_same (jl _ _ _)));go_wp2;go_region_held3 (fun w'=>w'.cell? ⟨a,12,none⟩=some (II oa.place)/\w'.cell? ⟨b,12,none⟩=some (II ob.place)) (go_keep)
   (first | (go_at_call 130;refine (jl _ _ _).mono ?_;rintro e w' ⟨rfl,rfl⟩) | (go_at_call 131;refine (GK _ _ (-(mZ oa.af ob.af)) (mZ oa.place ob.place) _ ?_ ?_).mono ?_;(exact (aA.new _ _ _).cell 0);(exact (aA.new _ _ _).cell 1);rintro e w' ⟨rfl,rfl⟩))
  go_wp2;go_ret;exact⟨by rw[HF.out];rfl,_,_,alloc_eq_grow _ _⟩
 ·have hs':(oa.side == 0)=false:=by simp[hs]
  have HF:Hid (kY oa ob=Wp (mZ oa.af ob.af) (mZ oa.place ob.place)):=by show kY oa ob=_;simp only[kY,hs,if_false]
  clear hs;go_enter Tryz.func83,Tryz.ntmps83;go_wp2;go_quiet ((go_at_call 130;exact Calls.quiet_of_same (jl _ _ _)));go_wp2;go_region_held3 (fun w'=>w'.cell? ⟨a,12,none⟩=some (II oa.place)/\w'.cell? ⟨b,12,none⟩=some (II ob.place)) (go_keep)
   (first | (go_at_call 130;refine (jl _ _ _).mono ?_;rintro e w' ⟨rfl,rfl⟩) | (go_at_call 131;refine (GK _ _ (mZ oa.af ob.af) (mZ oa.place ob.place) _ ?_ ?_).mono ?_;(exact (aA.new _ _ _).cell 0);(exact (aA.new _ _ _).cell 1);rintro e w' ⟨rfl,rfl⟩))
  go_wp2;go_ret;exact⟨by rw[HF.out];rfl,_,_,alloc_eq_grow _ _⟩
theorem DV(Bs:Nat)(a:Option Addr)(len cap:Nat)(f:Nat->Nat)(hlen:len<=100000)(w:World)(hBs:Bs<w.heap.size)
 (hcB:w.cell? ⟨Bs,0,none⟩=some (.slice a len cap)) (hI:FH w.heap.size w a len cap f) :
 CT 156 #[.slice none 0 0,.func (.func 129) #[] #[PP Bs]] w fun e W'=>∃v,e=.returned v/\W'.ownsRow w.heap.size 114 1 v len ((upto f len).map vC)/\(v=.slice none 0 0↔upto f len=[])/\Below w.heap.size w W' :=
 callsIn_wide.1 (FI Fence.wide 3 trivial trivial rfl (by omega) Bs a len cap f hlen w hBs hcB hI)
theorem Oh(a:Option Addr)(len cap:Nat)(w:World) :
 CT 82 #[.slice a len cap] w fun e w'=>e=.returned (.func (.func 129) #[] #[PP w.heap.size])/\w'=w.alloc (.cells #[.slice a len cap] 155) :=
 callsIn_wide.1 (Q4 Fence.wide 3 trivial rfl a len cap w)
theorem IP(Bs:Nat)(a:Option Addr)(len cap:Nat)(f:Nat->Nat)(hlen:len<=100000)(w:World)(hBs:Bs<w.heap.size)
 (hcB:w.cell? ⟨Bs,0,none⟩=some (.slice a len cap)) (hI:FH w.heap.size w a len cap f) :
 CT 127 #[.func (.func 129) #[] #[PP Bs]] w fun e W'=>∃v,e=.returned v/\W'.ownsRow w.heap.size 114 1 v len ((upto f len).map vC)/\(v=.slice none 0 0↔upto f len=[])/\Below w.heap.size w W':=by
 have hcon:=DV Bs a len cap f hlen w hBs hcB hI;clear hcB hI;go_enter Tryz.func127,Tryz.ntmps127;go_wp2_with (go_at_call 156;refine hcon.mono ?_;clear hcon;rintro e w' ⟨v,rfl,hv⟩);go_ret;exact⟨v,rfl,hv⟩
end Go.Proofs.YtigaphnafnpfnaaGreatDoor
