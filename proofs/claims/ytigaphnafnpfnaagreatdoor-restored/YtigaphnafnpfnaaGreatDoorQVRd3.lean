import Derived.Test.YtigaphnafnpfnaaGreatDoorQNF3
import Derived.Lib.AtoiErrMem
set_option linter.unusedVariables false
set_option linter.unusedSimpArgs false
set_option maxHeartbeats 8000000
set_option maxRecDepth 100000
namespace Go.Proofs.YtigaphnafnpfnaaGreatDoor
open Go.RowKit
attribute [local go_sem ↓] Go.wp_at_zero Go.wp_at_succ
structure Wd(w:World)(q g cap:Nat)(ws:List (List UInt8))(i:Nat):Prop where
 aF:aA w q #[.slice (some ⟨g,i,none⟩) (ws.length-i) (cap-i),.bool false] 194
 row:∃cs,aA w g cs 9
 cell:∀(j:Nat) (x:List UInt8),ws[j]?=some x->w.cell? ⟨g,j,none⟩=some (.string (fQ x))
 lt:ws.length<cap
 le:cap<=9
theorem Wd.aC{w w':World}{q g cap:Nat}{ws:List (List UInt8)}{i:Nat}(h:Wd w q g cap ws i){S:Nat->Prop}(k:aj S w w')(h1:¬S q)(h2:¬S g):Wd w' q g cap ws i:=by
 obtain⟨cs,hc⟩:=h.row;exact⟨k.aF h.aF h1,⟨cs,k.aF hc h2⟩,fun j x hx=>k.cell (h.cell j x hx) h2,h.lt,h.le⟩
theorem Wd.aB{w w':World}{q g cap:Nat}{ws:List (List UInt8)}{i:Nat}(h:Wd w q g cap ws i)(k:aj aJ w w'):Wd w' q g cap ws i:=h.aC k aU aU
theorem Wd.ne{w:World}{q g cap:Nat}{ws:List (List UInt8)}{i:Nat}(h:Wd w q g cap ws i):g≠q:=by
 obtain⟨cs,hc⟩:=h.row;exact aA.ne hc h.aF (by decide)
theorem UN{w:World}{q g cap:Nat}{ws:List (List UInt8)}{i:Nat}{x:List UInt8}(h:Wd w q g cap ws i)(hx:ws[i]?=some x) :
 CT 90 #[PP q] w fun e w'=>e=.returned (.string (fQ x))/\Wd w' q g cap ws (i+1)/\aj (fun b=>b=q) w w':=by
 have hi:=(List.getElem?_eq_some_iff.1 hx).1;have c0:CC w g i (.string (fQ x)):=h.cell i x hx;have hlt:=h.lt;have hle:=h.le;obtain⟨n,hn⟩:∃n,ws.length-i=n+1:=⟨ws.length-i-1,by omega⟩;obtain⟨c,hc⟩:∃c,cap-i=c+1:=⟨cap-i-1,by omega⟩;have hb:=h.aF;rw[hn,hc]at hb;have q0:CC w q 0 (.slice (some ⟨g,i,none⟩) (n+1) (c+1)):=hb.cell 0;have f0:=hb.frozen 0;have hnc:n<c:=by omega
 have hc9:c<=9:=by omega
 obtain⟨HW,HB,HN⟩:=eY h hb (And.intro hn hc);clear h hb hn hc hx hi hlt hle;go_enter Tryz.func90,Tryz.ntmps90;go_wp2;go_ret;have hW:=ae HW;obtain⟨hn,hc⟩:=ae HN;have k:aj (fun b=>b=q) w (w.setCell ⟨q,0,none⟩ (.slice (some ⟨g,i+1,none⟩) n c)):=(aj.refl (fun b=>b=q) w).setCell (p:=⟨q,0,none⟩) (.inl rfl) _;obtain⟨cs,hcs⟩:=hW.row;refine⟨rfl,⟨?_,⟨cs,k.aF hcs hW.ne⟩,fun j y hy=>k.cell (hW.cell j y hy) hW.ne,hW.lt,hW.le⟩,k⟩;rw[show ws.length-(i+1)=n by omega,show cap-(i+1)=c by omega];exact (ae HB).set 0 _
theorem Eo{w:World}{q g cap:Nat}{ws:List (List UInt8)}{i:Nat}(h:Wd w q g cap ws i)(hi:i=ws.length) :
 CT 91 #[PP q] w fun e w'=>e=.returned (.bool true)/\aj aJ w w':=by
 have hb:=h.aF;rw[show ws.length-i=0 by omega]at hb;have q0:CC w q 0 (.slice (some ⟨g,i,none⟩) 0 (cap-i)):=hb.cell 0;have q1:CC w q 1 (.bool false):=hb.cell 1;clear h hb hi;go_enter Tryz.func91,Tryz.ntmps91;go_wp2;go_ret;exact⟨rfl,aj.refl _ _⟩
theorem iR(x:List UInt8):(fQ x).size=x.length:=by show x.toArray.size=_;simp
theorem JD{w:World}{q g cap n:Nat}{ws:List (List UInt8)}{i:Nat}(h:Wd w q g cap ws i)(hT:kP w)(hq:lh≠q)(hx:ws[i]?=some (gu n))(hn:n<1000000000) :
 CT 93 #[PP q] w fun e w'=>e=.returned (II (n:Int))/\Wd w' q g cap ws (i+1)/\aj (fun b=>b=q) w w':=by
 have Yl:=au (UN h hx);have hl:=Jh hn;have HA:Hid (∀W,CT 134 #[.string (fQ (gu n))] W fun e w'=>e=.returned (.tuple #[II (n:Int),.nilIface])/\aj aJ W w'):=fun W=>by
  refine (acd (fQ (gu n)) (n:Int) (by rw[iR];omega) (PL n) W).mono ?_;rintro e w' ⟨rfl,t,rfl⟩;exact⟨rfl,aj.qO (Lib.bytesWorld_below W 5 t)⟩
 have HI:Hid (∀W,kP W->CT 115 #[II (n:Int)] W fun e w'=>e=.returned (.string (fQ (gu n)))/\aj aJ W w'):=fun W hT=>by
  refine (Ji (n:Int) (by omega) (by omega) W hT).mono ?_;rintro e w' ⟨rfl,k⟩;rw[Jj];exact⟨rfl,k⟩
 have hs:(fQ (gu n)).size<=9:=by rw[iR];exact hl
 have HT:=au hT;clear h hx hl hT;generalize fQ (gu n)=t at *;go_enter Tryz.func93,Tryz.ntmps93;go_wp2_with fail;refine (ae Yl).mono ?_;rintro e w1 ⟨rfl,h1,k1⟩;have HT1:=au ((ae HT).aC k1 hq);obtain⟨H1,Rk⟩:=dE h1 k1;clear h1 k1 Yl HT;go_wp2_with fail;refine (ae HA w1).mono ?_;rintro e w2 ⟨rfl,k2⟩;have HT2:=au ((ae HT1).aB k2);have H2:=au ((ae H1).aB k2);have zn:=au k2;clear k2 HA H1 HT1;have e1:decide ((n:Int)<0)=false:=by simp
 have e2:decide ((9:Int)<(t.size:Int))=false:=by simp;omega
 go_wp2_with fail;refine (ae HI w2 (ae HT2)).mono ?_;rintro e w3 ⟨rfl,k3⟩;have H3:=au ((ae H2).aB k3);have LG:=au k3;clear k3 HI H2 HT2;go_wp2;go_ret;exact⟨rfl,ae H3,((ae Rk).trans (ae zn).bI).trans (ae LG).bI⟩
def AQ(b:Bool):Nat:=if b then 1 else 0
theorem Q9{w:World}{q g cap:Nat}{b:Bool}{ws:List (List UInt8)}{i:Nat}(h:Wd w q g cap ws i)(hT:kP w)(hq:lh≠q)(hx:ws[i]?=some (gu (AQ b))) :
 CT 95 #[PP q] w fun e w'=>e=.returned (.bool b)/\Wd w' q g cap ws (i+1)/\aj (fun b=>b=q) w w':=by
 have HNu:=au (JD h hT hq hx (by unfold AQ;split <;> omega));clear h hT hx;go_enter Tryz.func95,Tryz.ntmps95;go_wp2_with fail;refine (ae HNu).mono ?_;rintro e w1 ⟨rfl,h1,k1⟩;have q1:CC w1 q 1 (.bool false):=h1.aF.cell 1;have f1:=h1.aF.frozen 1;obtain⟨H1,Rk⟩:=dE h1 k1;clear h1 k1 HNu;have fin:∀W,W=w1.setCell ⟨q,1,none⟩ (.bool false)->Wd W q g cap ws (i+1)/\aj (fun b=>b=q) w W:=fun W hW=>by
  have h1:=ae H1;have k:aj (fun b=>b=q) w1 W:=by rw[hW];exact (aj.refl (fun b=>b=q) w1).setCell (p:=⟨q,1,none⟩) (.inl rfl) _
  obtain⟨cs,hcs⟩:=h1.row;exact⟨⟨by rw[hW];exact h1.aF.set 1 (.bool false),⟨cs,k.aF hcs h1.ne⟩,fun j y hy=>k.cell (h1.cell j y hy) h1.ne,h1.lt,h1.le⟩,(ae Rk).trans k⟩
 have HF:=au fin;clear fin;cases b
 ·have e0:AQ false=0:=rfl;rw[e0];go_wp2;go_ret;exact⟨rfl,ae HF _ rfl⟩
 ·have e0:AQ true=1:=rfl;rw[e0];go_wp2;go_ret;exact⟨rfl,ae HF _ rfl⟩
theorem Pn:∀(ws:List (List UInt8)),(∀x∈ws,x≠[])->ws≠[]->2 * ws.length<=(kJ ws).length+1
 | [],_,h=>absurd rfl h
 | [x],h,_=>by
   have:=List.length_pos_iff.2 (h x (by simp));show 2 * 1<=x.length+1;omega
 | x :: y :: ws,h,_=>by
   have ih:=Pn (y :: ws) (fun z hz=>h z (List.mem_cons_of_mem _ hz)) (by simp);have:=List.length_pos_iff.2 (h x (by simp));rw[qV];simp only[List.length_append,List.length_cons]at ih ⊢;omega
structure pU(ws:List (List UInt8)):Prop where
 ne:ws≠[]
 len:ws.length<=8
 eU:∀x∈ws,x≠[]/\(32:UInt8)∉x
 size:(kJ ws).length<=1000
theorem Q5{w:World}{ws:List (List UInt8)}{m:Int}(h:pU ws)(hm:w.cell? ⟨0,0,none⟩=some (II m)) :
 CT 89 #[.string (fQ (kJ ws))] w fun e w'=>∃q g cap,e=.returned (PP q)/\Wd w' q g cap ws 0/\w.heap.size<=q/\w.heap.size<=g/\aj aJ w w':=by
 have hl:=Pn ws (fun x hx=>(h.eU x hx).1) h.ne;have hsz:(fQ (kJ ws)).size=(kJ ws).length:=iR _;have h8:=h.len;have hsp:=XX (fQ (kJ ws)) ⟨#[32]⟩ 9 m w (by have:=h.size;omega) hm (by decide) (by omega) (by omega);obtain⟨cap,hcap⟩:=mf (min 9 ((fQ (kJ ws)).size+1));have hlt:ws.length<cap:=by omega
 have hle:cap<=9:=by omega
 rw[hcap,NS ws (cap-1) h.ne (by omega) (fun x hx=>(h.eU x hx).2),List.length_map]at hsp;have HSp:=au hsp;have hcell:∀(W:World),aA W w.heap.size (Lib.cellsOf (ws.map fQ) cap) 9->∀(j:Nat) (x:List UInt8),ws[j]?=some x->W.cell? ⟨w.heap.size,j,none⟩=some (.string (fQ x)):=fun W hB j x hx=>by
  rw[hB.cell j];unfold Lib.cellsOf;have hj:=(List.getElem?_eq_some_iff.1 hx).1;have e2:=(List.getElem?_eq_some_iff.1 hx).2;simp[List.getElem?_append_left,hj];rw[e2]
 have HC:=au hcell;obtain⟨n,hn⟩:=mf ws.length;have HN:=au hn;clear h hl hsz hsp hcap hcell hm;go_enter Tryz.func89,Tryz.ntmps89;go_wp2_with fail;refine (ae HSp).mono ?_;rintro e w1 ⟨rfl,hw1⟩;rw[hn];have HW:=au hw1;have hB:aA w1 w.heap.size (Lib.cellsOf (ws.map fQ) cap) 9:=by rw[hw1];exact aA.new w _ _
 have k1:aj aJ w w1:=by rw[hw1];exact (aj.refl aJ w).alloc _
 obtain⟨Wy,HK⟩:=dE hB k1;clear hB k1 hw1 HSp hn;go_wp2;go_ret;have s1:=(ae HK).size;refine⟨_,w.heap.size,cap,rfl,⟨?_,⟨_,(ae Wy).alloc _⟩,fun j x hx=>ae HC _ ((ae Wy).alloc _) j x hx,by rw[ae HN]at hlt ⊢;exact hlt,hle⟩,s1,Nat.le_refl _,(ae HK).alloc _⟩;rw[ae HN];exact aA.new w1 _ _
theorem Wd.jV{w w1 w2:World}{q:Nat}(k:aj aJ w w1)(hq:w.heap.size<=q)(k2:aj (fun b=>b=q) w1 w2):aj aJ w w2:=k.from (k2.mono (fun b e=>.inr (by rw[e];exact hq)))
structure Rd(w W:World)(q g cap:Nat)(ws:List (List UInt8))(i:Nat):Prop where
 wd:Wd W q g cap ws i
 hq:w.heap.size<=q
 jV:aj aJ w W
 Wu:kP W
theorem Rd.ne{w W:World}{q g cap:Nat}{ws:List (List UInt8)}{i:Nat}(h:Rd w W q g cap ws i)(hT:lh<w.heap.size):lh≠q:=by have:=h.hq;omega
theorem Rd.step{w W W':World}{q g cap:Nat}{ws:List (List UInt8)}{i:Nat}(h:Rd w W q g cap ws i)(hT:lh<w.heap.size)(h1:Wd W' q g cap ws (i+1))(k:aj (fun b=>b=q) W W'):Rd w W' q g cap ws (i+1) :=
 ⟨h1,h.hq,Wd.jV h.jV h.hq k,h.Wu.aC k (h.ne hT)⟩
theorem Rd.next{w W:World}{q g cap:Nat}{ws:List (List UInt8)}{i:Nat}{x:List UInt8}(h:Rd w W q g cap ws i)(hT:lh<w.heap.size)(hx:ws[i]?=some x) :
 CT 90 #[PP q] W fun e W'=>e=.returned (.string (fQ x))/\Rd w W' q g cap ws (i+1) :=
 (UN h.wd hx).mono (fun e W' ⟨e1,h1,k⟩=>⟨e1,h.step hT h1 k⟩)
theorem Rd.number{w W:World}{q g cap n:Nat}{ws:List (List UInt8)}{i:Nat}(h:Rd w W q g cap ws i)(hT:lh<w.heap.size)(hx:ws[i]?=some (gu n))(hn:n<1000000000) :
 CT 93 #[PP q] W fun e W'=>e=.returned (II (n:Int))/\Rd w W' q g cap ws (i+1) :=
 (JD h.wd h.Wu (h.ne hT) hx hn).mono (fun e W' ⟨e1,h1,k⟩=>⟨e1,h.step hT h1 k⟩)
theorem Rd.bit{w W:World}{q g cap:Nat}{b:Bool}{ws:List (List UInt8)}{i:Nat}(h:Rd w W q g cap ws i)(hT:lh<w.heap.size)(hx:ws[i]?=some (gu (AQ b))) :
 CT 95 #[PP q] W fun e W'=>e=.returned (.bool b)/\Rd w W' q g cap ws (i+1) :=
 (Q9 h.wd h.Wu (h.ne hT) hx).mono (fun e W' ⟨e1,h1,k⟩=>⟨e1,h.step hT h1 k⟩)
theorem Rd.bJ{w W W':World}{q g cap:Nat}{ws:List (List UInt8)}{i:Nat}(h:Rd w W q g cap ws i)(k:aj aJ W W'):Rd w W' q g cap ws i:=⟨h.wd.aB k,h.hq,h.jV.trans k,h.Wu.aB k⟩
theorem Rd.uF{w W:World}{q g cap:Nat}{ws:List (List UInt8)}{i:Nat}(h:Rd w W q g cap ws i)(hi:i=ws.length) :
 CT 91 #[PP q] W fun e W'=>e=.returned (.bool true)/\Rd w W' q g cap ws i :=
 (Eo h.wd hi).mono (fun e W' ⟨e1,k⟩=>⟨e1,h.bJ k⟩)
theorem nG{w:World}{ws:List (List UInt8)}{m:Int}(h:pU ws)(hT:kP w)(hm:w.cell? ⟨0,0,none⟩=some (II m)) :
 CT 89 #[.string (fQ (kJ ws))] w fun e w'=>∃q g cap,e=.returned (PP q)/\Rd w w' q g cap ws 0 :=
 (Q5 h hm).mono (fun e w' ⟨q,g,cap,e1,h1,h2,_,k⟩=>⟨q,g,cap,e1,h1,h2,k,hT.aB k⟩)
section
variable {w : World} {bv : Nat} {m : Int} {Q : World -> World -> Prop}
theorem QK{s:List UInt8}(hT:kP w)(hm:w.cell? ⟨0,0,none⟩=some (II m))(h:pU [[108,105,115,116],s])(hC:∀W,aj aJ w W->CT 27 #[PP bv,.string (fQ s)] W fun e w'=>e=.returned (II 0)/\Q W w') :
 CT 57 #[PP bv,.string (fQ (kJ [[108,105,115,116],s]))] w fun e w'=>e=.returned (.bool true)/\∃W,aj aJ w W/\Q W w':=by
 obtain⟨HW,HL,HC⟩:=eY (nG h hT hm) hT.lt hC;clear h hT hm hC;go_enter Tryz.func57,Tryz.ntmps57;go_wp2_with fail;refine (ae HW).mono ?_;rintro e w1 ⟨q,g,cap,rfl,h1⟩;have H1:=au h1;clear h1 HW;go_wp2_with fail;refine ((ae H1).next (ae HL) (x:=[108,105,115,116]) rfl).mono ?_;rintro e w2 ⟨rfl,h2⟩;have H2:=au h2;clear h2 H1;rw[show fQ [108,105,115,116]=⟨#[108,105,115,116]⟩ from rfl];go_wp2_with fail;refine ((ae H2).next (ae HL) (x:=s) rfl).mono ?_;rintro e w3 ⟨rfl,h3⟩;have H3:=au h3;clear h3 H2;go_wp2_with fail;refine ((ae H3).uF rfl).mono ?_;rintro e w4 ⟨rfl,h4⟩;have H4:=au h4;clear h4 H3;go_wp2_with fail;refine (ae HC w4 (ae H4).jV).mono ?_;rintro e w5 ⟨rfl,hq⟩;have HQ:=au hq;clear hq;go_wp2;go_ret;exact⟨rfl,w4,(ae H4).jV,ae HQ⟩
theorem JV{a:Nat}(hT:kP w)(hm:w.cell? ⟨0,0,none⟩=some (II m))(h:pU [[99,97,110,99,101,108],gu a])(h1:a<1000000000)(hC:∀W,aj aJ w W->CT 37 #[PP bv,II (a:Int)] W fun e w'=>e=.returned (II 0)/\Q W w') :
 CT 57 #[PP bv,.string (fQ (kJ [[99,97,110,99,101,108],gu a]))] w fun e w'=>e=.returned (.bool true)/\∃W,aj aJ w W/\Q W w':=by
 obtain⟨HW,HL,HC⟩:=eY (nG h hT hm) hT.lt hC;clear h hT hm hC;go_enter Tryz.func57,Tryz.ntmps57;go_wp2_with fail;refine (ae HW).mono ?_;rintro e w1 ⟨q,g,cap,rfl,h1⟩;have H1:=au h1;clear h1 HW;go_wp2_with fail;refine ((ae H1).next (ae HL) (x:=[99,97,110,99,101,108]) rfl).mono ?_;rintro e w2 ⟨rfl,h2⟩;have H2:=au h2;clear h2 H1;rw[show fQ [99,97,110,99,101,108]=⟨#[99,97,110,99,101,108]⟩ from rfl];go_wp2_with fail;refine ((ae H2).number (ae HL) (n:=a) rfl h1).mono ?_;rintro e w3 ⟨rfl,h3⟩;have H3:=au h3;clear h3 H2;go_wp2_with fail;refine ((ae H3).uF rfl).mono ?_;rintro e w4 ⟨rfl,h4⟩;have H4:=au h4;clear h4 H3;go_wp2_with fail;refine (ae HC w4 (ae H4).jV).mono ?_;rintro e w9 ⟨rfl,hq⟩;have HQ:=au hq;clear hq;go_wp2;go_ret;exact⟨rfl,w4,(ae H4).jV,ae HQ⟩
theorem QJ{a:Nat}{b:Bool}(hT:kP w)(hm:w.cell? ⟨0,0,none⟩=some (II m))(h:pU [[98,117,115,116],gu a,gu (AQ b)])(h1:a<1000000000)(hC:∀W,aj aJ w W->CT 39 #[PP bv,II (a:Int),.bool b] W fun e w'=>e=.returned (II 0)/\Q W w') :
 CT 57 #[PP bv,.string (fQ (kJ [[98,117,115,116],gu a,gu (AQ b)]))] w fun e w'=>e=.returned (.bool true)/\∃W,aj aJ w W/\Q W w':=by
 obtain⟨HW,HL,HC⟩:=eY (nG h hT hm) hT.lt hC;clear h hT hm hC;go_enter Tryz.func57,Tryz.ntmps57;go_wp2_with fail;refine (ae HW).mono ?_;rintro e w1 ⟨q,g,cap,rfl,h1⟩;have H1:=au h1;clear h1 HW;go_wp2_with fail;refine ((ae H1).next (ae HL) (x:=[98,117,115,116]) rfl).mono ?_;rintro e w2 ⟨rfl,h2⟩;have H2:=au h2;clear h2 H1;rw[show fQ [98,117,115,116]=⟨#[98,117,115,116]⟩ from rfl];go_wp2_with fail;refine ((ae H2).number (ae HL) (n:=a) rfl h1).mono ?_;rintro e w3 ⟨rfl,h3⟩;have H3:=au h3;clear h3 H2;go_wp2_with fail;refine ((ae H3).bit (ae HL) (b:=b) rfl).mono ?_;rintro e w4 ⟨rfl,h4⟩;have H4:=au h4;clear h4 H3;go_wp2_with fail;refine ((ae H4).uF rfl).mono ?_;rintro e w5 ⟨rfl,h5⟩;have H5:=au h5;clear h5 H4;go_wp2_with fail;refine (ae HC w5 (ae H5).jV).mono ?_;rintro e w9 ⟨rfl,hq⟩;have HQ:=au hq;clear hq;go_wp2;go_ret;exact⟨rfl,w5,(ae H5).jV,ae HQ⟩
theorem GR{a b:Nat}(hT:kP w)(hm:w.cell? ⟨0,0,none⟩=some (II m))(h:pU [[99,111,114,114,101,99,116],gu a,gu b])(h1:a<1000000000)(h2:b<1000000000)(hC:∀W,aj aJ w W->CT 40 #[PP bv,II (a:Int),II (b:Int)] W fun e w'=>e=.returned (II 0)/\Q W w') :
 CT 57 #[PP bv,.string (fQ (kJ [[99,111,114,114,101,99,116],gu a,gu b]))] w fun e w'=>e=.returned (.bool true)/\∃W,aj aJ w W/\Q W w':=by
 obtain⟨HW,HL,HC⟩:=eY (nG h hT hm) hT.lt hC;clear h hT hm hC;go_enter Tryz.func57,Tryz.ntmps57;go_wp2_with fail;refine (ae HW).mono ?_;rintro e w1 ⟨q,g,cap,rfl,h1⟩;have H1:=au h1;clear h1 HW;go_wp2_with fail;refine ((ae H1).next (ae HL) (x:=[99,111,114,114,101,99,116]) rfl).mono ?_;rintro e w2 ⟨rfl,h2⟩;have H2:=au h2;clear h2 H1;rw[show fQ [99,111,114,114,101,99,116]=⟨#[99,111,114,114,101,99,116]⟩ from rfl];go_wp2_with fail;refine ((ae H2).number (ae HL) (n:=a) rfl h1).mono ?_;rintro e w3 ⟨rfl,h3⟩;have H3:=au h3;clear h3 H2;go_wp2_with fail;refine ((ae H3).number (ae HL) (n:=b) rfl h2).mono ?_;rintro e w4 ⟨rfl,h4⟩;have H4:=au h4;clear h4 H3;go_wp2_with fail;refine ((ae H4).uF rfl).mono ?_;rintro e w5 ⟨rfl,h5⟩;have H5:=au h5;clear h5 H4;go_wp2_with fail;refine (ae HC w5 (ae H5).jV).mono ?_;rintro e w9 ⟨rfl,hq⟩;have HQ:=au hq;clear hq;go_wp2;go_ret;exact⟨rfl,w5,(ae H5).jV,ae HQ⟩
end
section
variable {w : World} {bv : Nat} {m : Int} {Q : World -> World -> Prop}
theorem JS{W:World}(hC:CT 41 #[PP bv] W fun e w'=>e=.returned (.tuple #[])/\Q W w') :
 CT 96 #[PP bv] W fun e w'=>e=.returned (.bool true)/\Q W w':=by
 have HC:=au hC;clear hC;go_enter Tryz.func96,Tryz.ntmps96;go_wp2_with fail;refine (ae HC).mono ?_;rintro e w1 ⟨rfl,hq⟩;have HQ:=au hq;clear hq HC;go_wp2;go_ret;exact⟨rfl,ae HQ⟩
theorem NJ(hT:kP w)(hm:w.cell? ⟨0,0,none⟩=some (II m))(hC:∀W,aj aJ w W->CT 41 #[PP bv] W fun e w'=>e=.returned (.tuple #[])/\Q W w') :
 CT 57 #[PP bv,.string (fQ (kJ [[99,108,111,115,101]]))] w fun e w'=>e=.returned (.bool true)/\∃W,aj aJ w W/\Q W w':=by
 have HW:=au (nG (ws:=[[99,108,111,115,101]]) ⟨by simp,by simp,by simp,by decide⟩ hT hm);obtain⟨HL,HC⟩:=dE hT.lt hC;clear hT hm hC;go_enter Tryz.func57,Tryz.ntmps57;go_wp2_with fail;refine (ae HW).mono ?_;rintro e w1 ⟨q,g,cap,rfl,h1⟩;have H1:=au h1;clear h1 HW;go_wp2_with fail;refine ((ae H1).next (ae HL) (x:=[99,108,111,115,101]) rfl).mono ?_;rintro e w2 ⟨rfl,h2⟩;have H2:=au h2;clear h2 H1;rw[show fQ [99,108,111,115,101]=⟨#[99,108,111,115,101]⟩ from rfl];go_wp2_with fail;refine ((ae H2).uF rfl).mono ?_;rintro e w3 ⟨rfl,h3⟩;have H3:=au h3;clear h3 H2;go_wp2_with fail;refine (JS (ae HC w3 (ae H3).jV)).mono ?_;rintro e w9 ⟨rfl,hq⟩;have HQ:=au hq;clear hq;go_wp2;go_ret;exact⟨rfl,w3,(ae H3).jV,ae HQ⟩
theorem U2(hT:kP w)(hm:w.cell? ⟨0,0,none⟩=some (II m)) :
 CT 57 #[PP bv,.string (fQ (kJ [[99,108,111,115]]))] w fun e w'=>e=.returned (.bool false)/\aj aJ w w':=by
 have HW:=au (nG (ws:=[[99,108,111,115]]) ⟨by simp,by simp,by simp,by decide⟩ hT hm);have HL:=au hT.lt;clear hT hm;go_enter Tryz.func57,Tryz.ntmps57;go_wp2_with fail;refine (ae HW).mono ?_;rintro e w1 ⟨q,g,cap,rfl,h1⟩;have H1:=au h1;clear h1 HW;go_wp2_with fail;refine ((ae H1).next (ae HL) (x:=[99,108,111,115]) rfl).mono ?_;rintro e w2 ⟨rfl,h2⟩;have H2:=au h2;clear h2 H1;rw[show fQ [99,108,111,115]=⟨#[99,108,111,115]⟩ from rfl];go_wp2;go_ret;exact⟨rfl,(ae H2).jV⟩
theorem Ee{W0:World}{a b c q g cap:Nat}{x:List UInt8}(hL:lh<w.heap.size)(h:Rd w W0 q g cap [x,gu a,gu b,gu c] 1)(h1:a<1000000000)(h2:b<1000000000)(h3:c<1000000000)(hC:∀W,aj aJ w W->CT 38 #[PP bv,II (a:Int),II (b:Int),II (c:Int)] W fun e w'=>∃f r c a m,e=.returned (.tuple #[.agg #[II f,II r,II c,II a,II m],II 0])/\Q W w') :
 CT 94 #[PP bv,PP q] W0 fun e w'=>e=.returned (.bool true)/\∃W W1,aj aJ w W/\Q W W1/\aj aJ W1 w':=by
 obtain⟨HL,HC,H1⟩:=eY hL hC h;clear hL hC h;go_enter Tryz.func94,Tryz.ntmps94;go_wp2_with fail;refine ((ae H1).number (ae HL) (n:=a) rfl h1).mono ?_;rintro e w2 ⟨rfl,hh⟩;have H2:=au hh;clear hh H1;go_wp2_with fail;refine ((ae H2).number (ae HL) (n:=b) rfl h2).mono ?_;rintro e w3 ⟨rfl,hh⟩;have H3:=au hh;clear hh H2;go_wp2_with fail;refine ((ae H3).number (ae HL) (n:=c) rfl h3).mono ?_;rintro e w4 ⟨rfl,hh⟩;have H4:=au hh;clear hh H3;go_wp2_with fail;refine ((ae H4).uF rfl).mono ?_;rintro e w5 ⟨rfl,hh⟩;have H5:=au hh;clear hh H4;go_wp2_with fail;refine (ae HC w5 (ae H5).jV).mono ?_;rintro e w9 ⟨f,r,c',a',m',rfl,hq⟩;have HQ:=au hq;clear hq;go_wp2;go_ret;exact⟨rfl,w5,w9,(ae H5).jV,ae HQ,(aj.refl aJ w9).alloc _⟩
theorem JU{W0:World}{a b t c d e q g cap:Nat}{sy x:List UInt8}(hL:lh<w.heap.size)(h:Rd w W0 q g cap [x,gu a,gu b,sy,gu t,gu c,gu d,gu e] 1)(h1:a<1000000000)(h2:b<1000000000)(h3:t<1000000000)(h4:c<1000000000)(h5:d<1000000000)(h6:e<1000000000)(hC:∀W,aj aJ w W->CT 64 #[PP bv,.agg #[II (a:Int),II (b:Int),.string (fQ sy),II (t:Int),II (c:Int),II (d:Int),II (e:Int)]] W fun e w'=>∃f r c a m,e=.returned (.tuple #[.agg #[II f,II r,II c,II a,II m],II 0])/\Q W w') :
 CT 92 #[PP bv,PP q] W0 fun e w'=>e=.returned (.bool true)/\∃W W1,aj aJ w W/\Q W W1/\aj aJ W1 w':=by
 obtain⟨HL,HC,H1⟩:=eY hL hC h;clear hL hC h;go_enter Tryz.func92,Tryz.ntmps92;go_wp2_with fail;refine ((ae H1).number (ae HL) (n:=a) rfl h1).mono ?_;rintro ee w2 ⟨rfl,hh⟩;have H2:=au hh;clear hh H1;go_wp2_with fail;refine ((ae H2).number (ae HL) (n:=b) rfl h2).mono ?_;rintro ee w3 ⟨rfl,hh⟩;have H3:=au hh;clear hh H2;go_wp2_with fail;refine ((ae H3).next (ae HL) (x:=sy) rfl).mono ?_;rintro ee w4 ⟨rfl,hh⟩;have H4:=au hh;clear hh H3;go_wp2_with fail;refine ((ae H4).number (ae HL) (n:=t) rfl h3).mono ?_;rintro ee w5 ⟨rfl,hh⟩;have H5:=au hh;clear hh H4;go_wp2_with fail;refine ((ae H5).number (ae HL) (n:=c) rfl h4).mono ?_;rintro ee w6 ⟨rfl,hh⟩;have H6:=au hh;clear hh H5;go_wp2_with fail;refine ((ae H6).number (ae HL) (n:=d) rfl h5).mono ?_;rintro ee w7 ⟨rfl,hh⟩;have H7:=au hh;clear hh H6;go_wp2_with fail;refine ((ae H7).number (ae HL) (n:=e) rfl h6).mono ?_;rintro ee w8 ⟨rfl,hh⟩;have H8:=au hh;clear hh H7;go_wp2_with fail;have k8:aj aJ w8 (w8.alloc (.cells #[II (a:Int),II (b:Int),.string (fQ sy),II (t:Int),II (c:Int),II (d:Int),II (e:Int)] 52)):=(aj.refl aJ w8).alloc _;refine (Eo ((ae H8).bJ k8).wd rfl).mono ?_;rintro ee w9 ⟨rfl,k9⟩;have hb:aA w9 w8.heap.size #[II (a:Int),II (b:Int),.string (fQ sy),II (t:Int),II (c:Int),II (d:Int),II (e:Int)] 52:=k9.aF (aA.new w8 _ _) aU;obtain⟨y0,y1,y2,y3,y4,y5,y6⟩:=hb.c7;have H9:=au (((ae H8).bJ k8).bJ k9);clear k8 k9 hb H8;go_wp2_with fail;refine (ae HC w9 (ae H9).jV).mono ?_;rintro ee wz ⟨f,r,c',a',m',rfl,hq⟩;have HQ:=au hq;clear hq;go_wp2;go_ret;exact⟨rfl,w9,wz,(ae H9).jV,ae HQ,(aj.refl aJ wz).alloc _⟩
theorem NK{a b t c d e:Nat}{sy:List UInt8}(hT:kP w)(hm:w.cell? ⟨0,0,none⟩=some (II m))(h:pU [[101,110,116,101,114],gu a,gu b,sy,gu t,gu c,gu d,gu e])(h1:a<1000000000)(h2:b<1000000000)(h3:t<1000000000)(h4:c<1000000000)(h5:d<1000000000)(h6:e<1000000000)(hC:∀W,aj aJ w W->CT 64 #[PP bv,.agg #[II (a:Int),II (b:Int),.string (fQ sy),II (t:Int),II (c:Int),II (d:Int),II (e:Int)]] W fun e w'=>∃f r c a m,e=.returned (.tuple #[.agg #[II f,II r,II c,II a,II m],II 0])/\Q W w') :
 CT 57 #[PP bv,.string (fQ (kJ [[101,110,116,101,114],gu a,gu b,sy,gu t,gu c,gu d,gu e]))] w fun e w'=>e=.returned (.bool true)/\∃W W1,aj aJ w W/\Q W W1/\aj aJ W1 w':=by
 obtain⟨HW,HL,HC⟩:=eY (nG h hT hm) hT.lt hC;clear h hT hm hC;go_enter Tryz.func57,Tryz.ntmps57;go_wp2_with fail;refine (ae HW).mono ?_;rintro ee w1 ⟨q,g,cap,rfl,hh⟩;have H1:=au hh;clear hh HW;go_wp2_with fail;refine ((ae H1).next (ae HL) (x:=[101,110,116,101,114]) rfl).mono ?_;rintro ee w2 ⟨rfl,hh⟩;have H2:=au hh;clear hh H1;rw[show fQ [101,110,116,101,114]=⟨#[101,110,116,101,114]⟩ from rfl];go_wp2_with fail;refine (JU (ae HL) (ae H2) h1 h2 h3 h4 h5 h6 (ae HC)).mono ?_;rintro ee w9 ⟨rfl,hq⟩;have HQ:=au hq;clear hq;go_wp2;go_ret;exact⟨rfl,ae HQ⟩
theorem GU{a b c:Nat}(hT:kP w)(hm:w.cell? ⟨0,0,none⟩=some (II m))(h:pU [[114,101,112,108,97,99,101],gu a,gu b,gu c])(h1:a<1000000000)(h2:b<1000000000)(h3:c<1000000000)(hC:∀W,aj aJ w W->CT 38 #[PP bv,II (a:Int),II (b:Int),II (c:Int)] W fun e w'=>∃f r c a m,e=.returned (.tuple #[.agg #[II f,II r,II c,II a,II m],II 0])/\Q W w') :
 CT 57 #[PP bv,.string (fQ (kJ [[114,101,112,108,97,99,101],gu a,gu b,gu c]))] w fun e w'=>e=.returned (.bool true)/\∃W W1,aj aJ w W/\Q W W1/\aj aJ W1 w':=by
 obtain⟨HW,HL,HC⟩:=eY (nG h hT hm) hT.lt hC;clear h hT hm hC;go_enter Tryz.func57,Tryz.ntmps57;go_wp2_with fail;refine (ae HW).mono ?_;rintro ee w1 ⟨q,g,cap,rfl,hh⟩;have H1:=au hh;clear hh HW;go_wp2_with fail;refine ((ae H1).next (ae HL) (x:=[114,101,112,108,97,99,101]) rfl).mono ?_;rintro ee w2 ⟨rfl,hh⟩;have H2:=au hh;clear hh H1;rw[show fQ [114,101,112,108,97,99,101]=⟨#[114,101,112,108,97,99,101]⟩ from rfl];go_wp2_with fail;refine (Ee (ae HL) (ae H2) h1 h2 h3 (ae HC)).mono ?_;rintro ee w9 ⟨rfl,hq⟩;have HQ:=au hq;clear hq;go_wp2;go_ret;exact⟨rfl,ae HQ⟩
end
end Go.Proofs.YtigaphnafnpfnaaGreatDoor
