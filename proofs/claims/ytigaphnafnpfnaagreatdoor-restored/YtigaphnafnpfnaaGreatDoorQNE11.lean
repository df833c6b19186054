import Derived.Test.YtigaphnafnpfnaaGreatDoorQNE8
import Derived.OpenShut
set_option linter.unusedVariables false
set_option linter.unusedSimpArgs false
set_option maxHeartbeats 8000000
set_option maxRecDepth 100000
namespace Go.Proofs.YtigaphnafnpfnaaGreatDoor
open Go.RowKit Go.Maps
attribute [local go_sem ↓] Go.wp_at_zero Go.wp_at_succ
theorem Eg(bv bm bo i s:Nat)(V:aS)(o:iT)(w:World)(R:dS w bv bm bo V)(hi:i<V.nb)(dR:(V.B i).sym=o.sym)(hlen:o.sym.size<=maxLen)
 (h1:dX o.id=true) (h2:V.aW o.id=none) (h3:oW o.aG=true) (h4:ni o.side=true) (h5:pK o.kind=true) (h6:dX o.aK=true) (h7:iV o.kind o.af=true) (h8:V.no<200) (h9:o.kind=3) (hs:s<2) (hside:o.side=1-(s:Int)) (hop:∀k,k<(V.B i).n s->0<=(V.om ((V.B i).h s k)).aO/\(V.om ((V.B i).h s k)).aO<=1000000000000000) :
 CT 111 #[PP bv,o.val] w fun e w'=>e=.returned (II (if wR V.om ((V.B i).h s) o ((V.B i).n s)<o.aK then 9 else 0))/\aj aJ w w':=by
 obtain⟨fB,mB,qh,uM⟩:=R.iM;obtain⟨fO,mO,vK⟩:=R.fH;obtain⟨id,aG,sym,side,kind,af,aK⟩:=o;simp only at dR hlen h1 h2 h3 h4 h5 h6 h7 h9 hside;simp only[iT.val];have hid:(Lit.int .i64 id).wf=true:=by
  simp[dX]at h1;exact WalkArith.wf_i64 (by omega)
 have hlb:fB (sl sym)=some (V.bk i):=by rw[<-dR];exact qh i hi
 have hlo:fO (.int .i64 id)=none:=by rw[vK,h2]
 obtain⟨w1,hw1⟩:=kL (w.alloc (.cells #[II id,II aG,.string sym,II side,II kind,II af,II aK] 52));have k1:aj aJ w w1:=by rw[hw1];exact (aj.refl aJ w).alloc _
 have hbx:aA w1 w.heap.size #[II id,II aG,.string sym,II side,II kind,II af,II aK] 52:=by rw[hw1];exact aA.new w _ _
 have L1:∀q,(Instr.lookup 94 (.map (some bm)) (.string sym) false).run Tryz.prog (w1.drewN q)=.ok (PP (V.bk i)) (w1.drewN q):=fun q=>by
  rw[(mB.aC (k1.drewN q) aU).look zV Tryz.underlying94 (qA _) (WideMaps.keyOf_string_mk Tryz.underlying9 hlen)];show _=Result.ok (ji (some (V.bk i))) _;rw[<-hlb];rfl
 have L2:∀q,(Instr.lookup 95 (.map (some bo)) (II id) false).run Tryz.prog (w1.drewN q)=.ok (.pointer none) (w1.drewN q):=fun q=>by
  rw[(mO.aC (k1.drewN q) aU).look zU Tryz.underlying95 (wU _) (keyOf_int_mk Tryz.underlying3 hid)];show _=Result.ok (ji none) _;rw[<-hlo]
 have L3:∀q,(Builtin.len_ #[95] 3 #[.map (some bo)]).run Tryz.prog (w1.drewN q)=.ok (II V.no) (w1.drewN q):=fun q=>(mO.aC (k1.drewN q) aU).len Tryz.underlying95 _
 have v0:CC w1 bv 0 (.map (some bm)):=(k1.aF R.dC aU).cell 0;have v1:CC w1 bv 1 (.map (some bo)):=(k1.aF R.dC aU).cell 1;obtain⟨x0,x1,x2,x3,x4,x5,x6⟩:=hbx.c7;have e3:(kind == 3)=true:=by rw[h9];rfl
 have e4:(kind == 4)=false:=by rw[h9];rfl
 have HF:=au (fun (W:World) (hW:cO W (V.bk i) (V.B i) V.om)=>NV (V.bk i) s (V.B i) V.om ⟨id,aG,sym,side,kind,af,aK⟩ W hW hs hside hop);have Wx:=au (R.aY i hi);have e8:decide ((200:Int)<=(V.no:Int))=false:=by simp;omega
 obtain⟨HW,HK⟩:=dE hw1 k1;clear hop hside hw1 k1 hbx h9 hlb hlo qh uM vK mB mO hid;have HSH:Hid (∃z,z=wR V.om ((V.B i).h s) ⟨id,aG,sym,side,kind,af,aK⟩ ((V.B i).n s)):=⟨_,rfl⟩;obtain⟨z,hz⟩:=ae HSH;rw[<-hz]at HF ⊢;have HF2:Hid (∀W,(∃q,W=w1.drewN q)->CT 147 #[PP (V.bk i),.agg #[II id,II aG,.string sym,II side,II kind,II af,II aK]] W fun e w'=>e=.returned (II z)/\aj aJ W w'):=by
  rintro W ⟨q,rfl⟩;exact ae HF _ ((ae Wx).aC ((ae HK).drewN q) (fun _ _ x=>x))
 clear HF HSH hz;go_enter Tryz.func111,Tryz.ntmps111;go_wp2;rw[<-ae HW];go_quiet (fail);go_wp2_with (first | (go_at_call 68;refine (dh _ _).mono ?_;rintro e w' ⟨rfl,rfl⟩) | (go_at_call 144;refine (eP _ _).mono ?_;rintro e w' ⟨rfl,rfl⟩) | (go_at_call 47;refine (fA _ _).mono ?_;rintro e w' ⟨rfl,rfl⟩) | (go_at_call 145;refine (fV _ _).mono ?_;rintro e w' ⟨rfl,rfl⟩) | (go_at_call 146;refine (dP _ _ _).mono ?_;rintro e w' ⟨rfl,rfl⟩));go_quiet (fail);go_wp2_with (first | (go_at_call 68;refine (dh _ _).mono ?_;rintro e w' ⟨rfl,rfl⟩) | (go_at_call 144;refine (eP _ _).mono ?_;rintro e w' ⟨rfl,rfl⟩) | (go_at_call 47;refine (fA _ _).mono ?_;rintro e w' ⟨rfl,rfl⟩) | (go_at_call 145;refine (fV _ _).mono ?_;rintro e w' ⟨rfl,rfl⟩) | (go_at_call 146;refine (dP _ _ _).mono ?_;rintro e w' ⟨rfl,rfl⟩));obtain⟨H,hH⟩:=mf w.heap.size;rw[hH]at x0 x1 x2 x3 x4 x5 x6 ⊢;go_region_held3 (fun w'=>w'.cell? ⟨H,0,none⟩=some (II id)/\w'.cell? ⟨H,1,none⟩=some (II aG)/\w'.cell? ⟨H,2,none⟩=some (.string sym)/\w'.cell? ⟨H,3,none⟩=some (II side)/\w'.cell? ⟨H,4,none⟩=some (II kind)/\w'.cell? ⟨H,5,none⟩=some (II af)/\w'.cell? ⟨H,6,none⟩=some (II aK)) (go_keep)
  (first | (go_at_call 147;refine (ae HF2 _ ⟨_,rfl⟩).mono ?_;rintro e w3 ⟨rfl,hc3⟩;have k0:=hc3.cell (p:=⟨H,0,none⟩) x0 aU;have k1:=hc3.cell (p:=⟨H,1,none⟩) x1 aU;have k2:=hc3.cell (p:=⟨H,2,none⟩) x2 aU;have k3:=hc3.cell (p:=⟨H,3,none⟩) x3 aU;have k4:=hc3.cell (p:=⟨H,4,none⟩) x4 aU;have k5:=hc3.cell (p:=⟨H,5,none⟩) x5 aU;have k6:=hc3.cell (p:=⟨H,6,none⟩) x6 aU))
 go_wp2
 all_goals (go_ret;exact⟨rfl,aj.trans ((ae HK).drewN _) (aj.trans (by repeat (first | exact aj.refl _ _ | refine aj.drewN ?_ _ | refine aj.drew ?_)) hc3)⟩)
theorem A7(bv bm bo:Nat)(V:aS)(id:Int)(w:World)(R:dS w bv bm bo V)(hid:(Lit.int .i64 id).wf=true)(hn:V.aW id=none) :
 CT 37 #[PP bv,II id] w fun e w'=>e=.returned (II 6)/\aj aJ w w':=by
 have L2:=R.xO hid;rw[hn]at L2;simp only[ji]at L2;have v1:CC w bv 1 (.map (some bo)):=R.dC.cell 1;clear R hn;go_enter Tryz.func37,Tryz.ntmps37;go_wp2;go_ret;exact⟨rfl,by repeat (first | exact aj.refl _ _ | refine aj.drewN ?_ _ | refine aj.drew ?_)⟩
theorem DY(bv bm bo b:Nat)(V:aS)(id:Int)(w:World)(R:dS w bv bm bo V)(hid:(Lit.int .i64 id).wf=true)(hn:V.aW id=some b)(h0:(V.om b).aO=0) :
 CT 37 #[PP bv,II id] w fun e w'=>e=.returned (II 10)/\aj aJ w w':=by
 have L2:=R.xO hid;rw[hn]at L2;simp only[ji]at L2;obtain⟨_,ix,ho⟩:=R.bz id b hn;have o8:w.cell? ⟨b,8,none⟩=some (II 0):=by rw[<-h0];exact ho.cell 8
 have v1:CC w bv 1 (.map (some bo)):=R.dC.cell 1;clear R hn ho h0;go_enter Tryz.func37,Tryz.ntmps37;go_wp2;go_ret;exact⟨rfl,by repeat (first | exact aj.refl _ _ | refine aj.drewN ?_ _ | refine aj.drew ?_)⟩
theorem dS.Nu{w:World}{bv bm bo:Nat}{V:aS}(R:dS w bv bm bo V){i:Nat}(hi:i<V.nb)(hlen:(V.B i).sym.size<=maxLen)(q:Nat) :
 (Instr.lookup 94 (.map (some bm)) (.string (V.B i).sym) false).run Tryz.prog (w.drewN q)=.ok (PP (V.bk i)) (w.drewN q) :=
 (R.aB ((aj.refl aJ w).drewN q)).BN hi hlen
theorem WX(bv bm bo i s:Nat)(V:aS)(w:World)(R:dS w bv bm bo V)(hi:i<V.nb)(hs:s<2)(hlen:(V.B i).sym.size<=maxLen)(hside:∀j,j<(V.B i).n s->(V.om ((V.B i).h s j)).side=(s:Int)) :
 CT 25 #[PP bv,.string (V.B i).sym,II s] w fun e w'=>∃v,e=.returned (.tuple #[v,II 0])/\AA V.om ((V.B i).n s) ((V.B i).h s) w v w':=by
 have L1:=R.BN hi hlen;have v0:CC w bv 0 (.map (some bm)):=R.dC.cell 0;have hsb:ni (s:Int)=true:=by
  have:s=0\/s=1:=by omega
  rcases this with rfl | rfl <;> rfl
 have HL:=au (Nb (V.bk i) s (V.B i) V.om w (R.aY i hi) hs hside);clear R hside;go_enter Tryz.func25,Tryz.ntmps25;go_wp2_with (first | (go_at_call 47;refine (fA _ _).mono ?_;rintro e w' ⟨rfl,rfl⟩) | (go_at_call 48;refine (ae HL).mono ?_;rintro e w2 ⟨v,rfl,hp⟩));go_ret2;exact⟨v,rfl,hp⟩
open Go.RowKit
def RS.acu(S:RS)(kind:Int)(t:Tr):RS:={ S with told:=S.told++[⟨0,kind,t⟩] }
def RS.ik(S:RS)(i:Nat)(o:Ord):RS:={ S with l:=S.l.set i o }
theorem qj{l:List Ord}{i:Nat}{o:Ord}(h:i<l.length):ax (l.set i o) i=o:=O0 (by rw[List.getElem?_set_self h])
theorem zI{l:List Ord}{i k:Nat}{o:Ord}(h:i≠k):ax (l.set i o) k=ax l k:=by
 unfold ax;rw[List.getD_eq_getElem?_getD,List.getD_eq_getElem?_getD,List.getElem?_set_ne h]
def RS.tr(S:RS)(i k:Nat)(n:Int):Tr :=
 { num:=(S.t.length:Int)+1,sym:=(ax S.l i).sym,af:=(ax S.l k).af,aK:=n,qC:=if (ax S.l i).side=1 then (ax S.l k).id else (ax S.l i).id,iK:=if (ax S.l i).side=1 then (ax S.l i).id else (ax S.l k).id,day:=S.day }
def RS.zA(S:RS)(i k:Nat)(n:Int):RS :=
 (S.ik k { ax S.l k with aO:=wrap64 ((ax S.l k).aO-n),filled:=wrap64 ((ax S.l k).filled+n) }).ik i { ax S.l i with filled:=wrap64 ((ax S.l i).filled+n) }
def RS.uA(S:RS)(i k:Nat)(n:Int):RS:={ S.zA i k n with t:=S.t++[⟨S.tr i k n,true⟩],told:=S.told++[⟨0,1,S.tr i k n⟩] }
def RS.qW(S:RS)(i:Nat)(n:Int):RS:={ S with places:=wrap64 (S.places+1),l:=S.l.set i { ax S.l i with place:=wrap64 (S.places+1),aO:=wrap64 ((ax S.l i).aO+n) } }
structure Qo(M:Int)(o:Ord):Prop where
 sum:o.entered=o.aO+o.filled+o.bZ+o.exp
 o0:0<=o.aO
 f0:0<=o.filled
 c0:0<=o.bZ
 e0:0<=o.exp
 hi:o.entered<=M
theorem Qo.fill{M:Int}{o:Ord}(h:Qo M o){q:Int}(h1:0<=q)(h2:q<=o.aO)(hM:M<=1000000000000000):Qo M (ja o q)/\(ja o q).aO=o.aO-q/\(ja o q).filled=o.filled+q:=by
 obtain⟨a,b,c,d,e,f⟩:=h;have e1:(ja o q).aO=o.aO-q:=by simp only[ja];exact aT (by omega) (by omega)
 have e2:(ja o q).filled=o.filled+q:=by simp only[ja];exact aT (by omega) (by omega)
 refine⟨⟨?_,by rw[e1];omega,by rw[e2];omega,d,e,f⟩,e1,e2⟩;show o.entered=_;rw[e1,e2,a];show _=o.aO-q+(o.filled+q)+o.bZ+o.exp;omega
theorem Qo.bZ{M:Int}{o:Ord}(h:Qo M o)(hM:M<=1000000000000000):Qo M (gz o)/\(gz o).aO=0/\(gz o).bZ=o.bZ+o.aO:=by
 obtain⟨a,b,c,d,e,f⟩:=h;have e2:(gz o).bZ=o.bZ+o.aO:=by simp only[gz];exact aT (by omega) (by omega)
 refine⟨⟨?_,by show (0:Int)<=0;omega,c,by rw[e2];omega,e,f⟩,rfl,e2⟩;show o.entered=_;rw[e2,a];show _=0+o.filled+(o.bZ+o.aO)+o.exp;omega
def pX(o o':Ord):Prop:=o'.id=o.id/\o'.aG=o.aG/\o'.sym=o.sym/\o'.side=o.side/\o'.kind=o.kind/\o'.af=o.af/\o'.aK=o.aK/\o'.place=o.place/\o'.entered=o.entered/\o'.exp=o.exp
theorem pX.refl(o:Ord):pX o o:=⟨rfl,rfl,rfl,rfl,rfl,rfl,rfl,rfl,rfl,rfl⟩
theorem pX.trans{a b c:Ord}(h:pX a b)(k:pX b c):pX a c:=by
 obtain⟨a1,a2,a3,a4,a5,a6,a7,a8,a9,a10⟩:=h;obtain⟨b1,b2,b3,b4,b5,b6,b7,b8,b9,b10⟩:=k;exact⟨b1.trans a1,b2.trans a2,b3.trans a3,b4.trans a4,b5.trans a5,b6.trans a6,b7.trans a7,b8.trans a8,b9.trans a9,b10.trans a10⟩
theorem pX.fill(o:Ord)(q:Int):pX o (ja o q):=⟨rfl,rfl,rfl,rfl,rfl,rfl,rfl,rfl,rfl,rfl⟩
theorem pX.bZ(o:Ord):pX o (gz o):=⟨rfl,rfl,rfl,rfl,rfl,rfl,rfl,rfl,rfl,rfl⟩
abbrev mD(st:MS)(s x:Nat):Prop:=Mem (st.B.n s) (st.B.h s) x
structure PH(oc s:Nat)(M:Int)(st0 st:MS):Prop where
 q:∀x,(x=oc\/mD st0 s x)->Qo M (st.om x)
 mem:∀x,mD st s x->mD st0 s x
 gone:∀x,mD st0 s x->¬mD st s x->(st.om x).aO=0
 heap:eG (fP st.om) (st.B.n s) (st.B.h s)
 lY:∀x,x≠oc->¬mD st0 s x->st.om x=st0.om x
 dN:∀x,pX (st0.om x) (st.om x)
 fil:(st0.om oc).filled<=(st.om oc).filled
 trl:st0.tr<=st.tr
 eqv:(st.om oc).filled=(st0.om oc).filled↔st.tr=st0.tr
 bZ:(st.om oc).bZ=(st0.om oc).bZ
 inv:sV oc s st
theorem PH.trans{oc s:Nat}{M:Int}{a b c:MS}(h:PH oc s M a b)(k:PH oc s M b c)(iv:sV oc s a):PH oc s M a c:=by
 have no:∀x,mD a s x->x≠oc:=fun x ⟨l,hl,e⟩=>by rw[e];exact (iv.mem l hl).2.2.2
 refine⟨fun x hx=>?_,fun x hx=>h.mem x (k.mem x hx),fun x hx hn=>?_,k.heap,fun x h1 h2=>?_,fun x=>(h.dN x).trans (k.dN x),by have:=h.fil;have:=k.fil;omega,by have:=h.trl;have:=k.trl;omega,?_,k.bZ.trans h.bZ,k.inv⟩
 ·by_cases e:x=oc
  ·exact k.q x (.inl e)
  ·by_cases hm:mD b s x
   ·exact k.q x (.inr hm)
   ·rw[k.lY x e hm];exact h.q x hx
 ·by_cases hm:mD b s x
  ·exact k.gone x hm hn
  ·rw[k.lY x (no x hx) hm];exact h.gone x hx hm
 ·rw[k.lY x h1 (fun hm=>h2 (h.mem x hm)),h.lY x h1 h2]
 ·have a1:=h.fil;have a2:=k.fil;have a3:=h.trl;have a4:=k.trl;have a5:=h.eqv;have a6:=k.eqv;constructor
  ·intro e;have e1:(b.om oc).filled=(a.om oc).filled:=by omega
   have e2:(c.om oc).filled=(b.om oc).filled:=by omega
   rw[a6.1 e2,a5.1 e1]
  ·intro e;have e1:b.tr=a.tr:=by omega
   have e2:c.tr=b.tr:=by omega
   rw[a6.2 e2,a5.2 e1]
theorem lK{B:Bk}{om:Nat->Ord}{s i:Nat}(hinj:ry (B.n s) (B.h s))(hi:i<B.n s)(x:Nat):Mem ((B.leave om s i).n s) ((B.leave om s i).h s) x↔Mem (B.n s) (B.h s) x/\x≠B.h s i:=by
 have h0:ry (B.n s-1+1) (B.h s):=by rw[show B.n s-1+1=B.n s by omega];exact hinj
 have:=jY (lt:=fP om) (B.h s) i (n:=B.n s-1) (by omega) (h0.qp (by omega)) x;rw[show B.n s-1+1=B.n s by omega]at this;simp only[Bk.leave,ai];exact this
theorem wG{B:Bk}{om dK:Nat->Ord}{s i:Nat}(hlt:fP dK=fP om)(hside:∀k,k<B.n s->(om (B.h s k)).side=(s:Int))(ok:eG (fP om) (B.n s) (B.h s))(hi:i<B.n s):eG (fP dK) ((B.leave dK s i).n s) ((B.leave dK s i).h s):=by
 simp only[Bk.leave,ai];rw[hlt];refine E5 (lV om (s:Int)) (B.h s) i (by omega) (fun k hk=>hside k (by omega)) ?_;rw[show B.n s-1+1=B.n s by omega];exact ok
theorem Oa{om:Nat->Ord}{oc ow:Nat}(hne:ow≠oc):fP (aV om oc ow)=fP om:=by
 unfold aV;simp only;rw[Gp,Gp]
 ·rfl
 ·rfl
 ·rfl
 ·rw[ah _ _ hne];rfl
 ·rw[ah _ _ hne];rfl
 ·rw[ah _ _ hne];rfl
theorem yR{oc s:Nat}{M:Int}{st:MS}(hM:M<=1000000000000000)(iv:sV oc s st)(hn:0<st.B.n s)(hp:0<(st.om oc).aO)(hh:eG (fP st.om) (st.B.n s) (st.B.h s))(hq:∀x,(x=oc\/mD st s x)->Qo M (st.om x)):PH oc s M st (bF oc s st):=by
 have OJ:=(oV iv hn hp).1;obtain⟨B,om,lg⟩:=st;simp only at hn hp hh;have hr:=iv.mem 0 hn;simp only at hr;obtain⟨hs0,hpos,hmax,hne⟩:=hr;have hrm:mD ⟨B,om,lg⟩ s (B.h s 0):=⟨0,hn,rfl⟩;have hside:∀k,k<B.n s->(om (B.h s k)).side=(s:Int):=fun k hk=>(iv.mem k hk).1
 have Qm:ry (B.n s) (B.h s):=iv.inj;have qr:Qo M (om (B.h s 0)):=hq _ (.inr hrm);have qc:Qo M (om oc):=hq _ (.inl rfl);unfold bF at OJ ⊢;simp only at OJ ⊢;by_cases ho:(om (B.h s 0)).aG=(om oc).aG
 ·rw[if_pos ho]at OJ ⊢;obtain⟨c1,c2,c3⟩:=qr.bZ hM;have hoc:aQ om (B.h s 0) (gz (om (B.h s 0))) oc=om oc:=ah _ _ (fun e=>hne e.symm);have hlt:fP (aQ om (B.h s 0) (gz (om (B.h s 0))))=fP om:=Gp rfl rfl rfl;refine⟨fun x hx=>?_,fun x hx=>?_,fun x hx hnx=>?_,?_,fun x h1 h2=>?_,fun x=>?_,?_,Int.le_refl _,?_,?_,OJ⟩
  ·by_cases e:x=B.h s 0
   ·simp only[e,ai];exact c1
   ·simp only[ah _ _ e];exact hq x hx
  ·exact ((lK Qm hn x).1 hx).1
  ·have e:x=B.h s 0:=by
    by_cases e:x=B.h s 0
    ·exact e
    ·exact absurd ((lK Qm hn x).2 ⟨hx,e⟩) hnx
   simp only[e,ai];exact c2
  ·simp only;have:=wG (dK:=om) rfl hside hh hn;rw[hlt];exact this
  ·exact ah _ _ (fun e=>h2 (e▸hrm))
  ·simp only;by_cases e:x=B.h s 0
   ·rw[e,ai];exact pX.bZ _
   ·rw[ah _ _ e];exact pX.refl _
  ·simp only[hoc];exact Int.le_refl _
  ·exact⟨fun _=>rfl,fun _=>by simp only[hoc]⟩
  ·simp only[hoc]
 ·rw[if_neg ho]at OJ ⊢;obtain⟨q,hqq⟩:=mf (min (om oc).aO (om (B.h s 0)).aO);have q0:0<q:=by omega
  obtain⟨c1,c2,c3⟩:=qc.fill (q:=q) (by omega) (by omega) hM;obtain⟨d1,d2,d3⟩:=qr.fill (q:=q) (by omega) (by omega) hM;have DD:aV om oc (B.h s 0) oc=ja (om oc) q:=by unfold aV;rw[ah _ _ (fun e=>hne e.symm),ai,hqq]
  have QW:aV om oc (B.h s 0) (B.h s 0)=ja (om (B.h s 0)) q:=by unfold aV;rw[ai,hqq]
  have tot:∀x,x≠oc->x≠B.h s 0->aV om oc (B.h s 0) x=om x:=fun x h1 h2=>by unfold aV;rw[ah _ _ h2,ah _ _ h1]
  have hlt:=Oa (om:=om) hne;have hmem:∀x,Mem ((dU B om oc (B.h s 0) s).n s) ((dU B om oc (B.h s 0) s).h s) x->Mem (B.n s) (B.h s) x:=by
   intro x hx;unfold dU at hx;split at hx
   ·exact ((lK Qm hn x).1 hx).1
   ·exact hx
  have abt:∀x,Mem (B.n s) (B.h s) x->¬Mem ((dU B om oc (B.h s 0) s).n s) ((dU B om oc (B.h s 0) s).h s) x->(aV om oc (B.h s 0) x).aO=0:=by
   intro x hx hnx;unfold dU at hnx;split at hnx
   ·rename_i hz;have e:x=B.h s 0:=by
     by_cases e:x=B.h s 0
     ·exact e
     ·exact absurd ((lK Qm hn x).2 ⟨hx,e⟩) hnx
    rw[e];exact hz
   ·exact absurd hx hnx
  have hheap:eG (fP (aV om oc (B.h s 0))) ((dU B om oc (B.h s 0) s).n s) ((dU B om oc (B.h s 0) s).h s):=by
   unfold dU;split
   ·exact wG hlt hside hh hn
   ·rw[hlt];exact hh
  have htr:MS.tr ⟨dU B om oc (B.h s 0) s,aV om oc (B.h s 0),(dn lg om oc (B.h s 0)).jT (iY B om oc (B.h s 0))⟩=MS.tr ⟨B,om,lg⟩+1:=by simp[MS.tr,Lg.jT,Lg.told,Lg.aC,Lg.aX,gW]
  refine⟨fun x hx=>?_,hmem,abt,hheap,fun x h1 h2=>tot x h1 (fun e=>h2 (e▸hrm)),fun x=>?_,?_,?_,?_,?_,OJ⟩
  ·simp only;by_cases e:x=oc
   ·rw[e,DD];exact c1
   ·by_cases e2:x=B.h s 0
    ·rw[e2,QW];exact d1
    ·rw[tot x e e2];exact hq x hx
  ·simp only;by_cases e:x=oc
   ·rw[e,DD];exact pX.fill _ _
   ·by_cases e2:x=B.h s 0
    ·rw[e2,QW];exact pX.fill _ _
    ·rw[tot x e e2];exact pX.refl _
  ·simp only[DD];rw[c3];omega
  ·rw[htr];omega
  ·rw[htr];simp only[DD];rw[c3];constructor <;> intro h <;> omega
  ·simp only[DD];rfl
theorem Nz{oc s:Nat}{M:Int}(hM:M<=1000000000000000):∀(f:Nat) (st:MS),sV oc s st->eG (fP st.om) (st.B.n s) (st.B.h s)->(∀x,(x=oc\/mD st s x)->Qo M (st.om x))->PH oc s M st (aZ oc s f st):=by
 intro f
 induction f with
 | zero=>exact fun st iv hh hq=>⟨hq,fun _ h=>h,fun _ h hn=>absurd h hn,hh,fun _ _ _=>rfl,fun _=>pX.refl _,Int.le_refl _,Int.le_refl _,⟨fun _=>rfl,fun _=>rfl⟩,rfl,iv⟩
 | succ f ih =>
   intro st iv hh hq;rw[aZ];split
   ·exact⟨hq,fun _ h=>h,fun _ h hn=>absurd h hn,hh,fun _ _ _=>rfl,fun _=>pX.refl _,Int.le_refl _,Int.le_refl _,⟨fun _=>rfl,fun _=>rfl⟩,rfl,iv⟩
   ·rename_i hst;obtain⟨hn,hp⟩:=ny hst;have r1:=yR hM iv hn hp hh hq;exact r1.trans (ih _ r1.inv r1.heap (fun x hx=>r1.q x (hx.imp_right (r1.mem x)))) iv
theorem Gt{oc s:Nat}:∀(f:Nat) (st:MS),sV oc s st->mu oc s st<=f->stops oc s (aZ oc s f st)=true:=by
 intro f
 induction f with
 | zero =>
   intro st iv hf;have h0:st.B.n s=0:=by unfold mu at hf;omega
   simp[aZ,stops,dJ,h0]
 | succ f ih =>
   intro st iv hf;rw[aZ];by_cases h:stops oc s st=true
   ·rw[if_pos h];exact h
   ·rw[if_neg h];obtain⟨hn,hp⟩:=ny h;obtain⟨OJ,hmu,_⟩:=oV iv hn hp;exact ih _ OJ (by omega)
def Tr.at(t:Tr)(p:Int):Tr:={ t with af:=p }
def Lg.jB(G:Lg)(k:Nat)(x:Tg)(p:Int):Lg:={ G with tr:=G.tr.set k ⟨x.t.at p,x.holds⟩ }
theorem fU.jB{w:World}{bv bm bo k b:Nat}{G:Lg}{m:Lm}{x:Tg}(h:bG w bv bm bo G m)(hx:G.tr[k]?=some x)(hb:m.tb[k]?=some b)(p:Int):bG (w.setCell ⟨b,2,none⟩ (II p)) bv bm bo (G.jB k x p) m:=by
 have hblk:=h.aP.aF k b x hb hx;have kk:aj (fun y=>y=b) w (w.setCell ⟨b,2,none⟩ (II p)):=(aj.refl (fun y=>y=b) w).setCell (p:=⟨b,2,none⟩) (.inl rfl) _;refine⟨kk.aF h.dC (aA.ne h.dC hblk (by decide)),?_⟩;have ht:=aI h.aP.jJ kk (fun y hy e=>bY h.aP.jJ hy hblk (by decide) e);refine⟨?_,aI h.aP.iO kk (fun y hy e=>bY h.aP.iO hy hblk (by decide) e),by simp[Lg.jB,h.aP.len],fun i b' g hi hg=>?_,h.aP.nodup,h.aP.act.aC kk (fun y hy e=>?_),aI h.aP.kV kk (fun y hy e=>bY h.aP.kV hy hblk (by decide) e),h.aP.jb⟩
 ·simp only[Lg.jB,List.length_set];exact ht
 ·simp only[Lg.jB]at hg;by_cases e:i=k
  ·subst e;obtain rfl:b'=b:=by rw[hb]at hi;exact (Option.some.inj hi).symm
   have hlt:i<G.tr.length:=(List.getElem?_eq_some_iff.1 hx).1;rw[List.getElem?_set_self hlt]at hg;obtain rfl:=Option.some.inj hg;exact hblk.set 2 _
  ·rw[List.getElem?_set_ne (fun h=>e h.symm)]at hg;refine kk.aF (h.aP.aF i b' g hi hg) (fun e2=>e ?_);subst e2;obtain⟨h1,e1⟩:=List.getElem?_eq_some_iff.1 hi;obtain⟨h2,e2⟩:=List.getElem?_eq_some_iff.1 hb;rcases Nat.lt_trichotomy i k with hlt | hlt | hlt
   ·exact absurd (e1.trans e2.symm) (List.pairwise_iff_getElem.1 h.aP.nodup i k h1 h2 hlt)
   ·exact hlt
   ·exact absurd (e2.trans e1.symm) (List.pairwise_iff_getElem.1 h.aP.nodup k i h2 h1 hlt)
 ·obtain⟨c,t,hc,ht'⟩:=h.aP.act.gK hy;subst e;exact aA.ne hc hblk (by rcases ht' with rfl | rfl <;> decide) rfl
theorem Nj(word:ByteArray)(a b:Int)(w:World)(hT:kP w)(h0:0<word.size)(hw:word.size<=100)(ha:iI a)(hb:iI b) :
 (0<(fJ (tC a b) word 2).size/\(fJ (tC a b) word 2).size<=290)/\∀W,aj aJ w W->∀sb cap,W.cell? ⟨sb,0,none⟩=some (II a)->W.cell? ⟨sb,1,none⟩=some (II b) ->
  CT 65 #[.string word,.slice (some ⟨sb,0,none⟩) 2 cap] W fun e w'=>e=.returned (.string (fJ (tC a b) word 2))/\aj aJ w w':=by
 have h:=rP word (tC a b) 2 w hT h0 hw (by omega) (fun i hi=>by
  match i,hi with
  | 0,_=>exact ha
  | 1,_=>exact hb)
 refine⟨h.1,fun W k sb cap c0 c1=>h.2 W k sb cap (fun i hi=>?_)⟩
 match i,hi with
 | 0,_=>exact c0
 | 1,_=>exact c1
def Lg.mX(G:Lg)(k tb:Nat)(x:Tg)(p:Int):Lg:=((G.begun.jB k x p).told 3 (x.t.at p)).aX [.iW tb x.t.af]
open Go.RowKit Go.Maps Go.Lib
def yX(i:Nat):ByteArray:=if i=0 then sA else sG
theorem VB:sA≠sG:=fun h=>absurd (congrArg ByteArray.size h) (by decide)
theorem JJ(c n:Int)(w:World)(hn:0<n)(hn2:n<=1000000)(h1:-9223372036854775808<=c)(h2:c<=9223372036854775807):CT 29 #[II c,II n] w fun e w'=>∃v,e=.returned (II v)/\0<=v/\v<n/\w'=w:=by
 have e0:(n == 0)=false:=beq_eq_false_iff_ne.2 (by omega);by_cases hc:c<0
 ·have w1:wrap64 (c+1)=c+1:=aT (by omega) (by omega);have w2:wrap64 (-(c+1)) = -(c+1):=aT (by omega) (by omega);have ev:-((c+1).tmod n)=(-(c+1)) % n:=by rw[<-Int.neg_tmod,Int.tmod_eq_emod_of_nonneg (by omega)]
  have EV:=au ev;clear w1 w2 ev;go_enter Tryz.func29,Tryz.ntmps29;go_wp2;go_ret;refine⟨_,rfl,?_,?_,rfl⟩
  ·rw[ae EV];exact Int.emod_nonneg _ (by omega)
  ·rw[ae EV];exact Int.emod_lt_of_pos _ hn
 ·go_enter Tryz.func29,Tryz.ntmps29;go_wp2;go_ret;exact⟨_,rfl,Int.emod_nonneg _ (by omega),Int.emod_lt_of_pos _ hn,rfl⟩
structure Code(w:World)(ao:Option Addr)(len:Nat)(zs:Nat->Int):Prop where
 cell:∀i,i<len->∃b off,ao=some ⟨b,off,none⟩/\w.cell? ⟨b,off+i,none⟩=some (II (zs i))
 Ws:∀i,i<len->-9223372036854775808<=zs i/\zs i<=9223372036854775807
 small:len<=9223372036854775807
theorem UM(D:Nat)(ao:Option Addr)(len cap at_:Nat)(zs:Nat->Int)(n:Int)(w:World)(hb:aA w D #[.slice ao len cap,II at_] 28)(hc:Code w ao len zs)(hat:at_<=len)(hn:0<n)(hn2:n<=1000000) :
 CT 35 #[PP D,II n] w fun e w'=>∃v at',e=.returned (II v)/\0<=v/\v<n/\at'<=len/\aA w' D #[.slice ao len cap,II (at':Nat)] 28/\aj (fun x=>x=D) w w':=by
 have d0:CC w D 0 (.slice ao len cap):=hb.cell 0;have d1:CC w D 1 (II (at_:Int)):=hb.cell 1;have f1:=hb.frozen 1;by_cases h:at_<len
 ·obtain⟨b,off,rfl,hcell⟩:=hc.cell at_ h;obtain⟨g1,g2⟩:=hc.Ws at_ h;have hsm:=hc.small;have i0:(0:Int)<=(at_:Int):=by omega
  have i1:(at_:Int)<(len:Int):=by omega
  have hpk:=fun q=>JJ (zs at_) n (w.drewN q) hn hn2 g1 g2
  have HP:=au hpk;clear hpk hc g1 g2;go_enter Tryz.func35,Tryz.ntmps35;go_wp2;go_quiet (fail);go_wp2;go_region_held3 (fun w'=>w'.cell? ⟨D,0,none⟩=some (.slice (some ⟨b,off,none⟩) len cap)/\w'.cell? ⟨D,1,none⟩=some (II (at_:Int))/\w'.cell? ⟨b,off+at_,none⟩=some (II (zs at_))) (go_keep)
   (first | (go_at_call 29;refine (ae HP _).mono ?_;rintro e w2 ⟨v,rfl,v0,v1,rfl⟩))
  go_wp2;go_ret;refine⟨v,at_+1,rfl,v0,v1,by omega,?_,?_⟩
  ·rw[show ((at_+1:Nat):Int)=(at_:Int)+1 from by omega]
   first | exact (hb.drewN _).set 1 _ | exact ((hb.drewN _).drewN _).set 1 _ | exact (hb.set 1 _).drewN _ | exact ((hb.drewN _).drew).set 1 _
  ·exact ((aj.refl (fun x=>x=D) w).drewN _).setCell (p:=⟨D,1,none⟩) (.inl rfl) _
 ·have e1:decide ((len:Int)<=(at_:Int))=true:=by simp;omega
  go_enter Tryz.func35,Tryz.ntmps35;go_wp2;go_quiet (fail);go_wp2;go_ret;exact⟨0,at_,rfl,by omega,hn,hat,hb.drewN _,(aj.refl _ w).drewN _⟩
theorem Code.at{w w':World}{ao:Option Addr}{len:Nat}{zs:Nat->Int}(c:Code w ao len zs){S:Nat->Prop}(k:aj S w w')(h:0<len->∀a,ao=some a->¬S a.block):Code w' ao len zs :=
 ⟨fun i hi=>by obtain⟨b,off,e,hc⟩:=c.cell i hi;exact⟨b,off,e,k.cell hc (h (by omega) ⟨b,off,none⟩ e)⟩,c.Ws,c.small⟩
structure Oj(o:iT)(n i t:Nat):Prop where
 id:o.id=(n:Int)+1
 own:0<=o.aG/\o.aG<=9
 sym:o.sym=yX i
 side:o.side=(t:Int)
 kind:0<=o.kind/\o.kind<=5
 af:iV o.kind o.af=true
 aK:1<=o.aK/\o.aK<=9
structure Dc(D:Nat)(ao:Option Addr)(len cap:Nat)(zs:Nat->Int)(base:Nat)(w:World):Prop where
 xx:∃at_:Nat,at_<=len/\aA w D #[.slice ao len cap,II (at_:Int)] 28
 code:Code w ao len zs
 old:0<len->∀a,ao=some a->a.block<base
 bD:base<=D
 Wu:kP w
 bT:lh<base
theorem Dc.bJ{D:Nat}{ao:Option Addr}{len cap:Nat}{zs:Nat->Int}{base:Nat}{w w':World}(h:Dc D ao len cap zs base w){S:Nat->Prop}(k:aj S w w')(h1:¬S D)(h2:∀x,S x->base<=x):Dc D ao len cap zs base w':=by
 obtain⟨a,ha,hb⟩:=h.xx;exact⟨⟨a,ha,k.aF hb h1⟩,h.code.at k (fun hl a e hx=>by have:=h.old hl a e;have:=h2 _ hx;omega),h.old,h.bD,h.Wu.aC k (fun hx=>by have:=h2 _ hx;have:=h.bT;omega),h.bT⟩
theorem Dc.Jn{D:Nat}{ao:Option Addr}{len cap:Nat}{zs:Nat->Int}{base:Nat}{w w':World}(h:Dc D ao len cap zs base w)(k:aj aJ w w'):Dc D ao len cap zs base w':=h.bJ k aU (fun _ x=>x.elim)
theorem Gy(D:Nat)(ao:Option Addr)(len cap:Nat)(zs:Nat->Int)(base:Nat)(n:Int)(w:World)(h:Dc D ao len cap zs base w)(h1:0<n)(h2:n<=1000000) :
 CT 35 #[PP D,II n] w fun e w'=>∃v:Nat,e=.returned (II (v:Int))/\(v:Int)<n/\Dc D ao len cap zs base w'/\aj (fun x=>x=D) w w':=by
 obtain⟨a,ha,hb⟩:=h.xx;refine (UM D ao len cap a zs n w hb h.code ha h1 h2).mono ?_;rintro e w' ⟨v,a',rfl,hv0,hv1,hat,hD2,k2⟩;obtain⟨m,rfl⟩:∃m:Nat,v=(m:Int):=⟨v.toNat,by omega⟩;exact⟨m,rfl,hv1,⟨⟨a',hat,hD2⟩,h.code.at k2 (fun hl b e hx=>by have:=h.old hl b e;have:=h.bD;omega),h.old,h.bD,h.Wu.aC k2 (fun hx=>by have:=h.bD;have:=h.bT;omega),h.bT⟩,k2⟩
def fG(j:Nat):Int:=if j<4 then 0 else (j:Int)-3
def aap:Array Value:=#[II 0,II 0,II 0,II 0,II 1,II 2,II 3,II 4,II 5]
theorem Qn{j:Nat}(hj:j<9):aap[j]?=some (II (fG j)):=by
 have:j=0\/j=1\/j=2\/j=3\/j=4\/j=5\/j=6\/j=7\/j=8:=by omega
 rcases this with rfl | rfl | rfl | rfl | rfl | rfl | rfl | rfl | rfl <;> rfl
def Oq(D:Nat)(ao:Option Addr)(len cap:Nat)(zs:Nat->Int)(base n:Nat)(w:World)(v:Value)(w':World):Prop :=
 ∃o:iT,v=o.val/\(∃i t,i<2/\t<2/\Oj o n i t)/\Dc D ao len cap zs base w'/\aj (fun x=>x=D) w w'
def FC(D:Nat)(ao:Option Addr)(len cap:Nat)(zs:Nat->Int)(base P bv n:Nat):Prop :=
 ∀(W:World) (acts:Int),Dc D ao len cap zs base W->aA W P #[PP bv,II n,II acts] 37->CT 63 #[PP P,PP D] W fun e w'=>∃v,e=.returned v/\Oq D ao len cap zs base n W v w'
end Go.Proofs.YtigaphnafnpfnaaGreatDoor
