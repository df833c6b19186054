import Derived.Test.YtigaphnafnpfnaaGreatDoorQVG4
import Derived.Test.YtigaphnafnpfnaaGreatDoorQVP7
set_option linter.unusedVariables false
set_option linter.unusedSimpArgs false
set_option maxHeartbeats 8000000
set_option maxRecDepth 100000
namespace Go.Proofs.YtigaphnafnpfnaaGreatDoor
open Go.RowKit Go.Maps
attribute [local go_sem ↓] Go.wp_at_zero Go.wp_at_succ
theorem zJ{x:Kx}{w:World}{s:ByteArray}{bv:Nat}{E:Int}(h:nN w x)(hb:x.bv=bv)(hN:x.N<2000000)(hs:s.size<=1000)(hE:lN x.S.sy s=E)(h0:E≠0) :
 Calls Tryz.prog 27 #[.pointer (some ⟨bv,0,none⟩),.string s] w fun e w'=>e=.returned (.int .i64 E)/\au aP w w':=by
 subst hb
 refine (CJ x.bv x.bm x.bo x.N x.V x.p x.S s w h.jE h.lu (by omega) h.sz (by omega)).mono ?_
 rintro e w' ⟨rfl,hO⟩
 rw[hE]at hO ⊢
 rcases hO with⟨_,k⟩|⟨e0,_⟩
 ·exact⟨rfl,k⟩
 ·exact absurd e0 h0
theorem xe{x:Kx}{w:World}{s:ByteArray}{bv:Nat}(h:nN w x)(hb:x.bv=bv)(hN:x.N<2000000)(hs:s.size<=1000)(hE:lN x.S.sy s=0) :
 Calls Tryz.prog 27 #[.pointer (some ⟨bv,0,none⟩),.string s] w fun e w'=>e=.returned (.int .i64 0)/\KN x w w' (fun x'=>(∃n S',x'.H=x.H++[(n,S')])/\(∀id,(jX x'.S.l id).isSome=true↔(jX x.S.l id).isSome=true)/\x'.S.sy=x.S.sy++[s]):=by
 subst hb
 refine (CJ x.bv x.bm x.bo x.N x.V x.p x.S s w h.jE h.lu (by omega) h.sz (by omega)).mono ?_
 rintro e w' ⟨rfl,hO⟩
 rw[hE]at hO ⊢
 rcases hO with⟨e0,_⟩|⟨_,hA⟩
 ·exact absurd rfl e0
 ·obtain⟨x',ok',k,hf,q1,q2,q3,q4,q5,q6⟩:=Qe h hA
  exact⟨rfl,x',ok',k,hf,q1,q2,q3,q4,fun id=>⟨fun z=>((q5 id).1 z).elim (fun y=>y) (fun y=>y.elim),fun z=>(q5 id).2 (.inl z)⟩,q6⟩
theorem nm1:mf ⟨#[97]⟩=false:=by kernel_rfl
theorem nm2:mf sA=true:=by kernel_rfl
theorem nm3:mf sG=true:=by kernel_rfl
theorem lE1:lN [] ⟨#[97]⟩=3:=by unfold lN;rw[nm1];rfl
theorem lE2:lN [] sA=0:=by unfold lN;rw[nm2];rfl
theorem lE3:lN [sA] sG=0:=by
 have h:kN [sA] sG=false:=by
  unfold kN;simp only[List.any_cons,List.any_nil,Bool.or_false];exact decide_eq_false X3
 unfold lN;rw[nm3,h];rfl
theorem lE4:lN [sA,sG] sA=2:=by
 have h:kN [sA,sG] sA=true:=sW (i:=0) rfl
 unfold lN;rw[nm2,h];rfl
theorem KN.old{x:Kx}{w w1 w2:World}{Q:Kx->Prop}(hn:KN x w1 w2 Q)(k:au aP w w1)(hf:∀b,KF x b->w.heap.size<=b):∃x',nN w2 x'/\au aP w w2/\(∀b,KF x' b->w.heap.size<=b)/\x'.bv=x.bv/\x'.N<=x.N+1/\Q x':=by
 obtain⟨x',ok',kc,f,h1,h2,_,q⟩:=hn
 refine⟨x',ok',k.from (kc.mono (fun b hb=>.inr (hf b hb))),fun b hb=>?_,h1,h2,q⟩
 rcases f b hb with hx|hx
 ·exact hf b hx
 ·have:=k.size;omega
theorem WJ(w:World):Calls Tryz.prog 14 #[] w fun e w'=>∃P x,e=.returned (.pointer (some ⟨P,0,none⟩))/\az w' P #[.pointer (some ⟨x.bv,0,none⟩),.int .i64 0,.int .i64 2] 37/\nN w' x/\Kn x.S 0/\x.H.length=2/\x.N<=2/\au aP w w'/\(∀b,KF x b->w.heap.size<=b)/\w.heap.size<=P:=by
 go_enter Tryz.func14,Tryz.ntmps14
 go_wp2_with fail
 refine (aab w).mono ?_
 rintro e w1 ⟨x0,rfl,ok0,k0,f0,h0,n0⟩
 obtain⟨bv,hbv⟩:∃bv,x0.bv=bv:=⟨_,rfl⟩
 rw[hbv]
 have s0:x0.S=RS.none:=by unfold Kx.S;rw[h0];rfl
 have UI:x0.S.sy=[]:=by rw[s0];rfl
 have H0:=ai (And.intro ok0 (And.intro k0 (And.intro f0 (And.intro h0 (And.intro n0 (And.intro hbv (And.intro s0 UI)))))))
 clear ok0 k0 f0 h0 n0 hbv s0 UI
 go_wp2_with fail
 obtain⟨ok0,k0,f0,h0,n0,hbv,s0,UI⟩:=ae H0
 refine (zJ (E:=3) ok0 hbv (by omega) (by decide) (by rw[UI];exact lE1) (by decide)).mono ?_
 rintro e w2 ⟨rfl,k2⟩
 have yS:=ai k2
 clear ok0 k0 f0 h0 n0 hbv s0 UI k2
 go_wp2_with fail
 obtain⟨ok0,k0,f0,h0,n0,hbv,s0,UI⟩:=ae H0
 refine (xe (ok0.aH (ae yS)) hbv (by omega) (by decide) (by rw[UI];exact lE2)).mono ?_
 rintro e w3 ⟨rfl,hn3⟩
 obtain⟨x1,ok1,k1,f1,b1,n1,⟨nt1,S1,e1⟩,i1,y1⟩:=hn3.old (k0.trans (ae yS)) f0
 rw[hbv]at b1
 rw[n0]at n1
 rw[h0]at e1
 rw[UI]at y1
 rw[s0]at i1
 have H1:=ai (And.intro ok1 (And.intro k1 (And.intro f1 (And.intro b1 (And.intro n1 (And.intro e1 (And.intro i1 y1)))))))
 clear ok0 k0 f0 h0 n0 hbv s0 UI H0 hn3 ok1 k1 f1 b1 n1 e1 i1 y1 yS
 go_wp2_with fail
 obtain⟨ok1,k1,f1,b1,n1,e1,i1,y1⟩:=ae H1
 refine (xe ok1 b1 (by omega) (by decide) (by rw[y1];exact lE3)).mono ?_
 rintro e w4 ⟨rfl,hn4⟩
 obtain⟨x2,ok2,k2,f2,b2,n2,⟨nt2,S2,e2⟩,i2,y2⟩:=hn4.old k1 f1
 rw[b1]at b2
 rw[e1]at e2
 rw[y1]at y2
 have i3:∀id,(jX x2.S.l id).isSome=false:=fun id=>by
  cases hx:(jX x2.S.l id).isSome
  ·rfl
  ·exact absurd ((i1 id).1 ((i2 id).1 hx)) (by intro z;cases z)
 have n3:x2.N<=2:=by omega
 have H2:=ai (And.intro ok2 (And.intro k2 (And.intro f2 (And.intro b2 (And.intro n3 (And.intro e2 (And.intro i3 y2)))))))
 clear ok1 k1 f1 b1 n1 e1 i1 y1 H1 hn4 ok2 k2 f2 b2 n2 e2 i2 y2 i3 n3
 go_wp2_with fail
 obtain⟨ok2,k2,f2,b2,n3,e2,i3,y2⟩:=ae H2
 refine (zJ (E:=2) ok2 b2 (by omega) (by decide) (by rw[y2];exact lE4) (by decide)).mono ?_
 rintro e w5 ⟨rfl,k5⟩
 have IC:=ai k5
 clear ok2 k2 f2 b2 n3 e2 i3 y2 k5
 go_wp2_with fail
 obtain⟨ok2,k2,f2,b2,n3,e2,i3,y2⟩:=ae H2
 have hst:=um (ok2.aH (ae IC)) (id:=1) (by decide) (by have:=i3 1;cases hx:jX x2.S.l 1 with|none=>rfl|some z=>rw[hx]at this;cases this)
 rw[b2]at hst
 refine hst.mono ?_
 rintro e w6 ⟨rfl,k6⟩
 simp only[jD]
 have kk:=(k2.trans (ae IC)).trans k6
 have hK:=((ok2.aH (ae IC)).aH k6)
 have kn:Kn x2.S 0:=⟨fun id=>⟨fun z=>by rw[i3 id]at z;exact absurd z (by decide),fun z=>by omega⟩,by rw[y2];exact sW (i:=0) rfl,by rw[y2];exact sW (i:=1) rfl⟩
 have hl:x2.H.length=2:=by rw[e2];rfl
 have HF:=ai (And.intro kk (And.intro hK (And.intro kn (And.intro hl (And.intro n3 (And.intro f2 b2))))))
 clear ok2 k2 f2 b2 n3 e2 i3 y2 hst k6 kk hK kn hl H2 IC
 go_wp2
 go_ret
 obtain⟨kk,hK,kn,hl,n3,f2,b2⟩:=ae HF
 refine⟨_,x2,rfl,?_,hK.aH (((au.refl aP w6).alloc _).alloc _),kn,hl,n3,(kk.alloc _).alloc _,f2,?_⟩
 ·rw[b2];exact az.xy w6 _ _ _
 ·have:=kk.size
  omega
def rW(x:Kx)(n:Nat)(E:Int)(W w':World):Prop:=((E=6\/E=10\/E=11)/\au aP W w')\/(E=0/\KN x W w' (fun x'=>(∃nt S',x'.H=x.H++[(nt,S')])/\Kn x'.S n))
theorem Qg{x:Kx}{n:Nat}{w w':World}(h:nN w x)(kn:Kn x.S n)(hA:SL x.bv x.bm x.bo x.V x.S x.N Sv IE w w'):KN x w w' (fun x'=>(∃nt S',x'.H=x.H++[(nt,S')])/\Kn x'.S n):=by
 obtain⟨x',ok',k,hf,q1,q2,q3,q4,q5,q6⟩:=Qe h hA
 refine⟨x',ok',k,hf,q1,q2,q3,q4,⟨fun id=>?_,by rw[q6,IE,List.append_nil];exact kn.sA,by rw[q6,IE,List.append_nil];exact kn.sG⟩⟩
 rw[q5,kn.sK]
 exact⟨fun h=>h.elim (fun z=>z) (fun z=>z.elim),.inl⟩
theorem KX{x:Kx}{n:Nat}{E:Int}{w w':World}(h:nN w x)(kn:Kn x.S n)(hE:E=0\/E=6\/E=10\/E=11)(hO:IW x.bv x.bm x.bo x.V x.S x.N Sv IE E w w'):rW x n E w w':=by
 rcases hO with⟨hne,k⟩|⟨h0,hA⟩
 ·exact .inl ⟨hE.resolve_left hne,k⟩
 ·exact .inr ⟨h0,Qg h kn hA⟩
theorem oD.tyK{G:Lg}(h:oD G.tp):YZ G:=fun r hr=>by
 obtain⟨i,hi,e⟩:=List.mem_iff_getElem.1 hr
 exact (h i r (by rw[List.getElem?_eq_getElem hi,e])).2
theorem Ju{x:Kx}{w:World}(h:nN w x)(hN:x.N<2000000):Calls Tryz.prog 17 #[.pointer (some ⟨x.bv,0,none⟩),.int .i64 0] w fun e w'=>∃a c,e=.returned (.slice a x.V.lg.tp.length c)/\w'.ownsRow w.heap.size 62 9 (.slice a x.V.lg.tp.length c) x.V.lg.tp.length (iW x.V.lg.tp)/\au aP w w':=by
 have:=Rw x.bv x.bm x.bo 0 0 x.V.lg x.V.lm w h.jE.aO h.sz.tp.tyK (by have:=h.lu.yE;omega) (.inl ⟨by omega,rfl⟩) (by omega)
 rw[List.drop_zero]at this
 exact this
theorem VU(D:Nat)(ao:Option Addr)(len cap:Nat)(zs:Nat->Int)(base:Nat)(Z:Nat->Prop)(w0:World)(P:Nat)(x:Kx)(n:Nat)(acts:Int)(w:World)(h:Pk D ao len cap zs base Z w0 P x n acts w)(hO:DJ D ao len cap zs base P x.bv n)(hN:x.N<200)(hn:n<1000) :
 Calls Tryz.prog 15 #[.pointer (some ⟨P,0,none⟩),.pointer (some ⟨D,0,none⟩),.bool true] w fun e w'=>e=.returned (.bool true)/\∃x' n' jO,n'<=n+1/\Pk D ao len cap zs base Z w0 P x' n' jO w'/\Oi x x':=by
 have ha:=h.na
 have hHl:=h.ok.hlen (by omega)
 have ha0:0<=acts:=by omega
 have ha2:acts<2000000:=by omega
 have HA:=ai ha
 have hkn:=h.kn
 have YI:=ai (Ew D ao len cap zs base 16 w h.dc (by omega) (by omega))
 have HEn:=ai (fun (W:World) (hW:Pk D ao len cap zs base Z w0 P x n acts W)=>UE D ao len cap zs base Z w0 P x.bv x rfl n acts W hW hO hN hn)
 have Vd:=ai (fun (W:World) (hd:Dc D ao len cap zs base W) (m:Int) (h1:0<m) (h2:m<=1000000)=>Ew D ao len cap zs base m W hd h1 h2)
 have HCa:Hid (∀(W:World) (v:Nat),nN W x/\oC W->(v:Int)<n->Calls Tryz.prog 37 #[.pointer (some ⟨x.bv,0,none⟩),.int .i64 (IntKind.i64.wrap (1+(v:Int)))] W fun e w'=>∃E,e=.returned (.int .i64 E)/\rW x n E W w'):=by
  rintro W v ⟨R,hT⟩ hv
  have e:IntKind.i64.wrap (1+(v:Int))=1+(v:Int):=by rw[IntKind.wrap_i64];omega
  rw[e]
  refine (Gm x.bv x.bm x.bo x.N x.V x.p x.S (1+(v:Int)) W R.jE hT R.lu (by omega) R.sz (WalkArith.wf_i64 (by omega))).mono ?_
  rintro e w' ⟨E,rfl,hE,hO⟩
  exact⟨E,rfl,KX R hkn (by omega) hO⟩
 have HRe:Hid (∀(W:World) (v v1 v2:Nat),nN W x/\oC W->(v:Int)<n->(v1:Int)<10->(v2:Int)<9->Calls Tryz.prog 38 #[.pointer (some ⟨x.bv,0,none⟩),.int .i64 (IntKind.i64.wrap (1+(v:Int))),.int .i64 (IntKind.i64.wrap (95+(v1:Int))),.int .i64 (IntKind.i64.wrap (1+(v2:Int)))] W fun e w'=>∃f r c a m E,e=.returned (.tuple #[.agg #[.int .i64 f,.int .i64 r,.int .i64 c,.int .i64 a,.int .i64 m],.int .i64 E])/\rW x n E W w'):=by
  rintro W v v1 v2 ⟨R,hT⟩ hv hv1 hv2
  have e:IntKind.i64.wrap (1+(v:Int))=1+(v:Int):=by rw[IntKind.wrap_i64];omega
  have e1:IntKind.i64.wrap (95+(v1:Int))=95+(v1:Int):=by rw[IntKind.wrap_i64];omega
  have e2:IntKind.i64.wrap (1+(v2:Int))=1+(v2:Int):=by rw[IntKind.wrap_i64];omega
  rw[e,e1,e2]
  refine (Ef x.bv x.bm x.bo x.N x.V x.p x.S (1+(v:Int)) (95+(v1:Int)) (1+(v2:Int)) W R.jE hT R.lu (by omega) R.sz (WalkArith.wf_i64 (by omega)) (by unfold fH;simp;omega) (by unfold fH;simp;omega)).mono ?_
  rintro e w' ⟨f,r,c,a,m,E,rfl,hE,hO⟩
  exact⟨f,r,c,a,m,E,rfl,KX R hkn (by omega) hO⟩
 have HBu:Hid (∀(W:World) (v:Nat) (ag:Bool),nN W x/\oC W->Calls Tryz.prog 39 #[.pointer (some ⟨x.bv,0,none⟩),.int .i64 (IntKind.i64.wrap (1+(v:Int))),.bool ag] W fun e w'=>∃E,e=.returned (.int .i64 E)/\rW x n E W w'):=by
  rintro W v ag ⟨R,hT⟩
  refine (Np x.bv x.bm x.bo x.N x.V x.p x.S _ ag W R.jE hT R.lu (by omega) R.sz).mono ?_
  rintro e w' ⟨E,rfl,hE,hO⟩
  exact⟨E,rfl,KX R hkn hE hO⟩
 have HCo:Hid (∀(W:World) (v u:Nat),nN W x/\oC W->(u:Int)<20->Calls Tryz.prog 40 #[.pointer (some ⟨x.bv,0,none⟩),.int .i64 (IntKind.i64.wrap (1+(v:Int))),.int .i64 (IntKind.i64.wrap (90+(u:Int)))] W fun e w'=>∃E,e=.returned (.int .i64 E)/\rW x n E W w'):=by
  rintro W v u ⟨R,hT⟩ hu
  have e1:IntKind.i64.wrap (90+(u:Int))=90+(u:Int):=by rw[IntKind.wrap_i64];omega
  rw[e1]
  refine (Ee x.bv x.bm x.bo x.N x.V x.p x.S _ (90+(u:Int)) W R.jE hT R.lu (by omega) R.sz (by unfold fH;simp;omega)).mono ?_
  rintro e w' ⟨E,rfl,hE,hO⟩
  exact⟨E,rfl,KX R hkn hE hO⟩
 have IM:Hid (∀(W:World),nN W x/\oC W->Calls Tryz.prog 41 #[.pointer (some ⟨x.bv,0,none⟩)] W fun e w'=>e=.returned (.tuple #[])/\rW x n 0 W w'):=by
  rintro W ⟨R,hT⟩
  refine (Jy x.bv x.bm x.bo x.N x.V x.p x.S W R.jE hT R.lu (by omega) R.sz).mono ?_
  rintro e w' ⟨rfl,hA⟩
  exact⟨rfl,.inr ⟨rfl,Qg R hkn hA⟩⟩
 have YQ:Hid (∀(W:World),nN W x->Calls Tryz.prog 17 #[.pointer (some ⟨x.bv,0,none⟩),.int .i64 0] W fun e w'=>∃a m c,e=.returned (.slice a m c)/\m<=60000/\au aP W w'):=by
  intro W R
  refine (Ju R (by omega)).mono ?_
  rintro e w' ⟨a,c,rfl,_,k⟩
  exact⟨a,_,c,rfl,by have:=R.lu.yE;omega,k⟩
 have HH:=ai h
 have lP:=h.eG.lt
 clear hO h hkn ha hHl
 go_enter Tryz.func15,Tryz.ntmps15
 go_wp2_with fail
 refine (ae YI).mono ?_
 rintro e w1 ⟨v,rfl,hv,hd1,k1⟩
 have h1:=(ae HH).oQ hd1 k1
 have p1:w1.cell? ⟨P,1,none⟩=some (.int .i64 (n:Int)):=h1.eG.cell 1
 have p0:w1.cell? ⟨P,0,none⟩=some (.pointer (some ⟨x.bv,0,none⟩)):=h1.eG.cell 0
 have H1:=ai h1
 clear hd1 k1 h1 YI HH
 by_cases c8:(v:Int)<8
 ·have e8:decide ((v:Int)<8)=true:=by simp;omega
  go_wp2_with fail
  refine (ae HEn w1 (ae H1)).mono ?_
  rintro e w2 hx
  obtain⟨rfl,hx2⟩:=hx
  go_wp2
  go_ret
  exact⟨rfl,hx2⟩
 ·have e8:decide ((v:Int)<8)=false:=by simp;omega
  by_cases cn:n=0
  ·have en:((n:Int) == 0)=true:=by simp[cn]
   go_wp2_with fail
   refine (ae HEn w1 (ae H1)).mono ?_
   rintro e w2 hx
   obtain⟨rfl,hx2⟩:=hx
   go_wp2
   go_ret
   exact⟨rfl,hx2⟩
  ·have en:((n:Int) == 0)=false:=by simp;omega
   by_cases c10:(v:Int)<10
   ·have e10:decide ((v:Int)<10)=true:=by simp;omega
    clear c8 c10
    go_wp2
    go_region_with (first|(have hsrc:=H1;go_at_call 35;refine (ae Vd _ ((ae H1).bG (by repeat (first|exact au.refl _ _|refine au.drew ?_|refine au.alloc ?_ _))).dc _ (by omega) (by omega)).mono ?_;rintro e wu ⟨u,rfl,hu,hd,k⟩;have hh:=((ae H1).bG (by repeat (first|exact au.refl _ _|refine au.drew ?_|refine au.alloc ?_ _))).oQ hd k;have qu0:wu.cell? ⟨P,0,none⟩=some (.pointer (some ⟨x.bv,0,none⟩)):=hh.eG.cell 0;have qu1:wu.cell? ⟨P,1,none⟩=some (.int .i64 (n:Int)):=hh.eG.cell 1;have H2:=ai hh;clear hd k hh hsrc)|(go_at_call 37;refine (ae HCa _ u ((ae H2).bG (by repeat (first|exact au.refl _ _|refine au.drew ?_|refine au.alloc ?_ _))).rt hu).mono ?_;rintro e w9 ⟨E,rfl,hres⟩;have HR:=ai hres;clear hres))
    all_goals
     rcases ae HR with⟨hE,kn⟩|⟨rfl,hnx⟩
     ·clear HR
      have H9:=ai (((ae H2).bG (by repeat (first|exact au.refl _ _|refine au.drew ?_|refine au.alloc ?_ _))).bG kn)
      clear kn
      rcases hE with rfl|rfl|rfl
      all_goals
       go_wp2
       go_ret
       exact⟨rfl,x,n,acts,by omega,ae H9,Oi.refl x⟩
     ·clear HR
      obtain⟨x2,ok2,pM,wK,wL,wJ,eb,eN,eZ,eH,wM⟩:=((ae H2).bG (by repeat (first|exact au.refl _ _|refine au.drew ?_|refine au.alloc ?_ _))).next hnx
      have p2:w9.cell? ⟨P,2,none⟩=some (.int .i64 acts):=pM.cell 2
      have g2f:=pM.frozen 2
      have HF:=ai (And.intro ok2 (And.intro pM (And.intro wK (And.intro wL (And.intro wJ (And.intro eb (And.intro eN (And.intro eZ (And.intro eH wM)))))))))
      clear hnx ok2 pM wK wL wJ eb eN eZ eH wM
      go_wp2
      go_ret
      obtain⟨ok2,pM,wK,wL,wJ,eb,eN,eZ,⟨nt,S',eH⟩,wM⟩:=ae HF
      refine⟨rfl,x2,n,acts+1,by omega,?_,.inr ⟨nt,S',eH⟩,eb,eN,eZ⟩
      refine Pk.count (ae H1) ok2 wM (by rw[eH,List.length_append,ae HA];push_cast;rfl) ⟨_,_,by rw[eb];exact pM⟩ wK wL wJ ?_ ((au.refl (fun x=>x=P) w9).setCell (p:=⟨P,2,none⟩) (.inl rfl) _)
      rw[eb];exact pM.set 2 (.int .i64 (acts+1))
   ·have e10:decide ((v:Int)<10)=false:=by simp;omega
    by_cases c12:(v:Int)<12
    ·have e12:decide ((v:Int)<12)=true:=by simp;omega
     clear c8 c10 c12
     go_wp2
     go_region_with (first|(have hsrc:=H3;go_at_call 35;refine (ae Vd _ ((ae H3).bG (by repeat (first|exact au.refl _ _|refine au.drew ?_|refine au.alloc ?_ _))).dc _ (by omega) (by omega)).mono ?_;rintro e wt ⟨t,rfl,ht,hd,k⟩;have hh:=((ae H3).bG (by repeat (first|exact au.refl _ _|refine au.drew ?_|refine au.alloc ?_ _))).oQ hd k;have qt0:wt.cell? ⟨P,0,none⟩=some (.pointer (some ⟨x.bv,0,none⟩)):=hh.eG.cell 0;have qt1:wt.cell? ⟨P,1,none⟩=some (.int .i64 (n:Int)):=hh.eG.cell 1;have H4:=ai hh;clear hd k hh hsrc)|(have hsrc:=H2;go_at_call 35;refine (ae Vd _ ((ae H2).bG (by repeat (first|exact au.refl _ _|refine au.drew ?_|refine au.alloc ?_ _))).dc _ (by omega) (by omega)).mono ?_;rintro e ws ⟨s,rfl,hs,hd,k⟩;have hh:=((ae H2).bG (by repeat (first|exact au.refl _ _|refine au.drew ?_|refine au.alloc ?_ _))).oQ hd k;have qs0:ws.cell? ⟨P,0,none⟩=some (.pointer (some ⟨x.bv,0,none⟩)):=hh.eG.cell 0;have qs1:ws.cell? ⟨P,1,none⟩=some (.int .i64 (n:Int)):=hh.eG.cell 1;have H3:=ai hh;clear hd k hh hsrc)|(have hsrc:=H1;go_at_call 35;refine (ae Vd _ ((ae H1).bG (by repeat (first|exact au.refl _ _|refine au.drew ?_|refine au.alloc ?_ _))).dc _ (by omega) (by omega)).mono ?_;rintro e wu ⟨u,rfl,hu,hd,k⟩;have hh:=((ae H1).bG (by repeat (first|exact au.refl _ _|refine au.drew ?_|refine au.alloc ?_ _))).oQ hd k;have qu0:wu.cell? ⟨P,0,none⟩=some (.pointer (some ⟨x.bv,0,none⟩)):=hh.eG.cell 0;have qu1:wu.cell? ⟨P,1,none⟩=some (.int .i64 (n:Int)):=hh.eG.cell 1;have H2:=ai hh;clear hd k hh hsrc)|(go_at_call 38;refine (ae HRe _ u s t ((ae H4).bG (by repeat (first|exact au.refl _ _|refine au.drew ?_|refine au.alloc ?_ _))).rt hu hs ht).mono ?_;rintro e w9 ⟨f,r,c,a,m,E,rfl,hres⟩;have HR:=ai hres;clear hres))
     all_goals
      rcases ae HR with⟨hE,kn⟩|⟨rfl,hnx⟩
      ·clear HR
       have H9:=ai (((ae H4).bG (by repeat (first|exact au.refl _ _|refine au.drew ?_|refine au.alloc ?_ _))).bG kn)
       clear kn
       rcases hE with rfl|rfl|rfl
       all_goals
        go_wp2
        go_ret
        exact⟨rfl,x,n,acts,by omega,ae H9,Oi.refl x⟩
      ·clear HR
       obtain⟨x2,ok2,pM,wK,wL,wJ,eb,eN,eZ,eH,wM⟩:=((ae H4).bG (by repeat (first|exact au.refl _ _|refine au.drew ?_|refine au.alloc ?_ _))).next hnx
       have p2:w9.cell? ⟨P,2,none⟩=some (.int .i64 acts):=pM.cell 2
       have g2f:=pM.frozen 2
       have HF:=ai (And.intro ok2 (And.intro pM (And.intro wK (And.intro wL (And.intro wJ (And.intro eb (And.intro eN (And.intro eZ (And.intro eH wM)))))))))
       clear hnx ok2 pM wK wL wJ eb eN eZ eH wM
       go_wp2
       go_ret
       obtain⟨ok2,pM,wK,wL,wJ,eb,eN,eZ,⟨nt,S',eH⟩,wM⟩:=ae HF
       refine⟨rfl,x2,n,acts+1,by omega,?_,.inr ⟨nt,S',eH⟩,eb,eN,eZ⟩
       refine Pk.count (ae H1) ok2 wM (by rw[eH,List.length_append,ae HA];push_cast;rfl) ⟨_,_,by rw[eb];exact pM⟩ wK wL wJ ?_ ((au.refl (fun x=>x=P) w9).setCell (p:=⟨P,2,none⟩) (.inl rfl) _)
       rw[eb];exact pM.set 2 (.int .i64 (acts+1))
    ·have e12:decide ((v:Int)<12)=false:=by simp;omega
     by_cases c14:(v:Int)<14
     ·have e14:decide ((v:Int)<14)=true:=by simp;omega
      clear c8 c10 c12 c14
      go_wp2_with fail
      refine (ae YQ w1 (ae H1).ok).mono ?_
      rintro e wt ⟨ta,tm,tc,rfl,htm,kt⟩
      have ht1:=(ae H1).bG kt
      have pt0:wt.cell? ⟨P,0,none⟩=some (.pointer (some ⟨x.bv,0,none⟩)):=ht1.eG.cell 0
      have HW:=ai ht1
      have EY:Hid (∀W:World,Dc D ao len cap zs base W->Calls Tryz.prog 35 #[.pointer (some ⟨D,0,none⟩),.int .i64 (IntKind.i64.wrap ((tm:Int)+1))] W fun e w'=>∃v:Nat,e=.returned (.int .i64 (v:Int))/\(v:Int)<(tm:Int)+1/\Dc D ao len cap zs base w'/\au (fun x=>x=D) W w'):=fun W hd=>by
       have e:IntKind.i64.wrap ((tm:Int)+1)=(tm:Int)+1:=by rw[IntKind.wrap_i64];omega
       rw[e]
       exact ae Vd W hd ((tm:Int)+1) (by omega) (by omega)
      clear kt ht1
      go_wp2
      go_region_with (first|(have hsrc:=H2;go_at_call 35;refine (ae Vd _ ((ae H2).bG (by repeat (first|exact au.refl _ _|refine au.drew ?_|refine au.alloc ?_ _))).dc _ (by omega) (by omega)).mono ?_;rintro e ws ⟨s,rfl,hs,hd,k⟩;have hh:=((ae H2).bG (by repeat (first|exact au.refl _ _|refine au.drew ?_|refine au.alloc ?_ _))).oQ hd k;have qs0:ws.cell? ⟨P,0,none⟩=some (.pointer (some ⟨x.bv,0,none⟩)):=hh.eG.cell 0;have qs1:ws.cell? ⟨P,1,none⟩=some (.int .i64 (n:Int)):=hh.eG.cell 1;have H3:=ai hh;clear hd k hh hsrc)|(have hsrc:=HW;go_at_call 35;refine (ae EY _ ((ae HW).bG (by repeat (first|exact au.refl _ _|refine au.drew ?_|refine au.alloc ?_ _))).dc).mono ?_;rintro e wu ⟨u,rfl,hu,hd,k⟩;have hh:=((ae HW).bG (by repeat (first|exact au.refl _ _|refine au.drew ?_|refine au.alloc ?_ _))).oQ hd k;have qu0:wu.cell? ⟨P,0,none⟩=some (.pointer (some ⟨x.bv,0,none⟩)):=hh.eG.cell 0;have qu1:wu.cell? ⟨P,1,none⟩=some (.int .i64 (n:Int)):=hh.eG.cell 1;have H2:=ai hh;clear hd k hh hsrc)|(go_at_call 39;refine (ae HBu _ u _ ((ae H3).bG (by repeat (first|exact au.refl _ _|refine au.drew ?_|refine au.alloc ?_ _))).rt).mono ?_;rintro e w9 ⟨E,rfl,hres⟩;have HR:=ai hres;clear hres))
      all_goals
       rcases ae HR with⟨hE,kn⟩|⟨rfl,hnx⟩
       ·clear HR
        have H9:=ai (((ae H3).bG (by repeat (first|exact au.refl _ _|refine au.drew ?_|refine au.alloc ?_ _))).bG kn)
        clear kn
        rcases hE with rfl|rfl|rfl
        all_goals
         go_wp2
         go_ret
         exact⟨rfl,x,n,acts,by omega,ae H9,Oi.refl x⟩
       ·clear HR
        obtain⟨x2,ok2,pM,wK,wL,wJ,eb,eN,eZ,eH,wM⟩:=((ae H3).bG (by repeat (first|exact au.refl _ _|refine au.drew ?_|refine au.alloc ?_ _))).next hnx
        have p2:w9.cell? ⟨P,2,none⟩=some (.int .i64 acts):=pM.cell 2
        have g2f:=pM.frozen 2
        have HF:=ai (And.intro ok2 (And.intro pM (And.intro wK (And.intro wL (And.intro wJ (And.intro eb (And.intro eN (And.intro eZ (And.intro eH wM)))))))))
        clear hnx ok2 pM wK wL wJ eb eN eZ eH wM
        go_wp2
        go_ret
        obtain⟨ok2,pM,wK,wL,wJ,eb,eN,eZ,⟨nt,S',eH⟩,wM⟩:=ae HF
        refine⟨rfl,x2,n,acts+1,by omega,?_,.inr ⟨nt,S',eH⟩,eb,eN,eZ⟩
        refine Pk.count (ae H1) ok2 wM (by rw[eH,List.length_append,ae HA];push_cast;rfl) ⟨_,_,by rw[eb];exact pM⟩ wK wL wJ ?_ ((au.refl (fun x=>x=P) w9).setCell (p:=⟨P,2,none⟩) (.inl rfl) _)
        rw[eb];exact pM.set 2 (.int .i64 (acts+1))
     ·have e14:decide ((v:Int)<14)=false:=by simp;omega
      by_cases c15:(v:Int)<15
      ·have e15:decide ((v:Int)<15)=true:=by simp;omega
       clear c8 c10 c12 c14 c15
       go_wp2_with fail
       refine (ae YQ w1 (ae H1).ok).mono ?_
       rintro e wt ⟨ta,tm,tc,rfl,htm,kt⟩
       have ht1:=(ae H1).bG kt
       have pt0:wt.cell? ⟨P,0,none⟩=some (.pointer (some ⟨x.bv,0,none⟩)):=ht1.eG.cell 0
       have HW:=ai ht1
       have EY:Hid (∀W:World,Dc D ao len cap zs base W->Calls Tryz.prog 35 #[.pointer (some ⟨D,0,none⟩),.int .i64 (IntKind.i64.wrap ((tm:Int)+1))] W fun e w'=>∃v:Nat,e=.returned (.int .i64 (v:Int))/\(v:Int)<(tm:Int)+1/\Dc D ao len cap zs base w'/\au (fun x=>x=D) W w'):=fun W hd=>by
        have e:IntKind.i64.wrap ((tm:Int)+1)=(tm:Int)+1:=by rw[IntKind.wrap_i64];omega
        rw[e]
        exact ae Vd W hd ((tm:Int)+1) (by omega) (by omega)
       clear kt ht1
       go_wp2
       go_region_with (first|(have hsrc:=H2;go_at_call 35;refine (ae Vd _ ((ae H2).bG (by repeat (first|exact au.refl _ _|refine au.drew ?_|refine au.alloc ?_ _))).dc _ (by omega) (by omega)).mono ?_;rintro e ws ⟨s,rfl,hs,hd,k⟩;have hh:=((ae H2).bG (by repeat (first|exact au.refl _ _|refine au.drew ?_|refine au.alloc ?_ _))).oQ hd k;have qs0:ws.cell? ⟨P,0,none⟩=some (.pointer (some ⟨x.bv,0,none⟩)):=hh.eG.cell 0;have qs1:ws.cell? ⟨P,1,none⟩=some (.int .i64 (n:Int)):=hh.eG.cell 1;have H3:=ai hh;clear hd k hh hsrc)|(have hsrc:=HW;go_at_call 35;refine (ae EY _ ((ae HW).bG (by repeat (first|exact au.refl _ _|refine au.drew ?_|refine au.alloc ?_ _))).dc).mono ?_;rintro e wu ⟨u,rfl,hu,hd,k⟩;have hh:=((ae HW).bG (by repeat (first|exact au.refl _ _|refine au.drew ?_|refine au.alloc ?_ _))).oQ hd k;have qu0:wu.cell? ⟨P,0,none⟩=some (.pointer (some ⟨x.bv,0,none⟩)):=hh.eG.cell 0;have qu1:wu.cell? ⟨P,1,none⟩=some (.int .i64 (n:Int)):=hh.eG.cell 1;have H2:=ai hh;clear hd k hh hsrc)|(go_at_call 40;refine (ae HCo _ u s ((ae H3).bG (by repeat (first|exact au.refl _ _|refine au.drew ?_|refine au.alloc ?_ _))).rt hs).mono ?_;rintro e w9 ⟨E,rfl,hres⟩;have HR:=ai hres;clear hres))
       all_goals
        rcases ae HR with⟨hE,kn⟩|⟨rfl,hnx⟩
        ·clear HR
         have H9:=ai (((ae H3).bG (by repeat (first|exact au.refl _ _|refine au.drew ?_|refine au.alloc ?_ _))).bG kn)
         clear kn
         rcases hE with rfl|rfl|rfl
         all_goals
          go_wp2
          go_ret
          exact⟨rfl,x,n,acts,by omega,ae H9,Oi.refl x⟩
        ·clear HR
         obtain⟨x2,ok2,pM,wK,wL,wJ,eb,eN,eZ,eH,wM⟩:=((ae H3).bG (by repeat (first|exact au.refl _ _|refine au.drew ?_|refine au.alloc ?_ _))).next hnx
         have p2:w9.cell? ⟨P,2,none⟩=some (.int .i64 acts):=pM.cell 2
         have g2f:=pM.frozen 2
         have HF:=ai (And.intro ok2 (And.intro pM (And.intro wK (And.intro wL (And.intro wJ (And.intro eb (And.intro eN (And.intro eZ (And.intro eH wM)))))))))
         clear hnx ok2 pM wK wL wJ eb eN eZ eH wM
         go_wp2
         go_ret
         obtain⟨ok2,pM,wK,wL,wJ,eb,eN,eZ,⟨nt,S',eH⟩,wM⟩:=ae HF
         refine⟨rfl,x2,n,acts+1,by omega,?_,.inr ⟨nt,S',eH⟩,eb,eN,eZ⟩
         refine Pk.count (ae H1) ok2 wM (by rw[eH,List.length_append,ae HA];push_cast;rfl) ⟨_,_,by rw[eb];exact pM⟩ wK wL wJ ?_ ((au.refl (fun x=>x=P) w9).setCell (p:=⟨P,2,none⟩) (.inl rfl) _)
         rw[eb];exact pM.set 2 (.int .i64 (acts+1))
      ·have e15:decide ((v:Int)<15)=false:=by simp;omega
       clear c8 c10 c12 c14 c15
       go_wp2_with fail
       refine (ae IM w1 (ae H1).rt).mono ?_
       rintro e w9 ⟨rfl,hres⟩
       have HR:=ai hres
       clear hres
       all_goals
        rcases ae HR with⟨hE,kn⟩|⟨-,hnx⟩
        ·clear HR
         have H9:=ai (((ae H1).bG (by repeat (first|exact au.refl _ _|refine au.drew ?_|refine au.alloc ?_ _))).bG kn)
         clear kn
         omega
        ·clear HR
         obtain⟨x2,ok2,pM,wK,wL,wJ,eb,eN,eZ,eH,wM⟩:=((ae H1).bG (by repeat (first|exact au.refl _ _|refine au.drew ?_|refine au.alloc ?_ _))).next hnx
         have p2:w9.cell? ⟨P,2,none⟩=some (.int .i64 acts):=pM.cell 2
         have g2f:=pM.frozen 2
         have HF:=ai (And.intro ok2 (And.intro pM (And.intro wK (And.intro wL (And.intro wJ (And.intro eb (And.intro eN (And.intro eZ (And.intro eH wM)))))))))
         clear hnx ok2 pM wK wL wJ eb eN eZ eH wM
         go_wp2
         go_ret
         obtain⟨ok2,pM,wK,wL,wJ,eb,eN,eZ,⟨nt,S',eH⟩,wM⟩:=ae HF
         refine⟨rfl,x2,n,acts+1,by omega,?_,.inr ⟨nt,S',eH⟩,eb,eN,eZ⟩
         refine Pk.count (ae H1) ok2 wM (by rw[eH,List.length_append,ae HA];push_cast;rfl) ⟨_,_,by rw[eb];exact pM⟩ wK wL wJ ?_ ((au.refl (fun x=>x=P) w9).setCell (p:=⟨P,2,none⟩) (.inl rfl) _)
         rw[eb];exact pM.set 2 (.int .i64 (acts+1))
theorem Ed(j:Nat)(h:j<9):0<=fC j/\fC j<=5/\(fC j=5↔j=8):=by
 unfold fC
 split <;> omega
theorem sQ{D:Nat}{ao:Option Addr}{len cap:Nat}{zs:Nat->Int}{base P bv n:Nat}{acts:Int}{w W:World}(h:bM D ao len cap zs base P bv n acts w W){Bo:Nat}{o:iL}(hb:az W Bo (BH o) 52)(hne:Bo≠D)(hlt:w.heap.size<Bo)(hok:∃i t,i<2/\t<2/\Oy o n i t) :
 ∃W',W'=(((((((W.setCell ⟨w.heap.size,0,none⟩ (.int .i64 o.id)).setCell ⟨w.heap.size,1,none⟩ (.int .i64 o.aA)).setCell ⟨w.heap.size,2,none⟩ (.string o.sym)).setCell ⟨w.heap.size,3,none⟩ (.int .i64 o.side)).setCell ⟨w.heap.size,4,none⟩ (.int .i64 o.kind)).setCell ⟨w.heap.size,5,none⟩ (.int .i64 o.af)).setCell ⟨w.heap.size,6,none⟩ (.int .i64 o.aI))/\az W' w.heap.size (BH o) 52/\KE D ao len cap zs base n w o.val W':=by
 refine⟨_,rfl,?_,o,rfl,hok,?_,?_⟩
 ·exact ((((((h.res.set 0 _).set 1 _).set 2 _).set 3 _).set 4 _).set 5 _).set 6 _
 ·have:=h.dc.bD
  have hd:=h.dw
  refine h.dc.bG (S:=fun x=>x=w.heap.size) ((((((((au.refl (fun x=>x=w.heap.size) W).setCell (p:=⟨w.heap.size,0,none⟩) (.inl rfl) _).setCell (p:=⟨w.heap.size,1,none⟩) (.inl rfl) _).setCell (p:=⟨w.heap.size,2,none⟩) (.inl rfl) _).setCell (p:=⟨w.heap.size,3,none⟩) (.inl rfl) _).setCell (p:=⟨w.heap.size,4,none⟩) (.inl rfl) _).setCell (p:=⟨w.heap.size,5,none⟩) (.inl rfl) _).setCell (p:=⟨w.heap.size,6,none⟩) (.inl rfl) _) (by omega) (fun x e=>by omega)
 ·exact ((((((h.oJ.setCell (.inr (Nat.le_refl _)) _).setCell (.inr (Nat.le_refl _)) _).setCell (.inr (Nat.le_refl _)) _).setCell (.inr (Nat.le_refl _)) _).setCell (.inr (Nat.le_refl _)) _).setCell (.inr (Nat.le_refl _)) _).setCell (.inr (Nat.le_refl _)) _
theorem GK(D:Nat)(ao:Option Addr)(len cap:Nat)(zs:Nat->Int)(base P bv n:Nat)(hn:n<1000000):DJ D ao len cap zs base P bv n:=by
 intro w acts hdc hply
 have hR0:bM D ao len cap zs base P bv n acts w (w.alloc (.cells #[.int .i64 0,.int .i64 0,.string ⟨#[]⟩,.int .i64 0,.int .i64 0,.int .i64 0,.int .i64 0] 52)):=by
  obtain⟨a,ha,hd⟩:=hdc.vk
  exact⟨hdc.Gj ((au.refl aP w).alloc _),hply.alloc _,az.new w _ _,(au.refl _ w).alloc _,(hply.alloc _).cell 1,hd.lt⟩
 have HR:=ai hR0
 clear hR0 hdc hply
 go_enter Tryz.func63,Tryz.ntmps63
 go_wp2
 refine wp_region_any (by kernel_rfl) ?_
 change wpAny _ _ _ _ _ _ _ (World.drew _)
 refine wpAny_take (i:=0) (v:=.pointer (some ⟨P,0,none⟩)) rfl (by kernel_rfl) (by kernel_rfl) (by kernel_rfl) (fun _ _ _ h=>h) (Or.inl ⟨by rfl,fun w=>by go_simp⟩) ?_
 refine wpAny_take (i:=1) (v:=.pointer (some ⟨P,0,none⟩)) rfl (by kernel_rfl) (by kernel_rfl) (by kernel_rfl) (fun _ _ _ h=>h) (Or.inl ⟨by rfl,fun w=>by go_simp⟩) ?_
 refine wpAny_take (i:=2) (v:=.pointer (some ⟨P,1,none⟩)) rfl (by kernel_rfl) (by kernel_rfl) (by kernel_rfl) (fun _ _ _ h=>h) (Or.inl ⟨by rfl,fun w=>by go_simp⟩) ?_
 refine wpAny_take (i:=5) (v:=.pointer (some ⟨D,0,none⟩)) rfl (by kernel_rfl) (by kernel_rfl) (by kernel_rfl) (fun _ _ _ h=>h) (Or.inl ⟨by rfl,fun w=>by go_simp⟩) ?_
 refine wpAny_take (i:=7) (v:=.pointer (some ⟨D,0,none⟩)) rfl (by kernel_rfl) (by kernel_rfl) (by kernel_rfl) (fun _ _ _ h=>h) (Or.inl ⟨by rfl,fun w=>by go_simp⟩) ?_
 refine wpAny_take (i:=10) (v:=.pointer (some ⟨D,0,none⟩)) rfl (by kernel_rfl) (by kernel_rfl) (by kernel_rfl) (fun _ _ _ h=>h) (Or.inl ⟨by rfl,fun w=>by go_simp⟩) ?_
 refine wpAny_take (i:=14) (v:=.pointer (some ⟨D,0,none⟩)) rfl (by kernel_rfl) (by kernel_rfl) (by kernel_rfl) (fun _ _ _ h=>h) (Or.inl ⟨by rfl,fun w=>by go_simp⟩) ?_
 refine wpAny_take (i:=17) (v:=.pointer (some ⟨D,0,none⟩)) rfl (by kernel_rfl) (by kernel_rfl) (by kernel_rfl) (fun _ _ _ h=>h) (Or.inl ⟨by rfl,fun w=>by go_simp⟩) ?_
 refine QZ D ao len cap zs base P bv n acts w _ ⟨?_,fun _ a d v _ h=>by cases d <;> exact h⟩ _ (ae HR).drew
 intro v1 v2 v3 v4 v5 Bs Bo W h1 h2 h3 h4 h5 hr hne hlt hb
 have e1:IntKind.i64.wrap ((n:Int)+1)=(n:Int)+1:=by rw[IntKind.wrap_i64];omega
 have e2:IntKind.i64.wrap (95+(v4:Int))=95+(v4:Int):=by rw[IntKind.wrap_i64];omega
 have e3:IntKind.i64.wrap (1+(v5:Int))=1+(v5:Int):=by rw[IntKind.wrap_i64];omega
 rw[e1,e2,e3]at hb ⊢
 have hkb:=Ed v3 (by omega)
 obtain⟨kd,hkd⟩:∃kd,kd=fC v3:=⟨_,rfl⟩
 rw[<-hkd]at hb hkb ⊢
 have HRo:=ai (aY D ao len cap zs base P bv n acts w W 4 hr (by decide) (by decide))
 have HB:=ai hb
 have YG:=ai hne
 have SY:=ai hlt
 have LU:=ai hkb
 clear hr hb hne hlt e1 e2 e3 hkd hkb HR
 go_wp2_with fail
 refine (ae HRo).mono ?_
 rintro e w2 ⟨v6,rfl,h6,hr,hk⟩
 have hb:=hk.aB (ae HB) (ae YG)
 have q0:w2.cell? ⟨Bo,0,none⟩=some (.int .i64 ((n:Int)+1)):=hb.cell 0
 have q1:w2.cell? ⟨Bo,1,none⟩=some (.int .i64 (v1:Int)):=hb.cell 1
 have q2:w2.cell? ⟨Bo,2,none⟩=some (.string ⟨#[65]⟩):=hb.cell 2
 have q3:w2.cell? ⟨Bo,3,none⟩=some (.int .i64 (v2:Int)):=hb.cell 3
 have q4:w2.cell? ⟨Bo,4,none⟩=some (.int .i64 kd):=hb.cell 4
 have q5:w2.cell? ⟨Bo,5,none⟩=some (.int .i64 (95+(v4:Int))):=hb.cell 5
 have q6:w2.cell? ⟨Bo,6,none⟩=some (.int .i64 (1+(v5:Int))):=hb.cell 6
 have g2:=hb.frozen 2
 have g5:=hb.frozen 5
 have r0:w2.cell? ⟨w.heap.size,0,none⟩=some (.int .i64 0):=hr.res.cell 0
 have r1:w2.cell? ⟨w.heap.size,1,none⟩=some (.int .i64 0):=hr.res.cell 1
 have r2:w2.cell? ⟨w.heap.size,2,none⟩=some (.string ⟨#[]⟩):=hr.res.cell 2
 have r3:w2.cell? ⟨w.heap.size,3,none⟩=some (.int .i64 0):=hr.res.cell 3
 have r4:w2.cell? ⟨w.heap.size,4,none⟩=some (.int .i64 0):=hr.res.cell 4
 have r5:w2.cell? ⟨w.heap.size,5,none⟩=some (.int .i64 0):=hr.res.cell 5
 have r6:w2.cell? ⟨w.heap.size,6,none⟩=some (.int .i64 0):=hr.res.cell 6
 have s0:=hr.res.frozen 0
 have s1:=hr.res.frozen 1
 have s2:=hr.res.frozen 2
 have s3:=hr.res.frozen 3
 have s4:=hr.res.frozen 4
 have s5:=hr.res.frozen 5
 have s6:=hr.res.frozen 6
 have nb:Bo≠w.heap.size:=by have:=ae SY;omega
 have nb':w.heap.size≠Bo:=fun e=>nb e.symm
 have H2:=ai hr
 have HB2:=ai hb
 clear hr hb hk HB HRo
 by_cases hz:v6=0 <;> by_cases h5:kd=5
 ·subst hz
  subst h5
  have hs1:=ai ((ae H2).set (ae HB2) (ae SY) 2 (.string ⟨#[206,145,206,169]⟩))
  have hs2:=ai ((ae hs1).1.set (ae hs1).2 (ae SY) 5 (.int .i64 0))
  have hE:=ai (sQ (ae hs2).1 (o:=(⟨(n:Int)+1,(v1:Int),⟨#[206,145,206,169]⟩,(v2:Int),5,0,1+(v5:Int)⟩:iL)) (ae hs2).2 (ae YG) (ae SY) ⟨1,v2,by decide,by omega,⟨rfl,⟨by show (0:Int)<=(v1:Int);omega,by show (v1:Int)<=9;omega⟩,rfl,rfl,by have:=ae LU;exact⟨by show (0:Int)<=5;omega,by show 5<=(5:Int);omega⟩,by simp[iQ],⟨by show (1:Int)<=1+(v5:Int);omega,by show 1+(v5:Int)<=(9:Int);omega⟩⟩⟩)
  go_wp2
  obtain⟨W3,hW3,hB3,hP3⟩:=ae hE
  subst hW3
  exact bodyPost_ret (Lt _ w.heap.size _ (⟨(n:Int)+1,(v1:Int),⟨#[206,145,206,169]⟩,(v2:Int),5,0,1+(v5:Int)⟩:iL) rfl hB3) rfl ⟨_,rfl,hP3⟩
 ·subst hz
  have ek:decide (kd=5)=false:=by simp;omega
  have hs1:=ai ((ae H2).set (ae HB2) (ae SY) 2 (.string ⟨#[206,145,206,169]⟩))
  have hE:=ai (sQ (ae hs1).1 (o:=(⟨(n:Int)+1,(v1:Int),⟨#[206,145,206,169]⟩,(v2:Int),kd,95+(v4:Int),1+(v5:Int)⟩:iL)) (ae hs1).2 (ae YG) (ae SY) ⟨1,v2,by decide,by omega,⟨rfl,⟨by show (0:Int)<=(v1:Int);omega,by show (v1:Int)<=9;omega⟩,rfl,rfl,by have:=ae LU;exact⟨by show (0:Int)<=kd;omega,by show kd<=(5:Int);omega⟩,by show iQ kd (95+(v4:Int))=true;unfold iQ fH;rw[if_neg h5];simp;omega,⟨by show (1:Int)<=1+(v5:Int);omega,by show 1+(v5:Int)<=(9:Int);omega⟩⟩⟩)
  go_wp2
  obtain⟨W3,hW3,hB3,hP3⟩:=ae hE
  subst hW3
  exact bodyPost_ret (Lt _ w.heap.size _ (⟨(n:Int)+1,(v1:Int),⟨#[206,145,206,169]⟩,(v2:Int),kd,95+(v4:Int),1+(v5:Int)⟩:iL) rfl hB3) rfl ⟨_,rfl,hP3⟩
 ·have ez:decide ((v6:Int)=0)=false:=by simp;omega
  subst h5
  have hs2:=ai ((ae H2).set (ae HB2) (ae SY) 5 (.int .i64 0))
  have hE:=ai (sQ (ae hs2).1 (o:=(⟨(n:Int)+1,(v1:Int),⟨#[65]⟩,(v2:Int),5,0,1+(v5:Int)⟩:iL)) (ae hs2).2 (ae YG) (ae SY) ⟨0,v2,by decide,by omega,⟨rfl,⟨by show (0:Int)<=(v1:Int);omega,by show (v1:Int)<=9;omega⟩,rfl,rfl,by have:=ae LU;exact⟨by show (0:Int)<=5;omega,by show 5<=(5:Int);omega⟩,by simp[iQ],⟨by show (1:Int)<=1+(v5:Int);omega,by show 1+(v5:Int)<=(9:Int);omega⟩⟩⟩)
  go_wp2
  obtain⟨W3,hW3,hB3,hP3⟩:=ae hE
  subst hW3
  exact bodyPost_ret (Lt _ w.heap.size _ (⟨(n:Int)+1,(v1:Int),⟨#[65]⟩,(v2:Int),5,0,1+(v5:Int)⟩:iL) rfl hB3) rfl ⟨_,rfl,hP3⟩
 ·have ez:decide ((v6:Int)=0)=false:=by simp;omega
  have ek:decide (kd=5)=false:=by simp;omega
  have hE:=ai (sQ (ae H2) (o:=(⟨(n:Int)+1,(v1:Int),⟨#[65]⟩,(v2:Int),kd,95+(v4:Int),1+(v5:Int)⟩:iL)) (ae HB2) (ae YG) (ae SY) ⟨0,v2,by decide,by omega,⟨rfl,⟨by show (0:Int)<=(v1:Int);omega,by show (v1:Int)<=9;omega⟩,rfl,rfl,by have:=ae LU;exact⟨by show (0:Int)<=kd;omega,by show kd<=(5:Int);omega⟩,by show iQ kd (95+(v4:Int))=true;unfold iQ fH;rw[if_neg h5];simp;omega,⟨by show (1:Int)<=1+(v5:Int);omega,by show 1+(v5:Int)<=(9:Int);omega⟩⟩⟩)
  go_wp2
  obtain⟨W3,hW3,hB3,hP3⟩:=ae hE
  subst hW3
  exact bodyPost_ret (Lt _ w.heap.size _ (⟨(n:Int)+1,(v1:Int),⟨#[65]⟩,(v2:Int),kd,95+(v4:Int),1+(v5:Int)⟩:iL) rfl hB3) rfl ⟨_,rfl,hP3⟩
def yV(D:Nat)(ao:Option Addr)(len cap:Nat)(zs:Nat->Int)(w0:World)(P i:Nat)(w:World):Prop :=
 ∃x n acts,n<=i/\x.N<=2+i/\Pk D ao len cap zs w0.heap.size (fun b=>b<w0.heap.size) w0 P x n acts w
theorem aan{D:Nat}{ao:Option Addr}{len cap:Nat}{zs:Nat->Int}{w0:World}{P i:Nat}{w:World}(h:yV D ao len cap zs w0 P i w)(hi:i<120) :
 Calls Tryz.prog 15 #[.pointer (some ⟨P,0,none⟩),.pointer (some ⟨D,0,none⟩),.bool true] w fun e w'=>e=.returned (.bool true)/\yV D ao len cap zs w0 P (i+1) w':=by
 obtain⟨x,n,acts,h1,h2,hp⟩:=h
 refine (VU D ao len cap zs _ _ w0 P x n acts w hp (GK D ao len cap zs _ P x.bv n (by omega)) (by omega) (by omega)).mono ?_
 rintro e w' ⟨rfl,x',n',jO,hn,hp',hs⟩
 exact⟨rfl,x',n',jO,by omega,by have:=hs.2.2.1;omega,hp'⟩
theorem UF(D:Nat)(ao:Option Addr)(len cap:Nat)(zs:Nat->Int)(w0 w:World)(hd:Dc D ao len cap zs w0.heap.size w)(k0:au aP w0 w) :
 Calls Tryz.prog 22 #[.pointer (some ⟨D,0,none⟩),.bool true] w fun e w'=>∃P i,e=.returned (.pointer (some ⟨P,0,none⟩))/\i<=120/\yV D ao len cap zs w0 P i w':=by
 have HD:=ai hd
 have HK:=ai k0
 clear hd k0
 go_enter Tryz.func22,Tryz.ntmps22
 go_wp2_with fail
 refine (WJ w).mono ?_
 rintro e w1 ⟨P,x,rfl,hP,ok,kn,hl,hN,k1,hf,hp⟩
 have hL:yV D ao len cap zs w0 P 0 w1:=by
  have hd:=ae HD
  have k0:=ae HK
  have s0:=k0.size
  refine⟨x,0,2,Nat.le_refl _,hN,ok,kn,by rw[hl];rfl,hP,hd.Gj k1,fun b hb=>⟨fun hz=>?_,fun h0 a e he=>?_⟩,⟨fun hz=>?_,fun h0 a e he=>?_⟩,fun hz=>?_,fun b hb=>hb,hd.bT,(k0.trans k1).bI⟩
  ·have:=hf b hb;omega
  ·have:=hf b hb;have:=hd.old h0 a e;omega
  ·omega
  ·have:=hd.old h0 a e;omega
  ·have:=hd.bD;omega
 have HL:=ai hL
 clear hP ok kn hl hN k1 hf hp hL HD HK
 go_wp2
 go_loopg [6] 120 (fun g iv wq=>∃i:Nat,iv=.int .i64 (i:Int)/\i<=120/\g=120-i/\yV D ao len cap zs w0 P i wq)
 case atStart=>exact⟨0,rfl,Nat.zero_le _,rfl,ae HL⟩
 case round =>
  obtain⟨i,rfl,hi,hgk,hp⟩:=hrel
  have hdc:∃at_:Nat,wr.cell? ⟨D,0,none⟩=some (.slice ao len cap)/\wr.cell? ⟨D,1,none⟩=some (.int .i64 (at_:Int)):=by
   obtain⟨_,_,_,_,_,hp⟩:=hp
   obtain⟨a,_,hb⟩:=hp.dc.vk
   exact⟨a,hb.cell 0,hb.cell 1⟩
  obtain⟨at_,d0,d1⟩:=hdc
  have HPl:=ai hp
  clear hp HL
  have HQ:Hid (∀q,yV D ao len cap zs w0 P i (wr.drewN q)):=fun q=>by
   obtain⟨x,n,acts,h1,h2,hp⟩:=ae HPl
   exact⟨x,n,acts,h1,h2,hp.bG ((au.refl aP wr).drewN q)⟩
  by_cases hgo:i<120/\at_<len
  ·obtain⟨h60,hat⟩:=hgo
   have e1:decide ((i:Int)<120)=true:=by simp;omega
   have e2:decide ((at_:Int)<(len:Int))=true:=by simp;omega
   go_wp2
   go_quiet (fail)
   go_wp2_with fail
   refine (aan (ae HQ _) h60).mono ?_
   rintro e w3 ⟨rfl,hp3⟩
   have HP3:=ai hp3
   clear hp3 d0 d1
   go_wp2
   go_roundg (120-(i+1))
   case measure=>omega
   case rel=>exact⟨i+1,by push_cast;rfl,by omega,rfl,ae HP3⟩
  ·by_cases h60:i<120
   ·have e1:decide ((i:Int)<120)=true:=by simp;omega
    have hat:¬at_<len:=fun h=>hgo ⟨h60,h⟩
    have e2:decide ((at_:Int)<(len:Int))=false:=by simp;omega
    clear hgo
    go_wp2
    go_quiet (fail)
    go_wp2
    go_ret
    exact⟨P,i,rfl,hi,ae HQ _⟩
   ·have e1:decide ((i:Int)<120)=false:=by simp;omega
    clear hgo
    go_wp2
    go_quiet (fail)
    go_wp2
    go_ret
    exact⟨P,i,rfl,hi,ae HQ _⟩
theorem PD:∀(os:List Ord) (i:Nat) (o:Ord) (j:Nat) (u:Value),os[i]?=some o->(oh o)[j]?=some u->(uf os)[i * 12+j]?=some u:=by
 intro os
 induction os with
 | nil=>intro i o j u h;simp at h
 | cons x os ih =>
   intro i o j u h hu
   have hl:(oh x).length=12:=rfl
   have hj:j<12:=by
    have:=(List.getElem?_eq_some_iff.1 hu).1
    simpa [oh] using this
   show (oh x++uf os)[i * 12+j]?=some u
   cases i with
   | zero =>
     simp only[List.getElem?_cons_zero,Option.some.injEq]at h
     subst h
     rw[List.getElem?_append_left (by rw[hl];omega)]
     simpa using hu
   | succ i =>
     simp only[List.getElem?_cons_succ]at h
     rw[List.getElem?_append_right (by rw[hl];omega),hl]
     have e:(i+1) * 12+j-12=i * 12+j:=by omega
     rw[e]
     exact ih i o j u h hu
theorem Pz:∀(ls:List jM) (i:Nat) (l:jM),ls[i]?=some l->(kG ls)[i * 3]?=some (.int .i64 l.af)/\(kG ls)[i * 3+1]?=some (.int .i64 l.aI)/\(kG ls)[i * 3+2]?=some (.int .i64 l.num):=by
 intro ls
 induction ls with
 | nil=>intro i l h;simp at h
 | cons x ls ih =>
   intro i l h
   have hf:kG (x :: ls)=.int .i64 x.af :: .int .i64 x.aI :: .int .i64 x.num :: kG ls:=rfl
   rw[hf]
   cases i with
   | zero =>
     simp only[List.getElem?_cons_zero,Option.some.injEq]at h
     subst h
     exact⟨rfl,rfl,rfl⟩
   | succ i =>
     simp only[List.getElem?_cons_succ]at h
     have e:(i+1) * 3=i * 3+3:=by omega
     rw[e]
     exact ih i l h
def OM(S:RS)(n lo:Nat)(w:World)(oa ka ta:Option Addr)(oc kc tc:Nat):Prop :=
 ∃vs,w.ownsRow lo 56 7 (.slice ta (iK S.t).length tc) (iK S.t).length (dR (iK S.t))/\w.ownsRow lo 54 12 (.slice oa n oc) n (uf (ED S n))/\w.ownsRow lo 63 1 (.slice ka 4 kc) 4 vs/\∀k v,vs[k]?=some v->yO S lo w k v
theorem OM.aC{S:RS}{n lo:Nat}{w w':World}{oa ka ta:Option Addr}{oc kc tc:Nat}(h:OM S n lo w oa ka ta oc kc tc){K:Nat->Prop}(k:au K w w')(hK:∀b,K b->b<lo):OM S n lo w' oa ka ta oc kc tc:=by
 obtain⟨vs,h1,h2,h3,h4⟩:=h
 have no:∀b,lo<=b->¬K b:=fun b hb hk=>by have:=hK b hk;omega
 refine⟨vs,aG h1 k (fun b hb=>no b (rM h1 hb)),aG h2 k (fun b hb=>no b (rM h2 hb)),aG h3 k (fun b hb=>no b (rM h3 hb)),fun j v hv=>?_⟩
 obtain⟨ls,hb,hl⟩:=h4 j v hv
 refine⟨ls,hb,?_⟩
 rcases hl with h|⟨g,cap,cs,e,g1,g2,g3⟩
 ·exact .inl h
 ·exact .inr ⟨g,cap,cs,e,g1,k.aB g2 (no g g1),g3⟩
theorem OM.bg{S:RS}{n lo:Nat}{w:World}{oa ka ta:Option Addr}{oc kc tc:Nat}(h:OM S n lo w oa ka ta oc kc tc){i:Nat}(hi:i<n):∃g,oa=some ⟨g,0,none⟩/\∀j u,(oh (oS S i))[j]?=some u->w.cell? ⟨g,i * 12+j,none⟩=some u:=by
 obtain⟨vs,h1,h2,h3,h4⟩:=h
 obtain⟨g,e,hc⟩:=pK h2 (by omega)
 exact⟨g,e,fun j u hu=>hc _ _ (PD _ i (oS S i) j u (by simp[ED,hi]) hu)⟩
theorem OM.Za{S:RS}{n lo:Nat}{w:World}{oa ka ta:Option Addr}{oc kc tc:Nat}(h:OM S n lo w oa ka ta oc kc tc){j:Nat}(hj:j<4):∃g ls xa xc,ka=some ⟨g,0,none⟩/\yP S (EP (j / 2)) ((j % 2:Nat):Int) ls 0/\w.cell? ⟨g,j,none⟩=some (.slice xa ls.length xc)/\∀i l,ls[i]?=some l->∃y,xa=some ⟨y,0,none⟩/\w.cell? ⟨y,i * 3,none⟩=some (.int .i64 l.af)/\w.cell? ⟨y,i * 3+1,none⟩=some (.int .i64 l.aI)/\w.cell? ⟨y,i * 3+2,none⟩=some (.int .i64 l.num):=by
 obtain⟨vs,h1,h2,h3,h4⟩:=h
 obtain⟨g,e,hc⟩:=pK h3 (by omega)
 have hv:j<vs.length:=by have:=h3.1;omega
 obtain⟨ls,hb,hl⟩:=h4 j _ (List.getElem?_eq_getElem hv)
 obtain⟨xa,xc,ev⟩:=hl.form
 refine⟨g,ls,xa,xc,e,hb,by rw[<-ev];exact hc _ _ (List.getElem?_eq_getElem hv),fun i l hil=>?_⟩
 have hlo:=hl.owns
 rw[ev]at hlo
 have:=(List.getElem?_eq_some_iff.1 hil).1
 obtain⟨y,e2,hc2⟩:=pK hlo (by omega)
 obtain⟨a,b,c⟩:=Pz _ i l hil
 exact⟨y,e2,hc2 _ _ a,hc2 _ _ b,hc2 _ _ c⟩
theorem aat(S:RS)(n lo lo2:Nat)(w:World)(oa ka ta UB Ue ta2:Option Addr)(oc kc tc VN Nk SI:Nat)(h1:OM S n lo w oa ka ta oc kc tc)(h2:OM S n lo2 w UB Ue ta2 VN Nk SI)(hn:n<=1000)(tn:Nat)(htn:(iK S.t).length=tn)(ht:tn<=1000000) :
 Calls Tryz.prog 24 #[.agg #[.slice oa n oc,.slice ka 4 kc,.slice ta tn tc],.agg #[.slice UB n VN,.slice Ue 4 Nk,.slice ta2 tn SI]] w fun e w'=>e=.returned (.bool true)/\au aP w w':=by
 have Vf:Hid (∀W,au aP w W->Calls Tryz.prog 19 #[.slice ta tn tc,.slice ta2 tn SI] W fun e w'=>e=.returned (.bool true)/\au aP W w'):=fun W k=>by
  obtain⟨vs,a1,_⟩:=h1
  obtain⟨vs2,a2,_⟩:=h2
  have:=QU lo lo2 tc SI ta ta2 (iK S.t) W (aG a1 k (fun _ _ x=>x)) (aG a2 k (fun _ _ x=>x)) (by omega)
  rw[htn]at this
  exact this
 have HO:Hid (∀i,i<n->∃(o:Ord) (g g2:Nat),oa=some ⟨g,0,none⟩/\UB=some ⟨g2,0,none⟩/\(∀j u,(oh o)[j]?=some u->w.cell? ⟨g,i * 12+j,none⟩=some u)/\∀j u,(oh o)[j]?=some u->w.cell? ⟨g2,i * 12+j,none⟩=some u):=fun i hi=>by
  obtain⟨g,e1,c1⟩:=h1.bg hi
  obtain⟨g2,e2,c2⟩:=h2.bg hi
  exact⟨_,g,g2,e1,e2,c1,c2⟩
 have HB:Hid (∀j,j<4->∃(g g2 m:Nat) (xa X8:Option Addr) (xc Yv:Nat),ka=some ⟨g,0,none⟩/\Ue=some ⟨g2,0,none⟩/\m<=200/\w.cell? ⟨g,j,none⟩=some (.slice xa m xc)/\w.cell? ⟨g2,j,none⟩=some (.slice X8 m Yv)/\∀i,i<m->∃(l:jM) (y y2:Nat),xa=some ⟨y,0,none⟩/\X8=some ⟨y2,0,none⟩/\(w.cell? ⟨y,i * 3,none⟩=some (.int .i64 l.af)/\w.cell? ⟨y,i * 3+1,none⟩=some (.int .i64 l.aI)/\w.cell? ⟨y,i * 3+2,none⟩=some (.int .i64 l.num))/\w.cell? ⟨y2,i * 3,none⟩=some (.int .i64 l.af)/\w.cell? ⟨y2,i * 3+1,none⟩=some (.int .i64 l.aI)/\w.cell? ⟨y2,i * 3+2,none⟩=some (.int .i64 l.num)):=fun j hj=>by
  obtain⟨g,ls,xa,xc,e1,b1,c1,l1⟩:=h1.Za hj
  obtain⟨g2,ls2,X8,Yv,e2,b2,c2,l2⟩:=h2.Za hj
  obtain rfl:=b1.det b2
  have hm:ls.length<=200:=by
   rcases b1 with⟨e,_⟩|⟨e,_⟩|⟨_,_,_,_,h⟩
   ·exact absurd e (by decide)
   ·exact absurd e (by decide)
   ·exact h
  refine⟨g,g2,ls.length,xa,X8,xc,Yv,e1,e2,hm,c1,c2,fun i hi=>?_⟩
  obtain⟨y,f1,d1⟩:=l1 i _ (List.getElem?_eq_getElem hi)
  obtain⟨y2,f2,d2⟩:=l2 i _ (List.getElem?_eq_getElem hi)
  exact⟨_,y,y2,f1,f2,d1,d2⟩
 clear h1 h2 htn
 obtain⟨w1,hw1⟩:∃w1,w1=(w.alloc (.cells #[.slice oa n oc,.slice ka 4 kc,.slice ta tn tc] 47)).alloc (.cells #[.slice UB n VN,.slice Ue 4 Nk,.slice ta2 tn SI] 47):=⟨_,rfl⟩
 have k0:au aP w w1:=by rw[hw1];exact ((au.refl aP w).alloc _).alloc _
 have bA:az w1 w.heap.size #[.slice oa n oc,.slice ka 4 kc,.slice ta tn tc] 47:=by rw[hw1];exact (az.new w _ _).alloc _
 have bB:az w1 (w.heap.size+1) #[.slice UB n VN,.slice Ue 4 Nk,.slice ta2 tn SI] 47:=by rw[hw1];exact az.xy w _ _ _
 have HZ:Hid (∀W,au aP w1 W->W.cell? ⟨w.heap.size,0,none⟩=some (.slice oa n oc)/\W.cell? ⟨w.heap.size,1,none⟩=some (.slice ka 4 kc)/\W.cell? ⟨w.heap.size,2,none⟩=some (.slice ta tn tc)/\W.cell? ⟨w.heap.size+1,0,none⟩=some (.slice UB n VN)/\W.cell? ⟨w.heap.size+1,1,none⟩=some (.slice Ue 4 Nk)/\W.cell? ⟨w.heap.size+1,2,none⟩=some (.slice ta2 tn SI)):=fun W k =>
  ⟨(k.aB bA (fun x=>x)).cell 0,(k.aB bA (fun x=>x)).cell 1,(k.aB bA (fun x=>x)).cell 2,(k.aB bB (fun x=>x)).cell 0,(k.aB bB (fun x=>x)).cell 1,(k.aB bB (fun x=>x)).cell 2⟩
 have HW:=ai hw1
 have Yc:=ai k0
 clear bA bB hw1 k0
 go_enter Tryz.func24,Tryz.ntmps24
 go_wp2_with fail
 rw[<-ae HW]
 refine (ae Vf w1 (ae Yc)).mono ?_
 rintro e w2 ⟨rfl,k2⟩
 clear Vf
 obtain⟨z0,z1,z2,z3,z4,z5⟩:=ae HZ w2 k2
 have YC:=ai k2
 clear k2 HW
 go_wp2
 go_loopg [6] n (fun g iv wr=>∃i:Nat,iv=.int .i64 (i:Int)/\i<=n/\g=n-i/\au aP w1 wr)
 case atStart=>exact⟨0,rfl,Nat.zero_le _,rfl,ae YC⟩
 case round =>
  obtain⟨i,rfl,hi,hgk,Yk⟩:=hrel
  obtain⟨z0,z1,z2,z3,z4,z5⟩:=ae HZ wr Yk
  have kr:=(ae Yc).trans Yk
  by_cases hlt:i<n
  ·obtain⟨o,g1,g2,rfl,rfl,x1,x2⟩:=ae HO i hlt
   have p0:wr.cell? ⟨g1,i * 12,none⟩=some (.int .i64 o.id):=kr.cell (x1 0 _ rfl) (fun x=>x)
   have p1:wr.cell? ⟨g1,i * 12+1,none⟩=some (.int .i64 o.aA):=kr.cell (x1 1 _ rfl) (fun x=>x)
   have p2:wr.cell? ⟨g1,i * 12+2,none⟩=some (.string o.sym):=kr.cell (x1 2 _ rfl) (fun x=>x)
   have p3:wr.cell? ⟨g1,i * 12+3,none⟩=some (.int .i64 o.side):=kr.cell (x1 3 _ rfl) (fun x=>x)
   have p4:wr.cell? ⟨g1,i * 12+4,none⟩=some (.int .i64 o.kind):=kr.cell (x1 4 _ rfl) (fun x=>x)
   have p5:wr.cell? ⟨g1,i * 12+5,none⟩=some (.int .i64 o.af):=kr.cell (x1 5 _ rfl) (fun x=>x)
   have p6:wr.cell? ⟨g1,i * 12+6,none⟩=some (.int .i64 o.aI):=kr.cell (x1 6 _ rfl) (fun x=>x)
   have p7:wr.cell? ⟨g1,i * 12+7,none⟩=some (.int .i64 o.entered):=kr.cell (x1 7 _ rfl) (fun x=>x)
   have p8:wr.cell? ⟨g1,i * 12+8,none⟩=some (.int .i64 o.aK):=kr.cell (x1 8 _ rfl) (fun x=>x)
   have p9:wr.cell? ⟨g1,i * 12+9,none⟩=some (.int .i64 o.filled):=kr.cell (x1 9 _ rfl) (fun x=>x)
   have pa:wr.cell? ⟨g1,i * 12+10,none⟩=some (.int .i64 o.bQ):=kr.cell (x1 10 _ rfl) (fun x=>x)
   have pb:wr.cell? ⟨g1,i * 12+11,none⟩=some (.int .i64 o.exp):=kr.cell (x1 11 _ rfl) (fun x=>x)
   have q0:wr.cell? ⟨g2,i * 12,none⟩=some (.int .i64 o.id):=kr.cell (x2 0 _ rfl) (fun x=>x)
   have q1:wr.cell? ⟨g2,i * 12+1,none⟩=some (.int .i64 o.aA):=kr.cell (x2 1 _ rfl) (fun x=>x)
   have q2:wr.cell? ⟨g2,i * 12+2,none⟩=some (.string o.sym):=kr.cell (x2 2 _ rfl) (fun x=>x)
   have q3:wr.cell? ⟨g2,i * 12+3,none⟩=some (.int .i64 o.side):=kr.cell (x2 3 _ rfl) (fun x=>x)
   have q4:wr.cell? ⟨g2,i * 12+4,none⟩=some (.int .i64 o.kind):=kr.cell (x2 4 _ rfl) (fun x=>x)
   have q5:wr.cell? ⟨g2,i * 12+5,none⟩=some (.int .i64 o.af):=kr.cell (x2 5 _ rfl) (fun x=>x)
   have q6:wr.cell? ⟨g2,i * 12+6,none⟩=some (.int .i64 o.aI):=kr.cell (x2 6 _ rfl) (fun x=>x)
   have q7:wr.cell? ⟨g2,i * 12+7,none⟩=some (.int .i64 o.entered):=kr.cell (x2 7 _ rfl) (fun x=>x)
   have q8:wr.cell? ⟨g2,i * 12+8,none⟩=some (.int .i64 o.aK):=kr.cell (x2 8 _ rfl) (fun x=>x)
   have q9:wr.cell? ⟨g2,i * 12+9,none⟩=some (.int .i64 o.filled):=kr.cell (x2 9 _ rfl) (fun x=>x)
   have qa:wr.cell? ⟨g2,i * 12+10,none⟩=some (.int .i64 o.bQ):=kr.cell (x2 10 _ rfl) (fun x=>x)
   have qb:wr.cell? ⟨g2,i * 12+11,none⟩=some (.int .i64 o.exp):=kr.cell (x2 11 _ rfl) (fun x=>x)
   have HK:=ai Yk
   clear kr Yk x1 x2
   go_wp2
   go_quiet (fail)
   go_wp2
   go_roundg (n-(i+1))
   case measure=>omega
   case rel=>exact⟨i+1,by push_cast;rfl,by omega,rfl,(ae HK).drewN _⟩
  ·obtain rfl:i=n:=by omega
   have HK:=ai Yk
   clear kr Yk YC
   go_wp2
   go_loopg [7] 4 (fun g jv wq=>∃j:Nat,jv=.int .i64 (j:Int)/\j<=4/\g=4-j/\au aP w1 wq)
   case atStart=>exact⟨0,rfl,Nat.zero_le _,rfl,ae HK⟩
   case round =>
    obtain⟨j,rfl,hj,abj,Uh⟩:=hrel
    obtain⟨z0,z1,z2,z3,z4,z5⟩:=ae HZ wr Uh
    have kr2:=(ae Yc).trans Uh
    by_cases hj4:j<4
    ·obtain⟨g1,g2,m,xa,X8,xc,Yv,rfl,rfl,hm,c1,c2,hl⟩:=ae HB j hj4
     have d1:wr.cell? ⟨g1,j,none⟩=some (.slice xa m xc):=kr2.cell c1 (fun x=>x)
     have d2:wr.cell? ⟨g2,j,none⟩=some (.slice X8 m Yv):=kr2.cell c2 (fun x=>x)
     have i1:(j:Int)<4:=by omega
     have yS:=ai Uh
     have Og:=ai c1
     have HC2:=ai c2
     have HLv:=ai hl
     clear kr2 Uh c1 c2 hl
     go_wp2
     go_quiet (fail)
     go_wp2
     go_loopg [8] m (fun g lv wz=>∃l:Nat,lv=.int .i64 (l:Int)/\l<=m/\g=m-l/\au aP w1 wz)
     case atStart=>exact⟨0,rfl,Nat.zero_le _,rfl,(ae yS).drewN _⟩
     case round =>
      obtain⟨l,rfl,hl,abV,Nq⟩:=hrel
      obtain⟨z0,z1,z2,z3,z4,z5⟩:=ae HZ wr Nq
      have KY:=(ae Yc).trans Nq
      have d1:wr.cell? ⟨g1,j,none⟩=some (.slice xa m xc):=KY.cell (ae Og) (fun x=>x)
      have d2:wr.cell? ⟨g2,j,none⟩=some (.slice X8 m Yv):=KY.cell (ae HC2) (fun x=>x)
      by_cases hlm:l<m
      ·obtain⟨L,y,y2,rfl,rfl,⟨a1,a2,a3⟩,b1,b2,b3⟩:=ae HLv l hlm
       have p1:=KY.cell a1 (fun x=>x)
       have p2:=KY.cell a2 (fun x=>x)
       have p3:=KY.cell a3 (fun x=>x)
       have q1:=KY.cell b1 (fun x=>x)
       have q2:=KY.cell b2 (fun x=>x)
       have q3:=KY.cell b3 (fun x=>x)
       have l1:(l:Int)<(m:Int):=by omega
       have LP:=ai Nq
       clear KY Nq a1 a2 a3 b1 b2 b3
       go_wp2
       go_quiet (fail)
       go_wp2
       go_roundg (m-(l+1))
       case measure=>omega
       case rel=>exact⟨l+1,by push_cast;rfl,by omega,rfl,(ae LP).drewN _⟩
      ·obtain rfl:l=m:=by omega
       have LP:=ai Nq
       clear KY Nq
       go_wp2
       go_roundg (4-(j+1))
       case measure=>omega
       case rel=>exact⟨j+1,by push_cast;rfl,by omega,rfl,ae LP⟩
    ·obtain rfl:j=4:=by omega
     go_wp2
     go_ret
     exact⟨rfl,kr2⟩
def Rc.oH(r:Rc):Array Value:=#[.int .i64 r.num,.int .i64 r.kind,.int .i64 r.t.num,.string r.t.sym,.int .i64 r.t.af,.int .i64 r.t.aI,.int .i64 r.t.kZ,.int .i64 r.t.fM,.int .i64 r.t.day]
structure Fo(w wr:World)(H:Nat)(r:Rc)(oa:Option Addr)(oc:Nat)(L:List Tr):Prop where
 row:o7 wr w.heap.size oa oc L
 aB:az wr H r.oH 62
 oJ:au aP w wr
theorem Fo.dr{w wr:World}{H:Nat}{r:Rc}{oa:Option Addr}{oc:Nat}{L:List Tr}(h:Fo w wr H r oa oc L)(q:Nat):Fo w (wr.drewN q) H r oa oc L :=
 ⟨h.row.aC ((au.refl aP wr).drewN q) (fun _ _ x=>x),((au.refl aP wr).drewN q).aB h.aB (fun x=>x),h.oJ.drewN q⟩
theorem dL(t:Tr):dR [t]=t.cells:=by simp[dR]
theorem Fo.step{w W W':World}{H g oc:Nat}{r:Rc}{L:List Tr}(h:Fo w W H r (some ⟨g,0,none⟩) oc L)(hg:g<H)(hw:w.heap.size<=H)(k:au (fun b=>H<b) W W'):Fo w W' H r (some ⟨g,0,none⟩) oc L:=by
 refine⟨h.row.aC k ?_,k.aB h.aB (by omega),h.oJ.from (k.mono (fun b hb=>.inr (by omega)))⟩
 rintro b ⟨o,s,e⟩ hb
 injection e with e
 injection e with e
 omega
structure Nx(w W:World)(H:Nat)(r:Rc)(g oc:Nat)(L:List Tr)(v:Value)(k:Nat)(xs:List Value):Prop where
 fo:Fo w W H r (some ⟨g,0,none⟩) oc L
 own:W.ownsRow (H+1) 56 7 v k xs
theorem Nx.grow{w W W':World}{H g oc k k':Nat}{r:Rc}{L:List Tr}{v v':Value}{xs xs':List Value}(h:Nx w W H r g oc L v k xs)(hg:g<H)(hw:w.heap.size<=H)(gr:W.grownBy W' v.ownBlock)(own:W'.ownsRow (H+1) 56 7 v' k' xs'):Nx w W' H r g oc L v' k' xs' :=
 ⟨h.fo.step hg hw ((au.refl _ W).grown gr (fun k e=>.inl (by have:=rM h.own e;omega))),own⟩
theorem Nx.alloc{w W:World}{H g oc k:Nat}{r:Rc}{L:List Tr}{v:Value}{xs:List Value}(h:Nx w W H r g oc L v k xs)(hg:g<H)(hw:w.heap.size<=H)(o:Obj):Nx w (W.alloc o) H r g oc L v k xs :=
 ⟨h.fo.step hg hw ((au.refl _ W).alloc o),h.own.alloc o⟩
theorem Nx.dr{w W:World}{H g oc k:Nat}{r:Rc}{L:List Tr}{v:Value}{xs:List Value}(h:Nx w W H r g oc L v k xs)(q:Nat):Nx w (W.drewN q) H r g oc L v k xs :=
 ⟨h.fo.dr q,aG h.own ((au.refl aP W).drewN q) (fun _ _ x=>x)⟩
theorem Fo.nx{w W:World}{H g oc:Nat}{r:Rc}{L:List Tr}(h:Fo w W H r (some ⟨g,0,none⟩) oc L):Nx w W H r g oc L (.slice none 0 0) 0 []:=⟨h,World.ownsRow_nil _ _ _ _⟩
theorem Nx.le{w W:World}{H g oc k:Nat}{r:Rc}{L:List Tr}{v:Value}{xs:List Value}(h:Nx w W H r g oc L v k xs):H+1<=W.heap.size:=h.fo.aB.lt
theorem Nx.fin{w W:World}{H g oc k c:Nat}{a:Option Addr}{r:Rc}{L L':List Tr}{xs:List Value}(h:Nx w W H r g oc L (.slice a k c) k xs)(hw:w.heap.size<=H)(e:xs=dR L')(hk:L'.length=k):o7 W w.heap.size a c L':=by
 unfold o7
 rw[hk,<-e]
 exact xA h.own (by omega)
theorem Jm(b0 c:Nat)(a:Option Addr)(rs:List Rc)(ts:List Tr)(w:World)(hrow:w.ownsRow b0 62 9 (.slice a rs.length c) rs.length (iW rs))(hf:jT rs ts)(hlen:rs.length<=1000000) :
 Calls Tryz.prog 18 #[.slice a rs.length c] w fun e w'=>∃a' c',e=.returned (.tuple #[.slice a' ts.length c',.bool true])/\o7 w' w.heap.size a' c' ts/\au aP w w':=by
 obtain⟨F,F0,Fn,FS⟩:=hf.steps
 have HLn:=ai (NR F0 FS)
 obtain⟨n,hn⟩:∃n,rs.length=n:=⟨_,rfl⟩
 have HX:Hid (∀i,i<n->∃(g:Nat) (r:Rc),a=some ⟨g,0,none⟩/\lJ (F i) r (F (i+1))/\r.num=(i:Int)+1/\∀(j:Nat) (u:Value),r.cells[j]?=some u->w.cell? ⟨g,i * 9+j,none⟩=some u):=fun i hi=>by
  have hi':i<rs.length:=by omega
  obtain⟨g,e,hc⟩:=pK hrow (by omega)
  obtain⟨h1,h2⟩:=FS i _ (List.getElem?_eq_getElem hi')
  exact⟨g,_,e,h1,h2,fun j u hu=>hc _ _ (zu rs i _ j u (List.getElem?_eq_getElem hi') hu)⟩
 rw[hn]at hlen Fn HLn ⊢
 have HF0:=ai F0
 have HFn:=ai Fn
 have HFS:=ai FS
 clear hrow hn FS Fn F0 hf
 go_enter Tryz.func18,Tryz.ntmps18
 go_wp2
 go_loopg [4,5] n (fun k ov iv wr=>∃(i oc:Nat) (oa:Option Addr),ov=.slice oa (F i).length oc/\iv=.int .i64 (i:Int)/\i<=n/\k=n-i/\o7 wr w.heap.size oa oc (F i)/\au aP w wr)
 case atStart=>exact⟨0,0,none,by rw[ae HF0];rfl,rfl,Nat.zero_le _,rfl,by rw[ae HF0];exact World.ownsRow_nil _ _ _ _,au.refl _ _⟩
 case round =>
  obtain⟨wo,rfl⟩:∃wo,wo=wr:=⟨_,rfl⟩
  obtain⟨i,oc,oa,rfl,rfl,hi,hgk,hrow,kr⟩:=hrel
  by_cases hlt:i<n
  ·obtain⟨g0,r,rfl,hfo,hnum,hx⟩:=ae HX i hlt
   have hLi:=ae HLn i hi
   obtain⟨L,hL⟩:∃L,F i=L:=⟨_,rfl⟩
   rw[hL]at hfo hrow hLi
   rw[hL]
   obtain⟨m,hm⟩:∃m,L.length=m:=⟨_,rfl⟩
   have c0:wo.cell? ⟨g0,i * 9,none⟩=some (.int .i64 ((i:Int)+1)):=by rw[<-hnum];exact kr.cell (hx 0 _ rfl) (fun x=>x)
   have c1:wo.cell? ⟨g0,i * 9+1,none⟩=some (.int .i64 r.kind):=kr.cell (hx 1 _ rfl) (fun x=>x)
   have c2:wo.cell? ⟨g0,i * 9+2,none⟩=some (.int .i64 r.t.num):=kr.cell (hx 2 _ rfl) (fun x=>x)
   have c3:wo.cell? ⟨g0,i * 9+3,none⟩=some (.string r.t.sym):=kr.cell (hx 3 _ rfl) (fun x=>x)
   have c4:wo.cell? ⟨g0,i * 9+4,none⟩=some (.int .i64 r.t.af):=kr.cell (hx 4 _ rfl) (fun x=>x)
   have c5:wo.cell? ⟨g0,i * 9+5,none⟩=some (.int .i64 r.t.aI):=kr.cell (hx 5 _ rfl) (fun x=>x)
   have c6:wo.cell? ⟨g0,i * 9+6,none⟩=some (.int .i64 r.t.kZ):=kr.cell (hx 6 _ rfl) (fun x=>x)
   have c7:wo.cell? ⟨g0,i * 9+7,none⟩=some (.int .i64 r.t.fM):=kr.cell (hx 7 _ rfl) (fun x=>x)
   have c8:wo.cell? ⟨g0,i * 9+8,none⟩=some (.int .i64 r.t.day):=kr.cell (hx 8 _ rfl) (fun x=>x)
   have HR:=ai hrow
   have HK:=ai kr
   have HM:=ai hm
   have Tc:=ai hnum
   rw[hm]at hLi
   rw[hm]
   rcases hfo.Zh with⟨hk4,hab⟩|⟨na,st,hd⟩
   ·rw[hk4]at c1
    have HE:Hid (F (i+1)=L):=hab.symm
    clear hrow kr hx hfo hab hnum hm hL
    go_wp2
    go_roundg (n-(i+1))
    case measure=>omega
    case rel=>exact⟨i+1,oc,oa,by rw[ae HE,ae HM],by push_cast;rfl,by omega,rfl,by rw[ae HE];exact (ae HR).aC ((au.refl aP wo).alloc _) (fun _ _ x=>x),(ae HK).alloc _⟩
   ·obtain⟨L',hL'⟩:∃L',F (i+1)=L':=⟨_,rfl⟩
    rw[hL']at hd
    have HE:=ai hL'
    clear hx hfo hL' hL
    have hna:na<=m:=by rw[<-hm];exact st.le
    have Vf:=ai st
    have HT:Hid (∀{W:World},Fo w W wo.heap.size r oa oc L->∀j,j<m->∃g t,oa=some ⟨g,0,none⟩/\L[j]?=some t/\W.cell? ⟨g,j * 7,none⟩=some (.int .i64 t.num)):=fun fo j hj=>by
     have hj':j<L.length:=by omega
     obtain⟨g,e,hc⟩:=fo.row.at (List.getElem?_eq_getElem hj')
     exact⟨g,_,e,List.getElem?_eq_getElem hj',hc 0 _ rfl⟩
    have HD:=ai hd
    clear hm hd
    have Ff:Hid (∀u∈r.t.cells,u.oneCell'=true):=by simp[Hid,Tr.cells,Value.oneCell']
    rcases hrow.form with⟨rfl,rfl,rfl⟩|⟨g,rfl,hg,hcap⟩
    ·obtain rfl:m=0:=(ae HM).symm
     obtain rfl:na=0:=by omega
     obtain⟨i0,z0,hi0,hz0,hz1,hz2,hz3⟩:=qm
     have pX:w.heap.size<=wo.heap.size:=kr.size
     clear hrow kr
     cases ae HD with
     | wU hk ht=>simp at ht
     | iw hk t ht hn=>simp at ht
     | print hk ht =>
       rw[hk]at c1
       go_wp2
       clear c0 c1 c2 c3 c4 c5 c6 c7 c8
       go_loopg [7] 0 (fun k av wq=>av=.int .i64 0/\k=0/\Fo w wq wo.heap.size r none 0 [])
       case atStart =>
        refine⟨rfl,rfl,(ae HR).aC ((au.refl aP wo).alloc _) (fun _ _ x=>x),?_,(ae HK).alloc _⟩
        unfold Rc.oH
        rw[ae Tc,hk]
        exact az.new wo _ _
       case round =>
        obtain⟨rfl,hgj,fo⟩:=hrel
        have y1:wr.cell? ⟨wo.heap.size,1,none⟩=some (.int .i64 1):=by rw[<-hk];exact fo.aB.cell 1
        have y2:wr.cell? ⟨wo.heap.size,2,none⟩=some (.int .i64 r.t.num):=fo.aB.cell 2
        have y3:wr.cell? ⟨wo.heap.size,3,none⟩=some (.string r.t.sym):=fo.aB.cell 3
        have y4:wr.cell? ⟨wo.heap.size,4,none⟩=some (.int .i64 r.t.af):=fo.aB.cell 4
        have y5:wr.cell? ⟨wo.heap.size,5,none⟩=some (.int .i64 r.t.aI):=fo.aB.cell 5
        have y6:wr.cell? ⟨wo.heap.size,6,none⟩=some (.int .i64 r.t.kZ):=fo.aB.cell 6
        have y7:wr.cell? ⟨wo.heap.size,7,none⟩=some (.int .i64 r.t.fM):=fo.aB.cell 7
        have y8:wr.cell? ⟨wo.heap.size,8,none⟩=some (.int .i64 r.t.day):=fo.aB.cell 8
        have hwl:wo.heap.size<wr.heap.size:=fo.aB.lt
        have qR:=ai fo
        clear fo
        go_wp2
        go_quiet (fail)
        go_wp2
        go_quiet (fail)
        go_wp2_with (first|(at_builtin;refine wpList_append_own_none rfl _ _ 39 rfl (wo.heap.size+1) 56 i0 7 Tryz.underlying39 hi0 _ 1 _ rfl (ae YS) rfl ?_)|(at_builtin;refine wpList_append_own _ rfl _ _ 39 rfl (wo.heap.size+1) 56 i0 z0 7 64 Tryz.underlying39 hi0 hz0 hz1 hz2 hz3 (by decide) _ 0 [] rfl (World.ownsRow_nil _ _ _ _) ⟨wr.heap.size,0,none⟩ 1 1 r.t.cells rfl rfl (zW _ r.t) (ae Ff) (by decide) (by decide) (by simp;omega) ?_;intro v2 IK uy Bz Kw;clear Kw;rw[Nat.zero_add,List.nil_append]at uy;obtain⟨RV,RX,rfl⟩:=eF uy;have YS:=ai uy;have HG2:=ai Bz;clear uy Bz))
        go_roundg (n-(i+1))
        case measure=>omega
        case rel =>
         refine⟨i+1,RX,RV,(by rw[ae HE];rfl),by push_cast;rfl,by omega,rfl,?_,?_⟩
         ·rw[ae HE]
          show o7 IK w.heap.size RV RX [r.t]
          unfold o7
          rw[dL]
          exact xA (ae YS) (by omega)
         ·exact (((ae qR).oJ.drewN _).alloc _).grown (show World.grownBy _ IK none from ae HG2) (fun k e=>by cases e)
    ·have hcm:m<=oc:=by rw[<-ae HM];exact hcap
     have ui:g<wo.heap.size:=by
      obtain⟨cs,hb⟩:=bF hrow (b:=g) rfl
      exact hb.lt
     have pX:w.heap.size<=wo.heap.size:=kr.size
     have DF:Hid (∀p,p<=m->(dR (L.take p)).length=p * 7):=fun p hp=>by
      rw[Cm,List.length_take,ae HM,Nat.min_eq_left hp]
     have HL2:Hid (∀p,p<=m->(dR (L.drop p)).length=(m-p) * 7):=fun p hp=>by
      rw[Cm,List.length_drop,ae HM]
     obtain⟨i0,z0,hi0,hz0,hz1,hz2,hz3⟩:=qm
     clear hrow kr hg hcap
     cases ae HD with
     | print hk ht =>
       rw[hk]at c1
       go_wp2
       clear c0 c1 c2 c3 c4 c5 c6 c7 c8
       go_loopg [7] na (fun k av wq=>∃j:Nat,av=.int .i64 (j:Int)/\j<=na/\k=na-j/\Fo w wq wo.heap.size r (some ⟨g,0,none⟩) oc L)
       case atStart =>
        refine⟨0,rfl,Nat.zero_le _,rfl,(ae HR).aC ((au.refl aP wo).alloc _) (fun _ _ x=>x),?_,(ae HK).alloc _⟩
        unfold Rc.oH
        rw[ae Tc,hk]
        exact az.new wo _ _
       case round =>
        obtain⟨j,rfl,hj0,hgj,fo⟩:=hrel
        by_cases hj:j<na
        ·have hjm:j<m:=by omega
         obtain⟨g',t,e1,ht1,hc⟩:=ae HT fo j hjm
         obtain rfl:g=g':=by injection e1 with e1;injection e1
         have hlow:=(ae Vf).qH j t hj ht1
         have hd1:decide ((j:Int)<(m:Int))=true:=by simp;omega
         have hd2:decide (t.num<r.t.num)=true:=by simpa using hlow
         have rc:wr.cell? ⟨wo.heap.size,2,none⟩=some (.int .i64 r.t.num):=fo.aB.cell 2
         have qR:=ai fo
         clear fo ht1 hlow e1
         go_wp2
         go_quiet (fail)
         go_wp2
         go_roundg (na-(j+1))
         case measure=>omega
         case rel=>exact⟨j+1,by push_cast;rfl,by omega,rfl,(ae qR).dr _⟩
        ·obtain rfl:j=na:=by omega
         by_cases hjm:j<m
         ·obtain⟨g',t,e1,ht2,hc⟩:=ae HT fo j hjm
          obtain rfl:g=g':=by injection e1 with e1;injection e1
          have hlt2:=ht t ht2
          have hd1:decide ((j:Int)<(m:Int))=true:=by simp;omega
          have hd2:decide (t.num<r.t.num)=false:=by simp;omega
          have hd3:¬t.num=r.t.num:=by omega
          have hd4:decide (t.num=r.t.num)=false:=by simp;omega
          have hd5:(t.num == r.t.num)=false:=by simp;omega
          have rc:wr.cell? ⟨wo.heap.size,2,none⟩=some (.int .i64 r.t.num):=fo.aB.cell 2
          have hoc:¬oc=j:=by omega
          clear e1 ht2 hlt2
          have qR:=ai fo
          clear fo
          go_wp2
          go_quiet (fail)
          go_wp2
          go_quiet (fail)
          go_wp2_with (first|(at_builtin;refine wpList_append_own _ rfl _ _ 39 rfl (wo.heap.size+1) 56 i0 z0 7 64 Tryz.underlying39 hi0 hz0 hz1 hz2 hz3 (by decide) _ (j+1) (dR (L.take j)++r.t.cells) rfl (ae sZ).own ⟨g,(j) * 7,none⟩ (m-(j)) (oc-(j)) (dR (L.drop (j))) rfl (ae HL2 (j) (by omega)) ((ae sZ).fo.row.tail (j)) (jZ _) (by unfold maxLen;omega) (by omega) (ae sZ).le ?_;intro v3 U3 EU LM U2;clear U2;have EW:=ai (Nx.grow (ae sZ) ui pX LM EU);have v3y:U3.cell? ⟨wo.heap.size,1,none⟩=some (.int .i64 1):=(by rw[<-hk];exact (ae EW).fo.aB.cell 1);obtain⟨U0,U1,rfl⟩:=eF EU;clear EU LM)|(at_builtin;refine wpList_append_own _ rfl _ _ 39 rfl (wo.heap.size+1) 56 i0 z0 7 64 Tryz.underlying39 hi0 hz0 hz1 hz2 hz3 (by decide) _ (j) (dR (L.take j)) rfl ((ae jL).alloc ui pX _).own ⟨kV.heap.size,0,none⟩ (1) (1) (r.t.cells) rfl rfl (zW _ r.t) (ae Ff) (by unfold maxLen;omega) (by omega) ((ae jL).alloc ui pX _).le ?_;intro v2 IK uy Bz Kw;clear Kw;have sZ:=ai (Nx.grow ((ae jL).alloc ui pX _) ui pX Bz uy);have Yt:IK.cell? ⟨wo.heap.size,1,none⟩=some (.int .i64 1):=(by rw[<-hk];exact (ae sZ).fo.aB.cell 1);obtain⟨RV,RX,rfl⟩:=eF uy;clear uy Bz)|(at_builtin;refine wpList_append_own _ rfl _ _ 39 rfl (wo.heap.size+1) 56 i0 z0 7 64 Tryz.underlying39 hi0 hz0 hz1 hz2 hz3 (by decide) _ (0) ([]) rfl ((ae qR).dr _).nx.own ⟨g,0,none⟩ (j) (oc) (dR (L.take j)) rfl (ae DF j (by omega)) (((ae qR).dr _).row.head j) (jZ _) (by unfold maxLen;omega) (by omega) ((ae qR).dr _).nx.le ?_;intro v1 kV yM LK UQ;clear UQ;rw[Nat.zero_add,List.nil_append]at yM;have jL:=ai (Nx.grow ((ae qR).dr _).nx ui pX LK yM);have v1y:kV.cell? ⟨wo.heap.size,1,none⟩=some (.int .i64 1):=(by rw[<-hk];exact (ae jL).fo.aB.cell 1);have UR:kV.cell? ⟨wo.heap.size,2,none⟩=some (.int .i64 r.t.num):=(ae jL).fo.aB.cell 2;have UT:kV.cell? ⟨wo.heap.size,3,none⟩=some (.string r.t.sym):=(ae jL).fo.aB.cell 3;have UU:kV.cell? ⟨wo.heap.size,4,none⟩=some (.int .i64 r.t.af):=(ae jL).fo.aB.cell 4;have UW:kV.cell? ⟨wo.heap.size,5,none⟩=some (.int .i64 r.t.aI):=(ae jL).fo.aB.cell 5;have UX:kV.cell? ⟨wo.heap.size,6,none⟩=some (.int .i64 r.t.kZ):=(ae jL).fo.aB.cell 6;have UY:kV.cell? ⟨wo.heap.size,7,none⟩=some (.int .i64 r.t.fM):=(ae jL).fo.aB.cell 7;have UZ:kV.cell? ⟨wo.heap.size,8,none⟩=some (.int .i64 r.t.day):=(ae jL).fo.aB.cell 8;obtain⟨v1a,v1c,rfl⟩:=eF yM;clear yM LK))
          go_roundg (n-(i+1))
          case measure=>omega
          case rel =>
           have hl3:(L.take j++[r.t]++L.drop j).length=j+1+(m-j):=by
            simp only[List.length_append,List.length_take,List.length_drop,List.length_singleton,List.length_nil,ae HM]
            omega
           exact⟨i+1,U1,U0,(by rw[ae HE,hl3];try rfl),by push_cast;rfl,by omega,rfl,by rw[ae HE];exact (ae EW).fin pX (by first|(rw[bK,bK,dL];done)|simp[bK,dL]) hl3,(ae EW).fo.oJ⟩
         ·have hd1:decide ((j:Int)<(m:Int))=false:=by simp;omega
          have hmj:j=m:=by omega
          subst hmj
          by_cases hoc:oc=j
          ·have abv:=hoc.symm
           clear hoc
           subst abv
           have qR:=ai fo
           clear fo
           go_wp2
           go_quiet (fail)
           go_wp2
           go_quiet (fail)
           go_wp2_with (first|(at_builtin;refine wpList_append_own _ rfl _ _ 39 rfl (wo.heap.size+1) 56 i0 z0 7 64 Tryz.underlying39 hi0 hz0 hz1 hz2 hz3 (by decide) _ (j+1) (dR (L.take j)++r.t.cells) rfl (ae sZ).own ⟨g,0,none⟩ (0) (0) ([]) rfl rfl (fun j u h=>by simp at h) (fun u h=>by simp at h) (by unfold maxLen;omega) (by omega) (ae sZ).le ?_;intro v3 U3 EU LM U2;clear U2;have EW:=ai (Nx.grow (ae sZ) ui pX LM EU);have v3y:U3.cell? ⟨wo.heap.size,1,none⟩=some (.int .i64 1):=(by rw[<-hk];exact (ae EW).fo.aB.cell 1);obtain⟨U0,U1,rfl⟩:=eF EU;clear EU LM)|(at_builtin;refine wpList_append_own _ rfl _ _ 39 rfl (wo.heap.size+1) 56 i0 z0 7 64 Tryz.underlying39 hi0 hz0 hz1 hz2 hz3 (by decide) _ (j) (dR (L.take j)) rfl ((ae jL).alloc ui pX _).own ⟨kV.heap.size,0,none⟩ (1) (1) (r.t.cells) rfl rfl (zW _ r.t) (ae Ff) (by unfold maxLen;omega) (by omega) ((ae jL).alloc ui pX _).le ?_;intro v2 IK uy Bz Kw;clear Kw;have sZ:=ai (Nx.grow ((ae jL).alloc ui pX _) ui pX Bz uy);have Yt:IK.cell? ⟨wo.heap.size,1,none⟩=some (.int .i64 1):=(by rw[<-hk];exact (ae sZ).fo.aB.cell 1);obtain⟨RV,RX,rfl⟩:=eF uy;clear uy Bz)|(at_builtin;refine wpList_append_own _ rfl _ _ 39 rfl (wo.heap.size+1) 56 i0 z0 7 64 Tryz.underlying39 hi0 hz0 hz1 hz2 hz3 (by decide) _ (0) ([]) rfl ((ae qR).dr _).nx.own ⟨g,0,none⟩ (j) (j) (dR (L.take j)) rfl (ae DF j (by omega)) (((ae qR).dr _).row.head j) (jZ _) (by unfold maxLen;omega) (by omega) ((ae qR).dr _).nx.le ?_;intro v1 kV yM LK UQ;clear UQ;rw[Nat.zero_add,List.nil_append]at yM;have jL:=ai (Nx.grow ((ae qR).dr _).nx ui pX LK yM);have v1y:kV.cell? ⟨wo.heap.size,1,none⟩=some (.int .i64 1):=(by rw[<-hk];exact (ae jL).fo.aB.cell 1);have UR:kV.cell? ⟨wo.heap.size,2,none⟩=some (.int .i64 r.t.num):=(ae jL).fo.aB.cell 2;have UT:kV.cell? ⟨wo.heap.size,3,none⟩=some (.string r.t.sym):=(ae jL).fo.aB.cell 3;have UU:kV.cell? ⟨wo.heap.size,4,none⟩=some (.int .i64 r.t.af):=(ae jL).fo.aB.cell 4;have UW:kV.cell? ⟨wo.heap.size,5,none⟩=some (.int .i64 r.t.aI):=(ae jL).fo.aB.cell 5;have UX:kV.cell? ⟨wo.heap.size,6,none⟩=some (.int .i64 r.t.kZ):=(ae jL).fo.aB.cell 6;have UY:kV.cell? ⟨wo.heap.size,7,none⟩=some (.int .i64 r.t.fM):=(ae jL).fo.aB.cell 7;have UZ:kV.cell? ⟨wo.heap.size,8,none⟩=some (.int .i64 r.t.day):=(ae jL).fo.aB.cell 8;obtain⟨v1a,v1c,rfl⟩:=eF yM;clear yM LK))
           have hnl:L.drop (j)=[]:=List.drop_eq_nil_of_le (by rw[ae HM];omega)
           rw[hnl]at HE
           go_roundg (n-(i+1))
           case measure=>omega
           case rel =>
            have hl3:(L.take j++[r.t]++[]).length=j+1+0:=by
             simp only[List.length_append,List.length_take,List.length_drop,List.length_singleton,List.length_nil,ae HM]
             omega
            exact⟨i+1,U1,U0,(by rw[ae HE,hl3];try rfl),by push_cast;rfl,by omega,rfl,by rw[ae HE];exact (ae EW).fin pX (by first|(rw[bK,bK,dL];done)|simp[bK,dL]) hl3,(ae EW).fo.oJ⟩
          ·have qR:=ai fo
           clear fo
           go_wp2
           go_quiet (fail)
           go_wp2
           go_quiet (fail)
           go_wp2_with (first|(at_builtin;refine wpList_append_own _ rfl _ _ 39 rfl (wo.heap.size+1) 56 i0 z0 7 64 Tryz.underlying39 hi0 hz0 hz1 hz2 hz3 (by decide) _ (j+1) (dR (L.take j)++r.t.cells) rfl (ae sZ).own ⟨g,j * 7,none⟩ (0) (oc-j) ([]) rfl rfl (fun j u h=>by simp at h) (fun u h=>by simp at h) (by unfold maxLen;omega) (by omega) (ae sZ).le ?_;intro v3 U3 EU LM U2;clear U2;have EW:=ai (Nx.grow (ae sZ) ui pX LM EU);have v3y:U3.cell? ⟨wo.heap.size,1,none⟩=some (.int .i64 1):=(by rw[<-hk];exact (ae EW).fo.aB.cell 1);obtain⟨U0,U1,rfl⟩:=eF EU;clear EU LM)|(at_builtin;refine wpList_append_own _ rfl _ _ 39 rfl (wo.heap.size+1) 56 i0 z0 7 64 Tryz.underlying39 hi0 hz0 hz1 hz2 hz3 (by decide) _ (j) (dR (L.take j)) rfl ((ae jL).alloc ui pX _).own ⟨kV.heap.size,0,none⟩ (1) (1) (r.t.cells) rfl rfl (zW _ r.t) (ae Ff) (by unfold maxLen;omega) (by omega) ((ae jL).alloc ui pX _).le ?_;intro v2 IK uy Bz Kw;clear Kw;have sZ:=ai (Nx.grow ((ae jL).alloc ui pX _) ui pX Bz uy);have Yt:IK.cell? ⟨wo.heap.size,1,none⟩=some (.int .i64 1):=(by rw[<-hk];exact (ae sZ).fo.aB.cell 1);obtain⟨RV,RX,rfl⟩:=eF uy;clear uy Bz)|(at_builtin;refine wpList_append_own _ rfl _ _ 39 rfl (wo.heap.size+1) 56 i0 z0 7 64 Tryz.underlying39 hi0 hz0 hz1 hz2 hz3 (by decide) _ (0) ([]) rfl ((ae qR).dr _).nx.own ⟨g,0,none⟩ (j) (oc) (dR (L.take j)) rfl (ae DF j (by omega)) (((ae qR).dr _).row.head j) (jZ _) (by unfold maxLen;omega) (by omega) ((ae qR).dr _).nx.le ?_;intro v1 kV yM LK UQ;clear UQ;rw[Nat.zero_add,List.nil_append]at yM;have jL:=ai (Nx.grow ((ae qR).dr _).nx ui pX LK yM);have v1y:kV.cell? ⟨wo.heap.size,1,none⟩=some (.int .i64 1):=(by rw[<-hk];exact (ae jL).fo.aB.cell 1);have UR:kV.cell? ⟨wo.heap.size,2,none⟩=some (.int .i64 r.t.num):=(ae jL).fo.aB.cell 2;have UT:kV.cell? ⟨wo.heap.size,3,none⟩=some (.string r.t.sym):=(ae jL).fo.aB.cell 3;have UU:kV.cell? ⟨wo.heap.size,4,none⟩=some (.int .i64 r.t.af):=(ae jL).fo.aB.cell 4;have UW:kV.cell? ⟨wo.heap.size,5,none⟩=some (.int .i64 r.t.aI):=(ae jL).fo.aB.cell 5;have UX:kV.cell? ⟨wo.heap.size,6,none⟩=some (.int .i64 r.t.kZ):=(ae jL).fo.aB.cell 6;have UY:kV.cell? ⟨wo.heap.size,7,none⟩=some (.int .i64 r.t.fM):=(ae jL).fo.aB.cell 7;have UZ:kV.cell? ⟨wo.heap.size,8,none⟩=some (.int .i64 r.t.day):=(ae jL).fo.aB.cell 8;obtain⟨v1a,v1c,rfl⟩:=eF yM;clear yM LK))
           have hnl:L.drop (j)=[]:=List.drop_eq_nil_of_le (by rw[ae HM];omega)
           rw[hnl]at HE
           go_roundg (n-(i+1))
           case measure=>omega
           case rel =>
            have hl3:(L.take j++[r.t]++[]).length=j+1+0:=by
             simp only[List.length_append,List.length_take,List.length_drop,List.length_singleton,List.length_nil,ae HM]
             omega
            exact⟨i+1,U1,U0,(by rw[ae HE,hl3];try rfl),by push_cast;rfl,by omega,rfl,by rw[ae HE];exact (ae EW).fin pX (by first|(rw[bK,bK,dL];done)|simp[bK,dL]) hl3,(ae EW).fo.oJ⟩
     | wU hk ht =>
       rw[hk]at c1
       go_wp2
       clear c0 c1 c2 c3 c4 c5 c6 c7 c8
       go_loopg [7] na (fun k av wq=>∃j:Nat,av=.int .i64 (j:Int)/\j<=na/\k=na-j/\Fo w wq wo.heap.size r (some ⟨g,0,none⟩) oc L)
       case atStart =>
        refine⟨0,rfl,Nat.zero_le _,rfl,(ae HR).aC ((au.refl aP wo).alloc _) (fun _ _ x=>x),?_,(ae HK).alloc _⟩
        unfold Rc.oH
        rw[ae Tc,hk]
        exact az.new wo _ _
       case round =>
        obtain⟨j,rfl,hj0,hgj,fo⟩:=hrel
        by_cases hj:j<na
        ·have hjm:j<m:=by omega
         obtain⟨g',t,e1,ht1,hc⟩:=ae HT fo j hjm
         obtain rfl:g=g':=by injection e1 with e1;injection e1
         have hlow:=(ae Vf).qH j t hj ht1
         have hd1:decide ((j:Int)<(m:Int))=true:=by simp;omega
         have hd2:decide (t.num<r.t.num)=true:=by simpa using hlow
         have rc:wr.cell? ⟨wo.heap.size,2,none⟩=some (.int .i64 r.t.num):=fo.aB.cell 2
         have qR:=ai fo
         clear fo ht1 hlow e1
         go_wp2
         go_quiet (fail)
         go_wp2
         go_roundg (na-(j+1))
         case measure=>omega
         case rel=>exact⟨j+1,by push_cast;rfl,by omega,rfl,(ae qR).dr _⟩
        ·obtain rfl:j=na:=by omega
         have hjm:j<m:=by
          have:=(List.getElem?_eq_some_iff.1 ht).1
          rw[<-ae HM];exact this
         obtain⟨g',e1,hc'⟩:=fo.row.at ht
         obtain rfl:g=g':=by injection e1 with e1;injection e1
         have hd1:decide ((j:Int)<(m:Int))=true:=by simp;omega
         have hd2:decide (r.t.num<r.t.num)=false:=by simp
         have rc:wr.cell? ⟨wo.heap.size,2,none⟩=some (.int .i64 r.t.num):=fo.aB.cell 2
         have x0:wr.cell? ⟨g,j * 7,none⟩=some (.int .i64 r.t.num):=hc' 0 _ rfl
         have qR:=ai fo
         clear fo e1 hc'
         go_wp2
         go_quiet (fail)
         go_wp2
         go_quiet (fail)
         go_wp2_with (at_builtin;refine wpList_append_own _ rfl _ _ 39 rfl (wo.heap.size+1) 56 i0 z0 7 64 Tryz.underlying39 hi0 hz0 hz1 hz2 hz3 (by decide) _ (0) ([]) rfl ((ae qR).dr _).nx.own ⟨g,0,none⟩ (j) (oc) (dR (L.take j)) rfl (ae DF j (by omega)) (((ae qR).dr _).row.head j) (jZ _) (by unfold maxLen;omega) (by omega) ((ae qR).dr _).nx.le ?_;intro v1 kV yM LK UQ;clear UQ;rw[Nat.zero_add,List.nil_append]at yM;have jL:=ai (Nx.grow ((ae qR).dr _).nx ui pX LK yM);have v1y:kV.cell? ⟨wo.heap.size,1,none⟩=some (.int .i64 2):=(by rw[<-hk];exact (ae jL).fo.aB.cell 1);have UR:kV.cell? ⟨wo.heap.size,2,none⟩=some (.int .i64 r.t.num):=(ae jL).fo.aB.cell 2;have UT:kV.cell? ⟨wo.heap.size,3,none⟩=some (.string r.t.sym):=(ae jL).fo.aB.cell 3;have UU:kV.cell? ⟨wo.heap.size,4,none⟩=some (.int .i64 r.t.af):=(ae jL).fo.aB.cell 4;have UW:kV.cell? ⟨wo.heap.size,5,none⟩=some (.int .i64 r.t.aI):=(ae jL).fo.aB.cell 5;have UX:kV.cell? ⟨wo.heap.size,6,none⟩=some (.int .i64 r.t.kZ):=(ae jL).fo.aB.cell 6;have UY:kV.cell? ⟨wo.heap.size,7,none⟩=some (.int .i64 r.t.fM):=(ae jL).fo.aB.cell 7;have UZ:kV.cell? ⟨wo.heap.size,8,none⟩=some (.int .i64 r.t.day):=(ae jL).fo.aB.cell 8;obtain⟨v1a,v1c,rfl⟩:=eF yM;clear yM LK)
         obtain⟨g',e1,hc'⟩:=(ae jL).fo.row.at ht
         obtain rfl:g=g':=by injection e1 with e1;injection e1
         have x0:kV.cell? ⟨g,j * 7,none⟩=some (.int .i64 r.t.num):=hc' 0 _ rfl
         have x1:kV.cell? ⟨g,j * 7+1,none⟩=some (.string r.t.sym):=hc' 1 _ rfl
         have x2:kV.cell? ⟨g,j * 7+2,none⟩=some (.int .i64 r.t.af):=hc' 2 _ rfl
         have x3:kV.cell? ⟨g,j * 7+3,none⟩=some (.int .i64 r.t.aI):=hc' 3 _ rfl
         have x4:kV.cell? ⟨g,j * 7+4,none⟩=some (.int .i64 r.t.kZ):=hc' 4 _ rfl
         have x5:kV.cell? ⟨g,j * 7+5,none⟩=some (.int .i64 r.t.fM):=hc' 5 _ rfl
         have x6:kV.cell? ⟨g,j * 7+6,none⟩=some (.int .i64 r.t.day):=hc' 6 _ rfl
         clear hc' e1
         go_quiet (fail)
         by_cases hoc:oc=j+1
         ·obtain rfl:m=j+1:=by omega
          subst hoc
          go_wp2_with (at_builtin;refine wpList_append_own _ rfl _ _ 39 rfl (wo.heap.size+1) 56 i0 z0 7 64 Tryz.underlying39 hi0 hz0 hz1 hz2 hz3 (by decide) _ (j) (dR (L.take j)) rfl ((ae jL).dr _).own ⟨g,0,none⟩ (0) (0) ([]) rfl rfl (fun j u h=>by simp at h) (fun u h=>by simp at h) (by unfold maxLen;omega) (by omega) ((ae jL).dr _).le ?_;intro v2 IK uy Bz Kw;clear Kw;have sZ:=ai (Nx.grow ((ae jL).dr _) ui pX Bz uy);have Yt:IK.cell? ⟨wo.heap.size,1,none⟩=some (.int .i64 2):=(by rw[<-hk];exact (ae sZ).fo.aB.cell 1);obtain⟨RV,RX,rfl⟩:=eF uy;clear uy Bz)
          have hnl:L.drop (j+1)=[]:=List.drop_eq_nil_of_le (by rw[ae HM];omega)
          rw[hnl]at HE
          go_roundg (n-(i+1))
          case measure=>omega
          case rel =>
           have hl3:(L.take j++[]).length=j+0:=by
            simp only[List.length_append,List.length_take,List.length_drop,List.length_singleton,List.length_nil,ae HM]
            omega
           exact⟨i+1,RX,RV,(by rw[ae HE,hl3];try rfl),by push_cast;rfl,by omega,rfl,by rw[ae HE];exact (ae sZ).fin pX (by first|(rw[bK,bK,dL];done)|simp[bK,dL]) hl3,(ae sZ).fo.oJ⟩
         ·go_wp2_with (at_builtin;refine wpList_append_own _ rfl _ _ 39 rfl (wo.heap.size+1) 56 i0 z0 7 64 Tryz.underlying39 hi0 hz0 hz1 hz2 hz3 (by decide) _ (j) (dR (L.take j)) rfl ((ae jL).dr _).own ⟨g,(j+1) * 7,none⟩ (m-(j+1)) (oc-(j+1)) (dR (L.drop (j+1))) rfl (ae HL2 (j+1) (by omega)) (((ae jL).dr _).fo.row.tail (j+1)) (jZ _) (by unfold maxLen;omega) (by omega) ((ae jL).dr _).le ?_;intro v2 IK uy Bz Kw;clear Kw;have sZ:=ai (Nx.grow ((ae jL).dr _) ui pX Bz uy);have Yt:IK.cell? ⟨wo.heap.size,1,none⟩=some (.int .i64 2):=(by rw[<-hk];exact (ae sZ).fo.aB.cell 1);obtain⟨RV,RX,rfl⟩:=eF uy;clear uy Bz)
          go_roundg (n-(i+1))
          case measure=>omega
          case rel =>
           have hl3:(L.take j++L.drop (j+1)).length=j+(m-(j+1)):=by
            simp only[List.length_append,List.length_take,List.length_drop,List.length_singleton,List.length_nil,ae HM]
            omega
           exact⟨i+1,RX,RV,(by rw[ae HE,hl3];try rfl),by push_cast;rfl,by omega,rfl,by rw[ae HE];exact (ae sZ).fin pX (by first|(rw[bK,bK,dL];done)|simp[bK,dL]) hl3,(ae sZ).fo.oJ⟩
     | iw hk t ht hn =>
       rw[hk]at c1
       go_wp2
       clear c0 c1 c2 c3 c4 c5 c6 c7 c8
       go_loopg [7] na (fun k av wq=>∃j:Nat,av=.int .i64 (j:Int)/\j<=na/\k=na-j/\Fo w wq wo.heap.size r (some ⟨g,0,none⟩) oc L)
       case atStart =>
        refine⟨0,rfl,Nat.zero_le _,rfl,(ae HR).aC ((au.refl aP wo).alloc _) (fun _ _ x=>x),?_,(ae HK).alloc _⟩
        unfold Rc.oH
        rw[ae Tc,hk]
        exact az.new wo _ _
       case round =>
        obtain⟨j,rfl,hj0,hgj,fo⟩:=hrel
        by_cases hj:j<na
        ·have hjm:j<m:=by omega
         obtain⟨g',t,e1,ht1,hc⟩:=ae HT fo j hjm
         obtain rfl:g=g':=by injection e1 with e1;injection e1
         have hlow:=(ae Vf).qH j t hj ht1
         have hd1:decide ((j:Int)<(m:Int))=true:=by simp;omega
         have hd2:decide (t.num<r.t.num)=true:=by simpa using hlow
         have rc:wr.cell? ⟨wo.heap.size,2,none⟩=some (.int .i64 r.t.num):=fo.aB.cell 2
         have qR:=ai fo
         clear fo ht1 hlow e1
         go_wp2
         go_quiet (fail)
         go_wp2
         go_roundg (na-(j+1))
         case measure=>omega
         case rel=>exact⟨j+1,by push_cast;rfl,by omega,rfl,(ae qR).dr _⟩
        ·obtain rfl:j=na:=by omega
         have hjm:j<m:=by
          have:=(List.getElem?_eq_some_iff.1 ht).1
          rw[<-ae HM];exact this
         obtain⟨g',e1,hc'⟩:=fo.row.at ht
         obtain rfl:g=g':=by injection e1 with e1;injection e1
         have hd1:decide ((j:Int)<(m:Int))=true:=by simp;omega
         have hd2:decide (r.t.num<r.t.num)=false:=by simp
         have rc:wr.cell? ⟨wo.heap.size,2,none⟩=some (.int .i64 r.t.num):=fo.aB.cell 2
         have x0:wr.cell? ⟨g,j * 7,none⟩=some (.int .i64 r.t.num):=by rw[<-hn];exact hc' 0 _ rfl
         have qR:=ai fo
         clear fo e1 hc'
         go_wp2
         go_quiet (fail)
         go_wp2
         go_quiet (fail)
         go_wp2_with (at_builtin;refine wpList_append_own _ rfl _ _ 39 rfl (wo.heap.size+1) 56 i0 z0 7 64 Tryz.underlying39 hi0 hz0 hz1 hz2 hz3 (by decide) _ (0) ([]) rfl ((ae qR).dr _).nx.own ⟨g,0,none⟩ (j) (oc) (dR (L.take j)) rfl (ae DF j (by omega)) (((ae qR).dr _).row.head j) (jZ _) (by unfold maxLen;omega) (by omega) ((ae qR).dr _).nx.le ?_;intro v1 kV yM LK UQ;clear UQ;rw[Nat.zero_add,List.nil_append]at yM;have jL:=ai (Nx.grow ((ae qR).dr _).nx ui pX LK yM);have v1y:kV.cell? ⟨wo.heap.size,1,none⟩=some (.int .i64 3):=(by rw[<-hk];exact (ae jL).fo.aB.cell 1);have UR:kV.cell? ⟨wo.heap.size,2,none⟩=some (.int .i64 r.t.num):=(ae jL).fo.aB.cell 2;have UT:kV.cell? ⟨wo.heap.size,3,none⟩=some (.string r.t.sym):=(ae jL).fo.aB.cell 3;have UU:kV.cell? ⟨wo.heap.size,4,none⟩=some (.int .i64 r.t.af):=(ae jL).fo.aB.cell 4;have UW:kV.cell? ⟨wo.heap.size,5,none⟩=some (.int .i64 r.t.aI):=(ae jL).fo.aB.cell 5;have UX:kV.cell? ⟨wo.heap.size,6,none⟩=some (.int .i64 r.t.kZ):=(ae jL).fo.aB.cell 6;have UY:kV.cell? ⟨wo.heap.size,7,none⟩=some (.int .i64 r.t.fM):=(ae jL).fo.aB.cell 7;have UZ:kV.cell? ⟨wo.heap.size,8,none⟩=some (.int .i64 r.t.day):=(ae jL).fo.aB.cell 8;obtain⟨v1a,v1c,rfl⟩:=eF yM;clear yM LK)
         go_quiet (fail)
         by_cases hoc:oc=j+1
         ·obtain rfl:m=j+1:=by omega
          subst hoc
          go_wp2_with (first|(at_builtin;refine wpList_append_own _ rfl _ _ 39 rfl (wo.heap.size+1) 56 i0 z0 7 64 Tryz.underlying39 hi0 hz0 hz1 hz2 hz3 (by decide) _ (j+1) (dR (L.take j)++r.t.cells) rfl (ae sZ).own ⟨g,0,none⟩ (0) (0) ([]) rfl rfl (fun j u h=>by simp at h) (fun u h=>by simp at h) (by unfold maxLen;omega) (by omega) (ae sZ).le ?_;intro v3 U3 EU LM U2;clear U2;have EW:=ai (Nx.grow (ae sZ) ui pX LM EU);have v3y:U3.cell? ⟨wo.heap.size,1,none⟩=some (.int .i64 3):=(by rw[<-hk];exact (ae EW).fo.aB.cell 1);obtain⟨U0,U1,rfl⟩:=eF EU;clear EU LM)|(at_builtin;refine wpList_append_own _ rfl _ _ 39 rfl (wo.heap.size+1) 56 i0 z0 7 64 Tryz.underlying39 hi0 hz0 hz1 hz2 hz3 (by decide) _ (j) (dR (L.take j)) rfl (((ae jL).dr _).alloc ui pX _).own ⟨kV.heap.size,0,none⟩ (1) (1) (r.t.cells) rfl rfl (zW _ r.t) (ae Ff) (by unfold maxLen;omega) (by omega) (((ae jL).dr _).alloc ui pX _).le ?_;intro v2 IK uy Bz Kw;clear Kw;have sZ:=ai (Nx.grow (((ae jL).dr _).alloc ui pX _) ui pX Bz uy);have Yt:IK.cell? ⟨wo.heap.size,1,none⟩=some (.int .i64 3):=(by rw[<-hk];exact (ae sZ).fo.aB.cell 1);obtain⟨RV,RX,rfl⟩:=eF uy;clear uy Bz))
          have hnl:L.drop (j+1)=[]:=List.drop_eq_nil_of_le (by rw[ae HM];omega)
          rw[hnl]at HE
          go_roundg (n-(i+1))
          case measure=>omega
          case rel =>
           have hl3:(L.take j++[r.t]++[]).length=j+1+0:=by
            simp only[List.length_append,List.length_take,List.length_drop,List.length_singleton,List.length_nil,ae HM]
            omega
           exact⟨i+1,U1,U0,(by rw[ae HE,hl3];try rfl),by push_cast;rfl,by omega,rfl,by rw[ae HE];exact (ae EW).fin pX (by first|(rw[bK,bK,dL];done)|simp[bK,dL]) hl3,(ae EW).fo.oJ⟩
         ·go_wp2_with (first|(at_builtin;refine wpList_append_own _ rfl _ _ 39 rfl (wo.heap.size+1) 56 i0 z0 7 64 Tryz.underlying39 hi0 hz0 hz1 hz2 hz3 (by decide) _ (j+1) (dR (L.take j)++r.t.cells) rfl (ae sZ).own ⟨g,(j+1) * 7,none⟩ (m-(j+1)) (oc-(j+1)) (dR (L.drop (j+1))) rfl (ae HL2 (j+1) (by omega)) ((ae sZ).fo.row.tail (j+1)) (jZ _) (by unfold maxLen;omega) (by omega) (ae sZ).le ?_;intro v3 U3 EU LM U2;clear U2;have EW:=ai (Nx.grow (ae sZ) ui pX LM EU);have v3y:U3.cell? ⟨wo.heap.size,1,none⟩=some (.int .i64 3):=(by rw[<-hk];exact (ae EW).fo.aB.cell 1);obtain⟨U0,U1,rfl⟩:=eF EU;clear EU LM)|(at_builtin;refine wpList_append_own _ rfl _ _ 39 rfl (wo.heap.size+1) 56 i0 z0 7 64 Tryz.underlying39 hi0 hz0 hz1 hz2 hz3 (by decide) _ (j) (dR (L.take j)) rfl (((ae jL).dr _).alloc ui pX _).own ⟨kV.heap.size,0,none⟩ (1) (1) (r.t.cells) rfl rfl (zW _ r.t) (ae Ff) (by unfold maxLen;omega) (by omega) (((ae jL).dr _).alloc ui pX _).le ?_;intro v2 IK uy Bz Kw;clear Kw;have sZ:=ai (Nx.grow (((ae jL).dr _).alloc ui pX _) ui pX Bz uy);have Yt:IK.cell? ⟨wo.heap.size,1,none⟩=some (.int .i64 3):=(by rw[<-hk];exact (ae sZ).fo.aB.cell 1);obtain⟨RV,RX,rfl⟩:=eF uy;clear uy Bz))
          go_roundg (n-(i+1))
          case measure=>omega
          case rel =>
           have hl3:(L.take j++[r.t]++L.drop (j+1)).length=j+1+(m-(j+1)):=by
            simp only[List.length_append,List.length_take,List.length_drop,List.length_singleton,List.length_nil,ae HM]
            omega
           exact⟨i+1,U1,U0,(by rw[ae HE,hl3];try rfl),by push_cast;rfl,by omega,rfl,by rw[ae HE];exact (ae EW).fin pX (by first|(rw[bK,bK,dL];done)|simp[bK,dL]) hl3,(ae EW).fo.oJ⟩
  ·obtain rfl:i=n:=by omega
   have aaP:=ae HFn
   rw[aaP]at hrow ⊢
   go_wp2
   go_ret2
   exact⟨_,_,rfl,hrow,kr⟩
theorem au.old{K:Nat->Prop}{w w':World}(k:au K w w'):au (fun b=>K b/\b<w.heap.size) w w' :=
 ⟨k.os,k.tape,k.output,k.size,fun b hb hs=>k.block b hb (fun hK=>hs ⟨hK,hb⟩)⟩
theorem QN{D:Nat}{ao:Option Addr}{len cap:Nat}{zs:Nat->Int}{base:Nat}{Z:Nat->Prop}{w0:World}{P:Nat}{x:Kx}{n:Nat}{acts:Int}{w:World}{tn:Nat}(h:Pk D ao len cap zs base Z w0 P x n acts w)(hN:x.N<2000)(hn:n<=200)(htn:(iK x.S.t).length=tn) :
 Calls Tryz.prog 21 #[.pointer (some ⟨P,0,none⟩)] w fun e w'=>∃oa oc ka kc ta tc,e=.returned (.tuple #[.agg #[.slice oa n oc,.slice ka 4 kc,.slice ta tn tc],.bool true])/\OM x.S n w.heap.size w' oa ka ta oc kc tc/\au aP w w':=by
 refine (Nw x x.bv P n x.S acts w h.ok rfl rfl h.kn (by omega) hn h.eG).mono ?_
 rintro e w' ⟨oa,oc,ka,kc,ta,tc,vs,rfl,h1,h2,h3,h4,k⟩
 rw[htn]
 exact⟨oa,oc,ka,kc,ta,tc,rfl,⟨vs,h1,h2,h3,h4⟩,k⟩
theorem TS{x:Kx}{w:World}(h:nN w x):(iK x.S.t).length<=300 * x.N:=by
 have:=h.lu.uV
 rw[h.lu.tr]at this
 refine Nat.le_trans ?_ this
 unfold iK
 rw[List.length_map]
 exact List.length_filter_le _ _
def SK(b:Int)(i:Nat):Int:=if i=0 then b else if i=1 then b.tdiv 7 else if i=2 then b.tdiv 11 else if i=3 then b.tdiv 13 else if i=4 then b.tdiv 17 else if i=5 then b.tdiv 19 else if i=6 then b.tdiv 23 else b.tdiv 29
theorem RD{b k:Int}(h1:-9223372036854775808<=b)(h2:b<=9223372036854775807)(hk:0<k):-9223372036854775808<=b.tdiv k/\b.tdiv k<=9223372036854775807:=by
 rcases Int.le_total 0 b with h|h
 ·have e1:=Int.tdiv_nonneg h (Int.le_of_lt hk)
  have e2:=Int.tdiv_le_self k h
  omega
 ·have e:b.tdiv k = -((-b).tdiv k):=by rw[Int.neg_tdiv,Int.neg_neg]
  have e1:=Int.tdiv_nonneg (show 0<=-b by omega) (Int.le_of_lt hk)
  have e2:=Int.tdiv_le_self k (show 0<=-b by omega)
  omega
theorem aaJ{b:Int}(h1:-9223372036854775808<=b)(h2:b<=9223372036854775807)(i:Nat):-9223372036854775808<=SK b i/\SK b i<=9223372036854775807:=by
 unfold SK
 (repeat' split)
 ·exact⟨h1,h2⟩
 all_goals exact RD h1 h2 (by decide)
def Z2(a lo hi:Nat)(b:Nat):Prop:=b<a\/(lo<=b/\b<hi)
theorem Pk.Zg{D:Nat}{ao:Option Addr}{len cap:Nat}{zs:Nat->Int}{P:Nat}{x:Kx}{n:Nat}{acts:Int}{w wl wh wy:World}{b:Int}{A D2:Nat}(h:Pk D ao len cap zs w.heap.size (fun b=>b<w.heap.size) w P x n acts wl)(k1:au aP wl wh)(k2:au aP wh wy)(hA:wh.heap.size<=A)(hD:A<D2)
 (h1:-9223372036854775808<=b) (h2:b<=9223372036854775807)
 (bA:∀i,i<8->wy.cell? ⟨A,i,none⟩=some (.int .i64 (SK b i))) (bD:az wy D2 #[.slice (some ⟨A,0,none⟩) 8 8,.int .i64 0] 28):Pk D2 (some ⟨A,0,none⟩) 8 8 (SK b) (A+1) (Z2 w.heap.size wl.heap.size wh.heap.size) wh P x n acts wy:=by
 have hl:=h.eG.lt
 have s1:=k1.size
 have s2:=h.fr.size
 have hT:qJ<w.heap.size:=h.tb
 refine⟨(h.ok.aH k1).aH k2,h.kn,h.na,k2.aB (k1.aB h.eG (fun x=>x)) (fun x=>x),⟨⟨0,by omega,bD⟩,⟨fun i hi=>⟨A,0,rfl,by rw[Nat.zero_add];exact bA i hi⟩,fun i hi=>aaJ h1 h2 i,by omega⟩,fun _ a e=>?_,hD,(h.dc.Yr.aH k1).aH k2,by omega⟩,fun c hc=>⟨fun hz=>?_,fun _ a e=>?_⟩,⟨fun hz=>?_,fun _ a e=>?_⟩,fun hz=>?_,fun c hz=>?_,.inl hT,k2.bI⟩
 ·rw[<-Option.some.inj e];exact Nat.lt_succ_self _
 ·have h3:=(h.mD c hc).1
  have h4:=h.ok.lt hc
  rcases hz with hz|hz
  ·exact h3 hz
  ·omega
 ·have h4:=h.ok.lt hc
  rw[<-Option.some.inj e]
  show A≠c
  omega
 ·have h3:=h.pP.1
  rcases hz with hz|hz
  ·exact h3 hz
  ·omega
 ·rw[<-Option.some.inj e]
  show A≠P
  omega
 ·rcases hz with hz|hz <;> omega
 ·rcases hz with hz|hz <;> omega
structure Uk(Z:Nat->Prop)(w0:World)(P bv n:Nat)(A i:Nat)(T:List Rc)(x:Kx)(w:World):Prop where
 ok:nN w x
 Oj:x.bv=bv
 h:x.H.length+i=A
 hN:x.N<=300+i
 eG:az w P #[.pointer (some ⟨bv,0,none⟩),.int .i64 n,.int .i64 (A:Int)] 37
 mD:∀b,KF x b->¬Z b
 zl:∀b,Z b->b<w0.heap.size
 fr:au (fun b=>¬Z b) w0 w
 tp:∃Z,x.V.lg.tp=T++Z
section
variable {Z : Nat -> Prop} {w0 : World} {P bv n : Nat} {A i : Nat} {T : List Rc} {x : Kx} {w w' : World}
theorem Uk.bG(h:Uk Z w0 P bv n A i T x w)(k:au aP w w'):Uk Z w0 P bv n A i T x w' :=
 ⟨h.ok.aH k,h.Oj,h.h,h.hN,k.aB h.eG (fun x=>x),h.mD,h.zl,h.fr.trans k.bI,h.tp⟩
theorem Uk.X6(h:Uk Z w0 P bv n A i T x w)(hi:i<A)(hA:A<=1000):Calls Tryz.prog 23 #[.pointer (some ⟨bv,0,none⟩)] w fun e w'=>e=.returned (.int .i64 0)/\∃x',Uk Z w0 P bv n A (i+1) T x' w':=by
 have hl:=h.h
 rcases vK x.H with h0|⟨H,⟨nt,S⟩,h0⟩
 ·rw[h0]at hl;simp at hl;omega
 ·rw[<-h.Oj]
  refine (Qi h.ok (by have:=h.hN;omega) h0).mono ?_
  rintro e w' ⟨rfl,x',ok',k,f,e1,e2,⟨Z1,e3⟩,e4⟩
  obtain⟨Z0,hZ⟩:=h.tp
  have nfP:¬KF x P:=h.ok.off h.eG (by decide)
  refine⟨rfl,x',ok',e1,?_,by have:=h.hN;omega,k.aB (by rw[h.Oj];exact h.eG) nfP,fun b hb=>?_,h.zl,h.fr.trans (k.mono (fun b hb=>h.mD b hb)),⟨Z0++Z1,by rw[e3,hZ,List.append_assoc]⟩⟩
  ·rw[h0,List.length_append]at hl
   rw[e4]
   simp at hl
   omega
  ·rcases f b hb with hx|hx
   ·exact h.mD b hx
   ·intro hz
    have:=h.zl b hz
    have:=h.fr.size
    omega
end
theorem Pk.uk{D:Nat}{ao:Option Addr}{len cap:Nat}{zs:Nat->Int}{base:Nat}{Z:Nat->Prop}{w0:World}{P:Nat}{x:Kx}{n:Nat}{acts:Int}{w:World}{A:Nat}{T:List Rc}(h:Pk D ao len cap zs base Z w0 P x n acts w)(hA:acts=(A:Int))(hN:x.N<=300)(hT:∃Z,x.V.lg.tp=T++Z):Uk Z w0 P x.bv n A 0 T x w:=by
 subst hA
 refine⟨h.ok,rfl,?_,by omega,h.eG,fun b hb=>(h.mD b hb).1,h.zl,h.fr,hT⟩
 have:=h.na
 omega
theorem Uk.empty{Z:Nat->Prop}{w0:World}{P bv n A:Nat}{T:List Rc}{x:Kx}{w:World}(h:Uk Z w0 P bv n A A T x w):x.H=[]/\x.S=RS.none:=by
 have h0:x.H=[]:=List.length_eq_zero_iff.1 (by have:=h.h;omega)
 exact⟨h0,by unfold Kx.S;rw[h0];rfl⟩
theorem Lr{w:World}{base n c:Nat}{a:Option Addr}{R:List Rc}(h:w.ownsRow base 62 9 (.slice a n c) n (iW R))(hn:R.length=n){i:Nat}{x:Rc}(hi:R[i]?=some x):∃g,a=some ⟨g,0,none⟩/\g<w.heap.size/\∀j u,x.cells[j]?=some u->w.cell? ⟨g,i * 9+j,none⟩=some u:=by
 have hlt:=(List.getElem?_eq_some_iff.1 hi).1
 obtain⟨g,e,hc⟩:=pK h (by omega)
 have h0:=fun j u hu=>hc _ _ (zu R i x j u hi hu)
 exact⟨g,e,World.block_lt_of_cell? w _ (h0 0 _ rfl),h0⟩
def wP(w wl wh:World)(A D2:Nat)(b:Int)(P:Nat)(x:Kx)(n:Nat)(acts:Int)(T:List Rc)(W:World):Prop :=
 ∃x2,x2.H=x.H/\x2.bv=x.bv/\x2.N<=124/\(∃Y,x2.V.lg.tp=T++Y)/\Pk D2 (some ⟨A,0,none⟩) 8 8 (SK b) (A+1) (Z2 w.heap.size wl.heap.size wh.heap.size) wh P x2 n acts W
section
variable {w wl wh : World} {A D2 : Nat} {b : Int} {P : Nat} {x x' : Kx} {n n' : Nat} {acts jO : Int} {W W1 W2 : World} {T : List Rc}
theorem MQ(h:Pk D2 (some ⟨A,0,none⟩) 8 8 (SK b) (A+1) (Z2 w.heap.size wl.heap.size wh.heap.size) wh P x' n' jO W)(hs:Oi x x')(hN:x.N<=122)(hT:x.V.lg.tp=T)(kn:Kn x.S n)(na:acts=(x.H.length:Int))(hH:x'.H=x.H)
 (hb:az W2 P #[.pointer (some ⟨x.bv,0,none⟩),.int .i64 n,.int .i64 acts] 37) (k:au (fun y=>y=P) W W2):wP w wl wh A D2 b P x n acts T W2:=by
 obtain⟨_,e1,e2,Y,e3⟩:=hs
 refine⟨x',hH,e1,by omega,⟨Y,by rw[e3,hT]⟩,?_⟩
 have eS:x'.S=x.S:=by unfold Kx.S;rw[hH]
 exact Pk.count h h.ok (by rw[eS];exact kn) (by rw[hH];exact na) ⟨_,_,h.eG⟩ h.dc h.mD h.fr (by rw[e1];exact hb) k
theorem MR(h:Pk D2 (some ⟨A,0,none⟩) 8 8 (SK b) (A+1) (Z2 w.heap.size wl.heap.size wh.heap.size) wh P x' n' jO W)(hs:Oi x x')(hN:x.N<=122)(hT:x.V.lg.tp=T)(kn:Kn x.S n)(na:acts=(x.H.length:Int))(hn:KN x' W W1 (fun x2=>x2.H=x.H)) :
 az W1 P #[.pointer (some ⟨x.bv,0,none⟩),.int .i64 n',.int .i64 jO] 37/\∀W2,az W2 P #[.pointer (some ⟨x.bv,0,none⟩),.int .i64 n,.int .i64 acts] 37->au (fun y=>y=P) W1 W2->wP w wl wh A D2 b P x n acts T W2:=by
 obtain⟨_,e1,e2,Y,e3⟩:=hs
 obtain⟨x2,ok2,pl,dc,ft,fr,eb,eN,⟨Y2,eZ⟩,eH⟩:=h.next hn
 refine⟨by rw[<-e1];exact pl,fun W2 hb k=>⟨x2,eH,by rw[eb,e1],by omega,⟨Y++Y2,by rw[eZ,e3,hT,List.append_assoc]⟩,?_⟩⟩
 have eS:x2.S=x.S:=by unfold Kx.S;rw[eH]
 exact Pk.count h ok2 (by rw[eS];exact kn) (by rw[eH];exact na) ⟨_,_,by rw[eb];exact pl⟩ dc ft fr (by rw[eb,e1];exact hb) k
theorem wP.bG(h:wP w wl wh A D2 b P x n acts T W)(k:au aP W W2):wP w wl wh A D2 b P x n acts T W2:=by
 obtain⟨x2,h1,h2,h3,h4,h5⟩:=h
 exact⟨x2,h1,h2,h3,h4,h5.bG k⟩
theorem wP.looks{tn:Nat}(h:wP w wl wh A D2 b P x n acts T W)(hn:n<=200)(htn:(iK x.S.t).length=tn) :
 Calls Tryz.prog 21 #[.pointer (some ⟨P,0,none⟩)] W fun e w'=>∃oa oc ka kc ta tc,e=.returned (.tuple #[.agg #[.slice oa n oc,.slice ka 4 kc,.slice ta tn tc],.bool true])/\OM x.S n W.heap.size w' oa ka ta oc kc tc/\au aP W w':=by
 obtain⟨x2,h1,h2,h3,h4,h5⟩:=h
 have eS:x2.S=x.S:=by unfold Kx.S;rw[h1]
 have:=QN (tn:=tn) h5 (by omega) hn (by rw[eS];exact htn)
 rw[eS]at this
 exact this
theorem wP.still(h:wP w wl wh A D2 b P x n acts T W)(hl:w.heap.size<=wl.heap.size):au (fun b=>b<wl.heap.size) wh W:=by
 obtain⟨x2,h1,h2,h3,h4,h5⟩:=h
 refine h5.fr.old.mono (fun c hc=>?_)
 obtain⟨h6,h7⟩:=hc
 apply Classical.byContradiction
 intro h8
 exact h6 (.inr ⟨by omega,h7⟩)
theorem wP.uk(h:wP w wl wh A D2 b P x n acts T W)(na:acts=(x.H.length:Int)):∃x2,Uk (Z2 w.heap.size wl.heap.size wh.heap.size) wh P x.bv n x.H.length 0 T x2 W:=by
 obtain⟨x2,h1,h2,h3,h4,h5⟩:=h
 refine⟨x2,?_⟩
 rw[<-h2]
 exact h5.uk na (by omega) h4
end
def Ul(Z:Nat->Prop)(w0:World)(P bv n A i:Nat)(T:List Rc)(w:World):Prop:=∃x,Uk Z w0 P bv n A i T x w
section
variable {Z : Nat -> Prop} {w0 : World} {P bv n : Nat} {A i : Nat} {T : List Rc} {w w' : World}
theorem Ul.bG(h:Ul Z w0 P bv n A i T w)(k:au aP w w'):Ul Z w0 P bv n A i T w':=by
 obtain⟨x,h⟩:=h
 exact⟨x,h.bG k⟩
theorem Ul.eG(h:Ul Z w0 P bv n A i T w):az w P #[.pointer (some ⟨bv,0,none⟩),.int .i64 n,.int .i64 (A:Int)] 37:=by
 obtain⟨x,h⟩:=h
 exact h.eG
theorem Ul.X6(h:Ul Z w0 P bv n A i T w)(hi:i<A)(hA:A<=1000):Calls Tryz.prog 23 #[.pointer (some ⟨bv,0,none⟩)] w fun e w'=>e=.returned (.int .i64 0)/\Ul Z w0 P bv n A (i+1) T w':=by
 obtain⟨x,h⟩:=h
 exact Uk.X6 h hi hA
theorem Ul.still(h:Ul Z w0 P bv n A i T w):au (fun b=>¬Z b) w0 w:=by
 obtain⟨x,h⟩:=h
 exact h.fr
theorem Ul.aaG(h:Ul Z w0 P bv n A A T w):Calls Tryz.prog 23 #[.pointer (some ⟨bv,0,none⟩)] w fun e w'=>e=.returned (.int .i64 12)/\au aP w w':=by
 obtain⟨x,h⟩:=h
 have:=Gh h.ok h.empty.1
 rw[h.Oj]at this
 exact this
theorem Ul.tape(h:Ul Z w0 P bv n A A T w)(hA:A<=1000):∃m,T.length<=m/\m<=1000000/\Calls Tryz.prog 17 #[.pointer (some ⟨bv,0,none⟩),.int .i64 0] w fun e w'=>∃a c R,e=.returned (.slice a m c)/\R.length=m/\(∃Y,R=T++Y)/\jT R []/\w'.ownsRow w.heap.size 62 9 (.slice a m c) m (iW R)/\au aP w w':=by
 obtain⟨x,h⟩:=h
 obtain⟨Y,hY⟩:=h.tp
 have hN:=h.hN
 have yE:=h.ok.lu.yE
 have ht:=h.ok.told.Jl
 rw[h.ok.lu.tr,h.empty.2]at ht
 refine⟨x.V.lg.tp.length,by rw[hY,List.length_append];omega,by omega,?_⟩
 have hc:=Ju h.ok (by omega)
 rw[h.Oj]at hc
 refine hc.mono ?_
 rintro e w' ⟨a,c,rfl,hr,k⟩
 exact⟨a,c,_,rfl,rfl,⟨Y,hY⟩,ht,hr,k⟩
theorem Ul.oV(h:Ul Z w0 P bv n A A T w)(hA:A<=1000):Calls Tryz.prog 20 #[.pointer (some ⟨bv,0,none⟩)] w fun e w'=>∃a c,e=.returned (.slice a 0 c)/\au aP w w':=by
 obtain⟨x,h⟩:=h
 have hN:=h.hN
 have uV:=h.ok.lu.uV
 have hc:=Bv x.bv x.bm x.bo x.V.lg x.V.lm w h.ok.jE.aO h.ok.sz.sy (by omega)
 rw[h.Oj]at hc
 refine hc.mono ?_
 rintro e w' ⟨a,c,rfl,hr,k⟩
 rw[h.ok.lu.tr,h.empty.2]
 exact⟨a,c,rfl,k⟩
theorem Ul.aW(h:Ul Z w0 P bv n A A T w):Calls Tryz.prog 25 #[.pointer (some ⟨bv,0,none⟩),.string ⟨#[65]⟩,.int .i64 0] w fun e w'=>e=.returned (.tuple #[.slice none 0 0,.int .i64 6])/\au aP w w':=by
 obtain⟨x,h⟩:=h
 have hc:=zI h.ok ⟨#[65]⟩ 0 (by decide) (by rw[h.empty.2];rfl)
 rw[h.Oj]at hc
 exact hc
theorem Ul.status(h:Ul Z w0 P bv n A A T w):Calls Tryz.prog 26 #[.pointer (some ⟨bv,0,none⟩),.int .i64 1] w fun e w'=>e=.returned (.tuple #[.agg jD,.int .i64 6])/\au aP w w':=by
 obtain⟨x,h⟩:=h
 have hc:=um h.ok (id:=1) (by decide) (by rw[h.empty.2];rfl)
 rw[h.Oj]at hc
 exact hc
theorem Ul.oG(h:Ul Z w0 P bv n A A T w)(hA:A<=1000):Calls Tryz.prog 27 #[.pointer (some ⟨bv,0,none⟩),.string ⟨#[65]⟩] w fun e w'=>e=.returned (.int .i64 0)/\au (fun b=>¬Z b) w0 w':=by
 obtain⟨x,h⟩:=h
 have hN:=h.hN
 refine (xe h.ok h.Oj (by omega) (by decide) (by rw[h.empty.2];exact lE2)).mono ?_
 rintro e w' ⟨rfl,x',ok',k,f,_⟩
 exact⟨rfl,h.fr.trans (k.mono (fun b hb=>h.mD b hb))⟩
end
theorem Kv(ao:Option Addr)(len cap:Nat)(zs:Nat->Int)(b:Int)(w:World)(hT:oC w)(hcode:Code w ao len zs)(hold:0<len->∀a,ao=some a->a.block<w.heap.size)(hb1:-9223372036854775808<=b)(hb2:b<=9223372036854775807) :
 Calls Tryz.prog 11 #[.slice ao len cap,.int .i64 b] w fun e w'=>e=.returned (.bool true)/\Below w.heap.size w w':=by
 have HPd:Hid (Calls Tryz.prog 22 #[.pointer (some ⟨w.heap.size,0,none⟩),.bool true] (w.alloc (.cells #[.slice ao len cap,.int .i64 0] 28)) fun e w'=>∃P i,e=.returned (.pointer (some ⟨P,0,none⟩))/\i<=120/\yV w.heap.size ao len cap zs w P i w'):=by
  have k0:au aP w (w.alloc (.cells #[.slice ao len cap,.int .i64 0] 28)):=(au.refl aP w).alloc _
  exact UF w.heap.size ao len cap zs w _ ⟨⟨0,Nat.zero_le _,az.new w _ _⟩,hcode.at k0 (fun _ _ _ x=>x),hold,Nat.le_refl _,hT.aH k0,hT.lt⟩ k0
 have HB:=ai (And.intro hb1 hb2)
 clear hT hcode hold hb1 hb2
 go_enter Tryz.func11,Tryz.ntmps11
 go_wp2_with fail
 refine (ae HPd).mono ?_
 rintro e wl ⟨P,i,rfl,hi,x,n,acts,hn,hN,hp⟩
 have hn2:n<=120:=by omega
 have Om:x.N<=122:=by omega
 clear HPd hi hn hN
 obtain⟨tn,htn⟩:∃tn,(iK x.S.t).length=tn:=⟨_,rfl⟩
 have htb:tn<=1000000:=by have:=TS hp.ok;omega
 have hsl:w.heap.size<=wl.heap.size:=hp.fr.size
 have HSl:=ai hsl
 have HTn:=ai htn
 have HP:=ai hp
 have VZ:=ai hp.kn
 have V9:=ai hp.na
 clear hp htn hsl
 go_wp2_with fail
 refine (QN (ae HP) (by omega) (by omega) (ae HTn)).mono ?_
 rintro e w2 ⟨oa,oc,ka,kc,ta,tc,rfl,ZQ,k2⟩
 have hp2:=(ae HP).bG k2
 have p0:w2.cell? ⟨P,0,none⟩=some (.pointer (some ⟨x.bv,0,none⟩)):=hp2.eG.cell 0
 have p1:w2.cell? ⟨P,1,none⟩=some (.int .i64 (n:Int)):=hp2.eG.cell 1
 have pl2:P<w2.heap.size:=hp2.eG.lt
 obtain⟨T,hT⟩:∃T,x.V.lg.tp=T:=⟨_,rfl⟩
 obtain⟨L,hL⟩:∃L,T.length=L:=⟨_,rfl⟩
 have hLb:L<=1000000:=by have:=hp2.ok.lu.yE;rw[hT,hL]at this;omega
 have HP2:=ai hp2
 have HTt:Hid (∀W,au aP w2 W->Calls Tryz.prog 17 #[.pointer (some ⟨x.bv,0,none⟩),.int .i64 0] W fun e w'=>∃a c,e=.returned (.slice a L c)/\w'.ownsRow W.heap.size 62 9 (.slice a L c) L (iW T)/\au aP W w'):=fun W k=>by
  have:=Ju ((ae HP2).bG k).ok (by omega)
  rw[hT,hL]at this
  exact this
 have aaT:=ai ZQ
 have yS:=ai k2
 have HT:=ai hT
 have HL:=ai hL
 clear hp2 ZQ k2 hT hL
 go_wp2_with fail
 refine (ae HTt _ (by repeat (first|exact au.refl _ _|refine au.drew ?_|refine au.alloc ?_ _))).mono ?_
 rintro e wh ⟨pa,pc,rfl,hrow,kh⟩
 have kwh:au aP w2 wh:=au.trans (by repeat (first|exact au.refl _ _|refine au.drew ?_|refine au.alloc ?_ _)) kh
 have hp3:=(ae HP2).bG kwh
 have p0:wh.cell? ⟨P,0,none⟩=some (.pointer (some ⟨x.bv,0,none⟩)):=hp3.eG.cell 0
 have p2:wh.cell? ⟨P,2,none⟩=some (.int .i64 acts):=hp3.eG.cell 2
 have HBB:Hid (az wh w2.heap.size #[.slice oa n oc,.slice ka 4 kc,.slice ta tn tc] 47):=kh.aB (az.new w2 _ _) (fun x=>x)
 have IQ:Hid (∃B,wl.heap.size<=B/\wh.ownsRow B 62 9 (.slice pa L pc) L (iW T)):=⟨_,Nat.le_trans (ae yS).size (by simp),hrow⟩
 have HKh:=ai kwh
 have HPy:Hid (∀Wy,au aP wh Wy->(∀i,i<8->Wy.cell? ⟨wh.heap.size,i,none⟩=some (.int .i64 (SK b i)))->az Wy (wh.heap.size+1) #[.slice (some ⟨wh.heap.size,0,none⟩) 8 8,.int .i64 0] 28->Pk (wh.heap.size+1) (some ⟨wh.heap.size,0,none⟩) 8 8 (SK b) (wh.heap.size+1) (Z2 w.heap.size wl.heap.size wh.heap.size) wh P x n acts Wy):=fun Wy k hA hD =>
  Pk.Zg (ae HP) ((ae yS).trans kwh) k (Nat.le_refl _) (Nat.lt_succ_self _) (ae HB).1 (ae HB).2 hA hD
 clear kwh hp3 kh hrow p1 HTt HP2
 go_wp2_with fail
 have VA:∀k:Int,0<k->some (Value.int .i64 (wrap64 (b.tdiv k)))=some (Value.int .i64 (b.tdiv k)):=fun k hk=>by
  have:=RD (ae HB).1 (ae HB).2 hk
  rw[aS (by omega) (by omega)]
 obtain⟨wy,hwy⟩:∃wy,wy=(wh.alloc (.cells #[.int .i64 b,.int .i64 (wrap64 (b.tdiv 7)),.int .i64 (wrap64 (b.tdiv 11)),.int .i64 (wrap64 (b.tdiv 13)),.int .i64 (wrap64 (b.tdiv 17)),.int .i64 (wrap64 (b.tdiv 19)),.int .i64 (wrap64 (b.tdiv 23)),.int .i64 (wrap64 (b.tdiv 29))] 3)).alloc (.cells #[.slice (some ⟨wh.heap.size,0,none⟩) 8 8,.int .i64 0] 28):=⟨_,rfl⟩
 rw[<-hwy]
 have TM:az wy wh.heap.size #[.int .i64 b,.int .i64 (wrap64 (b.tdiv 7)),.int .i64 (wrap64 (b.tdiv 11)),.int .i64 (wrap64 (b.tdiv 13)),.int .i64 (wrap64 (b.tdiv 17)),.int .i64 (wrap64 (b.tdiv 19)),.int .i64 (wrap64 (b.tdiv 23)),.int .i64 (wrap64 (b.tdiv 29))] 3:=by rw[hwy];exact (az.new wh _ _).alloc _
 have hpy:=ae HPy wy (by rw[hwy];exact ((au.refl aP wh).alloc _).alloc _) (fun i hi=>by
  have:i=0\/i=1\/i=2\/i=3\/i=4\/i=5\/i=6\/i=7:=by omega
  rcases this with rfl|rfl|rfl|rfl|rfl|rfl|rfl|rfl
  ·exact TM.cell 0
  ·exact (TM.cell 1).trans (VA 7 (by decide))
  ·exact (TM.cell 2).trans (VA 11 (by decide))
  ·exact (TM.cell 3).trans (VA 13 (by decide))
  ·exact (TM.cell 4).trans (VA 17 (by decide))
  ·exact (TM.cell 5).trans (VA 19 (by decide))
  ·exact (TM.cell 6).trans (VA 23 (by decide))
  ·exact (TM.cell 7).trans (VA 29 (by decide))) (by rw[hwy];exact az.xy wh _ _ _)
 refine (VU _ _ 8 8 _ _ _ wh P x n acts _ hpy (GK _ _ 8 8 _ _ P x.bv n (by omega)) (by omega) (by omega)).mono ?_
 rintro e w4 ⟨rfl,x',n',jO,hn',hp',hs⟩
 have Oj:x'.bv=x.bv:=hs.2.1
 have hpl:=hp'.eG
 rw[Oj]at hpl
 have q0:w4.cell? ⟨P,0,none⟩=some (.pointer (some ⟨x.bv,0,none⟩)):=hpl.cell 0
 have q1:w4.cell? ⟨P,1,none⟩=some (.int .i64 (n':Int)):=hpl.cell 1
 have q2:w4.cell? ⟨P,2,none⟩=some (.int .i64 jO):=hpl.cell 2
 have g1:=hpl.frozen 1
 have g2:=hpl.frozen 2
 have hac:jO=(x'.H.length:Int):=hp'.na
 have HHl:Hid (x.H.length<=122):=Nat.le_trans ((ae HP).ok.hlen (by omega)) Om
 have Su:=ai hp'
 have We:=ai hpl
 have HS:=ai hs
 clear hpy hp' hpl p0 p2 HPy VA pl2 TM hwy
 rcases hs.1 with hH|⟨nt,S',hH⟩
 focus
  have ha:jO=acts:=by rw[hac,hH,<-ae V9]
  have e1:decide (acts<jO)=false:=by simp;omega
  have HH:=ai hH
  clear hs hac hH
  go_wp2_with fail
  obtain⟨w5,hw5⟩:∃w5,w5=(w4.setCell ⟨P,1,none⟩ (.int .i64 (n:Int))).setCell ⟨P,2,none⟩ (.int .i64 acts):=⟨_,rfl⟩
  rw[<-hw5]
  have HHf:Hid (wP w wl wh wh.heap.size (wh.heap.size+1) b P x n acts T w5):=MQ (ae Su) (ae HS) Om (ae HT) (ae VZ) (ae V9) (ae HH) (by rw[hw5];exact ((ae We).set 1 _).set 2 _) (by rw[hw5];exact ((au.refl (fun y=>y=P) w4).setCell (p:=⟨P,1,none⟩) (.inl rfl) _).setCell (p:=⟨P,2,none⟩) (.inl rfl) _)
  clear hw5 q0 q1 q2 g1 g2 Su We HS HH e1 ha
 rotate_left
 focus
  have ha:jO=acts+1:=by rw[hac,hH,List.length_append,ae V9];push_cast;rfl
  have e1:decide (acts<jO)=true:=by simp;omega
  have HH:=ai hH
  have uX:Hid (x'.N<2000000):=by have:=hs.2.2.1;show x'.N<2000000;omega
  clear hs hac hH
  go_wp2_with fail
  have hun:=Qi (ae Su).ok (ae uX) (ae HH)
  rw[Oj]at hun
  refine hun.mono ?_
  rintro e w4u ⟨rfl,hkn⟩
  obtain⟨hbl,hfin⟩:=MR (ae Su) (ae HS) Om (ae HT) (ae VZ) (ae V9) hkn
  have r1:w4u.cell? ⟨P,1,none⟩=some (.int .i64 (n':Int)):=hbl.cell 1
  have r2:w4u.cell? ⟨P,2,none⟩=some (.int .i64 jO):=hbl.cell 2
  have g1:=hbl.frozen 1
  have g2:=hbl.frozen 2
  have HBl:=ai hbl
  have HFi:=ai hfin
  clear hun hkn hbl hfin q0 q1 q2
  go_wp2_with fail
  obtain⟨w5,hw5⟩:∃w5,w5=(w4u.setCell ⟨P,1,none⟩ (.int .i64 (n:Int))).setCell ⟨P,2,none⟩ (.int .i64 acts):=⟨_,rfl⟩
  rw[<-hw5]
  have HHf:Hid (wP w wl wh wh.heap.size (wh.heap.size+1) b P x n acts T w5):=ae HFi w5 (by rw[hw5];exact ((ae HBl).set 1 _).set 2 _) (by rw[hw5];exact ((au.refl (fun y=>y=P) w4u).setCell (p:=⟨P,1,none⟩) (.inl rfl) _).setCell (p:=⟨P,2,none⟩) (.inl rfl) _)
  clear hw5 r1 r2 g1 g2 Su We HS HH e1 ha HBl HFi uX
 all_goals
  refine ((ae HHf).looks (by omega) (ae HTn)).mono ?_
  rintro e w6 ⟨UB,VN,Ue,Nk,ta2,SI,rfl,VD,k6⟩
  have ZB:=(ae HHf).bG k6
  have st6:=ZB.still (ae HSl)
  have aam:=((ae aaT).aC (ae HKh) (fun b hb=>hb.elim)).aC st6 (fun b hb=>hb)
  have Y4:=st6.aB (ae HBB) (fun h=>by have:=(ae yS).size;omega)
  have bl6:w2.heap.size<w6.heap.size:=Y4.lt
  have a0:w6.cell? ⟨w2.heap.size,0,none⟩=some (.slice oa n oc):=Y4.cell 0
  have a1:w6.cell? ⟨w2.heap.size,1,none⟩=some (.slice ka 4 kc):=Y4.cell 1
  have a2:w6.cell? ⟨w2.heap.size,2,none⟩=some (.slice ta tn tc):=Y4.cell 2
  have HSame:Hid (∀W,au aP w6 W->Calls Tryz.prog 24 #[.agg #[.slice oa n oc,.slice ka 4 kc,.slice ta tn tc],.agg #[.slice UB n VN,.slice Ue 4 Nk,.slice ta2 tn SI]] W fun e w'=>e=.returned (.bool true)/\au aP W w'):=fun W k =>
   aat x.S n wl.heap.size w5.heap.size W oa ka ta UB Ue ta2 oc kc tc VN Nk SI (aam.aC k (fun b hb=>hb.elim)) (VD.aC k (fun b hb=>hb.elim)) (by omega) tn (ae HTn) htb
  have HF6:=ai ZB
  clear ZB st6 aam Y4 VD k6 HHf
  go_wp2_with fail
  refine (ae HSame _ (by repeat (first|exact au.refl _ _|refine au.drew ?_|refine au.alloc ?_ _))).mono ?_
  rintro e w7 ⟨rfl,k7⟩
  obtain⟨xu,hu⟩:=((ae HF6).bG (au.trans (by repeat (first|exact au.refl _ _|refine au.drew ?_|refine au.alloc ?_ _)) k7)).uk (ae V9)
  obtain⟨A,hA⟩:∃A,x.H.length=A:=⟨_,rfl⟩
  have hAb:A<=1000:=by have h:=ae HHl;omega
  rw[hA]at hu
  have hul:Ul (Z2 w.heap.size wl.heap.size wh.heap.size) wh P x.bv n A 0 T w7:=⟨xu,hu⟩
  have c0:w7.cell? ⟨P,0,none⟩=some (.pointer (some ⟨x.bv,0,none⟩)):=hul.eG.cell 0
  have c2:w7.cell? ⟨P,2,none⟩=some (.int .i64 (A:Int)):=hul.eG.cell 2
  have HU:=ai hul
  clear hu hul k7 hA HSame HF6 a0 a1 a2 bl6
  go_wp2
  go_loopg [18] A (fun g iv wq=>∃i:Nat,iv=.int .i64 (i:Int)/\i<=A/\g=A-i/\Ul (Z2 w.heap.size wl.heap.size wh.heap.size) wh P x.bv n A i T wq)
  case atStart=>exact⟨0,rfl,Nat.zero_le _,rfl,ae HU⟩
  case round =>
   obtain⟨i,rfl,hi,hgk,hu⟩:=hrel
   have c0:wr.cell? ⟨P,0,none⟩=some (.pointer (some ⟨x.bv,0,none⟩)):=hu.eG.cell 0
   have c2:wr.cell? ⟨P,2,none⟩=some (.int .i64 (A:Int)):=hu.eG.cell 2
   have HU1:=ai hu
   clear hu HU
   by_cases hlt:i<A
   ·have e1:decide ((i:Int)<(A:Int))=true:=by simp;omega
    go_wp2_with fail
    refine ((ae HU1).X6 hlt hAb).mono ?_
    rintro e w8 ⟨rfl,Xv⟩
    have HU8:=ai Xv
    clear Xv c0 c2
    go_wp2
    go_roundg (A-(i+1))
    case measure=>omega
    case rel=>exact⟨i+1,by push_cast;rfl,by omega,rfl,ae HU8⟩
   ·obtain rfl:i=A:=by omega
    go_wp2_with fail
    refine (ae HU1).aaG.mono ?_
    rintro e w8 ⟨rfl,k8⟩
    have Xv:=(ae HU1).bG k8
    have c0:w8.cell? ⟨P,0,none⟩=some (.pointer (some ⟨x.bv,0,none⟩)):=Xv.eG.cell 0
    obtain⟨m,hm1,hm2,htape⟩:=Xv.tape hAb
    rw[ae HL]at hm1
    have HU8:=ai Xv
    have YQ:=ai htape
    clear Xv k8 htape HU1
    go_wp2_with fail
    refine (ae YQ).mono ?_
    rintro e w9 ⟨va,vc,R,rfl,hRl,hRY,hfold,F7,k9⟩
    have hu9:=(ae HU8).bG k9
    have hfo:=Jm w8.heap.size vc va R [] w9 (by rw[hRl];exact F7) hfold (by omega)
    rw[hRl]at hfo
    have qR:=ai hfo
    have HR9:=ai (And.intro hRl (And.intro hRY F7))
    have HU9:=ai hu9
    clear hu9 hfo hRl hRY hfold F7 k9 YQ HU8 c0
    go_wp2_with fail
    refine (ae qR).mono ?_
    rintro e w10 ⟨la,lc,rfl,-,k10⟩
    have Xr:=(ae HU9).bG k10
    have c0:w10.cell? ⟨P,0,none⟩=some (.pointer (some ⟨x.bv,0,none⟩)):=Xr.eG.cell 0
    have e2:decide ((m:Int)<(L:Int))=false:=by simp;omega
    have Wi:=ai Xr
    have YD:=ai k10
    simp only[List.length_nil]
    clear Xr k10 qR
    go_wp2_with fail
    refine ((ae Wi).oV hAb).mono ?_
    rintro e w11 ⟨xa,xc,rfl,k11⟩
    have TZ:=(ae Wi).bG k11
    have HX:Hid (∀j,j<L->∃(r:Rc) (g1 g2:Nat),pa=some ⟨g1,0,none⟩/\va=some ⟨g2,0,none⟩/\(∀(q:Nat) (u:Value),r.cells[q]?=some u->w11.cell? ⟨g1,j * 9+q,none⟩=some u)/\∀(q:Nat) (u:Value),r.cells[q]?=some u->w11.cell? ⟨g2,j * 9+q,none⟩=some u):=fun j hj=>by
     obtain⟨hRl,⟨Y,hRY⟩,F7⟩:=ae HR9
     have hTl:T.length=L:=ae HL
     have hjT:T[j]?=some T[j]:=List.getElem?_eq_getElem (by omega)
     have hjR:R[j]?=some T[j]:=by rw[hRY,List.getElem?_append_left (by omega)];exact hjT
     obtain⟨B,hB,VE⟩:=ae IQ
     obtain⟨ga,ea,gl,ca⟩:=Lr VE hTl hjT
     obtain⟨gb,eb,_,cb⟩:=Lr F7 hRl hjR
     have hge:B<=ga:=rM VE (by rw[ea];rfl)
     refine⟨_,ga,gb,ea,eb,fun q u hq=>TZ.still.cell (ca q u hq) (fun h=>h (.inr ⟨by show wl.heap.size<=ga;omega,gl⟩)),fun q u hq=>k11.cell ((ae YD).cell (cb q u hq) (fun x=>x)) (fun x=>x)⟩
    have c0:w11.cell? ⟨P,0,none⟩=some (.pointer (some ⟨x.bv,0,none⟩)):=TZ.eG.cell 0
    have YR:=ai TZ
    clear TZ k11 HR9 HU9 Wi YD
    go_wp2
    go_loopg [24] L (fun g iv wq=>∃j:Nat,iv=.int .i64 (j:Int)/\j<=L/\g=L-j/\au aP w11 wq)
    case atStart=>exact⟨0,rfl,Nat.zero_le _,rfl,au.refl _ _⟩
    case round =>
     obtain⟨j,rfl,hj,hgk,kr⟩:=hrel
     by_cases hjl:j<L
     ·obtain⟨r,g1,g2,rfl,rfl,x1,x2⟩:=ae HX j hjl
      have d0:wr.cell? ⟨g1,j * 9,none⟩=some (.int .i64 r.num):=kr.cell (x1 0 _ rfl) (fun x=>x)
      have d1:wr.cell? ⟨g1,j * 9+1,none⟩=some (.int .i64 r.kind):=kr.cell (x1 1 _ rfl) (fun x=>x)
      have d2:wr.cell? ⟨g1,j * 9+2,none⟩=some (.int .i64 r.t.num):=kr.cell (x1 2 _ rfl) (fun x=>x)
      have d3:wr.cell? ⟨g1,j * 9+3,none⟩=some (.string r.t.sym):=kr.cell (x1 3 _ rfl) (fun x=>x)
      have d4:wr.cell? ⟨g1,j * 9+4,none⟩=some (.int .i64 r.t.af):=kr.cell (x1 4 _ rfl) (fun x=>x)
      have d5:wr.cell? ⟨g1,j * 9+5,none⟩=some (.int .i64 r.t.aI):=kr.cell (x1 5 _ rfl) (fun x=>x)
      have d6:wr.cell? ⟨g1,j * 9+6,none⟩=some (.int .i64 r.t.kZ):=kr.cell (x1 6 _ rfl) (fun x=>x)
      have d7:wr.cell? ⟨g1,j * 9+7,none⟩=some (.int .i64 r.t.fM):=kr.cell (x1 7 _ rfl) (fun x=>x)
      have d8:wr.cell? ⟨g1,j * 9+8,none⟩=some (.int .i64 r.t.day):=kr.cell (x1 8 _ rfl) (fun x=>x)
      have f0:wr.cell? ⟨g2,j * 9,none⟩=some (.int .i64 r.num):=kr.cell (x2 0 _ rfl) (fun x=>x)
      have f1:wr.cell? ⟨g2,j * 9+1,none⟩=some (.int .i64 r.kind):=kr.cell (x2 1 _ rfl) (fun x=>x)
      have f2:wr.cell? ⟨g2,j * 9+2,none⟩=some (.int .i64 r.t.num):=kr.cell (x2 2 _ rfl) (fun x=>x)
      have f3:wr.cell? ⟨g2,j * 9+3,none⟩=some (.string r.t.sym):=kr.cell (x2 3 _ rfl) (fun x=>x)
      have f4:wr.cell? ⟨g2,j * 9+4,none⟩=some (.int .i64 r.t.af):=kr.cell (x2 4 _ rfl) (fun x=>x)
      have f5:wr.cell? ⟨g2,j * 9+5,none⟩=some (.int .i64 r.t.aI):=kr.cell (x2 5 _ rfl) (fun x=>x)
      have f6:wr.cell? ⟨g2,j * 9+6,none⟩=some (.int .i64 r.t.kZ):=kr.cell (x2 6 _ rfl) (fun x=>x)
      have f7:wr.cell? ⟨g2,j * 9+7,none⟩=some (.int .i64 r.t.fM):=kr.cell (x2 7 _ rfl) (fun x=>x)
      have f8:wr.cell? ⟨g2,j * 9+8,none⟩=some (.int .i64 r.t.day):=kr.cell (x2 8 _ rfl) (fun x=>x)
      have e3:decide ((j:Int)<(L:Int))=true:=by simp;omega
      have HK:=ai kr
      clear kr x1 x2 c0
      go_wp2
      go_quiet (fail)
      go_wp2
      go_roundg (L-(j+1))
      case measure=>omega
      case rel=>exact⟨j+1,by push_cast;rfl,by omega,rfl,(ae HK).drewN _⟩
     ·obtain rfl:j=L:=by omega
      have Xt:=(ae YR).bG kr
      have c0:wr.cell? ⟨P,0,none⟩=some (.pointer (some ⟨x.bv,0,none⟩)):=Xt.eG.cell 0
      have Wj:=ai Xt
      clear Xt kr YR HX
      go_wp2_with fail
      refine (ae Wj).aW.mono ?_
      rintro e w13 ⟨rfl,k13⟩
      have Xu:=(ae Wj).bG k13
      have c0:w13.cell? ⟨P,0,none⟩=some (.pointer (some ⟨x.bv,0,none⟩)):=Xu.eG.cell 0
      have Wl:=ai Xu
      clear Xu k13 Wj
      go_wp2_with fail
      refine (ae Wl).status.mono ?_
      rintro e w14 ⟨rfl,k14⟩
      simp only[jD]
      have Ua:=(ae Wl).bG k14
      have c0:w14.cell? ⟨P,0,none⟩=some (.pointer (some ⟨x.bv,0,none⟩)):=Ua.eG.cell 0
      have ab5:P<w14.heap.size:=Ua.eG.lt
      have aaY:=ai Ua
      clear Ua k14 Wl
      go_wp2_with fail
      refine (((ae aaY).bG (by repeat (first|exact au.refl _ _|refine au.drew ?_|refine au.alloc ?_ _))).oG hAb).mono ?_
      rintro e w15 ⟨rfl,k15⟩
      have aaQ:=ai k15
      clear k15 c0
      go_wp2
      go_ret
      refine⟨rfl,au.KI (S:=fun b=>¬b<w.heap.size) ((((ae HP).fr.trans (ae yS).bI).trans (ae HKh).bI).trans ((ae aaQ).mono (fun b hb h=>hb (.inl h)))) (Nat.le_refl _) (fun b hb=>by omega)⟩
end Go.Proofs.YtigaphnafnpfnaaGreatDoor
