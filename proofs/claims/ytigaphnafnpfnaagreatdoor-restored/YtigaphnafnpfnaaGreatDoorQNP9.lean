import Derived.Test.YtigaphnafnpfnaaGreatDoorQNP8
import Derived.Test.YtigaphnafnpfnaaGreatDoorQNQ5
set_option linter.unusedVariables false
set_option linter.unusedSimpArgs false
set_option maxHeartbeats 8000000
set_option maxRecDepth 100000
namespace Go.Proofs.YtigaphnafnpfnaaGreatDoor
open Go.RowKit Go.Maps
attribute [local go_sem ↓] Go.wp_at_zero Go.wp_at_succ
def uD(x:Kx)(n:Nat)(E:Int)(W w':World):Prop:=((E=6\/E=10\/E=11)/\aj aJ W w')\/(E=0/\KN x W w' (fun x'=>(∃nt S',x'.H=x.H++[(nt,S')])/\Kn x'.S n))
theorem IY{x:Kx}{w:World}{n:Int}(h:jq w x)(hN:x.N<200)(hA:∃(k:Nat) (y:Tg),n-1=(k:Int)/\x.S.t[k]?=some y):o9 n:=by
 obtain⟨k,y,e1,e2⟩:=hA;have h1:=(List.getElem?_eq_some_iff.1 e2).1;have h2:=h.oz.yu;rw[h.oz.tr]at h2;exact⟨by omega,by omega⟩
theorem Uh{x:Kx}{a:dL}{n:Nat}{w w':World}(h:jq w x)(kn:Kn x.S n)(hfa:∀S',AR x.S a S'->jE a)(hA:Ic x.bv x.bm x.bo (x.V.gG a.line) x.S x.N a V7 Lj w w'):KN x w w' (fun x'=>(∃nt S',x'.H=x.H++[(nt,S')])/\Kn x'.S n):=by
 obtain⟨x',ok',k,hf,q1,q2,q3,q4,q5,q6⟩:=MP h hfa hA;refine⟨x',ok',k,hf,q1,q2,q3,q4,⟨fun id=>?_,by rw[q6,Lj,List.append_nil];exact kn.sA,by rw[q6,Lj,List.append_nil];exact kn.sG⟩⟩;rw[q5,kn.rJ];exact⟨fun h=>h.elim aU (fun z=>z.elim),.inl⟩
theorem OT{x:Kx}{a:dL}{n:Nat}{E:Int}{w w':World}(h:jq w x)(kn:Kn x.S n)(hfa:∀S',AR x.S a S'->jE a)(hE:E=0\/E=6\/E=10\/E=11)(hO:Iu x.bv x.bm x.bo (x.V.gG a.line) x.S x.N a V7 Lj E w w'):uD x n E w w':=by
 rcases hO with⟨hne,k,_⟩ | ⟨h0,hA⟩
 ·exact .inl ⟨hE.resolve_left hne,k⟩
 ·exact .inr ⟨h0,Uh h kn hfa hA⟩
theorem pY.tyK{G:Lg}(h:pY G.tp):aa3 G:=fun r hr=>by
 obtain⟨i,hi,e⟩:=List.mem_iff_getElem.1 hr;exact (h i r (by rw[List.getElem?_eq_getElem hi,e])).2
theorem MR{x:Kx}{w:World}(h:jq w x)(hN:x.N<2000000):CT 17 #[PP x.bv,II 0] w fun e w'=>∃a c,e=.returned (.slice a x.V.lg.tp.length c)/\w'.ownsRow w.heap.size 62 9 (.slice a x.V.lg.tp.length c) x.V.lg.tp.length (kT x.V.lg.tp)/\aj aJ w w':=by
 have:=VE x.bv x.bm x.bo 0 0 x.V.lg x.V.lm w h.lG.aP h.sz.tp.tyK (by have:=h.oz.DJ;omega) (.inl ⟨by omega,rfl⟩) (by omega);rw[List.drop_zero]at this;exact this
theorem acp(D:Nat)(ao:Option Addr)(len cap:Nat)(zs:Nat->Int)(base:Nat)(Z:Nat->Prop)(w0:World)(P:Nat)(x:Kx)(n:Nat)(acts:Int)(w:World)(h:Pk D ao len cap zs base Z w0 P x n acts w)(hO:FC D ao len cap zs base P x.bv n)(hN:x.N<200)(hn:n<1000) :
 CT 15 #[PP P,PP D,.bool true] w fun e w'=>e=.returned (.bool true)/\∃x' n' xk,(n<=n'/\n'<=n+1)/\Pk D ao len cap zs base Z w0 P x' n' xk w'/\V9 x x':=by
 have ha:=h.na;have hHl:=h.ok.hlen (by omega);have ha0:0<=acts:=by omega
 have ha2:acts<2000000:=by omega
 have HA:=au ha;have hkn:=h.kn;have Yl:=au (Gy D ao len cap zs base 16 w h.dc (by omega) (by omega));have HEn:=au (fun (W:World) (hW:Pk D ao len cap zs base Z w0 P x n acts W)=>XT D ao len cap zs base Z w0 P x.bv x rfl n acts W hW hO hN hn);have Yk:=au (fun (W:World) (hd:Dc D ao len cap zs base W) (m:Int) (h1:0<m) (h2:m<=1000000)=>Gy D ao len cap zs base m W hd h1 h2);have HCa:Hid (∀(W:World) (v:Nat),jq W x/\kP W->(v:Int)<n->CT 37 #[PP x.bv,II (IntKind.i64.wrap (1+(v:Int)))] W fun e w'=>∃E,e=.returned (II E)/\uD x n E W w'):=by
  rintro W v ⟨R,hT⟩ hv;have e:IntKind.i64.wrap (1+(v:Int))=1+(v:Int):=by rw[IntKind.wrap_i64];omega
  rw[e];refine (zG x.bv x.bm x.bo x.N (x.V.gG (dL.gy (1+(v:Int))).line) x.p x.S (1+(v:Int)) W (R.wO _) hT (R.wP _) (by omega) (R.NY _) (WalkArith.wf_i64 (by omega)) (au rfl)).mono ?_;rintro e w' ⟨E,rfl,hE,hO⟩;exact⟨E,rfl,OT (a:=.gy (1+(v:Int))) R hkn (fun _ _=>(show o9 (1+(v:Int)) from ⟨by omega,by omega⟩)) (by omega) hO⟩
 have WJ:Hid (∀(W:World) (v v1 v2:Nat),jq W x/\kP W->(v:Int)<n->(v1:Int)<10->(v2:Int)<9->CT 38 #[PP x.bv,II (IntKind.i64.wrap (1+(v:Int))),II (IntKind.i64.wrap (95+(v1:Int))),II (IntKind.i64.wrap (1+(v2:Int)))] W fun e w'=>∃f r c a m E,e=.returned (.tuple #[.agg #[II f,II r,II c,II a,II m],II E])/\uD x n E W w'):=by
  rintro W v v1 v2 ⟨R,hT⟩ hv hv1 hv2;have e:IntKind.i64.wrap (1+(v:Int))=1+(v:Int):=by rw[IntKind.wrap_i64];omega
  have e1:IntKind.i64.wrap (95+(v1:Int))=95+(v1:Int):=by rw[IntKind.wrap_i64];omega
  have e2:IntKind.i64.wrap (1+(v2:Int))=1+(v2:Int):=by rw[IntKind.wrap_i64];omega
  rw[e,e1,e2];refine (xJ x.bv x.bm x.bo x.N (x.V.gG (dL.replace (1+(v:Int)) (95+(v1:Int)) (1+(v2:Int))).line) x.p x.S (1+(v:Int)) (95+(v1:Int)) (1+(v2:Int)) W (R.wO _) hT (R.wP _) (by omega) (R.NY _) (WalkArith.wf_i64 (by omega)) (by unfold dX;simp;omega) (by unfold dX;simp;omega) (au rfl)).mono ?_;rintro e w' ⟨f,r,c,a,m,E,rfl,hE,hO⟩;exact⟨f,r,c,a,m,E,rfl,OT (a:=.replace (1+(v:Int)) (95+(v1:Int)) (1+(v2:Int))) R hkn (fun _ _=>⟨⟨⟨by omega,by omega⟩,⟨by omega,by omega⟩,⟨by omega,by omega⟩⟩,by unfold dX;simp;omega,by unfold dX;simp;omega⟩) (by omega) hO⟩
 have HBu:Hid (∀(W:World) (v:Nat) (ag:Bool),jq W x/\kP W->CT 39 #[PP x.bv,II (IntKind.i64.wrap (1+(v:Int))),.bool ag] W fun e w'=>∃E,e=.returned (II E)/\uD x n E W w'):=by
  rintro W v ag ⟨R,hT⟩;refine (EI x.bv x.bm x.bo x.N (x.V.gG (dL.nI (IntKind.i64.wrap (1+(v:Int))) ag).line) x.p x.S _ ag W (R.wO _) hT (R.wP _) (by omega) (R.NY _) (au rfl)).mono ?_;rintro e w' ⟨E,rfl,hE,hO⟩;exact⟨E,rfl,OT (a:=.nI (IntKind.i64.wrap (1+(v:Int))) ag) R hkn (fun _ hA=>IY R (by omega) (by obtain⟨k1,x1,_,_,e1,e2,_⟩:=hA;exact⟨k1,x1,e1,e2⟩)) hE hO⟩
 have HCo:Hid (∀(W:World) (v u:Nat),jq W x/\kP W->(u:Int)<20->CT 40 #[PP x.bv,II (IntKind.i64.wrap (1+(v:Int))),II (IntKind.i64.wrap (90+(u:Int)))] W fun e w'=>∃E,e=.returned (II E)/\uD x n E W w'):=by
  rintro W v u ⟨R,hT⟩ hu;have e1:IntKind.i64.wrap (90+(u:Int))=90+(u:Int):=by rw[IntKind.wrap_i64];omega
  rw[e1];refine (xI x.bv x.bm x.bo x.N (x.V.gG (dL.dM (IntKind.i64.wrap (1+(v:Int))) (90+(u:Int))).line) x.p x.S _ (90+(u:Int)) W (R.wO _) hT (R.wP _) (by omega) (R.NY _) (by unfold dX;simp;omega) (au rfl)).mono ?_;rintro e w' ⟨E,rfl,hE,hO⟩;exact⟨E,rfl,OT (a:=.dM (IntKind.i64.wrap (1+(v:Int))) (90+(u:Int))) R hkn (fun _ hA=>⟨⟨IY R (by omega) (by obtain⟨k1,x1,e1,e2,_⟩:=hA;exact⟨k1,x1,e1,e2⟩),⟨by omega,by omega⟩⟩,by unfold dX;simp;omega⟩) hE hO⟩
 have LD:Hid (∀(W:World),jq W x/\kP W->CT 41 #[PP x.bv] W fun e w'=>e=.returned (.tuple #[])/\uD x n 0 W w'):=by
  rintro W ⟨R,hT⟩;refine (BI x.bv x.bm x.bo x.N (x.V.gG (dL.close).line) x.p x.S W (R.wO _) hT (R.wP _) (by omega) (R.NY _) (au rfl)).mono ?_;rintro e w' ⟨rfl,hA⟩;exact⟨rfl,.inr ⟨rfl,Uh (a:=.close) R hkn (fun _ _=>trivial) hA⟩⟩
 have HTp:Hid (∀(W:World),jq W x->CT 17 #[PP x.bv,II 0] W fun e w'=>∃a m c,e=.returned (.slice a m c)/\m<=60000/\aj aJ W w'):=by
  intro W R;refine (MR R (by omega)).mono ?_;rintro e w' ⟨a,c,rfl,_,k⟩;exact⟨a,_,c,rfl,by have:=R.oz.DJ;omega,k⟩
 have HH:=au h;have lP:=h.gX.lt;clear hO h hkn ha hHl;go_enter Tryz.func15,Tryz.ntmps15;go_wp2_with fail;refine (ae Yl).mono ?_;rintro e w1 ⟨v,rfl,hv,hd1,k1⟩;have h1:=(ae HH).qw hd1 k1;have p1:CC w1 P 1 (II (n:Int)):=h1.gX.cell 1;have p0:CC w1 P 0 (PP x.bv):=h1.gX.cell 0;have H1:=au h1;clear hd1 k1 h1 Yl HH;by_cases c8:(v:Int)<8
 ·have e8:decide ((v:Int)<8)=true:=by simp;omega
  go_wp2_with fail;refine (ae HEn w1 (ae H1)).mono ?_;rintro e w2 hx;obtain⟨rfl,hx2⟩:=hx;go_wp2;go_ret;exact⟨rfl,hx2⟩
 ·have e8:decide ((v:Int)<8)=false:=by simp;omega
  by_cases cn:n=0
  ·have en:((n:Int) == 0)=true:=by simp[cn]
   go_wp2_with fail;refine (ae HEn w1 (ae H1)).mono ?_;rintro e w2 hx;obtain⟨rfl,hx2⟩:=hx;go_wp2;go_ret;exact⟨rfl,hx2⟩
  ·have en:((n:Int) == 0)=false:=by simp;omega
   by_cases c10:(v:Int)<10
   ·have e10:decide ((v:Int)<10)=true:=by simp;omega
    clear c8 c10;go_wp2;go_region_with (first | (have hsrc:=H1;go_at_call 35;refine (ae Yk _ ((ae H1).bJ (by repeat (first | exact aj.refl _ _ | refine aj.drew ?_ | refine aj.alloc ?_ _))).dc _ (by omega) (by omega)).mono ?_;rintro e wu ⟨u,rfl,hu,hd,k⟩;have hh:=((ae H1).bJ (by repeat (first | exact aj.refl _ _ | refine aj.drew ?_ | refine aj.alloc ?_ _))).qw hd k;have qu0:CC wu P 0 (PP x.bv):=hh.gX.cell 0;have qu1:CC wu P 1 (II (n:Int)):=hh.gX.cell 1;have H2:=au hh;clear hd k hh hsrc) | (go_at_call 37;refine (ae HCa _ u ((ae H2).bJ (by repeat (first | exact aj.refl _ _ | refine aj.drew ?_ | refine aj.alloc ?_ _))).rt hu).mono ?_;rintro e w9 ⟨E,rfl,hres⟩;have HR:=au hres;clear hres))
    all_goals
     rcases ae HR with⟨hE,kn⟩ | ⟨rfl,hnx⟩
     ·clear HR;have H9:=au (((ae H2).bJ (by repeat (first | exact aj.refl _ _ | refine aj.drew ?_ | refine aj.alloc ?_ _))).bJ kn);clear kn;rcases hE with rfl | rfl | rfl
      all_goals
       go_wp2;go_ret;exact⟨rfl,x,n,acts,by omega,ae H9,V9.refl x⟩
     ·clear HR;obtain⟨x2,ok2,qP,yC,yD,yB,eb,eN,eZ,eH,wV⟩:=((ae H2).bJ (by repeat (first | exact aj.refl _ _ | refine aj.drew ?_ | refine aj.alloc ?_ _))).next hnx;have p2:CC w9 P 2 (II acts):=qP.cell 2;have g2f:=qP.frozen 2;have HF:=au (And.intro ok2 (And.intro qP (And.intro yC (And.intro yD (And.intro yB (And.intro eb (And.intro eN (And.intro eZ (And.intro eH wV)))))))));clear hnx ok2 qP yC yD yB eb eN eZ eH wV;go_wp2;go_ret;obtain⟨ok2,qP,yC,yD,yB,eb,eN,eZ,⟨nt,S',eH⟩,wV⟩:=ae HF;refine⟨rfl,x2,n,acts+1,by omega,?_,.inr ⟨nt,S',eH⟩,eb,eN,eZ⟩;refine Pk.count (ae H1) ok2 wV (by rw[eH,List.length_append,ae HA];push_cast;rfl) ⟨_,_,by rw[eb];exact qP⟩ yC yD yB ?_ ((aj.refl (fun x=>x=P) w9).setCell (p:=⟨P,2,none⟩) (.inl rfl) _);rw[eb];exact qP.set 2 (II (acts+1))
   ·have e10:decide ((v:Int)<10)=false:=by simp;omega
    by_cases Oy:(v:Int)<12
    ·have e12:decide ((v:Int)<12)=true:=by simp;omega
     clear c8 c10 Oy;go_wp2;go_region_with (first | (have hsrc:=H3;go_at_call 35;refine (ae Yk _ ((ae H3).bJ (by repeat (first | exact aj.refl _ _ | refine aj.drew ?_ | refine aj.alloc ?_ _))).dc _ (by omega) (by omega)).mono ?_;rintro e wt ⟨t,rfl,ht,hd,k⟩;have hh:=((ae H3).bJ (by repeat (first | exact aj.refl _ _ | refine aj.drew ?_ | refine aj.alloc ?_ _))).qw hd k;have qt0:CC wt P 0 (PP x.bv):=hh.gX.cell 0;have qt1:CC wt P 1 (II (n:Int)):=hh.gX.cell 1;have H4:=au hh;clear hd k hh hsrc) | (have hsrc:=H2;go_at_call 35;refine (ae Yk _ ((ae H2).bJ (by repeat (first | exact aj.refl _ _ | refine aj.drew ?_ | refine aj.alloc ?_ _))).dc _ (by omega) (by omega)).mono ?_;rintro e ws ⟨s,rfl,hs,hd,k⟩;have hh:=((ae H2).bJ (by repeat (first | exact aj.refl _ _ | refine aj.drew ?_ | refine aj.alloc ?_ _))).qw hd k;have qs0:CC ws P 0 (PP x.bv):=hh.gX.cell 0;have qs1:CC ws P 1 (II (n:Int)):=hh.gX.cell 1;have H3:=au hh;clear hd k hh hsrc) | (have hsrc:=H1;go_at_call 35;refine (ae Yk _ ((ae H1).bJ (by repeat (first | exact aj.refl _ _ | refine aj.drew ?_ | refine aj.alloc ?_ _))).dc _ (by omega) (by omega)).mono ?_;rintro e wu ⟨u,rfl,hu,hd,k⟩;have hh:=((ae H1).bJ (by repeat (first | exact aj.refl _ _ | refine aj.drew ?_ | refine aj.alloc ?_ _))).qw hd k;have qu0:CC wu P 0 (PP x.bv):=hh.gX.cell 0;have qu1:CC wu P 1 (II (n:Int)):=hh.gX.cell 1;have H2:=au hh;clear hd k hh hsrc) | (go_at_call 38;refine (ae WJ _ u s t ((ae H4).bJ (by repeat (first | exact aj.refl _ _ | refine aj.drew ?_ | refine aj.alloc ?_ _))).rt hu hs ht).mono ?_;rintro e w9 ⟨f,r,c,a,m,E,rfl,hres⟩;have HR:=au hres;clear hres))
     all_goals
      rcases ae HR with⟨hE,kn⟩ | ⟨rfl,hnx⟩
      ·clear HR;have H9:=au (((ae H4).bJ (by repeat (first | exact aj.refl _ _ | refine aj.drew ?_ | refine aj.alloc ?_ _))).bJ kn);clear kn;rcases hE with rfl | rfl | rfl
       all_goals
        go_wp2;go_ret;exact⟨rfl,x,n,acts,by omega,ae H9,V9.refl x⟩
      ·clear HR;obtain⟨x2,ok2,qP,yC,yD,yB,eb,eN,eZ,eH,wV⟩:=((ae H4).bJ (by repeat (first | exact aj.refl _ _ | refine aj.drew ?_ | refine aj.alloc ?_ _))).next hnx;have p2:CC w9 P 2 (II acts):=qP.cell 2;have g2f:=qP.frozen 2;have HF:=au (And.intro ok2 (And.intro qP (And.intro yC (And.intro yD (And.intro yB (And.intro eb (And.intro eN (And.intro eZ (And.intro eH wV)))))))));clear hnx ok2 qP yC yD yB eb eN eZ eH wV;go_wp2;go_ret;obtain⟨ok2,qP,yC,yD,yB,eb,eN,eZ,⟨nt,S',eH⟩,wV⟩:=ae HF;refine⟨rfl,x2,n,acts+1,by omega,?_,.inr ⟨nt,S',eH⟩,eb,eN,eZ⟩;refine Pk.count (ae H1) ok2 wV (by rw[eH,List.length_append,ae HA];push_cast;rfl) ⟨_,_,by rw[eb];exact qP⟩ yC yD yB ?_ ((aj.refl (fun x=>x=P) w9).setCell (p:=⟨P,2,none⟩) (.inl rfl) _);rw[eb];exact qP.set 2 (II (acts+1))
    ·have e12:decide ((v:Int)<12)=false:=by simp;omega
     by_cases c14:(v:Int)<14
     ·have e14:decide ((v:Int)<14)=true:=by simp;omega
      clear c8 c10 Oy c14;go_wp2_with fail;refine (ae HTp w1 (ae H1).ok).mono ?_;rintro e wt ⟨ta,tm,tc,rfl,htm,kt⟩;have ht1:=(ae H1).bJ kt;have pt0:CC wt P 0 (PP x.bv):=ht1.gX.cell 0;have HW:=au ht1;have zO:Hid (∀W:World,Dc D ao len cap zs base W->CT 35 #[PP D,II (IntKind.i64.wrap ((tm:Int)+1))] W fun e w'=>∃v:Nat,e=.returned (II (v:Int))/\(v:Int)<(tm:Int)+1/\Dc D ao len cap zs base w'/\aj (fun x=>x=D) W w'):=fun W hd=>by
       have e:IntKind.i64.wrap ((tm:Int)+1)=(tm:Int)+1:=by rw[IntKind.wrap_i64];omega
       rw[e];exact ae Yk W hd ((tm:Int)+1) (by omega) (by omega)
      clear kt ht1;go_wp2;go_region_with (first | (have hsrc:=H2;go_at_call 35;refine (ae Yk _ ((ae H2).bJ (by repeat (first | exact aj.refl _ _ | refine aj.drew ?_ | refine aj.alloc ?_ _))).dc _ (by omega) (by omega)).mono ?_;rintro e ws ⟨s,rfl,hs,hd,k⟩;have hh:=((ae H2).bJ (by repeat (first | exact aj.refl _ _ | refine aj.drew ?_ | refine aj.alloc ?_ _))).qw hd k;have qs0:CC ws P 0 (PP x.bv):=hh.gX.cell 0;have qs1:CC ws P 1 (II (n:Int)):=hh.gX.cell 1;have H3:=au hh;clear hd k hh hsrc) | (have hsrc:=HW;go_at_call 35;refine (ae zO _ ((ae HW).bJ (by repeat (first | exact aj.refl _ _ | refine aj.drew ?_ | refine aj.alloc ?_ _))).dc).mono ?_;rintro e wu ⟨u,rfl,hu,hd,k⟩;have hh:=((ae HW).bJ (by repeat (first | exact aj.refl _ _ | refine aj.drew ?_ | refine aj.alloc ?_ _))).qw hd k;have qu0:CC wu P 0 (PP x.bv):=hh.gX.cell 0;have qu1:CC wu P 1 (II (n:Int)):=hh.gX.cell 1;have H2:=au hh;clear hd k hh hsrc) | (go_at_call 39;refine (ae HBu _ u _ ((ae H3).bJ (by repeat (first | exact aj.refl _ _ | refine aj.drew ?_ | refine aj.alloc ?_ _))).rt).mono ?_;rintro e w9 ⟨E,rfl,hres⟩;have HR:=au hres;clear hres))
      all_goals
       rcases ae HR with⟨hE,kn⟩ | ⟨rfl,hnx⟩
       ·clear HR;have H9:=au (((ae H3).bJ (by repeat (first | exact aj.refl _ _ | refine aj.drew ?_ | refine aj.alloc ?_ _))).bJ kn);clear kn;rcases hE with rfl | rfl | rfl
        all_goals
         go_wp2;go_ret;exact⟨rfl,x,n,acts,by omega,ae H9,V9.refl x⟩
       ·clear HR;obtain⟨x2,ok2,qP,yC,yD,yB,eb,eN,eZ,eH,wV⟩:=((ae H3).bJ (by repeat (first | exact aj.refl _ _ | refine aj.drew ?_ | refine aj.alloc ?_ _))).next hnx;have p2:CC w9 P 2 (II acts):=qP.cell 2;have g2f:=qP.frozen 2;have HF:=au (And.intro ok2 (And.intro qP (And.intro yC (And.intro yD (And.intro yB (And.intro eb (And.intro eN (And.intro eZ (And.intro eH wV)))))))));clear hnx ok2 qP yC yD yB eb eN eZ eH wV;go_wp2;go_ret;obtain⟨ok2,qP,yC,yD,yB,eb,eN,eZ,⟨nt,S',eH⟩,wV⟩:=ae HF;refine⟨rfl,x2,n,acts+1,by omega,?_,.inr ⟨nt,S',eH⟩,eb,eN,eZ⟩;refine Pk.count (ae H1) ok2 wV (by rw[eH,List.length_append,ae HA];push_cast;rfl) ⟨_,_,by rw[eb];exact qP⟩ yC yD yB ?_ ((aj.refl (fun x=>x=P) w9).setCell (p:=⟨P,2,none⟩) (.inl rfl) _);rw[eb];exact qP.set 2 (II (acts+1))
     ·have e14:decide ((v:Int)<14)=false:=by simp;omega
      by_cases c15:(v:Int)<15
      ·have e15:decide ((v:Int)<15)=true:=by simp;omega
       clear c8 c10 Oy c14 c15;go_wp2_with fail;refine (ae HTp w1 (ae H1).ok).mono ?_;rintro e wt ⟨ta,tm,tc,rfl,htm,kt⟩;have ht1:=(ae H1).bJ kt;have pt0:CC wt P 0 (PP x.bv):=ht1.gX.cell 0;have HW:=au ht1;have zO:Hid (∀W:World,Dc D ao len cap zs base W->CT 35 #[PP D,II (IntKind.i64.wrap ((tm:Int)+1))] W fun e w'=>∃v:Nat,e=.returned (II (v:Int))/\(v:Int)<(tm:Int)+1/\Dc D ao len cap zs base w'/\aj (fun x=>x=D) W w'):=fun W hd=>by
        have e:IntKind.i64.wrap ((tm:Int)+1)=(tm:Int)+1:=by rw[IntKind.wrap_i64];omega
        rw[e];exact ae Yk W hd ((tm:Int)+1) (by omega) (by omega)
       clear kt ht1;go_wp2;go_region_with (first | (have hsrc:=H2;go_at_call 35;refine (ae Yk _ ((ae H2).bJ (by repeat (first | exact aj.refl _ _ | refine aj.drew ?_ | refine aj.alloc ?_ _))).dc _ (by omega) (by omega)).mono ?_;rintro e ws ⟨s,rfl,hs,hd,k⟩;have hh:=((ae H2).bJ (by repeat (first | exact aj.refl _ _ | refine aj.drew ?_ | refine aj.alloc ?_ _))).qw hd k;have qs0:CC ws P 0 (PP x.bv):=hh.gX.cell 0;have qs1:CC ws P 1 (II (n:Int)):=hh.gX.cell 1;have H3:=au hh;clear hd k hh hsrc) | (have hsrc:=HW;go_at_call 35;refine (ae zO _ ((ae HW).bJ (by repeat (first | exact aj.refl _ _ | refine aj.drew ?_ | refine aj.alloc ?_ _))).dc).mono ?_;rintro e wu ⟨u,rfl,hu,hd,k⟩;have hh:=((ae HW).bJ (by repeat (first | exact aj.refl _ _ | refine aj.drew ?_ | refine aj.alloc ?_ _))).qw hd k;have qu0:CC wu P 0 (PP x.bv):=hh.gX.cell 0;have qu1:CC wu P 1 (II (n:Int)):=hh.gX.cell 1;have H2:=au hh;clear hd k hh hsrc) | (go_at_call 40;refine (ae HCo _ u s ((ae H3).bJ (by repeat (first | exact aj.refl _ _ | refine aj.drew ?_ | refine aj.alloc ?_ _))).rt hs).mono ?_;rintro e w9 ⟨E,rfl,hres⟩;have HR:=au hres;clear hres))
       all_goals
        rcases ae HR with⟨hE,kn⟩ | ⟨rfl,hnx⟩
        ·clear HR;have H9:=au (((ae H3).bJ (by repeat (first | exact aj.refl _ _ | refine aj.drew ?_ | refine aj.alloc ?_ _))).bJ kn);clear kn;rcases hE with rfl | rfl | rfl
         all_goals
          go_wp2;go_ret;exact⟨rfl,x,n,acts,by omega,ae H9,V9.refl x⟩
        ·clear HR;obtain⟨x2,ok2,qP,yC,yD,yB,eb,eN,eZ,eH,wV⟩:=((ae H3).bJ (by repeat (first | exact aj.refl _ _ | refine aj.drew ?_ | refine aj.alloc ?_ _))).next hnx;have p2:CC w9 P 2 (II acts):=qP.cell 2;have g2f:=qP.frozen 2;have HF:=au (And.intro ok2 (And.intro qP (And.intro yC (And.intro yD (And.intro yB (And.intro eb (And.intro eN (And.intro eZ (And.intro eH wV)))))))));clear hnx ok2 qP yC yD yB eb eN eZ eH wV;go_wp2;go_ret;obtain⟨ok2,qP,yC,yD,yB,eb,eN,eZ,⟨nt,S',eH⟩,wV⟩:=ae HF;refine⟨rfl,x2,n,acts+1,by omega,?_,.inr ⟨nt,S',eH⟩,eb,eN,eZ⟩;refine Pk.count (ae H1) ok2 wV (by rw[eH,List.length_append,ae HA];push_cast;rfl) ⟨_,_,by rw[eb];exact qP⟩ yC yD yB ?_ ((aj.refl (fun x=>x=P) w9).setCell (p:=⟨P,2,none⟩) (.inl rfl) _);rw[eb];exact qP.set 2 (II (acts+1))
      ·have e15:decide ((v:Int)<15)=false:=by simp;omega
       clear c8 c10 Oy c14 c15;go_wp2_with fail;refine (ae LD w1 (ae H1).rt).mono ?_;rintro e w9 ⟨rfl,hres⟩;have HR:=au hres;clear hres
       all_goals
        rcases ae HR with⟨hE,kn⟩ | ⟨-,hnx⟩
        ·clear HR;have H9:=au (((ae H1).bJ (by repeat (first | exact aj.refl _ _ | refine aj.drew ?_ | refine aj.alloc ?_ _))).bJ kn);clear kn;omega
        ·clear HR;obtain⟨x2,ok2,qP,yC,yD,yB,eb,eN,eZ,eH,wV⟩:=((ae H1).bJ (by repeat (first | exact aj.refl _ _ | refine aj.drew ?_ | refine aj.alloc ?_ _))).next hnx;have p2:CC w9 P 2 (II acts):=qP.cell 2;have g2f:=qP.frozen 2;have HF:=au (And.intro ok2 (And.intro qP (And.intro yC (And.intro yD (And.intro yB (And.intro eb (And.intro eN (And.intro eZ (And.intro eH wV)))))))));clear hnx ok2 qP yC yD yB eb eN eZ eH wV;go_wp2;go_ret;obtain⟨ok2,qP,yC,yD,yB,eb,eN,eZ,⟨nt,S',eH⟩,wV⟩:=ae HF;refine⟨rfl,x2,n,acts+1,by omega,?_,.inr ⟨nt,S',eH⟩,eb,eN,eZ⟩;refine Pk.count (ae H1) ok2 wV (by rw[eH,List.length_append,ae HA];push_cast;rfl) ⟨_,_,by rw[eb];exact qP⟩ yC yD yB ?_ ((aj.refl (fun x=>x=P) w9).setCell (p:=⟨P,2,none⟩) (.inl rfl) _);rw[eb];exact qP.set 2 (II (acts+1))
end Go.Proofs.YtigaphnafnpfnaaGreatDoor
