import Derived.Test.YtigaphnafnpfnaaGreatDoorQVY3
set_option linter.unusedVariables false
set_option linter.unusedSimpArgs false
set_option maxHeartbeats 8000000
set_option maxRecDepth 100000
namespace Go.Proofs.YtigaphnafnpfnaaGreatDoor
open Go.RowKit
attribute [local go_sem ↓] Go.wp_at_zero Go.wp_at_succ
theorem OM(base rb f:Nat)(A:List bD)(R:List Rc)(L:ByteArray)(av rv:Value)(S:RS)(sym:ByteArray)(out':List iT)(w:World)(h:RV w base rb A R L av rv)(hh:oN A S)(hn:A.length<=1000000000)(hlen:S.l.length<=1000)(hsy:S.sy.length<=1000)(hth:jO S.sy sym=true)(hE:nY S.l sym 0 f [] out')(hf:f<=1000) :
 CT 102 #[PP rb,.string sym,II 0] w fun e w'=>∃v,e=.returned (.tuple #[v,II 0])/\w'.ownsRow w.heap.size 93 3 v out'.length (jF out')/\aj aA w w':=by
 have HST:=ai (iH base rb A R L av rv S w h hh hn);obtain⟨N,hN⟩:=dQ S.l.length;have WG:Hid (∀V m,dF V w.heap.size w.heap.size S m->CT 142 #[PP w.heap.size,.string sym] V fun e w'=>e=.returned (.bool true)/\w'=V):=fun V m hW=>by
  have:=ku _ _ S m sym V hW hsy;rw[hth]at this;exact this
 have hlN:N<=1000:=by omega
 obtain⟨HN,HE⟩:=aZ hN hE;clear h hh hn hsy hth hE hN hlen;go_enter Tryz.func102,Tryz.ntmps102;go_wp2_with fail;refine (ae HST).mono ?_;rintro e w2 ⟨rfl,⟨m,st⟩,k2⟩;obtain⟨HC,HS2,Nz⟩:=fK (ae WG w2 m st) st k2;clear st k2 HST WG;go_wp2_with fail;refine (ae HC).mono ?_;rintro e w3 ⟨rfl,hw3⟩;rw[hw3];clear hw3 w3 HC;go_wp2;go_loopg [10] f (fun q ov wr=>∃out,wr.ownsRow w.heap.size 93 3 ov out.length (jF out)/\dF wr w.heap.size w.heap.size S m/\nY S.l sym 0 q out out'/\out.length+q<=f/\aj aA w wr)
 case atStart=>exact⟨[],World.ownsRow_nil _ _ _ _,ae HS2,ae HE,by simp,ae Nz⟩
 case round =>
  obtain⟨out,u,st,O,hq,hk⟩:=hrel;obtain⟨Q,hQ⟩:=dQ gk;have HQ:=ai hQ;rw[hQ]at O hq;clear hQ;obtain⟨oa,RH,hov⟩:=aJ u;have z:=C9 u hov;obtain⟨n,hnl⟩:=dQ out.length;rw[hnl]at u hov hq z;subst hov;obtain⟨W0,hW0⟩:=gy (wr.alloc (.cells #[II 0,II 0,II 0] 93));have k0:aj aA wr W0:=by rw[hW0];exact (aj.refl aA wr).alloc _
  have WY:Bi w w.heap.size n wr.heap.size S m (.slice oa n RH) out (Jo S.l sym 0 (fU out) 0) W0:=by
   refine⟨?_,st.ax k0,aB u k0 (fun _ _ x=>x),fun e=>?_,by have:=hk.size;exact this,hk.trans k0⟩
   ·rw[hW0];exact au.new _ _ _
   ·have:=(u.lt _ e).2;omega
  obtain⟨G,hbb⟩:=dQ wr.heap.size;rw[hbb]at WY;have hn1:n<=1000:=by omega
  obtain⟨Y6,YO,HHE,HBB,HW0,Ub⟩:=nH z WY O hbb hW0 hnl;clear u st O hk k0 WY hW0 hbb hnl z;go_wp2;rw[<-ae HW0,ae HBB];go_loopg [12] N (fun q iv wr=>∃i:Nat,iv=II (i:Int)/\i<=N/\q=N-i/\Bi w w.heap.size n G S m (.slice oa n RH) out (Jo S.l sym 0 (fU out) i) wr)
  case atStart=>exact⟨0,rfl,Nat.zero_le _,rfl,ae YO⟩
  case round =>
   obtain⟨i,rfl,hi,hgk,c⟩:=hrel;have HB1:=ai c;by_cases hlt:i<N
   ·obtain⟨g,gc,u1,_,_,lg,_,hc,_⟩:=c.st.SG (ae HN) (by omega);have j:=hc i hlt;obtain⟨o,ho⟩:=dQ (ak S.l i);rw[ho]at j;have X:Jo S.l sym 0 (fU out) (i+1)=lU sym 0 (fU out) (Jo S.l sym 0 (fU out) i) o:=by rw[<-ho];rfl
    have HX:=ai X;have o0:CC wr g (i * 13) (II o.id):=j 0 _ rfl;have o1:CC wr g (i * 13+1) (II o.aG):=j 1 _ rfl;have o2:CC wr g (i * 13+2) (.string o.sym):=j 2 _ rfl;have o3:CC wr g (i * 13+3) (II o.side):=j 3 _ rfl;have o4:CC wr g (i * 13+4) (II o.kind):=j 4 _ rfl;have o5:CC wr g (i * 13+5) (II o.af):=j 5 _ rfl;have o6:CC wr g (i * 13+6) (II o.az):=j 6 _ rfl;have o7:CC wr g (i * 13+7) (II o.entered):=j 7 _ rfl;have o8:CC wr g (i * 13+8) (II o.aH):=j 8 _ rfl;have o9:CC wr g (i * 13+9) (II o.filled):=j 9 _ rfl;have o10:CC wr g (i * 13+10) (II o.aX):=j 10 _ rfl;have o11:CC wr g (i * 13+11) (II o.exp):=j 11 _ rfl;have XY:CC wr g (i * 13+12) (II o.place):=j 12 _ rfl;obtain⟨b,M⟩:=dQ (Jo S.l sym 0 (fU out) i);rw[M]at HX c;have b0:CC wr G 0 (II b.af):=c.fJ.cell 0;have b1:CC wr G 1 (II b.az):=c.fJ.cell 1;have W:CC wr G 2 (II b.num):=c.fJ.cell 2;have f0:=c.fJ.frozen 0;have f1:=c.fJ.frozen 1;have f2:=c.fJ.frozen 2;have lbb:=c.fJ.lt;have a:=ai c;have H:=Gu sym 0 (fU out) b o;obtain⟨F,ZW⟩:=dQ (lU sym 0 (fU out) b o);rw[ZW]at H HX;have z:=ae Y6;have u:=c.row;clear hc j c ZW ho X M HB1;rcases H with⟨c1,e⟩ | ⟨c1,J,e⟩ | ⟨c1,J,c3,e⟩ | ⟨c1,J,c3,H⟩
    case inl =>
     have d:=ai (e:F=_);clear e z u;go_wp2;go_roundg (N-(i+1))
     case measure=>omega
     case rel=>exact⟨i+1,by push_cast;rfl,by omega,rfl,by rw[ae HX,ae d];exact (ae a).ext ((aj.refl aA wr).alloc _)⟩
    case inr.inl =>
     rw[c1]at o2;have d:=ai (e:F=_);clear e z u c1;go_wp2;go_roundg (N-(i+1))
     case measure=>omega
     case rel=>exact⟨i+1,by push_cast;rfl,by omega,rfl,by rw[ae HX,ae d];exact (ae a).ext ((aj.refl aA wr).alloc _)⟩
    case inr.inr.inl =>
     rw[c1]at o2;rw[J]at o3;rw[c3]at o8;have d:=ai (e:F=_);clear e z u c1 J c3;go_wp2;go_roundg (N-(i+1))
     case measure=>omega
     case rel=>exact⟨i+1,by push_cast;rfl,by omega,rfl,by rw[ae HX,ae d];exact (ae a).ext ((aj.refl aA wr).alloc _)⟩
    case inr.inr.inr =>
     rw[c1]at o2;rw[J]at o3;have hB:=Gw 0 b o.af;obtain⟨BT,ZU⟩:=dQ (wG 0 b o.af);rw[ZU]at hB H;have C:(BT=true/\b.num=0)\/((b.num == 0)=false/\decide (b.af<o.af)=BT):=hB;obtain⟨LP,Xl⟩:=dQ (fU out);rw[Xl]at z H;have HLP:=ai Xl;obtain⟨p,hp⟩:=dQ o.af;rw[hp]at o5 C H;obtain⟨U,hon⟩:=dQ o.aH;rw[hon]at o8 c3;obtain⟨HPP,I⟩:=aZ hp hon;clear c1 J hB ZU Xl hp hon;obtain⟨D,hWF⟩:(oI 0 LP p=true->((n=0)\/∃k s q,k<n/\(n:Int)-1=(k:Int)/\oa=some ⟨s,0,none⟩/\decide (p<q)=true/\wr.cell? ⟨s,k * 3,none⟩=some (II q)/\s<wr.heap.size))/\(oI 0 LP p=false->∃k s q,k<n/\(n:Int)-1=(k:Int)/\oa=some ⟨s,0,none⟩/\decide (p<q)=false/\wr.cell? ⟨s,k * 3,none⟩=some (II q)/\s<wr.heap.size):=by
      rcases z with⟨B,hl0⟩ | ⟨k,s,q,P,T,hgo,hl0,hcell⟩
      ·subst hl0;exact⟨fun _=>.inl B,fun r=>absurd r (by simp[oI])⟩
      ·subst hl0;obtain⟨x1,x2⟩:=hcell wr (by rw[<-ae Ub]at u ⊢;exact u);exact⟨fun r=>.inr ⟨k,s,q,P,T,hgo,r,x1,x2⟩,fun r=>⟨k,s,q,P,T,hgo,r,x1,x2⟩⟩
     clear z u;rcases H with⟨y,e⟩ | ⟨y,E,e⟩ | ⟨y,E,c5,e⟩ | ⟨y,E,c5,e⟩
     ·
      obtain⟨k,s,q,P,T,rfl,d0,q0,XP⟩:=hWF y;have d:=ai (e:F=_);have K:((n:Int) == 0)=false:=by simp;omega
      clear e D hWF y;rcases C with⟨rfl,t⟩ | ⟨t,d2⟩
      ·rw[t]at W;clear t;go_wp2;go_roundg (N-(i+1))
       case measure=>omega
       case rel=>exact⟨i+1,by push_cast;rfl,by omega,rfl,by rw[ae HX,ae d];exact (ae a).ext ((aj.refl aA wr).alloc _)⟩
      ·cases BT
       all_goals
        go_wp2;go_roundg (N-(i+1))
        case measure=>omega
        case rel=>exact⟨i+1,by push_cast;rfl,by omega,rfl,by rw[ae HX,ae d];exact (ae a).ext ((aj.refl aA wr).alloc _)⟩
     ·
      subst E;have d:=ai (e:F=_);rcases D y with B | ⟨k,s,q,P,T,rfl,d0,q0,XP⟩
      ·have K:((n:Int) == 0)=true:=by simp[B]
       clear e D hWF y B;rcases C with⟨_,t⟩ | ⟨t,d2⟩
       ·rw[t]at W;clear t;go_wp2;go_roundg (N-(i+1))
        case measure=>omega
        case rel =>
         refine⟨i+1,by push_cast;rfl,by omega,rfl,?_⟩;rw[ae HX,ae d,tV (ae I)];exact (Bi.put (b':=⟨p,wrap64 U,1⟩) (Nat.le_refl _) (ae a) (yD _ _ _ _ _) ((((((ae a).fJ.set 0 _).set 1 _).set 2 _).set 1 _).set 2 _)).ext ((aj.refl aA _).alloc _)
       ·go_wp2;go_roundg (N-(i+1))
        case measure=>omega
        case rel =>
         refine⟨i+1,by push_cast;rfl,by omega,rfl,?_⟩;rw[ae HX,ae d,tV (ae I)];exact (Bi.put (b':=⟨p,wrap64 U,1⟩) (Nat.le_refl _) (ae a) (yD _ _ _ _ _) ((((((ae a).fJ.set 0 _).set 1 _).set 2 _).set 1 _).set 2 _)).ext ((aj.refl aA _).alloc _)
      ·have K:((n:Int) == 0)=false:=by simp;omega
       clear e D hWF y;rcases C with⟨_,t⟩ | ⟨t,d2⟩
       ·rw[t]at W;clear t;go_wp2;go_roundg (N-(i+1))
        case measure=>omega
        case rel =>
         refine⟨i+1,by push_cast;rfl,by omega,rfl,?_⟩;rw[ae HX,ae d,tV (ae I)];exact (Bi.put (b':=⟨p,wrap64 U,1⟩) (Nat.le_refl _) (ae a) (yD _ _ _ _ _) ((((((ae a).fJ.set 0 _).set 1 _).set 2 _).set 1 _).set 2 _)).ext ((aj.refl aA _).alloc _)
       ·go_wp2;go_roundg (N-(i+1))
        case measure=>omega
        case rel =>
         refine⟨i+1,by push_cast;rfl,by omega,rfl,?_⟩;rw[ae HX,ae d,tV (ae I)];exact (Bi.put (b':=⟨p,wrap64 U,1⟩) (Nat.le_refl _) (ae a) (yD _ _ _ _ _) ((((((ae a).fJ.set 0 _).set 1 _).set 2 _).set 1 _).set 2 _)).ext ((aj.refl aA _).alloc _)
     ·
      have d:=ai (e:F=_);have t:(b.num == 0)=false:=by
       rcases C with⟨r,_⟩ | ⟨r,_⟩
       ·rw[E]at r;exact absurd r (by decide)
       ·exact r
      have hw2:=D y;subst c5;clear e D hWF y E C;rcases hw2 with B | ⟨k,s,q,P,T,rfl,d0,q0,XP⟩
      ·have K:((n:Int) == 0)=true:=by simp[B]
       clear B;go_wp2;go_roundg (N-(i+1))
       case measure=>omega
       case rel =>
        refine⟨i+1,by push_cast;rfl,by omega,rfl,?_⟩;rw[ae HX,ae d,EW (ae I)];exact (Bi.put (b':=⟨b.af,wrap64 (b.az+U),wrap64 (b.num+1)⟩) (Nat.le_refl _) (ae a) (Me _ _) (((ae a).fJ.set 1 _).set 2 _)).ext ((aj.refl aA _).alloc _)
      ·have K:((n:Int) == 0)=false:=by simp;omega
       go_wp2;go_roundg (N-(i+1))
       case measure=>omega
       case rel =>
        refine⟨i+1,by push_cast;rfl,by omega,rfl,?_⟩;rw[ae HX,ae d,EW (ae I)];exact (Bi.put (b':=⟨b.af,wrap64 (b.az+U),wrap64 (b.num+1)⟩) (Nat.le_refl _) (ae a) (Me _ _) (((ae a).fJ.set 1 _).set 2 _)).ext ((aj.refl aA _).alloc _)
     ·
      have d:=ai (e:F=_);obtain⟨t,d2⟩:(b.num == 0)=false/\decide (b.af<p)=false:=by
       rcases C with⟨r,_⟩ | ⟨r,hy⟩
       ·rw[E]at r;exact absurd r (by decide)
       ·rw[E]at hy;exact⟨r,hy⟩
      have hw2:=D y;clear e D hWF y E C;rcases hw2 with B | ⟨k,s,q,P,T,rfl,d0,q0,XP⟩
      ·have K:((n:Int) == 0)=true:=by simp[B]
       clear B;go_wp2;go_roundg (N-(i+1))
       case measure=>omega
       case rel=>exact⟨i+1,by push_cast;rfl,by omega,rfl,by rw[ae HX,ae d];exact (ae a).ext ((aj.refl aA wr).alloc _)⟩
      ·have K:((n:Int) == 0)=false:=by simp;omega
       go_wp2;go_roundg (N-(i+1))
       case measure=>omega
       case rel=>exact⟨i+1,by push_cast;rfl,by omega,rfl,by rw[ae HX,ae d];exact (ae a).ext ((aj.refl aA wr).alloc _)⟩
   ·obtain rfl:i=N:=by omega
    have X:Jo S.l sym 0 (fU out) i=kT S.l sym 0 out:=by unfold kT;rw[ae HN]
    rw[X]at c;have O:=ae HHE;obtain⟨b,M⟩:=dQ (kT S.l sym 0 out);have hinv:=O.inv;rw[M]at c hinv;obtain⟨g,gc,u1⟩:∃g gc,wr.cell? ⟨w.heap.size,1,none⟩=some (.slice g i gc):=by
     obtain⟨a0,c0,hv0⟩:=aJ c.st.dV;rw[ae HN]at hv0;exact⟨a0,c0,by rw[<-hv0];exact c.st.ay.cell 1⟩
    have b0:CC wr G 0 (II b.af):=c.fJ.cell 0;have b1:CC wr G 1 (II b.az):=c.fJ.cell 1;have W:CC wr G 2 (II b.num):=c.fJ.cell 2;have lbb:=c.fJ.lt;have a:=ai c;clear O X c HB1 YO Y6 HW0;rcases hinv with⟨Y,Z⟩ | ⟨f',Y,Z,he3⟩
    ·rw[Z]at W;have PE:=ai Y;clear Y Z M;go_wp2;go_ret2;exact⟨_,rfl,by rw[ae PE,ae Ub];exact (ae a).row,(ae a).jW⟩
    ·have e2:(b.num == 0)=false:=by simpa using Z
     obtain⟨HE3,PE⟩:=aZ he3 Y;have hmx:n+1<=maxLen:=by unfold maxLen;omega
     have lH:(n+1) * 24<=140737488355328:=by omega
     have hbs:w.heap.size<=wr.heap.size:=(ae a).jW.size;have HR3:=ai (ae a).row;obtain⟨i0,hi0,hz0,hz1,hz2⟩:=info_parts EJ;clear Y Z he3 M;go_wp2_with (at_builtin;refine wpList_append_own _ rfl _ _ 63 rfl w.heap.size 93 i0 (.agg #[II 0,II 0,II 0]) 3 24 Tryz.underlying63 hi0 hz0 hz1 hz2 rfl (by decide) _ n _ rfl ((ae HR3).alloc _) ⟨wr.heap.size,0,none⟩ 1 1 [II b.af,II b.az,II b.num] rfl rfl (Rt _ _) (by simp[Value.oneCell']) hmx lH (by simp;omega) ?_;intro v' w4 hown' hgrow hnil;clear hnil;have HO4:=ai hown';have Y1:=ai hgrow;clear hown' hgrow);go_roundg f'
     case measure=>have:=ae PE;have:=ae HQ;omega
     case rel =>
      refine⟨out++[b],?_,?_,ae HE3,?_,?_⟩
      ·rw[tX,List.length_append,List.length_singleton,ae Ub];exact ae HO4
      ·exact Bi.grown (ae a) (ae Y1)
      ·rw[List.length_append,List.length_singleton,ae Ub];have:=ae PE;omega
      ·exact Bi.QA (ae a) (ae Y1)
end Go.Proofs.YtigaphnafnpfnaaGreatDoor
