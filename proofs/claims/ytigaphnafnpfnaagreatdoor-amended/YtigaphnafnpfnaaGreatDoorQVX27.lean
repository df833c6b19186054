import Derived.Test.YtigaphnafnpfnaaGreatDoorQVX11
set_option linter.unusedVariables false
set_option linter.unusedSimpArgs false
set_option maxHeartbeats 8000000
set_option maxRecDepth 100000
namespace Go.Proofs.YtigaphnafnpfnaaGreatDoor
open Go.RowKit
attribute [local go_sem ↓] Go.wp_at_zero Go.wp_at_succ
theorem IV(base rb f:Nat)(A:List aP)(R:List Rc)(L:ByteArray)(av rv:Value)(S:RS)(sym:ByteArray)(out':List fJ)(w:World)(h:RV w base rb A R L av rv)(hh:Hist A S)(hn:A.length≤1000000000)(hlen:S.l.length≤1000)(hsy:S.sy.length≤1000)(hth:iC S.sy sym=true)(hE:kJ S.l sym 1 f [] out')(hf:f≤1000) :
 Calls Tryz.prog 102 #[.pointer (some ⟨rb,0,none⟩),.string sym,.int .i64 1] w fun e w'=>∃v,e=.returned (.tuple #[v,.int .i64 0])∧w'.ownsRow w.heap.size 93 3 v out'.length (flat out')∧ag ak w w':=by
 have HST:=hide (gX base rb A R L av rv S w h hh hn)
 obtain⟨N,hN⟩:∃N,S.l.length=N:=⟨_,rfl⟩
 have wR:Hid (∀W m,bH W w.heap.size w.heap.size S m→Calls Tryz.prog 142 #[.pointer (some ⟨w.heap.size,0,none⟩),.string sym] W fun e w'=>e=.returned (.bool true)∧w'=W):=fun W m hW=>by
  have:=iM _ _ S m sym W hW hsy
  rw[hth]at this
  exact this
 have Xz:N≤1000:=by omega
 have HN:=hide hN
 have HE:=hide hE
 clear h hh hn hsy hth hE hN hlen
 go_enter Tryz.func102,Tryz.ntmps102
 go_wp2_with fail
 refine (ae HST).mono ?_
 rintro e w2 ⟨rfl,⟨m,st⟩,k2⟩
 have HC:=hide (ae wR w2 m st)
 have HS2:=hide st
 have jC:=hide k2
 clear st k2 HST wR
 go_wp2_with fail
 refine (ae HC).mono ?_
 rintro e w3 ⟨rfl,hw3⟩
 rw[hw3]
 clear hw3 w3 HC
 go_wp2
 go_loopg [10] f (fun q ov wr=>∃out,wr.ownsRow w.heap.size 93 3 ov out.length (flat out)∧bH wr w.heap.size w.heap.size S m∧kJ S.l sym 1 q out out'∧out.length+q≤f∧ag ak w wr)
 case atStart=>exact⟨[],World.ownsRow_nil _ _ _ _,ae HS2,ae HE,by simp,ae jC⟩
 case round =>
  obtain⟨out,hrow,st,he,hq,hk⟩:=hrel
  obtain⟨Q,hQ⟩:∃Q,gk=Q:=⟨_,rfl⟩
  have HQ:=hide hQ
  rw[hQ]at he hq
  clear hQ
  obtain⟨oa,O7,hov⟩:=az hrow
  have hla:=Ap hrow hov
  obtain⟨n,hnl⟩:∃n,out.length=n:=⟨_,rfl⟩
  rw[hnl]at hrow hov hq hla
  subst hov
  obtain⟨W0,hW0⟩:∃W0,W0=wr.alloc (.cells #[.int .i64 0,.int .i64 0,.int .i64 0] 93):=⟨_,rfl⟩
  have k0:ag ak wr W0:=by rw[hW0];exact (ag.refl ak wr).alloc _
  have TN:Bi w w.heap.size n wr.heap.size S m (.slice oa n O7) out (GR S.l sym 1 (dQ out) 0) W0:=by
   refine⟨?_,st.aj k0,au hrow k0 (fun _ _ x=>x),fun e=>?_,by have:=hk.size;exact this,hk.trans k0⟩
   ·rw[hW0];exact ai.new _ _ _
   ·have:=(hrow.lt _ e).2;omega
  obtain⟨bb,hbb⟩:∃bb,wr.heap.size=bb:=⟨_,rfl⟩
  rw[hbb]at TN
  have hn1:n≤1000:=by omega
  have VX:=hide hla
  have VJ:=hide TN
  have ZQ:=hide he
  have ZB:=hide hbb
  have HW0:=hide hW0
  have MJ:=hide hnl
  clear hrow st he hk k0 TN hW0 hbb hnl hla
  go_wp2
  rw[←ae HW0,ae ZB]
  go_loopg [12] N (fun q iv wr=>∃i:Nat,iv=.int .i64 (i:Int)∧i≤N∧q=N-i∧Bi w w.heap.size n bb S m (.slice oa n O7) out (GR S.l sym 1 (dQ out) i) wr)
  case atStart=>exact⟨0,rfl,Nat.zero_le _,rfl,ae VJ⟩
  case round =>
   obtain⟨i,rfl,hi,hgk,bi⟩:=hrel
   have HB1:=hide bi
   by_cases hlt:i<N
   ·obtain⟨g,gc,u1,_,_,lg,_,hc,_⟩:=bi.st.see (ae HN) (by omega)
    have hcc:=hc i hlt
    obtain⟨o,ho⟩:∃o,ah S.l i=o:=⟨_,rfl⟩
    rw[ho]at hcc
    have hX:GR S.l sym 1 (dQ out) (i+1)=jE sym 1 (dQ out) (GR S.l sym 1 (dQ out) i) o:=by rw[←ho];rfl
    have HX:=hide hX
    have o0:wr.cell? ⟨g,i * 13,none⟩=some (.int .i64 o.id):=hcc 0 _ rfl
    have o1:wr.cell? ⟨g,i * 13+1,none⟩=some (.int .i64 o.owner):=hcc 1 _ rfl
    have o2:wr.cell? ⟨g,i * 13+2,none⟩=some (.string o.sym):=hcc 2 _ rfl
    have o3:wr.cell? ⟨g,i * 13+3,none⟩=some (.int .i64 o.side):=hcc 3 _ rfl
    have o4:wr.cell? ⟨g,i * 13+4,none⟩=some (.int .i64 o.kind):=hcc 4 _ rfl
    have o5:wr.cell? ⟨g,i * 13+5,none⟩=some (.int .i64 o.price):=hcc 5 _ rfl
    have o6:wr.cell? ⟨g,i * 13+6,none⟩=some (.int .i64 o.qty):=hcc 6 _ rfl
    have o7:wr.cell? ⟨g,i * 13+7,none⟩=some (.int .i64 o.entered):=hcc 7 _ rfl
    have o8:wr.cell? ⟨g,i * 13+8,none⟩=some (.int .i64 o.opn):=hcc 8 _ rfl
    have o9:wr.cell? ⟨g,i * 13+9,none⟩=some (.int .i64 o.filled):=hcc 9 _ rfl
    have Zk:wr.cell? ⟨g,i * 13+10,none⟩=some (.int .i64 o.aG):=hcc 10 _ rfl
    have Zl:wr.cell? ⟨g,i * 13+11,none⟩=some (.int .i64 o.exp):=hcc 11 _ rfl
    have VA:wr.cell? ⟨g,i * 13+12,none⟩=some (.int .i64 o.place):=hcc 12 _ rfl
    obtain⟨b,hb⟩:∃b,GR S.l sym 1 (dQ out) i=b:=⟨_,rfl⟩
    rw[hb]at HX bi
    have b0:wr.cell? ⟨bb,0,none⟩=some (.int .i64 b.price):=bi.best.cell 0
    have b1:wr.cell? ⟨bb,1,none⟩=some (.int .i64 b.qty):=bi.best.cell 1
    have b2:wr.cell? ⟨bb,2,none⟩=some (.int .i64 b.num):=bi.best.cell 2
    have f0:=bi.best.frozen 0
    have f1:=bi.best.frozen 1
    have f2:=bi.best.frozen 2
    have lbb:=bi.best.lt
    have jB:=hide bi
    have hcase:=Ei sym 1 (dQ out) b o
    obtain⟨X,Xc⟩:∃X,jE sym 1 (dQ out) b o=X:=⟨_,rfl⟩
    rw[Xc]at hcase HX
    have hla:=ae VX
    have hrow:=bi.row
    clear hc hcc bi Xc ho hX hb HB1
    rcases hcase with⟨c1,e⟩ | ⟨c1,c2,e⟩ | ⟨c1,c2,c3,e⟩ | ⟨c1,c2,c3,hcase⟩
    case inl =>
     have nU:=hide (e:X=_)
     clear e hla hrow
     go_wp2
     go_roundg (N-(i+1))
     case measure=>omega
     case rel=>exact⟨i+1,by push_cast;rfl,by omega,rfl,by rw[ae HX,ae nU];exact (ae jB).ext ((ag.refl ak wr).alloc _)⟩
    case inr.inl =>
     rw[c1]at o2
     have nU:=hide (e:X=_)
     clear e hla hrow c1
     go_wp2
     go_roundg (N-(i+1))
     case measure=>omega
     case rel=>exact⟨i+1,by push_cast;rfl,by omega,rfl,by rw[ae HX,ae nU];exact (ae jB).ext ((ag.refl ak wr).alloc _)⟩
    case inr.inr.inl =>
     rw[c1]at o2
     rw[c2]at o3
     rw[c3]at o8
     have nU:=hide (e:X=_)
     clear e hla hrow c1 c2 c3
     go_wp2
     go_roundg (N-(i+1))
     case measure=>omega
     case rel=>exact⟨i+1,by push_cast;rfl,by omega,rfl,by rw[ae HX,ae nU];exact (ae jB).ext ((ag.refl ak wr).alloc _)⟩
    case inr.inr.inr =>
     rw[c1]at o2
     rw[c2]at o3
     have hB:=En 1 b o.price
     obtain⟨BT,Xb⟩:∃BT,sV 1 b o.price=BT:=⟨_,rfl⟩
     rw[Xb]at hB hcase
     have hB2:(BT=true∧b.num=0)∨((b.num == 0)=false∧decide (o.price<b.price)=BT):=hB
     obtain⟨LP,Ua⟩:∃LP,dQ out=LP:=⟨_,rfl⟩
     rw[Ua]at hla hcase
     have HLP:=hide Ua
     obtain⟨p,hp⟩:∃p,o.price=p:=⟨_,rfl⟩
     rw[hp]at o5 hB2 hcase
     obtain⟨on,hon⟩:∃on,o.opn=on:=⟨_,rfl⟩
     rw[hon]at o8 c3
     have HPP:=hide hp
     have oN:=hide hon
     clear c1 c2 hB Xb Ua hp hon
     obtain⟨EH,KU⟩:(kU 1 LP p=true→((n=0)∨∃k go q,k<n∧(n:Int)-1=(k:Int)∧oa=some ⟨go,0,none⟩∧decide (q<p)=true∧wr.cell? ⟨go,k * 3,none⟩=some (.int .i64 q)∧go<wr.heap.size))∧(kU 1 LP p=false→∃k go q,k<n∧(n:Int)-1=(k:Int)∧oa=some ⟨go,0,none⟩∧decide (q<p)=false∧wr.cell? ⟨go,k * 3,none⟩=some (.int .i64 q)∧go<wr.heap.size):=by
      rcases hla with⟨hn0,hl0⟩ | ⟨k,go,q,hk1,hk2,hgo,hl0,hcell⟩
      ·subst hl0
       exact⟨fun _=>.inl hn0,fun hx=>absurd hx (by simp[kU])⟩
      ·subst hl0
       obtain⟨x1,x2⟩:=hcell wr (by rw[←ae MJ]at hrow ⊢;exact hrow)
       exact⟨fun hx=>.inr ⟨k,go,q,hk1,hk2,hgo,hx,x1,x2⟩,fun hx=>⟨k,go,q,hk1,hk2,hgo,hx,x1,x2⟩⟩
     clear hla hrow
     rcases hcase with⟨hw,e⟩ | ⟨hw,hbt,e⟩ | ⟨hw,hbt,c5,e⟩ | ⟨hw,hbt,c5,e⟩
     ·
      obtain⟨k,go,q,hk1,hk2,rfl,d0,q0,UL⟩:=KU hw
      have nU:=hide (e:X=_)
      have en:((n:Int) == 0)=false:=by simp;omega
      clear e EH KU hw
      rcases hB2 with⟨rfl,d1⟩ | ⟨d1,d2⟩
      ·rw[d1]at b2
       clear d1
       go_wp2
       go_roundg (N-(i+1))
       case measure=>omega
       case rel=>exact⟨i+1,by push_cast;rfl,by omega,rfl,by rw[ae HX,ae nU];exact (ae jB).ext ((ag.refl ak wr).alloc _)⟩
      ·cases BT
       all_goals
        go_wp2
        go_roundg (N-(i+1))
        case measure=>omega
        case rel=>exact⟨i+1,by push_cast;rfl,by omega,rfl,by rw[ae HX,ae nU];exact (ae jB).ext ((ag.refl ak wr).alloc _)⟩
     ·
      subst hbt
      have nU:=hide (e:X=_)
      rcases EH hw with hn0 | ⟨k,go,q,hk1,hk2,rfl,d0,q0,UL⟩
      ·have en:((n:Int) == 0)=true:=by simp[hn0]
       clear e EH KU hw hn0
       rcases hB2 with⟨_,d1⟩ | ⟨d1,d2⟩
       ·rw[d1]at b2
        clear d1
        go_wp2
        go_roundg (N-(i+1))
        case measure=>omega
        case rel =>
         refine⟨i+1,by push_cast;rfl,by omega,rfl,?_⟩
         rw[ae HX,ae nU,pX (ae oN)]
         exact (Bi.put (b':=⟨p,wrap64 on,1⟩) (Nat.le_refl _) (ae jB) (vG _ _ _ _ _) ((((((ae jB).best.set 0 _).set 1 _).set 2 _).set 1 _).set 2 _)).ext ((ag.refl ak _).alloc _)
       ·go_wp2
        go_roundg (N-(i+1))
        case measure=>omega
        case rel =>
         refine⟨i+1,by push_cast;rfl,by omega,rfl,?_⟩
         rw[ae HX,ae nU,pX (ae oN)]
         exact (Bi.put (b':=⟨p,wrap64 on,1⟩) (Nat.le_refl _) (ae jB) (vG _ _ _ _ _) ((((((ae jB).best.set 0 _).set 1 _).set 2 _).set 1 _).set 2 _)).ext ((ag.refl ak _).alloc _)
      ·have en:((n:Int) == 0)=false:=by simp;omega
       clear e EH KU hw
       rcases hB2 with⟨_,d1⟩ | ⟨d1,d2⟩
       ·rw[d1]at b2
        clear d1
        go_wp2
        go_roundg (N-(i+1))
        case measure=>omega
        case rel =>
         refine⟨i+1,by push_cast;rfl,by omega,rfl,?_⟩
         rw[ae HX,ae nU,pX (ae oN)]
         exact (Bi.put (b':=⟨p,wrap64 on,1⟩) (Nat.le_refl _) (ae jB) (vG _ _ _ _ _) ((((((ae jB).best.set 0 _).set 1 _).set 2 _).set 1 _).set 2 _)).ext ((ag.refl ak _).alloc _)
       ·go_wp2
        go_roundg (N-(i+1))
        case measure=>omega
        case rel =>
         refine⟨i+1,by push_cast;rfl,by omega,rfl,?_⟩
         rw[ae HX,ae nU,pX (ae oN)]
         exact (Bi.put (b':=⟨p,wrap64 on,1⟩) (Nat.le_refl _) (ae jB) (vG _ _ _ _ _) ((((((ae jB).best.set 0 _).set 1 _).set 2 _).set 1 _).set 2 _)).ext ((ag.refl ak _).alloc _)
     ·
      have nU:=hide (e:X=_)
      have d1:(b.num == 0)=false:=by
       rcases hB2 with⟨hx,_⟩ | ⟨hx,_⟩
       ·rw[hbt]at hx;exact absurd hx (by decide)
       ·exact hx
      have hw2:=EH hw
      subst c5
      clear e EH KU hw hbt hB2
      rcases hw2 with hn0 | ⟨k,go,q,hk1,hk2,rfl,d0,q0,UL⟩
      ·have en:((n:Int) == 0)=true:=by simp[hn0]
       clear hn0
       go_wp2
       go_roundg (N-(i+1))
       case measure=>omega
       case rel =>
        refine⟨i+1,by push_cast;rfl,by omega,rfl,?_⟩
        rw[ae HX,ae nU,CU (ae oN)]
        exact (Bi.put (b':=⟨b.price,wrap64 (b.qty+on),wrap64 (b.num+1)⟩) (Nat.le_refl _) (ae jB) (Jw _ _) (((ae jB).best.set 1 _).set 2 _)).ext ((ag.refl ak _).alloc _)
      ·have en:((n:Int) == 0)=false:=by simp;omega
       go_wp2
       go_roundg (N-(i+1))
       case measure=>omega
       case rel =>
        refine⟨i+1,by push_cast;rfl,by omega,rfl,?_⟩
        rw[ae HX,ae nU,CU (ae oN)]
        exact (Bi.put (b':=⟨b.price,wrap64 (b.qty+on),wrap64 (b.num+1)⟩) (Nat.le_refl _) (ae jB) (Jw _ _) (((ae jB).best.set 1 _).set 2 _)).ext ((ag.refl ak _).alloc _)
     ·
      have nU:=hide (e:X=_)
      obtain⟨d1,d2⟩:(b.num == 0)=false∧decide (p<b.price)=false:=by
       rcases hB2 with⟨hx,_⟩ | ⟨hx,hy⟩
       ·rw[hbt]at hx;exact absurd hx (by decide)
       ·rw[hbt]at hy;exact⟨hx,hy⟩
      have hw2:=EH hw
      clear e EH KU hw hbt hB2
      rcases hw2 with hn0 | ⟨k,go,q,hk1,hk2,rfl,d0,q0,UL⟩
      ·have en:((n:Int) == 0)=true:=by simp[hn0]
       clear hn0
       go_wp2
       go_roundg (N-(i+1))
       case measure=>omega
       case rel=>exact⟨i+1,by push_cast;rfl,by omega,rfl,by rw[ae HX,ae nU];exact (ae jB).ext ((ag.refl ak wr).alloc _)⟩
      ·have en:((n:Int) == 0)=false:=by simp;omega
       go_wp2
       go_roundg (N-(i+1))
       case measure=>omega
       case rel=>exact⟨i+1,by push_cast;rfl,by omega,rfl,by rw[ae HX,ae nU];exact (ae jB).ext ((ag.refl ak wr).alloc _)⟩
   ·obtain rfl:i=N:=by omega
    have hX:GR S.l sym 1 (dQ out) i=iV S.l sym 1 out:=by unfold iV;rw[ae HN]
    rw[hX]at bi
    have he:=ae ZQ
    obtain⟨b,hb⟩:∃b,iV S.l sym 1 out=b:=⟨_,rfl⟩
    have hinv:=he.inv
    rw[hb]at bi hinv
    obtain⟨g,gc,u1⟩:∃g gc,wr.cell? ⟨w.heap.size,1,none⟩=some (.slice g i gc):=by
     obtain⟨a0,c0,hv0⟩:=az bi.st.bI
     rw[ae HN]at hv0
     exact⟨a0,c0,by rw[←hv0];exact bi.st.blk.cell 1⟩
    have b0:wr.cell? ⟨bb,0,none⟩=some (.int .i64 b.price):=bi.best.cell 0
    have b1:wr.cell? ⟨bb,1,none⟩=some (.int .i64 b.qty):=bi.best.cell 1
    have b2:wr.cell? ⟨bb,2,none⟩=some (.int .i64 b.num):=bi.best.cell 2
    have lbb:=bi.best.lt
    have jB:=hide bi
    clear he hX bi HB1 VJ VX HW0
    rcases hinv with⟨he1,he2⟩ | ⟨f',he1,he2,he3⟩
    ·rw[he2]at b2
     have Na:=hide he1
     clear he1 he2 hb
     go_wp2
     go_ret2
     exact⟨_,rfl,by rw[ae Na,ae MJ];exact (ae jB).row,(ae jB).gY⟩
    ·have e2:(b.num == 0)=false:=by simpa using he2
     have ZK:=hide he3
     have Na:=hide he1
     have hmx:n+1≤maxLen:=by unfold maxLen;omega
     have ik:(n+1) * 24≤140737488355328:=by omega
     have hbs:w.heap.size≤wr.heap.size:=(ae jB).gY.size
     have HR3:=hide (ae jB).row
     obtain⟨i0,hi0,hz0,hz1,hz2⟩:=info_parts Ci
     clear he1 he2 he3 hb
     go_wp2_with (at_builtin;refine wpList_append_own _ rfl _ _ 63 rfl w.heap.size 93 i0 (.agg #[.int .i64 0,.int .i64 0,.int .i64 0]) 3 24 Tryz.underlying63 hi0 hz0 hz1 hz2 rfl (by decide) _ n _ rfl ((ae HR3).alloc _) ⟨wr.heap.size,0,none⟩ 1 1 [.int .i64 b.price,.int .i64 b.qty,.int .i64 b.num] rfl rfl (O0 _ _) (by simp[Value.oneCell']) hmx ik (by simp;omega) ?_;intro v' w4 hown' hgrow hnil;clear hnil;have Qm:=hide hown';have Nb:=hide hgrow;clear hown' hgrow)
     go_roundg f'
     case measure=>have:=ae Na;have:=ae HQ;omega
     case rel =>
      refine⟨out++[b],?_,?_,ae ZK,?_,?_⟩
      ·rw[pY,List.length_append,List.length_singleton,ae MJ];exact ae Qm
      ·exact Bi.grown (ae jB) (ae Nb)
      ·rw[List.length_append,List.length_singleton,ae MJ];have:=ae Na;omega
      ·exact Bi.Ob (ae jB) (ae Nb)
end Go.Proofs.YtigaphnafnpfnaaGreatDoor
