import Derived.Test.YtigaphnafnpfnaaGreatDoorQVV25
set_option linter.unusedVariables false
set_option linter.unusedSimpArgs false
set_option maxHeartbeats 8000000
set_option maxRecDepth 100000
namespace Go.Proofs.YtigaphnafnpfnaaGreatDoor
open Go.RowKit Go.Maps
attribute [local go_sem ↓] Go.wp_at_zero Go.wp_at_succ
open Go.RowKit
theorem CS{P:Program}(a b:ByteArray)(h:a.size+b.size<=100000000000)(c:World):(Op.stringOp .add a b).run P c=.ok (.string (a++b)) c:=run_string_add_sum c _ _ (by omega)
theorem Rc.CV(r:Rc):r.cells.length=9:=rfl
theorem dF.aa1{w:World}{base n c:Nat}{a:Option Addr}{S:RS}{m:SM}(h:dF w base n S m)(l:m.ov=.slice a S.told.length c){i:Nat}{r:Rc}(e:S.told[i]?=some r):∃g,a=some ⟨g,0,none⟩/\g<w.heap.size/\(∀j d,(r.cells)[j]?=some d->w.cell? ⟨g,i * 9+j,none⟩=some d):=by
 have p:i<S.told.length:=(List.getElem?_eq_some_iff.1 e).1;have b:=h.lZ;rw[l]at b;obtain⟨g,rfl,o⟩:=gQ b (by omega);refine⟨g,rfl,(b.lt g rfl).2,fun j d f=>?_⟩;have k:j<9:=by have:=(List.getElem?_eq_some_iff.1 f).1;rw[Rc.CV]at this;exact this
 rw[b.cellAt _ (by omega)];exact (ou Rc.cells 9 Rc.CV S.told i j _ e k).trans f
theorem Dn.ext{w e f:World}{base c:Nat}{A:List bD}{R:List Rc}{a:ByteArray}{av d:Value}{S':RS}{m:SM}{b:Array Value}(h:Dn w base c A R a av d S' m b e)(k:aj aA e f):Dn w base c A R a av d S' m b f :=
 ⟨h.rv.ax k,h.st.ax k,k.ay h.act idd,k.ay h.z idd,h.k.trans k⟩
theorem Dn.QV{w g a:World}{base c:Nat}{A:List bD}{R:List Rc}{e:ByteArray}{av d:Value}{S':RS}{m:SM}{f:Array Value}(h0:RV w base c A R e av d)(h:Dn w base c A R e av d S' m f g)(k:aj (RF c av d) g a):dF a (w.heap.size+2) (w.heap.size+2) S' m/\au a w.heap.size f 169/\au a (w.heap.size+1) bC 87:=by
 have nb:∀b,w.heap.size<=b->¬RF c av d b:=fun b i j=>by have:=(h0.lt j).2;omega
 exact⟨h.st.aC k (fun b i _=>nb b (by omega)),k.ay h.act (nb _ (Nat.le_refl _)),k.ay h.z (nb _ (by omega))⟩
theorem X8(base f:Nat)(A:List bD)(R:List Rc)(l C:ByteArray)(av J:Value)(S S':RS)(x:bD)(E F G H I:Int)(w:World)(h:RV w base f A R l av J)(hh:oN A S)(hn:A.length<1000000000)(hd:jP S x S' (dm E F G H I) 0)
 (hl:∀y,CT 139 #[x.val] y fun e w'=>e=.returned (.string C)/\aj aA y w') (hL:l.size<=10000000000) (hln:C.size<=1000000) (hR:R.length+S'.told.length<1000000000) :
 CT 99 #[PP f,x.val] w fun e w'=>e=.returned (.tuple #[dm E F G H I,II 0])/\wC base f (A++[x]) (nJ R S'.told) (l++C++⟨#[10]⟩) av J w w':=by
 obtain⟨kind,s,⟨id,V,sym,side,U,af,az⟩,a,b,c,again⟩:=x;obtain⟨W1,hW1⟩:=gy (((w.alloc (.cells #[.int .u8 kind,.string s,II id,II V,.string sym,II side,II U,II af,II az,II a,II b,II c,.bool again] 169)).alloc (.cells bC 87)));have k1:aj aA w W1:=by rw[hW1];exact ((aj.refl aA w).alloc _).alloc _
 have hs1:W1.heap.size=w.heap.size+2:=by rw[hW1];simp
 have b0:au W1 w.heap.size #[.int .u8 kind,.string s,II id,II V,.string sym,II side,II U,II af,II az,II a,II b,II c,.bool again] 169:=by rw[hW1];exact (au.new w _ _).alloc _
 have HST:=ai (iH base f A R l av J S W1 (h.ax k1) hh (by omega));rw[hs1]at HST;obtain⟨HD,HB0,Eb,HW1,HRV⟩:=mi hd b0 k1 hW1 h;have lrb:=h.ay.lt;have hge:=h.ge;have HLN:=ai hl;obtain⟨q,hX⟩:∃q:bD,q=⟨kind,s,⟨id,V,sym,side,U,af,az⟩,a,b,c,again⟩:=⟨_,rfl⟩;have HX:=ai hX;rw[<-hX];rw[<-hX]at HD;simp only[bD.val,bD.cells]at HLN;have hxv:q.val=.agg #[.int .u8 kind,.string s,II id,II V,.string sym,II side,II U,II af,II az,II a,II b,II c,.bool again]:=by rw[hX];rfl
 rw[hxv];have HXV:=ai hxv;have c1:=CS (P:=Tryz.prog) l C (by omega);have c2:=CS (P:=Tryz.prog) (l++C) (⟨#[10]⟩:ByteArray) (by rw[ByteArray.size_append];show l.size+C.size+1<=_;omega);obtain⟨n,hn'⟩:=dQ A.length;obtain⟨i0,z0',hi0,hz0,hz1,hz2,hz3⟩:=BM;have hmx:n+1<=maxLen:=by unfold maxLen;omega
 have lH:(n+1) * 120<=140737488355328:=by omega
 have HN:=ai hn';simp only[bC]at HW1;clear hd hh h k1 hs1 b0 hW1 hl hX hxv hn';go_enter Tryz.func99,Tryz.ntmps99;go_wp2_with fail;rw[<-ae HW1];refine (ae HST).mono ?_;rintro e w2 ⟨rfl,⟨m,st⟩,Q⟩;have M:=Q.ay (ae HB0) idd;obtain⟨x0,x1,x2,x3,x4,x5,x6,x7,x8,x9,x10,x11,x12⟩:=M.JK;have HD2:=ai (ae HD _ _ m w2 st);rw[ae HW1]at Q;obtain⟨Nz,HSt⟩:=aZ Q st;rw[ae HXV]at HD2;simp only[dm]at HD2;clear HD st Q M;go_wp2_with fail;refine (ae HD2).mono ?_;rintro e w3 ⟨rfl,hn3⟩;obtain⟨m3,d3⟩:=Dn.of (ae HRV) (ae Nz) (ae HSt) hn3;obtain⟨d,hw4⟩:=gy (w3.alloc (.cells #[II E,II F,II G,II H,II I] 87));have k4:aj aA w3 d:=by rw[hw4];exact (aj.refl aA w3).alloc _
 have bT:au d w3.heap.size #[II E,II F,II G,II H,II I] 87:=by rw[hw4];exact au.new _ _ _
 have v:=d3.ext k4;have lz:=d3.z.lt;obtain⟨T,hT⟩:=dQ w3.heap.size;rw[hT]at bT lz;have HKP:Hid (∀y,aj (RF f av J) d y->(dF y (w.heap.size+2) (w.heap.size+2) S' m3/\au y w.heap.size #[.int .u8 kind,.string s,II id,II V,.string sym,II side,II U,II af,II az,II a,II b,II c,.bool again] 169/\au y (w.heap.size+1) bC 87)/\au y T #[II E,II F,II G,II H,II I] 87):=fun y k =>
  ⟨Dn.QV (ae HRV) v k,k.ay bT (fun hr=>by have:=((ae HRV).lt hr).2;omega)⟩
 obtain⟨aa,ac,hav⟩:=aJ v.rv.sQ;rw[ae HN]at hav;have u0:d.cell? ⟨f,0,none⟩=some (.slice aa n ac):=by rw[<-hav];exact v.rv.ay.cell 0
 obtain⟨w5,hw5⟩:=gy ((d.alloc (.cells #[.int .u8 kind,.string s,II id,II V,.string sym,II side,II U,II af,II az,II a,II b,II c,.bool again] 169)).drew);have k5:aj aA d w5:=by rw[hw5];exact ((aj.refl aA d).alloc _).drew
 have hs5:w5.heap.size=d.heap.size+1:=by rw[hw5];simp
 have r5:w5.ownsRow base 169 13 (.slice aa n ac) n (uV A):=by
  have r:=(v.rv.ax k5).sQ;rw[hav,ae HN]at r;exact r
 have hnews:∀j W,(xG q)[j]?=some W->w5.cell? (Addr.add ⟨d.heap.size,0,none⟩ j)=some W:=by
  intro j W hj;have:=aaG d q j W hj;rw[ae HX]at this;rw[hw5];exact this
 have hone:∀W∈xG q,W.oneCell'=true:=by simp[xG,Value.oneCell']
 obtain⟨y0,y1,y2,y3,y4,y5,y6,y7,y8,y9,y10,y11,y12⟩:=v.act.JK;have ab9:f<d.heap.size:=v.rv.ay.lt;have lH4:w.heap.size<d.heap.size:=v.act.lt;obtain⟨Ze,HS5,Jq,CE,Yo,L,LY,LZ,Pj,HD4,HT⟩:=QH r5 hs5 hnews hone hav (v.rv.ax k5) k5 hw4 hw5 v hT;clear hn3 d3 v x0 x1 x2 x3 x4 x5 x6 x7 x8 x9 x10 x11 x12 HD2 HST k4 bT hav hw4 hw5 k5 r5 hs5 hnews hone hT;go_upto_region 5 with fail;rw[<-ae LZ];go_cut [] from 22 (fun wc=>wC base f (A++[q]) R l av J d wc)
 case first JJ KK hJ hK =>
  go_region_law (first | (rw[<-ae Pj];refine step_append_lies _ rfl (.tmp 26) (.tmp 28) 127 rfl base 169 i0 z0' 13 120 Tryz.underlying127 hi0 hz0 hz1 hz2 hz3 (by decide) (.slice aa n ac) n (uV A) rfl (ae Ze) ⟨d.heap.size,0,none⟩ 1 1 (xG q) rfl rfl (ae Jq) (ae CE) (by omega) hmx lH (by have:=ae HS5;omega) (d.heap.size+1) (ae HS5) ?_;intro g6 cap6 w6 hown2 hgrow hat hlt;have Ec:=ai hown2;have HG2:=ai hgrow;have HA2:=ai hat;have M:au w6 f _ 129:=(hgrow.block f (ae L).ay.lt (fun e=>by obtain⟨cs,o⟩:=aF (ae L).sQ (b:=f) (by rw[ae Yo];exact e.symm);exact au.ne o (ae L).ay (by decide) rfl)).trans (ae L).ay;have v52:=M.cell 0;have f52:=M.frozen 0;simp at v52;clear hown2 hgrow hat M))
  all_goals
   refine hK _ _ (Met.intro (hJ _ _ ?_))
   repeat apply Exists.intro
   refine⟨?rel,rfl⟩
   case rel =>
    exact wC.pre (ae LY) ((ae L).PS (x:=q) (ae HN) (ae Ec) (by rw[ae Yo];exact ae HG2) (by rw[ae Yo];exact ae HA2) (ae HS5))
 case rest =>
  clear u0 y0 y1 y2 y3 y4 y5 y6 y7 y8 y9 y10 y11 y12 ab9 lH4 Ze HS5 Jq CE Yo L LY LZ Pj;have HCU:=ai hcut;obtain⟨X,r1,p,D,B⟩:=hcut;obtain⟨⟨K,Y,u⟩,Z⟩:=ae HKP wc B;obtain⟨y0,y1,y2,y3,y4,y5,y6,y7,y8,y9,y10,y11,y12⟩:=Y.JK;have l2:CC wc f 2 (.string l):=p.ay.cell 2;have f2:=p.ay.frozen 2;have aca:=p.ay.lt;have Yw:=ai p;clear p D B K Y u Z;go_upto_region 6 with fail;go_cut [] from 32 (fun wd=>wC base f (A++[q]) R (l++C++⟨#[10]⟩) av J d wd)
  case first JJ KK hJ hK =>
   go_region_with (first | (go_at_call 139;refine (ae HLN _).mono ?_;rintro e w7 ⟨rfl,k7⟩;have v7:=((ae Yw).ax ((aj.refl aA wc).drew)).ax k7;have l27:CC w7 f 2 (.string l):=v7.ay.cell 2;have f27:=v7.ay.frozen 2;have l7:=v7.ay.lt;have HV7:=ai v7;have Y4:=ai k7;clear k7 v7))
   all_goals
    refine hK _ _ (Met.intro (hJ _ _ ?_))
    repeat apply Exists.intro
    refine⟨?rel,rfl⟩
    case rel =>
     exact ((ae HCU).ext (((aj.refl aA wc).drew).trans (ae Y4))).trans (fun a' b' hv=>hv.aaD _)
  case rest =>
   clear Yw HCU y0 y1 y2 y3 y4 y5 y6 y7 y8 y9 y10 y11 y12 l2 f2 aca HLN;obtain⟨N,YD⟩:=dQ S'.told.length;have Wy:=ai YD;have hNb:N<1000000000:=by omega
   have HCU:=ai hcut;clear hcut YD c1 c2;go_wp2;go_loopg [9] N (fun k iv wr=>∃i:Nat,iv=II (i:Int)/\i<=N/\k=N-i/\wC base f (A++[q]) (nJ R (S'.told.take i)) (l++C++⟨#[10]⟩) av J d wr)
   case atStart=>exact⟨0,rfl,Nat.zero_le _,rfl,by rw[List.take_zero];exact ae HCU⟩
   case round =>
    obtain⟨i,rfl,hi,hgk,Oj⟩:=hrel;have HRN:=ai Oj;obtain⟨X,r1,p,D,B⟩:=Oj;obtain⟨⟨K,Y,u⟩,Z⟩:=ae HKP wr B;obtain⟨oa,oc,hov⟩:=aJ K.lZ;have o5:wr.cell? ⟨w.heap.size+2,5,none⟩=some (.slice oa N oc):=by rw[<-ae Wy,<-hov];exact K.ay.cell 5
    by_cases hlt:i<N
    ·obtain⟨r,hr⟩:∃r,S'.told[i]?=some r:=⟨_,List.getElem?_eq_getElem (by rw[ae Wy];exact hlt)⟩;obtain⟨g,rfl,lg,o⟩:=K.aa1 hov hr;have x0:CC wr g (i * 9) (II r.num):=o 0 _ rfl;have x1:CC wr g (i * 9+1) (II r.kind):=o 1 _ rfl;have x2:CC wr g (i * 9+2) (II r.t.num):=o 2 _ rfl;have x3:CC wr g (i * 9+3) (.string r.t.sym):=o 3 _ rfl;have x4:CC wr g (i * 9+4) (II r.t.af):=o 4 _ rfl;have x5:CC wr g (i * 9+5) (II r.t.az):=o 5 _ rfl;have x6:CC wr g (i * 9+6) (II r.t.lF):=o 6 _ rfl;have x7:CC wr g (i * 9+7) (II r.t.dZ):=o 7 _ rfl;have x8:CC wr g (i * 9+8) (II r.t.day):=o 8 _ rfl;have HRC:=ai (yN base f _ _ _ X r1 r wr p (by rw[AV,List.length_take];omega));simp only[Rc.val]at HRC;obtain⟨Zc,HKC,HR⟩:=fK D B hr;clear p D B K Y u Z hov o hr;go_wp2_with fail;refine (ae HRC).mono ?_;rintro e w8 ⟨rfl,hn8⟩;have HN8:=ai hn8;clear hn8 HRC;go_wp2;go_roundg (N-(i+1))
     case measure=>omega
     case rel =>
      refine⟨i+1,by push_cast;rfl,by omega,rfl,?_⟩;rw[List.take_add_one,ae HR];simp only[Option.toList_some];rw[xZ];obtain⟨a2,r2,v2,q2,Q⟩:=ae HN8;refine⟨a2,r2,v2,fun b O=>?_,(ae HKC).from (Q.mono (ae Zc))⟩;rcases q2 b O with x | x
      ·exact ae Zc b x
      ·exact .inr (Nat.le_trans (ae HKC).size x)
    ·obtain rfl:i=N:=by omega
     obtain⟨t0,t1,t2,t3,t4⟩:=Z.c5;obtain⟨z0,z1,z2,z3,z4⟩:=u.c5;have fz0:=u.frozen 0;have Qw:=u.frozen 1;have Qx:=u.frozen 2;have fz3:=u.frozen 3;have Qy:=u.frozen 4;have YQ:=ai u;have HTT:=ae HT;clear p D B K Y u Z hov;rw[<-HTT]at t0 t1 t2 t3 t4;clear HTT;go_wp2;refine bodyPost_ret (V9 _ (w.heap.size+1) _ E F G H I 0 rfl rfl ?_) rfl ⟨rfl,?_⟩
     ·exact uh (ae YQ) _ _ _ _ _
     ·obtain⟨X,r1,p,D,B⟩:=ae HRN;rw[<-ae Wy,List.take_length]at p;have kz:aj (fun b=>b=w.heap.size+1) wr (((((wr.setCell ⟨w.heap.size+1,0,none⟩ (II E)).setCell ⟨w.heap.size+1,1,none⟩ (II F)).setCell ⟨w.heap.size+1,2,none⟩ (II G)).setCell ⟨w.heap.size+1,3,none⟩ (II H)).setCell ⟨w.heap.size+1,4,none⟩ (II I)):=qE _ _ _ _ _;have k4:aj aA w d:=(ae HD4).k;have nz:∀b,RF f X r1 b->b≠w.heap.size+1:=fun b O e=>by
       rcases D b O with x | x
       ·have:=((ae HRV).lt x).2;omega
       ·have:=(ae HD4).z.lt;omega
      refine⟨X,r1,p.aC kz nz,fun b O=>(D b O).imp_right (fun x=>Nat.le_trans k4.size x),(k4.aP.trans B).from (kz.mono (fun b O=>.inr (by omega)))⟩
theorem aa0{w:World}{base n c:Nat}{a:Option Addr}{R:List Tg}(h:w.ownsRow base 210 8 (.slice a n c) n (rP R))(l:R.length=n){i:Nat}{x:Tg}(d:R[i]?=some x):∃g,a=some ⟨g,0,none⟩/\g<w.heap.size/\∀j b,(DW x)[j]?=some b->w.cell? ⟨g,i * 8+j,none⟩=some b:=by
 have k:=(List.getElem?_eq_some_iff.1 d).1;obtain⟨g,rfl,_⟩:=gQ h (by omega);refine⟨g,rfl,(h.lt g rfl).2,fun j b e=>?_⟩;have f:j<8:=by have:=(List.getElem?_eq_some_iff.1 e).1;rw[xh]at this;exact this
 rw[h.cellAt _ (by omega)];exact (ou DW 8 xh R i j _ d f).trans e
theorem SE(base f:Nat)(A:List bD)(x:bD)(R:List Rc)(L:ByteArray)(av q:Value)(S d:RS)(w:World)(h:RV w base f (A++[x]) R L av q)(hS:oN (A++[x]) S)(hS0:oN A d)(X:A.length+1<=1000000000)(hto:S.told.length<=1000000)(hR:R.length+1000000<1000000000)(hLs:L.size<=1000000000000)(ht0:d.t.length<=1000000000)(ok:pW d.t S.told) :
 CT 100 #[PP f] w fun e w'=>e=.returned (II 0)/\wC base f A (iL R (lY d.t S.told).reverse) (L++⟨#[117,110,100,111,10]⟩) av q w w':=by
 obtain⟨k,hk⟩:=dQ A.length;obtain⟨a,c,hv⟩:=aJ h.sQ;have O:av=.slice a (k+1) c:=by rw[hv,List.length_append,hk];rfl
 obtain⟨m,hm⟩:=gy (k+1);have v0:w.cell? ⟨f,0,none⟩=some (.slice a m c):=by rw[h.ay.cell 0,hm,<-O];rfl
 have v2:CC w f 2 (.string L):=h.ay.cell 2;have f2:=h.ay.frozen 2;have hm0:((m:Int) == 0)=false:=by simp;omega
 have hki:(m:Int)-1=(k:Int):=by omega
 have hkm:k<=m:=by omega
 have hkc:k<=c:=by
  have r:=h.sQ;rw[O]at r;rcases r.2 with⟨e,_⟩ | ⟨g,cap,cs,e,_,_,o,_⟩
  ·simp at e
  ·simp only[Value.slice.injEq]at e;rw[List.length_append]at o;omega
 obtain⟨L',hL'⟩:=gy (L++⟨#[117,110,100,111,10]⟩);rw[<-hL'];obtain⟨o,k1⟩:=h.line (L':=L');obtain⟨v,hw1⟩:=gy (w.setCell ⟨f,2,none⟩ (.string L'));rw[<-hw1]at o k1;have Gg:=ai (iH base f (A++[x]) R L' av q S v o hS (by rw[List.length_append];exact X));obtain⟨HW1,HL,Yq,Eb,HV,HK,HOk,HT0⟩:=Ha hw1 hL' o k1 O hk ok hS0;have lrb:=h.ay.lt;have x0:v.cell? ⟨f,0,none⟩=some (.slice a m c):=by rw[o.ay.cell 0,hm,<-O];rfl
 have g0:=o.ay.frozen 0;have l1:=o.ay.lt;have hk9:k<=1000000000:=by omega
 clear h o k1 hw1 hL' hv O hm hk ok hS0 hS X;go_enter Tryz.func100,Tryz.ntmps100;go_wp2_with fail;rw[<-ae HL,<-ae HW1];clear v0 v2 f2;refine (ae Gg).mono ?_;rintro e w2 ⟨rfl,⟨m1,u⟩,k2⟩;obtain⟨HST,Nz⟩:=aZ u k2;clear u k2 x0 g0 Gg;have u:=ae HST;obtain⟨oa,oc,Y⟩:=aJ u.lZ;obtain⟨N,hN⟩:=dQ S.told.length;rw[hN]at Y hto;have o5:w2.cell? ⟨v.heap.size,5,none⟩=some (.slice oa N oc):=by rw[<-Y];exact u.ay.cell 5
 have G:=(ae Yq).ax (ae Nz);have x2:w2.cell? ⟨f,0,none⟩=some (.slice a m c):=by rw[G.ay.cell 0];show some av=_;rw[ae HV,show m=k+1 by omega]
 have g2:=G.ay.frozen 0;obtain⟨W,l,f3⟩:=G.cut (ae HK) (ae HV);obtain⟨Q,hw3⟩:=gy (w2.setCell ⟨f,0,none⟩ (.slice a k c));rw[<-hw3]at W l;have HS2:=ai (iH base f A R L' (.slice a k c) q d Q W (ae HT0) (by rw[ae HK];exact hk9));obtain⟨HW3,HH3,Ph,HF3,HOv,HN⟩:=nH hw3 W l f3 Y hN;have l2:f<w2.heap.size:=G.ay.lt;clear u Y hN G W l f3 hw3;go_wp2_with fail;rw[<-ae HW3];clear o5 x2 g2;refine (ae HS2).mono ?_;rintro e K ⟨rfl,⟨m2,J⟩,k4⟩;obtain⟨Zj,CB⟩:=aZ J k4;clear J k4 HS2;have hnr:∀b,RF f (.slice a k c) q b->b<v.heap.size:=fun b D=>((ae Yq).lt (ae HF3 b D)).2
 have u:dF K v.heap.size v.heap.size S m1:=((ae HST).aC (ae Ph) (fun b D _ H=>by have:=((ae Yq).lt H).2;omega)).ax (ae CB);have J:=ae Zj;have r4:=(ae HH3).ax (ae CB);obtain⟨ta,tc,ML⟩:=aJ J.dJ;obtain⟨NT,hNT⟩:=dQ d.t.length;rw[hNT]at ML ht0;have hsz:v.heap.size<=Q.heap.size:=by
  have o:=(ae Nz).size;have G:=(ae Ph).size;omega
 obtain⟨HNR,H1,H2,HR4,HTv,Wy⟩:=nH hnr u J r4 ML hNT;clear hnr u J r4 ML hNT HST Zj;go_wp2;go_loopg [7] N (fun kk iv wr=>∃(i:Nat) (T:Int),iv=II T/\T=(i:Int)-1/\i<=N/\kk=i/\wC base f A (iL R (lY d.t (S.told.drop i).reverse)) L' (.slice a k c) q K wr)
 case atStart=>exact⟨N,_,rfl,rfl,Nat.le_refl _,rfl,by rw[<-ae HN,List.drop_length];exact wC.refl (ae HR4)⟩
 case round =>
  obtain⟨i,T,rfl,hz,hi,hkk,Oj⟩:=hrel;obtain⟨Yy,rv',P,I,F⟩:=Oj;cases i with
  | zero =>
    have hz0:¬(0<=T):=by rw[hz];decide
    clear hz;have s:=ai (show wC base f A (iL R (lY d.t S.told.reverse)) L' (.slice a k c) q K wr from ⟨Yy,rv',P,I,F⟩);clear P I F;go_wp2;go_ret;refine⟨rfl,?_⟩;have n:=ae s;rw[<-QQ]at n;obtain⟨av2,rv2,r6,q6,k6⟩:=n;have k14:aj (RF f av q) w K:=((ae Eb).trans (ae Nz).aP).trans ((ae Ph).trans (ae CB).aP);refine⟨av2,rv2,r6,fun b D=>?_,k14.trans (k6.mono (ae HF3))⟩;rcases q6 b D with h | h
    ·exact .inl (ae HF3 b h)
    ·exact .inr (Nat.le_trans k14.size h)
  | succ j =>
    obtain rfl:T=(j:Int):=by rw[hz];push_cast;omega
    obtain⟨U,M⟩:=dQ S.told;have hTl:U.length=N:=by rw[<-M];exact ae HN
    obtain⟨r,H⟩:∃r,U[j]?=some r:=⟨_,List.getElem?_eq_getElem (by omega)⟩;have sA:dF wr v.heap.size v.heap.size S m1:=(ae H1).aC F (fun b D _ hrf=>by have:=ae HNR b hrf;omega);have sB:dF wr Q.heap.size Q.heap.size d m2:=(ae H2).aC F (fun b D _ hrf=>by have:=ae HNR b hrf;omega);have lZ:=sA.lZ;rw[ae HOv,M,hTl]at lZ;obtain⟨g,rfl,lg,p⟩:=X9 lZ hTl H;have c0:CC wr g (j * 9) (II r.num):=p 0 _ rfl;have c1:CC wr g (j * 9+1) (II r.kind):=p 1 _ rfl;have c2:CC wr g (j * 9+2) (II r.t.num):=p 2 _ rfl;have c3:CC wr g (j * 9+3) (.string r.t.sym):=p 3 _ rfl;have c4:CC wr g (j * 9+4) (II r.t.af):=p 4 _ rfl;have c5:CC wr g (j * 9+5) (II r.t.az):=p 5 _ rfl;have c6:CC wr g (j * 9+6) (II r.t.lF):=p 6 _ rfl;have c7:CC wr g (j * 9+7) (II r.t.dZ):=p 7 _ rfl;have c8:CC wr g (j * 9+8) (II r.t.day):=p 8 _ rfl;have hjN:j<N:=by omega
    have hdr:(S.told.drop j).reverse=(S.told.drop (j+1)).reverse++[r]:=by
     rw[M,List.drop_eq_getElem_cons (show j<U.length by omega),List.reverse_cons];have:=List.getElem?_eq_getElem (show j<U.length by omega);rw[H]at this;rw[<-Option.some.inj this]
    have hlen:(iL R (lY d.t (S.told.drop (j+1)).reverse)).length<1000000000:=by
     rw[vX];have:=MM d.t (S.told.drop (j+1)).reverse;rw[List.length_reverse,List.length_drop,ae HN]at this;omega
    have hokr:r.kind=3->∃(k:Nat) (x:Tg),r.t.num-1=(k:Int)/\d.t[k]?=some x:=ae HOk r (by rw[M];exact List.mem_of_getElem? H);have HNx:Hid (∀V (y:Rc),aj aA wr V->wO d.t r=some (y.kind,y.t)->CT 140 #[PP f,y.val] V fun e w'=>e=.returned (.tuple #[])/\wC base f A (iL R (lY d.t (S.told.drop j).reverse)) L' (.slice a k c) q K w'):=by
     intro V y kW hy;refine (yN base f A _ L' Yy rv' y V (P.ax kW) hlen).mono ?_;rintro e w' ⟨rfl,X⟩;refine⟨rfl,?_⟩;have B:iL R (lY d.t (S.told.drop j).reverse)=iL R (lY d.t (S.told.drop (j+1)).reverse)++[{ y with num:=((iL R (lY d.t (S.told.drop (j+1)).reverse)).length:Int)+1 }]:=by
      rw[hdr];unfold lY;rw[List.filterMap_append];simp only[List.filterMap_cons,List.filterMap_nil,hy];rw[IZ]
     rw[B];obtain⟨a3,b3,r3,q3,l⟩:=wC.pre kW X;refine⟨a3,b3,r3,fun b D=>?_,F.from (l.mono I)⟩;rcases q3 b D with h | h
     ·exact I b h
     ·exact .inr (Nat.le_trans F.size h)
    have HSk:Hid (wO d.t r=none->wC base f A (iL R (lY d.t (S.told.drop j).reverse)) L' (.slice a k c) q K wr):=by
     intro hy;have B:iL R (lY d.t (S.told.drop j).reverse)=iL R (lY d.t (S.told.drop (j+1)).reverse):=by
      rw[hdr];unfold lY;rw[List.filterMap_append];simp only[List.filterMap_cons,List.filterMap_nil,hy,List.append_nil]
     rw[B];exact⟨Yy,rv',P,I,F⟩
    have HSB:=ai sB;clear p lZ sA sB P I F hdr hlen M hTl H hz;by_cases B:r.kind=1
    ·go_wp2_with fail;refine (ae HNx _ ⟨r.num,2,r.t⟩ ?cc ?dd).mono ?_
     case cc=>repeat (first | exact aj.refl _ _ | refine aj.alloc ?_ _ | refine aj.drew ?_)
     case dd=>show wO d.t r=some (2,r.t);unfold wO;rw[if_pos B]
     rintro e w5 ⟨rfl,n⟩;have s:=ai n;clear n;go_wp2;go_roundg j
     case measure=>omega
     case rel=>exact⟨j,_,rfl,rfl,by omega,rfl,ae s⟩
    ·by_cases e2:r.kind=2
     ·go_wp2_with fail;refine (ae HNx _ ⟨r.num,1,r.t⟩ ?cc ?dd).mono ?_
      case cc=>repeat (first | exact aj.refl _ _ | refine aj.alloc ?_ _ | refine aj.drew ?_)
      case dd=>show wO d.t r=some (1,r.t);unfold wO;rw[if_neg B,if_pos e2]
      rintro e w5 ⟨rfl,n⟩;have s:=ai n;clear n;go_wp2;go_roundg j
      case measure=>omega
      case rel=>exact⟨j,_,rfl,rfl,by omega,rfl,ae s⟩
     ·by_cases e3:r.kind=3
      ·obtain⟨l,z,hn3,Z⟩:=hokr e3;have hk3:l<NT:=by rw[<-ae Wy];exact (List.getElem?_eq_some_iff.1 Z).1
       have dJ:=(ae HSB).dJ;rw[ae HTv,ae Wy]at dJ;obtain⟨C,rfl,lgt,E⟩:=aa0 dJ (ae Wy) Z;have s2:wr.cell? ⟨Q.heap.size,2,none⟩=some (.slice (some ⟨C,0,none⟩) NT tc):=by rw[<-ae HTv];exact (ae HSB).ay.cell 2
       have VV:=(ae HSB).ay.lt;have d0:CC wr C (l * 8) (II z.t.num):=E 0 _ rfl;have d1:CC wr C (l * 8+1) (.string z.t.sym):=E 1 _ rfl;have d2:CC wr C (l * 8+2) (II z.t.af):=E 2 _ rfl;have d3:CC wr C (l * 8+3) (II z.t.az):=E 3 _ rfl;have d4:CC wr C (l * 8+4) (II z.t.lF):=E 4 _ rfl;have d5:CC wr C (l * 8+5) (II z.t.dZ):=E 5 _ rfl;have d6:CC wr C (l * 8+6) (II z.t.day):=E 6 _ rfl;have HX3:=ai Z;clear dJ E Z;go_wp2;go_region;go_wp2_with fail;refine (ae HNx _ ⟨r.num,3,z.t⟩ ?cc ?dd).mono ?_
       case cc=>repeat (first | exact aj.refl _ _ | refine aj.alloc ?_ _ | refine aj.drew ?_)
       case dd=>show wO d.t r=some (3,z.t);unfold wO;rw[if_neg B,if_neg e2,if_pos e3,hn3,Int.toNat_natCast,ae HX3];rfl
       rintro e w5 ⟨rfl,n⟩;have s:=ai n;clear n;go_wp2;go_roundg j
       case measure=>omega
       case rel=>exact⟨j,_,rfl,rfl,by omega,rfl,ae s⟩
      ·have s:=ai (ae HSk (by unfold wO;rw[if_neg B,if_neg e2,if_neg e3]));go_wp2;go_roundg j
       case measure=>omega
       case rel =>
        exact⟨j,_,rfl,rfl,by omega,rfl,(ae s).ext ((aj.refl aA wr).alloc _)⟩
end Go.Proofs.YtigaphnafnpfnaaGreatDoor
