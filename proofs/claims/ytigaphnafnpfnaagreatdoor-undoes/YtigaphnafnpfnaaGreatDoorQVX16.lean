import Derived.Test.YtigaphnafnpfnaaGreatDoorQVY3
set_option linter.unusedVariables false
set_option linter.unusedSimpArgs false
set_option maxHeartbeats 8000000
set_option maxRecDepth 100000
namespace Go.Proofs.YtigaphnafnpfnaaGreatDoor
open Go.RowKit
attribute [local go_sem ↓] Go.wp_at_zero Go.wp_at_succ
theorem iZ.pre{base a:Nat}{S':RS}{m:SM}{c w w':World}(k:aj aA c w)(h:iZ base a S' m w w'):iZ base a S' m c w':=by
 obtain⟨m',p,q,e⟩:=h;exact⟨m',p,fun b d=>(q b d).imp_right (fun x=>Nat.le_trans k.size x),k.aP.trans e⟩
theorem iZ.Tj{base c:Nat}{S':RS}{m f:SM}{w w' g:World}(d:∀b,SF c f b->SF c m b\/w.heap.size<=b)(e:aj (SF c m) w w')(k:iZ base c S' f w' g):iZ base c S' m w g:=by
 obtain⟨n,i,j,l⟩:=k;refine⟨n,i,fun b a=>?_,e.from (l.mono (fun b a=>d b a))⟩;rcases j b a with a | a
 ·exact d b a
 ·exact .inr (Nat.le_trans e.size a)
theorem dF.al{w:World}{base a:Nat}{S:RS}{m:SM}(h:dF w base a S m)(o:Obj):dF (w.alloc o) base a S m:=h.ax ((aj.refl aA w).alloc o)
theorem IM(base d O:Nat)(S:RS)(m:SM)(x:bD)(z:RC)(w:World)(h:dF w base d S m)(hx:x.kind=101)(hlen:S.l.length<1000)(hsy:S.sy.length<=1000)(hop:∀k,k<S.l.length->0<=(ak S.l k).aH/\(ak S.l k).aH<=1000000000000000)(he:pJ S x.o=0)
 (hE:uJ S.l.length O ⟨S.fresh.add x.o,x.o.az,0,0,0⟩ z) (ht:S.t.length+O<1000000000) (hf:O<1000000000) :
 CT 138 #[PP d,x.val] w fun e w'=>e=.returned (.tuple #[IK S.l.length z,II 0])/\iZ base d (qV S.l.length z) m w w':=by
 have MP:=h.ay.lt;have hge:=h.ge;have v5:CC w d 5 m.ov:=h.ay.cell 5;have f5:=h.ay.frozen 5;have sz:d≠w.heap.size:=by omega
 have sr:d≠w.heap.size+1:=by omega
 have sz':=sz.symm;have Yg:=sr.symm;have ES:d<w.heap.size+1:=by omega
 have HO:Hid (∀n m',dF n base d S.fresh m'->CT 167 #[PP d,x.o.val] n fun e w'=>e=.returned (II 0)/\aj aA n w'):=fun n m' hW=>by
  have:=vw base d S.fresh m' x.o n hW (by show S.l.length<=1000;omega) hsy hop;rw[show pJ S.fresh x.o=0 from he]at this;exact this
 obtain⟨N,hN⟩:=dQ S.l.length;have hCO:∀n m',dF n base d (S.fresh.add x.o) m'->CT 168 #[PP d,II (N:Int),II x.o.az] n fun e w'=>e=.returned (IK N z)/\iZ base d (qV N z) m' n w':=fun n m' hW=>by
  rw[hN]at hE;exact Dz base d N O _ m' x.o.az z n hW (by simp only[RS.add,RS.fresh,List.length_append,List.length_cons,List.length_nil];omega) (by simp only[RS.add,RS.fresh,List.length_append,List.length_cons,List.length_nil];omega) hE ht (by show 0+O<_;omega)
 have Z:=ai hCO;clear hCO;rw[hN];obtain⟨rf,rr,rn,ra,rk,Oj⟩:=wY N z;rw[Oj]at Z ⊢;simp only[dm]at Z;obtain⟨kind,s,⟨id,i,sym,side,g,af,az⟩,a,b,c,again⟩:=x;simp only at hx;subst hx;simp only[bD.val,bD.cells,iR.val]at HO Z ⊢;have HS:=ai h;obtain⟨C,E,H,G⟩:=h.qy #[.int .u8 101,.string s,II id,II i,.string sym,II side,II g,II af,II az,II a,II b,II c,.bool again];obtain⟨W1,hW1⟩:=gy ((((w.setCell ⟨d,5,none⟩ (.slice none 0 0)).alloc (.cells #[.int .u8 101,.string s,II id,II i,.string sym,II side,II g,II af,II az,II a,II b,II c,.bool again] 169)).alloc (.cells bC 87)));rw[<-hW1]at C E H G;have HC:=ai (ae HO _ _ C);have H1:Hid (dF W1 base d S.fresh m.fresh/\aj (SF d m) w W1/\au W1 (w.heap.size+1) bC 87/\au W1 w.heap.size #[.int .u8 101,.string s,II id,II i,.string sym,II side,II g,II af,II az,II a,II b,II c,.bool again] 169):=⟨C,E,H,G⟩;obtain⟨HW1,B⟩:=aZ hW1 hN;simp only[bC]at HW1;clear C E H G HO hW1 h he hE hop Oj hN;obtain⟨i0,z0,hi0,hz0,hz1,hz2,hz3⟩:=BO;have hmx:N+1<=maxLen:=by have:=ae B;unfold maxLen;omega
 have lH:(N+1) * 112<=140737488355328:=by have:=ae B;omega
 go_enter Tryz.func138,Tryz.ntmps138;go_wp2_with fail;rw[<-ae HW1];refine (ae HC).mono ?_;rintro e f ⟨rfl,T⟩;obtain⟨C,E,H,G⟩:=ae H1;have V:=C.ax T;have b13:=T.ay H idd;have v:=T.ay G idd;obtain⟨I,J,y⟩:=aJ V.dV;change m.fresh.lv=.slice I S.l.length J at y;rw[ae B]at y;have u1:f.cell? ⟨d,1,none⟩=some (.slice I N J):=by rw[<-y];exact V.ay.cell 1
 have x2:CC f w.heap.size 2 (II id):=v.cell 2;have x3:CC f w.heap.size 3 (II i):=v.cell 3;have x4:CC f w.heap.size 4 (.string sym):=v.cell 4;have x5:CC f w.heap.size 5 (II side):=v.cell 5;have x6:CC f w.heap.size 6 (II g):=v.cell 6;have x7:CC f w.heap.size 7 (II af):=v.cell 7;have x8:CC f w.heap.size 8 (II az):=v.cell 8;have l03:w.heap.size<f.heap.size:=v.lt;have UX:d<f.heap.size:=V.ay.lt;obtain⟨W,R⟩:=gy ((f.alloc (.cells #[II id,II i,.string sym,II side,II g,II af,II az,II az,II 0,II 0,II 0,II 0,II 0] 212)).drew);have U:aj aA f W:=by rw[R];exact ((aj.refl aA f).alloc _).drew
 have p4:=V.ax U;have hs4:W.heap.size=f.heap.size+1:=by rw[R];simp
 have r4:W.ownsRow base 212 13 (.slice I N J) N (yH S.l):=by
  have r:=p4.dV;change W.ownsRow base 212 13 m.fresh.lv S.l.length (yH S.l) at r;rw[y,ae B]at r;exact r
 have hnews:∀j L,(uN (wU ⟨id,i,sym,side,g,af,az⟩))[j]?=some L->W.cell? (Addr.add ⟨f.heap.size,0,none⟩ j)=some L:=by
  intro j L hj;have:=XV f (wU ⟨id,i,sym,side,g,af,az⟩) j L hj;rw[R];exact this
 have hone:∀L∈uN (wU ⟨id,i,sym,side,g,af,az⟩),L.oneCell'=true:=by simp[uN,Value.oneCell']
 obtain⟨LZ,A,HR4,Jq,CE,WC,F⟩:=aaf R p4 r4 hnews hone hs4 y;have Y:=ai (U.ay b13 idd);have X:=ai (U.ay v idd);have Yu:=ai ((E.trans T.aP).trans U.aP);clear R p4 r4 hnews hone hs4 y U C E H G V b13 v T;go_upto_region 18 with fail;go_cut [] from 64 (fun wc=>∃K,dF wc base d (S.fresh.add ⟨id,i,sym,side,g,af,az⟩) K/\(∀b,SF d K b->SF d m b\/w.heap.size<=b)/\aj (SF d m) w wc/\au wc (w.heap.size+1) bC 87/\au wc w.heap.size #[.int .u8 101,.string s,II id,II i,.string sym,II side,II g,II af,II az,II a,II b,II c,.bool again] 169)
 case first JJ KK hJ hK =>
  go_region_law (first | (rw[<-ae LZ];refine step_append_lies _ rfl (.tmp 68) (.tmp 75) 204 rfl base 212 i0 z0 13 112 Tryz.underlying204 hi0 hz0 hz1 hz2 hz3 (by decide) (.slice I N J) N (yH S.l) rfl (ae HR4) ⟨f.heap.size,0,none⟩ 1 1 (uN (wU ⟨id,i,sym,side,g,af,az⟩)) rfl rfl (ae Jq) (ae CE) (by omega) hmx lH (by have:=ae WC;omega) (f.heap.size+1) (ae WC) ?_;intro g5 cap5 w5 hown2 Q hat hlt;have Ec:=ai hown2;have HG2:=ai Q;have HA2:=ai hat;have b2:au w5 d _ 207:=(Q.block d (ae A).ay.lt (fun e=>by obtain⟨cs,P⟩:=aF (ae A).dV (b:=d) (by rw[ae F];exact e.symm);exact au.ne P (ae A).ay (by decide) rfl)).trans (ae A).ay;have v52:=b2.cell 1;have f52:=b2.frozen 1;simp at v52;have bb0:au w5 w.heap.size _ 169:=(Q.block w.heap.size (ae X).lt (fun e=>by obtain⟨cs,P⟩:=aF (ae A).dV (b:=w.heap.size) (by rw[ae F];exact e.symm);exact au.ne P (ae X) (by decide) rfl)).trans (ae X);have bb1:au w5 (w.heap.size+1) _ 87:=(Q.block (w.heap.size+1) (ae Y).lt (fun e=>by obtain⟨cs,P⟩:=aF (ae A).dV (b:=w.heap.size+1) (by rw[ae F];exact e.symm);exact au.ne P (ae Y) (by decide) rfl)).trans (ae Y);have aa8:=ai bb0;have Wp:=ai bb1;clear hown2 Q hat b2 bb0 bb1))
  all_goals
   refine hK _ _ (Met.intro (hJ _ _ ?_))
   repeat apply Exists.intro
   refine⟨?rel,rfl⟩
   case rel =>
    obtain⟨K,D,q6,r6⟩:=(ae A).XO (r:=wU ⟨id,i,sym,side,g,af,az⟩) (ae B) (ae Ec) (by rw[ae F];exact ae HG2) (by rw[ae F];exact ae HA2) (ae WC);refine⟨K,D,fun b hb=>?_,(ae Yu).trans (r6.mono (ae HS).fresh.2.2),(ae Wp).other (a:=⟨d,1,none⟩) Yg _,(ae aa8).other (a:=⟨d,1,none⟩) sz' _⟩;rcases q6 b hb with x | x
    ·exact .inl ((ae HS).fresh.2.2 b x)
    ·exact .inr (Nat.le_trans (ae Yu).size x)
 case rest =>
  clear LZ A HR4 Jq CE WC F Y X Yu u1 x2 x3 x4 x5 x6 x7 x8 l03 UX;obtain⟨K,D,q6,r6,b6,b06⟩:=hcut;obtain⟨I,J,y⟩:=aJ D.dV;have hl1:(S.fresh.add ⟨id,i,sym,side,g,af,az⟩).l.length=N+1:=by simp only[RS.add,RS.fresh,List.length_append,List.length_cons,List.length_nil];rw[ae B]
  rw[hl1]at y;have v1:wc.cell? ⟨d,1,none⟩=some (.slice I (N+1) J):=by rw[<-y];exact D.ay.cell 1
  have y8:CC wc w.heap.size 8 (II az):=b06.cell 8;have ls6:d<wc.heap.size:=D.ay.lt;have l06:w.heap.size<wc.heap.size:=b06.lt;have l16:w.heap.size+1<wc.heap.size:=b6.lt;have hwr:IntKind.i64.wrap (N:Int)=(N:Int):=by have:=ae B;rw[IntKind.wrap_i64];omega
  have HC6:Hid (∀n m',dF n base d (S.fresh.add ⟨id,i,sym,side,g,af,az⟩) m'->CT 168 #[PP d,II (IntKind.i64.wrap (N:Int)),II az] n fun e w'=>e=.returned (.agg #[II rf,II rr,II rn,II ra,II rk])/\iZ base d (qV N z) m' n w'):=by rw[hwr];exact ae Z
  clear hwr;obtain⟨WB,TI,Zf,HB6⟩:=gY D q6 r6 b6;have h1N:(N:Int)+1-1=(N:Int):=by omega
  clear D q6 r6 b6 b06 y;go_upto_region 19 with fail;go_cut [9] from 79 (fun s9 wd=>∃p,s9=PP p/\p≠w.heap.size+1/\au wd p #[II rf,II rr,II rn,II ra,II rk] 87/\au wd (w.heap.size+1) bC 87/\iZ base d (qV N z) m w wd)
  case first JJ KK hJ hK =>
   go_region_with (first
    | (go_at_call 168;refine (ae HC6 _ K ?st).mono ?_;(case st=>repeat (first | exact ae WB | refine dF.dr ?_ | refine dF.al ?_ _));rintro e w7 ⟨rfl,hn7⟩;(try (have u:au w7 wc.heap.size bC 87:=hn7.zL (S:=S.fresh.add ⟨id,i,sym,side,g,af,az⟩) (by repeat (first | exact ae WB | refine dF.dr ?_ | refine dF.al ?_ _)) (by first | exact au.new wc bC 87 | exact (au.new wc bC 87).drew) (by decide);have t0:=u.cell 0;have t1:=u.cell 1;have t2:=u.cell 2;have t3:=u.cell 3;have t4:=u.cell 4;simp[bC]at t0 t1 t2 t3 t4;have ft0:=u.frozen 0;have ft1:=u.frozen 1;have ft2:=u.frozen 2;have ft3:=u.frozen 3;have ft4:=u.frozen 4;have HBT:=ai u;clear u));have q:au w7 (w.heap.size+1) bC 87:=hn7.zL (S:=S.fresh.add ⟨id,i,sym,side,g,af,az⟩) (by repeat (first | exact ae WB | refine dF.dr ?_ | refine dF.al ?_ _)) (by repeat (first | exact ae HB6 | refine au.drew ?_ | refine au.alloc ?_ _)) (by decide);have l7:=q.lt;have M:=ai q;have Yt:=ai hn7;clear hn7 q))
   all_goals
    refine hK _ _ (Met.intro (hJ _ _ ?_))
    repeat apply Exists.intro
    refine⟨?rel,rfl⟩
    case rel =>
     first
     | (have hbt:=ae HBT
        exact⟨wc.heap.size,rfl,by omega,uh hbt _ _ _ _ _,(qE _ _ _ _ _).ay (ae M) (by omega),iZ.Tj (ae TI) (ae Zf) ((iZ.pre (by first | exact ((aj.refl aA wc).alloc _).drew | exact ((aj.refl aA wc).drew).alloc _) (ae Yt)).off hbt (Nat.le_refl _) (qE _ _ _ _ _))⟩)
     | exact⟨w7.heap.size,rfl,by omega,au.new _ _ _,(ae M).alloc _,iZ.Tj (ae TI) (ae Zf) ((iZ.pre ((aj.refl aA wc).drew) (ae Yt)).ext ((aj.refl _ _).alloc _))⟩
  case rest =>
   clear WB TI Zf HB6 HC6 v1 y8 ls6 l06 l16 h1N;obtain⟨p,rfl,hp,bp,q,hn⟩:=hcut;obtain⟨q0,E,q2,q3,q4⟩:=bp.c5;obtain⟨s0,s1,s2,s3,s4⟩:=q.c5;have fs0:=q.frozen 0;have fs1:=q.frozen 1;have fs2:=q.frozen 2;have fs3:=q.frozen 3;have fs4:=q.frozen 4;obtain⟨M,Yt⟩:=aZ q hn;clear bp q hn;go_wp2;refine bodyPost_ret (qx _ (w.heap.size+1) _ rf rr rn ra rk 0 rfl rfl ?_) rfl ⟨rfl,?_⟩
   ·exact uh (ae M) _ _ _ _ _
   ·exact (ae Yt).off (ae M) (by omega) (qE _ _ _ _ _)
end Go.Proofs.YtigaphnafnpfnaaGreatDoor
