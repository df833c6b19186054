import Derived.Test.YtigaphnafnpfnaaGreatDoorQVX7
set_option linter.unusedVariables false
set_option linter.unusedSimpArgs false
set_option maxHeartbeats 8000000
set_option maxRecDepth 100000
namespace Go.Proofs.YtigaphnafnpfnaaGreatDoor
open Go.RowKit
attribute [local go_sem ↓] Go.wp_at_zero Go.wp_at_succ
def RS.dN(S:RS)(i:Nat)(o:Ord):RS:={ S with l:=S.l.set i o }
theorem dB{l:List Ord}{i:Nat}{o:Ord}(h:i<l.length):ak (l.set i o) i=o:=wV (by rw[List.getElem?_set_self h])
theorem jZ{l:List Ord}{i k:Nat}{o:Ord}(h:i≠k):ak (l.set i o) k=ak l k:=by
 unfold ak;rw[List.getD_eq_getElem?_getD,List.getD_eq_getElem?_getD,List.getElem?_set_ne h]
def RS.tr(S:RS)(i k:Nat)(n:Int):Tr :=
 { num:=(S.t.length:Int)+1,sym:=(ak S.l i).sym,af:=(ak S.l k).af,az:=n,lF:=if (ak S.l i).side=1 then (ak S.l k).id else (ak S.l i).id,dZ:=if (ak S.l i).side=1 then (ak S.l i).id else (ak S.l k).id,day:=S.day }
def RS.gI(S:RS)(i k:Nat)(n:Int):RS :=
 (S.dN k { ak S.l k with aH:=wrap64 ((ak S.l k).aH-n),filled:=wrap64 ((ak S.l k).filled+n) }).dN i { ak S.l i with filled:=wrap64 ((ak S.l i).filled+n) }
def RS.gW(S:RS)(i k:Nat)(n:Int):RS:={ S.gI i k n with t:=S.t++[⟨S.tr i k n,true⟩],told:=S.told++[⟨0,1,S.tr i k n⟩] }
theorem UJ:(Tryz.prog.info? 210).map (fun i=>(i.zero.map (fun a=>a.cells.size),i.size,i.bytes))=some (some 8,8,72):=by kernel_rfl
theorem BN:∃i a,Tryz.prog.info? 210=some i/\i.zero=some a/\i.size=8/\i.bytes=72/\a.cells.size=8:=by
 have h:=UJ;cases hi:Tryz.prog.info? 210 with
 | none=>rw[hi]at h;simp at h
 | some i =>
   rw[hi]at h;simp at h;obtain⟨⟨a,d,hs⟩,b,c⟩:=h;exact⟨i,a,rfl,d,b,c,hs⟩
theorem VZ(w:World)(g:Tg):∀j a,(DW g)[j]?=some a->(w.alloc (.cells #[II g.t.num,.string g.t.sym,II g.t.af,II g.t.az,II g.t.lF,II g.t.dZ,II g.t.day,.bool g.holds] 210)).cell? (Addr.add ⟨w.heap.size,0,none⟩ j)=some a:=by
 intro j a c;have b:=au.new w #[II g.t.num,.string g.t.sym,II g.t.af,II g.t.az,II g.t.lF,II g.t.dZ,II g.t.day,.bool g.holds] 210;have e:Addr.add ⟨w.heap.size,0,none⟩ j=⟨w.heap.size,j,none⟩:=by simp[Addr.add];omega
 rw[e,b.cell,<-c];simp[DW]
theorem dF.SY{d w2:World}{base c n H g cap:Nat}{S:RS}{m:SM}{r:Tg}(h:dF d base c S m)(A:S.t.length=n)(hown:w2.ownsRow base 210 8 (.slice (some ⟨g,0,none⟩) (n+1) cap) (n+1) (rP S.t++DW r))(s:d.grownBy w2 m.tv.ownBlock)(z:m.tv.ownBlock=some g\/g=H)(hH:d.heap.size=H) :
 iZ base c { S with t:=S.t++[r] } m d (w2.setCell ⟨c,2,none⟩ (.slice (some ⟨g,0,none⟩) (n+1) cap)):=by
 have B:m.tv.ownBlock≠some c:=fun e=>by obtain⟨cs,i⟩:=aF h.dJ e;exact au.ne i h.ay (by decide) rfl
 have f:au w2 c _ 207:=(s.block c h.ay.lt (fun e=>B e.symm)).trans h.ay;have u:aj (fun b=>m.tv.ownBlock=some b) d w2:=(aj.refl _ d).grown s (fun k e=>.inl e);have j:aj (fun b=>b=c) w2 (w2.setCell ⟨c,2,none⟩ (.slice (some ⟨g,0,none⟩) (n+1) cap)):=(aj.refl (fun b=>b=c) w2).setCell (p:=⟨c,2,none⟩) (.inl rfl) _;have l:∀{e size o:Nat} {v:Value} {q:List Value},d.ownsRow base e size v o q->e≠210->e≠207->(w2.setCell ⟨c,2,none⟩ (.slice (some ⟨g,0,none⟩) (n+1) cap)).ownsRow base e size v o q:=fun {e size o v q} r w y=>by
  have C:=bK (t:=0) r u (fun b a=>by obtain⟨cs,i⟩:=aF h.dJ a;exact⟨cs,_,i,fun x=>w x.symm⟩);exact bK (t:=0) C j (fun b a=>by subst a;exact⟨_,_,f,fun x=>y x.symm⟩)
 refine⟨{ m with tv:=.slice (some ⟨g,0,none⟩) (n+1) cap },⟨h.ge,f.set 2 _,l h.mZ (by decide) (by decide),l h.dV (by decide) (by decide),?_,l h.lZ (by decide) (by decide)⟩,?_,?_⟩
 ·simp only[List.length_append,List.length_cons,List.length_nil,A,rP,xO];exact bK (t:=0) hown j (fun b a=>by subst a;exact⟨_,_,f,by decide⟩)
 ·rintro b (rfl | a | a | a | a)
  ·exact .inl (.inl rfl)
  ·exact .inl (.inr (.inl a))
  ·exact .inl (jL a)
  ·simp only[Value.ownBlock,Option.some.injEq]at a;rcases z with e | e
   ·exact .inl (iQ (by rw[e,a]))
   ·right;omega
  ·exact .inl (xA a)
 ·exact (u.mono (fun b a=>iQ a)).trans (j.mono (fun b a=>.inl a))
theorem I4(base d i k:Nat)(S:RS)(m:SM)(n:Int)(w:World)(h:dF w base d S m)(hlen:S.l.length<=1000)(hi:i<S.l.length)(hk:k<S.l.length)(hik:i≠k)(ht:S.t.length<1000000000)(ho:S.told.length<1000000000) :
 CT 201 #[PP d,II (i:Int),II (k:Int),II n] w fun e w'=>e=.returned (.tuple #[])/\iZ base d (S.gW i k n) m w w':=by
 obtain⟨N,hN⟩:=dQ S.l.length;obtain⟨a,c,W⟩:=aJ h.dV;obtain⟨g,rfl,hgb,F,hf⟩:=h.wW W hi;obtain⟨g',e',_,hd,_⟩:=h.wW W hk;obtain rfl:g=g':=by simpa using e'
 clear e';have HV:=ai W;have Q:Hid (i<S.l.length/\k<S.l.length):=⟨hi,hk⟩;rw[hN]at W hlen hi hk;have v1:w.cell? ⟨d,1,none⟩=some (.slice (some ⟨g,0,none⟩) N c):=by rw[<-W];exact h.ay.cell 1
 have MP:=h.ay.lt;obtain⟨x,hx⟩:=dQ (ak S.l i);obtain⟨y,hy⟩:=dQ (ak S.l k);rw[hx]at F;rw[hy]at hd;have c9:CC w g (i * 13+9) (II x.filled):=F 9 _ rfl;have d8:CC w g (k * 13+8) (II y.aH):=hd 8 _ rfl;have d9:CC w g (k * 13+9) (II y.filled):=hd 9 _ rfl;have f1:=hf (k * 13+8);have f2:=hf (k * 13+9);have f3:=hf (i * 13+9);have hsg:d≠g:=fun e=>by
  have r:=h.dV;rw[ae HV]at r;obtain⟨cs,hcs⟩:=aF r (b:=g) rfl;exact au.ne h.ay hcs (by decide) e
 have hgs:=hsg.symm;have n1:¬k * 13+9=k * 13+8:=by omega
 have n2:¬i * 13+9=k * 13+8:=by omega
 have n3:¬i * 13+9=k * 13+9:=by omega
 obtain⟨f,hw3⟩:=gy ((((w.setCell ⟨g,k * 13+8,none⟩ (II (wrap64 (y.aH-n)))).setCell ⟨g,k * 13+9,none⟩ (II (wrap64 (y.filled+n)))).setCell ⟨g,i * 13+9,none⟩ (II (wrap64 (x.filled+n)))).drew.drew.drew);have E:dF f base d (S.gI i k n) m/\aj (SF d m) w f:=by
  obtain⟨p1,q1⟩:=h.iW (ae HV) (ae Q).2 (j:=8) (by omega) (II (wrap64 (y.aH-n))) { y with aH:=wrap64 (y.aH-n) } (by rw[hy];rfl);obtain⟨p2,q2⟩:=p1.iW (i:=k) (by simp only[List.length_set];exact ae HV) (by simp only[List.length_set];exact (ae Q).2) (j:=9) (by omega) (II (wrap64 (y.filled+n))) { y with aH:=wrap64 (y.aH-n),filled:=wrap64 (y.filled+n) } (by simp only;rw[dB (ae Q).2];rfl);obtain⟨p3,q3⟩:=p2.iW (i:=i) (by simp only[List.length_set];exact ae HV) (by simp only[List.length_set];exact (ae Q).1) (j:=9) (by omega) (II (wrap64 (x.filled+n))) { x with filled:=wrap64 (x.filled+n) } (by simp only;rw[jZ hik.symm,jZ hik.symm,hx];rfl);rw[hw3];refine⟨?_,((q1.trans q2).trans q3).drew.drew.drew⟩;have e:({ S with l:=((S.l.set k { y with aH:=wrap64 (y.aH-n) }).set k { y with aH:=wrap64 (y.aH-n),filled:=wrap64 (y.filled+n) }).set i { x with filled:=wrap64 (x.filled+n) } }:RS)=S.gI i k n:=by
   unfold RS.gI RS.dN;rw[hx,hy,List.set_set]
  rw[<-e];exact ((p3.ax (aj.refl aA _).drew).ax (aj.refl aA _).drew).ax (aj.refl aA _).drew
 obtain⟨E,k3⟩:=E;obtain⟨nt,hnt⟩:∃N,S.t.length=N:=⟨_,rfl⟩;obtain⟨O,P,ML⟩:=aJ E.dJ;change m.tv=.slice O S.t.length P at ML;rw[hnt]at ML;have hi3:i<(S.gI i k n).l.length:=by simp only[RS.gI,RS.dN,List.length_set];exact (ae Q).1
 have hk3:k<(S.gI i k n).l.length:=by simp only[RS.gI,RS.dN,List.length_set];exact (ae Q).2
 have hv3:m.lv=.slice (some ⟨g,0,none⟩) (S.gI i k n).l.length c:=by simp only[RS.gI,RS.dN,List.length_set];exact ae HV
 have ei:ak (S.gI i k n).l i={ x with filled:=wrap64 (x.filled+n) }:=by simp only[RS.gI,RS.dN];rw[dB (by simp only[List.length_set];exact (ae Q).1),hx]
 have ek:ak (S.gI i k n).l k={ y with aH:=wrap64 (y.aH-n),filled:=wrap64 (y.filled+n) }:=by simp only[RS.gI,RS.dN];rw[jZ hik,dB (ae Q).2,hy]
 obtain⟨g1,e1,_,hc3,_⟩:=E.wW hv3 hi3;obtain rfl:g=g1:=by simpa using e1
 obtain⟨g2,e2,_,hd3,_⟩:=E.wW hv3 hk3;obtain rfl:g=g2:=by simpa using e2
 rw[ei]at hc3;rw[ek]at hd3;have u1:f.cell? ⟨d,1,none⟩=some (.slice (some ⟨g,0,none⟩) N c):=by rw[<-W];exact E.ay.cell 1
 have u2:f.cell? ⟨d,2,none⟩=some (.slice O nt P):=by rw[<-ML];exact E.ay.cell 2
 have u3:CC f d 3 (II S.day):=E.ay.cell 3;have x0:CC f g (i * 13) (II x.id):=hc3 0 _ rfl;have x2:CC f g (i * 13+2) (.string x.sym):=hc3 2 _ rfl;have x3:CC f g (i * 13+3) (II x.side):=hc3 3 _ rfl;have y0:CC f g (k * 13) (II y.id):=hd3 0 _ rfl;have y5:CC f g (k * 13+5) (II y.af):=hd3 5 _ rfl;have hs3:f.heap.size=w.heap.size:=by rw[hw3];simp
 obtain⟨HW3,H3,Ph,Y,B⟩:=mi hw3 E k3 hnt ML;have UX:d<f.heap.size:=E.ay.lt;have lg3:g<f.heap.size:=World.block_lt_of_cell? _ _ x0;have HS3:=ai hs3;clear hw3 E k3 hnt ML hi3 hk3 hv3 ei ek hc3 hd3 e1 e2 hs3;rw[show S.t.length=nt from ae Y]at ht;obtain⟨HS,HX,HY,HN⟩:=gY h hx hy hN;clear F hd hf h W hx hy hN;go_enter Tryz.func201,Tryz.ntmps201;go_wp2;go_region;go_wp2;go_region;go_wp2;go_region;rw[<-ae HW3];clear c9 d8 d9 f1 f2 f3 v1 n1 n2 n3;go_wp2;go_region_held3 (fun w'=>w'.cell? ⟨d,1,none⟩=some (.slice (some ⟨g,0,none⟩) N c)/\w'.cell? ⟨d,2,none⟩=some (.slice O nt P)/\w'.cell? ⟨d,3,none⟩=some (II S.day)/\w'.cell? ⟨g,i * 13,none⟩=some (II x.id)/\w'.cell? ⟨g,i * 13+2,none⟩=some (.string x.sym)/\w'.cell? ⟨g,k * 13,none⟩=some (II y.id)/\w'.cell? ⟨g,k * 13+5,none⟩=some (II y.af)) (go_keep) (first | fail);obtain⟨tr,htr⟩:∃tr,S.tr i k n=tr:=⟨_,rfl⟩;have hwr:IntKind.i64.wrap ((nt:Int)+1)=(nt:Int)+1:=by rw[IntKind.wrap_i64];omega
 obtain⟨K,hw4⟩:=gy ((f.alloc (.cells #[II (IntKind.i64.wrap ((nt:Int)+1)),.string x.sym,II y.af,II n,II x.id,II y.id,II S.day] 56)).drew);rw[<-hw4];have X:aj aA f K:=by rw[hw4];exact ((aj.refl aA f).alloc _).drew
 have Z:au K f.heap.size #[II (IntKind.i64.wrap ((nt:Int)+1)),.string x.sym,II y.af,II n,II x.id,II y.id,II S.day] 56:=by rw[hw4];exact (au.new _ _ _).drew
 have hs4:K.heap.size=f.heap.size+1:=by rw[hw4];simp
 have v4:=X.cell x3 idd;have v41:=X.cell u1 idd;have vx0:=X.cell x0 idd;have vy0:=X.cell y0 idd;have q4:CC K f.heap.size 4 (II x.id):=Z.cell 4;have q5:CC K f.heap.size 5 (II y.id):=Z.cell 5;have g4:=Z.frozen 4;have g5:=Z.frozen 5;have HTR:Hid (S.tr i k n=⟨(nt:Int)+1,x.sym,y.af,n,if x.side=1 then y.id else x.id,if x.side=1 then x.id else y.id,S.day⟩):=by
  show _=_;unfold RS.tr;rw[ae HX,ae HY,ae Y]
 have I:=(ae H3).ax X;obtain⟨HB4,CB,WC,HWR⟩:=gY Z X hs4 hwr;clear Z hs4 hwr hw4 X htr tr;obtain⟨i0,z0,hi0,hz0,hz1,hz2,hz3⟩:=BN;have hmx:nt+1<=maxLen:=by unfold maxLen;omega
 have lH:(nt+1) * 72<=140737488355328:=by omega
 have hge:=I.ge;by_cases hsd:x.side=1
 ·have es:(x.side == 1)=true:=by simp[hsd]
  have WE:=ai hsd;clear hsd;obtain⟨o,T⟩:=gy ((K.setCell ⟨f.heap.size,4,none⟩ (II y.id)).setCell ⟨f.heap.size,5,none⟩ (II x.id));have kb:aj (fun b=>b=f.heap.size) K o:=by rw[T];exact ((aj.refl (fun b=>b=f.heap.size) K).setCell (p:=⟨f.heap.size,4,none⟩) (.inl rfl) _).setCell (p:=⟨f.heap.size,5,none⟩) (.inl rfl) _
  have R:au o f.heap.size #[II (IntKind.i64.wrap ((nt:Int)+1)),.string x.sym,II y.af,II n,II y.id,II x.id,II S.day] 56:=by rw[T];exact ((ae HB4).set 4 _).set 5 _
  have J:dF o base d (S.gI i k n) m:=by
   have nb:∀b,SF d m b->b≠f.heap.size:=fun b q e=>by have:=((ae H3).lt q).2;omega
   have hr:∀{e size n:Nat} {v:Value} {xs:List Value},K.ownsRow base e size v n xs->(∀b,v.ownBlock=some b->SF d m b)->o.ownsRow base e size v n xs:=fun r hs=>aB r kb (fun b q=>nb b (hs b q))
   exact⟨I.ge,kb.ay I.ay (nb _ (.inl rfl)),hr I.mZ (fun b q=>.inr (.inl q)),hr I.dV (fun b q=>jL q),hr I.dJ (fun b q=>iQ q),hr I.lZ (fun b q=>xA q)⟩
  have k5:aj aA f o:=(ae CB).from (kb.mono (fun b q=>.inr (by omega)));have hs5:o.heap.size=f.heap.size+1:=by rw[T];simp[ae WC]
  have Pj:=ai T;clear T kb I;go_wp2;rw[<-ae Pj];have HTS:Hid (S.tr i k n=⟨(nt:Int)+1,x.sym,y.af,n,y.id,x.id,S.day⟩):=by show _=_;rw[ae HTR,if_pos (ae WE),if_pos (ae WE)]
  obtain⟨t0,t1,t2,t3,t4,t5,t6⟩:=R.c7;have u5:o.cell? ⟨d,2,none⟩=some (.slice O nt P):=by rw[<-ae B];exact J.ay.cell 2
  obtain⟨H,G⟩:=gy ((o.alloc (.cells #[II (IntKind.i64.wrap ((nt:Int)+1)),.string x.sym,II y.af,II n,II y.id,II x.id,II S.day,.bool true] 210)).drew);have M:aj aA o H:=by rw[G];exact ((aj.refl aA o).alloc _).drew
  have QO:H.heap.size=f.heap.size+2:=by rw[G];simp[hs5]
  have V:=J.ax M;have Hl:H.ownsRow base 210 8 (.slice O nt P) nt (rP S.t):=by
   have r:=V.dJ;change H.ownsRow base 210 8 m.tv S.t.length (rP S.t) at r;rw[ae B,ae Y]at r;exact r
  have hnews:∀j A,(DW ⟨⟨IntKind.i64.wrap ((nt:Int)+1),x.sym,y.af,n,y.id,x.id,S.day⟩,true⟩)[j]?=some A->H.cell? (Addr.add ⟨o.heap.size,0,none⟩ j)=some A:=by
   intro j A hj;have:=VZ o ⟨⟨IntKind.i64.wrap ((nt:Int)+1),x.sym,y.af,n,y.id,x.id,S.day⟩,true⟩ j A hj;rw[G];exact this
  have hone:∀A∈DW ⟨⟨IntKind.i64.wrap ((nt:Int)+1),x.sym,y.af,n,y.id,x.id,S.day⟩,true⟩,A.oneCell'=true:=by simp[DW,Value.oneCell']
  have b7:=M.ay R idd;have HC:Hid (∀D u,dF D base d { S.gI i k n with t:=S.t++[⟨⟨IntKind.i64.wrap ((nt:Int)+1),x.sym,y.af,n,y.id,x.id,S.day⟩,true⟩] } u->CT 205 #[PP d,II 1,.agg #[II (IntKind.i64.wrap ((nt:Int)+1)),.string x.sym,II y.af,II n,II y.id,II x.id,II S.day]] D fun e w'=>e=.returned (.tuple #[])/\iZ base d (S.gW i k n) u D w'):=by
   intro D u h9;have:=Ba base d _ u 1 ⟨IntKind.i64.wrap ((nt:Int)+1),x.sym,y.af,n,y.id,x.id,S.day⟩ D h9 ho;have e9:S.gW i k n=RS.Jg { S.gI i k n with t:=S.t++[⟨⟨IntKind.i64.wrap ((nt:Int)+1),x.sym,y.af,n,y.id,x.id,S.day⟩,true⟩] } 1 ⟨IntKind.i64.wrap ((nt:Int)+1),x.sym,y.af,n,y.id,x.id,S.day⟩:=by
    unfold RS.gW RS.Jg;rw[ae HTS,ae HWR]
    rfl
   rw[e9];exact this
  have Ua:Hid (dF o base d (S.gI i k n) m/\aj (SF d m) w o):=⟨J,(ae Ph).trans k5.aP⟩;have Wv:Hid (w.heap.size<=f.heap.size):=(ae Ph).size;obtain⟨Y4,z,C,HR7,Jq,CE,HW7,YN⟩:=Ha M V QO Hl hnews hone G b7;have HFL:Hid ((S.gI i k n).t.length=nt):=ae Y;have acb:d<f.heap.size:=UX;have ne8:f.heap.size≠d:=by omega
  have ls5:d<o.heap.size:=by omega
  have lh5:f.heap.size<o.heap.size:=by omega
  clear R J k5 hs5 G M QO V Hl hnews hone b7;go_region_law (first | (rw[<-ae HW7];refine step_append_lies _ rfl (.tmp 142) (.tmp 145) 205 rfl base 210 i0 z0 8 72 Tryz.underlying205 hi0 hz0 hz1 hz2 hz3 (by decide) (.slice O nt P) nt (rP S.t) rfl (ae HR7) ⟨o.heap.size,0,none⟩ 1 1 (DW ⟨⟨IntKind.i64.wrap ((nt:Int)+1),x.sym,y.af,n,y.id,x.id,S.day⟩,true⟩) rfl rfl (ae Jq) (ae CE) (by omega) hmx lH (by have:=ae C;omega) (f.heap.size+2) (ae C) ?_;intro g8 W9 w8 hown2 L hat hlt;have Ec:=ai hown2;have HG2:=ai L;have HA2:=ai hat;have U:au w8 d _ 207:=(L.block d (ae z).ay.lt (fun e=>by obtain⟨cs,F⟩:=aF (ae z).dJ (b:=d) (by rw[ae B];exact e.symm);exact au.ne F (ae z).ay (by decide) rfl)).trans (ae z).ay;have v82:=U.cell 2;have f82:=U.frozen 2;simp at v82;have b3:au w8 f.heap.size _ 56:=(L.block f.heap.size (by have:=ae C;omega) (fun e=>by obtain⟨cs,F⟩:=aF (ae z).dJ (b:=f.heap.size) (by rw[ae B];exact e.symm);exact au.ne F (ae YN) (by decide) rfl)).trans (ae YN);have HB3:=ai b3;clear hown2 L hat U b3))
  all_goals
   have a1:=(ae z).SY (r:=⟨⟨IntKind.i64.wrap ((nt:Int)+1),x.sym,y.af,n,y.id,x.id,S.day⟩,true⟩) (ae HFL) (ae Ec) (by rw[ae B];exact ae HG2) (by rw[ae B];exact ae HA2) (ae C);have s:=(ae HB3).other (a:=⟨d,2,none⟩) ne8 (.slice (some ⟨g8,0,none⟩) (nt+1) W9);have s0:=s.cell 0;have s1:=s.cell 1;have s2:=s.cell 2;have s3:=s.cell 3;have s4:=s.cell 4;have s5:=s.cell 5;have s6:=s.cell 6;simp at s0 s1 s2 s3 s4 s5 s6;obtain⟨u,p9,q9,r9⟩:=a1;have YT:=ai (ae HC _ u p9);rw[ae HWR]at YT;have Zd:Hid (∀b,SF d u b->SF d m b\/w.heap.size<=b):=fun b q=>(q9 b q).imp_right (fun h=>by have:=ae C;have:=ae Wv;omega)
   have Zg:=ai (((ae Ua).2.trans (ae Y4).aP).trans r9);clear p9 q9 r9 s;go_wp2_with fail;refine (ae YT).mono ?_;rintro e w' ⟨rfl,hn'⟩;go_wp2;go_end0;refine⟨rfl,?_⟩;obtain⟨m10,p10,q10,r10⟩:=hn';refine⟨m10,p10,fun b q=>?_,(ae Zg).from (r10.mono (ae Zd))⟩;rcases q10 b q with h | h
   ·exact ae Zd b h
   ·exact .inr (Nat.le_trans (ae Zg).size h)
 ·have es:(x.side == 1)=false:=by simp[hsd]
  have WE:=ai hsd;clear hsd;go_wp2;obtain⟨o,T⟩:=gy K;have R:=ae HB4;have J:=I;have k5:=ae CB;have hs5:=ae WC;rw[<-T]at R J k5 hs5 ⊢;clear T I;have HTS:Hid (S.tr i k n=⟨(nt:Int)+1,x.sym,y.af,n,x.id,y.id,S.day⟩):=by show _=_;rw[ae HTR,if_neg (ae WE),if_neg (ae WE)]
  obtain⟨t0,t1,t2,t3,t4,t5,t6⟩:=R.c7;have u5:o.cell? ⟨d,2,none⟩=some (.slice O nt P):=by rw[<-ae B];exact J.ay.cell 2
  obtain⟨H,G⟩:=gy ((o.alloc (.cells #[II (IntKind.i64.wrap ((nt:Int)+1)),.string x.sym,II y.af,II n,II x.id,II y.id,II S.day,.bool true] 210)).drew);have M:aj aA o H:=by rw[G];exact ((aj.refl aA o).alloc _).drew
  have QO:H.heap.size=f.heap.size+2:=by rw[G];simp[hs5]
  have V:=J.ax M;have Hl:H.ownsRow base 210 8 (.slice O nt P) nt (rP S.t):=by
   have r:=V.dJ;change H.ownsRow base 210 8 m.tv S.t.length (rP S.t) at r;rw[ae B,ae Y]at r;exact r
  have hnews:∀j A,(DW ⟨⟨IntKind.i64.wrap ((nt:Int)+1),x.sym,y.af,n,x.id,y.id,S.day⟩,true⟩)[j]?=some A->H.cell? (Addr.add ⟨o.heap.size,0,none⟩ j)=some A:=by
   intro j A hj;have:=VZ o ⟨⟨IntKind.i64.wrap ((nt:Int)+1),x.sym,y.af,n,x.id,y.id,S.day⟩,true⟩ j A hj;rw[G];exact this
  have hone:∀A∈DW ⟨⟨IntKind.i64.wrap ((nt:Int)+1),x.sym,y.af,n,x.id,y.id,S.day⟩,true⟩,A.oneCell'=true:=by simp[DW,Value.oneCell']
  have b7:=M.ay R idd;have HC:Hid (∀D u,dF D base d { S.gI i k n with t:=S.t++[⟨⟨IntKind.i64.wrap ((nt:Int)+1),x.sym,y.af,n,x.id,y.id,S.day⟩,true⟩] } u->CT 205 #[PP d,II 1,.agg #[II (IntKind.i64.wrap ((nt:Int)+1)),.string x.sym,II y.af,II n,II x.id,II y.id,II S.day]] D fun e w'=>e=.returned (.tuple #[])/\iZ base d (S.gW i k n) u D w'):=by
   intro D u h9;have:=Ba base d _ u 1 ⟨IntKind.i64.wrap ((nt:Int)+1),x.sym,y.af,n,x.id,y.id,S.day⟩ D h9 ho;have e9:S.gW i k n=RS.Jg { S.gI i k n with t:=S.t++[⟨⟨IntKind.i64.wrap ((nt:Int)+1),x.sym,y.af,n,x.id,y.id,S.day⟩,true⟩] } 1 ⟨IntKind.i64.wrap ((nt:Int)+1),x.sym,y.af,n,x.id,y.id,S.day⟩:=by
    unfold RS.gW RS.Jg;rw[ae HTS,ae HWR]
    rfl
   rw[e9];exact this
  have Ua:Hid (dF o base d (S.gI i k n) m/\aj (SF d m) w o):=⟨J,(ae Ph).trans k5.aP⟩;have Wv:Hid (w.heap.size<=f.heap.size):=(ae Ph).size;obtain⟨Y4,z,C,HR7,Jq,CE,HW7,YN⟩:=Ha M V QO Hl hnews hone G b7;have HFL:Hid ((S.gI i k n).t.length=nt):=ae Y;have acb:d<f.heap.size:=UX;have ne8:f.heap.size≠d:=by omega
  have ls5:d<o.heap.size:=by omega
  have lh5:f.heap.size<o.heap.size:=by omega
  clear R J k5 hs5 G M QO V Hl hnews hone b7;go_region_law (first | (rw[<-ae HW7];refine step_append_lies _ rfl (.tmp 142) (.tmp 145) 205 rfl base 210 i0 z0 8 72 Tryz.underlying205 hi0 hz0 hz1 hz2 hz3 (by decide) (.slice O nt P) nt (rP S.t) rfl (ae HR7) ⟨o.heap.size,0,none⟩ 1 1 (DW ⟨⟨IntKind.i64.wrap ((nt:Int)+1),x.sym,y.af,n,x.id,y.id,S.day⟩,true⟩) rfl rfl (ae Jq) (ae CE) (by omega) hmx lH (by have:=ae C;omega) (f.heap.size+2) (ae C) ?_;intro g8 W9 w8 hown2 L hat hlt;have Ec:=ai hown2;have HG2:=ai L;have HA2:=ai hat;have U:au w8 d _ 207:=(L.block d (ae z).ay.lt (fun e=>by obtain⟨cs,F⟩:=aF (ae z).dJ (b:=d) (by rw[ae B];exact e.symm);exact au.ne F (ae z).ay (by decide) rfl)).trans (ae z).ay;have v82:=U.cell 2;have f82:=U.frozen 2;simp at v82;have b3:au w8 f.heap.size _ 56:=(L.block f.heap.size (by have:=ae C;omega) (fun e=>by obtain⟨cs,F⟩:=aF (ae z).dJ (b:=f.heap.size) (by rw[ae B];exact e.symm);exact au.ne F (ae YN) (by decide) rfl)).trans (ae YN);have HB3:=ai b3;clear hown2 L hat U b3))
  all_goals
   have a1:=(ae z).SY (r:=⟨⟨IntKind.i64.wrap ((nt:Int)+1),x.sym,y.af,n,x.id,y.id,S.day⟩,true⟩) (ae HFL) (ae Ec) (by rw[ae B];exact ae HG2) (by rw[ae B];exact ae HA2) (ae C);have s:=(ae HB3).other (a:=⟨d,2,none⟩) ne8 (.slice (some ⟨g8,0,none⟩) (nt+1) W9);have s0:=s.cell 0;have s1:=s.cell 1;have s2:=s.cell 2;have s3:=s.cell 3;have s4:=s.cell 4;have s5:=s.cell 5;have s6:=s.cell 6;simp at s0 s1 s2 s3 s4 s5 s6;obtain⟨u,p9,q9,r9⟩:=a1;have YT:=ai (ae HC _ u p9);rw[ae HWR]at YT;have Zd:Hid (∀b,SF d u b->SF d m b\/w.heap.size<=b):=fun b q=>(q9 b q).imp_right (fun h=>by have:=ae C;have:=ae Wv;omega)
   have Zg:=ai (((ae Ua).2.trans (ae Y4).aP).trans r9);clear p9 q9 r9 s;go_wp2_with fail;refine (ae YT).mono ?_;rintro e w' ⟨rfl,hn'⟩;go_wp2;go_end0;refine⟨rfl,?_⟩;obtain⟨m10,p10,q10,r10⟩:=hn';refine⟨m10,p10,fun b q=>?_,(ae Zg).from (r10.mono (ae Zd))⟩;rcases q10 b q with h | h
   ·exact ae Zd b h
   ·exact .inr (Nat.le_trans (ae Zg).size h)
end Go.Proofs.YtigaphnafnpfnaaGreatDoor
