import Derived.Test.YtigaphnafnpfnaaGreatDoorQVQ1
set_option linter.unusedVariables false
set_option linter.unusedSimpArgs false
set_option maxHeartbeats 8000000
set_option maxRecDepth 100000
namespace Go.Proofs.YtigaphnafnpfnaaGreatDoor
open Go.RowKit Go.Maps
attribute [local go_sem ↓] Go.wp_at_zero Go.wp_at_succ
theorem Jy(x:Pr)(o:kQ)(w:World)(h:jU w x)(K:qj w)(hN:x.N<2000000)(M:o.kind=3)(i:qC o) :
 CT 60 #[.agg #[PP x.bv,PP x.rb],o.val] w fun e w'=>e=.returned (.bool true)/\FX x w w':=by
 obtain⟨kind,m,a,b,c,s,⟨id,C,sym,side,B,af,az⟩⟩:=o;simp only at M;subst M;obtain⟨W1,L,y,P,l,G,F,J,I,Q⟩:=nD x 3 m a b c s id C sym side B af az w h;have r:=ai (OG x.bv x.bm x.bo x.N x.V x.p x.S ⟨id,C,sym,side,B,af,az⟩ W1 l.kK (K.ax y) l.oG (by omega) l.sz (by have:=i.sym;simp only at this;show sym.size<=_;omega) (EG i.id) i.own i.kd i.pr);obtain⟨k,WA,Wq,Z,YQ,HBY,Eb,D,HW1⟩:=wL Q l G F J I y P L;simp only[kQ.val,kQ.cells];simp only[bC]at HW1;simp only[iR.val]at r;clear h K i y P l G F J I Q L;go_enter Tryz.func60,Tryz.ntmps60;go_wp2_with fail;rw[<-ae HW1];refine (ae r).mono ?_;rintro e w2 ⟨T,X,W,R,U,E,rfl,u⟩;have j:=u.jW;have n:∀b,w.heap.size<=b->¬bY x.bv x.bm x.bo x.V b:=fun b q hf=>ae k b q (.inl hf)
 have H:=j.ay (ae Wq) (n _ (by omega));have g:=j.ay (ae Z) (n _ (by omega));have d:=j.ay (ae YQ) (n _ (by omega));have Y:=j.ay (ae HBY) (n _ (by omega));have q1:CC w2 w.heap.size 1 (PP x.rb):=H.cell 1;have o6:CC w2 (w.heap.size+1) 6 (II id):=g.cell 6;have o7:CC w2 (w.heap.size+1) 7 (II C):=g.cell 7;have o8:CC w2 (w.heap.size+1) 8 (.string sym):=g.cell 8;have o9:CC w2 (w.heap.size+1) 9 (II side):=g.cell 9;have o10:CC w2 (w.heap.size+1) 10 (II B):=g.cell 10;have o11:CC w2 (w.heap.size+1) 11 (II af):=g.cell 11;have XY:CC w2 (w.heap.size+1) 12 (II az):=g.cell 12;have z0:CC w2 (w.heap.size+2) 0 (II 0):=d.cell 0;have fz0:=d.frozen 0;have z1:CC w2 (w.heap.size+2) 1 (II 0):=d.cell 1;have Qw:=d.frozen 1;have z2:CC w2 (w.heap.size+2) 2 (II 0):=d.cell 2;have Qx:=d.frozen 2;have z3:CC w2 (w.heap.size+2) 3 (II 0):=d.cell 3;have fz3:=d.frozen 3;have z4:CC w2 (w.heap.size+2) 4 (II 0):=d.cell 4;have Qy:=d.frozen 4;have lzb:=d.lt;obtain⟨Ud,HZ,HY,PH⟩:=gY u d Y j;clear u j n H g d Y r;simp only[dm];go_wp2_with fail;have z:aj (fun b=>b=w.heap.size+2) w2 (((((w2.setCell ⟨w.heap.size+2,0,none⟩ (II T)).setCell ⟨w.heap.size+2,1,none⟩ (II X)).setCell ⟨w.heap.size+2,2,none⟩ (II W)).setCell ⟨w.heap.size+2,3,none⟩ (II R)).setCell ⟨w.heap.size+2,4,none⟩ (II U)):=qE _ _ _ _ _;refine (vT (ae WA) hN (ae Ud) z (fun b q=>⟨ae k b (by omega),by have:=ae D;omega⟩)).mono ?_;rintro e w3 ⟨rfl,O,A⟩;have t:=A.ay (uh (ae HZ) (II T) (II X) (II W) (II R) (II U)) (fun v=>ae k _ (by omega) (.inr (.inl v)));have f:=A.ay (z.ay (ae HY) (by omega)) (fun v=>ae k _ (by omega) (.inr (.inl v)));obtain⟨u0,u1,u2,u3,u4⟩:=t.c5;obtain⟨v0,v1,v2,v3,v4⟩:=f.c5;have fv0:=f.frozen 0;have fv1:=f.frozen 1;have fv2:=f.frozen 2;have fv3:=f.frozen 3;have fv4:=f.frozen 4;have lu:=t.lt;have lv:=f.lt;obtain⟨Ph,HYS⟩:=aZ O f;simp only[dm];clear O A t f z q1 o6 o7 o8 o9 o10 o11 XY z0 z1 z2 z3 z4 fz0 Qw Qx fz3 Qy lzb;go_wp2;go_ret;refine⟨by first | rfl | simp,?_⟩;refine CG.of (ae Eb) ((ae Ph).more (K':=fun b=>b=w.heap.size+3) (qE _ _ _ _ _) (fun b q=>⟨ae k b (by omega),by have:=ae D;omega⟩)) (fun b q=>by omega)
theorem Em(x:Pr)(o:kQ)(w:World)(h:jU w x)(I:qj w)(hN:x.N<2000000)(K:o.kind=5)(H:qC o) :
 CT 60 #[.agg #[PP x.bv,PP x.rb],o.val] w fun e w'=>e=.returned (.bool true)/\FX x w w':=by
 obtain⟨kind,m,a,b,c,s,⟨id,aG,sym,side,iK,af,az⟩⟩:=o;simp only at K;subst K;obtain⟨W1,J,u,M,j,D,C,G,F,O⟩:=nD x 5 m a b c s id aG sym side iK af az w h;have z:=ai (Iu x.bv x.bm x.bo x.N x.V x.p x.S a b c W1 j.kK (I.ax u) j.oG (by omega) j.sz (EG H.a));obtain⟨i,WA,Y,X,YQ,Z,Eb,A,B⟩:=wL O j D C G F u M J;simp only[kQ.val,kQ.cells];simp only[bC]at B;clear h I H u M j D C G F O J;go_enter Tryz.func60,Tryz.ntmps60;go_wp2_with fail;rw[<-ae B];refine (ae z).mono ?_;rintro e w2 ⟨Q,U,T,P,R,E,rfl,r⟩;have g:=r.jW;have k:∀b,w.heap.size<=b->¬bY x.bv x.bm x.bo x.V b:=fun b n hf=>ae i b n (.inl hf)
 have bp2:=g.ay (ae Y) (k _ (by omega));have l:=g.ay (ae X) (k _ (by omega));have d:=g.ay (ae YQ) (k _ (by omega));have W:=g.ay (ae Z) (k _ (by omega));have q1:CC w2 w.heap.size 1 (PP x.rb):=bp2.cell 1;have o2:CC w2 (w.heap.size+1) 2 (II a):=l.cell 2;have o3:CC w2 (w.heap.size+1) 3 (II b):=l.cell 3;have o4:CC w2 (w.heap.size+1) 4 (II c):=l.cell 4;have z0:CC w2 (w.heap.size+2) 0 (II 0):=d.cell 0;have fz0:=d.frozen 0;have z1:CC w2 (w.heap.size+2) 1 (II 0):=d.cell 1;have Qw:=d.frozen 1;have z2:CC w2 (w.heap.size+2) 2 (II 0):=d.cell 2;have Qx:=d.frozen 2;have z3:CC w2 (w.heap.size+2) 3 (II 0):=d.cell 3;have fz3:=d.frozen 3;have z4:CC w2 (w.heap.size+2) 4 (II 0):=d.cell 4;have Qy:=d.frozen 4;have lzb:=d.lt;obtain⟨Ud,HZ,HY,PH⟩:=gY r d W g;clear r g k bp2 l d W z;simp only[dm];go_wp2_with fail;have v:aj (fun b=>b=w.heap.size+2) w2 (((((w2.setCell ⟨w.heap.size+2,0,none⟩ (II Q)).setCell ⟨w.heap.size+2,1,none⟩ (II U)).setCell ⟨w.heap.size+2,2,none⟩ (II T)).setCell ⟨w.heap.size+2,3,none⟩ (II P)).setCell ⟨w.heap.size+2,4,none⟩ (II R)):=qE _ _ _ _ _;refine (vT (ae WA) hN (ae Ud) v (fun b n=>⟨ae i b (by omega),by have:=ae A;omega⟩)).mono ?_;rintro e w3 ⟨rfl,L,y⟩;have q:=y.ay (uh (ae HZ) (II Q) (II U) (II T) (II P) (II R)) (fun t=>ae i _ (by omega) (.inr (.inl t)));have f:=y.ay (v.ay (ae HY) (by omega)) (fun t=>ae i _ (by omega) (.inr (.inl t)));obtain⟨u0,u1,u2,u3,u4⟩:=q.c5;obtain⟨v0,v1,v2,v3,v4⟩:=f.c5;have fv0:=f.frozen 0;have fv1:=f.frozen 1;have fv2:=f.frozen 2;have fv3:=f.frozen 3;have fv4:=f.frozen 4;have lu:=q.lt;have lv:=f.lt;obtain⟨Ph,HYS⟩:=aZ L f;simp only[dm];clear L y q f v q1 o2 o3 o4 z0 z1 z2 z3 z4 fz0 Qw Qx fz3 Qy lzb;go_wp2;go_ret;refine⟨by first | rfl | simp,?_⟩;refine CG.of (ae Eb) ((ae Ph).more (K':=fun b=>b=w.heap.size+3) (qE _ _ _ _ _) (fun b n=>⟨ae i b (by omega),by have:=ae A;omega⟩)) (fun b n=>by omega)
theorem Dx(x:Tg)(day:Int):kZ x day≠0\/(kZ x day=0/\x.holds=true):=by
 unfold kZ;cases h:x.holds
 ·simp
 ·by_cases e:x.t.day=day
  ·simp[e]
  ·simp[e]
theorem BG(bv:Nat)(N af:Int)(po:Option Addr)(w:World)(j:cZ af=false)(h:∀a,aj aA w a->CT 71 #[PP bv,II N] a fun e w'=>e=.returned (.tuple #[.pointer po,II 0])/\aj aA a w') :
 CT 40 #[PP bv,II N,II af] w fun e w'=>e=.returned (II 4)/\aj aA w w':=by
 have b:aj aA w (w.alloc (.cells #[PP bv] 35)):=(aj.refl aA w).alloc _;have H:=ai (h _ b);have i:Hid (∀a,CT 68 #[II af] a fun e w'=>e=.returned (.bool false)/\w'=a):=fun a=>by
  have:=bJ af a;rw[j]at this;exact this
 have f:=ai b;clear h b;go_enter Tryz.func40,Tryz.ntmps40;go_wp2_with fail;refine (ae H).mono ?_;rintro e w2 ⟨rfl,d⟩;have g:=ai d;clear d H;go_wp2_with fail;refine (ae i _).mono ?_;rintro e k ⟨rfl,c⟩;rw[c];clear c k;go_wp2;go_ret;exact⟨rfl,((ae f).trans (ae g)).trans ((aj.refl aA w2).alloc _)⟩
theorem BP{n b:Int}(c:qh n)(a:qh b):yA (jd n b):=by
 refine⟨_,fun d=>Cc ⟨#[]⟩ 0 0 ⟨#[]⟩ 0 0 0 0 n b 0 false d c a,?_⟩;have e:=dH n c;have f:=dH b a
 repeat rw[ByteArray.size_append]
 show 8+(jR n).size+1+(jR b).size<=300;omega
theorem di.NV{p:Nat->Nat}{V:aS}{S:RS}{N k tb:Nat}{x:Tg}{b:Int}{bG:Lm}(h:di p V S N)(d:S.t[k]?=some x):di p { V with lg:=V.lg.rJ k tb x b,lm:=bG } (S.fresh.uy k x b) (N+1):=by
 have f:=(List.getElem?_eq_some_iff.1 d).1;refine⟨⟨h.gw.gb,h.gw.mW,fun y e=>?_,h.gw.sym,h.gw.side⟩,h.nb,h.sym,h.no,h.aV,h.yY,h.inj,h.same,h.place,h.wI,h.Nb,h.Nc,fun i c=>?_,?_,?_,h.day,?_,?_,?_,h.fM,h.Pn,h.xx⟩
 ·have q:=h.gw.q y e;exact⟨q.sum,q.o0,q.f0,q.c0,q.e0,by have:=q.hi;unfold mN at this ⊢;push_cast;omega⟩
 ·have a:=h.KQ i c;exact⟨a.1,by show (V.B i).places<=_;push_cast;have:=a.2;omega⟩
 ·have a:=h.Po;exact⟨a.1,by show S.places<=_;push_cast;have:=a.2;omega⟩
 ·show V.lg.tr.set k ⟨x.t.at b,x.holds⟩=S.t.set k ⟨{ x.t with af:=b },x.holds⟩;rw[h.tr];rfl
 ·show (V.lg.tr.set k ⟨x.t.at b,x.holds⟩).length<=_;rw[List.length_set];have:=h.xk;omega
 ·show (V.lg.tp++[(⟨(V.lg.tp.length:Int)+1,3,x.t.at b⟩:Rc)]).length<=_;rw[List.length_append,List.length_singleton];have:=h.zA;omega
 ·show V.lg.ud+(V.lg.na+1)<=N+1;have:=h.zu;omega
theorem FL.af{om:Nat->Ord}{aV:Int->Option Nat}{tr:List Tg}{k:Nat}{x:Tg}{d:Int->Int}{b:Int}(h:FL om aV (held tr) d)(g:tr[k]?=some x):FL om aV (held (tr.set k ⟨x.t.at b,x.holds⟩)) d:=by
 have l:=(List.getElem?_eq_some_iff.1 g).1;have e:held tr=held (tr.take k)++(if x.holds then [x.t] else [])++held (tr.drop (k+1)):=by
  have e:=congrArg held (I9 g);rw[iP,iP,tJ]at e;exact e
 have i:held (tr.set k ⟨x.t.at b,x.holds⟩)=held (tr.take k)++(if x.holds then [x.t.at b] else [])++held (tr.drop (k+1)):=by
  rw[DN l,iP,iP,tJ]
 rw[e]at h;rw[i];refine⟨fun t f=>?_,h.xx,fun id c j=>?_⟩
 ·simp only[List.mem_append]at f;rcases f with (a | a) | a
  ·exact h.tw t (by simp[a])
  ·cases hh:x.holds
   ·rw[hh]at a;simp at a
   ·rw[hh]at a;simp at a;subst a;have:=h.tw x.t (by simp[hh]);exact⟨this.lF,this.dZ,this.az⟩
  ·exact h.tw t (by simp[a])
 ·rw[h.eq id c j,jq,jq,jq,jq];cases hh:x.holds <;> simp[vY,tq,Tr.at]
theorem vG.iV{V:aS}{k tb:Nat}{x:Tg}{b:Int}{bG:Lm}(h:vG V)(c:V.lg.tr[k]?=some x):vG { V with lg:=V.lg.rJ k tb x b,lm:=bG }:=by
 have hs:=h.sy x (List.mem_of_getElem? c);refine⟨h.sz,h.fl.af c,fun y d=>?_,h.tp.kL rfl hs,h.nm.set c (y:=⟨x.t.at b,x.holds⟩) rfl rfl,h.dy⟩;have e:y∈V.lg.tr.set k ⟨x.t.at b,x.holds⟩:=d;rcases List.mem_or_eq_of_mem_set e with a | a
 ·exact h.sy y a
 ·rw[a];exact hs
theorem Ir(bv d f N:Nat)(V:aS)(p:Nat->Nat)(S:RS)(n b:Int)(w:World)(R:dL w bv d f V)(I:qj w)(h:di p V S N)(P:N<2900000)(z:vG V) :
 CT 40 #[PP bv,II n,II b] w fun e w'=>∃A,e=.returned (II A)/\TJ bv d f V p S N (jd n b) 0 0 0 0 0 A w w':=by
 have Q:=h.xk;have T:=h.zA;have U:=h.zu;have q:S.t.length<=1000000000:=by rw[<-h.tr];omega
 by_cases s:n<1\/(V.lg.tr.length:Int)<n
 ·refine (yE bv n 6 b none w (by decide) (fun l kW=>Bg bv d f V.lg V.lm n l (R.aO.ax kW) s)).mono ?_;rintro e w' ⟨rfl,o⟩;exact⟨6,rfl,.inl ⟨by decide,o,S.fresh,vJ q (by rw[<-h.tr];exact s)⟩⟩
 ·obtain⟨k,i⟩:∃k:Nat,n-1=(k:Int):=⟨(n-1).toNat,by omega⟩;have C:k<V.lg.tr.length:=by omega
  obtain⟨x,c⟩:∃x,V.lg.tr[k]?=some x:=⟨_,List.getElem?_eq_getElem C⟩;obtain⟨tb,u⟩:∃tb,V.lm.tb[k]?=some tb:=⟨_,List.getElem?_eq_getElem (by rw[R.aO.aO.len];exact C)⟩;have j:S.t[k]?=some x:=by rw[<-h.tr];exact c
  have v:V.lg.day=S.day:=h.day;rcases Dx x V.lg.day with m | ⟨h0,g⟩
  ·refine (yE bv n (kZ x V.lg.day) b none w m (fun l kW=>(uk bv d f k tb V.lg V.lm n x l (R.aO.ax kW) i c u (by omega)).mono (fun e w' g=>?_))).mono ?_
   ·rw[if_neg m]at g;exact g
   ·rintro e w' ⟨rfl,o⟩;rw[v]at m ⊢;exact⟨_,rfl,.inl ⟨m,o,S.fresh,wJ q i j m⟩⟩
  ·cases hb:cZ b
   ·refine (BG bv n b (some ⟨tb,0,none⟩) w hb (fun l kW=>(uk bv d f k tb V.lg V.lm n x l (R.aO.ax kW) i c u (by omega)).mono (fun e w' g=>?_))).mono ?_
    ·rw[h0]at g;simpa using g
    ·rintro e w' ⟨rfl,o⟩;exact⟨_,rfl,.inl ⟨by decide,o,S.fresh,uM q i j (by rw[<-v];exact h0) hb⟩⟩
   ·obtain⟨ol,W,K⟩:=h.ol;refine (NU bv d f k tb V n b x w (Gs V) R I i c u (by omega) (by omega) h0 hb (by omega)).mono ?_;rintro e w' ⟨rfl,bG,H,G,D,M,E⟩;have B:=R.kM H D;have J:lY S.t (S.fresh.uy k x b).told=[(3,x.t)]:=by
     have O:x.t.num=(k:Int)+1:=z.nm k x c;show List.filterMap (wO S.t) [⟨0,3,{ x.t with af:=b }⟩]=_;simp only[List.filterMap_cons,wO];rw[show ((x.t.num-1).toNat)=k by omega,j]
     rfl
    have F:qh b:=by unfold cZ at hb;simp at hb;exact⟨by omega,by omega⟩
    refine⟨0,rfl,.inr ⟨rfl,BP ⟨by omega,by omega⟩ F,_,B,⟨S.fresh.uy k x b,p,h.NV j,rfl,BI q i j (by rw[<-v];exact h0) hb,by show 1<=201;omega,z.iV c,by rw[J];exact GR R K (by omega) (by omega) c u B E,fun r s _=>⟨k,x,by rw[List.mem_singleton.1 (show r∈[(⟨0,3,{ x.t with af:=b }⟩:Rc)] from s)];show x.t.num-1=_;rw[z.nm k x c];omega,j⟩⟩,D.mono (fun y a=>?_),fun y a=>?_⟩⟩
    ·rcases a with a | a
     ·exact .inl a
     ·exact vk a
    ·rcases a with a | a | a | a | a | a
     ·exact .inl (.inl a)
     ·exact .inl (.inr (.inl a))
     ·exact .inl (jL a)
     ·exact .inl (iQ a)
     ·exact .inl (qo a)
     ·exact (G y a).imp_left (fun L=>vk L)
theorem Ej(x:Pr)(o:kQ)(w:World)(h:jU w x)(G:qj w)(hN:x.N<2000000)(I:o.kind=9)(hO:qC o) :
 CT 60 #[.agg #[PP x.bv,PP x.rb],o.val] w fun e w'=>e=.returned (.bool true)/\FX x w w':=by
 obtain⟨kind,m,a,b,c,s,⟨id,aG,sym,side,iK,af,az⟩⟩:=o;simp only at I;subst I;obtain⟨A,H,r,K,g,C,B,F,E,L⟩:=nD x 9 m a b c s id aG sym side iK af az w h;have v:=ai (Ir x.bv x.bm x.bo x.N x.V x.p x.S a b A g.kK (G.ax r) g.oG (by omega) g.sz);obtain⟨j,Z,R,Q,U,T,W,Gg,z⟩:=wL L g C B F E r K H;simp only[kQ.val,kQ.cells];simp only[bC]at z;clear h G hO r K g C B F E L H;go_enter Tryz.func60,Tryz.ntmps60;go_wp2_with fail;rw[<-ae z];refine (ae v).mono ?_;rintro e w2 ⟨P,rfl,n⟩;have d:=n.jW;have i:∀b,w.heap.size<=b->¬bY x.bv x.bm x.bo x.V b:=fun b f hf=>ae j b f (.inl hf)
 have D:=d.ay (ae R) (i _ (by omega));have l:=d.ay (ae Q) (i _ (by omega));have O:=d.ay (ae U) (i _ (by omega));have M:=d.ay (ae T) (i _ (by omega));have q1:CC w2 w.heap.size 1 (PP x.rb):=D.cell 1;have o2:CC w2 (w.heap.size+1) 2 (II a):=l.cell 2;have o3:CC w2 (w.heap.size+1) 3 (II b):=l.cell 3;obtain⟨Y,HZ,HY,PH⟩:=gY n O M d;clear n d i D l O M v;go_wp2_with fail;have y:CT 99 #[PP x.rb,(jd a b).val] w2 fun e w'=>e=.returned (.tuple #[dm 0 0 0 0 0,II P])/\CG x aA A w'/\aj (RF x.rb x.av x.rv) w2 w':=vT (ae Z) hN (ae Y) (aj.refl aA w2) (fun b f=>f.elim)
 refine y.mono ?_;rintro e w3 ⟨rfl,J,t⟩;have k:=t.ay (ae HZ) (fun q=>ae j _ (by omega) (.inr (.inl q)));have u:=t.ay (ae HY) (fun q=>ae j _ (by omega) (.inr (.inl q)));obtain⟨u0,u1,u2,u3,u4⟩:=k.c5;obtain⟨v0,v1,v2,v3,v4⟩:=u.c5;have lu:=k.lt;have lv:=u.lt;have X:=ai J;simp only[dm];clear J t k u y q1 o2 o3;go_wp2;go_ret;exact⟨by first | rfl | simp,CG.of (ae W) (ae X) (fun b f=>f.elim)⟩
theorem Nr{α:Type}(l:List α):l=[]\/∃b a,l=b++[a]:=by
 rcases List.eq_nil_or_concat l with h | ⟨b,a,h⟩
 ·exact .inl h
 ·exact .inr ⟨b,a,by rw[h,List.concat_eq_append]⟩
theorem xB.last{α:Type}{bv c d:Nat}{V:aS}{H:List (oO × α)}{n:oO}{a:α}{w:World}(h:xB bv c d V (H++[(n,a)]) w):∃A x,V.lm.ac=A++[x]/\x.2=n.cl/\A.map Prod.snd=H.map (fun h=>h.1.cl):=by
 have e:=h.acs;rw[List.map_append]at e;rcases Nr V.lm.ac with h0 | ⟨A,x,h0⟩
 ·rw[h0]at e;simp at e
 ·rw[h0,List.map_append]at e;obtain⟨f,b⟩:=List.append_inj' e rfl;simp at b;exact⟨A,x,h0,b,f⟩
def Eh(x:Pr)(E:Int)(w w1:World):Prop :=
 (E≠0/\x.A=[]/\aj aA w w1/\E=12) \/
 (E=0/\∃H n a V0 F6,x.H=H++[(n,a)]/\pR (LP x.N) H V0/\(∀h,H.getLast?=some h->F6=h.1.ds)/\L6 x.bv x.bm x.bo x.V V0 n.Ts.flatten (H.map (fun h=>h.1.cl)) F6 w w1)
theorem Eh.jW{x:Pr}{c:Int}{w b:World}(h:Eh x c w b):aj (bY x.bv x.bm x.bo x.V) w b:=by
 rcases h with⟨_,_,k,_⟩ | ⟨_,H,n,a,e,F6,_,_,_,d,_,_,_,_,_,_,_,_,k,_⟩
 ·exact k.aP
 ·exact k
theorem RX{x:Pr}{w:World}(h:jU w x)(K:x.N<2000000) :
 CT 23 #[PP x.bv] w fun e f=>∃j,e=.returned (II j)/\Eh x j w f:=by
 rcases Nr x.H with h0 | ⟨H,⟨n,a⟩,h0⟩
 ·have t:x.A=[]:=by rw[h.hA,h0];rfl
  have u:x.V.lm.ac=[]:=by
   have e:=h.mem.acs;rw[h0]at e
   simpa using e
  have C:x.V.lg.na=0:=by rw[<-h.kK.aO.aO.act.len,u];rfl
  refine (O5 x.bv x.bm x.bo x.V w h.kK C).mono ?_;rintro e f ⟨rfl,k⟩;exact⟨12,rfl,.inl ⟨by decide,t,k,rfl⟩⟩
 ·have d:=h.mem;have q:=h.U9;rw[h0]at d q;obtain⟨A,y,r,s,o⟩:=d.last;obtain⟨m,V1,l,I,J,G,B,v,z⟩:=q.last;have M:=h.oG.zA;have L:=h.oG.zu;obtain⟨F6,p⟩:=gy ((H.getLast?.map (fun h=>h.1.ds)).getD []);have D:∀i,A.getLast?=some i->i.2.length=F6.length:=fun i F=>by
   have b:=congrArg List.getLast? o;rw[List.getLast?_map,List.getLast?_map,F]at b;cases c:H.getLast? with
   | none=>rw[c]at b;simp at b
   | some g =>
     rw[c]at b;simp at b;rw[p,c,b];show g.1.cl.length=g.1.ds.length;exact (d.fns g (List.mem_append_left _ (List.mem_of_getLast? c))).len
  refine (Tz x.bv x.bm x.bo x.V m V1 n l A y F6 w h.kK h.oG.gw.hs r s (d.fns (n,a) (by simp)) J G B v z D (by omega) (by omega)).mono ?_;rintro e f ⟨rfl,E⟩;refine⟨0,rfl,.inr ⟨rfl,H,n,a,m,F6,h0,I,fun g c=>by rw[p,c];rfl,?_⟩⟩;rw[<-o];exact E
theorem Sj{x:Pr}{C:Int}{r:Nat->Prop}{w v w2:World}(h:jU w x)(hN:x.N<2000000)(Z:Eh x C w v)(j:aj r v w2)(m:∀b,r b->¬PF x b/\b<w.heap.size) :
 CT 100 #[PP x.rb] w2 fun e w'=>e=.returned (II C)/\CG x r w w'/\aj (RF x.rb x.av x.rv) w2 w':=by
 have Y:=h.aN;rcases Z with⟨hE,h0,k,rfl⟩ | ⟨rfl,H,n,a,V0,F6,h0,O,hnt,g,D,hs',J,htp,hna,hud,abQ,hac,k,o⟩
 ·have E:=(h.doc.ax k).aC j (fun b d i=>(m b i).1 (.inr (.inl d)));rw[h0]at E;refine (Lp 0 x.rb x.R x.L x.av x.rv w2 E).mono ?_;rintro e w' ⟨rfl,l⟩;exact⟨rfl,⟨x,((h.ax k).aC j (fun b d i=>(m b i).1 d)).ax l,(k.aP.trans (j.mono (fun b d=>.inr d))).trans l.aP,fun b d=>.inl d,rfl,rfl,by omega⟩,l.aP⟩
 ·have F:x.A=H.map Prod.snd++[a]:=by rw[h.hA,h0,List.map_append];rfl
  have W:RV v 0 x.rb (H.map Prod.snd++[a]) x.R x.L x.av x.rv:=by rw[<-F];exact h.doc.aC k (fun b d o=>h.apart b (.inl o) d)
  have hR:x.R.length<=300 * x.N:=by rw[<-h.rt];exact h.oG.zA
  have hL:=h.lN;have zu:=h.oG.zu;obtain⟨Vp,pp,S,Np,_,_,_,_,I,hto,hrel⟩:=h.U9.aac;obtain⟨z,hS0,G,hok,ht0,hsy⟩:=hrel H n a h0;rw[h0,List.map_append]at I;have hAl:(H.map Prod.snd).length+1<=x.N:=by
   have:x.A.length<=x.N:=Y;rw[F,List.length_append]at this;exact this
  refine (SE 0 x.rb (H.map Prod.snd) a x.R x.L x.av x.rv S z w2 (W.aC j (fun b d i=>(m b i).1 (.inr (.inl d)))) I hS0 (by omega) (by omega) (by omega) (by omega) (by omega) hok).mono ?_;rintro e w' ⟨rfl,U,rv',X,P,l⟩;have M:∀b,bY x.bv x.bm x.bo g b->¬RF x.rb x.av x.rv b:=fun b d s=>by
   rcases o b d with f | f
   ·exact h.apart b (.inl f) s
   ·have:=(h.doc.lt s).2;omega
  have nfk:∀b,bY x.bv x.bm x.bo g b->¬r b:=fun b d i=>by
   rcases o b d with f | f
   ·exact (m b i).1 (.inl f)
   ·have:=(m b i).2;omega
  have u:∀b,Bx H b->Bx x.H b:=fun b ⟨y,p,c,hc,hcb⟩=>⟨y,by rw[h0];exact List.mem_append_left _ p,c,hc,hcb⟩
  have m1:xB x.bv x.bm x.bo g H v:=⟨fun y p=>(h.mem.fns y (by rw[h0];exact List.mem_append_left _ p)).aC k o,hac,fun y p=>by rw[abQ];exact hnt y p⟩;have m2:=(m1.aC j (fun b d i=>(m b i).1 (.inr (.inr (u b d))))).aC l (fun b d=>h.apart b (.inr (u b d)));have ack:=j.size;have szw:=k.size;obtain⟨V00,p0',T,Q,Vf,hN0,sz0,l0,aag,aco,_⟩:=O.aac;have K:=l0.trans J;have hBl:n.Ts.flatten.length<=201:=by rw[G];have:=MM z.t S.told;omega
  have B:g.lg.tp=iL x.R n.Ts.flatten.reverse:=by rw[htp,FV,h.rt]
  have etl:g.lg.tp.length=x.R.length+n.Ts.flatten.length:=by rw[B,vX,List.length_reverse]
  have hsz:vG g:=sz0.J7 K (by
   rw[B,<-h.rt];exact oP.nN h.sz.tp (fun q hq=>hsy q (List.mem_reverse.1 hq)))
  refine⟨rfl,⟨⟨x.bv,x.bm,x.bo,x.rb,g,H.map Prod.snd,iL x.R (lY z.t S.told).reverse,x.L++⟨#[117,110,100,111,10]⟩,U,rv',p0',T,x.N+1,H⟩,?_,?_,?_,rfl,rfl,Nat.le_refl _⟩,l⟩
  ·refine⟨(D.Hy j nfk).Hy l M,X,K.acj hs' Vf (by show Q<=x.N+1;omega) (by show _<=300 * (x.N+1);omega) (by show _<=x.N+1;omega),aag,fun b d s=>?_,?_,?_,?_,hsz,rfl,?_,m2⟩
   ·rcases P b s with f | f
    ·rcases d with d | d
     ·exact M b d f
     ·exact h.apart b (.inr (u b d)) f
    ·rcases d with d | d
     ·have:=D.zn d;omega
     ·have:=m1.lt d;omega
   ·show (H.map Prod.snd).length<=x.N+1;omega
   ·show g.lg.tp=_;rw[B,G]
   ·simp only[ByteArray.size_append];show x.L.size+5<=400 * (x.N+1);omega
   ·exact (O.J7 (fun H V g=>LP.J7 H V g) J).mono (LP.mono (Nat.le_add_right _ 1))
  ·refine ((k.mono (fun b d=>.inl (.inl d))).trans (j.mono (fun b d=>.inr d))).trans (l.mono (fun b d=>.inl (.inr (.inl d))))
  ·intro b d;rcases d with d | d | d
   ·rcases o b d with f | f
    ·exact .inl (.inl f)
    ·exact .inr f
   ·rcases P b d with f | f
    ·exact .inl (.inr (.inl f))
    ·exact .inr (by omega)
   ·exact .inl (.inr (.inr (u b d)))
theorem Kt{n:Int}{again:Bool}(b:qh n):yA (sN n again):=by
 have c:=dH n b;cases again
 ·refine⟨_,fun a=>yf ⟨#[]⟩ 0 0 ⟨#[]⟩ 0 0 0 0 n 0 0 a b,?_⟩
  repeat rw[ByteArray.size_append]
  show 5+(jR n).size+2<=300;omega
 ·refine⟨_,fun a=>zg ⟨#[]⟩ 0 0 ⟨#[]⟩ 0 0 0 0 n 0 0 a b,?_⟩
  repeat rw[ByteArray.size_append]
  show 5+(jR n).size+2<=300;omega
theorem di.iI{p:Nat->Nat}{V:aS}{S:RS}{N k tb:Nat}{x:Tg}{bG:Lm}(h:di p V S N)(c:S.t[k]?=some x):di p { V with lg:=V.lg.iI k tb x.t,lm:=bG } (S.fresh.og k x) (N+1):=by
 have e:=(List.getElem?_eq_some_iff.1 c).1;refine⟨⟨h.gw.gb,h.gw.mW,fun y d=>?_,h.gw.sym,h.gw.side⟩,h.nb,h.sym,h.no,h.aV,h.yY,h.inj,h.same,h.place,h.wI,h.Nb,h.Nc,fun i b=>?_,?_,?_,h.day,?_,?_,?_,h.fM,h.Pn,h.xx⟩
 ·have q:=h.gw.q y d;exact⟨q.sum,q.o0,q.f0,q.c0,q.e0,by have:=q.hi;unfold mN at this ⊢;push_cast;omega⟩
 ·have a:=h.KQ i b;exact⟨a.1,by show (V.B i).places<=_;push_cast;have:=a.2;omega⟩
 ·have a:=h.Po;exact⟨a.1,by show S.places<=_;push_cast;have:=a.2;omega⟩
 ·show V.lg.tr.set k ⟨x.t,false⟩=S.t.set k ⟨x.t,false⟩;rw[h.tr]
 ·show (V.lg.tr.set k ⟨x.t,false⟩).length<=_;rw[List.length_set];have:=h.xk;omega
 ·show (V.lg.tp++[(⟨(V.lg.tp.length:Int)+1,2,x.t⟩:Rc)]).length<=_;rw[List.length_append,List.length_singleton];have:=h.zA;omega
 ·show V.lg.ud+(V.lg.na+1)<=N+1;have:=h.zu;omega
theorem di.index{p:Nat->Nat}{V:aS}{S:RS}{N:Nat}(h:di p V S N){id:Int}{b:Nat}(c:V.aV id=some b):∃j,iU S.l id=some j/\j<S.l.length/\p j=b:=by
 have a:=h.found id;rw[c]at a;cases hx:iU S.l id with
 | none=>rw[hx]at a;simp at a
 | some j =>
   rw[hx]at a;simp at a;exact⟨j,rfl,(jC hx).1,a.symm⟩
theorem jc.with{bv g i:Nat}{V:aS}{Q f:aS->World->Prop}{w w':World}(h:jc bv g i V Q w w')(l:∀d,Q d w'->WR V.lg d.lg 3->d.aV=V.aV->f d w'):jc bv g i V f w w':=by
 obtain⟨d,a,b,c,j,e,k⟩:=h;exact⟨d,a,l d b c e,c,j,e,k⟩
def BuQ(p:Nat->Nat)(V:aS)(S:RS)(N:Nat)(hl:List Tr)(ex:Int->Int)(V2:aS):Prop :=
 di p V2 S N/\FL V2.om V2.aV hl ex/\V2.nb=V.nb/\∀j,(V2.B j).sym=(V.B j).sym
def O9(bv:Nat)(V0:aS)(bk:Nat->Nat)(lw:Nat)(l:List Nat)(B:List (Int × Tr))(V:aS)(W:World):Prop :=
 ∃Ts cl,jS bk (KK l) V.lg.nt Ts V0 V/\Ts.flatten=B/\V.bk=V0.bk/\iy W bv bk lw true (V0.lm.ac.map Prod.snd) V.lg.nt V0.lm.tb V.lm cl/\zH V cl
theorem O9.ax{bv:Nat}{a:aS}{bk:Nat->Nat}{d:Nat}{l:List Nat}{B:List (Int × Tr)}{V:aS}{b c:World}(h:O9 bv a bk d l B V b)(k:aj aA b c):O9 bv a bk d l B V c:=by
 obtain⟨Ts,e,f,g,i,j,m⟩:=h;exact⟨Ts,e,f,g,i,j.ax k,m⟩
theorem O9.tb{bv:Nat}{c:aS}{bk:Nat->Nat}{d:Nat}{l:List Nat}{B:List (Int × Tr)}{V a:aS}{n f:World}{M q:Int}{i s t b:Nat}{again:Bool}(h:O9 bv c bk d l B V n)(z:KK l V)(g:GW V M)(O:WV V M i s b q again a)(E:∃e dP,TbC bv V i s t b again bk d e dP a f/\e=c.lm.ac.map Prod.snd/\dP=c.lm.tb)(C:VL V b)(G:i<V.nb)(L:t<2)(J:(V.om b).sym=(V.B i).sym)(K:(V.om b).side=(t:Int))(D:bk b=V.bk i)(h0:0<=(V.B i).places)(y:(V.B i).places<=1000000000000)
 (A:M<=1000000000000000) (H:1<=q) (I:q<=(V.om b).filled) (N:a.lg.tr=V.lg.tr) (F:a.lg.day=V.lg.day):O9 bv c bk d l B a f:=by
 obtain⟨Ts,T,Q,w,x,v,U⟩:=h;obtain⟨e,dP,⟨c1,r,S,u,j,P⟩,rfl,rfl⟩:=E;obtain⟨m,k⟩:=Yl (bk:=bk) g O z C G L J K D h0 y A H I c1 N F (j.tb.trans v.tb.symm);obtain⟨o,p,R⟩:=NK V i s b again;refine⟨Ts++m,u,by rw[r];exact Q.append k,by rw[List.flatten_append,w,k.jF p,o,List.append_nil],c1.trans x,j,P⟩
theorem Tf(bv v x b N:Nat)(n V:aS)(p:Nat->Nat)(S:RS)(id q P:Int)(again:Bool)(J:List Tr)(z A:Int->Int)(w:World)(bk:Nat->Nat)(m:Nat)(l:List Nat)(B:List (Int × Tr))(hn:O9 bv n bk m l B V w)(TP:m<=w.heap.size)(I:∀i,i<V.nb->(V.om b).sym=(V.B i).sym->bk b=V.bk i)(xy:∀i t:Nat,i<V.nb->t<2->(V.om b).side=(t:Int)->∀g,ig ((V.B i).sl t)=some g->g<m)(hK:KK l V)(R:dL w bv v x V)(h:di p V S N)(hN:N<3000000)(hb:BuQ p n S N J z V)(D:V.aV id=some b)(hsz:∀i,i<V.nb->(V.B i).sym.size<=100){j:Nat}(hj:j<S.l.length)(hpj:p j=b)
 (hP:∀a,a<V.nb->(V.B a).places<=P) (hPS:S.places<=P) (hP2:P+1<=2 * (N:Int)) (o:1<=q) (r:q<=(V.om b).filled) (U:A id=z id-q) (W:∀j,j≠id->A j=z j) (hna:0<V.lg.na) (hnt:V.lg.nt.length+3<1000000000) :
 CT 75 #[PP bv,PP b,II q,.bool again] w fun e w'=>e=.returned (.tuple #[])/\jc bv v x V (fun c O=>(BuQ p n (S.bZ j q again) N J A c/\(∀a,a<c.nb->(c.B a).places<=P+1)/\WR V.lg c.lg 3)/\O9 bv n bk m l B c O/\(∀j y:Nat,(y:Int)≠(V.om b).side->(c.B j).sl y=(V.B j).sl y)/\∀y,(c.om y).sym=(V.om y).sym/\(c.om y).side=(V.om y).side) w w':=by
 subst hpj;have F:VL V (p j):=⟨id,D⟩;obtain⟨i,t,d,t2,f,k⟩:=h.gw.idx F;obtain⟨s,hs,K⟩:∃s,s<2/\t=1-s:=⟨1-t,by omega,by omega⟩;have C:mN N<=1000000000000000:=by unfold mN;omega
 have hcn:=h.count d t2;have abv:=h.fM;have kX:=h.zu;have hpb:=h.KQ i d;obtain⟨Ts,G,u,Y,X,H,L⟩:=hn;refine (OZ bv v x (p j) i s t V (mN N) id q again w bk m _ _ G H L TP (I i d f) (xy i t d t2 k) R h.gw C (by omega) D d hs K f k (hsz i d) o r hna (by omega) hnt).mono ?_;rintro e w' ⟨rfl,ht⟩;refine⟨rfl,ht.with (fun c hh lk ho=>?_)⟩;obtain⟨tb,M⟩:=hh;obtain⟨s1,s2,s3,s4,s5⟩:=h.bZ hN hj d hs K f k hP hPS hP2 o r tb lk;obtain⟨_,Z,Q,T⟩:=hb;refine⟨⟨⟨s1,tb.fl Z D C (h.gw.q _ F) o r U W,tb.nb.trans Q,fun j=>(tb.lV j).trans (T j)⟩,s2,lk⟩,O9.tb ⟨Ts,G,u,Y,X,H,L⟩ hK h.gw tb ⟨_,_,M,rfl,rfl⟩ F d t2 f k (I i d f) hpb.1 (by omega) C o r lk.1 lk.2.2.1,fun j y hy=>M.2.2.1 j y (fun e=>hy ?_),fun y=>?_⟩
 ·rw[e.2,k]
 ·rcases tb.way with⟨_,E,_⟩ | ⟨_,_,_,E,_⟩
  ·rw[E];by_cases e:y=p j
   ·rw[e,ah];exact⟨rfl,rfl⟩
   ·rw[ag _ _ e];exact⟨rfl,rfl⟩
  ·rw[E];by_cases e:y=p j
   ·rw[e];exact⟨by simp[bQ,ah,fD],by simp[bQ,ah,fD]⟩
   ·exact⟨by simp only[bQ,ag _ _ e],by simp only[bQ,ag _ _ e]⟩
theorem RQ(bv C D N:Nat)(V:aS)(p:Nat->Nat)(S:RS)(n:Int)(again:Bool)(w:World)(R:dL w bv C D V)(hT:qj w)(h:di p V S N)(hN:N<2900000)(u:vG V) :
 CT 39 #[PP bv,II n,.bool again] w fun e w'=>∃E,e=.returned (II E)/\TJ bv C D V p S N (sN n again) 0 0 0 0 0 E w w':=by
 have hN1:=h.xk;have Xm:=h.zA;have hN3:=h.zu;have hl0:S.t.length<=1000000000:=by rw[<-h.tr];omega
 by_cases hr:n<1\/(V.lg.tr.length:Int)<n
 ·refine (Gy bv n 6 again none w (by decide) (fun v kW=>Bg bv C D V.lg V.lm n v (R.aO.ax kW) hr)).mono ?_;rintro e w' ⟨rfl,kk⟩;exact⟨6,rfl,.inl ⟨by decide,kk,S.fresh,yS hl0 (by rw[<-h.tr];exact hr)⟩⟩
 ·obtain⟨k,W⟩:∃k:Nat,n-1=(k:Int):=⟨(n-1).toNat,by omega⟩;have hkl:k<V.lg.tr.length:=by omega
  obtain⟨x,G⟩:∃x,V.lg.tr[k]?=some x:=⟨_,List.getElem?_eq_getElem hkl⟩;obtain⟨tb,htb⟩:∃tb,V.lm.tb[k]?=some tb:=⟨_,List.getElem?_eq_getElem (by rw[R.aO.aO.len];exact hkl)⟩;have hxS:S.t[k]?=some x:=by rw[<-h.tr];exact G
  have hd:V.lg.day=S.day:=h.day;rcases Dx x V.lg.day with O | ⟨h0,f⟩
  ·refine (Gy bv n (kZ x V.lg.day) again none w O (fun v kW=>(uk bv C D k tb V.lg V.lm n x v (R.aO.ax kW) W G htb (by omega)).mono (fun e w' f=>?_))).mono ?_
   ·rw[if_neg O]at f;exact f
   ·rintro e w' ⟨rfl,kk⟩;rw[hd]at O ⊢;exact⟨_,rfl,.inl ⟨O,kk,S.fresh,zU hl0 W hxS O⟩⟩
  ·obtain⟨Q,tw⟩:=u.fl.mX G f;obtain⟨⟨J,A,b2,b3⟩,⟨r,P,s2,s3⟩,q1⟩:=tw;have nbs:x.t.lF≠x.t.dZ:=fun e=>by
    rw[e,P]at A;rw[Option.some.inj A,b3]at s3;omega
   obtain⟨o,ob,jbl,pjb⟩:=h.index A;obtain⟨X,os,jsl,pjs⟩:=h.index P;have aa5:∀id y,V.aV id=some y->(Lit.int .i64 id).wf=true:=fun id y m=>by
    obtain⟨j,hj1,hj2,_⟩:=h.index m;have e:=(jC hj1).2;have:=h.xx j hj2;rw[e]at this;unfold cZ at this;simp at this;exact WalkArith.wf_i64 (by omega)
   obtain⟨M,hhl⟩:=dQ (held (V.lg.tr.set k ⟨x.t,false⟩));rw[hhl]at Q;have nn:∀side id,0<=vY (tq side id) M:=fun side id=>Je (fun t s=>O1 (by have:=(Q.tw t s).az;omega))
   obtain⟨dQ,K⟩:∃dQ:Int->Int,dQ=fun j=>if j=x.t.dZ then x.t.az else 0:=⟨_,rfl⟩
   have e11:dQ x.t.lF=Uz x.t x.t.lF-x.t.az:=by
    rw[K];simp[Uz,nbs]
   have e12:∀j,j≠x.t.lF->dQ j=Uz x.t j:=fun j L=>by
    rw[K];simp only[Uz];rw[if_neg L];omega
   have e21:(fun _=>(0:Int)) x.t.dZ=dQ x.t.dZ-x.t.az:=by rw[K];simp
   have e22:∀j,j≠x.t.dZ->(fun _=>(0:Int)) j=dQ j:=fun j L=>by rw[K];simp[L]
   have fb1:x.t.az<=(V.om J).filled:=by
    have h1:=Q.eq _ _ A;have H:=nn (V.om J).side x.t.lF;simp[Uz,nbs]at h1;omega
   obtain⟨d,I⟩:=gy (S.fresh.og k x);have Xn:d.l=S.l:=by rw[I];rfl
   have hps:=h.Po;obtain⟨ol,hol,hov⟩:=h.ol;have xt:V.lg.tr[k]?=some ⟨x.t,true⟩:=by
    have e:x=⟨x.t,true⟩:=by cases x;simp only at f;rw[f]
    rw[<-e];exact G
   have sD:∀j,j<V.nb->∀y,y<2->∀a,ig ((V.B j).sl y)=some a->a<w.heap.size:=fun j L y m a ha=>((R.aW j L).side y m).lt ha
   refine (WZ bv C D k tb J r V n x again w R hT W G htb (by omega) (by omega) h0 A P (aa5 _ _ A) (aa5 _ _ P) (Gs V)
    (fun c v=>(BuQ p V (d.bZ o x.t.az again) (N+1) M dQ c/\(∀a,a<c.nb->(c.B a).places<=2 * (N:Int)+1)/\(d.bZ o x.t.az again).places<=2 * (N:Int)+1)/\O9 bv V (Gs V) w.heap.size ol [(1,x.t)] c v/\((∀j y:Nat,(y:Int)≠(V.om J).side->(c.B j).sl y=(V.B j).sl y)/\∀y,(c.om y).sym=(V.om y).sym/\(c.om y).side=(V.om y).side)/\WR (V.lg.iI k tb x.t) c.lg 3)
    (fun z v=>BuQ p V ((d.bZ o x.t.az again).bZ X x.t.az again) (N+1) M (fun _=>0) z/\O9 bv V (Gs V) w.heap.size ol [(1,x.t)] z v) (fun c v W' F k=>⟨F.1,F.2.1.ax k,F.2.2⟩) (by omega) (fun w1 Z VD R1 hw1 YA=>?_) (fun c w2 hQ2 hw2 R2 ho2 kX Xz=>?_)).mono ?_
   ·have hs1:di p { V with lg:=V.lg.iI k tb x.t,lm:=Z } d (N+1):=by rw[I];exact h.iI hxS
    have hP:∀a,a<V.nb->(V.B a).places<=2 * (N:Int):=fun a ha=>(h.KQ a ha).2
    have hPS:d.places<=2 * (N:Int):=by rw[I];exact hps.2
    have K0:KK ol V:=⟨hov,by omega⟩;have K1:KK ol { V with lg:=V.lg.iI k tb x.t,lm:=Z }:=⟨hov,by show (V.lg.tr.set k ⟨x.t,false⟩).length<_;rw[List.length_set];omega⟩;have bn1:O9 bv V (Gs V) w.heap.size ol [(1,x.t)] { V with lg:=V.lg.iI k tb x.t,lm:=Z } w1 :=
     ⟨[[(1,x.t)]],VD,jS.one K0 (JB xt htb ⟨rfl,fun _ _=>rfl,fun _ _=>rfl,fun _ _=>rfl,fun _ _ _ _ _=>Iff.rfl,rfl,rfl,fun _ _=>rfl,rfl,rfl,YA.tb⟩) K1,rfl,rfl,YA,Bc R YA rfl (fun _ _ _ _=>rfl)⟩
    have F:=Tf bv C D J (N+1) V { V with lg:=V.lg.iI k tb x.t,lm:=Z } p d x.t.lF x.t.az (2 * (N:Int)) again M (Uz x.t) dQ w1 (Gs V) w.heap.size ol [(1,x.t)] bn1 hw1 (fun i hi hs=>zK h.gw hi hs) (fun i t hi s _ g U=>sD i hi t s g U) K1 R1 hs1 (by omega) ⟨hs1,Q,rfl,fun _=>rfl⟩ A u.sz (j:=o) (by rw[Xn];exact jbl) pjb hP hPS (by push_cast;omega) q1 fb1 e11 e12 (by show 0<V.lg.na+1;omega) (by show 1+3<1000000000;omega);refine F.mono (fun e w' f=>⟨f.1,f.2.with (fun c H Y ho=>⟨⟨H.1.1,H.1.2.1,?_⟩,H.2.1,H.2.2,Y⟩)⟩);have hpl:(d.bZ o x.t.az again).places<=d.places+1:=by
     unfold RS.bZ;split
     ·show wrap64 (d.places+1)<=_;rw[aU (by rw[I];show (-9223372036854775808:Int)<=S.places+1;omega) (by omega)];omega
     ·show d.places<=_;omega
    omega
   ·obtain⟨⟨⟨g2,f2,n2,y2⟩,p2,pS2⟩,bn2,⟨sl2,st2⟩,lk2⟩:=hQ2;have vl2:∀y,VL c y↔VL V y:=fun y=>by unfold VL;rw[ho2]
    have K2:KK ol c:=⟨fun y m=>hov y ((vl2 y).1 m),by rw[lk2.1];show (V.lg.tr.set k ⟨x.t,false⟩).length<_;rw[List.length_set];omega⟩;have bk2:c.bk=V.bk:=by obtain⟨_,_,_,_,e,_⟩:=bn2;exact e
    have hbk2:∀i,i<c.nb->(c.om r).sym=(c.B i).sym->Gs V r=c.bk i:=fun i hi hs=>by
     rw[bk2];exact zK h.gw (by omega) (by rw[<-(st2 r).1,hs,y2 i])
    have ab8:∀i t:Nat,i<c.nb->t<2->(c.om r).side=(t:Int)->∀g,ig ((c.B i).sl t)=some g->g<w.heap.size:=fun i t hi s hs g U=>by
     rw[(st2 r).2,s3]at hs;rw[sl2 i t (by rw[b3];omega)]at U;exact sD i (by omega) t s g U
    have s2':c.aV x.t.dZ=some r:=by rw[ho2];exact P
    have fs:x.t.az<=(c.om r).filled:=by
     have h1:=f2.eq _ _ s2';have H:=nn (c.om r).side x.t.dZ;rw[K]at h1;simp only[if_pos]at h1;omega
    have hlen2:(d.bZ o x.t.az again).l.length=S.l.length:=by rw[(RS.yP d (i:=o) (by rw[Xn];exact jbl) x.t.az again 0).2,Xn]
    have F:=Tf bv C D r (N+1) V c p (d.bZ o x.t.az again) x.t.dZ x.t.az (2 * (N:Int)+1) again M dQ (fun _=>0) w2 (Gs V) w.heap.size ol [(1,x.t)] bn2 hw2 hbk2 ab8 K2 R2 g2 (by omega) ⟨g2,f2,n2,y2⟩ s2' (fun i hi=>by rw[y2 i];exact u.sz i (by omega)) (j:=X) (by omega) pjs p2 pS2 (by push_cast;omega) q1 fs e21 e22 (by rw[kX];omega) (by omega);exact F.mono (fun e w' f=>⟨f.1,f.2.with (fun z h3 Y ho=>⟨h3.1.1,h3.2.1⟩)⟩)
   ·rintro e w' ⟨rfl,z,⟨⟨g3,f3,n3,y3⟩,Ts3,cl3,u3,ef3,eb3,GM,sp3⟩,o3',R3,Y,kc,hF⟩;obtain⟨l1,l2,l3,l4,l5⟩:=Y;have s:z.lg.tr=V.lg.tr.set k ⟨x.t,false⟩:=l1;have hsx:=u.sy x (List.mem_of_getElem? G);have htl:∀(T:RS) (j:Nat) (q:Int) (b:Bool),(T.bZ j q b).told=T.told:=fun T j q b=>by
     unfold RS.bZ;split <;> rfl
    have htold:((d.bZ o x.t.az again).bZ X x.t.az again).told=[⟨0,2,x.t⟩]:=by
     rw[htl,htl,I];rfl
    have abC:jP S (sN n again) ((d.bZ o x.t.az again).bZ X x.t.az again) (dm 0 0 0 0 0) 0:=by
     rw[I];exact JP hl0 (by have:=h.no;have:=h.fM;omega) W hxS (by rw[<-hd];exact h0) ob os
    refine⟨0,rfl,.inr ⟨rfl,Kt ⟨by omega,by omega⟩,z,R3,⟨_,p,g3,?_,abC,by rw[htold];show 1<=201;omega,⟨fun i hi=>?_,?_,fun y m=>?_,?_,u.nm.set G (y:=⟨x.t,false⟩) rfl s,by rw[l3];exact u.dy⟩,?_⟩,kc,hF⟩⟩
    ·rw[htold,l2];rfl
    ·rw[y3 i];exact u.sz i (by omega)
    ·rw[s,hhl];exact f3
    ·rw[s]at m;rcases List.mem_or_eq_of_mem_set m with m | m
     ·exact u.sy y m
     ·rw[m];exact hsx
    ·rw[l2];exact u.tp.kL rfl hsx
    ·rw[htold];have hp:0<z.lg.nt.length:=by
      rw[<-u3.len];cases Ts3 with
      | nil=>simp at ef3
      | cons a b=>simp
     have e1:(V.lg.iI k tb x.t).nt.length=1:=rfl;exact⟨Bz.of R3 GM sp3 rfl u3 (by omega) hp (by omega) ef3,pW.one (by show (2:Int)≠3;decide)⟩
theorem ND(x:Pr)(o:kQ)(w:World)(h:jU w x)(G:qj w)(hN:x.N<2000000)(I:o.kind=8)(hO:qC o) :
 CT 60 #[.agg #[PP x.bv,PP x.rb],o.val] w fun e w'=>e=.returned (.bool true)/\FX x w w':=by
 obtain⟨kind,m,a,b,c,s,⟨id,aG,sym,side,iK,af,az⟩⟩:=o;simp only at I;subst I;obtain⟨A,H,r,K,g,C,B,F,E,L⟩:=nD x 8 m a b c s id aG sym side iK af az w h;have v:=ai (fun again=>RQ x.bv x.bm x.bo x.N x.V x.p x.S a again A g.kK (G.ax r) g.oG (by omega) g.sz);obtain⟨j,Z,R,Q,U,T,W,Gg,z⟩:=wL L g C B F E r K H;simp only[kQ.val,kQ.cells];simp only[bC]at z;clear h G hO r K g C B F E L H;go_enter Tryz.func60,Tryz.ntmps60;go_wp2_with fail;rw[<-ae z];refine (ae v _).mono ?_;rintro e w2 ⟨P,rfl,n⟩;have d:=n.jW;have i:∀b,w.heap.size<=b->¬bY x.bv x.bm x.bo x.V b:=fun b f hf=>ae j b f (.inl hf)
 have D:=d.ay (ae R) (i _ (by omega));have l:=d.ay (ae Q) (i _ (by omega));have O:=d.ay (ae U) (i _ (by omega));have M:=d.ay (ae T) (i _ (by omega));have q1:CC w2 w.heap.size 1 (PP x.rb):=D.cell 1;have o2:CC w2 (w.heap.size+1) 2 (II a):=l.cell 2;have o3:CC w2 (w.heap.size+1) 3 (II b):=l.cell 3;obtain⟨Y,HZ,HY,PH⟩:=gY n O M d;clear n d i D l O M v;go_wp2_with fail;have y:CT 99 #[PP x.rb,(sN a _).val] w2 fun e w'=>e=.returned (.tuple #[dm 0 0 0 0 0,II P])/\CG x aA A w'/\aj (RF x.rb x.av x.rv) w2 w':=vT (ae Z) hN (ae Y) (aj.refl aA w2) (fun b f=>f.elim)
 refine y.mono ?_;rintro e w3 ⟨rfl,J,t⟩;have k:=t.ay (ae HZ) (fun q=>ae j _ (by omega) (.inr (.inl q)));have u:=t.ay (ae HY) (fun q=>ae j _ (by omega) (.inr (.inl q)));obtain⟨u0,u1,u2,u3,u4⟩:=k.c5;obtain⟨v0,v1,v2,v3,v4⟩:=u.c5;have lu:=k.lt;have lv:=u.lt;have X:=ai J;simp only[dm];clear J t k u y q1 o2 o3;go_wp2;go_ret;exact⟨by first | rfl | simp,CG.of (ae W) (ae X) (fun b f=>f.elim)⟩
theorem RD{l:List Ord}{a:Ord->Ord}{k:Nat}(h:k<l.length):ak (l.map a) k=a (ak l k):=by
 unfold ak;rw[List.getD_eq_getElem?_getD,List.getD_eq_getElem?_getD,List.getElem?_map,List.getElem?_eq_getElem h]
 rfl
theorem Qq{M:Int}{a b:Ord}(h:ny a=ny b)(q:Qo M a)(s:M<=1000000000000000):ny (BJ a)=ny (rC b):=by
 obtain⟨i,l,m,n,e,o,p,r,g,j,k,d⟩:=fC h;have t:=q.sum;have u:=q.o0;have v:=q.f0;have w:=q.c0;have y:=q.e0;have z:=q.hi;unfold BJ rC;by_cases c:a.kind=1
 ·rw[if_pos (show b.kind=1 by rw[<-e];exact c)];by_cases f:0<a.aH
  ·rw[if_pos ⟨c,f⟩];show gG (ny a)=gG (ny b);rw[h]
  ·rw[if_neg (fun x=>f x.2)];have h0:b.aH=0:=by rw[<-g];omega
   rw[h0,Int.add_zero,aU (x:=b.exp) (by rw[<-d];omega) (by rw[<-d];omega),h];show ny b=ny { b with aH:=0 };rw[<-h0]
 ·rw[if_neg (fun x=>c x.1),if_neg (show ¬b.kind=1 by rw[<-e];exact c)];exact h
theorem N9(o:Ord):(rC o).id=o.id/\(rC o).sym=o.sym/\(rC o).place=o.place/\(0<(rC o).aH->0<o.aH):=by
 unfold rC;split
 ·exact⟨rfl,rfl,rfl,fun h=>absurd h (by simp)⟩
 ·exact⟨rfl,rfl,rfl,fun h=>h⟩
theorem JQ(o:Ord):(BJ o).place=o.place:=by unfold BJ;split <;> rfl
theorem di.closed{p:Nat->Nat}{V j:aS}{S:RS}{N:Nat}(h:di p V S N)(F:N<2900000)(c:ClV V (mN N) j):di p j S.fresh.nU (N+1):=by
 have C:mN N<=1000000000000000:=by unfold mN;omega
 have E:S.fresh.nU.l.length=S.l.length:=by simp[RS.nU,RS.fresh]
 have x:∀k,k<S.l.length->ak S.fresh.nU.l k=rC (ak S.l k):=fun k d=>RD d
 have y:∀k,k<S.l.length->j.om (p k)=BJ (V.om (p k)):=fun k d=>c.om _ _ (h.aV k d)
 have e:∀k,k<S.l.length->(ak S.fresh.nU.l k).id=(ak S.l k).id/\(ak S.fresh.nU.l k).sym=(ak S.l k).sym/\(ak S.fresh.nU.l k).place=(ak S.l k).place/\(0<(ak S.fresh.nU.l k).aH->0<(ak S.l k).aH)/\(j.om (p k)).place=(V.om (p k)).place:=fun k d=>by
  rw[x k d,y k d];obtain⟨a,b,c,z⟩:=N9 (ak S.l k);exact⟨a,b,c,z,JQ _⟩
 have w:S.fresh.nU.places=S.places:=rfl;refine⟨c.gw.mono (rU (Nat.le_add_right N 1)),by rw[c.nb];exact h.nb,fun i g=>by rw[c.lV i];exact h.sym i (by rw[<-c.nb];exact g),by rw[c.no,E];exact h.no,fun k d=>?_,fun id b f=>?_,fun a b v f=>h.inj a b (by omega) (by omega),fun k d=>?_,fun a b v f hs s t=>?_,fun a b v f D hs s t=>?_,fun k d h0 i g hs=>?_,fun k d h0=>?_,fun i g=>?_,?_,by rw[c.tr];exact h.tr,?_,by rw[c.tr];have:=h.xk;omega,by rw[c.tp,List.length_append,List.length_singleton];have:=h.zA;omega,by have:=h.zu;have:=c.na;have:=c.ud;omega,by rw[c.no];exact h.fM,by rw[c.nb];exact h.Pn,fun k d=>by rw[(e k (by omega)).1];exact h.xx k (by omega)⟩
 ·rw[c.aV,(e k (by omega)).1];exact h.aV k (by omega)
 ·rw[c.aV]at f;obtain⟨k,d,A,B⟩:=h.yY id b f;exact⟨k,by omega,by rw[(e k d).1];exact A,B⟩
 ·have m:k<S.l.length:=by omega
  rw[x k m,y k m];exact Qq (h.same k m) (h.gw.q _ ((h.vl _).2 ⟨k,m,rfl⟩)) C
 ·obtain⟨_,a2,a3,a4,a5⟩:=e a (by omega);obtain⟨_,n,o,r,u⟩:=e b (by omega);rw[a5,u,a3,o];exact h.place a b (by omega) (by omega) (by rw[<-a2,<-n];exact hs) (a4 s) (r t)
 ·obtain⟨_,a2,a3,a4,a5⟩:=e a (by omega);obtain⟨_,n,o,r,u⟩:=e b (by omega);rw[a3,o];exact h.wI a b (by omega) (by omega) D (by rw[<-a2,<-n];exact hs) (a4 s) (r t)
 ·obtain⟨_,a2,a3,a4,a5⟩:=e k (by omega);rw[a5,c.PY i];exact h.Nb k (by omega) (a4 h0) i (by rw[<-c.nb];exact g) (by rw[<-c.lV i,hs,a2])
 ·obtain⟨_,a2,a3,a4,a5⟩:=e k (by omega);rw[a3,w];exact h.Nc k (by omega) (a4 h0)
 ·rw[c.PY i];have:=h.KQ i (by rw[<-c.nb];exact g);push_cast;omega
 ·rw[w];have:=h.Po;push_cast;omega
 ·rw[c.day,h.day];rfl
theorem Ic:yA zI:=by
 refine⟨_,fun a=>IW ⟨#[]⟩ 0 0 ⟨#[]⟩ 0 0 0 0 0 0 0 false a,?_⟩;decide
theorem OE(bv f g N:Nat)(V:aS)(p:Nat->Nat)(S:RS)(w:World)(R:dL w bv f g V)(C:qj w)(h:di p V S N)(r:N<2900000)(b:vG V) :
 CT 41 #[PP bv] w fun e w'=>e=.returned (.tuple #[])/\TJ bv f g V p S N zI 0 0 0 0 0 0 w w':=by
 have A:=h.zA;have B:=h.zu;have E:=h.xk;obtain⟨ol,D,u⟩:=h.ol;have q:mN N<=1000000000000000:=by unfold mN;omega
 refine (Ut bv f g V.no V (mN N) w (Gs V) (fun i a y v l t=>uw h.gw a v t) (fun i x a d hs=>zK h.gw a hs) R h.gw rfl b.sz (by unfold mN;omega) h.fM (by omega) (by omega)).mono ?_;rintro e w' ⟨rfl,s⟩;have j:=b.dy;obtain⟨n,m,⟨c,did⟩,z,o⟩:=NY q R h.gw u (by omega) (by omega) j.1 j.2 (fun i x a d hs=>zK h.gw a hs) s;refine⟨rfl,.inr ⟨rfl,Ic,n,m,⟨_,p,h.closed r c,?_,GU (by have:=h.no;have:=h.fM;omega),by show 1<=201;omega,⟨fun i a=>?_,?_,fun x d=>?_,?_,fun k x d=>b.nm k x (by rw[<-c.tr];exact d),by rw[c.day];unfold wrap64;omega⟩,did,pW.one (by show (4:Int)≠3;decide)⟩,z,o⟩⟩
 ·rw[c.tp,h.day];rfl
 ·rw[c.lV i];exact b.sz i (by rw[<-c.nb];exact a)
 ·rw[c.aV,c.tr];exact b.fl.lW c.oH
 ·rw[c.tr]at d;exact b.sy x d
 ·rw[c.tp];exact b.tp.kL rfl (by show 0<=100000;omega)
end Go.Proofs.YtigaphnafnpfnaaGreatDoor
