import Derived.Test.YtigaphnafnpfnaaGreatDoorQVQ1
set_option linter.unusedVariables false
set_option linter.unusedSimpArgs false
set_option maxHeartbeats 8000000
set_option maxRecDepth 100000
namespace Go.Proofs.YtigaphnafnpfnaaGreatDoor
open Go.RowKit
attribute [local go_sem ↓] Go.wp_at_zero Go.wp_at_succ
theorem V3(w:World)(mk:Int):∀j a,([Value.int .i64 mk,II 0,II 0]:List Value)[j]?=some a->(w.alloc (.cells #[II mk,II 0,II 0] 93)).cell? (Addr.add ⟨w.heap.size,0,none⟩ j)=some a:=Rt w ⟨mk,0,0⟩
theorem Dp(w:World)(v:Value)(t:TypeId):∀j b,([v]:List Value)[j]?=some b->(w.alloc (.cells #[v] t)).cell? (Addr.add ⟨w.heap.size,0,none⟩ j)=some b:=by
 intro j b a;have c:=au.new w #[v] t
 match j,a with
 | 0,a=>rw[<-a];exact c.cell 0
 | j+1,a=>simp at a
theorem KE{a:List Value}{mk:Int}{i:Nat}(h:a.take (i * 3)=marks mk i)(hs:i * 3+3<=a.length) :
 (((a.set (i * 3) (II mk)).set (i * 3+1) (II 0)).set (i * 3+2) (II 0)).take ((i+1) * 3)=marks mk (i+1):=by
 have:=Ox (cs:=a.toArray) (mk:=mk) (i:=i) (by simpa using h) (by simpa using hs)
 simpa using this
theorem UM:(Tryz.prog.info? 93).map (fun i=>(i.zero,i.size,i.bytes))=some (some (.agg #[II 0,II 0,II 0]),3,24):=by kernel_rfl
theorem UO{D:Array Oper}{rest:List Oper}{o:Oper}{a:Act}{Q:Exit->Act->World->Prop}(u:o.guard=none)(s x:Operand)(z:o.op=.call { callee:=.builtin .append,args:=#[s,x],argTypes:=#[63,63] })
 {B t n cc:Nat} {mk:Int} {v0 lv:Value} {F wr:World} {i:Option Addr} {E:List Value} (d:KL B t mk v0 F (.slice i n cc) n E lv wr) (R:n<=100000) (hs:a.eval s=.slice i n cc) (A:a.eval x=.slice (some ⟨wr.heap.size,0,none⟩) 1 1)
 (h:∀q r w2,KL B t mk v0 F (.slice q (n+1) r) (n+1) E lv w2->wpList Tryz.prog D Q rest (a.put o.dst (.slice q (n+1) r)) w2) :
 wpList Tryz.prog D Q (o :: rest) a (wr.alloc (.cells #[II mk,II 0,II 0] 93)):=by
 obtain⟨i0,v,M,C,N⟩:=info_parts UM;have O:aj aA wr (wr.alloc (.cells #[II mk,II 0,II 0] 93)):=(aj.refl aA wr).alloc _;have p:=aB d.cur O (fun _ _ P=>P);have K:n+1<=maxLen:=by unfold maxLen;omega
 by_cases L:n+1<=cc
 ·rcases d.cur.2 with⟨e,h0⟩ | ⟨g,cap,cs,c,_⟩
  ·injection e with _ _ e3;omega
  ·injection c with c _ e3;subst c;exact wpList_append_own_spare _ u s x 63 z B 93 i0 3 Tryz.underlying63 v C g n cc (marks mk n) hs p ⟨wr.heap.size,0,none⟩ 1 1 [II mk,II 0,II 0] A rfl (V3 _ _) (by simp[Value.oneCell']) L (fun w' f m=>h _ _ w' (d.spare f m (fun k J=>KF mk J)))
 ·have y:(marks mk n).length=n * 3:=kJ mk n;refine wpList_append_grows _ u s x 63 z 93 i0 _ 3 24 Tryz.underlying63 v M C N rfl (by decide) i n cc (marks mk n) hs ?_ y ?_ ⟨wr.heap.size,0,none⟩ 1 1 [II mk,II 0,II 0] A rfl (V3 _ _) (by simp[Value.oneCell']) (by omega) K (by omega) (fun T w' f m=>?_)
  ·intro e;rcases d.cur.2 with⟨l,h0⟩ | ⟨g,cap,cs,c,_⟩
   ·injection l with _ _ e3;exact⟨h0,e3⟩
   ·injection c with c _ _;rw[e]at c;cases c
  ·intro b e j S w;subst e;rcases p.2 with⟨l,h0⟩ | ⟨g,cap,cs,c,_⟩
   ·cases l
   ·injection c with c _ _;injection c with c;subst c;have I:j<n * 3:=by rw[<-y];exact (List.getElem?_eq_some_iff.1 w).1
    have:=(p.cellAt j I).trans w;rw[Addr.add_lit,Nat.zero_add];exact this
  ·obtain⟨G,H,e⟩:=aJ f;subst e;exact h G H w' (d.JM f m)
theorem MN{r:Array Oper}{rest:List Oper}{o:Oper}{a:Act}{Q:Exit->Act->World->Prop}(v:o.guard=none)(s x:Operand)(A:o.op=.call { callee:=.builtin .append,args:=#[s,x],argTypes:=#[45,45] })
 {B l n cc:Nat} {mk:Int} {v0 lv:Value} {t wr:World} {d:Option Addr} {f:List Value} (c:KL B l mk v0 t (.slice d n cc) n f lv wr) {m:Nat} (y:f.length=m) (L:m<=100000) (hs:a.eval s=lv) (E:a.eval x=.slice (some ⟨wr.heap.size,0,none⟩) 1 1)
 (h:∀g i j,au j l #[lv,.slice none 0 0,.slice none 0 0,II mk] 178->KL B l mk v0 t (.slice d n cc) n (f++[.slice d n cc]) (.slice (some ⟨g,0,none⟩) (m+1) i) (j.setCell ⟨l,0,none⟩ (.slice (some ⟨g,0,none⟩) (m+1) i)) ->
   wpList Tryz.prog r Q rest (a.put o.dst (.slice (some ⟨g,0,none⟩) (m+1) i)) j) :
 wpList Tryz.prog r Q (o :: rest) a (wr.alloc (.cells #[.slice d n cc] 63)):=by
 subst y;obtain⟨i0,w,F,G,H⟩:=info_parts XE;have I:aj aA wr (wr.alloc (.cells #[.slice d n cc] 63)):=(aj.refl aA wr).alloc _;have D:=aB c.dV I (fun _ _ J=>J);have z:f.length+1<=maxLen:=by unfold maxLen;omega
 have M:=c.size;have p:=c.jW.size;refine wpList_append_lies _ v s x 45 A B 63 i0 (.slice none 0 0) 1 24 Tryz.underlying45 w F G H rfl (by decide) lv f.length f hs D ⟨wr.heap.size,0,none⟩ 1 1 [.slice d n cc] E rfl (Dp _ _ _) (by simp[Value.oneCell']) (by omega) z (by omega) (by simp;omega) (wr.heap.size+1) (by simp) (fun g i j C q u K=>?_);refine h g i j ?_ (c.bU C q (u.imp_right (fun e=>by omega)));exact (((aj.refl (fun b=>lv.ownBlock=some b) wr).alloc _).grown q (fun k e=>.inl e)).ay c.ay (fun e=>by obtain⟨cs,p⟩:=aF c.dV e;exact au.ne p c.ay (by decide) rfl)
theorem Hu(l u:Nat)(pv s v:Value)(d:List Hd)(P:List iT)(w:World)(hwb:au w l #[pv,s] 78)(jJ:w.ownsRow 0 133 1 s d.length (d.map uY))(hl:d.length<=100000000)(M:w.ownsRow u 93 3 v P.length (jF P))(hls:P.length<=1000)(hn0:u<=w.heap.size)(hwn:l<u)(hhn:∀b,s.ownBlock=some b->b<u) :
 CT 104 #[PP l,v] w fun e w'=>e=.returned (.tuple #[])/\∃C c n lv hv' w3,KL u w.heap.size (-1000-(d.length:Int)) v w c n C lv w3/\n<=2000/\C.length<=100 /\
  aj (fun b=>b=l\/s.ownBlock=some b) w3 w'/\au w' l #[pv,hv'] 78/\w'.ownsRow 0 133 1 hv' (d.length+1) (d.map uY++[PP w.heap.size])/\(∀b,hv'.ownBlock=some b->s.ownBlock=some b\/w3.heap.size<=b):=by
 obtain⟨D,hc,rfl⟩:=aJ jJ;obtain⟨A,B,rfl⟩:=aJ M;have T:=ai (Ai l pv D d.length hc w hwb (by omega));obtain⟨mk,hmk⟩:=dQ ((-1000-(d.length:Int)));rw[hmk]at T ⊢;obtain⟨n,hnl⟩:=dQ P.length;rw[hnl]at hls M;rw[hnl];obtain⟨Zr,PM,TG,Y3⟩:=gY hwb jJ M hhn;clear hmk hwb jJ M hhn;go_enter Tryz.func104,Tryz.ntmps104;go_wp2_with fail;refine (ae T).mono ?_;rintro e w1 ⟨rfl,hw1⟩;rw[hw1];clear hw1 w1 T;go_wp2;obtain⟨V,F⟩:=gy (w.alloc (.cells #[.slice none 0 0,.slice none 0 0,.slice none 0 0,II mk] 178));have QU:aj aA w V:=by rw[F];exact (aj.refl aA w).alloc _
 have W:au V w.heap.size #[.slice none 0 0,.slice none 0 0,.slice none 0 0,II mk] 178:=by rw[F];exact au.new _ _ _
 obtain⟨x,L⟩:=dQ w.heap.size;obtain⟨HW1,Q⟩:=aZ F L;have hst:∃m,V.ownsRow u 93 3 (.slice A n B) n m/\m.take (0 * 3)=marks mk 0:=⟨_,aB (ae TG) QU (fun _ _ z=>z),by simp[marks]⟩;have HST:=ai hst;have Eb:=ai (QU.aP (S:=fun b=>(Value.slice A n B).ownBlock=some b));rw[L]at W;have HB1:=ai W;rw[<-F,L];clear hst QU W F L;go_loopg [5] n (fun k iv wr=>∃(i:Nat) (m:List Value),iv=II (i:Int)/\i<=n/\k=n-i/\wr.ownsRow u 93 3 (.slice A n B) n m/\m.take (i * 3)=marks mk i/\au wr x #[.slice none 0 0,.slice none 0 0,.slice none 0 0,II mk] 178/\aj (fun b=>(Value.slice A n B).ownBlock=some b) w wr)
 case atStart =>
  obtain⟨m,X,Y⟩:=ae HST;exact⟨0,m,rfl,Nat.zero_le _,rfl,X,Y,ae HB1,ae Eb⟩
 case round =>
  obtain⟨i,m,rfl,hi,hgk,f,N,y,G⟩:=hrel;have h3:CC wr x 3 (II mk):=y.cell 3;have hlx:m.length=n * 3:=f.1;by_cases hlt:i<n
  ·obtain⟨g,rfl,hg0⟩:=gQ f (by omega);obtain⟨gcs,Z⟩:=aF f (b:=g) rfl;have lg:=Z.lt;have hne:g≠x:=au.ne Z y (by decide);have hne':=hne.symm;obtain⟨u0,hu0⟩:∃I,m[i * 3]?=some I:=⟨_,List.getElem?_eq_getElem (by omega)⟩;obtain⟨u1,hu1⟩:∃I,m[i * 3+1]?=some I:=⟨_,List.getElem?_eq_getElem (by omega)⟩;obtain⟨u2,hu2⟩:∃I,m[i * 3+2]?=some I:=⟨_,List.getElem?_eq_getElem (by omega)⟩;have x0:CC wr g (i * 3) u0:=(f.cellAt _ (by omega)).trans hu0;have x1:CC wr g (i * 3+1) u1:=(f.cellAt _ (by omega)).trans hu1;have x2:CC wr g (i * 3+2) u2:=(f.cellAt _ (by omega)).trans hu2;have f0:=f.frozenAt (i * 3);have f1:=f.frozenAt (i * 3+1);have f2:=f.frozenAt (i * 3+2);obtain⟨Zt,Zm,YP,YU,Y7⟩:=mi f N y G hlx;clear f N y G hlx hu0 hu1 hu2 Z;go_wp2;go_roundg (n-(i+1))
   case measure=>omega
   case rel =>
    refine⟨i+1,_,by push_cast;rfl,by omega,rfl,((((ae Zt).stored (i * 3) (II mk)).1.stored (i * 3+1) (II 0)).1.stored (i * 3+2) (II 0)).1,KE (ae Zm) (by have:=ae Y7;omega),?_,?_⟩
    ·exact (((ae YP).other (a:=⟨g,i * 3,none⟩) hne' _).other (a:=⟨g,i * 3+1,none⟩) hne' _).other (a:=⟨g,i * 3+2,none⟩) hne' _
    ·exact (((ae YU).setCell (p:=⟨g,i * 3,none⟩) (.inl rfl) _).setCell (p:=⟨g,i * 3+1,none⟩) (.inl rfl) _).setCell (p:=⟨g,i * 3+2,none⟩) (.inl rfl) _
  ·obtain rfl:i=n:=by omega
   have He:m=marks mk i:=by rw[<-N,List.take_of_length_le (by omega)]
   rw[He]at f;have VR:KL u x mk (.slice A i B) w (.slice A i B) i [] (.slice none 0 0) wr:=by
    refine⟨y,World.ownsRow_nil _ _ _ _,f,fun v s=>absurd s (by simp),fun v s=>absurd s (by simp),G,hn0,by have:=ae Q;omega,fun b q=>(f.lt b q).1,fun b q=>.inl q,fun b q=>by simp[Value.ownBlock]at q⟩
   have h0:CC wr x 0 (.slice none 0 0):=y.cell 0;have lhb:=y.lt;have TY:=ai VR;have hws:w.heap.size<=wr.heap.size:=G.size;clear f N y G hlx VR He m;go_wp2_with (at_builtin;refine MN rfl _ _ rfl (ae TY) rfl (by simp) rfl rfl ?_;intro la lc w4 K VS;have c40:=K.cell 0;have f40:=K.frozen 0;have l40:=K.lt;simp at c40;have R:=ai VS;clear VS K h0);simp only[List.length_nil,Nat.zero_add,List.nil_append]at R;clear c40 f40;go_loopg [1,6] 8 (fun k cv iv wr=>∃(j H cc:Nat) (a:Option Addr) (C:List Value) (lv:Value),iv=II (j:Int)/\j<=8/\k=8-j/\cv=.slice a H cc/\H=i+j/\C.length=j+1/\KL u x mk (.slice A i B) w (.slice a H cc) H C lv wr)
   case atStart =>
    exact⟨0,i,B,A,_,_,rfl,by omega,rfl,rfl,rfl,rfl,ae R⟩
   case round =>
    clear R TY lhb l40;obtain⟨j,H,cc,a,C,lv,rfl,hj,hgk,rfl,hnn,hsl,r⟩:=hrel;obtain⟨xa,xc,hxv⟩:=aJ r.dV;rw[hsl]at hxv;subst hxv;have U:=ai hsl;subst hnn;clear hsl;have hz3:CC wr x 3 (II mk):=r.ay.cell 3;have HL:=ai r;by_cases hlt:j<8
    ·clear r;go_wp2_with (first | (at_builtin;refine UO rfl _ _ rfl (ae HL) (by omega) rfl rfl ?_;intro ao' cc' w2 O;have d0:=O.ay.cell 0;have l2:=O.ay.lt;simp at d0;have HL2:=ai O;clear O) | (at_builtin;refine MN rfl _ _ rfl (ae HL2) (ae U) (by omega) rfl rfl ?_;intro la' lc' E o VT;have ZI:=o.cell 0;have f50:=o.frozen 0;have l50:=o.lt;simp at ZI;have TZ:=ai VT;clear VT o d0));go_roundg (8-(j+1))
     case measure=>omega
     case rel=>exact⟨j+1,i+j+1,cc',ao',_,_,by push_cast;rfl,by omega,rfl,rfl,by omega,by simp[ae U],ae TZ⟩
    ·obtain rfl:j=8:=by omega
     have J:au wr l _ 78:=r.jW.ay (ae Zr) (fun e=>by have:=r.Pq l e;omega);have w1c:CC wr l 1 (.slice D d.length hc):=J.cell 1;have hrow2:=aB (ae PM) r.jW (fun b X Y=>by have:=ae Y3 b X;have:=r.Pq b Y;omega);obtain⟨yz,F8⟩:=aZ hrow2 J;have XU:=J.lt;obtain⟨i0,hi0,hz0,hz1,hz2⟩:=info_parts EH;have hm1:d.length+1<=maxLen:=by unfold maxLen;omega
     clear r hrow2 J;go_wp2_with (at_builtin;refine wpList_append_lies _ rfl _ _ 76 rfl 0 133 i0 (.pointer none) 1 8 Tryz.underlying76 hi0 hz0 hz1 hz2 rfl (by decide) (.slice D d.length hc) d.length (d.map uY) rfl (aB (ae yz) ((aj.refl aA wr).alloc _) (fun _ _ z=>z)) ⟨wr.heap.size,0,none⟩ 1 1 [PP x] rfl rfl (Dp _ _ _) (by simp[Value.oneCell']) (by omega) hm1 (by omega) (by omega) (wr.heap.size+1) (by simp) ?_;intro ga gc E hown' hgrow hat hlt2;have o:au E l _ 78:=(((aj.refl (fun b=>(Value.slice D d.length hc).ownBlock=some b) wr).alloc _).grown hgrow (fun k e=>.inl e)).ay (ae F8) (fun e=>by obtain⟨cs,hc⟩:=aF (ae yz) e;exact au.ne hc (ae F8) (by decide) rfl);have c51:=o.cell 1;have f51:=o.frozen 1;have l51:=o.lt;simp at c51;have Vs:=ai o;have Uc:=ai hown';have Y2:=ai hgrow;have YL:=ai hat;clear o hown' hgrow hat w1c);go_end0;have k5:aj (fun b=>(Value.slice D d.length hc).ownBlock=some b) wr E:=((aj.refl (fun b=>(Value.slice D d.length hc).ownBlock=some b) wr).alloc _).grown (ae Y2) (fun k e=>.inl e);have k6:aj (fun b=>b=l) E (E.setCell ⟨l,1,none⟩ (.slice (some ⟨ga,0,none⟩) (d.length+1) gc)):=(aj.refl (fun b=>b=l) E).setCell (p:=⟨l,1,none⟩) (.inl rfl) _;refine⟨rfl,C,_,_,_,.slice (some ⟨ga,0,none⟩) (d.length+1) gc,wr,by rw[ae Q];exact ae HL,by omega,by rw[ae U];omega,(k5.mono (fun b h=>.inr h)).trans (k6.mono (fun b h=>.inl h)),(ae Vs).set 1 _,?_,?_⟩
     ·rw[ae Q];exact bK (t:=0) (ae Uc) k6 (fun b q=>by subst q;exact⟨_,_,ae Vs,by decide⟩)
     ·intro b q;simp only[Value.ownBlock,Option.some.injEq]at q;rcases ae YL with e | e
      ·left;rw[e,q]
      ·right;omega
def iE(tr:List Tg):List Tr:=(tr.filter (·.holds)).map (·.t)
def TT(t:Tr):List Value:=[II t.num,.string t.sym,II t.af,II t.az,II t.lF,II t.dZ,II t.day]
theorem Nu(t:Tr):(TT t).length=7:=rfl
def pY(l:List Tr):List Value:=l.flatMap TT
theorem XD:(Tryz.prog.info? 56).map (fun i=>(i.zero,i.size,i.bytes))=some (some (.agg #[II 0,.string ⟨#[]⟩,II 0,II 0,II 0,II 0,II 0]),7,64):=by kernel_rfl
theorem aaI(w:World)(t:Tr):∀j a,(TT t)[j]?=some a->(w.alloc (.cells #[II t.num,.string t.sym,II t.af,II t.az,II t.lF,II t.dZ,II t.day] 56)).cell? (Addr.add ⟨w.heap.size,0,none⟩ j)=some a:=by
 intro j a c;have b:=au.new w #[II t.num,.string t.sym,II t.af,II t.az,II t.lF,II t.dZ,II t.day] 56;rw[Addr.add_lit,Nat.zero_add,b.cell j,<-c]
 match j with
 | 0=>rfl
 | 1=>rfl
 | 2=>rfl
 | 3=>rfl
 | 4=>rfl
 | 5=>rfl
 | 6=>rfl
 | j+7=>simp[TT]
theorem Aa(l:List Tg)(i:Nat)(x:Tg)(h:l[i]?=some x):iE (l.take (i+1))=iE (l.take i)++(if x.holds then [x.t] else []):=by
 unfold iE;rw[List.take_add_one,h];simp only[Option.toList_some,List.filter_append,List.map_append];cases hx:x.holds <;> simp[hx]
structure WW(w:World)(H:Nat)(S:RS)(m:SM)(ov:Value)(out:List Tr)(wi:World):Prop where
 st:dF wi H H S m
 row:wi.ownsRow H 56 7 ov out.length (pY out)
 jW:aj aA w wi
theorem WW.Us{w a b:World}{S:RS}{m:SM}{ov:Value}{out:List Tr}{o:Obj}(h:WW w w.heap.size S m ov out a)(c:(a.alloc o).grownBy b ov.ownBlock):aj (fun x=>ov.ownBlock=some x) a b :=
 ((aj.refl (fun x=>ov.ownBlock=some x) a).alloc o).grown c (fun k e=>.inl e)
theorem WW.grown{w g d:World}{S:RS}{m:SM}{ov i:Value}{out:List Tr}{x:Tr}{o:Obj}(h:WW w w.heap.size S m ov out g)(p:(g.alloc o).grownBy d ov.ownBlock)(q:d.ownsRow w.heap.size 56 7 i (out.length+1) (pY out++TT x)):WW w w.heap.size S m i (out++[x]) d:=by
 have k:=h.Us p;have nb:∀x,SF w.heap.size m x->¬ov.ownBlock=some x:=fun x f e=>by
  obtain⟨cs,l⟩:=aF h.row e;exact h.st.ne l (by decide) f
 have c:∀{e size n:Nat} {v:Value} {j:List Value},g.ownsRow w.heap.size e size v n j->(∀b,v.ownBlock=some b->SF w.heap.size m b)->d.ownsRow w.heap.size e size v n j:=fun r hs=>aB r k (fun b a=>nb b (hs b a))
 refine⟨⟨h.st.ge,k.ay h.st.ay (nb _ (.inl rfl)),c h.st.mZ (fun b a=>.inr (.inl a)),c h.st.dV (fun b a=>jL a),c h.st.dJ (fun b a=>iQ a),c h.st.lZ (fun b a=>xA a)⟩,?_,h.jW.from (k.mono (fun x f=>.inr (h.row.lt x f).1))⟩;rw[List.length_append,List.length_singleton];have:pY (out++[x])=pY out++TT x:=by simp[pY]
 rw[this];exact q
theorem SC(base B:Nat)(A:List bD)(R:List Rc)(G:ByteArray)(av T:Value)(S:RS)(w:World)(h:RV w base B A R G av T)(f:oN A S)(hn:A.length<=1000000000)(Z:S.t.length<=1000000000) :
 CT 106 #[PP B] w fun e w'=>∃v,e=.returned v/\w'.ownsRow w.heap.size 56 7 v (iE S.t).length (pY (iE S.t))/\aj aA w w':=by
 have E:=ai (iH base B A R G av T S w h f hn);clear f h;go_enter Tryz.func106,Tryz.ntmps106;go_wp2_with fail;refine (ae E).mono ?_;rintro e w2 ⟨rfl,⟨m,st⟩,Q⟩;obtain⟨a,c,P⟩:=aJ st.dJ;have F:=ai P;obtain⟨N,p⟩:=dQ S.t.length;have n:=ai p;rw[p]at Z;have K:∃out,iE (S.t.take 0)=out/\WW w w.heap.size S m (.slice none 0 0) out w2:=⟨_,rfl,st,World.ownsRow_nil _ _ _ _,Q⟩;have V:=ai K;clear E st Q P p K;go_wp2;go_loopg [4,5] N (fun k ov iv wr=>∃(i:Nat),iv=II (i:Int)/\i<=N/\k=N-i/\WW w w.heap.size S m ov (iE (S.t.take i)) wr)
 case atStart =>
  obtain⟨out,e,J⟩:=ae V;subst e;exact⟨0,rfl,Nat.zero_le _,rfl,J⟩
 case round =>
  rename_i ov;obtain⟨i,rfl,J,hgk,b⟩:=hrel;have v2:wr.cell? ⟨w.heap.size,2,none⟩=some (.slice a N c):=by have:=ae F;rw[ae n]at this;rw[<-this];exact b.st.ay.cell 2
  have MP:=b.st.ay.lt;by_cases hlt:i<N
  ·obtain⟨x,z⟩:∃x,S.t[i]?=some x:=⟨_,List.getElem?_eq_getElem (by rw[ae n];exact hlt)⟩;obtain⟨g,rfl,_,lg,_,d,_⟩:=b.st.Vg (ae F) z;have c0:CC wr g (i * 8) (II x.t.num):=d 0 _ rfl;have c1:CC wr g (i * 8+1) (.string x.t.sym):=d 1 _ rfl;have c2:CC wr g (i * 8+2) (II x.t.af):=d 2 _ rfl;have c3:CC wr g (i * 8+3) (II x.t.az):=d 3 _ rfl;have c4:CC wr g (i * 8+4) (II x.t.lF):=d 4 _ rfl;have c5:CC wr g (i * 8+5) (II x.t.dZ):=d 5 _ rfl;have c6:CC wr g (i * 8+6) (II x.t.day):=d 6 _ rfl;have c7:CC wr g (i * 8+7) (.bool x.holds):=d 7 _ rfl;have y:=Aa S.t i x z;have L:(iE (S.t.take i)).length<=N:=by
    unfold iE;rw[List.length_map];refine Nat.le_trans (List.length_filter_le _ _) ?_;rw[List.length_take];omega
   obtain⟨out,r⟩:=dQ (iE (S.t.take i));rw[r]at y b L;obtain⟨oa,oc,M⟩:=aJ b.row;obtain⟨j,D,Ud⟩:=fK b y r;obtain⟨q,s⟩:=dQ out.length;rw[s]at M L;have C:=ai s;subst M;clear d z b y r s;cases f:x.holds
   ·rw[f]at c7;have l:iE (S.t.take (i+1))=out:=by have:=ae D;rw[f]at this;simpa using this
    have o:=ai l;clear f l;go_wp2;go_roundg (N-(i+1))
    case measure=>omega
    case rel=>exact⟨i+1,by push_cast;rfl,by omega,rfl,by rw[ae o];exact ae j⟩
   ·rw[f]at c7;have l:iE (S.t.take (i+1))=out++[x.t]:=by have:=ae D;rw[f]at this;simpa using this
    have o:=ai l;have hmx:q+1<=maxLen:=by unfold maxLen;omega
    have lH:(q+1) * 64<=140737488355328:=by omega
    have hbs:w.heap.size<=wr.heap.size:=(ae j).jW.size;have u:=(ae j).row;rw[ae C]at u;have X:=ai u;obtain⟨i0,Y,hz0,hz1,hz2⟩:=info_parts XD;clear f l u;go_wp2_with (at_builtin;refine wpList_append_own _ rfl _ _ 39 rfl w.heap.size 56 i0 (.agg #[II 0,.string ⟨#[]⟩,II 0,II 0,II 0,II 0,II 0]) 7 64 Tryz.underlying39 Y hz0 hz1 hz2 rfl (by decide) _ q _ rfl ((ae X).alloc _) ⟨wr.heap.size,0,none⟩ 1 1 (TT x.t) rfl rfl (aaI _ _) (by simp[TT,Value.oneCell']) hmx lH (by simp;omega) ?_;intro v' w4 O I hnil;clear hnil;have W:=ai O;have U:=ai I;clear O I);go_roundg (N-(i+1))
    case measure=>omega
    case rel=>exact⟨i+1,by push_cast;rfl,by omega,rfl,by rw[ae o];exact (ae j).grown (ae U) (by rw[ae C];exact ae W)⟩
  ·obtain rfl:i=N:=by omega
   have H:S.t.take i=S.t:=by rw[List.take_of_length_le (by rw[ae n];omega)]
   rw[H]at b;have j:=ai b;clear b H;go_wp2;go_ret;exact⟨_,rfl,(ae j).row,(ae j).jW⟩
def lI(R:List Rc)(n:Int):List Rc:=R.filter (fun r=>decide (n<=r.num))
theorem JV(l:List Rc)(n:Int)(i:Nat)(x:Rc)(h:l[i]?=some x):lI (l.take (i+1)) n=lI (l.take i) n++(if n<=x.num then [x] else []):=by
 unfold lI;rw[List.take_add_one,h];simp only[Option.toList_some,List.filter_append];by_cases a:n<=x.num <;> simp[a]
theorem AU{w:World}{base n c:Nat}{a:Option Addr}{R:List Rc}(h:w.ownsRow base 62 9 (.slice a n c) n (gm R))(m:R.length=n){i:Nat}{x:Rc}(d:R[i]?=some x):∃g,a=some ⟨g,0,none⟩/\g<w.heap.size/\∀j b,x.cells[j]?=some b->w.cell? ⟨g,i * 9+j,none⟩=some b:=by
 have l:=(List.getElem?_eq_some_iff.1 d).1;obtain⟨g,rfl,_⟩:=gQ h (by omega);refine⟨g,rfl,(h.lt g rfl).2,fun j b f=>?_⟩;have e:∀r:Rc,r.cells.length=9:=fun r=>rfl
 have k:j<9:=by have:=(List.getElem?_eq_some_iff.1 f).1;rw[e]at this;exact this
 rw[h.cellAt _ (by omega)];exact (ou Rc.cells 9 e R i j _ d k).trans f
theorem Yd(base u:Nat)(A:List bD)(R:List Rc)(Y:ByteArray)(av rv:Value)(n:Int)(w:World)(h:RV w base u A R Y av rv)(hlen:R.length<=1000000000) :
 CT 109 #[PP u,II n] w fun e w'=>∃v,e=.returned v/\w'.ownsRow w.heap.size 62 9 v (lI R n).length (gm (lI R n))/\aj aA w w':=by
 obtain⟨a,c,y⟩:=aJ h.ug;obtain⟨N,p⟩:=dQ R.length;have C:=h.ug;rw[y,p]at C;rw[p]at y hlen;have I:∀i x,R[i]?=some x->∃g,a=some ⟨g,0,none⟩/\g<w.heap.size/\∀j S,x.cells[j]?=some S->w.cell? ⟨g,i * 9+j,none⟩=some S:=fun i x s=>AU C p s
 have Q:w.cell? ⟨u,1,none⟩=some (.slice a N c):=by rw[<-y];exact h.ay.cell 1
 obtain⟨T,X,E,V⟩:=gY I Q p h.ay.lt;clear h y C I Q p;go_enter Tryz.func109,Tryz.ntmps109;go_wp2;go_loopg [5,6] N (fun k ov iv wr=>∃(i:Nat),iv=II (i:Int)/\i<=N/\k=N-i/\wr.ownsRow w.heap.size 62 9 ov (lI (R.take i) n).length (gm (lI (R.take i) n))/\aj aA w wr)
 case atStart=>exact⟨0,rfl,Nat.zero_le _,rfl,World.ownsRow_nil _ _ _ _,aj.refl _ _⟩
 case round =>
  obtain⟨i,rfl,hi,hgk,l,d⟩:=hrel;have v1:CC wr u 1 (.slice a N c):=d.cell (ae X) idd;have lrb:u<wr.heap.size:=Nat.lt_of_lt_of_le (ae V) d.size;by_cases hlt:i<N
  ·obtain⟨x,s⟩:∃x,R[i]?=some x:=⟨_,List.getElem?_eq_getElem (by rw[ae E];exact hlt)⟩;obtain⟨g,rfl,lg0,f⟩:=ae T i x s;have lg:g<wr.heap.size:=Nat.lt_of_lt_of_le lg0 d.size;have c0:CC wr g (i * 9) (II x.num):=d.cell (f 0 _ rfl) idd;have c1:CC wr g (i * 9+1) (II x.kind):=d.cell (f 1 _ rfl) idd;have c2:CC wr g (i * 9+2) (II x.t.num):=d.cell (f 2 _ rfl) idd;have c3:CC wr g (i * 9+3) (.string x.t.sym):=d.cell (f 3 _ rfl) idd;have c4:CC wr g (i * 9+4) (II x.t.af):=d.cell (f 4 _ rfl) idd;have c5:CC wr g (i * 9+5) (II x.t.az):=d.cell (f 5 _ rfl) idd;have c6:CC wr g (i * 9+6) (II x.t.lF):=d.cell (f 6 _ rfl) idd;have c7:CC wr g (i * 9+7) (II x.t.dZ):=d.cell (f 7 _ rfl) idd;have c8:CC wr g (i * 9+8) (II x.t.day):=d.cell (f 8 _ rfl) idd;have D:=JV R n i x s;have L:(lI (R.take i) n).length<=N:=by
    unfold lI;refine Nat.le_trans (List.length_filter_le _ _) ?_;rw[List.length_take];omega
   obtain⟨out,M⟩:=dQ (lI (R.take i) n);rw[M]at D l L;obtain⟨oa,oc,O⟩:=aJ l;obtain⟨q,B⟩:=dQ out.length;rw[B]at O L l;subst O;obtain⟨o,m,G,F⟩:=gY l d D B;clear f s l d D M B;by_cases K:n<=x.num
   ·have r:lI (R.take (i+1)) n=out++[x]:=by have:=ae G;rw[if_pos K]at this;exact this
    have z:=ai r;have hmx:q+1<=maxLen:=by unfold maxLen;omega
    have lH:(q+1) * 80<=140737488355328:=by omega
    have hbs:w.heap.size<=wr.heap.size:=(ae m).size;obtain⟨i0,z0,hi0,hz0,hz1,hz2,hz3⟩:=lX;clear r;go_wp2_with (at_builtin;refine wpList_append_own _ rfl _ _ 34 rfl w.heap.size 62 i0 z0 9 80 Tryz.underlying34 hi0 hz0 hz1 hz2 hz3 (by decide) _ q _ rfl ((ae o).alloc _) ⟨wr.heap.size,0,none⟩ 1 1 x.cells rfl rfl (MW _ _) (by simp[Rc.cells,Value.oneCell']) hmx lH (by simp;omega) ?_;intro v' w4 P J hnil;clear hnil;have W:=ai P;have U:=ai J;clear P J);go_roundg (N-(i+1))
    case measure=>omega
    case rel =>
     refine⟨i+1,by push_cast;rfl,by omega,rfl,?_,?_⟩
     ·rw[ae z,List.length_append,List.length_singleton,ae F,rD];exact ae W
     ·exact (ae m).from ((((aj.refl (fun b=>(Value.slice oa q oc).ownBlock=some b) wr).alloc _).grown (ae U) (fun k e=>.inl e)).mono (fun b Z=>.inr ((ae o).lt b Z).1))
   ·have r:lI (R.take (i+1)) n=out:=by have:=ae G;rw[if_neg K,List.append_nil]at this;exact this
    have z:=ai r;clear r;go_wp2;go_roundg (N-(i+1))
    case measure=>omega
    case rel=>exact⟨i+1,by push_cast;rfl,by omega,rfl,by rw[ae z,ae F];exact ae o,ae m⟩
  ·obtain rfl:i=N:=by omega
   have H:R.take i=R:=by rw[List.take_of_length_le (by rw[ae E];omega)]
   rw[H]at l;obtain⟨o,m⟩:=aZ l d;clear l d H;go_wp2;go_ret;exact⟨_,rfl,ae o,ae m⟩
theorem Nv{w:World}{base n c:Nat}{a:Option Addr}{R:List Tr}(h:w.ownsRow base 56 7 (.slice a n c) n (pY R))(l:R.length=n){i:Nat}{x:Tr}(d:R[i]?=some x):∃g,a=some ⟨g,0,none⟩/\g<w.heap.size/\∀j b,(TT x)[j]?=some b->w.cell? ⟨g,i * 7+j,none⟩=some b:=by
 have k:=(List.getElem?_eq_some_iff.1 d).1;obtain⟨g,rfl,_⟩:=gQ h (by omega);refine⟨g,rfl,(h.lt g rfl).2,fun j b e=>?_⟩;have f:j<7:=by have:=(List.getElem?_eq_some_iff.1 e).1;rw[Nu]at this;exact this
 rw[h.cellAt _ (by omega)];exact (ou TT 7 Nu R i j _ d f).trans e
theorem I7(v x:Nat)(o p:Value)(b:List Tr)(w:World)(d:w.ownsRow v 56 7 o b.length (pY b))(f:w.ownsRow x 56 7 p b.length (pY b))(y:b.length<=1000000000) :
 CT 105 #[o,p] w fun e w'=>e=.returned (.bool true)/\aj aA w w':=by
 obtain⟨u,c1,rfl⟩:=aJ d;obtain⟨a2,B,rfl⟩:=aJ f;have r:Hid (∀i l,b[i]?=some l->∃g,u=some ⟨g,0,none⟩/\g<w.heap.size/\w.cell? ⟨g,i * 7,none⟩=some (II l.num)/\w.cell? ⟨g,i * 7+1,none⟩=some (.string l.sym)/\w.cell? ⟨g,i * 7+2,none⟩=some (II l.af)/\w.cell? ⟨g,i * 7+3,none⟩=some (II l.az)/\w.cell? ⟨g,i * 7+4,none⟩=some (II l.lF)/\w.cell? ⟨g,i * 7+5,none⟩=some (II l.dZ)/\w.cell? ⟨g,i * 7+6,none⟩=some (II l.day)):=fun i l c=>by
  obtain⟨g,e,lg,a⟩:=Nv d rfl c;exact⟨g,e,lg,a 0 _ rfl,a 1 _ rfl,a 2 _ rfl,a 3 _ rfl,a 4 _ rfl,a 5 _ rfl,a 6 _ rfl⟩
 have s:Hid (∀i l,b[i]?=some l->∃g,a2=some ⟨g,0,none⟩/\g<w.heap.size/\w.cell? ⟨g,i * 7,none⟩=some (II l.num)/\w.cell? ⟨g,i * 7+1,none⟩=some (.string l.sym)/\w.cell? ⟨g,i * 7+2,none⟩=some (II l.af)/\w.cell? ⟨g,i * 7+3,none⟩=some (II l.az)/\w.cell? ⟨g,i * 7+4,none⟩=some (II l.lF)/\w.cell? ⟨g,i * 7+5,none⟩=some (II l.dZ)/\w.cell? ⟨g,i * 7+6,none⟩=some (II l.day)):=fun i l c=>by
  obtain⟨g,e,lg,a⟩:=Nv f rfl c;exact⟨g,e,lg,a 0 _ rfl,a 1 _ rfl,a 2 _ rfl,a 3 _ rfl,a 4 _ rfl,a 5 _ rfl,a 6 _ rfl⟩
 obtain⟨n,m⟩:=dQ b.length;have t:=ai m;rw[m]at y ⊢;clear d f m;go_enter Tryz.func105,Tryz.ntmps105;go_wp2;go_loopg [5] n (fun k A wr=>∃i q:Nat,A=II (i:Int)/\i<=n/\k=n-i/\wr=w.drewN q)
 case atStart=>exact⟨0,0,rfl,Nat.zero_le _,rfl,rfl⟩
 case round =>
  obtain⟨i,q,rfl,c,E,rfl⟩:=hrel;by_cases z:i<n
  ·obtain⟨l,j⟩:∃l,b[i]?=some l:=⟨_,List.getElem?_eq_getElem (by rw[ae t];exact z)⟩;obtain⟨C,rfl,F,H,I,J,K,L,M,N⟩:=ae r i l j;obtain⟨D,rfl,G,O,P,Q,R,S,T,U⟩:=ae s i l j;clear j;go_wp2;go_quiet (fail);go_wp2;go_roundg (n-(i+1))
   case measure=>omega
   case rel=>exact⟨i+1,q+nq,by push_cast;rfl,by omega,rfl,by first | rfl | simp⟩
  ·obtain rfl:i=n:=by omega
   go_wp2;go_ret;exact⟨rfl,(aj.refl aA w).drewN _⟩
theorem FM(x y:Nat)(o p:Value)(b:List Rc)(w:World)(d:w.ownsRow x 62 9 o b.length (gm b))(f:w.ownsRow y 62 9 p b.length (gm b))(z:b.length<=1000000000) :
 CT 108 #[o,p] w fun e w'=>e=.returned (.bool true)/\aj aA w w':=by
 obtain⟨v,c1,rfl⟩:=aJ d;obtain⟨a2,C,rfl⟩:=aJ f;have r:Hid (∀i l,b[i]?=some l->∃g,v=some ⟨g,0,none⟩/\g<w.heap.size/\w.cell? ⟨g,i * 9,none⟩=some (II l.num)/\w.cell? ⟨g,i * 9+1,none⟩=some (II l.kind)/\w.cell? ⟨g,i * 9+2,none⟩=some (II l.t.num)/\w.cell? ⟨g,i * 9+3,none⟩=some (.string l.t.sym)/\w.cell? ⟨g,i * 9+4,none⟩=some (II l.t.af)/\w.cell? ⟨g,i * 9+5,none⟩=some (II l.t.az)/\w.cell? ⟨g,i * 9+6,none⟩=some (II l.t.lF)/\w.cell? ⟨g,i * 9+7,none⟩=some (II l.t.dZ)/\w.cell? ⟨g,i * 9+8,none⟩=some (II l.t.day)):=fun i l c=>by
  obtain⟨g,e,lg,a⟩:=AU d rfl c;exact⟨g,e,lg,a 0 _ rfl,a 1 _ rfl,a 2 _ rfl,a 3 _ rfl,a 4 _ rfl,a 5 _ rfl,a 6 _ rfl,a 7 _ rfl,a 8 _ rfl⟩
 have s:Hid (∀i l,b[i]?=some l->∃g,a2=some ⟨g,0,none⟩/\g<w.heap.size/\w.cell? ⟨g,i * 9,none⟩=some (II l.num)/\w.cell? ⟨g,i * 9+1,none⟩=some (II l.kind)/\w.cell? ⟨g,i * 9+2,none⟩=some (II l.t.num)/\w.cell? ⟨g,i * 9+3,none⟩=some (.string l.t.sym)/\w.cell? ⟨g,i * 9+4,none⟩=some (II l.t.af)/\w.cell? ⟨g,i * 9+5,none⟩=some (II l.t.az)/\w.cell? ⟨g,i * 9+6,none⟩=some (II l.t.lF)/\w.cell? ⟨g,i * 9+7,none⟩=some (II l.t.dZ)/\w.cell? ⟨g,i * 9+8,none⟩=some (II l.t.day)):=fun i l c=>by
  obtain⟨g,e,lg,a⟩:=AU f rfl c;exact⟨g,e,lg,a 0 _ rfl,a 1 _ rfl,a 2 _ rfl,a 3 _ rfl,a 4 _ rfl,a 5 _ rfl,a 6 _ rfl,a 7 _ rfl,a 8 _ rfl⟩
 obtain⟨n,m⟩:=dQ b.length;have u:=ai m;rw[m]at z ⊢;clear d f m;go_enter Tryz.func108,Tryz.ntmps108;go_wp2;go_loopg [5] n (fun k B wr=>∃i q:Nat,B=II (i:Int)/\i<=n/\k=n-i/\wr=w.drewN q)
 case atStart=>exact⟨0,0,rfl,Nat.zero_le _,rfl,rfl⟩
 case round =>
  obtain⟨i,q,rfl,c,F,rfl⟩:=hrel;by_cases A:i<n
  ·obtain⟨l,j⟩:∃l,b[i]?=some l:=⟨_,List.getElem?_eq_getElem (by rw[ae u];exact A)⟩;obtain⟨D,rfl,G,I,J,K,L,M,N,O,P,Q⟩:=ae r i l j;obtain⟨E,rfl,H,R,S,T,U,V,W,X,Y,Z⟩:=ae s i l j;clear j;go_wp2;go_quiet (fail);go_wp2;go_roundg (n-(i+1))
   case measure=>omega
   case rel=>exact⟨i+1,q+nq,by push_cast;rfl,by omega,rfl,by first | rfl | simp⟩
  ·obtain rfl:i=n:=by omega
   go_wp2;go_ret;exact⟨rfl,(aj.refl aA w).drewN _⟩
end Go.Proofs.YtigaphnafnpfnaaGreatDoor
