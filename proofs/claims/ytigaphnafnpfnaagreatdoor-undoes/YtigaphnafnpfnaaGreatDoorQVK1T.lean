import Derived.Test.YtigaphnafnpfnaaGreatDoorQVR8
set_option linter.unusedVariables false
set_option linter.unusedSimpArgs false
set_option maxHeartbeats 8000000
set_option maxRecDepth 100000
namespace Go.Proofs.YtigaphnafnpfnaaGreatDoor
open Go.RowKit
attribute [local go_sem ↓] Go.wp_at_zero Go.wp_at_succ
def gV(mk:Int):Nat->List Value
 | 0=>[]
 | n+1=>gV mk n++[II mk,.string ⟨#[]⟩,II 0,II 0,II 0,II 0,II 0]
theorem jA(mk:Int):∀n,(gV mk n).length=n * 7
 | 0=>rfl
 | n+1=>by rw[gV,List.length_append,jA mk n];simp[Nat.add_mul]
theorem Ij(mk:Int){k n:Nat}(h:k<=n):(gV mk n).take (k * 7)=gV mk k:=by
 induction n with
 | zero=>have:k=0:=by omega
         subst this;rfl
 | succ n ih =>
   by_cases e:k=n+1
   ·subst e;rw[List.take_of_length_le (by rw[jA];omega)]
   ·rw[gV,List.take_append_of_le_length (by rw[jA];omega)];exact ih (by omega)
theorem lK(mk:Int){i n j:Nat}(h:i<n)(a:j<7):(gV mk n)[i * 7+j]?=[Value.int .i64 mk,.string ⟨#[]⟩,II 0,II 0,II 0,II 0,II 0][j]?:=by
 induction n with
 | zero=>omega
 | succ n ih =>
   rw[gV];by_cases e:i=n
   ·subst e;rw[List.getElem?_append_right (by rw[jA];omega),jA];congr 1;omega
   ·rw[List.getElem?_append_left (by rw[jA];omega)];exact ih (by omega)
theorem Ih{a:List Value}{mk:Int}{i:Nat}(h:a.take (i * 7)=gV mk i)(hs:i * 7+7<=a.length) :
 (((((((a.set (i * 7) (II mk)).set (i * 7+1) (.string ⟨#[]⟩)).set (i * 7+2) (II 0)).set (i * 7+3) (II 0)).set (i * 7+4) (II 0)).set (i * 7+5) (II 0)).set (i * 7+6) (II 0)).take ((i+1) * 7)=gV mk (i+1):=by
 apply List.ext_getElem?;intro j;rw[List.getElem?_take];by_cases l:j<(i+1) * 7
 ·rw[if_pos l];by_cases k:j=i * 7+6
  ·subst k;rw[List.getElem?_set_self (by first | omega | (simp;omega))];exact (lK mk (i:=i) (n:=i+1) (j:=6) (by omega) (by omega)).symm
  rw[List.getElem?_set_ne (fun e=>k e.symm)];by_cases g:j=i * 7+5
  ·subst g;rw[List.getElem?_set_self (by first | omega | (simp;omega))];exact (lK mk (i:=i) (n:=i+1) (j:=5) (by omega) (by omega)).symm
  rw[List.getElem?_set_ne (fun e=>g e.symm)];by_cases f:j=i * 7+4
  ·subst f;rw[List.getElem?_set_self (by first | omega | (simp;omega))];exact (lK mk (i:=i) (n:=i+1) (j:=4) (by omega) (by omega)).symm
  rw[List.getElem?_set_ne (fun e=>f e.symm)];by_cases d:j=i * 7+3
  ·subst d;rw[List.getElem?_set_self (by first | omega | (simp;omega))];exact (lK mk (i:=i) (n:=i+1) (j:=3) (by omega) (by omega)).symm
  rw[List.getElem?_set_ne (fun e=>d e.symm)];by_cases c:j=i * 7+2
  ·subst c;rw[List.getElem?_set_self (by first | omega | (simp;omega))];exact (lK mk (i:=i) (n:=i+1) (j:=2) (by omega) (by omega)).symm
  rw[List.getElem?_set_ne (fun e=>c e.symm)];by_cases b:j=i * 7+1
  ·subst b;rw[List.getElem?_set_self (by first | omega | (simp;omega))];exact (lK mk (i:=i) (n:=i+1) (j:=1) (by omega) (by omega)).symm
  rw[List.getElem?_set_ne (fun e=>b e.symm)];by_cases h0:j=i * 7
  ·subst h0;rw[List.getElem?_set_self (by first | omega | (simp;omega))];exact (lK mk (i:=i) (n:=i+1) (j:=0) (by omega) (by omega)).symm
  rw[List.getElem?_set_ne (fun e=>h0 e.symm)];have m:j<i * 7:=by omega
  have:a[j]?=(gV mk i)[j]?:=by rw[<-h,List.getElem?_take,if_pos m]
  rw[this,gV,List.getElem?_append_left (by rw[jA];exact m)]
 ·rw[if_neg l,List.getElem?_eq_none (by rw[jA];omega)]
theorem XM:(Tryz.prog.info? 39).map (fun i=>(i.zero,i.size,i.bytes))=some (some (.slice none 0 0),1,24):=by kernel_rfl
abbrev Uf(B hb:Nat)(mk:Int):=KG 39 56 7 (gV mk) (fun lv=>#[.slice none 0 0,lv,.slice none 0 0,II mk]) B hb
theorem Rw(w:World)(mk:Int):∀j a,([II mk,.string ⟨#[]⟩,II 0,II 0,II 0,II 0,II 0]:List Value)[j]?=some a->(w.alloc (.cells #[II mk,.string ⟨#[]⟩,II 0,II 0,II 0,II 0,II 0] 56)).cell? (Addr.add ⟨w.heap.size,0,none⟩ j)=some a:=by
 intro j a c;have b:=au.new w #[II mk,.string ⟨#[]⟩,II 0,II 0,II 0,II 0,II 0] 56;rw[Addr.add_lit,Nat.zero_add,b.cell j,<-c]
 match j with
 | 0=>rfl
 | 1=>rfl
 | 2=>rfl
 | 3=>rfl
 | 4=>rfl
 | 5=>rfl
 | 6=>rfl
 | j+7=>simp
theorem XK:(Tryz.prog.info? 56).map (fun i=>(i.zero,i.size,i.bytes))=some (some (.agg #[II 0,.string ⟨#[]⟩,II 0,II 0,II 0,II 0,II 0]),7,64):=by kernel_rfl
theorem QZ{D:Array Oper}{rest:List Oper}{o:Oper}{a:Act}{Q:Exit->Act->World->Prop}(u:o.guard=none)(s x:Operand)(z:o.op=.call { callee:=.builtin .append,args:=#[s,x],argTypes:=#[39,39] })
 {B t n cc:Nat} {mk:Int} {v0 lv:Value} {F wr:World} {i:Option Addr} {E:List Value} (d:Uf B t mk v0 F (.slice i n cc) n E lv wr) (R:n<=2000000000) (hs:a.eval s=.slice i n cc) (A:a.eval x=.slice (some ⟨wr.heap.size,0,none⟩) 1 1)
 (h:∀q r w2,Uf B t mk v0 F (.slice q (n+1) r) (n+1) E lv w2->wpList Tryz.prog D Q rest (a.put o.dst (.slice q (n+1) r)) w2) :
 wpList Tryz.prog D Q (o :: rest) a (wr.alloc (.cells #[II mk,.string ⟨#[]⟩,II 0,II 0,II 0,II 0,II 0] 56)):=by
 obtain⟨i0,v,M,C,N⟩:=info_parts XK;have O:aj aA wr (wr.alloc (.cells #[II mk,.string ⟨#[]⟩,II 0,II 0,II 0,II 0,II 0] 56)):=(aj.refl aA wr).alloc _;have p:=aB d.cur O (fun _ _ P=>P);have K:n+1<=maxLen:=by unfold maxLen;omega
 by_cases L:n+1<=cc
 ·rcases d.cur.2 with⟨e,h0⟩ | ⟨g,cap,cs,c,_⟩
  ·injection e with _ _ e3;omega
  ·injection c with c _ e3;subst c;exact wpList_append_own_spare _ u s x 39 z B 56 i0 7 Tryz.underlying39 v C g n cc (gV mk n) hs p ⟨wr.heap.size,0,none⟩ 1 1 [II mk,.string ⟨#[]⟩,II 0,II 0,II 0,II 0,II 0] A rfl (Rw _ _) (by simp[Value.oneCell']) L (fun w' f m=>h _ _ w' (d.spare f m (fun k J=>Ij mk J)))
 ·have y:(gV mk n).length=n * 7:=jA mk n;refine wpList_append_grows _ u s x 39 z 56 i0 _ 7 64 Tryz.underlying39 v M C N rfl (by decide) i n cc (gV mk n) hs ?_ y ?_ ⟨wr.heap.size,0,none⟩ 1 1 [II mk,.string ⟨#[]⟩,II 0,II 0,II 0,II 0,II 0] A rfl (Rw _ _) (by simp[Value.oneCell']) (by omega) K (by omega) (fun T w' f m=>?_)
  ·intro e;rcases d.cur.2 with⟨l,h0⟩ | ⟨g,cap,cs,c,_⟩
   ·injection l with _ _ e3;exact⟨h0,e3⟩
   ·injection c with c _ _;rw[e]at c;cases c
  ·intro b e j S w;subst e;rcases p.2 with⟨l,h0⟩ | ⟨g,cap,cs,c,_⟩
   ·cases l
   ·injection c with c _ _;injection c with c;subst c;have I:j<n * 7:=by rw[<-y];exact (List.getElem?_eq_some_iff.1 w).1
    have:=(p.cellAt j I).trans w;rw[Addr.add_lit,Nat.zero_add];exact this
  ·obtain⟨G,H,e⟩:=aJ f;subst e;exact h G H w' (d.JM f m)
theorem H5{r:Array Oper}{rest:List Oper}{o:Oper}{a:Act}{Q:Exit->Act->World->Prop}(v:o.guard=none)(s x:Operand)(A:o.op=.call { callee:=.builtin .append,args:=#[s,x],argTypes:=#[175,175] })
 {B l n cc:Nat} {mk:Int} {v0 lv:Value} {t wr:World} {d:Option Addr} {f:List Value} (c:Uf B l mk v0 t (.slice d n cc) n f lv wr) {m:Nat} (y:f.length=m) (L:m<=100000) (hs:a.eval s=lv) (E:a.eval x=.slice (some ⟨wr.heap.size,0,none⟩) 1 1)
 (h:∀g i j,au j l #[.slice none 0 0,lv,.slice none 0 0,II mk] 178->Uf B l mk v0 t (.slice d n cc) n (f++[.slice d n cc]) (.slice (some ⟨g,0,none⟩) (m+1) i) (j.setCell ⟨l,1,none⟩ (.slice (some ⟨g,0,none⟩) (m+1) i)) ->
   wpList Tryz.prog r Q rest (a.put o.dst (.slice (some ⟨g,0,none⟩) (m+1) i)) j) :
 wpList Tryz.prog r Q (o :: rest) a (wr.alloc (.cells #[.slice d n cc] 39)):=by
 subst y;obtain⟨i0,w,F,G,H⟩:=info_parts XM;have I:aj aA wr (wr.alloc (.cells #[.slice d n cc] 39)):=(aj.refl aA wr).alloc _;have D:=aB c.dV I (fun _ _ J=>J);have z:f.length+1<=maxLen:=by unfold maxLen;omega
 have M:=c.size;have p:=c.jW.size;refine wpList_append_lies _ v s x 175 A B 39 i0 (.slice none 0 0) 1 24 Tryz.underlying175 w F G H rfl (by decide) lv f.length f hs D ⟨wr.heap.size,0,none⟩ 1 1 [.slice d n cc] E rfl (Dp _ _ _) (by simp[Value.oneCell']) (by omega) z (by omega) (by simp;omega) (wr.heap.size+1) (by simp) (fun g i j C q u K=>?_);refine h g i j ?_ (c.bU C q (u.imp_right (fun e=>by omega)));exact (((aj.refl (fun b=>lv.ownBlock=some b) wr).alloc _).grown q (fun k e=>.inl e)).ay c.ay (fun e=>by obtain⟨cs,p⟩:=aF c.dV e;exact au.ne p c.ay (by decide) rfl)
theorem Hw(m x:Nat)(pv u v:Value)(f:List Hd)(Q:List Tr)(w:World)(hwb:au w m #[pv,u] 78)(jJ:w.ownsRow 0 133 1 u f.length (f.map uY))(hl:f.length<=100000000)(N:w.ownsRow x 56 7 v Q.length (pY Q))(hls:Q.length<=1000000000)(hn0:x<=w.heap.size)(hwn:m<x)(hhn:∀b,u.ownBlock=some b->b<x) :
 CT 107 #[PP m,v] w fun e w'=>e=.returned (.tuple #[])/\∃E c n lv hv' w3,Uf x w.heap.size (-1000-(f.length:Int)) v w c n E lv w3/\n<=1000000100/\E.length<=100 /\
  aj (fun b=>b=m\/u.ownBlock=some b) w3 w'/\au w' m #[pv,hv'] 78/\w'.ownsRow 0 133 1 hv' (f.length+1) (f.map uY++[PP w.heap.size])/\(∀b,hv'.ownBlock=some b->u.ownBlock=some b\/w3.heap.size<=b):=by
 obtain⟨F,A,rfl⟩:=aJ jJ;obtain⟨B,C,rfl⟩:=aJ N;have U:=ai (Ai m pv F f.length A w hwb (by omega));obtain⟨mk,hmk⟩:=dQ ((-1000-(f.length:Int)));rw[hmk]at U ⊢;obtain⟨n,hnl⟩:=dQ Q.length;rw[hnl]at hls N;rw[hnl];obtain⟨Zr,PM,TG,Y3⟩:=gY hwb jJ N hhn;clear hmk hwb jJ N hhn;go_enter Tryz.func107,Tryz.ntmps107;go_wp2_with fail;refine (ae U).mono ?_;rintro e w1 ⟨rfl,hw1⟩;rw[hw1];clear hw1 w1 U;go_wp2;obtain⟨W,H⟩:=gy (w.alloc (.cells #[.slice none 0 0,.slice none 0 0,.slice none 0 0,II mk] 178));have QU:aj aA w W:=by rw[H];exact (aj.refl aA w).alloc _
 have X:au W w.heap.size #[.slice none 0 0,.slice none 0 0,.slice none 0 0,II mk] 178:=by rw[H];exact au.new _ _ _
 obtain⟨y,M⟩:=dQ w.heap.size;obtain⟨HW1,R⟩:=aZ H M;have hst:∃l,W.ownsRow x 56 7 (.slice B n C) n l/\l.take (0 * 7)=gV mk 0:=⟨_,aB (ae TG) QU (fun _ _ z=>z),by simp[gV]⟩;have HST:=ai hst;have Eb:=ai (QU.aP (S:=fun b=>(Value.slice B n C).ownBlock=some b));rw[M]at X;have HB1:=ai X;rw[<-H,M];clear hst QU X H M;go_loopg [5] n (fun k iv wr=>∃(i:Nat) (l:List Value),iv=II (i:Int)/\i<=n/\k=n-i/\wr.ownsRow x 56 7 (.slice B n C) n l/\l.take (i * 7)=gV mk i/\au wr y #[.slice none 0 0,.slice none 0 0,.slice none 0 0,II mk] 178/\aj (fun b=>(Value.slice B n C).ownBlock=some b) w wr)
 case atStart =>
  obtain⟨l,Y,Z⟩:=ae HST;exact⟨0,l,rfl,Nat.zero_le _,rfl,Y,Z,ae HB1,ae Eb⟩
 case round =>
  obtain⟨i,l,rfl,hi,hgk,d,O,hbl,I⟩:=hrel;have h3:CC wr y 3 (II mk):=hbl.cell 3;have hlx:l.length=n * 7:=d.1;by_cases hlt:i<n
  ·obtain⟨g,rfl,hg0⟩:=gQ d (by omega);obtain⟨gcs,hgb⟩:=aF d (b:=g) rfl;have lg:=hgb.lt;have hne:g≠y:=au.ne hgb hbl (by decide);have D:=hne.symm;obtain⟨u0,hu0⟩:∃o,l[i * 7]?=some o:=⟨_,List.getElem?_eq_getElem (by omega)⟩;obtain⟨u1,hu1⟩:∃o,l[i * 7+1]?=some o:=⟨_,List.getElem?_eq_getElem (by omega)⟩;obtain⟨u2,hu2⟩:∃o,l[i * 7+2]?=some o:=⟨_,List.getElem?_eq_getElem (by omega)⟩;obtain⟨u3,hu3⟩:∃o,l[i * 7+3]?=some o:=⟨_,List.getElem?_eq_getElem (by omega)⟩;obtain⟨u4,hu4⟩:∃o,l[i * 7+4]?=some o:=⟨_,List.getElem?_eq_getElem (by omega)⟩;obtain⟨u5,hu5⟩:∃o,l[i * 7+5]?=some o:=⟨_,List.getElem?_eq_getElem (by omega)⟩;obtain⟨u6,hu6⟩:∃o,l[i * 7+6]?=some o:=⟨_,List.getElem?_eq_getElem (by omega)⟩;have x0:CC wr g (i * 7) u0:=(d.cellAt _ (by omega)).trans hu0;have x1:CC wr g (i * 7+1) u1:=(d.cellAt _ (by omega)).trans hu1;have x2:CC wr g (i * 7+2) u2:=(d.cellAt _ (by omega)).trans hu2;have x3:CC wr g (i * 7+3) u3:=(d.cellAt _ (by omega)).trans hu3;have x4:CC wr g (i * 7+4) u4:=(d.cellAt _ (by omega)).trans hu4;have x5:CC wr g (i * 7+5) u5:=(d.cellAt _ (by omega)).trans hu5;have x6:CC wr g (i * 7+6) u6:=(d.cellAt _ (by omega)).trans hu6;have f0:=d.frozenAt (i * 7);have f1:=d.frozenAt (i * 7+1);have f2:=d.frozenAt (i * 7+2);have f3:=d.frozenAt (i * 7+3);have f4:=d.frozenAt (i * 7+4);have f5:=d.frozenAt (i * 7+5);have f6:=d.frozenAt (i * 7+6);obtain⟨Zt,Zm,YP,YU,Y7⟩:=mi d O hbl I hlx;clear d O hbl I hlx hu0 hu1 hu2 hu3 hu4 hu5 hu6 hgb;go_wp2;go_roundg (n-(i+1))
   case measure=>omega
   case rel =>
    refine⟨i+1,_,by push_cast;rfl,by omega,rfl,((((((((ae Zt).stored (i * 7) (II mk)).1.stored (i * 7+1) (.string ⟨#[]⟩)).1.stored (i * 7+2) (II 0)).1.stored (i * 7+3) (II 0)).1.stored (i * 7+4) (II 0)).1.stored (i * 7+5) (II 0)).1.stored (i * 7+6) (II 0)).1,Ih (ae Zm) (by have:=ae Y7;omega),?_,?_⟩
    ·exact ((((((((ae YP).other (a:=⟨g,i * 7,none⟩) D _).other (a:=⟨g,i * 7+1,none⟩) D _).other (a:=⟨g,i * 7+2,none⟩) D _).other (a:=⟨g,i * 7+3,none⟩) D _).other (a:=⟨g,i * 7+4,none⟩) D _).other (a:=⟨g,i * 7+5,none⟩) D _).other (a:=⟨g,i * 7+6,none⟩) D _)
    ·exact ((((((((ae YU).setCell (p:=⟨g,i * 7,none⟩) (.inl rfl) _).setCell (p:=⟨g,i * 7+1,none⟩) (.inl rfl) _).setCell (p:=⟨g,i * 7+2,none⟩) (.inl rfl) _).setCell (p:=⟨g,i * 7+3,none⟩) (.inl rfl) _).setCell (p:=⟨g,i * 7+4,none⟩) (.inl rfl) _).setCell (p:=⟨g,i * 7+5,none⟩) (.inl rfl) _).setCell (p:=⟨g,i * 7+6,none⟩) (.inl rfl) _)
  ·obtain rfl:i=n:=by omega
   have He:l=gV mk i:=by rw[<-O,List.take_of_length_le (by omega)]
   rw[He]at d;have VR:Uf x y mk (.slice B i C) w (.slice B i C) i [] (.slice none 0 0) wr:=by
    refine⟨hbl,World.ownsRow_nil _ _ _ _,d,fun v u=>absurd u (by simp),fun v u=>absurd u (by simp),I,hn0,by have:=ae R;omega,fun b r=>(d.lt b r).1,fun b r=>.inl r,fun b r=>by simp[Value.ownBlock]at r⟩
   have h0:CC wr y 1 (.slice none 0 0):=hbl.cell 1;have lhb:=hbl.lt;have TY:=ai VR;have hws:w.heap.size<=wr.heap.size:=I.size;clear d O hbl I hlx VR He l;go_wp2_with (at_builtin;refine H5 rfl _ _ rfl (ae TY) rfl (by simp) rfl rfl ?_;intro la lc w4 L VS;have c40:=L.cell 1;have f40:=L.frozen 1;have l40:=L.lt;simp at c40;have T:=ai VS;clear VS L h0);simp only[List.length_nil,Nat.zero_add,List.nil_append]at T;clear c40 f40;go_loopg [1,6] 8 (fun k cv iv wr=>∃(j J cc:Nat) (a:Option Addr) (E:List Value) (lv:Value),iv=II (j:Int)/\j<=8/\k=8-j/\cv=.slice a J cc/\J=i+j/\E.length=j+1/\Uf x y mk (.slice B i C) w (.slice a J cc) J E lv wr)
   case atStart =>
    exact⟨0,i,C,B,_,_,rfl,by omega,rfl,rfl,rfl,rfl,ae T⟩
   case round =>
    clear T TY lhb l40;obtain⟨j,J,cc,a,E,lv,rfl,hj,hgk,rfl,hnn,hsl,s⟩:=hrel;obtain⟨xa,xc,hxv⟩:=aJ s.dV;rw[hsl]at hxv;subst hxv;have V:=ai hsl;subst hnn;clear hsl;have hz3:CC wr y 3 (II mk):=s.ay.cell 3;have HL:=ai s;by_cases hlt:j<8
    ·clear s;go_wp2_with (first | (at_builtin;refine QZ rfl _ _ rfl (ae HL) (by omega) rfl rfl ?_;intro ao' cc' w2 P;have d0:=P.ay.cell 1;have l2:=P.ay.lt;simp at d0;have HL2:=ai P;clear P) | (at_builtin;refine H5 rfl _ _ rfl (ae HL2) (ae V) (by omega) rfl rfl ?_;intro la' lc' G q VT;have ZI:=q.cell 1;have f50:=q.frozen 1;have l50:=q.lt;simp at ZI;have TZ:=ai VT;clear VT q d0));go_roundg (8-(j+1))
     case measure=>omega
     case rel=>exact⟨j+1,i+j+1,cc',ao',_,_,by push_cast;rfl,by omega,rfl,rfl,by omega,by simp[ae V],ae TZ⟩
    ·obtain rfl:j=8:=by omega
     have K:au wr m _ 78:=s.jW.ay (ae Zr) (fun e=>by have:=s.Pq m e;omega);have w1c:CC wr m 1 (.slice F f.length A):=K.cell 1;have hrow2:=aB (ae PM) s.jW (fun b Y Z=>by have:=ae Y3 b Y;have:=s.Pq b Z;omega);obtain⟨yz,F8⟩:=aZ hrow2 K;have XU:=K.lt;obtain⟨i0,hi0,hz0,hz1,hz2⟩:=info_parts EH;have hm1:f.length+1<=maxLen:=by unfold maxLen;omega
     clear s hrow2 K;go_wp2_with (at_builtin;refine wpList_append_lies _ rfl _ _ 76 rfl 0 133 i0 (.pointer none) 1 8 Tryz.underlying76 hi0 hz0 hz1 hz2 rfl (by decide) (.slice F f.length A) f.length (f.map uY) rfl (aB (ae yz) ((aj.refl aA wr).alloc _) (fun _ _ z=>z)) ⟨wr.heap.size,0,none⟩ 1 1 [PP y] rfl rfl (Dp _ _ _) (by simp[Value.oneCell']) (by omega) hm1 (by omega) (by omega) (wr.heap.size+1) (by simp) ?_;intro ga gc G hown' hgrow hat hlt2;have q:au G m _ 78:=(((aj.refl (fun b=>(Value.slice F f.length A).ownBlock=some b) wr).alloc _).grown hgrow (fun k e=>.inl e)).ay (ae F8) (fun e=>by obtain⟨cs,A⟩:=aF (ae yz) e;exact au.ne A (ae F8) (by decide) rfl);have c51:=q.cell 1;have f51:=q.frozen 1;have l51:=q.lt;simp at c51;have Vs:=ai q;have Uc:=ai hown';have Y2:=ai hgrow;have YL:=ai hat;clear q hown' hgrow hat w1c);go_end0;have k5:aj (fun b=>(Value.slice F f.length A).ownBlock=some b) wr G:=((aj.refl (fun b=>(Value.slice F f.length A).ownBlock=some b) wr).alloc _).grown (ae Y2) (fun k e=>.inl e);have k6:aj (fun b=>b=m) G (G.setCell ⟨m,1,none⟩ (.slice (some ⟨ga,0,none⟩) (f.length+1) gc)):=(aj.refl (fun b=>b=m) G).setCell (p:=⟨m,1,none⟩) (.inl rfl) _;refine⟨rfl,E,_,_,_,.slice (some ⟨ga,0,none⟩) (f.length+1) gc,wr,by rw[ae R];exact ae HL,by omega,by rw[ae V];omega,(k5.mono (fun b h=>.inr h)).trans (k6.mono (fun b h=>.inl h)),(ae Vs).set 1 _,?_,?_⟩
     ·rw[ae R];exact bK (t:=0) (ae Uc) k6 (fun b r=>by subst r;exact⟨_,_,ae Vs,by decide⟩)
     ·intro b r;simp only[Value.ownBlock,Option.some.injEq]at r;rcases ae YL with e | e
      ·left;rw[e,r]
      ·right;omega
def gU(mk:Int):Nat->List Value
 | 0=>[]
 | n+1=>gU mk n++[II mk,II 0,II 0,.string ⟨#[]⟩,II 0,II 0,II 0,II 0,II 0]
theorem jy(mk:Int):∀n,(gU mk n).length=n * 9
 | 0=>rfl
 | n+1=>by rw[gU,List.length_append,jy mk n];simp[Nat.add_mul]
theorem Ii(mk:Int){k n:Nat}(h:k<=n):(gU mk n).take (k * 9)=gU mk k:=by
 induction n with
 | zero=>have:k=0:=by omega
         subst this;rfl
 | succ n ih =>
   by_cases e:k=n+1
   ·subst e;rw[List.take_of_length_le (by rw[jy];omega)]
   ·rw[gU,List.take_append_of_le_length (by rw[jy];omega)];exact ih (by omega)
theorem jI(mk:Int){i n j:Nat}(h:i<n)(a:j<9):(gU mk n)[i * 9+j]?=[Value.int .i64 mk,II 0,II 0,.string ⟨#[]⟩,II 0,II 0,II 0,II 0,II 0][j]?:=by
 induction n with
 | zero=>omega
 | succ n ih =>
   rw[gU];by_cases e:i=n
   ·subst e;rw[List.getElem?_append_right (by rw[jy];omega),jy];congr 1;omega
   ·rw[List.getElem?_append_left (by rw[jy];omega)];exact ih (by omega)
theorem Ig{a:List Value}{mk:Int}{i:Nat}(h:a.take (i * 9)=gU mk i)(hs:i * 9+9<=a.length) :
 (((((((((a.set (i * 9) (II mk)).set (i * 9+1) (II 0)).set (i * 9+2) (II 0)).set (i * 9+3) (.string ⟨#[]⟩)).set (i * 9+4) (II 0)).set (i * 9+5) (II 0)).set (i * 9+6) (II 0)).set (i * 9+7) (II 0)).set (i * 9+8) (II 0)).take ((i+1) * 9)=gU mk (i+1):=by
 apply List.ext_getElem?;intro j;rw[List.getElem?_take];by_cases o:j<(i+1) * 9
 ·rw[if_pos o];by_cases m:j=i * 9+8
  ·subst m;rw[List.getElem?_set_self (by first | omega | (simp;omega))];exact (jI mk (i:=i) (n:=i+1) (j:=8) (by omega) (by omega)).symm
  rw[List.getElem?_set_ne (fun e=>m e.symm)];by_cases l:j=i * 9+7
  ·subst l;rw[List.getElem?_set_self (by first | omega | (simp;omega))];exact (jI mk (i:=i) (n:=i+1) (j:=7) (by omega) (by omega)).symm
  rw[List.getElem?_set_ne (fun e=>l e.symm)];by_cases k:j=i * 9+6
  ·subst k;rw[List.getElem?_set_self (by first | omega | (simp;omega))];exact (jI mk (i:=i) (n:=i+1) (j:=6) (by omega) (by omega)).symm
  rw[List.getElem?_set_ne (fun e=>k e.symm)];by_cases g:j=i * 9+5
  ·subst g;rw[List.getElem?_set_self (by first | omega | (simp;omega))];exact (jI mk (i:=i) (n:=i+1) (j:=5) (by omega) (by omega)).symm
  rw[List.getElem?_set_ne (fun e=>g e.symm)];by_cases f:j=i * 9+4
  ·subst f;rw[List.getElem?_set_self (by first | omega | (simp;omega))];exact (jI mk (i:=i) (n:=i+1) (j:=4) (by omega) (by omega)).symm
  rw[List.getElem?_set_ne (fun e=>f e.symm)];by_cases d:j=i * 9+3
  ·subst d;rw[List.getElem?_set_self (by first | omega | (simp;omega))];exact (jI mk (i:=i) (n:=i+1) (j:=3) (by omega) (by omega)).symm
  rw[List.getElem?_set_ne (fun e=>d e.symm)];by_cases c:j=i * 9+2
  ·subst c;rw[List.getElem?_set_self (by first | omega | (simp;omega))];exact (jI mk (i:=i) (n:=i+1) (j:=2) (by omega) (by omega)).symm
  rw[List.getElem?_set_ne (fun e=>c e.symm)];by_cases b:j=i * 9+1
  ·subst b;rw[List.getElem?_set_self (by first | omega | (simp;omega))];exact (jI mk (i:=i) (n:=i+1) (j:=1) (by omega) (by omega)).symm
  rw[List.getElem?_set_ne (fun e=>b e.symm)];by_cases h0:j=i * 9
  ·subst h0;rw[List.getElem?_set_self (by first | omega | (simp;omega))];exact (jI mk (i:=i) (n:=i+1) (j:=0) (by omega) (by omega)).symm
  rw[List.getElem?_set_ne (fun e=>h0 e.symm)];have p:j<i * 9:=by omega
  have:a[j]?=(gU mk i)[j]?:=by rw[<-h,List.getElem?_take,if_pos p]
  rw[this,gU,List.getElem?_append_left (by rw[jy];exact p)]
 ·rw[if_neg o,List.getElem?_eq_none (by rw[jy];omega)]
theorem XL:(Tryz.prog.info? 34).map (fun i=>(i.zero,i.size,i.bytes))=some (some (.slice none 0 0),1,24):=by kernel_rfl
abbrev Ue(B hb:Nat)(mk:Int):=KG 34 62 9 (gU mk) (fun lv=>#[.slice none 0 0,.slice none 0 0,lv,II mk]) B hb
theorem Ru(w:World)(mk:Int):∀j a,([II mk,II 0,II 0,.string ⟨#[]⟩,II 0,II 0,II 0,II 0,II 0]:List Value)[j]?=some a->(w.alloc (.cells #[II mk,II 0,II 0,.string ⟨#[]⟩,II 0,II 0,II 0,II 0,II 0] 62)).cell? (Addr.add ⟨w.heap.size,0,none⟩ j)=some a:=by
 intro j a c;have b:=au.new w #[II mk,II 0,II 0,.string ⟨#[]⟩,II 0,II 0,II 0,II 0,II 0] 62;rw[Addr.add_lit,Nat.zero_add,b.cell j,<-c]
 match j with
 | 0=>rfl
 | 1=>rfl
 | 2=>rfl
 | 3=>rfl
 | 4=>rfl
 | 5=>rfl
 | 6=>rfl
 | 7=>rfl
 | 8=>rfl
 | j+9=>simp
theorem XJ:(Tryz.prog.info? 62).map (fun i=>(i.zero,i.size,i.bytes))=some (some (.agg #[II 0,II 0,II 0,.string ⟨#[]⟩,II 0,II 0,II 0,II 0,II 0]),9,80):=by kernel_rfl
theorem QY{D:Array Oper}{rest:List Oper}{o:Oper}{a:Act}{Q:Exit->Act->World->Prop}(u:o.guard=none)(s x:Operand)(z:o.op=.call { callee:=.builtin .append,args:=#[s,x],argTypes:=#[34,34] })
 {B t n cc:Nat} {mk:Int} {v0 lv:Value} {F wr:World} {i:Option Addr} {E:List Value} (d:Ue B t mk v0 F (.slice i n cc) n E lv wr) (R:n<=2000000000) (hs:a.eval s=.slice i n cc) (A:a.eval x=.slice (some ⟨wr.heap.size,0,none⟩) 1 1)
 (h:∀q r w2,Ue B t mk v0 F (.slice q (n+1) r) (n+1) E lv w2->wpList Tryz.prog D Q rest (a.put o.dst (.slice q (n+1) r)) w2) :
 wpList Tryz.prog D Q (o :: rest) a (wr.alloc (.cells #[II mk,II 0,II 0,.string ⟨#[]⟩,II 0,II 0,II 0,II 0,II 0] 62)):=by
 obtain⟨i0,v,M,C,N⟩:=info_parts XJ;have O:aj aA wr (wr.alloc (.cells #[II mk,II 0,II 0,.string ⟨#[]⟩,II 0,II 0,II 0,II 0,II 0] 62)):=(aj.refl aA wr).alloc _;have p:=aB d.cur O (fun _ _ P=>P);have K:n+1<=maxLen:=by unfold maxLen;omega
 by_cases L:n+1<=cc
 ·rcases d.cur.2 with⟨e,h0⟩ | ⟨g,cap,cs,c,_⟩
  ·injection e with _ _ e3;omega
  ·injection c with c _ e3;subst c;exact wpList_append_own_spare _ u s x 34 z B 62 i0 9 Tryz.underlying34 v C g n cc (gU mk n) hs p ⟨wr.heap.size,0,none⟩ 1 1 [II mk,II 0,II 0,.string ⟨#[]⟩,II 0,II 0,II 0,II 0,II 0] A rfl (Ru _ _) (by simp[Value.oneCell']) L (fun w' f m=>h _ _ w' (d.spare f m (fun k J=>Ii mk J)))
 ·have y:(gU mk n).length=n * 9:=jy mk n;refine wpList_append_grows _ u s x 34 z 62 i0 _ 9 80 Tryz.underlying34 v M C N rfl (by decide) i n cc (gU mk n) hs ?_ y ?_ ⟨wr.heap.size,0,none⟩ 1 1 [II mk,II 0,II 0,.string ⟨#[]⟩,II 0,II 0,II 0,II 0,II 0] A rfl (Ru _ _) (by simp[Value.oneCell']) (by omega) K (by omega) (fun T w' f m=>?_)
  ·intro e;rcases d.cur.2 with⟨l,h0⟩ | ⟨g,cap,cs,c,_⟩
   ·injection l with _ _ e3;exact⟨h0,e3⟩
   ·injection c with c _ _;rw[e]at c;cases c
  ·intro b e j S w;subst e;rcases p.2 with⟨l,h0⟩ | ⟨g,cap,cs,c,_⟩
   ·cases l
   ·injection c with c _ _;injection c with c;subst c;have I:j<n * 9:=by rw[<-y];exact (List.getElem?_eq_some_iff.1 w).1
    have:=(p.cellAt j I).trans w;rw[Addr.add_lit,Nat.zero_add];exact this
  ·obtain⟨G,H,e⟩:=aJ f;subst e;exact h G H w' (d.JM f m)
theorem Hz{r:Array Oper}{rest:List Oper}{o:Oper}{a:Act}{Q:Exit->Act->World->Prop}(v:o.guard=none)(s x:Operand)(A:o.op=.call { callee:=.builtin .append,args:=#[s,x],argTypes:=#[176,176] })
 {B l n cc:Nat} {mk:Int} {v0 lv:Value} {t wr:World} {d:Option Addr} {f:List Value} (c:Ue B l mk v0 t (.slice d n cc) n f lv wr) {m:Nat} (y:f.length=m) (L:m<=100000) (hs:a.eval s=lv) (E:a.eval x=.slice (some ⟨wr.heap.size,0,none⟩) 1 1)
 (h:∀g i j,au j l #[.slice none 0 0,.slice none 0 0,lv,II mk] 178->Ue B l mk v0 t (.slice d n cc) n (f++[.slice d n cc]) (.slice (some ⟨g,0,none⟩) (m+1) i) (j.setCell ⟨l,2,none⟩ (.slice (some ⟨g,0,none⟩) (m+1) i)) ->
   wpList Tryz.prog r Q rest (a.put o.dst (.slice (some ⟨g,0,none⟩) (m+1) i)) j) :
 wpList Tryz.prog r Q (o :: rest) a (wr.alloc (.cells #[.slice d n cc] 34)):=by
 subst y;obtain⟨i0,w,F,G,H⟩:=info_parts XL;have I:aj aA wr (wr.alloc (.cells #[.slice d n cc] 34)):=(aj.refl aA wr).alloc _;have D:=aB c.dV I (fun _ _ J=>J);have z:f.length+1<=maxLen:=by unfold maxLen;omega
 have M:=c.size;have p:=c.jW.size;refine wpList_append_lies _ v s x 176 A B 34 i0 (.slice none 0 0) 1 24 Tryz.underlying176 w F G H rfl (by decide) lv f.length f hs D ⟨wr.heap.size,0,none⟩ 1 1 [.slice d n cc] E rfl (Dp _ _ _) (by simp[Value.oneCell']) (by omega) z (by omega) (by simp;omega) (wr.heap.size+1) (by simp) (fun g i j C q u K=>?_);refine h g i j ?_ (c.bU C q (u.imp_right (fun e=>by omega)));exact (((aj.refl (fun b=>lv.ownBlock=some b) wr).alloc _).grown q (fun k e=>.inl e)).ay c.ay (fun e=>by obtain⟨cs,p⟩:=aF c.dV e;exact au.ne p c.ay (by decide) rfl)
theorem EL(o y:Nat)(pv x v:Value)(l:List Hd)(Q:List Rc)(w:World)(hwb:au w o #[pv,x] 78)(jJ:w.ownsRow 0 133 1 x l.length (l.map uY))(hl:l.length<=100000000)(N:w.ownsRow y 62 9 v Q.length (gm Q))(hls:Q.length<=1000000000)(hn0:y<=w.heap.size)(hwn:o<y)(hhn:∀b,x.ownBlock=some b->b<y) :
 CT 110 #[PP o,v] w fun e w'=>e=.returned (.tuple #[])/\∃E c n lv hv' w3,Ue y w.heap.size (-1000-(l.length:Int)) v w c n E lv w3/\n<=1000000100/\E.length<=100 /\
  aj (fun b=>b=o\/x.ownBlock=some b) w3 w'/\au w' o #[pv,hv'] 78/\w'.ownsRow 0 133 1 hv' (l.length+1) (l.map uY++[PP w.heap.size])/\(∀b,hv'.ownBlock=some b->x.ownBlock=some b\/w3.heap.size<=b):=by
 obtain⟨F,B,rfl⟩:=aJ jJ;obtain⟨C,D,rfl⟩:=aJ N;have U:=ai (Ai o pv F l.length B w hwb (by omega));obtain⟨mk,hmk⟩:=dQ ((-1000-(l.length:Int)));rw[hmk]at U ⊢;obtain⟨n,hnl⟩:=dQ Q.length;rw[hnl]at hls N;rw[hnl];obtain⟨Zr,PM,TG,Y3⟩:=gY hwb jJ N hhn;clear hmk hwb jJ N hhn;go_enter Tryz.func110,Tryz.ntmps110;go_wp2_with fail;refine (ae U).mono ?_;rintro e w1 ⟨rfl,hw1⟩;rw[hw1];clear hw1 w1 U;go_wp2;obtain⟨W,H⟩:=gy (w.alloc (.cells #[.slice none 0 0,.slice none 0 0,.slice none 0 0,II mk] 178));have QU:aj aA w W:=by rw[H];exact (aj.refl aA w).alloc _
 have X:au W w.heap.size #[.slice none 0 0,.slice none 0 0,.slice none 0 0,II mk] 178:=by rw[H];exact au.new _ _ _
 obtain⟨hb,M⟩:=dQ w.heap.size;obtain⟨HW1,R⟩:=aZ H M;have hst:∃f,W.ownsRow y 62 9 (.slice C n D) n f/\f.take (0 * 9)=gU mk 0:=⟨_,aB (ae TG) QU (fun _ _ z=>z),by simp[gU]⟩;have HST:=ai hst;have Eb:=ai (QU.aP (S:=fun b=>(Value.slice C n D).ownBlock=some b));rw[M]at X;have HB1:=ai X;rw[<-H,M];clear hst QU X H M;go_loopg [5] n (fun k iv wr=>∃(i:Nat) (f:List Value),iv=II (i:Int)/\i<=n/\k=n-i/\wr.ownsRow y 62 9 (.slice C n D) n f/\f.take (i * 9)=gU mk i/\au wr hb #[.slice none 0 0,.slice none 0 0,.slice none 0 0,II mk] 178/\aj (fun b=>(Value.slice C n D).ownBlock=some b) w wr)
 case atStart =>
  obtain⟨f,Y,Z⟩:=ae HST;exact⟨0,f,rfl,Nat.zero_le _,rfl,Y,Z,ae HB1,ae Eb⟩
 case round =>
  obtain⟨i,f,rfl,hi,hgk,d,O,A,I⟩:=hrel;have h3:CC wr hb 3 (II mk):=A.cell 3;have hlx:f.length=n * 9:=d.1;by_cases hlt:i<n
  ·obtain⟨g,rfl,hg0⟩:=gQ d (by omega);obtain⟨gcs,hgb⟩:=aF d (b:=g) rfl;have lg:=hgb.lt;have hne:g≠hb:=au.ne hgb A (by decide);have u:=hne.symm;obtain⟨u0,hu0⟩:∃m,f[i * 9]?=some m:=⟨_,List.getElem?_eq_getElem (by omega)⟩;obtain⟨u1,hu1⟩:∃m,f[i * 9+1]?=some m:=⟨_,List.getElem?_eq_getElem (by omega)⟩;obtain⟨u2,hu2⟩:∃m,f[i * 9+2]?=some m:=⟨_,List.getElem?_eq_getElem (by omega)⟩;obtain⟨u3,hu3⟩:∃m,f[i * 9+3]?=some m:=⟨_,List.getElem?_eq_getElem (by omega)⟩;obtain⟨u4,hu4⟩:∃m,f[i * 9+4]?=some m:=⟨_,List.getElem?_eq_getElem (by omega)⟩;obtain⟨u5,hu5⟩:∃m,f[i * 9+5]?=some m:=⟨_,List.getElem?_eq_getElem (by omega)⟩;obtain⟨u6,hu6⟩:∃m,f[i * 9+6]?=some m:=⟨_,List.getElem?_eq_getElem (by omega)⟩;obtain⟨u7,hu7⟩:∃m,f[i * 9+7]?=some m:=⟨_,List.getElem?_eq_getElem (by omega)⟩;obtain⟨u8,hu8⟩:∃m,f[i * 9+8]?=some m:=⟨_,List.getElem?_eq_getElem (by omega)⟩;have x0:CC wr g (i * 9) u0:=(d.cellAt _ (by omega)).trans hu0;have x1:CC wr g (i * 9+1) u1:=(d.cellAt _ (by omega)).trans hu1;have x2:CC wr g (i * 9+2) u2:=(d.cellAt _ (by omega)).trans hu2;have x3:CC wr g (i * 9+3) u3:=(d.cellAt _ (by omega)).trans hu3;have x4:CC wr g (i * 9+4) u4:=(d.cellAt _ (by omega)).trans hu4;have x5:CC wr g (i * 9+5) u5:=(d.cellAt _ (by omega)).trans hu5;have x6:CC wr g (i * 9+6) u6:=(d.cellAt _ (by omega)).trans hu6;have x7:CC wr g (i * 9+7) u7:=(d.cellAt _ (by omega)).trans hu7;have x8:CC wr g (i * 9+8) u8:=(d.cellAt _ (by omega)).trans hu8;have f0:=d.frozenAt (i * 9);have f1:=d.frozenAt (i * 9+1);have f2:=d.frozenAt (i * 9+2);have f3:=d.frozenAt (i * 9+3);have f4:=d.frozenAt (i * 9+4);have f5:=d.frozenAt (i * 9+5);have f6:=d.frozenAt (i * 9+6);have f7:=d.frozenAt (i * 9+7);have f8:=d.frozenAt (i * 9+8);obtain⟨Zt,Zm,YP,YU,Y7⟩:=mi d O A I hlx;clear d O A I hlx hu0 hu1 hu2 hu3 hu4 hu5 hu6 hu7 hu8 hgb;go_wp2;go_roundg (n-(i+1))
   case measure=>omega
   case rel =>
    refine⟨i+1,_,by push_cast;rfl,by omega,rfl,((((((((((ae Zt).stored (i * 9) (II mk)).1.stored (i * 9+1) (II 0)).1.stored (i * 9+2) (II 0)).1.stored (i * 9+3) (.string ⟨#[]⟩)).1.stored (i * 9+4) (II 0)).1.stored (i * 9+5) (II 0)).1.stored (i * 9+6) (II 0)).1.stored (i * 9+7) (II 0)).1.stored (i * 9+8) (II 0)).1,Ig (ae Zm) (by have:=ae Y7;omega),?_,?_⟩
    ·exact ((((((((((ae YP).other (a:=⟨g,i * 9,none⟩) u _).other (a:=⟨g,i * 9+1,none⟩) u _).other (a:=⟨g,i * 9+2,none⟩) u _).other (a:=⟨g,i * 9+3,none⟩) u _).other (a:=⟨g,i * 9+4,none⟩) u _).other (a:=⟨g,i * 9+5,none⟩) u _).other (a:=⟨g,i * 9+6,none⟩) u _).other (a:=⟨g,i * 9+7,none⟩) u _).other (a:=⟨g,i * 9+8,none⟩) u _)
    ·exact ((((((((((ae YU).setCell (p:=⟨g,i * 9,none⟩) (.inl rfl) _).setCell (p:=⟨g,i * 9+1,none⟩) (.inl rfl) _).setCell (p:=⟨g,i * 9+2,none⟩) (.inl rfl) _).setCell (p:=⟨g,i * 9+3,none⟩) (.inl rfl) _).setCell (p:=⟨g,i * 9+4,none⟩) (.inl rfl) _).setCell (p:=⟨g,i * 9+5,none⟩) (.inl rfl) _).setCell (p:=⟨g,i * 9+6,none⟩) (.inl rfl) _).setCell (p:=⟨g,i * 9+7,none⟩) (.inl rfl) _).setCell (p:=⟨g,i * 9+8,none⟩) (.inl rfl) _)
  ·obtain rfl:i=n:=by omega
   have He:f=gU mk i:=by rw[<-O,List.take_of_length_le (by omega)]
   rw[He]at d;have VR:Ue y hb mk (.slice C i D) w (.slice C i D) i [] (.slice none 0 0) wr:=by
    refine⟨A,World.ownsRow_nil _ _ _ _,d,fun v x=>absurd x (by simp),fun v x=>absurd x (by simp),I,hn0,by have:=ae R;omega,fun b r=>(d.lt b r).1,fun b r=>.inl r,fun b r=>by simp[Value.ownBlock]at r⟩
   have h0:CC wr hb 2 (.slice none 0 0):=A.cell 2;have lhb:=A.lt;have TY:=ai VR;have hws:w.heap.size<=wr.heap.size:=I.size;clear d O A I hlx VR He f;go_wp2_with (at_builtin;refine Hz rfl _ _ rfl (ae TY) rfl (by simp) rfl rfl ?_;intro la lc w4 L VS;have c40:=L.cell 2;have f40:=L.frozen 2;have l40:=L.lt;simp at c40;have T:=ai VS;clear VS L h0);simp only[List.length_nil,Nat.zero_add,List.nil_append]at T;clear c40 f40;go_loopg [1,6] 8 (fun k cv iv wr=>∃(j J cc:Nat) (a:Option Addr) (E:List Value) (lv:Value),iv=II (j:Int)/\j<=8/\k=8-j/\cv=.slice a J cc/\J=i+j/\E.length=j+1/\Ue y hb mk (.slice C i D) w (.slice a J cc) J E lv wr)
   case atStart =>
    exact⟨0,i,D,C,_,_,rfl,by omega,rfl,rfl,rfl,rfl,ae T⟩
   case round =>
    clear T TY lhb l40;obtain⟨j,J,cc,a,E,lv,rfl,hj,hgk,rfl,hnn,hsl,s⟩:=hrel;obtain⟨xa,xc,hxv⟩:=aJ s.dV;rw[hsl]at hxv;subst hxv;have V:=ai hsl;subst hnn;clear hsl;have hz3:CC wr hb 3 (II mk):=s.ay.cell 3;have HL:=ai s;by_cases hlt:j<8
    ·clear s;go_wp2_with (first | (at_builtin;refine QY rfl _ _ rfl (ae HL) (by omega) rfl rfl ?_;intro ao' cc' w2 P;have d0:=P.ay.cell 2;have l2:=P.ay.lt;simp at d0;have HL2:=ai P;clear P) | (at_builtin;refine Hz rfl _ _ rfl (ae HL2) (ae V) (by omega) rfl rfl ?_;intro la' lc' G q VT;have ZI:=q.cell 2;have f50:=q.frozen 2;have l50:=q.lt;simp at ZI;have TZ:=ai VT;clear VT q d0));go_roundg (8-(j+1))
     case measure=>omega
     case rel=>exact⟨j+1,i+j+1,cc',ao',_,_,by push_cast;rfl,by omega,rfl,rfl,by omega,by simp[ae V],ae TZ⟩
    ·obtain rfl:j=8:=by omega
     have K:au wr o _ 78:=s.jW.ay (ae Zr) (fun e=>by have:=s.Pq o e;omega);have w1c:CC wr o 1 (.slice F l.length B):=K.cell 1;have hrow2:=aB (ae PM) s.jW (fun b Y Z=>by have:=ae Y3 b Y;have:=s.Pq b Z;omega);obtain⟨yz,F8⟩:=aZ hrow2 K;have XU:=K.lt;obtain⟨i0,hi0,hz0,hz1,hz2⟩:=info_parts EH;have hm1:l.length+1<=maxLen:=by unfold maxLen;omega
     clear s hrow2 K;go_wp2_with (at_builtin;refine wpList_append_lies _ rfl _ _ 76 rfl 0 133 i0 (.pointer none) 1 8 Tryz.underlying76 hi0 hz0 hz1 hz2 rfl (by decide) (.slice F l.length B) l.length (l.map uY) rfl (aB (ae yz) ((aj.refl aA wr).alloc _) (fun _ _ z=>z)) ⟨wr.heap.size,0,none⟩ 1 1 [PP hb] rfl rfl (Dp _ _ _) (by simp[Value.oneCell']) (by omega) hm1 (by omega) (by omega) (wr.heap.size+1) (by simp) ?_;intro ga gc G hown' hgrow hat hlt2;have q:au G o _ 78:=(((aj.refl (fun b=>(Value.slice F l.length B).ownBlock=some b) wr).alloc _).grown hgrow (fun k e=>.inl e)).ay (ae F8) (fun e=>by obtain⟨cs,B⟩:=aF (ae yz) e;exact au.ne B (ae F8) (by decide) rfl);have c51:=q.cell 1;have f51:=q.frozen 1;have l51:=q.lt;simp at c51;have Vs:=ai q;have Uc:=ai hown';have Y2:=ai hgrow;have YL:=ai hat;clear q hown' hgrow hat w1c);go_end0;have k5:aj (fun b=>(Value.slice F l.length B).ownBlock=some b) wr G:=((aj.refl (fun b=>(Value.slice F l.length B).ownBlock=some b) wr).alloc _).grown (ae Y2) (fun k e=>.inl e);have k6:aj (fun b=>b=o) G (G.setCell ⟨o,1,none⟩ (.slice (some ⟨ga,0,none⟩) (l.length+1) gc)):=(aj.refl (fun b=>b=o) G).setCell (p:=⟨o,1,none⟩) (.inl rfl) _;refine⟨rfl,E,_,_,_,.slice (some ⟨ga,0,none⟩) (l.length+1) gc,wr,by rw[ae R];exact ae HL,by omega,by rw[ae V];omega,(k5.mono (fun b h=>.inr h)).trans (k6.mono (fun b h=>.inl h)),(ae Vs).set 1 _,?_,?_⟩
     ·rw[ae R];exact bK (t:=0) (ae Uc) k6 (fun b r=>by subst r;exact⟨_,_,ae Vs,by decide⟩)
     ·intro b r;simp only[Value.ownBlock,Option.some.injEq]at r;rcases ae YL with e | e
      ·left;rw[e,r]
      ·right;omega
def FY(w:World)(et k:Nat)(M:Nat->List Value)(v:Value):Prop:=∃a n c,v=.slice a n c/\n<=1000000100/\(n=0\/∃g cs,a=some ⟨g,0,none⟩/\au w g cs et/\cs.toList.take (n * k)=M n)
theorem FY.aC{w w':World}{f k:Nat}{M:Nat->List Value}{v:Value}(h:FY w f k M v){e:Nat->Prop}(o:aj e w w')(l:∀b,v.ownBlock=some b->¬e b):FY w' f k M v:=by
 obtain⟨a,n,c,rfl,m,d⟩:=h;refine⟨a,n,c,rfl,m,?_⟩;rcases d with d | ⟨g,cs,rfl,i,j⟩
 ·exact .inl d
 ·exact .inr ⟨g,cs,rfl,o.ay i (l g rfl),j⟩
structure Ho where
 hb:Nat
 lv:Value
 tv:Value
 rv:Value
 ls:List Value
 ts:List Value
 rs:List Value
 YG:Int
structure Js(w:World)(h:Ho):Prop where
 ay:au w h.hb #[h.lv,h.tv,h.rv,II h.YG] 178
 dV:w.ownsRow 0 63 1 h.lv h.ls.length h.ls
 dJ:w.ownsRow 0 39 1 h.tv h.ts.length h.ts
 ug:w.ownsRow 0 34 1 h.rv h.rs.length h.rs
 le:∀v∈h.ls,FY w 93 3 (marks h.YG) v
 te:∀v∈h.ts,FY w 56 7 (gV h.YG) v
 re:∀v∈h.rs,FY w 62 9 (gU h.YG) v
 len:h.ls.length<=1000/\h.ts.length<=1000/\h.rs.length<=1000
def Yx(h:Ho)(b:Nat):Prop:=b=h.hb\/(h.lv.ownBlock=some b\/h.tv.ownBlock=some b\/h.rv.ownBlock=some b)\/∃v∈h.ls++(h.ts++h.rs),v.ownBlock=some b
theorem Js.aC{w w':World}{h:Ho}(x:Js w h){e:Nat->Prop}(k:aj e w w')(d:∀b,Yx h b->¬e b):Js w' h :=
 ⟨k.ay x.ay (d _ (.inl rfl)),aB x.dV k (fun b a=>d b (.inr (.inl (.inl a)))),aB x.dJ k (fun b a=>d b (.inr (.inl (.inr (.inl a))))),aB x.ug k (fun b a=>d b (.inr (.inl (.inr (.inr a))))),fun v c=>(x.le v c).aC k (fun b a=>d b (.inr (.inr ⟨v,by simp[c],a⟩))),fun v c=>(x.te v c).aC k (fun b a=>d b (.inr (.inr ⟨v,by simp[c],a⟩))),fun v c=>(x.re v c).aC k (fun b a=>d b (.inr (.inr ⟨v,by simp[c],a⟩))),x.len⟩
theorem FY.atL{w:World}{mk:Int}{a:Option Addr}{n c:Nat}(h:FY w 93 3 (marks mk) (.slice a n c)){j:Nat}(m:j<n):∃g,a=some ⟨g,0,none⟩/\g<w.heap.size/\w.cell? ⟨g,j * 3,none⟩=some (II mk)/\w.cell? ⟨g,j * 3+1,none⟩=some (II 0)/\w.cell? ⟨g,j * 3+2,none⟩=some (II 0):=by
 obtain⟨o,k',p,e,_,d⟩:=h;injection e with e1 e2 e3;subst e1 e2 e3;rcases d with d | ⟨g,cs,rfl,f,k⟩
 ·omega
 ·refine⟨g,rfl,f.lt,?_⟩;have b:∀i,i<3->w.cell? ⟨g,j * 3+i,none⟩=[Value.int .i64 mk,II 0,II 0][i]?:=fun i l=>by
   rw[f.cell,<-wR mk m l,<-k,List.getElem?_take,if_pos (by omega),Array.getElem?_toList]
  exact⟨b 0 (by omega),b 1 (by omega),b 2 (by omega)⟩
theorem FY.atT{w:World}{mk:Int}{a:Option Addr}{n c:Nat}(h:FY w 56 7 (gV mk) (.slice a n c)){j:Nat}(m:j<n):∃g,a=some ⟨g,0,none⟩/\g<w.heap.size/\w.cell? ⟨g,j * 7,none⟩=some (II mk)/\w.cell? ⟨g,j * 7+1,none⟩=some (.string ⟨#[]⟩)/\w.cell? ⟨g,j * 7+2,none⟩=some (II 0)/\w.cell? ⟨g,j * 7+3,none⟩=some (II 0)/\w.cell? ⟨g,j * 7+4,none⟩=some (II 0)/\w.cell? ⟨g,j * 7+5,none⟩=some (II 0)/\w.cell? ⟨g,j * 7+6,none⟩=some (II 0):=by
 obtain⟨o,k',p,e,_,d⟩:=h;injection e with e1 e2 e3;subst e1 e2 e3;rcases d with d | ⟨g,cs,rfl,f,k⟩
 ·omega
 ·refine⟨g,rfl,f.lt,?_⟩;have b:∀i,i<7->w.cell? ⟨g,j * 7+i,none⟩=[Value.int .i64 mk,.string ⟨#[]⟩,II 0,II 0,II 0,II 0,II 0][i]?:=fun i l=>by
   rw[f.cell,<-lK mk m l,<-k,List.getElem?_take,if_pos (by omega),Array.getElem?_toList]
  exact⟨b 0 (by omega),b 1 (by omega),b 2 (by omega),b 3 (by omega),b 4 (by omega),b 5 (by omega),b 6 (by omega)⟩
theorem FY.atR{w:World}{mk:Int}{a:Option Addr}{n c:Nat}(h:FY w 62 9 (gU mk) (.slice a n c)){j:Nat}(m:j<n):∃g,a=some ⟨g,0,none⟩/\g<w.heap.size/\w.cell? ⟨g,j * 9,none⟩=some (II mk)/\w.cell? ⟨g,j * 9+1,none⟩=some (II 0)/\w.cell? ⟨g,j * 9+2,none⟩=some (II 0)/\w.cell? ⟨g,j * 9+3,none⟩=some (.string ⟨#[]⟩)/\w.cell? ⟨g,j * 9+4,none⟩=some (II 0)/\w.cell? ⟨g,j * 9+5,none⟩=some (II 0)/\w.cell? ⟨g,j * 9+6,none⟩=some (II 0)/\w.cell? ⟨g,j * 9+7,none⟩=some (II 0)/\w.cell? ⟨g,j * 9+8,none⟩=some (II 0):=by
 obtain⟨o,k',p,e,_,d⟩:=h;injection e with e1 e2 e3;subst e1 e2 e3;rcases d with d | ⟨g,cs,rfl,f,k⟩
 ·omega
 ·refine⟨g,rfl,f.lt,?_⟩;have b:∀i,i<9->w.cell? ⟨g,j * 9+i,none⟩=[Value.int .i64 mk,II 0,II 0,.string ⟨#[]⟩,II 0,II 0,II 0,II 0,II 0][i]?:=fun i l=>by
   rw[f.cell,<-jI mk m l,<-k,List.getElem?_take,if_pos (by omega),Array.getElem?_toList]
  exact⟨b 0 (by omega),b 1 (by omega),b 2 (by omega),b 3 (by omega),b 4 (by omega),b 5 (by omega),b 6 (by omega),b 7 (by omega),b 8 (by omega)⟩
theorem KD(h:Ho)(w:World)(d:Js w h):CT 62 #[PP h.hb] w fun e w'=>e=.returned (.bool true)/\aj aA w w':=by
 obtain⟨H,lv,tv,rv,I,N,M,mk⟩:=h;have u:=d.ay;have C:=d.len;simp only at u C;have J:=d.dV;simp only at J;obtain⟨R,cL,rfl⟩:=aJ J;have h0:CC w H 0 (.slice R I.length cL):=u.cell 0;have O:Hid (∀i,i<I.length->∃g a k c,R=some ⟨g,0,none⟩/\g<w.heap.size/\w.cell? ⟨g,i,none⟩=some (.slice a k c)/\k<=1000000100/\FY w 93 3 (marks mk) (.slice a k c)):=fun i p=>by
  obtain⟨v,t⟩:∃v,I[i]?=some v:=⟨_,List.getElem?_eq_getElem p⟩;obtain⟨g,e,l,m⟩:=zy J rfl t;have hs:FY w 93 3 (marks mk) v:=d.le v (List.mem_of_getElem? t);have E:=hs;obtain⟨a,k,c,rfl,r,_⟩:=E;exact⟨g,a,k,c,e,l,m,r,hs⟩
 obtain⟨x,X⟩:∃n,I.length=n:=⟨_,rfl⟩;rw[X]at O h0 C;have L:=d.dJ;simp only at L;obtain⟨T,cT,rfl⟩:=aJ L;have h1:CC w H 1 (.slice T N.length cT):=u.cell 1;have Q:Hid (∀i,i<N.length->∃g a k c,T=some ⟨g,0,none⟩/\g<w.heap.size/\w.cell? ⟨g,i,none⟩=some (.slice a k c)/\k<=1000000100/\FY w 56 7 (gV mk) (.slice a k c)):=fun i p=>by
  obtain⟨v,t⟩:∃v,N[i]?=some v:=⟨_,List.getElem?_eq_getElem p⟩;obtain⟨g,e,l,m⟩:=zy L rfl t;have hs:FY w 56 7 (gV mk) v:=d.te v (List.mem_of_getElem? t);have E:=hs;obtain⟨a,k,c,rfl,r,_⟩:=E;exact⟨g,a,k,c,e,l,m,r,hs⟩
 obtain⟨z,Z⟩:∃n,N.length=n:=⟨_,rfl⟩;rw[Z]at Q h1 C;have K:=d.ug;simp only at K;obtain⟨S,cR,rfl⟩:=aJ K;have h2:CC w H 2 (.slice S M.length cR):=u.cell 2;have P:Hid (∀i,i<M.length->∃g a k c,S=some ⟨g,0,none⟩/\g<w.heap.size/\w.cell? ⟨g,i,none⟩=some (.slice a k c)/\k<=1000000100/\FY w 62 9 (gU mk) (.slice a k c)):=fun i p=>by
  obtain⟨v,t⟩:∃v,M[i]?=some v:=⟨_,List.getElem?_eq_getElem p⟩;obtain⟨g,e,l,m⟩:=zy K rfl t;have hs:FY w 62 9 (gU mk) v:=d.re v (List.mem_of_getElem? t);have E:=hs;obtain⟨a,k,c,rfl,r,_⟩:=E;exact⟨g,a,k,c,e,l,m,r,hs⟩
 obtain⟨y,Y⟩:∃n,M.length=n:=⟨_,rfl⟩;rw[Y]at P h2 C;have h3:CC w H 3 (II mk):=u.cell 3;obtain⟨hl1,hl2,hl3⟩:=C;clear d u J L K X Z Y;go_enter Tryz.func62,Tryz.ntmps62;go_wp2;go_loopg [3] x (fun k F wr=>∃i q:Nat,F=II (i:Int)/\i<=x/\k=x-i/\wr=w.drewN q)
 case atStart=>exact⟨0,0,rfl,Nat.zero_le _,rfl,rfl⟩
 case round =>
  obtain⟨i,qL,rfl,p,o,rfl⟩:=hrel;have f:=ai o;clear o;by_cases D:i<x
  ·obtain⟨g,a,k,c,rfl,lg,m,r,s⟩:=ae O i D;have A:=ai s;clear s;go_wp2;go_loopg [4] k (fun G jv wr=>∃j b:Nat,jv=II (j:Int)/\j<=k/\G=k-j/\wr=w.drewN b)
   case atStart=>exact⟨0,qL,rfl,Nat.zero_le _,rfl,rfl⟩
   case round =>
    obtain⟨j,b,rfl,W,V,rfl⟩:=hrel;by_cases B:j<k
    ·obtain⟨U,rfl,YE,y0,y1,y2⟩:=(ae A).atL B;go_wp2;go_quiet (fail);go_wp2;go_roundg (k-(j+1))
     case measure=>omega
     case rel=>exact⟨j+1,b+nq,by push_cast;rfl,by omega,rfl,by first | rfl | simp⟩
    ·obtain rfl:j=k:=by omega
     go_wp2;go_roundg (x-(i+1))
     case measure=>have:=ae f;omega
     case rel=>exact⟨i+1,b,by push_cast;rfl,by omega,rfl,rfl⟩
  ·obtain rfl:i=x:=by omega
   clear O f;go_wp2;go_loopg [5] z (fun k F wr=>∃i q:Nat,F=II (i:Int)/\i<=z/\k=z-i/\wr=w.drewN q)
   case atStart=>exact⟨0,qL,rfl,Nat.zero_le _,rfl,rfl⟩
   case round =>
    obtain⟨i,qT,rfl,p,o,rfl⟩:=hrel;have f:=ai o;clear o;by_cases D:i<z
    ·obtain⟨g,a,k,c,rfl,lg,m,r,s⟩:=ae Q i D;have A:=ai s;clear s;go_wp2;go_loopg [6] k (fun G jv wr=>∃j b:Nat,jv=II (j:Int)/\j<=k/\G=k-j/\wr=w.drewN b)
     case atStart=>exact⟨0,qT,rfl,Nat.zero_le _,rfl,rfl⟩
     case round =>
      obtain⟨j,b,rfl,W,V,rfl⟩:=hrel;by_cases B:j<k
      ·obtain⟨U,rfl,YE,y0,y1,y2,y3,y4,y5,y6⟩:=(ae A).atT B;go_wp2;go_quiet (fail);go_wp2;go_roundg (k-(j+1))
       case measure=>omega
       case rel=>exact⟨j+1,b+nq,by push_cast;rfl,by omega,rfl,by first | rfl | simp⟩
      ·obtain rfl:j=k:=by omega
       go_wp2;go_roundg (z-(i+1))
       case measure=>have:=ae f;omega
       case rel=>exact⟨i+1,b,by push_cast;rfl,by omega,rfl,rfl⟩
    ·obtain rfl:i=z:=by omega
     clear Q f;go_wp2;go_loopg [7] y (fun k F wr=>∃i q:Nat,F=II (i:Int)/\i<=y/\k=y-i/\wr=w.drewN q)
     case atStart=>exact⟨0,qT,rfl,Nat.zero_le _,rfl,rfl⟩
     case round =>
      obtain⟨i,qR,rfl,p,o,rfl⟩:=hrel;have f:=ai o;clear o;by_cases D:i<y
      ·obtain⟨g,a,k,c,rfl,lg,m,r,s⟩:=ae P i D;have A:=ai s;clear s;go_wp2;go_loopg [8] k (fun G jv wr=>∃j b:Nat,jv=II (j:Int)/\j<=k/\G=k-j/\wr=w.drewN b)
       case atStart=>exact⟨0,qR,rfl,Nat.zero_le _,rfl,rfl⟩
       case round =>
        obtain⟨j,b,rfl,W,V,rfl⟩:=hrel;by_cases B:j<k
        ·obtain⟨U,rfl,YE,y0,y1,y2,y3,y4,y5,y6,y7,y8⟩:=(ae A).atR B;go_wp2;go_quiet (fail);go_wp2;go_roundg (k-(j+1))
         case measure=>omega
         case rel=>exact⟨j+1,b+nq,by push_cast;rfl,by omega,rfl,by first | rfl | simp⟩
        ·obtain rfl:j=k:=by omega
         go_wp2;go_roundg (y-(i+1))
         case measure=>have:=ae f;omega
         case rel=>exact⟨i+1,b,by push_cast;rfl,by omega,rfl,rfl⟩
      ·obtain rfl:i=y:=by omega
       clear P f;go_wp2;go_ret;exact⟨rfl,(aj.refl aA w).drewN _⟩
end Go.Proofs.YtigaphnafnpfnaaGreatDoor
