import Derived.Test.YtigaphnafnpfnaaGreatDoorQVB4
set_option linter.unusedVariables false
set_option linter.unusedSimpArgs false
set_option maxHeartbeats 8000000
set_option maxRecDepth 100000
namespace Go.Proofs.YtigaphnafnpfnaaGreatDoor
open Go.RowKit
attribute [local go_sem ↓] Go.wp_at_zero Go.wp_at_succ
def fF(o:iR)(x:Ord):Bool:=!(x.aH == 0) && decide (x.sym=o.sym) && !(x.side == o.side) && iC o.kind o.side o.af x.af
theorem DI(base y i:Nat)(S:RS)(m:SM)(o:iR)(w:World)(h:dF w base y S m)(F:S.l.length<=1000)(A:i<S.l.length) :
 CT 224 #[PP y,o.val,II (i:Int)] w fun e w'=>e=.returned (.bool (fF o (ak S.l i)))/\aj aA w w':=by
 obtain⟨n,B⟩:=dQ S.l.length;obtain⟨a,c,v⟩:=aJ h.dV;obtain⟨g,rfl,_,b,_⟩:=h.wW v A;rw[B]at v F A;have O:w.cell? ⟨y,1,none⟩=some (.slice (some ⟨g,0,none⟩) n c):=by rw[<-v];exact h.ay.cell 1
 have N:=h.ay.lt;obtain⟨x,C⟩:=dQ (ak S.l i);rw[C]at b ⊢;have c0:CC w g (i * 13) (II x.id):=b 0 _ rfl;have c1:CC w g (i * 13+1) (II x.aG):=b 1 _ rfl;have I:CC w g (i * 13+2) (.string x.sym):=b 2 _ rfl;have J:CC w g (i * 13+3) (II x.side):=b 3 _ rfl;have K:CC w g (i * 13+4) (II x.kind):=b 4 _ rfl;have c5:CC w g (i * 13+5) (II x.af):=b 5 _ rfl;have L:CC w g (i * 13+6) (II x.az):=b 6 _ rfl;have c7:CC w g (i * 13+7) (II x.entered):=b 7 _ rfl;have c8:CC w g (i * 13+8) (II x.aH):=b 8 _ rfl;have c9:CC w g (i * 13+9) (II x.filled):=b 9 _ rfl;have G:CC w g (i * 13+10) (II x.aX):=b 10 _ rfl;have H:CC w g (i * 13+11) (II x.exp):=b 11 _ rfl;have c12:CC w g (i * 13+12) (II x.place):=b 12 _ rfl;have lg:g<w.heap.size:=World.block_lt_of_cell? w _ c0;clear b v B C h;obtain⟨id,r,sym,side,f,af,az⟩:=o;simp only[iR.val];by_cases j:x.aH=0
 ·have s:(x.aH == 0)=true:=by simp[j]
  have d:Hid (fF ⟨id,r,sym,side,f,af,az⟩ x=false):=by show _=_;simp[fF,s]
  clear j;go_enter Tryz.func224,Tryz.ntmps224;go_wp2;go_ret;exact⟨by rw[d.out];rfl,by repeat (first | exact aj.refl _ _ | refine aj.drewN ?_ _ | refine aj.drew ?_ | refine aj.alloc ?_ _ | refine aj.setCell ?_ (.inr (by simp)) _)⟩
 ·have s:(x.aH == 0)=false:=by simp[j]
  by_cases t:x.sym=sym
  ·by_cases p:x.side=side
   ·have u:(x.side == side)=true:=by simp[p]
    have d:Hid (fF ⟨id,r,sym,side,f,af,az⟩ x=false):=by show _=_;simp[fF,u]
    clear j p;go_enter Tryz.func224,Tryz.ntmps224;go_wp2;go_ret;exact⟨by rw[d.out];rfl,by repeat (first | exact aj.refl _ _ | refine aj.drewN ?_ _ | refine aj.drew ?_ | refine aj.alloc ?_ _ | refine aj.setCell ?_ (.inr (by simp)) _)⟩
   ·have u:(x.side == side)=false:=by simp[p]
    by_cases k:f=5
    ·have D:(f == 5)=true:=by simp[k]
     have d:Hid (fF ⟨id,r,sym,side,f,af,az⟩ x=true):=by show _=_;simp[fF,s,t,u,iC,k]
     clear j p k;go_enter Tryz.func224,Tryz.ntmps224;go_wp2;go_ret;exact⟨by rw[d.out];rfl,by repeat (first | exact aj.refl _ _ | refine aj.drewN ?_ _ | refine aj.drew ?_ | refine aj.alloc ?_ _ | refine aj.setCell ?_ (.inr (by simp)) _)⟩
    ·have D:(f == 5)=false:=by simp[k]
     by_cases q:side=0
     ·have E:(side == 0)=true:=by simp[q]
      have z:¬x.side=0:=by rw[<-q];exact p
      have d:Hid (fF ⟨id,r,sym,side,f,af,az⟩ x=decide (x.af<=af)):=by show _=_;simp[fF,s,t,iC,k,q,z]
      clear z;clear j p k q;go_enter Tryz.func224,Tryz.ntmps224;go_wp2;go_ret;exact⟨by rw[d.out];rfl,by repeat (first | exact aj.refl _ _ | refine aj.drewN ?_ _ | refine aj.drew ?_ | refine aj.alloc ?_ _ | refine aj.setCell ?_ (.inr (by simp)) _)⟩
     ·have E:(side == 0)=false:=by simp[q]
      have d:Hid (fF ⟨id,r,sym,side,f,af,az⟩ x=decide (af<=x.af)):=by show _=_;simp[fF,s,t,u,iC,k,q]
      clear j p k q;go_enter Tryz.func224,Tryz.ntmps224;go_wp2;go_ret;exact⟨by rw[d.out];rfl,by repeat (first | exact aj.refl _ _ | refine aj.drewN ?_ _ | refine aj.drew ?_ | refine aj.alloc ?_ _ | refine aj.setCell ?_ (.inr (by simp)) _)⟩
  ·have M:(x.sym.toList == sym.toList)=false:=by rw[SN];simpa using t
   have d:Hid (fF ⟨id,r,sym,side,f,af,az⟩ x=false):=by show _=_;simp[fF,t]
   clear j;go_enter Tryz.func224,Tryz.ntmps224;go_wp2;go_ret;exact⟨by rw[d.out];rfl,by repeat (first | exact aj.refl _ _ | refine aj.drewN ?_ _ | refine aj.drew ?_ | refine aj.alloc ?_ _ | refine aj.setCell ?_ (.inr (by simp)) _)⟩
open Go.RowKit Go.Sort
def Jv(om:Nat->Ord)(n:Nat)(h:Nat->Nat)(ys:List Nat):Prop:=ys.Perm (upto h n)/\ys.Pairwise (fun a b=>fE om b a=false)
def zD(om:Nat->Ord)(n:Nat)(h:Nat->Nat)(w:World)(v:Value)(w':World):Prop :=
 ∃ys:List Nat,Jv om n h ys/\uK w.heap.size w' v (je (iG om ys))/\Below w.heap.size w w'
theorem jk.vU{w:World}{a:Option Addr}{n cap:Nat}{h:Nat->Nat}{om:Nat->Ord}(hs:jk w a n cap h om):Ef w.heap.size w a n cap h/\(∀j,j<n->∃f,bV w (h j) (om (h j)) f)/\n<=1000:=by
 rcases hs with⟨rfl,rfl,rfl⟩ | ⟨d,rfl,hs⟩
 ·exact⟨.inl ⟨rfl,rfl,rfl⟩,fun j b=>absurd b (Nat.not_lt_zero j),by omega⟩
 ·obtain⟨cs,c,_,e⟩:=hs.sD;exact⟨.inr ⟨d,rfl,c.lt,fun j b=>(c.cell j).trans (e j b)⟩,fun j b=>⟨_,hs.ord j b⟩,hs.small⟩
def WT(n₀:Nat)(w:World)(a:Option Addr)(ys:List Nat):Prop :=
 (a=none/\ys=[])\/∃b,a=some ⟨b,0,none⟩/\n₀<=b/\∀j,j<ys.length->w.cell? ⟨b,j,none⟩=some (uP (ys.getD j 0))
theorem Ju.form{n₀:Nat}{w:World}{v:Value}{d:List Nat}(h:Ju n₀ w v d):∃a c,v=.slice a d.length c/\WT n₀ w a d:=by
 rcases h with⟨rfl,rfl⟩ | ⟨b,cap,rfl,e,g,f⟩
 ·exact⟨none,0,rfl,.inl ⟨rfl,rfl⟩⟩
 ·exact⟨_,cap,rfl,.inr ⟨b,rfl,e,f⟩⟩
theorem uK.base{n₀ n₁:Nat}{a:World}{v:Value}{b:List iT}(h:uK n₀ a v b)(f:n₁<=n₀):uK n₁ a v b:=by
 rcases h with h | ⟨g,cap,cs,e,d,c⟩
 ·exact .inl h
 ·exact .inr ⟨g,cap,cs,e,by omega,c⟩
theorem Ia(om:Nat->Ord)(a:List Nat)(i:Nat)(b:i<a.length):je (iG om (a.take (i+1)))=jK (je (iG om (a.take i))) (om (a.getD i 0)):=by
 unfold je iG;rw[List.take_succ_eq_append_getElem b,List.map_append,List.foldl_append];simp[List.getD_eq_getElem?_getD,b]
theorem BR(a:List iT)(o:Ord):(jK a o).length<=a.length+1:=by
 unfold jK;split
 ·split <;> simp <;> omega
 ·simp
theorem uZ(os:List Ord)(a:List iT):(os.foldl jK a).length<=a.length+os.length:=by
 induction os generalizing a with
 | nil=>simp
 | cons o os ih =>
   have b:=ih (jK a o);have c:=BR a o;simp only[List.foldl_cons,List.length_cons];omega
theorem lG{a:World}{g k:Nat}{cs:Array Value}{ini:List iT}{l:iT}(d:au a g cs 93)(f:ini.length=k)(b:cs.toList.take ((k+1) * 3)=jF (ini++[l]))(c:Nat)(e:c<3) :
 a.cell? ⟨g,k * 3+c,none⟩=(l.cells)[c]?:=by
 rw[d.cell];have h:=KC (ini++[l]) k c (by simp;omega) e;rw[<-b,List.getElem?_take,if_pos (by omega),Array.getElem?_toList]at h;rw[show k * 3+c=3 * k+c from by omega,h];simp[<-f]
theorem tX(ini:List iT)(l:iT):jF (ini++[l])=jF ini++l.cells:=by
 simp[jF,List.flatMap_append]
theorem U0{cs:Array Value}{k:Nat}{ini:List iT}{l:iT}(b:ini.length=k)(a:cs.toList.take ((k+1) * 3)=jF (ini++[l]))(q n:Int) :
 ((cs.setIfInBounds (k * 3+1) (II q)).setIfInBounds (k * 3+2) (II n)).toList.take ((k+1) * 3)=jF (ini++[⟨l.af,q,n⟩]):=by
 have c:(jF ini).length=k * 3:=by rw[tH,b];omega
 rw[Array.toList_setIfInBounds,Array.toList_setIfInBounds,List.take_set,List.take_set,a,tX,tX];rw[List.set_append_right _ _ (by omega),List.set_append_right _ _ (by omega),c,show k * 3+1-k * 3=1 from by omega,show k * 3+2-k * 3=2 from by omega]
 rfl
theorem qc(ini:List iT)(l:iT)(o:Ord)(h:l.af=o.af):jK (ini++[l]) o=ini++[⟨l.af,wrap64 (l.az+o.aH),wrap64 (l.num+1)⟩]:=by
 unfold jK;rw[List.getLast?_concat];simp[h]
theorem oz(ini:List iT)(l:iT)(o:Ord)(h:¬l.af=o.af):jK (ini++[l]) o=(ini++[l])++[⟨o.af,wrap64 o.aH,1⟩]:=by
 unfold jK;rw[List.getLast?_concat];simp[h]
theorem uK.write{n₀:Nat}{b:World}{g cap k:Nat}{cs:Array Value}{ini:List iT}{l:iT}(c:ini.length=k)(d:n₀<=g)(e:au b g cs 93)(f:k+1<=cap)(i:cap<=maxLen)(j:cs.size=cap * 3)(m:cs.toList.take ((k+1) * 3)=jF (ini++[l]))(q n:Int) :
 uK n₀ ((b.setCell ⟨g,k * 3+1,none⟩ (II q)).setCell ⟨g,k * 3+2,none⟩ (II n)) (.slice (some ⟨g,0,none⟩) (k+1) cap) (ini++[⟨l.af,q,n⟩]):=by
 have a:(ini++[(⟨l.af,q,n⟩:iT)]).length=k+1:=by simp[c]
 refine .inr ⟨g,cap,_,by rw[a],d,(e.set _ _).set _ _,by rw[a];exact f,i,by simpa using j,?_,by rw[a];omega⟩;rw[a];exact U0 c m q n
theorem uK.drew{n₀:Nat}{a:World}{v:Value}{b:List iT}(h:uK n₀ a v b):uK n₀ a.drew v b:=by
 rcases h with h | ⟨g,cap,cs,e,c,d,f⟩
 ·exact .inl h
 ·exact .inr ⟨g,cap,cs,e,c,d.drew,f⟩
theorem Fb{a:World}{base e size n:Nat}{v:Value}{b:List Value}(h:a.ownsRow base e size v n b)(h0:0<n):∃g cap,v=.slice (some ⟨g,0,none⟩) n cap:=by
 rcases h.2 with⟨_,h0⟩ | ⟨g,cap,_,rfl,_⟩
 ·omega
 ·exact⟨g,cap,rfl⟩
theorem VY(w:World)(p:Int):∀j c,([Value.int .i64 p,II 0,II 0]:List Value)[j]?=some c->(w.alloc (.cells #[II p,II 0,II 0] 93)).cell? (Addr.add ⟨w.heap.size,0,none⟩ j)=some c:=by
 intro j c a;have b:=au.new w #[II p,II 0,II 0] 93
 match j,a with
 | 0,a=>rw[<-a];exact b.cell 0
 | 1,a=>rw[<-a];exact b.cell 1
 | 2,a=>rw[<-a];exact b.cell 2
 | j+3,a=>simp at a
theorem J6(bb s:Nat)(B:Bk)(om:Nat->Ord)(w:World)(hb:bM w bb B om)(hs:s<2)(hside:∀j,j<B.n s->(om (B.h s j)).side=(s:Int)) :
 CT 48 #[PP bb,II s] w fun e w'=>∃v,e=.returned v/\zD om (B.n s) (B.h s) w v w':=by
 obtain⟨hP,hO,hn⟩:=(hb.side s hs).vU;have N:=hb.ay.lt;have hcs:=hb.GI hs;clear hb;have HS:=ai (show ∀w1,w1=w.alloc (.cells #[.slice (B.sl s) (B.n s) (B.cap s)] 155)->CT 81 #[.func (.func 129) #[] #[PP w.heap.size],.func (.func 83) #[] #[]] w1 fun e w'=>∃v,e=.returned v/\vF (B.n s) (B.h s) om w1 v w' from by
  rintro w1 rfl;have hB:Below w.heap.size w (w.alloc (.cells #[.slice (B.sl s) (B.n s) (B.cap s)] 155)):=(Below.refl _ w).alloc (Nat.le_refl _) _;refine Be w.heap.size (B.sl s) (B.n s) (B.cap s) (B.h s) om s (by omega) _ (by simp) ((au.new _ _ _).cell 0) ?_ ?_
  ·rcases hP with h | ⟨b,G,H,A⟩
   ·exact .inl h
   ·exact .inr ⟨b,G,by simp;omega,fun j R=>(hB.cell (p:=⟨b,j,none⟩) H).trans (A j R)⟩
  ·intro j R;obtain⟨y,E⟩:=hO j R;exact⟨⟨y,au.alloc E _⟩,hside j R⟩)
 clear hP;generalize B.sl s=sl at *;generalize B.cap s=cap at *;generalize hnn:B.n s=n at *;generalize hhh:B.h s=h at *;clear hnn hhh;have hs0:(0:Int)<=s:=by omega
 have hs2:(s:Int)<2:=by omega
 go_enter Tryz.func48,Tryz.ntmps48;go_wp2_with (first | (go_at_call 82;refine (LV _ _ _ _).mono ?_;rintro e w1 ⟨rfl,rfl⟩) | (go_at_call 81;refine (ae HS _ rfl).mono ?_;clear HS;rintro e w2 ⟨v,rfl,a,hp1,hp2,hp3,hp4⟩;obtain⟨va,vc,rfl,XA⟩:=hp3.form));have HB:Hid (Below w.heap.size w w2):=((Below.refl _ w).alloc (Nat.le_refl _) _).trans (hp4.mono (by simp));have HY:Hid (Jv om n h a):=⟨hp1,hp2⟩;have HO:Hid (∀x,x∈a->∃y,bV w2 x (om x) y):=by
  intro x hx;have:=hp1.mem_iff.1 hx;simp only[upto,List.mem_map,List.mem_range]at this;obtain⟨j,R,rfl⟩:=this;obtain⟨y,E⟩:=hO j R;exact⟨y,(HB.out.block (h j) E.lt).trans E⟩
 have hyn:a.length<=1000:=by rw[hp1.length_eq,nP];exact hn
 have HP:=ai XA;clear hp1 hp2 hp3 hp4 XA hO hside hcs;go_loopg [6,8,9,20] a.length (fun k lv _ _ iv wr=>∃i:Nat,iv=II (i:Int)/\i<=a.length/\k=a.length-i/\uK (w2.heap.size) wr lv (je (iG om (a.take i)))/\Below w2.heap.size w2 wr)
 case atStart=>exact⟨0,rfl,Nat.zero_le _,rfl,.inl ⟨rfl,by simp[iG,je]⟩,Below.refl _ _⟩
 case round =>
  obtain⟨i,rfl,hi,hgk,O,c⟩:=hrel;by_cases N:i<a.length
  ·have hx:a.getD i 0∈a:=by rw[List.getD_eq_getElem?_getD,List.getElem?_eq_getElem N];exact List.getElem_mem N
   obtain⟨b,rfl,hb1,hb3⟩:∃b,va=some ⟨b,0,none⟩/\b<w2.heap.size/\w2.cell? ⟨b,i,none⟩=some (uP (a.getD i 0)):=by
    rcases ae HP with⟨_,rfl⟩ | ⟨b,e,_,hc⟩
    ·exact absurd N (by simp)
    ·exact⟨b,e,World.block_lt_of_cell? w2 ⟨b,i,none⟩ (hc i N),hc i N⟩
   have XB:CC wr b i (PP (a.getD i 0)):=(c.cell (p:=⟨b,i,none⟩) hb1).trans hb3;obtain⟨y,ho2⟩:=ae HO _ hx;have hxl:a.getD i 0<w2.heap.size:=ho2.lt;have E:bV wr (a.getD i 0) (om (a.getD i 0)) y:=(c.block _ hxl).trans ho2;have HT:=ai (Ia om a i N);generalize a.getD i 0=x at *;generalize hls:je (iG om (a.take i))=ls at *;have U:=E.cell 5;have o8:=E.cell 8;simp only[Ord.cells]at U o8;simp at U o8;clear hb3 ho2 hx;have HI:=ai E;clear E;have hll:ls.length<=1000:=by
    have:=uZ (iG om (a.take i)) [];rw[show (iG om (a.take i)).foldl jK []=ls from hls]at this;simp[iG]at this;omega
   clear hls;rcases List.eq_nil_or_concat ls with rfl | ⟨ini,l,rfl⟩
   ·obtain rfl:u6=.slice none 0 0:=by
     rcases O with⟨h,_⟩ | ⟨g,r,cs,e,G,H,A,P,Q,L,h7⟩
     ·exact h
     ·simp at h7
    clear O hll;go_wp2;go_quiet (fail);have hmx:0+1<=maxLen:=by unfold maxLen;omega
    have W:w2.heap.size<=wr.heap.size:=c.size;obtain⟨f,d⟩:=gy (wr.drewN nq);rw[<-d];have o53:f.cell? ⟨x,5,none⟩=some (II (om x).af):=by rw[d];exact U
    have Xq:w2.heap.size<=f.heap.size:=by rw[d];exact W
    have V:Hid (bV f x (om x) y):=by rw[d];exact (ae HI).drewN _
    have HB3:Hid (Below w2.heap.size w2 f):=by rw[d];exact⟨c.os,c.tape,c.output,c.size,c.block⟩
    clear d W U o8 XB;obtain⟨i0,Z,hz0,hz1,hz2⟩:=info_parts EJ;go_wp2_with (at_builtin;refine wpList_append_own _ rfl _ _ 63 rfl w2.heap.size 93 i0 (.agg #[II 0,II 0,II 0]) 3 24 Tryz.underlying63 Z hz0 hz1 hz2 rfl (by decide) _ 0 [] rfl (World.ownsRow_nil _ _ _ _) ⟨f.heap.size,0,none⟩ 1 1 [II (om x).af,II 0,II 0] rfl rfl (VY _ _) (by simp[Value.oneCell']) hmx (by omega) (by simp;omega) ?_;intro v' F K C hnil;clear hnil;obtain⟨t,cap',rfl⟩:=Fb K (by omega));change (f.alloc _).grownBy F none at C;have QJ:bV F x (om x) y:=(C.block x (by simp;omega) (by simp)).trans (au.alloc (ae V) _);have HB4:Hid (Below w2.heap.size w2 F):=((ae HB3).alloc Xq _).grown C (by simp;omega) (fun k e=>by cases e);have o84:=QJ.cell 8;simp only[Ord.cells]at o84;simp at o84;obtain⟨o,M,q,hh3,hh4,Y,D⟩:∃o,w2.heap.size<=t/\au F t o 93/\0+1<=cap'/\cap'<=maxLen/\o.size=cap' * 3/\o.toList.take ((0+1) * 3)=jF ([]++[⟨(om x).af,0,0⟩]):=by
     rcases K.2 with⟨h,_⟩ | ⟨g2,cap2,o,e2,G,H,A,P,Q,L⟩
     ·cases h
     ·cases e2;exact⟨o,G,H,A,P,Q,L⟩
    have c1:=lG (k:=0) (ini:=[]) (l:=⟨(om x).af,0,0⟩) q rfl D 1 (by omega);have z:=lG (k:=0) (ini:=[]) (l:=⟨(om x).af,0,0⟩) q rfl D 2 (by omega);simp only[iT.cells]at c1 z;simp at c1 z;have f1:=q.frozen 1;have f2:=q.frozen 2;have abH:x≠t:=by omega
    obtain⟨G2',G6',HH5⟩:=fK q D Y;clear K C QJ q D V Z hz0 hz1 hz2 o53 Y hmx;go_region;go_wp2;go_roundg (a.length-(i+1))
    case measure=>omega
    case rel =>
     refine⟨i+1,by push_cast;rfl,by omega,rfl,?_,?_⟩
     ·rw[ae HT];exact (uK.write (k:=0) (ini:=[]) rfl M (ae G2') hh3 hh4 (ae HH5) (ae G6') (wrap64 (om x).aH) 1).drew
     ·have u:=((ae HB4).setCell (p:=⟨t,1,none⟩) M (II (wrap64 (om x).aH))).setCell (p:=⟨t,2,none⟩) M (II 1);exact⟨u.os,u.tape,u.output,u.size,u.block⟩
   ·obtain⟨g,r,cs,rfl,X,I,hg3,hg4,hg5,J⟩:∃g r cs,u6=.slice (some ⟨g,0,none⟩) (ini.length+1) r/\w2.heap.size<=g/\au wr g cs 93/\ini.length+1<=r/\r<=maxLen/\cs.size=r * 3/\cs.toList.take ((ini.length+1) * 3)=jF (ini++[l]):=by
     rw[List.concat_eq_append]at O;rcases O with⟨_,h⟩ | ⟨g,r,cs,e,G,H,A,P,Q,L,_⟩
     ·simp at h
     ·simp only[List.length_append,List.length_cons,List.length_nil]at e A L;exact⟨g,r,cs,e,G,H,A,P,Q,L⟩
    rw[List.concat_eq_append]at HT hll;simp only[List.length_append,List.length_cons,List.length_nil]at hll;obtain⟨k,S⟩:=dQ ini.length;obtain⟨m,hm⟩:=dQ (ini.length+1);have hkm:k<m:=by omega
    have hm1:m<=1000:=by omega
    rw[hm]at hg3 J ⊢;rw[<-hm,S]at J;have c0:=lG I S J 0 (by omega);have c1:=lG I S J 1 (by omega);have z:=lG I S J 2 (by omega);simp only[iT.cells,Nat.add_zero]at c0 c1 z;simp at c0 c1 z;have hw:(m:Int)-1=k:=by omega
    have hk0:decide ((k:Int)<0)=false:=by simp
    have f1:=I.frozen (k * 3+1);have f2:=I.frozen (k * 3+2);have hgx:x≠g:=by omega
    have jJ:wr.ownsRow w2.heap.size 93 3 (.slice (some ⟨g,0,none⟩) m r) m (jF (ini++[l])):=⟨by rw[tH];simp;omega,.inr ⟨g,r,cs,rfl,X,I,hg3,hg4,hg5,by rw[<-J];congr 1;omega⟩⟩;obtain⟨G2,G5,G6⟩:=fK I hg5 J;clear I hg5 J O;by_cases T:l.af=(om x).af
    ·clear jJ;go_wp2;have hne:(l.af != (om x).af)=false:=by simp[T]
     have Zb:=ai T;clear T;go_quiet (fail);go_wp2;go_region;go_wp2;go_roundg (a.length-(i+1))
     case measure=>omega
     case rel =>
      have hkk:k+1=m:=by omega
      refine⟨i+1,by push_cast;rfl,by omega,rfl,?_,?_⟩
      ·rw[ae HT,qc ini l _ (ae Zb),<-hkk];exact uK.write S X ((ae G2).drewN _) (by omega) hg4 (ae G5) (ae G6) _ _
      ·have h9:Below w2.heap.size w2 (wr.drewN (nq+1)):=⟨c.os,c.tape,c.output,c.size,c.block⟩;exact (h9.setCell (p:=⟨g,k * 3+1,none⟩) X _).setCell (p:=⟨g,k * 3+2,none⟩) X _
    ·have hne:(l.af != (om x).af)=true:=by simp[T]
     obtain⟨Zb,HR⟩:=aZ T jJ;clear T jJ;go_wp2;go_quiet (fail);have lH:(m+1) * 24<=140737488355328:=by omega
     have hmx:m+1<=maxLen:=by unfold maxLen;omega
     have W:w2.heap.size<=wr.heap.size:=c.size;obtain⟨f,d⟩:=gy (wr.drewN nq);rw[<-d];have o53:f.cell? ⟨x,5,none⟩=some (II (om x).af):=by rw[d];exact U
     have o83:f.cell? ⟨x,8,none⟩=some (II (om x).aH):=by rw[d];exact o8
     have HR3:Hid (f.ownsRow w2.heap.size 93 3 (.slice (some ⟨g,0,none⟩) m r) m (jF (ini++[l]))):=by rw[d];exact ae HR
     have Xq:w2.heap.size<=f.heap.size:=by rw[d];exact W
     have V:Hid (bV f x (om x) y):=by rw[d];exact (ae HI).drewN _
     have HB3:Hid (Below w2.heap.size w2 f):=by rw[d];exact⟨c.os,c.tape,c.output,c.size,c.block⟩
     clear d W U o8 c0 c1 z f1 f2 XB;have hk1:(k:Int)+1=m:=by omega
     obtain⟨i0,Z,hz0,hz1,hz2⟩:=info_parts EJ;go_wp2_with (at_builtin;refine wpList_append_own _ rfl _ _ 63 rfl w2.heap.size 93 i0 (.agg #[II 0,II 0,II 0]) 3 24 Tryz.underlying63 Z hz0 hz1 hz2 rfl (by decide) _ m _ rfl ((ae HR3).alloc _) ⟨f.heap.size,0,none⟩ 1 1 [II (om x).af,II 0,II 0] rfl rfl (VY _ _) (by simp[Value.oneCell']) hmx lH (by simp;omega) ?_;intro v' F K C hnil;clear hnil;obtain⟨m',hm'⟩:∃m',m+1=m':=⟨_,rfl⟩;rw[hm']at K;obtain⟨t,cap',rfl⟩:=Fb K (by omega);have hmm:m<m':=by omega);change (f.alloc _).grownBy F (some g) at C;have QJ:bV F x (om x) y:=(C.block x (by simp;omega) (by simp;omega)).trans (au.alloc (ae V) _);have HB4:Hid (Below w2.heap.size w2 F):=((ae HB3).alloc Xq _).grown C (by simp;omega) (fun k e=>by cases e;exact X);have o84:=QJ.cell 8;simp only[Ord.cells]at o84;simp at o84;obtain⟨o,M,q,hh3,hh4,Y,D⟩:∃o,w2.heap.size<=t/\au F t o 93/\m'<=cap'/\cap'<=maxLen/\o.size=cap' * 3/\o.toList.take ((m+1) * 3)=jF ((ini++[l])++[⟨(om x).af,0,0⟩]):=by
      rcases K.2 with⟨h,_⟩ | ⟨g2,cap2,o,e2,G,H,A,P,Q,L⟩
      ·cases h
      ·cases e2;exact⟨o,G,H,A,P,Q,by rw[tX,hm'];exact L⟩
     have hil:(ini++[l]).length=m:=by simp;omega
     have c1:=lG q hil D 1 (by omega);have z:=lG q hil D 2 (by omega);simp only[iT.cells]at c1 z;simp at c1 z;have f1:=q.frozen (m * 3+1);have f2:=q.frozen (m * 3+2);have abH:x≠t:=by omega
     obtain⟨G2',G6',HM,HH5,HM1⟩:=mi q D hm' Y hm;clear K C QJ q D V HR3 HR Z hz0 hz1 hz2 o53 o83 hne hk0 hk1 hw hm' hm Y lH hmx S hil;go_region;go_wp2;go_roundg (a.length-(i+1))
     case measure=>omega
     case rel =>
      refine⟨i+1,by push_cast;rfl,by omega,rfl,?_,?_⟩
      ·rw[ae HT,oz ini l _ (ae Zb),<-ae HM];exact (uK.write (by have:=ae HM1;simp;omega) M (ae G2') (by have:=ae HM;omega) hh4 (ae HH5) (ae G6') _ _).drew
      ·have u:=((ae HB4).setCell (p:=⟨t,m * 3+1,none⟩) M (II (wrap64 (om x).aH))).setCell (p:=⟨t,m * 3+2,none⟩) M (II 1);exact⟨u.os,u.tape,u.output,u.size,u.block⟩
  ·obtain rfl:i=a.length:=by omega
   go_wp2;go_ret;exact⟨_,rfl,a,ae HY,(by rw[List.take_length]at O;exact O.base (ae HB).size),(ae HB).trans (c.mono (ae HB).size)⟩
end Go.Proofs.YtigaphnafnpfnaaGreatDoor
