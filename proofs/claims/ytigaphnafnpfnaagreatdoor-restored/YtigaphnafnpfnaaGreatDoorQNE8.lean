import Derived.Test.YtigaphnafnpfnaaGreatDoorQVE4
set_option linter.unusedVariables false
set_option linter.unusedSimpArgs false
set_option maxHeartbeats 8000000
set_option maxRecDepth 100000
namespace Go.Proofs.YtigaphnafnpfnaaGreatDoor
open Go.RowKit Go.Sort
attribute [local go_sem ↓] Go.wp_at_zero Go.wp_at_succ
def LP(om:Nat->Ord)(n:Nat)(h:Nat->Nat)(ys:List Nat):Prop:=ys.Perm (upto h n)/\ys.Pairwise (fun a b=>fP om b a=false)
def AA(om:Nat->Ord)(n:Nat)(h:Nat->Nat)(w:World)(v:Value)(w':World):Prop :=
 ∃ys:List Nat,LP om n h ys/\oJ w.heap.size w' v (jg (iG om ys))/\Below w.heap.size w w'
theorem jk.wM{w:World}{a:Option Addr}{n cap:Nat}{h:Nat->Nat}{om:Nat->Ord}(hs:jk w a n cap h om):FH w.heap.size w a n cap h/\(∀j,j<n->∃ix,df w (h j) (om (h j)) ix)/\n<=1000:=by
 rcases hs with⟨rfl,rfl,rfl⟩ | ⟨ab,rfl,hs⟩
 ·exact⟨.inl ⟨rfl,rfl,rfl⟩,fun j hj=>absurd hj (Nat.not_lt_zero j),by omega⟩
 ·obtain⟨cs,hb,_,hc⟩:=hs.sJ;exact⟨.inr ⟨ab,rfl,hb.lt,fun j hj=>(hb.cell j).trans (hc j hj)⟩,fun j hj=>⟨_,hs.ord j hj⟩,hs.small⟩
def Zr(n₀:Nat)(w:World)(a:Option Addr)(ys:List Nat):Prop :=
 (a=none/\ys=[])\/∃b,a=some ⟨b,0,none⟩/\n₀<=b/\∀j,j<ys.length->w.cell? ⟨b,j,none⟩=some (vC (ys.getD j 0))
theorem LM.form{n₀:Nat}{w:World}{v:Value}{ys:List Nat}(h:LM n₀ w v ys):∃a c,v=.slice a ys.length c/\Zr n₀ w a ys:=by
 rcases h with⟨rfl,rfl⟩ | ⟨b,cap,rfl,h1,h2,h3⟩
 ·exact⟨none,0,rfl,.inl ⟨rfl,rfl⟩⟩
 ·exact⟨_,cap,rfl,.inr ⟨b,rfl,h1,h3⟩⟩
theorem oJ.base{n₀ n₁:Nat}{W:World}{v:Value}{ls:List kQ}(h:oJ n₀ W v ls)(hn:n₁<=n₀):oJ n₁ W v ls:=by
 rcases h with h | ⟨g,cap,cs,e,h1,h2⟩
 ·exact .inl h
 ·exact .inr ⟨g,cap,cs,e,by omega,h2⟩
theorem Ju(om:Nat->Ord)(ys:List Nat)(i:Nat)(hi:i<ys.length):jg (iG om (ys.take (i+1)))=jH (jg (iG om (ys.take i))) (om (ys.getD i 0)):=by
 unfold jg iG;rw[List.take_succ_eq_append_getElem hi,List.map_append,List.foldl_append];simp[List.getD_eq_getElem?_getD,hi]
theorem Ec(ls:List kQ)(o:Ord):(jH ls o).length<=ls.length+1:=by
 unfold jH;split
 ·split <;> simp <;> omega
 ·simp
theorem vS(os:List Ord)(ls:List kQ):(os.foldl jH ls).length<=ls.length+os.length:=by
 induction os generalizing ls with
 | nil=>simp
 | cons o os ih =>
   have h1:=ih (jH ls o);have h2:=Ec ls o;simp only[List.foldl_cons,List.length_cons];omega
theorem lF{W:World}{g k:Nat}{cs:Array Value}{ini:List kQ}{l:kQ}(hb:aA W g cs 93)(hk:ini.length=k)(h6:cs.toList.take ((k+1) * 3)=lM (ini++[l]))(c:Nat)(hc:c<3) :
 W.cell? ⟨g,k * 3+c,none⟩=(l.cells)[c]?:=by
 rw[hb.cell];have h:=aau (ini++[l]) k c (by simp;omega) hc;rw[<-h6,List.getElem?_take,if_pos (by omega),Array.getElem?_toList]at h;rw[show k * 3+c=3 * k+c from by omega,h];simp[<-hk]
theorem BO(ini:List kQ)(l:kQ):lM (ini++[l])=lM ini++l.cells:=by
 simp[lM,List.flatMap_append]
theorem XG{cs:Array Value}{k:Nat}{ini:List kQ}{l:kQ}(hk:ini.length=k)(h6:cs.toList.take ((k+1) * 3)=lM (ini++[l]))(q n:Int) :
 ((cs.setIfInBounds (k * 3+1) (II q)).setIfInBounds (k * 3+2) (II n)).toList.take ((k+1) * 3)=lM (ini++[⟨l.af,q,n⟩]):=by
 have hl:(lM ini).length=k * 3:=by rw[ug,hk];omega
 rw[Array.toList_setIfInBounds,Array.toList_setIfInBounds,List.take_set,List.take_set,h6,BO,BO];rw[List.set_append_right _ _ (by omega),List.set_append_right _ _ (by omega),hl,show k * 3+1-k * 3=1 from by omega,show k * 3+2-k * 3=2 from by omega]
 rfl
theorem pO(ini:List kQ)(l:kQ)(o:Ord)(h:l.af=o.af):jH (ini++[l]) o=ini++[⟨l.af,wrap64 (l.aK+o.aO),wrap64 (l.num+1)⟩]:=by
 unfold jH;rw[List.getLast?_concat];simp[h]
theorem og(ini:List kQ)(l:kQ)(o:Ord)(h:¬l.af=o.af):jH (ini++[l]) o=(ini++[l])++[⟨o.af,wrap64 o.aO,1⟩]:=by
 unfold jH;rw[List.getLast?_concat];simp[h]
theorem oJ.write{n₀:Nat}{W:World}{g cap k:Nat}{cs:Array Value}{ini:List kQ}{l:kQ}(hk:ini.length=k)(h1:n₀<=g)(h2:aA W g cs 93)(h3:k+1<=cap)(h4:cap<=maxLen)(h5:cs.size=cap * 3)(h6:cs.toList.take ((k+1) * 3)=lM (ini++[l]))(q n:Int) :
 oJ n₀ ((W.setCell ⟨g,k * 3+1,none⟩ (II q)).setCell ⟨g,k * 3+2,none⟩ (II n)) (.slice (some ⟨g,0,none⟩) (k+1) cap) (ini++[⟨l.af,q,n⟩]):=by
 have hl:(ini++[(⟨l.af,q,n⟩:kQ)]).length=k+1:=by simp[hk]
 refine .inr ⟨g,cap,_,by rw[hl],h1,(h2.set _ _).set _ _,by rw[hl];exact h3,h4,by simpa using h5,?_,by rw[hl];omega⟩;rw[hl];exact XG hk h6 q n
theorem oJ.drew{n₀:Nat}{W:World}{v:Value}{ls:List kQ}(h:oJ n₀ W v ls):oJ n₀ W.drew v ls:=by
 rcases h with h | ⟨g,cap,cs,e,h1,h2,h3⟩
 ·exact .inl h
 ·exact .inr ⟨g,cap,cs,e,h1,h2.drew,h3⟩
theorem lT{W:World}{base e size n:Nat}{v:Value}{xs:List Value}(h:W.ownsRow base e size v n xs)(h0:0<n):∃g cap,v=.slice (some ⟨g,0,none⟩) n cap:=by
 rcases h.2 with⟨_,h0⟩ | ⟨g,cap,_,rfl,_⟩
 ·omega
 ·exact⟨g,cap,rfl⟩
theorem YS(w:World)(p:Int):∀j u,([Value.int .i64 p,II 0,II 0]:List Value)[j]?=some u->(w.alloc (.cells #[II p,II 0,II 0] 93)).cell? (Addr.add ⟨w.heap.size,0,none⟩ j)=some u:=by
 intro j u hj;have hb:=aA.new w #[II p,II 0,II 0] 93
 match j,hj with
 | 0,hj=>rw[<-hj];exact hb.cell 0
 | 1,hj=>rw[<-hj];exact hb.cell 1
 | 2,hj=>rw[<-hj];exact hb.cell 2
 | j+3,hj=>simp at hj
theorem Nb(bb s:Nat)(B:Bk)(om:Nat->Ord)(w:World)(hb:cO w bb B om)(hs:s<2)(hside:∀j,j<B.n s->(om (B.h s j)).side=(s:Int)) :
 CT 48 #[PP bb,II s] w fun e w'=>∃v,e=.returned v/\AA om (B.n s) (B.h s) w v w':=by
 obtain⟨hP,hO,hn⟩:=(hb.side s hs).wM;have hlt:=hb.aF.lt;have hcs:=hb.IM hs;clear hb;have HS:=au (show ∀w1,w1=w.alloc (.cells #[.slice (B.sl s) (B.n s) (B.cap s)] 155)->CT 81 #[.func (.func 129) #[] #[PP w.heap.size],.func (.func 83) #[] #[]] w1 fun e w'=>∃v,e=.returned v/\vX (B.n s) (B.h s) om w1 v w' from by
  rintro w1 rfl;have hB:Below w.heap.size w (w.alloc (.cells #[.slice (B.sl s) (B.n s) (B.cap s)] 155)):=(Below.refl _ w).alloc (Nat.le_refl _) _;refine CQ w.heap.size (B.sl s) (B.n s) (B.cap s) (B.h s) om s (by omega) _ (by simp) ((aA.new _ _ _).cell 0) ?_ ?_
  ·rcases hP with h | ⟨b,h1,h2,h3⟩
   ·exact .inl h
   ·exact .inr ⟨b,h1,by simp;omega,fun j hj=>(hB.cell (p:=⟨b,j,none⟩) h2).trans (h3 j hj)⟩
  ·intro j hj;obtain⟨ix,ho⟩:=hO j hj;exact⟨⟨ix,aA.alloc ho _⟩,hside j hj⟩)
 clear hP;generalize B.sl s=sl at *;generalize B.cap s=cap at *;generalize hnn:B.n s=n at *;generalize hhh:B.h s=h at *;clear hnn hhh;have hs0:(0:Int)<=s:=by omega
 have hs2:(s:Int)<2:=by omega
 go_enter Tryz.func48,Tryz.ntmps48;go_wp2_with (first | (go_at_call 82;refine (Oh _ _ _ _).mono ?_;rintro e w1 ⟨rfl,rfl⟩) | (go_at_call 81;refine (ae HS _ rfl).mono ?_;clear HS;rintro e w2 ⟨v,rfl,ys,hp1,hp2,hp3,hp4⟩;obtain⟨va,vc,rfl,ZZ⟩:=hp3.form));have HB:Hid (Below w.heap.size w w2):=((Below.refl _ w).alloc (Nat.le_refl _) _).trans (hp4.mono (by simp));have HY:Hid (LP om n h ys):=⟨hp1,hp2⟩;have HO:Hid (∀x,x∈ys->∃ix,df w2 x (om x) ix):=by
  intro x hx;have:=hp1.mem_iff.1 hx;simp only[upto,List.mem_map,List.mem_range]at this;obtain⟨j,hj,rfl⟩:=this;obtain⟨ix,ho⟩:=hO j hj;exact⟨ix,(HB.out.block (h j) ho.lt).trans ho⟩
 have hyn:ys.length<=1000:=by rw[hp1.length_eq,nD];exact hn
 have HP:=au ZZ;clear hp1 hp2 hp3 hp4 ZZ hO hside hcs;go_loopg [6,8,9,20] ys.length (fun k lv _ _ iv wr=>∃i:Nat,iv=II (i:Int)/\i<=ys.length/\k=ys.length-i/\oJ (w2.heap.size) wr lv (jg (iG om (ys.take i)))/\Below w2.heap.size w2 wr)
 case atStart=>exact⟨0,rfl,Nat.zero_le _,rfl,.inl ⟨rfl,by simp[iG,jg]⟩,Below.refl _ _⟩
 case round =>
  obtain⟨i,rfl,hi,hgk,hlv,hbw⟩:=hrel;by_cases hlt:i<ys.length
  ·have hx:ys.getD i 0∈ys:=by rw[List.getD_eq_getElem?_getD,List.getElem?_eq_getElem hlt];exact List.getElem_mem hlt
   obtain⟨b,rfl,hb1,hb3⟩:∃b,va=some ⟨b,0,none⟩/\b<w2.heap.size/\w2.cell? ⟨b,i,none⟩=some (vC (ys.getD i 0)):=by
    rcases ae HP with⟨_,rfl⟩ | ⟨b,e,_,hc⟩
    ·exact absurd hlt (by simp)
    ·exact⟨b,e,World.block_lt_of_cell? w2 ⟨b,i,none⟩ (hc i hlt),hc i hlt⟩
   have Z5:CC wr b i (PP (ys.getD i 0)):=(hbw.cell (p:=⟨b,i,none⟩) hb1).trans hb3;obtain⟨ix,ho2⟩:=ae HO _ hx;have hxl:ys.getD i 0<w2.heap.size:=ho2.lt;have ho:df wr (ys.getD i 0) (om (ys.getD i 0)) ix:=(hbw.block _ hxl).trans ho2;have HT:=au (Ju om ys i hlt);generalize ys.getD i 0=x at *;generalize hls:jg (iG om (ys.take i))=ls at *;have o5:=ho.cell 5;have o8:=ho.cell 8;simp only[Ord.cells]at o5 o8;simp at o5 o8;clear hb3 ho2 hx;have HI:=au ho;clear ho;have hll:ls.length<=1000:=by
    have:=vS (iG om (ys.take i)) [];rw[show (iG om (ys.take i)).foldl jH []=ls from hls]at this;simp[iG]at this;omega
   clear hls;rcases List.eq_nil_or_concat ls with rfl | ⟨ini,l,rfl⟩
   ·obtain rfl:u6=.slice none 0 0:=by
     rcases hlv with⟨h,_⟩ | ⟨g,A8,cs,e,h1,h2,h3,h4,h5,h6,h7⟩
     ·exact h
     ·simp at h7
    clear hlv hll;go_wp2;go_quiet (fail);have hmx:0+1<=maxLen:=by unfold maxLen;omega
    have hbs:w2.heap.size<=wr.heap.size:=hbw.size;obtain⟨w3,hw3⟩:=kL (wr.drewN nq);rw[<-hw3];have o53:w3.cell? ⟨x,5,none⟩=some (II (om x).af):=by rw[hw3];exact o5
    have ZN:w2.heap.size<=w3.heap.size:=by rw[hw3];exact hbs
    have HI3:Hid (df w3 x (om x) ix):=by rw[hw3];exact (ae HI).drewN _
    have HB3:Hid (Below w2.heap.size w2 w3):=by rw[hw3];exact⟨hbw.os,hbw.tape,hbw.output,hbw.size,hbw.block⟩
    clear hw3 hbs o5 o8 Z5;obtain⟨i0,hi0,hz0,hz1,hz2⟩:=info_parts Ua;go_wp2_with (at_builtin;refine wpList_append_own _ rfl _ _ 63 rfl w2.heap.size 93 i0 (.agg #[II 0,II 0,II 0]) 3 24 Tryz.underlying63 hi0 hz0 hz1 hz2 rfl (by decide) _ 0 [] rfl (World.ownsRow_nil _ _ _ _) ⟨w3.heap.size,0,none⟩ 1 1 [II (om x).af,II 0,II 0] rfl rfl (YS _ _) (by simp[Value.oneCell']) hmx (by omega) (by simp;omega) ?_;intro v' w4 hown' hgrow hnil;clear hnil;obtain⟨g',cap',rfl⟩:=lT hown' (by omega));change (w3.alloc _).grownBy w4 none at hgrow;have TP:df w4 x (om x) ix:=(hgrow.block x (by simp;omega) (by simp)).trans (aA.alloc (ae HI3) _);have HB4:Hid (Below w2.heap.size w2 w4):=((ae HB3).alloc ZN _).grown hgrow (by simp;omega) (fun k e=>by cases e);have o84:=TP.cell 8;simp only[Ord.cells]at o84;simp at o84;obtain⟨cs2,hh1,hh2,hh3,hh4,hh5,Xl⟩:∃cs2,w2.heap.size<=g'/\aA w4 g' cs2 93/\0+1<=cap'/\cap'<=maxLen/\cs2.size=cap' * 3/\cs2.toList.take ((0+1) * 3)=lM ([]++[⟨(om x).af,0,0⟩]):=by
     rcases hown'.2 with⟨h,_⟩ | ⟨g2,cap2,cs2,e2,h1,h2,h3,h4,h5,h6⟩
     ·cases h
     ·cases e2;exact⟨cs2,h1,h2,h3,h4,h5,h6⟩
    have c1:=lF (k:=0) (ini:=[]) (l:=⟨(om x).af,0,0⟩) hh2 rfl Xl 1 (by omega);have c2:=lF (k:=0) (ini:=[]) (l:=⟨(om x).af,0,0⟩) hh2 rfl Xl 2 (by omega);simp only[kQ.cells]at c1 c2;simp at c1 c2;have f1:=hh2.frozen 1;have f2:=hh2.frozen 2;have ac5:x≠g':=by omega
    obtain⟨G2',G6',HH5⟩:=eY hh2 Xl hh5;clear hown' hgrow TP hh2 Xl HI3 hi0 hz0 hz1 hz2 o53 hh5 hmx;go_region;go_wp2;go_roundg (ys.length-(i+1))
    case measure=>omega
    case rel =>
     refine⟨i+1,by push_cast;rfl,by omega,rfl,?_,?_⟩
     ·rw[ae HT];exact (oJ.write (k:=0) (ini:=[]) rfl hh1 (ae G2') hh3 hh4 (ae HH5) (ae G6') (wrap64 (om x).aO) 1).drew
     ·have h8:=((ae HB4).setCell (p:=⟨g',1,none⟩) hh1 (II (wrap64 (om x).aO))).setCell (p:=⟨g',2,none⟩) hh1 (II 1);exact⟨h8.os,h8.tape,h8.output,h8.size,h8.block⟩
   ·obtain⟨g,A8,cs,rfl,hg1,hg2,hg3,hg4,hg5,Rq⟩:∃g A8 cs,u6=.slice (some ⟨g,0,none⟩) (ini.length+1) A8/\w2.heap.size<=g/\aA wr g cs 93/\ini.length+1<=A8/\A8<=maxLen/\cs.size=A8 * 3/\cs.toList.take ((ini.length+1) * 3)=lM (ini++[l]):=by
     rw[List.concat_eq_append]at hlv;rcases hlv with⟨_,h⟩ | ⟨g,A8,cs,e,h1,h2,h3,h4,h5,h6,_⟩
     ·simp at h
     ·simp only[List.length_append,List.length_cons,List.length_nil]at e h3 h6;exact⟨g,A8,cs,e,h1,h2,h3,h4,h5,h6⟩
    rw[List.concat_eq_append]at HT hll;simp only[List.length_append,List.length_cons,List.length_nil]at hll;obtain⟨k,hk⟩:=mf ini.length;obtain⟨m,hm⟩:=mf (ini.length+1);have hkm:k<m:=by omega
    have hm1:m<=1000:=by omega
    rw[hm]at hg3 Rq ⊢;rw[<-hm,hk]at Rq;have c0:=lF hg2 hk Rq 0 (by omega);have c1:=lF hg2 hk Rq 1 (by omega);have c2:=lF hg2 hk Rq 2 (by omega);simp only[kQ.cells,Nat.add_zero]at c0 c1 c2;simp at c0 c1 c2;have hw:(m:Int)-1=k:=by omega
    have hk0:decide ((k:Int)<0)=false:=by simp
    have f1:=hg2.frozen (k * 3+1);have f2:=hg2.frozen (k * 3+2);have hgx:x≠g:=by omega
    have hrow:wr.ownsRow w2.heap.size 93 3 (.slice (some ⟨g,0,none⟩) m A8) m (lM (ini++[l])):=⟨by rw[ug];simp;omega,.inr ⟨g,A8,cs,rfl,hg1,hg2,hg3,hg4,hg5,by rw[<-Rq];congr 1;omega⟩⟩;obtain⟨G2,G5,G6⟩:=eY hg2 hg5 Rq;clear hg2 hg5 Rq hlv;by_cases hpr:l.af=(om x).af
    ·clear hrow;go_wp2;have hne:(l.af != (om x).af)=false:=by simp[hpr]
     have HPR:=au hpr;clear hpr;go_quiet (fail);go_wp2;go_region;go_wp2;go_roundg (ys.length-(i+1))
     case measure=>omega
     case rel =>
      have hkk:k+1=m:=by omega
      refine⟨i+1,by push_cast;rfl,by omega,rfl,?_,?_⟩
      ·rw[ae HT,pO ini l _ (ae HPR),<-hkk];exact oJ.write hk hg1 ((ae G2).drewN _) (by omega) hg4 (ae G5) (ae G6) _ _
      ·have h9:Below w2.heap.size w2 (wr.drewN (nq+1)):=⟨hbw.os,hbw.tape,hbw.output,hbw.size,hbw.block⟩;exact (h9.setCell (p:=⟨g,k * 3+1,none⟩) hg1 _).setCell (p:=⟨g,k * 3+2,none⟩) hg1 _
    ·have hne:(l.af != (om x).af)=true:=by simp[hpr]
     obtain⟨HPR,HR⟩:=dE hpr hrow;clear hpr hrow;go_wp2;go_quiet (fail);have sO:(m+1) * 24<=140737488355328:=by omega
     have hmx:m+1<=maxLen:=by unfold maxLen;omega
     have hbs:w2.heap.size<=wr.heap.size:=hbw.size;obtain⟨w3,hw3⟩:=kL (wr.drewN nq);rw[<-hw3];have o53:w3.cell? ⟨x,5,none⟩=some (II (om x).af):=by rw[hw3];exact o5
     have o83:w3.cell? ⟨x,8,none⟩=some (II (om x).aO):=by rw[hw3];exact o8
     have HR3:Hid (w3.ownsRow w2.heap.size 93 3 (.slice (some ⟨g,0,none⟩) m A8) m (lM (ini++[l]))):=by rw[hw3];exact ae HR
     have ZN:w2.heap.size<=w3.heap.size:=by rw[hw3];exact hbs
     have HI3:Hid (df w3 x (om x) ix):=by rw[hw3];exact (ae HI).drewN _
     have HB3:Hid (Below w2.heap.size w2 w3):=by rw[hw3];exact⟨hbw.os,hbw.tape,hbw.output,hbw.size,hbw.block⟩
     clear hw3 hbs o5 o8 c0 c1 c2 f1 f2 Z5;have hk1:(k:Int)+1=m:=by omega
     obtain⟨i0,hi0,hz0,hz1,hz2⟩:=info_parts Ua;go_wp2_with (at_builtin;refine wpList_append_own _ rfl _ _ 63 rfl w2.heap.size 93 i0 (.agg #[II 0,II 0,II 0]) 3 24 Tryz.underlying63 hi0 hz0 hz1 hz2 rfl (by decide) _ m _ rfl ((ae HR3).alloc _) ⟨w3.heap.size,0,none⟩ 1 1 [II (om x).af,II 0,II 0] rfl rfl (YS _ _) (by simp[Value.oneCell']) hmx sO (by simp;omega) ?_;intro v' w4 hown' hgrow hnil;clear hnil;obtain⟨m',hm'⟩:∃m',m+1=m':=⟨_,rfl⟩;rw[hm']at hown';obtain⟨g',cap',rfl⟩:=lT hown' (by omega);have hmm:m<m':=by omega);change (w3.alloc _).grownBy w4 (some g) at hgrow;have TP:df w4 x (om x) ix:=(hgrow.block x (by simp;omega) (by simp;omega)).trans (aA.alloc (ae HI3) _);have HB4:Hid (Below w2.heap.size w2 w4):=((ae HB3).alloc ZN _).grown hgrow (by simp;omega) (fun k e=>by cases e;exact hg1);have o84:=TP.cell 8;simp only[Ord.cells]at o84;simp at o84;obtain⟨cs2,hh1,hh2,hh3,hh4,hh5,Xl⟩:∃cs2,w2.heap.size<=g'/\aA w4 g' cs2 93/\m'<=cap'/\cap'<=maxLen/\cs2.size=cap' * 3/\cs2.toList.take ((m+1) * 3)=lM ((ini++[l])++[⟨(om x).af,0,0⟩]):=by
      rcases hown'.2 with⟨h,_⟩ | ⟨g2,cap2,cs2,e2,h1,h2,h3,h4,h5,h6⟩
      ·cases h
      ·cases e2;exact⟨cs2,h1,h2,h3,h4,h5,by rw[BO,hm'];exact h6⟩
     have hil:(ini++[l]).length=m:=by simp;omega
     have c1:=lF hh2 hil Xl 1 (by omega);have c2:=lF hh2 hil Xl 2 (by omega);simp only[kQ.cells]at c1 c2;simp at c1 c2;have f1:=hh2.frozen (m * 3+1);have f2:=hh2.frozen (m * 3+2);have ac5:x≠g':=by omega
     obtain⟨G2',G6',HM,HH5,HM1⟩:=BD hh2 Xl hm' hh5 hm;clear hown' hgrow TP hh2 Xl HI3 HR3 HR hi0 hz0 hz1 hz2 o53 o83 hne hk0 hk1 hw hm' hm hh5 sO hmx hk hil;go_region;go_wp2;go_roundg (ys.length-(i+1))
     case measure=>omega
     case rel =>
      refine⟨i+1,by push_cast;rfl,by omega,rfl,?_,?_⟩
      ·rw[ae HT,og ini l _ (ae HPR),<-ae HM];exact (oJ.write (by have:=ae HM1;simp;omega) hh1 (ae G2') (by have:=ae HM;omega) hh4 (ae HH5) (ae G6') _ _).drew
      ·have h8:=((ae HB4).setCell (p:=⟨g',m * 3+1,none⟩) hh1 (II (wrap64 (om x).aO))).setCell (p:=⟨g',m * 3+2,none⟩) hh1 (II 1);exact⟨h8.os,h8.tape,h8.output,h8.size,h8.block⟩
  ·obtain rfl:i=ys.length:=by omega
   go_wp2;go_ret;exact⟨_,rfl,ys,ae HY,(by rw[List.take_length]at hlv;exact hlv.base (ae HB).size),(ae HB).trans (hbw.mono (ae HB).size)⟩
open Go.RowKit
def wR(om:Nat->Ord)(h:Nat->Nat)(o:iT):Nat->Int
 | 0=>0
 | k+1=>wR om h o k+(if (om (h k)).aG≠o.aG/\jc o.kind o.side o.af (om (h k)).af=true then (om (h k)).aO else 0)
theorem Vz(om:Nat->Ord)(h:Nat->Nat)(o:iT)(n:Nat)(hb:∀k,k<n->0<=(om (h k)).aO/\(om (h k)).aO<=1000000000000000):∀k,k<=n->0<=wR om h o k/\wR om h o k<=k * 1000000000000000
 | 0,_=>by simp[wR]
 | k+1,hk=>by
   have h1:=Vz om h o n hb k (by omega);have h2:=hb k (by omega);unfold wR;split <;> (push_cast;omega)
theorem XP(s:Nat)(w:World)(hs:s<2):CT 154 #[II (1-(s:Int))] w fun e w'=>e=.returned (II (s:Int))/\w'=w:=by
 have:=mJ (1-(s:Int)) w (by omega) (by omega)
 rwa [show (1:Int)-(1-s)=s from by omega]at this
theorem NV(bb s:Nat)(B:Bk)(om:Nat->Ord)(o:iT)(w:World)(hb:cO w bb B om)(hs:s<2)(ho:o.side=1-(s:Int))(hop:∀k,k<B.n s->0<=(om (B.h s k)).aO/\(om (B.h s k)).aO<=1000000000000000) :
 CT 147 #[PP bb,o.val] w fun e w'=>e=.returned (II (wR om (B.h s) o (B.n s)))/\aj aJ w w':=by
 obtain⟨hP,hO,hn⟩:=(hb.side s hs).wM;have hlt:=hb.aF.lt;have hcs:=hb.IM hs;clear hb;generalize B.sl s=sl at *;generalize B.cap s=cap at *;generalize hnn:B.n s=n at *;generalize hhh:B.h s=h at *;clear hnn hhh;obtain⟨HP,HO,HOP⟩:=eY hP hO hop;clear hP hO hop;have hs0:(0:Int)<=s:=by omega
 have hs2:(s:Int)<2:=by omega
 obtain⟨id,aG,sym,side,kind,af,aK⟩:=o;simp only at ho;subst ho;simp only[iT.val];go_enter Tryz.func147,Tryz.ntmps147;go_wp2;go_quiet ((go_at_call 154;exact Calls.quiet_of_same (XP _ _ hs)));go_wp2;obtain⟨w1,hw1⟩:=kL ((w.alloc (.cells #[II id,II aG,.string sym,II (1-(s:Int)),II kind,II af,II aK] 52)).drewN nq);rw[<-hw1];have Rj:Hid (aj aJ w w1):=by rw[hw1];exact ((aj.refl _ w).alloc _).drewN _
 have HB1:Hid (aA w1 w.heap.size #[II id,II aG,.string sym,II (1-(s:Int)),II kind,II af,II aK] 52):=by rw[hw1];exact (aA.new w _ _).drewN _
 clear hw1 hcs;obtain⟨sd,hsd⟩:=mf (1-(s:Int));rw[hsd]at HB1 ⊢;have HSD:=au hsd;clear hsd;obtain⟨H,hH⟩:=mf w.heap.size;rw[hH]at HB1 ⊢;have HH:=au hH;clear hH;go_loopg [5,7,17] n (fun k sv _ iv wr=>∃i:Nat,iv=II (i:Int)/\i<=n/\k=n-i/\sv=II (wR om h ⟨id,aG,sym,sd,kind,af,aK⟩ i)/\aj aJ w1 wr)
 case atStart=>exact⟨0,rfl,Nat.zero_le _,rfl,rfl,aj.refl _ _⟩
 case round =>
  obtain⟨i,rfl,hi,hgk,rfl,hc⟩:=hrel;by_cases hin:i<n
  ·obtain⟨ab,rfl,Z5⟩:∃ab,sl=some ⟨ab,0,none⟩/\wr.cell? ⟨ab,i,none⟩=some (PP (h i)):=by
    rcases ae HP with⟨_,h0,_⟩ | ⟨ab,e,_,hc2⟩
    ·omega
    ·exact⟨ab,e,hc.cell (p:=⟨ab,i,none⟩) ((ae Rj).cell (p:=⟨ab,i,none⟩) (hc2 i hin) aU) aU⟩
   obtain⟨ix,hor⟩:=ae HO i hin;have hor:=hc.aF ((ae Rj).aF hor aU) aU;have hbx:=hc.aF (ae HB1) aU;have hbd:=Vz om h ⟨id,aG,sym,sd,kind,af,aK⟩ n (ae HOP) i hi;have hob:=ae HOP i hin;have HSF:Hid (wR om h ⟨id,aG,sym,sd,kind,af,aK⟩ (i+1)=wR om h ⟨id,aG,sym,sd,kind,af,aK⟩ i+(if (om (h i)).aG≠aG/\jc kind sd af (om (h i)).af=true then (om (h i)).aO else 0)):=rfl;generalize h i=x at *;generalize hS:wR om h ⟨id,aG,sym,sd,kind,af,aK⟩ i=S at *;clear hS;have o1:CC wr x 1 (II (om x).aG):=hor.cell 1;have o5:CC wr x 5 (II (om x).af):=hor.cell 5;have o8:CC wr x 8 (II (om x).aO):=hor.cell 8;obtain⟨b0,b1,b2,b3,b4,b5,b6⟩:=hbx.c7;have HI:=au hor;clear hor hbx;by_cases hown:(om x).aG=aG
   ·have hne:((om x).aG != aG)=false:=by simp[hown]
    have HOW:=au hown;clear hown;go_wp2;go_quiet (fail);go_wp2;go_roundg (n-(i+1))
    case measure=>omega
    case rel=>exact⟨i+1,by push_cast;rfl,by omega,rfl,by rw[ae HSF,if_neg (fun h=>h.1 (ae HOW)),Int.add_zero],hc.drewN _⟩
   ·have hne:((om x).aG != aG)=true:=by simp[hown]
    have HOW:=au hown;clear hown;cases GG:jc kind sd af (om x).af
    ·go_wp2;go_region_held3 (fun w'=>w'.cell? ⟨H,0,none⟩=some (II id)/\w'.cell? ⟨H,1,none⟩=some (II aG)/\w'.cell? ⟨H,2,none⟩=some (.string sym)/\w'.cell? ⟨H,3,none⟩=some (II sd)/\w'.cell? ⟨H,4,none⟩=some (II kind)/\w'.cell? ⟨H,5,none⟩=some (II af)/\w'.cell? ⟨H,6,none⟩=some (II aK)/\w'.cell? ⟨x,1,none⟩=some (II (om x).aG)/\w'.cell? ⟨x,5,none⟩=some (II (om x).af)) (go_keep)
      (first | (go_at_call 155;refine (qF ⟨id,aG,sym,sd,kind,af,aK⟩ _ _).mono ?_;rintro e w3 ⟨rfl,hc3⟩;rw[GG];have k0:=hc3.cell (p:=⟨H,0,none⟩) b0 aU;have k1:=hc3.cell (p:=⟨H,1,none⟩) b1 aU;have k2:=hc3.cell (p:=⟨H,2,none⟩) b2 aU;have k3:=hc3.cell (p:=⟨H,3,none⟩) b3 aU;have k4:=hc3.cell (p:=⟨H,4,none⟩) b4 aU;have k5:=hc3.cell (p:=⟨H,5,none⟩) b5 aU;have k6:=hc3.cell (p:=⟨H,6,none⟩) b6 aU;have k7:=hc3.cell (p:=⟨x,1,none⟩) o1 aU;have k8:=hc3.cell (p:=⟨x,5,none⟩) o5 aU))
     go_wp2;go_roundg (n-(i+1))
     case measure=>omega
     case rel=>exact⟨i+1,by push_cast;rfl,by omega,rfl,by rw[ae HSF,if_neg (fun h=>by have:=h.2;rw[GG]at this;cases this),Int.add_zero],aj.trans (by repeat (first | exact hc | refine aj.drewN ?_ _ | refine aj.drew ?_)) hc3⟩
    ·have hwr:wrap64 (S+(om x).aO)=S+(om x).aO:=aT (by omega) (by omega);go_wp2;go_region_held3 (fun w'=>w'.cell? ⟨H,0,none⟩=some (II id)/\w'.cell? ⟨H,1,none⟩=some (II aG)/\w'.cell? ⟨H,2,none⟩=some (.string sym)/\w'.cell? ⟨H,3,none⟩=some (II sd)/\w'.cell? ⟨H,4,none⟩=some (II kind)/\w'.cell? ⟨H,5,none⟩=some (II af)/\w'.cell? ⟨H,6,none⟩=some (II aK)/\w'.cell? ⟨x,1,none⟩=some (II (om x).aG)/\w'.cell? ⟨x,5,none⟩=some (II (om x).af)) (go_keep)
      (first | (go_at_call 155;refine (qF ⟨id,aG,sym,sd,kind,af,aK⟩ _ _).mono ?_;rintro e w3 ⟨rfl,hc3⟩;rw[GG];have k0:=hc3.cell (p:=⟨H,0,none⟩) b0 aU;have k1:=hc3.cell (p:=⟨H,1,none⟩) b1 aU;have k2:=hc3.cell (p:=⟨H,2,none⟩) b2 aU;have k3:=hc3.cell (p:=⟨H,3,none⟩) b3 aU;have k4:=hc3.cell (p:=⟨H,4,none⟩) b4 aU;have k5:=hc3.cell (p:=⟨H,5,none⟩) b5 aU;have k6:=hc3.cell (p:=⟨H,6,none⟩) b6 aU;have k7:=hc3.cell (p:=⟨x,1,none⟩) o1 aU;have k8:=hc3.cell (p:=⟨x,5,none⟩) o5 aU;have k9:=hc3.cell (p:=⟨x,8,none⟩) o8 aU))
     go_wp2;go_roundg (n-(i+1))
     case measure=>omega
     case rel=>exact⟨i+1,by push_cast;rfl,by omega,rfl,by rw[ae HSF,if_pos ⟨ae HOW,GG⟩],aj.trans (by repeat (first | exact hc | refine aj.drewN ?_ _ | refine aj.drew ?_)) hc3⟩
  ·obtain rfl:i=n:=by omega
   go_wp2;go_ret;exact⟨by rw[ae HSD];rfl,(ae Rj).trans hc⟩
open Go.RowKit Go.Maps
theorem GV(bv bm bo i s:Nat)(V:aS)(o:iT)(w:World)(R:dS w bv bm bo V)(hi:i<V.nb)(dR:(V.B i).sym=o.sym)(hlen:o.sym.size<=maxLen)
 (h1:dX o.id=true) (h2:V.aW o.id=none) (h3:oW o.aG=true) (h4:ni o.side=true) (h5:pK o.kind=true) (h6:dX o.aK=true) (h7:iV o.kind o.af=true) (h8:V.no<200) (h9:o.kind=4) (hs:s<2) (hside:o.side=1-(s:Int)) :
 CT 111 #[PP bv,o.val] w fun e w'=>e=.returned (II (if (dJ (V.B i) V.om o s).isSome then 8 else 0))/\aj aJ w w':=by
 obtain⟨fB,mB,qh,uM⟩:=R.iM;obtain⟨fO,mO,vK⟩:=R.fH;obtain⟨id,aG,sym,side,kind,af,aK⟩:=o;simp only at dR hlen h1 h2 h3 h4 h5 h6 h7 h9 hside;simp only[iT.val];have hid:(Lit.int .i64 id).wf=true:=by
  simp[dX]at h1;exact WalkArith.wf_i64 (by omega)
 have hlb:fB (sl sym)=some (V.bk i):=by rw[<-dR];exact qh i hi
 have hlo:fO (.int .i64 id)=none:=by rw[vK,h2]
 obtain⟨w1,hw1⟩:=kL (w.alloc (.cells #[II id,II aG,.string sym,II side,II kind,II af,II aK] 52));have k1:aj aJ w w1:=by rw[hw1];exact (aj.refl aJ w).alloc _
 have hbx:aA w1 w.heap.size #[II id,II aG,.string sym,II side,II kind,II af,II aK] 52:=by rw[hw1];exact aA.new w _ _
 have L1:∀q,(Instr.lookup 94 (.map (some bm)) (.string sym) false).run Tryz.prog (w1.drewN q)=.ok (PP (V.bk i)) (w1.drewN q):=fun q=>by
  rw[(mB.aC (k1.drewN q) aU).look zV Tryz.underlying94 (qA _) (WideMaps.keyOf_string_mk Tryz.underlying9 hlen)];show _=Result.ok (ji (some (V.bk i))) _;rw[<-hlb];rfl
 have L2:∀q,(Instr.lookup 95 (.map (some bo)) (II id) false).run Tryz.prog (w1.drewN q)=.ok (.pointer none) (w1.drewN q):=fun q=>by
  rw[(mO.aC (k1.drewN q) aU).look zU Tryz.underlying95 (wU _) (keyOf_int_mk Tryz.underlying3 hid)];show _=Result.ok (ji none) _;rw[<-hlo]
 have L3:∀q,(Builtin.len_ #[95] 3 #[.map (some bo)]).run Tryz.prog (w1.drewN q)=.ok (II V.no) (w1.drewN q):=fun q=>(mO.aC (k1.drewN q) aU).len Tryz.underlying95 _
 have v0:CC w1 bv 0 (.map (some bm)):=(k1.aF R.dC aU).cell 0;have v1:CC w1 bv 1 (.map (some bo)):=(k1.aF R.dC aU).cell 1;obtain⟨x0,x1,x2,x3,x4,x5,x6⟩:=hbx.c7;have e3:(kind == 3)=false:=by rw[h9];rfl
 have e4:(kind == 4)=true:=by rw[h9];rfl
 have HF:=au (fun (W:World) (hW:cO W (V.bk i) (V.B i) V.om)=>kR (V.bk i) (V.B i) V.om ⟨id,aG,sym,side,kind,af,aK⟩ s W hW hs hside);have Wx:=au (R.aY i hi);have e8:decide ((200:Int)<=(V.no:Int))=false:=by simp;omega
 obtain⟨HW,HK⟩:=dE hw1 k1;clear hside hw1 k1 hbx h9 hlb hlo qh uM vK mB mO hid;cases hf:dJ (V.B i) V.om ⟨id,aG,sym,side,kind,af,aK⟩ s with
 | none =>
   have WA:Hid (∀W,cO W (V.bk i) (V.B i) V.om->CT 123 #[PP (V.bk i),.agg #[II id,II aG,.string sym,II side,II kind,II af,II aK]] W fun e w'=>e=.returned (.pointer none)/\aj aJ W w'):=fun W hW=>by
    have:=ae HF W hW;rw[hf]at this;exact this
   clear hf HF;go_enter Tryz.func111,Tryz.ntmps111;go_wp2;rw[<-ae HW];go_quiet (fail);go_wp2_with (first | (go_at_call 68;refine (dh _ _).mono ?_;rintro e w' ⟨rfl,rfl⟩) | (go_at_call 144;refine (eP _ _).mono ?_;rintro e w' ⟨rfl,rfl⟩) | (go_at_call 47;refine (fA _ _).mono ?_;rintro e w' ⟨rfl,rfl⟩) | (go_at_call 145;refine (fV _ _).mono ?_;rintro e w' ⟨rfl,rfl⟩) | (go_at_call 146;refine (dP _ _ _).mono ?_;rintro e w' ⟨rfl,rfl⟩));go_quiet (fail);go_wp2_with (first | (go_at_call 123;refine (ae WA _ ((ae Wx).aC ((ae HK).drewN _) (fun _ _ x=>x))).mono ?_;rintro e w3 ⟨rfl,hc3⟩;have k4:=hc3.cell (p:=⟨w.heap.size,4,none⟩) x4 aU) | (go_at_call 68;refine (dh _ _).mono ?_;rintro e w' ⟨rfl,rfl⟩) | (go_at_call 144;refine (eP _ _).mono ?_;rintro e w' ⟨rfl,rfl⟩) | (go_at_call 47;refine (fA _ _).mono ?_;rintro e w' ⟨rfl,rfl⟩) | (go_at_call 145;refine (fV _ _).mono ?_;rintro e w' ⟨rfl,rfl⟩) | (go_at_call 146;refine (dP _ _ _).mono ?_;rintro e w' ⟨rfl,rfl⟩));go_quiet (fail);go_wp2;go_ret;exact⟨rfl,aj.trans (((ae HK).drewN _)) (hc3.drewN _)⟩
 | some x =>
   have WA:Hid (∀W,cO W (V.bk i) (V.B i) V.om->CT 123 #[PP (V.bk i),.agg #[II id,II aG,.string sym,II side,II kind,II af,II aK]] W fun e w'=>e=.returned (PP x)/\aj aJ W w'):=fun W hW=>by
    have:=ae HF W hW;rw[hf]at this;exact this
   clear hf HF;go_enter Tryz.func111,Tryz.ntmps111;go_wp2;rw[<-ae HW];go_quiet (fail);go_wp2_with (first | (go_at_call 68;refine (dh _ _).mono ?_;rintro e w' ⟨rfl,rfl⟩) | (go_at_call 144;refine (eP _ _).mono ?_;rintro e w' ⟨rfl,rfl⟩) | (go_at_call 47;refine (fA _ _).mono ?_;rintro e w' ⟨rfl,rfl⟩) | (go_at_call 145;refine (fV _ _).mono ?_;rintro e w' ⟨rfl,rfl⟩) | (go_at_call 146;refine (dP _ _ _).mono ?_;rintro e w' ⟨rfl,rfl⟩));go_quiet (fail);go_wp2_with (first | (go_at_call 123;refine (ae WA _ ((ae Wx).aC ((ae HK).drewN _) (fun _ _ x=>x))).mono ?_;rintro e w3 ⟨rfl,hc3⟩;have k4:=hc3.cell (p:=⟨w.heap.size,4,none⟩) x4 aU) | (go_at_call 68;refine (dh _ _).mono ?_;rintro e w' ⟨rfl,rfl⟩) | (go_at_call 144;refine (eP _ _).mono ?_;rintro e w' ⟨rfl,rfl⟩) | (go_at_call 47;refine (fA _ _).mono ?_;rintro e w' ⟨rfl,rfl⟩) | (go_at_call 145;refine (fV _ _).mono ?_;rintro e w' ⟨rfl,rfl⟩) | (go_at_call 146;refine (dP _ _ _).mono ?_;rintro e w' ⟨rfl,rfl⟩));go_ret;exact⟨rfl,aj.trans ((ae HK).drewN _) hc3⟩
end Go.Proofs.YtigaphnafnpfnaaGreatDoor
