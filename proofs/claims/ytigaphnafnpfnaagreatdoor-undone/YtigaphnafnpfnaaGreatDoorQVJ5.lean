import Derived.Test.YtigaphnafnpfnaaGreatDoorQVB5
import Derived.Test.YtigaphnafnpfnaaGreatDoorQVX2
import Derived.Test.YtigaphnafnpfnaaGreatDoorQVX3
set_option linter.unusedVariables false
set_option linter.unusedSimpArgs false
set_option maxHeartbeats 8000000
set_option maxRecDepth 100000
namespace Go.Proofs.YtigaphnafnpfnaaGreatDoor
open Go.RowKit
attribute [local go_sem ↓] Go.wp_at_zero Go.wp_at_succ
theorem vJ(f:Nat->Int)(word:ByteArray):∀k,word.size<=(gY f word k).size
 | 0=>Nat.le_refl _
 | k+1=>by
   have:=vJ f word k
   simp only[gY,ByteArray.size_append]
   omega
theorem FU(id aA:Int)(sym:ByteArray)(side kind af aI:Int)(hs:sym.size<=100)(h1:gW id)(h2:gW aA)(h3:gW side)(h4:gW kind)(h5:gW af)(h6:gW aI) :
 0<(uG id aA sym side kind af aI).size/\(uG id aA sym side kind af aI).size<=290:=by
 have z1:=jA (uw id aA) rV 2 (fun i hi=>by match i,hi with|0,_=>exact h1|1,_=>exact h2)
 have z2:=jA (MO side kind af aI) sym 4 (fun i hi=>by match i,hi with|0,_=>exact h3|1,_=>exact h4|2,_=>exact h5|3,_=>exact h6)
 have g1:=vJ (uw id aA) rV 2
 have zE:rV.size=5:=by decide
 rw[zE]at z1 g1
 have e:(ByteArray.mk #[32]).size=1:=rfl
 simp only[uG,ByteArray.size_append,e]
 omega
theorem JH(id aA:Int)(sym:ByteArray)(side kind af aI:Int)(w:World)(hT:oC w)(hs:sym.size<=100)(h1:gW id)(h2:gW aA)(h3:gW side)(h4:gW kind)(h5:gW af)(h6:gW aI) :
 ∀W,au aP w W->Calls Tryz.prog 113 #[.agg #[.int .i64 id,.int .i64 aA,.string sym,.int .i64 side,.int .i64 kind,.int .i64 af,.int .i64 aI]] W fun e w'=>e=.returned (.string (uG id aA sym side kind af aI))/\au aP w w':=by
 intro W k
 refine (yx id aA sym side kind af aI W (hT.aH k) (by omega) h1 h2 h3 h4 h5 h6).mono ?_
 rintro e w' ⟨rfl,k2⟩
 exact⟨rfl,k.trans k2⟩
theorem nD{n:Int}(h:-1000000<=n/\n<=1000000):gW n:=⟨by omega,by omega⟩
open Go.RowKit Go.Sort
def IY(om:Nat->Ord)(n:Nat)(h:Nat->Nat)(ys:List Nat):Prop:=ys.Perm (upto h n)/\ys.Pairwise (fun a b=>fG om b a=false)
def yT(om:Nat->Ord)(n:Nat)(h:Nat->Nat)(w:World)(v:Value)(w':World):Prop :=
 ∃ys:List Nat,IY om n h ys/\mZ w.heap.size w' v (iO (gU om ys))/\Below w.heap.size w w'
theorem iU.uP{w:World}{a:Option Addr}{n cap:Nat}{h:Nat->Nat}{om:Nat->Ord}(hs:iU w a n cap h om):DL w.heap.size w a n cap h/\(∀j,j<n->∃ix,df w (h j) (om (h j)) ix)/\n<=1000:=by
 rcases hs with⟨rfl,rfl,rfl⟩|⟨ab,rfl,hs⟩
 ·exact⟨.inl ⟨rfl,rfl,rfl⟩,fun j hj=>absurd hj (Nat.not_lt_zero j),by omega⟩
 ·obtain⟨cs,hb,_,hc⟩:=hs.oH
  exact⟨.inr ⟨ab,rfl,hb.lt,fun j hj=>(hb.cell j).trans (hc j hj)⟩,fun j hj=>⟨_,hs.ord j hj⟩,hs.small⟩
def WE(n₀:Nat)(w:World)(a:Option Addr)(ys:List Nat):Prop :=
 (a=none/\ys=[])\/∃b,a=some ⟨b,0,none⟩/\n₀<=b/\∀j,j<ys.length->w.cell? ⟨b,j,none⟩=some (tN (ys.getD j 0))
theorem IX.form{n₀:Nat}{w:World}{v:Value}{ys:List Nat}(h:IX n₀ w v ys):∃a c,v=.slice a ys.length c/\WE n₀ w a ys:=by
 rcases h with⟨rfl,rfl⟩|⟨b,cap,rfl,h1,h2,h3⟩
 ·exact⟨none,0,rfl,.inl ⟨rfl,rfl⟩⟩
 ·exact⟨_,cap,rfl,.inr ⟨b,rfl,h1,h3⟩⟩
theorem mZ.base{n₀ n₁:Nat}{W:World}{v:Value}{ls:List jM}(h:mZ n₀ W v ls)(hn:n₁<=n₀):mZ n₁ W v ls:=by
 rcases h with h|⟨g,cap,cs,e,h1,h2⟩
 ·exact .inl h
 ·exact .inr ⟨g,cap,cs,e,by omega,h2⟩
theorem Gt(om:Nat->Ord)(ys:List Nat)(i:Nat)(hi:i<ys.length):iO (gU om (ys.take (i+1)))=ji (iO (gU om (ys.take i))) (om (ys.getD i 0)):=by
 unfold iO gU
 rw[List.take_succ_eq_append_getElem hi,List.map_append,List.foldl_append]
 simp[List.getD_eq_getElem?_getD,hi]
theorem BQ(ls:List jM)(o:Ord):(ji ls o).length<=ls.length+1:=by
 unfold ji
 split
 ·split <;> simp <;> omega
 ·simp
theorem uo(os:List Ord)(ls:List jM):(os.foldl ji ls).length<=ls.length+os.length:=by
 induction os generalizing ls with
 | nil=>simp
 | cons o os ih =>
   have h1:=ih (ji ls o)
   have h2:=BQ ls o
   simp only[List.foldl_cons,List.length_cons]
   omega
theorem jW{W:World}{g k:Nat}{cs:Array Value}{ini:List jM}{l:jM}(hb:az W g cs 93)(hk:ini.length=k)(h6:cs.toList.take ((k+1) * 3)=kG (ini++[l]))(c:Nat)(hc:c<3) :
 W.cell? ⟨g,k * 3+c,none⟩=(l.cells)[c]?:=by
 rw[hb.cell]
 have h:=XL (ini++[l]) k c (by simp;omega) hc
 rw[<-h6,List.getElem?_take,if_pos (by omega),Array.getElem?_toList]at h
 rw[show k * 3+c=3 * k+c from by omega,h]
 simp[<-hk]
theorem zN(ini:List jM)(l:jM):kG (ini++[l])=kG ini++l.cells:=by
 simp[kG,List.flatMap_append]
theorem Uu{cs:Array Value}{k:Nat}{ini:List jM}{l:jM}(hk:ini.length=k)(h6:cs.toList.take ((k+1) * 3)=kG (ini++[l]))(q n:Int) :
 ((cs.setIfInBounds (k * 3+1) (.int .i64 q)).setIfInBounds (k * 3+2) (.int .i64 n)).toList.take ((k+1) * 3)=kG (ini++[⟨l.af,q,n⟩]):=by
 have hl:(kG ini).length=k * 3:=by rw[rC,hk];omega
 rw[Array.toList_setIfInBounds,Array.toList_setIfInBounds,List.take_set,List.take_set,h6,zN,zN]
 rw[List.set_append_right _ _ (by omega),List.set_append_right _ _ (by omega),hl,show k * 3+1-k * 3=1 from by omega,show k * 3+2-k * 3=2 from by omega]
 rfl
theorem nY(ini:List jM)(l:jM)(o:Ord)(h:l.af=o.af):ji (ini++[l]) o=ini++[⟨l.af,wrap64 (l.aI+o.aK),wrap64 (l.num+1)⟩]:=by
 unfold ji
 rw[List.getLast?_concat]
 simp[h]
theorem mJ(ini:List jM)(l:jM)(o:Ord)(h:¬l.af=o.af):ji (ini++[l]) o=(ini++[l])++[⟨o.af,wrap64 o.aK,1⟩]:=by
 unfold ji
 rw[List.getLast?_concat]
 simp[h]
theorem mZ.write{n₀:Nat}{W:World}{g cap k:Nat}{cs:Array Value}{ini:List jM}{l:jM}(hk:ini.length=k)(h1:n₀<=g)(h2:az W g cs 93)(h3:k+1<=cap)(h4:cap<=maxLen)(h5:cs.size=cap * 3)(h6:cs.toList.take ((k+1) * 3)=kG (ini++[l]))(q n:Int) :
 mZ n₀ ((W.setCell ⟨g,k * 3+1,none⟩ (.int .i64 q)).setCell ⟨g,k * 3+2,none⟩ (.int .i64 n)) (.slice (some ⟨g,0,none⟩) (k+1) cap) (ini++[⟨l.af,q,n⟩]):=by
 have hl:(ini++[(⟨l.af,q,n⟩:jM)]).length=k+1:=by simp[hk]
 refine .inr ⟨g,cap,_,by rw[hl],h1,(h2.set _ _).set _ _,by rw[hl];exact h3,h4,by simpa using h5,?_,by rw[hl];omega⟩
 rw[hl]
 exact Uu hk h6 q n
theorem mZ.drew{n₀:Nat}{W:World}{v:Value}{ls:List jM}(h:mZ n₀ W v ls):mZ n₀ W.drew v ls:=by
 rcases h with h|⟨g,cap,cs,e,h1,h2,h3⟩
 ·exact .inl h
 ·exact .inr ⟨g,cap,cs,e,h1,h2.drew,h3⟩
theorem og{W:World}{base e size n:Nat}{v:Value}{xs:List Value}(h:W.ownsRow base e size v n xs)(h0:0<n):∃g cap,v=.slice (some ⟨g,0,none⟩) n cap:=by
 rcases h.2 with⟨_,h0⟩|⟨g,cap,_,rfl,_⟩
 ·omega
 ·exact⟨g,cap,rfl⟩
theorem VK(w:World)(p:Int):∀j u,([Value.int .i64 p,.int .i64 0,.int .i64 0]:List Value)[j]?=some u->(w.alloc (.cells #[.int .i64 p,.int .i64 0,.int .i64 0] 93)).cell? (Addr.add ⟨w.heap.size,0,none⟩ j)=some u:=by
 intro j u hj
 have hb:=az.new w #[.int .i64 p,.int .i64 0,.int .i64 0] 93
 match j,hj with
 | 0,hj=>rw[<-hj];exact hb.cell 0
 | 1,hj=>rw[<-hj];exact hb.cell 1
 | 2,hj=>rw[<-hj];exact hb.cell 2
 | j+3,hj=>simp at hj
theorem JB(bb s:Nat)(B:Bk)(om:Nat->Ord)(w:World)(hb:bU w bb B om)(hs:s<2)(hside:∀j,j<B.n s->(om (B.h s j)).side=(s:Int)) :
 Calls Tryz.prog 48 #[.pointer (some ⟨bb,0,none⟩),.int .i64 s] w fun e w'=>∃v,e=.returned v/\yT om (B.n s) (B.h s) w v w':=by
 obtain⟨hP,hO,hn⟩:=(hb.side s hs).uP
 have hlt:=hb.aB.lt
 have hcs:=hb.FM hs
 clear hb
 have HS:=ai (show ∀w1,w1=w.alloc (.cells #[.slice (B.sl s) (B.n s) (B.cap s)] 155)->Calls Tryz.prog 81 #[.func (.func 129) #[] #[.pointer (some ⟨w.heap.size,0,none⟩)],.func (.func 83) #[] #[]] w1 fun e w'=>∃v,e=.returned v/\uA (B.n s) (B.h s) om w1 v w' from by
  rintro w1 rfl
  have hB:Below w.heap.size w (w.alloc (.cells #[.slice (B.sl s) (B.n s) (B.cap s)] 155)):=(Below.refl _ w).alloc (Nat.le_refl _) _
  refine Aq w.heap.size (B.sl s) (B.n s) (B.cap s) (B.h s) om s (by omega) _ (by simp) ((az.new _ _ _).cell 0) ?_ ?_
  ·rcases hP with h|⟨b,h1,h2,h3⟩
   ·exact .inl h
   ·exact .inr ⟨b,h1,by simp;omega,fun j hj=>(hB.cell (p:=⟨b,j,none⟩) h2).trans (h3 j hj)⟩
  ·intro j hj
   obtain⟨ix,ho⟩:=hO j hj
   exact⟨⟨ix,az.alloc ho _⟩,hside j hj⟩)
 clear hP
 generalize B.sl s=sl at *
 generalize B.cap s=cap at *
 generalize hnn:B.n s=n at *
 generalize hhh:B.h s=h at *
 clear hnn hhh
 have hs0:(0:Int)<=s:=by omega
 have hs2:(s:Int)<2:=by omega
 go_enter Tryz.func48,Tryz.ntmps48
 go_wp2_with (first|(go_at_call 82;refine (Kz _ _ _ _).mono ?_;rintro e w1 ⟨rfl,rfl⟩)|(go_at_call 81;refine (ae HS _ rfl).mono ?_;clear HS;rintro e w2 ⟨v,rfl,ys,hp1,hp2,hp3,hp4⟩;obtain⟨va,vc,rfl,Xj⟩:=hp3.form))
 have HB:Hid (Below w.heap.size w w2):=((Below.refl _ w).alloc (Nat.le_refl _) _).trans (hp4.mono (by simp))
 have HY:Hid (IY om n h ys):=⟨hp1,hp2⟩
 have HO:Hid (∀x,x∈ys->∃ix,df w2 x (om x) ix):=by
  intro x hx
  have:=hp1.mem_iff.1 hx
  simp only[upto,List.mem_map,List.mem_range]at this
  obtain⟨j,hj,rfl⟩:=this
  obtain⟨ix,ho⟩:=hO j hj
  exact⟨ix,(HB.out.block (h j) ho.lt).trans ho⟩
 have hyn:ys.length<=1000:=by rw[hp1.length_eq,lU];exact hn
 have HP:=ai Xj
 clear hp1 hp2 hp3 hp4 Xj hO hside hcs
 go_loopg [6,8,9,20] ys.length (fun k lv _ _ iv wr=>∃i:Nat,iv=.int .i64 (i:Int)/\i<=ys.length/\k=ys.length-i/\mZ (w2.heap.size) wr lv (iO (gU om (ys.take i)))/\Below w2.heap.size w2 wr)
 case atStart=>exact⟨0,rfl,Nat.zero_le _,rfl,.inl ⟨rfl,by simp[gU,iO]⟩,Below.refl _ _⟩
 case round =>
  obtain⟨i,rfl,hi,hgk,hlv,hbw⟩:=hrel
  by_cases hlt:i<ys.length
  ·have hx:ys.getD i 0∈ys:=by rw[List.getD_eq_getElem?_getD,List.getElem?_eq_getElem hlt];exact List.getElem_mem hlt
   obtain⟨b,rfl,hb1,hb3⟩:∃b,va=some ⟨b,0,none⟩/\b<w2.heap.size/\w2.cell? ⟨b,i,none⟩=some (tN (ys.getD i 0)):=by
    rcases ae HP with⟨_,rfl⟩|⟨b,e,_,hc⟩
    ·exact absurd hlt (by simp)
    ·exact⟨b,e,World.block_lt_of_cell? w2 ⟨b,i,none⟩ (hc i hlt),hc i hlt⟩
   have Xl:wr.cell? ⟨b,i,none⟩=some (.pointer (some ⟨ys.getD i 0,0,none⟩)):=(hbw.cell (p:=⟨b,i,none⟩) hb1).trans hb3
   obtain⟨ix,ho2⟩:=ae HO _ hx
   have hxl:ys.getD i 0<w2.heap.size:=ho2.lt
   have ho:df wr (ys.getD i 0) (om (ys.getD i 0)) ix:=(hbw.block _ hxl).trans ho2
   have HT:=ai (Gt om ys i hlt)
   generalize ys.getD i 0=x at *
   generalize hls:iO (gU om (ys.take i))=ls at *
   have o5:=ho.cell 5
   have o8:=ho.cell 8
   simp only[Ord.cells]at o5 o8
   simp at o5 o8
   clear hb3 ho2 hx
   have HI:=ai ho
   clear ho
   have hll:ls.length<=1000:=by
    have:=uo (gU om (ys.take i)) []
    rw[show (gU om (ys.take i)).foldl ji []=ls from hls]at this
    simp[gU]at this
    omega
   clear hls
   rcases List.eq_nil_or_concat ls with rfl|⟨ini,l,rfl⟩
   ·obtain rfl:u6=.slice none 0 0:=by
     rcases hlv with⟨h,_⟩|⟨g,zn,cs,e,h1,h2,h3,h4,h5,h6,h7⟩
     ·exact h
     ·simp at h7
    clear hlv hll
    go_wp2
    go_quiet (fail)
    have hmx:0+1<=maxLen:=by unfold maxLen;omega
    have hbs:w2.heap.size<=wr.heap.size:=hbw.size
    obtain⟨w3,hw3⟩:∃w3,w3=wr.drewN nq:=⟨_,rfl⟩
    rw[<-hw3]
    have o53:w3.cell? ⟨x,5,none⟩=some (.int .i64 (om x).af):=by rw[hw3];exact o5
    have Xa:w2.heap.size<=w3.heap.size:=by rw[hw3];exact hbs
    have HI3:Hid (df w3 x (om x) ix):=by rw[hw3];exact (ae HI).drewN _
    have HB3:Hid (Below w2.heap.size w2 w3):=by rw[hw3];exact⟨hbw.os,hbw.tape,hbw.output,hbw.size,hbw.block⟩
    clear hw3 hbs o5 o8 Xl
    obtain⟨i0,hi0,hz0,hz1,hz2⟩:=info_parts P8
    go_wp2_with (at_builtin;refine wpList_append_own _ rfl _ _ 63 rfl w2.heap.size 93 i0 (.agg #[.int .i64 0,.int .i64 0,.int .i64 0]) 3 24 Tryz.underlying63 hi0 hz0 hz1 hz2 rfl (by decide) _ 0 [] rfl (World.ownsRow_nil _ _ _ _) ⟨w3.heap.size,0,none⟩ 1 1 [.int .i64 (om x).af,.int .i64 0,.int .i64 0] rfl rfl (VK _ _) (by simp[Value.oneCell']) hmx (by omega) (by simp;omega) ?_;intro v' w4 hown' hgrow hnil;clear hnil;obtain⟨g',cap',rfl⟩:=og hown' (by omega))
    change (w3.alloc _).grownBy w4 none at hgrow
    have PW:df w4 x (om x) ix:=(hgrow.block x (by simp;omega) (by simp)).trans (az.alloc (ae HI3) _)
    have HB4:Hid (Below w2.heap.size w2 w4):=((ae HB3).alloc Xa _).grown hgrow (by simp;omega) (fun k e=>by cases e)
    have o84:=PW.cell 8
    simp only[Ord.cells]at o84
    simp at o84
    obtain⟨cs2,hh1,hh2,hh3,hh4,hh5,TV⟩:∃cs2,w2.heap.size<=g'/\az w4 g' cs2 93/\0+1<=cap'/\cap'<=maxLen/\cs2.size=cap' * 3/\cs2.toList.take ((0+1) * 3)=kG ([]++[⟨(om x).af,0,0⟩]):=by
     rcases hown'.2 with⟨h,_⟩|⟨g2,cap2,cs2,e2,h1,h2,h3,h4,h5,h6⟩
     ·cases h
     ·cases e2
      exact⟨cs2,h1,h2,h3,h4,h5,h6⟩
    have c1:=jW (k:=0) (ini:=[]) (l:=⟨(om x).af,0,0⟩) hh2 rfl TV 1 (by omega)
    have c2:=jW (k:=0) (ini:=[]) (l:=⟨(om x).af,0,0⟩) hh2 rfl TV 2 (by omega)
    simp only[jM.cells]at c1 c2
    simp at c1 c2
    have f1:=hh2.frozen 1
    have f2:=hh2.frozen 2
    have abl:x≠g':=by omega
    have G2':=ai hh2
    have G6':=ai TV
    have HH5:=ai hh5
    clear hown' hgrow PW hh2 TV HI3 hi0 hz0 hz1 hz2 o53 hh5 hmx
    go_region
    go_wp2
    go_roundg (ys.length-(i+1))
    case measure=>omega
    case rel =>
     refine⟨i+1,by push_cast;rfl,by omega,rfl,?_,?_⟩
     ·rw[ae HT]
      exact (mZ.write (k:=0) (ini:=[]) rfl hh1 (ae G2') hh3 hh4 (ae HH5) (ae G6') (wrap64 (om x).aK) 1).drew
     ·have h8:=((ae HB4).setCell (p:=⟨g',1,none⟩) hh1 (.int .i64 (wrap64 (om x).aK))).setCell (p:=⟨g',2,none⟩) hh1 (.int .i64 1)
      exact⟨h8.os,h8.tape,h8.output,h8.size,h8.block⟩
   ·obtain⟨g,zn,cs,rfl,hg1,hg2,hg3,hg4,hg5,Oo⟩:∃g zn cs,u6=.slice (some ⟨g,0,none⟩) (ini.length+1) zn/\w2.heap.size<=g/\az wr g cs 93/\ini.length+1<=zn/\zn<=maxLen/\cs.size=zn * 3/\cs.toList.take ((ini.length+1) * 3)=kG (ini++[l]):=by
     rw[List.concat_eq_append]at hlv
     rcases hlv with⟨_,h⟩|⟨g,zn,cs,e,h1,h2,h3,h4,h5,h6,_⟩
     ·simp at h
     ·simp only[List.length_append,List.length_cons,List.length_nil]at e h3 h6
      exact⟨g,zn,cs,e,h1,h2,h3,h4,h5,h6⟩
    rw[List.concat_eq_append]at HT hll
    simp only[List.length_append,List.length_cons,List.length_nil]at hll
    obtain⟨k,hk⟩:∃k,ini.length=k:=⟨_,rfl⟩
    obtain⟨m,hm⟩:∃m,ini.length+1=m:=⟨_,rfl⟩
    have hkm:k<m:=by omega
    have hm1:m<=1000:=by omega
    rw[hm]at hg3 Oo ⊢
    rw[<-hm,hk]at Oo
    have c0:=jW hg2 hk Oo 0 (by omega)
    have c1:=jW hg2 hk Oo 1 (by omega)
    have c2:=jW hg2 hk Oo 2 (by omega)
    simp only[jM.cells,Nat.add_zero]at c0 c1 c2
    simp at c0 c1 c2
    have hw:(m:Int)-1=k:=by omega
    have hk0:decide ((k:Int)<0)=false:=by simp
    have f1:=hg2.frozen (k * 3+1)
    have f2:=hg2.frozen (k * 3+2)
    have hgx:x≠g:=by omega
    have hrow:wr.ownsRow w2.heap.size 93 3 (.slice (some ⟨g,0,none⟩) m zn) m (kG (ini++[l])):=⟨by rw[rC];simp;omega,.inr ⟨g,zn,cs,rfl,hg1,hg2,hg3,hg4,hg5,by rw[<-Oo];congr 1;omega⟩⟩
    have G2:=ai hg2
    have G5:=ai hg5
    have G6:=ai Oo
    clear hg2 hg5 Oo hlv
    by_cases hpr:l.af=(om x).af
    ·clear hrow
     go_wp2
     have hne:(l.af != (om x).af)=false:=by simp[hpr]
     have YK:=ai hpr
     clear hpr
     go_quiet (fail)
     go_wp2
     go_region
     go_wp2
     go_roundg (ys.length-(i+1))
     case measure=>omega
     case rel =>
      have hkk:k+1=m:=by omega
      refine⟨i+1,by push_cast;rfl,by omega,rfl,?_,?_⟩
      ·rw[ae HT,nY ini l _ (ae YK),<-hkk]
       exact mZ.write hk hg1 ((ae G2).drewN _) (by omega) hg4 (ae G5) (ae G6) _ _
      ·have h9:Below w2.heap.size w2 (wr.drewN (nq+1)):=⟨hbw.os,hbw.tape,hbw.output,hbw.size,hbw.block⟩
       exact (h9.setCell (p:=⟨g,k * 3+1,none⟩) hg1 _).setCell (p:=⟨g,k * 3+2,none⟩) hg1 _
    ·have hne:(l.af != (om x).af)=true:=by simp[hpr]
     have YK:=ai hpr
     have HR:=ai hrow
     clear hpr hrow
     go_wp2
     go_quiet (fail)
     have tC:(m+1) * 24<=140737488355328:=by omega
     have hmx:m+1<=maxLen:=by unfold maxLen;omega
     have hbs:w2.heap.size<=wr.heap.size:=hbw.size
     obtain⟨w3,hw3⟩:∃w3,w3=wr.drewN nq:=⟨_,rfl⟩
     rw[<-hw3]
     have o53:w3.cell? ⟨x,5,none⟩=some (.int .i64 (om x).af):=by rw[hw3];exact o5
     have o83:w3.cell? ⟨x,8,none⟩=some (.int .i64 (om x).aK):=by rw[hw3];exact o8
     have HR3:Hid (w3.ownsRow w2.heap.size 93 3 (.slice (some ⟨g,0,none⟩) m zn) m (kG (ini++[l]))):=by rw[hw3];exact ae HR
     have Xa:w2.heap.size<=w3.heap.size:=by rw[hw3];exact hbs
     have HI3:Hid (df w3 x (om x) ix):=by rw[hw3];exact (ae HI).drewN _
     have HB3:Hid (Below w2.heap.size w2 w3):=by rw[hw3];exact⟨hbw.os,hbw.tape,hbw.output,hbw.size,hbw.block⟩
     clear hw3 hbs o5 o8 c0 c1 c2 f1 f2 Xl
     have hk1:(k:Int)+1=m:=by omega
     obtain⟨i0,hi0,hz0,hz1,hz2⟩:=info_parts P8
     go_wp2_with (at_builtin;refine wpList_append_own _ rfl _ _ 63 rfl w2.heap.size 93 i0 (.agg #[.int .i64 0,.int .i64 0,.int .i64 0]) 3 24 Tryz.underlying63 hi0 hz0 hz1 hz2 rfl (by decide) _ m _ rfl ((ae HR3).alloc _) ⟨w3.heap.size,0,none⟩ 1 1 [.int .i64 (om x).af,.int .i64 0,.int .i64 0] rfl rfl (VK _ _) (by simp[Value.oneCell']) hmx tC (by simp;omega) ?_;intro v' w4 hown' hgrow hnil;clear hnil;obtain⟨m',hm'⟩:∃m',m+1=m':=⟨_,rfl⟩;rw[hm']at hown';obtain⟨g',cap',rfl⟩:=og hown' (by omega);have hmm:m<m':=by omega)
     change (w3.alloc _).grownBy w4 (some g) at hgrow
     have PW:df w4 x (om x) ix:=(hgrow.block x (by simp;omega) (by simp;omega)).trans (az.alloc (ae HI3) _)
     have HB4:Hid (Below w2.heap.size w2 w4):=((ae HB3).alloc Xa _).grown hgrow (by simp;omega) (fun k e=>by cases e;exact hg1)
     have o84:=PW.cell 8
     simp only[Ord.cells]at o84
     simp at o84
     obtain⟨cs2,hh1,hh2,hh3,hh4,hh5,TV⟩:∃cs2,w2.heap.size<=g'/\az w4 g' cs2 93/\m'<=cap'/\cap'<=maxLen/\cs2.size=cap' * 3/\cs2.toList.take ((m+1) * 3)=kG ((ini++[l])++[⟨(om x).af,0,0⟩]):=by
      rcases hown'.2 with⟨h,_⟩|⟨g2,cap2,cs2,e2,h1,h2,h3,h4,h5,h6⟩
      ·cases h
      ·cases e2
       exact⟨cs2,h1,h2,h3,h4,h5,by rw[zN,hm'];exact h6⟩
     have hil:(ini++[l]).length=m:=by simp;omega
     have c1:=jW hh2 hil TV 1 (by omega)
     have c2:=jW hh2 hil TV 2 (by omega)
     simp only[jM.cells]at c1 c2
     simp at c1 c2
     have f1:=hh2.frozen (m * 3+1)
     have f2:=hh2.frozen (m * 3+2)
     have abl:x≠g':=by omega
     have G2':=ai hh2
     have G6':=ai TV
     have HM:=ai hm'
     have HH5:=ai hh5
     have HM1:=ai hm
     clear hown' hgrow PW hh2 TV HI3 HR3 HR hi0 hz0 hz1 hz2 o53 o83 hne hk0 hk1 hw hm' hm hh5 tC hmx hk hil
     go_region
     go_wp2
     go_roundg (ys.length-(i+1))
     case measure=>omega
     case rel =>
      refine⟨i+1,by push_cast;rfl,by omega,rfl,?_,?_⟩
      ·rw[ae HT,mJ ini l _ (ae YK),<-ae HM]
       exact (mZ.write (by have:=ae HM1;simp;omega) hh1 (ae G2') (by have:=ae HM;omega) hh4 (ae HH5) (ae G6') _ _).drew
      ·have h8:=((ae HB4).setCell (p:=⟨g',m * 3+1,none⟩) hh1 (.int .i64 (wrap64 (om x).aK))).setCell (p:=⟨g',m * 3+2,none⟩) hh1 (.int .i64 1)
       exact⟨h8.os,h8.tape,h8.output,h8.size,h8.block⟩
  ·obtain rfl:i=ys.length:=by omega
   go_wp2
   go_ret
   exact⟨_,rfl,ys,ae HY,(by rw[List.take_length]at hlv;exact hlv.base (ae HB).size),(ae HB).trans (hbw.mono (ae HB).size)⟩
def uS(om:Nat->Ord)(h:Nat->Nat)(o:iL):Nat->Int
 | 0=>0
 | k+1=>uS om h o k+(if (om (h k)).aA≠o.aA/\iJ o.kind o.side o.af (om (h k)).af=true then (om (h k)).aK else 0)
theorem Rn(om:Nat->Ord)(h:Nat->Nat)(o:iL)(n:Nat)(hb:∀k,k<n->0<=(om (h k)).aK/\(om (h k)).aK<=1000000000000000):∀k,k<=n->0<=uS om h o k/\uS om h o k<=k * 1000000000000000
 | 0,_=>by simp[uS]
 | k+1,hk=>by
   have h1:=Rn om h o n hb k (by omega)
   have h2:=hb k (by omega)
   unfold uS
   split <;> (push_cast;omega)
theorem UD(s:Nat)(w:World)(hs:s<2):Calls Tryz.prog 154 #[.int .i64 (1-(s:Int))] w fun e w'=>e=.returned (.int .i64 (s:Int))/\w'=w:=by
 have:=lh (1-(s:Int)) w (by omega) (by omega)
 rwa [show (1:Int)-(1-s)=s from by omega]at this
theorem J7(bb s:Nat)(B:Bk)(om:Nat->Ord)(o:iL)(w:World)(hb:bU w bb B om)(hs:s<2)(ho:o.side=1-(s:Int))(hop:∀k,k<B.n s->0<=(om (B.h s k)).aK/\(om (B.h s k)).aK<=1000000000000000) :
 Calls Tryz.prog 147 #[.pointer (some ⟨bb,0,none⟩),o.val] w fun e w'=>e=.returned (.int .i64 (uS om (B.h s) o (B.n s)))/\au aP w w':=by
 obtain⟨hP,hO,hn⟩:=(hb.side s hs).uP
 have hlt:=hb.aB.lt
 have hcs:=hb.FM hs
 clear hb
 generalize B.sl s=sl at *
 generalize B.cap s=cap at *
 generalize hnn:B.n s=n at *
 generalize hhh:B.h s=h at *
 clear hnn hhh
 have HP:=ai hP
 have HO:=ai hO
 have HOP:=ai hop
 clear hP hO hop
 have hs0:(0:Int)<=s:=by omega
 have hs2:(s:Int)<2:=by omega
 obtain⟨id,aA,sym,side,kind,af,aI⟩:=o
 simp only at ho
 subst ho
 simp only[iL.val]
 go_enter Tryz.func147,Tryz.ntmps147
 go_wp2
 go_quiet ((go_at_call 154;exact Calls.quiet_of_same (UD _ _ hs)))
 go_wp2
 obtain⟨w1,hw1⟩:∃w1,w1=(w.alloc (.cells #[.int .i64 id,.int .i64 aA,.string sym,.int .i64 (1-(s:Int)),.int .i64 kind,.int .i64 af,.int .i64 aI] 52)).drewN nq:=⟨_,rfl⟩
 rw[<-hw1]
 have Og:Hid (au aP w w1):=by rw[hw1];exact ((au.refl _ w).alloc _).drewN _
 have HB1:Hid (az w1 w.heap.size #[.int .i64 id,.int .i64 aA,.string sym,.int .i64 (1-(s:Int)),.int .i64 kind,.int .i64 af,.int .i64 aI] 52):=by rw[hw1];exact (az.new w _ _).drewN _
 clear hw1 hcs
 obtain⟨sd,hsd⟩:∃sd,1-(s:Int)=sd:=⟨_,rfl⟩
 rw[hsd]at HB1 ⊢
 have HSD:=ai hsd
 clear hsd
 obtain⟨H,hH⟩:∃H,w.heap.size=H:=⟨_,rfl⟩
 rw[hH]at HB1 ⊢
 have HH:=ai hH
 clear hH
 go_loopg [5,7,17] n (fun k sv _ iv wr=>∃i:Nat,iv=.int .i64 (i:Int)/\i<=n/\k=n-i/\sv=.int .i64 (uS om h ⟨id,aA,sym,sd,kind,af,aI⟩ i)/\au aP w1 wr)
 case atStart=>exact⟨0,rfl,Nat.zero_le _,rfl,rfl,au.refl _ _⟩
 case round =>
  obtain⟨i,rfl,hi,hgk,rfl,hc⟩:=hrel
  by_cases hin:i<n
  ·obtain⟨ab,rfl,Xl⟩:∃ab,sl=some ⟨ab,0,none⟩/\wr.cell? ⟨ab,i,none⟩=some (.pointer (some ⟨h i,0,none⟩)):=by
    rcases ae HP with⟨_,h0,_⟩|⟨ab,e,_,hc2⟩
    ·omega
    ·exact⟨ab,e,hc.cell (p:=⟨ab,i,none⟩) ((ae Og).cell (p:=⟨ab,i,none⟩) (hc2 i hin) (fun x=>x)) (fun x=>x)⟩
   obtain⟨ix,hor⟩:=ae HO i hin
   have hor:=hc.aB ((ae Og).aB hor (fun x=>x)) (fun x=>x)
   have hbx:=hc.aB (ae HB1) (fun x=>x)
   have hbd:=Rn om h ⟨id,aA,sym,sd,kind,af,aI⟩ n (ae HOP) i hi
   have hob:=ae HOP i hin
   have HSF:Hid (uS om h ⟨id,aA,sym,sd,kind,af,aI⟩ (i+1)=uS om h ⟨id,aA,sym,sd,kind,af,aI⟩ i+(if (om (h i)).aA≠aA/\iJ kind sd af (om (h i)).af=true then (om (h i)).aK else 0)):=rfl
   generalize h i=x at *
   generalize hS:uS om h ⟨id,aA,sym,sd,kind,af,aI⟩ i=S at *
   clear hS
   have o1:wr.cell? ⟨x,1,none⟩=some (.int .i64 (om x).aA):=hor.cell 1
   have o5:wr.cell? ⟨x,5,none⟩=some (.int .i64 (om x).af):=hor.cell 5
   have o8:wr.cell? ⟨x,8,none⟩=some (.int .i64 (om x).aK):=hor.cell 8
   have b0:wr.cell? ⟨H,0,none⟩=some (.int .i64 id):=hbx.cell 0
   have b1:wr.cell? ⟨H,1,none⟩=some (.int .i64 aA):=hbx.cell 1
   have b2:wr.cell? ⟨H,2,none⟩=some (.string sym):=hbx.cell 2
   have b3:wr.cell? ⟨H,3,none⟩=some (.int .i64 sd):=hbx.cell 3
   have b4:wr.cell? ⟨H,4,none⟩=some (.int .i64 kind):=hbx.cell 4
   have b5:wr.cell? ⟨H,5,none⟩=some (.int .i64 af):=hbx.cell 5
   have b6:wr.cell? ⟨H,6,none⟩=some (.int .i64 aI):=hbx.cell 6
   have HI:=ai hor
   clear hor hbx
   by_cases hown:(om x).aA=aA
   ·have hne:((om x).aA != aA)=false:=by simp[hown]
    have HOW:=ai hown
    clear hown
    go_wp2
    go_quiet (fail)
    go_wp2
    go_roundg (n-(i+1))
    case measure=>omega
    case rel=>exact⟨i+1,by push_cast;rfl,by omega,rfl,by rw[ae HSF,if_neg (fun h=>h.1 (ae HOW)),Int.add_zero],hc.drewN _⟩
   ·have hne:((om x).aA != aA)=true:=by simp[hown]
    have HOW:=ai hown
    clear hown
    cases GG:iJ kind sd af (om x).af
    ·go_wp2
     go_region_held3 (fun w'=>w'.cell? ⟨H,0,none⟩=some (.int .i64 id)/\w'.cell? ⟨H,1,none⟩=some (.int .i64 aA)/\w'.cell? ⟨H,2,none⟩=some (.string sym)/\w'.cell? ⟨H,3,none⟩=some (.int .i64 sd)/\w'.cell? ⟨H,4,none⟩=some (.int .i64 kind)/\w'.cell? ⟨H,5,none⟩=some (.int .i64 af)/\w'.cell? ⟨H,6,none⟩=some (.int .i64 aI)/\w'.cell? ⟨x,1,none⟩=some (.int .i64 (om x).aA)/\w'.cell? ⟨x,5,none⟩=some (.int .i64 (om x).af)) (go_keep)
      (first|(go_at_call 155;refine (o9 ⟨id,aA,sym,sd,kind,af,aI⟩ _ _).mono ?_;rintro e w3 ⟨rfl,hc3⟩;rw[GG];have k0:=hc3.cell (p:=⟨H,0,none⟩) b0 (fun x=>x);have k1:=hc3.cell (p:=⟨H,1,none⟩) b1 (fun x=>x);have k2:=hc3.cell (p:=⟨H,2,none⟩) b2 (fun x=>x);have k3:=hc3.cell (p:=⟨H,3,none⟩) b3 (fun x=>x);have k4:=hc3.cell (p:=⟨H,4,none⟩) b4 (fun x=>x);have k5:=hc3.cell (p:=⟨H,5,none⟩) b5 (fun x=>x);have k6:=hc3.cell (p:=⟨H,6,none⟩) b6 (fun x=>x);have k7:=hc3.cell (p:=⟨x,1,none⟩) o1 (fun x=>x);have k8:=hc3.cell (p:=⟨x,5,none⟩) o5 (fun x=>x)))
     go_wp2
     go_roundg (n-(i+1))
     case measure=>omega
     case rel=>exact⟨i+1,by push_cast;rfl,by omega,rfl,by rw[ae HSF,if_neg (fun h=>by have:=h.2;rw[GG]at this;cases this),Int.add_zero],au.trans (by repeat (first|exact hc|refine au.drewN ?_ _|refine au.drew ?_)) hc3⟩
    ·have hwr:wrap64 (S+(om x).aK)=S+(om x).aK:=aS (by omega) (by omega)
     go_wp2
     go_region_held3 (fun w'=>w'.cell? ⟨H,0,none⟩=some (.int .i64 id)/\w'.cell? ⟨H,1,none⟩=some (.int .i64 aA)/\w'.cell? ⟨H,2,none⟩=some (.string sym)/\w'.cell? ⟨H,3,none⟩=some (.int .i64 sd)/\w'.cell? ⟨H,4,none⟩=some (.int .i64 kind)/\w'.cell? ⟨H,5,none⟩=some (.int .i64 af)/\w'.cell? ⟨H,6,none⟩=some (.int .i64 aI)/\w'.cell? ⟨x,1,none⟩=some (.int .i64 (om x).aA)/\w'.cell? ⟨x,5,none⟩=some (.int .i64 (om x).af)) (go_keep)
      (first|(go_at_call 155;refine (o9 ⟨id,aA,sym,sd,kind,af,aI⟩ _ _).mono ?_;rintro e w3 ⟨rfl,hc3⟩;rw[GG];have k0:=hc3.cell (p:=⟨H,0,none⟩) b0 (fun x=>x);have k1:=hc3.cell (p:=⟨H,1,none⟩) b1 (fun x=>x);have k2:=hc3.cell (p:=⟨H,2,none⟩) b2 (fun x=>x);have k3:=hc3.cell (p:=⟨H,3,none⟩) b3 (fun x=>x);have k4:=hc3.cell (p:=⟨H,4,none⟩) b4 (fun x=>x);have k5:=hc3.cell (p:=⟨H,5,none⟩) b5 (fun x=>x);have k6:=hc3.cell (p:=⟨H,6,none⟩) b6 (fun x=>x);have k7:=hc3.cell (p:=⟨x,1,none⟩) o1 (fun x=>x);have k8:=hc3.cell (p:=⟨x,5,none⟩) o5 (fun x=>x);have k9:=hc3.cell (p:=⟨x,8,none⟩) o8 (fun x=>x)))
     go_wp2
     go_roundg (n-(i+1))
     case measure=>omega
     case rel=>exact⟨i+1,by push_cast;rfl,by omega,rfl,by rw[ae HSF,if_pos ⟨ae HOW,GG⟩],au.trans (by repeat (first|exact hc|refine au.drewN ?_ _|refine au.drew ?_)) hc3⟩
  ·obtain rfl:i=n:=by omega
   go_wp2
   go_ret
   exact⟨by rw[ae HSD];rfl,(ae Og).trans hc⟩
def zg(jR:Int)(again:Bool):ByteArray:=gY (uw jR (if again then 1 else 0)) Dw 2
theorem zL(jR:Int)(again:Bool)(w:World)(hT:oC w)(h:gW jR) :
 Calls Tryz.prog 72 #[.int .i64 jR,.bool again] w fun e w'=>e=.returned (.string (zg jR again))/\au aP w w':=by
 have key:∀z:Int,gW z->Calls Tryz.prog 65 #[.string ⟨#[98,117,115,116]⟩,.slice (some ⟨w.heap.size,0,none⟩) 2 2] (w.alloc (.cells #[.int .i64 jR,.int .i64 z] 3)) fun e w'=>e=.returned (.string (gY (uw jR z) Dw 2))/\au aP w w':=by
  intro z hz
  have k0:au aP w (w.alloc (.cells #[.int .i64 jR,.int .i64 z] 3)):=(au.refl aP w).alloc _
  have b0:=az.new w #[.int .i64 jR,.int .i64 z] 3
  refine (qp Dw (uw jR z) w.heap.size 2 2 _ (hT.aH k0) (by omega) (by decide) ?_ ?_).mono ?_
  ·intro i hi
   match i,hi with
   | 0,_=>exact b0.cell 0
   | 1,_=>exact b0.cell 1
  ·intro i hi
   match i,hi with
   | 0,_=>exact h
   | 1,_=>exact hz
  ·rintro e w' ⟨rfl,k2⟩
   exact⟨rfl,k0.trans k2⟩
 have K1:=ai (key 1 ⟨by omega,by omega⟩)
 have K0:=ai (key 0 ⟨by omega,by omega⟩)
 clear key hT
 cases again
 ·go_enter Tryz.func72,Tryz.ntmps72
  go_wp2_with (go_at_call 65;refine (ae K0).mono ?_;rintro e w' ⟨rfl,hk⟩;have HK:=ai hk;clear hk)
  go_ret
  exact⟨rfl,ae HK⟩
 ·go_enter Tryz.func72,Tryz.ntmps72
  go_wp2_with (go_at_call 65;refine (ae K1).mono ?_;rintro e w' ⟨rfl,hk⟩;have HK:=ai hk;clear hk)
  go_ret
  exact⟨rfl,ae HK⟩
theorem zh(jR:Int)(again:Bool)(h:gW jR):0<(zg jR again).size/\(zg jR again).size<=290:=by
 have z1:=jA (uw jR (if again then 1 else 0)) Dw 2 (fun i hi=>by
  match i,hi with
  | 0,_=>exact h
  | 1,_=>show gW (if again then 1 else 0);cases again <;> exact⟨by simp,by simp⟩)
 have g1:=vJ (uw jR (if again then 1 else 0)) Dw 2
 have zE:Dw.size=4:=by decide
 rw[zE]at z1 g1
 unfold zg
 omega
theorem JG(jR:Int)(again:Bool)(w:World)(hT:oC w)(h:gW jR) :
 ∀W,au aP w W->Calls Tryz.prog 72 #[.int .i64 jR,.bool again] W fun e w'=>e=.returned (.string (zg jR again))/\au aP w w':=by
 intro W k
 refine (zL jR again W (hT.aH k) h).mono ?_
 rintro e w' ⟨rfl,k2⟩
 exact⟨rfl,k.trans k2⟩
def Dq(a b c:Int)(i:Nat):Int:=if i=0 then a else if i=1 then b else c
theorem qw(word:ByteArray)(f:Nat->Int)(m:Nat)(w:World)(hT:oC w)(h0:0<word.size)(hw:word.size<=100)(hm:m<=8)(hf:∀i,i<m->gW (f i)) :
 (0<(gY f word m).size/\(gY f word m).size<=290)/\∀W,au aP w W->∀sb cap,(∀i,i<m->W.cell? ⟨sb,i,none⟩=some (.int .i64 (f i))) ->
  Calls Tryz.prog 65 #[.string word,.slice (some ⟨sb,0,none⟩) m cap] W fun e w'=>e=.returned (.string (gY f word m))/\au aP w w':=by
 refine⟨?_,fun W k sb cap hc=>?_⟩
 ·have z1:=jA f word m hf
  have g1:=vJ f word m
  omega
 ·refine (qp word f sb m cap W (hT.aH k) (by omega) (by omega) hc hf).mono ?_
  rintro e w' ⟨rfl,k2⟩
  exact⟨rfl,k.trans k2⟩
def jY(l:List Ord)(o:iL):Nat->Option Nat
 | 0=>none
 | i+1=>if ku o (ax l i) then (match jY l o i with
     | none=>some i
     | some b=>if kU (ax l i) (ax l b) then some i else some b) else jY l o i
theorem yZ(l:List Ord)(o:iL):∀i b,jY l o i=some b->b<i
 | 0,b,h=>by simp[jY]at h
 | i+1,b,h=>by
   unfold jY at h
   split at h
   ·split at h
    ·simp at h;omega
    ·rename_i b' hb'
     have:=yZ l o i b' hb'
     split at h <;> simp at h <;> omega
   ·have:=yZ l o i b h;omega
def gz(l:List Ord)(o:iL):Option Nat:=jY l o l.length
end Go.Proofs.YtigaphnafnpfnaaGreatDoor
