import Derived.Test.YtigaphnafnpfnaaGreatDoorQVY4
import Derived.Test.YtigaphnafnpfnaaGreatDoorQVF1
import Derived.Deep.CutRange
import Derived.Test.YtigaphnafnpfnaaGreatDoorQVJ5
set_option linter.unusedVariables false
set_option linter.unusedSimpArgs false
set_option maxHeartbeats 8000000
set_option maxRecDepth 100000
namespace Go.Proofs.YtigaphnafnpfnaaGreatDoor
open Go.RowKit
attribute [local go_sem ↓] Go.wp_at_zero Go.wp_at_succ
theorem NH(s:ByteArray)(i:Nat)(h:i<s.size):Es s i=(s[i]'h).toNat:=by
 show (s.data[i]!).toNat=(s.data[i]'h).toNat
 rw[getElem!_pos s.data i h]
theorem LZ(s:ByteArray)(i:Nat)(w:World)(hi:i<s.size)(hs:s.size≤1000000000) :
 Calls Tryz.prog 197 #[.string s,.int .i64 (i:Int)] w fun e w'=>e=.returned (.tuple #[.int .i64 ((oU s i).1:Int),.int .i64 ((oU s i).2:Int)])∧w'=w:=by
 have HB:=hide (NH s i hi)
 have h0:(s[i].toNat:Int)<256:=by have:=s[i].toNat_lt;omega
 by_cases h1:s[i].toNat<128
 ·have HR:Hid (oU s i=(s[i].toNat,1)):=by show _=_;unfold oU;rw[ae HB,if_pos h1]
  go_enter Tryz.func197,Tryz.ntmps197
  go_wp2
  go_ret2
  exact⟨by rw[ae HR];rfl,rfl⟩
 ·by_cases h2:i+1<s.size
  ·have HB1:=hide (NH s (i+1) h2)
   have h01:(s[i+1].toNat:Int)<256:=by have:=s[i+1].toNat_lt;omega
   by_cases h3:s[i].toNat=206
   ·have e3:((s[i].toNat:Int) == 206)=true:=by simp[h3]
    by_cases h4:145≤s[i+1].toNat
    ·by_cases h5:s[i+1].toNat≤169
     ·have HR:Hid (oU s i=(768+s[i+1].toNat,2)):=by show _=_;unfold oU;rw[ae HB,if_neg h1,ae HB1,if_pos ⟨h2,h3,h4,h5⟩]
      have HH:=hide h3
      clear h3
      go_enter Tryz.func197,Tryz.ntmps197
      go_wp2
      go_ret2
      refine⟨?_,rfl⟩
      rw[ae HR]
      have e:∀x y:Int,x=y→Ending.returned (.tuple #[.int .i64 x,.int .i64 2])=.returned (.tuple #[.int .i64 y,.int .i64 2]):=by rintro _ _ rfl;rfl
      refine e _ _ ?_
      have:=ae HH
      simp only[this]
      push_cast
      omega
     ·have HR:Hid (oU s i=(0,1)):=by show _=_;unfold oU;rw[ae HB,if_neg h1,ae HB1,if_neg (fun h=>h5 h.2.2.2)]
      clear h3
      go_enter Tryz.func197,Tryz.ntmps197
      go_wp2
      go_ret2
      exact⟨by rw[ae HR];rfl,rfl⟩
    ·have HR:Hid (oU s i=(0,1)):=by show _=_;unfold oU;rw[ae HB,if_neg h1,ae HB1,if_neg (fun h=>h4 h.2.2.1)]
     clear h3
     go_enter Tryz.func197,Tryz.ntmps197
     go_wp2
     go_ret2
     exact⟨by rw[ae HR];rfl,rfl⟩
   ·have e3:((s[i].toNat:Int) == 206)=false:=by simp;omega
    have HR:Hid (oU s i=(0,1)):=by show _=_;unfold oU;rw[ae HB,if_neg h1,if_neg (fun h=>h3 h.2.1)]
    clear h3
    go_enter Tryz.func197,Tryz.ntmps197
    go_wp2
    go_ret2
    exact⟨by rw[ae HR];rfl,rfl⟩
  ·have HR:Hid (oU s i=(0,1)):=by show _=_;unfold oU;rw[ae HB,if_neg h1,if_neg (fun h=>h2 h.1)]
   go_enter Tryz.func197,Tryz.ntmps197
   go_wp2
   go_ret2
   exact⟨by rw[ae HR];rfl,rfl⟩
theorem Ba(s:ByteArray)(w:World)(hs:s.size≤1000000000):Calls Tryz.prog 166 #[.string s] w fun e w'=>e=.returned (.bool (nameB s))∧w'=w:=by
 have HX:Hid (∀i,i<s.size→∀W,Calls Tryz.prog 197 #[.string s,.int .i64 (i:Int)] W fun e w'=>e=.returned (.tuple #[.int .i64 ((oU s i).1:Int),.int .i64 ((oU s i).2:Int)])∧w'=W):=fun i hi W=>LZ s i W hi hs
 go_enter Tryz.func166,Tryz.ntmps166
 go_wp2
 go_loopg [3,4] (s.size+1) (fun q nv iv wr=>∃i n:Nat,nv=.int .i64 (n:Int)∧iv=.int .i64 (i:Int)∧wr=w∧jI s q i n=nameB s∧s.size<i+q∧n≤i∧i≤s.size)
 case atStart=>exact⟨0,0,rfl,rfl,rfl,rfl,by omega,by omega,by omega⟩
 case round =>
  obtain⟨i,n,rfl,rfl,rfl,hF,hq,hni,his⟩:=hrel
  obtain⟨q,rfl⟩:∃q,gk=q+1:=by
   cases gk with
   | zero=>exfalso;omega
   | succ q=>exact⟨q,rfl⟩
  by_cases hp:i<s.size
  ·have hF2:jI s (q+1) i n=(if oK (oU s i).1 then jI s q (i+(oU s i).2) (n+1) else false):=by
    conv=>lhs;unfold jI
    rw[if_pos hp]
   obtain⟨b1,b2,b3,b4⟩:=JQ s i
   have b3':=b3 hp
   have HC:=hide (ae HX i hp wr)
   obtain⟨⟨c,k⟩,hd⟩:∃x,oU s i=x:=⟨_,rfl⟩
   rw[hd]at hF2 HC b1 b2 b3' b4
   simp only at hF2 HC b1 b2 b3' b4
   have hcs:(65≤c∧c≤90∧oK c=true)∨(48≤c∧c≤57∧oK c=true)∨(913≤c∧c≤937∧¬c=930∧oK c=true)∨(c=930∧oK c=false)∨(c<48∧oK c=false)∨(57<c∧c<65∧oK c=false)∨(90<c∧c<913∧oK c=false):=by
    by_cases h1:65≤c∧c≤90
    ·left;exact⟨h1.1,h1.2,by simp[oK,h1]⟩
    ·right
     by_cases h2:48≤c∧c≤57
     ·left;exact⟨h2.1,h2.2,by simp[oK,h2]⟩
     ·right
      by_cases h3:c=930
      ·right;left;exact⟨h3,by subst h3;decide⟩
      ·by_cases h4:913≤c∧c≤937
       ·left;exact⟨h4.1,h4.2,h3,by simp[oK,h4,h3]⟩
       ·right;right
        have hu:oK c=false:=by
         simp only[oK,Bool.or_eq_false_iff,Bool.and_eq_false_iff,decide_eq_false_iff_not,Bool.not_eq_false',beq_iff_eq]
         omega
        have:c<48∨(57<c∧c<65)∨(90<c∧c<913):=by omega
        rcases this with h | h | h
        ·left;exact⟨h,hu⟩
        ·right;left;exact⟨h.1,h.2,hu⟩
        ·right;right;exact⟨h.1,h.2,hu⟩
   rw[hF2]at hF
   have HFF:=hide hF
   clear hF hF2 hd b3
   rcases hcs with⟨a1,a2,hu⟩ | ⟨a1,a2,hu⟩ | ⟨a1,a2,a3,hu⟩ | ⟨a1,hu⟩ | ⟨a1,hu⟩ | ⟨a1,a2,hu⟩ | ⟨a1,a2,hu⟩
   all_goals
    have HF3:=ae HFF
    rw[hu]at HF3
    have HR:=hide HF3
    clear HF3 HFF hu
    try (have e3:((c:Int) == 930)=false:=by simp;omega)
    try (have e4:((c:Int) != 930)=true:=by simp;omega)
    try (have e4:((c:Int) != 930)=false:=by simp;omega)
    try (have f90:decide ((c:Int)≤90)=false:=by simp;omega)
    try (have f57:decide ((c:Int)≤57)=false:=by simp;omega)
    go_wp2_with fail
    refine (ae HC).mono ?_
    rintro e w2 ⟨rfl,rfl⟩
    go_wp2
    first
     | (go_ret
        exact⟨by rw[←ae HR];rfl,rfl⟩)
     | (go_roundg q
        case measure=>omega
        case rel=>exact⟨i+k,n+1,by push_cast;rfl,by push_cast;rfl,rfl,ae HR,by omega,by omega,by omega⟩)
  ·have hR:nameB s=(decide (1≤n) && decide (n≤6)):=by
    rw[←hF]
    unfold jI
    rw[if_neg hp]
   have HR:=hide hR
   clear hF hR
   by_cases h1:1≤n
   ·go_wp2
    go_ret
    refine⟨?_,rfl⟩
    rw[ae HR,decide_eq_true h1,Bool.true_and]
    first | (simp;done) | (simp;omega)
   ·go_wp2
    go_ret
    refine⟨?_,rfl⟩
    rw[ae HR,decide_eq_false h1,Bool.false_and]
    rfl
def oJ(sy:List ByteArray)(s:ByteArray):Int:=if nameB s=false then 3 else if iC sy s=true then 2 else if 6≤sy.length then 7 else 0
theorem rW(sy:List ByteArray)(s:ByteArray):(nameB s=false∧oJ sy s=3)∨(nameB s=true∧iC sy s=true∧oJ sy s=2)∨(nameB s=true∧iC sy s=false∧decide ((sy.length:Int)≥6)=true∧oJ sy s=7)∨(nameB s=true∧iC sy s=false∧decide ((sy.length:Int)≥6)=false∧oJ sy s=0):=by
 unfold oJ
 cases h1:nameB s
 ·left;simp
 ·cases h2:iC sy s
  ·by_cases h3:6≤sy.length
   ·right;right;left;refine⟨rfl,rfl,?_,?_⟩
    ·simp;omega
    ·simp[h3]
   ·right;right;right;refine⟨rfl,rfl,?_,?_⟩
    ·simp;omega
    ·simp[h3]
  ·right;left;simp
theorem info9:(Tryz.prog.info? 9).map (fun i=>(i.zero.map (fun z=>z.cells.size),i.size,i.bytes))=some (some 1,1,16):=by kernel_rfl
theorem EU:∃i z,Tryz.prog.info? 9=some i∧i.zero=some z∧i.size=1∧i.bytes=16∧z.cells.size=1:=by
 have h:=info9
 cases hi:Tryz.prog.info? 9 with
 | none=>rw[hi]at h;simp at h
 | some i =>
   rw[hi]at h
   simp at h
   obtain⟨⟨z,hz,hs⟩,h2,h3⟩:=h
   exact⟨i,z,rfl,hz,h2,h3,hs⟩
def RS.lists(S:RS)(s:ByteArray):RS:={ S with sy:=S.sy++[s] }
theorem bH.Va{w1 w2:World}{base sb n H g cap:Nat}{S:RS}{m:SM}{s:ByteArray}(h:bH w1 base sb S m)(hn:S.sy.length=n)(hown:w2.ownsRow base 9 1 (.slice (some ⟨g,0,none⟩) (n+1) cap) (n+1) (S.sy.map Value.string++[.string s]))(hgrow:w1.grownBy w2 m.yv.ownBlock)(hat:m.yv.ownBlock=some g∨g=H)(hH:w1.heap.size=H) :
 fP base sb (S.lists s) m w1 (w2.setCell ⟨sb,0,none⟩ (.slice (some ⟨g,0,none⟩) (n+1) cap)):=by
 have hne:m.yv.ownBlock≠some sb:=fun e=>by obtain⟨cs,hc⟩:=ay h.jH e;exact ai.ne hc h.blk (by decide) rfl
 have hb2:ai w2 sb _ 207:=(hgrow.block sb h.blk.lt (fun e=>hne e.symm)).trans h.blk
 have k1:ag (fun b=>m.yv.ownBlock=some b) w1 w2:=(ag.refl _ w1).grown hgrow (fun k e=>.inl e)
 have k2:ag (fun b=>b=sb) w2 (w2.setCell ⟨sb,0,none⟩ (.slice (some ⟨g,0,none⟩) (n+1) cap)):=(ag.refl (fun b=>b=sb) w2).setCell (p:=⟨sb,0,none⟩) (.inl rfl) _
 have jF:∀{e size n':Nat} {v:Value} {xs:List Value},w1.ownsRow base e size v n' xs→e≠9→e≠207→(w2.setCell ⟨sb,0,none⟩ (.slice (some ⟨g,0,none⟩) (n+1) cap)).ownsRow base e size v n' xs:=fun {e size n' v xs} r h1 h2=>by
  have r1:=aJ (t:=0) r k1 (fun b hb=>by obtain⟨cs,hc⟩:=ay h.jH hb;exact⟨cs,_,hc,fun x=>h1 x.symm⟩)
  exact aJ (t:=0) r1 k2 (fun b hb=>by subst hb;exact⟨_,_,hb2,fun x=>h2 x.symm⟩)
 refine⟨{ m with yv:=.slice (some ⟨g,0,none⟩) (n+1) cap },⟨h.ge,hb2.set 0 _,?_,jF h.bI (by decide) (by decide),jF h.dE (by decide) (by decide),jF h.jS (by decide) (by decide)⟩,?_,?_⟩
 ·simp only[RS.lists,List.length_append,List.length_cons,List.length_nil,hn,List.map_append,List.map_cons,List.map_nil]
  exact aJ (t:=0) hown k2 (fun b hb=>by subst hb;exact⟨_,_,hb2,by decide⟩)
 ·rintro b (rfl | hb | hb | hb | hb)
  ·exact .inl (.inl rfl)
  ·simp only[Value.ownBlock,Option.some.injEq]at hb
   rcases hat with e | e
   ·exact .inl (.inr (.inl (by rw[e,hb])))
   ·right;omega
  ·exact .inl (.inr (.inr (.inl hb)))
  ·exact .inl (.inr (.inr (.inr (.inl hb))))
  ·exact .inl (.inr (.inr (.inr (.inr hb))))
 ·exact (k1.mono (fun b hb=>.inr (.inl hb))).trans (k2.mono (fun b hb=>.inl hb))
theorem X8(w:World)(s:ByteArray):∀j u,([.string s]:List Value)[j]?=some u→(w.alloc (.cells #[.string s] 9)).cell? (Addr.add ⟨w.heap.size,0,none⟩ j)=some u:=by
 intro j u hj
 have hb:=ai.new w #[.string s] 9
 have e:Addr.add ⟨w.heap.size,0,none⟩ j=⟨w.heap.size,j,none⟩:=by simp[Addr.add];omega
 rw[e,hb.cell,←hj]
 simp
theorem yK(base sb:Nat)(S:RS)(m:SM)(x:aP)(w:World)(h:bH w base sb S m)(hx:x.kind=108)(hsz:x.s.size≤1000000000)(hsy:S.sy.length≤1000)(he:oJ S.sy x.s≠0) :
 Calls Tryz.prog 138 #[.pointer (some ⟨sb,0,none⟩),x.val] w fun e w'=>e=.returned (.tuple #[bu 0 0 0 0 0,.int .i64 (oJ S.sy x.s)])∧fP base sb S.fresh m w w':=by
 have uj:=h.blk.lt
 have v5:w.cell? ⟨sb,5,none⟩=some m.ov:=h.blk.cell 5
 have f5:=h.blk.frozen 5
 have sz:sb≠w.heap.size:=by omega
 have sr:sb≠w.heap.size+1:=by omega
 have sz':=sz.symm
 have MV:=sr.symm
 have tH:sb<w.heap.size+1:=by omega
 have RY:Hid (∀W,Calls Tryz.prog 166 #[.string x.s] W fun e w'=>e=.returned (.bool (nameB x.s))∧w'=W):=fun W=>Ba x.s W hsz
 have wR:Hid (∀W m',bH W base sb S.fresh m'→Calls Tryz.prog 142 #[.pointer (some ⟨sb,0,none⟩),.string x.s] W fun e w'=>e=.returned (.bool (iC S.sy x.s))∧w'=W):=fun W m' hW=>iM base sb S.fresh m' x.s W hW hsy
 obtain⟨ya,yc,hyv⟩:=az h.jH
 have hc:=rW S.sy x.s
 obtain⟨n,hn⟩:∃n,S.sy.length=n:=⟨_,rfl⟩
 rw[hn]at hyv hc hsy
 have v0:w.cell? ⟨sb,0,none⟩=some (.slice ya n yc):=by rw[←hyv];exact h.blk.cell 0
 obtain⟨E,hE⟩:∃E,oJ S.sy x.s=E:=⟨_,rfl⟩
 rw[hE]at he hc ⊢
 obtain⟨B,hB⟩:∃B,nameB x.s=B:=⟨_,rfl⟩
 obtain⟨C,hC⟩:∃C,iC S.sy x.s=C:=⟨_,rfl⟩
 rw[hB]at hc RY
 rw[hC]at hc wR
 obtain⟨kind,s,⟨id,owner,sym,side,ax,price,qty⟩,a,b,c,again⟩:=x
 simp only at hx
 subst hx
 simp only[aP.val,aP.cells,Ask.val]at RY wR ⊢
 have HS:=hide h
 obtain⟨p1,q1,b1,b0⟩:=h.starts #[.int .u8 108,.string s,.int .i64 id,.int .i64 owner,.string sym,.int .i64 side,.int .i64 ax,.int .i64 price,.int .i64 qty,.int .i64 a,.int .i64 b,.int .i64 c,.bool again]
 obtain⟨W1,hW1⟩:∃W1,W1=(((w.setCell ⟨sb,5,none⟩ (.slice none 0 0)).alloc (.cells #[.int .u8 108,.string s,.int .i64 id,.int .i64 owner,.string sym,.int .i64 side,.int .i64 ax,.int .i64 price,.int .i64 qty,.int .i64 a,.int .i64 b,.int .i64 c,.bool again] 169)).alloc (.cells aB 87)):=⟨_,rfl⟩
 rw[←hW1]at p1 q1 b1 b0
 have HC:=hide (ae wR _ _ p1)
 have HN:Hid (fP base sb S.fresh m w W1):=fP.mi (ae HS) q1 (fP.refl p1)
 have HB:=hide b1
 have HW1:=hide hW1
 have y1:W1.cell? ⟨w.heap.size,1,none⟩=some (.string s):=b0.cell 1
 have y0:W1.cell? ⟨sb,0,none⟩=some (.slice ya n yc):=by rw[←hyv];exact p1.blk.cell 0
 have l0:w.heap.size<W1.heap.size:=b0.lt
 have l1:sb<W1.heap.size:=p1.blk.lt
 have z0:W1.cell? ⟨w.heap.size+1,0,none⟩=some (.int .i64 0):=b1.cell 0
 have z1:W1.cell? ⟨w.heap.size+1,1,none⟩=some (.int .i64 0):=b1.cell 1
 have z2:W1.cell? ⟨w.heap.size+1,2,none⟩=some (.int .i64 0):=b1.cell 2
 have z3:W1.cell? ⟨w.heap.size+1,3,none⟩=some (.int .i64 0):=b1.cell 3
 have z4:W1.cell? ⟨w.heap.size+1,4,none⟩=some (.int .i64 0):=b1.cell 4
 have fz0:=b1.frozen 0
 have BV:=b1.frozen 1
 have BX:=b1.frozen 2
 have fz3:=b1.frozen 3
 have BZ:=b1.frozen 4
 simp only[aB]at HW1
 clear p1 q1 b1 b0 wR hW1 h hyv hn hB hC hE
 go_enter Tryz.func138,Tryz.ntmps138
 go_wp2_with fail
 rw[←ae HW1]
 refine (ae RY _).mono ?_
 rintro e w3 ⟨rfl,hw3⟩
 rw[hw3]
 clear hw3 w3
 go_wp2_with fail
 refine (ae HC).mono ?_
 rintro e w3 ⟨rfl,hw3⟩
 rw[hw3]
 clear hw3 w3
 rcases hc with⟨rfl,rfl⟩ | ⟨rfl,rfl,rfl⟩ | ⟨rfl,rfl,hd,rfl⟩ | ⟨rfl,rfl,hd,rfl⟩
 case inr.inr.inr=>exact absurd rfl he
 all_goals
  go_wp2
  refine bodyPost_ret (mM _ (w.heap.size+1) _ 0 0 0 0 0 _ rfl rfl ?_) rfl ⟨rfl,?_⟩
  ·exact qj (ae HB) _ _ _ _ _
  ·exact (ae HN).off (ae HB) (by omega) (mX _ _ _ _ _)
open Go.RowKit Go.Maps
theorem KJ(bv bm bo i s t:Nat)(V:aW)(o:Ask)(w:World)(R:Rep w bv bm bo V)(hT:Tab w)(hi:i<V.nb)(bY:(V.B i).sym=o.sym)(hlen1:o.sym.size≤100)(WN:bZ o.owner)(WM:bZ o.kind)(WO:bZ o.price)
 (h1:bg o.id=true) (h2:V.aO o.id=none) (h6:bg o.qty=true) (h8:V.no<200) (hrf:∀W,Rep W bv bm bo V→Calls Tryz.prog 111 #[.pointer (some ⟨bv,0,none⟩),o.val] W fun e w'=>e=.returned (.int .i64 0)∧ag ak W w')
 (hs:s<2) (ht:t=1-s) (hside:o.side=(t:Int)) (hinv:∀k,k<(V.B i).n s→(V.om ((V.B i).h s k)).side=(s:Int)∧0<(V.om ((V.B i).h s k)).opn∧(V.om ((V.B i).h s k)).opn≤1000000000000000) (hcnt:(V.B i).n t≤V.no) (hcs:(V.B i).n s≤V.no) (hl1:V.lg.tp.length+300<1000000000) (hl2:V.lg.tr.length+300<1000000000) (hna:V.lg.na<3000000) :
 Calls Tryz.prog 64 #[.pointer (some ⟨bv,0,none⟩),o.val] w fun e w'=>∃v,e=.returned v∧zS bv bm bo i s t V o w v w':=by
 have hwf:(Lit.int .i64 o.id).wf=true:=by
  simp[bg]at h1
  exact WalkArith.wf_i64 (by omega)
 have JD:1≤o.qty∧o.qty≤1000000:=by simpa [bg] using h6
 have hlen:o.sym.size≤maxLen:=by unfold maxLen;omega
 have bId:bZ o.id:=pU (by simp[bg]at h1;omega)
 have bSd:bZ o.side:=pU (by rw[hside];omega)
 have bQt:bZ o.qty:=pU (by omega)
 have Vk:=hide (EC o.id o.owner o.sym o.side o.kind o.price o.qty hlen1 bId WN bSd WM WO bQt)
 have Tz:=hide (fun W h=>Ik o.id o.owner o.sym o.side o.kind o.price o.qty W h hlen1 bId WN bSd WM WO bQt)
 clear bId WN bSd WM WO bQt hlen1
 generalize rO o.id o.owner o.sym o.side o.kind o.price o.qty=ln at Vk Tz
 obtain⟨w1,hw1⟩:∃w1,w1=((w.alloc (.cells #[.pointer (some ⟨bv,0,none⟩)] 35)).alloc (.cells (Qw o) 52)).alloc (.cells aB 87):=⟨_,rfl⟩
 have k1:ag ak w w1:=by rw[hw1];exact (((ag.refl ak w).alloc _).alloc _).alloc _
 have Xm:ai w1 w.heap.size #[.pointer (some ⟨bv,0,none⟩)] 35:=by rw[hw1];exact ((ai.new w _ _).alloc _).alloc _
 have hx1:ai w1 (w.heap.size+1) (Qw o) 52:=by rw[hw1];exact (ai.jR w _ _ _).alloc _
 have hr1:ai w1 (w.heap.size+2) aB 87:=by rw[hw1];exact ai.ru w _ _ _ _
 have R1:=R.aj k1
 have XJ:=hrf w1 R1
 obtain⟨fB,mB,pK,ui⟩:=R.books
 have hlb:fB (sl o.sym)=some (V.bk i):=by rw[←bY];exact pK i hi
 have hlk:∀w2,ag ak w w2→∀q,(Instr.lookup 94 (.map (some bm)) (.string o.sym) false).run Tryz.prog (w2.drewN q)=.ok (.pointer (some ⟨V.bk i,0,none⟩)) (w2.drewN q):=fun w2 k2 q=>by
  rw[(mB.kept (k2.drewN q) (fun x=>x)).look law9 Tryz.underlying94 (mP _) (WideMaps.keyOf_string_mk Tryz.underlying9 hlen)]
  show _=Result.ok (fV (some (V.bk i))) _
  rw[←hlb];rfl
 have hsl:ai w1 (V.bk i) (V.B i).cells 158:=(R1.book i hi).blk
 have HW1:=hide hw1
 have HX:=hide XJ
 have HL:=hide hlk
 have hfree:=hide h2
 clear hw1 XJ hlk h1 h2 h6 hrf
 have HR:=hide R
 have wR:=hide bY
 have Qp:=hide hside
 have HT:=hide ht
 clear R R1 mB pK ui hlb bY hside ht
 simp only[Ask.val]
 go_enter Tryz.func64,Tryz.ntmps64
 have WA:Hid (w1=((w.alloc (.cells #[.pointer (some ⟨bv,0,none⟩)] 35)).alloc (.cells #[.int .i64 o.id,.int .i64 o.owner,.string o.sym,.int .i64 o.side,.int .i64 o.kind,.int .i64 o.price,.int .i64 o.qty] 52)).alloc (.cells #[.int .i64 0,.int .i64 0,.int .i64 0,.int .i64 0,.int .i64 0] 87)):=HW1
 have Q8:w.heap.size<w.heap.size+1+1:=by omega
 go_wp2_with fail
 rw[←ae WA]
 refine (ae HX).mono ?_
 rintro e w2 ⟨rfl,k2⟩
 have Zf:=k1.trans k2
 have hbx2:=k2.blk Xm (fun x=>x)
 have hx2:=k2.blk hx1 (fun x=>x)
 have hr2:=k2.blk hr1 (fun x=>x)
 have R2:=(ae HR).aj Zf
 have L1:=ae HL w2 Zf
 have v0:w2.cell? ⟨bv,0,none⟩=some (.map (some bm)):=R2.cZ.cell 0
 have xb:w2.cell? ⟨w.heap.size,0,none⟩=some (.pointer (some ⟨bv,0,none⟩)):=hbx2.cell 0
 have x2:w2.cell? ⟨w.heap.size+1,2,none⟩=some (.string o.sym):=hx2.cell 2
 have x0:w2.cell? ⟨w.heap.size+1,0,none⟩=some (.int .i64 o.id):=hx2.cell 0
 have x1:w2.cell? ⟨w.heap.size+1,1,none⟩=some (.int .i64 o.owner):=hx2.cell 1
 have x3:w2.cell? ⟨w.heap.size+1,3,none⟩=some (.int .i64 o.side):=hx2.cell 3
 have x4:w2.cell? ⟨w.heap.size+1,4,none⟩=some (.int .i64 o.kind):=hx2.cell 4
 have x5:w2.cell? ⟨w.heap.size+1,5,none⟩=some (.int .i64 o.price):=hx2.cell 5
 have x6:w2.cell? ⟨w.heap.size+1,6,none⟩=some (.int .i64 o.qty):=hx2.cell 6
 have f2:=hx2.frozen 2
 have y0:w2.cell? ⟨V.bk i,0,none⟩=some (.string o.sym):=((R2.book i hi).blk.cell 0).trans (by rw[←ae wR];rfl)
 clear k1 k2 hx1 hr1 Xm HW1 WA HX HL hsl Q8
 go_wp2
 go_quiet (fail)
 obtain⟨w3,hw3⟩:∃w3,w3=(w2.drewN nq).setCell ⟨w.heap.size+1,2,none⟩ (.string o.sym):=⟨_,rfl⟩
 have k3:ag (fun x=>x=w.heap.size+1) w2 w3:=by rw[hw3];exact ((ag.refl (fun x=>x=w.heap.size+1) w2).drewN _).setCell (p:=⟨w.heap.size+1,2,none⟩) (.inl rfl) _
 have hx3:ai w3 (w.heap.size+1) (Qw o) 52:=by rw[hw3];exact (hx2.drewN _).set 2 _
 have HW3:=hide hw3
 clear hw3
 go_wp2_with fail
 rw[←ae HW3]
 refine (CZ o w3).mono ?_
 rintro e w4 ⟨b,rfl,hb,Oq,k4⟩
 clear x0 x1 x2 x3 x4 x5 x6 xb f2 y0 v0 L1
 have SG:ag ak w w4:=(Zf.from (k3.mono (fun x h=>.inr (by omega)))).trans k4
 have Ui:=k4.blk (k3.blk hbx2 (fun h=>by omega)) (fun x=>x)
 have hx4:=k4.blk hx3 (fun x=>x)
 have hr4:=k4.blk (k3.blk hr2 (fun h=>by omega)) (fun x=>x)
 have R4:=(ae HR).aj SG
 have hb0:w.heap.size≤b:=by have:=Zf.size;have:=k3.size;omega
 have kL:=hide (jL bv bm bo V.lg V.lm ln w4 R4.log hna (ae Vk).1 (ae Vk).2)
 have HLn:=hide (ae Tz w4 (hT.aj SG))
 have Zu:w4.cell? ⟨w.heap.size,0,none⟩=some (.pointer (some ⟨bv,0,none⟩)):=Ui.cell 0
 have y0:w4.cell? ⟨w.heap.size+1,0,none⟩=some (.int .i64 o.id):=hx4.cell 0
 have y1:w4.cell? ⟨w.heap.size+1,1,none⟩=some (.int .i64 o.owner):=hx4.cell 1
 have y2:w4.cell? ⟨w.heap.size+1,2,none⟩=some (.string o.sym):=hx4.cell 2
 have y3:w4.cell? ⟨w.heap.size+1,3,none⟩=some (.int .i64 o.side):=hx4.cell 3
 have y4:w4.cell? ⟨w.heap.size+1,4,none⟩=some (.int .i64 o.kind):=hx4.cell 4
 have y5:w4.cell? ⟨w.heap.size+1,5,none⟩=some (.int .i64 o.price):=hx4.cell 5
 have y6:w4.cell? ⟨w.heap.size+1,6,none⟩=some (.int .i64 o.qty):=hx4.cell 6
 have yG:∀x,w.heap.size≤x→¬(x=bv∨V.lm.F x):=by
  rintro x hx (e | e)
  ·have:=(ae HR).cZ.lt;omega
  ·have:=(ae HR).log.log.lt e;omega
 have nP:=hide yG
 clear yG hbx2 hx2 hr2 hx3 k3 k4 HW3 Tz
 go_wp2
 go_region_held3 (fun w'=>w'.cell? ⟨w.heap.size,0,none⟩=some (.pointer (some ⟨bv,0,none⟩))∧w'.cell? ⟨w.heap.size+1,0,none⟩=some (.int .i64 o.id)∧w'.cell? ⟨w.heap.size+1,1,none⟩=some (.int .i64 o.owner)∧w'.cell? ⟨w.heap.size+1,2,none⟩=some (.string o.sym)∧w'.cell? ⟨w.heap.size+1,3,none⟩=some (.int .i64 o.side)∧w'.cell? ⟨w.heap.size+1,4,none⟩=some (.int .i64 o.kind)∧w'.cell? ⟨w.heap.size+1,5,none⟩=some (.int .i64 o.price)∧w'.cell? ⟨w.heap.size+1,6,none⟩=some (.int .i64 o.qty)) (go_keep)
  (first
    | (go_at_call 113;refine (ae HLn _ ?cc).mono ?_;(case cc=>repeat (first | exact ag.refl _ _ | refine ag.drew ?_));rintro e wl ⟨rfl,hk⟩;have z0:=hk.cell (p:=⟨w.heap.size,0,none⟩) Zu (fun x=>x);have z1:=hk.cell (p:=⟨w.heap.size+1,0,none⟩) y0 (fun x=>x);have z2:=hk.cell (p:=⟨w.heap.size+1,1,none⟩) y1 (fun x=>x);have z3:=hk.cell (p:=⟨w.heap.size+1,2,none⟩) y2 (fun x=>x);have z4:=hk.cell (p:=⟨w.heap.size+1,3,none⟩) y3 (fun x=>x);have z5:=hk.cell (p:=⟨w.heap.size+1,4,none⟩) y4 (fun x=>x);have z6:=hk.cell (p:=⟨w.heap.size+1,5,none⟩) y5 (fun x=>x);have z7:=hk.cell (p:=⟨w.heap.size+1,6,none⟩) y6 (fun x=>x);have D9:=hide hk;clear hk)
    | (go_at_call 51;refine (ae kL _ ?cc).mono ?_;(case cc=>repeat (first | exact ae D9 | refine ag.drew ?_));rintro e wb ⟨rfl,lJ,hLb,oQ,kb,-,-⟩;have z0:=kb.cell (p:=⟨w.heap.size,0,none⟩) Zu (ae nP _ (Nat.le_refl _));have z1:=kb.cell (p:=⟨w.heap.size+1,0,none⟩) y0 (ae nP _ (Nat.le_succ _));have z2:=kb.cell (p:=⟨w.heap.size+1,1,none⟩) y1 (ae nP _ (Nat.le_succ _));have z3:=kb.cell (p:=⟨w.heap.size+1,2,none⟩) y2 (ae nP _ (Nat.le_succ _));have z4:=kb.cell (p:=⟨w.heap.size+1,3,none⟩) y3 (ae nP _ (Nat.le_succ _));have z5:=kb.cell (p:=⟨w.heap.size+1,4,none⟩) y4 (ae nP _ (Nat.le_succ _));have z6:=kb.cell (p:=⟨w.heap.size+1,5,none⟩) y5 (ae nP _ (Nat.le_succ _));have z7:=kb.cell (p:=⟨w.heap.size+1,6,none⟩) y6 (ae nP _ (Nat.le_succ _));have GX:=hide hLb;have D8:=hide oQ;have Bz:=hide kb;clear hLb oQ kb))
 rename_i Og
 clear Og z0 z1 z2 z3 z4 z5 z6 z7 y0 y1 y2 y3 y4 y5 y6 HLn D9
 have hLb:=ae GX
 have oQ:=ae D8
 have kb:=ae Bz
 clear GX D8 Bz
 clear Zu
 have Rb:=R4.jX hLb kb
 have QN:=kb.blk Ui (ae nP _ (Nat.le_refl _))
 have hxb:=kb.blk hx4 (ae nP _ (by omega))
 have hrb:=kb.blk hr4 (ae nP _ (by omega))
 have hob:bC wb b (aI o) 0:=kb.blk Oq (ae nP _ hb0)
 have JH:ag (fun x=>x=bv∨V.lm.F x) w wb:=SG.aC.trans kb
 obtain⟨fO,Vx,fOb⟩:=Rb.orders
 simp only at Vx fOb
 obtain⟨wm,hU,mOm,km⟩:=(Vx.kept ((ag.refl ak wb).drew) (fun x=>x)).put (x:=b) law3 Tryz.underlying95 (by unfold maxLen;omega) (keyOf_int_mk Tryz.underlying3 hwf) trivial (by rw[fOb];exact ae hfree)
 have v1:wb.cell? ⟨bv,1,none⟩=some (.map (some bo)):=Rb.cZ.cell 1
 have xb5:wb.cell? ⟨w.heap.size,0,none⟩=some (.pointer (some ⟨bv,0,none⟩)):=QN.cell 0
 have x0:wb.cell? ⟨w.heap.size+1,0,none⟩=some (.int .i64 o.id):=hxb.cell 0
 have ZX:=hide mOm
 have RQ:=hide kb
 have zh:=hide SG
 have HR4:=hide R4
 clear mOm kb SG R4 Ui hx4 hr4 Oq kL
 go_wp2
 go_region
 clear hU v1 x0 xb5
 have Y0:∀{b':Nat} {c:Array Value} {t':TypeId},ai wb b' c t'→ai wm b' c t':=fun h=>km.blk h.drew (Ne.symm (Vx.ne h))
 have hvm:aK wm bv bm bo V.lg.begun lJ:=(hLb.aj (ag.refl ak wb).drew).kept km (Ne.symm (Vx.ne hLb.cZ)) (fun y hy e=>by
  obtain⟨c,t',hc,_⟩:=hLb.log.typ hy
  exact Vx.ne hc e.symm)
 have Xo:=Y0 QN
 have xbm:wm.cell? ⟨w.heap.size,0,none⟩=some (.pointer (some ⟨bv,0,none⟩)):=Xo.cell 0
 have oH:=hide (yA bv bm bo V.lg.begun lJ (.entered o.id) (.func 114) #[.pointer (some ⟨w.heap.size,0,none⟩),.pointer (some ⟨w.heap.size+1,0,none⟩)] wm hvm (by show 0<V.lg.na+1;omega) (by show V.lg.na+1≤3000000;omega) (by show 0+1<1000000000;omega))
 go_wp2_with fail
 refine (ae oH).mono ?_
 rintro e w5 ⟨rfl,rX,hv5,hFn,kn⟩
 clear xbm
 change aK w5 bv bm bo (V.lg.opened o.id) rX at hv5
 have bne:∀{b':Nat} {c:Array Value} {t':TypeId},ai wb b' c t'→t'≠103→t'≠62→t'≠105→t'≠109→t'≠1∧t'≠5→ai w5 b' c t':=fun h h1 h2 h3 h4 h5=>kn.blk (Y0 h) (hvm.log.ne (Y0 h) h1 h2 h3 h4 h5)
 have SA:bC w5 b (aI o) 0:=bne hob (by decide) (by decide) (by decide) (by decide) (by decide)
 have zx:=bne hrb (by decide) (by decide) (by decide) (by decide) (by decide)
 have Xn:=bne QN (by decide) (by decide) (by decide) (by decide) (by decide)
 have hFm:∀x,lJ.F x→V.lm.F x∨w.heap.size≤x:=fun x hx=>(oQ x hx).imp_right (fun h=>Nat.le_trans (ae zh).size h)
 have kkm:ag (fun x=>x=bo∨x=bv∨V.lm.F x) w wm:=(JH.mono (fun x h=>.inr h)).drew.trans (km.mono (fun x h=>.inl h))
 have KT:∀x,rX.F x→V.lm.F x∨w.heap.size≤x:=fun x hx=>by
  rcases hFn x hx with h | h
  ·exact hFm x h
  ·exact .inr (Nat.le_trans kkm.size h)
 have QY:ag (fun x=>x=bo∨x=bv∨V.lm.F x) w w5:=kkm.from (kn.mono (fun x h=>(hFm x h).imp_left (fun h=>.inr (.inr h))))
 have EM:∀x,x<2→∀y,bQ (V.B i) x y→y<w.heap.size:=fun x hx y h=>by
  rcases h with h | ⟨l,hl,rfl⟩
  ·exact (((ae HR).book i hi).side x hx).lt h
  ·exact ((((ae HR).book i hi).side x hx).aQ hl).lt
 have kb5:ag (fun x=>x=bo∨lJ.F x) wb w5:=((ag.refl (fun x=>x=bo∨lJ.F x) wb).drew.trans (km.mono (fun x h=>.inl h))).trans (kn.mono (fun x h=>.inr h))
 have Un:∀x c t,ai wb x c t→(t=158∨t=114∨t=116)→¬(x=bo∨lJ.F x):=by
  rintro x c t' hx ht' (e | e)
  ·exact Vx.ne hx e.symm
  ·exact hLb.log.ne hx (by rcases ht' with rfl | rfl | rfl <;> decide) (by rcases ht' with rfl | rfl | rfl <;> decide) (by rcases ht' with rfl | rfl | rfl <;> decide) (by rcases ht' with rfl | rfl | rfl <;> decide) (by rcases ht' with rfl | rfl | rfl <;> decide) e
 have xP:aX w5 (V.bk i) (V.B i) V.om:=(Rb.book i hi).iI kb5 Un
 have Ia:aX w5 (V.bk i) (V.B i) (upd V.om b (aI o)):=by
  refine⟨xP.blk,fun x hx=>(xP.side x hx).om (fun l hl=>af _ _ (fun e=>?_)),xP.apart,xP.sZ⟩
  have:=EM x hx _ (.inr ⟨l,hl,rfl⟩)
  omega
 have hmk5:Mk w5 (V.bk i) (V.B i) (upd V.om b (aI o)) (fun x=>x=b∨∃id,V.aO id=some x):=by
  refine⟨Ia,fun x hx=>?_,fun x hx l hl=>.inr ((ae HR).mem i hi x hx l hl)⟩
  rcases hx with rfl | ⟨id,hx⟩
  ·rw[upd_same];exact⟨0,SA⟩
  ·obtain⟨_,ix,h⟩:=(ae HR).aQ id x hx
   have:=h.lt
   obtain⟨_,ix4,h4⟩:=Rb.aQ id x hx
   rw[af _ _ (by omega)]
   exact⟨ix4,kb5.blk h4 (Un _ _ _ h4 (.inr (.inr rfl)))⟩
 have X5:jD w5 3 bo (zH fO (.int .i64 o.id) b) (V.no+1):=(ae ZX).kept kn (fun e=>by
  obtain⟨c,t',hc,_⟩:=hvm.log.typ e
  exact (ae ZX).ne hc rfl)
 have HM5:=hide X5
 have xb6:w5.cell? ⟨w.heap.size,0,none⟩=some (.pointer (some ⟨bv,0,none⟩)):=Xn.cell 0
 clear X5 oH ZX RQ zh HR4 kb5 Un xP Y0 QN hxb hrb hob Xo hvm kkm JH kn km Rb hLb oQ hFn
 have hT:=ae HT
 have Za:Inv b s ⟨V.B i,upd V.om b (aI o),V.lg.opened o.id⟩:=by
  refine⟨fun l hl=>?_,(Ia.side s hs).inj,?_,?_,?_⟩
  ·have hlt:=EM s hs _ (.inr ⟨l,hl,rfl⟩)
   simp only
   rw[af _ _ (by omega)]
   exact⟨(hinv l hl).1,(hinv l hl).2.1,(hinv l hl).2.2,by omega⟩
  ·simp only[upd_same,aI];omega
  ·simp only[upd_same,aI];omega
  ·simp only[upd_same,aI];rw[ae Qp];omega
 have Su:=Ew bv (V.bk i) b s t bm bo ⟨V.B i,upd V.om b (aI o),V.lg.opened o.id⟩ rX (fun x=>x=b∨∃id,V.aO id=some x) w5 hv5 hmk5 hs hT (.inl rfl) Za (fun x hx l hl=>by
  have:=EM x hx _ (.inr ⟨l,hl,rfl⟩)
  simp only
  omega) (by simp only;omega) 999999999 (by omega) (by unfold mu;simp only[Lg.opened,Lg.begun,Lg.aS];split <;> omega) (by unfold mu;simp only[Lg.opened,Lg.begun,Lg.aS];split <;> omega) (by simp only[Lg.opened,Lg.begun,Lg.aS];omega) (by simp only[Lg.opened,Lg.begun,Lg.aS];omega) (by unfold mu;simp only[Lg.opened,Lg.begun,Lg.aS,List.length_append,List.length_cons,List.length_nil];split <;> omega)
 have fin:∀v6 w6 w7,lh bv (V.bk i) b s t bm bo ⟨V.B i,upd V.om b (aI o),V.lg.opened o.id⟩ rX (fun x=>x=b∨∃id,V.aO id=some x) w5 v6 w6→ag (fun x=>x=w.heap.size+2) w6 w7→zS bv bm bo i s t V o w (.tuple #[v6,.int .i64 0]) w7:=by
  rintro v6 w6 w7 ⟨hv6,g,cap',aY,hm6,hb6,hf6,k6,MN⟩ k7
  have hR:Rep w6 bv bm bo (V.enter i b s t g cap' o aY):=by
   refine (ae HR).enter hi hs hT h8 (ae hfree) hb0 SA hv5 KT QY ⟨_,ae HM5,fun id=>?_⟩ Za rfl hm6 hb6 k6 MN
   by_cases e:id=o.id
   ·rw[if_pos e,e,AV (kl:=.int .i64 o.id) trivial]
   ·rw[if_neg e,yI (kl:=.int .i64 o.id) (k:=.int .i64 id) trivial (fun h=>e (by simpa using h)),fOb]
  have sdF:∀x,x<2→∀y,bQ (V.B i) x y→dX bv bm bo V y:=fun x hx y h=>.inr (.inr (.inr (.inl ⟨i,hi,.inr ⟨x,hx,h⟩⟩)))
  have kF:ag (dX bv bm bo V) w w6:=by
   refine (QY.mono (S':=dX bv bm bo V) (fun x h=>by rcases h with h | h | h;exact .inr (.inr (.inl h));exact .inl h;exact .inr (.inr (.inr (.inr (.inr h)))))).from (k6.mono (fun x h=>?_))
   rcases h with h | h | h | h | h | h
   ·exact .inl (.inl h)
   ·exact (KT x h).imp_left (fun h=>.inr (.inr (.inr (.inr (.inr h)))))
   ·exact .inl (.inr (.inr (.inr (.inl ⟨i,hi,.inl h⟩))))
   ·right;omega
   ·exact .inl (sdF s hs x h)
   ·exact .inl (sdF t (by omega) x h)
  have XE:¬dX bv bm bo (V.enter i b s t g cap' o aY) (w.heap.size+2):=hR.foot (c:=aB) (t:=87) (k6.blk zx (by
   rintro (h | h | h | h | h | h)
   ·have:=(ae HR).cZ.lt;omega
   ·exact hv5.log.ne zx (by decide) (by decide) (by decide) (by decide) (by decide) h
   ·have:=((ae HR).book i hi).blk.lt;omega
   ·exact ai.ne SA zx (by decide) h.symm
   ·have:=EM s hs _ h;omega
   ·have:=EM t (by omega) _ h;omega)) (by decide) (by decide) (by decide) (by decide) (by decide) (by decide) (by decide)
  have hR7:Rep w7 bv bm bo (V.enter i b s t g cap' o aY):=by
   obtain⟨gB,nB,g1,g2⟩:=hR.books
   obtain⟨gO,nO,g3⟩:=hR.orders
   have nf:∀x,dX bv bm bo (V.enter i b s t g cap' o aY) x→¬x=w.heap.size+2:=fun x h e=>XE (e▸h)
   exact⟨hR.log.kept k7 (nf _ (.inl rfl)) (fun y hy=>nf y (.inr (.inr (.inr (.inr (.inr hy)))))),⟨gB,nB.kept k7 (nf _ (.inr (.inl rfl))),g1,g2⟩,⟨gO,nO.kept k7 (nf _ (.inr (.inr (.inl rfl)))),g3⟩,hR.MQ,fun j hj=>(hR.book j hj).kept k7 (fun x hx=>nf x (by
    rcases hx with h | ⟨y,hy,h⟩
    ·exact .inr (.inr (.inr (.inl ⟨j,hj,.inl h⟩)))
    ·exact .inr (.inr (.inr (.inl ⟨j,hj,.inr ⟨y,hy,h⟩⟩))))),fun id x h=>⟨(hR.aQ id x h).1,(hR.aQ id x h).2.elim fun ix ho=>⟨ix,k7.blk ho (nf x (.inr (.inr (.inr (.inr (.inl ⟨id,h⟩))))))⟩⟩,hR.mem,hR.uT,hR.oG,hR.eF⟩
  refine⟨b,g,cap',aY,hb0,by rw[hv6];simp only[upd_same];rfl,hR7,kF.from (k7.mono (fun x h=>.inr (by omega))),fun x hx=>?_,?_⟩
  ·rcases hx with h | h | h | ⟨j,hj,h⟩ | ⟨id,h⟩ | h
   ·exact .inl (.inl h)
   ·exact .inl (.inr (.inl h))
   ·exact .inl (.inr (.inr (.inl h)))
   ·rcases h with h | ⟨y,hy,h⟩
    ·exact .inl (.inr (.inr (.inr (.inl ⟨j,hj,.inl h⟩))))
    ·by_cases e:j=i
     ·subst e
      simp only[aW.enter,upd_same]at h
      rcases xG h with h | h | h
      ·left
       refine .inr (.inr (.inr (.inl ⟨j,hi,.inr ⟨y,hy,?_⟩⟩)))
       obtain⟨f1,f2,_⟩:=jG b s (mu b s ⟨V.B j,upd V.om b (aI o),V.lg.opened o.id⟩) ⟨V.B j,upd V.om b (aI o),V.lg.opened o.id⟩
       by_cases es:y=s
       ·subst es
        exact (uI _ _ Za).2.2.1 x h
       ·change bQ (mF b s ⟨V.B j,upd V.om b (aI o),V.lg.opened o.id⟩).B y x at h
        unfold bQ mF at h
        rw[f2,(f1 y es).1,(f1 y es).2]at h
        exact h
      ·right;omega
      ·rcases MN with h' | h'
       ·exact .inl (sdF t (by omega) x (.inl (by rw[h];exact h')))
       ·right
        have:=QY.size
        omega
     ·simp only[aW.enter,af _ _ e]at h
      exact .inl (.inr (.inr (.inr (.inl ⟨j,hj,.inr ⟨y,hy,h⟩⟩))))
   ·simp only[aW.enter]at h
    split at h
    ·simp at h;right;omega
    ·exact .inl (.inr (.inr (.inr (.inr (.inl ⟨id,h⟩)))))
   ·rcases hf6 x h with h | h
    ·exact (KT x h).imp_left (fun h=>.inr (.inr (.inr (.inr (.inr h)))))
    ·right
     have:=QY.size
     omega
  ·rcases MN with h' | h'
   ·exact .inl h'
   ·right
    have:=QY.size
    omega
 have Yt:∀v6 w6,lh bv (V.bk i) b s t bm bo ⟨V.B i,upd V.om b (aI o),V.lg.opened o.id⟩ rX (fun x=>x=b∨∃id,V.aO id=some x) w5 v6 w6→ai w6 (w.heap.size+2) aB 87:=by
  rintro v6 w6 ⟨_,g,cap',aY,_,_,_,k6,_⟩
  refine k6.blk zx ?_
  rintro (h | h | h | h | h | h)
  ·have:=(ae HR).cZ.lt;omega
  ·exact hv5.log.ne zx (by decide) (by decide) (by decide) (by decide) (by decide) h
  ·have:=((ae HR).book i hi).blk.lt;omega
  ·exact ai.ne SA zx (by decide) h.symm
  ·have:=EM s hs _ h;omega
  ·have:=EM t (by omega) _ h;omega
 have P8:=hide Yt
 clear Yt
 have HC:=hide Su
 have HF:=hide fin
 have mQ:=hide zx
 clear fin Su Za hmk5 Ia EM QY zx hv5 SA bne HM5 hT KT hFm Xn
 go_wp2_with fail
 refine (ae HC).mono ?_
 rintro e w6 ⟨v6,rfl,Y8⟩
 obtain⟨f,r,c,a,n,hrep⟩:=Gf ((⟨V.B i,upd V.om b (aI o),V.lg.opened o.id⟩:MS).om b) (aA b (mF b s ⟨V.B i,upd V.om b (aI o),V.lg.opened o.id⟩) b) V.tr (mF b s ⟨V.B i,upd V.om b (aI o),V.lg.opened o.id⟩).tr
 have hv6:v6=.agg #[.int .i64 f,.int .i64 r,.int .i64 c,.int .i64 a,.int .i64 n]:=by rw[Y8.1];exact hrep
 have Ou:ai w6 (w.heap.size+2) aB 87:=ae P8 _ _ Y8
 have HP:=hide Y8
 clear Y8 hrep
 rw[hv6]at HP
 rw[hv6]
 have r0:w6.cell? ⟨w.heap.size+2,0,none⟩=some (.int .i64 0):=Ou.cell 0
 have r1:w6.cell? ⟨w.heap.size+2,1,none⟩=some (.int .i64 0):=Ou.cell 1
 have r2:w6.cell? ⟨w.heap.size+2,2,none⟩=some (.int .i64 0):=Ou.cell 2
 have r3:w6.cell? ⟨w.heap.size+2,3,none⟩=some (.int .i64 0):=Ou.cell 3
 have r4:w6.cell? ⟨w.heap.size+2,4,none⟩=some (.int .i64 0):=Ou.cell 4
 have q0:=Ou.frozen 0
 have q1:=Ou.frozen 1
 have q2:=Ou.frozen 2
 have q3:=Ou.frozen 3
 have q4:=Ou.frozen 4
 clear hv6
 go_wp2
 refine bodyPost_ret (aaG _ (w.heap.size+2) _ f r c a n rfl rfl ?_) rfl ⟨_,rfl,ae HF _ _ _ (ae HP) ?_⟩
 ·exact ((((Ou.set 0 _).set 1 _).set 2 _).set 3 _).set 4 _
 ·exact (((((ag.refl (fun x=>x=w.heap.size+2) w6).setCell (p:=⟨w.heap.size+2,0,none⟩) (.inl rfl) _).setCell (p:=⟨w.heap.size+2,1,none⟩) (.inl rfl) _).setCell (p:=⟨w.heap.size+2,2,none⟩) (.inl rfl) _).setCell (p:=⟨w.heap.size+2,3,none⟩) (.inl rfl) _).setCell (p:=⟨w.heap.size+2,4,none⟩) (.inl rfl) _
theorem Yu(tmps:Array Value)(H:Nat)(w:World)(a b c d e E:Int)(ht:tmps.getD 4 undef=.pointer (some ⟨H,0,none⟩))(hu:tmps.getD 5 undef=.int .i64 E)(hb:ai w H #[.int .i64 a,.int .i64 b,.int .i64 c,.int .i64 d,.int .i64 e] 87) :
 (results Tryz.f64 tmps).run Tryz.prog w=.ok (.tuple #[.agg #[.int .i64 a,.int .i64 b,.int .i64 c,.int .i64 d,.int .i64 e],.int .i64 E]) w:=by
 have c0:w.cell? ⟨H,0,none⟩=some (.int .i64 a):=hb.cell 0
 have c1:w.cell? ⟨H,1,none⟩=some (.int .i64 b):=hb.cell 1
 have c2:w.cell? ⟨H,2,none⟩=some (.int .i64 c):=hb.cell 2
 have c3:w.cell? ⟨H,3,none⟩=some (.int .i64 d):=hb.cell 3
 have c4:w.cell? ⟨H,4,none⟩=some (.int .i64 e):=hb.cell 4
 simp only[Array.getD_eq_getD_getElem?]at ht hu
 simp[results,Tryz.results64,go_sem,ht,hu,c0,c1,c2,c3,c4]
theorem KI(bv:Nat)(o:Ask)(E:Int)(w:World)(hE:E≠0)(hrf:∀W,ag ak w W→Calls Tryz.prog 111 #[.pointer (some ⟨bv,0,none⟩),o.val] W fun e w'=>e=.returned (.int .i64 E)∧ag ak W w') :
 Calls Tryz.prog 64 #[.pointer (some ⟨bv,0,none⟩),o.val] w fun e w'=>e=.returned (.tuple #[.agg #[.int .i64 0,.int .i64 0,.int .i64 0,.int .i64 0,.int .i64 0],.int .i64 E])∧ag ak w w':=by
 have e0:(E != 0)=true:=by simp[hE]
 obtain⟨w1,hw1⟩:∃w1,w1=((w.alloc (.cells #[.pointer (some ⟨bv,0,none⟩)] 35)).alloc (.cells (Qw o) 52)).alloc (.cells aB 87):=⟨_,rfl⟩
 have k1:ag ak w w1:=by rw[hw1];exact (((ag.refl ak w).alloc _).alloc _).alloc _
 have hr1:ai w1 (w.heap.size+2) aB 87:=by rw[hw1];exact ai.ru w _ _ _ _
 have HX:=hide (hrf w1 k1)
 have Q8:w.heap.size<w.heap.size+1+1:=by omega
 have HW1:Hid (w1=((w.alloc (.cells #[.pointer (some ⟨bv,0,none⟩)] 35)).alloc (.cells #[.int .i64 o.id,.int .i64 o.owner,.string o.sym,.int .i64 o.side,.int .i64 o.kind,.int .i64 o.price,.int .i64 o.qty] 52)).alloc (.cells #[.int .i64 0,.int .i64 0,.int .i64 0,.int .i64 0,.int .i64 0] 87)):=hw1
 clear hrf hw1 hE
 simp only[Ask.val]
 go_enter Tryz.func64,Tryz.ntmps64
 go_wp2_with fail
 rw[←ae HW1]
 refine (ae HX).mono ?_
 rintro e w2 ⟨rfl,k2⟩
 have hr2:=k2.blk hr1 (fun x=>x)
 have r0:w2.cell? ⟨w.heap.size+2,0,none⟩=some (.int .i64 0):=hr2.cell 0
 have r1:w2.cell? ⟨w.heap.size+2,1,none⟩=some (.int .i64 0):=hr2.cell 1
 have r2:w2.cell? ⟨w.heap.size+2,2,none⟩=some (.int .i64 0):=hr2.cell 2
 have r3:w2.cell? ⟨w.heap.size+2,3,none⟩=some (.int .i64 0):=hr2.cell 3
 have r4:w2.cell? ⟨w.heap.size+2,4,none⟩=some (.int .i64 0):=hr2.cell 4
 have q0:=hr2.frozen 0
 have q1:=hr2.frozen 1
 have q2:=hr2.frozen 2
 have q3:=hr2.frozen 3
 have q4:=hr2.frozen 4
 have sz:=k1.size
 go_wp2
 refine bodyPost_ret (Yu _ (w.heap.size+2) _ 0 0 0 0 0 E rfl rfl ?_) rfl ⟨rfl,?_⟩
 ·exact ((((hr2.set 0 _).set 1 _).set 2 _).set 3 _).set 4 _
 ·exact (((((k1.trans k2).setCell (p:=⟨w.heap.size+2,0,none⟩) (.inr (by simp)) _).setCell (p:=⟨w.heap.size+2,1,none⟩) (.inr (by simp)) _).setCell (p:=⟨w.heap.size+2,2,none⟩) (.inr (by simp)) _).setCell (p:=⟨w.heap.size+2,3,none⟩) (.inr (by simp)) _).setCell (p:=⟨w.heap.size+2,4,none⟩) (.inr (by simp)) _
end Go.Proofs.YtigaphnafnpfnaaGreatDoor
