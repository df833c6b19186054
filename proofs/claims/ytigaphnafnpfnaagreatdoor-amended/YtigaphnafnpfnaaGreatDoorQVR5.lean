import Derived.Test.YtigaphnafnpfnaaGreatDoorQVX11
import Derived.Deep.QuietTactic
import Derived.BigQuiet
import Derived.Test.YtigaphnafnpfnaaGreatDoorQVF3
import Derived.Test.YtigaphnafnpfnaaGreatDoorQVY10
import Derived.Deep.CutRange
import Derived.Test.YtigaphnafnpfnaaGreatDoorQVY4
import Derived.Test.YtigaphnafnpfnaaGreatDoorQVY7
import Derived.Test.YtigaphnafnpfnaaGreatDoorQVY5
set_option linter.unusedVariables false
set_option linter.unusedSimpArgs false
set_option maxHeartbeats 8000000
set_option maxRecDepth 100000
namespace Go.Proofs.YtigaphnafnpfnaaGreatDoor
open Go.RowKit
attribute [local go_sem ↓] Go.wp_at_zero Go.wp_at_succ
theorem Fe{w:World}{base c:Nat}{a:Option Addr}{ls:List fJ}(h:w.ownsRow base 93 3 (.slice a ls.length c) ls.length (flat ls)){i:Nat}{l:fJ}(hi:ls[i]?=some l):∃g,a=some ⟨g,0,none⟩∧g<w.heap.size∧w.cell? ⟨g,i * 3,none⟩=some (.int .i64 l.price)∧w.cell? ⟨g,i * 3+1,none⟩=some (.int .i64 l.qty)∧w.cell? ⟨g,i * 3+2,none⟩=some (.int .i64 l.num):=by
 have hi':=(List.getElem?_eq_some_iff.1 hi).1
 have hl:=(List.getElem?_eq_some_iff.1 hi).2
 obtain⟨g,rfl,_⟩:=fH h (by omega)
 have key:∀j,j<3→w.cell? ⟨g,i * 3+j,none⟩=(l.cells)[j]?:=fun j hj=>by
  rw[h.cellAt _ (by omega)]
  have:=CV ls i j hi' hj
  rw[hl]at this
  rw[show i * 3+j=3 * i+j by omega,this]
 exact⟨g,rfl,(h.lt g rfl).2,key 0 (by omega),key 1 (by omega),key 2 (by omega)⟩
theorem Gm(b1 b2:Nat)(va vb:Value)(ls:List fJ)(w:World)(ha:w.ownsRow b1 93 3 va ls.length (flat ls))(hb:w.ownsRow b2 93 3 vb ls.length (flat ls))(hl:ls.length≤1000) :
 Calls Tryz.prog 103 #[va,vb] w fun e w'=>e=.returned (.bool true)∧ag ak w w':=by
 obtain⟨a1,c1,rfl⟩:=az ha
 obtain⟨a2,c2,rfl⟩:=az hb
 have HA:Hid (∀i l,ls[i]?=some l→∃g,a1=some ⟨g,0,none⟩∧g<w.heap.size∧w.cell? ⟨g,i * 3,none⟩=some (.int .i64 l.price)∧w.cell? ⟨g,i * 3+1,none⟩=some (.int .i64 l.qty)∧w.cell? ⟨g,i * 3+2,none⟩=some (.int .i64 l.num)):=fun i l hi=>Fe ha hi
 have HB:Hid (∀i l,ls[i]?=some l→∃g,a2=some ⟨g,0,none⟩∧g<w.heap.size∧w.cell? ⟨g,i * 3,none⟩=some (.int .i64 l.price)∧w.cell? ⟨g,i * 3+1,none⟩=some (.int .i64 l.qty)∧w.cell? ⟨g,i * 3+2,none⟩=some (.int .i64 l.num)):=fun i l hi=>Fe hb hi
 obtain⟨n,hn⟩:∃n,ls.length=n:=⟨_,rfl⟩
 have HN:=hide hn
 rw[hn]at hl ⊢
 clear ha hb hn
 go_enter Tryz.func103,Tryz.ntmps103
 go_wp2
 go_loopg [5] n (fun k iv wr=>∃i q:Nat,iv=.int .i64 (i:Int)∧i≤n∧k=n-i∧wr=w.drewN q)
 case atStart=>exact⟨0,0,rfl,Nat.zero_le _,rfl,rfl⟩
 case round =>
  obtain⟨i,q,rfl,hi,hgk,rfl⟩:=hrel
  by_cases hlt:i<n
  ·obtain⟨l,hl2⟩:∃l,ls[i]?=some l:=⟨_,List.getElem?_eq_getElem (by rw[ae HN];exact hlt)⟩
   obtain⟨g1,rfl,Vt,x0,x1,x2⟩:=ae HA i l hl2
   obtain⟨g2,rfl,Q5,y0,y1,y2⟩:=ae HB i l hl2
   clear hl2
   go_wp2
   go_quiet (fail)
   go_wp2
   go_roundg (n-(i+1))
   case measure=>omega
   case rel=>exact⟨i+1,q+nq,by push_cast;rfl,by omega,rfl,by first | rfl | simp⟩
  ·obtain rfl:i=n:=by omega
   go_wp2
   go_ret
   exact⟨rfl,(ag.refl ak w).drewN _⟩
theorem yj(wb:Nat)(pv:Value)(ha:Option Addr)(hn hc:Nat)(w:World)(h:ai w wb #[pv,.slice ha hn hc] 78)(hl:hn≤1000000000) :
 Calls Tryz.prog 143 #[.pointer (some ⟨wb,0,none⟩)] w fun e w'=>e=.returned (.int .i64 (-1000-(hn:Int)))∧w'=w:=by
 have v1:w.cell? ⟨wb,1,none⟩=some (.slice ha hn hc):=h.cell 1
 clear h
 go_enter Tryz.func143,Tryz.ntmps143
 go_wp2
 go_ret
 exact⟨by first | rfl | (congr 2;unfold wrap64;omega) | simp,rfl⟩
open Go.RowKit Go.Maps
def Tr.at(t:Tr)(p:Int):Tr:={ t with price:=p }
def Lg.kT(G:Lg)(k:Nat)(x:Tg)(p:Int):Lg:={ G with tr:=G.tr.set k ⟨x.t.at p,x.holds⟩ }
theorem eP.kT{w:World}{bv bm bo k b:Nat}{G:Lg}{m:Lm}{x:Tg}(h:aK w bv bm bo G m)(hx:G.tr[k]?=some x)(hb:m.tb[k]?=some b)(p:Int):aK (w.setCell ⟨b,2,none⟩ (.int .i64 p)) bv bm bo (G.kT k x p) m:=by
 have hblk:=h.log.blk k b x hb hx
 have kk:ag (fun y=>y=b) w (w.setCell ⟨b,2,none⟩ (.int .i64 p)):=(ag.refl (fun y=>y=b) w).setCell (p:=⟨b,2,none⟩) (.inl rfl) _
 refine⟨kk.blk h.cZ (ai.ne h.cZ hblk (by decide)),?_⟩
 have ht:=au h.log.dE kk (fun y hy e=>own_ne h.log.dE hy hblk (by decide) e)
 refine⟨?_,au h.log.fU kk (fun y hy e=>own_ne h.log.fU hy hblk (by decide) e),by simp[Lg.kT,h.log.len],fun i b' g hi hg=>?_,h.log.nodup,h.log.act.kept kk (fun y hy e=>?_),au h.log.mJ kk (fun y hy e=>own_ne h.log.mJ hy hblk (by decide) e),h.log.jb⟩
 ·simp only[Lg.kT,List.length_set];exact ht
 ·simp only[Lg.kT]at hg
  by_cases e:i=k
  ·subst e
   obtain rfl:b'=b:=by rw[hb]at hi;exact (Option.some.inj hi).symm
   have hlt:i<G.tr.length:=(List.getElem?_eq_some_iff.1 hx).1
   rw[List.getElem?_set_self hlt]at hg
   obtain rfl:=Option.some.inj hg
   exact hblk.set 2 _
  ·rw[List.getElem?_set_ne (fun h=>e h.symm)]at hg
   refine kk.blk (h.log.blk i b' g hi hg) (fun e2=>e ?_)
   subst e2
   obtain⟨h1,e1⟩:=List.getElem?_eq_some_iff.1 hi
   obtain⟨h2,e2⟩:=List.getElem?_eq_some_iff.1 hb
   rcases Nat.lt_trichotomy i k with hlt | hlt | hlt
   ·exact absurd (e1.trans e2.symm) (List.pairwise_iff_getElem.1 h.log.nodup i k h1 h2 hlt)
   ·exact hlt
   ·exact absurd (e2.trans e1.symm) (List.pairwise_iff_getElem.1 h.log.nodup k i h2 h1 hlt)
 ·obtain⟨c,t,hc,ht'⟩:=h.log.act.typ hy
  subst e
  exact ai.ne hc hblk (by rcases ht' with rfl | rfl <;> decide) rfl
theorem DF(bv bm bo k tb:Nat)(G:Lg)(m:Lm)(x:Tg)(p:Int)(w:World)(hL:aK w bv bm bo G m)(hx:G.tr[k]?=some x)(htb:m.tb[k]?=some tb)(hlen:G.tp.length<1000000000) :
 Calls Tryz.prog 76 #[.pointer (some ⟨bv,0,none⟩),.pointer (some ⟨tb,0,none⟩),.int .i64 p] w fun e w'=>e=.returned (.tuple #[]) ∧
  ∃m',aK w' bv bm bo ((G.kT k x p).told 3 (x.t.at p)) m'∧(∀b,m'.F b→m.F b∨w.heap.size≤b)∧ag (fun b=>b=bv∨m.F b) w w':=by
 have hblk:=hL.log.blk k tb x htb hx
 have hF:m.F tb:=.inr (.inr (.inl (List.mem_of_getElem? htb)))
 obtain⟨w1,hw1⟩:∃w1,w1=w.setCell ⟨tb,2,none⟩ (.int .i64 p):=⟨_,rfl⟩
 have k1:ag (fun y=>y=tb) w w1:=by rw[hw1];exact (ag.refl (fun y=>y=tb) w).setCell (p:=⟨tb,2,none⟩) (.inl rfl) _
 have hL1:aK w1 bv bm bo (G.kT k x p) m:=by rw[hw1];exact hL.kT hx htb p
 have b1:ai w1 tb #[.int .i64 x.t.num,.string x.t.sym,.int .i64 p,.int .i64 x.t.qty,.int .i64 x.t.jh,.int .i64 x.t.sell,.int .i64 x.t.day,.bool x.holds] 105:=by rw[hw1];exact hblk.set 2 _
 have c2:=hblk.cell 2
 have f2:=hblk.frozen 2
 simp only[Tg.cells]at c2
 simp at c2
 have c0:w.cell? ⟨tb,0,none⟩=some (.int .i64 x.t.num):=hblk.cell 0
 have c1:w.cell? ⟨tb,1,none⟩=some (.string x.t.sym):=hblk.cell 1
 have c3:w.cell? ⟨tb,3,none⟩=some (.int .i64 x.t.qty):=hblk.cell 3
 have c4:w.cell? ⟨tb,4,none⟩=some (.int .i64 x.t.jh):=hblk.cell 4
 have c5:w.cell? ⟨tb,5,none⟩=some (.int .i64 x.t.sell):=hblk.cell 5
 have c6:w.cell? ⟨tb,6,none⟩=some (.int .i64 x.t.day):=hblk.cell 6
 have hT:=uf bv bm bo _ m 3 (x.t.at p) w1 hL1 hlen
 simp only[Tr.val,Tr.at]at hT
 have HT:=hide hT
 have HW:=hide hw1
 have HK:=hide k1
 have HF:=hide hF
 clear hT hw1 k1 hL1 b1 hL hblk hF hx htb
 go_enter Tryz.func76,Tryz.ntmps76
 go_wp2_with (go_at_call 73;rw[←ae HW];refine (ae HT).mono ?_;rintro e w2 ⟨rfl,m',h1,h2,h3⟩;have H1:=hide h1;have H2:=hide h2;have H3:=hide h3;clear h1 h2 h3)
 go_end0
 refine⟨rfl,m',ae H1,fun b hb=>(ae H2 b hb).imp_right (fun h=>Nat.le_trans (ae HK).size h),?_⟩
 exact ((ae HK).mono (fun y e=>.inr (by rw[e];exact ae HF))).trans ((ae H3).mono (fun y h=>h.imp_right (fun h=>.inr (.inl (.inl h)))))
def RS.sW(S:RS)(k:Nat)(x:Tg)(b:Int):RS:=(S.L6 k ⟨{ x.t with price:=b },x.holds⟩).tell 3 { x.t with price:=b }
theorem yJ(base sb k:Nat)(S:RS)(m:SM)(x:aP)(t:Tg)(w:World)(h:bH w base sb S m)(hl:S.t.length≤1000000000)(hto:S.told.length<1000000000)(hx:x.kind=107)(hk:x.a-1=(k:Int))(ht:S.t[k]?=some t)(hp:ja t S.day=0)(hb:bg x.b=true) :
 Calls Tryz.prog 171 #[.pointer (some ⟨sb,0,none⟩),x.val] w fun e w'=>e=.returned (.int .i64 0)∧fP base sb (S.sW k t x.b) m w w':=by
 have HH:Hid (∀W,ag ak w W→Calls Tryz.prog 204 #[.pointer (some ⟨sb,0,none⟩),.int .i64 x.a] W fun e w'=>e=.returned (.int .i64 0)∧ag ak W w'):=fun W kW=>by
  have:=ku base sb k S m x.a t W (h.aj kW) hl hk ht
  rw[hp]at this
  exact this
 have V7:Hid (∀W,Calls Tryz.prog 198 #[.int .i64 x.b] W fun e w'=>e=.returned (.bool true)∧w'=W):=fun W=>by
  have:=jy x.b W
  rw[hb]at this
  exact this
 obtain⟨ta,tc,hv⟩:=az h.dE
 obtain⟨g,rfl,_,lg,EK,hc,hf⟩:=h.RD hv ht
 have hkl:=(List.getElem?_eq_some_iff.1 ht).1
 have HS:=hide h
 have HT:=hide ht
 have HV:=hide hv
 obtain⟨N,hN⟩:∃N,S.t.length=N:=⟨_,rfl⟩
 rw[hN]at hv hkl hl
 have hgb:w.heap.size≠g:=by omega
 have hgs:sb≠g:=fun e=>by obtain⟨cs,hcs⟩:=EK;exact ai.ne h.blk hcs (by decide) e
 obtain⟨kind,s,⟨id,owner,sym,side,ax,price,qty⟩,a,b,c,again⟩:=x
 simp only at hx hk
 subst hx
 simp only[aP.val,aP.cells]at HH V7 ⊢
 obtain rfl:a=(k:Int)+1:=by omega
 obtain⟨W1,hW1⟩:∃W1,W1=w.alloc (.cells #[.int .u8 107,.string s,.int .i64 id,.int .i64 owner,.string sym,.int .i64 side,.int .i64 ax,.int .i64 price,.int .i64 qty,.int .i64 ((k:Int)+1),.int .i64 b,.int .i64 c,.bool again] 169):=⟨_,rfl⟩
 have k1:ag ak w W1:=by rw[hW1];exact (ag.refl ak w).alloc _
 have b1:ai W1 w.heap.size #[.int .u8 107,.string s,.int .i64 id,.int .i64 owner,.string sym,.int .i64 side,.int .i64 ax,.int .i64 price,.int .i64 qty,.int .i64 ((k:Int)+1),.int .i64 b,.int .i64 c,.bool again] 169:=by rw[hW1];exact ai.new _ _ _
 have HC:=hide (ae HH W1 k1)
 have HB1:=hide b1
 have kV:=hide k1
 have HW1:=hide hW1
 have ZR:=hide hv
 clear h hc hf ht hp hb HH hk hv hN b1 k1 hW1 EK
 go_enter Tryz.func171,Tryz.ntmps171
 go_wp2_with fail
 rw[←ae HW1]
 refine (ae HC).mono ?_
 rintro e w2 ⟨rfl,k2⟩
 have kk:=(ae kV).trans k2
 have h2:=(ae HS).aj kk
 have v2:w2.cell? ⟨sb,2,none⟩=some (.slice (some ⟨g,0,none⟩) N tc):=by rw[←ae ZR];exact h2.blk.cell 2
 have b2:=k2.blk (ae HB1) (fun z=>z)
 have x0:w2.cell? ⟨w.heap.size,0,none⟩=some (.int .u8 107):=b2.cell 0
 have x9:w2.cell? ⟨w.heap.size,9,none⟩=some (.int .i64 ((k:Int)+1)):=b2.cell 9
 have x10:w2.cell? ⟨w.heap.size,10,none⟩=some (.int .i64 b):=b2.cell 10
 have lb:=b2.lt
 have Q8:=h2.blk.lt
 obtain⟨g',e',_,Q5,_,hc,hf⟩:=h2.RD (ae HV) (ae HT)
 obtain rfl:g=g':=by simpa using e'
 have c0:w2.cell? ⟨g,k * 8,none⟩=some (.int .i64 t.t.num):=hc 0 _ rfl
 have c1:w2.cell? ⟨g,k * 8+1,none⟩=some (.string t.t.sym):=hc 1 _ rfl
 have c2:w2.cell? ⟨g,k * 8+2,none⟩=some (.int .i64 t.t.price):=hc 2 _ rfl
 have c3:w2.cell? ⟨g,k * 8+3,none⟩=some (.int .i64 t.t.qty):=hc 3 _ rfl
 have c4:w2.cell? ⟨g,k * 8+4,none⟩=some (.int .i64 t.t.jh):=hc 4 _ rfl
 have c5:w2.cell? ⟨g,k * 8+5,none⟩=some (.int .i64 t.t.sell):=hc 5 _ rfl
 have c6:w2.cell? ⟨g,k * 8+6,none⟩=some (.int .i64 t.t.day):=hc 6 _ rfl
 have f2:=hf (k * 8+2)
 have Jq:Hid (∀q,Calls Tryz.prog 205 #[.pointer (some ⟨sb,0,none⟩),.int .i64 3,.agg #[.int .i64 t.t.num,.string t.t.sym,.int .i64 b,.int .i64 t.t.qty,.int .i64 t.t.jh,.int .i64 t.t.sell,.int .i64 t.t.day]] ((w2.drewN q).setCell ⟨g,k * 8+2,none⟩ (.int .i64 b)) fun e w'=>e=.returned (.tuple #[])∧fP base sb (S.sW k t b) m w w'):=fun q=>by
  obtain⟨p3,q3⟩:=(h2.aj ((ag.refl ak w2).drewN q)).Tj (ae HV) (ae HT) (j:=2) (by omega) (.int .i64 b) ⟨{ t.t with price:=b },t.holds⟩ rfl
  have hlt:(S.L6 k ⟨{ t.t with price:=b },t.holds⟩).told.length<1000000000:=hto
  refine (yP base sb _ m 3 { t.t with price:=b } _ p3 hlt).mono ?_
  rintro e w' ⟨rfl,ho⟩
  obtain⟨m',a1,a2,a3⟩:=ho.stN
  exact⟨rfl,m',a1,fun b hb=>(a2 b hb).imp_right (fun z=>Nat.le_trans (Nat.le_trans kk.size q3.size) z),kk.aC.trans (((ag.refl (SF sb m) w2).drewN q).trans (q3.trans a3))⟩
 clear kk k2 b2 HC HB1 kV HW1 h2 hc hf e'
 go_wp2
 go_quiet (fail)
 go_wp2_with fail
 refine (ae V7 _).mono ?_
 rintro e w3 ⟨rfl,hw3⟩
 rw[hw3]
 clear hw3 w3
 go_wp2_with fail
 refine (ae Jq _).mono ?_
 rintro e w4 ⟨rfl,hn⟩
 have HF:=hide hn
 clear hn Jq
 go_wp2
 go_ret
 exact⟨rfl,ae HF⟩
end Go.Proofs.YtigaphnafnpfnaaGreatDoor
namespace Go.Proofs.YtigaphnafnpfnaaGreatDoor
open Go.RowKit Go.Maps
theorem GW.apart{V:aW}{M:Int}(g:GW V M){w:World}{bv bm bo:Nat}(R:Rep w bv bm bo V){i x:Nat}(hx:VL V x)(hs:(V.om x).sym=(V.B i).sym)(hi:i<V.nb):Apart V i x:=by
 intro j hj hne t ht hsd
 rcases hsd with e | ⟨l,hl,e⟩
 ·obtain⟨id,hid⟩:=hx
  obtain⟨_,ix,ho⟩:=R.aQ id x hid
  exact ((R.book j hj).side t ht).ne ho (by decide) e
 ·have:=((g.gb j hj).mem t ht _).1 ⟨l,hl,rfl⟩
  rw[←e,hs]at this
  exact hne (g.kG i j hi hj this.2.1).symm
theorem GW.idx{V:aW}{M:Int}(g:GW V M){x:Nat}(hx:VL V x):∃i t:Nat,i<V.nb∧t<2∧(V.om x).sym=(V.B i).sym∧(V.om x).side=(t:Int):=by
 obtain⟨i,hi,e⟩:=g.sym x hx
 rcases g.side x hx with h | h
 ·exact⟨i,0,hi,by omega,e,h⟩
 ·exact⟨i,1,hi,by omega,e,h⟩
theorem GW.S9{V:aW}{M:Int}(g:GW V M)(G':Lg)(aY:Lm):GW { V with lg:=G',lm:=aY } M:=⟨g.gb,g.kG,g.q,g.sym,g.side⟩
theorem JB{V:aW}{M:Int}(g:GW V M){i b:Nat}{B':Bk}{df:Nat→Ord}{G':Lg}{aY:Lm}(hi:i<V.nb)(hb:VL V b)(hsb:(V.om b).sym=(V.B i).sym)(far:∀x,x≠b→df x=V.om x)(h1:(df b).sym=(V.om b).sym)(h2:(df b).side=(V.om b).side)(hq:Qo M (df b))(hBs:B'.sym=(V.B i).sym)(gi:GB B' df (V.B i).sym (VL V)) :
 GW { V.turn i B' df with lg:=G',lm:=aY } M:=by
 have st:∀x,(df x).sym=(V.om x).sym∧(df x).side=(V.om x).side:=fun x=>by
  by_cases e:x=b
  ·rw[e];exact⟨h1,h2⟩
  ·rw[far x e];exact⟨rfl,rfl⟩
 have sy:∀j,(upd V.B i B' j).sym=(V.B j).sym:=fun j=>by
  by_cases e:j=i
  ·rw[e,upd_same];exact hBs
  ·rw[af _ _ e]
 refine⟨fun j hj=>?_,fun a c ha hc e=>?_,fun x hx=>?_,fun x hx=>?_,fun x hx=>?_⟩
 ·show GB (upd V.B i B' j) df (upd V.B i B' j).sym (VL V)
  rw[sy j]
  by_cases e:j=i
  ·subst e
   rw[upd_same]
   exact gi
  ·rw[af _ _ e]
   have ns:(V.B i).sym≠(V.B j).sym:=fun h=>e (g.kG i j hi hj h).symm
   refine (g.gb j hj).jP (fun x=>?_) (fun x _ hs _=>?_)
   ·by_cases ex:x=b
    ·subst ex
     constructor
     ·rintro⟨_,c,_⟩;exact absurd ((h1.trans hsb).symm.trans c) ns
     ·rintro⟨_,c,_⟩;exact absurd (hsb.symm.trans c) ns
    ·rw[far x ex]
   ·have ex:x≠b:=fun e2=>ns (by rw[e2]at hs;exact hsb.symm.trans hs)
    rw[far x ex];exact⟨rfl,rfl,rfl⟩
 ·refine g.kG a c ha hc ?_
  have e':(upd V.B i B' a).sym=(upd V.B i B' c).sym:=e
  rw[sy a,sy c]at e'
  exact e'
 ·show Qo M (df x)
  by_cases e:x=b
  ·rw[e];exact hq
  ·rw[far x e];exact g.q x hx
 ·obtain⟨j,hj,e⟩:=g.sym x hx
  refine⟨j,hj,?_⟩
  show (df x).sym=(upd V.B i B' j).sym
  rw[(st x).1,sy j];exact e
 ·show (df x).side=0∨(df x).side=1
  rw[(st x).2];exact g.side x hx
structure WI(V:aW)(M:Int)(i s b:Nat)(q:Int)(again:Bool)(V':aW):Prop where
 gw:GW V' M
 aO:V'.aO=V.aO
 no:V'.no=V.no
 nb:V'.nb=V.nb
 lX:∀j,(V'.B j).sym=(V.B j).sym
 way:((again=false∨di (V.om b).kind=false∨(bK (V.B i) V.om (aV (V.om b)) s).isSome=true)∧V'.om=upd V.om b (dN (V.om b) q)∧∀j,(V'.B j).places=(V.B j).places) ∨
  (again=true∧di (V.om b).kind=true∧bK (V.B i) V.om (aV (V.om b)) s=none∧V'.om=bJ V i b q∧∀j,(V'.B j).places=if j=i then wrap64 ((V.B i).places+1) else (V.B j).places)
theorem GI{V:aW}{i:Nat}{B':Bk}{α:Type}(f:Bk→α)(h:f B'=f (V.B i))(j:Nat):f (upd V.B i B' j)=f (V.B j):=by
 by_cases e:j=i
 ·rw[e,upd_same,h]
 ·rw[af _ _ e]
theorem Rz(bv bm bo b i s t:Nat)(V:aW)(M id q:Int)(again:Bool)(w:World)(R:Rep w bv bm bo V)(g:GW V M)(hM:M≤1000000000000000)(hcn:(V.B i).n t<1000)(hid:V.aO id=some b)(hi:i<V.nb)(hs:s<2)(hst:t=1-s)(hsb:(V.om b).sym=(V.B i).sym)(hside:(V.om b).side=(t:Int))(hsz:(V.B i).sym.size≤100)(hq:1≤q)(hq2:q≤(V.om b).filled)
 (hna:0<V.lg.na) (fF:V.lg.na≤3000000) (hnt:V.lg.nt.length+3<1000000000) :
 Calls Tryz.prog 75 #[.pointer (some ⟨bv,0,none⟩),.pointer (some ⟨b,0,none⟩),.int .i64 q,.bool again] w fun e w'=>e=.returned (.tuple #[])∧Turned bv bm bo V (WI V M i s b q again) w w':=by
 have rP:VL V b:=⟨id,hid⟩
 have t2:t<2:=by omega
 have hi':i<V.nb:=hi
 have Ut:(V.om b).side=1-(s:Int):=by rw[hside];omega
 have bY:(V.om b).sym=(V.B i).sym:=hsb
 have hlen:(V.B i).sym.size≤maxLen:=by unfold maxLen;omega
 have hap:=g.apart R rP hsb hi
 have qb:=g.q b rP
 by_cases hc:again=false∨di (V.om b).kind=false∨(bK (V.B i) V.om (aV (V.om b)) s).isSome=true
 ·refine (wK bv bm bo i b s V id q again w R hi' hid bY hlen hs Ut hc hna fF hnt).mono ?_
  rintro e w' ⟨rfl,hm,hnd,k⟩
  obtain⟨q1,q2⟩:=qb.dN hM (by omega) hq2
  have far:∀x,x≠b→upd V.om b (dN (V.om b) q) x=V.om x:=fun x h=>af _ _ h
  refine⟨rfl,Turned.of (S:=fun x=>x=b) R hi' _ (by simp) hnd hm k (fun x hx=>.inr (.inr (by subst hx;exact⟨⟨id,hid⟩,hap⟩))) (fun x=>?_) (fun x=>?_) rfl (fun s hs x hx=>.inl ⟨s,hs,hx⟩) (fun G' aY=>?_)⟩
  ·by_cases e:x=b
   ·exact .inl (e▸hap)
   ·exact .inr (far x e)
  ·by_cases e:x=b
   ·rw[e,upd_same];rfl
   ·rw[far x e]
  ·refine⟨JB g hi rP hsb far (by rw[upd_same];rfl) (by rw[upd_same];rfl) (by rw[upd_same];exact q1) rfl ((g.gb i hi).jP (fun x=>?_) (fun x _ _ _=>?_)),rfl,rfl,rfl,GI (·.sym) rfl,.inl ⟨hc,rfl,GI (·.places) rfl⟩⟩
   ·by_cases e:x=b
    ·rw[e,upd_same];exact Iff.rfl
    ·rw[far x e]
   ·by_cases e:x=b
    ·rw[e,upd_same];exact⟨rfl,rfl,rfl⟩
    ·rw[far x e];exact⟨rfl,rfl,rfl⟩
 ·have ha:again=true:=by
   cases again
   ·exact absurd (.inl rfl) hc
   ·rfl
  have hr:di (V.om b).kind=true:=by
   cases h:di (V.om b).kind
   ·exact absurd (.inr (.inl h)) hc
   ·rfl
  have hf:bK (V.B i) V.om (aV (V.om b)) s=none:=by
   cases h:bK (V.B i) V.om (aV (V.om b)) s with
   | none=>rfl
   | some y=>exact absurd (.inr (.inr (by rw[h];rfl))) hc
  subst ha
  have hk5:(V.om b).kind≠5:=fun e=>by rw[e]at hr;simp[di]at hr
  have bad:=BJ (g.gb i hi) hs hst hk5 hside hf
  have far:∀x,x≠b→bJ V i b q x=V.om x:=fun x h=>pg V i b q h
  obtain⟨q1,q2,q3⟩:=qb.fG hM (by omega) hq2 (wrap64 ((V.B i).places+1))
  have oL:∀x,Apart V i x∨bJ V i b q x=V.om x:=fun x=>by
   by_cases e:x=b
   ·exact .inl (e▸hap)
   ·exact .inr (far x e)
  have hidx:∀x,(bJ V i b q x).id=(V.om x).id:=fun x=>by
   by_cases e:x=b
   ·rw[e,dm];rfl
   ·rw[far x e]
  have fin:∀(B':Bk) (G':Lg) (aY:Lm),B'.sym=(V.B i).sym→B'.places=wrap64 ((V.B i).places+1)→GB B' (bJ V i b q) (V.B i).sym (VL V)→WI V M i s b q true { V.turn i B' (bJ V i b q) with lg:=G',lm:=aY }:=fun B' G' aY hb1 hb2 gb =>
   ⟨JB g hi rP hsb far (by rw[dm];rfl) (by rw[dm];rfl) (by rw[dm];exact q1) hb1 gb,rfl,rfl,rfl,GI (·.sym) hb1,.inr ⟨rfl,hr,hf,rfl,fun j=>by
    show (upd V.B i B' j).places=_
    by_cases e:j=i
    ·rw[e,upd_same,if_pos rfl];exact hb2
    ·rw[af _ _ e,if_neg e]⟩⟩
  have p1:(bJ V i b q b).sym=(V.B i).sym:=by rw[dm];exact hsb
  have p2:(bJ V i b q b).side=(t:Int):=by rw[dm];exact hside
  have p3:0<(bJ V i b q b).opn:=by
   rw[dm]
   show 0<(fG (V.om b) q).opn
   rw[q3];have:=qb.o0;omega
  have p4:(bJ V i b q b).price=(V.om b).price:=by rw[dm];rfl
  have two:∀x,x<2→x=s∨x=t:=by omega
  by_cases h0:0<(V.om b).opn
  ·obtain⟨k,hk,hkb⟩:Mem ((V.B i).n t) ((V.B i).h t) b:=((g.gb i hi).mem t t2 b).2 ⟨rP,hsb,hside,h0⟩
   refine (zQ bv bm bo i b s t k V id q w R hi' hid bY hlen hs hst hside hr hf h0 hk hkb.symm (by omega) hna fF hnt).mono ?_
   rintro e w' ⟨rfl,g',cap',hm,hnd,kc,hg'⟩
   have gl:GB ((V.B i).leave V.om t k) V.om (V.B i).sym (fun x=>VL V x∧x≠b):=by
    have:=rU (g.gb i hi) t2 hk
    rw[←hkb]at this
    exact this
   have eN:((V.B i).leave V.om t k).n s=(V.B i).n s:=by simp only[Bk.leave];rw[af _ _ (by omega)]
   have eH:((V.B i).leave V.om t k).h s=(V.B i).h s:=by simp only[Bk.leave];rw[af _ _ (by omega)]
   refine⟨rfl,Turned.of (S:=fun x=>x=V.bk i∨x=b∨bQ (V.B i) t x) R hi' _ (by simp) hnd hm kc (fun x hx=>?_) oL hidx rfl (fun y hy x hx=>?_) (fun G' aY=>fin _ G' aY rfl rfl (A7 hs hst gl rP far p1 p2 p3 (fun y hy=>?_)))⟩
   ·rcases hx with h | h | h
    ·exact .inl h
    ·exact .inr (.inr (by subst h;exact⟨⟨id,hid⟩,hap⟩))
    ·exact .inr (.inl ⟨t,t2,h⟩)
   ·rcases JU hx with h | h | h
    ·exact .inl ⟨y,hy,Fb ((g.gb i hi).inj t t2) hk h⟩
    ·exact .inr (.inl (by subst h;exact⟨⟨id,hid⟩,hap⟩))
    ·rcases hg' with hg | hg
     ·exact .inl ⟨t,t2,.inl (by rw[hg,h])⟩
     ·exact .inr (.inr (by omega))
   ·rw[eN,eH]at hy
    rw[p4];exact bad y hy
  ·have hno:∀x,x<2→∀k,k<(V.B i).n x→(V.B i).h x k≠b:=fun x hx k hk e=>by
    have:=(((g.gb i hi).mem x hx _).1 ⟨k,hk,rfl⟩).2.2.2
    rw[e]at this
    exact h0 this
   refine (DN bv bm bo i b s t V id q w R hi' hid bY hlen hs hst hside hr hf h0 hno (by omega) hna fF hnt).mono ?_
   rintro e w' ⟨rfl,g',cap',hm,hnd,kc,hg'⟩
   have gl:GB (V.B i) V.om (V.B i).sym (fun x=>VL V x∧x≠b):=(g.gb i hi).jP (fun x=>by
    constructor
    ·rintro⟨⟨a,_⟩,c⟩;exact⟨a,c⟩
    ·rintro⟨a,c⟩;exact⟨⟨a,fun e=>h0 (e▸c.2)⟩,c⟩) (fun x _ _ _=>⟨rfl,rfl,rfl⟩)
   refine⟨rfl,Turned.of (S:=fun x=>x=V.bk i∨x=b∨bQ (V.B i) t x) R hi' _ (by simp) hnd hm kc (fun x hx=>?_) oL hidx rfl (fun y hy x hx=>?_) (fun G' aY=>fin _ G' aY rfl rfl (A7 hs hst gl rP far p1 p2 p3 (fun y hy=>?_)))⟩
   ·rcases hx with h | h | h
    ·exact .inl h
    ·exact .inr (.inr (by subst h;exact⟨⟨id,hid⟩,hap⟩))
    ·exact .inr (.inl ⟨t,t2,h⟩)
   ·rcases JU hx with h | h | h
    ·exact .inl ⟨y,hy,h⟩
    ·exact .inr (.inl (by subst h;exact⟨⟨id,hid⟩,hap⟩))
    ·rcases hg' with hg | hg
     ·exact .inl ⟨t,t2,.inl (by rw[hg,h])⟩
     ·exact .inr (.inr (by omega))
   ·rw[p4];exact bad y hy
end Go.Proofs.YtigaphnafnpfnaaGreatDoor
namespace Go.Proofs.YtigaphnafnpfnaaGreatDoor
open Go.RowKit Go.Maps
attribute [local go_sem ↓] Go.wp_at_zero Go.wp_at_succ
theorem Rep.XZ{w w':World}{bv bm bo x:Nat}{V:aW}(R:Rep w bv bm bo V)(k:ag (fun y=>y=x) w w')(hx:¬dX bv bm bo V x):Rep w' bv bm bo V:=by
 obtain⟨gB,nB,g1,g2⟩:=R.books
 obtain⟨gO,nO,g3⟩:=R.orders
 have nf:∀y,dX bv bm bo V y→¬y=x:=fun y h e=>hx (e▸h)
 exact⟨R.log.kept k (nf _ (.inl rfl)) (fun y hy=>nf y (.inr (.inr (.inr (.inr (.inr hy)))))),⟨gB,nB.kept k (nf _ (.inr (.inl rfl))),g1,g2⟩,⟨gO,nO.kept k (nf _ (.inr (.inr (.inl rfl)))),g3⟩,R.MQ,fun j hj=>(R.book j hj).kept k (fun y hy=>nf y (by
  rcases hy with h | ⟨z,hz,h⟩
  ·exact .inr (.inr (.inr (.inl ⟨j,hj,.inl h⟩)))
  ·exact .inr (.inr (.inr (.inl ⟨j,hj,.inr ⟨z,hz,h⟩⟩))))),fun id y h=>⟨(R.aQ id y h).1,(R.aQ id y h).2.elim fun ix ho=>⟨ix,k.blk ho (nf y (.inr (.inr (.inr (.inr (.inl ⟨id,h⟩))))))⟩⟩,R.mem,R.uT,R.oG,R.eF⟩
structure YK(V:aW)(M:Int)(b:Nat)(V':aW):Prop where
 gw:GW V' M
 aO:V'.aO=V.aO
 no:V'.no=V.no
 nb:V'.nb=V.nb
 lX:∀j,(V'.B j).sym=(V.B j).sym
 Si:∀j,(V'.B j).places=(V.B j).places
 om:V'.om=upd V.om b (fD (V.om b))
theorem aaf{V:aW}{M:Int}(g:GW V M)(hM:M≤1000000000000000){i b s k:Nat}{G':Lg}{aY:Lm}(hi:i<V.nb)(hs:s<2)(hk:k<(V.B i).n s)(hkb:(V.B i).h s k=b):YK V M b { V.turn i ((V.B i).leave V.om s k) (upd V.om b (fD (V.om b))) with lg:=G',lm:=aY }:=by
 subst hkb
 have hm:=((g.gb i hi).mem s hs _).1 ⟨k,hk,rfl⟩
 obtain⟨q1,q2⟩:=(g.q _ hm.1).expire hM
 have g2:=g.leaves (o':=fD (V.om ((V.B i).h s k))) hi hs hk rfl rfl q2 q1
 exact⟨⟨g2.gb,g2.kG,g2.q,g2.sym,g2.side⟩,rfl,rfl,rfl,GI (·.sym) rfl,GI (·.places) rfl,rfl⟩
theorem EE(bv bm bo i b s k:Nat)(V:aW)(M id:Int)(w:World)(R:Rep w bv bm bo V)(g:GW V M)(hM:M≤1000000000000000)(hi:i<V.nb)(hs:s<2)(hk:k<(V.B i).n s)(hkb:(V.B i).h s k=b)(hid:V.aO id=some b)(hna:0<V.lg.na)(fF:V.lg.na≤3000000)(hnt:V.lg.nt.length+3<1000000000) :
 ∀q w2 w3 wC cp2 qH cp3,Mk w2 (V.bk i) ((V.B i).leave V.om s k) V.om (fun x=>∃id,V.aO id=some x)→ag (fun x=>x=V.bk i∨bQ (V.B i) s x) (w.drewN q) w2→Mk w3 (V.bk i) ((V.B i).leave V.om s k) (upd V.om b (fD (V.om b))) (fun x=>∃id,V.aO id=some x)→ag (fun x=>x=b) w2 w3 →
  Calls Tryz.prog 53 #[.pointer (some ⟨bv,0,none⟩),.slice (some ⟨w3.heap.size,0,none⟩) 2 2] (w3.alloc (.cells #[.func wC #[] cp2,.func qH #[] cp3] 1)) fun e w'=>e=.returned (.tuple #[]) ∧
   Turned bv bm bo V (YK V M b) w w'∧ag (fun x=>(x=V.bk i∨bQ (V.B i) s x)∨gm V.lm.av V.lm.ac x) w w'∧Mk w' (V.bk i) ((V.B i).leave V.om s k) (upd V.om b (fD (V.om b))) (fun x=>∃id,V.aO id=some x):=by
 intro q w2 w3 wC cp2 qH cp3 m2 k2 m3 k3
 have hi':i<V.nb:=hi
 have hm:=((g.gb i hi).mem s hs _).1 ⟨k,hk,rfl⟩
 rw[hkb]at hm
 have hap:=g.apart R hm.1 hm.2.1 hi
 have kq:ag ak w (w.drewN q):=(ag.refl ak w).drewN q
 have h2:=(R.log.aj kq).iI k2 (fun x h=>((R.aj kq).zk hi').typ (by
  rcases h with h | h
  ·exact .inl h
  ·exact .inr (.inr ⟨s,hs,h⟩)))
 have h3:=h2.iI k3 (fun x h=>by subst h;exact m2.typ (.inr (.inl ⟨id,hid⟩)))
 refine (IC bv bm bo V.lg V.lm (.left b) (.now b (V.om b)) wC qH cp2 cp3 w3 h3 hna fF (by omega)).mono ?_
 rintro e w' ⟨rfl,aY,a1,a2,a3,a4⟩
 have sdb:bQ (V.B i) s b:=.inr ⟨k,hk,hkb.symm⟩
 have k23:ag (fun x=>x=V.bk i∨bQ (V.B i) s x) w w3:=(kq.aC.trans k2).trans (k3.mono (fun x h=>.inr (by rw[h];exact sdb)))
 have kc:ag (fun x=>(x=V.bk i∨bQ (V.B i) s x)∨gm V.lm.av V.lm.ac x) w w':=(k23.mono (fun x h=>.inl h)).trans (a3.mono (fun x h=>.inr h))
 have hmk:=m3.gK h3 (a3.mono (fun x h=>.inr (.inr (.inr (.inr h)))))
 have far:∀x,x≠b→upd V.om b (fD (V.om b)) x=V.om x:=fun x h=>af _ _ h
 refine⟨rfl,Turned.of (S:=fun x=>x=V.bk i∨bQ (V.B i) s x) R hi' _ (ds:=[.left b,.now b (V.om b)]) (by simp) ⟨aY,a1,fun x hx=>(a2 x hx).imp_right (fun h=>Nat.le_trans k23.size h)⟩ hmk kc (fun x hx=>?_) (fun x=>?_) (fun x=>?_) rfl (fun y hy x hx=>.inl ⟨y,hy,Fb ((g.gb i hi).inj s hs) hk hx⟩) (fun G' aaU=>aaf g hM hi hs hk hkb),kc,hmk⟩
 ·rcases hx with h | h
  ·exact .inl h
  ·exact .inr (.inl ⟨s,hs,h⟩)
 ·by_cases e:x=b
  ·exact .inl (e▸hap)
  ·exact .inr (far x e)
 ·by_cases e:x=b
  ·rw[e,upd_same];rfl
  ·rw[far x e]
def BP(o:Ord):Ord:=if o.kind=1∧0<o.opn then fD o else o
structure MW(bv bm bo n:Nat)(M:Int)(V:aW)(r:Nat)(D:DataW Unit)(f:Lit→Option Nat)(w wr:World)(cnt:Nat)(V':aW)(left:Lit→Bool)(cur:Option Int):Prop where
 rep:Rep wr bv bm bo V'
 gw:GW V' M
 aO:V'.aO=V.aO
 no:V'.no=V.no
 nb:V'.nb=V.nb
 lX:∀j,(V'.B j).sym=(V.B j).sym
 Si:∀j,(V'.B j).places=(V.B j).places
 stat:∀x,(V'.om x).sym=(V.om x).sym∧(V'.om x).side=(V.om x).side∧(V'.om x).id=(V.om x).id∧(V'.om x).filled=(V.om x).filled
 om:∀id x,V.aO id=some x→V'.om x=if left (.int .i64 id)=true∨cur=some id then V.om x else BP (V.om x)
 lg:Vm V.lg.begun V'.lg (3 * (n-cnt))
 VE:wr.ranges Tryz.prog 3 gW bo r n D left cnt
 le:∀kl,left kl=true→(f kl).isSome=true
 foot:∀y,dX bv bm bo V' y→dX bv bm bo V y∨w.heap.size≤y
 cn:cnt≤n
 box:ai wr w.heap.size #[.pointer (some ⟨bv,0,none⟩)] 35
 gY:ag (dX bv bm bo V) w wr
 rr:w.heap.size≤r
theorem MW.step{bv bm bo n:Nat}{M:Int}{V:aW}{r:Nat}{D:DataW Unit}{f:Lit→Option Nat}{w wr W:World}{cnt cnt':Nat}{V':aW}{left:Lit→Bool}{id:Int}(h:MW bv bm bo n M V r D f w wr cnt V' left none)(hid:left (.int .i64 id)=true)(hr:W.ranges Tryz.prog 3 gW bo r n D (fun z=>left z && !z.sameKey (.int .i64 id)) cnt')(hlt:cnt'<cnt)(hg:wr.grownBy W (some r)) :
 MW bv bm bo n M V r D f w W cnt' V' (fun z=>left z && !z.sameKey (.int .i64 id)) (some id):=by
 have kr:ag (fun y=>y=r) wr W:=(ag.refl _ wr).grown hg (fun k e=>.inl (by simpa using e.symm))
 have nf:¬dX bv bm bo V' r:=by
  obtain⟨es,clock,since,seen,c0,_,_,_,_,hh,_⟩:=h.VE
  exact h.rep.KQ hh
 have bx:w.heap.size≠r:=fun e=>(uK h.VE h.box).2 e.symm
 obtain⟨l1,l2,l3,l4,l5⟩:=h.lg
 have:=h.cn
 refine⟨h.rep.XZ kr nf,h.gw,h.aO,h.no,h.nb,h.lX,h.Si,h.stat,fun DZ x hx=>?_,⟨l1,l2,l3,l4,by omega⟩,hr,fun kl e=>h.le kl (by simp at e;exact e.1),h.foot,by omega,kr.blk h.box bx,h.gY.from (kr.mono (fun y e=>.inr (by rw[e];exact h.rr))),h.rr⟩
 rw[h.om DZ x hx]
 by_cases e:DZ=id
 ·subst e
  rw[if_pos (.inl hid),if_pos (.inr rfl)]
 ·have e1:(Lit.int .i64 DZ).sameKey (.int .i64 id)=false:=by simp[Lit.sameKey,e]
  have e2:¬(some id=some DZ):=fun h=>e (Option.some.inj h).symm
  simp only[e1,Bool.not_false,Bool.and_true,e2,or_false,reduceCtorEq]
theorem MW.skip{bv bm bo n:Nat}{M:Int}{V:aW}{r:Nat}{D:DataW Unit}{f:Lit→Option Nat}{w wr:World}{cnt:Nat}{V':aW}{left:Lit→Bool}{id:Int}{x:Nat}(h:MW bv bm bo n M V r D f w wr cnt V' left (some id))(hx:V.aO id=some x)(hk:¬((V.om x).kind=1∧0<(V.om x).opn)):MW bv bm bo n M V r D f w wr cnt V' left none:=by
 refine { h with om:=fun DZ x2 hx2=>?_ }
 rw[h.om DZ x2 hx2]
 by_cases e:DZ=id
 ·subst e
  rw[hx]at hx2
  obtain rfl:=Option.some.inj hx2
  rw[if_pos (.inr rfl)]
  split
  ·rfl
  ·unfold BP;rw[if_neg hk]
 ·have e2:¬(some id=some DZ):=fun h=>e (Option.some.inj h).symm
  simp only[e2,or_false,reduceCtorEq]
theorem MW.turn{bv bm bo n:Nat}{M:Int}{V:aW}{r:Nat}{D:DataW Unit}{f:Lit→Option Nat}{w wr W:World}{cnt:Nat}{V':aW}{left:Lit→Bool}{i s x:Nat}{id:Int}(h:MW bv bm bo n M V r D f w wr cnt V' left (some id))(hx:V.aO id=some x)(hk:(V.om x).kind=1∧0<(V.om x).opn)(hlf:left (.int .i64 id)=false)(hlt:cnt<n)(hnt:V'.lg.nt.length≤V.lg.begun.nt.length+3 * (n-(cnt+1)))(hi:i<V'.nb)(hs:s<2)
 (ht:Turned bv bm bo V' (YK V' M x) wr W) (kc:ag (fun x=>(x=V'.bk i∨bQ (V'.B i) s x)∨gm V'.lm.av V'.lm.ac x) wr W) :
 ∃V'',MW bv bm bo n M V r D f w W cnt V'' left none:=by
 obtain⟨V2,R2,ex,⟨l1,l2,l3,l4,l5⟩,hb,_,k2,hF⟩:=ht
 have hi':i<V'.nb:=hi
 have typ:∀x,((x=V'.bk i∨bQ (V'.B i) s x)∨gm V'.lm.av V'.lm.ac x)→∃c t,ai wr x c t:=by
  rintro x ((e | e) | e)
  ·obtain⟨c,t,hc,_⟩:=(h.rep.zk hi').typ (.inl e);exact⟨c,t,hc⟩
  ·obtain⟨c,t,hc,_⟩:=(h.rep.zk hi').typ (.inr (.inr ⟨s,hs,e⟩));exact⟨c,t,hc⟩
  ·obtain⟨c,t,hc,_⟩:=h.rep.log.log.act.typ e;exact⟨c,t,hc⟩
 have n1:¬((bo=V'.bk i∨bQ (V'.B i) s bo)∨gm V'.lm.av V'.lm.ac bo):=fun e=>by
  obtain⟨c,t,hc⟩:=typ bo e
  exact (uK h.VE hc).1 rfl
 have n2:¬((r=V'.bk i∨bQ (V'.B i) s r)∨gm V'.lm.av V'.lm.ac r):=fun e=>by
  obtain⟨c,t,hc⟩:=typ r e
  exact (uK h.VE hc).2 rfl
 obtain⟨m1,m2,m3,m4,m5⟩:=h.lg
 have ids:∀DZ,V.aO DZ=some x→DZ=id:=fun DZ h2=>by
  have a1:=(h.rep.aQ DZ x (by rw[h.aO];exact h2)).1
  have a2:=(h.rep.aQ id x (by rw[h.aO];exact hx)).1
  rw[←a1,a2]
 have Zn:V'.om x=V.om x:=by rw[h.om id x hx,if_pos (.inr rfl)]
 refine⟨V2,R2,ex.gw,ex.aO.trans h.aO,ex.no.trans h.no,ex.nb.trans h.nb,fun j=>(ex.lX j).trans (h.lX j),fun j=>(ex.Si j).trans (h.Si j),fun y=>?_,fun DZ y hy=>?_,⟨l1.trans m1,l2.trans m2,l3.trans m3,l4.trans m4,by omega⟩,FX h.VE kc n1 n2,h.le,fun y hy=>?_,h.cn,hb _ _ _ h.box (.inr (.inl rfl)),h.gY.from (k2.mono (fun y hy=>h.foot y hy)),h.rr⟩
 ·rw[ex.om]
  by_cases e:y=x
  ·rw[e,upd_same];exact h.stat x
  ·rw[af _ _ e];exact h.stat y
 ·rw[ex.om]
  by_cases e:y=x
  ·subst e
   have e2:=ids DZ hy
   subst e2
   rw[upd_same,hlf,Zn]
   simp only[Bool.false_eq_true,reduceCtorEq,or_self,if_false]
   unfold BP
   rw[if_pos hk]
  ·have e3:DZ≠id:=fun e2=>e (by rw[e2,hx]at hy;exact (Option.some.inj hy).symm)
   have e2:¬(some id=some DZ):=fun h=>e3 (Option.some.inj h).symm
   rw[af _ _ e,h.om DZ y hy]
   simp only[e2,or_false,reduceCtorEq]
 ·rcases hF y hy with e | e
  ·exact h.foot y e
  ·exact .inr (Nat.le_trans h.gY.size e)
def uw(day:Int):Tr:=⟨0,⟨#[]⟩,0,0,0,0,day⟩
structure ClV(V:aW)(M:Int)(V':aW):Prop where
 gw:GW V' M
 aO:V'.aO=V.aO
 no:V'.no=V.no
 nb:V'.nb=V.nb
 lX:∀j,(V'.B j).sym=(V.B j).sym
 Si:∀j,(V'.B j).places=(V.B j).places
 stat:∀x,(V'.om x).sym=(V.om x).sym∧(V'.om x).side=(V.om x).side∧(V'.om x).id=(V.om x).id∧(V'.om x).filled=(V.om x).filled
 om:∀id x,V.aO id=some x→V'.om x=BP (V.om x)
 tr:V'.lg.tr=V.lg.tr
 tp:V'.lg.tp=V.lg.tp++[⟨(V.lg.tp.length:Int)+1,4,uw V.lg.day⟩]
 day:V'.lg.day=wrap64 (V.lg.day+1)
 na:V'.lg.na=V.lg.na+1
end Go.Proofs.YtigaphnafnpfnaaGreatDoor
