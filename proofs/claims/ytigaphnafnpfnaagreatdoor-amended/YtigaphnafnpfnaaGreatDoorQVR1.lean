import Derived.Test.YtigaphnafnpfnaaGreatDoorQVQ2
import Derived.Test.YtigaphnafnpfnaaGreatDoorQVR5
import Derived.ArgAppend
import Derived.Deep.DeepAppendRoom
import Derived.Test.YtigaphnafnpfnaaGreatDoorQVU1
import Derived.Test.YtigaphnafnpfnaaGreatDoorQVX11
set_option linter.unusedVariables false
set_option linter.unusedSimpArgs false
set_option maxHeartbeats 8000000
set_option maxRecDepth 100000
namespace Go.Proofs.YtigaphnafnpfnaaGreatDoor
open Go.RowKit Go.Maps
def DX(x:Pr)(K:Nat→Prop)(w w':World):Prop:=∃x',jA w' x'∧ag (fun b=>PF x b∨K b) w w'∧(∀b,PF x' b→PF x b∨w.heap.size≤b)∧x'.bv=x.bv∧x'.rb=x.rb∧x'.N≤x.N+1
theorem DX.of{x:Pr}{K:Nat→Prop}{w0 w w':World}(k0:ag ak w0 w)(h:DX x K w w')(hK:∀b,K b→w0.heap.size≤b):GN x w0 w':=by
 obtain⟨x',h1,h2,h3,h4,h5,h6⟩:=h
 exact⟨x',h1,k0.aC.from (h2.mono (fun b hb=>hb.elim .inl (fun y=>.inr (hK b y)))),fun b hb=>(h3 b hb).imp_right (fun y=>Nat.le_trans k0.size y),h4,h5,h6⟩
theorem DX.more{x:Pr}{K K':Nat→Prop}{w w' w'':World}(h:DX x K w w')(k:ag K' w' w'')(hK:∀b,K' b→¬PF x b∧b<w.heap.size):DX x (fun b=>K b∨K' b) w w'':=by
 obtain⟨x',h1,h2,h3,h4,h5,h6⟩:=h
 refine⟨x',h1.kept k (fun b hb hk=>?_),(h2.mono (fun b hb=>hb.imp_right .inl)).trans (k.mono (fun b hb=>.inr (.inr hb))),h3,h4,h5,h6⟩
 rcases h3 b hb with y | y
 ·exact (hK b hk).1 y
 ·have:=(hK b hk).2;omega
theorem Out.gY{bv bm bo:Nat}{V:aW}{p:Nat→Nat}{S:RS}{N:Nat}{a:aP}{f r n i c E:Int}{w w1:World}(h:Out bv bm bo V p S N a f r n i c E w w1):ag (dX bv bm bo V) w w1:=by
 rcases h with⟨_,k,_⟩ | ⟨_,_,V',_,_,k,_⟩
 ·exact k.aC
 ·exact k
theorem rZ{x:Pr}{a:aP}{f r n i c E:Int}{K:Nat→Prop}{w w1 w2:World}(h:jA w x)(hN:x.N<2000000)(hO:Out x.bv x.bm x.bo x.V x.p x.S x.N a f r n i c E w w1)(k2:ag K w1 w2)(hK:∀b,K b→¬PF x b∧b<w.heap.size) :
 Calls Tryz.prog 99 #[.pointer (some ⟨x.rb,0,none⟩),a.val] w2 fun e w'=>e=.returned (.tuple #[bu f r n i c,.int .i64 E])∧DX x K w w'∧ag (RF x.rb x.av x.rv) w2 w':=by
 have hA:=h.aN
 rcases hO with⟨hE,k,S',hd⟩ | ⟨rfl,⟨ln,hl,hln⟩,V',R',⟨S',p',hs',htp,hd,htold,hsz⟩,k,hf⟩
 ·have d2:=(h.doc.aj k).kept k2 (fun b hb hk=>(hK b hk).1 (.inr hb))
  refine (Rt 0 x.rb x.A x.R x.L x.av x.rv x.S S' a f r n i c E w2 d2 h.hist (by omega) hd hE).mono ?_
  rintro e w' ⟨rfl,k3⟩
  exact⟨rfl,⟨x,((h.aj k).kept k2 (fun b hb hk=>(hK b hk).1 hb)).aj k3,(k.aC.trans (k2.mono (fun b hb=>.inr hb))).trans k3.aC,fun b hb=>.inl hb,rfl,rfl,by omega⟩,k3.aC⟩
 ·have d1:RV w1 0 x.rb x.A x.R x.L x.av x.rv:=h.doc.kept k (fun b hb hf=>h.apart b hf hb)
  have hR:x.R.length≤300 * x.N:=by rw[←h.rt];exact h.nH.tpN
  have hL:=h.lN
  refine (UZ 0 x.rb x.A x.R x.L ln x.av x.rv x.S S' a f r n i c w2 (d1.kept k2 (fun b hb hk=>(hK b hk).1 (.inr hb))) h.hist (by omega) hd hl (by omega) (by omega) (by omega)).mono ?_
  rintro e w' ⟨rfl,YZ,rv',d3,q3,k3⟩
  have nfr:∀b,dX x.bv x.bm x.bo V' b→¬RF x.rb x.av x.rv b:=fun b hb hr=>by
   rcases hf b hb with hx | hx
   ·exact h.apart b hx hr
   ·have:=(h.doc.lt hr).2;omega
  have nfk:∀b,dX x.bv x.bm x.bo V' b→¬K b:=fun b hb hk=>by
   rcases hf b hb with hx | hx
   ·exact (hK b hk).1 (.inl hx)
   ·have:=(hK b hk).2;omega
  have aaW:=k2.size
  have szw:=k.size
  refine⟨rfl,⟨⟨x.bv,x.bm,x.bo,x.rb,V',x.A++[a],recs x.R S'.told,x.L++ln++⟨#[10]⟩,YZ,rv',p',S',x.N+1⟩,?_,?_,?_,rfl,rfl,Nat.le_refl _⟩,k3⟩
  ·refine⟨(R'.OI k2 nfk).OI k3 nfr,d3,hs',h.hist.snoc hd,fun b hb hr=>?_,?_,?_,?_,hsz⟩
   ·rcases q3 b hr with hx | hx
    ·exact nfr b hb hx
    ·have:=R'.BU hb;omega
   ·simp only[List.length_append,List.length_singleton];omega
   ·rw[htp,h.rt]
   ·simp only[ByteArray.size_append]
    show x.L.size+ln.size+1≤400 * (x.N+1)
    omega
  ·refine ((k.mono (fun b hb=>.inl (.inl hb))).trans (k2.mono (fun b hb=>.inr hb))).trans (k3.mono (fun b hb=>.inl (.inr hb)))
  ·intro b hb
   rcases hb with hb | hb
   ·rcases hf b hb with hx | hx
    ·exact .inl (.inl hx)
    ·exact .inr hx
   ·rcases q3 b hb with hx | hx
    ·exact .inl (.inr hx)
    ·exact .inr (by omega)
structure ji where
 kind:Int
 m:Int
 a:Int
 b:Int
 c:Int
 s:ByteArray
 o:Ask
def ji.cells(o:ji):Array Value:=#[.int .i64 o.kind,.int .i64 o.m,.int .i64 o.a,.int .i64 o.b,.int .i64 o.c,.string o.s,.int .i64 o.o.id,.int .i64 o.o.owner,.string o.o.sym,.int .i64 o.o.side,.int .i64 o.o.kind,.int .i64 o.o.price,.int .i64 o.o.qty]
def ji.val(o:ji):Value:=.agg o.cells
structure nV(o:ji):Prop where
 m:bZ o.m
 a:bZ o.a
 id:bZ o.o.id
 own:bZ o.o.owner
 kd:bZ o.o.kind
 pr:bZ o.o.price
 s:o.s.size≤100000000
 sym:o.o.sym.size≤100000000
theorem Cc{n:Int}(h:bZ n):(Lit.int .i64 n).wf=true:=WalkArith.wf_i64 (by unfold bZ at h;omega)
def marks(mk:Int):Nat→List Value
 | 0=>[]
 | n+1=>marks mk n++[.int .i64 mk,.int .i64 0,.int .i64 0]
theorem iR(mk:Int):∀n,(marks mk n).length=n * 3
 | 0=>rfl
 | n+1=>by rw[marks,List.length_append,iR mk n];simp;omega
theorem Iz(mk:Int){k n:Nat}(h:k≤n):(marks mk n).take (k * 3)=marks mk k:=by
 induction n with
 | zero=>have:k=0:=by omega
         subst this;rfl
 | succ n ih =>
   by_cases e:k=n+1
   ·subst e;rw[List.take_of_length_le (by rw[iR];omega)]
   ·rw[marks,List.take_append_of_le_length (by rw[iR];omega)]
    exact ih (by omega)
theorem tJ(mk:Int){i n j:Nat}(h:i<n)(hj:j<3):(marks mk n)[i * 3+j]?=[Value.int .i64 mk,.int .i64 0,.int .i64 0][j]?:=by
 induction n with
 | zero=>omega
 | succ n ih =>
   rw[marks]
   by_cases e:i=n
   ·subst e
    rw[List.getElem?_append_right (by rw[iR];omega),iR]
    congr 1
    omega
   ·rw[List.getElem?_append_left (by rw[iR];omega)]
    exact ih (by omega)
structure Hd where
 hb:Nat
 lv:Value
 cO:List Value
 Vy:Int
def AO(x:Pr):List Value:=[.pointer (some ⟨x.bv,0,none⟩),.pointer (some ⟨x.rb,0,none⟩)]
def lC(X:List Pr):List Value:=X.flatMap AO
def holdV(h:Hd):Value:=.pointer (some ⟨h.hb,0,none⟩)
theorem KO{X:List Pr}{i:Nat}{x x':Pr}(hi:X[i]?=some x)(h1:x'.bv=x.bv)(h2:x'.rb=x.rb):lC (X.set i x')=lC X:=by
 unfold lC
 induction X generalizing i with
 | nil=>simp at hi
 | cons y X ih =>
   cases i with
   | zero =>
     simp only[List.getElem?_cons_zero,Option.some.injEq]at hi
     subst hi
     simp only[List.set_cons_zero,List.flatMap_cons,AO,h1,h2]
   | succ i =>
     simp only[List.getElem?_cons_succ]at hi
     simp only[List.set_cons_succ,List.flatMap_cons]
     rw[ih hi]
end Go.Proofs.YtigaphnafnpfnaaGreatDoor
namespace Go.Proofs.YtigaphnafnpfnaaGreatDoor
open Go.RowKit
attribute [local go_sem ↓] Go.wp_at_zero Go.wp_at_succ
theorem wO{w:World}{base e n c:Nat}{a:Option Addr}{xs:List Value}(h:w.ownsRow base e 1 (.slice a n c) n xs){i:Nat}{v:Value}(hn:xs.length=n)(hi:xs[i]?=some v):∃g,a=some ⟨g,0,none⟩∧g<w.heap.size∧w.cell? ⟨g,i,none⟩=some v:=by
 have hi':=(List.getElem?_eq_some_iff.1 hi).1
 obtain⟨g,rfl,_⟩:=fH h (by omega)
 refine⟨g,rfl,(h.lt g rfl).2,?_⟩
 rw[h.cellAt _ (by omega)]
 exact hi
theorem Uz:(Tryz.prog.info? 63).map (fun i=>(i.zero,i.size,i.bytes))=some (some (.slice none 0 0),1,24):=by kernel_rfl
theorem Ce:(Tryz.prog.info? 133).map (fun i=>(i.zero,i.size,i.bytes))=some (some (.pointer none),1,8):=by kernel_rfl
theorem Lr{cs:Array Value}{mk:Int}{i:Nat}(h:cs.toList.take (i * 3)=marks mk i)(hs:i * 3+3≤cs.size) :
 (((cs.setIfInBounds (i * 3) (.int .i64 mk)).setIfInBounds (i * 3+1) (.int .i64 0)).setIfInBounds (i * 3+2) (.int .i64 0)).toList.take ((i+1) * 3)=marks mk (i+1):=by
 apply List.ext_getElem?
 intro j
 rw[List.getElem?_take]
 by_cases hj:j<(i+1) * 3
 ·rw[if_pos hj]
  simp only[Array.toList_setIfInBounds]
  by_cases h2:j=i * 3+2
  ·subst h2
   rw[List.getElem?_set_self (by simp;omega)]
   have:=tJ mk (i:=i) (n:=i+1) (j:=2) (by omega) (by omega)
   rw[this];rfl
  ·rw[List.getElem?_set_ne (fun e=>h2 e.symm)]
   by_cases h1:j=i * 3+1
   ·subst h1
    rw[List.getElem?_set_self (by simp;omega)]
    have:=tJ mk (i:=i) (n:=i+1) (j:=1) (by omega) (by omega)
    rw[this];rfl
   ·rw[List.getElem?_set_ne (fun e=>h1 e.symm)]
    by_cases h0:j=i * 3
    ·subst h0
     rw[List.getElem?_set_self (by simp;omega)]
     have:=tJ mk (i:=i) (n:=i+1) (j:=0) (by omega) (by omega)
     exact this.symm
    ·rw[List.getElem?_set_ne (fun e=>h0 e.symm)]
     have hlt:j<i * 3:=by omega
     have:cs.toList[j]?=(marks mk i)[j]?:=by rw[←h,List.getElem?_take,if_pos hlt]
     rw[this,marks,List.getElem?_append_left (by rw[iR];exact hlt)]
 ·rw[if_neg hj,List.getElem?_eq_none (by rw[iR];omega)]
structure KL(B hb:Nat)(mk:Int)(v0:Value)(w:World)(c:Value)(n:Nat)(cO:List Value)(lv:Value)(wr:World):Prop where
 blk:ai wr hb #[lv,.slice none 0 0,.slice none 0 0,.int .i64 mk] 178
 bI:wr.ownsRow B 63 1 lv cO.length cO
 cur:wr.ownsRow B 93 3 c n (marks mk n)
 each:∀v∈cO,∃a k cc,v=.slice a k cc∧k≤n∧(k=0∨∃g cs,a=some ⟨g,0,none⟩∧ai wr g cs 93∧cs.toList.take (k * 3)=marks mk k)
 ownB:∀v∈cO,∀b,v.ownBlock=some b→B≤b∧b<wr.heap.size
 gY:ag (fun b=>v0.ownBlock=some b) w wr
 size:B≤w.heap.size
 gh:w.heap.size≤hb
 Bo:∀b,v0.ownBlock=some b→B≤b
 xE:∀b,c.ownBlock=some b→v0.ownBlock=some b∨w.heap.size≤b
 pV:∀b,lv.ownBlock=some b→w.heap.size≤b
theorem KL.listed{B hb:Nat}{mk:Int}{v0:Value}{w:World}{a:Option Addr}{cc n:Nat}{cO:List Value}{lv:Value}{wr w2:World}{la lc:Nat}(h:KL B hb mk v0 w (.slice a n cc) n cO lv wr)
 (hown:w2.ownsRow B 63 1 (.slice (some ⟨la,0,none⟩) (cO.length+1) lc) (cO.length+1) (cO++[.slice a n cc])) (hg:(wr.alloc (.cells #[.slice a n cc] 63)).grownBy w2 lv.ownBlock) (hat:lv.ownBlock=some la∨w.heap.size≤la) :
 KL B hb mk v0 w (.slice a n cc) n (cO++[.slice a n cc]) (.slice (some ⟨la,0,none⟩) (cO.length+1) lc) (w2.setCell ⟨hb,0,none⟩ (.slice (some ⟨la,0,none⟩) (cO.length+1) lc)):=by
 have k1:ag (fun b=>lv.ownBlock=some b) wr w2:=((ag.refl (fun b=>lv.ownBlock=some b) wr).alloc _).grown hg (fun k e=>.inl e)
 have ty:∀b,lv.ownBlock=some b→∃cs t',ai wr b cs t'∧t'=63:=fun b hb2=>by obtain⟨cs,hc⟩:=ay h.bI hb2;exact⟨cs,63,hc,rfl⟩
 have b2:ai w2 hb _ 178:=k1.blk h.blk (fun e=>by obtain⟨cs,hc⟩:=ay h.bI e;exact ai.ne hc h.blk (by decide) rfl)
 have k2:ag (fun b=>b=hb) w2 (w2.setCell ⟨hb,0,none⟩ (.slice (some ⟨la,0,none⟩) (cO.length+1) lc)):=(ag.refl (fun b=>b=hb) w2).setCell (p:=⟨hb,0,none⟩) (.inl rfl) _
 have xZ:∀g cs,ai wr g cs 93→ai (w2.setCell ⟨hb,0,none⟩ (.slice (some ⟨la,0,none⟩) (cO.length+1) lc)) g cs 93:=fun g cs hgc =>
  k2.blk (k1.blk hgc (fun e=>by obtain⟨cs',hc⟩:=ay h.bI e;exact ai.ne hc hgc (by decide) rfl)) (fun e=>by subst e;exact ai.ne h.blk hgc (by decide) rfl)
 have szk:wr.heap.size≤(w2.setCell ⟨hb,0,none⟩ (.slice (some ⟨la,0,none⟩) (cO.length+1) lc)).heap.size:=Nat.le_trans k1.size k2.size
 have Ey:(w2.setCell ⟨hb,0,none⟩ (.slice (some ⟨la,0,none⟩) (cO.length+1) lc)).ownsRow B 93 3 (.slice a n cc) n (marks mk n):=by
  have r1:=aJ (t:=0) h.cur k1 (fun b hb2=>by obtain⟨cs,t,hc,e⟩:=ty b hb2;exact⟨cs,t,hc,by rw[e];decide⟩)
  exact aJ (t:=0) r1 k2 (fun b hb2=>by subst hb2;exact⟨_,_,b2,by decide⟩)
 refine⟨b2.set 0 _,?_,Ey,fun v hv=>?_,fun v hv b hb2=>?_,?_,h.size,h.gh,h.Bo,h.xE,fun b hb2=>?_⟩
 ·rw[List.length_append,List.length_singleton]
  exact aJ (t:=0) hown k2 (fun b hb2=>by subst hb2;exact⟨_,_,b2,by decide⟩)
 ·rw[List.mem_append,List.mem_singleton]at hv
  rcases hv with hv | hv
  ·obtain⟨a',k',c',e,h1,h2⟩:=h.each v hv
   refine⟨a',k',c',e,h1,?_⟩
   rcases h2 with h2 | ⟨g,cs,e2,h3,h4⟩
   ·exact .inl h2
   ·exact .inr ⟨g,cs,e2,xZ g cs h3,h4⟩
  ·subst hv
   refine⟨a,n,cc,rfl,Nat.le_refl _,?_⟩
   rcases Ey.2 with⟨_,h0⟩ | ⟨g,cap,cs,e1,_,hb3,_,_,_,ht⟩
   ·exact .inl h0
   ·injection e1 with e1 _ _
    exact .inr ⟨g,cs,e1,hb3,ht⟩
 ·rw[List.mem_append,List.mem_singleton]at hv
  rcases hv with hv | hv
  ·have:=h.ownB v hv b hb2;exact⟨this.1,by omega⟩
  ·subst hv
   have:=h.cur.lt b hb2
   exact⟨this.1,by omega⟩
 ·exact h.gY.from ((k1.mono (fun b hb2=>.inr (h.pV b hb2))).trans (k2.mono (fun b hb2=>.inr (by have:=h.gh;omega))))
 ·simp only[Value.ownBlock,Option.some.injEq]at hb2
  rcases hat with e | e
  ·exact h.pV b (by rw[e,hb2])
  ·omega
theorem KL.spare{B hb g cc n:Nat}{mk:Int}{v0:Value}{w:World}{cO:List Value}{lv:Value}{wr w2:World}{o:Obj}(h:KL B hb mk v0 w (.slice (some ⟨g,0,none⟩) n cc) n cO lv wr)
 (hown:w2.ownsRow B 93 3 (.slice (some ⟨g,0,none⟩) (n+1) cc) (n+1) (marks mk n++[.int .i64 mk,.int .i64 0,.int .i64 0])) (hg:(wr.alloc o).grownBy w2 (some g)) :
 KL B hb mk v0 w (.slice (some ⟨g,0,none⟩) (n+1) cc) (n+1) cO lv w2:=by
 have k1:ag (fun b=>b=g) wr w2:=((ag.refl (fun b=>b=g) wr).alloc _).grown hg (fun k e=>.inl (by simpa using e.symm))
 obtain⟨Xa,hgb⟩:=ay h.cur (b:=g) rfl
 have hm:marks mk n++[.int .i64 mk,.int .i64 0,.int .i64 0]=marks mk (n+1):=rfl
 rw[hm]at hown
 obtain⟨cs2,hb2,ht2⟩:∃cs2,ai w2 g cs2 93∧cs2.toList.take ((n+1) * 3)=marks mk (n+1):=by
  rcases hown.2 with⟨e,_⟩ | ⟨g',cap,cs,e1,_,hb3,_,_,_,ht⟩
  ·cases e
  ·injection e1 with e1 _ _
   have:g=g':=by simpa using e1
   subst this
   exact⟨cs,hb3,ht⟩
 refine⟨k1.blk h.blk (fun e=>by subst e;exact ai.ne h.blk hgb (by decide) rfl),aJ (t:=0) h.bI k1 (fun b hb3=>by subst hb3;exact⟨_,_,hgb,by decide⟩),hown,fun v hv=>?_,fun v hv b hb3=>?_,h.gY.from (k1.mono (fun b hb3=>by subst hb3;exact h.xE _ rfl)),h.size,h.gh,h.Bo,h.xE,h.pV⟩
 ·obtain⟨a',k',c',e,h1,h2⟩:=h.each v hv
  refine⟨a',k',c',e,by omega,?_⟩
  rcases h2 with h2 | ⟨g',cs,e2,h3,h4⟩
  ·exact .inl h2
  ·right
   by_cases eg:g'=g
   ·subst eg
    refine⟨g',cs2,e2,hb2,?_⟩
    have:(cs2.toList.take ((n+1) * 3)).take (k' * 3)=cs2.toList.take (k' * 3):=by rw[List.take_take];congr 1;omega
    rw[←this,ht2]
    exact Iz mk (by omega)
   ·exact⟨g',cs,e2,k1.blk h3 eg,h4⟩
 ·have:=h.ownB v hv b hb3;have:=k1.size;exact⟨by omega,by omega⟩
theorem KL.copied{B hb cc n:Nat}{a:Option Addr}{mk:Int}{v0 v':Value}{w:World}{cO:List Value}{lv:Value}{wr w2:World}{o:Obj}(h:KL B hb mk v0 w (.slice a n cc) n cO lv wr)
 (hown:w2.ownsRow (wr.alloc o).heap.size 93 3 v' (n+1) (marks mk n++[.int .i64 mk,.int .i64 0,.int .i64 0])) (hg:(wr.alloc o).grownBy w2 none):KL B hb mk v0 w v' (n+1) cO lv w2:=by
 have k1:ag ak wr w2:=((ag.refl ak wr).alloc _).grown hg (fun k e=>by cases e)
 have sw:=h.gY.size
 have hm:marks mk n++[.int .i64 mk,.int .i64 0,.int .i64 0]=marks mk (n+1):=rfl
 rw[hm]at hown
 have hsz:(wr.alloc o).heap.size=wr.heap.size+1:=by simp
 have hB:=h.size
 refine⟨k1.blk h.blk (fun z=>z),au h.bI k1 (fun _ _ z=>z),?_,fun v hv=>?_,fun v hv b hb3=>?_,h.gY.trans k1.aC,h.size,h.gh,h.Bo,fun b hb3=>.inr (by have:=(hown.lt b hb3).1;omega),h.pV⟩
 ·exact⟨hown.1,hown.2.imp_right (fun ⟨g,cap,cs,e1,e2,e3⟩=>⟨g,cap,cs,e1,by omega,e3⟩)⟩
 ·obtain⟨a',k',c',e,h1,h2⟩:=h.each v hv
  refine⟨a',k',c',e,by omega,h2.imp_right (fun ⟨g,cs,e2,h3,h4⟩=>⟨g,cs,e2,k1.blk h3 (fun z=>z),h4⟩)⟩
 ·have:=h.ownB v hv b hb3;have:=k1.size;exact⟨by omega,by omega⟩
theorem SS(w:World)(mk:Int):∀j u,([Value.int .i64 mk,.int .i64 0,.int .i64 0]:List Value)[j]?=some u→(w.alloc (.cells #[.int .i64 mk,.int .i64 0,.int .i64 0] 93)).cell? (Addr.add ⟨w.heap.size,0,none⟩ j)=some u:=O0 w ⟨mk,0,0⟩
theorem Az(w:World)(v:Value)(t:TypeId):∀j u,([v]:List Value)[j]?=some u→(w.alloc (.cells #[v] t)).cell? (Addr.add ⟨w.heap.size,0,none⟩ j)=some u:=by
 intro j u hj
 have hb:=ai.new w #[v] t
 match j,hj with
 | 0,hj=>rw[←hj];exact hb.cell 0
 | j+1,hj=>simp at hj
theorem Iy{xs:List Value}{mk:Int}{i:Nat}(h:xs.take (i * 3)=marks mk i)(hs:i * 3+3≤xs.length) :
 (((xs.set (i * 3) (.int .i64 mk)).set (i * 3+1) (.int .i64 0)).set (i * 3+2) (.int .i64 0)).take ((i+1) * 3)=marks mk (i+1):=by
 have:=Lr (cs:=xs.toArray) (mk:=mk) (i:=i) (by simpa using h) (by simpa using hs)
 simpa using this
theorem QV:(Tryz.prog.info? 93).map (fun i=>(i.zero,i.size,i.bytes))=some (some (.agg #[.int .i64 0,.int .i64 0,.int .i64 0]),3,24):=by kernel_rfl
theorem QZ{ops:Array Oper}{rest:List Oper}{o:Oper}{a:Act}{Q:Exit→Act→World→Prop}(hgd:o.guard=none)(s x:Operand)(ho:o.op=.call { callee:=.builtin .append,args:=#[s,x],argTypes:=#[63,63] })
 {B hb n cc:Nat} {mk:Int} {v0 lv:Value} {w0 wr:World} {ao:Option Addr} {cO:List Value} (hkl:KL B hb mk v0 w0 (.slice ao n cc) n cO lv wr) (hn:n≤100000) (hs:a.eval s=.slice ao n cc) (hx:a.eval x=.slice (some ⟨wr.heap.size,0,none⟩) 1 1)
 (h:∀ao' cc' w2,KL B hb mk v0 w0 (.slice ao' (n+1) cc') (n+1) cO lv w2→wpList Tryz.prog ops Q rest (a.put o.dst (.slice ao' (n+1) cc')) w2) :
 wpList Tryz.prog ops Q (o :: rest) a (wr.alloc (.cells #[.int .i64 mk,.int .i64 0,.int .i64 0] 93)):=by
 obtain⟨i0,hi0,hz0,hz1,hz2⟩:=info_parts QV
 have kz:ag ak wr (wr.alloc (.cells #[.int .i64 mk,.int .i64 0,.int .i64 0] 93)):=(ag.refl ak wr).alloc _
 have xQ:=au hkl.cur kz (fun _ _ z=>z)
 have hm1:n+1≤maxLen:=by unfold maxLen;omega
 by_cases hr:n+1≤cc
 ·rcases hkl.cur.2 with⟨e,h0⟩ | ⟨g,cap,cs,e1,_⟩
  ·injection e with _ _ e3;omega
  ·injection e1 with e1 _ e3
   subst e1
   exact wpList_append_own_spare _ hgd s x 63 ho B 93 i0 3 Tryz.underlying63 hi0 hz1 g n cc (marks mk n) hs xQ ⟨wr.heap.size,0,none⟩ 1 1 [.int .i64 mk,.int .i64 0,.int .i64 0] hx rfl (SS _ _) (by simp[Value.oneCell']) hr (fun w' h2 h3=>h _ _ w' (hkl.spare h2 h3))
 ·have hlen:(marks mk n).length=n * 3:=iR mk n
  refine wpList_append_grows _ hgd s x 63 ho 93 i0 _ 3 24 Tryz.underlying63 hi0 hz0 hz1 hz2 rfl (by decide) ao n cc (marks mk n) hs ?_ hlen ?_ ⟨wr.heap.size,0,none⟩ 1 1 [.int .i64 mk,.int .i64 0,.int .i64 0] hx rfl (SS _ _) (by simp[Value.oneCell']) (by omega) hm1 (by omega) (fun v' w' h2 h3=>?_)
  ·intro e
   rcases hkl.cur.2 with⟨e2,h0⟩ | ⟨g,cap,cs,e1,_⟩
   ·injection e2 with _ _ e3;exact⟨h0,e3⟩
   ·injection e1 with e1 _ _;rw[e]at e1;cases e1
  ·intro b e j u hj
   subst e
   rcases xQ.2 with⟨e2,h0⟩ | ⟨g,cap,cs,e1,_⟩
   ·cases e2
   ·injection e1 with e1 _ _
    injection e1 with e1
    subst e1
    have hjl:j<n * 3:=by rw[←hlen];exact (List.getElem?_eq_some_iff.1 hj).1
    have:=(xQ.cellAt j hjl).trans hj
    rw[Addr.add_lit,Nat.zero_add];exact this
  ·obtain⟨a',c',e⟩:=az h2
   subst e
   exact h a' c' w' (hkl.copied h2 h3)
theorem JK{ops:Array Oper}{rest:List Oper}{o:Oper}{a:Act}{Q:Exit→Act→World→Prop}(hgd:o.guard=none)(s x:Operand)(ho:o.op=.call { callee:=.builtin .append,args:=#[s,x],argTypes:=#[45,45] })
 {B hb n cc:Nat} {mk:Int} {v0 lv:Value} {w0 wr:World} {ao:Option Addr} {cO:List Value} (hkl:KL B hb mk v0 w0 (.slice ao n cc) n cO lv wr) {m:Nat} (hm:cO.length=m) (hn:m≤100000) (hs:a.eval s=lv) (hx:a.eval x=.slice (some ⟨wr.heap.size,0,none⟩) 1 1)
 (h:∀la lc w4,ai w4 hb #[lv,.slice none 0 0,.slice none 0 0,.int .i64 mk] 178→KL B hb mk v0 w0 (.slice ao n cc) n (cO++[.slice ao n cc]) (.slice (some ⟨la,0,none⟩) (m+1) lc) (w4.setCell ⟨hb,0,none⟩ (.slice (some ⟨la,0,none⟩) (m+1) lc)) →
   wpList Tryz.prog ops Q rest (a.put o.dst (.slice (some ⟨la,0,none⟩) (m+1) lc)) w4) :
 wpList Tryz.prog ops Q (o :: rest) a (wr.alloc (.cells #[.slice ao n cc] 63)):=by
 subst hm
 obtain⟨i0,hi0,hz0,hz1,hz2⟩:=info_parts Uz
 have kz:ag ak wr (wr.alloc (.cells #[.slice ao n cc] 63)):=(ag.refl ak wr).alloc _
 have hrow:=au hkl.bI kz (fun _ _ z=>z)
 have hm1:cO.length+1≤maxLen:=by unfold maxLen;omega
 have hz:=hkl.size
 have hc:=hkl.gY.size
 refine wpList_append_lies _ hgd s x 45 ho B 63 i0 (.slice none 0 0) 1 24 Tryz.underlying45 hi0 hz0 hz1 hz2 rfl (by decide) lv cO.length cO hs hrow ⟨wr.heap.size,0,none⟩ 1 1 [.slice ao n cc] hx rfl (Az _ _ _) (by simp[Value.oneCell']) (by omega) hm1 (by omega) (by simp;omega) (wr.heap.size+1) (by simp) (fun la lc w4 hown' hgrow hat hlt2=>?_)
 refine h la lc w4 ?_ (hkl.listed hown' hgrow (hat.imp_right (fun e=>by omega)))
 exact (((ag.refl (fun b=>lv.ownBlock=some b) wr).alloc _).grown hgrow (fun k e=>.inl e)).blk hkl.blk (fun e=>by obtain⟨cs,hc⟩:=ay hkl.bI e;exact ai.ne hc hkl.blk (by decide) rfl)
theorem EX(wb n0:Nat)(pv hv v:Value)(Hs:List Hd)(ls:List fJ)(w:World)(hwb:ai w wb #[pv,hv] 78)(hrow:w.ownsRow 0 133 1 hv Hs.length (Hs.map holdV))(hl:Hs.length≤100000000)(hlv:w.ownsRow n0 93 3 v ls.length (flat ls))(hls:ls.length≤1000)(hn0:n0≤w.heap.size)(hwn:wb<n0)(hhn:∀b,hv.ownBlock=some b→b<n0) :
 Calls Tryz.prog 104 #[.pointer (some ⟨wb,0,none⟩),v] w fun e w'=>e=.returned (.tuple #[])∧∃cO c n lv hv' w3,KL n0 w.heap.size (-1000-(Hs.length:Int)) v w c n cO lv w3∧n≤2000∧cO.length≤100 ∧
  ag (fun b=>b=wb∨hv.ownBlock=some b) w3 w'∧ai w' wb #[pv,hv'] 78∧w'.ownsRow 0 133 1 hv' (Hs.length+1) (Hs.map holdV++[.pointer (some ⟨w.heap.size,0,none⟩)])∧(∀b,hv'.ownBlock=some b→hv.ownBlock=some b∨w3.heap.size≤b):=by
 obtain⟨ha,hc,rfl⟩:=az hrow
 obtain⟨va,vc,rfl⟩:=az hlv
 have HM:=hide (yj wb pv ha Hs.length hc w hwb (by omega))
 obtain⟨mk,hmk⟩:∃mk,(-1000-(Hs.length:Int))=mk:=⟨_,rfl⟩
 rw[hmk]at HM ⊢
 obtain⟨n,hnl⟩:∃n,ls.length=n:=⟨_,rfl⟩
 rw[hnl]at hls hlv
 rw[hnl]
 have WB:=hide hwb
 have mV:=hide hrow
 have zU:=hide hlv
 have VU:=hide hhn
 clear hmk hwb hrow hlv hhn
 go_enter Tryz.func104,Tryz.ntmps104
 go_wp2_with fail
 refine (ae HM).mono ?_
 rintro e w1 ⟨rfl,hw1⟩
 rw[hw1]
 clear hw1 w1 HM
 go_wp2
 obtain⟨W1,hW1⟩:∃W1,W1=w.alloc (.cells #[.slice none 0 0,.slice none 0 0,.slice none 0 0,.int .i64 mk] 178):=⟨_,rfl⟩
 have OG:ag ak w W1:=by rw[hW1];exact (ag.refl ak w).alloc _
 have Nw:ai W1 w.heap.size #[.slice none 0 0,.slice none 0 0,.slice none 0 0,.int .i64 mk] 178:=by rw[hW1];exact ai.new _ _ _
 obtain⟨hb,hhb⟩:∃hb,w.heap.size=hb:=⟨_,rfl⟩
 have HW1:=hide hW1
 have Nc:=hide hhb
 have hst:∃xs,W1.ownsRow n0 93 3 (.slice va n vc) n xs∧xs.take (0 * 3)=marks mk 0:=⟨_,au (ae zU) OG (fun _ _ z=>z),by simp[marks]⟩
 have HST:=hide hst
 have kV:=hide (OG.aC (S:=fun b=>(Value.slice va n vc).ownBlock=some b))
 rw[hhb]at Nw
 have HB1:=hide Nw
 rw[←hW1,hhb]
 clear hst OG Nw hW1 hhb
 go_loopg [5] n (fun k iv wr=>∃(i:Nat) (xs:List Value),iv=.int .i64 (i:Int)∧i≤n∧k=n-i∧wr.ownsRow n0 93 3 (.slice va n vc) n xs∧xs.take (i * 3)=marks mk i∧ai wr hb #[.slice none 0 0,.slice none 0 0,.slice none 0 0,.int .i64 mk] 178∧ag (fun b=>(Value.slice va n vc).ownBlock=some b) w wr)
 case atStart =>
  obtain⟨xs,h1,h2⟩:=ae HST
  exact⟨0,xs,rfl,Nat.zero_le _,rfl,h1,h2,ae HB1,ae kV⟩
 case round =>
  obtain⟨i,xs,rfl,hi,hgk,hxs,htk,hbl,hck⟩:=hrel
  have h3:wr.cell? ⟨hb,3,none⟩=some (.int .i64 mk):=hbl.cell 3
  have hlx:xs.length=n * 3:=hxs.1
  by_cases hlt:i<n
  ·obtain⟨g,rfl,hg0⟩:=fH hxs (by omega)
   obtain⟨Xa,hgb⟩:=ay hxs (b:=g) rfl
   have lg:=hgb.lt
   have hne:g≠hb:=ai.ne hgb hbl (by decide)
   have hne':=hne.symm
   obtain⟨u0,hu0⟩:∃u,xs[i * 3]?=some u:=⟨_,List.getElem?_eq_getElem (by omega)⟩
   obtain⟨u1,hu1⟩:∃u,xs[i * 3+1]?=some u:=⟨_,List.getElem?_eq_getElem (by omega)⟩
   obtain⟨u2,hu2⟩:∃u,xs[i * 3+2]?=some u:=⟨_,List.getElem?_eq_getElem (by omega)⟩
   have x0:wr.cell? ⟨g,i * 3,none⟩=some u0:=(hxs.cellAt _ (by omega)).trans hu0
   have x1:wr.cell? ⟨g,i * 3+1,none⟩=some u1:=(hxs.cellAt _ (by omega)).trans hu1
   have x2:wr.cell? ⟨g,i * 3+2,none⟩=some u2:=(hxs.cellAt _ (by omega)).trans hu2
   have f0:=hxs.frozenAt (i * 3)
   have f1:=hxs.frozenAt (i * 3+1)
   have f2:=hxs.frozenAt (i * 3+2)
   have Qr:=hide hxs
   have Wx:=hide htk
   have VK:=hide hbl
   have VP:=hide hck
   have VZ:=hide hlx
   clear hxs htk hbl hck hlx hu0 hu1 hu2 hgb
   go_wp2
   go_roundg (n-(i+1))
   case measure=>omega
   case rel =>
    refine⟨i+1,_,by push_cast;rfl,by omega,rfl,((((ae Qr).stored (i * 3) (.int .i64 mk)).1.stored (i * 3+1) (.int .i64 0)).1.stored (i * 3+2) (.int .i64 0)).1,Iy (ae Wx) (by have:=ae VZ;omega),?_,?_⟩
    ·exact (((ae VK).other (a:=⟨g,i * 3,none⟩) hne' _).other (a:=⟨g,i * 3+1,none⟩) hne' _).other (a:=⟨g,i * 3+2,none⟩) hne' _
    ·exact (((ae VP).setCell (p:=⟨g,i * 3,none⟩) (.inl rfl) _).setCell (p:=⟨g,i * 3+1,none⟩) (.inl rfl) _).setCell (p:=⟨g,i * 3+2,none⟩) (.inl rfl) _
  ·obtain rfl:i=n:=by omega
   have EN:xs=marks mk i:=by rw[←htk,List.take_of_length_le (by omega)]
   rw[EN]at hxs
   have SH:KL n0 hb mk (.slice va i vc) w (.slice va i vc) i [] (.slice none 0 0) wr:=by
    refine⟨hbl,World.ownsRow_nil _ _ _ _,hxs,fun v hv=>absurd hv (by simp),fun v hv=>absurd hv (by simp),hck,hn0,by have:=ae Nc;omega,fun b hb2=>(hxs.lt b hb2).1,fun b hb2=>.inl hb2,fun b hb2=>by simp[Value.ownBlock]at hb2⟩
   have h0:wr.cell? ⟨hb,0,none⟩=some (.slice none 0 0):=hbl.cell 0
   have X3:=hbl.lt
   have Qk:=hide SH
   have hws:w.heap.size≤wr.heap.size:=hck.size
   clear hxs htk hbl hck hlx SH EN xs
   go_wp2_with (at_builtin;refine JK rfl _ _ rfl (ae Qk) rfl (by simp) rfl rfl ?_;intro la lc w4 b4 SI;have c40:=b4.cell 0;have f40:=b4.frozen 0;have X0:=b4.lt;simp at c40;have wP:=hide SI;clear SI b4 h0)
   simp only[List.length_nil,Nat.zero_add,List.nil_append]at wP
   clear c40 f40
   go_loopg [1,6] 8 (fun k cv iv wr=>∃(j nn cc:Nat) (a:Option Addr) (cO:List Value) (lv:Value),iv=.int .i64 (j:Int)∧j≤8∧k=8-j∧cv=.slice a nn cc∧nn=i+j∧cO.length=j+1∧KL n0 hb mk (.slice va i vc) w (.slice a nn cc) nn cO lv wr)
   case atStart =>
    exact⟨0,i,vc,va,_,_,rfl,by omega,rfl,rfl,rfl,rfl,ae wP⟩
   case round =>
    clear wP Qk X3 X0
    obtain⟨j,nn,cc,a,cO,lv,rfl,hj,hgk,rfl,hnn,hsl,hkl⟩:=hrel
    obtain⟨xa,xc,hxv⟩:=az hkl.bI
    rw[hsl]at hxv
    subst hxv
    have wQ:=hide hsl
    subst hnn
    clear hsl
    have hz3:wr.cell? ⟨hb,3,none⟩=some (.int .i64 mk):=hkl.blk.cell 3
    have HL:=hide hkl
    by_cases hlt:j<8
    ·clear hkl
     go_wp2_with (first | (at_builtin;refine QZ rfl _ _ rfl (ae HL) (by omega) rfl rfl ?_;intro ao' cc' w2 JI;have d0:=JI.blk.cell 0;have l2:=JI.blk.lt;simp at d0;have HL2:=hide JI;clear JI) | (at_builtin;refine JK rfl _ _ rfl (ae HL2) (ae wQ) (by omega) rfl rfl ?_;intro la' lc' w5 b5 SK;have TP:=b5.cell 0;have f50:=b5.frozen 0;have l50:=b5.lt;simp at TP;have Ql:=hide SK;clear SK b5 d0))
     go_roundg (8-(j+1))
     case measure=>omega
     case rel=>exact⟨j+1,i+j+1,cc',ao',_,_,by push_cast;rfl,by omega,rfl,rfl,by omega,by simp[ae wQ],ae Ql⟩
    ·obtain rfl:j=8:=by omega
     have b1:ai wr wb _ 78:=hkl.gY.blk (ae WB) (fun e=>by have:=hkl.Bo wb e;omega)
     have YH:wr.cell? ⟨wb,1,none⟩=some (.slice ha Hs.length hc):=b1.cell 1
     have hrow2:=au (ae mV) hkl.gY (fun b h1 h2=>by have:=ae VU b h1;have:=hkl.Bo b h2;omega)
     have vw:=hide hrow2
     have D7:=hide b1
     have UO:=b1.lt
     obtain⟨i0,hi0,hz0,hz1,hz2⟩:=info_parts Ce
     have hm1:Hs.length+1≤maxLen:=by unfold maxLen;omega
     clear hkl hrow2 b1
     go_wp2_with (at_builtin;refine wpList_append_lies _ rfl _ _ 76 rfl 0 133 i0 (.pointer none) 1 8 Tryz.underlying76 hi0 hz0 hz1 hz2 rfl (by decide) (.slice ha Hs.length hc) Hs.length (Hs.map holdV) rfl (au (ae vw) ((ag.refl ak wr).alloc _) (fun _ _ z=>z)) ⟨wr.heap.size,0,none⟩ 1 1 [.pointer (some ⟨hb,0,none⟩)] rfl rfl (Az _ _ _) (by simp[Value.oneCell']) (by omega) hm1 (by omega) (by omega) (wr.heap.size+1) (by simp) ?_;intro ga gc w5 hown' hgrow hat hlt2;have b5:ai w5 wb _ 78:=(((ag.refl (fun b=>(Value.slice ha Hs.length hc).ownBlock=some b) wr).alloc _).grown hgrow (fun k e=>.inl e)).blk (ae D7) (fun e=>by obtain⟨cs,hc⟩:=ay (ae vw) e;exact ai.ne hc (ae D7) (by decide) rfl);have c51:=b5.cell 1;have f51:=b5.frozen 1;have l51:=b5.lt;simp at c51;have MZ:=hide b5;have Nj:=hide hown';have Tt:=hide hgrow;have zf:=hide hat;clear b5 hown' hgrow hat YH)
     go_end0
     have k5:ag (fun b=>(Value.slice ha Hs.length hc).ownBlock=some b) wr w5:=((ag.refl (fun b=>(Value.slice ha Hs.length hc).ownBlock=some b) wr).alloc _).grown (ae Tt) (fun k e=>.inl e)
     have k6:ag (fun b=>b=wb) w5 (w5.setCell ⟨wb,1,none⟩ (.slice (some ⟨ga,0,none⟩) (Hs.length+1) gc)):=(ag.refl (fun b=>b=wb) w5).setCell (p:=⟨wb,1,none⟩) (.inl rfl) _
     refine⟨rfl,cO,_,_,_,.slice (some ⟨ga,0,none⟩) (Hs.length+1) gc,wr,by rw[ae Nc];exact ae HL,by omega,by rw[ae wQ];omega,(k5.mono (fun b h=>.inr h)).trans (k6.mono (fun b h=>.inl h)),(ae MZ).set 1 _,?_,?_⟩
     ·rw[ae Nc]
      exact aJ (t:=0) (ae Nj) k6 (fun b hb2=>by subst hb2;exact⟨_,_,ae MZ,by decide⟩)
     ·intro b hb2
      simp only[Value.ownBlock,Option.some.injEq]at hb2
      rcases ae zf with e | e
      ·left;rw[e,hb2]
      ·right;omega
def eU(tr:List Tg):List Tr:=(tr.filter (·.holds)).map (·.t)
def Qe(t:Tr):List Value:=[.int .i64 t.num,.string t.sym,.int .i64 t.price,.int .i64 t.qty,.int .i64 t.jh,.int .i64 t.sell,.int .i64 t.day]
theorem JV(t:Tr):(Qe t).length=7:=rfl
def mf(l:List Tr):List Value:=l.flatMap Qe
theorem Uy:(Tryz.prog.info? 56).map (fun i=>(i.zero,i.size,i.bytes))=some (some (.agg #[.int .i64 0,.string ⟨#[]⟩,.int .i64 0,.int .i64 0,.int .i64 0,.int .i64 0,.int .i64 0]),7,64):=by kernel_rfl
theorem Yc(w:World)(t:Tr):∀j u,(Qe t)[j]?=some u→(w.alloc (.cells #[.int .i64 t.num,.string t.sym,.int .i64 t.price,.int .i64 t.qty,.int .i64 t.jh,.int .i64 t.sell,.int .i64 t.day] 56)).cell? (Addr.add ⟨w.heap.size,0,none⟩ j)=some u:=by
 intro j u hj
 have hb:=ai.new w #[.int .i64 t.num,.string t.sym,.int .i64 t.price,.int .i64 t.qty,.int .i64 t.jh,.int .i64 t.sell,.int .i64 t.day] 56
 rw[Addr.add_lit,Nat.zero_add,hb.cell j,←hj]
 match j with
 | 0=>rfl
 | 1=>rfl
 | 2=>rfl
 | 3=>rfl
 | 4=>rfl
 | 5=>rfl
 | 6=>rfl
 | j+7=>simp[Qe]
theorem xU(l:List Tg)(i:Nat)(x:Tg)(h:l[i]?=some x):eU (l.take (i+1))=eU (l.take i)++(if x.holds then [x.t] else []):=by
 unfold eU
 rw[List.take_add_one,h]
 simp only[Option.toList_some,List.filter_append,List.map_append]
 cases hx:x.holds <;> simp[hx]
structure TL(w:World)(H:Nat)(S:RS)(m:SM)(ov:Value)(out:List Tr)(wi:World):Prop where
 st:bH wi H H S m
 row:wi.ownsRow H 56 7 ov out.length (mf out)
 gY:ag ak w wi
theorem TL.QD{w wi w4:World}{S:RS}{m:SM}{ov:Value}{out:List Tr}{o:Obj}(h:TL w w.heap.size S m ov out wi)(hg:(wi.alloc o).grownBy w4 ov.ownBlock):ag (fun x=>ov.ownBlock=some x) wi w4 :=
 ((ag.refl (fun x=>ov.ownBlock=some x) wi).alloc o).grown hg (fun k e=>.inl e)
theorem TL.grown{w wi w4:World}{S:RS}{m:SM}{ov ov':Value}{out:List Tr}{x:Tr}{o:Obj}(h:TL w w.heap.size S m ov out wi)(hg:(wi.alloc o).grownBy w4 ov.ownBlock)(hr:w4.ownsRow w.heap.size 56 7 ov' (out.length+1) (mf out++Qe x)):TL w w.heap.size S m ov' (out++[x]) w4:=by
 have k:=h.QD hg
 have nb:∀x,SF w.heap.size m x→¬ov.ownBlock=some x:=fun x hx e=>by
  obtain⟨cs,hc⟩:=ay h.row e
  exact h.st.ne hc (by decide) hx
 have hr':∀{e size n:Nat} {v:Value} {xs:List Value},wi.ownsRow w.heap.size e size v n xs→(∀b,v.ownBlock=some b→SF w.heap.size m b)→w4.ownsRow w.heap.size e size v n xs:=fun r hs=>au r k (fun b hb=>nb b (hs b hb))
 refine⟨⟨h.st.ge,k.blk h.st.blk (nb _ (.inl rfl)),hr' h.st.jH (fun b hb=>.inr (.inl hb)),hr' h.st.bI (fun b hb=>.inr (.inr (.inl hb))),hr' h.st.dE (fun b hb=>.inr (.inr (.inr (.inl hb)))),hr' h.st.jS (fun b hb=>.inr (.inr (.inr (.inr hb))))⟩,?_,h.gY.from (k.mono (fun x hx=>.inr (h.row.lt x hx).1))⟩
 rw[List.length_append,List.length_singleton]
 have:mf (out++[x])=mf out++Qe x:=by simp[mf]
 rw[this]
 exact hr
theorem PE(base rb:Nat)(A:List aP)(R:List Rc)(L:ByteArray)(av rv:Value)(S:RS)(w:World)(h:RV w base rb A R L av rv)(hh:Hist A S)(hn:A.length≤1000000000)(hlen:S.t.length≤1000000000) :
 Calls Tryz.prog 106 #[.pointer (some ⟨rb,0,none⟩)] w fun e w'=>∃v,e=.returned v∧w'.ownsRow w.heap.size 56 7 v (eU S.t).length (mf (eU S.t))∧ag ak w w':=by
 have HST:=hide (gX base rb A R L av rv S w h hh hn)
 clear hh h
 go_enter Tryz.func106,Tryz.ntmps106
 go_wp2_with fail
 refine (ae HST).mono ?_
 rintro e w2 ⟨rfl,⟨m,st⟩,k2⟩
 obtain⟨a,c,hv⟩:=az st.dE
 have HV:=hide hv
 obtain⟨N,hN⟩:∃N,S.t.length=N:=⟨_,rfl⟩
 have HN:=hide hN
 rw[hN]at hlen
 have hin:∃out,eU (S.t.take 0)=out∧TL w w.heap.size S m (.slice none 0 0) out w2:=⟨_,rfl,st,World.ownsRow_nil _ _ _ _,k2⟩
 have HI:=hide hin
 clear HST st k2 hv hN hin
 go_wp2
 go_loopg [4,5] N (fun k ov iv wr=>∃(i:Nat),iv=.int .i64 (i:Int)∧i≤N∧k=N-i∧TL w w.heap.size S m ov (eU (S.t.take i)) wr)
 case atStart =>
  obtain⟨out,e,hi⟩:=ae HI
  subst e
  exact⟨0,rfl,Nat.zero_le _,rfl,hi⟩
 case round =>
  rename_i ov
  obtain⟨i,rfl,hi,hgk,ht⟩:=hrel
  have v2:wr.cell? ⟨w.heap.size,2,none⟩=some (.slice a N c):=by have:=ae HV;rw[ae HN]at this;rw[←this];exact ht.st.blk.cell 2
  have uj:=ht.st.blk.lt
  by_cases hlt:i<N
  ·obtain⟨x,hx⟩:∃x,S.t[i]?=some x:=⟨_,List.getElem?_eq_getElem (by rw[ae HN];exact hlt)⟩
   obtain⟨g,rfl,_,lg,_,hc,_⟩:=ht.st.RD (ae HV) hx
   have c0:wr.cell? ⟨g,i * 8,none⟩=some (.int .i64 x.t.num):=hc 0 _ rfl
   have c1:wr.cell? ⟨g,i * 8+1,none⟩=some (.string x.t.sym):=hc 1 _ rfl
   have c2:wr.cell? ⟨g,i * 8+2,none⟩=some (.int .i64 x.t.price):=hc 2 _ rfl
   have c3:wr.cell? ⟨g,i * 8+3,none⟩=some (.int .i64 x.t.qty):=hc 3 _ rfl
   have c4:wr.cell? ⟨g,i * 8+4,none⟩=some (.int .i64 x.t.jh):=hc 4 _ rfl
   have c5:wr.cell? ⟨g,i * 8+5,none⟩=some (.int .i64 x.t.sell):=hc 5 _ rfl
   have c6:wr.cell? ⟨g,i * 8+6,none⟩=some (.int .i64 x.t.day):=hc 6 _ rfl
   have c7:wr.cell? ⟨g,i * 8+7,none⟩=some (.bool x.holds):=hc 7 _ rfl
   have hsn:=xU S.t i x hx
   have hol:(eU (S.t.take i)).length≤N:=by
    unfold eU
    rw[List.length_map]
    refine Nat.le_trans (List.length_filter_le _ _) ?_
    rw[List.length_take];omega
   obtain⟨out,hout⟩:∃out,eU (S.t.take i)=out:=⟨_,rfl⟩
   rw[hout]at hsn ht hol
   obtain⟨oa,oc,hov⟩:=az ht.row
   have TE:=hide ht
   have Wq:=hide hsn
   have sQ:=hide hout
   obtain⟨q,hq⟩:∃q,out.length=q:=⟨_,rfl⟩
   rw[hq]at hov hol
   have HQ:=hide hq
   subst hov
   clear hc hx ht hsn hout hq
   cases hh:x.holds
   ·rw[hh]at c7
    have hs2:eU (S.t.take (i+1))=out:=by have:=ae Wq;rw[hh]at this;simpa using this
    have HS2:=hide hs2
    clear hh hs2
    go_wp2
    go_roundg (N-(i+1))
    case measure=>omega
    case rel=>exact⟨i+1,by push_cast;rfl,by omega,rfl,by rw[ae HS2];exact ae TE⟩
   ·rw[hh]at c7
    have hs2:eU (S.t.take (i+1))=out++[x.t]:=by have:=ae Wq;rw[hh]at this;simpa using this
    have HS2:=hide hs2
    have hmx:q+1≤maxLen:=by unfold maxLen;omega
    have ik:(q+1) * 64≤140737488355328:=by omega
    have hbs:w.heap.size≤wr.heap.size:=(ae TE).gY.size
    have hrow:=(ae TE).row
    rw[ae HQ]at hrow
    have HR3:=hide hrow
    obtain⟨i0,hi0,hz0,hz1,hz2⟩:=info_parts Uy
    clear hh hs2 hrow
    go_wp2_with (at_builtin;refine wpList_append_own _ rfl _ _ 39 rfl w.heap.size 56 i0 (.agg #[.int .i64 0,.string ⟨#[]⟩,.int .i64 0,.int .i64 0,.int .i64 0,.int .i64 0,.int .i64 0]) 7 64 Tryz.underlying39 hi0 hz0 hz1 hz2 rfl (by decide) _ q _ rfl ((ae HR3).alloc _) ⟨wr.heap.size,0,none⟩ 1 1 (Qe x.t) rfl rfl (Yc _ _) (by simp[Qe,Value.oneCell']) hmx ik (by simp;omega) ?_;intro v' w4 hown' hgrow hnil;clear hnil;have Qm:=hide hown';have Nb:=hide hgrow;clear hown' hgrow)
    go_roundg (N-(i+1))
    case measure=>omega
    case rel=>exact⟨i+1,by push_cast;rfl,by omega,rfl,by rw[ae HS2];exact (ae TE).grown (ae Nb) (by rw[ae HQ];exact ae Qm)⟩
  ·obtain rfl:i=N:=by omega
   have hall:S.t.take i=S.t:=by rw[List.take_of_length_le (by rw[ae HN];omega)]
   rw[hall]at ht
   have TE:=hide ht
   clear ht hall
   go_wp2
   go_ret
   exact⟨_,rfl,(ae TE).row,(ae TE).gY⟩
def jm(R:List Rc)(n:Int):List Rc:=R.filter (fun r=>decide (n≤r.num))
theorem H8(l:List Rc)(n:Int)(i:Nat)(x:Rc)(h:l[i]?=some x):jm (l.take (i+1)) n=jm (l.take i) n++(if n≤x.num then [x] else []):=by
 unfold jm
 rw[List.take_add_one,h]
 simp only[Option.toList_some,List.filter_append]
 by_cases hx:n≤x.num <;> simp[hx]
theorem yL{w:World}{base n c:Nat}{a:Option Addr}{R:List Rc}(h:w.ownsRow base 62 9 (.slice a n c) n (dP R))(hn:R.length=n){i:Nat}{x:Rc}(hi:R[i]?=some x):∃g,a=some ⟨g,0,none⟩∧g<w.heap.size∧∀j u,x.cells[j]?=some u→w.cell? ⟨g,i * 9+j,none⟩=some u:=by
 have hi':=(List.getElem?_eq_some_iff.1 hi).1
 obtain⟨g,rfl,_⟩:=fH h (by omega)
 refine⟨g,rfl,(h.lt g rfl).2,fun j u hu=>?_⟩
 have hl:∀r:Rc,r.cells.length=9:=fun r=>rfl
 have hj:j<9:=by have:=(List.getElem?_eq_some_iff.1 hu).1;rw[hl]at this;exact this
 rw[h.cellAt _ (by omega)]
 exact (og Rc.cells 9 hl R i j _ hi hj).trans hu
theorem U1(base rb:Nat)(A:List aP)(R:List Rc)(L:ByteArray)(av rv:Value)(n:Int)(w:World)(h:RV w base rb A R L av rv)(hlen:R.length≤1000000000) :
 Calls Tryz.prog 109 #[.pointer (some ⟨rb,0,none⟩),.int .i64 n] w fun e w'=>∃v,e=.returned v∧w'.ownsRow w.heap.size 62 9 v (jm R n).length (dP (jm R n))∧ag ak w w':=by
 obtain⟨a,c,hv⟩:=az h.uS
 obtain⟨N,hN⟩:∃N,R.length=N:=⟨_,rfl⟩
 have hrr:=h.uS
 rw[hv,hN]at hrr
 rw[hN]at hv hlen
 have hcl:∀i x,R[i]?=some x→∃g,a=some ⟨g,0,none⟩∧g<w.heap.size∧∀j u,x.cells[j]?=some u→w.cell? ⟨g,i * 9+j,none⟩=some u:=fun i x hx=>yL hrr hN hx
 have hv1:w.cell? ⟨rb,1,none⟩=some (.slice a N c):=by rw[←hv];exact h.blk.cell 1
 have HC:=hide hcl
 have TF:=hide hv1
 have HN:=hide hN
 have HLB:=hide h.blk.lt
 clear h hv hrr hcl hv1 hN
 go_enter Tryz.func109,Tryz.ntmps109
 go_wp2
 go_loopg [5,6] N (fun k ov iv wr=>∃(i:Nat),iv=.int .i64 (i:Int)∧i≤N∧k=N-i∧wr.ownsRow w.heap.size 62 9 ov (jm (R.take i) n).length (dP (jm (R.take i) n))∧ag ak w wr)
 case atStart=>exact⟨0,rfl,Nat.zero_le _,rfl,World.ownsRow_nil _ _ _ _,ag.refl _ _⟩
 case round =>
  obtain⟨i,rfl,hi,hgk,hrow,hch⟩:=hrel
  have v1:wr.cell? ⟨rb,1,none⟩=some (.slice a N c):=hch.cell (ae TF) (fun z=>z)
  have lrb:rb<wr.heap.size:=Nat.lt_of_lt_of_le (ae HLB) hch.size
  by_cases hlt:i<N
  ·obtain⟨x,hx⟩:∃x,R[i]?=some x:=⟨_,List.getElem?_eq_getElem (by rw[ae HN];exact hlt)⟩
   obtain⟨g,rfl,lg0,hc⟩:=ae HC i x hx
   have lg:g<wr.heap.size:=Nat.lt_of_lt_of_le lg0 hch.size
   have c0:wr.cell? ⟨g,i * 9,none⟩=some (.int .i64 x.num):=hch.cell (hc 0 _ rfl) (fun z=>z)
   have c1:wr.cell? ⟨g,i * 9+1,none⟩=some (.int .i64 x.kind):=hch.cell (hc 1 _ rfl) (fun z=>z)
   have c2:wr.cell? ⟨g,i * 9+2,none⟩=some (.int .i64 x.t.num):=hch.cell (hc 2 _ rfl) (fun z=>z)
   have c3:wr.cell? ⟨g,i * 9+3,none⟩=some (.string x.t.sym):=hch.cell (hc 3 _ rfl) (fun z=>z)
   have c4:wr.cell? ⟨g,i * 9+4,none⟩=some (.int .i64 x.t.price):=hch.cell (hc 4 _ rfl) (fun z=>z)
   have c5:wr.cell? ⟨g,i * 9+5,none⟩=some (.int .i64 x.t.qty):=hch.cell (hc 5 _ rfl) (fun z=>z)
   have c6:wr.cell? ⟨g,i * 9+6,none⟩=some (.int .i64 x.t.jh):=hch.cell (hc 6 _ rfl) (fun z=>z)
   have c7:wr.cell? ⟨g,i * 9+7,none⟩=some (.int .i64 x.t.sell):=hch.cell (hc 7 _ rfl) (fun z=>z)
   have c8:wr.cell? ⟨g,i * 9+8,none⟩=some (.int .i64 x.t.day):=hch.cell (hc 8 _ rfl) (fun z=>z)
   have hsn:=H8 R n i x hx
   have hol:(jm (R.take i) n).length≤N:=by
    unfold jm
    refine Nat.le_trans (List.length_filter_le _ _) ?_
    rw[List.length_take];omega
   obtain⟨out,hout⟩:∃out,jm (R.take i) n=out:=⟨_,rfl⟩
   rw[hout]at hsn hrow hol
   obtain⟨oa,oc,hov⟩:=az hrow
   obtain⟨q,hq⟩:∃q,out.length=q:=⟨_,rfl⟩
   rw[hq]at hov hol hrow
   subst hov
   have mV:=hide hrow
   have MI:=hide hch
   have Wq:=hide hsn
   have HQ:=hide hq
   clear hc hx hrow hch hsn hout hq
   by_cases hk:n≤x.num
   ·have hs2:jm (R.take (i+1)) n=out++[x]:=by have:=ae Wq;rw[if_pos hk]at this;exact this
    have HS2:=hide hs2
    have hmx:q+1≤maxLen:=by unfold maxLen;omega
    have ik:(q+1) * 80≤140737488355328:=by omega
    have hbs:w.heap.size≤wr.heap.size:=(ae MI).size
    obtain⟨i0,z0,hi0,hz0,hz1,hz2,hz3⟩:=iQ
    clear hs2
    go_wp2_with (at_builtin;refine wpList_append_own _ rfl _ _ 34 rfl w.heap.size 62 i0 z0 9 80 Tryz.underlying34 hi0 hz0 hz1 hz2 hz3 (by decide) _ q _ rfl ((ae mV).alloc _) ⟨wr.heap.size,0,none⟩ 1 1 x.cells rfl rfl (FH _ _) (by simp[Rc.cells,Value.oneCell']) hmx ik (by simp;omega) ?_;intro v' w4 hown' hgrow hnil;clear hnil;have Qm:=hide hown';have Nb:=hide hgrow;clear hown' hgrow)
    go_roundg (N-(i+1))
    case measure=>omega
    case rel =>
     refine⟨i+1,by push_cast;rfl,by omega,rfl,?_,?_⟩
     ·rw[ae HS2,List.length_append,List.length_singleton,ae HQ,lD];exact ae Qm
     ·exact (ae MI).from ((((ag.refl (fun b=>(Value.slice oa q oc).ownBlock=some b) wr).alloc _).grown (ae Nb) (fun k e=>.inl e)).mono (fun b hb=>.inr ((ae mV).lt b hb).1))
   ·have hs2:jm (R.take (i+1)) n=out:=by have:=ae Wq;rw[if_neg hk,List.append_nil]at this;exact this
    have HS2:=hide hs2
    clear hs2
    go_wp2
    go_roundg (N-(i+1))
    case measure=>omega
    case rel=>exact⟨i+1,by push_cast;rfl,by omega,rfl,by rw[ae HS2,ae HQ];exact ae mV,ae MI⟩
  ·obtain rfl:i=N:=by omega
   have hall:R.take i=R:=by rw[List.take_of_length_le (by rw[ae HN];omega)]
   rw[hall]at hrow
   have mV:=hide hrow
   have MI:=hide hch
   clear hrow hch hall
   go_wp2
   go_ret
   exact⟨_,rfl,ae mV,ae MI⟩
theorem JW{w:World}{base n c:Nat}{a:Option Addr}{R:List Tr}(h:w.ownsRow base 56 7 (.slice a n c) n (mf R))(hn:R.length=n){i:Nat}{x:Tr}(hi:R[i]?=some x):∃g,a=some ⟨g,0,none⟩∧g<w.heap.size∧∀j u,(Qe x)[j]?=some u→w.cell? ⟨g,i * 7+j,none⟩=some u:=by
 have hi':=(List.getElem?_eq_some_iff.1 hi).1
 obtain⟨g,rfl,_⟩:=fH h (by omega)
 refine⟨g,rfl,(h.lt g rfl).2,fun j u hu=>?_⟩
 have hj:j<7:=by have:=(List.getElem?_eq_some_iff.1 hu).1;rw[JV]at this;exact this
 rw[h.cellAt _ (by omega)]
 exact (og Qe 7 JV R i j _ hi hj).trans hu
theorem Gn(b1 b2:Nat)(va vb:Value)(ls:List Tr)(w:World)(ha:w.ownsRow b1 56 7 va ls.length (mf ls))(hb:w.ownsRow b2 56 7 vb ls.length (mf ls))(hl:ls.length≤1000000000) :
 Calls Tryz.prog 105 #[va,vb] w fun e w'=>e=.returned (.bool true)∧ag ak w w':=by
 obtain⟨a1,c1,rfl⟩:=az ha
 obtain⟨a2,c2,rfl⟩:=az hb
 have HA:Hid (∀i l,ls[i]?=some l→∃g,a1=some ⟨g,0,none⟩∧g<w.heap.size∧w.cell? ⟨g,i * 7,none⟩=some (.int .i64 l.num)∧w.cell? ⟨g,i * 7+1,none⟩=some (.string l.sym)∧w.cell? ⟨g,i * 7+2,none⟩=some (.int .i64 l.price)∧w.cell? ⟨g,i * 7+3,none⟩=some (.int .i64 l.qty)∧w.cell? ⟨g,i * 7+4,none⟩=some (.int .i64 l.jh)∧w.cell? ⟨g,i * 7+5,none⟩=some (.int .i64 l.sell)∧w.cell? ⟨g,i * 7+6,none⟩=some (.int .i64 l.day)):=fun i l hi=>by
  obtain⟨g,e,lg,hc⟩:=JW ha rfl hi
  exact⟨g,e,lg,hc 0 _ rfl,hc 1 _ rfl,hc 2 _ rfl,hc 3 _ rfl,hc 4 _ rfl,hc 5 _ rfl,hc 6 _ rfl⟩
 have HB:Hid (∀i l,ls[i]?=some l→∃g,a2=some ⟨g,0,none⟩∧g<w.heap.size∧w.cell? ⟨g,i * 7,none⟩=some (.int .i64 l.num)∧w.cell? ⟨g,i * 7+1,none⟩=some (.string l.sym)∧w.cell? ⟨g,i * 7+2,none⟩=some (.int .i64 l.price)∧w.cell? ⟨g,i * 7+3,none⟩=some (.int .i64 l.qty)∧w.cell? ⟨g,i * 7+4,none⟩=some (.int .i64 l.jh)∧w.cell? ⟨g,i * 7+5,none⟩=some (.int .i64 l.sell)∧w.cell? ⟨g,i * 7+6,none⟩=some (.int .i64 l.day)):=fun i l hi=>by
  obtain⟨g,e,lg,hc⟩:=JW hb rfl hi
  exact⟨g,e,lg,hc 0 _ rfl,hc 1 _ rfl,hc 2 _ rfl,hc 3 _ rfl,hc 4 _ rfl,hc 5 _ rfl,hc 6 _ rfl⟩
 obtain⟨n,hn⟩:∃n,ls.length=n:=⟨_,rfl⟩
 have HN:=hide hn
 rw[hn]at hl ⊢
 clear ha hb hn
 go_enter Tryz.func105,Tryz.ntmps105
 go_wp2
 go_loopg [5] n (fun k iv wr=>∃i q:Nat,iv=.int .i64 (i:Int)∧i≤n∧k=n-i∧wr=w.drewN q)
 case atStart=>exact⟨0,0,rfl,Nat.zero_le _,rfl,rfl⟩
 case round =>
  obtain⟨i,q,rfl,hi,hgk,rfl⟩:=hrel
  by_cases hlt:i<n
  ·obtain⟨l,hl2⟩:∃l,ls[i]?=some l:=⟨_,List.getElem?_eq_getElem (by rw[ae HN];exact hlt)⟩
   obtain⟨g1,rfl,Vt,x0,x1,x2,x3,x4,x5,x6⟩:=ae HA i l hl2
   obtain⟨g2,rfl,Q5,y0,y1,y2,y3,y4,y5,y6⟩:=ae HB i l hl2
   clear hl2
   go_wp2
   go_quiet (fail)
   go_wp2
   go_roundg (n-(i+1))
   case measure=>omega
   case rel=>exact⟨i+1,q+nq,by push_cast;rfl,by omega,rfl,by first | rfl | simp⟩
  ·obtain rfl:i=n:=by omega
   go_wp2
   go_ret
   exact⟨rfl,(ag.refl ak w).drewN _⟩
theorem DD(b1 b2:Nat)(va vb:Value)(ls:List Rc)(w:World)(ha:w.ownsRow b1 62 9 va ls.length (dP ls))(hb:w.ownsRow b2 62 9 vb ls.length (dP ls))(hl:ls.length≤1000000000) :
 Calls Tryz.prog 108 #[va,vb] w fun e w'=>e=.returned (.bool true)∧ag ak w w':=by
 obtain⟨a1,c1,rfl⟩:=az ha
 obtain⟨a2,c2,rfl⟩:=az hb
 have HA:Hid (∀i l,ls[i]?=some l→∃g,a1=some ⟨g,0,none⟩∧g<w.heap.size∧w.cell? ⟨g,i * 9,none⟩=some (.int .i64 l.num)∧w.cell? ⟨g,i * 9+1,none⟩=some (.int .i64 l.kind)∧w.cell? ⟨g,i * 9+2,none⟩=some (.int .i64 l.t.num)∧w.cell? ⟨g,i * 9+3,none⟩=some (.string l.t.sym)∧w.cell? ⟨g,i * 9+4,none⟩=some (.int .i64 l.t.price)∧w.cell? ⟨g,i * 9+5,none⟩=some (.int .i64 l.t.qty)∧w.cell? ⟨g,i * 9+6,none⟩=some (.int .i64 l.t.jh)∧w.cell? ⟨g,i * 9+7,none⟩=some (.int .i64 l.t.sell)∧w.cell? ⟨g,i * 9+8,none⟩=some (.int .i64 l.t.day)):=fun i l hi=>by
  obtain⟨g,e,lg,hc⟩:=yL ha rfl hi
  exact⟨g,e,lg,hc 0 _ rfl,hc 1 _ rfl,hc 2 _ rfl,hc 3 _ rfl,hc 4 _ rfl,hc 5 _ rfl,hc 6 _ rfl,hc 7 _ rfl,hc 8 _ rfl⟩
 have HB:Hid (∀i l,ls[i]?=some l→∃g,a2=some ⟨g,0,none⟩∧g<w.heap.size∧w.cell? ⟨g,i * 9,none⟩=some (.int .i64 l.num)∧w.cell? ⟨g,i * 9+1,none⟩=some (.int .i64 l.kind)∧w.cell? ⟨g,i * 9+2,none⟩=some (.int .i64 l.t.num)∧w.cell? ⟨g,i * 9+3,none⟩=some (.string l.t.sym)∧w.cell? ⟨g,i * 9+4,none⟩=some (.int .i64 l.t.price)∧w.cell? ⟨g,i * 9+5,none⟩=some (.int .i64 l.t.qty)∧w.cell? ⟨g,i * 9+6,none⟩=some (.int .i64 l.t.jh)∧w.cell? ⟨g,i * 9+7,none⟩=some (.int .i64 l.t.sell)∧w.cell? ⟨g,i * 9+8,none⟩=some (.int .i64 l.t.day)):=fun i l hi=>by
  obtain⟨g,e,lg,hc⟩:=yL hb rfl hi
  exact⟨g,e,lg,hc 0 _ rfl,hc 1 _ rfl,hc 2 _ rfl,hc 3 _ rfl,hc 4 _ rfl,hc 5 _ rfl,hc 6 _ rfl,hc 7 _ rfl,hc 8 _ rfl⟩
 obtain⟨n,hn⟩:∃n,ls.length=n:=⟨_,rfl⟩
 have HN:=hide hn
 rw[hn]at hl ⊢
 clear ha hb hn
 go_enter Tryz.func108,Tryz.ntmps108
 go_wp2
 go_loopg [5] n (fun k iv wr=>∃i q:Nat,iv=.int .i64 (i:Int)∧i≤n∧k=n-i∧wr=w.drewN q)
 case atStart=>exact⟨0,0,rfl,Nat.zero_le _,rfl,rfl⟩
 case round =>
  obtain⟨i,q,rfl,hi,hgk,rfl⟩:=hrel
  by_cases hlt:i<n
  ·obtain⟨l,hl2⟩:∃l,ls[i]?=some l:=⟨_,List.getElem?_eq_getElem (by rw[ae HN];exact hlt)⟩
   obtain⟨g1,rfl,Vt,x0,x1,x2,x3,x4,x5,x6,x7,x8⟩:=ae HA i l hl2
   obtain⟨g2,rfl,Q5,y0,y1,y2,y3,y4,y5,y6,y7,y8⟩:=ae HB i l hl2
   clear hl2
   go_wp2
   go_quiet (fail)
   go_wp2
   go_roundg (n-(i+1))
   case measure=>omega
   case rel=>exact⟨i+1,q+nq,by push_cast;rfl,by omega,rfl,by first | rfl | simp⟩
  ·obtain rfl:i=n:=by omega
   go_wp2
   go_ret
   exact⟨rfl,(ag.refl ak w).drewN _⟩
end Go.Proofs.YtigaphnafnpfnaaGreatDoor
