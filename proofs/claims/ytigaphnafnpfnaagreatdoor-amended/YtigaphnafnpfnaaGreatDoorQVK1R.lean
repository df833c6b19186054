import Derived.Test.YtigaphnafnpfnaaGreatDoorQVR1
import Derived.ArgAppend
import Derived.Deep.DeepAppendRoom
set_option linter.unusedVariables false
set_option linter.unusedSimpArgs false
set_option maxHeartbeats 8000000
set_option maxRecDepth 100000
namespace Go.Proofs.YtigaphnafnpfnaaGreatDoor
open Go.RowKit
attribute [local go_sem ↓] Go.wp_at_zero Go.wp_at_succ
def dA(mk:Int):Nat→List Value
 | 0=>[]
 | n+1=>dA mk n++[.int .i64 mk,.int .i64 0,.int .i64 0,.string ⟨#[]⟩,.int .i64 0,.int .i64 0,.int .i64 0,.int .i64 0,.int .i64 0]
theorem gQ(mk:Int):∀n,(dA mk n).length=n * 9
 | 0=>rfl
 | n+1=>by rw[dA,List.length_append,gQ mk n];simp[Nat.add_mul]
theorem Fv(mk:Int){k n:Nat}(h:k≤n):(dA mk n).take (k * 9)=dA mk k:=by
 induction n with
 | zero=>have:k=0:=by omega
         subst this;rfl
 | succ n ih =>
   by_cases e:k=n+1
   ·subst e;rw[List.take_of_length_le (by rw[gQ];omega)]
   ·rw[dA,List.take_append_of_le_length (by rw[gQ];omega)]
    exact ih (by omega)
theorem ig(mk:Int){i n j:Nat}(h:i<n)(hj:j<9):(dA mk n)[i * 9+j]?=[Value.int .i64 mk,.int .i64 0,.int .i64 0,.string ⟨#[]⟩,.int .i64 0,.int .i64 0,.int .i64 0,.int .i64 0,.int .i64 0][j]?:=by
 induction n with
 | zero=>omega
 | succ n ih =>
   rw[dA]
   by_cases e:i=n
   ·subst e
    rw[List.getElem?_append_right (by rw[gQ];omega),gQ]
    congr 1
    omega
   ·rw[List.getElem?_append_left (by rw[gQ];omega)]
    exact ih (by omega)
theorem Fp{xs:List Value}{mk:Int}{i:Nat}(h:xs.take (i * 9)=dA mk i)(hs:i * 9+9≤xs.length) :
 (((((((((xs.set (i * 9) (.int .i64 mk)).set (i * 9+1) (.int .i64 0)).set (i * 9+2) (.int .i64 0)).set (i * 9+3) (.string ⟨#[]⟩)).set (i * 9+4) (.int .i64 0)).set (i * 9+5) (.int .i64 0)).set (i * 9+6) (.int .i64 0)).set (i * 9+7) (.int .i64 0)).set (i * 9+8) (.int .i64 0)).take ((i+1) * 9)=dA mk (i+1):=by
 apply List.ext_getElem?
 intro j
 rw[List.getElem?_take]
 by_cases hj:j<(i+1) * 9
 ·rw[if_pos hj]
  by_cases h8:j=i * 9+8
  ·subst h8
   rw[List.getElem?_set_self (by first | omega | (simp;omega))]
   exact (ig mk (i:=i) (n:=i+1) (j:=8) (by omega) (by omega)).symm
  rw[List.getElem?_set_ne (fun e=>h8 e.symm)]
  by_cases h7:j=i * 9+7
  ·subst h7
   rw[List.getElem?_set_self (by first | omega | (simp;omega))]
   exact (ig mk (i:=i) (n:=i+1) (j:=7) (by omega) (by omega)).symm
  rw[List.getElem?_set_ne (fun e=>h7 e.symm)]
  by_cases h6:j=i * 9+6
  ·subst h6
   rw[List.getElem?_set_self (by first | omega | (simp;omega))]
   exact (ig mk (i:=i) (n:=i+1) (j:=6) (by omega) (by omega)).symm
  rw[List.getElem?_set_ne (fun e=>h6 e.symm)]
  by_cases h5:j=i * 9+5
  ·subst h5
   rw[List.getElem?_set_self (by first | omega | (simp;omega))]
   exact (ig mk (i:=i) (n:=i+1) (j:=5) (by omega) (by omega)).symm
  rw[List.getElem?_set_ne (fun e=>h5 e.symm)]
  by_cases h4:j=i * 9+4
  ·subst h4
   rw[List.getElem?_set_self (by first | omega | (simp;omega))]
   exact (ig mk (i:=i) (n:=i+1) (j:=4) (by omega) (by omega)).symm
  rw[List.getElem?_set_ne (fun e=>h4 e.symm)]
  by_cases h3:j=i * 9+3
  ·subst h3
   rw[List.getElem?_set_self (by first | omega | (simp;omega))]
   exact (ig mk (i:=i) (n:=i+1) (j:=3) (by omega) (by omega)).symm
  rw[List.getElem?_set_ne (fun e=>h3 e.symm)]
  by_cases h2:j=i * 9+2
  ·subst h2
   rw[List.getElem?_set_self (by first | omega | (simp;omega))]
   exact (ig mk (i:=i) (n:=i+1) (j:=2) (by omega) (by omega)).symm
  rw[List.getElem?_set_ne (fun e=>h2 e.symm)]
  by_cases h1:j=i * 9+1
  ·subst h1
   rw[List.getElem?_set_self (by first | omega | (simp;omega))]
   exact (ig mk (i:=i) (n:=i+1) (j:=1) (by omega) (by omega)).symm
  rw[List.getElem?_set_ne (fun e=>h1 e.symm)]
  by_cases h0:j=i * 9
  ·subst h0
   rw[List.getElem?_set_self (by first | omega | (simp;omega))]
   exact (ig mk (i:=i) (n:=i+1) (j:=0) (by omega) (by omega)).symm
  rw[List.getElem?_set_ne (fun e=>h0 e.symm)]
  have hlt:j<i * 9:=by omega
  have:xs[j]?=(dA mk i)[j]?:=by rw[←h,List.getElem?_take,if_pos hlt]
  rw[this,dA,List.getElem?_append_left (by rw[gQ];exact hlt)]
 ·rw[if_neg hj,List.getElem?_eq_none (by rw[gQ];omega)]
theorem UH:(Tryz.prog.info? 34).map (fun i=>(i.zero,i.size,i.bytes))=some (some (.slice none 0 0),1,24):=by kernel_rfl
structure DV(B hb:Nat)(mk:Int)(v0:Value)(w:World)(c:Value)(n:Nat)(cO:List Value)(lv:Value)(wr:World):Prop where
 blk:ai wr hb #[.slice none 0 0,.slice none 0 0,lv,.int .i64 mk] 178
 bI:wr.ownsRow B 34 1 lv cO.length cO
 cur:wr.ownsRow B 62 9 c n (dA mk n)
 each:∀v∈cO,∃a k cc,v=.slice a k cc∧k≤n∧(k=0∨∃g cs,a=some ⟨g,0,none⟩∧ai wr g cs 62∧cs.toList.take (k * 9)=dA mk k)
 ownB:∀v∈cO,∀b,v.ownBlock=some b→B≤b∧b<wr.heap.size
 gY:ag (fun b=>v0.ownBlock=some b) w wr
 size:B≤w.heap.size
 gh:w.heap.size≤hb
 Bo:∀b,v0.ownBlock=some b→B≤b
 xE:∀b,c.ownBlock=some b→v0.ownBlock=some b∨w.heap.size≤b
 pV:∀b,lv.ownBlock=some b→w.heap.size≤b
theorem DV.listed{B hb:Nat}{mk:Int}{v0:Value}{w:World}{a:Option Addr}{cc n:Nat}{cO:List Value}{lv:Value}{wr w2:World}{la lc:Nat}(h:DV B hb mk v0 w (.slice a n cc) n cO lv wr)
 (hown:w2.ownsRow B 34 1 (.slice (some ⟨la,0,none⟩) (cO.length+1) lc) (cO.length+1) (cO++[.slice a n cc])) (hg:(wr.alloc (.cells #[.slice a n cc] 34)).grownBy w2 lv.ownBlock) (hat:lv.ownBlock=some la∨w.heap.size≤la) :
 DV B hb mk v0 w (.slice a n cc) n (cO++[.slice a n cc]) (.slice (some ⟨la,0,none⟩) (cO.length+1) lc) (w2.setCell ⟨hb,2,none⟩ (.slice (some ⟨la,0,none⟩) (cO.length+1) lc)):=by
 have k1:ag (fun b=>lv.ownBlock=some b) wr w2:=((ag.refl (fun b=>lv.ownBlock=some b) wr).alloc _).grown hg (fun k e=>.inl e)
 have ty:∀b,lv.ownBlock=some b→∃cs t',ai wr b cs t'∧t'=34:=fun b hb2=>by obtain⟨cs,hc⟩:=ay h.bI hb2;exact⟨cs,34,hc,rfl⟩
 have b2:ai w2 hb _ 178:=k1.blk h.blk (fun e=>by obtain⟨cs,hc⟩:=ay h.bI e;exact ai.ne hc h.blk (by decide) rfl)
 have k2:ag (fun b=>b=hb) w2 (w2.setCell ⟨hb,2,none⟩ (.slice (some ⟨la,0,none⟩) (cO.length+1) lc)):=(ag.refl (fun b=>b=hb) w2).setCell (p:=⟨hb,2,none⟩) (.inl rfl) _
 have xZ:∀g cs,ai wr g cs 62→ai (w2.setCell ⟨hb,2,none⟩ (.slice (some ⟨la,0,none⟩) (cO.length+1) lc)) g cs 62:=fun g cs hgc =>
  k2.blk (k1.blk hgc (fun e=>by obtain⟨cs',hc⟩:=ay h.bI e;exact ai.ne hc hgc (by decide) rfl)) (fun e=>by subst e;exact ai.ne h.blk hgc (by decide) rfl)
 have szk:wr.heap.size≤(w2.setCell ⟨hb,2,none⟩ (.slice (some ⟨la,0,none⟩) (cO.length+1) lc)).heap.size:=Nat.le_trans k1.size k2.size
 have Ey:(w2.setCell ⟨hb,2,none⟩ (.slice (some ⟨la,0,none⟩) (cO.length+1) lc)).ownsRow B 62 9 (.slice a n cc) n (dA mk n):=by
  have r1:=aJ (t:=0) h.cur k1 (fun b hb2=>by obtain⟨cs,t,hc,e⟩:=ty b hb2;exact⟨cs,t,hc,by rw[e];decide⟩)
  exact aJ (t:=0) r1 k2 (fun b hb2=>by subst hb2;exact⟨_,_,b2,by decide⟩)
 refine⟨b2.set 2 _,?_,Ey,fun v hv=>?_,fun v hv b hb2=>?_,?_,h.size,h.gh,h.Bo,h.xE,fun b hb2=>?_⟩
 ·rw[List.length_append,List.length_singleton]
  exact aJ (t:=0) hown k2 (fun b hb2=>by subst hb2;exact⟨_,_,b2,by decide⟩)
 ·rw[List.mem_append,List.mem_singleton]at hv
  rcases hv with hv | hv
  ·obtain⟨a',k',c',e,h1,h2⟩:=h.each v hv
   refine⟨a',k',c',e,h1,?_⟩
   rcases h2 with h2 | ⟨g,cs,e2,h3,h4⟩
   ·exact .inl h2
   ·exact .inr ⟨g,cs,e2,xZ g cs h3,h4⟩
  ·subst hv
   refine⟨a,n,cc,rfl,Nat.le_refl _,?_⟩
   rcases Ey.2 with⟨_,h0⟩ | ⟨g,cap,cs,e1,_,hb3,_,_,_,ht⟩
   ·exact .inl h0
   ·injection e1 with e1 _ _
    exact .inr ⟨g,cs,e1,hb3,ht⟩
 ·rw[List.mem_append,List.mem_singleton]at hv
  rcases hv with hv | hv
  ·have:=h.ownB v hv b hb2;exact⟨this.1,by omega⟩
  ·subst hv
   have:=h.cur.lt b hb2
   exact⟨this.1,by omega⟩
 ·exact h.gY.from ((k1.mono (fun b hb2=>.inr (h.pV b hb2))).trans (k2.mono (fun b hb2=>.inr (by have:=h.gh;omega))))
 ·simp only[Value.ownBlock,Option.some.injEq]at hb2
  rcases hat with e | e
  ·exact h.pV b (by rw[e,hb2])
  ·omega
theorem DV.spare{B hb g cc n:Nat}{mk:Int}{v0:Value}{w:World}{cO:List Value}{lv:Value}{wr w2:World}{o:Obj}(h:DV B hb mk v0 w (.slice (some ⟨g,0,none⟩) n cc) n cO lv wr)
 (hown:w2.ownsRow B 62 9 (.slice (some ⟨g,0,none⟩) (n+1) cc) (n+1) (dA mk n++[.int .i64 mk,.int .i64 0,.int .i64 0,.string ⟨#[]⟩,.int .i64 0,.int .i64 0,.int .i64 0,.int .i64 0,.int .i64 0])) (hg:(wr.alloc o).grownBy w2 (some g)) :
 DV B hb mk v0 w (.slice (some ⟨g,0,none⟩) (n+1) cc) (n+1) cO lv w2:=by
 have k1:ag (fun b=>b=g) wr w2:=((ag.refl (fun b=>b=g) wr).alloc _).grown hg (fun k e=>.inl (by simpa using e.symm))
 obtain⟨Xa,hgb⟩:=ay h.cur (b:=g) rfl
 have hm:dA mk n++[.int .i64 mk,.int .i64 0,.int .i64 0,.string ⟨#[]⟩,.int .i64 0,.int .i64 0,.int .i64 0,.int .i64 0,.int .i64 0]=dA mk (n+1):=rfl
 rw[hm]at hown
 obtain⟨cs2,hb2,ht2⟩:∃cs2,ai w2 g cs2 62∧cs2.toList.take ((n+1) * 9)=dA mk (n+1):=by
  rcases hown.2 with⟨e,_⟩ | ⟨g',cap,cs,e1,_,hb3,_,_,_,ht⟩
  ·cases e
  ·injection e1 with e1 _ _
   have:g=g':=by simpa using e1
   subst this
   exact⟨cs,hb3,ht⟩
 refine⟨k1.blk h.blk (fun e=>by subst e;exact ai.ne h.blk hgb (by decide) rfl),aJ (t:=0) h.bI k1 (fun b hb3=>by subst hb3;exact⟨_,_,hgb,by decide⟩),hown,fun v hv=>?_,fun v hv b hb3=>?_,h.gY.from (k1.mono (fun b hb3=>by subst hb3;exact h.xE _ rfl)),h.size,h.gh,h.Bo,h.xE,h.pV⟩
 ·obtain⟨a',k',c',e,h1,h2⟩:=h.each v hv
  refine⟨a',k',c',e,by omega,?_⟩
  rcases h2 with h2 | ⟨g',cs,e2,h3,h4⟩
  ·exact .inl h2
  ·right
   by_cases eg:g'=g
   ·subst eg
    refine⟨g',cs2,e2,hb2,?_⟩
    have:(cs2.toList.take ((n+1) * 9)).take (k' * 9)=cs2.toList.take (k' * 9):=by rw[List.take_take];congr 1;omega
    rw[←this,ht2]
    exact Fv mk (by omega)
   ·exact⟨g',cs,e2,k1.blk h3 eg,h4⟩
 ·have:=h.ownB v hv b hb3;have:=k1.size;exact⟨by omega,by omega⟩
theorem DV.copied{B hb cc n:Nat}{a:Option Addr}{mk:Int}{v0 v':Value}{w:World}{cO:List Value}{lv:Value}{wr w2:World}{o:Obj}(h:DV B hb mk v0 w (.slice a n cc) n cO lv wr)
 (hown:w2.ownsRow (wr.alloc o).heap.size 62 9 v' (n+1) (dA mk n++[.int .i64 mk,.int .i64 0,.int .i64 0,.string ⟨#[]⟩,.int .i64 0,.int .i64 0,.int .i64 0,.int .i64 0,.int .i64 0])) (hg:(wr.alloc o).grownBy w2 none):DV B hb mk v0 w v' (n+1) cO lv w2:=by
 have k1:ag ak wr w2:=((ag.refl ak wr).alloc _).grown hg (fun k e=>by cases e)
 have sw:=h.gY.size
 have hm:dA mk n++[.int .i64 mk,.int .i64 0,.int .i64 0,.string ⟨#[]⟩,.int .i64 0,.int .i64 0,.int .i64 0,.int .i64 0,.int .i64 0]=dA mk (n+1):=rfl
 rw[hm]at hown
 have hsz:(wr.alloc o).heap.size=wr.heap.size+1:=by simp
 have hB:=h.size
 refine⟨k1.blk h.blk (fun z=>z),au h.bI k1 (fun _ _ z=>z),?_,fun v hv=>?_,fun v hv b hb3=>?_,h.gY.trans k1.aC,h.size,h.gh,h.Bo,fun b hb3=>.inr (by have:=(hown.lt b hb3).1;omega),h.pV⟩
 ·exact⟨hown.1,hown.2.imp_right (fun ⟨g,cap,cs,e1,e2,e3⟩=>⟨g,cap,cs,e1,by omega,e3⟩)⟩
 ·obtain⟨a',k',c',e,h1,h2⟩:=h.each v hv
  refine⟨a',k',c',e,by omega,h2.imp_right (fun ⟨g,cs,e2,h3,h4⟩=>⟨g,cs,e2,k1.blk h3 (fun z=>z),h4⟩)⟩
 ·have:=h.ownB v hv b hb3;have:=k1.size;exact⟨by omega,by omega⟩
theorem O1(w:World)(mk:Int):∀j u,([.int .i64 mk,.int .i64 0,.int .i64 0,.string ⟨#[]⟩,.int .i64 0,.int .i64 0,.int .i64 0,.int .i64 0,.int .i64 0]:List Value)[j]?=some u→(w.alloc (.cells #[.int .i64 mk,.int .i64 0,.int .i64 0,.string ⟨#[]⟩,.int .i64 0,.int .i64 0,.int .i64 0,.int .i64 0,.int .i64 0] 62)).cell? (Addr.add ⟨w.heap.size,0,none⟩ j)=some u:=by
 intro j u hj
 have hb:=ai.new w #[.int .i64 mk,.int .i64 0,.int .i64 0,.string ⟨#[]⟩,.int .i64 0,.int .i64 0,.int .i64 0,.int .i64 0,.int .i64 0] 62
 rw[Addr.add_lit,Nat.zero_add,hb.cell j,←hj]
 match j with
 | 0=>rfl
 | 1=>rfl
 | 2=>rfl
 | 3=>rfl
 | 4=>rfl
 | 5=>rfl
 | 6=>rfl
 | 7=>rfl
 | 8=>rfl
 | j+9=>simp
theorem UF:(Tryz.prog.info? 62).map (fun i=>(i.zero,i.size,i.bytes))=some (some (.agg #[.int .i64 0,.int .i64 0,.int .i64 0,.string ⟨#[]⟩,.int .i64 0,.int .i64 0,.int .i64 0,.int .i64 0,.int .i64 0]),9,80):=by kernel_rfl
theorem OJ{ops:Array Oper}{rest:List Oper}{o:Oper}{a:Act}{Q:Exit→Act→World→Prop}(hgd:o.guard=none)(s x:Operand)(ho:o.op=.call { callee:=.builtin .append,args:=#[s,x],argTypes:=#[34,34] })
 {B hb n cc:Nat} {mk:Int} {v0 lv:Value} {w0 wr:World} {ao:Option Addr} {cO:List Value} (hkl:DV B hb mk v0 w0 (.slice ao n cc) n cO lv wr) (hn:n≤2000000000) (hs:a.eval s=.slice ao n cc) (hx:a.eval x=.slice (some ⟨wr.heap.size,0,none⟩) 1 1)
 (h:∀ao' cc' w2,DV B hb mk v0 w0 (.slice ao' (n+1) cc') (n+1) cO lv w2→wpList Tryz.prog ops Q rest (a.put o.dst (.slice ao' (n+1) cc')) w2) :
 wpList Tryz.prog ops Q (o :: rest) a (wr.alloc (.cells #[.int .i64 mk,.int .i64 0,.int .i64 0,.string ⟨#[]⟩,.int .i64 0,.int .i64 0,.int .i64 0,.int .i64 0,.int .i64 0] 62)):=by
 obtain⟨i0,hi0,hz0,hz1,hz2⟩:=info_parts UF
 have kz:ag ak wr (wr.alloc (.cells #[.int .i64 mk,.int .i64 0,.int .i64 0,.string ⟨#[]⟩,.int .i64 0,.int .i64 0,.int .i64 0,.int .i64 0,.int .i64 0] 62)):=(ag.refl ak wr).alloc _
 have xQ:=au hkl.cur kz (fun _ _ z=>z)
 have hm1:n+1≤maxLen:=by unfold maxLen;omega
 by_cases hr:n+1≤cc
 ·rcases hkl.cur.2 with⟨e,h0⟩ | ⟨g,cap,cs,e1,_⟩
  ·injection e with _ _ e3;omega
  ·injection e1 with e1 _ e3
   subst e1
   exact wpList_append_own_spare _ hgd s x 34 ho B 62 i0 9 Tryz.underlying34 hi0 hz1 g n cc (dA mk n) hs xQ ⟨wr.heap.size,0,none⟩ 1 1 [.int .i64 mk,.int .i64 0,.int .i64 0,.string ⟨#[]⟩,.int .i64 0,.int .i64 0,.int .i64 0,.int .i64 0,.int .i64 0] hx rfl (O1 _ _) (by simp[Value.oneCell']) hr (fun w' h2 h3=>h _ _ w' (hkl.spare h2 h3))
 ·have hlen:(dA mk n).length=n * 9:=gQ mk n
  refine wpList_append_grows _ hgd s x 34 ho 62 i0 _ 9 80 Tryz.underlying34 hi0 hz0 hz1 hz2 rfl (by decide) ao n cc (dA mk n) hs ?_ hlen ?_ ⟨wr.heap.size,0,none⟩ 1 1 [.int .i64 mk,.int .i64 0,.int .i64 0,.string ⟨#[]⟩,.int .i64 0,.int .i64 0,.int .i64 0,.int .i64 0,.int .i64 0] hx rfl (O1 _ _) (by simp[Value.oneCell']) (by omega) hm1 (by omega) (fun v' w' h2 h3=>?_)
  ·intro e
   rcases hkl.cur.2 with⟨e2,h0⟩ | ⟨g,cap,cs,e1,_⟩
   ·injection e2 with _ _ e3;exact⟨h0,e3⟩
   ·injection e1 with e1 _ _;rw[e]at e1;cases e1
  ·intro b e j u hj
   subst e
   rcases xQ.2 with⟨e2,h0⟩ | ⟨g,cap,cs,e1,_⟩
   ·cases e2
   ·injection e1 with e1 _ _
    injection e1 with e1
    subst e1
    have hjl:j<n * 9:=by rw[←hlen];exact (List.getElem?_eq_some_iff.1 hj).1
    have:=(xQ.cellAt j hjl).trans hj
    rw[Addr.add_lit,Nat.zero_add];exact this
  ·obtain⟨a',c',e⟩:=az h2
   subst e
   exact h a' c' w' (hkl.copied h2 h3)
theorem EZ{ops:Array Oper}{rest:List Oper}{o:Oper}{a:Act}{Q:Exit→Act→World→Prop}(hgd:o.guard=none)(s x:Operand)(ho:o.op=.call { callee:=.builtin .append,args:=#[s,x],argTypes:=#[176,176] })
 {B hb n cc:Nat} {mk:Int} {v0 lv:Value} {w0 wr:World} {ao:Option Addr} {cO:List Value} (hkl:DV B hb mk v0 w0 (.slice ao n cc) n cO lv wr) {m:Nat} (hm:cO.length=m) (hn:m≤100000) (hs:a.eval s=lv) (hx:a.eval x=.slice (some ⟨wr.heap.size,0,none⟩) 1 1)
 (h:∀la lc w4,ai w4 hb #[.slice none 0 0,.slice none 0 0,lv,.int .i64 mk] 178→DV B hb mk v0 w0 (.slice ao n cc) n (cO++[.slice ao n cc]) (.slice (some ⟨la,0,none⟩) (m+1) lc) (w4.setCell ⟨hb,2,none⟩ (.slice (some ⟨la,0,none⟩) (m+1) lc)) →
   wpList Tryz.prog ops Q rest (a.put o.dst (.slice (some ⟨la,0,none⟩) (m+1) lc)) w4) :
 wpList Tryz.prog ops Q (o :: rest) a (wr.alloc (.cells #[.slice ao n cc] 34)):=by
 subst hm
 obtain⟨i0,hi0,hz0,hz1,hz2⟩:=info_parts UH
 have kz:ag ak wr (wr.alloc (.cells #[.slice ao n cc] 34)):=(ag.refl ak wr).alloc _
 have hrow:=au hkl.bI kz (fun _ _ z=>z)
 have hm1:cO.length+1≤maxLen:=by unfold maxLen;omega
 have hz:=hkl.size
 have hc:=hkl.gY.size
 refine wpList_append_lies _ hgd s x 176 ho B 34 i0 (.slice none 0 0) 1 24 Tryz.underlying176 hi0 hz0 hz1 hz2 rfl (by decide) lv cO.length cO hs hrow ⟨wr.heap.size,0,none⟩ 1 1 [.slice ao n cc] hx rfl (Az _ _ _) (by simp[Value.oneCell']) (by omega) hm1 (by omega) (by simp;omega) (wr.heap.size+1) (by simp) (fun la lc w4 hown' hgrow hat hlt2=>?_)
 refine h la lc w4 ?_ (hkl.listed hown' hgrow (hat.imp_right (fun e=>by omega)))
 exact (((ag.refl (fun b=>lv.ownBlock=some b) wr).alloc _).grown hgrow (fun k e=>.inl e)).blk hkl.blk (fun e=>by obtain⟨cs,hc⟩:=ay hkl.bI e;exact ai.ne hc hkl.blk (by decide) rfl)
theorem CE(wb n0:Nat)(pv hv v:Value)(Hs:List Hd)(ls:List Rc)(w:World)(hwb:ai w wb #[pv,hv] 78)(hrow:w.ownsRow 0 133 1 hv Hs.length (Hs.map holdV))(hl:Hs.length≤100000000)(hlv:w.ownsRow n0 62 9 v ls.length (dP ls))(hls:ls.length≤1000000000)(hn0:n0≤w.heap.size)(hwn:wb<n0)(hhn:∀b,hv.ownBlock=some b→b<n0) :
 Calls Tryz.prog 110 #[.pointer (some ⟨wb,0,none⟩),v] w fun e w'=>e=.returned (.tuple #[])∧∃cO c n lv hv' w3,DV n0 w.heap.size (-1000-(Hs.length:Int)) v w c n cO lv w3∧n≤1000000100∧cO.length≤100 ∧
  ag (fun b=>b=wb∨hv.ownBlock=some b) w3 w'∧ai w' wb #[pv,hv'] 78∧w'.ownsRow 0 133 1 hv' (Hs.length+1) (Hs.map holdV++[.pointer (some ⟨w.heap.size,0,none⟩)])∧(∀b,hv'.ownBlock=some b→hv.ownBlock=some b∨w3.heap.size≤b):=by
 obtain⟨ha,hc,rfl⟩:=az hrow
 obtain⟨va,vc,rfl⟩:=az hlv
 have HM:=hide (yj wb pv ha Hs.length hc w hwb (by omega))
 obtain⟨mk,hmk⟩:∃mk,(-1000-(Hs.length:Int))=mk:=⟨_,rfl⟩
 rw[hmk]at HM ⊢
 obtain⟨n,hnl⟩:∃n,ls.length=n:=⟨_,rfl⟩
 rw[hnl]at hls hlv
 rw[hnl]
 have WB:=hide hwb
 have mV:=hide hrow
 have zU:=hide hlv
 have VU:=hide hhn
 clear hmk hwb hrow hlv hhn
 go_enter Tryz.func110,Tryz.ntmps110
 go_wp2_with fail
 refine (ae HM).mono ?_
 rintro e w1 ⟨rfl,hw1⟩
 rw[hw1]
 clear hw1 w1 HM
 go_wp2
 obtain⟨W1,hW1⟩:∃W1,W1=w.alloc (.cells #[.slice none 0 0,.slice none 0 0,.slice none 0 0,.int .i64 mk] 178):=⟨_,rfl⟩
 have OG:ag ak w W1:=by rw[hW1];exact (ag.refl ak w).alloc _
 have Nw:ai W1 w.heap.size #[.slice none 0 0,.slice none 0 0,.slice none 0 0,.int .i64 mk] 178:=by rw[hW1];exact ai.new _ _ _
 obtain⟨hb,hhb⟩:∃hb,w.heap.size=hb:=⟨_,rfl⟩
 have HW1:=hide hW1
 have Nc:=hide hhb
 have hst:∃xs,W1.ownsRow n0 62 9 (.slice va n vc) n xs∧xs.take (0 * 9)=dA mk 0:=⟨_,au (ae zU) OG (fun _ _ z=>z),by simp[dA]⟩
 have HST:=hide hst
 have kV:=hide (OG.aC (S:=fun b=>(Value.slice va n vc).ownBlock=some b))
 rw[hhb]at Nw
 have HB1:=hide Nw
 rw[←hW1,hhb]
 clear hst OG Nw hW1 hhb
 go_loopg [5] n (fun k iv wr=>∃(i:Nat) (xs:List Value),iv=.int .i64 (i:Int)∧i≤n∧k=n-i∧wr.ownsRow n0 62 9 (.slice va n vc) n xs∧xs.take (i * 9)=dA mk i∧ai wr hb #[.slice none 0 0,.slice none 0 0,.slice none 0 0,.int .i64 mk] 178∧ag (fun b=>(Value.slice va n vc).ownBlock=some b) w wr)
 case atStart =>
  obtain⟨xs,h1,h2⟩:=ae HST
  exact⟨0,xs,rfl,Nat.zero_le _,rfl,h1,h2,ae HB1,ae kV⟩
 case round =>
  obtain⟨i,xs,rfl,hi,hgk,hxs,htk,hbl,hck⟩:=hrel
  have h3:wr.cell? ⟨hb,3,none⟩=some (.int .i64 mk):=hbl.cell 3
  have hlx:xs.length=n * 9:=hxs.1
  by_cases hlt:i<n
  ·obtain⟨g,rfl,hg0⟩:=fH hxs (by omega)
   obtain⟨Xa,hgb⟩:=ay hxs (b:=g) rfl
   have lg:=hgb.lt
   have hne:g≠hb:=ai.ne hgb hbl (by decide)
   have hne':=hne.symm
   obtain⟨u0,hu0⟩:∃u,xs[i * 9]?=some u:=⟨_,List.getElem?_eq_getElem (by omega)⟩
   obtain⟨u1,hu1⟩:∃u,xs[i * 9+1]?=some u:=⟨_,List.getElem?_eq_getElem (by omega)⟩
   obtain⟨u2,hu2⟩:∃u,xs[i * 9+2]?=some u:=⟨_,List.getElem?_eq_getElem (by omega)⟩
   obtain⟨u3,hu3⟩:∃u,xs[i * 9+3]?=some u:=⟨_,List.getElem?_eq_getElem (by omega)⟩
   obtain⟨u4,XP⟩:∃u,xs[i * 9+4]?=some u:=⟨_,List.getElem?_eq_getElem (by omega)⟩
   obtain⟨u5,XQ⟩:∃u,xs[i * 9+5]?=some u:=⟨_,List.getElem?_eq_getElem (by omega)⟩
   obtain⟨u6,XR⟩:∃u,xs[i * 9+6]?=some u:=⟨_,List.getElem?_eq_getElem (by omega)⟩
   obtain⟨u7,hu7⟩:∃u,xs[i * 9+7]?=some u:=⟨_,List.getElem?_eq_getElem (by omega)⟩
   obtain⟨u8,hu8⟩:∃u,xs[i * 9+8]?=some u:=⟨_,List.getElem?_eq_getElem (by omega)⟩
   have x0:wr.cell? ⟨g,i * 9,none⟩=some u0:=(hxs.cellAt _ (by omega)).trans hu0
   have x1:wr.cell? ⟨g,i * 9+1,none⟩=some u1:=(hxs.cellAt _ (by omega)).trans hu1
   have x2:wr.cell? ⟨g,i * 9+2,none⟩=some u2:=(hxs.cellAt _ (by omega)).trans hu2
   have x3:wr.cell? ⟨g,i * 9+3,none⟩=some u3:=(hxs.cellAt _ (by omega)).trans hu3
   have x4:wr.cell? ⟨g,i * 9+4,none⟩=some u4:=(hxs.cellAt _ (by omega)).trans XP
   have x5:wr.cell? ⟨g,i * 9+5,none⟩=some u5:=(hxs.cellAt _ (by omega)).trans XQ
   have x6:wr.cell? ⟨g,i * 9+6,none⟩=some u6:=(hxs.cellAt _ (by omega)).trans XR
   have x7:wr.cell? ⟨g,i * 9+7,none⟩=some u7:=(hxs.cellAt _ (by omega)).trans hu7
   have x8:wr.cell? ⟨g,i * 9+8,none⟩=some u8:=(hxs.cellAt _ (by omega)).trans hu8
   have f0:=hxs.frozenAt (i * 9)
   have f1:=hxs.frozenAt (i * 9+1)
   have f2:=hxs.frozenAt (i * 9+2)
   have f3:=hxs.frozenAt (i * 9+3)
   have f4:=hxs.frozenAt (i * 9+4)
   have f5:=hxs.frozenAt (i * 9+5)
   have f6:=hxs.frozenAt (i * 9+6)
   have f7:=hxs.frozenAt (i * 9+7)
   have f8:=hxs.frozenAt (i * 9+8)
   have Qr:=hide hxs
   have Wx:=hide htk
   have VK:=hide hbl
   have VP:=hide hck
   have VZ:=hide hlx
   clear hxs htk hbl hck hlx hu0 hu1 hu2 hu3 XP XQ XR hu7 hu8 hgb
   go_wp2
   go_roundg (n-(i+1))
   case measure=>omega
   case rel =>
    refine⟨i+1,_,by push_cast;rfl,by omega,rfl,((((((((((ae Qr).stored (i * 9) (.int .i64 mk)).1.stored (i * 9+1) (.int .i64 0)).1.stored (i * 9+2) (.int .i64 0)).1.stored (i * 9+3) (.string ⟨#[]⟩)).1.stored (i * 9+4) (.int .i64 0)).1.stored (i * 9+5) (.int .i64 0)).1.stored (i * 9+6) (.int .i64 0)).1.stored (i * 9+7) (.int .i64 0)).1.stored (i * 9+8) (.int .i64 0)).1,Fp (ae Wx) (by have:=ae VZ;omega),?_,?_⟩
    ·exact ((((((((((ae VK).other (a:=⟨g,i * 9,none⟩) hne' _).other (a:=⟨g,i * 9+1,none⟩) hne' _).other (a:=⟨g,i * 9+2,none⟩) hne' _).other (a:=⟨g,i * 9+3,none⟩) hne' _).other (a:=⟨g,i * 9+4,none⟩) hne' _).other (a:=⟨g,i * 9+5,none⟩) hne' _).other (a:=⟨g,i * 9+6,none⟩) hne' _).other (a:=⟨g,i * 9+7,none⟩) hne' _).other (a:=⟨g,i * 9+8,none⟩) hne' _)
    ·exact ((((((((((ae VP).setCell (p:=⟨g,i * 9,none⟩) (.inl rfl) _).setCell (p:=⟨g,i * 9+1,none⟩) (.inl rfl) _).setCell (p:=⟨g,i * 9+2,none⟩) (.inl rfl) _).setCell (p:=⟨g,i * 9+3,none⟩) (.inl rfl) _).setCell (p:=⟨g,i * 9+4,none⟩) (.inl rfl) _).setCell (p:=⟨g,i * 9+5,none⟩) (.inl rfl) _).setCell (p:=⟨g,i * 9+6,none⟩) (.inl rfl) _).setCell (p:=⟨g,i * 9+7,none⟩) (.inl rfl) _).setCell (p:=⟨g,i * 9+8,none⟩) (.inl rfl) _)
  ·obtain rfl:i=n:=by omega
   have EN:xs=dA mk i:=by rw[←htk,List.take_of_length_le (by omega)]
   rw[EN]at hxs
   have SH:DV n0 hb mk (.slice va i vc) w (.slice va i vc) i [] (.slice none 0 0) wr:=by
    refine⟨hbl,World.ownsRow_nil _ _ _ _,hxs,fun v hv=>absurd hv (by simp),fun v hv=>absurd hv (by simp),hck,hn0,by have:=ae Nc;omega,fun b hb2=>(hxs.lt b hb2).1,fun b hb2=>.inl hb2,fun b hb2=>by simp[Value.ownBlock]at hb2⟩
   have h0:wr.cell? ⟨hb,2,none⟩=some (.slice none 0 0):=hbl.cell 2
   have X3:=hbl.lt
   have Qk:=hide SH
   have hws:w.heap.size≤wr.heap.size:=hck.size
   clear hxs htk hbl hck hlx SH EN xs
   go_wp2_with (at_builtin;refine EZ rfl _ _ rfl (ae Qk) rfl (by simp) rfl rfl ?_;intro la lc w4 b4 SI;have c40:=b4.cell 2;have f40:=b4.frozen 2;have X0:=b4.lt;simp at c40;have wP:=hide SI;clear SI b4 h0)
   simp only[List.length_nil,Nat.zero_add,List.nil_append]at wP
   clear c40 f40
   go_loopg [1,6] 8 (fun k cv iv wr=>∃(j nn cc:Nat) (a:Option Addr) (cO:List Value) (lv:Value),iv=.int .i64 (j:Int)∧j≤8∧k=8-j∧cv=.slice a nn cc∧nn=i+j∧cO.length=j+1∧DV n0 hb mk (.slice va i vc) w (.slice a nn cc) nn cO lv wr)
   case atStart =>
    exact⟨0,i,vc,va,_,_,rfl,by omega,rfl,rfl,rfl,rfl,ae wP⟩
   case round =>
    clear wP Qk X3 X0
    obtain⟨j,nn,cc,a,cO,lv,rfl,hj,hgk,rfl,hnn,hsl,hkl⟩:=hrel
    obtain⟨xa,xc,hxv⟩:=az hkl.bI
    rw[hsl]at hxv
    subst hxv
    have wQ:=hide hsl
    subst hnn
    clear hsl
    have hz3:wr.cell? ⟨hb,3,none⟩=some (.int .i64 mk):=hkl.blk.cell 3
    have HL:=hide hkl
    by_cases hlt:j<8
    ·clear hkl
     go_wp2_with (first | (at_builtin;refine OJ rfl _ _ rfl (ae HL) (by omega) rfl rfl ?_;intro ao' cc' w2 JI;have d0:=JI.blk.cell 2;have l2:=JI.blk.lt;simp at d0;have HL2:=hide JI;clear JI) | (at_builtin;refine EZ rfl _ _ rfl (ae HL2) (ae wQ) (by omega) rfl rfl ?_;intro la' lc' w5 b5 SK;have TP:=b5.cell 2;have f50:=b5.frozen 2;have l50:=b5.lt;simp at TP;have Ql:=hide SK;clear SK b5 d0))
     go_roundg (8-(j+1))
     case measure=>omega
     case rel=>exact⟨j+1,i+j+1,cc',ao',_,_,by push_cast;rfl,by omega,rfl,rfl,by omega,by simp[ae wQ],ae Ql⟩
    ·obtain rfl:j=8:=by omega
     have b1:ai wr wb _ 78:=hkl.gY.blk (ae WB) (fun e=>by have:=hkl.Bo wb e;omega)
     have YH:wr.cell? ⟨wb,1,none⟩=some (.slice ha Hs.length hc):=b1.cell 1
     have hrow2:=au (ae mV) hkl.gY (fun b h1 h2=>by have:=ae VU b h1;have:=hkl.Bo b h2;omega)
     have vw:=hide hrow2
     have D7:=hide b1
     have UO:=b1.lt
     obtain⟨i0,hi0,hz0,hz1,hz2⟩:=info_parts Ce
     have hm1:Hs.length+1≤maxLen:=by unfold maxLen;omega
     clear hkl hrow2 b1
     go_wp2_with (at_builtin;refine wpList_append_lies _ rfl _ _ 76 rfl 0 133 i0 (.pointer none) 1 8 Tryz.underlying76 hi0 hz0 hz1 hz2 rfl (by decide) (.slice ha Hs.length hc) Hs.length (Hs.map holdV) rfl (au (ae vw) ((ag.refl ak wr).alloc _) (fun _ _ z=>z)) ⟨wr.heap.size,0,none⟩ 1 1 [.pointer (some ⟨hb,0,none⟩)] rfl rfl (Az _ _ _) (by simp[Value.oneCell']) (by omega) hm1 (by omega) (by omega) (wr.heap.size+1) (by simp) ?_;intro ga gc w5 hown' hgrow hat hlt2;have b5:ai w5 wb _ 78:=(((ag.refl (fun b=>(Value.slice ha Hs.length hc).ownBlock=some b) wr).alloc _).grown hgrow (fun k e=>.inl e)).blk (ae D7) (fun e=>by obtain⟨cs,hc⟩:=ay (ae vw) e;exact ai.ne hc (ae D7) (by decide) rfl);have c51:=b5.cell 1;have f51:=b5.frozen 1;have l51:=b5.lt;simp at c51;have MZ:=hide b5;have Nj:=hide hown';have Tt:=hide hgrow;have zf:=hide hat;clear b5 hown' hgrow hat YH)
     go_end0
     have k5:ag (fun b=>(Value.slice ha Hs.length hc).ownBlock=some b) wr w5:=((ag.refl (fun b=>(Value.slice ha Hs.length hc).ownBlock=some b) wr).alloc _).grown (ae Tt) (fun k e=>.inl e)
     have k6:ag (fun b=>b=wb) w5 (w5.setCell ⟨wb,1,none⟩ (.slice (some ⟨ga,0,none⟩) (Hs.length+1) gc)):=(ag.refl (fun b=>b=wb) w5).setCell (p:=⟨wb,1,none⟩) (.inl rfl) _
     refine⟨rfl,cO,_,_,_,.slice (some ⟨ga,0,none⟩) (Hs.length+1) gc,wr,by rw[ae Nc];exact ae HL,by omega,by rw[ae wQ];omega,(k5.mono (fun b h=>.inr h)).trans (k6.mono (fun b h=>.inl h)),(ae MZ).set 1 _,?_,?_⟩
     ·rw[ae Nc]
      exact aJ (t:=0) (ae Nj) k6 (fun b hb2=>by subst hb2;exact⟨_,_,ae MZ,by decide⟩)
     ·intro b hb2
      simp only[Value.ownBlock,Option.some.injEq]at hb2
      rcases ae zf with e | e
      ·left;rw[e,hb2]
      ·right;omega
end Go.Proofs.YtigaphnafnpfnaaGreatDoor
