import Derived.Shelf.LaysM
import Derived.Shelf.Strconv.Itoa3
import Derived.Lib.ItoaLen
import Derived.Test.YtigaphnafnpfnaaGreatDoorQVH
import Derived.Lib.AppendStr
import Derived.Laws.AppendOwn
import Derived.Laws.OwnMore
set_option linter.unusedVariables false
set_option linter.unusedSimpArgs false
set_option maxHeartbeats 8000000
set_option maxRecDepth 100000
namespace Go.Proofs.YtigaphnafnpfnaaGreatDoor
open Go.RowKit
open Go.Shelf
attribute [local go_sem ↓] Go.wp_at_zero Go.wp_at_succ
def Eg:Go.Shelf.Ren:=⟨fun|171=>115|243=>148|246=>174|283=>207|284=>208|285=>209|286=>210|129=>188|317=>226|318=>227|319=>228|320=>229|337=>237|338=>238|n=>n,fun|3=>3|9=>9|2=>2|4=>4|171=>268|0=>0|53=>253|37=>98|5=>5|173=>270|212=>287|51=>251|20=>20|213=>288|46=>223|232=>301|233=>302|n=>n,fun|17=>3|18=>6|19=>7|n=>n⟩
theorem Ql:Go.Proofs.LaysM.n171 Tryz.prog Eg :=
 { mixed:=by kernel_rfl,f129:=Tryz.func188.trans (congrArg some (by kernel_rfl)),f171:=Tryz.func115.trans (congrArg some (by kernel_rfl)),f243:=Tryz.func148.trans (congrArg some (by kernel_rfl)),f246:=Tryz.func174.trans (congrArg some (by kernel_rfl)),f283:=Tryz.func207.trans (congrArg some (by kernel_rfl)),f284:=Tryz.func208.trans (congrArg some (by kernel_rfl)),f285:=Tryz.func209.trans (congrArg some (by kernel_rfl)),f286:=Tryz.func210.trans (congrArg some (by kernel_rfl)),f317:=Tryz.func226.trans (congrArg some (by kernel_rfl)),f318:=Tryz.func227.trans (congrArg some (by kernel_rfl)),f319:=Tryz.func228.trans (congrArg some (by kernel_rfl)),f320:=Tryz.func229.trans (congrArg some (by kernel_rfl)),f337:=Tryz.func237.trans (congrArg some (by kernel_rfl)),f338:=Tryz.func238.trans (congrArg some (by kernel_rfl)),t0:=Tryz.underlying0,a0:=Tryz.isAgg0,z0:=Tryz.sizeOf0,v0:=Tryz.zeroValue0,t2:=Tryz.underlying2,a2:=Tryz.isAgg2,z2:=Tryz.sizeOf2,v2:=Tryz.zeroValue2,t3:=Tryz.underlying3,a3:=Tryz.isAgg3,z3:=Tryz.sizeOf3,v3:=Tryz.zeroValue3,t4:=Tryz.underlying4,a4:=Tryz.isAgg4,z4:=Tryz.sizeOf4,v4:=Tryz.zeroValue4,t5:=Tryz.underlying5,a5:=Tryz.isAgg5,z5:=Tryz.sizeOf5,v5:=Tryz.zeroValue5,t9:=Tryz.underlying9,a9:=Tryz.isAgg9,z9:=Tryz.sizeOf9,v9:=Tryz.zeroValue9,t20:=Tryz.underlying20,a20:=Tryz.isAgg20,z20:=Tryz.sizeOf20,v20:=Tryz.zeroValue20,t37:=Tryz.underlying98,a37:=Tryz.isAgg98,z37:=Tryz.sizeOf98,v37:=Tryz.zeroValue98,t46:=Tryz.underlying223,a46:=Tryz.isAgg223,z46:=Tryz.sizeOf223,v46:=Tryz.zeroValue223,t51:=Tryz.underlying251,a51:=Tryz.isAgg251,z51:=Tryz.sizeOf251,v51:=Tryz.zeroValue251,t53:=Tryz.underlying253,a53:=Tryz.isAgg253,z53:=Tryz.sizeOf253,v53:=Tryz.zeroValue253,t171:=Tryz.underlying268,a171:=Tryz.isAgg268,z171:=Tryz.sizeOf268,v171:=Tryz.zeroValue268,t173:=Tryz.underlying270,a173:=Tryz.isAgg270,z173:=Tryz.sizeOf270,v173:=Tryz.zeroValue270,t212:=Tryz.underlying287,a212:=Tryz.isAgg287,z212:=Tryz.sizeOf287,v212:=Tryz.zeroValue287,t213:=Tryz.underlying288,a213:=Tryz.isAgg288,z213:=Tryz.sizeOf288,t232:=Tryz.underlying301,a232:=Tryz.isAgg301,z232:=Tryz.sizeOf301,v232:=Tryz.zeroValue301,t233:=Tryz.underlying302,a233:=Tryz.isAgg302,z233:=Tryz.sizeOf302,v233:=Tryz.zeroValue302,g17:=by kernel_rfl,g18:=by kernel_rfl,g19:=by kernel_rfl,i0:=by kernel_rfl,i2:=by kernel_rfl,i3:=by kernel_rfl,i4:=by kernel_rfl,i5:=by kernel_rfl,i9:=by kernel_rfl,i20:=by kernel_rfl,i37:=by kernel_rfl,i46:=by kernel_rfl,i51:=by kernel_rfl,i53:=by kernel_rfl,i171:=by kernel_rfl,i173:=by kernel_rfl,i212:=by kernel_rfl,i232:=by kernel_rfl,i233:=by kernel_rfl,m17:=by kernel_rfl,m18:=by kernel_rfl,m19:=by kernel_rfl }
def oC (w : World) : Prop := Lib.TabIs Tryz.prog w "internal/strconv.uint64pow10" .u64 Lib.pow10Tab
def qJ:Nat:=3
theorem J9 : Tryz.prog.globalNamed "internal/strconv.uint64pow10" = some qJ := by kernel_rfl
theorem oC.aC{S:Nat->Prop}{w w':World}(h:oC w)(k:au S w w')(hS:¬S qJ):oC w':=by
 unfold oC Lib.TabIs World.var? at h ⊢
 rw[J9]at h ⊢
 simp only[Option.bind_some]at h ⊢
 have hlt:qJ<w.heap.size:=by
  rcases Nat.lt_or_ge qJ w.heap.size with h'|h'
  ·exact h'
  ·rw[Array.getElem?_eq_none h']at h;simp at h
 rw[k.block qJ hlt hS]
 exact h
theorem oC.lt{w:World}(h:oC w):qJ<w.heap.size:=by
 unfold oC Lib.TabIs World.var? at h
 rw[J9]at h
 simp only[Option.bind_some]at h
 rcases Nat.lt_or_ge qJ w.heap.size with h'|h'
 ·exact h'
 ·rw[Array.getElem?_eq_none h']at h;simp at h
theorem oC.aH{w w':World}(h:oC w)(k:au aP w w'):oC w':=h.aC k (fun x=>x)
theorem Qc(n:Int)(h0:-9223372036854775808<=n)(h1:n<=9223372036854775807)(w:World)(hT:oC w) :
 Calls Tryz.prog 115 #[.int .i64 n] w fun e w'=>e=.returned (.string ⟨(Lib.itoa n).toArray⟩)/\au aP w w':=by
 refine (Any.strconv_Itoa Ql n h0 h1 w hT).mono ?_
 rintro e w' ⟨rfl,k,os,rfl⟩
 refine⟨rfl,rfl,rfl,rfl,?_,?_⟩
 ·show w.heap.size<=(w.heap++os).size
  rw[Array.size_append];omega
 ·intro j hj _
  show (w.heap++os)[j]?=w.heap[j]?
  rw[Array.getElem?_append_left hj]
def ND(n:Int):ByteArray:=⟨#[32]⟩++⟨(Lib.itoa n).toArray⟩
def gY(f:Nat->Int)(word:ByteArray):Nat->ByteArray
 | 0=>word
 | i+1=>gY f word i++ND (f i)
theorem NF(n:Int)(h0:-9223372036854775808<=n)(h1:n<=9223372036854775807):(ND n).size<=22:=by
 have:=Lib.itoa_length_le n h0 h1
 have e:(ND n).size=1+(Lib.itoa n).length:=by simp[ND,ByteArray.size_append];rfl
 omega
theorem jA(f:Nat->Int)(word:ByteArray):∀k,(∀i,i<k->-9223372036854775808<=f i/\f i<=9223372036854775807)->(gY f word k).size<=word.size+22 * k
 | 0,_=>by simp[gY]
 | k+1,h=>by
   have h1:=jA f word k (fun i hi=>h i (by omega))
   have h2:=NF (f k) (h k (by omega)).1 (h k (by omega)).2
   simp only[gY,ByteArray.size_append]
   omega
theorem XC:∃i,Tryz.prog.info? 5=some i/\i.zero=some (.int .u8 0)/\i.size=1/\i.bytes=1:=by
 have h:(Tryz.prog.info? 5).map (fun i=>(i.zero,i.size,i.bytes))=some (some (.int .u8 0),1,1):=by kernel_rfl
 cases hi:Tryz.prog.info? 5 with
 | none=>rw[hi]at h;simp at h
 | some i =>
   rw[hi]at h
   simp at h
   exact⟨i,rfl,h.1,h.2.1,h.2.2⟩
theorem I4{P:Program}(w:World)(t u ty e:TypeId)(i:TypeInfo)(ht:P.underlying t=some (.slice e))(hu:P.underlying u=some .string)(hi:P.info? e=some i)(hz:i.zero=some (.int .u8 0))(hsize:i.size=1)(hby:i.bytes=1)
 (v:Value) (n:Nat) (xs:List Value) (hown:w.ownsRow 0 e 1 v n xs) (s:ByteArray) (hs0:0<s.size) (hb:n+s.size<=1000000000) :
 ∃g cap w',(Builtin.append_ #[t,u] ty #[v,.string s]).run P w=.ok (.slice (some ⟨g,0,none⟩) (n+s.size) cap) w'/\w'.ownsRow 0 e 1 (.slice (some ⟨g,0,none⟩) (n+s.size) cap) (n+s.size) (xs++Lib.strCells s)/\w.grownBy w' v.ownBlock/\(v.ownBlock=some g\/g=w.heap.size):=by
 obtain⟨v',w',hr,h2,h3,h4⟩:=Lib.run_append_own_string (P:=P) w 0 t u ty e i ht hu hi hz hsize hby v n xs hown s (by unfold maxLen;omega) (by omega) (by omega)
 have hx:∃g cap,v'=.slice (some ⟨g,0,none⟩) (n+s.size) cap/\(v.ownBlock=some g\/g=w.heap.size):=by
  have hxl:xs.length=n:=by simpa using hown.1
  rcases hown.2 with⟨rfl,rfl⟩|⟨g,cap,cur,rfl,hbg,hg,hnc,hcm,hcs,htake⟩
  ·have hr2:=run_append_nil_string (P:=P) w t u ty e i (.int .u8 0) ht hu hi hz s hs0 (by omega) (by rw[hby];omega)
   rw[hr]at hr2
   injection hr2 with e1 _
   exact⟨_,_,by rw[e1,Nat.zero_add],.inr rfl⟩
  ·by_cases hroom:n+s.size<=cap
   ·have hr2:=Lib.run_append_room_string (P:=P) w t u ty e i ht hu hi hsize g n cap cur hg s hroom (by omega)
    rw[hr]at hr2
    injection hr2 with e1 _
    exact⟨_,_,e1,.inl rfl⟩
   ·have holds:∀j u,xs[j]?=some u->w.cell? ((⟨g,0,none⟩:Addr).add j)=some u:=World.ownsRow.cells (g:=g) ⟨hown.1,.inr ⟨g,cap,cur,rfl,hbg,hg,hnc,hcm,hcs,htake⟩⟩ rfl
    have hr2:=Lib.run_append_grow_string (P:=P) w t u ty e i (.int .u8 0) ht hu hi hz ⟨g,0,none⟩ n cap xs (by rw[hsize];simpa using hxl) holds s (by omega) (by omega) (by rw[hby];exact growslice_fits (by omega) (by omega))
    rw[hr]at hr2
    injection hr2 with e1 _
    exact⟨_,_,e1,.inr rfl⟩
 obtain⟨g,cap,rfl,hg⟩:=hx
 exact⟨g,cap,w',hr,h2,h3,hg⟩
theorem wH{P:Program}{w:World}{ops:Array Oper}{rest:List Oper}{o:Oper}{a:Act}{Q:Exit->Act->World->Prop}(hgd:o.guard=none)(sl x:Operand)(t u:TypeId)
 (ho:o.op=.call { callee:=.builtin .append,args:=#[sl,x],argTypes:=#[t,u] })
 (e:TypeId) (i:TypeInfo) (ht:P.underlying t=some (.slice e)) (hu:P.underlying u=some .string) (hi:P.info? e=some i) (hz:i.zero=some (.int .u8 0)) (hsize:i.size=1) (hby:i.bytes=1)
 (v:Value) (n:Nat) (xs:List Value) (hs:a.eval sl=v) (hown:w.ownsRow 0 e 1 v n xs) (s:ByteArray) (hx:a.eval x=.string s) (hs0:0<s.size) (hb:n+s.size<=1000000000)
 (h:∀g cap w',w'.ownsRow 0 e 1 (.slice (some ⟨g,0,none⟩) (n+s.size) cap) (n+s.size) (xs++Lib.strCells s)->w.grownBy w' v.ownBlock->(v.ownBlock=some g\/g=w.heap.size)->wpList P ops Q rest (a.put o.dst (.slice (some ⟨g,0,none⟩) (n+s.size) cap)) w'):wpList P ops Q (o :: rest) a w:=by
 refine wpList_plain hgd fun K hK=>?_
 obtain⟨g,cap,w',hr,h2,h3,h4⟩:=I4 (P:=P) w t u o.type e i ht hu hi hz hsize hby v n xs hown s hs0 hb
 unfold Oper.wp execOp
 simp only[ho,resolve,invoke,builtin,Sem.run_bind,Sem.run_pure,Result.andThen_ok,List.map_toArray,List.map_cons,List.map_nil,hs,hx,hr]
 exact hK _ _ (h g cap w' h2 h3 h4)
theorem CY{w:World}{base e size n:Nat}{v:Value}{xs:List Value}(h:w.ownsRow base e size v n xs):∃a c,v=.slice a n c:=by
 rcases h.2 with⟨h,h0⟩|⟨g,cap,cs,h,_⟩
 ·exact⟨none,0,by rw[h,h0]⟩
 ·exact⟨_,cap,h⟩
theorem fP.abN{w w4:World}{bv bm bo:Nat}{G:Lg}{m:Lm}{q q' n:Nat}(h:fP w bv bm bo G m q)(k:au (fun b=>m.jv.ownBlock=some b) w w4){jv:Value}{jn:List Value}(hn:jn.length=n)(hown:w4.ownsRow 0 5 1 jv n jn)(hq:n<=300 * q') :
 fP (w4.setCell ⟨bv,6,none⟩ jv) bv bm bo G { m with jv:=jv,jn:=jn } q'/\au (fun b=>b=bv\/m.jv.ownBlock=some b) w (w4.setCell ⟨bv,6,none⟩ jv):=by
 subst hn
 have no:∀{b c t},az w b c t->t≠5->¬(m.jv.ownBlock=some b):=fun hb ht e=>bV h.aO.kH e hb (fun e=>ht e.symm) rfl
 have b4:az w4 bv (qM bm bo m G.day) 100:=k.aB h.dA (no h.dA (by decide))
 have k5:au (fun b=>b=bv) w4 (w4.setCell ⟨bv,6,none⟩ jv):=(au.refl (fun b=>b=bv) w4).setCell (p:=⟨bv,6,none⟩) (.inl rfl) _
 have kk:au (fun b=>b=bv\/m.jv.ownBlock=some b) w (w4.setCell ⟨bv,6,none⟩ jv):=(k.mono (fun b e=>.inr e)).trans (k5.mono (fun b e=>.inl e))
 have no2:∀{b c t},az w b c t->t≠5->t≠100->¬(b=bv\/m.jv.ownBlock=some b):=by
  rintro b c t hb h5 h0 (e|e)
  ·exact az.ne hb h.dA h0 e
  ·exact no hb h5 e
 refine⟨⟨b4.set 6 _,?_⟩,kk⟩
 refine⟨aG h.aO.jq kk ?_,aG h.aO.iF kk ?_,h.aO.len,fun i b g hi hg=>kk.aB (h.aO.aB i b g hi hg) (no2 (h.aO.aB i b g hi hg) (by decide) (by decide)),h.aO.nodup,h.aO.act.aC kk ?_,aG hown k5 (fun b hb e=>bV hown hb b4 (by decide) e),hq⟩
 ·intro b hb
  obtain⟨cs,hc⟩:=bF h.aO.jq hb
  exact no2 hc (by decide) (by decide)
 ·intro b hb
  obtain⟨cs,hc⟩:=bF h.aO.iF hb
  exact no2 hc (by decide) (by decide)
 ·intro b hb
  obtain⟨cs,t,hc,ht⟩:=h.aO.act.fZ hb
  exact no2 hc (by rcases ht with rfl|rfl <;> decide) (by rcases ht with rfl|rfl <;> decide)
theorem Dy(bv bm bo:Nat)(G:Lg)(m:Lm)(q:Nat)(line:ByteArray)(w:World)(hL:fP w bv bm bo G m q)(hq:q<3000000)(h0:0<line.size)(hl:line.size<=290) :
 Calls Tryz.prog 44 #[.pointer (some ⟨bv,0,none⟩),.string line] w fun e w'=>e=.returned (.tuple #[]) /\
  ∃jv jn,fP w' bv bm bo G { m with jv:=jv,jn:=jn } (q+1)/\(∀b,jv.ownBlock=some b->m.jv.ownBlock=some b\/w.heap.size<=b)/\au (fun b=>b=bv\/m.jv.ownBlock=some b) w w':=by
 obtain⟨n,hn⟩:∃n,m.jn.length=n:=⟨_,rfl⟩
 have hrow:=hL.aO.kH
 have hjb:=hL.aO.jb
 rw[hn]at hrow hjb
 obtain⟨pa,lX,hjv⟩:=CY hrow
 rw[hjv]at hrow
 have v6:w.cell? ⟨bv,6,none⟩=some (.slice pa n lX):=(hL.dA.cell 6).trans (by rw[<-hjv];rfl)
 have f6:=hL.dA.frozen 6
 have lv:=hL.dA.lt
 obtain⟨i0,hi0,hz0,hz1,hz2⟩:=XC
 have hbd:n+line.size<=1000000000:=by omega
 have hmx:n+line.size+1<=maxLen:=by unfold maxLen;omega
 have tC:(n+line.size+1) * 1<=140737488355328:=by omega
 have HR:=ai hrow
 have HL:=ai hL
 have HJV:=ai hjv
 have HN:=ai hn
 have hnb:(Value.slice pa n lX).ownBlock≠some bv:=fun e=>bV hrow e hL.dA (by decide) rfl
 have HNB:=ai hnb
 have HB:=ai hL.dA
 clear hrow hL hjv hn hnb
 go_enter Tryz.func44,Tryz.ntmps44
 go_wp2_with (at_builtin;first
  | (refine wH rfl _ _ 98 9 rfl 5 i0 Tryz.underlying98 Tryz.underlying9 hi0 hz0 hz1 hz2 (.slice pa n lX) n _ rfl (ae HR) line rfl h0 hbd ?_;intro g cap w2 hown2 hgrow hat;have KD:=ai hown2;have HG2:=ai hgrow;have HA2:=ai hat;have b2:az w2 bv (qM bm bo m G.day) 100:=(hgrow.block bv lv (fun e=>ae HNB e.symm)).trans (ae HB);have HB2:=ai b2;clear hown2 hgrow hat b2)
  | (refine wpList_append_lies _ rfl _ _ 98 rfl 0 5 i0 (.int .u8 0) 1 1 Tryz.underlying98 hi0 hz0 hz1 hz2 rfl (by decide) (.slice (some ⟨g,0,none⟩) (n+line.size) cap) (n+line.size) _ rfl (aG (ae KD) ((au.refl aP w2).alloc _) (fun _ _ x=>x)) ⟨w2.heap.size,0,none⟩ 1 1 [.int .u8 10] rfl rfl (World.news_of_block (az.new w2 #[.int .u8 10] 5)) (by simp[Value.oneCell']) (by omega) hmx tC (by omega) (w2.heap.size+1) (by simp) ?_;intro g4 cap4 w4 hown4 hgrow4 Zq hlt4;have HO4:=ai hown4;have OE:=ai hgrow4;have HA4:=ai Zq;have b4:az w4 bv (qM bm bo m G.day) 100:=(hgrow4.block bv (((ae HB2).alloc _).lt) (fun e=>az.ne (ae HB2) (bF (ae KD) (show (Value.slice (some ⟨g,0,none⟩) (n+line.size) cap).ownBlock=some bv from e.symm)).choose_spec (by decide) rfl)).trans ((ae HB2).alloc _);have v64:=b4.cell 6;have f64:=b4.frozen 6;simp only[qM]at v64;simp at v64;clear hown4 hgrow4 Zq b4))
 go_end0
 have hj:=ae HJV
 have k2:au (fun b=>m.jv.ownBlock=some b) w w2:=(au.refl _ w).grown (ae HG2) (fun k e=>.inl (by rw[hj];exact e))
 have k4:au (fun b=>m.jv.ownBlock=some b) w w4:=(k2.alloc _).grown (ae OE) (fun k e=>by
  simp only[Value.ownBlock,Option.some.injEq]at e
  subst e
  rcases ae HA2 with e|e
  ·exact .inl (by rw[hj];exact e)
  ·exact .inr (by omega))
 have o4:=ae HO4
 have hlen:((m.jn++Lib.strCells line)++[Value.int .u8 10]).length=n+line.size+1:=by have:=o4.1;omega
 have hs:=(ae HL).abN k4 (q':=q+1) hlen o4 (by omega)
 refine⟨rfl,_,_,hs.1,?_,hs.2⟩
 intro b hb
 simp only[Value.ownBlock,Option.some.injEq]at hb
 subst hb
 rcases ae HA4 with e|e
 ·simp only[Value.ownBlock,Option.some.injEq]at e
  subst e
  rcases ae HA2 with e|e
  ·exact .inl (by rw[hj];exact e)
  ·exact .inr (by omega)
 ·have:=k2.size
  exact .inr (by omega)
theorem DR(w:World)(ty:TypeId)(a b:Option Addr)(n c m k:Nat):(Builtin.append_ #[109,108] ty #[.slice a n c,.slice b m k]).run Tryz.prog w=(Builtin.append_ #[109,109] ty #[.slice a n c,.slice b m k]).run Tryz.prog w:=by kernel_rfl
theorem Z8:∃i,Tryz.prog.info? 1=some i/\i.zero=some .nilFunc/\i.size=1/\i.bytes=8:=by
 have h:(Tryz.prog.info? 1).map (fun i=>(i.zero,i.size,i.bytes))=some (some .nilFunc,1,8):=by kernel_rfl
 cases hi:Tryz.prog.info? 1 with
 | none=>rw[hi]at h;simp at h
 | some i=>rw[hi]at h;simp at h;exact⟨i,rfl,h.1,h.2.1,h.2.2⟩
theorem P9:∃i,Tryz.prog.info? 109=some i/\i.zero=some (.slice none 0 0)/\i.size=1/\i.bytes=24:=by
 have h:(Tryz.prog.info? 109).map (fun i=>(i.zero,i.size,i.bytes))=some (some (.slice none 0 0),1,24):=by kernel_rfl
 cases hi:Tryz.prog.info? 109 with
 | none=>rw[hi]at h;simp at h
 | some i=>rw[hi]at h;simp at h;exact⟨i,rfl,h.1,h.2.1,h.2.2⟩
theorem yC{ops:Array Oper}{o:Oper}{a:Act}{K:Act->World->Prop}{Q:Exit->Act->World->Prop}{E:Prop}{w:World}(hgd:o.guard=none)(s x:Operand)
 (ho:o.op=.call { callee:=.builtin .append,args:=#[s,x],argTypes:=#[109,108] })
 (sa:Option Addr) (n sc:Nat) (xs:List Value) (hs:a.eval s=.slice sa n sc) (hown:w.ownsRow 0 1 1 (.slice sa n sc) n xs)
 (ad:Addr) (m c:Nat) (news:List Value) (hx:a.eval x=.slice (some ad) m c) (hl:news.length=m * 1) (hnews:∀j u,news[j]?=some u->w.cell? (ad.add j)=some u) (h1:∀u∈news,u.oneCell'=true)
 (hm:0<m) (hb:n+m<=2000000000) (H:Nat) (hH:w.heap.size=H)
 (h:∀g cap w',w'.ownsRow 0 1 1 (.slice (some ⟨g,0,none⟩) (n+m) cap) (n+m) (xs++news)->w.grownBy w' (Value.slice sa n sc).ownBlock->((Value.slice sa n sc).ownBlock=some g\/g=H)->g<w'.heap.size->K (a.put o.dst (.slice (some ⟨g,0,none⟩) (n+m) cap)) w') :
 if Region.wanted o (yielded ops a.tmps)=true then Oper.wp Tryz.prog o a w K Q else E:=by
 have hw:Region.wanted o (yielded ops a.tmps)=true:=by simp[Region.wanted,hgd]
 rw[if_pos hw]
 obtain⟨i,hi,hz,hsz,hby⟩:=Z8
 obtain⟨g,cap,w',hr,h2,h3,h4,h5⟩:=run_append_lies (P:=Tryz.prog) w 109 o.type 0 1 i .nilFunc 1 8 Tryz.underlying109 hi hz hsz hby rfl (by decide) (.slice sa n sc) n xs hown ad m c news hl hnews h1 hm (by unfold maxLen;omega) (by omega) (by omega) H hH
 rw[<-DR]at hr
 unfold Oper.wp execOp
 simp only[ho,resolve,invoke,builtin,Sem.run_bind,Sem.run_pure,Result.andThen_ok,List.map_toArray,List.map_cons,List.map_nil,hs,hx,hr]
 exact h g cap w' h2 h3 h4 h5
def Lg.begun(G:Lg):Lg:={ G with na:=G.na+1,nt:=[] }
def Lg.aV(G:Lg)(ds:List dS):Lg:={ G with nt:=G.nt++ds }
theorem Ad{w:World}{base e size n:Nat}{v:Value}{xs:List Value}(h:w.ownsRow base e size v n xs):∃a c,v=.slice a n c:=CY h
theorem fP.TL{w1 w2:World}{bv bm bo:Nat}{G:Lg}{m:Lm}{q:Nat}(h:fP w1 bv bm bo G m q)(hq:q<=G.ud+G.na+1){n H g cap:Nat}(hn:G.na=n)(hown:w2.ownsRow 0 109 1 (.slice (some ⟨g,0,none⟩) (n+1) cap) (n+1) (m.ac.map Prod.fst++[.slice none 0 0]))(hgrow:w1.grownBy w2 m.av.ownBlock)(hat:m.av.ownBlock=some g\/g=H)(hH:w1.heap.size=H) :
 bu (w2.setCell ⟨bv,5,none⟩ (.slice (some ⟨g,0,none⟩) (n+1) cap)) bv bm bo G.begun { m with av:=.slice (some ⟨g,0,none⟩) (n+1) cap,ac:=m.ac++[(.slice none 0 0,[])] } /\
  (∀b,Lm.F { m with av:=.slice (some ⟨g,0,none⟩) (n+1) cap,ac:=m.ac++[(.slice none 0 0,[])] } b->m.F b\/H<=b)/\au (fun b=>b=bv\/m.av.ownBlock=some b) w1 (w2.setCell ⟨bv,5,none⟩ (.slice (some ⟨g,0,none⟩) (n+1) cap)):=by
 have hb2:az w2 bv (qM bm bo m G.day) 100:=(hgrow.block bv h.dA.lt (fun e=>h.Jb (.inr (.inr (.inr (.inl e.symm)))))).trans h.dA
 have k2:au (fun b=>b=bv\/m.av.ownBlock=some b) w1 (w2.setCell ⟨bv,5,none⟩ (.slice (some ⟨g,0,none⟩) (n+1) cap)) :=
  ((au.refl _ w1).grown hgrow (fun k e=>.inl (.inr e))).setCell (p:=⟨bv,5,none⟩) (.inl (.inl rfl)) _
 have k3:au (fun b=>b=bv) w2 (w2.setCell ⟨bv,5,none⟩ (.slice (some ⟨g,0,none⟩) (n+1) cap)):=(au.refl (fun b=>b=bv) w2).setCell (p:=⟨bv,5,none⟩) (.inl rfl) _
 have no:∀{b c t},az w1 b c t->t≠100->t≠109->¬(b=bv\/m.av.ownBlock=some b):=by
  rintro b c t hb h0 h1 (e|e)
  ·exact az.ne hb h.dA h0 e
  ·exact bV h.aO.act.row e hb (fun e=>h1 e.symm) rfl
 refine⟨⟨hb2.set 5 _,?_⟩,?_,k2⟩
 ·refine⟨aG h.aO.jq k2 ?_,aG h.aO.iF k2 ?_,h.aO.len,fun i b g hi hg=>k2.aB (h.aO.aB i b g hi hg) (no (h.aO.aB i b g hi hg) (by decide) (by decide)),h.aO.nodup,⟨?_,?_,?_,?_,?_⟩,aG h.aO.kH k2 ?_,Nat.le_trans h.aO.jb (Nat.mul_le_mul_left 300 hq)⟩
  ·intro b hb
   obtain⟨cs,hc⟩:=bF h.aO.jq hb
   exact no hc (by decide) (by decide)
  ·intro b hb
   obtain⟨cs,hc⟩:=bF h.aO.iF hb
   exact no hc (by decide) (by decide)
  ·have hl:(m.ac++[((.slice none 0 0:Value),([]:List Value))]).length=n+1:=by rw[List.length_append,h.aO.act.len,hn];rfl
   simp only[hl,List.map_append,List.map_cons,List.map_nil]
   exact aG hown k3 (fun b hb e=>bV hown hb hb2 (by decide) e)
  ·intro a ha
   rcases List.mem_append.1 ha with ha|ha
   ·refine aG (h.aO.act.own a ha) k2 (fun b hb=>?_)
    obtain⟨cs,hc⟩:=bF (h.aO.act.own a ha) hb
    exact no hc (by decide) (by decide)
   ·simp only[List.mem_singleton]at ha
    subst ha
    exact World.ownsRow_nil _ _ _ _
  ·rw[List.filterMap_append]
   simpa [Value.ownBlock] using h.aO.act.dis
  ·show _=G.na+1
   rw[List.length_append,h.aO.act.len];rfl
  ·intro a ha
   rw[List.getLast?_append]at ha
   simp at ha
   rw[<-ha]
   rfl
  ·intro b hb
   obtain⟨cs,hc⟩:=bF h.aO.kH hb
   exact no hc (by decide) (by decide)
 ·rintro b (hb|hb|hb|hb|⟨a,ha,hb⟩)
  ·exact .inl (.inl hb)
  ·exact .inl (.inr (.inl hb))
  ·exact .inl (.inr (.inr (.inl hb)))
  ·simp only[Value.ownBlock,Option.some.injEq]at hb
   rcases hat with e|e
   ·exact .inl (.inr (.inr (.inr (.inl (by rw[e,hb])))))
   ·right;omega
  ·rcases List.mem_append.1 ha with ha|ha
   ·exact .inl (.inr (.inr (.inr (.inr ⟨a,ha,hb⟩))))
   ·simp only[List.mem_singleton]at ha
    subst ha
    simp[Value.ownBlock]at hb
theorem QW{α:Type}(l:List α)(x y:α):(l++[x]).set l.length y=l++[y]:=by
 induction l with
 | nil=>rfl
 | cons a l ih=>simp only[List.cons_append,List.length_cons,List.set_cons_succ,ih]
theorem fP.PE{w1 w2:World}{bv bm bo:Nat}{G:Lg}{m:Lm}(h:bu w1 bv bm bo G m){init:List (Value × List Value)}{hd:Value}{fs news:List Value}{ds:List dS}{n k ga OQ g cap c H:Nat}(hac:m.ac=init++[(hd,fs)])(hav:m.av=.slice (some ⟨ga,0,none⟩) n OQ)(hn:G.na=n)(hk:k+1=n)
 (hown:w2.ownsRow 0 1 1 (.slice (some ⟨g,0,none⟩) (fs.length+c) cap) (fs.length+c) (fs++news)) (hgrow:w1.grownBy w2 hd.ownBlock) (hat:hd.ownBlock=some g\/g=H) (hH:w1.heap.size=H) (hds:ds.length=c) :
 bu (w2.setCell ⟨ga,k,none⟩ (.slice (some ⟨g,0,none⟩) (fs.length+c) cap)) bv bm bo (G.aV ds) { m with ac:=init++[(.slice (some ⟨g,0,none⟩) (fs.length+c) cap,fs++news)] } /\
  (∀b,Lm.F { m with ac:=init++[(.slice (some ⟨g,0,none⟩) (fs.length+c) cap,fs++news)] } b->m.F b\/H<=b)/\au (fun b=>gy m.av m.ac b) w1 (w2.setCell ⟨ga,k,none⟩ (.slice (some ⟨g,0,none⟩) (fs.length+c) cap)) /\
  (∀b,gy m.av (init++[(.slice (some ⟨g,0,none⟩) (fs.length+c) cap,fs++news)]) b->gy m.av m.ac b\/H<=b):=by
 have hA:=h.aO.act
 have hlast:(hd,fs)∈m.ac:=by rw[hac];simp
 have hga:m.av.ownBlock=some ga:=by rw[hav];rfl
 have hlen:init.length=k:=by
  have:=hA.len
  rw[hac,hn,List.length_append]at this
  simp at this
  omega
 have hne:hd.ownBlock≠some ga:=fun e=>by
  obtain⟨cs,hc⟩:=bF (hA.own _ hlast) e
  exact bV hA.row hga hc (by decide) rfl
 have k2:au (fun b=>b=ga\/hd.ownBlock=some b) w1 (w2.setCell ⟨ga,k,none⟩ (.slice (some ⟨g,0,none⟩) (fs.length+c) cap)) :=
  ((au.refl _ w1).grown hgrow (fun k e=>.inl (.inr e))).setCell (p:=⟨ga,k,none⟩) (.inl (.inl rfl)) _
 have k3:au (fun b=>b=ga) w2 (w2.setCell ⟨ga,k,none⟩ (.slice (some ⟨g,0,none⟩) (fs.length+c) cap)):=(au.refl (fun b=>b=ga) w2).setCell (p:=⟨ga,k,none⟩) (.inl rfl) _
 have no:∀{b c t},az w1 b c t->t≠109->t≠1->¬(b=ga\/hd.ownBlock=some b):=by
  rintro b c t hb h0 h1 (e|e)
  ·exact bV hA.row hga hb (fun e=>h0 e.symm) e.symm
  ·exact bV (hA.own _ hlast) e hb (fun e=>h1 e.symm) rfl
 have hdis:=hA.dis
 rw[hac,List.filterMap_append]at hdis
 have Zl:∀a,a∈init->∀b,a.1.ownBlock=some b->hd.ownBlock≠some b:=by
  intro a ha b hb e
  have h2:=(List.nodup_append.1 hdis).2.2
  exact h2 b (List.mem_filterMap.2 ⟨a,ha,hb⟩) b (by simp[e]) rfl
 have ltI:∀a,a∈init->∀b,a.1.ownBlock=some b->b<w1.heap.size:=by
  intro a ha b hb
  obtain⟨cs,hc⟩:=bF (hA.own a (by rw[hac];exact List.mem_append.2 (.inl ha))) hb
  exact hc.lt
 have Y3:∀b,gy m.av (init++[(.slice (some ⟨g,0,none⟩) (fs.length+c) cap,fs++news)]) b->gy m.av m.ac b\/H<=b:=by
  rintro b (hb|⟨a,ha,hb⟩)
  ·exact .inl (.inl hb)
  ·rcases List.mem_append.1 ha with ha|ha
   ·exact .inl (.inr ⟨a,by rw[hac];exact List.mem_append.2 (.inl ha),hb⟩)
   ·simp only[List.mem_singleton]at ha
    subst ha
    simp only[Value.ownBlock,Option.some.injEq]at hb
    subst hb
    rcases hat with e|e
    ·exact .inl (.inr ⟨_,hlast,e⟩)
    ·right;omega
 refine⟨⟨k2.aB h.dA (no h.dA (by decide) (by decide)),?_⟩,?_,k2.mono (fun b hb=>by
  rcases hb with e|e
  ·subst e;exact .inl hga
  ·exact .inr ⟨_,hlast,e⟩),?_⟩
 ·refine⟨aG h.aO.jq k2 ?_,aG h.aO.iF k2 ?_,h.aO.len,fun i b g hi hg=>k2.aB (h.aO.aB i b g hi hg) (no (h.aO.aB i b g hi hg) (by decide) (by decide)),h.aO.nodup,⟨?_,?_,?_,?_,?_⟩,aG h.aO.kH k2 ?_,h.aO.jb⟩
  ·intro b hb
   obtain⟨cs,hc⟩:=bF h.aO.jq hb
   exact no hc (by decide) (by decide)
  ·intro b hb
   obtain⟨cs,hc⟩:=bF h.aO.iF hb
   exact no hc (by decide) (by decide)
  ·have hr:=hA.row
   rw[hA.len,hn]at hr
   have hl:(init++[((.slice (some ⟨g,0,none⟩) (fs.length+c) cap:Value),fs++news)]).length=n:=by rw[List.length_append,hlen];exact hk
   rcases hr.2 with⟨e,_⟩|⟨g',cap',cur,e,h0,hg,h1,h2,h3,h4⟩
   ·rw[hav]at e;simp at e
   ·rw[hav]at e
    simp only[Value.slice.injEq,Option.some.injEq,Addr.mk.injEq]at e
    obtain⟨⟨e1,_⟩,_,e2⟩:=e
    subst e1 e2
    have hb2:az w2 ga cur 109:=(hgrow.block ga (az.lt hg) (fun e=>hne e.symm)).trans hg
    have hb3:=hb2.set k (.slice (some ⟨g,0,none⟩) (fs.length+c) cap)
    rw[hl]
    refine⟨by simp only[List.length_map,hl];omega,.inr ⟨ga,OQ,_,hav,h0,hb3,h1,h2,by rw[Array.size_setIfInBounds];exact h3,?_⟩⟩
    rw[Array.toList_setIfInBounds,List.take_set,h4,hac]
    simp only[List.map_append,List.map_cons,List.map_nil]
    have:k=(init.map Prod.fst).length:=by rw[List.length_map,hlen]
    rw[this]
    exact QW _ _ _
  ·intro a ha
   rcases List.mem_append.1 ha with ha|ha
   ·have hm:a∈m.ac:=by rw[hac];exact List.mem_append.2 (.inl ha)
    refine aG (hA.own a hm) k2 ?_
    rintro b hb (e|e)
    ·obtain⟨cs,hc⟩:=bF (hA.own a hm) hb
     subst e
     exact bV hA.row hga hc (by decide) rfl
    ·exact Zl a ha b hb e
   ·simp only[List.mem_singleton]at ha
    subst ha
    have e:(fs++news).length=fs.length+c:=by have:=hown.1;omega
    simp only[e]
    refine aG hown k3 (fun b hb e=>?_)
    simp only[Value.ownBlock,Option.some.injEq]at hb
    subst hb
    subst e
    obtain⟨cs,hc⟩:=bF hA.row hga
    have hb2:az w2 g cs 109:=(hgrow.block g hc.lt (fun e=>hne e.symm)).trans hc
    exact bV hown rfl hb2 (by decide) rfl
  ·rw[List.filterMap_append,List.nodup_append]
   refine⟨(List.nodup_append.1 hdis).1,by simp[Value.ownBlock],?_⟩
   intro x hx y hy e
   simp[Value.ownBlock]at hy
   subst hy
   subst e
   obtain⟨a,ha,hb⟩:=List.mem_filterMap.1 hx
   rcases hat with e|e
   ·exact Zl a ha _ hb e
   ·have:=ltI a ha _ hb;omega
  ·have:init.length+1=n:=by omega
   simpa [hn,Lg.aV] using this
  ·intro a ha
   simp at ha
   subst ha
   have h1:=hA.last (hd,fs) (by rw[hac];simp)
   simp only at h1
   have:=hown.1
   simp only[Lg.aV,List.length_append]at this ⊢
   omega
  ·intro b hb
   obtain⟨cs,hc⟩:=bF h.aO.kH hb
   exact no hc (by decide) (by decide)
 ·rintro b (hb|hb|hb|hb)
  ·exact .inl (.inl hb)
  ·exact .inl (.inr (.inl hb))
  ·exact .inl (.inr (.inr (.inl hb)))
  ·exact (Y3 b hb).imp_left (fun h=>.inr (.inr (.inr h)))
 ·exact Y3
theorem yg{α:Type}:∀l:List α,0<l.length->∃i x,l=i++[x]
 | [],h=>absurd h (by simp)
 | [x],_=>⟨[],x,rfl⟩
 | a :: b :: l,_=>by
   obtain⟨i,x,e⟩:=yg (b :: l) (by simp)
   exact⟨a :: i,x,by rw[e];rfl⟩
theorem Qd(n:Int)(h0:-9223372036854775808<=n)(h1:n<=9223372036854775807)(w:World)(hT:oC w) :
 Calls Tryz.prog 115 #[.int .i64 n] w fun e w'=>∃s:ByteArray,e=.returned (.string s)/\s.size<=21/\(⟨#[32]⟩++s:ByteArray)=ND n/\au aP w w':=by
 refine (Qc n h0 h1 w hT).mono ?_
 rintro e w' ⟨rfl,k⟩
 refine⟨_,rfl,?_,rfl,k⟩
 have:=Lib.itoa_length_le n h0 h1
 have e:(ByteArray.mk (Lib.itoa n).toArray).size=(Lib.itoa n).length:=by show (Lib.itoa n).toArray.size=_;simp
 omega
theorem vg{P:Program}(a b:ByteArray)(h:a.size+b.size<=1000000)(W:World):(Op.stringOp .add a b).run P W=.ok (.string (a++b)) W:=run_string_add_sum W _ _ (by omega)
theorem qp(word:ByteArray)(f:Nat->Int)(sb m cap:Nat)(w:World)(hT:oC w)(hm:m<=100)(hw:word.size<=1000)
 (hc:∀i,i<m->w.cell? ⟨sb,i,none⟩=some (.int .i64 (f i))) (hf:∀i,i<m->-9223372036854775808<=f i/\f i<=9223372036854775807) :
 Calls Tryz.prog 65 #[.string word,.slice (some ⟨sb,0,none⟩) m cap] w fun e w'=>e=.returned (.string (gY f word m))/\au aP w w':=by
 have HT:=ai hT
 have HC:=ai hc
 have HF:=ai hf
 clear hT hc hf
 go_enter Tryz.func65,Tryz.ntmps65
 go_wp2
 go_loopg [0,6,9] m (fun k sv _ iv wr=>∃i:Nat,iv=.int .i64 (i:Int)/\i<=m/\k=m-i/\sv=.string (gY f word i)/\au aP w wr)
 case atStart=>exact⟨0,rfl,Nat.zero_le _,rfl,rfl,au.refl _ _⟩
 case round =>
  obtain⟨i,rfl,hi,hgk,rfl,hc⟩:=hrel
  by_cases hin:i<m
  ·have hcell:wr.cell? ⟨sb,i,none⟩=some (.int .i64 (f i)):=hc.cell (ae HC i hin) (fun x=>x)
   have hb:=ae HF i hin
   have HTr:=ai ((ae HT).aH hc)
   have HK:=ai hc
   clear hc
   have hls:(gY f word i).size<=10000:=by
    have:=jA f word i (fun j hj=>ae HF j (by omega))
    omega
   have HX:Hid (gY f word (i+1)=gY f word i++ND (f i)):=rfl
   generalize hv:f i=v at *
   generalize hsw:gY f word i=sw at *
   clear hv hsw
   go_wp2_with (go_at_call 115;refine (Qd v hb.1 hb.2 _ (ae HTr)).mono ?_;rintro e w' ⟨s,rfl,hs1,hs2,hk⟩;have yS:=ai hk;have HS2:=ai hs2;clear hk hs2;have c1:=vg (P:=Tryz.prog) ⟨#[32]⟩ s (by show 1+s.size<=1000000;omega);have c2:=vg (P:=Tryz.prog) sw (⟨#[32]⟩++s) (by rw[ByteArray.size_append];show sw.size+(1+s.size)<=1000000;omega))
   go_roundg (m-(i+1))
   case measure=>omega
   case rel=>exact⟨i+1,by push_cast;rfl,by omega,rfl,by rw[ae HX,ae HS2],(ae HK).trans (ae yS)⟩
  ·obtain rfl:i=m:=by omega
   go_wp2
   go_ret
   exact⟨rfl,hc⟩
def uw(a b:Int)(i:Nat):Int:=if i=0 then a else b
def MO(a b c d:Int)(i:Nat):Int:=if i=0 then a else if i=1 then b else if i=2 then c else d
def rV:ByteArray:=⟨#[101,110,116,101,114]⟩
def Dw:ByteArray:=⟨#[98,117,115,116]⟩
def uG(id aA:Int)(sym:ByteArray)(side kind af aI:Int):ByteArray:=(gY (uw id aA) rV 2++⟨#[32]⟩)++gY (MO side kind af aI) sym 4
def gW(n:Int):Prop:=-9223372036854775808<=n/\n<=9223372036854775807
def aa0(W:World)(w1:ByteArray)(a b:Int)(s1 w2:ByteArray)(c d e f:Int)(s2:ByteArray)(word:ByteArray)(sb m:Nat)(s:ByteArray):Prop :=
 (m=2/\word=w1/\W.cell? ⟨sb,0,none⟩=some (.int .i64 a)/\W.cell? ⟨sb,1,none⟩=some (.int .i64 b)/\s=s1) \/
 (m=4/\word=w2/\W.cell? ⟨sb,0,none⟩=some (.int .i64 c)/\W.cell? ⟨sb,1,none⟩=some (.int .i64 d)/\W.cell? ⟨sb,2,none⟩=some (.int .i64 e)/\W.cell? ⟨sb,3,none⟩=some (.int .i64 f)/\s=s2)
theorem RY(w1 w2:ByteArray)(a b c d e f:Int)(h1:w1.size<=1000)(h2:w2.size<=1000)(ha:gW a)(hb:gW b)(hc:gW c)(hd:gW d)(he:gW e)(hf:gW f)(w0:World)(hT:oC w0) :
 ∀W,au aP w0 W->∀word sb m cap s,aa0 W w1 a b (gY (uw a b) w1 2) w2 c d e f (gY (MO c d e f) w2 4) word sb m s ->
  Calls Tryz.prog 65 #[.string word,.slice (some ⟨sb,0,none⟩) m cap] W fun e w'=>e=.returned (.string s)/\au aP w0 w'/\au aP W w':=by
 intro W k word sb m cap s hw
 have hTW:=hT.aH k
 rcases hw with⟨rfl,rfl,c0,c1,rfl⟩|⟨rfl,rfl,c0,c1,c2,c3,rfl⟩
 ·refine (qp word (uw a b) sb 2 cap W hTW (by omega) h1 ?_ ?_).mono ?_
  ·intro i hi
   match i,hi with
   | 0,_=>exact c0
   | 1,_=>exact c1
  ·intro i hi
   match i,hi with
   | 0,_=>exact ha
   | 1,_=>exact hb
  ·rintro e w' ⟨rfl,k2⟩
   exact⟨rfl,k.trans k2,k2⟩
 ·refine (qp word (MO c d e f) sb 4 cap W hTW (by omega) h2 ?_ ?_).mono ?_
  ·intro i hi
   match i,hi with
   | 0,_=>exact c0
   | 1,_=>exact c1
   | 2,_=>exact c2
   | 3,_=>exact c3
  ·intro i hi
   match i,hi with
   | 0,_=>exact hc
   | 1,_=>exact hd
   | 2,_=>exact he
   | 3,_=>exact hf
  ·rintro e w' ⟨rfl,k2⟩
   exact⟨rfl,k.trans k2,k2⟩
theorem yx(id aA:Int)(sym:ByteArray)(side kind af aI:Int)(w:World)(hT:oC w)(hs:sym.size<=1000)(h1:gW id)(h2:gW aA)(h3:gW side)(h4:gW kind)(h5:gW af)(h6:gW aI) :
 Calls Tryz.prog 113 #[.agg #[.int .i64 id,.int .i64 aA,.string sym,.int .i64 side,.int .i64 kind,.int .i64 af,.int .i64 aI]] w fun e w'=>e=.returned (.string (uG id aA sym side kind af aI))/\au aP w w':=by
 obtain⟨w1,hw1⟩:∃w1,w1=w.alloc (.cells #[.int .i64 id,.int .i64 aA,.string sym,.int .i64 side,.int .i64 kind,.int .i64 af,.int .i64 aI] 52):=⟨_,rfl⟩
 have k0:au aP w w1:=by rw[hw1];exact (au.refl aP w).alloc _
 have b0:az w1 w.heap.size #[.int .i64 id,.int .i64 aA,.string sym,.int .i64 side,.int .i64 kind,.int .i64 af,.int .i64 aI] 52:=by rw[hw1];exact az.new _ _ _
 have hT1:=hT.aH k0
 have HW:=RY rV sym id aA side kind af aI (by decide) hs h1 h2 h3 h4 h5 h6 w1 hT1
 have z1:=jA (uw id aA) rV 2 (fun i hi=>by match i,hi with|0,_=>exact h1|1,_=>exact h2)
 have z2:=jA (MO side kind af aI) sym 4 (fun i hi=>by match i,hi with|0,_=>exact h3|1,_=>exact h4|2,_=>exact h5|3,_=>exact h6)
 unfold uG
 have zE:rV.size=5:=by decide
 rw[zE]at z1
 generalize gY (uw id aA) rV 2=s1 at *
 generalize gY (MO side kind af aI) sym 4=s2 at *
 have c1:=vg (P:=Tryz.prog) s1 ⟨#[32]⟩ (by show s1.size+1<=1000000;omega)
 have c2:=vg (P:=Tryz.prog) (s1++⟨#[32]⟩) s2 (by rw[ByteArray.size_append];show (s1.size+1)+s2.size<=1000000;omega)
 obtain⟨H,hH⟩:∃H,w.heap.size=H:=⟨_,rfl⟩
 rw[hH]at b0
 have x0:w1.cell? ⟨H,0,none⟩=some (.int .i64 id):=b0.cell 0
 have x1:w1.cell? ⟨H,1,none⟩=some (.int .i64 aA):=b0.cell 1
 have x2:w1.cell? ⟨H,2,none⟩=some (.string sym):=b0.cell 2
 have x3:w1.cell? ⟨H,3,none⟩=some (.int .i64 side):=b0.cell 3
 have x4:w1.cell? ⟨H,4,none⟩=some (.int .i64 kind):=b0.cell 4
 have x5:w1.cell? ⟨H,5,none⟩=some (.int .i64 af):=b0.cell 5
 have x6:w1.cell? ⟨H,6,none⟩=some (.int .i64 aI):=b0.cell 6
 have lH:H<w1.heap.size:=b0.lt
 have HWW:=ai HW
 have Yc:=ai k0
 have HW1:=ai hw1
 clear HW k0 hw1 hT1 hT b0 h1 h2 h3 h4 h5 h6 z1 z2 zE hs
 go_enter Tryz.func113,Tryz.ntmps113
 go_wp2
 rw[<-ae HW1]
 go_region_held3 (fun w'=>w'.cell? ⟨H,0,none⟩=some (.int .i64 id)/\w'.cell? ⟨H,1,none⟩=some (.int .i64 aA)/\w'.cell? ⟨H,2,none⟩=some (.string sym)/\w'.cell? ⟨H,3,none⟩=some (.int .i64 side)/\w'.cell? ⟨H,4,none⟩=some (.int .i64 kind)/\w'.cell? ⟨H,5,none⟩=some (.int .i64 af)/\w'.cell? ⟨H,6,none⟩=some (.int .i64 aI)) (go_keep)
  (first
    | (go_at_call 65;refine (ae HWW _ ?cc _ _ _ _ s1 ?wt).mono ?_;(case wt=>exact Or.inl ⟨rfl,rfl,by go_keep,by go_keep,rfl⟩);(case cc=>repeat (first|exact ae VZ|exact au.refl _ _|refine au.drew ?_|refine au.alloc ?_ _));rintro e w3 ⟨rfl,hk,hkW⟩;have YF:=ai hkW;clear hkW;have k0:=hk.cell (p:=⟨H,0,none⟩) x0 (fun x=>x);have k1:=hk.cell (p:=⟨H,1,none⟩) x1 (fun x=>x);have k2:=hk.cell (p:=⟨H,2,none⟩) x2 (fun x=>x);have k3:=hk.cell (p:=⟨H,3,none⟩) x3 (fun x=>x);have k4:=hk.cell (p:=⟨H,4,none⟩) x4 (fun x=>x);have k5:=hk.cell (p:=⟨H,5,none⟩) x5 (fun x=>x);have k6:=hk.cell (p:=⟨H,6,none⟩) x6 (fun x=>x);have VZ:=ai hk;clear hk)
    | (go_at_call 65;refine (ae HWW _ ?cc _ _ _ _ s2 ?wt).mono ?_;(case wt=>exact Or.inr ⟨rfl,rfl,(by first|go_keep|exact (ae YF).cell (by go_keep) (fun x=>x)),(by first|go_keep|exact (ae YF).cell (by go_keep) (fun x=>x)),(by first|go_keep|exact (ae YF).cell (by go_keep) (fun x=>x)),(by first|go_keep|exact (ae YF).cell (by go_keep) (fun x=>x)),rfl⟩);(case cc=>repeat (first|exact ae VZ|exact au.refl _ _|refine au.drew ?_|refine au.alloc ?_ _));rintro e w3 ⟨rfl,hk,hkW⟩;have YF:=ai hkW;clear hkW;have k0:=hk.cell (p:=⟨H,0,none⟩) x0 (fun x=>x);have k1:=hk.cell (p:=⟨H,1,none⟩) x1 (fun x=>x);have k2:=hk.cell (p:=⟨H,2,none⟩) x2 (fun x=>x);have k3:=hk.cell (p:=⟨H,3,none⟩) x3 (fun x=>x);have k4:=hk.cell (p:=⟨H,4,none⟩) x4 (fun x=>x);have k5:=hk.cell (p:=⟨H,5,none⟩) x5 (fun x=>x);have k6:=hk.cell (p:=⟨H,6,none⟩) x6 (fun x=>x);have VZ:=ai hk;clear hk))
 all_goals
  go_wp2
  go_ret
  exact⟨rfl,(ae Yc).trans (by repeat (first|exact ae VZ|exact au.refl _ _|refine au.drew ?_|refine au.drewN ?_ _|refine au.alloc ?_ _))⟩
open Go.RowKit Go.Sort
structure jM where
 af:Int
 aI:Int
 num:Int
def jM.cells(l:jM):List Value:=[.int .i64 l.af,.int .i64 l.aI,.int .i64 l.num]
def kG(ls:List jM):List Value:=ls.flatMap jM.cells
theorem rC(ls:List jM):(kG ls).length=3 * ls.length:=by
 induction ls with
 | nil=>rfl
 | cons l ls ih=>simp only[kG,List.flatMap_cons,List.length_append,List.length_cons]at *;simp only[jM.cells,List.length_cons,List.length_nil];omega
theorem XL(ls:List jM)(k c:Nat)(hk:k<ls.length)(hc:c<3):(kG ls)[3 * k+c]?=(ls[k].cells)[c]?:=by
 induction ls generalizing k with
 | nil=>exact absurd hk (by simp)
 | cons l ls ih =>
   have hl:(jM.cells l).length=3:=rfl
   cases k with
   | zero =>
     simp only[kG,List.flatMap_cons]
     rw[List.getElem?_append_left (by omega)]
     simp
   | succ k =>
     have:=ih k (by simpa using hk)
     simp only[kG,List.flatMap_cons]at *
     rw[List.getElem?_append_right (by omega),hl,show 3 * (k+1)+c-3=3 * k+c from by omega,this]
     simp
def ji(ls:List jM)(o:Ord):List jM :=
 match ls.getLast? with
 | some l=>if l.af=o.af then ls.dropLast++[⟨l.af,wrap64 (l.aI+o.aK),wrap64 (l.num+1)⟩] else ls++[⟨o.af,wrap64 o.aK,1⟩]
 | none=>[⟨o.af,wrap64 o.aK,1⟩]
def iO(os:List Ord):List jM:=os.foldl ji []
def mZ(n₀:Nat)(W:World)(v:Value)(ls:List jM):Prop :=
 (v=.slice none 0 0/\ls=[])\/∃g cap cs,v=.slice (some ⟨g,0,none⟩) ls.length cap/\n₀<=g/\az W g cs 93/\ls.length<=cap/\cap<=maxLen/\cs.size=cap * 3/\cs.toList.take (ls.length * 3)=kG ls/\0<ls.length
theorem mZ.owns{n₀:Nat}{W:World}{v:Value}{ls:List jM}(h:mZ n₀ W v ls):W.ownsRow n₀ 93 3 v ls.length (kG ls):=by
 refine⟨by rw[rC];omega,?_⟩
 rcases h with⟨rfl,rfl⟩|⟨g,cap,cs,rfl,h1,h2,h3,h4,h5,h6⟩
 ·exact .inl ⟨rfl,rfl⟩
 ·exact .inr ⟨g,cap,cs,rfl,h1,h2,h3,h4,h5,h6.1⟩
theorem P8:(Tryz.prog.info? 93).map (fun i=>(i.zero,i.size,i.bytes))=some (some (.agg #[.int .i64 0,.int .i64 0,.int .i64 0]),3,24):=by kernel_rfl
def gU(om:Nat->Ord)(ys:List Nat):List Ord:=ys.map om
section
variable {α : Type} (f : α -> List Value) (k : Nat)
end
structure RS where
 sy:List ByteArray
 l:List Ord
 t:List Tg
 day:Int
 places:Int
 told:List Rc
theorem NM{w:World}{base e size n:Nat}{v:Value}{xs:List Value}(h:w.ownsRow base e size v n xs):∃a c,v=.slice a n c:=by
 rcases h.2 with⟨rfl,h0⟩|⟨g,cap,cs,rfl,_⟩
 ·exact⟨none,0,by rw[h0]⟩
 ·exact⟨_,cap,rfl⟩
def ax(l:List Ord)(i:Nat):Ord:=l.getD i ⟨0,0,⟨#[]⟩,0,0,0,0,0,0,0,0,0,0⟩
theorem NC{l:List Ord}{i:Nat}(h:i<l.length):l[i]?=some (ax l i):=by
 unfold ax;rw[List.getD_eq_getElem?_getD,List.getElem?_eq_getElem h];rfl
theorem Le{l:List Ord}{i:Nat}{o:Ord}(h:l[i]?=some o):ax l i=o:=by
 unfold ax;rw[List.getD_eq_getElem?_getD,h];rfl
def oi:Option Nat->Int
 | some k=>k
 | none=>-1
def kN(l:List ByteArray)(s:ByteArray):Bool:=l.any (fun x=>decide (x=s))
theorem sW{l:List ByteArray}{s:ByteArray}{i:Nat}(h:l[i]?=some s):kN l s=true:=List.any_eq_true.2 ⟨s,List.mem_of_getElem? h,by simp⟩
def jX(l:List Ord)(id:Int):Option Nat:=l.findIdx? (fun o=>o.id == id)
def lY:List Rc->List Rc->List Rc
 | R,[]=>R
 | R,r :: t=>lY (R++[{ r with num:=(R.length:Int)+1 }]) t
theorem Di:∀(R t:List Rc) (r:Rc),lY R (t++[r])=lY R t++[{ r with num:=((lY R t).length:Int)+1 }]
 | R,[],r=>rfl
 | R,x :: t,r=>by show lY _ (t++[r])=lY _ t++_;rw[Di];rfl
theorem GX:∀(R t:List Rc),(lY R t).length=R.length+t.length
 | R,[]=>rfl
 | R,x :: t=>by show (lY _ t).length=_;rw[GX];simp;omega
def Qa(t0:List Tg)(r:Rc):Option (Int × Tr) :=
 if r.kind=1 then some (2,r.t) else if r.kind=2 then some (1,r.t) else if r.kind=3 then (t0[(r.t.num-1).toNat]?).map (fun x=>(3,x.t)) else none
def vH(t0:List Tg)(told:List Rc):List (Int × Tr):=told.filterMap (Qa t0)
def oU(R:List Rc)(B:List (Int × Tr)):List Rc:=B.foldl (fun R p=>R++[⟨(R.length:Int)+1,p.1,p.2⟩]) R
theorem Ak:∀(B:List (Int × Tr)) (R:List Rc),(oU R B).length=R.length+B.length
 | [],R=>rfl
 | p :: B,R=>by
   show (oU (R++[_]) B).length=_
   rw[Ak B]
   simp
   omega
theorem Uc(t0:List Tg)(T:List Rc):(vH t0 T).length<=T.length:=List.length_filterMap_le _ _
end Go.Proofs.YtigaphnafnpfnaaGreatDoor
