import Derived.Test.YtigaphnafnpfnaaGreatDoorQVF1
import Derived.Test.YtigaphnafnpfnaaGreatDoorQVC5
import Derived.Laws.RangeString
import Derived.LoopN
set_option linter.unusedVariables false
set_option linter.unusedSimpArgs false
set_option maxHeartbeats 8000000
set_option maxRecDepth 100000
namespace Go.Proofs.YtigaphnafnpfnaaGreatDoor
open Go.RowKit Go.Maps
attribute [local go_sem ↓] Go.wp_at_zero Go.wp_at_succ
theorem mW.at{w:World}{G:Lg}{m:Lm}(h:WE w G m){k:Nat}{x:Tg}(hx:G.tr[k]?=some x) :
 ∃g cap b,m.tv=.slice (some ⟨g,0,none⟩) G.tr.length cap∧w.cell? ⟨g,k,none⟩=some (.pointer (some ⟨b,0,none⟩))∧m.tb[k]?=some b∧ai w b x.cells 105:=by
 have hk:k<G.tr.length:=(List.getElem?_eq_some_iff.1 hx).1
 have hb:k<m.tb.length:=by rw[h.len];exact hk
 rcases h.dE.2 with⟨_,h0⟩ | ⟨g,cap,cs,hv,_,hg,h1,h2,h3,h4⟩
 ·omega
 ·refine⟨g,cap,m.tb[k],hv,?_,List.getElem?_eq_getElem hb,h.blk k _ x (List.getElem?_eq_getElem hb) hx⟩
  have hc:ai w g cs 103:=hg
  rw[hc.cell]
  have e:cs.toList[k]?=(m.tb.map qK)[k]?:=by rw[←h4,List.getElem?_take,if_pos (by omega)]
  rw[←Array.getElem?_toList,e,List.getElem?_map,List.getElem?_eq_getElem hb]
  rfl
theorem yU(bv bm bo:Nat)(G:Lg)(lm:Lm)(N:Int)(w:World)(hL:aK w bv bm bo G lm)(h:N<1∨(G.tr.length:Int)<N) :
 Calls Tryz.prog 71 #[.pointer (some ⟨bv,0,none⟩),.int .i64 N] w fun e w'=>e=.returned (.tuple #[.pointer none,.int .i64 6])∧ag ak w w':=by
 obtain⟨n,hn⟩:∃n,G.tr.length=n:=⟨_,rfl⟩
 rw[hn]at h
 obtain⟨pa,pc,Ak⟩:=hL.log.uZ hn
 have v2:w.cell? ⟨bv,2,none⟩=some (.slice pa n pc):=by rw[←Ak];exact hL.cZ.cell 2
 clear hL Ak hn
 by_cases h1:N<1
 ·have e1:decide (N<1)=true:=by simp[h1]
  clear h h1
  go_enter Tryz.func71,Tryz.ntmps71
  go_wp2
  go_ret2
  exact⟨rfl,by repeat (first | exact ag.refl _ _ | refine ag.drewN ?_ _ | refine ag.drew ?_)⟩
 ·have e1:decide (N<1)=false:=by simp[h1]
  have e2:decide ((n:Int)<N)=true:=by simp;omega
  clear h h1
  go_enter Tryz.func71,Tryz.ntmps71
  go_wp2
  go_ret2
  exact⟨rfl,by repeat (first | exact ag.refl _ _ | refine ag.drewN ?_ _ | refine ag.drew ?_)⟩
def ja(x:Tg)(day:Int):Int:=if x.holds=false then 10 else if x.t.day≠day then 11 else 0
theorem qo(bv bm bo k b:Nat)(G:Lg)(lm:Lm)(N:Int)(x:Tg)(w:World)(hL:aK w bv bm bo G lm)(hN:N-1=(k:Int))(hx:G.tr[k]?=some x)(hb:lm.tb[k]?=some b)(hlen:G.tr.length≤1000000000) :
 Calls Tryz.prog 71 #[.pointer (some ⟨bv,0,none⟩),.int .i64 N] w fun e w'=>e=.returned (.tuple #[if ja x G.day=0 then .pointer (some ⟨b,0,none⟩) else .pointer none,.int .i64 (ja x G.day)])∧ag ak w w':=by
 obtain⟨g,pc,b',Ak,hc,hb',hblk⟩:=hL.log.at hx
 obtain rfl:b'=b:=by rw[hb]at hb';exact (Option.some.inj hb').symm
 have hk:k<G.tr.length:=(List.getElem?_eq_some_iff.1 hx).1
 have v2:w.cell? ⟨bv,2,none⟩=some (.slice (some ⟨g,0,none⟩) G.tr.length pc):=by rw[←Ak];exact hL.cZ.cell 2
 have v4:w.cell? ⟨bv,4,none⟩=some (.int .i64 G.day):=hL.cZ.cell 4
 have t6:w.cell? ⟨b',6,none⟩=some (.int .i64 x.t.day):=hblk.cell 6
 have t7:w.cell? ⟨b',7,none⟩=some (.bool x.holds):=hblk.cell 7
 generalize G.tr.length=n at *
 have e1:decide (N<1)=false:=by simp;omega
 have e2:decide ((n:Int)<N)=false:=by simp;omega
 have hN0:0≤N-1:=by omega
 have hN1:N-1<(n:Int):=by omega
 have hw:wrap64 (N-1)=(k:Int):=by rw[hN];exact aF (by omega) (by omega)
 clear hL Ak hblk hb hb' hx
 obtain⟨xt,xh⟩:=x
 simp only at t6 t7
 cases xh with
 | false =>
   have HP:Hid (ja ⟨xt,false⟩ G.day=10):=by show _=_;simp[ja]
   rw[ae HP]
   go_enter Tryz.func71,Tryz.ntmps71
   go_wp2
   go_ret2
   exact⟨rfl,by repeat (first | exact ag.refl _ _ | refine ag.drewN ?_ _ | refine ag.drew ?_)⟩
 | true =>
   by_cases hd:xt.day=G.day
   ·have ed:(xt.day != G.day)=false:=by simp[hd]
    have HP:Hid (ja ⟨xt,true⟩ G.day=0):=by show _=_;simp[ja,hd]
    rw[ae HP]
    clear hd
    go_enter Tryz.func71,Tryz.ntmps71
    go_wp2
    go_quiet (fail)
    go_wp2
    go_ret2
    exact⟨rfl,by repeat (first | exact ag.refl _ _ | refine ag.drewN ?_ _ | refine ag.drew ?_)⟩
   ·have ed:(xt.day != G.day)=true:=by simp[hd]
    have HP:Hid (ja ⟨xt,true⟩ G.day=11):=by show _=_;simp[ja,hd]
    rw[ae HP]
    clear hd
    go_enter Tryz.func71,Tryz.ntmps71
    go_wp2
    go_quiet (fail)
    go_wp2
    go_ret2
    exact⟨rfl,by repeat (first | exact ag.refl _ _ | refine ag.drewN ?_ _ | refine ag.drew ?_)⟩
open Go.RowKit Go.Maps Go.Lib
theorem DC{P:Program}(w:World)(s:ByteArray)(pos c n:Nat)(ty:TypeId)(h:pos<s.size)(hd:Utf8.decode s pos=(c,n)) :
 (Instr.next (.pointer (some ⟨w.heap.size,0,none⟩)) true ty).run P (w.iter s pos) =
  .ok (.tuple #[.bool true,.int .i64 pos,.int .i32 c]) (w.iter s (pos+n)):=by
 simp only[Instr.next,getObj,setObj,Sem.run_bind,Sem.run,World.iter_heap,Result.andThen,h,if_true,hd,World.iter_set]
 simp[goInt,Sem.run,World.iter_heap,World.iter_set]
def sa:ByteArray:=⟨#[97]⟩
def jZ(s:ByteArray):Bk:=⟨s,fun _=>none,fun _=>0,fun _=>0,fun _ _=>0,0⟩
theorem Ej(s:ByteArray)(w:World):Calls Tryz.prog 52 #[.string s] w fun e w'=>e=.returned (.pointer (some ⟨w.heap.size,0,none⟩))∧ai w' w.heap.size (jZ s).cells 158∧ag ak w w':=by
 go_enter Tryz.func52,Tryz.ntmps52
 go_wp2
 go_ret
 exact⟨rfl,ai.new w _ _,(ag.refl ak w).alloc _⟩
def lY:aW:=⟨0,fun _=>0,fun _=>jZ ⟨#[]⟩,fun _=>⟨0,0,⟨#[]⟩,0,0,0,0,0,0,0,0,0,0⟩,fun _=>none,0,⟨[],[],1,0,[]⟩,⟨.slice none 0 0,.slice none 0 0,[],.slice none 0 0,[],.slice none 0 0,[]⟩⟩
theorem new_any(w:World):Calls Tryz.prog 34 #[] w fun e w'=>∃bv bm bo,e=.returned (.pointer (some ⟨bv,0,none⟩))∧Rep w' bv bm bo lY∧ag ak w w'∧w.heap.size≤bv∧w.heap.size≤bm∧w.heap.size≤bo:=by
 have hmm:=@run_makeMap Tryz.prog
 go_enter Tryz.func34,Tryz.ntmps34
 go_wp2
 go_ret
 refine⟨w.heap.size+1+1,w.heap.size,w.heap.size+1,?_,?_,?_,by omega,by omega,by omega⟩
 ·rfl
 ·have m1:jD (((w.alloc (.map #[] 0)).alloc (.map #[] 0)).alloc (.cells #[.map (some w.heap.size),.map (some (w.heap.size+1)),.slice none 0 0,.slice none 0 0,.int .i64 1,.slice none 0 0,.slice none 0 0] 100)) 9 w.heap.size (fun _=>none) 0:=((jD.made w 9).kept ((ag.refl ak _).alloc _) (fun x=>x)).kept ((ag.refl ak _).alloc _) (fun x=>x)
  have m2:jD (((w.alloc (.map #[] 0)).alloc (.map #[] 0)).alloc (.cells #[.map (some w.heap.size),.map (some (w.heap.size+1)),.slice none 0 0,.slice none 0 0,.int .i64 1,.slice none 0 0,.slice none 0 0] 100)) 3 (w.heap.size+1) (fun _=>none) 0:=by
   have h:=(jD.made (w.alloc (.map #[] 0)) 3).kept ((ag.refl ak _).alloc (.cells #[.map (some w.heap.size),.map (some (w.heap.size+1)),.slice none 0 0,.slice none 0 0,.int .i64 1,.slice none 0 0,.slice none 0 0] 100)) (fun x=>x)
   have e:(w.alloc (.map #[] 0)).heap.size=w.heap.size+1:=by simp
   rw[e]at h
   exact h
  have m3:ai (((w.alloc (.map #[] 0)).alloc (.map #[] 0)).alloc (.cells #[.map (some w.heap.size),.map (some (w.heap.size+1)),.slice none 0 0,.slice none 0 0,.int .i64 1,.slice none 0 0,.slice none 0 0] 100)) (w.heap.size+1+1) (oM w.heap.size (w.heap.size+1) lY.lm lY.lg.day) 100:=by
   have h:=ai.jR (w.alloc (.map #[] 0)) (.map #[] 0) (oM w.heap.size (w.heap.size+1) lY.lm lY.lg.day) 100
   have e:(w.alloc (.map #[] 0)).heap.size=w.heap.size+1:=by simp
   rw[e]at h
   exact h
  exact⟨⟨m3,⟨World.ownsRow_nil _ _ _ _,World.ownsRow_nil _ _ _ _,rfl,fun i b g h=>by simp[lY]at h,List.nodup_nil,⟨World.ownsRow_nil _ _ _ _,fun a ha=>by simp[lY]at ha,List.nodup_nil,rfl,fun a ha=>by simp[lY]at ha⟩,World.ownsRow_nil _ _ _ _,Nat.zero_le _⟩⟩,⟨_,m1,fun i hi=>absurd hi (Nat.not_lt_zero i),fun s b h=>by simp at h⟩,⟨_,m2,fun _=>rfl⟩,by omega,fun i hi=>absurd hi (Nat.not_lt_zero i),fun id b h=>by simp[lY]at h,fun i hi=>absurd hi (Nat.not_lt_zero i),fun i j hi=>absurd hi (Nat.not_lt_zero i),fun i j hi=>absurd hi (Nat.not_lt_zero i),Nat.zero_le _⟩
 ·exact (((ag.refl ak w).alloc _).alloc _).alloc _
def oV(s:ByteArray)(b:Bool):Prop:=∀w,Calls Tryz.prog 50 #[.string s] w fun e w'=>e=.returned (.bool b)∧ag ak w w'
theorem Lj(bv:Nat)(s:ByteArray)(w:World)(hn:oV s false):Calls Tryz.prog 27 #[.pointer (some ⟨bv,0,none⟩),.string s] w fun e w'=>e=.returned (.int .i64 3)∧ag ak w w':=by
 go_enter Tryz.func27,Tryz.ntmps27
 go_wp2_with fail
 refine (hn _).mono ?_
 rintro e w' ⟨rfl,k⟩
 go_wp2
 go_ret
 exact⟨rfl,((ag.refl ak w).alloc _).trans k⟩
theorem Iq(bv bm bo i:Nat)(V:aW)(s:ByteArray)(w:World)(R:Rep w bv bm bo V)(hn:oV s true)(hlen:s.size≤maxLen)(hi:i<V.nb)(hs:(V.B i).sym=s):Calls Tryz.prog 27 #[.pointer (some ⟨bv,0,none⟩),.string s] w fun e w'=>e=.returned (.int .i64 2)∧ag ak w w':=by
 obtain⟨fB,mB,pK,ui⟩:=R.books
 have hl:=pK i hi
 rw[hs]at hl
 have HL:=hide hl
 have hK:∀w',ag ak w w'→(Instr.lookup 94 (.map (some bm)) (.string s) false).run Tryz.prog w'=.ok (.pointer (some ⟨V.bk i,0,none⟩)) w'∧w'.cell? ⟨bv,0,none⟩=some (.map (some bm)):=fun w' k=>by
  refine⟨?_,(k.blk R.cZ (fun x=>x)).cell 0⟩
  rw[(mB.kept k (fun x=>x)).look law9 Tryz.underlying94 (mP _) (WideMaps.keyOf_string_mk Tryz.underlying9 hlen)]
  show _=Result.ok (fV (some (V.bk i))) _
  rw[←ae HL];rfl
 have HK:=hide hK
 clear hl hK hs mB pK ui
 go_enter Tryz.func27,Tryz.ntmps27
 go_wp2_with fail
 refine (hn _).mono ?_
 rintro e w1 ⟨rfl,k⟩
 have xb:w1.cell? ⟨w.heap.size,0,none⟩=some (.pointer (some ⟨bv,0,none⟩)):=(k.blk (ai.new w #[.pointer (some ⟨bv,0,none⟩)] 35) (fun x=>x)).cell 0
 have k0:=((ag.refl ak w).alloc (.cells #[.pointer (some ⟨bv,0,none⟩)] 35)).trans k
 obtain⟨L1,v0⟩:=ae HK w1 k0
 go_wp2
 go_ret
 exact⟨rfl,k0⟩
def aW.list(V:aW)(s:ByteArray)(b:Nat):aW:={ V with nb:=V.nb+1,bk:=upd V.bk V.nb b,B:=upd V.B V.nb (jZ s) }
theorem yx(s:ByteArray)(x b:Nat):¬bQ (jZ s) x b:=by
 rintro (h | ⟨k,hk,_⟩)
 ·simp[jZ,iP]at h
 ·exact absurd hk (Nat.not_lt_zero k)
theorem Rep.list{w w':World}{bv bm bo b:Nat}{V:aW}{s:ByteArray}(R:Rep w bv bm bo V)(hb:w.heap.size≤b)(hblk:ai w' b (jZ s).cells 158)(k:ag (fun x=>x=bm) w w')(hfree:∀i,i<V.nb→(V.B i).sym≠s)
 (mB:∃fB,jD w' 9 bm fB (V.nb+1)∧fB (sl s)=some b∧∃fB0,jD w 9 bm fB0 V.nb∧(∀i,i<V.nb→fB0 (sl (V.B i).sym)=some (V.bk i))∧(∀s b,fB0 (sl s)=some b→∃i,i<V.nb∧b=V.bk i∧(V.B i).sym=s)∧∀s',s'≠s→fB (sl s')=fB0 (sl s')) :
 Rep w' bv bm bo (V.list s b):=by
 obtain⟨fB,mB',f1,fB0,Vw,g1,g2,f2⟩:=mB
 obtain⟨fO,mO,wB⟩:=R.orders
 have ne:∀{b':Nat} {c:Array Value} {t:TypeId},ai w b' c t→ai w' b' c t:=fun h=>k.blk h (Ne.symm (Vw.ne h))
 have bk:∀i,i<V.nb→aX w' (V.bk i) (V.B i) V.om:=fun i hi=>(R.book i hi).kept k (by
  rintro x (rfl | ⟨y,hy,h⟩) e
  ·exact Vw.ne (R.book i hi).blk e.symm
  ·rcases h with h | ⟨l,hl,rfl⟩
   ·rcases ((R.book i hi).side y hy) with⟨h0,_⟩ | ⟨ab,hab,hsd⟩
    ·rw[h0]at h;simp[iP]at h
    ·obtain⟨cs,hcs,_⟩:=hsd.arr
     rw[hab]at h
     simp[iP]at h
     rw[h]at hcs
     exact Vw.ne hcs e.symm
   ·exact Vw.ne (((R.book i hi).side y hy).aQ hl) e.symm)
 have lt:∀i,i<V.nb→V.bk i<w.heap.size:=fun i hi=>(R.book i hi).blk.lt
 refine⟨R.log.kept k (Ne.symm (Vw.ne R.cZ)) (fun y hy e=>by
  obtain⟨c,t',hc,_⟩:=R.log.log.typ hy
  exact Vw.ne hc e.symm),⟨fB,mB',?_,?_⟩,⟨fO,mO.kept k (fun e=>R.MQ e.symm),wB⟩,R.MQ,?_,?_,?_,?_,?_,R.eF⟩
 ·intro i hi
  by_cases e:i=V.nb
  ·subst e;simp only[aW.list,upd_same];exact f1
  ·have hi':i<V.nb:=by simp only[aW.list]at hi;omega
   simp only[aW.list,af _ _ e]
   rw[f2 _ (hfree i hi')]
   exact g1 i hi'
 ·intro s' b' h
  by_cases e:s'=s
  ·subst e
   rw[f1]at h
   simp only[Option.some.injEq]at h
   exact⟨V.nb,by simp[aW.list],by simp only[aW.list,upd_same];exact h.symm,by simp only[aW.list,upd_same];rfl⟩
  ·rw[f2 _ e]at h
   obtain⟨i,hi,h1,h2⟩:=g2 s' b' h
   have:i≠V.nb:=by omega
   exact⟨i,by simp only[aW.list];omega,by simp only[aW.list,af _ _ this];exact h1,by simp only[aW.list,af _ _ this];exact h2⟩
 ·intro i hi
  by_cases e:i=V.nb
  ·subst e
   simp only[aW.list,upd_same]
   exact⟨hblk,fun y hy=>.inl ⟨rfl,rfl,rfl⟩,fun a h=>by simp[jZ,iP]at h,fun l j hl=>absurd hl (Nat.not_lt_zero l)⟩
  ·have hi':i<V.nb:=by simp only[aW.list]at hi;omega
   simp only[aW.list,af _ _ e]
   exact bk i hi'
 ·intro id x h
  obtain⟨h1,ix,h2⟩:=R.aQ id x h
  exact⟨h1,ix,ne h2⟩
 ·intro i hi y hy l hl
  by_cases e:i=V.nb
  ·subst e;simp only[aW.list,upd_same]at hl;exact absurd hl (Nat.not_lt_zero l)
  ·have hi':i<V.nb:=by simp only[aW.list]at hi;omega
   simp only[aW.list,af _ _ e]at hl ⊢
   exact R.mem i hi' y hy l hl
 ·intro i j hi hj hne
  simp only[aW.list]at hi hj ⊢
  by_cases e:i=V.nb
  ·have e2:j≠V.nb:=by omega
   rw[e,upd_same,af _ _ e2]
   have:=lt j (by omega)
   omega
  ·rw[af _ _ e]
   by_cases e2:j=V.nb
   ·rw[e2,upd_same]
    have:=lt i (by omega)
    omega
   ·rw[af _ _ e2]
    exact R.uT i j (by omega) (by omega) hne
 ·intro i j hi hj hne x y hx hy z h1 h2
  simp only[aW.list]at hi hj h1 h2
  by_cases e:i=V.nb
  ·rw[e,upd_same]at h1;exact yx s x z h1
  ·by_cases e2:j=V.nb
   ·rw[e2,upd_same]at h2;exact yx s y z h2
   ·rw[af _ _ e]at h1
    rw[af _ _ e2]at h2
    exact R.oG i j (by omega) (by omega) hne x y hx hy z h1 h2
theorem U3{s s':ByteArray}(h:sl s=sl s'):s=s':=by
 simp only[sl,Lit.string.injEq]at h
 exact ByteArray.ext (Array.ext' h)
def aW.listed(V:aW)(s:ByteArray)(b:Nat)(aY:Lm):aW:={ V.list s b with lg:=V.lg.begun.aS [.listed s],lm:=aY }
theorem Q7(bv bm bo:Nat)(V:aW)(s:ByteArray)(w:World)(R:Rep w bv bm bo V)(hn:oV s true)(hlen:s.size≤100)(hfree:∀i,i<V.nb→(V.B i).sym≠s)(hnb:V.nb<6)(hna:V.lg.na<3000000) :
 Calls Tryz.prog 27 #[.pointer (some ⟨bv,0,none⟩),.string s] w fun e w'=>∃b aY,e=.returned (.int .i64 0)∧w.heap.size≤b∧Rep w' bv bm bo (V.listed s b aY)∧ag (fun x=>x=bm∨x=bv∨V.lm.F x) w w'∧(∀x,aY.F x→V.lm.F x∨w.heap.size≤x):=by
 have hml:s.size≤maxLen:=by unfold maxLen;omega
 obtain⟨fB,mB,pK,ui⟩:=R.books
 have hl:fB (sl s)=none:=by
  cases h:fB (sl s) with
  | none=>rfl
  | some b =>
    obtain⟨i,hi,_,h2⟩:=ui s b h
    exact absurd h2 (hfree i hi)
 have hK:∀w',ag ak w w'→(Instr.lookup 94 (.map (some bm)) (.string s) false).run Tryz.prog w'=.ok (.pointer none) w'∧w'.cell? ⟨bv,0,none⟩=some (.map (some bm))∧(∀ty,(Builtin.len_ #[94] ty #[.map (some bm)]).run Tryz.prog w'=.ok (.int .i64 V.nb) w'):=fun w' k=>by
  refine⟨?_,(k.blk R.cZ (fun x=>x)).cell 0,fun ty=>(mB.kept k (fun x=>x)).len Tryz.underlying94 ty⟩
  rw[(mB.kept k (fun x=>x)).look law9 Tryz.underlying94 (mP _) (WideMaps.keyOf_string_mk Tryz.underlying9 hml)]
  show _=Result.ok (fV none) _
  rw[←hl];rfl
 have Zh:¬(bm=bv∨V.lm.F bm):=by
  rintro (e | e)
  ·exact mB.ne R.cZ e
  ·obtain⟨c,t',hc,_⟩:=R.log.log.typ e
   exact mB.ne hc rfl
 have yG:∀x,w.heap.size≤x→¬(x=bv∨V.lm.F x):=by
  rintro x hx (e | e)
  ·have:=R.cZ.lt;omega
  ·have:=R.log.log.lt e;omega
 have hU:∀w' b,ag (fun x=>x=bv∨V.lm.F x) w w'→∃w'',(Instr.mapUpdate 94 (.map (some bm)) (.string s) (.pointer (some ⟨b,0,none⟩))).run Tryz.prog w'=.ok () w''∧jD w'' 9 bm (zH fB (sl s) b) (V.nb+1)∧ag (fun i=>i=bm) w' w'':=fun w' b k =>
  (mB.kept k Zh).put law9 Tryz.underlying94 (by unfold maxLen;omega) (WideMaps.keyOf_string_mk Tryz.underlying9 hml) trivial hl
 have Xl:∀w',ag ak w w'→Calls Tryz.prog 51 #[.pointer (some ⟨bv,0,none⟩),.string (⟨#[108,105,115,116,32]⟩++s)] w' fun e w''=>e=.returned (.tuple #[])∧∃m',aK w'' bv bm bo V.lg.begun m'∧(∀b,m'.F b→V.lm.F b∨w'.heap.size≤b)∧ag (fun b=>b=bv∨V.lm.F b) w' w'':=fun w' k=>zZ bv bm bo V.lg V.lm _ w' (R.log.aj k) hna (by rw[ByteArray.size_append];show 0<5+s.size;omega) (by rw[ByteArray.size_append];show 5+s.size≤290;omega)
 have fin:∀b wb lJ w3 w4 w5 rX,aK wb bv bm bo V.lg.begun lJ→ag (fun x=>x=bv∨V.lm.F x) w wb→(∀x,lJ.F x→V.lm.F x∨w.heap.size≤x)→wb.heap.size≤b→ag ak wb w3→ai w3 b (jZ s).cells 158→jD w4 9 bm (zH fB (sl s) b) (V.nb+1)→ag (fun i=>i=bm) w3 w4 →
  aK w5 bv bm bo (V.lg.begun.aS [.listed s]) rX→(∀x,rX.F x→lJ.F x∨w4.heap.size≤x)→ag (fun x=>lJ.F x) w4 w5 →
  w.heap.size≤b∧Rep w5 bv bm bo (V.listed s b rX)∧ag (fun x=>x=bm∨x=bv∨V.lm.F x) w w5∧(∀x,rX.F x→V.lm.F x∨w.heap.size≤x):=by
  intro b wb lJ w3 w4 w5 rX hLb kb oQ hb k3 hblk m4 k4 hL5 KT k5
  have Rb:Rep wb bv bm bo { V with lg:=V.lg.begun,lm:=lJ }:=R.jX hLb kb
  have kk:=k3.aC.trans k4
  have mBb:=mB.kept kb Zh
  have R4:Rep w4 bv bm bo (aW.list { V with lg:=V.lg.begun,lm:=lJ } s b):=Rb.list hb (k4.blk hblk (Ne.symm ((mBb.kept k3 (fun x=>x)).ne hblk))) kk hfree ⟨_,m4,AV trivial,fB,mBb,pK,ui,fun s' h=>yI trivial (fun e=>h (U3 e))⟩
  have R5:=R4.jX hL5 (k5.mono (fun x h=>.inr h))
  have kw4:ag (fun x=>x=bm∨x=bv∨V.lm.F x) w w4:=(kb.mono (fun x h=>.inr h)).trans (kk.mono (fun x h=>.inl h))
  refine⟨Nat.le_trans kb.size hb,R5,kw4.from (k5.mono (fun x h=>(oQ x h).imp_left (fun h=>.inr (.inr h)))),fun x hx=>?_⟩
  rcases KT x hx with h | h
  ·exact oQ x h
  ·exact .inr (Nat.le_trans kw4.size h)
 have hV:∀wb lJ w3 w4,aK wb bv bm bo V.lg.begun lJ→ag (fun x=>x=bv∨V.lm.F x) w wb→ag ak wb w3→ag (fun i=>i=bm) w3 w4→w3.cell? ⟨bv,0,none⟩=some (.map (some bm))∧w4.cell? ⟨bv,0,none⟩=some (.map (some bm))∧aK w4 bv bm bo V.lg.begun lJ∧(∀{b c t},ai w3 b c t→ai w4 b c t):=fun wb lJ w3 w4 hLb kb k3 k4=>by
  have m3:=(mB.kept kb Zh).kept k3 (fun x=>x)
  have bl:∀{b c t},ai w3 b c t→ai w4 b c t:=fun h=>k4.blk h (Ne.symm (m3.ne h))
  have h3:=k3.blk hLb.cZ (fun x=>x)
  refine⟨h3.cell 0,(bl h3).cell 0,(hLb.aj k3).kept k4 (Ne.symm (m3.ne h3)) (fun y hy e=>?_),bl⟩
  obtain⟨c,t',hc,_⟩:=(hLb.aj k3).log.typ hy
  exact m3.ne hc e.symm
 have HV:=hide hV
 have HK:=hide hK
 have HU:=hide hU
 have HF:=hide fin
 have HBg:=hide Xl
 have HO:=hide yG
 have e6:decide ((6:Int)≤(V.nb:Int))=false:=by simp;omega
 clear hV hK hU fin hl mB pK ui R hfree hnb Xl yG Zh
 have c1:=dV (P:=Tryz.prog) ⟨#[108,105,115,116,32]⟩ s (by show 5+s.size≤1000000;omega)
 go_enter Tryz.func27,Tryz.ntmps27
 go_wp2_with fail
 refine (hn _).mono ?_
 rintro e w1 ⟨rfl,k1⟩
 have b1:=k1.blk (ai.new w #[.pointer (some ⟨bv,0,none⟩)] 35) (fun x=>x)
 have k01:=((ag.refl ak w).alloc (.cells #[.pointer (some ⟨bv,0,none⟩)] 35)).trans k1
 have xb1:w1.cell? ⟨w.heap.size,0,none⟩=some (.pointer (some ⟨bv,0,none⟩)):=b1.cell 0
 obtain⟨L1,v0,L3⟩:=ae HK w1 k01
 clear k1
 go_wp2_with fail
 refine (clone_any s w1 (by omega)).mono ?_
 rintro e w2 ⟨rfl,k2⟩
 clear L1 v0 L3 xb1
 have k12:=k01.trans k2
 have b2:=k2.blk b1 (fun x=>x)
 have xb2:w2.cell? ⟨w.heap.size,0,none⟩=some (.pointer (some ⟨bv,0,none⟩)):=b2.cell 0
 obtain⟨VF,OB⟩:∃VF,VF=w2.alloc (.cells #[.string s] 9):=⟨_,rfl⟩
 have Zd:ag ak w VF:=by rw[OB];exact k12.alloc _
 have b2a:ai VF w.heap.size #[.pointer (some ⟨bv,0,none⟩)] 35:=by rw[OB];exact b2.alloc _
 have o2a:ai VF w2.heap.size #[.string s] 9:=by rw[OB];exact ai.new _ _ _
 have HW:=hide OB
 have kL:=hide (ae HBg VF Zd)
 have l2:=b2.lt
 have aaT:=k12.size
 clear OB
 go_wp2_with fail
 rw[←ae HW]
 refine (ae kL).mono ?_
 rintro e wb ⟨rfl,lJ,hLb,oQ,kb⟩
 have bb:=kb.blk b2a (ae HO _ (Nat.le_refl _))
 have ob:=kb.blk o2a (ae HO _ (by omega))
 have JH:=Zd.aC.trans kb
 have uC:∀x,lJ.F x→V.lm.F x∨w.heap.size≤x:=fun x h=>(oQ x h).imp_right (fun h=>Nat.le_trans Zd.size h)
 have xb:wb.cell? ⟨w.heap.size,0,none⟩=some (.pointer (some ⟨bv,0,none⟩)):=bb.cell 0
 have ox:wb.cell? ⟨w2.heap.size,0,none⟩=some (.string s):=ob.cell 0
 have vb:wb.cell? ⟨bv,0,none⟩=some (.map (some bm)):=hLb.cZ.cell 0
 have ZV:=hide hLb
 have RQ:=hide JH
 have RN:=hide uC
 have jB:=hide bb
 have Z8:=hide ob
 clear hLb JH oQ uC kb Zd k12 k01 k2 b1 b2 b2a o2a HW kL bb ob xb2
 go_wp2
 go_region_held3 (fun w'=>w'.cell? ⟨bv,0,none⟩=some (.map (some bm))∧w'.cell? ⟨w.heap.size,0,none⟩=some (.pointer (some ⟨bv,0,none⟩))∧w'.cell? ⟨w2.heap.size,0,none⟩=some (.string s)) (go_keep)
  (first | (go_at_call 52;refine (Ej s _).mono ?_;rintro e w3 ⟨rfl,hb3,k3⟩;have XW:ag ak wb w3:=((ag.refl ak wb).drew).trans k3;obtain⟨w4,hU4,m4,k4⟩:=ae HU w3 wb.heap.size ((ae RQ).trans XW.aC);obtain⟨v3,v4,YR,bl⟩:=ae HV wb lJ w3 w4 (ae ZV) (ae RQ) XW k4;have q3:=XW.blk (ae jB) (fun x=>x);have p3:=XW.blk (ae Z8) (fun x=>x);have xb3:w3.cell? ⟨w.heap.size,0,none⟩=some (.pointer (some ⟨bv,0,none⟩)):=q3.cell 0;have ox3:w3.cell? ⟨w2.heap.size,0,none⟩=some (.string s):=p3.cell 0;have Zu:w4.cell? ⟨w.heap.size,0,none⟩=some (.pointer (some ⟨bv,0,none⟩)):=(bl q3).cell 0;have ox4:w4.cell? ⟨w2.heap.size,0,none⟩=some (.string s):=(bl p3).cell 0))
 have oH:=hide (yA bv bm bo V.lg.begun lJ (.listed s) (.func 54) #[.pointer (some ⟨w.heap.size,0,none⟩),.pointer (some ⟨w2.heap.size,0,none⟩)] w4 YR (by show 0<V.lg.na+1;omega) (by show V.lg.na+1≤3000000;omega) (by show 0+1<1000000000;omega))
 clear YR
 go_wp2_with fail
 refine (ae oH).mono ?_
 rintro e w5 ⟨rfl,rX,hL5,KT,k5⟩
 go_wp2
 go_ret
 exact⟨wb.heap.size,rX,rfl,ae HF _ wb lJ w3 w4 w5 rX (ae ZV) (ae RQ) (ae RN) (Nat.le_refl _) XW hb3 m4 k4 hL5 KT k5⟩
end Go.Proofs.YtigaphnafnpfnaaGreatDoor
