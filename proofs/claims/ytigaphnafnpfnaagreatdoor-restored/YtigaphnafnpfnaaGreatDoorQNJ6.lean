import Derived.Test.YtigaphnafnpfnaaGreatDoorQNC3
import Derived.Laws.RangeString
import Derived.LoopN
import Derived.Laws.IdiomStrings
set_option linter.unusedVariables false
set_option linter.unusedSimpArgs false
set_option maxHeartbeats 8000000
set_option maxRecDepth 100000
namespace Go.Proofs.YtigaphnafnpfnaaGreatDoor
open Go.RowKit
attribute [local go_sem ↓] Go.wp_at_zero Go.wp_at_succ
def xu(lq:Int)(again:Bool):ByteArray:=fJ (tC lq (if again then 1 else 0)) zN 2
theorem BM(lq:Int)(again:Bool)(w:World)(hT:kP w)(h:iI lq) :
 CT 72 #[II lq,.bool again] w fun e w'=>e=.returned (.string (xu lq again))/\aj aJ w w':=by
 have key:∀z:Int,iI z->CT 65 #[.string ⟨#[98,117,115,116]⟩,.slice (some ⟨w.heap.size,0,none⟩) 2 2] (w.alloc (.cells #[II lq,II z] 3)) fun e w'=>e=.returned (.string (fJ (tC lq z) zN 2))/\aj aJ w w':=by
  intro z hz;have k0:aj aJ w (w.alloc (.cells #[II lq,II z] 3)):=(aj.refl aJ w).alloc _;have b0:=aA.new w #[II lq,II z] 3;refine (rO zN (tC lq z) w.heap.size 2 2 _ (hT.aB k0) (by omega) (by decide) ?_ ?_).mono ?_
  ·intro i hi
   match i,hi with
   | 0,_=>exact b0.cell 0
   | 1,_=>exact b0.cell 1
  ·intro i hi
   match i,hi with
   | 0,_=>exact h
   | 1,_=>exact hz
  ·rintro e w' ⟨rfl,k2⟩;exact⟨rfl,k0.trans k2⟩
 obtain⟨K1,K0⟩:=dE (key 1 ⟨by omega,by omega⟩) (key 0 ⟨by omega,by omega⟩);clear key hT;cases again
 ·go_enter Tryz.func72,Tryz.ntmps72;go_wp2_with (go_at_call 65;refine (ae K0).mono ?_;rintro e w' ⟨rfl,hk⟩;have HK:=au hk;clear hk);go_ret;exact⟨rfl,ae HK⟩
 ·go_enter Tryz.func72,Tryz.ntmps72;go_wp2_with (go_at_call 65;refine (ae K1).mono ?_;rintro e w' ⟨rfl,hk⟩;have HK:=au hk;clear hk);go_ret;exact⟨rfl,ae HK⟩
theorem AY(lq:Int)(again:Bool)(h:iI lq):0<(xu lq again).size/\(xu lq again).size<=290:=by
 have z1:=jX (tC lq (if again then 1 else 0)) zN 2 (fun i hi=>by
  match i,hi with
  | 0,_=>exact h
  | 1,_=>show iI (if again then 1 else 0);cases again <;> exact⟨by simp,by simp⟩)
 have g1:=xM (tC lq (if again then 1 else 0)) zN 2;have zE:zN.size=4:=by decide
 rw[zE]at z1 g1;unfold xu;omega
theorem Nk(lq:Int)(again:Bool)(w:World)(hT:kP w)(h:iI lq) :
 ∀W,aj aJ w W->CT 72 #[II lq,.bool again] W fun e w'=>e=.returned (.string (xu lq again))/\aj aJ w w':=by
 intro W k;refine (BM lq again W (hT.aB k) h).mono ?_;rintro e w' ⟨rfl,k2⟩;exact⟨rfl,k.trans k2⟩
def yl(a b c:Int)(i:Nat):Int:=if i=0 then a else if i=1 then b else c
theorem rP(word:ByteArray)(f:Nat->Int)(m:Nat)(w:World)(hT:kP w)(h0:0<word.size)(hw:word.size<=100)(hm:m<=8)(hf:∀i,i<m->iI (f i)) :
 (0<(fJ f word m).size/\(fJ f word m).size<=290)/\∀W,aj aJ w W->∀sb cap,(∀i,i<m->W.cell? ⟨sb,i,none⟩=some (II (f i))) ->
  CT 65 #[.string word,.slice (some ⟨sb,0,none⟩) m cap] W fun e w'=>e=.returned (.string (fJ f word m))/\aj aJ w w':=by
 refine⟨?_,fun W k sb cap hc=>?_⟩
 ·have z1:=jX f word m hf;have g1:=xM f word m;omega
 ·refine (rO word f sb m cap W (hT.aB k) (by omega) (by omega) hc hf).mono ?_;rintro e w' ⟨rfl,k2⟩;exact⟨rfl,k.trans k2⟩
open Go.RowKit Go.Maps Go.Lib
theorem Hg{P:Program}(w:World)(s:ByteArray)(pos c n:Nat)(ty:TypeId)(h:pos<s.size)(hd:Utf8.decode s pos=(c,n)) :
 (Instr.next (PP w.heap.size) true ty).run P (w.iter s pos) =
  .ok (.tuple #[.bool true,II pos,.int .i32 c]) (w.iter s (pos+n)):=by
 simp only[Instr.next,getObj,setObj,Sem.run_bind,Sem.run,World.iter_heap,Result.andThen,h,if_true,hd,World.iter_set];simp[goInt,Sem.run,World.iter_heap,World.iter_set]
def sa:ByteArray:=⟨#[97]⟩
def sA:ByteArray:=⟨#[65]⟩
def sG:ByteArray:=⟨#[206,145,206,169]⟩
def lS(s:ByteArray):Bk:=⟨s,fun _=>none,fun _=>0,fun _=>0,fun _ _=>0,0⟩
theorem IG(s:ByteArray)(w:World):CT 52 #[.string s] w fun e w'=>e=.returned (PP w.heap.size)/\aA w' w.heap.size (lS s).cells 158/\aj aJ w w':=by
 go_enter Tryz.func52,Tryz.ntmps52;go_wp2;go_ret;exact⟨rfl,aA.new w _ _,(aj.refl aJ w).alloc _⟩
def nN:aS:=⟨0,fun _=>0,fun _=>lS ⟨#[]⟩,fun _=>⟨0,0,⟨#[]⟩,0,0,0,0,0,0,0,0,0,0⟩,fun _=>none,0,⟨[],[],1,0,[],0,[],⟨#[]⟩⟩,⟨.slice none 0 0,.slice none 0 0,[],.slice none 0 0,[],.slice none 0 0,[]⟩⟩
theorem XI(w:World):CT 34 #[] w fun e w'=>∃bv bm bo,e=.returned (PP bv)/\dS w' bv bm bo nN/\aj aJ w w'/\w.heap.size<=bv/\w.heap.size<=bm/\w.heap.size<=bo:=by
 have hmm:=@run_makeMap Tryz.prog;go_enter Tryz.func34,Tryz.ntmps34;go_wp2;go_ret;refine⟨w.heap.size+1+1,w.heap.size,w.heap.size+1,?_,?_,?_,by omega,by omega,by omega⟩
 ·rfl
 ·have m1:kG (((w.alloc (.map #[] 0)).alloc (.map #[] 0)).alloc (.cells #[.map (some w.heap.size),.map (some (w.heap.size+1)),.slice none 0 0,.slice none 0 0,II 1,.slice none 0 0,.slice none 0 0] 100)) 9 w.heap.size (fun _=>none) 0:=((kG.made w 9).aC ((aj.refl aJ _).alloc _) aU).aC ((aj.refl aJ _).alloc _) aU;have m2:kG (((w.alloc (.map #[] 0)).alloc (.map #[] 0)).alloc (.cells #[.map (some w.heap.size),.map (some (w.heap.size+1)),.slice none 0 0,.slice none 0 0,II 1,.slice none 0 0,.slice none 0 0] 100)) 3 (w.heap.size+1) (fun _=>none) 0:=by
   have h:=(kG.made (w.alloc (.map #[] 0)) 3).aC ((aj.refl aJ _).alloc (.cells #[.map (some w.heap.size),.map (some (w.heap.size+1)),.slice none 0 0,.slice none 0 0,II 1,.slice none 0 0,.slice none 0 0] 100)) aU;have e:(w.alloc (.map #[] 0)).heap.size=w.heap.size+1:=by simp
   rw[e]at h;exact h
  have m3:aA (((w.alloc (.map #[] 0)).alloc (.map #[] 0)).alloc (.cells #[.map (some w.heap.size),.map (some (w.heap.size+1)),.slice none 0 0,.slice none 0 0,II 1,.slice none 0 0,.slice none 0 0] 100)) (w.heap.size+1+1) (sU w.heap.size (w.heap.size+1) nN.lm nN.lg.day) 100:=by
   have h:=aA.sQ (w.alloc (.map #[] 0)) (.map #[] 0) (sU w.heap.size (w.heap.size+1) nN.lm nN.lg.day) 100;have e:(w.alloc (.map #[] 0)).heap.size=w.heap.size+1:=by simp
   rw[e]at h;exact h
  exact⟨⟨m3,⟨World.ownsRow_nil _ _ _ _,World.ownsRow_nil _ _ _ _,rfl,fun i b g h=>by simp[nN]at h,List.nodup_nil,⟨World.ownsRow_nil _ _ _ _,fun a ha=>by simp[nN]at ha,List.nodup_nil,rfl,fun a ha=>by simp[nN]at ha⟩,World.ownsRow_nil _ _ _ _,⟨Nat.zero_le _,rfl⟩⟩⟩,⟨_,m1,fun i hi=>absurd hi (Nat.not_lt_zero i),fun s b h=>by simp at h⟩,⟨_,m2,fun _=>rfl⟩,by omega,fun i hi=>absurd hi (Nat.not_lt_zero i),fun id b h=>by simp[nN]at h,fun i hi=>absurd hi (Nat.not_lt_zero i),fun i j hi=>absurd hi (Nat.not_lt_zero i),fun i j hi=>absurd hi (Nat.not_lt_zero i),Nat.zero_le _⟩
 ·exact (((aj.refl aJ w).alloc _).alloc _).alloc _
def tH(s:ByteArray)(b:Bool):Prop:=∀w,CT 50 #[.string s] w fun e w'=>e=.returned (.bool b)/\aj aJ w w'
theorem Qx(bv:Nat)(s:ByteArray)(w:World)(hn:tH s false):CT 27 #[PP bv,.string s] w fun e w'=>e=.returned (II 3)/\aj aJ w w':=by
 go_enter Tryz.func27,Tryz.ntmps27;go_wp2_with fail;refine (hn _).mono ?_;rintro e w' ⟨rfl,k⟩;go_wp2;go_ret;exact⟨rfl,((aj.refl aJ w).alloc _).trans k⟩
theorem Nr(bv bm bo i:Nat)(V:aS)(s:ByteArray)(w:World)(R:dS w bv bm bo V)(hn:tH s true)(hlen:s.size<=maxLen)(hi:i<V.nb)(hs:(V.B i).sym=s):CT 27 #[PP bv,.string s] w fun e w'=>e=.returned (II 2)/\aj aJ w w':=by
 obtain⟨fB,mB,qh,uM⟩:=R.iM;have hl:=qh i hi;rw[hs]at hl;have HL:=au hl;have hK:∀w',aj aJ w w'->(Instr.lookup 94 (.map (some bm)) (.string s) false).run Tryz.prog w'=.ok (PP (V.bk i)) w'/\w'.cell? ⟨bv,0,none⟩=some (.map (some bm)):=fun w' k=>by
  refine⟨?_,(k.aF R.dC aU).cell 0⟩;rw[(mB.aC k aU).look zV Tryz.underlying94 (qA _) (WideMaps.keyOf_string_mk Tryz.underlying9 hlen)];show _=Result.ok (ji (some (V.bk i))) _;rw[<-ae HL];rfl
 have HK:=au hK;clear hl hK hs mB qh uM;go_enter Tryz.func27,Tryz.ntmps27;go_wp2_with fail;refine (hn _).mono ?_;rintro e w1 ⟨rfl,k⟩;have xb:CC w1 w.heap.size 0 (PP bv):=(k.aF (aA.new w #[PP bv] 35) aU).cell 0;have k0:=((aj.refl aJ w).alloc (.cells #[PP bv] 35)).trans k;obtain⟨L1,v0⟩:=ae HK w1 k0;go_wp2;go_ret;exact⟨rfl,k0⟩
def aS.list(V:aS)(s:ByteArray)(b:Nat):aS:={ V with nb:=V.nb+1,bk:=aQ V.bk V.nb b,B:=aQ V.B V.nb (lS s) }
theorem xR(s:ByteArray)(x b:Nat):¬dG (lS s) x b:=by
 rintro (h | ⟨k,hk,_⟩)
 ·simp[lS,ig]at h
 ·exact absurd hk (Nat.not_lt_zero k)
theorem dS.list{w w':World}{bv bm bo b:Nat}{V:aS}{s:ByteArray}(R:dS w bv bm bo V)(hb:w.heap.size<=b)(hblk:aA w' b (lS s).cells 158)(k:aj (fun x=>x=bm) w w')(hfree:∀i,i<V.nb->(V.B i).sym≠s)
 (mB:∃fB,kG w' 9 bm fB (V.nb+1)/\fB (sl s)=some b/\∃fB0,kG w 9 bm fB0 V.nb/\(∀i,i<V.nb->fB0 (sl (V.B i).sym)=some (V.bk i))/\(∀s b,fB0 (sl s)=some b->∃i,i<V.nb/\b=V.bk i/\(V.B i).sym=s)/\∀s',s'≠s->fB (sl s')=fB0 (sl s')) :
 dS w' bv bm bo (V.list s b):=by
 obtain⟨fB,mB',f1,fB0,mB0,g1,g2,f2⟩:=mB;obtain⟨fO,mO,vK⟩:=R.fH;have ne:∀{b':Nat} {c:Array Value} {t:TypeId},aA w b' c t->aA w' b' c t:=fun h=>k.aF h (Ne.symm (mB0.ne h))
 have bk:∀i,i<V.nb->cO w' (V.bk i) (V.B i) V.om:=fun i hi=>(R.aY i hi).aC k (by
  rintro x (rfl | ⟨y,hy,h⟩) e
  ·exact mB0.ne (R.aY i hi).aF e.symm
  ·rcases h with h | ⟨l,hl,rfl⟩
   ·rcases ((R.aY i hi).side y hy) with⟨h0,_⟩ | ⟨ab,hab,hsd⟩
    ·rw[h0]at h;simp[ig]at h
    ·obtain⟨cs,hcs,_⟩:=hsd.sJ;rw[hab]at h;simp[ig]at h;rw[h]at hcs;exact mB0.ne hcs e.symm
   ·exact mB0.ne (((R.aY i hi).side y hy).bz hl) e.symm)
 have lt:∀i,i<V.nb->V.bk i<w.heap.size:=fun i hi=>(R.aY i hi).aF.lt
 refine⟨R.aP.aC k (Ne.symm (mB0.ne R.dC)) (fun y hy e=>by
  obtain⟨c,t',hc,_⟩:=R.aP.aP.gK hy;exact mB0.ne hc e.symm),⟨fB,mB',?_,?_⟩,⟨fO,mO.aC k (fun e=>R.Ia e.symm),vK⟩,R.Ia,?_,?_,?_,?_,?_,R.gV⟩
 ·intro i hi;by_cases e:i=V.nb
  ·subst e;simp only[aS.list,ai];exact f1
  ·have hi':i<V.nb:=by simp only[aS.list]at hi;omega
   simp only[aS.list,ah _ _ e];rw[f2 _ (hfree i hi')];exact g1 i hi'
 ·intro s' b' h;by_cases e:s'=s
  ·subst e;rw[f1]at h;simp only[Option.some.injEq]at h;exact⟨V.nb,by simp[aS.list],by simp only[aS.list,ai];exact h.symm,by simp only[aS.list,ai];rfl⟩
  ·rw[f2 _ e]at h;obtain⟨i,hi,h1,h2⟩:=g2 s' b' h;have:i≠V.nb:=by omega
   exact⟨i,by simp only[aS.list];omega,by simp only[aS.list,ah _ _ this];exact h1,by simp only[aS.list,ah _ _ this];exact h2⟩
 ·intro i hi;by_cases e:i=V.nb
  ·subst e;simp only[aS.list,ai];exact⟨hblk,fun y hy=>.inl ⟨rfl,rfl,rfl⟩,fun a h=>by simp[lS,ig]at h,fun l j hl=>absurd hl (Nat.not_lt_zero l)⟩
  ·have hi':i<V.nb:=by simp only[aS.list]at hi;omega
   simp only[aS.list,ah _ _ e];exact bk i hi'
 ·intro id x h;obtain⟨h1,ix,h2⟩:=R.bz id x h;exact⟨h1,ix,ne h2⟩
 ·intro i hi y hy l hl;by_cases e:i=V.nb
  ·subst e;simp only[aS.list,ai]at hl;exact absurd hl (Nat.not_lt_zero l)
  ·have hi':i<V.nb:=by simp only[aS.list]at hi;omega
   simp only[aS.list,ah _ _ e]at hl ⊢;exact R.mem i hi' y hy l hl
 ·intro i j hi hj hne;simp only[aS.list]at hi hj ⊢;by_cases e:i=V.nb
  ·have e2:j≠V.nb:=by omega
   rw[e,ai,ah _ _ e2];have:=lt j (by omega);omega
  ·rw[ah _ _ e];by_cases e2:j=V.nb
   ·rw[e2,ai];have:=lt i (by omega);omega
   ·rw[ah _ _ e2];exact R.sS i j (by omega) (by omega) hne
 ·intro i j hi hj hne x y hx hy z h1 h2;simp only[aS.list]at hi hj h1 h2;by_cases e:i=V.nb
  ·rw[e,ai]at h1;exact xR s x z h1
  ·by_cases e2:j=V.nb
   ·rw[e2,ai]at h2;exact xR s y z h2
   ·rw[ah _ _ e]at h1;rw[ah _ _ e2]at h2;exact R.nM i j (by omega) (by omega) hne x y hx hy z h1 h2
end Go.Proofs.YtigaphnafnpfnaaGreatDoor
