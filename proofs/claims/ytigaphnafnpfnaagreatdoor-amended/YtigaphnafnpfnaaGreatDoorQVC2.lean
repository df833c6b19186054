import Derived.Test.YtigaphnafnpfnaaGreatDoorQVC1
import Derived.Test.YtigaphnafnpfnaaGreatDoorQVX1
import Derived.Test.YtigaphnafnpfnaaGreatDoorQVX4
import Derived.Deep.QuietTactic
import Derived.BigQuiet
import Derived.BigRegion
import Derived.Deep.RegionWith
import Derived.Deep.LoopGhost
import Derived.Deep.RegionHeld3
import Derived.Deep.DrawnRows
import Derived.Test.YtigaphnafnpfnaaGreatDoorQVA5
set_option linter.unusedVariables false
set_option linter.unusedSimpArgs false
set_option maxHeartbeats 8000000
set_option maxRecDepth 100000
namespace Go.Proofs.YtigaphnafnpfnaaGreatDoor
open Go.RowKit Go.Maps
attribute [local go_sem ↓] Go.wp_at_zero Go.wp_at_succ
structure aW where
 nb:Nat
 bk:Nat→Nat
 B:Nat→Bk
 om:Nat→Ord
 aO:Int→Option Nat
 no:Nat
 lg:Lg
 lm:Lm
def aW.tr(V:aW):Int:=V.lg.tr.length
def sl(s:ByteArray):Lit:=.string s.data.toList
structure Rep(w:World)(bv bm bo:Nat)(V:aW):Prop where
 log:aK w bv bm bo V.lg V.lm
 books:∃fB,jD w 9 bm fB V.nb∧(∀i,i<V.nb→fB (sl (V.B i).sym)=some (V.bk i))∧(∀s b,fB (sl s)=some b→∃i,i<V.nb∧b=V.bk i∧(V.B i).sym=s)
 orders:∃fO,jD w 3 bo fO V.no∧(∀id,fO (.int .i64 id)=V.aO id)
 MQ:bm≠bo
 book:∀i,i<V.nb→aX w (V.bk i) (V.B i) V.om
 aQ:∀id b,V.aO id=some b→(V.om b).id=id∧∃ix,bC w b (V.om b) ix
 mem:∀i,i<V.nb→∀s,s<2→∀k,k<(V.B i).n s→∃id,V.aO id=some ((V.B i).h s k)
 uT:∀i j,i<V.nb→j<V.nb→i≠j→V.bk i≠V.bk j
 oG:∀i j,i<V.nb→j<V.nb→i≠j→∀s t,s<2→t<2→∀b,bQ (V.B i) s b→¬bQ (V.B j) t b
 eF:V.no≤200
theorem Rep.cZ{w:World}{bv bm bo:Nat}{V:aW}(R:Rep w bv bm bo V):ai w bv (oM bm bo V.lm V.lg.day) 100:=R.log.cZ
theorem IY(bv bm bo i:Nat)(V:aW)(o:Ask)(w:World)(R:Rep w bv bm bo V)(hi:i<V.nb)(bY:(V.B i).sym=o.sym)(hlen:o.sym.size≤maxLen)
 (h1:bg o.id=true) (h2:V.aO o.id=none) (h3:jJ o.owner=true) (h4:gZ o.side=true) (h5:jY o.kind=true) (h6:bg o.qty=true) (h7:iw o.kind o.price=true) (h8:V.no<200) (h9:o.kind≠3) (h10:o.kind≠4) :
 Calls Tryz.prog 111 #[.pointer (some ⟨bv,0,none⟩),o.val] w fun e w'=>e=.returned (.int .i64 0)∧ag ak w w':=by
 obtain⟨fB,mB,pK,ui⟩:=R.books
 obtain⟨fO,mO,wB⟩:=R.orders
 obtain⟨id,owner,sym,side,kind,price,qty⟩:=o
 simp only at bY hlen h1 h2 h3 h4 h5 h6 h7 h9 h10
 simp only[Ask.val]
 have hid:(Lit.int .i64 id).wf=true:=by
  simp[bg]at h1
  exact WalkArith.wf_i64 (by omega)
 have hlb:fB (sl sym)=some (V.bk i):=by rw[←bY];exact pK i hi
 have hlo:fO (.int .i64 id)=none:=by rw[wB,h2]
 obtain⟨w1,hw1⟩:∃w1,w1=w.alloc (.cells #[.int .i64 id,.int .i64 owner,.string sym,.int .i64 side,.int .i64 kind,.int .i64 price,.int .i64 qty] 52):=⟨_,rfl⟩
 have k1:ag ak w w1:=by rw[hw1];exact (ag.refl ak w).alloc _
 have hbx:ai w1 w.heap.size #[.int .i64 id,.int .i64 owner,.string sym,.int .i64 side,.int .i64 kind,.int .i64 price,.int .i64 qty] 52:=by rw[hw1];exact ai.new w _ _
 have L1:∀q,(Instr.lookup 94 (.map (some bm)) (.string sym) false).run Tryz.prog (w1.drewN q)=.ok (.pointer (some ⟨V.bk i,0,none⟩)) (w1.drewN q):=fun q=>by
  rw[(mB.kept (k1.drewN q) (fun x=>x)).look law9 Tryz.underlying94 (mP _) (WideMaps.keyOf_string_mk Tryz.underlying9 hlen)]
  show _=Result.ok (fV (some (V.bk i))) _
  rw[←hlb];rfl
 have L2:∀q,(Instr.lookup 95 (.map (some bo)) (.int .i64 id) false).run Tryz.prog (w1.drewN q)=.ok (.pointer none) (w1.drewN q):=fun q=>by
  rw[(mO.kept (k1.drewN q) (fun x=>x)).look law3 Tryz.underlying95 (sH _) (keyOf_int_mk Tryz.underlying3 hid)]
  show _=Result.ok (fV none) _
  rw[←hlo]
 have L3:∀q,(Builtin.len_ #[95] 3 #[.map (some bo)]).run Tryz.prog (w1.drewN q)=.ok (.int .i64 V.no) (w1.drewN q):=fun q=>(mO.kept (k1.drewN q) (fun x=>x)).len Tryz.underlying95 _
 have v0:w1.cell? ⟨bv,0,none⟩=some (.map (some bm)):=(k1.blk R.cZ (fun x=>x)).cell 0
 have v1:w1.cell? ⟨bv,1,none⟩=some (.map (some bo)):=(k1.blk R.cZ (fun x=>x)).cell 1
 have x0:w1.cell? ⟨w.heap.size,0,none⟩=some (.int .i64 id):=hbx.cell 0
 have x1:w1.cell? ⟨w.heap.size,1,none⟩=some (.int .i64 owner):=hbx.cell 1
 have x2:w1.cell? ⟨w.heap.size,2,none⟩=some (.string sym):=hbx.cell 2
 have x3:w1.cell? ⟨w.heap.size,3,none⟩=some (.int .i64 side):=hbx.cell 3
 have x4:w1.cell? ⟨w.heap.size,4,none⟩=some (.int .i64 kind):=hbx.cell 4
 have x5:w1.cell? ⟨w.heap.size,5,none⟩=some (.int .i64 price):=hbx.cell 5
 have x6:w1.cell? ⟨w.heap.size,6,none⟩=some (.int .i64 qty):=hbx.cell 6
 have e3:(kind == 3)=false:=by simp[h9]
 have e4:(kind == 4)=false:=by simp[h10]
 have e8:decide ((200:Int)≤(V.no:Int))=false:=by simp;omega
 have HW:=hide hw1
 have HK:=hide k1
 clear hw1 k1 hbx h9 h10 hlb hlo pK ui wB mB mO hid
 go_enter Tryz.func111,Tryz.ntmps111
 go_wp2
 rw[←ae HW]
 go_quiet (fail)
 go_wp2_with (first | (go_at_call 68;refine (aU _ _).mono ?_;rintro e w' ⟨rfl,rfl⟩) | (go_at_call 144;refine (dC _ _).mono ?_;rintro e w' ⟨rfl,rfl⟩) | (go_at_call 47;refine (dw _ _).mono ?_;rintro e w' ⟨rfl,rfl⟩) | (go_at_call 145;refine (dL _ _).mono ?_;rintro e w' ⟨rfl,rfl⟩) | (go_at_call 146;refine (bU _ _ _).mono ?_;rintro e w' ⟨rfl,rfl⟩))
 go_quiet (fail)
 go_wp2_with (first | (go_at_call 68;refine (aU _ _).mono ?_;rintro e w' ⟨rfl,rfl⟩) | (go_at_call 144;refine (dC _ _).mono ?_;rintro e w' ⟨rfl,rfl⟩) | (go_at_call 47;refine (dw _ _).mono ?_;rintro e w' ⟨rfl,rfl⟩) | (go_at_call 145;refine (dL _ _).mono ?_;rintro e w' ⟨rfl,rfl⟩) | (go_at_call 146;refine (bU _ _ _).mono ?_;rintro e w' ⟨rfl,rfl⟩))
 go_quiet (fail)
 go_wp2
 go_ret
 exact⟨rfl,((ae HK).drewN _).drewN _⟩
open Go.RowKit Go.Sort
def G8(om:Nat→Ord)(n:Nat)(h:Nat→Nat)(ys:List Nat):Prop:=ys.Perm (upto h n)∧ys.Pairwise (fun a b=>dW om b a=false)
def wV(om:Nat→Ord)(n:Nat)(h:Nat→Nat)(w:World)(v:Value)(w':World):Prop :=
 ∃ys:List Nat,G8 om n h ys∧qE w.heap.size w' v (gu (eY om ys))∧Below w.heap.size w w'
theorem gG.ptrs{w:World}{a:Option Addr}{n cap:Nat}{h:Nat→Nat}{om:Nat→Ord}(hs:gG w a n cap h om):BC w.heap.size w a n cap h∧(∀j,j<n→∃ix,bC w (h j) (om (h j)) ix)∧n≤1000:=by
 rcases hs with⟨rfl,rfl,rfl⟩ | ⟨ab,rfl,hs⟩
 ·exact⟨.inl ⟨rfl,rfl,rfl⟩,fun j hj=>absurd hj (Nat.not_lt_zero j),by omega⟩
 ·obtain⟨cs,hb,_,hc⟩:=hs.arr
  exact⟨.inr ⟨ab,rfl,hb.lt,fun j hj=>(hb.cell j).trans (hc j hj)⟩,fun j hj=>⟨_,hs.ord j hj⟩,hs.small⟩
def TJ(n₀:Nat)(w:World)(a:Option Addr)(ys:List Nat):Prop :=
 (a=none∧ys=[])∨∃b,a=some ⟨b,0,none⟩∧n₀≤b∧∀j,j<ys.length→w.cell? ⟨b,j,none⟩=some (qM (ys.getD j 0))
theorem G7.form{n₀:Nat}{w:World}{v:Value}{ys:List Nat}(h:G7 n₀ w v ys):∃a c,v=.slice a ys.length c∧TJ n₀ w a ys:=by
 rcases h with⟨rfl,rfl⟩ | ⟨b,cap,rfl,h1,h2,h3⟩
 ·exact⟨none,0,rfl,.inl ⟨rfl,rfl⟩⟩
 ·exact⟨_,cap,rfl,.inr ⟨b,rfl,h1,h3⟩⟩
theorem qE.base{n₀ n₁:Nat}{W:World}{v:Value}{ls:List fJ}(h:qE n₀ W v ls)(hn:n₁≤n₀):qE n₁ W v ls:=by
 rcases h with h | ⟨g,cap,cs,e,h1,h2⟩
 ·exact .inl h
 ·exact .inr ⟨g,cap,cs,e,by omega,h2⟩
theorem Ff(om:Nat→Ord)(ys:List Nat)(i:Nat)(hi:i<ys.length):gu (eY om (ys.take (i+1)))=iq (gu (eY om (ys.take i))) (om (ys.getD i 0)):=by
 unfold gu eY
 rw[List.take_succ_eq_append_getElem hi,List.map_append,List.foldl_append]
 simp[List.getD_eq_getElem?_getD,hi]
theorem zF(ls:List fJ)(o:Ord):(iq ls o).length≤ls.length+1:=by
 unfold iq
 split
 ·split <;> simp <;> omega
 ·simp
theorem qY(os:List Ord)(ls:List fJ):(os.foldl iq ls).length≤ls.length+os.length:=by
 induction os generalizing ls with
 | nil=>simp
 | cons o os ih =>
   have h1:=ih (iq ls o)
   have h2:=zF ls o
   simp only[List.foldl_cons,List.length_cons]
   omega
theorem jl{W:World}{g k:Nat}{cs:Array Value}{ini:List fJ}{l:fJ}(hb:ai W g cs 93)(hk:ini.length=k)(h6:cs.toList.take ((k+1) * 3)=flat (ini++[l]))(c:Nat)(hc:c<3) :
 W.cell? ⟨g,k * 3+c,none⟩=(l.cells)[c]?:=by
 rw[hb.cell]
 have h:=CV (ini++[l]) k c (by simp;omega) hc
 rw[←h6,List.getElem?_take,if_pos (by omega),Array.getElem?_toList]at h
 rw[show k * 3+c=3 * k+c from by omega,h]
 simp[←hk]
theorem pY(ini:List fJ)(l:fJ):flat (ini++[l])=flat ini++l.cells:=by
 simp[flat,List.flatMap_append]
theorem Rh{cs:Array Value}{k:Nat}{ini:List fJ}{l:fJ}(hk:ini.length=k)(h6:cs.toList.take ((k+1) * 3)=flat (ini++[l]))(q n:Int) :
 ((cs.setIfInBounds (k * 3+1) (.int .i64 q)).setIfInBounds (k * 3+2) (.int .i64 n)).toList.take ((k+1) * 3)=flat (ini++[⟨l.price,q,n⟩]):=by
 have hl:(flat ini).length=k * 3:=by rw[flat_length,hk];omega
 rw[Array.toList_setIfInBounds,Array.toList_setIfInBounds,List.take_set,List.take_set,h6,pY,pY]
 rw[List.set_append_right _ _ (by omega),List.set_append_right _ _ (by omega),hl,show k * 3+1-k * 3=1 from by omega,show k * 3+2-k * 3=2 from by omega]
 rfl
theorem mg(ini:List fJ)(l:fJ)(o:Ord)(h:l.price=o.price):iq (ini++[l]) o=ini++[⟨l.price,wrap64 (l.qty+o.opn),wrap64 (l.num+1)⟩]:=by
 unfold iq
 rw[List.getLast?_concat]
 simp[h]
theorem kP(ini:List fJ)(l:fJ)(o:Ord)(h:¬l.price=o.price):iq (ini++[l]) o=(ini++[l])++[⟨o.price,wrap64 o.opn,1⟩]:=by
 unfold iq
 rw[List.getLast?_concat]
 simp[h]
theorem qE.write{n₀:Nat}{W:World}{g cap k:Nat}{cs:Array Value}{ini:List fJ}{l:fJ}(hk:ini.length=k)(h1:n₀≤g)(h2:ai W g cs 93)(h3:k+1≤cap)(h4:cap≤maxLen)(h5:cs.size=cap * 3)(h6:cs.toList.take ((k+1) * 3)=flat (ini++[l]))(q n:Int) :
 qE n₀ ((W.setCell ⟨g,k * 3+1,none⟩ (.int .i64 q)).setCell ⟨g,k * 3+2,none⟩ (.int .i64 n)) (.slice (some ⟨g,0,none⟩) (k+1) cap) (ini++[⟨l.price,q,n⟩]):=by
 have hl:(ini++[(⟨l.price,q,n⟩:fJ)]).length=k+1:=by simp[hk]
 refine .inr ⟨g,cap,_,by rw[hl],h1,(h2.set _ _).set _ _,by rw[hl];exact h3,h4,by simpa using h5,?_,by rw[hl];omega⟩
 rw[hl]
 exact Rh hk h6 q n
theorem qE.drew{n₀:Nat}{W:World}{v:Value}{ls:List fJ}(h:qE n₀ W v ls):qE n₀ W.drew v ls:=by
 rcases h with h | ⟨g,cap,cs,e,h1,h2,h3⟩
 ·exact .inl h
 ·exact .inr ⟨g,cap,cs,e,h1,h2.drew,h3⟩
theorem Dc{W:World}{base e size n:Nat}{v:Value}{xs:List Value}(h:W.ownsRow base e size v n xs)(h0:0<n):∃g cap,v=.slice (some ⟨g,0,none⟩) n cap:=by
 rcases h.2 with⟨_,h0⟩ | ⟨g,cap,_,rfl,_⟩
 ·omega
 ·exact⟨g,cap,rfl⟩
theorem SN(w:World)(p:Int):∀j u,([Value.int .i64 p,.int .i64 0,.int .i64 0]:List Value)[j]?=some u→(w.alloc (.cells #[.int .i64 p,.int .i64 0,.int .i64 0] 93)).cell? (Addr.add ⟨w.heap.size,0,none⟩ j)=some u:=by
 intro j u hj
 have hb:=ai.new w #[.int .i64 p,.int .i64 0,.int .i64 0] 93
 match j,hj with
 | 0,hj=>rw[←hj];exact hb.cell 0
 | 1,hj=>rw[←hj];exact hb.cell 1
 | 2,hj=>rw[←hj];exact hb.cell 2
 | j+3,hj=>simp at hj
theorem yg(bb s:Nat)(B:Bk)(om:Nat→Ord)(w:World)(hb:aX w bb B om)(hs:s<2)(hside:∀j,j<B.n s→(om (B.h s j)).side=(s:Int)) :
 Calls Tryz.prog 48 #[.pointer (some ⟨bb,0,none⟩),.int .i64 s] w fun e w'=>∃v,e=.returned v∧wV om (B.n s) (B.h s) w v w':=by
 obtain⟨hP,hO,hn⟩:=(hb.side s hs).ptrs
 have hlt:=hb.blk.lt
 have hcs:=hb.Eu hs
 clear hb
 have HS:=hide (show ∀w1,w1=w.alloc (.cells #[.slice (B.sl s) (B.n s) (B.cap s)] 155)→Calls Tryz.prog 81 #[.func (.func 129) #[] #[.pointer (some ⟨w.heap.size,0,none⟩)],.func (.func 83) #[] #[]] w1 fun e w'=>∃v,e=.returned v∧rH (B.n s) (B.h s) om w1 v w' from by
  rintro w1 rfl
  have hB:Below w.heap.size w (w.alloc (.cells #[.slice (B.sl s) (B.n s) (B.cap s)] 155)):=(Below.refl _ w).alloc (Nat.le_refl _) _
  refine ql w.heap.size (B.sl s) (B.n s) (B.cap s) (B.h s) om s (by omega) _ (by simp) ((ai.new _ _ _).cell 0) ?_ ?_
  ·rcases hP with h | ⟨b,h1,h2,h3⟩
   ·exact .inl h
   ·exact .inr ⟨b,h1,by simp;omega,fun j hj=>(hB.cell (p:=⟨b,j,none⟩) h2).trans (h3 j hj)⟩
  ·intro j hj
   obtain⟨ix,ho⟩:=hO j hj
   exact⟨⟨ix,ai.alloc ho _⟩,hside j hj⟩)
 clear hP
 generalize B.sl s=sl at *
 generalize B.cap s=cap at *
 generalize hnn:B.n s=n at *
 generalize hhh:B.h s=h at *
 clear hnn hhh
 have hs0:(0:Int)≤s:=by omega
 have hs2:(s:Int)<2:=by omega
 go_enter Tryz.func48,Tryz.ntmps48
 go_wp2_with (first | (go_at_call 82;refine (Jh _ _ _ _).mono ?_;rintro e w1 ⟨rfl,rfl⟩) | (go_at_call 81;refine (ae HS _ rfl).mono ?_;clear HS;rintro e w2 ⟨v,rfl,ys,hp1,hp2,hp3,hp4⟩;obtain⟨va,vc,rfl,Uo⟩:=hp3.form))
 have HB:Hid (Below w.heap.size w w2):=((Below.refl _ w).alloc (Nat.le_refl _) _).trans (hp4.mono (by simp))
 have HY:Hid (G8 om n h ys):=⟨hp1,hp2⟩
 have HO:Hid (∀x,x∈ys→∃ix,bC w2 x (om x) ix):=by
  intro x hx
  have:=hp1.mem_iff.1 hx
  simp only[upto,List.mem_map,List.mem_range]at this
  obtain⟨j,hj,rfl⟩:=this
  obtain⟨ix,ho⟩:=hO j hj
  exact⟨ix,(HB.out.block (h j) ho.lt).trans ho⟩
 have hyn:ys.length≤1000:=by rw[hp1.length_eq,upto_length];exact hn
 have HP:=hide Uo
 clear hp1 hp2 hp3 hp4 Uo hO hside hcs
 go_loopg [6,8,9,20] ys.length (fun k lv _ _ iv wr=>∃i:Nat,iv=.int .i64 (i:Int)∧i≤ys.length∧k=ys.length-i∧qE (w2.heap.size) wr lv (gu (eY om (ys.take i)))∧Below w2.heap.size w2 wr)
 case atStart=>exact⟨0,rfl,Nat.zero_le _,rfl,.inl ⟨rfl,by simp[eY,gu]⟩,Below.refl _ _⟩
 case round =>
  obtain⟨i,rfl,hi,hgk,hlv,hbw⟩:=hrel
  by_cases hlt:i<ys.length
  ·have hx:ys.getD i 0∈ys:=by rw[List.getD_eq_getElem?_getD,List.getElem?_eq_getElem hlt];exact List.getElem_mem hlt
   obtain⟨b,rfl,hb1,hb3⟩:∃b,va=some ⟨b,0,none⟩∧b<w2.heap.size∧w2.cell? ⟨b,i,none⟩=some (qM (ys.getD i 0)):=by
    rcases ae HP with⟨_,rfl⟩ | ⟨b,e,_,hc⟩
    ·exact absurd hlt (by simp)
    ·exact⟨b,e,World.block_lt_of_cell? w2 ⟨b,i,none⟩ (hc i hlt),hc i hlt⟩
   have Us:wr.cell? ⟨b,i,none⟩=some (.pointer (some ⟨ys.getD i 0,0,none⟩)):=(hbw.cell (p:=⟨b,i,none⟩) hb1).trans hb3
   obtain⟨ix,ho2⟩:=ae HO _ hx
   have hxl:ys.getD i 0<w2.heap.size:=ho2.lt
   have ho:bC wr (ys.getD i 0) (om (ys.getD i 0)) ix:=(hbw.block _ hxl).trans ho2
   have HT:=hide (Ff om ys i hlt)
   generalize ys.getD i 0=x at *
   generalize hls:gu (eY om (ys.take i))=ls at *
   have o5:=ho.cell 5
   have o8:=ho.cell 8
   simp only[Ord.cells]at o5 o8
   simp at o5 o8
   clear hb3 ho2 hx
   have HI:=hide ho
   clear ho
   have hll:ls.length≤1000:=by
    have:=qY (eY om (ys.take i)) []
    rw[show (eY om (ys.take i)).foldl iq []=ls from hls]at this
    simp[eY]at this
    omega
   clear hls
   rcases List.eq_nil_or_concat ls with rfl | ⟨ini,l,rfl⟩
   ·obtain rfl:u6=.slice none 0 0:=by
     rcases hlv with⟨h,_⟩ | ⟨g,xC,cs,e,h1,h2,h3,h4,h5,h6,h7⟩
     ·exact h
     ·simp at h7
    clear hlv hll
    go_wp2
    go_quiet (fail)
    have hmx:0+1≤maxLen:=by unfold maxLen;omega
    have hbs:w2.heap.size≤wr.heap.size:=hbw.size
    obtain⟨w3,hw3⟩:∃w3,w3=wr.drewN nq:=⟨_,rfl⟩
    rw[←hw3]
    have o53:w3.cell? ⟨x,5,none⟩=some (.int .i64 (om x).price):=by rw[hw3];exact o5
    have Ug:w2.heap.size≤w3.heap.size:=by rw[hw3];exact hbs
    have HI3:Hid (bC w3 x (om x) ix):=by rw[hw3];exact (ae HI).drewN _
    have HB3:Hid (Below w2.heap.size w2 w3):=by rw[hw3];exact⟨hbw.os,hbw.tape,hbw.output,hbw.size,hbw.block⟩
    clear hw3 hbs o5 o8 Us
    obtain⟨i0,hi0,hz0,hz1,hz2⟩:=info_parts Ci
    go_wp2_with (at_builtin;refine wpList_append_own _ rfl _ _ 63 rfl w2.heap.size 93 i0 (.agg #[.int .i64 0,.int .i64 0,.int .i64 0]) 3 24 Tryz.underlying63 hi0 hz0 hz1 hz2 rfl (by decide) _ 0 [] rfl (World.ownsRow_nil _ _ _ _) ⟨w3.heap.size,0,none⟩ 1 1 [.int .i64 (om x).price,.int .i64 0,.int .i64 0] rfl rfl (SN _ _) (by simp[Value.oneCell']) hmx (by omega) (by simp;omega) ?_;intro v' w4 hown' hgrow hnil;clear hnil;obtain⟨g',cap',rfl⟩:=Dc hown' (by omega))
    change (w3.alloc _).grownBy w4 none at hgrow
    have Oq:bC w4 x (om x) ix:=(hgrow.block x (by simp;omega) (by simp)).trans (ai.alloc (ae HI3) _)
    have HB4:Hid (Below w2.heap.size w2 w4):=((ae HB3).alloc Ug _).grown hgrow (by simp;omega) (fun k e=>by cases e)
    have Yj:=Oq.cell 8
    simp only[Ord.cells]at Yj
    simp at Yj
    obtain⟨cs2,hh1,hh2,hh3,hh4,hh5,QO⟩:∃cs2,w2.heap.size≤g'∧ai w4 g' cs2 93∧0+1≤cap'∧cap'≤maxLen∧cs2.size=cap' * 3∧cs2.toList.take ((0+1) * 3)=flat ([]++[⟨(om x).price,0,0⟩]):=by
     rcases hown'.2 with⟨h,_⟩ | ⟨g2,cap2,cs2,e2,h1,h2,h3,h4,h5,h6⟩
     ·cases h
     ·cases e2
      exact⟨cs2,h1,h2,h3,h4,h5,h6⟩
    have c1:=jl (k:=0) (ini:=[]) (l:=⟨(om x).price,0,0⟩) hh2 rfl QO 1 (by omega)
    have c2:=jl (k:=0) (ini:=[]) (l:=⟨(om x).price,0,0⟩) hh2 rfl QO 2 (by omega)
    simp only[fJ.cells]at c1 c2
    simp at c1 c2
    have f1:=hh2.frozen 1
    have f2:=hh2.frozen 2
    have aam:x≠g':=by omega
    have Zy:=hide hh2
    have Zz:=hide QO
    have ZP:=hide hh5
    clear hown' hgrow Oq hh2 QO HI3 hi0 hz0 hz1 hz2 o53 hh5 hmx
    go_region
    go_wp2
    go_roundg (ys.length-(i+1))
    case measure=>omega
    case rel =>
     refine⟨i+1,by push_cast;rfl,by omega,rfl,?_,?_⟩
     ·rw[ae HT]
      exact (qE.write (k:=0) (ini:=[]) rfl hh1 (ae Zy) hh3 hh4 (ae ZP) (ae Zz) (wrap64 (om x).opn) 1).drew
     ·have h8:=((ae HB4).setCell (p:=⟨g',1,none⟩) hh1 (.int .i64 (wrap64 (om x).opn))).setCell (p:=⟨g',2,none⟩) hh1 (.int .i64 1)
      exact⟨h8.os,h8.tape,h8.output,h8.size,h8.block⟩
   ·obtain⟨g,xC,cs,rfl,hg1,hg2,hg3,hg4,hg5,MN⟩:∃g xC cs,u6=.slice (some ⟨g,0,none⟩) (ini.length+1) xC∧w2.heap.size≤g∧ai wr g cs 93∧ini.length+1≤xC∧xC≤maxLen∧cs.size=xC * 3∧cs.toList.take ((ini.length+1) * 3)=flat (ini++[l]):=by
     rw[List.concat_eq_append]at hlv
     rcases hlv with⟨_,h⟩ | ⟨g,xC,cs,e,h1,h2,h3,h4,h5,h6,_⟩
     ·simp at h
     ·simp only[List.length_append,List.length_cons,List.length_nil]at e h3 h6
      exact⟨g,xC,cs,e,h1,h2,h3,h4,h5,h6⟩
    rw[List.concat_eq_append]at HT hll
    simp only[List.length_append,List.length_cons,List.length_nil]at hll
    obtain⟨k,hk⟩:∃k,ini.length=k:=⟨_,rfl⟩
    obtain⟨m,hm⟩:∃m,ini.length+1=m:=⟨_,rfl⟩
    have hkm:k<m:=by omega
    have hm1:m≤1000:=by omega
    rw[hm]at hg3 MN ⊢
    rw[←hm,hk]at MN
    have c0:=jl hg2 hk MN 0 (by omega)
    have c1:=jl hg2 hk MN 1 (by omega)
    have c2:=jl hg2 hk MN 2 (by omega)
    simp only[fJ.cells,Nat.add_zero]at c0 c1 c2
    simp at c0 c1 c2
    have hw:(m:Int)-1=k:=by omega
    have hk0:decide ((k:Int)<0)=false:=by simp
    have f1:=hg2.frozen (k * 3+1)
    have f2:=hg2.frozen (k * 3+2)
    have hgx:x≠g:=by omega
    have hrow:wr.ownsRow w2.heap.size 93 3 (.slice (some ⟨g,0,none⟩) m xC) m (flat (ini++[l])):=⟨by rw[flat_length];simp;omega,.inr ⟨g,xC,cs,rfl,hg1,hg2,hg3,hg4,hg5,by rw[←MN];congr 1;omega⟩⟩
    have G2:=hide hg2
    have G5:=hide hg5
    have G6:=hide MN
    clear hg2 hg5 MN hlv
    by_cases hpr:l.price=(om x).price
    ·clear hrow
     go_wp2
     have hne:(l.price != (om x).price)=false:=by simp[hpr]
     have Wh:=hide hpr
     clear hpr
     go_quiet (fail)
     go_wp2
     go_region
     go_wp2
     go_roundg (ys.length-(i+1))
     case measure=>omega
     case rel =>
      have hkk:k+1=m:=by omega
      refine⟨i+1,by push_cast;rfl,by omega,rfl,?_,?_⟩
      ·rw[ae HT,mg ini l _ (ae Wh),←hkk]
       exact qE.write hk hg1 ((ae G2).drewN _) (by omega) hg4 (ae G5) (ae G6) _ _
      ·have h9:Below w2.heap.size w2 (wr.drewN (nq+1)):=⟨hbw.os,hbw.tape,hbw.output,hbw.size,hbw.block⟩
       exact (h9.setCell (p:=⟨g,k * 3+1,none⟩) hg1 _).setCell (p:=⟨g,k * 3+2,none⟩) hg1 _
    ·have hne:(l.price != (om x).price)=true:=by simp[hpr]
     have Wh:=hide hpr
     have HR:=hide hrow
     clear hpr hrow
     go_wp2
     go_quiet (fail)
     have ik:(m+1) * 24≤140737488355328:=by omega
     have hmx:m+1≤maxLen:=by unfold maxLen;omega
     have hbs:w2.heap.size≤wr.heap.size:=hbw.size
     obtain⟨w3,hw3⟩:∃w3,w3=wr.drewN nq:=⟨_,rfl⟩
     rw[←hw3]
     have o53:w3.cell? ⟨x,5,none⟩=some (.int .i64 (om x).price):=by rw[hw3];exact o5
     have o83:w3.cell? ⟨x,8,none⟩=some (.int .i64 (om x).opn):=by rw[hw3];exact o8
     have HR3:Hid (w3.ownsRow w2.heap.size 93 3 (.slice (some ⟨g,0,none⟩) m xC) m (flat (ini++[l]))):=by rw[hw3];exact ae HR
     have Ug:w2.heap.size≤w3.heap.size:=by rw[hw3];exact hbs
     have HI3:Hid (bC w3 x (om x) ix):=by rw[hw3];exact (ae HI).drewN _
     have HB3:Hid (Below w2.heap.size w2 w3):=by rw[hw3];exact⟨hbw.os,hbw.tape,hbw.output,hbw.size,hbw.block⟩
     clear hw3 hbs o5 o8 c0 c1 c2 f1 f2 Us
     have hk1:(k:Int)+1=m:=by omega
     obtain⟨i0,hi0,hz0,hz1,hz2⟩:=info_parts Ci
     go_wp2_with (at_builtin;refine wpList_append_own _ rfl _ _ 63 rfl w2.heap.size 93 i0 (.agg #[.int .i64 0,.int .i64 0,.int .i64 0]) 3 24 Tryz.underlying63 hi0 hz0 hz1 hz2 rfl (by decide) _ m _ rfl ((ae HR3).alloc _) ⟨w3.heap.size,0,none⟩ 1 1 [.int .i64 (om x).price,.int .i64 0,.int .i64 0] rfl rfl (SN _ _) (by simp[Value.oneCell']) hmx ik (by simp;omega) ?_;intro v' w4 hown' hgrow hnil;clear hnil;obtain⟨m',hm'⟩:∃m',m+1=m':=⟨_,rfl⟩;rw[hm']at hown';obtain⟨g',cap',rfl⟩:=Dc hown' (by omega);have hmm:m<m':=by omega)
     change (w3.alloc _).grownBy w4 (some g) at hgrow
     have Oq:bC w4 x (om x) ix:=(hgrow.block x (by simp;omega) (by simp;omega)).trans (ai.alloc (ae HI3) _)
     have HB4:Hid (Below w2.heap.size w2 w4):=((ae HB3).alloc Ug _).grown hgrow (by simp;omega) (fun k e=>by cases e;exact hg1)
     have Yj:=Oq.cell 8
     simp only[Ord.cells]at Yj
     simp at Yj
     obtain⟨cs2,hh1,hh2,hh3,hh4,hh5,QO⟩:∃cs2,w2.heap.size≤g'∧ai w4 g' cs2 93∧m'≤cap'∧cap'≤maxLen∧cs2.size=cap' * 3∧cs2.toList.take ((m+1) * 3)=flat ((ini++[l])++[⟨(om x).price,0,0⟩]):=by
      rcases hown'.2 with⟨h,_⟩ | ⟨g2,cap2,cs2,e2,h1,h2,h3,h4,h5,h6⟩
      ·cases h
      ·cases e2
       exact⟨cs2,h1,h2,h3,h4,h5,by rw[pY,hm'];exact h6⟩
     have hil:(ini++[l]).length=m:=by simp;omega
     have c1:=jl hh2 hil QO 1 (by omega)
     have c2:=jl hh2 hil QO 2 (by omega)
     simp only[fJ.cells]at c1 c2
     simp at c1 c2
     have f1:=hh2.frozen (m * 3+1)
     have f2:=hh2.frozen (m * 3+2)
     have aam:x≠g':=by omega
     have Zy:=hide hh2
     have Zz:=hide QO
     have HM:=hide hm'
     have ZP:=hide hh5
     have HM1:=hide hm
     clear hown' hgrow Oq hh2 QO HI3 HR3 HR hi0 hz0 hz1 hz2 o53 o83 hne hk0 hk1 hw hm' hm hh5 ik hmx hk hil
     go_region
     go_wp2
     go_roundg (ys.length-(i+1))
     case measure=>omega
     case rel =>
      refine⟨i+1,by push_cast;rfl,by omega,rfl,?_,?_⟩
      ·rw[ae HT,kP ini l _ (ae Wh),←ae HM]
       exact (qE.write (by have:=ae HM1;simp;omega) hh1 (ae Zy) (by have:=ae HM;omega) hh4 (ae ZP) (ae Zz) _ _).drew
      ·have h8:=((ae HB4).setCell (p:=⟨g',m * 3+1,none⟩) hh1 (.int .i64 (wrap64 (om x).opn))).setCell (p:=⟨g',m * 3+2,none⟩) hh1 (.int .i64 1)
       exact⟨h8.os,h8.tape,h8.output,h8.size,h8.block⟩
  ·obtain rfl:i=ys.length:=by omega
   go_wp2
   go_ret
   exact⟨_,rfl,ys,ae HY,(by rw[List.take_length]at hlv;exact hlv.base (ae HB).size),(ae HB).trans (hbw.mono (ae HB).size)⟩
open Go.RowKit
def sF(om:Nat→Ord)(h:Nat→Nat)(o:Ask):Nat→Int
 | 0=>0
 | k+1=>sF om h o k+(if (om (h k)).owner≠o.owner∧eQ o.kind o.side o.price (om (h k)).price=true then (om (h k)).opn else 0)
theorem PM(om:Nat→Ord)(h:Nat→Nat)(o:Ask)(n:Nat)(hb:∀k,k<n→0≤(om (h k)).opn∧(om (h k)).opn≤1000000000000000):∀k,k≤n→0≤sF om h o k∧sF om h o k≤k * 1000000000000000
 | 0,_=>by simp[sF]
 | k+1,hk=>by
   have h1:=PM om h o n hb k (by omega)
   have h2:=hb k (by omega)
   unfold sF
   split <;> (push_cast;omega)
theorem Rk(s:Nat)(w:World)(hs:s<2):Calls Tryz.prog 154 #[.int .i64 (1-(s:Int))] w fun e w'=>e=.returned (.int .i64 (s:Int))∧w'=w:=by
 have:=jT (1-(s:Int)) w (by omega) (by omega)
 rwa [show (1:Int)-(1-s)=s from by omega]at this
theorem yT(bb s:Nat)(B:Bk)(om:Nat→Ord)(o:Ask)(w:World)(hb:aX w bb B om)(hs:s<2)(ho:o.side=1-(s:Int))(hop:∀k,k<B.n s→0≤(om (B.h s k)).opn∧(om (B.h s k)).opn≤1000000000000000) :
 Calls Tryz.prog 147 #[.pointer (some ⟨bb,0,none⟩),o.val] w fun e w'=>e=.returned (.int .i64 (sF om (B.h s) o (B.n s)))∧ag ak w w':=by
 obtain⟨hP,hO,hn⟩:=(hb.side s hs).ptrs
 have hlt:=hb.blk.lt
 have hcs:=hb.Eu hs
 clear hb
 generalize B.sl s=sl at *
 generalize B.cap s=cap at *
 generalize hnn:B.n s=n at *
 generalize hhh:B.h s=h at *
 clear hnn hhh
 have HP:=hide hP
 have HO:=hide hO
 have V9:=hide hop
 clear hP hO hop
 have hs0:(0:Int)≤s:=by omega
 have hs2:(s:Int)<2:=by omega
 obtain⟨id,owner,sym,side,kind,price,qty⟩:=o
 simp only at ho
 subst ho
 simp only[Ask.val]
 go_enter Tryz.func147,Tryz.ntmps147
 go_wp2
 go_quiet ((go_at_call 154;exact Calls.quiet_of_same (Rk _ _ hs)))
 go_wp2
 obtain⟨w1,hw1⟩:∃w1,w1=(w.alloc (.cells #[.int .i64 id,.int .i64 owner,.string sym,.int .i64 (1-(s:Int)),.int .i64 kind,.int .i64 price,.int .i64 qty] 52)).drewN nq:=⟨_,rfl⟩
 rw[←hw1]
 have uk:Hid (ag ak w w1):=by rw[hw1];exact ((ag.refl _ w).alloc _).drewN _
 have HB1:Hid (ai w1 w.heap.size #[.int .i64 id,.int .i64 owner,.string sym,.int .i64 (1-(s:Int)),.int .i64 kind,.int .i64 price,.int .i64 qty] 52):=by rw[hw1];exact (ai.new w _ _).drewN _
 clear hw1 hcs
 obtain⟨sd,hsd⟩:∃sd,1-(s:Int)=sd:=⟨_,rfl⟩
 rw[hsd]at HB1 ⊢
 have Qp:=hide hsd
 clear hsd
 obtain⟨H,hH⟩:∃H,w.heap.size=H:=⟨_,rfl⟩
 rw[hH]at HB1 ⊢
 have HH:=hide hH
 clear hH
 go_loopg [5,7,17] n (fun k sv _ iv wr=>∃i:Nat,iv=.int .i64 (i:Int)∧i≤n∧k=n-i∧sv=.int .i64 (sF om h ⟨id,owner,sym,sd,kind,price,qty⟩ i)∧ag ak w1 wr)
 case atStart=>exact⟨0,rfl,Nat.zero_le _,rfl,rfl,ag.refl _ _⟩
 case round =>
  obtain⟨i,rfl,hi,hgk,rfl,hc⟩:=hrel
  by_cases hin:i<n
  ·obtain⟨ab,rfl,Us⟩:∃ab,sl=some ⟨ab,0,none⟩∧wr.cell? ⟨ab,i,none⟩=some (.pointer (some ⟨h i,0,none⟩)):=by
    rcases ae HP with⟨_,h0,_⟩ | ⟨ab,e,_,hc2⟩
    ·omega
    ·exact⟨ab,e,hc.cell (p:=⟨ab,i,none⟩) ((ae uk).cell (p:=⟨ab,i,none⟩) (hc2 i hin) (fun x=>x)) (fun x=>x)⟩
   obtain⟨ix,hor⟩:=ae HO i hin
   have hor:=hc.blk ((ae uk).blk hor (fun x=>x)) (fun x=>x)
   have hbx:=hc.blk (ae HB1) (fun x=>x)
   have hbd:=PM om h ⟨id,owner,sym,sd,kind,price,qty⟩ n (ae V9) i hi
   have hob:=ae V9 i hin
   have HSF:Hid (sF om h ⟨id,owner,sym,sd,kind,price,qty⟩ (i+1)=sF om h ⟨id,owner,sym,sd,kind,price,qty⟩ i+(if (om (h i)).owner≠owner∧eQ kind sd price (om (h i)).price=true then (om (h i)).opn else 0)):=rfl
   generalize h i=x at *
   generalize hS:sF om h ⟨id,owner,sym,sd,kind,price,qty⟩ i=S at *
   clear hS
   have o1:wr.cell? ⟨x,1,none⟩=some (.int .i64 (om x).owner):=hor.cell 1
   have o5:wr.cell? ⟨x,5,none⟩=some (.int .i64 (om x).price):=hor.cell 5
   have o8:wr.cell? ⟨x,8,none⟩=some (.int .i64 (om x).opn):=hor.cell 8
   have b0:wr.cell? ⟨H,0,none⟩=some (.int .i64 id):=hbx.cell 0
   have b1:wr.cell? ⟨H,1,none⟩=some (.int .i64 owner):=hbx.cell 1
   have b2:wr.cell? ⟨H,2,none⟩=some (.string sym):=hbx.cell 2
   have b3:wr.cell? ⟨H,3,none⟩=some (.int .i64 sd):=hbx.cell 3
   have b4:wr.cell? ⟨H,4,none⟩=some (.int .i64 kind):=hbx.cell 4
   have b5:wr.cell? ⟨H,5,none⟩=some (.int .i64 price):=hbx.cell 5
   have b6:wr.cell? ⟨H,6,none⟩=some (.int .i64 qty):=hbx.cell 6
   have HI:=hide hor
   clear hor hbx
   by_cases hown:(om x).owner=owner
   ·have hne:((om x).owner != owner)=false:=by simp[hown]
    have HOW:=hide hown
    clear hown
    go_wp2
    go_quiet (fail)
    go_wp2
    go_roundg (n-(i+1))
    case measure=>omega
    case rel=>exact⟨i+1,by push_cast;rfl,by omega,rfl,by rw[ae HSF,if_neg (fun h=>h.1 (ae HOW)),Int.add_zero],hc.drewN _⟩
   ·have hne:((om x).owner != owner)=true:=by simp[hown]
    have HOW:=hide hown
    clear hown
    cases GG:eQ kind sd price (om x).price
    ·go_wp2
     go_region_held3 (fun w'=>w'.cell? ⟨H,0,none⟩=some (.int .i64 id)∧w'.cell? ⟨H,1,none⟩=some (.int .i64 owner)∧w'.cell? ⟨H,2,none⟩=some (.string sym)∧w'.cell? ⟨H,3,none⟩=some (.int .i64 sd)∧w'.cell? ⟨H,4,none⟩=some (.int .i64 kind)∧w'.cell? ⟨H,5,none⟩=some (.int .i64 price)∧w'.cell? ⟨H,6,none⟩=some (.int .i64 qty)∧w'.cell? ⟨x,1,none⟩=some (.int .i64 (om x).owner)∧w'.cell? ⟨x,5,none⟩=some (.int .i64 (om x).price)) (go_keep)
      (first | (go_at_call 155;refine (ng ⟨id,owner,sym,sd,kind,price,qty⟩ _ _).mono ?_;rintro e w3 ⟨rfl,hc3⟩;rw[GG];have k0:=hc3.cell (p:=⟨H,0,none⟩) b0 (fun x=>x);have k1:=hc3.cell (p:=⟨H,1,none⟩) b1 (fun x=>x);have k2:=hc3.cell (p:=⟨H,2,none⟩) b2 (fun x=>x);have k3:=hc3.cell (p:=⟨H,3,none⟩) b3 (fun x=>x);have k4:=hc3.cell (p:=⟨H,4,none⟩) b4 (fun x=>x);have k5:=hc3.cell (p:=⟨H,5,none⟩) b5 (fun x=>x);have k6:=hc3.cell (p:=⟨H,6,none⟩) b6 (fun x=>x);have k7:=hc3.cell (p:=⟨x,1,none⟩) o1 (fun x=>x);have k8:=hc3.cell (p:=⟨x,5,none⟩) o5 (fun x=>x)))
     go_wp2
     go_roundg (n-(i+1))
     case measure=>omega
     case rel=>exact⟨i+1,by push_cast;rfl,by omega,rfl,by rw[ae HSF,if_neg (fun h=>by have:=h.2;rw[GG]at this;cases this),Int.add_zero],ag.trans (by repeat (first | exact hc | refine ag.drewN ?_ _ | refine ag.drew ?_)) hc3⟩
    ·have hwr:wrap64 (S+(om x).opn)=S+(om x).opn:=aF (by omega) (by omega)
     go_wp2
     go_region_held3 (fun w'=>w'.cell? ⟨H,0,none⟩=some (.int .i64 id)∧w'.cell? ⟨H,1,none⟩=some (.int .i64 owner)∧w'.cell? ⟨H,2,none⟩=some (.string sym)∧w'.cell? ⟨H,3,none⟩=some (.int .i64 sd)∧w'.cell? ⟨H,4,none⟩=some (.int .i64 kind)∧w'.cell? ⟨H,5,none⟩=some (.int .i64 price)∧w'.cell? ⟨H,6,none⟩=some (.int .i64 qty)∧w'.cell? ⟨x,1,none⟩=some (.int .i64 (om x).owner)∧w'.cell? ⟨x,5,none⟩=some (.int .i64 (om x).price)) (go_keep)
      (first | (go_at_call 155;refine (ng ⟨id,owner,sym,sd,kind,price,qty⟩ _ _).mono ?_;rintro e w3 ⟨rfl,hc3⟩;rw[GG];have k0:=hc3.cell (p:=⟨H,0,none⟩) b0 (fun x=>x);have k1:=hc3.cell (p:=⟨H,1,none⟩) b1 (fun x=>x);have k2:=hc3.cell (p:=⟨H,2,none⟩) b2 (fun x=>x);have k3:=hc3.cell (p:=⟨H,3,none⟩) b3 (fun x=>x);have k4:=hc3.cell (p:=⟨H,4,none⟩) b4 (fun x=>x);have k5:=hc3.cell (p:=⟨H,5,none⟩) b5 (fun x=>x);have k6:=hc3.cell (p:=⟨H,6,none⟩) b6 (fun x=>x);have k7:=hc3.cell (p:=⟨x,1,none⟩) o1 (fun x=>x);have k8:=hc3.cell (p:=⟨x,5,none⟩) o5 (fun x=>x);have k9:=hc3.cell (p:=⟨x,8,none⟩) o8 (fun x=>x)))
     go_wp2
     go_roundg (n-(i+1))
     case measure=>omega
     case rel=>exact⟨i+1,by push_cast;rfl,by omega,rfl,by rw[ae HSF,if_pos ⟨ae HOW,GG⟩],ag.trans (by repeat (first | exact hc | refine ag.drewN ?_ _ | refine ag.drew ?_)) hc3⟩
  ·obtain rfl:i=n:=by omega
   go_wp2
   go_ret
   exact⟨by rw[ae Qp];rfl,(ae uk).trans hc⟩
theorem tY(bv bm bo i s:Nat)(V:aW)(o:Ask)(w:World)(R:Rep w bv bm bo V)(hi:i<V.nb)(bY:(V.B i).sym=o.sym)(hlen:o.sym.size≤maxLen)
 (h1:bg o.id=true) (h2:V.aO o.id=none) (h3:jJ o.owner=true) (h4:gZ o.side=true) (h5:jY o.kind=true) (h6:bg o.qty=true) (h7:iw o.kind o.price=true) (h8:V.no<200) (h9:o.kind=4) (hs:s<2) (hside:o.side=1-(s:Int)) :
 Calls Tryz.prog 111 #[.pointer (some ⟨bv,0,none⟩),o.val] w fun e w'=>e=.returned (.int .i64 (if (bK (V.B i) V.om o s).isSome then 8 else 0))∧ag ak w w':=by
 obtain⟨fB,mB,pK,ui⟩:=R.books
 obtain⟨fO,mO,wB⟩:=R.orders
 obtain⟨id,owner,sym,side,kind,price,qty⟩:=o
 simp only at bY hlen h1 h2 h3 h4 h5 h6 h7 h9 hside
 simp only[Ask.val]
 have hid:(Lit.int .i64 id).wf=true:=by
  simp[bg]at h1
  exact WalkArith.wf_i64 (by omega)
 have hlb:fB (sl sym)=some (V.bk i):=by rw[←bY];exact pK i hi
 have hlo:fO (.int .i64 id)=none:=by rw[wB,h2]
 obtain⟨w1,hw1⟩:∃w1,w1=w.alloc (.cells #[.int .i64 id,.int .i64 owner,.string sym,.int .i64 side,.int .i64 kind,.int .i64 price,.int .i64 qty] 52):=⟨_,rfl⟩
 have k1:ag ak w w1:=by rw[hw1];exact (ag.refl ak w).alloc _
 have hbx:ai w1 w.heap.size #[.int .i64 id,.int .i64 owner,.string sym,.int .i64 side,.int .i64 kind,.int .i64 price,.int .i64 qty] 52:=by rw[hw1];exact ai.new w _ _
 have L1:∀q,(Instr.lookup 94 (.map (some bm)) (.string sym) false).run Tryz.prog (w1.drewN q)=.ok (.pointer (some ⟨V.bk i,0,none⟩)) (w1.drewN q):=fun q=>by
  rw[(mB.kept (k1.drewN q) (fun x=>x)).look law9 Tryz.underlying94 (mP _) (WideMaps.keyOf_string_mk Tryz.underlying9 hlen)]
  show _=Result.ok (fV (some (V.bk i))) _
  rw[←hlb];rfl
 have L2:∀q,(Instr.lookup 95 (.map (some bo)) (.int .i64 id) false).run Tryz.prog (w1.drewN q)=.ok (.pointer none) (w1.drewN q):=fun q=>by
  rw[(mO.kept (k1.drewN q) (fun x=>x)).look law3 Tryz.underlying95 (sH _) (keyOf_int_mk Tryz.underlying3 hid)]
  show _=Result.ok (fV none) _
  rw[←hlo]
 have L3:∀q,(Builtin.len_ #[95] 3 #[.map (some bo)]).run Tryz.prog (w1.drewN q)=.ok (.int .i64 V.no) (w1.drewN q):=fun q=>(mO.kept (k1.drewN q) (fun x=>x)).len Tryz.underlying95 _
 have v0:w1.cell? ⟨bv,0,none⟩=some (.map (some bm)):=(k1.blk R.cZ (fun x=>x)).cell 0
 have v1:w1.cell? ⟨bv,1,none⟩=some (.map (some bo)):=(k1.blk R.cZ (fun x=>x)).cell 1
 have x0:w1.cell? ⟨w.heap.size,0,none⟩=some (.int .i64 id):=hbx.cell 0
 have x1:w1.cell? ⟨w.heap.size,1,none⟩=some (.int .i64 owner):=hbx.cell 1
 have x2:w1.cell? ⟨w.heap.size,2,none⟩=some (.string sym):=hbx.cell 2
 have x3:w1.cell? ⟨w.heap.size,3,none⟩=some (.int .i64 side):=hbx.cell 3
 have x4:w1.cell? ⟨w.heap.size,4,none⟩=some (.int .i64 kind):=hbx.cell 4
 have x5:w1.cell? ⟨w.heap.size,5,none⟩=some (.int .i64 price):=hbx.cell 5
 have x6:w1.cell? ⟨w.heap.size,6,none⟩=some (.int .i64 qty):=hbx.cell 6
 have e3:(kind == 3)=false:=by rw[h9];rfl
 have e4:(kind == 4)=true:=by rw[h9];rfl
 have HF:=hide (fun (W:World) (hW:aX W (V.bk i) (V.B i) V.om)=>iY (V.bk i) (V.B i) V.om ⟨id,owner,sym,side,kind,price,qty⟩ s W hW hs hside)
 have YL:=hide (R.book i hi)
 have e8:decide ((200:Int)≤(V.no:Int))=false:=by simp;omega
 have HW:=hide hw1
 have HK:=hide k1
 clear hside hw1 k1 hbx h9 hlb hlo pK ui wB mB mO hid
 cases hf:bK (V.B i) V.om ⟨id,owner,sym,side,kind,price,qty⟩ s with
 | none =>
   have Qi:Hid (∀W,aX W (V.bk i) (V.B i) V.om→Calls Tryz.prog 123 #[.pointer (some ⟨V.bk i,0,none⟩),.agg #[.int .i64 id,.int .i64 owner,.string sym,.int .i64 side,.int .i64 kind,.int .i64 price,.int .i64 qty]] W fun e w'=>e=.returned (.pointer none)∧ag ak W w'):=fun W hW=>by
    have:=ae HF W hW
    rw[hf]at this
    exact this
   clear hf HF
   go_enter Tryz.func111,Tryz.ntmps111
   go_wp2
   rw[←ae HW]
   go_quiet (fail)
   go_wp2_with (first | (go_at_call 68;refine (aU _ _).mono ?_;rintro e w' ⟨rfl,rfl⟩) | (go_at_call 144;refine (dC _ _).mono ?_;rintro e w' ⟨rfl,rfl⟩) | (go_at_call 47;refine (dw _ _).mono ?_;rintro e w' ⟨rfl,rfl⟩) | (go_at_call 145;refine (dL _ _).mono ?_;rintro e w' ⟨rfl,rfl⟩) | (go_at_call 146;refine (bU _ _ _).mono ?_;rintro e w' ⟨rfl,rfl⟩))
   go_quiet (fail)
   go_wp2_with (first | (go_at_call 123;refine (ae Qi _ ((ae YL).kept ((ae HK).drewN _) (fun _ _ x=>x))).mono ?_;rintro e w3 ⟨rfl,hc3⟩;have k4:=hc3.cell (p:=⟨w.heap.size,4,none⟩) x4 (fun x=>x)) | (go_at_call 68;refine (aU _ _).mono ?_;rintro e w' ⟨rfl,rfl⟩) | (go_at_call 144;refine (dC _ _).mono ?_;rintro e w' ⟨rfl,rfl⟩) | (go_at_call 47;refine (dw _ _).mono ?_;rintro e w' ⟨rfl,rfl⟩) | (go_at_call 145;refine (dL _ _).mono ?_;rintro e w' ⟨rfl,rfl⟩) | (go_at_call 146;refine (bU _ _ _).mono ?_;rintro e w' ⟨rfl,rfl⟩))
   go_quiet (fail)
   go_wp2
   go_ret
   exact⟨rfl,ag.trans (((ae HK).drewN _)) (hc3.drewN _)⟩
 | some x =>
   have Qi:Hid (∀W,aX W (V.bk i) (V.B i) V.om→Calls Tryz.prog 123 #[.pointer (some ⟨V.bk i,0,none⟩),.agg #[.int .i64 id,.int .i64 owner,.string sym,.int .i64 side,.int .i64 kind,.int .i64 price,.int .i64 qty]] W fun e w'=>e=.returned (.pointer (some ⟨x,0,none⟩))∧ag ak W w'):=fun W hW=>by
    have:=ae HF W hW
    rw[hf]at this
    exact this
   clear hf HF
   go_enter Tryz.func111,Tryz.ntmps111
   go_wp2
   rw[←ae HW]
   go_quiet (fail)
   go_wp2_with (first | (go_at_call 68;refine (aU _ _).mono ?_;rintro e w' ⟨rfl,rfl⟩) | (go_at_call 144;refine (dC _ _).mono ?_;rintro e w' ⟨rfl,rfl⟩) | (go_at_call 47;refine (dw _ _).mono ?_;rintro e w' ⟨rfl,rfl⟩) | (go_at_call 145;refine (dL _ _).mono ?_;rintro e w' ⟨rfl,rfl⟩) | (go_at_call 146;refine (bU _ _ _).mono ?_;rintro e w' ⟨rfl,rfl⟩))
   go_quiet (fail)
   go_wp2_with (first | (go_at_call 123;refine (ae Qi _ ((ae YL).kept ((ae HK).drewN _) (fun _ _ x=>x))).mono ?_;rintro e w3 ⟨rfl,hc3⟩;have k4:=hc3.cell (p:=⟨w.heap.size,4,none⟩) x4 (fun x=>x)) | (go_at_call 68;refine (aU _ _).mono ?_;rintro e w' ⟨rfl,rfl⟩) | (go_at_call 144;refine (dC _ _).mono ?_;rintro e w' ⟨rfl,rfl⟩) | (go_at_call 47;refine (dw _ _).mono ?_;rintro e w' ⟨rfl,rfl⟩) | (go_at_call 145;refine (dL _ _).mono ?_;rintro e w' ⟨rfl,rfl⟩) | (go_at_call 146;refine (bU _ _ _).mono ?_;rintro e w' ⟨rfl,rfl⟩))
   go_ret
   exact⟨rfl,ag.trans ((ae HK).drewN _) hc3⟩
end Go.Proofs.YtigaphnafnpfnaaGreatDoor
