import Derived.Test.YtigaphnafnpfnaaGreatDoorQVC5
import Derived.Test.YtigaphnafnpfnaaGreatDoorQVX14
import Derived.Test.YtigaphnafnpfnaaGreatDoorQVX6
set_option linter.unusedVariables false
set_option linter.unusedSimpArgs false
set_option maxHeartbeats 8000000
set_option maxRecDepth 100000
namespace Go.Proofs.YtigaphnafnpfnaaGreatDoor
open Go.RowKit Go.Maps
attribute [local go_sem ↓] Go.wp_at_zero Go.wp_at_succ
theorem Rep.lookO{w:World}{bv bm bo:Nat}{V:aW}(R:Rep w bv bm bo V){id:Int}(hid:(Lit.int .i64 id).wf=true) :
 (Instr.lookup 95 (.map (some bo)) (.int .i64 id) false).run Tryz.prog w=.ok (fV (V.aO id)) w:=by
 obtain⟨fO,mO,wB⟩:=R.orders
 rw[mO.look law3 Tryz.underlying95 (sH _) (keyOf_int_mk Tryz.underlying3 hid),wB]
theorem Rep.vP{w:World}{bv bm bo:Nat}{V:aW}(R:Rep w bv bm bo V){i:Nat}(hi:i<V.nb)(hlen:(V.B i).sym.size≤maxLen) :
 (Instr.lookup 94 (.map (some bm)) (.string (V.B i).sym) false).run Tryz.prog w=.ok (.pointer (some ⟨V.bk i,0,none⟩)) w:=by
 obtain⟨fB,mB,pK,_⟩:=R.books
 rw[mB.look law9 Tryz.underlying94 (mP _) (WideMaps.keyOf_string_mk Tryz.underlying9 hlen)]
 show _=Result.ok (fV (some (V.bk i))) _
 rw[←pK i hi];rfl
theorem Rep.zk{w:World}{bv bm bo:Nat}{V:aW}(R:Rep w bv bm bo V){i:Nat}(hi:i<V.nb):Mk w (V.bk i) (V.B i) V.om (fun x=>∃id,V.aO id=some x) :=
 ⟨R.book i hi,fun b ⟨id,h⟩=>(R.aQ id b h).2,fun s hs k hk=>R.mem i hi s hs k hk⟩
def dN(o:Ord)(q:Int):Ord:={ o with filled:=wrap64 (o.filled-q),aG:=wrap64 (o.aG+q) }
def fG(o:Ord)(q:Int):Ord:={ o with filled:=wrap64 (o.filled-q),opn:=wrap64 (o.opn+q) }
def fD(o:Ord):Ord:={ o with opn:=0,exp:=wrap64 (o.exp+o.opn) }
theorem uu(b:Nat)(o:Ord)(ix q:Int)(w:World)(ho:bC w b o ix) :
 Calls Tryz.prog 124 #[.pointer (some ⟨b,0,none⟩),.int .i64 q] w fun e w'=>e=.returned (.func (.func 151) #[] #[.pointer (some ⟨w.heap.size+1,0,none⟩),.pointer (some ⟨w.heap.size,0,none⟩)])∧wX w' w.heap.size b o∧bC w' b (dN o q) ix∧ag (fun x=>x=b) w w':=by
 have HA:=hide (kX b o ix w ho)
 have lo:=ho.lt
 go_enter Tryz.func124,Tryz.ntmps124
 go_wp2_with fail
 refine (ae HA).mono ?_
 rintro e w1 ⟨rfl,n1,k1⟩
 have ho1:=k1.blk ho (fun x=>x)
 have h1:w1.cell? ⟨b,9,none⟩=some (.int .i64 o.filled):=ai.cell ho1 9
 have h2:w1.cell? ⟨b,10,none⟩=some (.int .i64 o.aG):=ai.cell ho1 10
 have f1:=ai.frozen ho1 9
 have f2:=ai.frozen ho1 10
 go_wp2
 go_ret
 have k2:=((ag.refl (fun x=>x=b) w1).setCell (p:=⟨b,9,none⟩) (.inl rfl) (.int .i64 (dN o q).filled)).setCell (p:=⟨b,10,none⟩) (.inl rfl) (.int .i64 (dN o q).aG)
 exact⟨rfl,n1.kept k2 (by omega) (by omega),(ho1.set 9 _).set 10 _,k1.aC.trans k2⟩
theorem wo(bb b:Nat)(B:Bk)(om:Nat→Ord)(L:Nat→Prop)(q:Int)(w:World)(m:Mk w bb B om L)(hb:L b) :
 Calls Tryz.prog 124 #[.pointer (some ⟨b,0,none⟩),.int .i64 q] w fun e w'=>∃fn cp,e=.returned (.func fn #[] cp)∧um w' b (om b) w.heap.size fn cp∧Mk w' bb B (upd om b (dN (om b) q)) L∧ag (fun x=>x=b) w w':=by
 obtain⟨ix,ho⟩:=m.aQ b hb
 refine (uu b (om b) ix q w ho).mono ?_
 rintro e w' ⟨rfl,h0,h1,h2⟩
 exact⟨_,_,rfl,⟨rfl,_,Nat.le_refl _,rfl,h0⟩,m.upd ho h2 h1,h2⟩
theorem yE(b:Nat)(o:Ord)(ix q:Int)(w:World)(ho:bC w b o ix) :
 Calls Tryz.prog 125 #[.pointer (some ⟨b,0,none⟩),.int .i64 q] w fun e w'=>e=.returned (.func (.func 151) #[] #[.pointer (some ⟨w.heap.size+1,0,none⟩),.pointer (some ⟨w.heap.size,0,none⟩)])∧wX w' w.heap.size b o∧bC w' b (fG o q) ix∧ag (fun x=>x=b) w w':=by
 have HA:=hide (kX b o ix w ho)
 have lo:=ho.lt
 go_enter Tryz.func125,Tryz.ntmps125
 go_wp2_with fail
 refine (ae HA).mono ?_
 rintro e w1 ⟨rfl,n1,k1⟩
 have ho1:=k1.blk ho (fun x=>x)
 have h1:w1.cell? ⟨b,9,none⟩=some (.int .i64 o.filled):=ai.cell ho1 9
 have h2:w1.cell? ⟨b,8,none⟩=some (.int .i64 o.opn):=ai.cell ho1 8
 have f1:=ai.frozen ho1 9
 have f2:=ai.frozen ho1 8
 go_wp2
 go_ret
 have k2:=((ag.refl (fun x=>x=b) w1).setCell (p:=⟨b,9,none⟩) (.inl rfl) (.int .i64 (fG o q).filled)).setCell (p:=⟨b,8,none⟩) (.inl rfl) (.int .i64 (fG o q).opn)
 exact⟨rfl,n1.kept k2 (by omega) (by omega),(ho1.set 9 _).set 8 _,k1.aC.trans k2⟩
theorem ry(bb b:Nat)(B:Bk)(om:Nat→Ord)(L:Nat→Prop)(q:Int)(w:World)(m:Mk w bb B om L)(hb:L b) :
 Calls Tryz.prog 125 #[.pointer (some ⟨b,0,none⟩),.int .i64 q] w fun e w'=>∃fn cp,e=.returned (.func fn #[] cp)∧um w' b (om b) w.heap.size fn cp∧Mk w' bb B (upd om b (fG (om b) q)) L∧ag (fun x=>x=b) w w':=by
 obtain⟨ix,ho⟩:=m.aQ b hb
 refine (yE b (om b) ix q w ho).mono ?_
 rintro e w' ⟨rfl,h0,h1,h2⟩
 exact⟨_,_,rfl,⟨rfl,_,Nat.le_refl _,rfl,h0⟩,m.upd ho h2 h1,h2⟩
def aW.turn(V:aW)(i:Nat)(B':Bk)(df:Nat→Ord):aW:={ V with B:=upd V.B i B',om:=df }
def Apart(V:aW)(i x:Nat):Prop:=∀j,j<V.nb→j≠i→∀t,t<2→¬bQ (V.B j) t x
theorem Rep.YG{w w':World}{bv bm bo i:Nat}{V:aW}(R:Rep w bv bm bo V)(hi:i<V.nb){B':Bk}{df:Nat→Ord}{S:Nat→Prop}
 (hm:Mk w' (V.bk i) B' df (fun x=>∃id,V.aO id=some x)) {G':Lg} {aY:Lm} (hl:aK w' bv bm bo G' aY) (k:ag (fun x=>S x∨V.lm.F x) w w') (hS:∀x,S x→x=V.bk i∨(∃s,s<2∧bQ (V.B i) s x)∨((∃id,V.aO id=some x)∧Apart V i x))
 (oL:∀j,j<V.nb→j≠i→∀s,s<2→∀l,l<(V.B j).n s→df ((V.B j).h s l)=V.om ((V.B j).h s l)) (hid:∀x,(df x).id=(V.om x).id) (bY:B'.sym=(V.B i).sym)
 (hsd:∀s,s<2→∀x,bQ B' s x→Apart V i x∨w.heap.size≤x):Rep w' bv bm bo { V.turn i B' df with lg:=G',lm:=aY }:=by
 have typ:∀x,S x→∃c t,ai w x c t∧(t=158∨t=116∨t=114):=fun x hx=>by
  refine (R.zk hi).typ ?_
  rcases hS x hx with h | h | ⟨h,_⟩
  ·exact .inl h
  ·exact .inr (.inr h)
  ·exact .inr (.inl h)
 obtain⟨fB,mB,pK,ui⟩:=R.books
 obtain⟨fO,mO,wB⟩:=R.orders
 have nB:¬(S bm∨V.lm.F bm):=by
  rintro (h | h)
  ·obtain⟨c,t,hc,_⟩:=typ bm h;exact mB.ne hc rfl
  ·obtain⟨c,t,hc,_⟩:=R.log.log.typ h;exact mB.ne hc rfl
 have nO:¬(S bo∨V.lm.F bo):=by
  rintro (h | h)
  ·obtain⟨c,t,hc,_⟩:=typ bo h;exact mO.ne hc rfl
  ·obtain⟨c,t,hc,_⟩:=R.log.log.typ h;exact mO.ne hc rfl
 have Gq:∀j,j<V.nb→∀x,x<2→∀y,bQ (V.B j) x y→y<w.heap.size:=fun j hj x hx y h=>by
  rcases h with h | ⟨l,hl,rfl⟩
  ·exact ((R.book j hj).side x hx).lt h
  ·exact (((R.book j hj).side x hx).aQ hl).lt
 have uq:∀s,s<2→∀x,bQ (V.B i) s x→Apart V i x:=fun s hs x hx j hj hne t ht h=>R.oG i j hi hj (fun e=>hne e.symm) s t hs ht x hx h
 have far:∀j,j<V.nb→j≠i→aX w' (V.bk j) (V.B j) df:=fun j hj hne=>by
  have h6:aX w' (V.bk j) (V.B j) V.om:=(R.book j hj).kept k (by
   intro x hxx hSF
   have hx:S x:=hSF.resolve_right (fun hF=>by
    obtain⟨c,t',hc,ht'⟩:=R.log.log.typ hF
    rcases hxx with rfl | ⟨y,hy,h⟩
    ·exact ai.ne (R.book j hj).blk hc (by rcases ht' with rfl | rfl | rfl | rfl | rfl | rfl <;> decide) rfl
    ·rcases h with h | ⟨l,hl,h⟩
     ·exact ((R.book j hj).side y hy).ne hc (by rcases ht' with rfl | rfl | rfl | rfl | rfl | rfl <;> decide) h
     ·subst h;exact ai.ne hc (((R.book j hj).side y hy).aQ hl) (by rcases ht' with rfl | rfl | rfl | rfl | rfl | rfl <;> decide) rfl)
   clear hSF
   rcases hxx with rfl | ⟨y,hy,h⟩
   ·rcases hS _ hx with h | ⟨s,hs,h⟩ | ⟨⟨id,h⟩,_⟩
    ·exact R.uT j i hj hi hne h
    ·rcases h with h | ⟨l,hl,h⟩
     ·exact ((R.book i hi).side s hs).ne (R.book j hj).blk (by decide) h
     ·exact ai.ne (R.book j hj).blk (((R.book i hi).side s hs).aQ hl) (by decide) h
    ·obtain⟨_,ix,ho⟩:=R.aQ id _ h
     exact ai.ne (R.book j hj).blk ho (by decide) rfl
   ·rcases hS _ hx with e | ⟨s,hs,e⟩ | ⟨_,e⟩
    ·rw[e]at h
     rcases h with h | ⟨l,hl,h⟩
     ·exact ((R.book j hj).side y hy).ne (R.book i hi).blk (by decide) h
     ·exact ai.ne (R.book i hi).blk (((R.book j hj).side y hy).aQ hl) (by decide) h
    ·exact uq s hs x e j hj hne y hy h
    ·exact e j hj hne y hy h)
  exact⟨h6.blk,fun y hy=>(h6.side y hy).om (fun l hl=>oL j hj hne y hy l hl),h6.apart,h6.sZ⟩
 refine⟨hl,⟨fB,mB.kept k nB,?_,?_⟩,⟨fO,mO.kept k nO,wB⟩,R.MQ,?_,?_,?_,R.uT,?_,R.eF⟩
 ·intro j hj
  by_cases e:j=i
  ·subst e;simp only[aW.turn,upd_same,bY];exact pK j hj
  ·simp only[aW.turn,af _ _ e];exact pK j hj
 ·intro s' b' h
  obtain⟨j,hj,e1,e2⟩:=ui s' b' h
  refine⟨j,hj,e1,?_⟩
  by_cases e:j=i
  ·subst e;simp only[aW.turn,upd_same,bY];exact e2
  ·simp only[aW.turn,af _ _ e];exact e2
 ·intro j hj
  by_cases e:j=i
  ·subst e;simp only[aW.turn,upd_same];exact hm.book
  ·simp only[aW.turn,af _ _ e];exact far j hj e
 ·intro id x hx
  simp only[aW.turn]at hx ⊢
  rw[hid]
  exact⟨(R.aQ id x hx).1,hm.aQ x ⟨id,hx⟩⟩
 ·intro j hj x hx l hl
  simp only[aW.turn]at hj hl ⊢
  by_cases e:j=i
  ·subst e
   simp only[upd_same]at hl ⊢
   exact hm.mem x hx l hl
  ·simp only[af _ _ e]at hl ⊢
   exact R.mem j hj x hx l hl
 ·intro p q hp hq hne x y hx hy z h1 h2
  have half:∀q,q<V.nb→q≠i→∀x y,x<2→y<2→∀z,bQ B' x z→bQ (V.B q) y z→False:=by
   intro q hq hne x y hx hy z h1 h2
   rcases hsd x hx z h1 with h | h
   ·exact h q hq hne y hy h2
   ·have:=Gq q hq y hy z h2;omega
  simp only[aW.turn]at h1 h2
  by_cases e:p=i
  ·rw[e,upd_same]at h1
   rw[af _ _ (show q≠i by omega)]at h2
   exact half q hq (by omega) x y hx hy z h1 h2
  ·rw[af _ _ e]at h1
   by_cases e2:q=i
   ·rw[e2,upd_same]at h2
    exact half p hp e y x hy hx z h2 h1
   ·rw[af _ _ e2]at h2
    exact R.oG p q hp hq hne x y hx hy z h1 h2
open Go.RowKit
theorem QT:(Tryz.prog.info? 212).map (fun i=>(i.zero.map (fun z=>z.cells.size),i.size,i.bytes))=some (some 13,13,112):=by kernel_rfl
theorem zB:∃i z,Tryz.prog.info? 212=some i∧i.zero=some z∧i.size=13∧i.bytes=112∧z.cells.size=13:=by
 have h:=QT
 cases hi:Tryz.prog.info? 212 with
 | none=>rw[hi]at h;simp at h
 | some i =>
   rw[hi]at h
   simp at h
   obtain⟨⟨z,hz,hs⟩,h2,h3⟩:=h
   exact⟨i,z,rfl,hz,h2,h3,hs⟩
def tK(o:Ask):Ord:=⟨o.id,o.owner,o.sym,o.side,o.kind,o.price,o.qty,o.qty,0,0,0,0,0⟩
def RS.add(S:RS)(o:Ask):RS:={ S with l:=S.l++[tK o] }
theorem UQ(w:World)(o:Ord):∀j u,(qJ o)[j]?=some u→(w.alloc (.cells #[.int .i64 o.id,.int .i64 o.owner,.string o.sym,.int .i64 o.side,.int .i64 o.kind,.int .i64 o.price,.int .i64 o.qty,.int .i64 o.entered,.int .i64 o.opn,.int .i64 o.filled,.int .i64 o.aG,.int .i64 o.exp,.int .i64 o.place] 212)).cell? (Addr.add ⟨w.heap.size,0,none⟩ j)=some u:=by
 intro j u hj
 have hb:=ai.new w #[.int .i64 o.id,.int .i64 o.owner,.string o.sym,.int .i64 o.side,.int .i64 o.kind,.int .i64 o.price,.int .i64 o.qty,.int .i64 o.entered,.int .i64 o.opn,.int .i64 o.filled,.int .i64 o.aG,.int .i64 o.exp,.int .i64 o.place] 212
 have e:Addr.add ⟨w.heap.size,0,none⟩ j=⟨w.heap.size,j,none⟩:=by simp[Addr.add];omega
 rw[e,hb.cell,←hj]
 simp[qJ]
theorem bH.UK{w1 w2:World}{base sb n H g cap:Nat}{S:RS}{m:SM}{r:Ord}(h:bH w1 base sb S m)(hn:S.l.length=n)(hown:w2.ownsRow base 212 13 (.slice (some ⟨g,0,none⟩) (n+1) cap) (n+1) (vM S.l++qJ r))(hgrow:w1.grownBy w2 m.lv.ownBlock)(hat:m.lv.ownBlock=some g∨g=H)(hH:w1.heap.size=H) :
 fP base sb { S with l:=S.l++[r] } m w1 (w2.setCell ⟨sb,1,none⟩ (.slice (some ⟨g,0,none⟩) (n+1) cap)):=by
 have hne:m.lv.ownBlock≠some sb:=fun e=>by obtain⟨cs,hc⟩:=ay h.bI e;exact ai.ne hc h.blk (by decide) rfl
 have hb2:ai w2 sb _ 207:=(hgrow.block sb h.blk.lt (fun e=>hne e.symm)).trans h.blk
 have k1:ag (fun b=>m.lv.ownBlock=some b) w1 w2:=(ag.refl _ w1).grown hgrow (fun k e=>.inl e)
 have k2:ag (fun b=>b=sb) w2 (w2.setCell ⟨sb,1,none⟩ (.slice (some ⟨g,0,none⟩) (n+1) cap)):=(ag.refl (fun b=>b=sb) w2).setCell (p:=⟨sb,1,none⟩) (.inl rfl) _
 have jF:∀{e size n':Nat} {v:Value} {xs:List Value},w1.ownsRow base e size v n' xs→e≠212→e≠207→(w2.setCell ⟨sb,1,none⟩ (.slice (some ⟨g,0,none⟩) (n+1) cap)).ownsRow base e size v n' xs:=fun {e size n' v xs} r h1 h2=>by
  have r1:=aJ (t:=0) r k1 (fun b hb=>by obtain⟨cs,hc⟩:=ay h.bI hb;exact⟨cs,_,hc,fun x=>h1 x.symm⟩)
  exact aJ (t:=0) r1 k2 (fun b hb=>by subst hb;exact⟨_,_,hb2,fun x=>h2 x.symm⟩)
 refine⟨{ m with lv:=.slice (some ⟨g,0,none⟩) (n+1) cap },⟨h.ge,hb2.set 1 _,jF h.jH (by decide) (by decide),?_,jF h.dE (by decide) (by decide),jF h.jS (by decide) (by decide)⟩,?_,?_⟩
 ·simp only[List.length_append,List.length_cons,List.length_nil,hn,vM,uB]
  exact aJ (t:=0) hown k2 (fun b hb=>by subst hb;exact⟨_,_,hb2,by decide⟩)
 ·rintro b (rfl | hb | hb | hb | hb)
  ·exact .inl (.inl rfl)
  ·exact .inl (.inr (.inl hb))
  ·simp only[Value.ownBlock,Option.some.injEq]at hb
   rcases hat with e | e
   ·exact .inl (.inr (.inr (.inl (by rw[e,hb]))))
   ·right;omega
  ·exact .inl (.inr (.inr (.inr (.inl hb))))
  ·exact .inl (.inr (.inr (.inr (.inr hb))))
 ·exact (k1.mono (fun b hb=>.inr (.inr (.inl hb)))).trans (k2.mono (fun b hb=>.inl hb))
theorem wG(base sb:Nat)(S:RS)(m:SM)(x:aP)(w:World)(h:bH w base sb S m)(hx:x.kind=101)(hlen:S.l.length≤1000)(hsy:S.sy.length≤1000)(hop:∀k,k<S.l.length→0≤(ah S.l k).opn∧(ah S.l k).opn≤1000000000000000)(he:lS S x.o≠0) :
 Calls Tryz.prog 138 #[.pointer (some ⟨sb,0,none⟩),x.val] w fun e w'=>e=.returned (.tuple #[bu 0 0 0 0 0,.int .i64 (lS S x.o)])∧fP base sb S.fresh m w w':=by
 have uj:=h.blk.lt
 have v5:w.cell? ⟨sb,5,none⟩=some m.ov:=h.blk.cell 5
 have f5:=h.blk.frozen 5
 have sz:sb≠w.heap.size:=by omega
 have sr:sb≠w.heap.size+1:=by omega
 have sz':=sz.symm
 have MV:=sr.symm
 have tH:sb<w.heap.size+1:=by omega
 have HO:Hid (∀W m',bH W base sb S.fresh m'→Calls Tryz.prog 167 #[.pointer (some ⟨sb,0,none⟩),x.o.val] W fun e w'=>e=.returned (.int .i64 (lS S x.o))∧ag ak W w'):=fun W m' hW=>rD base sb S.fresh m' x.o W hW hlen hsy hop
 obtain⟨E,hE⟩:∃E,lS S x.o=E:=⟨_,rfl⟩
 rw[hE]at HO he ⊢
 have e0:(E == 0)=false:=by simpa using he
 obtain⟨kind,s,⟨id,owner,sym,side,ax,price,qty⟩,a,b,c,again⟩:=x
 simp only at hx
 subst hx
 simp only[aP.val,aP.cells,Ask.val]at HO ⊢
 have HS:=hide h
 clear h hE he hop
 obtain⟨p1,q1,b1,_⟩:=(ae HS).starts #[.int .u8 101,.string s,.int .i64 id,.int .i64 owner,.string sym,.int .i64 side,.int .i64 ax,.int .i64 price,.int .i64 qty,.int .i64 a,.int .i64 b,.int .i64 c,.bool again]
 obtain⟨W1,hW1⟩:∃W1,W1=(((w.setCell ⟨sb,5,none⟩ (.slice none 0 0)).alloc (.cells #[.int .u8 101,.string s,.int .i64 id,.int .i64 owner,.string sym,.int .i64 side,.int .i64 ax,.int .i64 price,.int .i64 qty,.int .i64 a,.int .i64 b,.int .i64 c,.bool again] 169)).alloc (.cells aB 87)):=⟨_,rfl⟩
 rw[←hW1]at p1 q1 b1
 have HC:=hide (ae HO _ _ p1)
 have HN:Hid (fP base sb S.fresh m w W1):=fP.mi (ae HS) q1 (fP.refl p1)
 have HB:=hide b1
 have HW1:=hide hW1
 simp only[aB]at HW1
 clear p1 q1 b1 HO hW1
 go_enter Tryz.func138,Tryz.ntmps138
 go_wp2_with fail
 rw[←ae HW1]
 refine (ae HC).mono ?_
 rintro e w3 ⟨rfl,k3⟩
 have b3:=k3.blk (ae HB) (fun x=>x)
 have J5:=hide ((ae HN).ext k3)
 have z0:w3.cell? ⟨w.heap.size+1,0,none⟩=some (.int .i64 0):=b3.cell 0
 have z1:w3.cell? ⟨w.heap.size+1,1,none⟩=some (.int .i64 0):=b3.cell 1
 have z2:w3.cell? ⟨w.heap.size+1,2,none⟩=some (.int .i64 0):=b3.cell 2
 have z3:w3.cell? ⟨w.heap.size+1,3,none⟩=some (.int .i64 0):=b3.cell 3
 have z4:w3.cell? ⟨w.heap.size+1,4,none⟩=some (.int .i64 0):=b3.cell 4
 have fz0:=b3.frozen 0
 have BV:=b3.frozen 1
 have BX:=b3.frozen 2
 have fz3:=b3.frozen 3
 have BZ:=b3.frozen 4
 have HB3:=hide b3
 clear k3 b3
 go_wp2
 refine bodyPost_ret (mM _ (w.heap.size+1) _ 0 0 0 0 0 E rfl rfl ?_) rfl ⟨rfl,?_⟩
 ·exact qj (ae HB3) _ _ _ _ _
 ·exact (ae J5).off (ae HB3) (by omega) (mX _ _ _ _ _)
end Go.Proofs.YtigaphnafnpfnaaGreatDoor
