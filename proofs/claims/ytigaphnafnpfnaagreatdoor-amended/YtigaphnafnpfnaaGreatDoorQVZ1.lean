import Derived.Test.YtigaphnafnpfnaaGreatDoorQVJ5
import Derived.Test.YtigaphnafnpfnaaGreatDoorQVX6
import Derived.Test.YtigaphnafnpfnaaGreatDoorQVE12
import Derived.Test.YtigaphnafnpfnaaGreatDoorQVF3
import Derived.Test.YtigaphnafnpfnaaGreatDoorQVX11
import Derived.Test.YtigaphnafnpfnaaGreatDoorQVC5
set_option linter.unusedVariables false
set_option linter.unusedSimpArgs false
set_option maxHeartbeats 8000000
set_option maxRecDepth 100000
namespace Go.Proofs.YtigaphnafnpfnaaGreatDoor
open Go.RowKit Go.Maps
attribute [local go_sem ↓] Go.wp_at_zero Go.wp_at_succ
theorem pJ(o:Ask)(taken there full cross whole:Bool) :
 (bg o.id=false∧bD o taken there full cross whole=1)∨(bg o.id=true∧taken=true∧bD o taken there full cross whole=2)∨(bg o.id=true∧taken=false∧(
 (jJ o.owner=false∧bD o taken there full cross whole=4)∨(jJ o.owner=true∧gZ o.side=false∧bD o taken there full cross whole=4)∨(jJ o.owner=true∧gZ o.side=true∧(
 (jY o.kind=false∧bD o taken there full cross whole=5)∨(jY o.kind=true∧(
 (bg o.qty=false∧bD o taken there full cross whole=4)∨(bg o.qty=true∧iw o.kind o.price=false∧bD o taken there full cross whole=4)∨(bg o.qty=true∧iw o.kind o.price=true∧(
 (there=false∧bD o taken there full cross whole=6)∨(there=true∧full=true∧bD o taken there full cross whole=7)∨(there=true∧full=false∧bD o taken there full cross whole=if o.kind=4∧cross=true then 8 else if o.kind=3∧whole=true then 9 else 0))))))))):=by
 unfold bD
 cases bg o.id <;> cases taken <;> cases jJ o.owner <;> cases gZ o.side <;> cases jY o.kind <;> cases bg o.qty <;> cases iw o.kind o.price <;> cases there <;> cases full <;> simp
theorem zJ(bv bm bo:Nat)(V:aW)(o:Ask)(w:World)(R:Rep w bv bm bo V)(hlen:o.sym.size≤maxLen)(hid:(Lit.int .i64 o.id).wf=true)(cross whole there:Bool)(hth:(there=true∧∃i,i<V.nb∧(V.B i).sym=o.sym)∨(there=false∧∀i,i<V.nb→(V.B i).sym≠o.sym))
 (hE:there=false∨200≤V.no∨bD o (V.aO o.id).isSome there (decide (200≤V.no)) cross whole≠if o.kind=4∧cross=true then 8 else if o.kind=3∧whole=true then 9 else 0) :
 Calls Tryz.prog 111 #[.pointer (some ⟨bv,0,none⟩),o.val] w fun e w'=>e=.returned (.int .i64 (bD o (V.aO o.id).isSome there (decide (200≤V.no)) cross whole))∧ag ak w w':=by
 obtain⟨fB,mB,pK,ui⟩:=R.books
 obtain⟨fO,mO,wB⟩:=R.orders
 have hc:=pJ o (V.aO o.id).isSome there (decide (200≤V.no)) cross whole
 obtain⟨E,hEE⟩:∃E,bD o (V.aO o.id).isSome there (decide (200≤V.no)) cross whole=E:=⟨_,rfl⟩
 rw[hEE]at hc hE ⊢
 obtain⟨oB,hoB,hB1⟩:∃oB,fB (sl o.sym)=oB∧((there=true∧∃b,oB=some b)∨(there=false∧oB=none)):=by
  refine⟨_,rfl,?_⟩
  rcases hth with⟨ht,i,hi,hs⟩ | ⟨ht,hn⟩
  ·left;exact⟨ht,V.bk i,by rw[←hs];exact pK i hi⟩
  ·right;refine⟨ht,?_⟩
   cases hx:fB (sl o.sym) with
   | none=>rfl
   | some b=>obtain⟨i,hi,_,e⟩:=ui _ _ hx;exact absurd e (hn i hi)
 obtain⟨oO,hoO⟩:∃oO,V.aO o.id=oO:=⟨_,rfl⟩
 have hlo:fO (.int .i64 o.id)=oO:=by rw[wB,hoO]
 rw[hoO]at hc
 obtain⟨id,owner,sym,side,kind,price,qty⟩:=o
 simp only at hlen hid hoB hlo hc hE
 simp only[Ask.val]
 obtain⟨w1,hw1⟩:∃w1,w1=w.alloc (.cells #[.int .i64 id,.int .i64 owner,.string sym,.int .i64 side,.int .i64 kind,.int .i64 price,.int .i64 qty] 52):=⟨_,rfl⟩
 have k1:ag ak w w1:=by rw[hw1];exact (ag.refl ak w).alloc _
 have hbx:ai w1 w.heap.size #[.int .i64 id,.int .i64 owner,.string sym,.int .i64 side,.int .i64 kind,.int .i64 price,.int .i64 qty] 52:=by rw[hw1];exact ai.new w _ _
 have L1:∀q,(Instr.lookup 94 (.map (some bm)) (.string sym) false).run Tryz.prog (w1.drewN q)=.ok (fV oB) (w1.drewN q):=fun q=>by
  rw[(mB.kept (k1.drewN q) (fun x=>x)).look law9 Tryz.underlying94 (mP _) (WideMaps.keyOf_string_mk Tryz.underlying9 hlen)]
  show _=Result.ok (fV oB) _
  rw[←hoB];rfl
 have L2:∀q,(Instr.lookup 95 (.map (some bo)) (.int .i64 id) false).run Tryz.prog (w1.drewN q)=.ok (fV oO) (w1.drewN q):=fun q=>by
  rw[(mO.kept (k1.drewN q) (fun x=>x)).look law3 Tryz.underlying95 (sH _) (keyOf_int_mk Tryz.underlying3 hid)]
  show _=Result.ok (fV oO) _
  rw[←hlo]
 have L3:∀q,(Builtin.len_ #[95] 3 #[.map (some bo)]).run Tryz.prog (w1.drewN q)=.ok (.int .i64 V.no) (w1.drewN q):=fun q=>(mO.kept (k1.drewN q) (fun x=>x)).len Tryz.underlying95 _
 have v0:w1.cell? ⟨bv,0,none⟩=some (.map (some bm)):=(k1.blk R.cZ (fun x=>x)).cell 0
 have v1:w1.cell? ⟨bv,1,none⟩=some (.map (some bo)):=(k1.blk R.cZ (fun x=>x)).cell 1
 have x0:w1.cell? ⟨w.heap.size,0,none⟩=some (.int .i64 id):=hbx.cell 0
 have x1:w1.cell? ⟨w.heap.size,1,none⟩=some (.int .i64 owner):=hbx.cell 1
 have x2:w1.cell? ⟨w.heap.size,2,none⟩=some (.string sym):=hbx.cell 2
 have x3:w1.cell? ⟨w.heap.size,3,none⟩=some (.int .i64 side):=hbx.cell 3
 have x4:w1.cell? ⟨w.heap.size,4,none⟩=some (.int .i64 kind):=hbx.cell 4
 have x5:w1.cell? ⟨w.heap.size,5,none⟩=some (.int .i64 price):=hbx.cell 5
 have x6:w1.cell? ⟨w.heap.size,6,none⟩=some (.int .i64 qty):=hbx.cell 6
 have HW:=hide hw1
 have HK:=hide k1
 obtain⟨N,hN⟩:∃N,V.no=N:=⟨_,rfl⟩
 rw[hN]at hc hE L3
 clear hw1 k1 hbx hoB hlo pK ui wB mB mO hid hEE hoO hth R hN
 rcases hc with⟨h1,rfl⟩ | ⟨h1,h2,rfl⟩ | ⟨h1,h2,hc⟩
 ·clear hE hB1 L2 L3
  go_enter Tryz.func111,Tryz.ntmps111
  go_wp2
  rw[←ae HW]
  go_quiet (fail)
  go_wp2_with (first | (go_at_call 68;refine (aU _ _).mono ?_;rintro e w' ⟨rfl,rfl⟩))
  go_ret
  exact⟨rfl,(ae HK).drewN _⟩
 ·obtain⟨b,rfl⟩:∃b,oO=some b:=by cases oO <;> simp at h2 ⊢
  simp only[fV]at L2
  clear hE hB1 L3
  go_enter Tryz.func111,Tryz.ntmps111
  go_wp2
  rw[←ae HW]
  go_quiet (fail)
  go_wp2_with (first | (go_at_call 68;refine (aU _ _).mono ?_;rintro e w' ⟨rfl,rfl⟩))
  go_quiet (fail)
  go_wp2
  go_ret
  exact⟨rfl,((ae HK).drewN _).drewN _⟩
 ·obtain rfl:oO=none:=by cases oO <;> simp at h2 ⊢
  simp only[fV]at L2
  rcases hc with⟨h3,rfl⟩ | ⟨h3,h4,rfl⟩ | ⟨h3,h4,⟨h5,rfl⟩ | ⟨h5,⟨h6,rfl⟩ | ⟨h6,h7,rfl⟩ | ⟨h6,h7,⟨h8,rfl⟩ | ⟨h8,h9,rfl⟩ | ⟨h8,h9,rfl⟩⟩⟩⟩
  case inr.inr.inr.inr.inr.inr.inr.inr.inl =>
   obtain⟨b,rfl⟩:∃b,oB=some b:=by
    rcases hB1 with⟨_,hx⟩ | ⟨hx,_⟩
    ·exact hx
    ·rw[h8]at hx;exact absurd hx (by decide)
   have e8:decide ((200:Int)≤(N:Int))=true:=by simp at h9 ⊢;omega
   simp only[fV]at L1
   clear hE hB1 h9 h8
   go_enter Tryz.func111,Tryz.ntmps111
   go_wp2
   rw[←ae HW]
   go_quiet (fail)
   go_wp2_with (first | (go_at_call 68;refine (aU _ _).mono ?_;rintro e w' ⟨rfl,rfl⟩) | (go_at_call 144;refine (dC _ _).mono ?_;rintro e w' ⟨rfl,rfl⟩) | (go_at_call 47;refine (dw _ _).mono ?_;rintro e w' ⟨rfl,rfl⟩) | (go_at_call 145;refine (dL _ _).mono ?_;rintro e w' ⟨rfl,rfl⟩) | (go_at_call 146;refine (bU _ _ _).mono ?_;rintro e w' ⟨rfl,rfl⟩))
   go_quiet (fail)
   go_wp2_with (first | (go_at_call 68;refine (aU _ _).mono ?_;rintro e w' ⟨rfl,rfl⟩) | (go_at_call 144;refine (dC _ _).mono ?_;rintro e w' ⟨rfl,rfl⟩) | (go_at_call 47;refine (dw _ _).mono ?_;rintro e w' ⟨rfl,rfl⟩) | (go_at_call 145;refine (dL _ _).mono ?_;rintro e w' ⟨rfl,rfl⟩) | (go_at_call 146;refine (bU _ _ _).mono ?_;rintro e w' ⟨rfl,rfl⟩))
   go_ret
   exact⟨rfl,(ae HK).drewN _⟩
  case inr.inr.inr.inr.inr.inr.inr.inr.inr =>
   exfalso
   rcases hE with hx | hx | hx
   ·rw[h8]at hx;exact absurd hx (by decide)
   ·simp at h9;omega
   ·exact hx rfl
  case inr.inr.inr.inr.inr.inr.inr.inl =>
   obtain rfl:oB=none:=by
    rcases hB1 with⟨hx,_⟩ | ⟨_,hx⟩
    ·rw[h8]at hx;exact absurd hx (by decide)
    ·exact hx
   simp only[fV]at L1
   clear hE hB1 h8
   go_enter Tryz.func111,Tryz.ntmps111
   go_wp2
   rw[←ae HW]
   go_quiet (fail)
   go_wp2_with (first | (go_at_call 68;refine (aU _ _).mono ?_;rintro e w' ⟨rfl,rfl⟩) | (go_at_call 144;refine (dC _ _).mono ?_;rintro e w' ⟨rfl,rfl⟩) | (go_at_call 47;refine (dw _ _).mono ?_;rintro e w' ⟨rfl,rfl⟩) | (go_at_call 145;refine (dL _ _).mono ?_;rintro e w' ⟨rfl,rfl⟩) | (go_at_call 146;refine (bU _ _ _).mono ?_;rintro e w' ⟨rfl,rfl⟩))
   go_quiet (fail)
   go_wp2_with (first | (go_at_call 68;refine (aU _ _).mono ?_;rintro e w' ⟨rfl,rfl⟩) | (go_at_call 144;refine (dC _ _).mono ?_;rintro e w' ⟨rfl,rfl⟩) | (go_at_call 47;refine (dw _ _).mono ?_;rintro e w' ⟨rfl,rfl⟩) | (go_at_call 145;refine (dL _ _).mono ?_;rintro e w' ⟨rfl,rfl⟩) | (go_at_call 146;refine (bU _ _ _).mono ?_;rintro e w' ⟨rfl,rfl⟩))
   go_ret
   exact⟨rfl,(ae HK).drewN _⟩
  all_goals
   clear hE hB1
   go_enter Tryz.func111,Tryz.ntmps111
   go_wp2
   rw[←ae HW]
   go_quiet (fail)
   go_wp2_with (first | (go_at_call 68;refine (aU _ _).mono ?_;rintro e w' ⟨rfl,rfl⟩) | (go_at_call 144;refine (dC _ _).mono ?_;rintro e w' ⟨rfl,rfl⟩) | (go_at_call 47;refine (dw _ _).mono ?_;rintro e w' ⟨rfl,rfl⟩) | (go_at_call 145;refine (dL _ _).mono ?_;rintro e w' ⟨rfl,rfl⟩) | (go_at_call 146;refine (bU _ _ _).mono ?_;rintro e w' ⟨rfl,rfl⟩))
   go_quiet (fail)
   go_wp2_with (first | (go_at_call 68;refine (aU _ _).mono ?_;rintro e w' ⟨rfl,rfl⟩) | (go_at_call 144;refine (dC _ _).mono ?_;rintro e w' ⟨rfl,rfl⟩) | (go_at_call 47;refine (dw _ _).mono ?_;rintro e w' ⟨rfl,rfl⟩) | (go_at_call 145;refine (dL _ _).mono ?_;rintro e w' ⟨rfl,rfl⟩) | (go_at_call 146;refine (bU _ _ _).mono ?_;rintro e w' ⟨rfl,rfl⟩))
   go_ret
   exact⟨rfl,(ae HK).drewN _⟩
def D6(bv bm bo i b s t k:Nat)(V:aW)(lI:Lm)(price qty:Int)(w:World)(v:Value)(w':World):Prop :=
 lh bv (V.bk i) b s t bm bo ⟨(V.B i).leave V.om t k,upd V.om b (fZ (V.om b) price qty),V.lg.moved b (V.om b)⟩ lI (fun x=>∃id,V.aO id=some x) w v w'
theorem Dp(bv bm bo b i s t k:Nat)(V:aW)(id price qty:Int)(w:World)(R:Rep w bv bm bo V)(hT:Tab w)(hid:(Lit.int .i64 id).wf=true)(hn:V.aO id=some b)(h0:(V.om b).opn≠0)(hp:bg price=true)(hq:bg qty=true)(hi:i<V.nb)(bY:(V.om b).sym=(V.B i).sym)(hlen:(V.B i).sym.size≤maxLen)
 (hs:s<2) (ht:t=1-s) (hk:k<(V.B i).n t) (hkb:(V.B i).h t k=b) (hside:(V.om b).side=(t:Int)) (hnk:¬(price=(V.om b).price∧qty≤(V.om b).opn))
 (iv:Inv b s ⟨(V.B i).leave V.om t k,upd V.om b (fZ (V.om b) price qty),V.lg.moved b (V.om b)⟩) (hcn:(V.B i).n t<1000) (hcs:(V.B i).n s≤250) (hl1:V.lg.tp.length+300<1000000000) (hl2:V.lg.tr.length+300<1000000000) (hna:V.lg.na<3000000) :
 Calls Tryz.prog 38 #[.pointer (some ⟨bv,0,none⟩),.int .i64 id,.int .i64 price,.int .i64 qty] w fun e w'=>∃v w3 lI,e=.returned (.tuple #[v,.int .i64 0])∧ag (fun x=>x=bv∨V.lm.F x∨x=V.bk i∨x=b∨bQ (V.B i) t x) w w3∧(∀x,lI.F x→V.lm.F x∨w.heap.size≤x)∧∃w4,D6 bv bm bo i b s t k V lI price qty w3 v w4∧ai w4 w.heap.size aB 87∧ag (fun x=>x=w.heap.size) w4 w':=by
 have t2:t<2:=by omega
 obtain⟨wa,La⟩:∃wa,wa=w.alloc (.cells aB 87):=⟨_,rfl⟩
 have ka:ag ak w wa:=by rw[La];exact (ag.refl ak w).alloc _
 have hra:ai wa w.heap.size aB 87:=by rw[La];exact ai.new w _ _
 have L2:=(R.aj ka).lookO hid
 rw[hn]at L2
 simp only[fV]at L2
 rw[La]at L2
 simp only[aB]at L2
 obtain⟨-,ix,ho⟩:=R.aQ id b hn
 have o8:w.cell? ⟨b,8,none⟩=some (.int .i64 (V.om b).opn):=ho.cell 8
 have v1:w.cell? ⟨bv,1,none⟩=some (.map (some bo)):=R.cZ.cell 1
 have lv:=R.cZ.lt
 have lo:=ho.lt
 have lb:=(R.book i hi).blk.lt
 have e0:((V.om b).opn == 0)=false:=by simp[h0]
 have hinj:qP ((V.B i).n t) ((V.B i).h t):=((R.book i hi).side t t2).inj
 have hnew:∀x,x<2→∀l,l<((V.B i).leave V.om t k).n x→((V.B i).leave V.om t k).h x l≠b:=by
  intro x hx l hl
  by_cases e:x=t
  ·subst e
   obtain⟨k',_,e',hne⟩:=lG (om:=V.om) hinj hk l hl
   rw[e',←hkb];exact hne
  ·simp only[Bk.leave,af _ _ e]at hl ⊢
   rw[←hkb]
   have hd:=(R.book i hi).sZ
   have:(x=0∧t=1)∨(x=1∧t=0):=by omega
   rcases this with⟨rfl,rfl⟩ | ⟨rfl,rfl⟩
   ·exact hd l k hl hk
   ·exact fun e=>hd k l hk hl e.symm
 have hmu:mu b s ⟨(V.B i).leave V.om t k,upd V.om b (fZ (V.om b) price qty),V.lg.moved b (V.om b)⟩≤251:=by
  unfold mu
  simp only[Bk.leave]
  rw[af _ _ (by omega)]
  split <;> omega
 have VT:Hid (∀W lI,Mk W (V.bk i) ((V.B i).leave V.om t k) (upd V.om b (fZ (V.om b) price qty)) (fun x=>∃id,V.aO id=some x)→aK W bv bm bo (V.lg.moved b (V.om b)) lI→Calls Tryz.prog 70 #[.pointer (some ⟨bv,0,none⟩),.pointer (some ⟨V.bk i,0,none⟩),.pointer (some ⟨b,0,none⟩)] W fun e w'=>∃v,e=.returned v∧D6 bv bm bo i b s t k V lI price qty W v w'):=by
  intro W lI m hl
  refine Ew bv (V.bk i) b s t bm bo ⟨(V.B i).leave V.om t k,upd V.om b (fZ (V.om b) price qty),V.lg.moved b (V.om b)⟩ lI _ W hl m hs ht ⟨id,hn⟩ iv (fun x hx l hl=>hnew x hx l hl) (by simp only[Bk.leave,upd_same];omega) 999999999 (by omega) ?_ ?_ ?_ ?_ ?_
  ·simp only[Lg.moved,Lg.begun,Lg.aS]at hmu ⊢;omega
  ·simp only[Lg.moved,Lg.begun,Lg.aS]at hmu ⊢;omega
  ·show 0<V.lg.na+1;omega
  ·show V.lg.na+1≤3000000;omega
  ·simp only[Lg.moved,Lg.begun,Lg.aS,List.nil_append,List.length_cons,List.length_nil]at hmu ⊢;omega
 have HW:Hid (wa=w.alloc (.cells #[.int .i64 0,.int .i64 0,.int .i64 0,.int .i64 0,.int .i64 0] 87)):=La
 have xO:=ou ⟨#[114,101,112,108,97,99,101]⟩ (three id price qty) 3 wa (hT.aj ka) (by decide) (by decide) (by omega) (fun i hi=>by
  match i,hi with
  | 0,_=>exact bounds_i64 hid
  | 1,_=>exact pU (by simp[bg]at hp;show -1000000≤price∧price≤1000000;omega)
  | 2,_=>exact pU (by simp[bg]at hq;show -1000000≤qty∧qty≤1000000;omega))
 generalize fC (three id price qty) ⟨#[114,101,112,108,97,99,101]⟩ 3=ln at xO
 have kL:=hide (jL bv bm bo V.lg V.lm ln wa (R.aj ka).log hna xO.1.1 xO.1.2)
 have RU:=hide xO.2
 have hsz:wa.heap.size=w.heap.size+1:=by rw[La];simp
 have J3:Hid (∀i,i<3→(wa.alloc (.cells #[.int .i64 id,.int .i64 price,.int .i64 qty] 3)).cell? ⟨w.heap.size+1,i,none⟩=some (.int .i64 (three id price qty i))):=by
  intro i hi
  rw[←hsz]
  match i,hi with
  | 0,_=>exact (ai.new wa _ _).cell 0
  | 1,_=>exact (ai.new wa _ _).cell 1
  | 2,_=>exact (ai.new wa _ _).cell 2
 clear xO hsz
 have HR:=hide R
 have HKB:=hide hkb
 have hkp:((price == (V.om b).price) && decide (qty≤(V.om b).opn))=false:=by
  cases h1:(price == (V.om b).price)
  ·rfl
  ·have:price=(V.om b).price:=by simpa using h1
   have:¬qty≤(V.om b).opn:=fun h=>hnk ⟨this,h⟩
   simp[this]
 have YP:=hide hkp
 have HN:=hide hn
 have Np:=hide bY
 have Wu:=hide hside
 clear R hn ho h0 bY hkb hside hnk iv hnew hinj hkp La hmu
 go_enter Tryz.func38,Tryz.ntmps38
 go_wp2_with (first | (go_at_call 68;refine (aU _ _).mono ?_;rintro e w' ⟨rfl,rfl⟩) | fail)
 rw[←ae HW]
 refine (ae RU _ ((ag.refl ak wa).alloc _) _ _ (ae J3)).mono ?_
 rintro e wl ⟨rfl,kl⟩
 have D9:=hide kl
 clear kl
 go_wp2_with fail
 refine (ae kL _ (ae D9)).mono ?_
 rintro e wb ⟨rfl,lJ,hLb,oQ,kb,-,-⟩
 clear RU D9 J3
 clear L2 o8 v1
 have Rb:=((ae HR).aj ka).jX hLb kb
 have hnb:({ V with lg:=V.lg.begun,lm:=lJ }:aW).aO id=some b:=ae HN
 obtain⟨-,ixb,hob⟩:=Rb.aQ id b hnb
 have o8:wb.cell? ⟨b,8,none⟩=some (.int .i64 (V.om b).opn):=ai.cell hob 8
 have o5:wb.cell? ⟨b,5,none⟩=some (.int .i64 (V.om b).price):=ai.cell hob 5
 have o2:wb.cell? ⟨b,2,none⟩=some (.string (V.B i).sym):=by rw[←ae Np];exact ai.cell hob 2
 have v0:wb.cell? ⟨bv,0,none⟩=some (.map (some bm)):=Rb.cZ.cell 0
 have L1:∀q,(Instr.lookup 94 (.map (some bm)) (.string (V.B i).sym) false).run Tryz.prog (wb.drewN q)=.ok (.pointer (some ⟨V.bk i,0,none⟩)) (wb.drewN q):=fun q=>Rb.Iu hi hlen q
 have yG:∀x,w.heap.size≤x→¬(x=bv∨V.lm.F x):=by
  rintro x hx (e | e)
  ·omega
  ·have:=(ae HR).log.log.lt e;omega
 have hrb:=kb.blk hra (yG _ (Nat.le_refl _))
 have uC:∀x,lJ.F x→V.lm.F x∨w.heap.size≤x:=fun x h=>(oQ x h).imp_right (fun h=>Nat.le_trans ka.size h)
 have JH:ag (fun x=>x=bv∨V.lm.F x) w wb:=ka.aC.trans kb
 have TB:=hide (fun q=>nC (V.bk i) (V.B i) V.om (fun x=>∃id,V.aO id=some x) t k (wb.drewN q) ((Rb.aj ((ag.refl ak wb).drewN q)).zk hi) t2 hk (by rw[ae HKB];exact ae Wu))
 rw[ae HKB]at TB
 have ZA:=hide (fun (W:World) (m:Mk W (V.bk i) ((V.B i).leave V.om t k) V.om (fun x=>∃id,V.aO id=some x))=>Ed (V.bk i) b ((V.B i).leave V.om t k) V.om _ price qty W m ⟨id,ae HN⟩)
 have oH:Hid (∀q w2 w3 wC cp2 qH cp3,Mk w2 (V.bk i) ((V.B i).leave V.om t k) V.om (fun x=>∃id,V.aO id=some x)→ag (fun x=>x=V.bk i∨bQ (V.B i) t x) (wb.drewN q) w2→Mk w3 (V.bk i) ((V.B i).leave V.om t k) (upd V.om b (fZ (V.om b) price qty)) (fun x=>∃id,V.aO id=some x)→ag (fun x=>x=b) w2 w3 →
  Calls Tryz.prog 53 #[.pointer (some ⟨bv,0,none⟩),.slice (some ⟨w3.heap.size,0,none⟩) 2 2] (w3.alloc (.cells #[.func wC #[] cp2,.func qH #[] cp3] 1)) fun e w'=>e=.returned (.tuple #[]) ∧
   Mk w' (V.bk i) ((V.B i).leave V.om t k) (upd V.om b (fZ (V.om b) price qty)) (fun x=>∃id,V.aO id=some x)∧∃lI,aK w' bv bm bo (V.lg.moved b (V.om b)) lI∧(∀x,lI.F x→V.lm.F x∨w.heap.size≤x)∧ag (fun x=>x=bv∨V.lm.F x∨x=V.bk i∨x=b∨bQ (V.B i) t x) w w'∧ai w' w.heap.size aB 87):=by
  intro q w2 w3 wC cp2 qH cp3 m2 k2 m3 k3
  have h2:=(hLb.aj ((ag.refl ak wb).drewN q)).iI k2 (fun x h=>((Rb.aj ((ag.refl ak wb).drewN q)).zk hi).typ (by
   rcases h with h | h
   ·exact .inl h
   ·exact .inr (.inr ⟨t,t2,h⟩)))
  have h3:=h2.iI k3 (fun x h=>by subst h;exact m2.typ (.inr (.inl ⟨id,ae HN⟩)))
  have hr2:=k2.blk (hrb.drewN q) (by
   rintro (h | h)
   ·omega
   ·have:=((ae HR).zk hi).Bd t2 h;omega)
  have hr3:=k3.blk hr2 (fun h=>by omega)
  refine (JO bv bm bo _ lJ (.left b) (.now b (V.om b)) wC qH cp2 cp3 w3 h3 (by show 0<V.lg.na+1;omega) (by show V.lg.na+1≤3000000;omega) (by show 0+2<1000000000;omega)).mono ?_
  rintro e w' ⟨rfl,aY,a1,a2,a3⟩
  have Ig:ag (fun x=>x=bv∨V.lm.F x∨x=V.bk i∨x=b∨bQ (V.B i) t x) w w3:=((JH.mono (fun x h=>h.imp_right .inl)).drewN q).trans ((k2.mono (fun x h=>by rcases h with h | h;exact .inr (.inr (.inl h));exact .inr (.inr (.inr (.inr h))))).trans (k3.mono (fun x h=>.inr (.inr (.inr (.inl h))))))
  refine⟨rfl,m3.gK h3 (a3.mono (fun _ h=>.inr h)),aY,a1,fun x hx=>?_,Ig.from (a3.mono (fun x h=>(uC x h).imp_left (fun h=>.inr (.inl h)))),a3.blk hr3 (h3.log.ne hr3 (by decide) (by decide) (by decide))⟩
  rcases a2 x hx with h | h
  ·exact uC x h
  ·exact .inr (Nat.le_trans Ig.size h)
 clear hob hnb Rb hLb oQ kb kL Np Wu yG hrb uC JH ka hra HW
 have e1:(price == (V.om b).price)=false∨((price == (V.om b).price)=true∧decide (qty≤(V.om b).opn)=false):=by
  have:=ae YP
  cases h1:(price == (V.om b).price)
  ·exact .inl rfl
  ·rw[h1]at this;exact .inr ⟨rfl,by simpa using this⟩
 rcases e1 with e1 | ⟨e1,e2⟩
 all_goals
  go_wp2
  go_quiet (fail)
  go_wp2_with fail
  refine (ae TB _).mono ?_
  rintro e w2 ⟨wC,cp2,rfl,-,m2,k2⟩
  go_wp2_with fail
  refine (ae ZA w2 m2).mono ?_
  rintro e w3 ⟨qH,cp3,rfl,-,m3,k3⟩
  go_wp2_with fail
  refine (ae oH _ w2 w3 wC cp2 qH cp3 m2 k2 m3 k3).mono ?_
  rintro e w4 ⟨rfl,m4,lI,hl4,hf4,JG,hr4⟩
  have PZ:=hide (ae VT w4 lI m4 hl4)
  have Ve:=hide m4
  have YR:=hide hl4
  have HR4:=hide hr4
  clear m2 k2 m3 k3 m4 hl4 hr4
  go_wp2_with fail
  refine (ae PZ).mono ?_
  rintro e w5 ⟨v,rfl,Uo⟩
  obtain⟨f,r,c,a,n,hrep⟩:=Gf ((⟨(V.B i).leave V.om t k,upd V.om b (fZ (V.om b) price qty),V.lg.moved b (V.om b)⟩:MS).om b) (aA b (mF b s ⟨(V.B i).leave V.om t k,upd V.om b (fZ (V.om b) price qty),V.lg.moved b (V.om b)⟩) b) (MS.tr ⟨(V.B i).leave V.om t k,upd V.om b (fZ (V.om b) price qty),V.lg.moved b (V.om b)⟩) (mF b s ⟨(V.B i).leave V.om t k,upd V.om b (fZ (V.om b) price qty),V.lg.moved b (V.om b)⟩).tr
  have hv5:v=.agg #[.int .i64 f,.int .i64 r,.int .i64 c,.int .i64 a,.int .i64 n]:=by rw[Uo.1];exact hrep
  have zx:ai w5 w.heap.size aB 87:=by
   obtain⟨_,g,cap',aY,_,_,_,k5,_⟩:=Uo
   refine k5.blk (ae HR4) ?_
   have hbt:=ae HR4
   rintro (h | h | h | h | h | h)
   ·omega
   ·exact (ae YR).log.ne hbt (by decide) (by decide) (by decide) (by decide) (by decide) h
   ·omega
   ·omega
   ·rcases h with h | ⟨l,hl,h⟩
    ·exact ((ae Ve).book.side s hs).ne hbt (by decide) h
    ·exact ai.ne hbt (((ae Ve).book.side s hs).aQ hl) (by decide) h
   ·rcases h with h | ⟨l,hl,h⟩
    ·exact ((ae Ve).book.side t t2).ne hbt (by decide) h
    ·exact ai.ne hbt (((ae Ve).book.side t t2).aQ hl) (by decide) h
  have HP:=hide Uo
  clear Uo hrep
  rw[hv5]at HP
  rw[hv5]
  have r0:w5.cell? ⟨w.heap.size,0,none⟩=some (.int .i64 0):=zx.cell 0
  have r1:w5.cell? ⟨w.heap.size,1,none⟩=some (.int .i64 0):=zx.cell 1
  have r2:w5.cell? ⟨w.heap.size,2,none⟩=some (.int .i64 0):=zx.cell 2
  have r3:w5.cell? ⟨w.heap.size,3,none⟩=some (.int .i64 0):=zx.cell 3
  have r4:w5.cell? ⟨w.heap.size,4,none⟩=some (.int .i64 0):=zx.cell 4
  have q0:=zx.frozen 0
  have q1:=zx.frozen 1
  have q2:=zx.frozen 2
  have q3:=zx.frozen 3
  have q4:=zx.frozen 4
  clear hv5
  go_wp2
  refine bodyPost_ret (Gg _ w.heap.size _ f r c a n 0 rfl rfl ?_) rfl ⟨_,w4,lI,rfl,JG,hf4,w5,ae HP,zx,?_⟩
  ·exact ((((zx.set 0 _).set 1 _).set 2 _).set 3 _).set 4 _
  ·exact (((((ag.refl (fun x=>x=w.heap.size) w5).setCell (p:=⟨w.heap.size,0,none⟩) (.inl rfl) _).setCell (p:=⟨w.heap.size,1,none⟩) (.inl rfl) _).setCell (p:=⟨w.heap.size,2,none⟩) (.inl rfl) _).setCell (p:=⟨w.heap.size,3,none⟩) (.inl rfl) _).setCell (p:=⟨w.heap.size,4,none⟩) (.inl rfl) _
open Go.RowKit
theorem Py(tmps:Array Value)(H:Nat)(w:World)(x:Int)(c0 c1 c3 c4 c5 c6 c7 c8 c9 c10 c11:Int)(c2:ByteArray)(ht:tmps.getD 4 undef=.pointer (some ⟨H,0,none⟩))(hu:tmps.getD 5 undef=.int .i64 x)
 (hb:ai w H #[.int .i64 c0,.int .i64 c1,.string c2,.int .i64 c3,.int .i64 c4,.int .i64 c5,.int .i64 c6,.int .i64 c7,.int .i64 c8,.int .i64 c9,.int .i64 c10,.int .i64 c11] 54) :
 (results Tryz.f101 tmps).run Tryz.prog w=.ok (.tuple #[.agg #[.int .i64 c0,.int .i64 c1,.string c2,.int .i64 c3,.int .i64 c4,.int .i64 c5,.int .i64 c6,.int .i64 c7,.int .i64 c8,.int .i64 c9,.int .i64 c10,.int .i64 c11],.int .i64 x]) w:=by
 have k0:w.cell? ⟨H,0,none⟩=some (.int .i64 c0):=hb.cell 0
 have k1:w.cell? ⟨H,1,none⟩=some (.int .i64 c1):=hb.cell 1
 have k2:w.cell? ⟨H,2,none⟩=some (.string c2):=hb.cell 2
 have k3:w.cell? ⟨H,3,none⟩=some (.int .i64 c3):=hb.cell 3
 have k4:w.cell? ⟨H,4,none⟩=some (.int .i64 c4):=hb.cell 4
 have k5:w.cell? ⟨H,5,none⟩=some (.int .i64 c5):=hb.cell 5
 have k6:w.cell? ⟨H,6,none⟩=some (.int .i64 c6):=hb.cell 6
 have k7:w.cell? ⟨H,7,none⟩=some (.int .i64 c7):=hb.cell 7
 have k8:w.cell? ⟨H,8,none⟩=some (.int .i64 c8):=hb.cell 8
 have k9:w.cell? ⟨H,9,none⟩=some (.int .i64 c9):=hb.cell 9
 have k10:w.cell? ⟨H,10,none⟩=some (.int .i64 c10):=hb.cell 10
 have k11:w.cell? ⟨H,11,none⟩=some (.int .i64 c11):=hb.cell 11
 simp only[Array.getD_eq_getD_getElem?]at ht hu
 simp[results,Tryz.results101,go_sem,ht,hu,k0,k1,k2,k3,k4,k5,k6,k7,k8,k9,k10,k11]
theorem Pv{W:World}{r:Nat}(v0 v1 v2 v3 v4 v5 v6 v7 v8 v9 v10 v11:Value):ag (fun x=>x=r) W ((((((((((((W.setCell ⟨r,0,none⟩ v0).setCell ⟨r,1,none⟩ v1).setCell ⟨r,2,none⟩ v2).setCell ⟨r,3,none⟩ v3).setCell ⟨r,4,none⟩ v4).setCell ⟨r,5,none⟩ v5).setCell ⟨r,6,none⟩ v6).setCell ⟨r,7,none⟩ v7).setCell ⟨r,8,none⟩ v8).setCell ⟨r,9,none⟩ v9).setCell ⟨r,10,none⟩ v10).setCell ⟨r,11,none⟩ v11) :=
 (((((((((((((ag.refl (fun x=>x=r) W).setCell (p:=⟨r,0,none⟩) (.inl rfl) _).setCell (p:=⟨r,1,none⟩) (.inl rfl) _).setCell (p:=⟨r,2,none⟩) (.inl rfl) _).setCell (p:=⟨r,3,none⟩) (.inl rfl) _).setCell (p:=⟨r,4,none⟩) (.inl rfl) _).setCell (p:=⟨r,5,none⟩) (.inl rfl) _).setCell (p:=⟨r,6,none⟩) (.inl rfl) _).setCell (p:=⟨r,7,none⟩) (.inl rfl) _).setCell (p:=⟨r,8,none⟩) (.inl rfl) _).setCell (p:=⟨r,9,none⟩) (.inl rfl) _).setCell (p:=⟨r,10,none⟩) (.inl rfl) _).setCell (p:=⟨r,11,none⟩) (.inl rfl) _)
theorem Dy(base rb:Nat)(A:List aP)(R:List Rc)(L:ByteArray)(av rv:Value)(S:RS)(id:Int)(w:World)(h:RV w base rb A R L av rv)(hh:Hist A S)(hn:A.length≤1000000000)(hlen:S.l.length≤1000)(hid:fK S.l id=none) :
 Calls Tryz.prog 101 #[.pointer (some ⟨rb,0,none⟩),.int .i64 id] w fun e w'=>e=.returned (.tuple #[.agg gy,.int .i64 6])∧ag ak w w':=by
 obtain⟨W1,hW1⟩:∃W1,W1=w.alloc (.cells gy 54):=⟨_,rfl⟩
 have k1:ag ak w W1:=by rw[hW1];exact (ag.refl ak w).alloc _
 have hs1:W1.heap.size=w.heap.size+1:=by rw[hW1];simp
 have b0:ai W1 w.heap.size gy 54:=by rw[hW1];exact ai.new w _ _
 have HST:=hide (gX base rb A R L av rv S W1 (h.aj k1) hh hn)
 rw[hs1]at HST
 have HB0:=hide b0
 have kV:=hide k1
 have HW1:=hide hW1
 have Vd:=hide hid
 simp only[gy]at HW1 ⊢
 clear hh h k1 hs1 b0 hW1 hid
 go_enter Tryz.func101,Tryz.ntmps101
 go_wp2_with fail
 rw[←ae HW1]
 refine (ae HST).mono ?_
 rintro e w2 ⟨rfl,⟨m,st⟩,k2⟩
 have HO:=hide (lT _ _ S m id w2 st hlen)
 rw[ae Vd]at HO
 have jC:=hide k2
 have bz:=k2.blk (ae HB0) (fun x=>x)
 have z0:w2.cell? ⟨w.heap.size,0,none⟩=some (.int .i64 0):=bz.cell 0
 have fz0:=bz.frozen 0
 have z1:w2.cell? ⟨w.heap.size,1,none⟩=some (.int .i64 0):=bz.cell 1
 have BV:=bz.frozen 1
 have z2:w2.cell? ⟨w.heap.size,2,none⟩=some (.string ⟨#[]⟩):=bz.cell 2
 have BX:=bz.frozen 2
 have z3:w2.cell? ⟨w.heap.size,3,none⟩=some (.int .i64 0):=bz.cell 3
 have fz3:=bz.frozen 3
 have z4:w2.cell? ⟨w.heap.size,4,none⟩=some (.int .i64 0):=bz.cell 4
 have BZ:=bz.frozen 4
 have z5:w2.cell? ⟨w.heap.size,5,none⟩=some (.int .i64 0):=bz.cell 5
 have fz5:=bz.frozen 5
 have z6:w2.cell? ⟨w.heap.size,6,none⟩=some (.int .i64 0):=bz.cell 6
 have fz6:=bz.frozen 6
 have z7:w2.cell? ⟨w.heap.size,7,none⟩=some (.int .i64 0):=bz.cell 7
 have fz7:=bz.frozen 7
 have z8:w2.cell? ⟨w.heap.size,8,none⟩=some (.int .i64 0):=bz.cell 8
 have fz8:=bz.frozen 8
 have z9:w2.cell? ⟨w.heap.size,9,none⟩=some (.int .i64 0):=bz.cell 9
 have fz9:=bz.frozen 9
 have z10:w2.cell? ⟨w.heap.size,10,none⟩=some (.int .i64 0):=bz.cell 10
 have aah:=bz.frozen 10
 have z11:w2.cell? ⟨w.heap.size,11,none⟩=some (.int .i64 0):=bz.cell 11
 have aai:=bz.frozen 11
 have HB2:=hide bz
 clear st k2 HST bz
 go_wp2_with fail
 refine (ae HO).mono ?_
 rintro e w3 ⟨rfl,hw3⟩
 rw[hw3]
 clear hw3 w3
 simp only[oi]
 go_wp2
 refine bodyPost_ret (Py _ w.heap.size _ 6 0 0 0 0 0 0 0 0 0 0 0 ⟨#[]⟩ rfl rfl ?_) rfl ⟨rfl,?_⟩
 ·exact PH (ae HB2) _ _ _ _ _ _ _ _ _ _ _ _
 ·exact ((ae kV).trans (ae jC)).from ((Pv _ _ _ _ _ _ _ _ _ _ _ _).mono (fun b hb=>.inr (by omega)))
theorem Dz(base rb k:Nat)(A:List aP)(R:List Rc)(L:ByteArray)(av rv:Value)(S:RS)(id:Int)(w:World)(h:RV w base rb A R L av rv)(hh:Hist A S)(hn:A.length≤1000000000)(hlen:S.l.length≤1000)(hid:fK S.l id=some k) :
 Calls Tryz.prog 101 #[.pointer (some ⟨rb,0,none⟩),.int .i64 id] w fun e w'=>e=.returned (.tuple #[.agg (nI (ah S.l k)),.int .i64 0])∧ag ak w w':=by
 obtain⟨W1,hW1⟩:∃W1,W1=w.alloc (.cells gy 54):=⟨_,rfl⟩
 have k1:ag ak w W1:=by rw[hW1];exact (ag.refl ak w).alloc _
 have hs1:W1.heap.size=w.heap.size+1:=by rw[hW1];simp
 have b0:ai W1 w.heap.size gy 54:=by rw[hW1];exact ai.new w _ _
 have HST:=hide (gX base rb A R L av rv S W1 (h.aj k1) hh hn)
 rw[hs1]at HST
 have HB0:=hide b0
 have kV:=hide k1
 have HW1:=hide hW1
 have Vd:=hide hid
 have hkl:=(gV hid).1
 obtain⟨o,ho⟩:∃o,ah S.l k=o:=⟨_,rfl⟩
 have HOO:=hide ho
 rw[ho]
 simp only[gy]at HW1
 simp only[nI]
 obtain⟨N,hN⟩:∃N,S.l.length=N:=⟨_,rfl⟩
 have HN:=hide hN
 rw[hN]at hkl hlen
 clear hh h k1 hs1 b0 hW1 hid ho hN
 go_enter Tryz.func101,Tryz.ntmps101
 go_wp2_with fail
 rw[←ae HW1]
 refine (ae HST).mono ?_
 rintro e w2 ⟨rfl,⟨m,st⟩,k2⟩
 have HO:=hide (lT _ _ S m id w2 st (by rw[ae HN];exact hlen))
 rw[ae Vd]at HO
 obtain⟨g,gc,u1,_,_,lg,_,hc,_⟩:=st.see (ae HN) (by omega)
 have hcc:=hc k hkl
 rw[ae HOO]at hcc
 have o0:w2.cell? ⟨g,k * 13,none⟩=some (.int .i64 o.id):=hcc 0 _ rfl
 have o1:w2.cell? ⟨g,k * 13+1,none⟩=some (.int .i64 o.owner):=hcc 1 _ rfl
 have o2:w2.cell? ⟨g,k * 13+2,none⟩=some (.string o.sym):=hcc 2 _ rfl
 have o3:w2.cell? ⟨g,k * 13+3,none⟩=some (.int .i64 o.side):=hcc 3 _ rfl
 have o4:w2.cell? ⟨g,k * 13+4,none⟩=some (.int .i64 o.kind):=hcc 4 _ rfl
 have o5:w2.cell? ⟨g,k * 13+5,none⟩=some (.int .i64 o.price):=hcc 5 _ rfl
 have o6:w2.cell? ⟨g,k * 13+6,none⟩=some (.int .i64 o.qty):=hcc 6 _ rfl
 have o7:w2.cell? ⟨g,k * 13+7,none⟩=some (.int .i64 o.entered):=hcc 7 _ rfl
 have o8:w2.cell? ⟨g,k * 13+8,none⟩=some (.int .i64 o.opn):=hcc 8 _ rfl
 have o9:w2.cell? ⟨g,k * 13+9,none⟩=some (.int .i64 o.filled):=hcc 9 _ rfl
 have Zk:w2.cell? ⟨g,k * 13+10,none⟩=some (.int .i64 o.aG):=hcc 10 _ rfl
 have Zl:w2.cell? ⟨g,k * 13+11,none⟩=some (.int .i64 o.exp):=hcc 11 _ rfl
 have VA:w2.cell? ⟨g,k * 13+12,none⟩=some (.int .i64 o.place):=hcc 12 _ rfl
 have jC:=hide k2
 have bz:=k2.blk (ae HB0) (fun x=>x)
 have z0:w2.cell? ⟨w.heap.size,0,none⟩=some (.int .i64 0):=bz.cell 0
 have fz0:=bz.frozen 0
 have z1:w2.cell? ⟨w.heap.size,1,none⟩=some (.int .i64 0):=bz.cell 1
 have BV:=bz.frozen 1
 have z2:w2.cell? ⟨w.heap.size,2,none⟩=some (.string ⟨#[]⟩):=bz.cell 2
 have BX:=bz.frozen 2
 have z3:w2.cell? ⟨w.heap.size,3,none⟩=some (.int .i64 0):=bz.cell 3
 have fz3:=bz.frozen 3
 have z4:w2.cell? ⟨w.heap.size,4,none⟩=some (.int .i64 0):=bz.cell 4
 have BZ:=bz.frozen 4
 have z5:w2.cell? ⟨w.heap.size,5,none⟩=some (.int .i64 0):=bz.cell 5
 have fz5:=bz.frozen 5
 have z6:w2.cell? ⟨w.heap.size,6,none⟩=some (.int .i64 0):=bz.cell 6
 have fz6:=bz.frozen 6
 have z7:w2.cell? ⟨w.heap.size,7,none⟩=some (.int .i64 0):=bz.cell 7
 have fz7:=bz.frozen 7
 have z8:w2.cell? ⟨w.heap.size,8,none⟩=some (.int .i64 0):=bz.cell 8
 have fz8:=bz.frozen 8
 have z9:w2.cell? ⟨w.heap.size,9,none⟩=some (.int .i64 0):=bz.cell 9
 have fz9:=bz.frozen 9
 have z10:w2.cell? ⟨w.heap.size,10,none⟩=some (.int .i64 0):=bz.cell 10
 have aah:=bz.frozen 10
 have z11:w2.cell? ⟨w.heap.size,11,none⟩=some (.int .i64 0):=bz.cell 11
 have aai:=bz.frozen 11
 have lz:=bz.lt
 have HB2:=hide bz
 clear st k2 HST bz hc hcc
 go_wp2_with fail
 refine (ae HO).mono ?_
 rintro e w3 ⟨rfl,hw3⟩
 rw[hw3]
 clear hw3 w3
 simp only[oi]
 go_wp2
 refine bodyPost_ret (Py _ w.heap.size _ 0 o.id o.owner o.side o.kind o.price o.qty o.entered o.opn o.filled o.aG o.exp o.sym rfl rfl ?_) rfl ⟨rfl,?_⟩
 ·exact (PH (ae HB2) _ _ _ _ _ _ _ _ _ _ _ _).alloc _
 ·exact (((ae kV).trans (ae jC)).from ((Pv _ _ _ _ _ _ _ _ _ _ _ _).mono (fun b hb=>.inr (by omega)))).alloc _
end Go.Proofs.YtigaphnafnpfnaaGreatDoor
