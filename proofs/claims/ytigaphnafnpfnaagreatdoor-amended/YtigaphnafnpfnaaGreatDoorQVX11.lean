import Derived.Test.YtigaphnafnpfnaaGreatDoorQVX10
import Derived.Test.YtigaphnafnpfnaaGreatDoorQVX1
import Derived.Test.YtigaphnafnpfnaaGreatDoorQVC2
set_option linter.unusedVariables false
set_option linter.unusedSimpArgs false
set_option maxHeartbeats 8000000
set_option maxRecDepth 100000
namespace Go.Proofs.YtigaphnafnpfnaaGreatDoor
open Go.RowKit
attribute [local go_sem ↓] Go.wp_at_zero Go.wp_at_succ
structure aP where
 kind:Int
 s:ByteArray
 o:Ask
 a:Int
 b:Int
 c:Int
 again:Bool
def aP.cells(x:aP):Array Value:=#[.int .u8 x.kind,.string x.s,.int .i64 x.o.id,.int .i64 x.o.owner,.string x.o.sym,.int .i64 x.o.side,.int .i64 x.o.kind,.int .i64 x.o.price,.int .i64 x.o.qty,.int .i64 x.a,.int .i64 x.b,.int .i64 x.c,.bool x.again]
def aP.val(x:aP):Value:=.agg x.cells
theorem Du(tmps:Array Value)(H:Nat)(w:World)(a b c d e E:Int)(ht:tmps.getD 4 undef=.pointer (some ⟨H,0,none⟩))(hu:tmps.getD 5 undef=.int .i64 E)(hb:ai w H #[.int .i64 a,.int .i64 b,.int .i64 c,.int .i64 d,.int .i64 e] 87) :
 (results Tryz.f170 tmps).run Tryz.prog w=.ok (.tuple #[bu a b c d e,.int .i64 E]) w:=by
 have c0:w.cell? ⟨H,0,none⟩=some (.int .i64 a):=hb.cell 0
 have c1:w.cell? ⟨H,1,none⟩=some (.int .i64 b):=hb.cell 1
 have c2:w.cell? ⟨H,2,none⟩=some (.int .i64 c):=hb.cell 2
 have c3:w.cell? ⟨H,3,none⟩=some (.int .i64 d):=hb.cell 3
 have c4:w.cell? ⟨H,4,none⟩=some (.int .i64 e):=hb.cell 4
 simp only[Array.getD_eq_getD_getElem?]at ht hu
 simp[results,Tryz.results170,go_sem,ht,hu,c0,c1,c2,c3,c4,bu]
theorem tZ(base sb:Nat)(S:RS)(m:SM)(x:aP)(w:World)(h:bH w base sb S m)(hlen:S.l.length≤1000)(he:dU S.l x.a≠0) :
 Calls Tryz.prog 170 #[.pointer (some ⟨sb,0,none⟩),x.val] w fun e w'=>e=.returned (.tuple #[bu 0 0 0 0 0,.int .i64 (dU S.l x.a)])∧ag ak w w':=by
 have HO:Hid (∀W,ag ak w W→Calls Tryz.prog 169 #[.pointer (some ⟨sb,0,none⟩),.int .i64 x.a] W fun e w'=>e=.returned (.tuple #[.int .i64 (oi (fK S.l x.a)),.int .i64 (dU S.l x.a)])∧w'=W):=fun W k=>kZ base sb S m x.a W (h.aj k) hlen
 obtain⟨E,hE⟩:∃E,dU S.l x.a=E:=⟨_,rfl⟩
 rw[hE]at HO he ⊢
 have e0:(E == 0)=false:=by simpa using he
 have uj:=h.blk.lt
 clear h hE he hlen
 obtain⟨kind,s,⟨id,owner,sym,side,ax,price,qty⟩,a,b,c,again⟩:=x
 simp only[aP.val,aP.cells]at HO ⊢
 go_enter Tryz.func170,Tryz.ntmps170
 go_wp2_with (first | (go_at_call 169;refine (ae HO _ ?cc).mono ?_;(case cc=>exact ((ag.refl _ _).alloc _).alloc _);rintro e w' ⟨rfl,rfl⟩))
 refine bodyPost_ret (Du _ (w.heap.size+1) _ 0 0 0 0 0 E rfl rfl ?_) rfl ⟨rfl,?_⟩
 ·exact ai.jR w _ _ 87
 ·exact ((ag.refl _ _).alloc _).alloc _
theorem yO(base sb:Nat)(S:RS)(m:SM)(x:aP)(w:World)(h:bH w base sb S m)(hlen:S.l.length≤1000)(he:dU S.l x.a=0)(hr:bg x.b=false∨bg x.c=false) :
 Calls Tryz.prog 170 #[.pointer (some ⟨sb,0,none⟩),x.val] w fun e w'=>e=.returned (.tuple #[bu 0 0 0 0 0,.int .i64 4])∧ag ak w w':=by
 have HO:Hid (∀W,ag ak w W→Calls Tryz.prog 169 #[.pointer (some ⟨sb,0,none⟩),.int .i64 x.a] W fun e w'=>e=.returned (.tuple #[.int .i64 (oi (fK S.l x.a)),.int .i64 0])∧w'=W):=fun W k=>by
  have:=kZ base sb S m x.a W (h.aj k) hlen
  rw[he]at this
  exact this
 have HN:Hid (∀n w,Calls Tryz.prog 198 #[.int .i64 n] w fun e w'=>e=.returned (.bool (bg n))∧w'=w):=jy
 have uj:=h.blk.lt
 have hr':bg x.b=false∨(bg x.b=true∧bg x.c=false):=by
  cases h1:bg x.b
  ·exact .inl rfl
  ·right;rw[h1]at hr;simpa using hr
 clear h he hlen hr
 obtain⟨kind,s,⟨id,owner,sym,side,ax,price,qty⟩,a,b,c,again⟩:=x
 simp only[aP.val,aP.cells]at HO hr' ⊢
 rcases hr' with r1 | ⟨r1,r2⟩
 all_goals
  go_enter Tryz.func170,Tryz.ntmps170
  go_wp2_with (first
   | (go_at_call 169;refine (ae HO _ ?cc).mono ?_;(case cc=>exact ((ag.refl _ _).alloc _).alloc _);rintro e w' ⟨rfl,rfl⟩)
   | (go_at_call 198;refine (ae HN _ _).mono ?_;rintro e w' ⟨rfl,rfl⟩))
  refine bodyPost_ret (Du _ (w.heap.size+1) _ 0 0 0 0 0 4 rfl rfl ?_) rfl ⟨rfl,?_⟩
  ·exact ai.jR w _ _ 87
  ·exact ((ag.refl _ _).alloc _).alloc _
theorem fP.off{base sb:Nat}{S':RS}{m:SM}{w W1 W2:World}(h:fP base sb S' m w W1){r:Nat}{c:Array Value}(hb:ai W1 r c 87)(hr:w.heap.size≤r)(k:ag (fun b=>b=r) W1 W2):fP base sb S' m w W2:=by
 obtain⟨m',p,q,kk⟩:=h
 have nb:∀b,SF sb m' b→¬b=r:=fun b hb' e=>by subst e;exact p.ne hb (by decide) hb'
 have hr':∀{e size n:Nat} {v:Value} {xs:List Value},W1.ownsRow base e size v n xs→(∀b,v.ownBlock=some b→SF sb m' b)→W2.ownsRow base e size v n xs:=fun r hs=>au r k (fun b hb=>nb b (hs b hb))
 exact⟨m',⟨p.ge,k.blk p.blk (nb _ (.inl rfl)),hr' p.jH (fun b hb=>.inr (.inl hb)),hr' p.bI (fun b hb=>.inr (.inr (.inl hb))),hr' p.dE (fun b hb=>.inr (.inr (.inr (.inl hb)))),hr' p.jS (fun b hb=>.inr (.inr (.inr (.inr hb))))⟩,q,kk.from (k.mono (fun b hb=>.inr (by omega)))⟩
theorem mX{W:World}{r:Nat}(a b c d e:Value):ag (fun x=>x=r) W (((((W.setCell ⟨r,0,none⟩ a).setCell ⟨r,1,none⟩ b).setCell ⟨r,2,none⟩ c).setCell ⟨r,3,none⟩ d).setCell ⟨r,4,none⟩ e) :=
 (((((ag.refl (fun x=>x=r) W).setCell (p:=⟨r,0,none⟩) (.inl rfl) _).setCell (p:=⟨r,1,none⟩) (.inl rfl) _).setCell (p:=⟨r,2,none⟩) (.inl rfl) _).setCell (p:=⟨r,3,none⟩) (.inl rfl) _).setCell (p:=⟨r,4,none⟩) (.inl rfl) _
theorem qj{W:World}{r:Nat}(h:ai W r aB 87)(a b c d e:Value):ai (((((W.setCell ⟨r,0,none⟩ a).setCell ⟨r,1,none⟩ b).setCell ⟨r,2,none⟩ c).setCell ⟨r,3,none⟩ d).setCell ⟨r,4,none⟩ e) r #[a,b,c,d,e] 87:=((((h.set 0 _).set 1 _).set 2 _).set 3 _).set 4 _
def I4(o:Ord)(c:Int):Ord:={ o with entered:=wrap64 (wrap64 (o.entered+c)-o.opn),opn:=c }
def uP(o:Ord)(b c:Int):Ord:={ o with entered:=wrap64 (wrap64 (o.entered+c)-o.opn),opn:=0,price:=b }
theorem zO(base sb k:Nat)(S:RS)(m:SM)(x:aP)(w:World)(h:bH w base sb S m)(hlen:S.l.length≤1000)(hk:fK S.l x.a=some k)(ho:(ah S.l k).opn≠0)(hb:bg x.b=true)(hc:bg x.c=true)(hp:x.b=(ah S.l k).price)(hq:x.c≤(ah S.l k).opn) :
 Calls Tryz.prog 170 #[.pointer (some ⟨sb,0,none⟩),x.val] w fun e w'=>e=.returned (.tuple #[bu 0 x.c 0 0 0,.int .i64 0])∧fP base sb (S.cu k (I4 (ah S.l k) x.c)) m w w':=by
 have he:dU S.l x.a=0:=by unfold dU;rw[hk];simp[ho]
 have HO:Hid (∀W,ag ak w W→Calls Tryz.prog 169 #[.pointer (some ⟨sb,0,none⟩),.int .i64 x.a] W fun e w'=>e=.returned (.tuple #[.int .i64 (k:Int),.int .i64 0])∧w'=W):=fun W kk=>by
  have:=kZ base sb S m x.a W (h.aj kk) hlen
  rw[he,hk]at this
  exact this
 have HN:Hid (∀n w,Calls Tryz.prog 198 #[.int .i64 n] w fun e w'=>e=.returned (.bool (bg n))∧w'=w):=jy
 obtain⟨N,hN⟩:∃N,S.l.length=N:=⟨_,rfl⟩
 have hkl:=(gV hk).1
 have hkN:k<N:=by rw[←hN];exact hkl
 obtain⟨g,cc,v1,hlv,hsg,lg,ni,hcl,hf⟩:=h.see hN (by omega)
 have y5:w.cell? ⟨g,k * 13+5,none⟩=some (.int .i64 (ah S.l k).price):=hcl k hkN 5 _ rfl
 have y7:w.cell? ⟨g,k * 13+7,none⟩=some (.int .i64 (ah S.l k).entered):=hcl k hkN 7 _ rfl
 have y8:w.cell? ⟨g,k * 13+8,none⟩=some (.int .i64 (ah S.l k).opn):=hcl k hkN 8 _ rfl
 have f7:=hf (k * 13+7)
 have f8:=hf (k * 13+8)
 have uj:=h.blk.lt
 have n1:¬k * 13+8=k * 13+7:=by omega
 have gz:g≠w.heap.size:=by omega
 have gr:g≠w.heap.size+1:=by omega
 have gz':=gz.symm
 have Sm:=gr.symm
 have Vt:g<w.heap.size+1:=by omega
 have tH:sb<w.heap.size+1:=by omega
 have Xz:N≤1000:=by omega
 obtain⟨o,KX⟩:∃o,ah S.l k=o:=⟨_,rfl⟩
 have HST:Hid (∀W,ag ak w W→fP base sb (S.cu k (I4 o x.c)) m w ((W.setCell ⟨g,k * 13+7,none⟩ (.int .i64 (wrap64 (wrap64 (o.entered+x.c)-o.opn)))).setCell ⟨g,k * 13+8,none⟩ (.int .i64 x.c))):=by
  intro W kW
  obtain⟨p1,q1⟩:=(h.aj kW).fM hlv hkl (j:=7) (by omega) (.int .i64 (wrap64 (wrap64 (o.entered+x.c)-o.opn))) { o with entered:=wrap64 (wrap64 (o.entered+x.c)-o.opn) } (by rw[KX];rfl)
  obtain⟨p2,q2⟩:=p1.fM (i:=k) (by simp only[List.length_set];exact hlv) (by simp only[List.length_set];exact hkl) (j:=8) (by omega) (.int .i64 x.c) (I4 o x.c) (by simp only;rw[bG hkl];rfl)
  simp only[List.set_set]at p2
  exact⟨m,p2,fun b hb=>.inl hb,(kW.aC.trans q1).trans q2⟩
 have HS:=hide h
 have zU:=hide hlv
 have Qk:=hide hkl
 rw[KX]at y5 y7 y8 hp hq ⊢
 have HOO:=hide KX
 obtain⟨kind,s,⟨id,owner,sym,side,ax,price,qty⟩,a,b,c,again⟩:=x
 simp only[aP.val,aP.cells]at HO hb hc hp hq HST ⊢
 have e1:(b == o.price)=true:=by simp[hp]
 have e2:decide (c≤o.opn)=true:=by simpa using hq
 clear h hk ho he hN hkl hlv ni hcl hf hp hq KX hlen
 go_enter Tryz.func170,Tryz.ntmps170
 go_wp2_with (first
  | (go_at_call 169;refine (ae HO _ ?cc).mono ?_;(case cc=>exact ((ag.refl _ _).alloc _).alloc _);rintro e w' ⟨rfl,rfl⟩)
  | (go_at_call 198;refine (ae HN _ _).mono ?_;rintro e w' ⟨rfl,rfl⟩))
 go_quiet (fail)
 go_wp2
 go_region
 go_wp2
 have bz:ai (((((w.alloc (.cells #[.int .u8 kind,.string s,.int .i64 id,.int .i64 owner,.string sym,.int .i64 side,.int .i64 ax,.int .i64 price,.int .i64 qty,.int .i64 a,.int .i64 b,.int .i64 c,.bool again] 169)).alloc (.cells aB 87)).drewN (nq+1)).setCell ⟨g,k * 13+7,none⟩ (.int .i64 (wrap64 (wrap64 (o.entered+c)-o.opn)))).setCell ⟨g,k * 13+8,none⟩ (.int .i64 c)) (w.heap.size+1) aB 87 :=
  (((ai.jR w _ aB 87).drewN _).other (a:=⟨g,k * 13+7,none⟩) Sm _).other (a:=⟨g,k * 13+8,none⟩) Sm _
 refine bodyPost_ret (Du _ (w.heap.size+1) _ 0 c 0 0 0 0 rfl rfl ?_) rfl ⟨rfl,?_⟩
 ·exact qj bz _ _ _ _ _
 ·exact (ae HST _ ((((ag.refl _ _).alloc _).alloc _).drewN _)).off bz (by omega) (mX _ _ _ _ _)
theorem tX(i:Nat)(c:RC):∃f r n a k,F5 i c=bu f r n a k:=by
 unfold F5
 split
 ·exact⟨_,_,_,_,_,rfl⟩
 ·split <;> exact⟨_,_,_,_,_,rfl⟩
theorem fP.xu{base sb:Nat}{S S':RS}{m:SM}{w W1:World}(h:fP base sb S' m w W1)(h0:bH w base sb S m){r:Nat}{c:Array Value}{t:TypeId}(hb:ai w r c t)(ht:t≠207∧t≠9∧t≠212∧t≠210∧t≠62):ai W1 r c t:=by
 obtain⟨m',p,q,kk⟩:=h
 exact kk.blk hb (h0.ne hb ht)
theorem zN(base sb k f:Nat)(S:RS)(m:SM)(x:aP)(c':RC)(w:World)(h:bH w base sb S m)(hlen:S.l.length≤1000)(hk:fK S.l x.a=some k)(ho:(ah S.l k).opn≠0)(hb:bg x.b=true)(hc:bg x.c=true)(hpq:¬(x.b=(ah S.l k).price∧x.c≤(ah S.l k).opn))
 (hE:Ends k f ⟨S.cu k (uP (ah S.l k) x.b x.c),x.c,0,0,0⟩ c') (ht:S.t.length+f<1000000000) (hto:S.told.length+f<1000000000) :
 Calls Tryz.prog 170 #[.pointer (some ⟨sb,0,none⟩),x.val] w fun e w'=>e=.returned (.tuple #[F5 k c',.int .i64 0])∧fP base sb (nN k c') m w w':=by
 have he:dU S.l x.a=0:=by unfold dU;rw[hk];simp[ho]
 have HO:Hid (∀W,ag ak w W→Calls Tryz.prog 169 #[.pointer (some ⟨sb,0,none⟩),.int .i64 x.a] W fun e w'=>e=.returned (.tuple #[.int .i64 (k:Int),.int .i64 0])∧w'=W):=fun W kk=>by
  have:=kZ base sb S m x.a W (h.aj kk) hlen
  rw[he,hk]at this
  exact this
 have HN:Hid (∀n w,Calls Tryz.prog 198 #[.int .i64 n] w fun e w'=>e=.returned (.bool (bg n))∧w'=w):=jy
 obtain⟨N,hN⟩:∃N,S.l.length=N:=⟨_,rfl⟩
 have hkl:=(gV hk).1
 have hkN:k<N:=by rw[←hN];exact hkl
 obtain⟨g,cc,v1,hlv,hsg,lg,ni,hcl,hf⟩:=h.see hN (by omega)
 have y5:w.cell? ⟨g,k * 13+5,none⟩=some (.int .i64 (ah S.l k).price):=hcl k hkN 5 _ rfl
 have y7:w.cell? ⟨g,k * 13+7,none⟩=some (.int .i64 (ah S.l k).entered):=hcl k hkN 7 _ rfl
 have y8:w.cell? ⟨g,k * 13+8,none⟩=some (.int .i64 (ah S.l k).opn):=hcl k hkN 8 _ rfl
 have f5:=hf (k * 13+5)
 have f7:=hf (k * 13+7)
 have f8:=hf (k * 13+8)
 have uj:=h.blk.lt
 have n1:¬k * 13+8=k * 13+7:=by omega
 have n2:¬k * 13+5=k * 13+7:=by omega
 have n3:¬k * 13+5=k * 13+8:=by omega
 have gz:g≠w.heap.size:=by omega
 have gr:g≠w.heap.size+1:=by omega
 have gz':=gz.symm
 have Sm:=gr.symm
 have Vt:g<w.heap.size+1:=by omega
 have tH:sb<w.heap.size+1:=by omega
 have Xz:N≤1000:=by omega
 obtain⟨o,KX⟩:∃o,ah S.l k=o:=⟨_,rfl⟩
 rw[KX]at y5 y7 y8 hpq hE
 have HST:Hid (∀W,ag ak w W→bH (((W.setCell ⟨g,k * 13+7,none⟩ (.int .i64 (wrap64 (wrap64 (o.entered+x.c)-o.opn)))).setCell ⟨g,k * 13+8,none⟩ (.int .i64 0)).setCell ⟨g,k * 13+5,none⟩ (.int .i64 x.b)) base sb (S.cu k (uP o x.b x.c)) m∧ag (SF sb m) w (((W.setCell ⟨g,k * 13+7,none⟩ (.int .i64 (wrap64 (wrap64 (o.entered+x.c)-o.opn)))).setCell ⟨g,k * 13+8,none⟩ (.int .i64 0)).setCell ⟨g,k * 13+5,none⟩ (.int .i64 x.b))):=by
  intro W kW
  obtain⟨p1,q1⟩:=(h.aj kW).fM hlv hkl (j:=7) (by omega) (.int .i64 (wrap64 (wrap64 (o.entered+x.c)-o.opn))) { o with entered:=wrap64 (wrap64 (o.entered+x.c)-o.opn) } (by rw[KX];rfl)
  obtain⟨p2,q2⟩:=p1.fM (i:=k) (by simp only[List.length_set];exact hlv) (by simp only[List.length_set];exact hkl) (j:=8) (by omega) (.int .i64 0) { o with entered:=wrap64 (wrap64 (o.entered+x.c)-o.opn),opn:=0 } (by simp only;rw[bG hkl];rfl)
  obtain⟨p3,q3⟩:=p2.fM (i:=k) (by simp only[List.length_set];exact hlv) (by simp only[List.length_set];exact hkl) (j:=5) (by omega) (.int .i64 x.b) (uP o x.b x.c) (by simp only;rw[bG (by simp only[List.length_set];exact hkl)];rfl)
  simp only[List.set_set]at p3
  exact⟨p3,((kW.aC.trans q1).trans q2).trans q3⟩
 have Qh:Hid (∀W,bH W base sb (S.cu k (uP o x.b x.c)) m→Calls Tryz.prog 168 #[.pointer (some ⟨sb,0,none⟩),.int .i64 (k:Int),.int .i64 x.c] W fun e w'=>e=.returned (F5 k c')∧fP base sb (nN k c') m W w'):=fun W hW=>AX base sb k f _ m x.c c' W hW (by simp only[RS.cu,List.length_set];omega) (by simp only[RS.cu,List.length_set];exact hkl) hE ht hto
 obtain⟨rf,rr,rn,ra,rk,JE⟩:=tX k c'
 rw[JE]at Qh ⊢
 simp only[bu]at Qh
 have HS:=hide h
 have hd:((x.b == o.price)=false)∨((x.b == o.price)=true∧decide (x.c≤o.opn)=false):=by
  by_cases hp:x.b=o.price
  ·right;exact⟨by simp[hp],by have:=fun h=>hpq ⟨hp,h⟩;simpa using this⟩
  ·left;simpa using hp
 obtain⟨kind,s,⟨id,owner,sym,side,ax,price,qty⟩,a,b,c,again⟩:=x
 simp only[aP.val,aP.cells]at HO hb hc hd HST Qh ⊢
 clear h hk ho he hN hkl hlv ni hcl hf hpq KX hlen hE JE
 rcases hd with e1 | ⟨e1,e2⟩
 all_goals
  go_enter Tryz.func170,Tryz.ntmps170
  go_wp2_with (first
   | (go_at_call 169;refine (ae HO _ ?cc).mono ?_;(case cc=>exact ((ag.refl _ _).alloc _).alloc _);rintro e w' ⟨rfl,rfl⟩)
   | (go_at_call 198;refine (ae HN _ _).mono ?_;rintro e w' ⟨rfl,rfl⟩))
  go_quiet (fail)
  go_wp2
  go_region
  go_wp2_with fail
  obtain⟨p9,q9⟩:=ae HST _ ((((ag.refl ak w).alloc (.cells #[.int .u8 kind,.string s,.int .i64 id,.int .i64 owner,.string sym,.int .i64 side,.int .i64 ax,.int .i64 price,.int .i64 qty,.int .i64 a,.int .i64 b,.int .i64 c,.bool again] 169)).alloc (.cells aB 87)).drewN (nq+1))
  have bz:=((((ai.jR w (.cells #[.int .u8 kind,.string s,.int .i64 id,.int .i64 owner,.string sym,.int .i64 side,.int .i64 ax,.int .i64 price,.int .i64 qty,.int .i64 a,.int .i64 b,.int .i64 c,.bool again] 169) aB 87).drewN (nq+1)).other (a:=⟨g,k * 13+7,none⟩) Sm (.int .i64 (wrap64 (wrap64 (o.entered+c)-o.opn)))).other (a:=⟨g,k * 13+8,none⟩) Sm (.int .i64 0)).other (a:=⟨g,k * 13+5,none⟩) Sm (.int .i64 b)
  refine (ae Qh _ p9).mono ?_
  rintro e w3 ⟨rfl,hn3⟩
  have b3:=hn3.xu p9 bz (by decide)
  have J5:Hid (fP base sb (nN k c') m w w3):=by
   obtain⟨m3,p3,q3,k3⟩:=hn3
   refine⟨m3,p3,fun b hb=>(q3 b hb).imp_right (fun h=>Nat.le_trans q9.size h),q9.trans k3⟩
  have z0:=b3.cell 0
  have z1:=b3.cell 1
  have z2:=b3.cell 2
  have z3:=b3.cell 3
  have z4:=b3.cell 4
  simp[aB]at z0 z1 z2 z3 z4
  have fz0:=b3.frozen 0
  have BV:=b3.frozen 1
  have BX:=b3.frozen 2
  have fz3:=b3.frozen 3
  have BZ:=b3.frozen 4
  have l3:=b3.lt
  have HB3:=hide b3
  clear p9 q9 bz hn3 b3
  go_wp2
  refine bodyPost_ret (Du _ (w.heap.size+1) _ rf rr rn ra rk 0 rfl rfl ?_) rfl ⟨rfl,?_⟩
  ·exact (qj (ae HB3) _ _ _ _ _).alloc _
  ·exact ((ae J5).off (ae HB3) (by omega) (mX _ _ _ _ _)).ext ((ag.refl _ _).alloc _)
def RS.fresh(S:RS):RS:={ S with told:=[] }
def SM.fresh(m:SM):SM:={ m with ov:=.slice none 0 0 }
theorem bH.fresh{w:World}{base sb:Nat}{S:RS}{m:SM}(h:bH w base sb S m):bH (w.setCell ⟨sb,5,none⟩ (.slice none 0 0)) base sb S.fresh m.fresh∧ag (SF sb m) w (w.setCell ⟨sb,5,none⟩ (.slice none 0 0))∧∀b,SF sb m.fresh b→SF sb m b:=by
 have k:ag (fun b=>b=sb) w (w.setCell ⟨sb,5,none⟩ (.slice none 0 0)):=(ag.refl (fun b=>b=sb) w).setCell (p:=⟨sb,5,none⟩) (.inl rfl) _
 have ty:∀e,e≠207→∀b,b=sb→∃c t',ai w b c t'∧t'≠e:=fun e he b hb=>by subst hb;exact⟨_,_,h.blk,fun x=>he x.symm⟩
 refine⟨⟨h.ge,h.blk.set 5 _,aJ (t:=0) h.jH k (ty _ (by decide)),aJ (t:=0) h.bI k (ty _ (by decide)),aJ (t:=0) h.dE k (ty _ (by decide)),World.ownsRow_nil _ _ _ _⟩,k.mono (fun b hb=>.inl hb),?_⟩
 rintro b (rfl | hb | hb | hb | hb)
 ·exact .inl rfl
 ·exact .inr (.inl hb)
 ·exact .inr (.inr (.inl hb))
 ·exact .inr (.inr (.inr (.inl hb)))
 ·simp[SM.fresh,Value.ownBlock]at hb
theorem fP.mi{base sb:Nat}{S S':RS}{m:SM}{w W1 W2:World}(h0:bH w base sb S m)(k:ag (SF sb m) w W1)(h:fP base sb S' m.fresh W1 W2):fP base sb S' m w W2:=by
 obtain⟨m',p,q,kk⟩:=h
 have hs:=h0.fresh.2.2
 refine⟨m',p,fun b hb=>?_,k.trans (kk.mono hs)⟩
 rcases q b hb with h | h
 ·exact .inl (hs b h)
 ·exact .inr (Nat.le_trans k.size h)
theorem bH.starts{w:World}{base sb:Nat}{S:RS}{m:SM}(h:bH w base sb S m)(box:Array Value) :
 bH (((w.setCell ⟨sb,5,none⟩ (.slice none 0 0)).alloc (.cells box 169)).alloc (.cells aB 87)) base sb S.fresh m.fresh∧ag (SF sb m) w (((w.setCell ⟨sb,5,none⟩ (.slice none 0 0)).alloc (.cells box 169)).alloc (.cells aB 87)) ∧
  ai (((w.setCell ⟨sb,5,none⟩ (.slice none 0 0)).alloc (.cells box 169)).alloc (.cells aB 87)) (w.heap.size+1) aB 87∧ai (((w.setCell ⟨sb,5,none⟩ (.slice none 0 0)).alloc (.cells box 169)).alloc (.cells aB 87)) w.heap.size box 169:=by
 obtain⟨p,q,_⟩:=h.fresh
 have e:(w.setCell ⟨sb,5,none⟩ (.slice none 0 0)).heap.size=w.heap.size:=by simp
 have b1:=ai.jR (w.setCell ⟨sb,5,none⟩ (.slice none 0 0)) (.cells box 169) aB 87
 have b0:=(ai.new (w.setCell ⟨sb,5,none⟩ (.slice none 0 0)) box 169).alloc (.cells aB 87)
 rw[e]at b1 b0
 exact⟨p.aj (((ag.refl ak _).alloc _).alloc _),(q.alloc _).alloc _,b1,b0⟩
theorem mM(tmps:Array Value)(H:Nat)(w:World)(a b c d e E:Int)(ht:tmps.getD 4 undef=.pointer (some ⟨H,0,none⟩))(hu:tmps.getD 5 undef=.int .i64 E)(hb:ai w H #[.int .i64 a,.int .i64 b,.int .i64 c,.int .i64 d,.int .i64 e] 87) :
 (results Tryz.f138 tmps).run Tryz.prog w=.ok (.tuple #[bu a b c d e,.int .i64 E]) w:=by
 have c0:w.cell? ⟨H,0,none⟩=some (.int .i64 a):=hb.cell 0
 have c1:w.cell? ⟨H,1,none⟩=some (.int .i64 b):=hb.cell 1
 have c2:w.cell? ⟨H,2,none⟩=some (.int .i64 c):=hb.cell 2
 have c3:w.cell? ⟨H,3,none⟩=some (.int .i64 d):=hb.cell 3
 have c4:w.cell? ⟨H,4,none⟩=some (.int .i64 e):=hb.cell 4
 simp only[Array.getD_eq_getD_getElem?]at ht hu
 simp[results,Tryz.results138,go_sem,ht,hu,c0,c1,c2,c3,c4,bu]
theorem jc(base sb:Nat)(S S':RS)(m:SM)(x:aP)(rf rr rn ra rk E:Int)(w:World)(h:bH w base sb S m)(hx:x.kind=114)
 (hr:∀W m',bH W base sb S.fresh m'→Calls Tryz.prog 170 #[.pointer (some ⟨sb,0,none⟩),x.val] W fun e w'=>e=.returned (.tuple #[bu rf rr rn ra rk,.int .i64 E])∧fP base sb S' m' W w') :
 Calls Tryz.prog 138 #[.pointer (some ⟨sb,0,none⟩),x.val] w fun e w'=>e=.returned (.tuple #[bu rf rr rn ra rk,.int .i64 E])∧fP base sb S' m w w':=by
 have uj:=h.blk.lt
 have v5:w.cell? ⟨sb,5,none⟩=some m.ov:=h.blk.cell 5
 have f5:=h.blk.frozen 5
 have sz:sb≠w.heap.size:=by omega
 have sr:sb≠w.heap.size+1:=by omega
 have sz':=sz.symm
 have MV:=sr.symm
 have tH:sb<w.heap.size+1:=by omega
 obtain⟨kind,s,⟨id,owner,sym,side,ax,price,qty⟩,a,b,c,again⟩:=x
 simp only at hx
 subst hx
 simp only[aP.val,aP.cells]at hr ⊢
 have HS:=hide h
 have HR:=hide hr
 clear h hr
 go_enter Tryz.func138,Tryz.ntmps138
 go_wp2_with fail
 obtain⟨p1,q1,b1,_⟩:=(ae HS).starts #[.int .u8 114,.string s,.int .i64 id,.int .i64 owner,.string sym,.int .i64 side,.int .i64 ax,.int .i64 price,.int .i64 qty,.int .i64 a,.int .i64 b,.int .i64 c,.bool again]
 refine (ae HR _ _ p1).mono ?_
 rintro e w3 ⟨rfl,hn3⟩
 have b3:=hn3.xu p1 b1 (by decide)
 have J5:=hide (hn3.mi (ae HS) q1)
 have z0:=b3.cell 0
 have z1:=b3.cell 1
 have z2:=b3.cell 2
 have z3:=b3.cell 3
 have z4:=b3.cell 4
 simp[aB]at z0 z1 z2 z3 z4
 have fz0:=b3.frozen 0
 have BV:=b3.frozen 1
 have BX:=b3.frozen 2
 have fz3:=b3.frozen 3
 have BZ:=b3.frozen 4
 have HB3:=hide b3
 clear p1 q1 b1 hn3 b3
 simp only[bu]
 go_wp2
 refine bodyPost_ret (mM _ (w.heap.size+1) _ rf rr rn ra rk E rfl rfl ?_) rfl ⟨rfl,?_⟩
 ·exact qj (ae HB3) _ _ _ _ _
 ·exact (ae J5).off (ae HB3) (by omega) (mX _ _ _ _ _)
def iD(S:RS)(x:aP)(S':RS)(rep:Value)(E:Int):Prop :=
 ∀base sb m w,bH w base sb S m→Calls Tryz.prog 138 #[.pointer (some ⟨sb,0,none⟩),x.val] w fun e w'=>e=.returned (.tuple #[rep,.int .i64 E])∧fP base sb S' m w w'
def RS.none:RS:=⟨[],[],[],1,0,[]⟩
def Hist(A:List aP)(S:RS):Prop:=∃Qc:Nat→RS,Qc 0=RS.none∧Qc A.length=S∧∀i x,A[i]?=some x→∃rep,iD (Qc i) x (Qc (i+1)) rep 0
theorem Hist.nil:Hist [] RS.none:=⟨fun _=>RS.none,rfl,rfl,fun i x h=>by simp at h⟩
theorem Hist.snoc{A:List aP}{S S':RS}{x:aP}{rep:Value}(h:Hist A S)(d:iD S x S' rep 0):Hist (A++[x]) S':=by
 obtain⟨Qc,h0,h1,h2⟩:=h
 refine⟨fun i=>if i≤A.length then Qc i else S',by simp[h0],by simp;intro h;omega,fun i y hy=>?_⟩
 by_cases hi:i<A.length
 ·rw[List.getElem?_append_left hi]at hy
  dsimp only
  rw[if_pos (by omega),if_pos (by omega)]
  exact h2 i y hy
 ·have hl:i<(A++[x]).length:=(List.getElem?_eq_some_iff.1 hy).1
  simp only[List.length_append,List.length_cons,List.length_nil]at hl
  obtain rfl:i=A.length:=by omega
  rw[List.getElem?_append_right (Nat.le_refl _)]at hy
  simp at hy
  subst hy
  dsimp only
  rw[if_pos (Nat.le_refl _),if_neg (by omega),h1]
  exact⟨rep,d⟩
def vY(x:aP):List Value:=[.int .u8 x.kind,.string x.s,.int .i64 x.o.id,.int .i64 x.o.owner,.string x.o.sym,.int .i64 x.o.side,.int .i64 x.o.kind,.int .i64 x.o.price,.int .i64 x.o.qty,.int .i64 x.a,.int .i64 x.b,.int .i64 x.c,.bool x.again]
theorem Eb(x:aP):(vY x).length=13:=rfl
def EG(l:List aP):List Value:=l.flatMap vY
structure RV(w:World)(base rb:Nat)(A:List aP)(R:List Rc)(L:ByteArray)(av rv:Value):Prop where
 ge:base≤rb
 blk:ai w rb #[av,rv,.string L] 129
 xm:w.ownsRow base 169 13 av A.length (EG A)
 uS:w.ownsRow base 62 9 rv R.length (dP R)
theorem RV.kept{w w':World}{base rb:Nat}{A:List aP}{R:List Rc}{L:ByteArray}{av rv:Value}(h:RV w base rb A R L av rv){K:Nat→Prop}(k:ag K w w')(hK:∀b,(b=rb∨av.ownBlock=some b∨rv.ownBlock=some b)→¬K b):RV w' base rb A R L av rv :=
 ⟨h.ge,k.blk h.blk (hK _ (.inl rfl)),au h.xm k (fun b hb=>hK b (.inr (.inl hb))),au h.uS k (fun b hb=>hK b (.inr (.inr hb)))⟩
theorem RV.aj{w w':World}{base rb:Nat}{A:List aP}{R:List Rc}{L:ByteArray}{av rv:Value}(h:RV w base rb A R L av rv)(k:ag ak w w'):RV w' base rb A R L av rv:=h.kept k (fun _ _ x=>x)
theorem RV.aad{w:World}{base rb c:Nat}{a:Option Addr}{A:List aP}{R:List Rc}{L:ByteArray}{av rv:Value}(h:RV w base rb A R L av rv)(hv:av=.slice a A.length c){i:Nat}{x:aP}(hi:A[i]?=some x):∃g,a=some ⟨g,0,none⟩∧g<w.heap.size∧(∀j u,(vY x)[j]?=some u→w.cell? ⟨g,i * 13+j,none⟩=some u):=by
 have hi':i<A.length:=(List.getElem?_eq_some_iff.1 hi).1
 have r:=h.xm
 rw[hv]at r
 obtain⟨g,rfl,hg⟩:=fH r (by omega)
 refine⟨g,rfl,(r.lt g rfl).2,fun j u hu=>?_⟩
 have hj:j<13:=by have:=(List.getElem?_eq_some_iff.1 hu).1;rw[Eb]at this;exact this
 rw[r.cellAt _ (by omega)]
 exact (og vY 13 Eb A i j _ hi hj).trans hu
theorem bH.start(w:World):bH (w.alloc (.cells #[.slice none 0 0,.slice none 0 0,.slice none 0 0,.int .i64 1,.int .i64 0,.slice none 0 0] 207)) w.heap.size w.heap.size RS.none ⟨.slice none 0 0,.slice none 0 0,.slice none 0 0,.slice none 0 0⟩ :=
 ⟨Nat.le_refl _,ai.new _ _ _,World.ownsRow_nil _ _ _ _,World.ownsRow_nil _ _ _ _,World.ownsRow_nil _ _ _ _,World.ownsRow_nil _ _ _ _⟩
theorem gX(base rb:Nat)(A:List aP)(R:List Rc)(L:ByteArray)(av rv:Value)(S:RS)(w:World)(h:RV w base rb A R L av rv)(hh:Hist A S)(hn:A.length≤1000000000) :
 Calls Tryz.prog 137 #[.pointer (some ⟨rb,0,none⟩)] w fun e w'=>e=.returned (.pointer (some ⟨w.heap.size,0,none⟩))∧(∃m,bH w' w.heap.size w.heap.size S m)∧ag ak w w':=by
 obtain⟨Qc,h0,h1,h2⟩:=hh
 obtain⟨N,hN⟩:∃N,A.length=N:=⟨_,rfl⟩
 obtain⟨a,c,hv⟩:=az h.xm
 have HC:Hid (∀i,i<N→∃(g:Nat) (x:aP) (rep:Value),a=some ⟨g,0,none⟩∧g<w.heap.size∧iD (Qc i) x (Qc (i+1)) rep 0∧(∀j u,(vY x)[j]?=some u→w.cell? ⟨g,i * 13+j,none⟩=some u)):=fun i hi=>by
  obtain⟨x,hx⟩:∃x,A[i]?=some x:=⟨_,List.getElem?_eq_getElem (by omega)⟩
  obtain⟨g,e1,e2,e3⟩:=h.aad hv hx
  obtain⟨rep,hd⟩:=h2 i x hx
  exact⟨g,x,rep,e1,e2,hd,e3⟩
 rw[hN]at hv hn h1
 have v0:w.cell? ⟨rb,0,none⟩=some (.slice a N c):=by rw[←hv];exact h.blk.cell 0
 have lrb:=h.blk.lt
 have HI:=hide (bH.start w)
 rw[←h0]at HI
 obtain⟨w1,hw1⟩:∃w1,w1=(w.alloc (.cells #[.slice none 0 0,.slice none 0 0,.slice none 0 0,.int .i64 1,.int .i64 0,.slice none 0 0] 207)):=⟨_,rfl⟩
 rw[←hw1]at HI
 have HK:Hid (ag ak w w1):=by rw[hw1];exact (ag.refl ak w).alloc _
 have HV:=hide v0
 have HW1:=hide hw1
 clear h hv h2 hN v0 hw1
 go_enter Tryz.func137,Tryz.ntmps137
 go_wp2
 rw[←ae HW1]
 go_loopg [4] N (fun k iv wr=>∃(i:Nat) (m:SM),iv=.int .i64 (i:Int)∧i≤N∧k=N-i∧bH wr w.heap.size w.heap.size (Qc i) m∧ag ak w wr)
 case atStart=>exact⟨0,_,rfl,Nat.zero_le _,rfl,ae HI,ae HK⟩
 case round =>
  obtain⟨i,m,rfl,hi,hgk,hst,hk⟩:=hrel
  have v0:wr.cell? ⟨rb,0,none⟩=some (.slice a N c):=hk.cell (ae HV) (fun x=>x)
  have HST:=hide hst
  have HKK:=hide hk
  by_cases hlt:i<N
  ·obtain⟨g,x,rep,rfl,lg,hd,hx⟩:=ae HC i hlt
   have x0:wr.cell? ⟨g,i * 13,none⟩=some (.int .u8 x.kind):=hk.cell (hx 0 _ rfl) (fun x=>x)
   have x1:wr.cell? ⟨g,i * 13+1,none⟩=some (.string x.s):=hk.cell (hx 1 _ rfl) (fun x=>x)
   have x2:wr.cell? ⟨g,i * 13+2,none⟩=some (.int .i64 x.o.id):=hk.cell (hx 2 _ rfl) (fun x=>x)
   have x3:wr.cell? ⟨g,i * 13+3,none⟩=some (.int .i64 x.o.owner):=hk.cell (hx 3 _ rfl) (fun x=>x)
   have x4:wr.cell? ⟨g,i * 13+4,none⟩=some (.string x.o.sym):=hk.cell (hx 4 _ rfl) (fun x=>x)
   have x5:wr.cell? ⟨g,i * 13+5,none⟩=some (.int .i64 x.o.side):=hk.cell (hx 5 _ rfl) (fun x=>x)
   have x6:wr.cell? ⟨g,i * 13+6,none⟩=some (.int .i64 x.o.kind):=hk.cell (hx 6 _ rfl) (fun x=>x)
   have x7:wr.cell? ⟨g,i * 13+7,none⟩=some (.int .i64 x.o.price):=hk.cell (hx 7 _ rfl) (fun x=>x)
   have x8:wr.cell? ⟨g,i * 13+8,none⟩=some (.int .i64 x.o.qty):=hk.cell (hx 8 _ rfl) (fun x=>x)
   have x9:wr.cell? ⟨g,i * 13+9,none⟩=some (.int .i64 x.a):=hk.cell (hx 9 _ rfl) (fun x=>x)
   have x10:wr.cell? ⟨g,i * 13+10,none⟩=some (.int .i64 x.b):=hk.cell (hx 10 _ rfl) (fun x=>x)
   have x11:wr.cell? ⟨g,i * 13+11,none⟩=some (.int .i64 x.c):=hk.cell (hx 11 _ rfl) (fun x=>x)
   have x12:wr.cell? ⟨g,i * 13+12,none⟩=some (.bool x.again):=hk.cell (hx 12 _ rfl) (fun x=>x)
   have HD:=hide (hd w.heap.size w.heap.size m wr hst)
   simp only[aP.val,aP.cells]at HD
   clear hd hx hst hk
   go_wp2_with fail
   refine (ae HD).mono ?_
   rintro e w3 ⟨rfl,hn3⟩
   have J5:=hide hn3
   clear hn3
   go_wp2
   go_roundg (N-(i+1))
   case measure=>omega
   case rel =>
    obtain⟨m',p,q,kk⟩:=ae J5
    exact⟨i+1,m',by push_cast;rfl,by omega,rfl,p,(ae HKK).from (kk.mono (fun b hb=>.inr ((ae HST).lt hb).1))⟩
  ·obtain rfl:i=N:=by omega
   go_wp2
   go_ret
   rw[h1]at hst
   exact⟨rfl,⟨m,hst⟩,hk⟩
def RF(rb:Nat)(av rv:Value)(b:Nat):Prop:=b=rb∨av.ownBlock=some b∨rv.ownBlock=some b
theorem RV.lt{w:World}{base rb:Nat}{A:List aP}{R:List Rc}{L:ByteArray}{av rv:Value}(h:RV w base rb A R L av rv){b:Nat}(hb:RF rb av rv b):base≤b∧b<w.heap.size:=by
 rcases hb with rfl | hb | hb
 ·exact⟨h.ge,h.blk.lt⟩
 ·exact h.xm.lt _ hb
 ·exact h.uS.lt _ hb
def zV(base rb:Nat)(A:List aP)(R:List Rc)(L:ByteArray)(av rv:Value)(w w':World):Prop:=∃YZ rv',RV w' base rb A R L YZ rv'∧(∀b,RF rb YZ rv' b→RF rb av rv b∨w.heap.size≤b)∧ag (RF rb av rv) w w'
theorem zV.ext{w w' w'':World}{base rb:Nat}{A:List aP}{R:List Rc}{L:ByteArray}{av rv:Value}(h:zV base rb A R L av rv w w')(k:ag ak w' w''):zV base rb A R L av rv w w'':=by
 obtain⟨a,b,h1,h2,h3⟩:=h
 exact⟨a,b,h1.aj k,h2,h3.trans k.aC⟩
theorem zV.pre{w0 w w':World}{base rb:Nat}{A:List aP}{R:List Rc}{L:ByteArray}{av rv:Value}(k:ag ak w0 w)(h:zV base rb A R L av rv w w'):zV base rb A R L av rv w0 w':=by
 obtain⟨a,b,h1,h2,h3⟩:=h
 exact⟨a,b,h1,fun c hc=>(h2 c hc).imp_right (fun x=>Nat.le_trans k.size x),k.aC.trans h3⟩
theorem zV.trans{w w' w'':World}{base rb:Nat}{A A':List aP}{R R':List Rc}{L L':ByteArray}{av rv:Value}(h:zV base rb A R L av rv w w')(k:∀a b,RV w' base rb A R L a b→zV base rb A' R' L' a b w' w''):zV base rb A' R' L' av rv w w'':=by
 obtain⟨a,b,h1,h2,h3⟩:=h
 obtain⟨a',b',k1,k2,k3⟩:=k a b h1
 refine⟨a',b',k1,fun c hc=>?_,h3.from (k3.mono h2)⟩
 rcases k2 c hc with hc | hc
 ·exact h2 c hc
 ·exact .inr (Nat.le_trans h3.size hc)
theorem RV.Px{w1 w2:World}{base rb n H g cap:Nat}{A:List aP}{R:List Rc}{L:ByteArray}{av rv:Value}{r:Rc}(h:RV w1 base rb A R L av rv)(hn:R.length=n)(hown:w2.ownsRow base 62 9 (.slice (some ⟨g,0,none⟩) (n+1) cap) (n+1) (dP R++r.cells))(hgrow:w1.grownBy w2 rv.ownBlock)(hat:rv.ownBlock=some g∨g=H)(hH:w1.heap.size=H) :
 zV base rb A (R++[r]) L av rv w1 (w2.setCell ⟨rb,1,none⟩ (.slice (some ⟨g,0,none⟩) (n+1) cap)):=by
 have hne:rv.ownBlock≠some rb:=fun e=>by obtain⟨cs,hc⟩:=ay h.uS e;exact ai.ne hc h.blk (by decide) rfl
 have hb2:ai w2 rb _ 129:=(hgrow.block rb h.blk.lt (fun e=>hne e.symm)).trans h.blk
 have k1:ag (fun b=>rv.ownBlock=some b) w1 w2:=(ag.refl _ w1).grown hgrow (fun k e=>.inl e)
 have k2:ag (fun b=>b=rb) w2 (w2.setCell ⟨rb,1,none⟩ (.slice (some ⟨g,0,none⟩) (n+1) cap)):=(ag.refl (fun b=>b=rb) w2).setCell (p:=⟨rb,1,none⟩) (.inl rfl) _
 refine⟨av,.slice (some ⟨g,0,none⟩) (n+1) cap,⟨h.ge,hb2.set 1 _,?_,?_⟩,?_,?_⟩
 ·have r1:=aJ (t:=0) h.xm k1 (fun b hb=>by obtain⟨cs,hc⟩:=ay h.uS hb;exact⟨cs,_,hc,by decide⟩)
  exact aJ (t:=0) r1 k2 (fun b hb=>by subst hb;exact⟨_,_,hb2,by decide⟩)
 ·simp only[List.length_append,List.length_cons,List.length_nil,hn,lD]
  exact aJ (t:=0) hown k2 (fun b hb=>by subst hb;exact⟨_,_,hb2,by decide⟩)
 ·rintro b (rfl | hb | hb)
  ·exact .inl (.inl rfl)
  ·exact .inl (.inr (.inl hb))
  ·simp only[Value.ownBlock,Option.some.injEq]at hb
   rcases hat with e | e
   ·exact .inl (.inr (.inr (by rw[e,hb])))
   ·right;omega
 ·exact (k1.mono (fun b hb=>.inr (.inr hb))).trans (k2.mono (fun b hb=>.inl hb))
def Rc.val(r:Rc):Value:=.agg #[.int .i64 r.num,.int .i64 r.kind,.int .i64 r.t.num,.string r.t.sym,.int .i64 r.t.price,.int .i64 r.t.qty,.int .i64 r.t.jh,.int .i64 r.t.sell,.int .i64 r.t.day]
theorem Gj(base rb:Nat)(A:List aP)(R:List Rc)(L:ByteArray)(av rv:Value)(r:Rc)(w:World)(h:RV w base rb A R L av rv)(hlen:R.length<1000000000) :
 Calls Tryz.prog 140 #[.pointer (some ⟨rb,0,none⟩),r.val] w fun e w'=>e=.returned (.tuple #[])∧zV base rb A (R++[{ r with num:=(R.length:Int)+1 }]) L av rv w w':=by
 obtain⟨n,hn⟩:∃n,R.length=n:=⟨_,rfl⟩
 have fQ:=h.uS
 rw[hn]at fQ hlen
 obtain⟨pa,iL,hpv⟩:=az fQ
 rw[hpv]at fQ
 have hv:=h.blk
 have v1:w.cell? ⟨rb,1,none⟩=some (.slice pa n iL):=(hv.cell 1).trans (by rw[←hpv];rfl)
 have lv:=hv.lt
 have hge:=h.ge
 have hmx:n+1≤maxLen:=by unfold maxLen;omega
 have ik:(n+1) * 80≤140737488355328:=by omega
 obtain⟨i0,z0,hi0,hz0,hz1,hz2,hz3⟩:=iQ
 obtain⟨aaV,kind,tn,ts,tp,tq,jd,jf,td⟩:=r
 simp only[Rc.val]
 rw[hn]
 obtain⟨w0,hw0⟩:∃w0,w0=w.alloc (.cells #[.int .i64 ((n:Int)+1),.int .i64 kind,.int .i64 tn,.string ts,.int .i64 tp,.int .i64 tq,.int .i64 jd,.int .i64 jf,.int .i64 td] 62):=⟨_,rfl⟩
 have k0:ag ak w w0:=by rw[hw0];exact (ag.refl ak w).alloc _
 have b0:ai w0 w.heap.size #[.int .i64 ((n:Int)+1),.int .i64 kind,.int .i64 tn,.string ts,.int .i64 tp,.int .i64 tq,.int .i64 jd,.int .i64 jf,.int .i64 td] 62:=by rw[hw0];exact ai.new _ _ _
 have hs0:w0.heap.size=w.heap.size+1:=by rw[hw0];simp
 have hrow0:=au fQ k0 (fun _ _ x=>x)
 have v1':w0.cell? ⟨rb,1,none⟩=some (.slice pa n iL):=k0.cell v1 (fun x=>x)
 have t0:w0.cell? ⟨w.heap.size,0,none⟩=some (.int .i64 ((n:Int)+1)):=b0.cell 0
 have t1:w0.cell? ⟨w.heap.size,1,none⟩=some (.int .i64 kind):=b0.cell 1
 have t2:w0.cell? ⟨w.heap.size,2,none⟩=some (.int .i64 tn):=b0.cell 2
 have t3:w0.cell? ⟨w.heap.size,3,none⟩=some (.string ts):=b0.cell 3
 have t4:w0.cell? ⟨w.heap.size,4,none⟩=some (.int .i64 tp):=b0.cell 4
 have t5:w0.cell? ⟨w.heap.size,5,none⟩=some (.int .i64 tq):=b0.cell 5
 have t6:w0.cell? ⟨w.heap.size,6,none⟩=some (.int .i64 jd):=b0.cell 6
 have t7:w0.cell? ⟨w.heap.size,7,none⟩=some (.int .i64 jf):=b0.cell 7
 have t8:w0.cell? ⟨w.heap.size,8,none⟩=some (.int .i64 td):=b0.cell 8
 obtain⟨w1,hw1⟩:∃w1,w1=(w0.alloc (.cells #[.int .i64 ((n:Int)+1),.int .i64 kind,.int .i64 tn,.string ts,.int .i64 tp,.int .i64 tq,.int .i64 jd,.int .i64 jf,.int .i64 td] 62)).drew:=⟨_,rfl⟩
 have k1:ag ak w0 w1:=by rw[hw1];exact ((ag.refl ak w0).alloc _).drew
 have hrow1:=au hrow0 k1 (fun _ _ x=>x)
 have hsz1:w1.heap.size=w.heap.size+2:=by rw[hw1];simp[hs0]
 have hnews:∀j u,(Rc.cells ⟨(n:Int)+1,kind,⟨tn,ts,tp,tq,jd,jf,td⟩⟩)[j]?=some u→w1.cell? (Addr.add ⟨w.heap.size+1,0,none⟩ j)=some u:=by
  intro j u hj
  have:=FH w0 ⟨(n:Int)+1,kind,⟨tn,ts,tp,tq,jd,jf,td⟩⟩ j u hj
  rw[hs0]at this
  rw[hw1]
  exact this
 have hone:∀u∈Rc.cells ⟨(n:Int)+1,kind,⟨tn,ts,tp,tq,jd,jf,td⟩⟩,u.oneCell'=true:=by simp[Rc.cells,Value.oneCell']
 have h1:=(h.aj k0).aj k1
 have HR:=hide hrow1
 have zi:=hide hnews
 have oN:=hide hone
 have wS:=hide hsz1
 have sO:=hide h1
 have GY:=hide hpv
 have HW:=hide hw0
 have HW1:=hide hw1
 have hne:w.heap.size≠rb:=by omega
 have hne':=hne.symm
 have HK:=hide (k0.trans k1)
 have HN:=hide hn
 clear fQ h hpv hrow0 hw0 b0 hrow1 hnews hone hw1 hsz1 h1 k0 k1 hn hv
 go_enter Tryz.func140,Tryz.ntmps140
 go_wp2
 rw[←ae HW]
 clear v1
 go_region_law (first | (rw[←ae HW1];refine step_append_lies _ rfl (.tmp 15) (.tmp 17) 34 rfl base 62 i0 z0 9 80 Tryz.underlying34 hi0 hz0 hz1 hz2 hz3 (by decide) (.slice pa n iL) n (dP R) rfl (ae HR) ⟨w.heap.size+1,0,none⟩ 1 1 (Rc.cells ⟨(n:Int)+1,kind,⟨tn,ts,tp,tq,jd,jf,td⟩⟩) rfl rfl (ae zi) (ae oN) (by omega) hmx ik (by have:=ae wS;omega) (w.heap.size+2) (ae wS) ?_;intro g cap w2 hown2 hgrow hat hlt;have vk:=hide hown2;have HG2:=hide hgrow;have HA2:=hide hat;have b2:ai w2 rb _ 129:=(hgrow.block rb (ae sO).blk.lt (fun e=>by obtain⟨cs,hc⟩:=ay (ae sO).uS (b:=rb) (by rw[ae GY];exact e.symm);exact ai.ne hc (ae sO).blk (by decide) rfl)).trans (ae sO).blk;have v52:=b2.cell 1;have f52:=b2.frozen 1;simp at v52;clear hown2 hgrow hat b2))
 all_goals
  go_end0
  have a1:=(ae sO).Px (r:=⟨(n:Int)+1,kind,⟨tn,ts,tp,tq,jd,jf,td⟩⟩) (ae HN) (ae vk) (by rw[ae GY];exact ae HG2) (by rw[ae GY];exact ae HA2) (ae wS)
  exact⟨rfl,zV.pre (ae HK) a1⟩
def kU(s:Int)(last:Option Int)(p:Int):Bool:=match last with
 | none=>true
 | some q=>if s=0 then decide (p<q) else decide (q<p)
def sV(s:Int)(b:fJ)(p:Int):Bool:=if b.num=0 then true else if s=0 then decide (b.price<p) else decide (p<b.price)
def lK(b:fJ)(o:Ord):fJ:=⟨b.price,wrap64 (b.qty+o.opn),wrap64 (b.num+1)⟩
def jE(sym:ByteArray)(s:Int)(last:Option Int)(b:fJ)(o:Ord):fJ :=
 if o.sym≠sym∨o.side≠s∨o.opn=0 then b else if kU s last o.price=false then b
 else if sV s b o.price=true then lK ⟨o.price,0,0⟩ o else if o.price=b.price then lK b o else b
def GR(l:List Ord)(sym:ByteArray)(s:Int)(last:Option Int):Nat→fJ
 | 0=>⟨0,0,0⟩
 | i+1=>jE sym s last (GR l sym s last i) (ah l i)
def dQ(out:List fJ):Option Int:=out.getLast?.map fJ.price
def iV(l:List Ord)(sym:ByteArray)(s:Int)(out:List fJ):fJ:=GR l sym s (dQ out) l.length
inductive kJ (l:List Ord) (sym:ByteArray) (s:Int):Nat→List fJ→List fJ→Prop
 | stop (f:Nat) (out:List fJ) (h:(iV l sym s out).num=0):kJ l sym s f out out
 | go (f:Nat) (out out':List fJ) (h:(iV l sym s out).num≠0) (e:kJ l sym s f (out++[iV l sym s out]) out'):kJ l sym s (f+1) out out'
theorem kJ.inv{l:List Ord}{sym:ByteArray}{s:Int}{q:Nat}{out out':List fJ}(h:kJ l sym s q out out'):(out'=out∧(iV l sym s out).num=0)∨∃f,q=f+1∧(iV l sym s out).num≠0∧kJ l sym s f (out++[iV l sym s out]) out':=by
 cases h with
 | stop _ _ hs=>exact .inl ⟨rfl,hs⟩
 | go f _ _ h e=>exact .inr ⟨f,rfl,h,e⟩
theorem Ei(sym:ByteArray)(s:Int)(last:Option Int)(b:fJ)(o:Ord) :
 ((o.sym.toList == sym.toList)=false∧jE sym s last b o=b) ∨
 (o.sym=sym∧(o.side == s)=false∧jE sym s last b o=b) ∨
 (o.sym=sym∧o.side=s∧o.opn=0∧jE sym s last b o=b) ∨
 (o.sym=sym∧o.side=s∧(o.opn == 0)=false∧(
   (kU s last o.price=false∧jE sym s last b o=b) ∨
   (kU s last o.price=true∧sV s b o.price=true∧jE sym s last b o=lK ⟨o.price,0,0⟩ o) ∨
   (kU s last o.price=true∧sV s b o.price=false∧o.price=b.price∧jE sym s last b o=lK b o) ∨
   (kU s last o.price=true∧sV s b o.price=false∧(o.price == b.price)=false∧jE sym s last b o=b))):=by
 unfold jE
 rw[PK]
 by_cases h1:o.sym=sym
 ·by_cases h2:o.side=s
  ·by_cases h3:o.opn=0
   ·right;right;left;simp[h1,h2,h3]
   ·right;right;right
    refine⟨h1,h2,by simp[h3],?_⟩
    rw[if_neg (by simp[h1,h2,h3])]
    cases kU s last o.price
    ·left;simp
    ·cases sV s b o.price
     ·by_cases h4:o.price=b.price
      ·right;right;left;simp[h4]
      ·right;right;right;simp[h4]
     ·right;left;simp
  ·right;left;simp[h1,h2]
 ·left;simp[h1]
def fJ.arr(b:fJ):Array Value:=#[.int .i64 b.price,.int .i64 b.qty,.int .i64 b.num]
structure Bi(w:World)(H n bb:Nat)(S:RS)(m:SM)(ov:Value)(out:List fJ)(b:fJ)(wi:World):Prop where
 best:ai wi bb b.arr 93
 st:bH wi H H S m
 row:wi.ownsRow H 93 3 ov n (flat out)
 ne:ov.ownBlock≠some bb
 ge:H≤bb
 gY:ag ak w wi
theorem Bi.ext{w wi U9:World}{H n bb:Nat}{S:RS}{m:SM}{ov:Value}{out:List fJ}{b:fJ}(h:Bi w H n bb S m ov out b wi)(k:ag ak wi U9):Bi w H n bb S m ov out b U9 :=
 ⟨k.blk h.best (fun x=>x),h.st.aj k,au h.row k (fun _ _ x=>x),h.ne,h.ge,h.gY.trans k⟩
theorem Bi.put{w wi U9:World}{H n bb:Nat}{S:RS}{m:SM}{ov:Value}{out:List fJ}{b b':fJ}(hH:w.heap.size≤H)(h:Bi w H n bb S m ov out b wi)(k:ag (fun x=>x=bb) wi U9)(hb:ai U9 bb b'.arr 93):Bi w H n bb S m ov out b' U9:=by
 have nb:∀x,SF H m x→¬x=bb:=fun x hx e=>by subst e;exact h.st.ne h.best (by decide) hx
 have hr':∀{e size n:Nat} {v:Value} {xs:List Value},wi.ownsRow H e size v n xs→(∀b,v.ownBlock=some b→SF H m b)→U9.ownsRow H e size v n xs:=fun r hs=>au r k (fun b hb=>nb b (hs b hb))
 refine⟨hb,⟨h.st.ge,k.blk h.st.blk (nb _ (.inl rfl)),hr' h.st.jH (fun b hb=>.inr (.inl hb)),hr' h.st.bI (fun b hb=>.inr (.inr (.inl hb))),hr' h.st.dE (fun b hb=>.inr (.inr (.inr (.inl hb)))),hr' h.st.jS (fun b hb=>.inr (.inr (.inr (.inr hb))))⟩,au h.row k (fun x hx e=>by subst e;exact h.ne hx),h.ne,h.ge,h.gY.from (k.mono (fun x hx=>.inr (by have:=h.ge;omega)))⟩
theorem Ap{W:World}{base cap:Nat}{a:Option Addr}{v:Value}{out:List fJ}(h:W.ownsRow base 93 3 v out.length (flat out))(hv:v=.slice a out.length cap):(out.length=0∧dQ out=none)∨∃k go q,k<out.length∧(out.length:Int)-1=(k:Int)∧a=some ⟨go,0,none⟩∧dQ out=some q∧∀W':World,W'.ownsRow base 93 3 v out.length (flat out)→W'.cell? ⟨go,k * 3,none⟩=some (.int .i64 q)∧go<W'.heap.size:=by
 rcases List.eq_nil_or_concat out with rfl | ⟨ini,l,e⟩
 ·left;exact⟨rfl,rfl⟩
 ·right
  rw[List.concat_eq_append]at e
  subst e
  subst hv
  have hl:(ini++[l]).length=ini.length+1:=by simp
  obtain⟨go,rfl,_⟩:=fH h (by omega)
  refine⟨ini.length,go,l.price,by omega,by omega,rfl,by simp[dQ],fun W' h'=>⟨?_,(h'.lt go rfl).2⟩⟩
  rw[h'.cellAt _ (by omega)]
  have:=CV (ini++[l]) ini.length 0 (by omega) (by omega)
  rw[show ini.length * 3=3 * ini.length+0 by omega,this]
  simp[fJ.cells]
theorem En(s:Int)(b:fJ)(p:Int):(sV s b p=true∧b.num=0)∨((b.num == 0)=false∧(if s=0 then decide (b.price<p) else decide (p<b.price))=sV s b p):=by
 unfold sV
 by_cases h:b.num=0
 ·left;simp[h]
 ·right;simp[h]
theorem UN{o:Ord}{p on:Int}(h1:o.price=p)(h2:o.opn=on):lK ⟨o.price,0,0⟩ o=⟨p,wrap64 on,1⟩:=by
 unfold lK
 rw[h1,h2,Int.zero_add]
 have e:wrap64 (0+1)=1:=aF (by decide) (by decide)
 simp only
 rw[e]
theorem pX{o:Ord}{p on:Int}(h2:o.opn=on):lK ⟨p,0,0⟩ o=⟨p,wrap64 on,1⟩:=by
 unfold lK
 rw[h2,Int.zero_add]
 have e:wrap64 (0+1)=1:=aF (by decide) (by decide)
 simp only
 rw[e]
theorem CU{b:fJ}{o:Ord}{on:Int}(h2:o.opn=on):lK b o=⟨b.price,wrap64 (b.qty+on),wrap64 (b.num+1)⟩:=by
 unfold lK
 rw[h2]
theorem vG{W:World}{r:Nat}(a b c d e:Value):ag (fun x=>x=r) W (((((W.setCell ⟨r,0,none⟩ a).setCell ⟨r,1,none⟩ b).setCell ⟨r,2,none⟩ c).setCell ⟨r,1,none⟩ d).setCell ⟨r,2,none⟩ e) :=
 (((((ag.refl (fun x=>x=r) W).setCell (p:=⟨r,0,none⟩) (.inl rfl) _).setCell (p:=⟨r,1,none⟩) (.inl rfl) _).setCell (p:=⟨r,2,none⟩) (.inl rfl) _).setCell (p:=⟨r,1,none⟩) (.inl rfl) _).setCell (p:=⟨r,2,none⟩) (.inl rfl) _
theorem Jw{W:World}{r:Nat}(a b:Value):ag (fun x=>x=r) W ((W.setCell ⟨r,1,none⟩ a).setCell ⟨r,2,none⟩ b) :=
 ((ag.refl (fun x=>x=r) W).setCell (p:=⟨r,1,none⟩) (.inl rfl) _).setCell (p:=⟨r,2,none⟩) (.inl rfl) _
theorem O0(w:World)(b:fJ):∀j u,([Value.int .i64 b.price,.int .i64 b.qty,.int .i64 b.num]:List Value)[j]?=some u→(w.alloc (.cells #[.int .i64 b.price,.int .i64 b.qty,.int .i64 b.num] 93)).cell? (Addr.add ⟨w.heap.size,0,none⟩ j)=some u:=by
 intro j u hj
 have hb:=ai.new w #[.int .i64 b.price,.int .i64 b.qty,.int .i64 b.num] 93
 match j,hj with
 | 0,hj=>rw[←hj];exact hb.cell 0
 | 1,hj=>rw[←hj];exact hb.cell 1
 | 2,hj=>rw[←hj];exact hb.cell 2
 | j+3,hj=>simp at hj
theorem Bi.QD{w wi w4:World}{n bb:Nat}{S:RS}{m:SM}{ov:Value}{out:List fJ}{b:fJ}{o:Obj}(h:Bi w w.heap.size n bb S m ov out b wi)(hg:(wi.alloc o).grownBy w4 ov.ownBlock):ag (fun x=>ov.ownBlock=some x) wi w4 :=
 ((ag.refl (fun x=>ov.ownBlock=some x) wi).alloc o).grown hg (fun k e=>.inl e)
theorem Bi.grown{w wi w4:World}{n bb:Nat}{S:RS}{m:SM}{ov:Value}{out:List fJ}{b:fJ}{o:Obj}(h:Bi w w.heap.size n bb S m ov out b wi)(hg:(wi.alloc o).grownBy w4 ov.ownBlock):bH w4 w.heap.size w.heap.size S m:=by
 have k:=h.QD hg
 have nb:∀x,SF w.heap.size m x→¬ov.ownBlock=some x:=fun x hx e=>by
  obtain⟨cs,hc⟩:=ay h.row e
  exact h.st.ne hc (by decide) hx
 have hr':∀{e size n:Nat} {v:Value} {xs:List Value},wi.ownsRow w.heap.size e size v n xs→(∀b,v.ownBlock=some b→SF w.heap.size m b)→w4.ownsRow w.heap.size e size v n xs:=fun r hs=>au r k (fun b hb=>nb b (hs b hb))
 exact⟨h.st.ge,k.blk h.st.blk (nb _ (.inl rfl)),hr' h.st.jH (fun b hb=>.inr (.inl hb)),hr' h.st.bI (fun b hb=>.inr (.inr (.inl hb))),hr' h.st.dE (fun b hb=>.inr (.inr (.inr (.inl hb)))),hr' h.st.jS (fun b hb=>.inr (.inr (.inr (.inr hb))))⟩
theorem Bi.Ob{w wi w4:World}{n bb:Nat}{S:RS}{m:SM}{ov:Value}{out:List fJ}{b:fJ}{o:Obj}(h:Bi w w.heap.size n bb S m ov out b wi)(hg:(wi.alloc o).grownBy w4 ov.ownBlock):ag ak w w4 :=
 h.gY.from ((h.QD hg).mono (fun x hx=>.inr (h.row.lt x hx).1))
end Go.Proofs.YtigaphnafnpfnaaGreatDoor
