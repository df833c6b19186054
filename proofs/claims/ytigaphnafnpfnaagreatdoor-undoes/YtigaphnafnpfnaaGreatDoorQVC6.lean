import Derived.Test.YtigaphnafnpfnaaGreatDoorQVX4
set_option linter.unusedVariables false
set_option linter.unusedSimpArgs false
set_option maxHeartbeats 8000000
set_option maxRecDepth 100000
namespace Go.Proofs.YtigaphnafnpfnaaGreatDoor
open Go.RowKit Go.Maps Go.Lib
attribute [local go_sem ↓] Go.wp_at_zero Go.wp_at_succ
def ji:Array Value:=#[II 0,II 0,.string ⟨#[]⟩,II 0,II 0,II 0,II 0,II 0,II 0,II 0,II 0,II 0]
theorem V8(tmps:Array Value)(H:Nat)(w:World)(x:Int)(c0 c1 d e c5 f c7 c8 c9 a b:Int)(c:ByteArray)(g:tmps.getD 4 undef=PP H)(i:tmps.getD 5 undef=II x)
 (j:au w H #[II c0,II c1,.string c,II d,II e,II c5,II f,II c7,II c8,II c9,II a,II b] 54) :
 (results Tryz.f26 tmps).run Tryz.prog w=.ok (.tuple #[.agg #[II c0,II c1,.string c,II d,II e,II c5,II f,II c7,II c8,II c9,II a,II b],II x]) w:=by
 obtain⟨k,l,o,p,q,r,s,t,u,v,m,n⟩:=j.c12;simp only[Array.getD_eq_getD_getElem?]at g i;simp[results,Tryz.results26,go_sem,g,i,k,l,o,p,q,r,s,t,u,v,m,n]
theorem SH{w:World}{H:Nat}(i:au w H ji 54)(v0 a v2 v3 v4 v5 d f g v9 b c:Value):au ((((((((((((w.setCell ⟨H,0,none⟩ v0).setCell ⟨H,1,none⟩ a).setCell ⟨H,2,none⟩ v2).setCell ⟨H,3,none⟩ v3).setCell ⟨H,4,none⟩ v4).setCell ⟨H,5,none⟩ v5).setCell ⟨H,6,none⟩ d).setCell ⟨H,7,none⟩ f).setCell ⟨H,8,none⟩ g).setCell ⟨H,9,none⟩ v9).setCell ⟨H,10,none⟩ b).setCell ⟨H,11,none⟩ c) H #[v0,a,v2,v3,v4,v5,d,f,g,v9,b,c] 54:=by
 have h:=((((((((((((i.set 0 v0).set 1 a).set 2 v2).set 3 v3).set 4 v4).set 5 v5).set 6 d).set 7 f).set 8 g).set 9 v9).set 10 b).set 11 c);have e:((((((((((((ji.setIfInBounds 0 v0).setIfInBounds 1 a).setIfInBounds 2 v2).setIfInBounds 3 v3).setIfInBounds 4 v4).setIfInBounds 5 v5).setIfInBounds 6 d).setIfInBounds 7 f).setIfInBounds 8 g).setIfInBounds 9 v9).setIfInBounds 10 b).setIfInBounds 11 c)=#[v0,a,v2,v3,v4,v5,d,f,g,v9,b,c]:=by simp[ji]
 rw[e]at h;exact h
theorem Ja(bv f a:Nat)(V:aS)(id:Int)(w:World)(R:dL w bv f a V)(i:(Lit.int .i64 id).wf=true)(g:V.aV id=none) :
 CT 26 #[PP bv,II id] w fun e w'=>e=.returned (.tuple #[.agg ji,II 6])/\aj aA w w':=by
 obtain⟨k,c,b⟩:=R.fA;have j:aj aA w (w.alloc (.cells ji 54)):=(aj.refl aA w).alloc _;have d:(Instr.lookup 95 (.map (some a)) (II id) false).run Tryz.prog (w.alloc (.cells ji 54))=.ok (.pointer none) (w.alloc (.cells ji 54)):=by
  rw[(c.aC j idd).look yT Tryz.underlying95 (wu _) (keyOf_int_mk Tryz.underlying3 i),b,g];rfl
 simp only[ji]at d;have l:CC w bv 1 (.map (some a)):=R.cO.cell 1;have lv:=R.cO.lt;clear c b R;go_enter Tryz.func26,Tryz.ntmps26;go_wp2;refine bodyPost_ret (V8 _ w.heap.size _ 6 0 0 0 0 0 0 0 0 0 0 0 ⟨#[]⟩ rfl rfl ?_) rfl ⟨rfl,?_⟩
 ·exact au.new w _ _
 ·exact (aj.refl aA w).alloc _
theorem Jb(bv s g b:Nat)(V:aS)(id:Int)(w:World)(R:dL w bv s g V)(E:(Lit.int .i64 id).wf=true)(i:V.aV id=some b)(D:(V.om b).sym.size<=100000) :
 CT 26 #[PP bv,II id] w fun e w'=>e=.returned (.tuple #[.agg (qO (V.om b)),II 0])/\aj aA w w':=by
 obtain⟨J,q,l⟩:=R.fA;have F:aj aA w (w.alloc (.cells ji 54)):=(aj.refl aA w).alloc _;have k:(Instr.lookup 95 (.map (some g)) (II id) false).run Tryz.prog (w.alloc (.cells ji 54))=.ok (PP b) (w.alloc (.cells ji 54)):=by
  rw[(q.aC F idd).look yT Tryz.underlying95 (wu _) (keyOf_int_mk Tryz.underlying3 E),l,i];rfl
 simp only[ji]at k;have I:CC w bv 1 (.map (some g)):=R.cO.cell 1;have lv:=R.cO.lt;obtain⟨-,K,m⟩:=R.bg id b i;have lo:=m.lt;generalize V.om b=o at *;obtain⟨c0,c1,v,x,y,c5,z,c7,c8,c9,t,u⟩:=m.c12;obtain⟨f,d⟩:=gy ((w.alloc (.cells #[II 0,II 0,.string ⟨#[]⟩,II 0,II 0,II 0,II 0,II 0,II 0,II 0,II 0,II 0] 54)).alloc (.cells #[II o.id,II o.aG,.string o.sym,II o.side,II o.kind,II o.af,II o.az,II o.entered,II o.aH,II o.filled,II o.aX,II o.exp] 54));have H:aj aA w f:=by rw[d];exact ((aj.refl aA w).alloc _).alloc _
 have B:au f w.heap.size ji 54:=by rw[d];exact (au.new w _ _).alloc _
 have C:au f (w.heap.size+1) (qO o) 54:=by rw[d];exact au.qm w _ _ _
 have r:=ai d;clear q l R d i;go_enter Tryz.func26,Tryz.ntmps26;go_wp2_with fail;rw[<-ae r];refine (xI o.sym f D).mono ?_;rintro e w2 ⟨rfl,j⟩;clear c0 c1 v x y c5 z c7 c8 c9 t u k I;have c:=j.ay B idd;have n:=j.ay C idd;have A:w.heap.size+1≠w.heap.size:=by omega
 obtain⟨s0,s1,s2,s3,s4,s5,s6,s7,s8,s9,s10,s11⟩:=n.c12;have t2:=n.frozen 2;obtain⟨Z,r1,r2,r3,r4,r5,r6,r7,r8,r9,r10,r11⟩:=c.c12;have L:=c.frozen 0;have M:=c.frozen 1;have P:=c.frozen 2;have Q:=c.frozen 3;have S:=c.frozen 4;have T:=c.frozen 5;have U:=c.frozen 6;have W:=c.frozen 7;have X:=c.frozen 8;have Y:=c.frozen 9;have N:=c.frozen 10;have O:=c.frozen 11;go_wp2;refine bodyPost_ret (V8 _ w.heap.size _ 0 o.id o.aG o.side o.kind o.af o.az o.entered o.aH o.filled o.aX o.exp o.sym rfl rfl ?_) rfl ⟨rfl,?_⟩
 ·exact SH (c.other (a:=⟨w.heap.size+1,2,none⟩) (fun e=>A e.symm) _) _ _ _ _ _ _ _ _ _ _ _ _
 ·have G:aj aA w w2:=H.trans j;exact ((((((((((((((G).setCell (p:=⟨w.heap.size+1,2,none⟩) (.inr (Nat.le_succ _)) _).setCell (p:=⟨w.heap.size,0,none⟩) (.inr (Nat.le_refl _)) _).setCell (p:=⟨w.heap.size,1,none⟩) (.inr (Nat.le_refl _)) _).setCell (p:=⟨w.heap.size,2,none⟩) (.inr (Nat.le_refl _)) _).setCell (p:=⟨w.heap.size,3,none⟩) (.inr (Nat.le_refl _)) _).setCell (p:=⟨w.heap.size,4,none⟩) (.inr (Nat.le_refl _)) _).setCell (p:=⟨w.heap.size,5,none⟩) (.inr (Nat.le_refl _)) _).setCell (p:=⟨w.heap.size,6,none⟩) (.inr (Nat.le_refl _)) _).setCell (p:=⟨w.heap.size,7,none⟩) (.inr (Nat.le_refl _)) _).setCell (p:=⟨w.heap.size,8,none⟩) (.inr (Nat.le_refl _)) _).setCell (p:=⟨w.heap.size,9,none⟩) (.inr (Nat.le_refl _)) _).setCell (p:=⟨w.heap.size,10,none⟩) (.inr (Nat.le_refl _)) _).setCell (p:=⟨w.heap.size,11,none⟩) (.inr (Nat.le_refl _)) _)
open Go.RowKit Go.Maps
theorem dL.ve{w:World}{bv b a:Nat}{V:aS}(R:dL w bv b a V){id:Int}(d:(Lit.int .i64 id).wf=true) :
 (Instr.lookup 95 (.map (some a)) (II id) false).run Tryz.prog w=.ok (ja (V.aV id)) w:=by
 obtain⟨f,e,c⟩:=R.fA;rw[e.look yT Tryz.underlying95 (wu _) (keyOf_int_mk Tryz.underlying3 d),c]
theorem dL.yJ{w:World}{bv a b:Nat}{V:aS}(R:dL w bv a b V){i:Nat}(d:i<V.nb)(e:(V.B i).sym.size<=maxLen) :
 (Instr.lookup 94 (.map (some a)) (.string (V.B i).sym) false).run Tryz.prog w=.ok (PP (V.bk i)) w:=by
 obtain⟨g,f,c,_⟩:=R.iM;rw[f.look yU Tryz.underlying94 (qA _) (WideMaps.keyOf_string_mk Tryz.underlying9 e)];show _=Result.ok (ja (some (V.bk i))) _;rw[<-c i d];rfl
theorem dL.sG{w:World}{bv c d:Nat}{V:aS}(R:dL w bv c d V){i:Nat}(a:i<V.nb):Mk w (V.bk i) (V.B i) V.om (fun x=>∃id,V.aV id=some x) :=
 ⟨R.aW i a,fun b ⟨id,h⟩=>(R.bg id b h).2,fun s hs k e=>R.mem i a s hs k e⟩
def eY(o:Ord)(q:Int):Ord:={ o with filled:=wrap64 (o.filled-q),aX:=wrap64 (o.aX+q) }
def fD(o:Ord)(q:Int):Ord:={ o with filled:=wrap64 (o.filled-q),aH:=wrap64 (o.aH+q) }
def gG(o:Ord):Ord:={ o with aH:=0,exp:=wrap64 (o.exp+o.aH) }
theorem xH(b:Nat)(o:Ord)(d q:Int)(w:World)(c:bV w b o d) :
 CT 124 #[PP b,II q] w fun e w'=>e=.returned (.func (.func 151) #[] #[PP (w.heap.size+1),PP w.heap.size])/\xE w' w.heap.size b o/\bV w' b (eY o q) d/\aj (fun x=>x=b) w w':=by
 have j:=ai (oJ b o d w c);have lo:=c.lt;go_enter Tryz.func124,Tryz.ntmps124;go_wp2_with fail;refine (ae j).mono ?_;rintro e f ⟨rfl,k,g⟩;have a:=g.ay c idd;have n:CC f b 9 (II o.filled):=au.cell a 9;have r:CC f b 10 (II o.aX):=au.cell a 10;have l:=au.frozen a 9;have m:=au.frozen a 10;go_wp2;go_ret;have i:=((aj.refl (fun x=>x=b) f).setCell (p:=⟨b,9,none⟩) (.inl rfl) (II (eY o q).filled)).setCell (p:=⟨b,10,none⟩) (.inl rfl) (II (eY o q).aX);exact⟨rfl,k.aC i (by omega) (by omega),(a.set 9 _).set 10 _,g.aP.trans i⟩
theorem yR(c b:Nat)(B:Bk)(om:Nat->Ord)(a:Nat->Prop)(q:Int)(w:World)(m:Mk w c B om a)(j:a b) :
 CT 124 #[PP b,II q] w fun e w'=>∃fn d,e=.returned (.func fn #[] d)/\jT w' b (om b) w.heap.size fn d/\Mk w' c B (aK om b (eY (om b) q)) a/\aj (fun x=>x=b) w w':=by
 obtain⟨k,g⟩:=m.bg b j;refine (xH b (om b) k q w g).mono ?_;rintro e w' ⟨rfl,h0,i,f⟩;exact⟨_,_,rfl,⟨rfl,_,Nat.le_refl _,rfl,h0⟩,m.aK g f i,f⟩
theorem Aw(b:Nat)(o:Ord)(d q:Int)(w:World)(c:bV w b o d) :
 CT 125 #[PP b,II q] w fun e w'=>e=.returned (.func (.func 151) #[] #[PP (w.heap.size+1),PP w.heap.size])/\xE w' w.heap.size b o/\bV w' b (fD o q) d/\aj (fun x=>x=b) w w':=by
 have j:=ai (oJ b o d w c);have lo:=c.lt;go_enter Tryz.func125,Tryz.ntmps125;go_wp2_with fail;refine (ae j).mono ?_;rintro e f ⟨rfl,k,g⟩;have a:=g.ay c idd;have n:CC f b 9 (II o.filled):=au.cell a 9;have r:CC f b 8 (II o.aH):=au.cell a 8;have l:=au.frozen a 9;have m:=au.frozen a 8;go_wp2;go_ret;have i:=((aj.refl (fun x=>x=b) f).setCell (p:=⟨b,9,none⟩) (.inl rfl) (II (fD o q).filled)).setCell (p:=⟨b,8,none⟩) (.inl rfl) (II (fD o q).aH);exact⟨rfl,k.aC i (by omega) (by omega),(a.set 9 _).set 8 _,g.aP.trans i⟩
theorem vg(c b:Nat)(B:Bk)(om:Nat->Ord)(a:Nat->Prop)(q:Int)(w:World)(m:Mk w c B om a)(j:a b) :
 CT 125 #[PP b,II q] w fun e w'=>∃fn d,e=.returned (.func fn #[] d)/\jT w' b (om b) w.heap.size fn d/\Mk w' c B (aK om b (fD (om b) q)) a/\aj (fun x=>x=b) w w':=by
 obtain⟨k,g⟩:=m.bg b j;refine (Aw b (om b) k q w g).mono ?_;rintro e w' ⟨rfl,h0,i,f⟩;exact⟨_,_,rfl,⟨rfl,_,Nat.le_refl _,rfl,h0⟩,m.aK g f i,f⟩
def aS.turn(V:aS)(i:Nat)(B':Bk)(dG:Nat->Ord):aS:={ V with B:=aK V.B i B',om:=dG }
def pV(V:aS)(i x:Nat):Prop:=∀j,j<V.nb->j≠i->∀t,t<2->¬dn (V.B j) t x
theorem dL.aa4{w w':World}{bv z A i:Nat}{V:aS}(R:dL w bv z A V)(v:i<V.nb){B':Bk}{dG:Nat->Ord}{S:Nat->Prop}
 (H:Mk w' (V.bk i) B' dG (fun x=>∃id,V.aV id=some x)) {G':Lg} {bG:Lm} (d:bz w' bv z A G' bG) (k:aj (fun x=>S x\/V.lm.F x) w w') (G:∀x,S x->x=V.bk i\/(∃s,s<2/\dn (V.B i) s x)\/((∃id,V.aV id=some x)/\pV V i x))
 (Af:∀j,j<V.nb->j≠i->∀s,s<2->∀l,l<(V.B j).n s->dG ((V.B j).h s l)=V.om ((V.B j).h s l)) (hid:∀x,(dG x).id=(V.om x).id) (P:B'.sym=(V.B i).sym)
 (hsd:∀s,s<2->∀x,dn B' s x->pV V i x\/w.heap.size<=x):dL w' bv z A { V.turn i B' dG with lg:=G',lm:=bG }:=by
 have gZ:∀x,S x->∃c t,au w x c t/\(t=158\/t=116\/t=114):=fun x b=>by
  refine (R.sG v).gZ ?_;rcases G x b with h | h | ⟨h,_⟩
  ·exact .inl h
  ·exact .inr (.inr h)
  ·exact .inr (.inl h)
 obtain⟨W,J,L,X⟩:=R.iM;obtain⟨Y,K,Z⟩:=R.fA;have nB:¬(S z\/V.lm.F z):=by
  rintro (h | h)
  ·obtain⟨c,t,g,_⟩:=gZ z h;exact J.ne g rfl
  ·obtain⟨c,t,g,_⟩:=R.aO.aO.gZ h;exact J.ne g rfl
 have nO:¬(S A\/V.lm.F A):=by
  rintro (h | h)
  ·obtain⟨c,t,g,_⟩:=gZ A h;exact K.ne g rfl
  ·obtain⟨c,t,g,_⟩:=R.aO.aO.gZ h;exact K.ne g rfl
 have Ye:∀j,j<V.nb->∀x,x<2->∀y,dn (V.B j) x y->y<w.heap.size:=fun j a x b y h=>by
  rcases h with h | ⟨l,d,rfl⟩
  ·exact ((R.aW j a).side x b).lt h
  ·exact (((R.aW j a).side x b).bg d).lt
 have T:∀s,s<2->∀x,dn (V.B i) s x->pV V i x:=fun s hs x b j a o t ht h=>R.nX i j v a (fun e=>o e.symm) s t hs ht x b h
 have FZ:∀j,j<V.nb->j≠i->bM w' (V.bk j) (V.B j) dG:=fun j a o=>by
  have E:bM w' (V.bk j) (V.B j) V.om:=(R.aW j a).aC k (by
   intro x Q M;have b:S x:=M.resolve_right (fun hF=>by
    obtain⟨c,t',g,I⟩:=R.aO.aO.gZ hF;rcases Q with rfl | ⟨y,f,h⟩
    ·exact au.ne (R.aW j a).ay g (by rcases I with rfl | rfl | rfl | rfl | rfl | rfl <;> decide) rfl
    ·rcases h with h | ⟨l,d,h⟩
     ·exact ((R.aW j a).side y f).ne g (by rcases I with rfl | rfl | rfl | rfl | rfl | rfl <;> decide) h
     ·subst h;exact au.ne g (((R.aW j a).side y f).bg d) (by rcases I with rfl | rfl | rfl | rfl | rfl | rfl <;> decide) rfl)
   clear M;rcases Q with rfl | ⟨y,f,h⟩
   ·rcases G _ b with h | ⟨s,hs,h⟩ | ⟨⟨id,h⟩,_⟩
    ·exact R.rY j i a v o h
    ·rcases h with h | ⟨l,d,h⟩
     ·exact ((R.aW i v).side s hs).ne (R.aW j a).ay (by decide) h
     ·exact au.ne (R.aW j a).ay (((R.aW i v).side s hs).bg d) (by decide) h
    ·obtain⟨_,ix,ho⟩:=R.bg id _ h;exact au.ne (R.aW j a).ay ho (by decide) rfl
   ·rcases G _ b with e | ⟨s,hs,e⟩ | ⟨_,e⟩
    ·rw[e]at h;rcases h with h | ⟨l,d,h⟩
     ·exact ((R.aW j a).side y f).ne (R.aW i v).ay (by decide) h
     ·exact au.ne (R.aW i v).ay (((R.aW j a).side y f).bg d) (by decide) h
    ·exact T s hs x e j a o y f h
    ·exact e j a o y f h)
  exact⟨E.ay,fun y f=>(E.side y f).om (fun l d=>Af j a o y f l d),E.apart,E.vI⟩
 refine⟨d,⟨W,J.aC k nB,?_,?_⟩,⟨Y,K.aC k nO,Z⟩,R.F5,?_,?_,?_,R.rY,?_,R.fM⟩
 ·intro j a;by_cases e:j=i
  ·subst e;simp only[aS.turn,ah,P];exact L j a
  ·simp only[aS.turn,ag _ _ e];exact L j a
 ·intro s' b' h;obtain⟨j,a,U,C⟩:=X s' b' h;refine⟨j,a,U,?_⟩;by_cases e:j=i
  ·subst e;simp only[aS.turn,ah,P];exact C
  ·simp only[aS.turn,ag _ _ e];exact C
 ·intro j a;by_cases e:j=i
  ·subst e;simp only[aS.turn,ah];exact H.aW
  ·simp only[aS.turn,ag _ _ e];exact FZ j a e
 ·intro id x b;simp only[aS.turn]at b ⊢;rw[hid];exact⟨(R.bg id x b).1,H.bg x ⟨id,b⟩⟩
 ·intro j a x b l d;simp only[aS.turn]at a d ⊢;by_cases e:j=i
  ·subst e;simp only[ah]at d ⊢;exact H.mem x b l d
  ·simp only[ag _ _ e]at d ⊢;exact R.mem j a x b l d
 ·intro p q O D o x y b f r u m;have N:∀q,q<V.nb->q≠i->∀x y,x<2->y<2->∀r,dn B' x r->dn (V.B q) y r->False:=by
   intro q D o x y b f r u m;rcases hsd x b r u with h | h
   ·exact h q D o y f m
   ·have:=Ye q D y f r m;omega
  simp only[aS.turn]at u m;by_cases e:p=i
  ·rw[e,ah]at u;rw[ag _ _ (show q≠i by omega)]at m;exact N q D (by omega) x y b f r u m
  ·rw[ag _ _ e]at u;by_cases C:q=i
   ·rw[C,ah]at m;exact N p O e y x f b r m u
   ·rw[ag _ _ C]at m;exact R.nX p q O D o x y b f r u m
theorem qB.at{w:World}{G:Lg}{m:Lm}(h:Zu w G m){k:Nat}{x:Tg}(c:G.tr[k]?=some x) :
 ∃g cap b,m.tv=.slice (some ⟨g,0,none⟩) G.tr.length cap/\w.cell? ⟨g,k,none⟩=some (PP b)/\m.tb[k]?=some b/\au w b x.cells 105:=by
 have j:k<G.tr.length:=(List.getElem?_eq_some_iff.1 c).1;have a:k<m.tb.length:=by rw[h.len];exact j
 rcases h.dJ.2 with⟨_,h0⟩ | ⟨g,cap,cs,l,_,i,n,o,p,d⟩
 ·omega
 ·refine⟨g,cap,m.tb[k],l,?_,List.getElem?_eq_getElem a,h.ay k _ x (List.getElem?_eq_getElem a) c⟩;have f:au w g cs 103:=i;rw[f.cell];have e:cs.toList[k]?=(m.tb.map dh)[k]?:=by rw[<-d,List.getElem?_take,if_pos (by omega)]
  rw[<-Array.getElem?_toList,e,List.getElem?_map,List.getElem?_eq_getElem a]
  rfl
theorem Bg(bv f g:Nat)(G:Lg)(lm:Lm)(N:Int)(w:World)(b:bz w bv f g G lm)(h:N<1\/(G.tr.length:Int)<N) :
 CT 71 #[PP bv,II N] w fun e w'=>e=.returned (.tuple #[.pointer none,II 6])/\aj aA w w':=by
 obtain⟨n,c⟩:=dQ G.tr.length;rw[c]at h;obtain⟨j,k,d⟩:=b.aO.yt c;have v2:w.cell? ⟨bv,2,none⟩=some (.slice j n k):=by rw[<-d];exact b.cO.cell 2
 clear b d c;by_cases a:N<1
 ·have i:decide (N<1)=true:=by simp[a]
  clear h a;go_enter Tryz.func71,Tryz.ntmps71;go_wp2;go_ret2;exact⟨rfl,by repeat (first | exact aj.refl _ _ | refine aj.drewN ?_ _ | refine aj.drew ?_)⟩
 ·have i:decide (N<1)=false:=by simp[a]
  have l:decide ((n:Int)<N)=true:=by simp;omega
  clear h a;go_enter Tryz.func71,Tryz.ntmps71;go_wp2;go_ret2;exact⟨rfl,by repeat (first | exact aj.refl _ _ | refine aj.drewN ?_ _ | refine aj.drew ?_)⟩
def kZ(x:Tg)(day:Int):Int:=if x.holds=false then 10 else if x.t.day≠day then 11 else 0
theorem uk(bv p q k b:Nat)(G:Lg)(lm:Lm)(N:Int)(x:Tg)(w:World)(f:bz w bv p q G lm)(s:N-1=(k:Int))(l:G.tr[k]?=some x)(m:lm.tb[k]?=some b)(H:G.tr.length<=1000000000) :
 CT 71 #[PP bv,II N] w fun e w'=>e=.returned (.tuple #[if kZ x G.day=0 then PP b else .pointer none,II (kZ x G.day)])/\aj aA w w':=by
 obtain⟨g,u,b',o,E,i,j⟩:=f.aO.at l;obtain rfl:b'=b:=by rw[m]at i;exact (Option.some.inj i).symm
 have F:k<G.tr.length:=(List.getElem?_eq_some_iff.1 l).1;have v2:w.cell? ⟨bv,2,none⟩=some (.slice (some ⟨g,0,none⟩) G.tr.length u):=by rw[<-o];exact f.cO.cell 2
 have v4:CC w bv 4 (II G.day):=f.cO.cell 4;have v:CC w b' 6 (II x.t.day):=j.cell 6;have y:CC w b' 7 (.bool x.holds):=j.cell 7;generalize G.tr.length=n at *;have A:decide (N<1)=false:=by simp;omega
 have B:decide ((n:Int)<N)=false:=by simp;omega
 have C:0<=N-1:=by omega
 have D:N-1<(n:Int):=by omega
 have I:wrap64 (N-1)=(k:Int):=by rw[s];exact aU (by omega) (by omega)
 clear f o j m i l;obtain⟨c,z⟩:=x;simp only at v y;cases z with
 | false =>
   have d:Hid (kZ ⟨c,false⟩ G.day=10):=by show _=_;simp[kZ]
   rw[ae d];go_enter Tryz.func71,Tryz.ntmps71;go_wp2;go_ret2;exact⟨rfl,by repeat (first | exact aj.refl _ _ | refine aj.drewN ?_ _ | refine aj.drew ?_)⟩
 | true =>
   by_cases a:c.day=G.day
   ·have r:(c.day != G.day)=false:=by simp[a]
    have d:Hid (kZ ⟨c,true⟩ G.day=0):=by show _=_;simp[kZ,a]
    rw[ae d];clear a;go_enter Tryz.func71,Tryz.ntmps71;go_wp2;go_quiet (fail);go_wp2;go_ret2;exact⟨rfl,by repeat (first | exact aj.refl _ _ | refine aj.drewN ?_ _ | refine aj.drew ?_)⟩
   ·have r:(c.day != G.day)=true:=by simp[a]
    have d:Hid (kZ ⟨c,true⟩ G.day=11):=by show _=_;simp[kZ,a]
    rw[ae d];clear a;go_enter Tryz.func71,Tryz.ntmps71;go_wp2;go_quiet (fail);go_wp2;go_ret2;exact⟨rfl,by repeat (first | exact aj.refl _ _ | refine aj.drewN ?_ _ | refine aj.drew ?_)⟩
theorem pz{B:Bk}{om:Nat->Ord}{s i:Nat}(b:qX (B.n s) (B.h s))(d:i<B.n s):∀k,k<(B.leave om s i).n s->∃k',k'<B.n s/\(B.leave om s i).h s k=B.h s k'/\B.h s k'≠B.h s i:=by
 intro k a;simp only[Bk.leave,ah]at a ⊢;have h0:qX (B.n s-1+1) (B.h s):=by rw[show B.n s-1+1=B.n s by omega];exact b
 obtain⟨⟨k',f,e⟩,c⟩:=(jY (lt:=fE om) (B.h s) i (n:=B.n s-1) (by omega) (h0.qw (by omega)) _).1 ⟨k,a,rfl⟩;exact⟨k',by omega,e,by rw[<-e];exact c⟩
theorem Io(G:Lg)(a b:List dU):(G.aY a).aY b=G.aY (a++b):=by simp[Lg.aY]
def bQ(V:aS)(i b:Nat)(q:Int):Nat->Ord:=aK (aK V.om b (fD (V.om b) q)) b { fD (V.om b) q with place:=wrap64 ((V.B i).places+1) }
end Go.Proofs.YtigaphnafnpfnaaGreatDoor
