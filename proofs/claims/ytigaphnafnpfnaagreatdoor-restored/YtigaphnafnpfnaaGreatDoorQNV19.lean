import Derived.Test.YtigaphnafnpfnaaGreatDoorQNV8
set_option linter.unusedVariables false
set_option linter.unusedSimpArgs false
set_option maxHeartbeats 8000000
set_option maxRecDepth 100000
namespace Go.Proofs.YtigaphnafnpfnaaGreatDoor
open Go.RowKit
attribute [local go_sem ↓] Go.wp_at_zero Go.wp_at_succ
theorem UQ(b H:Nat)(o p:Ord)(ix:Int)(w:World)(ho:df w b p ix)(hn:yG w H b o) :
 CT 151 #[dD (H+1),dD H] w fun e w'=>e=.returned (.tuple #[])/\df w' b { o with place:=p.place } ix/\aj (fun x=>x=b) w w':=by
 have x0:CC w H 0 (PP b):=hn.box.cell 0;obtain⟨c0,c1,c2,c3,c4,c5,c6,c7,c8,c9,c10,c11⟩:=hn.gp.Oy;have hH:=hn.gp.lt;obtain⟨g0,g1,g2,g3,g4,g5,g6,g7,g8,g9,g10,g11⟩:=ho.Oy;have fz:∀i,w.frozen? ⟨b,i,none⟩=false:=fun i=>ho.frozen i
 have hne:H+1≠b:=aA.ne hn.gp ho (by decide);have hne0:H≠b:=aA.ne hn.box ho (by decide);obtain⟨HO,HN⟩:=dE ho hn;clear ho hn;simp only[dD];go_enter Tryz.func151,Tryz.ntmps151;go_wp2;go_end0;refine⟨rfl,?_,?_⟩
 ·have h:=ae HO;unfold df at h ⊢;have h':=aA.set (aA.set (aA.set (aA.set (aA.set (aA.set (aA.set (aA.set (aA.set (aA.set (aA.set (aA.set h 0 (II o.id)) 1 (II o.aG)) 2 (.string o.sym)) 3 (II o.side)) 4 (II o.kind)) 5 (II o.af)) 6 (II o.aK)) 7 (II o.entered)) 8 (II o.aO)) 9 (II o.filled)) 10 (II o.bZ)) 11 (II o.exp);simp only[Ord.cells,List.setIfInBounds_toArray,List.set_cons_zero,List.set_cons_succ]at h' ⊢;exact h'
 ·have k0:=aj.refl (fun x=>x=b) w;have k:=fun (W:World) (h:aj (fun x=>x=b) w W) (i:Nat) (v:Value)=>h.setCell (p:=⟨b,i,none⟩) (.inl rfl) v
  exact k _ (k _ (k _ (k _ (k _ (k _ (k _ (k _ (k _ (k _ (k _ (k _ k0 _ _) _ _) _ _) _ _) _ _) _ _) _ _) _ _) _ _) _ _) _ _) _ _
theorem Mk.aaz{w:World}{bb:Nat}{B:Bk}{om:Nat->Ord}{L:Nat->Prop}(m:Mk w bb B om L)(v:Int):Mk (w.setCell ⟨bb,3,none⟩ (II v)) bb { B with places:=v } om L:=by
 have k:aj (fun x=>x=bb) w (w.setCell ⟨bb,3,none⟩ (II v)):=(aj.refl (fun x=>x=bb) w).setCell (p:=⟨bb,3,none⟩) (.inl rfl) _;refine⟨⟨m.aY.aF.set 3 _,fun s hs=>(m.aY.side s hs).aC k (fun b h e=>by subst e;exact m.aY.Ou hs h),m.aY.apart,m.aY.vZ⟩,fun b hb=>?_,m.mem⟩;obtain⟨ix,ho⟩:=m.bz b hb;exact⟨ix,k.aF ho (fun e=>aA.ne ho m.aY.aF (by decide) e)⟩
theorem Mk.push{w w':World}{bb ob s g cap':Nat}{B:Bk}{om:Nat->Ord}{L:Nat->Prop}(m:Mk w bb B om L)(hs:s<2)(hL:L ob)(h1:cO w' bb (B.push om s ob g cap') om)(h3:aj (fun b=>b=bb\/b=ob\/dG B s b) w w'):Mk w' bb (B.push om s ob g cap') om L:=by
 have hmem:∀b,Mem (B.n s) (B.h s) b\/b=ob->∃ix,df w' b (om b) ix:=by
  intro b hb;obtain⟨k,hk,e⟩:=(jh (lt:=fP om) (B.h s) ob b).2 hb;have:=(h1.side s hs).bz (i:=k) (by simp only[Bk.push,ai];exact hk);simp only[Bk.push,ai]at this;rw[<-e]at this;exact⟨k,this⟩
 refine⟨h1,fun b hb=>?_,fun t ht k hk=>?_⟩
 ·by_cases e:b=ob
  ·exact hmem b (.inr e)
  ·by_cases hm:Mem (B.n s) (B.h s) b
   ·exact hmem b (.inl hm)
   ·obtain⟨ix,ho⟩:=m.bz b hb;refine⟨ix,h3.aF ho ?_⟩;rintro (rfl | h | h | h)
    ·exact aA.ne ho m.aY.aF (by decide) rfl
    ·exact e h
    ·exact (m.aY.side s hs).ne ho (by decide) h
    ·exact hm h
 ·by_cases e:t=s
  ·subst e;simp only[Bk.push,ai]at hk ⊢;rcases (jh (lt:=fP om) (B.h t) ob _).1 ⟨k,hk,rfl⟩ with⟨k',hk',e'⟩ | e'
   ·rw[e'];exact m.mem t ht k' hk'
   ·rw[e'];exact hL
  ·simp only[Bk.push,ah _ _ e]at hk ⊢;exact m.mem t ht k hk
theorem Xz(bb ob s H:Nat)(B:Bk)(om:Nat->Ord)(L:Nat->Prop)(w:World)(m:Mk w bb B om L)(hL:L ob)(hp:wY w H bb ob)(hs:s<2)(hside:(om ob).side=(s:Int))(hnew:∀t,t<2->∀k,k<B.n t->B.h t k≠ob)(hn:B.n s<1000) :
 CT 117 #[dD H,dD (H+1)] w fun e w'=>e=.returned (.tuple #[])/\∃g cap',Mk w' bb (B.push om s ob g cap') om L/\aj (fun b=>b=bb\/b=ob\/dG B s b) w w'/\(ig (B.sl s)=some g\/w.heap.size<=g):=by
 obtain⟨ix,ho⟩:=m.bz ob hL;have HC:=au (Et bb ob s B om ix w m.aY ho hs hside hnew hn);have x0:CC w H 0 (PP bb):=hp.aY.cell 0;have x1:CC w (H+1) 0 (PP ob):=hp.ord.cell 0;have HM:=au m;clear m ho hp;simp only[dD];go_enter Tryz.func117,Tryz.ntmps117;go_wp2_with fail;refine (ae HC).mono ?_;rintro e w1 ⟨rfl,g,cap',h1,h2,h3⟩;go_wp2;go_end0;exact⟨rfl,g,cap',(ae HM).push hs hL h1 h2,h2,h3⟩
def Bk.kN(B:Bk)(om:Nat->Ord)(s i:Nat):Bk:={ B.leave om s i with places:=wrap64 (B.places-1) }
theorem GZ(bb s i H:Nat)(p:Int)(B:Bk)(om:Nat->Ord)(L:Nat->Prop)(w:World)(m:Mk w bb B om L)(hs:s<2)(hi:i<B.n s)(hp:xe w H bb (B.h s i) p)(hside:(om (B.h s i)).side=(s:Int))(hsep:ig (B.sl s)≠some (H+1)) :
 CT 153 #[dD H,dD (H+1),dD (H+2)] w fun e w'=>e=.returned (.tuple #[]) /\
  Mk w' bb (B.kN om s i) (aQ om (B.h s i) { om (B.h s i) with place:=p }) L/\aj (fun b=>b=bb\/dG B s b) w w':=by
 obtain⟨ob,hob⟩:=kL (B.h s i);have HC:=au (zt bb B om s i w m.aY hs hi hside);rw[<-hob]at hp HC ⊢;have hL:L ob:=hob▸m.mem s hs i hi;have x0:CC w H 0 (PP bb):=hp.wL.aY.cell 0;have x1:CC w (H+1) 0 (PP ob):=hp.wL.ord.cell 0;have lo:=hp.wL.aY.lt;obtain⟨ix0,ho0⟩:=m.bz ob hL;have n0:¬H=ob:=aA.ne hp.wL.aY ho0 (by decide);have n1:¬H=bb:=aA.ne hp.wL.aY m.aY.aF (by decide);have n2:¬H+1=ob:=aA.ne hp.wL.ord ho0 (by decide);have n3:¬H+1=bb:=aA.ne hp.wL.ord m.aY.aF (by decide);have nS:∀x c t,aA w x c t->t≠158->t≠116->¬(ig (B.sl s)=some x)->¬(x=bb\/dG B s x):=by
  rintro x c t hb h1 h2 h3 (e | e | ⟨k,hk,e⟩)
  ·rw[e]at hb;exact aA.ne hb m.aY.aF h1 rfl
  ·exact h3 e
  ·rw[e]at hb;exact aA.ne hb ((m.aY.side s hs).bz hk) h2 rfl
 have HN:Hid (∀w1,aj (fun b=>b=bb\/dG B s b) w w1->w1.cell? ⟨H,0,none⟩=some (PP bb)/\w1.cell? ⟨H+1,0,none⟩=some (PP ob)/\w1.cell? ⟨H+2,0,none⟩=some (II p)):=fun w1 k =>
  ⟨(k.aF hp.wL.aY (nS _ _ _ hp.wL.aY (by decide) (by decide) ((m.aY.side s hs).ne hp.wL.aY (by decide)))).cell 0,(k.aF hp.wL.ord (nS _ _ _ hp.wL.ord (by decide) (by decide) hsep)).cell 0,(k.aF hp.place (nS _ _ _ hp.place (by decide) (by decide) ((m.aY.side s hs).ne hp.place (by decide)))).cell 0⟩
 obtain⟨WH,HM⟩:=dE hob m;clear m hp nS hob ho0 lo hsep;simp only[dD];go_enter Tryz.func153,Tryz.ntmps153;go_wp2_with fail;refine (ae HC).mono ?_;rintro e w1 ⟨rfl,h1,h2,h3⟩;obtain⟨y0,y1,y2⟩:=ae HN w1 h3;have m1:Mk w1 bb (B.leave om s i) om L:=(ae HM).leave hs hi h1 (by rw[<-ae WH];exact h2) h3;obtain⟨ix,ho1⟩:=m1.bz ob hL;have o12:CC w1 ob 12 (II (om ob).place):=aA.cell ho1 12;have f12:=aA.frozen ho1 12;have b3:CC w1 bb 3 (II B.places):=h1.aF.cell 3;have f3:=h1.aF.frozen 3;have hne:ob≠bb:=aA.ne ho1 h1.aF (by decide);have hne':¬ob=bb:=hne;have hne2:¬bb=ob:=fun e=>hne e.symm
 obtain⟨HM1,HO1⟩:=dE m1 ho1;clear m1 ho1 h1 h2 hne;go_wp2;go_end0;have k12:aj (fun x=>x=ob) w1 (w1.setCell ⟨ob,12,none⟩ (II p)):=(aj.refl (fun x=>x=ob) w1).setCell (p:=⟨ob,12,none⟩) (.inl rfl) _;have m2:=(ae HM1).aQ (o':={ om ob with place:=p }) (ae HO1) k12 (aA.set (ae HO1) 12 (II p));refine⟨rfl,m2.aaz (wrap64 (B.places-1)),h3.trans ((k12.mono (fun x e=>.inr (.inr ⟨i,hi,e.trans (ae WH)⟩))).setCell (p:=⟨bb,3,none⟩) (.inl (.inl rfl)) _)⟩
structure RC where
 S:RS
 left:Int
 filled:Int
 count:Int
 first:Int
def RC.o(c:RC)(i:Nat):iT:=dm (ax c.S.l i)
def RC.DX(c:RC)(i:Nat):Option Nat:=gZ c.S.l (c.o i)
def RC.UH(c:RC)(k:Nat):Int:=if (ax c.S.l k).aO<c.left then (ax c.S.l k).aO else c.left
def RC.step(c:RC)(i k:Nat):RC :=
 if (ax c.S.l k).aG=(ax c.S.l i).aG then { c with S:=c.S.ik k { ax c.S.l k with bZ:=wrap64 ((ax c.S.l k).bZ+(ax c.S.l k).aO),aO:=0 } }
 else ⟨c.S.uA i k (c.UH k),wrap64 (c.left-c.UH k),wrap64 (c.filled+c.UH k),wrap64 (c.count+1),if wrap64 (c.count+1)=1 then (c.S.t.length:Int)+1 else c.first⟩
inductive wW (i:Nat):Nat->RC->RC->Prop
 | stop (f:Nat) (c:RC) (h:¬0<c.left\/c.DX i=none):wW i f c c
 | go (f k:Nat) (c c':RC) (h:0<c.left) (hk:c.DX i=some k) (e:wW i f (c.step i k) c'):wW i (f+1) c c'
theorem oL(l:List Ord)(o:iT):∀i b,lI l o i=some b->lJ o (ax l b)=true
 | 0,b,h=>by simp[lI]at h
 | i+1,b,h=>by
   unfold lI at h;split at h
   ·rename_i hg;split at h
    ·simp at h;subst h;exact hg
    ·rename_i b' hb';split at h <;> simp at h <;> subst h
     ·exact hg
     ·exact oL l o i b' hb'
   ·exact oL l o i b h
theorem Vw(c:RC)(i k:Nat):(c.step i k).S.l.length=c.S.l.length:=by
 unfold RC.step;split
 ·simp[RS.ik]
 ·simp[RS.uA,RS.zA,RS.ik]
theorem NU(c:RC)(i k:Nat):(c.step i k).S.t.length<=c.S.t.length+1/\(c.step i k).S.told.length<=c.S.told.length+1:=by
 unfold RC.step;split
 ·simp[RS.ik]
 ·simp[RS.uA]
def yU(i:Nat)(c:RC):RS:=if c.left=0 then c.S else if fD (ax c.S.l i).kind=true then c.S.qW i c.left else c.S.ik i { ax c.S.l i with bZ:=wrap64 ((ax c.S.l i).bZ+c.left) }
def rcV(i:Nat)(c:RC):Value:=if c.left=0 then mM c.filled 0 0 c.first c.count else if fD (ax c.S.l i).kind=true then mM c.filled c.left 0 c.first c.count else mM c.filled 0 c.left c.first c.count
end Go.Proofs.YtigaphnafnpfnaaGreatDoor
