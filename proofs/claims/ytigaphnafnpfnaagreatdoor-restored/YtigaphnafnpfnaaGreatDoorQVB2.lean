import Derived.Test.YtigaphnafnpfnaaGreatDoorQVA6
import Derived.Lib.MinMax
import Derived.Lib.AppendStr
import Derived.Deep.RegionLaw
set_option linter.unusedVariables false
set_option linter.unusedSimpArgs false
set_option maxHeartbeats 8000000
set_option maxRecDepth 100000
namespace Go.Proofs.YtigaphnafnpfnaaGreatDoor
open Go.RowKit
attribute [local go_sem ↓] Go.wp_at_zero Go.wp_at_succ
def aQ{α:Type}(f:Nat->α)(s:Nat)(v:α):Nat->α:=fun t=>if t=s then v else f t
theorem ai{α:Type}(f:Nat->α)(s:Nat)(v:α):aQ f s v s=v:=by simp[aQ]
theorem ah{α:Type}(f:Nat->α){s t:Nat}(v:α)(h:t≠s):aQ f s v t=f t:=by simp[aQ,h]
def dD(b:Nat):Value:=PP b
def jd(o:Ord):Array Value:=#[II o.id,II o.aG,.string o.sym,II o.side,II o.kind,II o.af,II o.aK,II o.entered,II o.aO,II o.filled,II o.bZ,II o.exp]
theorem aA.sQ(w:World)(o:Obj)(c:Array Value)(t:TypeId):aA ((w.alloc o).alloc (.cells c t)) (w.heap.size+1) c t:=by
 have h:=aA.new (w.alloc o) c t;have e:(w.alloc o).heap.size=w.heap.size+1:=by simp
 rw[e]at h;exact h
structure yG(w:World)(H b:Nat)(o:Ord):Prop where
 box:aA w H #[PP b] 114
 gp:aA w (H+1) (jd o) 54
theorem yG.aC{w w':World}{H b:Nat}{o:Ord}(h:yG w H b o){S:Nat->Prop}(k:aj S w w')(h1:¬S H)(h2:¬S (H+1)):yG w' H b o:=⟨k.aF h.box h1,k.aF h.gp h2⟩
theorem oC(b:Nat)(o:Ord)(ix:Int)(w:World)(ho:df w b o ix) :
 CT 119 #[PP b] w fun e w'=>e=.returned (.func (.func 151) #[] #[PP (w.heap.size+1),PP w.heap.size])/\yG w' w.heap.size b o/\aj aJ w w':=by
 obtain⟨c0,c1,c2,c3,c4,c5,c6,c7,c8,c9,c10,c11⟩:=ho.Oy;have lo:=ho.lt;have hne:b≠w.heap.size:=by omega
 go_enter Tryz.func119,Tryz.ntmps119;go_wp2;go_ret;refine⟨rfl,⟨(aA.new w _ _).alloc _,aA.sQ w _ _ _⟩,((aj.refl aJ w).alloc _).alloc _⟩
theorem Td(b:Nat)(o:Ord)(ix q:Int)(w:World)(ho:df w b o ix) :
 CT 177 #[PP b,II q] w fun e w'=>e=.returned (.func (.func 151) #[] #[PP (w.heap.size+1),PP w.heap.size])/\yG w' w.heap.size b o/\df w' b { o with aO:=wrap64 (o.aO-q),filled:=wrap64 (o.filled+q) } ix/\aj (fun x=>x=b) w w':=by
 have HA:=au (oC b o ix w ho);have lo:=ho.lt;go_enter Tryz.func177,Tryz.ntmps177;go_wp2_with fail;refine (ae HA).mono ?_;rintro e w1 ⟨rfl,n1,k1⟩;have ho1:=k1.aF ho aU;have h8:CC w1 b 8 (II o.aO):=aA.cell ho1 8;have h9:CC w1 b 9 (II o.filled):=aA.cell ho1 9;have f8:=aA.frozen ho1 8;have f9:=aA.frozen ho1 9;go_wp2;go_ret;have k2:=((aj.refl (fun x=>x=b) w1).setCell (p:=⟨b,8,none⟩) (.inl rfl) (II (wrap64 (o.aO-q)))).setCell (p:=⟨b,9,none⟩) (.inl rfl) (II (wrap64 (o.filled+q)));exact⟨rfl,n1.aC k2 (by omega) (by omega),(ho1.set 8 _).set 9 _,k1.bI.trans k2⟩
theorem AZ(b:Nat)(o:Ord)(ix:Int)(w:World)(ho:df w b o ix) :
 CT 67 #[PP b] w fun e w'=>e=.returned (.func (.func 151) #[] #[PP (w.heap.size+1),PP w.heap.size])/\yG w' w.heap.size b o/\df w' b { o with aO:=0,bZ:=wrap64 (o.bZ+o.aO) } ix/\aj (fun x=>x=b) w w':=by
 have HA:=au (oC b o ix w ho);have lo:=ho.lt;go_enter Tryz.func67,Tryz.ntmps67;go_wp2_with fail;refine (ae HA).mono ?_;rintro e w1 ⟨rfl,n1,k1⟩;have ho1:=k1.aF ho aU;have h8:CC w1 b 8 (II o.aO):=aA.cell ho1 8;have h10:CC w1 b 10 (II o.bZ):=aA.cell ho1 10;have f8:=aA.frozen ho1 8;have f10:=aA.frozen ho1 10;go_wp2;go_region;go_wp2;go_ret;have k2:=(((aj.refl (fun x=>x=b) w1).setCell (p:=⟨b,10,none⟩) (.inl rfl) (II (wrap64 (o.bZ+o.aO)))).setCell (p:=⟨b,8,none⟩) (.inl rfl) (II 0)).drew;refine⟨rfl,n1.aC k2 (by omega) (by omega),?_,k1.bI.trans k2⟩;have:=(ho1.set 10 (II (wrap64 (o.bZ+o.aO)))).set 8 (II 0);exact this
def fD(kind:Int):Bool:=kind == 0 || kind == 1 || kind == 4
theorem qQ(b:Nat)(o:Ord)(ix:Int)(w:World)(ho:df w b o ix) :
 CT 121 #[PP b] w fun e w'=>e=.returned (.bool (fD o.kind))/\w'=w:=by
 have h4:CC w b 4 (II o.kind):=ho.cell 4;by_cases h0:o.kind=0
 ·have e0:(o.kind == 0)=true:=by simp[h0]
  have HR:Hid (fD o.kind=true):=by show _=_;simp[fD,h0]
  clear h0;go_enter Tryz.func121,Tryz.ntmps121;go_wp2;go_ret;exact⟨by rw[HR.out];rfl,rfl⟩
 ·have e0:(o.kind == 0)=false:=by simp[h0]
  by_cases h1:o.kind=1
  ·have e1:(o.kind == 1)=true:=by simp[h1]
   have HR:Hid (fD o.kind=true):=by show _=_;simp[fD,h1]
   clear h0 h1;go_enter Tryz.func121,Tryz.ntmps121;go_wp2;go_ret;exact⟨by rw[HR.out];rfl,rfl⟩
  ·have e1:(o.kind == 1)=false:=by simp[h1]
   by_cases h2:o.kind=4
   ·have e2:(o.kind == 4)=true:=by simp[h2]
    have HR:Hid (fD o.kind=true):=by show _=_;simp[fD,h2]
    clear h0 h1 h2;go_enter Tryz.func121,Tryz.ntmps121;go_wp2;go_ret;exact⟨by rw[HR.out];rfl,rfl⟩
   ·have e2:(o.kind == 4)=false:=by simp[h2]
    have HR:Hid (fD o.kind=false):=by show _=_;simp[fD,h0,h1,h2]
    clear h0 h1 h2;go_enter Tryz.func121,Tryz.ntmps121;go_wp2;go_ret;exact⟨by rw[HR.out];rfl,rfl⟩
def Bk.leave(B:Bk)(om:Nat->Ord)(s i:Nat):Bk:={ B with n:=aQ B.n s (B.n s-1),h:=aQ B.h s (eQ (fP om) (B.h s) (B.n s-1) i) }
theorem Bk.Jr(B:Bk)(om:Nat->Ord)(s i:Nat)(hs:s<2):(B.leave om s i).cells=B.cells.setIfInBounds (1+s) (.slice (B.sl s) (B.n s-1) (B.cap s)):=by
 have:s=0\/s=1:=by omega
 rcases this with rfl | rfl <;> rfl
def dG(B:Bk)(s:Nat):Nat->Prop:=fun b=>ig (B.sl s)=some b\/∃k,k<B.n s/\b=B.h s k
theorem cO.lY{w:World}{bb:Nat}{B:Bk}{om:Nat->Ord}(hb:cO w bb B om){s t:Nat}(hs:s<2)(ht:t<2)(hne:s≠t){b:Nat}(h:dG B s b):¬dG B t b:=by
 have key:∀b,dG B 0 b->¬dG B 1 b:=by
  rintro b (h | ⟨k,hk,rfl⟩) (h' | ⟨j,hj,e⟩)
  ·exact hb.apart b h h'
  ·subst e;exact (hb.side 0 (by omega)).ne ((hb.side 1 (by omega)).bz hj) (by decide) h
  ·exact (hb.side 1 (by omega)).ne ((hb.side 0 (by omega)).bz hk) (by decide) h'
  ·exact hb.vZ k j hk hj e
 have h2:(s=0/\t=1)\/(s=1/\t=0):=by omega
 rcases h2 with⟨rfl,rfl⟩ | ⟨rfl,rfl⟩
 ·exact key b h
 ·exact fun h'=>key b h' h
theorem cO.Ou{w:World}{bb:Nat}{B:Bk}{om:Nat->Ord}(hb:cO w bb B om){s:Nat}(hs:s<2):¬dG B s bb:=by
 rintro (h | ⟨k,hk,e⟩)
 ·exact (hb.side s hs).ne hb.aF (by decide) h
 ·subst e;exact aA.ne hb.aF ((hb.side s hs).bz hk) (by decide) rfl
theorem zt(bb:Nat)(B:Bk)(om:Nat->Ord)(s i:Nat)(w:World)(hb:cO w bb B om)(hs:s<2)(hi:i<B.n s)(hside:(om (B.h s i)).side=(s:Int)) :
 CT 116 #[PP bb,PP (B.h s i)] w fun e w'=>e=.returned (.tuple #[]) /\
  cO w' bb (B.leave om s i) om/\(∃ix,df w' (B.h s i) (om (B.h s i)) ix)/\aj (fun b=>b=bb\/dG B s b) w w':=by
 have hsd:=hb.side s hs;rcases hsd with⟨_,h0,_⟩ | ⟨ab,hab,hsd⟩
 ·omega
 obtain⟨n,hn⟩:∃n,B.n s=n+1:=⟨B.n s-1,by omega⟩;rw[hn]at hsd hi;have hord:=hsd.ord i hi;have c3:CC w (B.h s i) 3 (II (s:Int)):=(hord.cell 3).trans (by rw[<-hside];rfl);have c13:CC w (B.h s i) 13 (II (i:Int)):=hord.cell 13;have hso:B.cells[1+s]?=some (.slice (some ⟨ab,0,none⟩) (n+1) (B.cap s)):=by rw[B.vY hs,hab,hn]
 have abH:=fun q=>NM bb (1+s) ab n (B.cap s) i B.cells (B.h s) om (w.drewN q) (hb.aF.drewN q) hso (hsd.aC ((aj.refl aJ w).drewN q) (fun _ _ x=>x)) (by omega)
 have fin:∀(q:Nat) (w':World),(aA w' bb (B.cells.setIfInBounds (1+s) (.slice (some ⟨ab,0,none⟩) n (B.cap s))) 158/\kM w' ab (B.cap s) n (eQ (fP om) (B.h s) n i) om/\df w' (B.h s i) (om (B.h s i)) n/\aj (fun b=>b=bb\/Sd ab (n+1) (B.h s) b) (w.drewN q) w') ->
  cO w' bb (B.leave om s i) om/\(∃ix,df w' (B.h s i) (om (B.h s i)) ix)/\aj (fun b=>b=bb\/dG B s b) w w':=by
  rintro q w' ⟨h1,h2,h3,h4⟩;have h5:aj (fun b=>b=bb\/dG B s b) w w':=aj.trans ((aj.refl _ w).drewN q) (h4.mono (fun b hb=>by
   rcases hb with hb | hb
   ·exact .inl hb
   ·refine .inr ?_;rcases hb with rfl | ⟨k,hk,rfl⟩
    ·exact .inl (RX hab)
    ·exact .inr ⟨k,by omega,rfl⟩))
  refine⟨⟨?_,?_,hb.apart,?_⟩,⟨n,h3⟩,h5⟩
  ·rw[B.Jr om s i hs,hn,hab];exact h1
  ·intro t ht;by_cases e:t=s
   ·subst e;refine .inr ⟨ab,hab,?_⟩;show kM w' ab (B.cap t) (aQ B.n t (B.n t-1) t) (aQ B.h t _ t) om;rw[ai,ai,hn];exact h2
   ·show jk w' (B.sl t) (aQ B.n s (B.n s-1) t) (B.cap t) (aQ B.h s _ t) om;rw[ah _ _ e,ah _ _ e];refine (hb.side t ht).aC h5 (fun b hb' hx=>?_);rcases hx with rfl | hx
    ·exact hb.Ou ht hb'
    ·exact hb.lY hs ht (fun h=>e h.symm) hx hb'
  ·have sub:∀k,k<n->Mem (n+1) (B.h s) (eQ (fP om) (B.h s) n i k):=fun k hk=>(pR (lt:=fP om) (B.h s) i (by omega) _).1 ⟨k,by omega,rfl⟩
   have h2':s=0\/s=1:=by omega
   intro k j hk hj;rcases h2' with rfl | rfl
   ·simp only[Bk.leave,ai,ah _ _ (show (1:Nat)≠0 by omega),hn,Nat.add_sub_cancel]at hk hj ⊢;obtain⟨k',hk',e⟩:=sub k hk;rw[e];exact hb.vZ k' j (by omega) hj
   ·simp only[Bk.leave,ai,ah _ _ (show (0:Nat)≠1 by omega),hn,Nat.add_sub_cancel]at hk hj ⊢;obtain⟨j',hj',e⟩:=sub j hj;rw[e];exact hb.vZ k j' hk (by omega)
 obtain⟨HF,HR⟩:=dE fin abH;clear fin abH;have e2:s=0\/s=1:=by omega
 rcases e2 with rfl | rfl
 all_goals
  go_enter Tryz.func116,Tryz.ntmps116;go_wp2;go_region_with (first | (go_at_call 149;refine (ae HR _).mono ?_;rintro e w1 ⟨rfl,hw1⟩))
  all_goals
   go_wp2;go_end0;exact⟨rfl,ae HF _ _ hw1⟩
structure wY(w:World)(H bb b:Nat):Prop where
 aY:aA w H #[PP bb] 111
 ord:aA w (H+1) #[PP b] 114
theorem wY.aC{w w':World}{H bb b:Nat}(h:wY w H bb b){S:Nat->Prop}(k:aj S w w')(h1:¬S H)(h2:¬S (H+1)):wY w' H bb b:=⟨k.aF h.aY h1,k.aF h.ord h2⟩
theorem cO.Fb{w:World}{bb:Nat}{B:Bk}{om:Nat->Ord}(hb:cO w bb B om){s:Nat}(hs:s<2){b:Nat}(h:dG B s b):b<w.heap.size:=by
 rcases h with h | ⟨k,hk,rfl⟩
 ·exact (hb.side s hs).lt h
 ·exact ((hb.side s hs).bz hk).lt
theorem Qs(bb:Nat)(B:Bk)(om:Nat->Ord)(s i:Nat)(w:World)(hb:cO w bb B om)(hs:s<2)(hi:i<B.n s)(hside:(om (B.h s i)).side=(s:Int)) :
 CT 66 #[PP bb,PP (B.h s i)] w fun e w'=>e=.returned (.func (.func 117) #[] #[PP w.heap.size,PP (w.heap.size+1)])/\wY w' w.heap.size bb (B.h s i) /\
  cO w' bb (B.leave om s i) om/\(∃ix,df w' (B.h s i) (om (B.h s i)) ix)/\aj (fun b=>b=bb\/dG B s b) w w':=by
 obtain⟨w1,hw1⟩:=kL ((w.alloc (.cells #[PP bb] 111)).alloc (.cells #[PP (B.h s i)] 114));have k1:aj aJ w w1:=by rw[hw1];exact ((aj.refl aJ w).alloc _).alloc _
 have p1:wY w1 w.heap.size bb (B.h s i):=by rw[hw1];exact⟨(aA.new w _ _).alloc _,aA.sQ w _ _ _⟩
 have hb1:=hb.aC k1 (fun _ _ x=>x);obtain⟨HR,HW⟩:=dE (zt bb B om s i w1 hb1 hs hi hside) hw1;have x0:CC w1 w.heap.size 0 (PP bb):=p1.aY.cell 0;have x1:CC w1 (w.heap.size+1) 0 (PP (B.h s i)):=p1.ord.cell 0;have lb:=hb.aF.lt;have out:∀b,w.heap.size<=b->¬(b=bb\/dG B s b):=by
  rintro b h (e | e)
  ·omega
  ·have:=hb.Fb hs e;omega
 have HO:=au out;clear hw1 out;go_enter Tryz.func66,Tryz.ntmps66;go_wp2_with fail;rw[<-ae HW];refine (ae HR).mono ?_;rintro e w2 ⟨rfl,b2,o2,k2⟩;go_wp2;go_ret;exact⟨rfl,p1.aC k2 (ae HO _ (Nat.le_refl _)) (ae HO _ (by omega)),b2,o2,k1.bI.trans k2⟩
theorem kM.om{w:World}{ab cap n:Nat}{h:Nat->Nat}{om dK:Nat->Ord}(hs:kM w ab cap n h om)(he:∀k,k<n->dK (h k)=om (h k)):kM w ab cap n h dK :=
 ⟨hs.sJ,fun i hi=>by rw[he i hi];exact hs.ord i hi,hs.le,hs.small,hs.PS⟩
theorem jk.om{w:World}{s:Option Addr}{cap n:Nat}{h:Nat->Nat}{om dK:Nat->Ord}(hs:jk w s n cap h om)(he:∀k,k<n->dK (h k)=om (h k)):jk w s n cap h dK:=by
 rcases hs with hs | ⟨ab,e,hs⟩
 ·exact .inl hs
 ·exact .inr ⟨ab,e,hs.om he⟩
theorem jk.aQ{w w':World}{s:Option Addr}{cap n:Nat}{h:Nat->Nat}{om:Nat->Ord}(hs:jk w s n cap h om){b:Nat}{o o':Ord}{ix:Int}(ho:df w b o ix)(k:aj (fun x=>x=b) w w')(ho':df w' b o' ix):jk w' s n cap h (aQ om b o'):=by
 rcases hs with hs | ⟨ab,rfl,hs⟩
 ·exact .inl hs
 ·refine .inr ⟨ab,rfl,?_⟩;obtain⟨cs,hb,hc,hp⟩:=hs.sJ;refine⟨⟨cs,k.aF hb (fun e=>aA.ne ho hb (by decide) e.symm),hc,hp⟩,fun i hi=>?_,hs.le,hs.small,hs.PS⟩;have hoi:=hs.ord i hi;by_cases e:h i=b
  ·rw[e]at hoi ⊢;rw[ai];have:=(Ord.Eu (aA.uniq ho hoi)).1;rw[<-this];exact ho'
  ·rw[ah _ _ e];exact k.aF hoi e
theorem cO.aQ{w w':World}{bb:Nat}{B:Bk}{om:Nat->Ord}(hb:cO w bb B om){b:Nat}{o o':Ord}{ix:Int}(ho:df w b o ix)(k:aj (fun x=>x=b) w w')(ho':df w' b o' ix):cO w' bb B (aQ om b o') :=
 ⟨k.aF hb.aF (fun e=>aA.ne ho hb.aF (by decide) e.symm),fun s hs=>(hb.side s hs).aQ ho k ho',hb.apart,hb.vZ⟩
theorem Gp{om:Nat->Ord}{b:Nat}{o':Ord}(h1:o'.side=(om b).side)(h2:o'.af=(om b).af)(h3:o'.place=(om b).place):fP (aQ om b o')=fP om:=by
 have:∀x,(aQ om b o' x).side=(om x).side/\(aQ om b o' x).af=(om x).af/\(aQ om b o' x).place=(om x).place:=by
  intro x;by_cases e:x=b
  ·subst e;rw[ai];exact⟨h1,h2,h3⟩
  ·rw[ah _ _ e];exact⟨rfl,rfl,rfl⟩
 funext x y;unfold fP mg kY;rw[(this x).1,(this x).2.1,(this x).2.2,(this y).2.1,(this y).2.2]
def Bk.push(B:Bk)(om:Nat->Ord)(s ob g cap':Nat):Bk :=
 { B with sl:=aQ B.sl s (some ⟨g,0,none⟩),n:=aQ B.n s (B.n s+1),cap:=aQ B.cap s cap',h:=aQ B.h s (vF (fP om) (fun k=>if k=B.n s then ob else B.h s k) (B.n s)) }
theorem Bk.NI(B:Bk)(om:Nat->Ord)(s ob g cap':Nat)(hs:s<2):(B.push om s ob g cap').cells=B.cells.setIfInBounds (1+s) (.slice (some ⟨g,0,none⟩) (B.n s+1) cap'):=by
 have:s=0\/s=1:=by omega
 rcases this with rfl | rfl <;> rfl
def Bk.rest(B:Bk)(om:Nat->Ord)(s ob g cap':Nat):Bk :=
 { B with sl:=aQ B.sl s (some ⟨g,0,none⟩),n:=aQ B.n s (B.n s+1),cap:=aQ B.cap s cap',h:=aQ B.h s (vF (fP om) (fun k=>if k=B.n s then ob else B.h s k) (B.n s)),places:=wrap64 (B.places+1) }
theorem Et(bb ob s:Nat)(B:Bk)(om:Nat->Ord)(ix:Int)(w:World)(hb:cO w bb B om)(ho:df w ob (om ob) ix)(hs:s<2)(hside:(om ob).side=(s:Int))(hnew:∀t,t<2->∀k,k<B.n t->B.h t k≠ob)(hn:B.n s<1000) :
 CT 118 #[PP bb,PP ob] w fun e w'=>e=.returned (.tuple #[]) /\
  ∃g cap',cO w' bb (B.push om s ob g cap') om/\aj (fun b=>b=bb\/b=ob\/dG B s b) w w'/\(ig (B.sl s)=some g\/w.heap.size<=g):=by
 have hne:ob≠bb:=aA.ne ho hb.aF (by decide);have hpush:=fun q=>Qg bb (1+s) ob (B.n s) (B.cap s) (B.sl s) _ (B.h s) om ix (w.drewN q) (hb.aF.drewN q) (B.vY hs) ((hb.side s hs).aC ((aj.refl aJ w).drewN q) (fun _ _ x=>x)) (ho.drewN q) (hnew s hs) hn
 have fin:∀(q:Nat) (w':World),(∃g cap',aA w' bb (B.cells.setIfInBounds (1+s) (.slice (some ⟨g,0,none⟩) (B.n s+1) cap')) 158/\kM w' g cap' (B.n s+1) (vF (fP om) (fun k=>if k=B.n s then ob else B.h s k) (B.n s)) om /\
  aj (fun b=>b=bb\/b=ob\/ig (B.sl s)=some b\/∃k,k<B.n s/\b=B.h s k) (w.drewN q) w'/\(ig (B.sl s)=some g\/(w.drewN q).heap.size<=g)) ->
  ∃g cap',cO w' bb (B.push om s ob g cap') om/\aj (fun b=>b=bb\/b=ob\/dG B s b) w w'/\(ig (B.sl s)=some g\/w.heap.size<=g):=by
  rintro q w' ⟨g,cap',h1,h2,h3,h4⟩;have h4':ig (B.sl s)=some g\/w.heap.size<=g:=h4;have h5:aj (fun b=>b=bb\/b=ob\/dG B s b) w w':=aj.trans ((aj.refl _ w).drewN q) (h3.mono (fun b hb=>hb));refine⟨g,cap',⟨?_,?_,?_,?_⟩,h5,h4'⟩
  ·rw[B.NI om s ob g cap' hs];exact h1
  ·intro t ht;by_cases e:t=s
   ·subst e;refine .inr ⟨g,by simp only[Bk.push,ai],?_⟩;simp only[Bk.push,ai];exact h2
   ·simp only[Bk.push,ah _ _ e];refine (hb.side t ht).aC h5 (fun b hb' hx=>?_);rcases hx with rfl | rfl | hx
    ·exact hb.Ou ht hb'
    ·rcases hb' with hb' | ⟨k,hk,e'⟩
     ·exact (hb.side t ht).ne ho (by decide) hb'
     ·exact hnew t ht k hk e'.symm
    ·exact hb.lY hs ht (fun h=>e h.symm) hx hb'
  ·have key:∀t,t<2->t≠s->ig (B.sl t)≠some g:=by
    intro t ht e;rcases h4' with h | h
    ·have e2:(t=0/\s=1)\/(t=1/\s=0):=by omega
     rcases e2 with⟨rfl,rfl⟩ | ⟨rfl,rfl⟩
     ·exact fun h'=>hb.apart g h' h
     ·exact hb.apart g h
    ·intro h';have:=(hb.side t ht).lt h';omega
   have e2:s=0\/s=1:=by omega
   intro a;rcases e2 with rfl | rfl
   ·simp only[Bk.push,ai,ah _ _ (show (1:Nat)≠0 by omega)];intro h h';simp[ig]at h;subst h;exact key 1 (by omega) (by omega) h'
   ·simp only[Bk.push,ai,ah _ _ (show (0:Nat)≠1 by omega)];intro h h';simp[ig]at h';subst h';exact key 0 (by omega) (by omega) h
  ·have sub:∀k,k<B.n s+1->Mem (B.n s) (B.h s) (vF (fP om) (fun k=>if k=B.n s then ob else B.h s k) (B.n s) k)\/vF (fP om) (fun k=>if k=B.n s then ob else B.h s k) (B.n s) k=ob:=fun k hk=>(jh (lt:=fP om) (B.h s) ob _).1 ⟨k,hk,rfl⟩
   have e2:s=0\/s=1:=by omega
   intro k j hk hj;rcases e2 with rfl | rfl
   ·simp only[Bk.push,ai,ah _ _ (show (1:Nat)≠0 by omega)]at hk hj ⊢;rcases sub k hk with⟨k',hk',e⟩ | e
    ·rw[e];exact hb.vZ k' j hk' hj
    ·rw[e];exact fun h=>hnew 1 (by omega) j hj h.symm
   ·simp only[Bk.push,ai,ah _ _ (show (0:Nat)≠1 by omega)]at hk hj ⊢;rcases sub j hj with⟨j',hj',e⟩ | e
    ·rw[e];exact hb.vZ k j' hk hj'
    ·rw[e];exact hnew 0 (by omega) k hk
 obtain⟨HF,HR⟩:=dE fin hpush;have o3:CC w ob 3 (II (s:Int)):=(ho.cell 3).trans (by rw[<-hside];rfl);clear fin hpush;have e2:s=0\/s=1:=by omega
 rcases e2 with rfl | rfl
 all_goals
  go_enter Tryz.func118,Tryz.ntmps118;go_wp2;go_region_with (first | (go_at_call 150;refine (ae HR _).mono ?_;rintro e w2 ⟨rfl,hw2⟩))
  all_goals
   go_wp2;go_end0;exact⟨rfl,ae HF _ _ hw2⟩
structure xe(w:World)(H bb b:Nat)(p:Int):Prop where
 wL:wY w H bb b
 place:aA w (H+2) #[II p] 3
theorem xe.aC{w w':World}{H bb b:Nat}{p:Int}(h:xe w H bb b p){S:Nat->Prop}(k:aj S w w')(h1:¬S H)(h2:¬S (H+1))(h3:¬S (H+2)):xe w' H bb b p:=⟨h.wL.aC k h1 h2,k.aF h.place h3⟩
theorem aA.UK(w:World)(o o2:Obj)(c:Array Value)(t:TypeId):aA (((w.alloc o).alloc o2).alloc (.cells c t)) (w.heap.size+2) c t:=by
 have h:=aA.new ((w.alloc o).alloc o2) c t;have e:((w.alloc o).alloc o2).heap.size=w.heap.size+2:=by simp
 rw[e]at h;exact h
structure Tr where
 num:Int
 sym:ByteArray
 af:Int
 aK:Int
 qC:Int
 iK:Int
 day:Int
def Tr.cells(t:Tr):List Value:=[II t.num,.string t.sym,II t.af,II t.aK,II t.qC,II t.iK,II t.day]
def Tr.val(t:Tr):Value:=.agg #[II t.num,.string t.sym,II t.af,II t.aK,II t.qC,II t.iK,II t.day]
structure Tg where
 t:Tr
 holds:Bool
def Tg.cells(g:Tg):Array Value:=#[II g.t.num,.string g.t.sym,II g.t.af,II g.t.aK,II g.t.qC,II g.t.iK,II g.t.day,.bool g.holds]
structure Rc where
 num:Int
 kind:Int
 t:Tr
def Rc.cells(r:Rc):List Value:=[II r.num,II r.kind,II r.t.num,.string r.t.sym,II r.t.af,II r.t.aK,II r.t.qC,II r.t.iK,II r.t.day]
def kT(rs:List Rc):List Value:=rs.flatMap Rc.cells
theorem MG(rs:List Rc)(r:Rc):kT (rs++[r])=kT rs++r.cells:=by simp[kT,List.flatMap_append]
theorem F5(rs:List Rc):(kT rs).length=rs.length * 9:=by
 induction rs with
 | nil=>rfl
 | cons r rs ih=>simp only[kT,List.flatMap_cons,List.length_append,List.length_cons]at ih ⊢;rw[ih];simp only[Rc.cells,List.length_cons,List.length_nil];omega
inductive dY where
 | gp (b:Nat) (o:Ord)
 | left (b:Nat)
 | fC (b:Nat) (p:Int)
 | entered (id:Int)
 | di (s:ByteArray)
 | iZ (t:Tr)
 | jU (tb:Nat)
 | iW (tb:Nat) (p:Int)
 | closed
structure Lg where
 tr:List Tg
 tp:List Rc
 day:Int
 na:Nat
 nt:List dY
 ud:Nat
 js:List ByteArray
 pl:ByteArray
def Bg(js:List ByteArray):List Value:=js.flatMap (fun l=>Lib.strCells l++[Value.int .u8 10])
theorem MF(js:List ByteArray)(l:ByteArray):Bg (js++[l])=(Bg js++Lib.strCells l)++[Value.int .u8 10]:=by simp[Bg]
def Lg.sF(G:Lg)(l:ByteArray):Lg:={ G with js:=G.js++[l] }
structure Lm where
 tv:Value
 pv:Value
 tb:List Nat
 av:Value
 ac:List (Value × List Value)
 jv:Value
 jn:List Value
def gY(av:Value)(ac:List (Value × List Value))(b:Nat):Prop:=av.ownBlock=some b\/∃a,a∈ac/\a.1.ownBlock=some b
def Lm.F(m:Lm)(b:Nat):Prop:=m.tv.ownBlock=some b\/(m.pv.ownBlock=some b\/m.jv.ownBlock=some b)\/b∈m.tb\/gY m.av m.ac b
def sU(bm bo:Nat)(m:Lm)(day:Int):Array Value:=#[.map (some bm),.map (some bo),m.tv,m.pv,II day,m.av,m.jv]
theorem bK{w:World}{base e size n:Nat}{v:Value}{xs:List Value}(h:w.ownsRow base e size v n xs){b:Nat}(hb:v.ownBlock=some b):∃cs,aA w b cs e:=by
 rcases h.2 with⟨rfl,_⟩ | ⟨g,cap,cs,rfl,_,hg,_⟩
 ·simp[Value.ownBlock]at hb
 ·simp only[Value.ownBlock,Option.some.injEq]at hb;subst hb;exact⟨cs,hg⟩
structure Ie(w:World)(av:Value)(ac:List (Value × List Value))(na nf:Nat):Prop where
 row:w.ownsRow 0 109 1 av ac.length (ac.map Prod.fst)
 own:∀a,a∈ac->w.ownsRow 0 1 1 a.1 a.2.length a.2
 dis:(ac.filterMap (fun a=>a.1.ownBlock)).Nodup
 len:ac.length=na
 last:∀a,ac.getLast?=some a->a.2.length=nf
theorem Ie.gK{w:World}{av:Value}{ac:List (Value × List Value)}{na nf:Nat}(h:Ie w av ac na nf){b:Nat}(hb:gY av ac b):∃cs t,aA w b cs t/\(t=109\/t=1):=by
 rcases hb with hb | ⟨a,ha,hb⟩
 ·obtain⟨cs,hc⟩:=bK h.row hb;exact⟨cs,109,hc,.inl rfl⟩
 ·obtain⟨cs,hc⟩:=bK (h.own a ha) hb;exact⟨cs,1,hc,.inr rfl⟩
theorem aI{w w':World}{base e size n:Nat}{v:Value}{xs:List Value}(h:w.ownsRow base e size v n xs){S:Nat->Prop}(k:aj S w w')(hS:∀b,v.ownBlock=some b->¬S b):w'.ownsRow base e size v n xs:=by
 refine⟨h.1,?_⟩;rcases h.2 with h | ⟨g,cap,cs,rfl,h1,hg,h3⟩
 ·exact .inl h
 ·exact .inr ⟨g,cap,cs,rfl,h1,k.aF hg (hS g rfl),h3⟩
theorem Ie.aC{w w':World}{av:Value}{ac:List (Value × List Value)}{na nf:Nat}(h:Ie w av ac na nf){S:Nat->Prop}(k:aj S w w')(hS:∀b,gY av ac b->¬S b):Ie w' av ac na nf :=
 ⟨aI h.row k (fun b hb=>hS b (.inl hb)),fun a ha=>aI (h.own a ha) k (fun b hb=>hS b (.inr ⟨a,ha,hb⟩)),h.dis,h.len,h.last⟩
structure qB(w:World)(G:Lg)(m:Lm)(q:Nat):Prop where
 jJ:w.ownsRow 0 103 1 m.tv G.tr.length (m.tb.map dD)
 iO:w.ownsRow 0 62 9 m.pv G.tp.length (kT G.tp)
 len:m.tb.length=G.tr.length
 aF:∀(i b:Nat) (g:Tg),m.tb[i]?=some b->G.tr[i]?=some g->aA w b g.cells 105
 nodup:m.tb.Nodup
 act:Ie w m.av m.ac G.na G.nt.length
 kV:w.ownsRow 0 5 1 m.jv m.jn.length m.jn
 jb:m.jn.length<=300 * q/\m.jn=Bg G.js
abbrev aa2(w:World)(G:Lg)(m:Lm):Prop:=qB w G m (G.ud+G.na)
structure fU(w:World)(bv bm bo:Nat)(G:Lg)(m:Lm)(q:Nat):Prop where
 dC:aA w bv (sU bm bo m G.day) 100
 aP:qB w G m q
abbrev bG(w:World)(bv bm bo:Nat)(G:Lg)(m:Lm):Prop:=fU w bv bm bo G m (G.ud+G.na)
theorem qB.gK{w:World}{G:Lg}{m:Lm}{q:Nat}(h:qB w G m q){b:Nat}(hb:m.F b):∃cs t,aA w b cs t/\(t=103\/t=62\/t=105\/t=109\/t=1\/t=5):=by
 rcases hb with hb | (hb | hb) | hb | hb
 ·obtain⟨cs,hc⟩:=bK h.jJ hb;exact⟨cs,103,hc,.inl rfl⟩
 ·obtain⟨cs,hc⟩:=bK h.iO hb;exact⟨cs,62,hc,.inr (.inl rfl)⟩
 ·obtain⟨cs,hc⟩:=bK h.kV hb;exact⟨cs,5,hc,vU rfl⟩
 ·obtain⟨i,hi,e⟩:=List.mem_iff_getElem.1 hb;have hj:i<G.tr.length:=by rw[<-h.len];exact hi
  exact⟨_,105,h.aF i b _ (by rw[List.getElem?_eq_getElem hi,e]) (List.getElem?_eq_getElem hj),lN rfl⟩
 ·obtain⟨cs,t,hc,ht⟩:=h.act.gK hb;exact⟨cs,t,hc,ht.elim (fun e=>jZ e) (fun e=>qm e)⟩
theorem qB.lt{w:World}{G:Lg}{m:Lm}{q:Nat}(h:qB w G m q){b:Nat}(hb:m.F b):b<w.heap.size:=by
 obtain⟨cs,t,hc,_⟩:=h.gK hb;exact hc.lt
theorem qB.ne{w:World}{G:Lg}{m:Lm}{q:Nat}(h:qB w G m q){b:Nat}{c:Array Value}{t:TypeId}(hb:aA w b c t)(h1:t≠103)(h2:t≠62)(h3:t≠105)(h4:t≠109:=by decide)(h5:t≠1/\t≠5:=by decide):¬m.F b:=by
 intro hf;obtain⟨cs,t',hc,ht⟩:=h.gK hf;unfold aA at hb hc;rw[hb]at hc;simp only[Option.some.injEq,Obj.cells.injEq]at hc;obtain⟨_,e,_⟩:=hc;subst e;rcases ht with e | e | e | e | e | e
 ·exact h1 e
 ·exact h2 e
 ·exact h3 e
 ·exact h4 e
 ·exact h5.1 e
 ·exact h5.2 e
theorem qB.aC{w w':World}{G:Lg}{m:Lm}{q:Nat}(h:qB w G m q){S:Nat->Prop}(k:aj S w w')(hS:∀b,m.F b->¬S b):qB w' G m q :=
 ⟨aI h.jJ k (fun b hb=>hS b (.inl hb)),aI h.iO k (fun b hb=>hS b (.inr (.inl (.inl hb)))),h.len,fun i b g hi hg=>k.aF (h.aF i b g hi hg) (hS b (lN (List.mem_of_getElem? hi))),h.nodup,h.act.aC k (fun b hb=>hS b (DR hb)),aI h.kV k (fun b hb=>hS b (.inr (.inl (.inr hb)))),h.jb⟩
theorem fU.aC{w w':World}{bv bm bo:Nat}{G:Lg}{m:Lm}{q:Nat}(h:fU w bv bm bo G m q){S:Nat->Prop}(k:aj S w w')(h1:¬S bv)(hS:∀b,m.F b->¬S b):fU w' bv bm bo G m q :=
 ⟨k.aF h.dC h1,h.aP.aC k hS⟩
theorem fU.aB{w w':World}{bv bm bo:Nat}{G:Lg}{m:Lm}{q:Nat}(h:fU w bv bm bo G m q)(k:aj aJ w w'):fU w' bv bm bo G m q:=h.aC k aU (fun _ _ x=>x)
theorem fU.L6{w:World}{bv bm bo:Nat}{G:Lg}{m:Lm}{q:Nat}(h:fU w bv bm bo G m q):¬m.F bv:=h.aP.ne h.dC (by decide) (by decide) (by decide)
def Lg.told(G:Lg)(kind:Int)(t:Tr):Lg:={ G with tp:=G.tp++[⟨(G.tp.length:Int)+1,kind,t⟩] }
theorem aah:(Tryz.prog.info? 62).map (fun i=>(i.zero.map (fun z=>z.cells.size),i.size,i.bytes))=some (some 9,9,80):=by kernel_rfl
theorem aai:(Tryz.prog.info? 103).map (fun i=>(i.zero,i.size,i.bytes))=some (some (.pointer none),1,8):=by kernel_rfl
theorem xG:∃i z,Tryz.prog.info? 62=some i/\i.zero=some z/\i.size=9/\i.bytes=80/\z.cells.size=9:=by
 have h:=aah;cases hi:Tryz.prog.info? 62 with
 | none=>rw[hi]at h;simp at h
 | some i =>
   rw[hi]at h;simp at h;obtain⟨⟨z,hz,hs⟩,h2,h3⟩:=h;exact⟨i,z,rfl,hz,h2,h3,hs⟩
theorem ab2(w:World)(r:Rc):∀j u,r.cells[j]?=some u->(w.alloc (.cells #[II r.num,II r.kind,II r.t.num,.string r.t.sym,II r.t.af,II r.t.aK,II r.t.qC,II r.t.iK,II r.t.day] 62)).cell? (Addr.add ⟨w.heap.size,0,none⟩ j)=some u:=by
 intro j u hj;have hb:=aA.new w #[II r.num,II r.kind,II r.t.num,.string r.t.sym,II r.t.af,II r.t.aK,II r.t.qC,II r.t.iK,II r.t.day] 62;have e:Addr.add ⟨w.heap.size,0,none⟩ j=⟨w.heap.size,j,none⟩:=by simp[Addr.add];omega
 rw[e,hb.cell,<-hj];simp[Rc.cells]
theorem bY{w:World}{base e size n:Nat}{v:Value}{xs:List Value}(h:w.ownsRow base e size v n xs){b:Nat}(hb:v.ownBlock=some b){b':Nat}{c:Array Value}{t:TypeId}(hb':aA w b' c t)(ht:e≠t):b≠b':=by
 obtain⟨cs,hc⟩:=bK h hb;exact aA.ne hc hb' ht
theorem fU.QS{w1 w2:World}{bv bm bo:Nat}{G:Lg}{m:Lm}(h:bG w1 bv bm bo G m){n H g cap:Nat}{r:Rc}(hn:G.tp.length=n)(hown:w2.ownsRow 0 62 9 (.slice (some ⟨g,0,none⟩) (n+1) cap) (n+1) (kT G.tp++r.cells))(hgrow:w1.grownBy w2 m.pv.ownBlock)(hat:m.pv.ownBlock=some g\/g=H)(hH:w1.heap.size=H) :
 bG (w2.setCell ⟨bv,3,none⟩ (.slice (some ⟨g,0,none⟩) (n+1) cap)) bv bm bo { G with tp:=G.tp++[r] } { m with pv:=.slice (some ⟨g,0,none⟩) (n+1) cap } /\
  (∀b,Lm.F { m with pv:=.slice (some ⟨g,0,none⟩) (n+1) cap } b->m.F b\/H<=b)/\aj (fun b=>b=bv\/m.pv.ownBlock=some b) w1 (w2.setCell ⟨bv,3,none⟩ (.slice (some ⟨g,0,none⟩) (n+1) cap)):=by
 have hb2:aA w2 bv (sU bm bo m G.day) 100:=(hgrow.block bv h.dC.lt (fun e=>h.L6 (.inr (.inl (.inl e.symm))))).trans h.dC;have k2:aj (fun b=>b=bv\/m.pv.ownBlock=some b) w1 (w2.setCell ⟨bv,3,none⟩ (.slice (some ⟨g,0,none⟩) (n+1) cap)) :=
  ((aj.refl _ w1).grown hgrow (fun k e=>.inl (.inr e))).setCell (p:=⟨bv,3,none⟩) (.inl (.inl rfl)) _
 have k3:aj (fun b=>b=bv) w2 (w2.setCell ⟨bv,3,none⟩ (.slice (some ⟨g,0,none⟩) (n+1) cap)):=(aj.refl (fun b=>b=bv) w2).setCell (p:=⟨bv,3,none⟩) (.inl rfl) _;refine⟨⟨hb2.set 3 _,?_⟩,?_,k2⟩
 ·refine⟨aI h.aP.jJ k2 ?_,?_,h.aP.len,fun i b g hi hg=>k2.aF (h.aP.aF i b g hi hg) ?_,h.aP.nodup,h.aP.act.aC k2 ?_,aI h.aP.kV k2 ?_,h.aP.jb⟩
  ·rintro b hb (e | e)
   ·exact bY h.aP.jJ hb h.dC (by decide) e
   ·obtain⟨cs,hc⟩:=bK h.aP.iO e;exact bY h.aP.jJ hb hc (by decide) rfl
  ·simp only[List.length_append,List.length_cons,List.length_nil,hn,MG];refine aI hown k3 (fun b hb e=>?_);exact bY hown hb hb2 (by decide) e
  ·have hbk:=h.aP.aF i b g hi hg;rintro (e | e)
   ·exact aA.ne hbk h.dC (by decide) e
   ·exact bY h.aP.iO e hbk (by decide) rfl
  ·intro b hb;obtain⟨cs,t,hc,ht⟩:=h.aP.act.gK hb;rintro (e | e)
   ·exact aA.ne hc h.dC (by rcases ht with rfl | rfl <;> decide) e
   ·exact bY h.aP.iO e hc (by rcases ht with rfl | rfl <;> decide) rfl
  ·rintro b hb (e | e)
   ·exact bY h.aP.kV hb h.dC (by decide) e
   ·obtain⟨cs,hc⟩:=bK h.aP.iO e;exact bY h.aP.kV hb hc (by decide) rfl
 ·rintro b (hb | (hb | hb) | hb)
  ·exact .inl (.inl hb)
  ·simp only[Value.ownBlock,Option.some.injEq]at hb;rcases hat with e | e
   ·exact .inl (.inr (.inl (.inl (by rw[e,hb]))))
   ·right;omega
  ·exact .inl (.inr (.inl (.inr hb)))
  ·exact .inl (.inr (.inr hb))
theorem aaj:∃i,Tryz.prog.info? 5=some i/\i.zero=some (.int .u8 0)/\i.size=1/\i.bytes=1:=by
 have h:(Tryz.prog.info? 5).map (fun i=>(i.zero,i.size,i.bytes))=some (some (.int .u8 0),1,1):=by kernel_rfl
 cases hi:Tryz.prog.info? 5 with
 | none=>rw[hi]at h;simp at h
 | some i =>
   rw[hi]at h;simp at h;exact⟨i,rfl,h.1,h.2.1,h.2.2⟩
theorem LU{P:Program}(w:World)(t u ty e:TypeId)(i:TypeInfo)(ht:P.underlying t=some (.slice e))(hu:P.underlying u=some .string)(hi:P.info? e=some i)(hz:i.zero=some (.int .u8 0))(hsize:i.size=1)(hby:i.bytes=1)
 (v:Value) (n:Nat) (xs:List Value) (hown:w.ownsRow 0 e 1 v n xs) (s:ByteArray) (hs0:0<s.size) (hb:n+s.size<=1000000000) :
 ∃g cap w',(Builtin.append_ #[t,u] ty #[v,.string s]).run P w=.ok (.slice (some ⟨g,0,none⟩) (n+s.size) cap) w'/\w'.ownsRow 0 e 1 (.slice (some ⟨g,0,none⟩) (n+s.size) cap) (n+s.size) (xs++Lib.strCells s)/\w.grownBy w' v.ownBlock/\(v.ownBlock=some g\/g=w.heap.size):=by
 obtain⟨v',w',hr,h2,h3,h4⟩:=Lib.run_append_own_string (P:=P) w 0 t u ty e i ht hu hi hz hsize hby v n xs hown s (by unfold maxLen;omega) (by omega) (by omega);have hx:∃g cap,v'=.slice (some ⟨g,0,none⟩) (n+s.size) cap/\(v.ownBlock=some g\/g=w.heap.size):=by
  have hxl:xs.length=n:=by simpa using hown.1
  rcases hown.2 with⟨rfl,rfl⟩ | ⟨g,cap,cur,rfl,hbg,hg,hnc,hcm,hcs,htake⟩
  ·have hr2:=run_append_nil_string (P:=P) w t u ty e i (.int .u8 0) ht hu hi hz s hs0 (by omega) (by rw[hby];omega);rw[hr]at hr2;injection hr2 with e1 _;exact⟨_,_,by rw[e1,Nat.zero_add],.inr rfl⟩
  ·by_cases hroom:n+s.size<=cap
   ·have hr2:=Lib.run_append_room_string (P:=P) w t u ty e i ht hu hi hsize g n cap cur hg s hroom (by omega);rw[hr]at hr2;injection hr2 with e1 _;exact⟨_,_,e1,.inl rfl⟩
   ·have holds:∀j u,xs[j]?=some u->w.cell? ((⟨g,0,none⟩:Addr).add j)=some u:=World.ownsRow.cells (g:=g) ⟨hown.1,.inr ⟨g,cap,cur,rfl,hbg,hg,hnc,hcm,hcs,htake⟩⟩ rfl;have hr2:=Lib.run_append_grow_string (P:=P) w t u ty e i (.int .u8 0) ht hu hi hz ⟨g,0,none⟩ n cap xs (by rw[hsize];simpa using hxl) holds s (by omega) (by omega) (by rw[hby];exact growslice_fits (by omega) (by omega));rw[hr]at hr2;injection hr2 with e1 _;exact⟨_,_,e1,.inr rfl⟩
 obtain⟨g,cap,rfl,hg⟩:=hx;exact⟨g,cap,w',hr,h2,h3,hg⟩
theorem yz{P:Program}{w:World}{ops:Array Oper}{rest:List Oper}{o:Oper}{a:Act}{Q:Exit->Act->World->Prop}(hgd:o.guard=none)(sl x:Operand)(t u:TypeId)
 (ho:o.op=.call { callee:=.builtin .append,args:=#[sl,x],argTypes:=#[t,u] })
 (e:TypeId) (i:TypeInfo) (ht:P.underlying t=some (.slice e)) (hu:P.underlying u=some .string) (hi:P.info? e=some i) (hz:i.zero=some (.int .u8 0)) (hsize:i.size=1) (hby:i.bytes=1)
 (v:Value) (n:Nat) (xs:List Value) (hs:a.eval sl=v) (hown:w.ownsRow 0 e 1 v n xs) (s:ByteArray) (hx:a.eval x=.string s) (hs0:0<s.size) (hb:n+s.size<=1000000000)
 (h:∀g cap w',w'.ownsRow 0 e 1 (.slice (some ⟨g,0,none⟩) (n+s.size) cap) (n+s.size) (xs++Lib.strCells s)->w.grownBy w' v.ownBlock->(v.ownBlock=some g\/g=w.heap.size)->wpList P ops Q rest (a.put o.dst (.slice (some ⟨g,0,none⟩) (n+s.size) cap)) w'):wpList P ops Q (o :: rest) a w:=by
 refine wpList_plain hgd fun K hK=>?_
 obtain⟨g,cap,w',hr,h2,h3,h4⟩:=LU (P:=P) w t u o.type e i ht hu hi hz hsize hby v n xs hown s hs0 hb;unfold Oper.wp execOp;simp only[ho,resolve,invoke,builtin,Sem.run_bind,Sem.run_pure,Result.andThen_ok,List.map_toArray,List.map_cons,List.map_nil,hs,hx,hr];exact hK _ _ (h g cap w' h2 h3 h4)
theorem yT{w:World}{base e size n:Nat}{v:Value}{xs:List Value}(h:w.ownsRow base e size v n xs):∃a c,v=.slice a n c:=by
 rcases h.2 with⟨h,h0⟩ | ⟨g,cap,cs,h,_⟩
 ·exact⟨none,0,by rw[h,h0]⟩
 ·exact⟨_,cap,h⟩
theorem fU.ady{w w4:World}{bv bm bo:Nat}{G:Lg}{m:Lm}{q q' n:Nat}(h:fU w bv bm bo G m q)(k:aj (fun b=>m.jv.ownBlock=some b) w w4){jv:Value}{jn:List Value}(hn:jn.length=n)(hown:w4.ownsRow 0 5 1 jv n jn)(hq:n<=300 * q'){js:List ByteArray}(hj:jn=Bg js) :
 fU (w4.setCell ⟨bv,6,none⟩ jv) bv bm bo { G with js:=js } { m with jv:=jv,jn:=jn } q'/\aj (fun b=>b=bv\/m.jv.ownBlock=some b) w (w4.setCell ⟨bv,6,none⟩ jv):=by
 subst hn;have no:∀{b c t},aA w b c t->t≠5->¬(m.jv.ownBlock=some b):=fun hb ht e=>bY h.aP.kV e hb (fun e=>ht e.symm) rfl
 have b4:aA w4 bv (sU bm bo m G.day) 100:=k.aF h.dC (no h.dC (by decide));have k5:aj (fun b=>b=bv) w4 (w4.setCell ⟨bv,6,none⟩ jv):=(aj.refl (fun b=>b=bv) w4).setCell (p:=⟨bv,6,none⟩) (.inl rfl) _;have kk:aj (fun b=>b=bv\/m.jv.ownBlock=some b) w (w4.setCell ⟨bv,6,none⟩ jv):=(k.mono (fun b e=>.inr e)).trans (k5.mono (fun b e=>.inl e));have no2:∀{b c t},aA w b c t->t≠5->t≠100->¬(b=bv\/m.jv.ownBlock=some b):=by
  rintro b c t hb h5 h0 (e | e)
  ·exact aA.ne hb h.dC h0 e
  ·exact no hb h5 e
 refine⟨⟨b4.set 6 _,?_⟩,kk⟩;refine⟨aI h.aP.jJ kk ?_,aI h.aP.iO kk ?_,h.aP.len,fun i b g hi hg=>kk.aF (h.aP.aF i b g hi hg) (no2 (h.aP.aF i b g hi hg) (by decide) (by decide)),h.aP.nodup,h.aP.act.aC kk ?_,aI hown k5 (fun b hb e=>bY hown hb b4 (by decide) e),hq,hj⟩
 ·intro b hb;obtain⟨cs,hc⟩:=bK h.aP.jJ hb;exact no2 hc (by decide) (by decide)
 ·intro b hb;obtain⟨cs,hc⟩:=bK h.aP.iO hb;exact no2 hc (by decide) (by decide)
 ·intro b hb;obtain⟨cs,t,hc,ht⟩:=h.aP.act.gK hb;exact no2 hc (by rcases ht with rfl | rfl <;> decide) (by rcases ht with rfl | rfl <;> decide)
theorem Fq(bv bm bo:Nat)(G:Lg)(m:Lm)(q:Nat)(line:ByteArray)(w:World)(hL:fU w bv bm bo G m q)(hq:q<3000000)(h0:0<line.size)(hl:line.size<=290) :
 CT 44 #[PP bv,.string line] w fun e w'=>e=.returned (.tuple #[]) /\
  ∃jv jn,fU w' bv bm bo (G.sF line) { m with jv:=jv,jn:=jn } (q+1)/\(∀b,jv.ownBlock=some b->m.jv.ownBlock=some b\/w.heap.size<=b)/\aj (fun b=>b=bv\/m.jv.ownBlock=some b) w w':=by
 obtain⟨n,hn⟩:=mf m.jn.length;have hrow:=hL.aP.kV;have hjb:=hL.aP.jb.1;rw[hn]at hrow hjb;obtain⟨pa,lU,YG⟩:=yT hrow;rw[YG]at hrow;have v6:CC w bv 6 (.slice pa n lU):=(hL.dC.cell 6).trans (by rw[<-YG];rfl);have f6:=hL.dC.frozen 6;have lv:=hL.dC.lt;obtain⟨i0,hi0,hz0,hz1,hz2⟩:=aaj;have hbd:n+line.size<=1000000000:=by omega
 have hmx:n+line.size+1<=maxLen:=by unfold maxLen;omega
 have sO:(n+line.size+1) * 1<=140737488355328:=by omega
 obtain⟨HR,HL,HJV,HN⟩:=pJ hrow hL YG hn;have hnb:(Value.slice pa n lU).ownBlock≠some bv:=fun e=>bY hrow e hL.dC (by decide) rfl
 obtain⟨HNB,HB⟩:=dE hnb hL.dC;clear hrow hL YG hn hnb;go_enter Tryz.func44,Tryz.ntmps44;go_wp2_with (at_builtin;first
  | (refine yz rfl _ _ 98 9 rfl 5 i0 Tryz.underlying98 Tryz.underlying9 hi0 hz0 hz1 hz2 (.slice pa n lU) n _ rfl (ae HR) line rfl h0 hbd ?_;intro g cap w2 hown2 hgrow hat;have Ik:=au hown2;have HG2:=au hgrow;have HA2:=au hat;have b2:aA w2 bv (sU bm bo m G.day) 100:=(hgrow.block bv lv (fun e=>ae HNB e.symm)).trans (ae HB);have HB2:=au b2;clear hown2 hgrow hat b2)
  | (refine wpList_append_lies _ rfl _ _ 98 rfl 0 5 i0 (.int .u8 0) 1 1 Tryz.underlying98 hi0 hz0 hz1 hz2 rfl (by decide) (.slice (some ⟨g,0,none⟩) (n+line.size) cap) (n+line.size) _ rfl (aI (ae Ik) ((aj.refl aJ w2).alloc _) (fun _ _ x=>x)) ⟨w2.heap.size,0,none⟩ 1 1 [.int .u8 10] rfl rfl (World.news_of_block (aA.new w2 #[.int .u8 10] 5)) (by simp[Value.oneCell']) (by omega) hmx sO (by omega) (w2.heap.size+1) (by simp) ?_;intro g4 cap4 w4 hown4 hgrow4 abh hlt4;have HO4:=au hown4;have Ii:=au hgrow4;have HA4:=au abh;have b4:aA w4 bv (sU bm bo m G.day) 100:=(hgrow4.block bv (((ae HB2).alloc _).lt) (fun e=>aA.ne (ae HB2) (bK (ae Ik) (show (Value.slice (some ⟨g,0,none⟩) (n+line.size) cap).ownBlock=some bv from e.symm)).choose_spec (by decide) rfl)).trans ((ae HB2).alloc _);have v64:=b4.cell 6;have f64:=b4.frozen 6;simp only[sU]at v64;simp at v64;clear hown4 hgrow4 abh b4))
 go_end0;have hj:=ae HJV;have k2:aj (fun b=>m.jv.ownBlock=some b) w w2:=(aj.refl _ w).grown (ae HG2) (fun k e=>.inl (by rw[hj];exact e));have k4:aj (fun b=>m.jv.ownBlock=some b) w w4:=(k2.alloc _).grown (ae Ii) (fun k e=>by
  simp only[Value.ownBlock,Option.some.injEq]at e;subst e;rcases ae HA2 with e | e
  ·exact .inl (by rw[hj];exact e)
  ·exact .inr (by omega))
 have o4:=ae HO4;have hlen:((m.jn++Lib.strCells line)++[Value.int .u8 10]).length=n+line.size+1:=by have:=o4.1;omega
 have hs:=(ae HL).ady k4 (q':=q+1) hlen o4 (by omega) (js:=G.js++[line]) (by rw[MF,(ae HL).aP.jb.2]);refine⟨rfl,_,_,hs.1,?_,hs.2⟩;intro b hb;simp only[Value.ownBlock,Option.some.injEq]at hb;subst hb;rcases ae HA4 with e | e
 ·simp only[Value.ownBlock,Option.some.injEq]at e;subst e;rcases ae HA2 with e | e
  ·exact .inl (by rw[hj];exact e)
  ·exact .inr (by omega)
 ·have:=k2.size;exact .inr (by omega)
theorem Ue(n:Int)(h0:-9223372036854775808<=n)(h1:n<=9223372036854775807)(w:World)(hT:kP w) :
 CT 115 #[II n] w fun e w'=>∃s:ByteArray,e=.returned (.string s)/\s.size<=21/\(⟨#[32]⟩++s:ByteArray)=GH n/\aj aJ w w':=by
 refine (Ji n h0 h1 w hT).mono ?_;rintro e w' ⟨rfl,k⟩;refine⟨_,rfl,?_,rfl,k⟩;have:=Lib.itoa_length_le n h0 h1;have e:(ByteArray.mk (Lib.itoa n).toArray).size=(Lib.itoa n).length:=by show (Lib.itoa n).toArray.size=_;simp
 omega
theorem xw{P:Program}(a b:ByteArray)(h:a.size+b.size<=1000000)(W:World):(Op.stringOp .add a b).run P W=.ok (.string (a++b)) W:=run_string_add_sum W _ _ (by omega)
theorem rO(word:ByteArray)(f:Nat->Int)(sb m cap:Nat)(w:World)(hT:kP w)(hm:m<=100)(hw:word.size<=1000)
 (hc:∀i,i<m->w.cell? ⟨sb,i,none⟩=some (II (f i))) (hf:∀i,i<m->-9223372036854775808<=f i/\f i<=9223372036854775807) :
 CT 65 #[.string word,.slice (some ⟨sb,0,none⟩) m cap] w fun e w'=>e=.returned (.string (fJ f word m))/\aj aJ w w':=by
 obtain⟨HT,HC,HF⟩:=eY hT hc hf;clear hT hc hf;go_enter Tryz.func65,Tryz.ntmps65;go_wp2;go_loopg [0,6,9] m (fun k sv _ iv wr=>∃i:Nat,iv=II (i:Int)/\i<=m/\k=m-i/\sv=.string (fJ f word i)/\aj aJ w wr)
 case atStart=>exact⟨0,rfl,Nat.zero_le _,rfl,rfl,aj.refl _ _⟩
 case round =>
  obtain⟨i,rfl,hi,hgk,rfl,hc⟩:=hrel;by_cases hin:i<m
  ·have hcell:CC wr sb i (II (f i)):=hc.cell (ae HC i hin) aU;have hb:=ae HF i hin;have Zg:=au ((ae HT).aB hc);have HK:=au hc;clear hc;have hls:(fJ f word i).size<=10000:=by
    have:=jX f word i (fun j hj=>ae HF j (by omega));omega
   have HX:Hid (fJ f word (i+1)=fJ f word i++GH (f i)):=rfl;generalize hv:f i=v at *;generalize hsw:fJ f word i=sw at *;clear hv hsw;go_wp2_with (go_at_call 115;refine (Ue v hb.1 hb.2 _ (ae Zg)).mono ?_;rintro e w' ⟨s,rfl,hs1,hs2,hk⟩;have zn:=au hk;have HS2:=au hs2;clear hk hs2;have c1:=xw (P:=Tryz.prog) ⟨#[32]⟩ s (by show 1+s.size<=1000000;omega);have c2:=xw (P:=Tryz.prog) sw (⟨#[32]⟩++s) (by rw[ByteArray.size_append];show sw.size+(1+s.size)<=1000000;omega));go_roundg (m-(i+1))
   case measure=>omega
   case rel=>exact⟨i+1,by push_cast;rfl,by omega,rfl,by rw[ae HX,ae HS2],(ae HK).trans (ae zn)⟩
  ·obtain rfl:i=m:=by omega
   go_wp2;go_ret;exact⟨rfl,hc⟩
end Go.Proofs.YtigaphnafnpfnaaGreatDoor
