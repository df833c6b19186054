import Derived.Test.YtigaphnafnpfnaaGreatDoorQVL3
set_option linter.unusedVariables false
set_option linter.unusedSimpArgs false
namespace Go.Proofs.YtigaphnafnpfnaaGreatDoor
open Go.RowKit
attribute [local go_sem ↓] Go.wp_at_zero Go.wp_at_succ
def qf(N:Nat)(h:Nat->Nat):Prop:=∀a b,a<N->b<N->h a=h b->a=b
theorem qf.swap{N:Nat}{h:Nat->Nat}(hi:qf N h){i j:Nat}(h1:i<N)(h2:j<N):qf N (sw h i j):=by
 intro a b ha hb e
 have key:∀c,c<N->∃d,d<N/\sw h i j c=h d/\(c=i->d=j)/\(c≠i->c=j->d=i)/\(c≠i->c≠j->d=c):=by
  intro c hc
  by_cases e1:c=i
  ·subst e1;exact⟨j,h2,EO _ _ _,fun _=>rfl,fun h=>absurd rfl h,fun h=>absurd rfl h⟩
  ·by_cases e2:c=j
   ·subst e2;exact⟨i,h1,J8 _ _ _,fun h=>absurd h e1,fun _ _=>rfl,fun _ h=>absurd rfl h⟩
   ·exact⟨c,hc,jC e1 e2,fun h=>absurd h e1,fun _ h=>absurd h e2,fun _ _=>rfl⟩
 obtain⟨d,hd,ed,d1,d2,d3⟩:=key a ha
 obtain⟨d',hd',ed',d1',d2',d3'⟩:=key b hb
 rw[ed,ed']at e
 have:=hi d d' hd hd' e
 by_cases a1:a=i <;> by_cases a2:a=j <;> by_cases b1:b=i <;> by_cases b2:b=j <;> simp_all <;> omega
theorem qf.up{lt:Nat->Nat->Bool}{N:Nat}{h:Nat->Nat}{j:Nat}(hi:qf N h)(hj:j<N):qf N (tV lt h j):=by
 fun_induction tV lt h j with
 | case1=>exact hi
 | case3=>exact hi
 | case2 h j hj0 hl ih=>exact ih (hi.swap (by omega) hj) (by omega)
theorem qf.down{lt:Nat->Nat->Bool}{n N:Nat}{h:Nat->Nat}{i:Nat}(hi:qf N h)(hN:n<=N):qf N (dW lt n h i).1:=by
 fun_induction dW lt n h i with
 | case1 h i hn _ hl ih =>
   have:=pg lt n h i hn
   exact ih (hi.swap (by omega) (by omega))
 | case2=>exact hi
 | case3=>exact hi
theorem qf.oP{lt:Nat->Nat->Bool}{n:Nat}{h:Nat->Nat}{i:Nat}(hi:qf (n+1) h)(hin:i<=n):qf (n+1) (dZ lt h n i):=by
 unfold dZ
 split
 ·exact hi
 ·split
  ·exact (hi.swap (by omega) (by omega)).down (by omega)
  ·exact ((hi.swap (by omega) (by omega)).down (by omega)).up (by omega)
theorem iU.inj{w:World}{s:Option Addr}{n cap:Nat}{h:Nat->Nat}{om:Nat->Ord}(hs:iU w s n cap h om):qf n h:=by
 intro a b ha hb e
 rcases hs with⟨_,rfl,_⟩|⟨ab,_,hs⟩
 ·omega
 ·exact hs.inj ha hb e
structure Mk(w:World)(bb:Nat)(B:Bk)(om:Nat->Ord)(L:Nat->Prop):Prop where
 aW:bU w bb B om
 bg:∀b,L b->∃ix,df w b (om b) ix
 mem:∀s,s<2->∀k,k<B.n s->L (B.h s k)
theorem Mk.leave{w w':World}{bb:Nat}{B:Bk}{om:Nat->Ord}{L:Nat->Prop}(m:Mk w bb B om L){s i:Nat}(hs:s<2)(hi:i<B.n s)(h1:bU w' bb (B.leave om s i) om)(h2:∃ix,df w' (B.h s i) (om (B.h s i)) ix)(h3:au (fun b=>b=bb\/dC B s b) w w'):Mk w' bb (B.leave om s i) om L:=by
 have hinj:∀a b,a<(B.n s-1)+1->b<(B.n s-1)+1->dZ (fG om) (B.h s) (B.n s-1) i a=dZ (fG om) (B.h s) (B.n s-1) i b->a=b:=by
  have h0:qf (B.n s-1+1) (B.h s):=by rw[show B.n s-1+1=B.n s by omega];exact (m.aW.side s hs).inj
  exact h0.oP (by omega)
 refine⟨h1,fun b hb=>?_,fun t ht k hk=>?_⟩
 ·by_cases e:b=B.h s i
  ·rw[e];exact h2
  ·obtain⟨ix,ho⟩:=m.bg b hb
   by_cases hm:Mem (B.n s) (B.h s) b
   ·have hm':Mem (B.n s-1+1) (B.h s) b:=by rw[show B.n s-1+1=B.n s by omega];exact hm
    obtain⟨k,hk,e'⟩:=(jB (lt:=fG om) (B.h s) i (by omega) hinj b).2 ⟨hm',e⟩
    have:=(h1.side s hs).bg (i:=k) (by simp only[Bk.leave,aj];exact hk)
    simp only[Bk.leave,aj]at this
    rw[<-e']at this
    exact⟨k,this⟩
   ·refine⟨ix,h3.aB ho ?_⟩
    rintro (rfl|h|h)
    ·exact az.ne ho m.aW.aB (by decide) rfl
    ·exact (m.aW.side s hs).ne ho (by decide) h
    ·exact hm h
 ·by_cases e:t=s
  ·subst e
   simp only[Bk.leave,aj]at hk ⊢
   obtain⟨k',hk',e'⟩:=(nZ (lt:=fG om) (B.h t) i (n:=B.n t-1) (by omega) _).1 ⟨k,by omega,rfl⟩
   rw[e']
   exact m.mem t ht k' (by omega)
  ·simp only[Bk.leave,ah _ _ e]at hk ⊢
   exact m.mem t ht k hk
theorem Mk.aN{w w':World}{bb:Nat}{B:Bk}{om:Nat->Ord}{L:Nat->Prop}(m:Mk w bb B om L){b:Nat}{o':Ord}{ix:Int}(ho:df w b (om b) ix)(k:au (fun x=>x=b) w w')(ho':df w' b o' ix):Mk w' bb B (aN om b o') L:=by
 refine⟨m.aW.aN ho k ho',fun x hx=>?_,m.mem⟩
 by_cases e:x=b
 ·subst e;rw[aj];exact⟨ix,ho'⟩
 ·rw[ah _ _ e]
  obtain⟨iy,hy⟩:=m.bg x hx
  exact⟨iy,k.aB hy e⟩
theorem Mk.aC{w w':World}{bb:Nat}{B:Bk}{om:Nat->Ord}{L:Nat->Prop}(m:Mk w bb B om L){S:Nat->Prop}(k:au S w w')(h1:¬S bb)(h2:∀b,L b->¬S b)(h3:∀s,s<2->∀b,gG (B.sl s)=some b->¬S b):Mk w' bb B om L :=
 ⟨m.aW.aC k (fun b hb=>by
  rcases hb with rfl|⟨s,hs,h|⟨j,hj,rfl⟩⟩
  ·exact h1
  ·exact h3 s hs b h
  ·exact h2 _ (m.mem s hs j hj)),fun b hb=>by obtain⟨ix,ho⟩:=m.bg b hb;exact⟨ix,k.aB ho (h2 b hb)⟩,m.mem⟩
def jr(w:World)(b:Nat)(o:Ord)(lo:Nat)(fn:Fn)(cp:Array Value):Prop:=fn=.func 151/\∃H,lo<=H/\cp=#[dn (H+1),dn H]/\wQ w H b o
def iZ(w:World)(bb b lo:Nat)(fn:Fn)(cp:Array Value):Prop:=fn=.func 117/\∃H,lo<=H/\cp=#[dn H,dn (H+1)]/\uY w H bb b
theorem pF(bb:Nat)(B:Bk)(om:Nat->Ord)(L:Nat->Prop)(s i:Nat)(w:World)(m:Mk w bb B om L)(hs:s<2)(hi:i<B.n s)(hside:(om (B.h s i)).side=(s:Int)) :
 Calls Tryz.prog 66 #[.pointer (some ⟨bb,0,none⟩),.pointer (some ⟨B.h s i,0,none⟩)] w fun e w'=>∃fn cp,e=.returned (.func fn #[] cp)/\iZ w' bb (B.h s i) w.heap.size fn cp/\Mk w' bb (B.leave om s i) om L/\au (fun b=>b=bb\/dC B s b) w w':=by
 refine (Nr bb B om s i w m.aW hs hi hside).mono ?_
 rintro e w' ⟨rfl,h0,h1,h2,h3⟩
 exact⟨_,_,rfl,⟨rfl,_,Nat.le_refl _,rfl,h0⟩,m.leave hs hi h1 h2 h3,h3⟩
theorem KL(bb b:Nat)(B:Bk)(om:Nat->Ord)(L:Nat->Prop)(q:Int)(w:World)(m:Mk w bb B om L)(hb:L b) :
 Calls Tryz.prog 177 #[.pointer (some ⟨b,0,none⟩),.int .i64 q] w fun e w'=>∃fn cp,e=.returned (.func fn #[] cp)/\jr w' b (om b) w.heap.size fn cp/\Mk w' bb B (aN om b { om b with aK:=wrap64 ((om b).aK-q),filled:=wrap64 ((om b).filled+q) }) L/\au (fun x=>x=b) w w':=by
 obtain⟨ix,ho⟩:=m.bg b hb
 refine (Pv b (om b) ix q w ho).mono ?_
 rintro e w' ⟨rfl,h0,h1,h2⟩
 exact⟨_,_,rfl,⟨rfl,_,Nat.le_refl _,rfl,h0⟩,m.aN ho h2 h1,h2⟩
theorem lF(bb b:Nat)(B:Bk)(om:Nat->Ord)(L:Nat->Prop)(w:World)(m:Mk w bb B om L)(hb:L b) :
 Calls Tryz.prog 67 #[.pointer (some ⟨b,0,none⟩)] w fun e w'=>∃fn cp,e=.returned (.func fn #[] cp)/\jr w' b (om b) w.heap.size fn cp/\Mk w' bb B (aN om b { om b with aK:=0,bQ:=wrap64 ((om b).bQ+(om b).aK) }) L/\au (fun x=>x=b) w w':=by
 obtain⟨ix,ho⟩:=m.bg b hb
 refine (zi b (om b) ix w ho).mono ?_
 rintro e w' ⟨rfl,h0,h1,h2⟩
 exact⟨_,_,rfl,⟨rfl,_,Nat.le_refl _,rfl,h0⟩,m.aN ho h2 h1,h2⟩
def iI(o:Ord)(q:Int):Ord:={ o with aK:=wrap64 (o.aK-q),filled:=wrap64 (o.filled+q) }
def aT(om:Nat->Ord)(oc ow:Nat):Nat->Ord :=
 let q:=min (om oc).aK (om ow).aK
 aN (aN om oc (iI (om oc) q)) ow (iI (om ow) q)
def dO(B:Bk)(om:Nat->Ord)(oc ow s:Nat):Bk:=if (aT om oc ow ow).aK=0 then B.leave (aT om oc ow) s 0 else B
def iG(B:Bk)(om:Nat->Ord)(oc ow:Nat):Tr :=
 { num:=0,sym:=B.sym,af:=(om ow).af,aI:=min (om oc).aK (om ow).aK,kZ:=if (om oc).side=1 then (om ow).id else (om oc).id,fM:=if (om oc).side=1 then (om oc).id else (om ow).id,day:=0 }
theorem Mk.jc{w w':World}{bb bv bm bo:Nat}{B:Bk}{om:Nat->Ord}{L:Nat->Prop}{G:Lg}{lm:Lm}(m:Mk w bb B om L)(hl:bu w bv bm bo G lm)(k:au (fun b=>b=bv\/lm.F b) w w'):Mk w' bb B om L:=by
 have no:∀{b c t},az w b c t->t≠100->t≠103->t≠62->t≠105->t≠109->t≠1/\t≠5->¬(b=bv\/lm.F b):=by
  rintro b c t hb h0 h1 h2 h3 h4 h5 (e|e)
  ·exact az.ne hb hl.dA h0 e
  ·exact hl.aO.ne hb h1 h2 h3 h4 h5 e
 refine m.aC k (no m.aW.aB (by decide) (by decide) (by decide) (by decide) (by decide) (by decide)) (fun b hb=>?_) (fun s hs b hb=>?_)
 ·obtain⟨ix,ho⟩:=m.bg b hb
  exact no ho (by decide) (by decide) (by decide) (by decide) (by decide) (by decide)
 ·rcases m.aW.side s hs with⟨h0,_⟩|⟨ab,hab,hsd⟩
  ·rw[h0]at hb;simp[gG]at hb
  ·obtain⟨cs,hcs,_⟩:=hsd.oH
   rw[hab]at hb
   simp[gG]at hb
   rw[<-hb]
   exact no hcs (by decide) (by decide) (by decide) (by decide) (by decide) (by decide)
theorem fP.jg{w w':World}{bv bm bo:Nat}{G:Lg}{m:Lm}(h:bu w bv bm bo G m){S:Nat->Prop}(k:au S w w')(hS:∀b,S b->∃c t,az w b c t/\(t=158\/t=116\/t=114)):bu w' bv bm bo G m:=by
 refine h.aC k (fun hb=>?_) (fun b hf hb=>?_)
 ·obtain⟨c,t,hc,ht⟩:=hS bv hb
  exact az.ne h.dA hc (by rcases ht with rfl|rfl|rfl <;> decide) rfl
 ·obtain⟨c,t,hc,ht⟩:=hS b hb
  exact h.aO.ne hc (by rcases ht with rfl|rfl|rfl <;> decide) (by rcases ht with rfl|rfl|rfl <;> decide) (by rcases ht with rfl|rfl|rfl <;> decide) (by rcases ht with rfl|rfl|rfl <;> decide) (by rcases ht with rfl|rfl|rfl <;> decide) hf
theorem Mk.fZ{w:World}{bb:Nat}{B:Bk}{om:Nat->Ord}{L:Nat->Prop}(m:Mk w bb B om L){b:Nat}(h:b=bb\/L b\/∃s,s<2/\dC B s b):∃c t,az w b c t/\(t=158\/t=116\/t=114):=by
 rcases h with rfl|h|⟨s,hs,h|⟨k,hk,rfl⟩⟩
 ·exact⟨_,158,m.aW.aB,.inl rfl⟩
 ·obtain⟨ix,ho⟩:=m.bg b h
  exact⟨_,116,ho,.inr (.inl rfl)⟩
 ·rcases m.aW.side s hs with⟨h0,_⟩|⟨ab,hab,hsd⟩
  ·rw[h0]at h;simp[gG]at h
  ·obtain⟨cs,hcs,_⟩:=hsd.oH
   rw[hab]at h
   simp[gG]at h
   rw[<-h]
   exact⟨_,114,hcs,.inr (.inr rfl)⟩
 ·exact⟨_,116,(m.aW.side s hs).bg hk,.inr (.inl rfl)⟩
def dh(G:Lg)(om:Nat->Ord)(oc ow:Nat):Lg:=if (aT om oc ow ow).aK=0 then (G.aV [.fA oc (om oc),.fA ow (om ow)]).aV [.left ow] else G.aV [.fA oc (om oc),.fA ow (om ow)]
theorem gu(G:Lg)(om:Nat->Ord)(oc ow:Nat):(dh G om oc ow).tr=G.tr:=by unfold dh;split <;> rfl
theorem mX(G:Lg)(om:Nat->Ord)(oc ow:Nat):(dh G om oc ow).tp=G.tp:=by unfold dh;split <;> rfl
theorem qC(G:Lg)(om:Nat->Ord)(oc ow:Nat):(dh G om oc ow).day=G.day:=by unfold dh;split <;> rfl
theorem xG(G:Lg)(om:Nat->Ord)(oc ow:Nat):(dh G om oc ow).na=G.na:=by unfold dh;split <;> rfl
theorem xH(G:Lg)(om:Nat->Ord)(oc ow:Nat):(dh G om oc ow).nt.length<=G.nt.length+3:=by
 unfold dh
 split
 ·simp only[Lg.aV,List.length_append,List.length_cons,List.length_nil];omega
 ·simp only[Lg.aV,List.length_append,List.length_cons,List.length_nil];omega
end Go.Proofs.YtigaphnafnpfnaaGreatDoor
