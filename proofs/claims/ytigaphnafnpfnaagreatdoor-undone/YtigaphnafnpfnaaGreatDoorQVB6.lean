import Derived.Test.YtigaphnafnpfnaaGreatDoorQVB5
set_option linter.unusedVariables false
set_option linter.unusedSimpArgs false
namespace Go.Proofs.YtigaphnafnpfnaaGreatDoor
open Go.RowKit
attribute [local go_sem ↓] Go.wp_at_zero Go.wp_at_succ
def dm(o:Ord):Bool:=decide (0<o.aK) && eU o.kind
def aF(oc:Nat)(st:MS):Nat->Ord :=
 if dm (st.om oc) then aN st.om oc { st.om oc with place:=wrap64 (st.B.places+1) } else aN st.om oc (fU (st.om oc))
def dV(oc t g cap':Nat)(st:MS):Bk :=
 if dm (st.om oc) then st.B.rest (aF oc st) t oc g cap' else st.B
def lq(f r c a n:Int):Value:=.agg #[.int .i64 f,.int .i64 r,.int .i64 c,.int .i64 a,.int .i64 n]
def jE(o o':Ord)(tr tr':Int):Value :=
 if tr<tr' then lq (wrap64 (o'.filled-o.filled)) o'.aK (wrap64 (o'.bQ-o.bQ)) (wrap64 (tr+1)) (wrap64 (tr'-tr))
 else lq (wrap64 (o'.filled-o.filled)) o'.aK (wrap64 (o'.bQ-o.bQ)) 0 0
def kP:Array Value:=#[.int .i64 0,.int .i64 0,.int .i64 0,.int .i64 0,.int .i64 0]
theorem Mk.Dn{w:World}{bb:Nat}{B:Bk}{om:Nat->Ord}{L:Nat->Prop}(m:Mk w bb B om L){s:Nat}(hs:s<2){b:Nat}(h:dC B s b):b<w.heap.size:=by
 rcases h with h|⟨k,hk,rfl⟩
 ·exact (m.aW.side s hs).lt h
 ·exact ((m.aW.side s hs).bg hk).lt
theorem xM(x:Int):IntKind.i64.wrap x=wrap64 x:=by rw[IntKind.wrap_i64];unfold wrap64;omega
theorem Dk(tmps:Array Value)(H:Nat)(w:World)(a b c d e:Int)(ht:tmps.getD 6 undef=.pointer (some ⟨H,0,none⟩))(hb:az w H #[.int .i64 a,.int .i64 b,.int .i64 c,.int .i64 d,.int .i64 e] 87) :
 (results Tryz.f70 tmps).run Tryz.prog w=.ok (lq a b c d e) w:=by
 have c0:w.cell? ⟨H,0,none⟩=some (.int .i64 a):=hb.cell 0
 have c1:w.cell? ⟨H,1,none⟩=some (.int .i64 b):=hb.cell 1
 have c2:w.cell? ⟨H,2,none⟩=some (.int .i64 c):=hb.cell 2
 have c3:w.cell? ⟨H,3,none⟩=some (.int .i64 d):=hb.cell 3
 have c4:w.cell? ⟨H,4,none⟩=some (.int .i64 e):=hb.cell 4
 simp only[Array.getD_eq_getD_getElem?]at ht
 simp[results,Tryz.results70,go_sem,ht,c0,c1,c2,c3,c4,lq]
theorem jd(oc s:Nat):∀(f:Nat) (st:MS),(∀t,t≠s->(aZ oc s f st).B.n t=st.B.n t/\(aZ oc s f st).B.h t=st.B.h t)/\(aZ oc s f st).B.sl=st.B.sl/\(aZ oc s f st).B.cap=st.B.cap/\(aZ oc s f st).B.sym=st.B.sym/\(aZ oc s f st).B.places=st.B.places:=by
 intro f
 induction f with
 | zero=>intro st;exact⟨fun _ _=>⟨rfl,rfl⟩,rfl,rfl,rfl,rfl⟩
 | succ f ih =>
   intro st
   rw[aZ]
   split
   ·exact⟨fun _ _=>⟨rfl,rfl⟩,rfl,rfl,rfl,rfl⟩
   ·obtain⟨h1,h2,h3,h4,h5⟩:=ih (bz oc s st)
    have e:(∀t,t≠s->(bz oc s st).B.n t=st.B.n t/\(bz oc s st).B.h t=st.B.h t)/\(bz oc s st).B.sl=st.B.sl/\(bz oc s st).B.cap=st.B.cap/\(bz oc s st).B.sym=st.B.sym/\(bz oc s st).B.places=st.B.places:=by
     unfold bz
     split
     ·exact⟨fun t ht=>⟨ah _ _ ht,ah _ _ ht⟩,rfl,rfl,rfl,rfl⟩
     ·simp only[dO]
      split
      ·exact⟨fun t ht=>⟨ah _ _ ht,ah _ _ ht⟩,rfl,rfl,rfl,rfl⟩
      ·exact⟨fun _ _=>⟨rfl,rfl⟩,rfl,rfl,rfl,rfl⟩
    exact⟨fun t ht=>⟨(h1 t ht).1.trans (e.1 t ht).1,(h1 t ht).2.trans (e.1 t ht).2⟩,h2.trans e.2.1,h3.trans e.2.2.1,h4.trans e.2.2.2.1,h5.trans e.2.2.2.2⟩
theorem Mk.rest{w w':World}{bb ob s g cap':Nat}{B:Bk}{om dG:Nat->Ord}{L:Nat->Prop}(m:Mk w bb B om L)(hs:s<2)(hL:L ob)(jk:∀b,b≠ob->dG b=om b)(h1:bU w' bb (B.rest dG s ob g cap') dG)(h3:au (fun b=>b=bb\/b=ob\/dC B s b) w w'):Mk w' bb (B.rest dG s ob g cap') dG L:=by
 have hmem:∀b,Mem (B.n s) (B.h s) b\/b=ob->∃ix,df w' b (dG b) ix:=by
  intro b hb
  obtain⟨k,hk,e⟩:=(iP (lt:=fG dG) (B.h s) ob b).2 hb
  have:=(h1.side s hs).bg (i:=k) (by simp only[Bk.rest,aj];exact hk)
  simp only[Bk.rest,aj]at this
  rw[<-e]at this
  exact⟨k,this⟩
 refine⟨h1,fun b hb=>?_,fun t ht k hk=>?_⟩
 ·by_cases e:b=ob
  ·exact hmem b (.inr e)
  ·by_cases hm:Mem (B.n s) (B.h s) b
   ·exact hmem b (.inl hm)
   ·obtain⟨ix,ho⟩:=m.bg b hb
    rw[jk b e]
    refine⟨ix,h3.aB ho ?_⟩
    rintro (rfl|h|h|h)
    ·exact az.ne ho m.aW.aB (by decide) rfl
    ·exact e h
    ·exact (m.aW.side s hs).ne ho (by decide) h
    ·exact hm h
 ·by_cases e:t=s
  ·subst e
   simp only[Bk.rest,aj]at hk ⊢
   rcases (iP (lt:=fG dG) (B.h t) ob _).1 ⟨k,hk,rfl⟩ with⟨k',hk',e'⟩|e'
   ·rw[e'];exact m.mem t ht k' hk'
   ·rw[e'];exact hL
  ·simp only[Bk.rest,ah _ _ e]at hk ⊢
   exact m.mem t ht k hk
def gJ(oc:Nat)(st:MS):Lg:=st.lg.aV [if dm (st.om oc) then .eQ oc (st.om oc).place else .fA oc (st.om oc)]
theorem qZ(oc:Nat)(st:MS):(gJ oc st).tr=st.lg.tr:=rfl
theorem Qv(oc s:Nat)(st:MS):(bz oc s st).lg.na=st.lg.na/\(bz oc s st).lg.nt.length<=st.lg.nt.length+4:=by
 unfold bz
 split
 ·exact⟨rfl,by simp only[Lg.aV,List.length_append,List.length_cons,List.length_nil];omega⟩
 ·have g4:=xH st.lg st.om oc (st.B.h s 0)
  exact⟨by simp only[Lg.jG,Lg.told,Lg.aC,Lg.aV,xG],by simp only[Lg.jG,Lg.told,Lg.aC,Lg.aV,List.length_append,List.length_cons,List.length_nil];omega⟩
theorem pI(oc s:Nat):∀(f:Nat) (st:MS),(aZ oc s f st).lg.na=st.lg.na/\(aZ oc s f st).lg.nt.length<=st.lg.nt.length+4 * f
 | 0,st=>⟨rfl,by simp[aZ]⟩
 | f+1,st=>by
   rw[aZ]
   split
   ·exact⟨rfl,by omega⟩
   ·have h1:=pI oc s f (bz oc s st)
    have h2:=Qv oc s st
    exact⟨h1.1.trans h2.1,by omega⟩
def jU(w:World)(bb b:Nat)(p:Int)(lo:Nat)(fn:Fn)(cp:Array Value):Prop:=fn=.func 153/\∃H,lo<=H/\cp=#[dn H,dn (H+1),dn (H+2)]/\uZ w H bb b p
theorem oZ.xJ{w:World}{G:Lg}{m:Lm}(h:YX w G m){n:Nat}(hn:G.tr.length=n):∃a c,m.tv=.slice a n c:=by
 rcases h.jq.2 with⟨h,h0⟩|⟨g,cap,cs,h,_⟩
 ·exact⟨none,0,by rw[h,<-hn,h0]⟩
 ·exact⟨_,cap,by rw[h,hn]⟩
end Go.Proofs.YtigaphnafnpfnaaGreatDoor
