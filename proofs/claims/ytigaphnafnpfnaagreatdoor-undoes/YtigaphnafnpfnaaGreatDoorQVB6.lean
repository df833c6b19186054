import Derived.Test.YtigaphnafnpfnaaGreatDoorQVB4
set_option linter.unusedVariables false
set_option linter.unusedSimpArgs false
namespace Go.Proofs.YtigaphnafnpfnaaGreatDoor
open Go.RowKit
attribute [local go_sem ↓] Go.wp_at_zero Go.wp_at_succ
def df(o:Ord):Bool:=decide (0<o.aH) && dS o.kind
def aI(oc:Nat)(st:MS):Nat->Ord :=
 if df (st.om oc) then aK st.om oc { st.om oc with place:=wrap64 (st.B.places+1) } else aK st.om oc (fZ (st.om oc))
def dX(oc t g cap':Nat)(st:MS):Bk :=
 if df (st.om oc) then st.B.rest (aI oc st) t oc g cap' else st.B
def dm(f r c a n:Int):Value:=.agg #[II f,II r,II c,II a,II n]
def kK(o o':Ord)(tr tr':Int):Value :=
 if tr<tr' then dm (wrap64 (o'.filled-o.filled)) o'.aH (wrap64 (o'.aX-o.aX)) (wrap64 (tr+1)) (wrap64 (tr'-tr))
 else dm (wrap64 (o'.filled-o.filled)) o'.aH (wrap64 (o'.aX-o.aX)) 0 0
def bC:Array Value:=#[II 0,II 0,II 0,II 0,II 0]
theorem Mk.DL{w:World}{c:Nat}{B:Bk}{om:Nat->Ord}{a:Nat->Prop}(m:Mk w c B om a){s:Nat}(hs:s<2){b:Nat}(h:dn B s b):b<w.heap.size:=by
 rcases h with h | ⟨k,d,rfl⟩
 ·exact (m.aW.side s hs).lt h
 ·exact ((m.aW.side s hs).bg d).lt
theorem yx(x:Int):IntKind.i64.wrap x=wrap64 x:=by rw[IntKind.wrap_i64];unfold wrap64;omega
theorem DD(tmps:Array Value)(H:Nat)(w:World)(a b c d e:Int)(f:tmps.getD 6 undef=PP H)(k:au w H #[II a,II b,II c,II d,II e] 87) :
 (results Tryz.f70 tmps).run Tryz.prog w=.ok (dm a b c d e) w:=by
 obtain⟨c0,c1,g,i,j⟩:=k.c5;simp only[Array.getD_eq_getD_getElem?]at f;simp[results,Tryz.results70,go_sem,f,c0,c1,g,i,j,dm]
theorem jB(oc s:Nat):∀(b:Nat) (st:MS),(∀t,t≠s->(bu oc s b st).B.n t=st.B.n t/\(bu oc s b st).B.h t=st.B.h t)/\(bu oc s b st).B.sl=st.B.sl/\(bu oc s b st).B.cap=st.B.cap/\(bu oc s b st).B.sym=st.B.sym/\(bu oc s b st).B.places=st.B.places:=by
 intro b
 induction b with
 | zero=>intro st;exact⟨fun _ _=>⟨rfl,rfl⟩,rfl,rfl,rfl,rfl⟩
 | succ b ih =>
   intro st;rw[bu];split
   ·exact⟨fun _ _=>⟨rfl,rfl⟩,rfl,rfl,rfl,rfl⟩
   ·obtain⟨c,d,f,g,i⟩:=ih (bF oc s st);have e:(∀t,t≠s->(bF oc s st).B.n t=st.B.n t/\(bF oc s st).B.h t=st.B.h t)/\(bF oc s st).B.sl=st.B.sl/\(bF oc s st).B.cap=st.B.cap/\(bF oc s st).B.sym=st.B.sym/\(bF oc s st).B.places=st.B.places:=by
     unfold bF;split
     ·exact⟨fun t a=>⟨ag _ _ a,ag _ _ a⟩,rfl,rfl,rfl,rfl⟩
     ·simp only[dO];split
      ·exact⟨fun t a=>⟨ag _ _ a,ag _ _ a⟩,rfl,rfl,rfl,rfl⟩
      ·exact⟨fun _ _=>⟨rfl,rfl⟩,rfl,rfl,rfl,rfl⟩
    exact⟨fun t a=>⟨(c t a).1.trans (e.1 t a).1,(c t a).2.trans (e.1 t a).2⟩,d.trans e.2.1,f.trans e.2.2.1,g.trans e.2.2.2.1,i.trans e.2.2.2.2⟩
theorem Mk.rest{w w':World}{d a s g cap':Nat}{B:Bk}{om dG:Nat->Ord}{f:Nat->Prop}(m:Mk w d B om f)(hs:s<2)(y:f a)(A:∀b,b≠a->dG b=om b)(q:bM w' d (B.rest dG s a g cap') dG)(x:aj (fun b=>b=d\/b=a\/dn B s b) w w'):Mk w' d (B.rest dG s a g cap') dG f:=by
 have u:∀b,Mem (B.n s) (B.h s) b\/b=a->∃p,bV w' b (dG b) p:=by
  intro b l;obtain⟨k,c,e⟩:=(jf (lt:=fE dG) (B.h s) a b).2 l;have:=(q.side s hs).bg (i:=k) (by simp only[Bk.rest,ah];exact c);simp only[Bk.rest,ah]at this;rw[<-e]at this;exact⟨k,this⟩
 refine⟨q,fun b l=>?_,fun t v k c=>?_⟩
 ·by_cases e:b=a
  ·exact u b (.inr e)
  ·by_cases r:Mem (B.n s) (B.h s) b
   ·exact u b (.inl r)
   ·obtain⟨p,o⟩:=m.bg b l;rw[A b e];refine⟨p,x.ay o ?_⟩;rintro (rfl | h | h | h)
    ·exact au.ne o m.aW.ay (by decide) rfl
    ·exact e h
    ·exact (m.aW.side s hs).ne o (by decide) h
    ·exact r h
 ·by_cases e:t=s
  ·subst e;simp only[Bk.rest,ah]at c ⊢;rcases (jf (lt:=fE dG) (B.h t) a _).1 ⟨k,c,rfl⟩ with⟨k',z,j⟩ | j
   ·rw[j];exact m.mem t v k' z
   ·rw[j];exact y
  ·simp only[Bk.rest,ag _ _ e]at c ⊢;exact m.mem t v k c
def iO(oc:Nat)(st:MS):Lg:=st.lg.aY [if df (st.om oc) then .eQ oc (st.om oc).place else .fV oc (st.om oc)]
theorem wH(oc:Nat)(st:MS):(iO oc st).tr=st.lg.tr:=rfl
theorem Rk(oc s:Nat)(st:MS):(bF oc s st).lg.na=st.lg.na/\(bF oc s st).lg.nt.length<=st.lg.nt.length+4:=by
 unfold bF;split
 ·exact⟨rfl,by simp only[Lg.aY,List.length_append,List.length_cons,List.length_nil];omega⟩
 ·have a:=yl st.lg st.om oc (st.B.h s 0);exact⟨by simp only[Lg.lC,Lg.told,Lg.aC,Lg.aY,yj],by simp only[Lg.lC,Lg.told,Lg.aC,Lg.aY,List.length_append,List.length_cons,List.length_nil];omega⟩
theorem qM(oc s:Nat):∀(a:Nat) (st:MS),(bu oc s a st).lg.na=st.lg.na/\(bu oc s a st).lg.nt.length<=st.lg.nt.length+4 * a
 | 0,st=>⟨rfl,by simp[bu]⟩
 | a+1,st=>by
   rw[bu];split
   ·exact⟨rfl,by omega⟩
   ·have b:=qM oc s a (bF oc s st);have c:=Rk oc s st;exact⟨b.1.trans c.1,by omega⟩
def lq(w:World)(bb b:Nat)(p:Int)(lo:Nat)(fn:Fn)(cp:Array Value):Prop:=fn=.func 153/\∃H,lo<=H/\cp=#[dh H,dh (H+1),dh (H+2)]/\wE w H bb b p
theorem qB.yt{w:World}{G:Lg}{m:Lm}(h:Zu w G m){n:Nat}(b:G.tr.length=n):∃a c,m.tv=.slice a n c:=by
 rcases h.dJ.2 with⟨h,h0⟩ | ⟨g,cap,cs,h,_⟩
 ·exact⟨none,0,by rw[h,<-b,h0]⟩
 ·exact⟨_,cap,by rw[h,b]⟩
end Go.Proofs.YtigaphnafnpfnaaGreatDoor
