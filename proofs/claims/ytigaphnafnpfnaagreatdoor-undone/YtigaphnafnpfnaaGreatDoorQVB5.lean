import Derived.Test.YtigaphnafnpfnaaGreatDoorQVB4
set_option linter.unusedVariables false
set_option linter.unusedSimpArgs false
namespace Go.Proofs.YtigaphnafnpfnaaGreatDoor
open Go.RowKit
attribute [local go_sem ↓] Go.wp_at_zero Go.wp_at_succ
structure MS where
 B:Bk
 om:Nat->Ord
 lg:Lg
def MS.tr(st:MS):Int:=st.lg.tr.length
def cZ(o:Ord):iL:=⟨o.id,o.aA,o.sym,o.side,o.kind,o.af,o.aI⟩
def fU(o:Ord):Ord:={ o with aK:=0,bQ:=wrap64 (o.bQ+o.aK) }
def bz(oc s:Nat)(st:MS):MS :=
 if (st.om (st.B.h s 0)).aA=(st.om oc).aA then ⟨st.B.leave st.om s 0,aN st.om (st.B.h s 0) (fU (st.om (st.B.h s 0))),st.lg.aV [.left (st.B.h s 0),.fA (st.B.h s 0) (st.om (st.B.h s 0))]⟩
 else ⟨dO st.B st.om oc (st.B.h s 0) s,aT st.om oc (st.B.h s 0),(dh st.lg st.om oc (st.B.h s 0)).jG (iG st.B st.om oc (st.B.h s 0))⟩
def stops(oc s:Nat)(st:MS):Bool:=!decide (0<(st.om oc).aK) || (dF st.B st.om (cZ (st.om oc)) s).isNone
def aZ(oc s:Nat):Nat->MS->MS
 | 0,st=>st
 | f+1,st=>if stops oc s st then st else aZ oc s f (bz oc s st)
def mu(oc s:Nat)(st:MS):Nat:=st.B.n s+(if 0<(st.om oc).aK then 1 else 0)
def mF(oc s:Nat)(st:MS):MS:=aZ oc s (mu oc s st) st
structure qN(oc s:Nat)(st:MS):Prop where
 mem:∀k,k<st.B.n s->(st.om (st.B.h s k)).side=(s:Int)/\0<(st.om (st.B.h s k)).aK/\(st.om (st.B.h s k)).aK<=1000000000000000/\st.B.h s k≠oc
 inj:qf (st.B.n s) (st.B.h s)
 lo:0<=(st.om oc).aK
 hi:(st.om oc).aK<=1000000000000000
 side:(st.om oc).side=1-(s:Int)
theorem aS{x:Int}(h1:-9223372036854775808<=x)(h2:x<9223372036854775808):wrap64 x=x:=by
 unfold wrap64;omega
theorem mW{B:Bk}{om:Nat->Ord}{s:Nat}(hinj:qf (B.n s) (B.h s))(hn:0<B.n s):∀k,k<(B.leave om s 0).n s->∃k',k'<B.n s/\(B.leave om s 0).h s k=B.h s k'/\B.h s k'≠B.h s 0:=by
 intro k hk
 simp only[Bk.leave,aj]at hk ⊢
 have h0:qf (B.n s-1+1) (B.h s):=by rw[show B.n s-1+1=B.n s by omega];exact hinj
 obtain⟨⟨k',hk',e⟩,hne⟩:=(jB (lt:=fG om) (B.h s) 0 (n:=B.n s-1) (by omega) (h0.oP (by omega)) _).1 ⟨k,hk,rfl⟩
 exact⟨k',by omega,e,by rw[<-e];exact hne⟩
theorem CO{B:Bk}{om:Nat->Ord}{s:Nat}(hinj:qf (B.n s) (B.h s))(hn:0<B.n s):qf ((B.leave om s 0).n s) ((B.leave om s 0).h s):=by
 have h0:qf (B.n s-1+1) (B.h s):=by rw[show B.n s-1+1=B.n s by omega];exact hinj
 simp only[Bk.leave,aj]
 exact fun a b ha hb e=>(h0.oP (lt:=fG om) (i:=0) (by omega)) a b (by omega) (by omega) e
theorem ry{B:Bk}{om:Nat->Ord}{o:iL}{s b:Nat}(h:dF B om o s=some b):0<B.n s/\b=B.h s 0:=by
 unfold dF at h
 split at h
 ·simp at h
 ·split at h
  ·simp at h;exact⟨by omega,h.symm⟩
  ·simp at h
theorem nH{oc s:Nat}{st:MS}(iv:qN oc s st)(hn:0<st.B.n s)(hp:0<(st.om oc).aK):qN oc s (bz oc s st)/\mu oc s (bz oc s st)<mu oc s st/\(∀b,dC (bz oc s st).B s b->dC st.B s b):=by
 obtain⟨B,om,tr⟩:=st
 have h0:=iv.mem 0 hn
 simp only at h0 hn hp
 have Yj:=iv.mem
 have Nj:=iv.inj
 have ivl:=iv.lo
 have ivh:=iv.hi
 have ivs:=iv.side
 simp only at Yj Nj ivl ivh ivs
 obtain⟨hs0,hpos,hmax,hne⟩:=h0
 have hne':oc≠B.h s 0:=fun e=>hne e.symm
 have Gp:∀dG b,dC (B.leave dG s 0) s b->dC B s b:=by
  rintro dG b (h|⟨k,hk,e⟩)
  ·exact .inl h
  ·obtain⟨k',hk',e',_⟩:=mW (om:=dG) Nj hn k hk
   exact .inr ⟨k',hk',by rw[e,e']⟩
 have Qm:∀dG,(B.leave dG s 0).n s=B.n s-1:=fun dG=>by simp only[Bk.leave,aj]
 unfold bz
 simp only
 split
 ·have hoc:aN om (B.h s 0) (fU (om (B.h s 0))) oc=om oc:=ah _ _ hne'
  refine⟨⟨?_,CO Nj hn,by simp only[hoc];exact ivl,by simp only[hoc];exact ivh,by simp only[hoc];exact ivs⟩,?_,Gp om⟩
  ·intro k hk
   obtain⟨k',hk',e,hne0⟩:=mW (om:=om) Nj hn k hk
   simp only[e,ah _ _ hne0]
   exact Yj k' hk'
  ·unfold mu
   simp only[hoc,Qm]
   omega
 ·obtain⟨q,hq⟩:∃q,min (om oc).aK (om (B.h s 0)).aK=q:=⟨_,rfl⟩
  have hq0:0<q:=by omega
  have hq1:q<=(om oc).aK:=by omega
  have hq2:q<=(om (B.h s 0)).aK:=by omega
  have Bj:aT om oc (B.h s 0) oc=iI (om oc) q:=by unfold aT;rw[ah _ _ hne',aj,hq]
  have NW:aT om oc (B.h s 0) (B.h s 0)=iI (om (B.h s 0)) q:=by unfold aT;rw[aj,hq]
  have tot:∀x,x≠oc->x≠B.h s 0->aT om oc (B.h s 0) x=om x:=fun x h1 h2=>by unfold aT;rw[ah _ _ h2,ah _ _ h1]
  have Yn:(iI (om oc) q).aK=(om oc).aK-q:=by simp only[iI];exact aS (by omega) (by omega)
  have ow8:(iI (om (B.h s 0)) q).aK=(om (B.h s 0)).aK-q:=by simp only[iI];exact aS (by omega) (by omega)
  unfold dO
  rw[NW,ow8]
  by_cases hz:(om (B.h s 0)).aK-q=0
  ·rw[if_pos hz]
   refine⟨⟨?_,CO Nj hn,by simp only[Bj,Yn];omega,by simp only[Bj,Yn];omega,by simp only[Bj];exact ivs⟩,?_,Gp _⟩
   ·intro k hk
    obtain⟨k',hk',e,hne0⟩:=mW (om:=aT om oc (B.h s 0)) Nj hn k hk
    simp only[e]
    rw[tot _ (Yj k' hk').2.2.2 hne0]
    exact Yj k' hk'
   ·unfold mu
    simp only[Bj,Yn,Qm]
    rw[if_pos hp]
    split <;> omega
  ·rw[if_neg hz]
   refine⟨⟨?_,Nj,by simp only[Bj,Yn];omega,by simp only[Bj,Yn];omega,by simp only[Bj];exact ivs⟩,?_,fun b h=>h⟩
   ·intro k hk
    simp only
    by_cases e:k=0
    ·subst e
     rw[NW]
     refine⟨hs0,by rw[ow8];omega,by rw[ow8];omega,hne⟩
    ·have:B.h s k≠B.h s 0:=fun h=>e (Nj k 0 hk hn h)
     rw[tot _ (Yj k hk).2.2.2 this]
     exact Yj k hk
   ·unfold mu
    simp only[Bj,Yn]
    rw[if_pos hp,if_neg (by omega)]
    omega
theorem xZ{oc s f:Nat}{st:MS}(h:stops oc s st=true):aZ oc s f st=st:=by
 cases f with
 | zero=>rfl
 | succ f=>rw[aZ,if_pos h]
end Go.Proofs.YtigaphnafnpfnaaGreatDoor
