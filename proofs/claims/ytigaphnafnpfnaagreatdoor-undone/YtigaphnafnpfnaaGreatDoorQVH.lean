import Derived.Test.YtigaphnafnpfnaaGreatDoorQVA5
import Derived.Lib.MinMax
import Derived.Deep.RegionLaw
import Derived.Shelf.Small.Bits
import Derived.Shelf.SlSortCmp.Kit1
import Derived.Shelf.GgSortFunc.Compose
import Derived.Shelf.SlSortCmp.Whole1
set_option linter.unusedVariables false
set_option linter.unusedSimpArgs false
set_option maxHeartbeats 8000000
set_option maxRecDepth 100000
namespace Go.Proofs.YtigaphnafnpfnaaGreatDoor
structure Tj(lt:Nat->Nat->Bool)(P:Nat->Prop):Prop where
 Tu:∀x y,P x->P y->lt x y=true->lt y x=false
 trans:∀x y z,P x->P y->P z->lt y x=false->lt z y=false->lt z x=false
 irr:∀x,P x->lt x x=false
def par(k:Nat):Nat:=(k-1) / 2
def dX(lt:Nat->Nat->Bool)(n:Nat)(h:Nat->Nat):Prop:=∀k,0<k->k<n->lt (h k) (h (par k))=false
theorem Aj{lt:Nat->Nat->Bool}{P:Nat->Prop}(pre:Tj lt P){n:Nat}{h:Nat->Nat}(ok:dX lt n h)(hP:∀k,k<n->P (h k)):∀k,k<n->lt (h k) (h 0)=false:=by
 intro k
 induction k using Nat.strongRecOn with
 | _ k ih =>
   intro hk
   by_cases h0:k=0
   ·subst h0;exact pre.irr _ (hP 0 hk)
   ·have hp:par k<k:=by unfold par;omega
    exact pre.trans (h 0) (h (par k)) (h k) (hP 0 (by omega)) (hP _ (by omega)) (hP k hk) (ih (par k) hp (by omega)) (ok k (by omega) hk)
def Yw(lt:Nat->Nat->Bool)(n:Nat)(h:Nat->Nat)(j:Nat):Prop :=
 (∀k,0<k->k<n->k≠j->lt (h k) (h (par k))=false)/\(∀c,0<c->c<n->par c=j->0<j->lt (h c) (h (par j))=false)
theorem EO(h:Nat->Nat)(i j:Nat):sw h i j i=h j:=by unfold sw;rw[if_pos rfl]
theorem J8(h:Nat->Nat)(i j:Nat):sw h i j j=h i:=by
 unfold sw
 split
 ·rename_i e;rw[e]
 ·rw[if_pos rfl]
theorem X0{P:Nat->Prop}{n:Nat}{h:Nat->Nat}(hP:∀k,k<n->P (h k)){i j:Nat}(hi:i<n)(hj:j<n):∀k,k<n->P (sw h i j k):=by
 intro k hk
 unfold sw
 split
 ·exact hP j hj
 ·split
  ·exact hP i hi
  ·exact hP k hk
theorem RU{lt:Nat->Nat->Bool}{P:Nat->Prop}(pre:Tj lt P){n:Nat}(h:Nat->Nat)(j:Nat)(hP:∀k,k<n->P (h k))(hj:j<n)(ex:Yw lt n h j):dX lt n (tV lt h j):=by
 fun_induction tV lt h j with
 | case1 h=>exact fun k h0 hk=>ex.1 k h0 hk (by omega)
 | case3 h j hj0 hl =>
   intro k h0 hk
   by_cases e:k=j
   ·subst e;simpa [par] using hl
   ·exact ex.1 k h0 hk e
 | case2 h j hj0 hl ih =>
   have hp:(j-1) / 2<j:=by omega
   have Oq:par j=(j-1) / 2:=rfl
   have hlt:=pre.Tu _ _ (hP j hj) (hP _ (by omega)) hl
   refine ih (X0 hP (by omega) hj) (by omega) ⟨?_,?_⟩
   ·intro k h0 hk hne
    by_cases e1:k=j
    ·subst e1
     rw[Oq,J8,EO]
     exact hlt
    ·rw[jC hne e1]
     by_cases e2:par k=(j-1) / 2
     ·rw[e2,EO]
      have:=ex.1 k h0 hk e1
      rw[e2]at this
      exact pre.trans _ _ _ (hP j hj) (hP _ (by omega)) (hP k hk) hlt this
     ·by_cases e3:par k=j
      ·rw[e3,J8]
       exact ex.2 k h0 hk e3 (by omega)
      ·rw[jC e2 e3]
       exact ex.1 k h0 hk e1
   ·intro c h0 hc hpc hp0
    have hpp:par ((j-1) / 2)<(j-1) / 2:=by unfold par;omega
    rw[jC (k:=par ((j-1) / 2)) (by omega) (by omega)]
    have h1:lt (h ((j-1) / 2)) (h (par ((j-1) / 2)))=false:=ex.1 _ hp0 (by omega) (by omega)
    by_cases e1:c=j
    ·subst e1
     rw[J8]
     exact h1
    ·have e2:c≠(j-1) / 2:=by unfold par at hpc;omega
     rw[jC e2 e1]
     have h2:=ex.1 c h0 hc e1
     rw[hpc]at h2
     exact pre.trans _ _ _ (hP _ (by omega)) (hP _ (by omega)) (hP c hc) h1 h2
def OC(lt:Nat->Nat->Bool)(n:Nat)(h:Nat->Nat)(i:Nat):Prop :=
 (∀k,0<k->k<n->k≠i->par k≠i->lt (h k) (h (par k))=false)/\(∀c,0<c->c<n->par c=i->0<i->lt (h c) (h (par i))=false)
theorem Ec{lt:Nat->Nat->Bool}{P:Nat->Prop}(pre:Tj lt P){n:Nat}{h:Nat->Nat}(hP:∀k,k<n->P (h k)){i:Nat}(hn:2 * i+1<n){c:Nat}(h0:0<c)(hc:c<n)(hpc:par c=i):lt (h c) (h (uJ lt n h i))=false:=by
 have:c=2 * i+1\/c=2 * i+2:=by unfold par at hpc;omega
 unfold uJ
 split
 ·rename_i hh
  rcases this with rfl|rfl
  ·exact pre.Tu _ _ (hP _ hh.1) (hP _ hc) hh.2
  ·exact pre.irr _ (hP _ hc)
 ·rename_i hh
  rcases this with rfl|rfl
  ·exact pre.irr _ (hP _ hc)
  ·by_cases e:lt (h (2 * i+2)) (h (2 * i+1))=true
   ·exact absurd ⟨hc,e⟩ hh
   ·simpa using e
theorem Ug(lt:Nat->Nat->Bool)(n:Nat)(h:Nat->Nat)(i:Nat):par (uJ lt n h i)=i:=by
 unfold par uJ;split <;> omega
theorem Cf{lt:Nat->Nat->Bool}{P:Nat->Prop}(pre:Tj lt P){n:Nat}{h:Nat->Nat}{i:Nat}(hP:∀k,k<n->P (h k))(hn:2 * i+1<n)(ex:OC lt n h i)(hl:lt (h (uJ lt n h i)) (h i)=true) :
 (∀k,0<k->k<n->par k≠uJ lt n h i->lt (sw h i (uJ lt n h i) k) (sw h i (uJ lt n h i) (par k))=false)/\OC lt n (sw h i (uJ lt n h i)) (uJ lt n h i):=by
 have hb:=pg lt n h i hn
 have hkp:=Ug lt n h i
 have hmin:=fun {c:Nat}=>Ec pre (h:=h) hP hn (c:=c)
 generalize uJ lt n h i=d at *
 have hlt:=pre.Tu _ _ (hP d hb.2) (hP i (by omega)) hl
 have key:∀k,0<k->k<n->par k≠d->lt (sw h i d k) (sw h i d (par k))=false:=by
  intro k h0 hk hne
  have hpk:par k<k:=by unfold par;omega
  by_cases e1:k=i
  ·subst e1
   rw[EO,jC (by omega) hne]
   exact ex.2 d (by omega) hb.2 hkp h0
  ·by_cases e2:k=d
   ·subst e2
    rw[J8,hkp,EO]
    exact hlt
   ·rw[jC e1 e2]
    by_cases e3:par k=i
    ·rw[e3,EO]
     exact hmin h0 hk e3
    ·rw[jC e3 hne]
     exact ex.1 k h0 hk e1 e3
 refine⟨key,fun k h0 hk _ hne=>key k h0 hk hne,?_⟩
 intro c h0 hc hpc _
 rw[hkp,EO]
 have hpk:par c<c:=by unfold par;omega
 rw[jC (by omega) (by omega)]
 have:=ex.1 c h0 hc (by omega) (by omega)
 rw[hpc]at this
 exact this
theorem TE{lt:Nat->Nat->Bool}{P:Nat->Prop}(pre:Tj lt P){n:Nat}(h:Nat->Nat)(i:Nat)(hP:∀k,k<n->P (h k))(ex:OC lt n h i)(all:∀k,0<k->k<n->par k≠i->lt (h k) (h (par k))=false):dX lt n (dW lt n h i).1:=by
 fun_induction dW lt n h i with
 | case1 h i hn _ hl ih =>
   have hb:=pg lt n h i hn
   obtain⟨h1,h2⟩:=Cf pre hP hn ex hl
   exact ih (X0 hP (by omega) hb.2) h2 h1
 | case2 h i hn _ hl =>
   intro k h0 hk
   by_cases e:par k=i
   ·have:=Ec pre hP hn h0 hk e
    have hb:=pg lt n h i hn
    rw[e]
    exact pre.trans _ _ _ (hP i (by omega)) (hP _ hb.2) (hP k hk) (by simpa using hl) this
   ·exact all k h0 hk e
 | case3 h i hn =>
   intro k h0 hk
   exact all k h0 hk (by unfold par;omega)
theorem xR{lt:Nat->Nat->Bool}{P:Nat->Prop}(pre:Tj lt P){n:Nat}(h:Nat->Nat)(i:Nat)(hP:∀k,k<n->P (h k))(ex:OC lt n h i) :
 dX lt n (dW lt n h i).1\/(dW lt n h i=(h,i)/\Yw lt n h i):=by
 by_cases hn:2 * i+1<n
 ·cases hl:lt (h (uJ lt n h i)) (h i)
  ·right
   refine⟨ny hn hl,?_,ex.2⟩
   intro k h0 hk hne
   by_cases e:par k=i
   ·have:=Ec pre hP hn h0 hk e
    have hb:=pg lt n h i hn
    rw[e]
    exact pre.trans _ _ _ (hP i (by omega)) (hP _ hb.2) (hP k hk) hl this
   ·exact ex.1 k h0 hk hne e
  ·left
   have hb:=pg lt n h i hn
   obtain⟨h1,h2⟩:=Cf pre hP hn ex hl
   rw[ru hn hl]
   exact TE pre _ _ (X0 hP (by omega) hb.2) h2 h1
 ·right
  refine⟨sD hn,?_,ex.2⟩
  intro k h0 hk hne
  exact ex.1 k h0 hk hne (by unfold par;omega)
theorem Pn{lt:Nat->Nat->Bool}{n:Nat}(h:Nat->Nat)(i:Nat):i<=(dW lt n h i).2:=by
 fun_induction dW lt n h i with
 | case1 h i hn _ hl ih=>have:=pg lt n h i hn;omega
 | case2=>exact Nat.le_refl _
 | case3=>exact Nat.le_refl _
theorem Pm{lt:Nat->Nat->Bool}{n:Nat}(h:Nat->Nat)(i:Nat)(he:¬i<(dW lt n h i).2):dW lt n h i=(h,i):=by
 by_cases hn:2 * i+1<n
 ·cases hl:lt (h (uJ lt n h i)) (h i)
  ·exact ny hn hl
  ·exfalso
   rw[ru hn hl]at he
   have:=Pn (lt:=lt) (n:=n) (sw h i (uJ lt n h i)) (uJ lt n h i)
   have:=pg lt n h i hn
   omega
 ·exact sD hn
theorem abR{lt:Nat->Nat->Bool}{P:Nat->Prop}{n:Nat}(h:Nat->Nat)(j:Nat)(hP:∀k,k<n->P (h k))(hj:j<n):∀k,k<n->P (tV lt h j k):=by
 fun_induction tV lt h j with
 | case1=>exact hP
 | case3=>exact hP
 | case2 h j hj0 hl ih=>exact ih (X0 hP (by omega) hj) (by omega)
theorem Zi{lt:Nat->Nat->Bool}{P:Nat->Prop}{n N:Nat}(hN:n<=N)(h:Nat->Nat)(i:Nat)(hP:∀k,k<N->P (h k)):∀k,k<N->P ((dW lt n h i).1 k):=by
 fun_induction dW lt n h i with
 | case1 h i hn _ hl ih =>
   have:=pg lt n h i hn
   exact ih (X0 hP (by omega) (by omega))
 | case2=>exact hP
 | case3=>exact hP
theorem Dj{lt:Nat->Nat->Bool}{P:Nat->Prop}(pre:Tj lt P){n:Nat}(h:Nat->Nat)(i:Nat)(hi:i<=n)(hP:∀k,k<n+1->P (h k))(ok:dX lt (n+1) h):dX lt n (dZ lt h n i):=by
 unfold dZ
 split
 ·exact fun k h0 hk=>ok k h0 (by omega)
 ·rename_i hne
  have hPs:=X0 hP (show i<n+1 by omega) (show n<n+1 by omega)
  have WX:∀k,k<n->P (sw h i n k):=fun k hk=>hPs k (by omega)
  have ex:OC lt n (sw h i n) i:=by
   refine⟨?_,?_⟩
   ·intro k h0 hk h1 h2
    have:par k<k:=by unfold par;omega
    rw[jC h1 (by omega),jC h2 (by omega)]
    exact ok k h0 (by omega)
   ·intro c h0 hc hpc hi0
    have h1:par c<c:=by unfold par;omega
    have h2:par i<i:=by unfold par;omega
    rw[jC (by omega) (by omega),jC (by omega) (by omega)]
    have a1:=ok c h0 (by omega)
    rw[hpc]at a1
    exact pre.trans _ _ _ (hP _ (by omega)) (hP i (by omega)) (hP c (by omega)) (ok i hi0 (by omega)) a1
  split
  ·rename_i hm
   rcases xR pre _ _ WX ex with h1|⟨h1,_⟩
   ·exact h1
   ·rw[h1]at hm
    exact absurd hm (by simp)
  ·rename_i hm
   have e:=Pm _ _ hm
   rw[e]
   rcases xR pre _ _ WX ex with h1|⟨_,h1⟩
   ·rw[e]at h1
    refine RU pre _ _ WX (by omega) ⟨fun k h0 hk _=>h1 k h0 hk,?_⟩
    intro c h0 hc hpc hi0
    have a1:=h1 c h0 hc
    rw[hpc]at a1
    exact pre.trans _ _ _ (WX _ (by unfold par;omega)) (WX i (by omega)) (WX c hc) (h1 i hi0 (by omega)) a1
   ·exact RU pre _ _ WX (by omega) h1
theorem EG{lt:Nat->Nat->Bool}{P:Nat->Prop}(pre:Tj lt P){n:Nat}(h:Nat->Nat)(x:Nat)(hx:P x)(hP:∀k,k<n->P (h k))(ok:dX lt n h):dX lt (n+1) (tV lt (fun k=>if k=n then x else h k) n):=by
 refine RU pre _ _ (fun k hk=>?_) (by omega) ⟨?_,?_⟩
 ·by_cases e:k=n
  ·simp only[e,if_true];exact hx
  ·simp only[e,if_false];exact hP k (by omega)
 ·intro k h0 hk hne
  have:par k<k:=by unfold par;omega
  simp only[hne,if_false,show par k≠n by omega]
  exact ok k h0 (by omega)
 ·intro c h0 hc hpc _
  have:par c<c:=by unfold par;omega
  omega
def Mem(n:Nat)(h:Nat->Nat)(x:Nat):Prop:=∃k,k<n/\x=h k
theorem WC(n:Nat)(h:Nat->Nat):∀k,k<n->Mem n h (h k):=fun k hk=>⟨k,hk,rfl⟩
theorem Eo{n:Nat}{h:Nat->Nat}{i j:Nat}(hi:i<n)(hj:j<n)(x:Nat):Mem n (sw h i j) x↔Mem n h x:=by
 have key:∀h:Nat->Nat,∀x,Mem n (sw h i j) x->Mem n h x:=by
  rintro h x ⟨k,hk,rfl⟩
  exact X0 (WC n h) hi hj k hk
 constructor
 ·exact key h x
 ·intro hx
  have e:sw (sw h i j) i j=h:=by
   funext k
   by_cases e1:k=i
   ·subst e1;rw[EO,J8]
   ·by_cases e2:k=j
    ·subst e2;rw[J8,EO]
    ·rw[jC e1 e2,jC e1 e2]
  rw[<-e]at hx
  exact key _ x hx
theorem Qs{lt:Nat->Nat->Bool}{n:Nat}(h:Nat->Nat)(j:Nat)(hj:j<n)(x:Nat):Mem n (tV lt h j) x↔Mem n h x:=by
 fun_induction tV lt h j with
 | case1=>rfl
 | case3=>rfl
 | case2 h j hj0 hl ih=>rw[ih (by omega),Eo (by omega) hj]
theorem Gv{lt:Nat->Nat->Bool}{n N:Nat}(hN:n<=N)(h:Nat->Nat)(i:Nat)(x:Nat):Mem N (dW lt n h i).1 x↔Mem N h x:=by
 fun_induction dW lt n h i with
 | case1 h i hn _ hl ih =>
   have:=pg lt n h i hn
   rw[ih,Eo (by omega) (by omega)]
 | case2=>rfl
 | case3=>rfl
theorem iP{lt:Nat->Nat->Bool}{n:Nat}(h:Nat->Nat)(x y:Nat):Mem (n+1) (tV lt (fun k=>if k=n then x else h k) n) y↔Mem n h y\/y=x:=by
 rw[Qs _ _ (by omega)]
 constructor
 ·rintro⟨k,hk,rfl⟩
  by_cases e:k=n
  ·right;simp[e]
  ·left;exact⟨k,by omega,by simp[e]⟩
 ·rintro (⟨k,hk,rfl⟩|rfl)
  ·exact⟨k,by omega,by simp[show k≠n by omega]⟩
  ·exact⟨n,by omega,by simp⟩
theorem nZ{lt:Nat->Nat->Bool}{n:Nat}(h:Nat->Nat)(i:Nat)(hi:i<=n)(y:Nat):Mem (n+1) (dZ lt h n i) y↔Mem (n+1) h y:=by
 unfold dZ
 split
 ·rfl
 ·split
  ·rw[Gv (by omega),Eo (by omega) (by omega)]
  ·rw[Qs _ _ (by omega),Gv (by omega),Eo (by omega) (by omega)]
theorem jB{lt:Nat->Nat->Bool}{n:Nat}(h:Nat->Nat)(i:Nat)(hi:i<=n)(inj:∀a b,a<n+1->b<n+1->dZ lt h n i a=dZ lt h n i b->a=b)(y:Nat) :
 Mem n (dZ lt h n i) y↔Mem (n+1) h y/\y≠h i:=by
 rw[<-nZ (lt:=lt) h i hi y]
 have hl:=qA (lt:=lt) (h:=h) hi
 constructor
 ·rintro⟨k,hk,rfl⟩
  refine⟨⟨k,by omega,rfl⟩,fun e=>?_⟩
  rw[<-hl]at e
  have:=inj k n (by omega) (by omega) e
  omega
 ·rintro⟨⟨k,hk,rfl⟩,hne⟩
  refine⟨k,?_,rfl⟩
  by_cases e:k=n
  ·subst e;exact absurd hl hne
  ·omega
open Go.RowKit
attribute [local go_sem ↓] Go.wp_at_zero Go.wp_at_succ
theorem lh(s:Int)(w:World)(h0:0<=s)(h1:s<=1):Calls Tryz.prog 154 #[.int .i64 s] w fun e w'=>e=.returned (.int .i64 (1-s))/\w'=w:=by
 go_enter Tryz.func154,Tryz.ntmps154
 go_wp2
 go_ret
 exact⟨rfl,rfl⟩
structure iL where
 id:Int
 aA:Int
 sym:ByteArray
 side:Int
 kind:Int
 af:Int
 aI:Int
def iL.val(o:iL):Value:=.agg #[.int .i64 o.id,.int .i64 o.aA,.string o.sym,.int .i64 o.side,.int .i64 o.kind,.int .i64 o.af,.int .i64 o.aI]
def iJ(kind side af p:Int):Bool:=if kind=5 then true else if side=0 then decide (p<=af) else decide (af<=p)
theorem o9(o:iL)(p:Int)(w:World):Calls Tryz.prog 155 #[o.val,.int .i64 p] w fun e w'=>e=.returned (.bool (iJ o.kind o.side o.af p))/\au aP w w':=by
 obtain⟨id,aA,sym,side,kind,af,aI⟩:=o
 simp only[iL.val]
 by_cases h1:kind=5
 ·have e1:(kind == 5)=true:=by simp[h1]
  have HG:Hid (iJ kind side af p=true):=by show _=_;unfold iJ;rw[if_pos h1]
  clear h1
  go_enter Tryz.func155,Tryz.ntmps155
  go_wp2
  go_ret
  exact⟨by rw[HG.out];rfl,(au.refl _ _).alloc _⟩
 ·have e1:(kind == 5)=false:=by simp[h1]
  by_cases h2:side=0
  ·have e2:(side == 0)=true:=by simp[h2]
   have HG:Hid (iJ kind side af p=decide (p<=af)):=by show _=_;unfold iJ;rw[if_neg h1,if_pos h2]
   clear h1 h2
   go_enter Tryz.func155,Tryz.ntmps155
   go_wp2
   go_ret
   exact⟨by rw[HG.out];rfl,(au.refl _ _).alloc _⟩
  ·have e2:(side == 0)=false:=by simp[h2]
   have HG:Hid (iJ kind side af p=decide (af<=p)):=by show _=_;unfold iJ;rw[if_neg h1,if_neg h2]
   clear h1 h2
   go_enter Tryz.func155,Tryz.ntmps155
   go_wp2
   go_ret
   exact⟨by rw[HG.out];rfl,(au.refl _ _).alloc _⟩
structure Bk where
 sym:ByteArray
 sl:Nat->Option Addr
 n:Nat->Nat
 cap:Nat->Nat
 h:Nat->Nat->Nat
 places:Int
def Bk.cells(B:Bk):Array Value:=#[.string B.sym,.slice (B.sl 0) (B.n 0) (B.cap 0),.slice (B.sl 1) (B.n 1) (B.cap 1),.int .i64 B.places]
structure bU(w:World)(bb:Nat)(B:Bk)(om:Nat->Ord):Prop where
 aB:az w bb B.cells 158
 side:∀s,s<2->iU w (B.sl s) (B.n s) (B.cap s) (B.h s) om
 apart:∀a,gG (B.sl 0)=some a->gG (B.sl 1)≠some a
 uF:∀k j,k<B.n 0->j<B.n 1->B.h 0 k≠B.h 1 j
theorem bU.aC{w w':World}{bb:Nat}{B:Bk}{om:Nat->Ord}(hb:bU w bb B om){S:Nat->Prop}(k:au S w w')(hS:∀b,(b=bb\/∃s,s<2/\(gG (B.sl s)=some b\/∃k,k<B.n s/\b=B.h s k))->¬S b):bU w' bb B om :=
 ⟨k.aB hb.aB (hS _ (.inl rfl)),fun s hs=>(hb.side s hs).aC k (fun b h=>hS b (.inr ⟨s,hs,h⟩)),hb.apart,hb.uF⟩
theorem Bk.uD(B:Bk){s:Nat}(hs:s<2):B.cells[1+s]?=some (.slice (B.sl s) (B.n s) (B.cap s)):=by
 have:s=0\/s=1:=by omega
 rcases this with rfl|rfl <;> rfl
theorem bU.FM{w:World}{bb:Nat}{B:Bk}{om:Nat->Ord}(hb:bU w bb B om){s:Nat}(hs:s<2):w.cell? ⟨bb,1+s,none⟩=some (.slice (B.sl s) (B.n s) (B.cap s)):=(hb.aB.cell _).trans (B.uD hs)
def dF(B:Bk)(om:Nat->Ord)(o:iL)(s:Nat):Option Nat:=if B.n s=0 then none else if iJ o.kind o.side o.af (om (B.h s 0)).af=true then some (B.h s 0) else none
def iR:Option Nat->Value
 | none=>.pointer none
 | some b=>.pointer (some ⟨b,0,none⟩)
theorem jP(bb:Nat)(B:Bk)(om:Nat->Ord)(o:iL)(s:Nat)(w:World)(hb:bU w bb B om)(hs:s<2)(ho:o.side=1-(s:Int)) :
 Calls Tryz.prog 123 #[.pointer (some ⟨bb,0,none⟩),o.val] w fun e w'=>e=.returned (iR (dF B om o s))/\au aP w w':=by
 have hlt:=hb.aB.lt
 have hsd:=hb.side s hs
 by_cases hn:B.n s=0
 ·have e1:((B.n s:Int) == 0)=true:=by simp[hn]
  have HF:Hid (dF B om o s=none):=by show _=_;unfold dF;rw[if_pos hn]
  obtain⟨id,aA,sym,side,kind,af,aI⟩:=o
  simp only at ho
  subst ho
  simp only[iL.val]
  clear hn
  have:s=0\/s=1:=by omega
  rcases this with rfl|rfl
  ·have hcs:w.cell? ⟨bb,1,none⟩=some (.slice (B.sl 0) (B.n 0) (B.cap 0)):=hb.aB.cell 1
   go_enter Tryz.func123,Tryz.ntmps123
   go_wp2
   go_quiet ((go_at_call 154;exact Calls.quiet_of_same (lh _ _ (by omega) (by omega))))
   go_wp2
   go_quiet (fail)
   go_wp2
   go_ret
   exact⟨by rw[HF.out];rfl,(by repeat (first|exact au.refl _ _|refine au.drewN ?_ _|refine au.drew ?_|refine au.alloc ?_ _))⟩
  ·have hcs:w.cell? ⟨bb,2,none⟩=some (.slice (B.sl 1) (B.n 1) (B.cap 1)):=hb.aB.cell 2
   go_enter Tryz.func123,Tryz.ntmps123
   go_wp2
   go_quiet ((go_at_call 154;exact Calls.quiet_of_same (lh _ _ (by omega) (by omega))))
   go_wp2
   go_quiet (fail)
   go_wp2
   go_ret
   exact⟨by rw[HF.out];rfl,(by repeat (first|exact au.refl _ _|refine au.drewN ?_ _|refine au.drew ?_|refine au.alloc ?_ _))⟩
 ·have e1:((B.n s:Int) == 0)=false:=by simp;omega
  rcases hsd with⟨_,h0,_⟩|⟨ab,hab,hsd⟩
  ·exact absurd h0 hn
  obtain⟨cs,ha,hc,hp⟩:=hsd.oH
  have ca:=(ha.cell 0).trans (hp 0 (by omega))
  have cp:=(hsd.ord 0 (by omega)).cell 5
  simp only[Ord.cells]at cp
  simp at cp
  have n0:0<B.n s:=by omega
  have la:=ha.lt
  have ho0:=hsd.ord 0 (by omega)
  have lo:=ho0.lt
  have HP:=hp 0 (by omega)
  clear hp hc hsd
  obtain⟨id,aA,sym,side,kind,af,aI⟩:=o
  simp only at ho
  subst ho
  simp only[iL.val]
  cases hg:iJ kind (1-(s:Int)) af (om (B.h s 0)).af
  ·have HF:Hid (dF B om ⟨id,aA,sym,1-(s:Int),kind,af,aI⟩ s=none):=by show _=_;unfold dF;rw[if_neg hn,if_neg (by simp[hg])]
   clear hn
   have:s=0\/s=1:=by omega
   rcases this with rfl|rfl
   ·have GG:iJ kind 1 af (om (B.h 0 0)).af=false:=hg
    clear hg
    have hcs:w.cell? ⟨bb,1,none⟩=some (.slice (some ⟨ab,0,none⟩) (B.n 0) (B.cap 0)):=(hb.aB.cell 1).trans (by rw[<-hab];rfl)
    go_enter Tryz.func123,Tryz.ntmps123
    go_wp2
    go_quiet ((go_at_call 154;exact Calls.quiet_of_same (lh _ _ (by omega) (by omega))))
    go_wp2
    go_region_held3 (fun w'=>w'.cell? ⟨w.heap.size,0,none⟩=some (.int .i64 id)/\w'.cell? ⟨w.heap.size,1,none⟩=some (.int .i64 aA)/\w'.cell? ⟨w.heap.size,2,none⟩=some (.string sym)/\w'.cell? ⟨w.heap.size,3,none⟩=some (.int .i64 1)/\w'.cell? ⟨w.heap.size,4,none⟩=some (.int .i64 kind)/\w'.cell? ⟨w.heap.size,5,none⟩=some (.int .i64 af)/\w'.cell? ⟨w.heap.size,6,none⟩=some (.int .i64 aI)/\w'.cell? ⟨ab,0,none⟩=some (.pointer (some ⟨B.h 0 0,0,none⟩))/\w'.cell? ⟨B.h 0 0,5,none⟩=some (.int .i64 (om (B.h 0 0)).af)) (go_keep)
     (first|(go_at_call 155;refine (o9 ⟨id,aA,sym,1,kind,af,aI⟩ _ _).mono ?_;rintro e w2 ⟨rfl,hc2⟩;rw[GG];have k0:=hc2.cell (p:=⟨w.heap.size,0,none⟩) ((az.new w _ _).cell 0) (fun x=>x);have k1:=hc2.cell (p:=⟨w.heap.size,1,none⟩) ((az.new w _ _).cell 1) (fun x=>x);have k2:=hc2.cell (p:=⟨w.heap.size,2,none⟩) ((az.new w _ _).cell 2) (fun x=>x);have k3:=hc2.cell (p:=⟨w.heap.size,3,none⟩) ((az.new w _ _).cell 3) (fun x=>x);have k4:=hc2.cell (p:=⟨w.heap.size,4,none⟩) ((az.new w _ _).cell 4) (fun x=>x);have k5:=hc2.cell (p:=⟨w.heap.size,5,none⟩) ((az.new w _ _).cell 5) (fun x=>x);have k6:=hc2.cell (p:=⟨w.heap.size,6,none⟩) ((az.new w _ _).cell 6) (fun x=>x);have k7:=hc2.cell (p:=⟨ab,0,none⟩) (((ha.alloc _).cell 0).trans HP) (fun x=>x);have k8:w2.cell? ⟨B.h 0 0,5,none⟩=some (.int .i64 (om (B.h 0 0)).af):=hc2.cell (p:=⟨B.h 0 0,5,none⟩) ((ho0.alloc _).cell 5) (fun x=>x)))
    go_wp2
    go_ret
    exact⟨by rw[HF.out];rfl,au.trans (by repeat (first|exact au.refl _ _|refine au.drewN ?_ _|refine au.drew ?_|refine au.alloc ?_ _)) hc2⟩
   ·have GG:iJ kind 0 af (om (B.h 1 0)).af=false:=hg
    clear hg
    have hcs:w.cell? ⟨bb,2,none⟩=some (.slice (some ⟨ab,0,none⟩) (B.n 1) (B.cap 1)):=(hb.aB.cell 2).trans (by rw[<-hab];rfl)
    go_enter Tryz.func123,Tryz.ntmps123
    go_wp2
    go_quiet ((go_at_call 154;exact Calls.quiet_of_same (lh _ _ (by omega) (by omega))))
    go_wp2
    go_region_held3 (fun w'=>w'.cell? ⟨w.heap.size,0,none⟩=some (.int .i64 id)/\w'.cell? ⟨w.heap.size,1,none⟩=some (.int .i64 aA)/\w'.cell? ⟨w.heap.size,2,none⟩=some (.string sym)/\w'.cell? ⟨w.heap.size,3,none⟩=some (.int .i64 0)/\w'.cell? ⟨w.heap.size,4,none⟩=some (.int .i64 kind)/\w'.cell? ⟨w.heap.size,5,none⟩=some (.int .i64 af)/\w'.cell? ⟨w.heap.size,6,none⟩=some (.int .i64 aI)/\w'.cell? ⟨ab,0,none⟩=some (.pointer (some ⟨B.h 1 0,0,none⟩))/\w'.cell? ⟨B.h 1 0,5,none⟩=some (.int .i64 (om (B.h 1 0)).af)) (go_keep)
     (first|(go_at_call 155;refine (o9 ⟨id,aA,sym,0,kind,af,aI⟩ _ _).mono ?_;rintro e w2 ⟨rfl,hc2⟩;rw[GG];have k0:=hc2.cell (p:=⟨w.heap.size,0,none⟩) ((az.new w _ _).cell 0) (fun x=>x);have k1:=hc2.cell (p:=⟨w.heap.size,1,none⟩) ((az.new w _ _).cell 1) (fun x=>x);have k2:=hc2.cell (p:=⟨w.heap.size,2,none⟩) ((az.new w _ _).cell 2) (fun x=>x);have k3:=hc2.cell (p:=⟨w.heap.size,3,none⟩) ((az.new w _ _).cell 3) (fun x=>x);have k4:=hc2.cell (p:=⟨w.heap.size,4,none⟩) ((az.new w _ _).cell 4) (fun x=>x);have k5:=hc2.cell (p:=⟨w.heap.size,5,none⟩) ((az.new w _ _).cell 5) (fun x=>x);have k6:=hc2.cell (p:=⟨w.heap.size,6,none⟩) ((az.new w _ _).cell 6) (fun x=>x);have k7:=hc2.cell (p:=⟨ab,0,none⟩) (((ha.alloc _).cell 0).trans HP) (fun x=>x);have k8:w2.cell? ⟨B.h 1 0,5,none⟩=some (.int .i64 (om (B.h 1 0)).af):=hc2.cell (p:=⟨B.h 1 0,5,none⟩) ((ho0.alloc _).cell 5) (fun x=>x)))
    go_wp2
    go_ret
    exact⟨by rw[HF.out];rfl,au.trans (by repeat (first|exact au.refl _ _|refine au.drewN ?_ _|refine au.drew ?_|refine au.alloc ?_ _)) hc2⟩
  ·have HF:Hid (dF B om ⟨id,aA,sym,1-(s:Int),kind,af,aI⟩ s=some (B.h s 0)):=by show _=_;unfold dF;rw[if_neg hn,if_pos hg]
   clear hn
   have:s=0\/s=1:=by omega
   rcases this with rfl|rfl
   ·have GG:iJ kind 1 af (om (B.h 0 0)).af=true:=hg
    clear hg
    have hcs:w.cell? ⟨bb,1,none⟩=some (.slice (some ⟨ab,0,none⟩) (B.n 0) (B.cap 0)):=(hb.aB.cell 1).trans (by rw[<-hab];rfl)
    go_enter Tryz.func123,Tryz.ntmps123
    go_wp2
    go_quiet ((go_at_call 154;exact Calls.quiet_of_same (lh _ _ (by omega) (by omega))))
    go_wp2
    go_region_held3 (fun w'=>w'.cell? ⟨w.heap.size,0,none⟩=some (.int .i64 id)/\w'.cell? ⟨w.heap.size,1,none⟩=some (.int .i64 aA)/\w'.cell? ⟨w.heap.size,2,none⟩=some (.string sym)/\w'.cell? ⟨w.heap.size,3,none⟩=some (.int .i64 1)/\w'.cell? ⟨w.heap.size,4,none⟩=some (.int .i64 kind)/\w'.cell? ⟨w.heap.size,5,none⟩=some (.int .i64 af)/\w'.cell? ⟨w.heap.size,6,none⟩=some (.int .i64 aI)/\w'.cell? ⟨ab,0,none⟩=some (.pointer (some ⟨B.h 0 0,0,none⟩))/\w'.cell? ⟨B.h 0 0,5,none⟩=some (.int .i64 (om (B.h 0 0)).af)) (go_keep)
     (first|(go_at_call 155;refine (o9 ⟨id,aA,sym,1,kind,af,aI⟩ _ _).mono ?_;rintro e w2 ⟨rfl,hc2⟩;rw[GG];have k0:=hc2.cell (p:=⟨w.heap.size,0,none⟩) ((az.new w _ _).cell 0) (fun x=>x);have k1:=hc2.cell (p:=⟨w.heap.size,1,none⟩) ((az.new w _ _).cell 1) (fun x=>x);have k2:=hc2.cell (p:=⟨w.heap.size,2,none⟩) ((az.new w _ _).cell 2) (fun x=>x);have k3:=hc2.cell (p:=⟨w.heap.size,3,none⟩) ((az.new w _ _).cell 3) (fun x=>x);have k4:=hc2.cell (p:=⟨w.heap.size,4,none⟩) ((az.new w _ _).cell 4) (fun x=>x);have k5:=hc2.cell (p:=⟨w.heap.size,5,none⟩) ((az.new w _ _).cell 5) (fun x=>x);have k6:=hc2.cell (p:=⟨w.heap.size,6,none⟩) ((az.new w _ _).cell 6) (fun x=>x);have k7:=hc2.cell (p:=⟨ab,0,none⟩) (((ha.alloc _).cell 0).trans HP) (fun x=>x);have k8:w2.cell? ⟨B.h 0 0,5,none⟩=some (.int .i64 (om (B.h 0 0)).af):=hc2.cell (p:=⟨B.h 0 0,5,none⟩) ((ho0.alloc _).cell 5) (fun x=>x)))
    go_wp2
    go_ret
    exact⟨by rw[HF.out];rfl,au.trans (by repeat (first|exact au.refl _ _|refine au.drewN ?_ _|refine au.drew ?_|refine au.alloc ?_ _)) hc2⟩
   ·have GG:iJ kind 0 af (om (B.h 1 0)).af=true:=hg
    clear hg
    have hcs:w.cell? ⟨bb,2,none⟩=some (.slice (some ⟨ab,0,none⟩) (B.n 1) (B.cap 1)):=(hb.aB.cell 2).trans (by rw[<-hab];rfl)
    go_enter Tryz.func123,Tryz.ntmps123
    go_wp2
    go_quiet ((go_at_call 154;exact Calls.quiet_of_same (lh _ _ (by omega) (by omega))))
    go_wp2
    go_region_held3 (fun w'=>w'.cell? ⟨w.heap.size,0,none⟩=some (.int .i64 id)/\w'.cell? ⟨w.heap.size,1,none⟩=some (.int .i64 aA)/\w'.cell? ⟨w.heap.size,2,none⟩=some (.string sym)/\w'.cell? ⟨w.heap.size,3,none⟩=some (.int .i64 0)/\w'.cell? ⟨w.heap.size,4,none⟩=some (.int .i64 kind)/\w'.cell? ⟨w.heap.size,5,none⟩=some (.int .i64 af)/\w'.cell? ⟨w.heap.size,6,none⟩=some (.int .i64 aI)/\w'.cell? ⟨ab,0,none⟩=some (.pointer (some ⟨B.h 1 0,0,none⟩))/\w'.cell? ⟨B.h 1 0,5,none⟩=some (.int .i64 (om (B.h 1 0)).af)) (go_keep)
     (first|(go_at_call 155;refine (o9 ⟨id,aA,sym,0,kind,af,aI⟩ _ _).mono ?_;rintro e w2 ⟨rfl,hc2⟩;rw[GG];have k0:=hc2.cell (p:=⟨w.heap.size,0,none⟩) ((az.new w _ _).cell 0) (fun x=>x);have k1:=hc2.cell (p:=⟨w.heap.size,1,none⟩) ((az.new w _ _).cell 1) (fun x=>x);have k2:=hc2.cell (p:=⟨w.heap.size,2,none⟩) ((az.new w _ _).cell 2) (fun x=>x);have k3:=hc2.cell (p:=⟨w.heap.size,3,none⟩) ((az.new w _ _).cell 3) (fun x=>x);have k4:=hc2.cell (p:=⟨w.heap.size,4,none⟩) ((az.new w _ _).cell 4) (fun x=>x);have k5:=hc2.cell (p:=⟨w.heap.size,5,none⟩) ((az.new w _ _).cell 5) (fun x=>x);have k6:=hc2.cell (p:=⟨w.heap.size,6,none⟩) ((az.new w _ _).cell 6) (fun x=>x);have k7:=hc2.cell (p:=⟨ab,0,none⟩) (((ha.alloc _).cell 0).trans HP) (fun x=>x);have k8:w2.cell? ⟨B.h 1 0,5,none⟩=some (.int .i64 (om (B.h 1 0)).af):=hc2.cell (p:=⟨B.h 1 0,5,none⟩) ((ho0.alloc _).cell 5) (fun x=>x)))
    go_wp2
    go_ret
    exact⟨by rw[HF.out];rfl,au.trans (by repeat (first|exact au.refl _ _|refine au.drewN ?_ _|refine au.drew ?_|refine au.alloc ?_ _)) hc2⟩
def aN{α:Type}(f:Nat->α)(s:Nat)(v:α):Nat->α:=fun t=>if t=s then v else f t
theorem aj{α:Type}(f:Nat->α)(s:Nat)(v:α):aN f s v s=v:=by simp[aN]
theorem ah{α:Type}(f:Nat->α){s t:Nat}(v:α)(h:t≠s):aN f s v t=f t:=by simp[aN,h]
def dn(b:Nat):Value:=.pointer (some ⟨b,0,none⟩)
def kC(o:Ord):Array Value:=#[.int .i64 o.id,.int .i64 o.aA,.string o.sym,.int .i64 o.side,.int .i64 o.kind,.int .i64 o.af,.int .i64 o.aI,.int .i64 o.entered,.int .i64 o.aK,.int .i64 o.filled,.int .i64 o.bQ,.int .i64 o.exp]
theorem az.xy(w:World)(o:Obj)(c:Array Value)(t:TypeId):az ((w.alloc o).alloc (.cells c t)) (w.heap.size+1) c t:=by
 have h:=az.new (w.alloc o) c t
 have e:(w.alloc o).heap.size=w.heap.size+1:=by simp
 rw[e]at h
 exact h
structure wQ(w:World)(H b:Nat)(o:Ord):Prop where
 box:az w H #[.pointer (some ⟨b,0,none⟩)] 114
 fA:az w (H+1) (kC o) 54
theorem wQ.aC{w w':World}{H b:Nat}{o:Ord}(h:wQ w H b o){S:Nat->Prop}(k:au S w w')(h1:¬S H)(h2:¬S (H+1)):wQ w' H b o:=⟨k.aB h.box h1,k.aB h.fA h2⟩
theorem mQ(b:Nat)(o:Ord)(ix:Int)(w:World)(ho:df w b o ix) :
 Calls Tryz.prog 119 #[.pointer (some ⟨b,0,none⟩)] w fun e w'=>e=.returned (.func (.func 151) #[] #[.pointer (some ⟨w.heap.size+1,0,none⟩),.pointer (some ⟨w.heap.size,0,none⟩)])/\wQ w' w.heap.size b o/\au aP w w':=by
 have c0:w.cell? ⟨b,0,none⟩=some (.int .i64 o.id):=ho.cell 0
 have c1:w.cell? ⟨b,1,none⟩=some (.int .i64 o.aA):=ho.cell 1
 have c2:w.cell? ⟨b,2,none⟩=some (.string o.sym):=ho.cell 2
 have c3:w.cell? ⟨b,3,none⟩=some (.int .i64 o.side):=ho.cell 3
 have c4:w.cell? ⟨b,4,none⟩=some (.int .i64 o.kind):=ho.cell 4
 have c5:w.cell? ⟨b,5,none⟩=some (.int .i64 o.af):=ho.cell 5
 have c6:w.cell? ⟨b,6,none⟩=some (.int .i64 o.aI):=ho.cell 6
 have c7:w.cell? ⟨b,7,none⟩=some (.int .i64 o.entered):=ho.cell 7
 have c8:w.cell? ⟨b,8,none⟩=some (.int .i64 o.aK):=ho.cell 8
 have c9:w.cell? ⟨b,9,none⟩=some (.int .i64 o.filled):=ho.cell 9
 have c10:w.cell? ⟨b,10,none⟩=some (.int .i64 o.bQ):=ho.cell 10
 have c11:w.cell? ⟨b,11,none⟩=some (.int .i64 o.exp):=ho.cell 11
 have lo:=ho.lt
 have hne:b≠w.heap.size:=by omega
 go_enter Tryz.func119,Tryz.ntmps119
 go_wp2
 go_ret
 refine⟨rfl,⟨(az.new w _ _).alloc _,az.xy w _ _ _⟩,((au.refl aP w).alloc _).alloc _⟩
theorem Pv(b:Nat)(o:Ord)(ix q:Int)(w:World)(ho:df w b o ix) :
 Calls Tryz.prog 177 #[.pointer (some ⟨b,0,none⟩),.int .i64 q] w fun e w'=>e=.returned (.func (.func 151) #[] #[.pointer (some ⟨w.heap.size+1,0,none⟩),.pointer (some ⟨w.heap.size,0,none⟩)])/\wQ w' w.heap.size b o/\df w' b { o with aK:=wrap64 (o.aK-q),filled:=wrap64 (o.filled+q) } ix/\au (fun x=>x=b) w w':=by
 have HA:=ai (mQ b o ix w ho)
 have lo:=ho.lt
 go_enter Tryz.func177,Tryz.ntmps177
 go_wp2_with fail
 refine (ae HA).mono ?_
 rintro e w1 ⟨rfl,n1,k1⟩
 have ho1:=k1.aB ho (fun x=>x)
 have h8:w1.cell? ⟨b,8,none⟩=some (.int .i64 o.aK):=az.cell ho1 8
 have h9:w1.cell? ⟨b,9,none⟩=some (.int .i64 o.filled):=az.cell ho1 9
 have f8:=az.frozen ho1 8
 have f9:=az.frozen ho1 9
 go_wp2
 go_ret
 have k2:=((au.refl (fun x=>x=b) w1).setCell (p:=⟨b,8,none⟩) (.inl rfl) (.int .i64 (wrap64 (o.aK-q)))).setCell (p:=⟨b,9,none⟩) (.inl rfl) (.int .i64 (wrap64 (o.filled+q)))
 exact⟨rfl,n1.aC k2 (by omega) (by omega),(ho1.set 8 _).set 9 _,k1.bI.trans k2⟩
theorem zi(b:Nat)(o:Ord)(ix:Int)(w:World)(ho:df w b o ix) :
 Calls Tryz.prog 67 #[.pointer (some ⟨b,0,none⟩)] w fun e w'=>e=.returned (.func (.func 151) #[] #[.pointer (some ⟨w.heap.size+1,0,none⟩),.pointer (some ⟨w.heap.size,0,none⟩)])/\wQ w' w.heap.size b o/\df w' b { o with aK:=0,bQ:=wrap64 (o.bQ+o.aK) } ix/\au (fun x=>x=b) w w':=by
 have HA:=ai (mQ b o ix w ho)
 have lo:=ho.lt
 go_enter Tryz.func67,Tryz.ntmps67
 go_wp2_with fail
 refine (ae HA).mono ?_
 rintro e w1 ⟨rfl,n1,k1⟩
 have ho1:=k1.aB ho (fun x=>x)
 have h8:w1.cell? ⟨b,8,none⟩=some (.int .i64 o.aK):=az.cell ho1 8
 have h10:w1.cell? ⟨b,10,none⟩=some (.int .i64 o.bQ):=az.cell ho1 10
 have f8:=az.frozen ho1 8
 have f10:=az.frozen ho1 10
 go_wp2
 go_region
 go_wp2
 go_ret
 have k2:=(((au.refl (fun x=>x=b) w1).setCell (p:=⟨b,10,none⟩) (.inl rfl) (.int .i64 (wrap64 (o.bQ+o.aK)))).setCell (p:=⟨b,8,none⟩) (.inl rfl) (.int .i64 0)).drew
 refine⟨rfl,n1.aC k2 (by omega) (by omega),?_,k1.bI.trans k2⟩
 have:=(ho1.set 10 (.int .i64 (wrap64 (o.bQ+o.aK)))).set 8 (.int .i64 0)
 exact this
def eU(kind:Int):Bool:=kind == 0 || kind == 1 || kind == 4
theorem pR(b:Nat)(o:Ord)(ix:Int)(w:World)(ho:df w b o ix) :
 Calls Tryz.prog 121 #[.pointer (some ⟨b,0,none⟩)] w fun e w'=>e=.returned (.bool (eU o.kind))/\w'=w:=by
 have h4:w.cell? ⟨b,4,none⟩=some (.int .i64 o.kind):=ho.cell 4
 by_cases h0:o.kind=0
 ·have e0:(o.kind == 0)=true:=by simp[h0]
  have HR:Hid (eU o.kind=true):=by show _=_;simp[eU,h0]
  clear h0
  go_enter Tryz.func121,Tryz.ntmps121
  go_wp2
  go_ret
  exact⟨by rw[HR.out];rfl,rfl⟩
 ·have e0:(o.kind == 0)=false:=by simp[h0]
  by_cases h1:o.kind=1
  ·have e1:(o.kind == 1)=true:=by simp[h1]
   have HR:Hid (eU o.kind=true):=by show _=_;simp[eU,h1]
   clear h0 h1
   go_enter Tryz.func121,Tryz.ntmps121
   go_wp2
   go_ret
   exact⟨by rw[HR.out];rfl,rfl⟩
  ·have e1:(o.kind == 1)=false:=by simp[h1]
   by_cases h2:o.kind=4
   ·have e2:(o.kind == 4)=true:=by simp[h2]
    have HR:Hid (eU o.kind=true):=by show _=_;simp[eU,h2]
    clear h0 h1 h2
    go_enter Tryz.func121,Tryz.ntmps121
    go_wp2
    go_ret
    exact⟨by rw[HR.out];rfl,rfl⟩
   ·have e2:(o.kind == 4)=false:=by simp[h2]
    have HR:Hid (eU o.kind=false):=by show _=_;simp[eU,h0,h1,h2]
    clear h0 h1 h2
    go_enter Tryz.func121,Tryz.ntmps121
    go_wp2
    go_ret
    exact⟨by rw[HR.out];rfl,rfl⟩
def Bk.leave(B:Bk)(om:Nat->Ord)(s i:Nat):Bk:={ B with n:=aN B.n s (B.n s-1),h:=aN B.h s (dZ (fG om) (B.h s) (B.n s-1) i) }
theorem Bk.Gq(B:Bk)(om:Nat->Ord)(s i:Nat)(hs:s<2):(B.leave om s i).cells=B.cells.setIfInBounds (1+s) (.slice (B.sl s) (B.n s-1) (B.cap s)):=by
 have:s=0\/s=1:=by omega
 rcases this with rfl|rfl <;> rfl
def dC(B:Bk)(s:Nat):Nat->Prop:=fun b=>gG (B.sl s)=some b\/∃k,k<B.n s/\b=B.h s k
theorem bU.kQ{w:World}{bb:Nat}{B:Bk}{om:Nat->Ord}(hb:bU w bb B om){s t:Nat}(hs:s<2)(ht:t<2)(hne:s≠t){b:Nat}(h:dC B s b):¬dC B t b:=by
 have key:∀b,dC B 0 b->¬dC B 1 b:=by
  rintro b (h|⟨k,hk,rfl⟩) (h'|⟨j,hj,e⟩)
  ·exact hb.apart b h h'
  ·subst e;exact (hb.side 0 (by omega)).ne ((hb.side 1 (by omega)).bg hj) (by decide) h
  ·exact (hb.side 1 (by omega)).ne ((hb.side 0 (by omega)).bg hk) (by decide) h'
  ·exact hb.uF k j hk hj e
 have h2:(s=0/\t=1)\/(s=1/\t=0):=by omega
 rcases h2 with⟨rfl,rfl⟩|⟨rfl,rfl⟩
 ·exact key b h
 ·exact fun h'=>key b h' h
theorem bU.KG{w:World}{bb:Nat}{B:Bk}{om:Nat->Ord}(hb:bU w bb B om){s:Nat}(hs:s<2):¬dC B s bb:=by
 rintro (h|⟨k,hk,e⟩)
 ·exact (hb.side s hs).ne hb.aB (by decide) h
 ·subst e;exact az.ne hb.aB ((hb.side s hs).bg hk) (by decide) rfl
theorem xP(bb:Nat)(B:Bk)(om:Nat->Ord)(s i:Nat)(w:World)(hb:bU w bb B om)(hs:s<2)(hi:i<B.n s)(hside:(om (B.h s i)).side=(s:Int)) :
 Calls Tryz.prog 116 #[.pointer (some ⟨bb,0,none⟩),.pointer (some ⟨B.h s i,0,none⟩)] w fun e w'=>e=.returned (.tuple #[]) /\
  bU w' bb (B.leave om s i) om/\(∃ix,df w' (B.h s i) (om (B.h s i)) ix)/\au (fun b=>b=bb\/dC B s b) w w':=by
 have hsd:=hb.side s hs
 rcases hsd with⟨_,h0,_⟩|⟨ab,hab,hsd⟩
 ·omega
 obtain⟨n,hn⟩:∃n,B.n s=n+1:=⟨B.n s-1,by omega⟩
 rw[hn]at hsd hi
 have hord:=hsd.ord i hi
 have c3:w.cell? ⟨B.h s i,3,none⟩=some (.int .i64 (s:Int)):=(hord.cell 3).trans (by rw[<-hside];rfl)
 have c13:w.cell? ⟨B.h s i,13,none⟩=some (.int .i64 (i:Int)):=hord.cell 13
 have hso:B.cells[1+s]?=some (.slice (some ⟨ab,0,none⟩) (n+1) (B.cap s)):=by rw[B.uD hs,hab,hn]
 have ZT:=fun q=>JY bb (1+s) ab n (B.cap s) i B.cells (B.h s) om (w.drewN q) (hb.aB.drewN q) hso (hsd.aC ((au.refl aP w).drewN q) (fun _ _ x=>x)) (by omega)
 have fin:∀(q:Nat) (w':World),(az w' bb (B.cells.setIfInBounds (1+s) (.slice (some ⟨ab,0,none⟩) n (B.cap s))) 158/\jJ w' ab (B.cap s) n (dZ (fG om) (B.h s) n i) om/\df w' (B.h s i) (om (B.h s i)) n/\au (fun b=>b=bb\/Sd ab (n+1) (B.h s) b) (w.drewN q) w') ->
  bU w' bb (B.leave om s i) om/\(∃ix,df w' (B.h s i) (om (B.h s i)) ix)/\au (fun b=>b=bb\/dC B s b) w w':=by
  rintro q w' ⟨h1,h2,h3,h4⟩
  have h5:au (fun b=>b=bb\/dC B s b) w w':=au.trans ((au.refl _ w).drewN q) (h4.mono (fun b hb=>by
   rcases hb with hb|hb
   ·exact .inl hb
   ·refine .inr ?_
    rcases hb with rfl|⟨k,hk,rfl⟩
    ·exact .inl (OT hab)
    ·exact .inr ⟨k,by omega,rfl⟩))
  refine⟨⟨?_,?_,hb.apart,?_⟩,⟨n,h3⟩,h5⟩
  ·rw[B.Gq om s i hs,hn,hab];exact h1
  ·intro t ht
   by_cases e:t=s
   ·subst e
    refine .inr ⟨ab,hab,?_⟩
    show jJ w' ab (B.cap t) (aN B.n t (B.n t-1) t) (aN B.h t _ t) om
    rw[aj,aj,hn]
    exact h2
   ·show iU w' (B.sl t) (aN B.n s (B.n s-1) t) (B.cap t) (aN B.h s _ t) om
    rw[ah _ _ e,ah _ _ e]
    refine (hb.side t ht).aC h5 (fun b hb' hx=>?_)
    rcases hx with rfl|hx
    ·exact hb.KG ht hb'
    ·exact hb.kQ hs ht (fun h=>e h.symm) hx hb'
  ·have sub:∀k,k<n->Mem (n+1) (B.h s) (dZ (fG om) (B.h s) n i k):=fun k hk=>(nZ (lt:=fG om) (B.h s) i (by omega) _).1 ⟨k,by omega,rfl⟩
   have h2':s=0\/s=1:=by omega
   intro k j hk hj
   rcases h2' with rfl|rfl
   ·simp only[Bk.leave,aj,ah _ _ (show (1:Nat)≠0 by omega),hn,Nat.add_sub_cancel]at hk hj ⊢
    obtain⟨k',hk',e⟩:=sub k hk
    rw[e]
    exact hb.uF k' j (by omega) hj
   ·simp only[Bk.leave,aj,ah _ _ (show (0:Nat)≠1 by omega),hn,Nat.add_sub_cancel]at hk hj ⊢
    obtain⟨j',hj',e⟩:=sub j hj
    rw[e]
    exact hb.uF k j' hk (by omega)
 have HF:=ai fin
 have HR:=ai ZT
 clear fin ZT
 have e2:s=0\/s=1:=by omega
 rcases e2 with rfl|rfl
 all_goals
  go_enter Tryz.func116,Tryz.ntmps116
  go_wp2
  go_region_with (first|(go_at_call 149;refine (ae HR _).mono ?_;rintro e w1 ⟨rfl,hw1⟩))
  all_goals
   go_wp2
   go_end0
   exact⟨rfl,ae HF _ _ hw1⟩
structure uY(w:World)(H bb b:Nat):Prop where
 aW:az w H #[.pointer (some ⟨bb,0,none⟩)] 111
 ord:az w (H+1) #[.pointer (some ⟨b,0,none⟩)] 114
theorem uY.aC{w w':World}{H bb b:Nat}(h:uY w H bb b){S:Nat->Prop}(k:au S w w')(h1:¬S H)(h2:¬S (H+1)):uY w' H bb b:=⟨k.aB h.aW h1,k.aB h.ord h2⟩
theorem bU.Dn{w:World}{bb:Nat}{B:Bk}{om:Nat->Ord}(hb:bU w bb B om){s:Nat}(hs:s<2){b:Nat}(h:dC B s b):b<w.heap.size:=by
 rcases h with h|⟨k,hk,rfl⟩
 ·exact (hb.side s hs).lt h
 ·exact ((hb.side s hs).bg hk).lt
theorem Nr(bb:Nat)(B:Bk)(om:Nat->Ord)(s i:Nat)(w:World)(hb:bU w bb B om)(hs:s<2)(hi:i<B.n s)(hside:(om (B.h s i)).side=(s:Int)) :
 Calls Tryz.prog 66 #[.pointer (some ⟨bb,0,none⟩),.pointer (some ⟨B.h s i,0,none⟩)] w fun e w'=>e=.returned (.func (.func 117) #[] #[.pointer (some ⟨w.heap.size,0,none⟩),.pointer (some ⟨w.heap.size+1,0,none⟩)])/\uY w' w.heap.size bb (B.h s i) /\
  bU w' bb (B.leave om s i) om/\(∃ix,df w' (B.h s i) (om (B.h s i)) ix)/\au (fun b=>b=bb\/dC B s b) w w':=by
 obtain⟨w1,hw1⟩:∃w1,w1=(w.alloc (.cells #[.pointer (some ⟨bb,0,none⟩)] 111)).alloc (.cells #[.pointer (some ⟨B.h s i,0,none⟩)] 114):=⟨_,rfl⟩
 have k1:au aP w w1:=by rw[hw1];exact ((au.refl aP w).alloc _).alloc _
 have p1:uY w1 w.heap.size bb (B.h s i):=by rw[hw1];exact⟨(az.new w _ _).alloc _,az.xy w _ _ _⟩
 have hb1:=hb.aC k1 (fun _ _ x=>x)
 have HR:=ai (xP bb B om s i w1 hb1 hs hi hside)
 have HW:=ai hw1
 have x0:w1.cell? ⟨w.heap.size,0,none⟩=some (.pointer (some ⟨bb,0,none⟩)):=p1.aW.cell 0
 have x1:w1.cell? ⟨w.heap.size+1,0,none⟩=some (.pointer (some ⟨B.h s i,0,none⟩)):=p1.ord.cell 0
 have lb:=hb.aB.lt
 have out:∀b,w.heap.size<=b->¬(b=bb\/dC B s b):=by
  rintro b h (e|e)
  ·omega
  ·have:=hb.Dn hs e;omega
 have HO:=ai out
 clear hw1 out
 go_enter Tryz.func66,Tryz.ntmps66
 go_wp2_with fail
 rw[<-ae HW]
 refine (ae HR).mono ?_
 rintro e w2 ⟨rfl,b2,o2,k2⟩
 go_wp2
 go_ret
 exact⟨rfl,p1.aC k2 (ae HO _ (Nat.le_refl _)) (ae HO _ (by omega)),b2,o2,k1.bI.trans k2⟩
theorem jJ.om{w:World}{ab cap n:Nat}{h:Nat->Nat}{om dG:Nat->Ord}(hs:jJ w ab cap n h om)(he:∀k,k<n->dG (h k)=om (h k)):jJ w ab cap n h dG :=
 ⟨hs.oH,fun i hi=>by rw[he i hi];exact hs.ord i hi,hs.le,hs.small,hs.Md⟩
theorem iU.om{w:World}{s:Option Addr}{cap n:Nat}{h:Nat->Nat}{om dG:Nat->Ord}(hs:iU w s n cap h om)(he:∀k,k<n->dG (h k)=om (h k)):iU w s n cap h dG:=by
 rcases hs with hs|⟨ab,e,hs⟩
 ·exact .inl hs
 ·exact .inr ⟨ab,e,hs.om he⟩
theorem iU.aN{w w':World}{s:Option Addr}{cap n:Nat}{h:Nat->Nat}{om:Nat->Ord}(hs:iU w s n cap h om){b:Nat}{o o':Ord}{ix:Int}(ho:df w b o ix)(k:au (fun x=>x=b) w w')(ho':df w' b o' ix):iU w' s n cap h (aN om b o'):=by
 rcases hs with hs|⟨ab,rfl,hs⟩
 ·exact .inl hs
 ·refine .inr ⟨ab,rfl,?_⟩
  obtain⟨cs,hb,hc,hp⟩:=hs.oH
  refine⟨⟨cs,k.aB hb (fun e=>az.ne ho hb (by decide) e.symm),hc,hp⟩,fun i hi=>?_,hs.le,hs.small,hs.Md⟩
  have hoi:=hs.ord i hi
  by_cases e:h i=b
  ·rw[e]at hoi ⊢
   rw[aj]
   have:=(Ord.Ce (az.uniq ho hoi)).1
   rw[<-this]
   exact ho'
  ·rw[ah _ _ e]
   exact k.aB hoi e
theorem bU.aN{w w':World}{bb:Nat}{B:Bk}{om:Nat->Ord}(hb:bU w bb B om){b:Nat}{o o':Ord}{ix:Int}(ho:df w b o ix)(k:au (fun x=>x=b) w w')(ho':df w' b o' ix):bU w' bb B (aN om b o') :=
 ⟨k.aB hb.aB (fun e=>az.ne ho hb.aB (by decide) e.symm),fun s hs=>(hb.side s hs).aN ho k ho',hb.apart,hb.uF⟩
theorem Ej{om:Nat->Ord}{b:Nat}{o':Ord}(h1:o'.side=(om b).side)(h2:o'.af=(om b).af)(h3:o'.place=(om b).place):fG (aN om b o')=fG om:=by
 have:∀x,(aN om b o' x).side=(om x).side/\(aN om b o' x).af=(om x).af/\(aN om b o' x).place=(om x).place:=by
  intro x
  by_cases e:x=b
  ·subst e;rw[aj];exact⟨h1,h2,h3⟩
  ·rw[ah _ _ e];exact⟨rfl,rfl,rfl⟩
 funext x y
 unfold fG kU jQ
 rw[(this x).1,(this x).2.1,(this x).2.2,(this y).2.1,(this y).2.2]
def Bk.push(B:Bk)(om:Nat->Ord)(s ob g cap':Nat):Bk :=
 { B with sl:=aN B.sl s (some ⟨g,0,none⟩),n:=aN B.n s (B.n s+1),cap:=aN B.cap s cap',h:=aN B.h s (tV (fG om) (fun k=>if k=B.n s then ob else B.h s k) (B.n s)) }
theorem Bk.JW(B:Bk)(om:Nat->Ord)(s ob g cap':Nat)(hs:s<2):(B.push om s ob g cap').cells=B.cells.setIfInBounds (1+s) (.slice (some ⟨g,0,none⟩) (B.n s+1) cap'):=by
 have:s=0\/s=1:=by omega
 rcases this with rfl|rfl <;> rfl
def Bk.rest(B:Bk)(om:Nat->Ord)(s ob g cap':Nat):Bk :=
 { B with sl:=aN B.sl s (some ⟨g,0,none⟩),n:=aN B.n s (B.n s+1),cap:=aN B.cap s cap',h:=aN B.h s (tV (fG om) (fun k=>if k=B.n s then ob else B.h s k) (B.n s)),places:=wrap64 (B.places+1) }
theorem Cc(bb ob s:Nat)(B:Bk)(om:Nat->Ord)(ix:Int)(w:World)(hb:bU w bb B om)(ho:df w ob (om ob) ix)(hs:s<2)(hside:(om ob).side=(s:Int))(hnew:∀t,t<2->∀k,k<B.n t->B.h t k≠ob)(hn:B.n s<1000) :
 Calls Tryz.prog 118 #[.pointer (some ⟨bb,0,none⟩),.pointer (some ⟨ob,0,none⟩)] w fun e w'=>e=.returned (.tuple #[]) /\
  ∃g cap',bU w' bb (B.push om s ob g cap') om/\au (fun b=>b=bb\/b=ob\/dC B s b) w w'/\(gG (B.sl s)=some g\/w.heap.size<=g):=by
 have hne:ob≠bb:=az.ne ho hb.aB (by decide)
 have hpush:=fun q=>MX bb (1+s) ob (B.n s) (B.cap s) (B.sl s) _ (B.h s) om ix (w.drewN q) (hb.aB.drewN q) (B.uD hs) ((hb.side s hs).aC ((au.refl aP w).drewN q) (fun _ _ x=>x)) (ho.drewN q) (hnew s hs) hn
 have fin:∀(q:Nat) (w':World),(∃g cap',az w' bb (B.cells.setIfInBounds (1+s) (.slice (some ⟨g,0,none⟩) (B.n s+1) cap')) 158/\jJ w' g cap' (B.n s+1) (tV (fG om) (fun k=>if k=B.n s then ob else B.h s k) (B.n s)) om /\
  au (fun b=>b=bb\/b=ob\/gG (B.sl s)=some b\/∃k,k<B.n s/\b=B.h s k) (w.drewN q) w'/\(gG (B.sl s)=some g\/(w.drewN q).heap.size<=g)) ->
  ∃g cap',bU w' bb (B.push om s ob g cap') om/\au (fun b=>b=bb\/b=ob\/dC B s b) w w'/\(gG (B.sl s)=some g\/w.heap.size<=g):=by
  rintro q w' ⟨g,cap',h1,h2,h3,h4⟩
  have h4':gG (B.sl s)=some g\/w.heap.size<=g:=h4
  have h5:au (fun b=>b=bb\/b=ob\/dC B s b) w w':=au.trans ((au.refl _ w).drewN q) (h3.mono (fun b hb=>hb))
  refine⟨g,cap',⟨?_,?_,?_,?_⟩,h5,h4'⟩
  ·rw[B.JW om s ob g cap' hs];exact h1
  ·intro t ht
   by_cases e:t=s
   ·subst e
    refine .inr ⟨g,by simp only[Bk.push,aj],?_⟩
    simp only[Bk.push,aj]
    exact h2
   ·simp only[Bk.push,ah _ _ e]
    refine (hb.side t ht).aC h5 (fun b hb' hx=>?_)
    rcases hx with rfl|rfl|hx
    ·exact hb.KG ht hb'
    ·rcases hb' with hb'|⟨k,hk,e'⟩
     ·exact (hb.side t ht).ne ho (by decide) hb'
     ·exact hnew t ht k hk e'.symm
    ·exact hb.kQ hs ht (fun h=>e h.symm) hx hb'
  ·have key:∀t,t<2->t≠s->gG (B.sl t)≠some g:=by
    intro t ht e
    rcases h4' with h|h
    ·have e2:(t=0/\s=1)\/(t=1/\s=0):=by omega
     rcases e2 with⟨rfl,rfl⟩|⟨rfl,rfl⟩
     ·exact fun h'=>hb.apart g h' h
     ·exact hb.apart g h
    ·intro h'
     have:=(hb.side t ht).lt h'
     omega
   have e2:s=0\/s=1:=by omega
   intro a
   rcases e2 with rfl|rfl
   ·simp only[Bk.push,aj,ah _ _ (show (1:Nat)≠0 by omega)]
    intro h h'
    simp[gG]at h
    subst h
    exact key 1 (by omega) (by omega) h'
   ·simp only[Bk.push,aj,ah _ _ (show (0:Nat)≠1 by omega)]
    intro h h'
    simp[gG]at h'
    subst h'
    exact key 0 (by omega) (by omega) h
  ·have sub:∀k,k<B.n s+1->Mem (B.n s) (B.h s) (tV (fG om) (fun k=>if k=B.n s then ob else B.h s k) (B.n s) k)\/tV (fG om) (fun k=>if k=B.n s then ob else B.h s k) (B.n s) k=ob:=fun k hk=>(iP (lt:=fG om) (B.h s) ob _).1 ⟨k,hk,rfl⟩
   have e2:s=0\/s=1:=by omega
   intro k j hk hj
   rcases e2 with rfl|rfl
   ·simp only[Bk.push,aj,ah _ _ (show (1:Nat)≠0 by omega)]at hk hj ⊢
    rcases sub k hk with⟨k',hk',e⟩|e
    ·rw[e];exact hb.uF k' j hk' hj
    ·rw[e];exact fun h=>hnew 1 (by omega) j hj h.symm
   ·simp only[Bk.push,aj,ah _ _ (show (0:Nat)≠1 by omega)]at hk hj ⊢
    rcases sub j hj with⟨j',hj',e⟩|e
    ·rw[e];exact hb.uF k j' hk hj'
    ·rw[e];exact hnew 0 (by omega) k hk
 have HF:=ai fin
 have HR:=ai hpush
 have o3:w.cell? ⟨ob,3,none⟩=some (.int .i64 (s:Int)):=(ho.cell 3).trans (by rw[<-hside];rfl)
 clear fin hpush
 have e2:s=0\/s=1:=by omega
 rcases e2 with rfl|rfl
 all_goals
  go_enter Tryz.func118,Tryz.ntmps118
  go_wp2
  go_region_with (first|(go_at_call 150;refine (ae HR _).mono ?_;rintro e w2 ⟨rfl,hw2⟩))
  all_goals
   go_wp2
   go_end0
   exact⟨rfl,ae HF _ _ hw2⟩
structure uZ(w:World)(H bb b:Nat)(p:Int):Prop where
 uO:uY w H bb b
 place:az w (H+2) #[.int .i64 p] 3
theorem uZ.aC{w w':World}{H bb b:Nat}{p:Int}(h:uZ w H bb b p){S:Nat->Prop}(k:au S w w')(h1:¬S H)(h2:¬S (H+1))(h3:¬S (H+2)):uZ w' H bb b p:=⟨h.uO.aC k h1 h2,k.aB h.place h3⟩
theorem az.QC(w:World)(o o2:Obj)(c:Array Value)(t:TypeId):az (((w.alloc o).alloc o2).alloc (.cells c t)) (w.heap.size+2) c t:=by
 have h:=az.new ((w.alloc o).alloc o2) c t
 have e:((w.alloc o).alloc o2).heap.size=w.heap.size+2:=by simp
 rw[e]at h
 exact h
structure Tr where
 num:Int
 sym:ByteArray
 af:Int
 aI:Int
 kZ:Int
 fM:Int
 day:Int
def Tr.cells(t:Tr):List Value:=[.int .i64 t.num,.string t.sym,.int .i64 t.af,.int .i64 t.aI,.int .i64 t.kZ,.int .i64 t.fM,.int .i64 t.day]
def Tr.val(t:Tr):Value:=.agg #[.int .i64 t.num,.string t.sym,.int .i64 t.af,.int .i64 t.aI,.int .i64 t.kZ,.int .i64 t.fM,.int .i64 t.day]
structure Tg where
 t:Tr
 holds:Bool
def Tg.cells(g:Tg):Array Value:=#[.int .i64 g.t.num,.string g.t.sym,.int .i64 g.t.af,.int .i64 g.t.aI,.int .i64 g.t.kZ,.int .i64 g.t.fM,.int .i64 g.t.day,.bool g.holds]
structure Rc where
 num:Int
 kind:Int
 t:Tr
def Rc.cells(r:Rc):List Value:=[.int .i64 r.num,.int .i64 r.kind,.int .i64 r.t.num,.string r.t.sym,.int .i64 r.t.af,.int .i64 r.t.aI,.int .i64 r.t.kZ,.int .i64 r.t.fM,.int .i64 r.t.day]
def iW(rs:List Rc):List Value:=rs.flatMap Rc.cells
theorem Jj(rs:List Rc)(r:Rc):iW (rs++[r])=iW rs++r.cells:=by simp[iW,List.flatMap_append]
theorem D6(rs:List Rc):(iW rs).length=rs.length * 9:=by
 induction rs with
 | nil=>rfl
 | cons r rs ih=>simp only[iW,List.flatMap_cons,List.length_append,List.length_cons]at ih ⊢;rw[ih];simp only[Rc.cells,List.length_cons,List.length_nil];omega
inductive dS where
 | fA (b:Nat) (o:Ord)
 | left (b:Nat)
 | eQ (b:Nat) (p:Int)
 | entered (id:Int)
 | cO (s:ByteArray)
 | iH (t:Tr)
 | jw (tb:Nat)
 | iE (tb:Nat) (p:Int)
 | closed
structure Lg where
 tr:List Tg
 tp:List Rc
 day:Int
 na:Nat
 nt:List dS
 ud:Nat
structure Lm where
 tv:Value
 pv:Value
 tb:List Nat
 av:Value
 ac:List (Value × List Value)
 jv:Value
 jn:List Value
def gy(av:Value)(ac:List (Value × List Value))(b:Nat):Prop:=av.ownBlock=some b\/∃a,a∈ac/\a.1.ownBlock=some b
def Lm.F(m:Lm)(b:Nat):Prop:=m.tv.ownBlock=some b\/(m.pv.ownBlock=some b\/m.jv.ownBlock=some b)\/b∈m.tb\/gy m.av m.ac b
def qM(bm bo:Nat)(m:Lm)(day:Int):Array Value:=#[.map (some bm),.map (some bo),m.tv,m.pv,.int .i64 day,m.av,m.jv]
theorem bF{w:World}{base e size n:Nat}{v:Value}{xs:List Value}(h:w.ownsRow base e size v n xs){b:Nat}(hb:v.ownBlock=some b):∃cs,az w b cs e:=by
 rcases h.2 with⟨rfl,_⟩|⟨g,cap,cs,rfl,_,hg,_⟩
 ·simp[Value.ownBlock]at hb
 ·simp only[Value.ownBlock,Option.some.injEq]at hb
  subst hb
  exact⟨cs,hg⟩
structure E8(w:World)(av:Value)(ac:List (Value × List Value))(na nf:Nat):Prop where
 row:w.ownsRow 0 109 1 av ac.length (ac.map Prod.fst)
 own:∀a,a∈ac->w.ownsRow 0 1 1 a.1 a.2.length a.2
 dis:(ac.filterMap (fun a=>a.1.ownBlock)).Nodup
 len:ac.length=na
 last:∀a,ac.getLast?=some a->a.2.length=nf
theorem E8.fZ{w:World}{av:Value}{ac:List (Value × List Value)}{na nf:Nat}(h:E8 w av ac na nf){b:Nat}(hb:gy av ac b):∃cs t,az w b cs t/\(t=109\/t=1):=by
 rcases hb with hb|⟨a,ha,hb⟩
 ·obtain⟨cs,hc⟩:=bF h.row hb;exact⟨cs,109,hc,.inl rfl⟩
 ·obtain⟨cs,hc⟩:=bF (h.own a ha) hb;exact⟨cs,1,hc,.inr rfl⟩
theorem aG{w w':World}{base e size n:Nat}{v:Value}{xs:List Value}(h:w.ownsRow base e size v n xs){S:Nat->Prop}(k:au S w w')(hS:∀b,v.ownBlock=some b->¬S b):w'.ownsRow base e size v n xs:=by
 refine⟨h.1,?_⟩
 rcases h.2 with h|⟨g,cap,cs,rfl,h1,hg,h3⟩
 ·exact .inl h
 ·exact .inr ⟨g,cap,cs,rfl,h1,k.aB hg (hS g rfl),h3⟩
theorem E8.aC{w w':World}{av:Value}{ac:List (Value × List Value)}{na nf:Nat}(h:E8 w av ac na nf){S:Nat->Prop}(k:au S w w')(hS:∀b,gy av ac b->¬S b):E8 w' av ac na nf :=
 ⟨aG h.row k (fun b hb=>hS b (.inl hb)),fun a ha=>aG (h.own a ha) k (fun b hb=>hS b (.inr ⟨a,ha,hb⟩)),h.dis,h.len,h.last⟩
structure oZ(w:World)(G:Lg)(m:Lm)(q:Nat):Prop where
 jq:w.ownsRow 0 103 1 m.tv G.tr.length (m.tb.map dn)
 iF:w.ownsRow 0 62 9 m.pv G.tp.length (iW G.tp)
 len:m.tb.length=G.tr.length
 aB:∀(i b:Nat) (g:Tg),m.tb[i]?=some b->G.tr[i]?=some g->az w b g.cells 105
 nodup:m.tb.Nodup
 act:E8 w m.av m.ac G.na G.nt.length
 kH:w.ownsRow 0 5 1 m.jv m.jn.length m.jn
 jb:m.jn.length<=300 * q
abbrev YX(w:World)(G:Lg)(m:Lm):Prop:=oZ w G m (G.ud+G.na)
structure fP(w:World)(bv bm bo:Nat)(G:Lg)(m:Lm)(q:Nat):Prop where
 dA:az w bv (qM bm bo m G.day) 100
 aO:oZ w G m q
abbrev bu(w:World)(bv bm bo:Nat)(G:Lg)(m:Lm):Prop:=fP w bv bm bo G m (G.ud+G.na)
theorem oZ.fZ{w:World}{G:Lg}{m:Lm}{q:Nat}(h:oZ w G m q){b:Nat}(hb:m.F b):∃cs t,az w b cs t/\(t=103\/t=62\/t=105\/t=109\/t=1\/t=5):=by
 rcases hb with hb|(hb|hb)|hb|hb
 ·obtain⟨cs,hc⟩:=bF h.jq hb;exact⟨cs,103,hc,.inl rfl⟩
 ·obtain⟨cs,hc⟩:=bF h.iF hb;exact⟨cs,62,hc,.inr (.inl rfl)⟩
 ·obtain⟨cs,hc⟩:=bF h.kH hb;exact⟨cs,5,hc,.inr (.inr (.inr (.inr (.inr rfl))))⟩
 ·obtain⟨i,hi,e⟩:=List.mem_iff_getElem.1 hb
  have hj:i<G.tr.length:=by rw[<-h.len];exact hi
  exact⟨_,105,h.aB i b _ (by rw[List.getElem?_eq_getElem hi,e]) (List.getElem?_eq_getElem hj),.inr (.inr (.inl rfl))⟩
 ·obtain⟨cs,t,hc,ht⟩:=h.act.fZ hb
  exact⟨cs,t,hc,ht.elim (fun e=>.inr (.inr (.inr (.inl e)))) (fun e=>.inr (.inr (.inr (.inr (.inl e)))))⟩
theorem oZ.lt{w:World}{G:Lg}{m:Lm}{q:Nat}(h:oZ w G m q){b:Nat}(hb:m.F b):b<w.heap.size:=by
 obtain⟨cs,t,hc,_⟩:=h.fZ hb
 exact hc.lt
theorem oZ.ne{w:World}{G:Lg}{m:Lm}{q:Nat}(h:oZ w G m q){b:Nat}{c:Array Value}{t:TypeId}(hb:az w b c t)(h1:t≠103)(h2:t≠62)(h3:t≠105)(h4:t≠109:=by decide)(h5:t≠1/\t≠5:=by decide):¬m.F b:=by
 intro hf
 obtain⟨cs,t',hc,ht⟩:=h.fZ hf
 unfold az at hb hc
 rw[hb]at hc
 simp only[Option.some.injEq,Obj.cells.injEq]at hc
 obtain⟨_,e,_⟩:=hc
 subst e
 rcases ht with e|e|e|e|e|e
 ·exact h1 e
 ·exact h2 e
 ·exact h3 e
 ·exact h4 e
 ·exact h5.1 e
 ·exact h5.2 e
theorem oZ.aC{w w':World}{G:Lg}{m:Lm}{q:Nat}(h:oZ w G m q){S:Nat->Prop}(k:au S w w')(hS:∀b,m.F b->¬S b):oZ w' G m q :=
 ⟨aG h.jq k (fun b hb=>hS b (.inl hb)),aG h.iF k (fun b hb=>hS b (.inr (.inl (.inl hb)))),h.len,fun i b g hi hg=>k.aB (h.aB i b g hi hg) (hS b (.inr (.inr (.inl (List.mem_of_getElem? hi))))),h.nodup,h.act.aC k (fun b hb=>hS b (.inr (.inr (.inr hb)))),aG h.kH k (fun b hb=>hS b (.inr (.inl (.inr hb)))),h.jb⟩
theorem fP.aC{w w':World}{bv bm bo:Nat}{G:Lg}{m:Lm}{q:Nat}(h:fP w bv bm bo G m q){S:Nat->Prop}(k:au S w w')(h1:¬S bv)(hS:∀b,m.F b->¬S b):fP w' bv bm bo G m q :=
 ⟨k.aB h.dA h1,h.aO.aC k hS⟩
theorem fP.aH{w w':World}{bv bm bo:Nat}{G:Lg}{m:Lm}{q:Nat}(h:fP w bv bm bo G m q)(k:au aP w w'):fP w' bv bm bo G m q:=h.aC k (fun x=>x) (fun _ _ x=>x)
theorem fP.Jb{w:World}{bv bm bo:Nat}{G:Lg}{m:Lm}{q:Nat}(h:fP w bv bm bo G m q):¬m.F bv:=h.aO.ne h.dA (by decide) (by decide) (by decide)
def Lg.told(G:Lg)(kind:Int)(t:Tr):Lg:={ G with tp:=G.tp++[⟨(G.tp.length:Int)+1,kind,t⟩] }
theorem XA:(Tryz.prog.info? 62).map (fun i=>(i.zero.map (fun z=>z.cells.size),i.size,i.bytes))=some (some 9,9,80):=by kernel_rfl
theorem XB:(Tryz.prog.info? 103).map (fun i=>(i.zero,i.size,i.bytes))=some (some (.pointer none),1,8):=by kernel_rfl
theorem vF:∃i z,Tryz.prog.info? 62=some i/\i.zero=some z/\i.size=9/\i.bytes=80/\z.cells.size=9:=by
 have h:=XA
 cases hi:Tryz.prog.info? 62 with
 | none=>rw[hi]at h;simp at h
 | some i =>
   rw[hi]at h
   simp at h
   obtain⟨⟨z,hz,hs⟩,h2,h3⟩:=h
   exact⟨i,z,rfl,hz,h2,h3,hs⟩
theorem aaj(w:World)(r:Rc):∀j u,r.cells[j]?=some u->(w.alloc (.cells #[.int .i64 r.num,.int .i64 r.kind,.int .i64 r.t.num,.string r.t.sym,.int .i64 r.t.af,.int .i64 r.t.aI,.int .i64 r.t.kZ,.int .i64 r.t.fM,.int .i64 r.t.day] 62)).cell? (Addr.add ⟨w.heap.size,0,none⟩ j)=some u:=by
 intro j u hj
 have hb:=az.new w #[.int .i64 r.num,.int .i64 r.kind,.int .i64 r.t.num,.string r.t.sym,.int .i64 r.t.af,.int .i64 r.t.aI,.int .i64 r.t.kZ,.int .i64 r.t.fM,.int .i64 r.t.day] 62
 have e:Addr.add ⟨w.heap.size,0,none⟩ j=⟨w.heap.size,j,none⟩:=by simp[Addr.add];omega
 rw[e,hb.cell,<-hj]
 simp[Rc.cells]
theorem bV{w:World}{base e size n:Nat}{v:Value}{xs:List Value}(h:w.ownsRow base e size v n xs){b:Nat}(hb:v.ownBlock=some b){b':Nat}{c:Array Value}{t:TypeId}(hb':az w b' c t)(ht:e≠t):b≠b':=by
 obtain⟨cs,hc⟩:=bF h hb
 exact az.ne hc hb' ht
theorem fP.NT{w1 w2:World}{bv bm bo:Nat}{G:Lg}{m:Lm}(h:bu w1 bv bm bo G m){n H g cap:Nat}{r:Rc}(hn:G.tp.length=n)(hown:w2.ownsRow 0 62 9 (.slice (some ⟨g,0,none⟩) (n+1) cap) (n+1) (iW G.tp++r.cells))(hgrow:w1.grownBy w2 m.pv.ownBlock)(hat:m.pv.ownBlock=some g\/g=H)(hH:w1.heap.size=H) :
 bu (w2.setCell ⟨bv,3,none⟩ (.slice (some ⟨g,0,none⟩) (n+1) cap)) bv bm bo { G with tp:=G.tp++[r] } { m with pv:=.slice (some ⟨g,0,none⟩) (n+1) cap } /\
  (∀b,Lm.F { m with pv:=.slice (some ⟨g,0,none⟩) (n+1) cap } b->m.F b\/H<=b)/\au (fun b=>b=bv\/m.pv.ownBlock=some b) w1 (w2.setCell ⟨bv,3,none⟩ (.slice (some ⟨g,0,none⟩) (n+1) cap)):=by
 have hb2:az w2 bv (qM bm bo m G.day) 100:=(hgrow.block bv h.dA.lt (fun e=>h.Jb (.inr (.inl (.inl e.symm))))).trans h.dA
 have k2:au (fun b=>b=bv\/m.pv.ownBlock=some b) w1 (w2.setCell ⟨bv,3,none⟩ (.slice (some ⟨g,0,none⟩) (n+1) cap)) :=
  ((au.refl _ w1).grown hgrow (fun k e=>.inl (.inr e))).setCell (p:=⟨bv,3,none⟩) (.inl (.inl rfl)) _
 have k3:au (fun b=>b=bv) w2 (w2.setCell ⟨bv,3,none⟩ (.slice (some ⟨g,0,none⟩) (n+1) cap)):=(au.refl (fun b=>b=bv) w2).setCell (p:=⟨bv,3,none⟩) (.inl rfl) _
 refine⟨⟨hb2.set 3 _,?_⟩,?_,k2⟩
 ·refine⟨aG h.aO.jq k2 ?_,?_,h.aO.len,fun i b g hi hg=>k2.aB (h.aO.aB i b g hi hg) ?_,h.aO.nodup,h.aO.act.aC k2 ?_,aG h.aO.kH k2 ?_,h.aO.jb⟩
  ·rintro b hb (e|e)
   ·exact bV h.aO.jq hb h.dA (by decide) e
   ·obtain⟨cs,hc⟩:=bF h.aO.iF e
    exact bV h.aO.jq hb hc (by decide) rfl
  ·simp only[List.length_append,List.length_cons,List.length_nil,hn,Jj]
   refine aG hown k3 (fun b hb e=>?_)
   exact bV hown hb hb2 (by decide) e
  ·have hbk:=h.aO.aB i b g hi hg
   rintro (e|e)
   ·exact az.ne hbk h.dA (by decide) e
   ·exact bV h.aO.iF e hbk (by decide) rfl
  ·intro b hb
   obtain⟨cs,t,hc,ht⟩:=h.aO.act.fZ hb
   rintro (e|e)
   ·exact az.ne hc h.dA (by rcases ht with rfl|rfl <;> decide) e
   ·exact bV h.aO.iF e hc (by rcases ht with rfl|rfl <;> decide) rfl
  ·rintro b hb (e|e)
   ·exact bV h.aO.kH hb h.dA (by decide) e
   ·obtain⟨cs,hc⟩:=bF h.aO.iF e
    exact bV h.aO.kH hb hc (by decide) rfl
 ·rintro b (hb|(hb|hb)|hb)
  ·exact .inl (.inl hb)
  ·simp only[Value.ownBlock,Option.some.injEq]at hb
   rcases hat with e|e
   ·exact .inl (.inr (.inl (.inl (by rw[e,hb]))))
   ·right;omega
  ·exact .inl (.inr (.inl (.inr hb)))
  ·exact .inl (.inr (.inr hb))
theorem Un(w:World):Calls Tryz.prog 158 #[.int .u64 0] w fun e w'=>(∃n,e=.returned (.int .i64 n))/\w'=w:=by
 have h75:Calls Tryz.prog 188 #[.int .u64 0] w fun e w'=>(∃n,e=.returned (.int .i64 n))/\w'=w:=by
  go_enter Tryz.func188,Tryz.ntmps188
  go_wp2
  all_goals (go_ret;exact⟨⟨_,rfl⟩,rfl⟩)
 go_enter Tryz.func158,Tryz.ntmps158
 go_wp2_with (go_at_call 188;refine h75.mono ?_;rintro e w' ⟨⟨n,rfl⟩,rfl⟩)
 all_goals (go_ret;exact⟨⟨_,rfl⟩,rfl⟩)
theorem Gg(fv:Value)(w:World):Calls Tryz.prog 179 #[.slice none 0 0,.int .i64 0,.int .i64 0,fv] w fun e w'=>e=.returned (.tuple #[])/\w'=w:=by
 go_enter Tryz.func179,Tryz.ntmps179
 go_wp2
 refine wp_loop_rounds 1 ?_
 rw[rounds_succ]
 go_wp2
 go_end0
 exact⟨rfl,rfl⟩
theorem aal(lim:Int)(fv:Value)(w:World):Calls Tryz.prog 157 #[.slice none 0 0,.int .i64 0,.int .i64 0,.int .i64 lim,fv] w fun e w'=>e=.returned (.tuple #[])/\w'=w:=by
 go_enter Tryz.func157,Tryz.ntmps157
 go_wp2
 refine wp_loop_rounds 1 ?_
 rw[rounds_succ]
 go_wp2_with (go_at_call 179;refine (Gg _ _).mono ?_;rintro e w' ⟨rfl,rfl⟩)
 (try simp only[Exit.inBlock,Exit.then])
 refine bodyPost_ret (results_none rfl _ _ _) rfl ?_
 exact⟨rfl,rfl⟩
theorem J4(fv:Value)(w:World):Calls Tryz.prog 128 #[.slice none 0 0,fv] w fun e w'=>e=.returned (.tuple #[])/\w'=w:=by
 go_enter Tryz.func128,Tryz.ntmps128
 go_wp2_with (first|(go_at_call 158;refine (Un _).mono ?_;rintro e w' ⟨⟨n,rfl⟩,rfl⟩)|(go_at_call 157;refine (aal _ _ _).mono ?_;rintro e w' ⟨rfl,rfl⟩))
 go_end0
 exact⟨rfl,rfl⟩
open Go.RowKit Go.Sort
theorem pG(a b:Ord):kU a b=true↔((if a.side=0 then b.af<a.af else a.af<b.af)\/(a.af=b.af/\a.place<b.place)):=by
 unfold kU jQ SE lL
 simp only[decide_eq_true_eq]
 by_cases hs:a.side=0 <;> simp only[hs,if_true,if_false] <;> (repeat' split) <;> omega
theorem gQ(a b:Ord):kU a b=false↔¬((if a.side=0 then b.af<a.af else a.af<b.af)\/(a.af=b.af/\a.place<b.place)):=by
 rw[<-pG,Bool.not_eq_true]
theorem kL(om:Nat->Ord)(s:Int):Tj (fG om) (fun x=>(om x).side=s):=by
 refine⟨?_,?_,?_⟩
 ·intro x y hx hy h
  unfold fG at *
  rw[pG]at h
  rw[gQ]
  rw[hx]at h
  rw[hy]
  split at h <;> simp_all <;> omega
 ·intro x y z hx hy hz h1 h2
  unfold fG at *
  rw[gQ]at *
  rw[hy]at h1
  rw[hz]at h2
  rw[hz]
  by_cases hs:s=0 <;> simp only[hs,if_true,if_false]at * <;> omega
 ·intro x hx
  unfold fG at *
  rw[gQ]
  split <;> omega
def Oh(w:World)(om:Nat->Ord)(s:Int)(x:Nat):Prop:=(∃ix,df w x (om x) ix)/\(om x).side=s
def DZ{w:World}{om:Nat->Ord}{s:Int}(x:{ x:Nat // Oh w om s x }):Value:=tN x.1
def Zd{w:World}{om:Nat->Ord}{s:Int}(x y:{ x:Nat // Oh w om s x }):Int:=jQ (om x.1) (om y.1)
theorem Em{w:World}{om:Nat->Ord}{s:Int}(x y:{ x:Nat // Oh w om s x }):ltOf Zd x y=fG om x.1 y.1:=rfl
theorem aaC(w:World)(om:Nat->Ord)(s:Int):SWO (ltOf (@Zd w om s)):=by
 have pre:=kL om s
 refine⟨fun x=>?_,fun x y z h1 h2=>?_,fun x y z h1 h2=>?_⟩
 ·rw[Em];exact pre.irr _ x.2.2
 ·rw[Em]at *
  cases h:fG om x.1 z.1 with
  | true=>rfl
  | false =>
    have h3:=pre.trans y.1 z.1 x.1 y.2.2 z.2.2 x.2.2 (pre.Tu _ _ y.2.2 z.2.2 h2) h
    rw[h3]at h1
    exact h1
 ·rw[Em]at *
  exact pre.trans z.1 y.1 x.1 z.2.2 y.2.2 x.2.2 h2 h1
theorem zC{α:Type}[Inhabited α](enc:α->Value)(w:World)(aB off m:Nat)(dk:Array α)(os:Array Obj){k:Nat}(hk:k<w.heap.size)(hne:k≠aB):(sortWorld enc w aB off m dk os).heap[k]?=w.heap[k]?:=by
 unfold sortWorld putRow mapBlock grow
 simp only[Array.getElem?_append,Array.size_modify,Array.getElem?_modify]
 rw[if_pos (by simpa [Sort.ahead] using hk),if_neg (fun e=>hne e.symm)]
 rfl
theorem tX{α:Type}[Inhabited α](enc:α->Value)(w:World)(aB off m:Nat)(dk:Array α)(os:Array Obj):au (fun x=>x=aB) w (sortWorld enc w aB off m dk os) :=
 ⟨rfl,rfl,rfl,by simp[sortWorld,putRow,mapBlock,grow,Sort.ahead],fun k hk hne=>zC enc w aB off m dk os hk hne⟩
theorem Ze{w:World}{om:Nat->Ord}{s:Int}[Inhabited { x:Nat // Oh w om s x }]{aB size:Nat}{cs:Array Value}(hb:az w aB cs 114):CmpLays1 Tryz.prog 83 #[] (@DZ w om s) Zd aB 0 size w:=by
 intro m os dk hs x y
 obtain⟨ix,hx⟩:=x.2.1
 obtain⟨iy,hy⟩:=y.2.1
 have k:=tX (@DZ w om s) w aB 0 m dk os
 exact O1 x.1 y.1 _ _ ix iy _ (k.aB hx (az.ne hx hb (by decide))) (k.aB hy (az.ne hy hb (by decide)))
theorem QY{w:World}{om:Nat->Ord}{s:Int}[Inhabited { x:Nat // Oh w om s x }]{aB len n:Nat}{f:Nat->Nat}{cs:Array Value}(hb:az w aB cs 114){d d':Array { x:Nat // Oh w om s x }}{os:Array Obj}
 (hd:d.size=len) (hdf:∀j,j<len->(d[j]!).1=f j) (hH:Holds DZ w aB 0 d) (hp:PermIn 0 d.size d d') (hs:SortedIn (ltOf Zd) 0 d.size d') :
 ∃ys:List Nat,ys.Perm (upto f len)/\ys.Pairwise (fun a b=>fG om b a=false)/\(∀j,j<len->(sortWorld DZ w aB 0 n d' os).cell? ⟨aB,j,none⟩=some (tN (ys.getD j 0))):=by
 have hd':d'.size=len:=hp.1.trans hd
 refine⟨d'.toList.map Subtype.val,?_,?_,?_⟩
 ·have h3:=hp.2.2
  rw[hd,Array.extract_eq_self_of_le (by omega),Array.extract_eq_self_of_le (by omega)]at h3
  have h4:=h3.map Subtype.val
  have:d.toList.map Subtype.val=upto f len:=by
   apply List.ext_getElem
   ·simp[upto,hd]
   ·intro i h1 h2
    have hi:i<len:=by simpa [upto] using h2
    have:=hdf i hi
    rw[getElem!_pos d i (by omega)]at this
    simp[upto,this]
  rw[<-this]
  exact h4
 ·rw[List.pairwise_map,List.pairwise_iff_getElem]
  intro i j hi hj hij
  have hi':i<d'.size:=by simpa using hi
  have hj':j<d'.size:=by simpa using hj
  have:=hs i j (Nat.zero_le _) hij (by omega)
  rw[getElem!_pos d' i hi',getElem!_pos d' j hj',Em]at this
  simpa using this
 ·intro j hj
  have:=(holds_sortWorld DZ w aB 0 n d d' os hb.lt hH hp.1 j (by omega)).1
  rw[Nat.zero_add,getElem!_pos d' j (by omega)]at this
  rw[this]
  have hj':j<d'.toList.length:=by simpa [hd'] using hj
  simp[DZ,List.getD_eq_getElem?_getD,hj',hd',hj]
theorem EN(aB cap len:Nat)(f:Nat->Nat)(om:Nat->Ord)(s:Int)(w:World)(h0:0<len)(hlen:len<=100000)(hl:∀j,j<len->Oh w om s (f j))(cs:Array Value)(hb:az w aB cs 114)(hc:∀j,j<len->cs[j]?=some (tN (f j))) :
 Calls Tryz.prog 128 #[.slice (some ⟨aB,0,none⟩) len cap,.func (.func 83) #[] #[]] w fun e w'=>e=.returned (.tuple #[]) /\
  ∃ys:List Nat,ys.Perm (upto f len)/\ys.Pairwise (fun a b=>fG om b a=false)/\(∀j,j<len->w'.cell? ⟨aB,j,none⟩=some (tN (ys.getD j 0)))/\au (fun x=>x=aB) w w':=by
 let inh:Inhabited { x:Nat // Oh w om s x }:=⟨⟨f 0,hl 0 h0⟩⟩
 obtain⟨d,hd,hdf⟩:∃d:Array { x:Nat // Oh w om s x },d.size=len/\∀j,j<len->(d[j]!).1=f j:=by
  refine⟨Array.ofFn (n:=len) (fun j=>⟨f j,hl j j.2⟩),by simp,fun j hj=>?_⟩
  rw[getElem!_pos _ j (by simpa using hj)]
  simp
 have hH:Holds DZ w aB 0 d:=by
  intro j hj
  rw[hd]at hj
  rw[Nat.zero_add]
  refine⟨(hb.cell j).trans ((hc j hj).trans ?_),hb.frozen j⟩
  unfold DZ
  rw[hdf j hj]
 have eg:∀args w,(callFunc 83 args).run Tryz.prog w=.ok (.enter 83 args) w:=enters_of Tryz.func83 (by kernel_rfl) rfl
 have hcon:=Any.slices_SortFunc aaz (@DZ w om s) (fun _=>rfl) Zd (aaC w om s) 83 #[] aB 0 cap d w eg (Ze hb) hH hb.lt (by omega)
 change Calls Tryz.prog 128 _ _ _ at hcon
 rw[hd]at hcon
 refine hcon.mono ?_
 rintro e w' ⟨rfl,d',n,os,hp,hs,rfl⟩
 obtain⟨ys,h1,h2,h3⟩:=QY (n:=n) (os:=os) hb hd hdf hH (by rw[hd];exact hp) (by rw[hd];exact hs)
 exact⟨rfl,ys,h1,h2,h3,tX _ _ _ _ _ _ _⟩
def IX(n₀:Nat)(w:World)(v:Value)(ys:List Nat):Prop :=
 (v=.slice none 0 0/\ys=[])\/∃b cap,v=.slice (some ⟨b,0,none⟩) ys.length cap/\n₀<=b/\ys.length<=cap/\∀j,j<ys.length->w.cell? ⟨b,j,none⟩=some (tN (ys.getD j 0))
def uA(len:Nat)(f:Nat->Nat)(om:Nat->Ord)(w:World)(v:Value)(w':World):Prop :=
 ∃ys:List Nat,ys.Perm (upto f len)/\ys.Pairwise (fun a b=>fG om b a=false)/\IX w.heap.size w' v ys/\Below w.heap.size w w'
theorem aaA(len:Nat)(f:Nat->Nat)(om:Nat->Ord)(s:Int)(w W:World)(v:Value)(hlen:len<=100000)(hl:∀j,j<len->Oh w om s (f j))(hr:W.ownsRow w.heap.size 114 1 v len ((upto f len).map tN))(hn:v=.slice none 0 0↔upto f len=[])(hB:Below w.heap.size w W) :
 Calls Tryz.prog 128 #[v,.func (.func 83) #[] #[]] W fun e w'=>e=.returned (.tuple #[])/\uA len f om w v w':=by
 obtain⟨hr1,⟨rfl,rfl⟩|⟨g,cap,cur,rfl,hg,hb,hcap,hcm,hsz,htk⟩⟩:=hr
 ·refine (J4 _ W).mono ?_
  rintro e w' ⟨rfl,rfl⟩
  exact⟨rfl,[],by simp[upto],List.Pairwise.nil,.inl ⟨rfl,rfl⟩,hB⟩
 ·have h0:0<len:=by
   rcases Nat.eq_zero_or_pos len with h|h
   ·subst h
    have:=hn.2 (by simp[upto])
    cases this
   ·exact h
  have hl':∀j,j<len->Oh W om s (f j):=fun j hj=>by
   obtain⟨⟨ix,ho⟩,hs⟩:=hl j hj
   exact⟨⟨ix,(hB.block (f j) ho.lt).trans ho⟩,hs⟩
  have hc:∀j,j<len->cur[j]?=some (tN (f j)):=fun j hj=>by
   have h1:(cur.toList.take (len * 1))[j]?=((upto f len).map tN)[j]?:=by rw[htk]
   rw[List.getElem?_take,if_pos (by omega)]at h1
   rw[<-Array.getElem?_toList,h1]
   simp[upto,hj]
  refine (EN g cap len f om s W h0 hlen hl' cur hb hc).mono ?_
  rintro e w' ⟨rfl,ys,h1,h2,h3,h4⟩
  have hy:ys.length=len:=by rw[h1.length_eq,lU]
  refine⟨rfl,ys,h1,h2,.inr ⟨g,cap,by rw[hy],hg,by omega,fun j hj=>h3 j (by omega)⟩,?_⟩
  exact hB.trans (h4.KI hB.size (fun k e=>by omega))
theorem Aq(Bs:Nat)(a:Option Addr)(len cap:Nat)(f:Nat->Nat)(om:Nat->Ord)(s:Int)(hlen:len<=100000)(w:World)(hBs:Bs<w.heap.size)
 (hcB:w.cell? ⟨Bs,0,none⟩=some (.slice a len cap)) (hI:DL w.heap.size w a len cap f) (hl:∀j,j<len->Oh w om s (f j)) :
 Calls Tryz.prog 81 #[.func (.func 129) #[] #[.pointer (some ⟨Bs,0,none⟩)],.func (.func 83) #[] #[]] w fun e w'=>∃v,e=.returned v/\uA len f om w v w':=by
 have Zy:=FN Bs a len cap f hlen w hBs hcB hI
 have hsort:=fun (W:World) (v:Value) hr hn hB=>aaA len f om s w W v hlen hl hr hn hB
 clear hcB hI hl
 go_enter Tryz.func81,Tryz.ntmps81
 go_wp2_with (first|(go_at_call 127;refine Zy.mono ?_;clear Zy;rintro e w1 ⟨v,rfl,hr,hn,hB⟩;have hs:=hsort w1 v hr hn hB;clear hsort hr hn hB)|(go_at_call 128;refine hs.mono ?_;clear hs;rintro e w2 ⟨rfl,hp⟩))
 go_ret
 exact⟨v,rfl,hp⟩
open Go.RowKit Go.Shelf
attribute [local go_sem] Oper.semAt_some
theorem Fq(n:Nat)(a:Option Addr)(len cap:Nat)(w:World) :
 CallsIn Fence.wide n Tryz.prog 80 #[.slice a len cap] w fun e w'=>e=.returned (.func (.func 126) #[] #[.pointer (some ⟨w.heap.size,0,none⟩)])/\w'=w.alloc (.cells #[.slice a len cap] 109):=by
 refine callsIn_of_wp Tryz.func80 rfl trivial ?_ rfl
 simp only[Tryz.ntmps80,List.size_toArray,List.length_cons,List.length_nil,Nat.reduceAdd,Nat.reduceSub,Array.replicate_succ,Array.replicate_zero,List.push_toArray,List.append_toArray,List.nil_append,List.cons_append]
 gi_wp2
 go_ret
 exact⟨rfl,rfl⟩
theorem DT(n:Nat)(hn:1<=n)(l Bs ga len cap:Nat)(cl:Nat->Value)(hreach:len * 8<=140737488351232)(J:Nat->World->Prop)
 (hJ:∀k W,J k W->W.cell? ⟨Bs,0,none⟩=some (.slice (some ⟨ga,0,none⟩) len cap)/\∀j,j<len->W.cell? ⟨ga,j,none⟩=some (cl j))
 (hY:∀k j W,k+(j+1)=len->J k W->YieldAt Fence.wide (n-1) Tryz.prog l #[.int .i64 (j:Int),cl j] W fun e W'=>e=.returned (.bool true)/\J (k+1) W')
 (W:World) (h0:J 0 W) :
 CallsIn Fence.wide n Tryz.prog 126 #[.func (.yield l) #[] #[],.pointer (some ⟨Bs,0,none⟩)] W fun e W'=>(∃v,e=.returned v)/\J len W':=by
 have hBs:=(hJ 0 W h0).1
 refine callsIn_of_wp Tryz.func126 rfl trivial ?_ rfl
 simp only[Tryz.ntmps126,List.size_toArray,List.length_cons,List.length_nil,Nat.reduceAdd,Nat.reduceSub,Array.replicate_succ,Array.replicate_zero,List.push_toArray,List.append_toArray,List.nil_append,List.cons_append]
 gi_wp2
 gi_loopw [3] (fun i wr=>∃k j:Nat,k+j=len/\i=.int .i64 ((j:Int)-1)/\J k wr)
  (fun i _=>(intOf i+1).toNat)
 case atStart=>exact⟨0,len,by omega,by simp[wrap64],h0⟩
 case round =>
  obtain⟨k,j,hkj,rfl,hJs⟩:=hrel
  rcases j with _|j
  ·obtain rfl:k=len:=by omega
   rw[show (((0:Nat):Int)-1) = -1 by omega]
   gi_wp2
   go_end0
   exact⟨⟨_,rfl⟩,hJs⟩
  ·rw[show (((j+1:Nat):Int)-1)=(j:Int) by omega]
   obtain⟨hb,hc⟩:=hJ k wr hJs
   have hcj:=hc j (by omega)
   have hjl:j<len:=by omega
   have hge:decide ((0:Int)<=(j:Int))=true:=by simp
   obtain⟨fn,tmps,assign,body,hy,hR⟩:=hY k j wr hkj hJs
   gi_wp2
   refine hR.mono ?_
   rintro e W3 ⟨rfl,hJ3⟩
   gi_wp2
   go_roundw
   case rel=>exact⟨k+1,j,by omega,by simp[wrap64],hJ3⟩
   case measure=>simp[intOf,wrap64]
def WH(n₀ ga:Nat)(W:World)(x:Nat):Prop:=x≠ga/\(x<n₀\/∃c t,az W x c t/\t≠109)
def OO(n₀:Nat)(W:World)(x:Nat):Prop:=n₀<=x/\∀c t,¬az W x c t
theorem au.putObj{S:Nat->Prop}{a w:World}(h:au S a w){l:Nat}(hl:S l\/a.heap.size<=l)(o:Obj):au S a (w.putObj l o) :=
 h.grown (grownBy_putObj' w l o) (fun k e=>by cases e;exact hl)
theorem Oa{g:Operand}{ps:Array Tmp}{assign body:Code}{Q:Exit->Act->World->Prop}{a:Act}{w:World}(n₀ Bs ga len cap:Nat)(cl:Nat->Value)(I:Nat->World->Prop)(hreach:len * 8<=140737488351232)
 (hg:a.eval g=.func (.func 126) #[] #[.pointer (some ⟨Bs,0,none⟩)]) (hps:ps.size=2)
 (hbox:az w Bs #[.slice (some ⟨ga,0,none⟩) len cap] 109) (hB:n₀<=Bs) (hw:n₀<=w.heap.size)
 (hs:∀j,j<len->w.cell? ⟨ga,j,none⟩=some (cl j)) (hgl:ga<n₀)
 (Vx:∀k W W',I k W->au (OO n₀ W) W W'->I k W') (h0:I 0 w) (a₁:Nat->Act)
 (hassign:∀(l j:Nat) (W:World) (K:Act->World->Prop),K (a₁ j) W->assign.wpIn (Fence.wide.inRound l) 4 Tryz.prog (Exit.then K (fun _ _ _=>False)) { tmps:=(ps.zip #[.int .i64 (j:Int),cl j]).foldl (fun t (p,v)=>t.setIfInBounds p v) a.tmps,defers:=[] } W)
 (hbody:∀(l k j:Nat) (W:World),k+(j+1)=len->I k W->n₀<=W.heap.size->body.wpIn (Fence.wide.inRound l) 4 Tryz.prog (fun e _ W'=>e=.normal/\I (k+1) W'/\au (WH n₀ ga W) W W') (a₁ j) W)
 (hdone:∀(D:Nat) (W:World),n₀<=D->I len W->W.heap[D]?=some (.deferred (some []))->Q .normal { a with defers:={ target:=.collected D,args:=#[] } :: a.defers } W) :
 (Code.rangeFunc g ps assign body).wpIn Fence.wide 6 Tryz.prog Q a w:=by
 refine wpIn_rangeFunc ?_
 intro fn hfn
 obtain⟨rc,hrc⟩:∃rc:LoopState->Loop,rc=fun st=>{ state:=st,pending:=none,fn,tmps:=a.tmps,params:=ps,assign,body,defers:=w.heap.size }:=⟨_,rfl⟩
 obtain⟨W1,hW1⟩:∃W1,W1=(w.alloc (.deferred (some []))).alloc (.loop (rc .ready)):=⟨_,rfl⟩
 have hL1:W1.heap[w.heap.size+1]?=some (.loop (rc .ready)):=by
  rw[hW1];have:=World.alloc_heap_new (w.alloc (.deferred (some []))) (.loop (rc .ready));rwa [World.size_alloc]at this
 have hD1:W1.heap[w.heap.size]?=some (.deferred (some [])):=by
  rw[hW1];exact (Below.heap_alloc _ _ _ (by simp)).trans (World.alloc_heap_new w _)
 have k1:au aP w W1:=by rw[hW1];exact ((au.refl aP w).alloc _).alloc _
 refine⟨w.heap.size+1,[{ target:=.collected w.heap.size,args:=#[] }],W1,{ target:=.fn (.func 126) #[.pointer (some ⟨Bs,0,none⟩)],args:=#[.func (.yield (w.heap.size+1)) #[] #[]] },W1,126,#[.func (.yield (w.heap.size+1)) #[] #[],.pointer (some ⟨Bs,0,none⟩)],W1,?_,?_,fun _ _=>trivial,?_,fun h=>by simp[Fence.wide]at h,?_⟩
 ·rw[hW1,hrc];exact run_enterLoop_outer _ _ _ _ _
 ·simp only[resolve,hg]
  simp[go_sem]
 ·have:=enters_of (P:=Tryz.prog) Tryz.func126 (by kernel_rfl) rfl
  simp[invoke,go_sem,this _ _]
 have nT:∀W x o,n₀<=x->W.heap[x]?=some o->(∀c t,o=.cells c t->t=109)->¬WH n₀ ga W x:=by
  rintro W x o hx ho hc ⟨_,h|⟨c,t,h,ht⟩⟩
  ·omega
  ·unfold az at h;rw[ho]at h;exact ht (hc c t (by simpa using h))
 refine (DT 5 (by omega) (w.heap.size+1) Bs ga len cap cl hreach (fun k W=>I k W/\az W Bs #[.slice (some ⟨ga,0,none⟩) len cap] 109/\W.heap[ga]?=w.heap[ga]?/\W.heap[w.heap.size+1]?=some (.loop (rc .ready))/\W.heap[w.heap.size]?=some (.deferred (some []))) ?_ ?_ W1
  ⟨Vx 0 w W1 h0 k1.bI,k1.aB hbox (fun x=>x),k1.block ga (by omega) (fun x=>x),hL1,hD1⟩).mono ?_
 ·rintro k W ⟨_,hb,hga,_,_⟩
  exact⟨hb.cell 0,fun j hj=>(World.cell?_of_block (a:=⟨ga,j,none⟩) hga).trans (hs j hj)⟩
 ·rintro k j W hkj ⟨hi,hb,hga,hl,hd⟩
  have hlt:w.heap.size+1<W.heap.size:=(Array.getElem?_eq_some_iff.1 hl).1
  have hy:=run_yield (P:=Tryz.prog) (args:=#[.int .i64 (j:Int),cl j]) hl (by rw[hrc];simp[hps])
  rw[hrc]at hy
  refine⟨fn,_,assign,body,hy,roundIn_of_wpIn hfn (hassign _ j W _ ⟨_,run_beginRound hl (by rw[hrc]),?_⟩)⟩
  obtain⟨W2,hW2⟩:∃W2,W2=W.putObj (w.heap.size+1) (.loop { rc .ready with state:=.busy }):=⟨_,rfl⟩
  rw[<-hW2]
  have hl2:W2.heap[w.heap.size+1]?=some (.loop { rc .ready with state:=.busy }):=by rw[hW2];exact World.putObj_heap_same hlt
  have c2:au (OO n₀ W) W W2:=by
   rw[hW2]
   exact (au.refl _ W).putObj (.inl ⟨by omega,fun c t h=>by unfold az at h;rw[hl]at h;cases h⟩) _
  have nR:∀x o,W.heap[x]?=some o->x≠w.heap.size+1->W2.heap[x]?=some o:=fun x o ho hx=>by rw[hW2];exact (World.putObj_heap_other hx).trans ho
  have hd2:=nR _ _ hd (by omega)
  have hb2:az W2 Bs #[.slice (some ⟨ga,0,none⟩) len cap] 109:=c2.aB hb (fun h=>h.2 _ _ hb)
  have abg:W2.heap[ga]?=w.heap[ga]?:=by rw[hW2];exact (World.putObj_heap_other (by omega)).trans hga
  have hs2:W.heap.size<=W2.heap.size:=c2.size
  refine wpIn_mono (hbody _ k j W2 hkj (Vx k W W2 hi c2) (by omega)) ?_
  rintro e a3 W3 ⟨rfl,hi3,k3⟩
  have hl3:=(k3.block _ (by omega) (nT W2 _ _ (by omega) hl2 (fun c t h=>by cases h))).trans hl2
  have hd3:=(k3.block _ (by omega) (nT W2 _ _ hw hd2 (fun c t h=>by cases h))).trans hd2
  have hb3:az W3 Bs #[.slice (some ⟨ga,0,none⟩) len cap] 109:=k3.aB hb2 (nT W2 _ _ hB hb2 (fun c t h=>by simp at h;exact h.2.symm))
  have abh:W3.heap[ga]?=w.heap[ga]?:=(k3.block ga (by omega) (fun h=>h.1 rfl)).trans abg
  have hlt3:w.heap.size+1<W3.heap.size:=(Array.getElem?_eq_some_iff.1 hl3).1
  refine⟨_,_,run_endRound none hl3,rfl,?_⟩
  have er:({ ({ rc .ready with state:=.busy }:Loop) with state:=if (none:Option Code).isNone then .ready else .done,pending:=none }:Loop)=rc .ready:=by rw[hrc];rfl
  rw[er]
  have c4:au (OO n₀ W3) W3 (W3.putObj (w.heap.size+1) (.loop (rc .ready))) :=
   (au.refl _ W3).putObj (.inl ⟨by omega,fun c t h=>by unfold az at h;rw[hl3]at h;cases h⟩) _
  exact⟨Vx _ _ _ hi3 c4,c4.aB hb3 (fun h=>h.2 _ _ hb3),(World.putObj_heap_other (by omega)).trans abh,World.putObj_heap_same hlt3,(World.putObj_heap_other (by omega)).trans hd3⟩
 ·rintro e W2 ⟨⟨v,rfl⟩,hi,hb,hga,hl,hd⟩
  have c4:=fun o=>(au.refl (OO n₀ W2) W2).putObj (l:=w.heap.size+1) (.inl ⟨by omega,fun c t h=>by unfold az at h;rw[hl]at h;cases h⟩) o
  refine⟨_,_,run_endLoop hl (by rw[hrc];simp),?_⟩
  have ep:(rc .ready).pending=none:=by rw[hrc]
  rw[ep]
  exact hdone _ _ hw (Vx _ _ _ hi (c4 _)) ((World.putObj_heap_other (by omega)).trans hd)
theorem GN(ga len cap:Nat)(cl:Nat->Nat × Array Value)(I:Nat->World->Prop)(w:World)(hreach:len * 8<=140737488351232)
 (hs:∀j,j<len->w.cell? ⟨ga,j,none⟩=some (.func (.func (cl j).1) #[] (cl j).2)) (hgl:ga<w.heap.size)
 (hen:∀j,j<len->Enters Tryz.prog (cl j).1)
 (hI:∀k j W,k+(j+1)=len->I k W->w.heap.size<=W.heap.size->Calls Tryz.prog (cl j).1 (cl j).2 W fun e W'=>e=.returned (.tuple #[])/\I (k+1) W'/\au (WH w.heap.size ga W) W W')
 (Vx:∀k W W',I k W->au (OO w.heap.size W) W W'->I k W') (h0:I 0 w) :
 Calls Tryz.prog 45 #[.slice (some ⟨ga,0,none⟩) len cap] w fun e w'=>e=.returned (.tuple #[])/\I len w':=by
 refine (callsIn_wide (n:=6)).1 ?_
 refine callsIn_of_wp_marks Tryz.func45 rfl trivial ?_ rfl
 simp only[Tryz.ntmps45,List.size_toArray,List.length_cons,List.length_nil,Nat.reduceAdd,Nat.reduceSub,Array.replicate_succ,Array.replicate_zero,List.push_toArray,List.append_toArray,List.nil_append,List.cons_append]
 gi_wp2
 refine⟨trivial,(Fq _ _ _ _ _).mono ?_⟩
 rintro e w1 ⟨rfl,rfl⟩
 gi_wp2
 have k1:au aP w (w.alloc (.cells #[.slice (some ⟨ga,0,none⟩) len cap] 109)):=(au.refl aP w).alloc _
 refine Oa w.heap.size w.heap.size ga len cap (fun j=>.func (.func (cl j).1) #[] (cl j).2) I hreach rfl rfl (az.new w _ _) (Nat.le_refl _) k1.size (fun j hj=>k1.cell (hs j hj) (fun x=>x)) hgl Vx (Vx 0 _ _ h0 k1.bI)
  (fun j=>{ tmps:=#[.slice (some ⟨ga,0,none⟩) len cap,undef,undef,.func (.func (cl j).1) #[] (cl j).2,.slice (some ⟨ga,0,none⟩) len cap,.func (.func 126) #[] #[.pointer (some ⟨w.heap.size,0,none⟩)],.int .i64 (j:Int),.func (.func (cl j).1) #[] (cl j).2,undef,undef],defers:=[] }) ?assign ?body ?done
 case assign =>
  intro l j W K hK
  gi_wp2
  exact hK
 case body =>
  intro l k j W hkj hi hW
  have he:=hen j (by omega)
  have hC:=hI k j W hkj hi hW
  gi_wp2
  refine⟨trivial,?_⟩
  rw[he _ _,Oper.uponIn_enter]
  refine⟨fun h=>by simp[Fence.wide,Fence.inRound]at h,?_⟩
  refine CallsIn.mono (show CallsIn (Fence.wide.inRound l) 3 _ _ _ _ _ from (callsIn_wide (n:=3)).2 hC) ?_
  rintro e W3 ⟨rfl,hi3,k3⟩
  gi_wp2
  all_goals first|exact hi3|exact k3|exact⟨hi3,k3⟩|exact⟨rfl,hi3,k3⟩
 case done =>
  intro D W hD hi hK
  refine⟨by simp,.inl ⟨_,_,rfl,run_takeDeferred hK,?_⟩⟩
  exact⟨_,results_none rfl _ _ _,rfl,Vx _ _ _ hi ((au.refl _ W).putObj (.inl ⟨hD,fun c t h=>by unfold az at h;rw[hK]at h;cases h⟩) _)⟩
end Go.Proofs.YtigaphnafnpfnaaGreatDoor
