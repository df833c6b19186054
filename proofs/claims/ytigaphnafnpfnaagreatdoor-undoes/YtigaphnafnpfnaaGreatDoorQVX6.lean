import Derived.Test.YtigaphnafnpfnaaGreatDoorQVX4
set_option linter.unusedVariables false
set_option linter.unusedSimpArgs false
set_option maxHeartbeats 8000000
set_option maxRecDepth 100000
namespace Go.Proofs.YtigaphnafnpfnaaGreatDoor
open Go.RowKit
attribute [local go_sem ↓] Go.wp_at_zero Go.wp_at_succ
def dw(o:iR)(taken uj full qG whole:Bool):Int :=
 if cZ o.id=false then 1 else if taken=true then 2 else if mG o.aG=false\/jH o.side=false then 4 else if nI o.kind=false then 5
 else if cZ o.az=false\/jM o.kind o.af=false then 4 else if uj=false then 6 else if full=true then 7 else if o.kind=4/\qG=true then 8 else if o.kind=3/\whole=true then 9 else 0
theorem GX(o:iR)(d uj b qG whole:Bool) :
 (cZ o.id=false/\dw o d uj b qG whole=1)\/(cZ o.id=true/\(
 (d=true/\dw o d uj b qG whole=2)\/(d=false/\(
 ((o.aG<0\/(¬o.aG<0/\9<o.aG)\/(¬o.aG<0/\¬9<o.aG/\o.side<0)\/(¬o.aG<0/\¬9<o.aG/\¬o.side<0/\1<o.side))/\dw o d uj b qG whole=4)\/((0<=o.aG/\o.aG<=9/\0<=o.side/\o.side<=1)/\(
 ((o.kind<0\/(¬o.kind<0/\5<o.kind))/\dw o d uj b qG whole=5)\/((0<=o.kind/\o.kind<=5)/\(
 ((cZ o.az=false\/(cZ o.az=true/\jM o.kind o.af=false))/\dw o d uj b qG whole=4)\/(cZ o.az=true/\jM o.kind o.af=true/\(
 (uj=false/\dw o d uj b qG whole=6)\/(uj=true/\(
 (b=true/\dw o d uj b qG whole=7)\/(b=false/\(
 (o.kind=4/\qG=true/\dw o d uj b qG whole=8)\/(o.kind=4/\qG=false/\dw o d uj b qG whole=0) \/
 (o.kind=3/\whole=true/\dw o d uj b qG whole=9)\/(o.kind=3/\whole=false/\dw o d uj b qG whole=0)\/(o.kind≠4/\o.kind≠3/\dw o d uj b qG whole=0))))))))))))))):=by
 cases c:cZ o.id
 ·left;simp[dw,c]
 ·right;refine⟨rfl,?_⟩;cases h2:d
  ·right;refine⟨rfl,?_⟩;by_cases j:0<=o.aG/\o.aG<=9/\0<=o.side/\o.side<=1
   ·right;refine⟨j,?_⟩;have f:¬(mG o.aG=false\/jH o.side=false):=by
     have:o.side=0\/o.side=1:=by omega
     rintro (h | h)
     ·simp[mG]at h;omega
     ·rcases this with e | e <;> rw[e]at h <;> simp[jH]at h
    by_cases k:0<=o.kind/\o.kind<=5
    ·right;refine⟨k,?_⟩;have a:¬(nI o.kind=false):=by simp[nI];omega
     cases h5:cZ o.az
     ·left;exact⟨.inl rfl,by simp[dw,c,f,a,h5]⟩
     ·cases h6:jM o.kind o.af
      ·left;exact⟨.inr ⟨rfl,rfl⟩,by simp[dw,c,f,a,h5,h6]⟩
      ·right;refine⟨rfl,rfl,?_⟩;cases uj
       ·left;simp[dw,c,f,a,h5,h6]
       ·right;refine⟨rfl,?_⟩;cases b
        ·right;refine⟨rfl,?_⟩;by_cases g:o.kind=4
         ·cases qG
          ·right;left;simp[dw,c,f,a,h5,h6,g];rw[g]at a h6;simp[a,h6]
          ·left;simp[dw,c,f,a,h5,h6,g];rw[g]at a h6;simp[a,h6]
         ·by_cases i:o.kind=3
          ·cases whole
           ·right;right;right;left;simp[dw,c,f,a,h5,h6,i];rw[i]at a h6;simp[a,h6]
           ·right;right;left;simp[dw,c,f,a,h5,h6,i];rw[i]at a h6;simp[a,h6]
          ·right;right;right;right;exact⟨g,i,by simp[dw,c,f,a,h5,h6,g,i]⟩
        ·left;simp[dw,c,f,a,h5,h6]
    ·left;have a:nI o.kind=false:=by simp[nI];omega
     exact⟨by omega,by simp[dw,c,f,a]⟩
   ·left;have f:mG o.aG=false\/jH o.side=false:=by
     by_cases h:0<=o.aG/\o.aG<=9
     ·right;have h0:o.side≠0:=by omega
      have c:o.side≠1:=by omega
      simp[jH,h0,c]
     ·left;simp[mG];omega
    exact⟨by omega,by unfold dw;rw[if_neg (by rw[c];simp),if_neg (by simp),if_pos f]⟩
  ·left;simp[dw,c]
def pJ(S:RS)(o:iR):Int:=dw o (iU S.l o.id).isSome (jO S.sy o.sym) (decide (200<=S.l.length)) (eP S.l o).isSome (decide (kY S.l o S.l.length<o.az))
theorem V7(x:Option Nat):decide (0<=oi x)=x.isSome:=by cases x <;> simp[oi]
theorem vw(base f:Nat)(S:RS)(m:SM)(o:iR)(w:World)(h:dF w base f S m)(A:S.l.length<=1000)(R:S.sy.length<=1000)(Q:∀k,k<S.l.length->0<=(ak S.l k).aH/\(ak S.l k).aH<=1000000000000000) :
 CT 167 #[PP f,o.val] w fun e w'=>e=.returned (II (pJ S o))/\aj aA w w':=by
 obtain⟨n,P⟩:=dQ S.l.length;obtain⟨a,c,H⟩:=aJ h.dV;have N:∀n w,CT 198 #[II n] w fun e w'=>e=.returned (.bool (cZ n))/\w'=w:=lQ
 have y:=ai N;have HS:Hid (∀b,aj aA w b->CT 142 #[PP f,.string o.sym] b fun e w'=>e=.returned (.bool (jO S.sy o.sym))/\w'=b):=fun b k=>ku base f S m o.sym b (h.ax k) R
 have q:Hid (∀b,aj aA w b->CT 141 #[PP f,II o.id] b fun e w'=>e=.returned (II (oi (iU S.l o.id)))/\w'=b):=fun b k=>pK base f S m o.id b (h.ax k) A
 have B:Hid (∀b,aj aA w b->CT 199 #[PP f,o.val] b fun e w'=>e=.returned (II (oi (eP S.l o)))/\aj aA b w'):=fun b k=>xX base f S m o b (h.ax k) A
 have u:Hid (∀b,aj aA w b->CT 200 #[PP f,o.val] b fun e w'=>e=.returned (II (kY S.l o S.l.length))/\aj aA b w'):=fun b k=>FD base f S m o b (h.ax k) A Q
 have i:=GX o (iU S.l o.id).isSome (jO S.sy o.sym) (decide (200<=S.l.length)) (eP S.l o).isSome (decide (kY S.l o S.l.length<o.az));change (cZ o.id=false/\pJ S o=1)\/_ at i;obtain⟨T,z⟩:=dQ (pJ S o);rw[show dw o (iU S.l o.id).isSome (jO S.sy o.sym) (decide (200<=S.l.length)) (eP S.l o).isSome (decide (kY S.l o S.l.length<o.az))=T from z,z]at i;rw[z];rw[P]at H A i u;have v1:w.cell? ⟨f,1,none⟩=some (.slice a n c):=by rw[<-H];exact h.ay.cell 1
 have MP:=h.ay.lt;obtain⟨tk,G⟩:∃x,oi (iU S.l o.id)=x:=⟨_,rfl⟩;obtain⟨bs,D⟩:∃x,oi (eP S.l o)=x:=⟨_,rfl⟩;obtain⟨th,F⟩:∃x,jO S.sy o.sym=x:=⟨_,rfl⟩;obtain⟨of,E⟩:∃x,kY S.l o n=x:=⟨_,rfl⟩;rw[<-V7,<-V7,G,D,F,E]at i;rw[G]at q;rw[D]at B;rw[F]at HS;rw[E]at u;clear h H z P Q R G D F E N;obtain⟨id,aG,sym,side,d,af,az⟩:=o;simp only[iR.val]at B u i HS q ⊢;have O:decide (200<=n)=decide ((200:Int)<=(n:Int)):=by simp;omega
 rw[O]at i;clear O;rcases i with⟨U,rfl⟩ | ⟨U,⟨a2,rfl⟩ | ⟨a2,⟨a3 | ⟨a3,a4⟩ | ⟨a3,a4,a5⟩ | ⟨a3,a4,a5,X⟩,rfl⟩ | ⟨⟨a3,a4,a5,X⟩,⟨K | ⟨K,Y⟩,rfl⟩ | ⟨⟨K,Y⟩,⟨a9 | ⟨a9,s⟩,rfl⟩ | ⟨a9,s,⟨V,rfl⟩ | ⟨V,⟨W,rfl⟩ | ⟨W,⟨g,r,rfl⟩ | ⟨g,r,rfl⟩ | ⟨g,r,rfl⟩ | ⟨g,r,rfl⟩ | ⟨g,r,rfl⟩⟩⟩⟩⟩⟩⟩⟩
 all_goals by_cases t:d=5
 all_goals first
  | (have Z:(d == 5)=true:=by simp[t]
     try (have C:=s;simp only[jM,if_pos t]at C;clear s)
     try (exfalso;omega))
  | (have Z:(d == 5)=false:=by simp[t]
     try (have C:=s;simp only[jM,if_neg t]at C;clear s))
 all_goals clear t
 all_goals first
  | (have J:d=4:=g
     have M:(d == 4)=true:=by simp[J]
     have L:(d == 3)=false:=by simp[J]
     clear g J;go_enter Tryz.func167,Tryz.ntmps167;go_wp2_with (first
      | (go_at_call 198;refine (ae y _ _).mono ?_;rintro e w' ⟨rfl,rfl⟩)
      | (go_at_call 142;refine (ae HS _ ?cc).mono ?_;(case cc=>exact (aj.refl _ _).alloc _);rintro e w' ⟨rfl,rfl⟩)
      | (go_at_call 141;refine (ae q _ ?cc).mono ?_;(case cc=>exact (aj.refl _ _).alloc _);rintro e w' ⟨rfl,rfl⟩)
      | (go_at_call 199;refine (ae B _ ?cc).mono ?_;(case cc=>exact (aj.refl _ _).alloc _);rintro e w2 ⟨rfl,j⟩;have b4:=j.cell (p:=⟨w.heap.size,4,none⟩) ((au.new w _ _).cell 4) idd;have v:=ai j;clear j))
     first
      | (go_ret
         exact⟨rfl,((aj.refl _ _).alloc _).trans (ae v)⟩)
      | (go_quiet (fail)
         go_wp2;go_ret;exact⟨rfl,(((aj.refl _ _).alloc _).trans (ae v)).drewN _⟩))
  | (have I:d=3:=g
     have M:(d == 4)=false:=by simp[I]
     have L:(d == 3)=true:=by simp[I]
     clear g I;go_enter Tryz.func167,Tryz.ntmps167;go_wp2_with (first
      | (go_at_call 198;refine (ae y _ _).mono ?_;rintro e w' ⟨rfl,rfl⟩)
      | (go_at_call 142;refine (ae HS _ ?cc).mono ?_;(case cc=>exact (aj.refl _ _).alloc _);rintro e w' ⟨rfl,rfl⟩)
      | (go_at_call 141;refine (ae q _ ?cc).mono ?_;(case cc=>exact (aj.refl _ _).alloc _);rintro e w' ⟨rfl,rfl⟩))
     go_region_with (first
      | (go_at_call 200;refine (ae u _ ?cc).mono ?_;(case cc=>repeat (first | exact aj.refl _ _ | refine aj.drew ?_ | refine aj.drewN ?_ _ | refine aj.alloc ?_ _));rintro e w2 ⟨rfl,j⟩;have b6:=j.cell (p:=⟨w.heap.size,6,none⟩) ((au.new w _ _).cell 6) idd;have v:=ai (aj.trans (a:=w) (by repeat (first | exact aj.refl _ _ | refine aj.drew ?_ | refine aj.drewN ?_ _ | refine aj.alloc ?_ _)) j);clear j))
     all_goals
      go_wp2;go_ret;exact⟨rfl,by repeat (first | exact ae v | refine aj.drew ?_ | refine aj.drewN ?_ _)⟩)
  | (have M:(d == 4)=false:=by simpa using g
     have L:(d == 3)=false:=by simpa using r
     clear g r;go_enter Tryz.func167,Tryz.ntmps167;go_wp2_with (first
      | (go_at_call 198;refine (ae y _ _).mono ?_;rintro e w' ⟨rfl,rfl⟩)
      | (go_at_call 142;refine (ae HS _ ?cc).mono ?_;(case cc=>exact (aj.refl _ _).alloc _);rintro e w' ⟨rfl,rfl⟩)
      | (go_at_call 141;refine (ae q _ ?cc).mono ?_;(case cc=>exact (aj.refl _ _).alloc _);rintro e w' ⟨rfl,rfl⟩))
     go_quiet (fail);go_wp2;go_ret;exact⟨rfl,((aj.refl _ _).alloc _).drewN _⟩)
  | (go_enter Tryz.func167,Tryz.ntmps167
     go_wp2_with (first
      | (go_at_call 198;refine (ae y _ _).mono ?_;rintro e w' ⟨rfl,rfl⟩)
      | (go_at_call 142;refine (ae HS _ ?cc).mono ?_;(case cc=>exact (aj.refl _ _).alloc _);rintro e w' ⟨rfl,rfl⟩)
      | (go_at_call 141;refine (ae q _ ?cc).mono ?_;(case cc=>exact (aj.refl _ _).alloc _);rintro e w' ⟨rfl,rfl⟩))
     all_goals
      go_ret;exact⟨rfl,(aj.refl _ _).alloc _⟩)
end Go.Proofs.YtigaphnafnpfnaaGreatDoor
