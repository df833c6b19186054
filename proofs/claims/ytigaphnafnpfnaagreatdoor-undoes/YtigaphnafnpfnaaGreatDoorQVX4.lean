import Derived.Test.YtigaphnafnpfnaaGreatDoorQVX2
import Derived.Test.YtigaphnafnpfnaaGreatDoorQVX3
import Derived.Test.YtigaphnafnpfnaaGreatDoorQVB6
import Derived.Laws.ResultCell
import Derived.Lib.BufferWrite
import Derived.Lib.UnsafeStr
import Derived.Deep.OwnRows
import Derived.Laws.IdiomStrings
set_option linter.unusedVariables false
set_option linter.unusedSimpArgs false
set_option maxHeartbeats 8000000
set_option maxRecDepth 100000
namespace Go.Proofs.YtigaphnafnpfnaaGreatDoor
open Go.RowKit
attribute [local go_sem ↓] Go.wp_at_zero Go.wp_at_succ
def gX(l:List Ord)(o:iR):Nat->Option Nat
 | 0=>none
 | i+1=>if fF o (ak l i) then (match gX l o i with
     | none=>some i
     | some b=>if jm (ak l i) (ak l b) then some i else some b) else gX l o i
theorem sS(l:List Ord)(o:iR):∀i b,gX l o i=some b->b<i
 | 0,b,h=>by simp[gX]at h
 | i+1,b,h=>by
   unfold gX at h;split at h
   ·split at h
    ·simp at h;omega
    ·rename_i b' a;have:=sS l o i b' a;split at h <;> simp at h <;> omega
   ·have:=sS l o i b h;omega
def eP(l:List Ord)(o:iR):Option Nat:=gX l o l.length
theorem xX(base t:Nat)(S:RS)(m:SM)(o:iR)(w:World)(h:dF w base t S m)(F:S.l.length<=1000) :
 CT 199 #[PP t,o.val] w fun e w'=>e=.returned (II (oi (eP S.l o)))/\aj aA w w':=by
 obtain⟨n,H⟩:=dQ S.l.length;obtain⟨a,c,I⟩:=aJ h.dV;have C:Hid (∀f,aj aA w f->∀i,i<n->CT 224 #[PP t,o.val,II (i:Int)] f fun e w'=>e=.returned (.bool (fF o (ak S.l i)))/\aj aA f w') :=
  fun f k i P=>DI base t i S m o f (h.ax k) F (by omega)
 have A:Hid (∀f,aj aA w f->∀i k,i<n->k<n->CT 225 #[PP t,II (i:Int),II (k:Int)] f fun e w'=>e=.returned (.bool (jm (ak S.l i) (ak S.l k)))/\aj aA f w') :=
  fun f k i j P hj=>IG base t i j S m f (h.ax k) F (by omega) (by omega)
 rw[H]at I F;have U:w.cell? ⟨t,1,none⟩=some (.slice a n c):=by rw[<-I];exact h.ay.cell 1
 have MP:=h.ay.lt;have L:Hid (eP S.l o=gX S.l o n):=by show _=_;unfold eP;rw[H]
 obtain⟨g,O⟩:=dQ S.l;rw[O]at L C A ⊢;clear h I O H;obtain⟨id,q,sym,side,p,af,az⟩:=o;simp only[iR.val]at C ⊢;obtain⟨K,y⟩:=gy (w.alloc (.cells #[II id,II q,.string sym,II side,II p,II af,II az] 52));have Q:Hid (au K w.heap.size #[II id,II q,.string sym,II side,II p,II af,II az] 52/\aj aA w K):=⟨by rw[y];exact au.new _ _ _,by rw[y];exact (aj.refl _ _).alloc _⟩;have R:=ai y;clear y;go_enter Tryz.func199,Tryz.ntmps199;go_wp2;rw[<-ae R];go_loopg [5,6] n (fun k bv T wr=>∃i:Nat,T=II (i:Int)/\i<=n/\k=n-i/\bv=II (oi (gX g ⟨id,q,sym,side,p,af,az⟩ i))/\aj aA K wr)
 case atStart=>exact⟨0,rfl,Nat.zero_le _,rfl,rfl,aj.refl _ _⟩
 case round =>
  obtain⟨i,rfl,P,hgk,rfl,z⟩:=hrel;obtain⟨M,J⟩:=ae Q;have v1r:=(J.trans z).cell U idd;have N:=z.ay M idd;obtain⟨W,X,Y,Z,b4r,b5r,b6r⟩:=N.c7;obtain⟨x,r⟩:=aZ J z;clear z J M N;by_cases G:i<n
  ·have G1:=ae C _ ((ae x).trans (ae r)) i G;cases hg:fF ⟨id,q,sym,side,p,af,az⟩ (ak g i)
   ·rw[hg]at G1;have HS:Hid (gX g ⟨id,q,sym,side,p,af,az⟩ (i+1)=gX g ⟨id,q,sym,side,p,af,az⟩ i):=by
     show _=_
     conv=>lhs;unfold gX
     rw[hg];rfl
    have u:=ai G1;clear G1 hg;go_wp2_with fail;refine (ae u).mono ?_;rintro e w2 ⟨rfl,d⟩;have s:=ai d;clear d;go_wp2;go_roundg (n-(i+1))
    case measure=>omega
    case rel=>exact⟨i+1,by push_cast;rfl,by omega,rfl,by rw[ae HS],(ae r).trans (ae s)⟩
   ·rw[hg]at G1;have u:=ai G1;clear G1;cases hb:gX g ⟨id,q,sym,side,p,af,az⟩ i with
    | none =>
      have HS:Hid (gX g ⟨id,q,sym,side,p,af,az⟩ (i+1)=some i):=by
       show _=_
       conv=>lhs;unfold gX
       rw[hg,hb];rfl
      clear hg hb;simp only[oi];go_wp2_with fail;refine (ae u).mono ?_;rintro e w2 ⟨rfl,d⟩;have s:=ai d;clear d;go_wp2;go_roundg (n-(i+1))
      case measure=>omega
      case rel=>exact⟨i+1,by push_cast;rfl,by omega,rfl,by rw[ae HS];rfl,(ae r).trans (ae s)⟩
    | some b =>
      have hbi:=sS _ _ _ _ hb;cases hl:jm (ak g i) (ak g b)
      ·have HS:Hid (gX g ⟨id,q,sym,side,p,af,az⟩ (i+1)=some b):=by
        show _=_
        conv=>lhs;unfold gX
        rw[hg,hb];simp[hl]
       have E:=ai hl;clear hg hb hl;simp only[oi];go_wp2_with fail;refine (ae u).mono ?_;rintro e w2 ⟨rfl,d⟩;have B:=ai (ae A w2 (((ae x).trans (ae r)).trans d) i b G (by omega));have s:=ai d;clear d;go_wp2_with fail;refine (ae B).mono ?_;rintro e V ⟨rfl,v⟩;have D:=ai v;clear v;rw[ae E];go_wp2;go_roundg (n-(i+1))
       case measure=>omega
       case rel=>exact⟨i+1,by push_cast;rfl,by omega,rfl,by rw[ae HS];rfl,((ae r).trans (ae s)).trans (ae D)⟩
      ·have HS:Hid (gX g ⟨id,q,sym,side,p,af,az⟩ (i+1)=some i):=by
        show _=_
        conv=>lhs;unfold gX
        rw[hg,hb];simp[hl]
       have E:=ai hl;clear hg hb hl;simp only[oi];go_wp2_with fail;refine (ae u).mono ?_;rintro e w2 ⟨rfl,d⟩;have B:=ai (ae A w2 (((ae x).trans (ae r)).trans d) i b G (by omega));have s:=ai d;clear d;go_wp2_with fail;refine (ae B).mono ?_;rintro e V ⟨rfl,v⟩;have D:=ai v;clear v;rw[ae E];go_wp2;go_roundg (n-(i+1))
       case measure=>omega
       case rel=>exact⟨i+1,by push_cast;rfl,by omega,rfl,by rw[ae HS];rfl,((ae r).trans (ae s)).trans (ae D)⟩
  ·obtain rfl:i=n:=by omega
   go_wp2;go_ret;exact⟨by rw[ae L];rfl,(ae x).trans (ae r)⟩
open Go.RowKit Go.Maps
def jD(v:Value):Option (DataW Unit × List MemPlace) :=
 match v with
 | .pointer none=>some (.nil,[])
 | .pointer (some ⟨b,0,none⟩)=>some (.lit (.int .i64 b),[])
 | _=>none
def Iy:Option Nat->DataW Unit
 | none=>.nil
 | some b=>.lit (.int .i64 b)
theorem KW(x:Option Nat):jD (ja x)=some (Iy x,[]):=by cases x <;> rfl
theorem yM{v:Value}{x:Option Nat}{a:List MemPlace}(h:jD v=some (Iy x,a)):v=ja x:=by
 unfold jD at h;split at h
 ·cases x
  ·rfl
  ·simp[Iy]at h
 ·cases x
  ·simp[Iy]at h
  ·simp[Iy]at h;obtain⟨h,_⟩:=h;simp[ja,h]
 ·simp at h
def kG(w:World)(k:TypeId)(b:Nat)(f:Lit->Option Nat)(n:Nat):Prop :=
 ∃D:DataW Unit,w.ownsMap Tryz.prog k jD b n D/\Maps.size D=n/\(∀kl,D.atKey kl .nil=Iy (f kl))/\(∀kl,Maps.has D kl=(f kl).isSome)
theorem kG.aC{w w':World}{k:TypeId}{b:Nat}{a:Lit->Option Nat}{n:Nat}(h:kG w k b a n){S:Nat->Prop}(c:aj S w w')(j:¬S b):kG w' k b a n:=by
 obtain⟨e,⟨g,f,d,r⟩,i⟩:=h;refine⟨e,⟨g,f,?_,r⟩,i⟩;rw[c.block b (Array.getElem?_eq_some_iff.1 d).1 j];exact d
theorem kG.lt{w:World}{k:TypeId}{b:Nat}{a:Lit->Option Nat}{n:Nat}(h:kG w k b a n):b<w.heap.size:=by
 obtain⟨d,c,_⟩:=h;exact c.lt
theorem kG.ne{w:World}{k:TypeId}{b:Nat}{d:Lit->Option Nat}{n:Nat}(h:kG w k b d n){b':Nat}{c:Array Value}{t:TypeId}(a:au w b' c t):b≠b':=by
 rintro rfl;obtain⟨f,⟨i,g,e,_⟩,_⟩:=h;unfold au at a;rw[e]at a;simp at a
theorem qA(w:World):(zeroValue 111).run Tryz.prog w=.ok (.pointer none) w:=by kernel_rfl
theorem wu(w:World):(zeroValue 114).run Tryz.prog w=.ok (.pointer none) w:=by kernel_rfl
theorem yU:Keyed Tryz.prog 9:=string_keyed Tryz.underlying9
theorem yT:Keyed Tryz.prog 3:=int_keyed Tryz.underlying3
theorem kG.look{w:World}{k t e:TypeId}{b:Nat}{a:Lit->Option Nat}{n:Nat}(h:kG w k b a n)(f:Keyed Tryz.prog k)(m:Tryz.prog.underlying t=some (.map k e))(o:(zeroValue e).run Tryz.prog w=.ok (.pointer none) w){d:Value}{kl:Lit}(j:keyOf Tryz.prog k d=some kl) :
 (Instr.lookup t (.map (some b)) d false).run Tryz.prog w=.ok (ja (a kl)) w:=by
 obtain⟨p,g,_,i,_⟩:=h;obtain⟨v,q,l,c⟩:=g.lookup f m o (zd:=.nil) (zp:=[]) rfl j;rw[i kl]at c;rw[l,yM c]
theorem kG.len{w:World}{k t e:TypeId}{b:Nat}{a:Lit->Option Nat}{n:Nat}(h:kG w k b a n)(f:Tryz.prog.underlying t=some (.map k e))(ty:TypeId) :
 (Builtin.len_ #[t] ty #[.map (some b)]).run Tryz.prog w=.ok (II n) w:=by
 obtain⟨g,c,d,_⟩:=h;rw[c.len f ty,d]
def BU(f:Lit->Option Nat)(kl:Lit)(x:Nat):Lit->Option Nat:=fun k=>if k.sameKey kl then some x else f k
theorem kG.put{w:World}{k t e:TypeId}{b:Nat}{f:Lit->Option Nat}{n x:Nat}(h:kG w k b f n)(g:Keyed Tryz.prog k)(y:Tryz.prog.underlying t=some (.map k e))(u:n<maxLen){l:Value}{kl:Lit}(s:keyOf Tryz.prog k l=some kl)(a:WideAt.IsKeyLit kl)(q:f kl=none) :
 ∃w',(Instr.mapUpdate t (.map (some b)) l (PP x)).run Tryz.prog w=.ok () w'/\kG w' k b (BU f kl x) (n+1)/\aj (fun i=>i=b) w w':=by
 obtain⟨z,d,m,o,j⟩:=h;obtain⟨w',v,p,c⟩:=d.update g y u s (KW (some x));refine⟨w',v,⟨_,p,?_,?_,?_⟩,?_⟩
 ·rw[size_put (d.tidy g),j kl,q];simp[m]
 ·intro k';unfold BU;by_cases e:k'=kl
  ·subst e;rw[atKey_put_same d.isMap a,if_pos (WideAt.sameKey_self a)]
  ·rw[atKey_put_other e,if_neg (fun h=>e ((WideAt.sameKey_iff a).1 h)),o]
 ·intro k';unfold BU;by_cases e:k'=kl
  ·subst e;rw[has_put_same d.isMap a,if_pos (WideAt.sameKey_self a)];rfl
  ·rw[has_put_other e,if_neg (fun h=>e ((WideAt.sameKey_iff a).1 h)),j]
 ·exact⟨c.os,c.tape,c.output,c.size,fun i r hs=>c.block i r (fun h=>hs (by simpa using h))⟩
theorem kG.made(w:World)(k:TypeId):kG (w.alloc (.map #[] 0)) k w.heap.size (fun _=>none) 0 :=
 ⟨.map [],World.ownsMap_made w Tryz.prog k jD,rfl,fun _=>rfl,fun _=>rfl⟩
def cZ(n:Int):Bool:=decide (1<=n) && decide (n<=1000000)
def mG(n:Int):Bool:=decide (0<=n) && decide (n<=9)
def jH(n:Int):Bool:=(n == 0) || (n == 1)
def nI(n:Int):Bool:=decide (0<=n) && decide (n<=5)
def jM(kind p:Int):Bool:=if kind=5 then p == 0 else cZ p
theorem bJ(n:Int)(w:World):CT 68 #[II n] w fun e w'=>e=.returned (.bool (cZ n))/\w'=w:=by
 by_cases b:1<=n
 ·have a:Hid (cZ n=decide (n<=1000000)):=by show _=_;simp[cZ,b]
  go_enter Tryz.func68,Tryz.ntmps68;go_wp2;go_ret;exact⟨by rw[a.out];rfl,rfl⟩
 ·have a:Hid (cZ n=false):=by show _=_;simp[cZ,b]
  go_enter Tryz.func68,Tryz.ntmps68;go_wp2;go_ret;exact⟨by rw[a.out];rfl,rfl⟩
theorem eF(n:Int)(w:World):CT 144 #[II n] w fun e w'=>e=.returned (.bool (mG n))/\w'=w:=by
 by_cases b:0<=n
 ·have a:Hid (mG n=decide (n<=9)):=by show _=_;simp[mG,b]
  go_enter Tryz.func144,Tryz.ntmps144;go_wp2;go_ret;exact⟨by rw[a.out];rfl,rfl⟩
 ·have a:Hid (mG n=false):=by show _=_;simp[mG,b]
  go_enter Tryz.func144,Tryz.ntmps144;go_wp2;go_ret;exact⟨by rw[a.out];rfl,rfl⟩
theorem eu(n:Int)(w:World):CT 47 #[II n] w fun e w'=>e=.returned (.bool (jH n))/\w'=w:=by
 cases h1:(n == 0)
 ·have a:Hid (jH n=(n == 1)):=by show _=_;simp[jH,h1]
  go_enter Tryz.func47,Tryz.ntmps47;go_wp2;go_ret;exact⟨by rw[a.out];rfl,rfl⟩
 ·have a:Hid (jH n=true):=by show _=_;simp[jH,h1]
  go_enter Tryz.func47,Tryz.ntmps47;go_wp2;go_ret;exact⟨by rw[a.out];rfl,rfl⟩
theorem fG(n:Int)(w:World):CT 145 #[II n] w fun e w'=>e=.returned (.bool (nI n))/\w'=w:=by
 by_cases b:0<=n
 ·have a:Hid (nI n=decide (n<=5)):=by show _=_;simp[nI,b]
  go_enter Tryz.func145,Tryz.ntmps145;go_wp2;go_ret;exact⟨by rw[a.out];rfl,rfl⟩
 ·have a:Hid (nI n=false):=by show _=_;simp[nI,b]
  go_enter Tryz.func145,Tryz.ntmps145;go_wp2;go_ret;exact⟨by rw[a.out];rfl,rfl⟩
theorem dI(k n:Int)(w:World):CT 146 #[II k,II n] w fun e w'=>e=.returned (.bool (jM k n))/\w'=w:=by
 by_cases a:k=5
 ·have c:(k == 5)=true:=by simp[a]
  have b:Hid (jM k n=(n == 0)):=by show _=_;simp[jM,a]
  clear a;go_enter Tryz.func146,Tryz.ntmps146;go_wp2;go_ret;exact⟨by rw[b.out];rfl,rfl⟩
 ·have c:(k == 5)=false:=by simp[a]
  have b:Hid (jM k n=cZ n):=by show _=_;simp[jM,a]
  clear a;go_enter Tryz.func146,Tryz.ntmps146;go_wp2_with (go_at_call 68;refine (bJ _ _).mono ?_;rintro e w' ⟨rfl,rfl⟩);go_ret;exact⟨by rw[b.out];rfl,rfl⟩
theorem Dy{a:Lit->Option Nat}{kl:Lit}{x:Nat}(b:WideAt.IsKeyLit kl):BU a kl x kl=some x:=by unfold BU;rw[if_pos (WideAt.sameKey_self b)]
theorem AO{a:Lit->Option Nat}{kl k:Lit}{x:Nat}(b:WideAt.IsKeyLit kl)(h:k≠kl):BU a kl x k=a k:=by unfold BU;rw[if_neg (fun e=>h ((WideAt.sameKey_iff b).1 e))]
def aQ(o:iR):Ord:=⟨o.id,o.aG,o.sym,o.side,o.kind,o.af,o.az,o.az,o.az,0,0,0,0⟩
theorem E5(o:iR)(w:World):CT 112 #[o.val] w fun e w'=>∃b,e=.returned (PP b)/\w.heap.size<=b/\bV w' b (aQ o) 0/\aj aA w w':=by
 obtain⟨id,c,sym,side,a,af,az⟩:=o;simp only[iR.val];go_enter Tryz.func112,Tryz.ntmps112;go_wp2;go_ret;refine⟨_,rfl,?_,?_,?_⟩
 ·simp
 ·exact au.qm _ _ _ _
 ·exact ((aj.refl aA w).alloc _).alloc _
theorem lQ(n:Int)(w:World):CT 198 #[II n] w fun e w'=>e=.returned (.bool (cZ n))/\w'=w:=by
 by_cases b:1<=n
 ·have a:Hid (cZ n=decide (n<=1000000)):=by show _=_;simp[cZ,b]
  go_enter Tryz.func198,Tryz.ntmps198;go_wp2;go_ret;exact⟨by rw[a.out];rfl,rfl⟩
 ·have a:Hid (cZ n=false):=by show _=_;simp[cZ,b]
  have c:decide (1<=n)=false:=by simpa using b
  go_enter Tryz.func198,Tryz.ntmps198;go_wp2;go_ret;exact⟨by rw[a.out];rfl,rfl⟩
def kY(l:List Ord)(o:iR):Nat->Int
 | 0=>0
 | i+1=>kY l o i+(if fF o (ak l i)=true/\(ak l i).aG≠o.aG then (ak l i).aH else 0)
theorem RJ(l:List Ord)(o:iR)(n:Nat)(a:∀k,k<n->0<=(ak l k).aH/\(ak l k).aH<=1000000000000000):∀i,i<=n->0<=kY l o i/\kY l o i<=i * 1000000000000000
 | 0,_=>by simp[kY]
 | i+1,h=>by
   have:=RJ l o n a i (by omega);have:=a i (by omega);unfold kY;split <;> (push_cast;omega)
theorem FD(base z:Nat)(S:RS)(m:SM)(o:iR)(w:World)(h:dF w base z S m)(V:S.l.length<=1000)(A:∀k,k<S.l.length->0<=(ak S.l k).aH/\(ak S.l k).aH<=1000000000000000) :
 CT 200 #[PP z,o.val] w fun e w'=>e=.returned (II (kY S.l o S.l.length))/\aj aA w w':=by
 obtain⟨n,I⟩:=dQ S.l.length;obtain⟨a,c,B⟩:=aJ h.dV;have E:Hid (∀v,aj aA w v->∀i,i<n->CT 224 #[PP z,o.val,II (i:Int)] v fun e w'=>e=.returned (.bool (fF o (ak S.l i)))/\aj aA v w') :=
  fun v k i G=>DI base z i S m o v (h.ax k) V (by omega)
 have P:Hid (∀i,i<n->∃(g:Nat),a=some ⟨g,0,none⟩/\w.cell? ⟨g,i * 13+1,none⟩=some (II (ak S.l i).aG)/\w.cell? ⟨g,i * 13+8,none⟩=some (II (ak S.l i).aH)):=fun i G=>by
  obtain⟨g,e,_,U,_⟩:=h.wW B (i:=i) (by omega);exact⟨g,e,U 1 _ rfl,U 8 _ rfl⟩
 rw[I]at B V A;have v1:w.cell? ⟨z,1,none⟩=some (.slice a n c):=by rw[<-B];exact h.ay.cell 1
 have MP:=h.ay.lt;rw[I];obtain⟨N,O⟩:=aZ (RJ S.l o n A) A;obtain⟨p,T⟩:=dQ S.l;rw[T]at E P N O ⊢;clear h B T I A;obtain⟨id,d,sym,side,f,af,az⟩:=o;simp only[iR.val]at E ⊢;obtain⟨L,C⟩:=gy (w.alloc (.cells #[II id,II d,.string sym,II side,II f,II af,II az] 52));have Z:Hid (au L w.heap.size #[II id,II d,.string sym,II side,II f,II af,II az] 52/\aj aA w L):=⟨by rw[C];exact au.new _ _ _,by rw[C];exact (aj.refl _ _).alloc _⟩;have HW:=ai C;clear C;go_enter Tryz.func200,Tryz.ntmps200;go_wp2;rw[<-ae HW];go_loopg [5,6] n (fun k bv iv wr=>∃i:Nat,iv=II (i:Int)/\i<=n/\k=n-i/\bv=II (kY p ⟨id,d,sym,side,f,af,az⟩ i)/\aj aA L wr)
 case atStart=>exact⟨0,rfl,Nat.zero_le _,rfl,rfl,aj.refl _ _⟩
 case round =>
  obtain⟨i,rfl,G,hgk,rfl,D⟩:=hrel;obtain⟨Q,K⟩:=ae Z;have X:=(K.trans D).cell v1 idd;have F:=D.ay Q idd;obtain⟨b0r,R,b2r,b3r,b4r,b5r,b6r⟩:=F.c7;obtain⟨HBR,s,j⟩:=fK F K D;clear D K Q F;by_cases H:i<n
  ·have G1:=ae E _ ((ae s).trans (ae j)) i H;obtain⟨g,rfl,M,Y⟩:=ae P i H;have ob:=ae N i G;have ob2:=ae O i H;obtain⟨x,J⟩:=dQ (ak p i);rw[J]at M Y G1 ob2;have HS:Hid (kY p ⟨id,d,sym,side,f,af,az⟩ (i+1)=kY p ⟨id,d,sym,side,f,af,az⟩ i+(if fF ⟨id,d,sym,side,f,af,az⟩ x=true/\x.aG≠d then x.aH else 0)):=by show _=_;rw[<-J];rfl
   clear J;obtain⟨y,W⟩:=dQ (kY p ⟨id,d,sym,side,f,af,az⟩ i);rw[W]at HS ob ⊢;clear W;have r:=ai G1;clear G1;have hn63:y+x.aH<=9223372036854775807:=by omega
   cases hg:fF ⟨id,d,sym,side,f,af,az⟩ x
   ·have u:Hid (kY p ⟨id,d,sym,side,f,af,az⟩ (i+1)=y):=by show _=_;rw[ae HS,hg];simp
    rw[hg]at r;clear hg;go_wp2_with fail;refine (ae r).mono ?_;rintro e w2 ⟨rfl,b⟩;have t:=ai b;clear b;go_wp2;go_quiet (fail);go_wp2;go_roundg (n-(i+1))
    case measure=>omega
    case rel=>exact⟨i+1,by push_cast;rfl,by omega,rfl,by rw[ae u],((ae j).trans (ae t)).drewN _⟩
   ·rw[hg]at r;by_cases q:x.aG=d
    ·have u:Hid (kY p ⟨id,d,sym,side,f,af,az⟩ (i+1)=y):=by show _=_;rw[ae HS,if_neg (fun h=>h.2 q)];omega
     have e1:(x.aG == d)=true:=by simpa using q
     clear hg q;go_wp2_with fail;refine (ae r).mono ?_;rintro e w2 ⟨rfl,b⟩;have v1s:=b.cell X idd;have x1s:=b.cell (((ae s).trans (ae j)).cell M idd) idd;have b1s:=b.cell R idd;have t:=ai b;clear b;go_wp2;go_quiet (fail);go_wp2;go_roundg (n-(i+1))
     case measure=>omega
     case rel=>exact⟨i+1,by push_cast;rfl,by omega,rfl,by rw[ae u],((ae j).trans (ae t)).drewN _⟩
    ·have u:Hid (kY p ⟨id,d,sym,side,f,af,az⟩ (i+1)=y+x.aH):=by show _=_;rw[ae HS,if_pos ⟨hg,q⟩]
     have e1:(x.aG == d)=false:=by simpa using q
     clear hg q;go_wp2_with fail;refine (ae r).mono ?_;rintro e w2 ⟨rfl,b⟩;have v1s:=b.cell X idd;have x1s:=b.cell (((ae s).trans (ae j)).cell M idd) idd;have x8s:=b.cell (((ae s).trans (ae j)).cell Y idd) idd;have b1s:=b.cell R idd;have t:=ai b;clear b;go_wp2;go_quiet (fail);go_wp2;go_roundg (n-(i+1))
     case measure=>omega
     case rel=>exact⟨i+1,by push_cast;rfl,by omega,rfl,by rw[ae u],((ae j).trans (ae t)).drewN _⟩
  ·obtain rfl:i=n:=by omega
   go_wp2;go_ret;exact⟨rfl,(ae s).trans (ae j)⟩
def gp(l:List Ord)(id:Int):Int:=match iU l id with
 | none=>6
 | some k=>if (ak l k).aH=0 then 10 else 0
theorem jC{l:List Ord}{id:Int}{k:Nat}(h:iU l id=some k):k<l.length/\(ak l k).id=id:=by
 unfold iU at h;obtain⟨a,b,_⟩:=List.findIdx?_eq_some_iff_getElem.1 h;refine⟨a,?_⟩;rw[wV (List.getElem?_eq_getElem a)]
 simpa using b
theorem oM(base i:Nat)(S:RS)(m:SM)(id:Int)(w:World)(h:dF w base i S m)(q:S.l.length<=1000) :
 CT 169 #[PP i,II id] w fun e w'=>e=.returned (.tuple #[II (oi (iU S.l id)),II (gp S.l id)])/\w'=w:=by
 have b:=ai (pK base i S m id w h q);obtain⟨n,o⟩:=dQ S.l.length;obtain⟨a,c,f⟩:=aJ h.dV;cases hx:iU S.l id with
 | none =>
   have d:Hid (gp S.l id=6):=by show _=_;unfold gp;rw[hx]
   rw[hx]at b;simp only[oi]at b ⊢;clear hx;go_enter Tryz.func169,Tryz.ntmps169;go_wp2_with fail;refine (ae b).mono ?_;rintro e w2 ⟨rfl,rfl⟩;go_wp2;go_ret2;exact⟨by rw[ae d];rfl,rfl⟩
 | some k =>
   obtain⟨p,_⟩:=jC hx;obtain⟨g,rfl,_,j,_⟩:=h.wW f p;rw[o]at f p q;have s:w.cell? ⟨i,1,none⟩=some (.slice (some ⟨g,0,none⟩) n c):=by rw[<-f];exact h.ay.cell 1
   have c8:CC w g (k * 13+8) (II (ak S.l k).aH):=j 8 _ rfl;rw[hx]at b;simp only[oi]at b ⊢;by_cases h0:(ak S.l k).aH=0
   ·have d:Hid (gp S.l id=10):=by show _=_;unfold gp;rw[hx];simp[h0]
    have r:((ak S.l k).aH == 0)=true:=by simp[h0]
    clear hx j h f o h0;go_enter Tryz.func169,Tryz.ntmps169;go_wp2_with fail;refine (ae b).mono ?_;rintro e w2 ⟨rfl,rfl⟩;go_wp2;go_ret2;exact⟨by rw[ae d];rfl,rfl⟩
   ·have d:Hid (gp S.l id=0):=by show _=_;unfold gp;rw[hx];simp[h0]
    have r:((ak S.l k).aH == 0)=false:=by simp[h0]
    clear hx j h f o h0;go_enter Tryz.func169,Tryz.ntmps169;go_wp2_with fail;refine (ae b).mono ?_;rintro e w2 ⟨rfl,rfl⟩;go_wp2;go_ret2;exact⟨by rw[ae d];rfl,rfl⟩
structure aS where
 nb:Nat
 bk:Nat->Nat
 B:Nat->Bk
 om:Nat->Ord
 aV:Int->Option Nat
 no:Nat
 lg:Lg
 lm:Lm
def aS.tr(V:aS):Int:=V.lg.tr.length
def sl(s:ByteArray):Lit:=.string s.data.toList
structure dL(w:World)(bv bm bo:Nat)(V:aS):Prop where
 aO:bz w bv bm bo V.lg V.lm
 iM:∃fB,kG w 9 bm fB V.nb/\(∀i,i<V.nb->fB (sl (V.B i).sym)=some (V.bk i))/\(∀s b,fB (sl s)=some b->∃i,i<V.nb/\b=V.bk i/\(V.B i).sym=s)
 fA:∃fO,kG w 3 bo fO V.no/\(∀id,fO (.int .i64 id)=V.aV id)
 F5:bm≠bo
 aW:∀i,i<V.nb->bM w (V.bk i) (V.B i) V.om
 bg:∀id b,V.aV id=some b->(V.om b).id=id/\∃ix,bV w b (V.om b) ix
 mem:∀i,i<V.nb->∀s,s<2->∀k,k<(V.B i).n s->∃id,V.aV id=some ((V.B i).h s k)
 rY:∀i j,i<V.nb->j<V.nb->i≠j->V.bk i≠V.bk j
 nX:∀i j,i<V.nb->j<V.nb->i≠j->∀s t,s<2->t<2->∀b,dn (V.B i) s b->¬dn (V.B j) t b
 fM:V.no<=200
theorem dL.cO{w:World}{bv a b:Nat}{V:aS}(R:dL w bv a b V):au w bv (rZ a b V.lm V.lg.day) 100:=R.aO.cO
theorem Ld(bv g c i:Nat)(V:aS)(o:iR)(w:World)(R:dL w bv g c V)(M:i<V.nb)(y:(V.B i).sym=o.sym)(v:o.sym.size<=maxLen)
 (p:cZ o.id=true) (r:V.aV o.id=none) (H:mG o.aG=true) (I:jH o.side=true) (J:nI o.kind=true) (K:cZ o.az=true) (L:jM o.kind o.af=true) (U:V.no<200) (k:o.kind≠3) (j:o.kind≠4) :
 CT 111 #[PP bv,o.val] w fun e w'=>e=.returned (II 0)/\aj aA w w':=by
 obtain⟨E,z,m,F⟩:=R.iM;obtain⟨G,l,n⟩:=R.fA;obtain⟨id,A,sym,side,f,af,az⟩:=o;simp only at y v p r H I J K L k j;simp only[iR.val];have t:(Lit.int .i64 id).wf=true:=by
  simp[cZ]at p;exact WalkArith.wf_i64 (by omega)
 have u:E (sl sym)=some (V.bk i):=by rw[<-y];exact m i M
 have x:G (.int .i64 id)=none:=by rw[n,r]
 obtain⟨a,d⟩:=gy (w.alloc (.cells #[II id,II A,.string sym,II side,II f,II af,II az] 52));have b:aj aA w a:=by rw[d];exact (aj.refl aA w).alloc _
 have s:au a w.heap.size #[II id,II A,.string sym,II side,II f,II af,II az] 52:=by rw[d];exact au.new w _ _
 have N:∀q,(Instr.lookup 94 (.map (some g)) (.string sym) false).run Tryz.prog (a.drewN q)=.ok (PP (V.bk i)) (a.drewN q):=fun q=>by
  rw[(z.aC (b.drewN q) idd).look yU Tryz.underlying94 (qA _) (WideMaps.keyOf_string_mk Tryz.underlying9 v)];show _=Result.ok (ja (some (V.bk i))) _;rw[<-u];rfl
 have O:∀q,(Instr.lookup 95 (.map (some c)) (II id) false).run Tryz.prog (a.drewN q)=.ok (.pointer none) (a.drewN q):=fun q=>by
  rw[(l.aC (b.drewN q) idd).look yT Tryz.underlying95 (wu _) (keyOf_int_mk Tryz.underlying3 t)];show _=Result.ok (ja none) _;rw[<-x]
 have P:∀q,(Builtin.len_ #[95] 3 #[.map (some c)]).run Tryz.prog (a.drewN q)=.ok (II V.no) (a.drewN q):=fun q=>(l.aC (b.drewN q) idd).len Tryz.underlying95 _
 have v0:CC a bv 0 (.map (some g)):=(b.ay R.cO idd).cell 0;have W:CC a bv 1 (.map (some c)):=(b.ay R.cO idd).cell 1;obtain⟨X,Y,Z,x3,x4,x5,x6⟩:=s.c7;have Q:(f == 3)=false:=by simp[k]
 have S:(f == 4)=false:=by simp[j]
 have T:decide ((200:Int)<=(V.no:Int))=false:=by simp;omega
 obtain⟨D,C⟩:=aZ d b;clear d b s k j u x m F n z l t;go_enter Tryz.func111,Tryz.ntmps111;go_wp2;rw[<-ae D];go_quiet (fail);go_wp2_with (first | (go_at_call 68;refine (bJ _ _).mono ?_;rintro e w' ⟨rfl,rfl⟩) | (go_at_call 144;refine (eF _ _).mono ?_;rintro e w' ⟨rfl,rfl⟩) | (go_at_call 47;refine (eu _ _).mono ?_;rintro e w' ⟨rfl,rfl⟩) | (go_at_call 145;refine (fG _ _).mono ?_;rintro e w' ⟨rfl,rfl⟩) | (go_at_call 146;refine (dI _ _ _).mono ?_;rintro e w' ⟨rfl,rfl⟩));go_quiet (fail);go_wp2_with (first | (go_at_call 68;refine (bJ _ _).mono ?_;rintro e w' ⟨rfl,rfl⟩) | (go_at_call 144;refine (eF _ _).mono ?_;rintro e w' ⟨rfl,rfl⟩) | (go_at_call 47;refine (eu _ _).mono ?_;rintro e w' ⟨rfl,rfl⟩) | (go_at_call 145;refine (fG _ _).mono ?_;rintro e w' ⟨rfl,rfl⟩) | (go_at_call 146;refine (dI _ _ _).mono ?_;rintro e w' ⟨rfl,rfl⟩));go_quiet (fail);go_wp2;go_ret;exact⟨rfl,((ae C).drewN _).drewN _⟩
theorem Rn{oc s:Nat}{st:MS}:(∀x,((bF oc s st).om x).id=(st.om x).id/\((bF oc s st).om x).side=(st.om x).side/\((bF oc s st).om x).sym=(st.om x).sym/\((bF oc s st).om x).af=(st.om x).af/\((bF oc s st).om x).place=(st.om x).place/\((bF oc s st).om x).aG=(st.om x).aG/\((bF oc s st).om x).kind=(st.om x).kind/\((bF oc s st).om x).az=(st.om x).az)/\(∀x,x≠oc->x≠st.B.h s 0->(bF oc s st).om x=st.om x):=by
 unfold bF;split
 ·refine⟨fun x=>?_,fun x _ h=>ag _ _ h⟩;simp only;by_cases e:x=st.B.h s 0
  ·rw[e,ah];exact⟨rfl,rfl,rfl,rfl,rfl,rfl,rfl,rfl⟩
  ·rw[ag _ _ e];exact⟨rfl,rfl,rfl,rfl,rfl,rfl,rfl,rfl⟩
 ·refine⟨fun x=>?_,fun x b c=>?_⟩
  ·simp only[aT];by_cases e:x=st.B.h s 0
   ·rw[e,ah];exact⟨rfl,rfl,rfl,rfl,rfl,rfl,rfl,rfl⟩
   ·rw[ag _ _ e];by_cases a:x=oc
    ·rw[a,ah];exact⟨rfl,rfl,rfl,rfl,rfl,rfl,rfl,rfl⟩
    ·rw[ag _ _ a];exact⟨rfl,rfl,rfl,rfl,rfl,rfl,rfl,rfl⟩
  ·simp only[aT];rw[ag _ _ c,ag _ _ b]
theorem nM{oc s:Nat}{st:MS}(h:¬stops oc s st=true):0<st.B.n s/\0<(st.om oc).aH:=by
 simp only[stops,Bool.or_eq_true,Bool.not_eq_true',decide_eq_false_iff_not,not_or,Decidable.not_not]at h;obtain⟨b,a⟩:=h;cases hf:dA st.B st.om (bI (st.om oc)) s
 ·rw[hf]at a;simp at a
 ·exact⟨(tu hf).1,b⟩
theorem xU{oc s:Nat}:∀(a:Nat) (st:MS),su oc s st ->
 (∀x,((bu oc s a st).om x).id=(st.om x).id/\((bu oc s a st).om x).side=(st.om x).side/\((bu oc s a st).om x).sym=(st.om x).sym/\((bu oc s a st).om x).af=(st.om x).af/\((bu oc s a st).om x).place=(st.om x).place/\((bu oc s a st).om x).aG=(st.om x).aG/\((bu oc s a st).om x).kind=(st.om x).kind/\((bu oc s a st).om x).az=(st.om x).az) /\
 (∀x,x≠oc->¬dn st.B s x->(bu oc s a st).om x=st.om x)/\(∀b,dn (bu oc s a st).B s b->dn st.B s b)/\su oc s (bu oc s a st):=by
 intro a
 induction a with
 | zero=>exact fun st c=>⟨fun _=>⟨rfl,rfl,rfl,rfl,rfl,rfl,rfl,rfl⟩,fun _ _ _=>rfl,fun _ h=>h,c⟩
 | succ a ih =>
   intro st c;rw[bu];split
   ·exact⟨fun _=>⟨rfl,rfl,rfl,rfl,rfl,rfl,rfl,rfl⟩,fun _ _ _=>rfl,fun _ h=>h,c⟩
   ·rename_i D;obtain⟨g,C⟩:=nM D;obtain⟨E,_,i⟩:=pG c g C;obtain⟨j,a2,a3,a4⟩:=ih (bF oc s st) E;obtain⟨k,l⟩:=Rn (oc:=oc) (s:=s) (st:=st);refine⟨fun x=>?_,fun x d f=>?_,fun b A=>i b (a3 b A),a4⟩
    ·obtain⟨c1,m,n,o,c5,p,c7,c8⟩:=j x;obtain⟨q,r,t,u,v,w,y,z⟩:=k x;exact⟨c1.trans q,m.trans r,n.trans t,o.trans u,c5.trans v,p.trans w,c7.trans y,c8.trans z⟩
    ·rw[a2 x d (fun h=>f (i x h)),l x d (fun e=>f (.inr ⟨0,g,e⟩))]
def Lg.bf(G:Lg)(id:Int):Lg:=G.begun.aY [.entered id]
def aS.enter(V:aS)(i b s t g cap':Nat)(o:iR)(bG:Lm):aS :=
 { V with B:=aK V.B i (dX b t g cap' (mF b s ⟨V.B i,aK V.om b (aQ o),V.lg.bf o.id⟩)),om:=aI b (mF b s ⟨V.B i,aK V.om b (aQ o),V.lg.bf o.id⟩),aV:=fun id=>if id=o.id then some b else V.aV id,no:=V.no+1,lg:=iO b (mF b s ⟨V.B i,aK V.om b (aQ o),V.lg.bf o.id⟩),lm:=bG }
theorem xK(oc:Nat)(st:MS)(x:Nat):(aI oc st x).id=(st.om x).id:=by
 unfold aI;split
 ·by_cases e:x=oc
  ·rw[e,ah]
  ·rw[ag _ _ e]
 ·by_cases e:x=oc
  ·rw[e,ah];rfl
  ·rw[ag _ _ e]
theorem ru(oc:Nat)(st:MS){x:Nat}(h:x≠oc):aI oc st x=st.om x:=by
 unfold aI;split <;> rw[ag _ _ h]
theorem zT{oc t g cap':Nat}{st:MS}{x b:Nat}(h:dn (dX oc t g cap' st) x b):dn st.B x b\/b=oc\/b=g:=by
 unfold dX at h;split at h
 ·by_cases e:x=t
  ·subst e;rcases h with h | ⟨k,c,h⟩
   ·simp only[Bk.rest,ah,ig,Option.some.injEq]at h;exact .inr (.inr h.symm)
   ·simp only[Bk.rest,ah]at c h;rcases (jf (lt:=fE (aI oc st)) (st.B.h x) oc _).1 ⟨k,c,rfl⟩ with a | a
    ·obtain⟨k',f,d⟩:=a;exact .inl (.inr ⟨k',f,by rw[h,d]⟩)
    ·exact .inr (.inl (by rw[h,a]))
  ·left;unfold dn at h ⊢;simp only[Bk.rest,ag _ _ e]at h;exact h
 ·exact .inl h
theorem qF{oc t g cap':Nat}{st:MS}:(dX oc t g cap' st).sym=st.B.sym:=by
 unfold dX;split <;> rfl
theorem dL.enter{w H w':World}{bv bm I:Nat}{V:aS}(R:dL w bv bm I V){i b s t g cap':Nat}{o:iR}{L:Nat->Prop}(z:i<V.nb)(hs:s<2)(C:t=1-s)(hno:V.no<200)(hfree:V.aV o.id=none)
 (hb:w.heap.size<=b) (hbo:bV H b (aQ o) 0) {Q:Lm} (hv5:bz H bv bm I (V.lg.bf o.id) Q) (UE:∀x,Q.F x->V.lm.F x\/w.heap.size<=x) (X:aj (fun x=>x=I\/x=bv\/V.lm.F x) w H) (m5:∃T,kG H 3 I T (V.no+1)/\(∀id,T (.int .i64 id)=if id=o.id then some b else V.aV id)) (iv:su b s ⟨V.B i,aK V.om b (aQ o),V.lg.bf o.id⟩) (hL:L=fun x=>x=b\/∃id,V.aV id=some x)
 (m:Mk w' (V.bk i) (dX b t g cap' (mF b s ⟨V.B i,aK V.om b (aQ o),V.lg.bf o.id⟩)) (aI b (mF b s ⟨V.B i,aK V.om b (aQ o),V.lg.bf o.id⟩)) L) {bG:Lm} (hv:bz w' bv bm I (iO b (mF b s ⟨V.B i,aK V.om b (aQ o),V.lg.bf o.id⟩)) bG)
 (k:aj (fun x=>x=bv\/Q.F x\/x=V.bk i\/x=b\/dn (V.B i) s x\/dn (V.B i) t x) H w') (hg:ig ((V.B i).sl t)=some g\/H.heap.size<=g):dL w' bv bm I (V.enter i b s t g cap' o bG):=by
 obtain⟨Z,a2,a3,a4⟩:=xU (mu b s ⟨V.B i,aK V.om b (aQ o),V.lg.bf o.id⟩) ⟨V.B i,aK V.om b (aQ o),V.lg.bf o.id⟩ iv;obtain⟨f1,f2,f3,f4,f5⟩:=jB b s (mu b s ⟨V.B i,aK V.om b (aQ o),V.lg.bf o.id⟩) ⟨V.B i,aK V.om b (aQ o),V.lg.bf o.id⟩;change ∀x,((mF b s ⟨V.B i,aK V.om b (aQ o),V.lg.bf o.id⟩).om x).id=_/\_ at Z;change ∀x,x≠b->¬dn (V.B i) s x->(mF b s ⟨V.B i,aK V.om b (aQ o),V.lg.bf o.id⟩).om x=aK V.om b (aQ o) x at a2;change ∀x,dn (mF b s ⟨V.B i,aK V.om b (aQ o),V.lg.bf o.id⟩).B s x->dn (V.B i) s x at a3;change ∀t,t≠s->(mF b s ⟨V.B i,aK V.om b (aQ o),V.lg.bf o.id⟩).B.n t=(V.B i).n t/\(mF b s ⟨V.B i,aK V.om b (aQ o),V.lg.bf o.id⟩).B.h t=(V.B i).h t at f1;change (mF b s ⟨V.B i,aK V.om b (aQ o),V.lg.bf o.id⟩).B.sl=(V.B i).sl at f2;change (mF b s ⟨V.B i,aK V.om b (aQ o),V.lg.bf o.id⟩).B.sym=(V.B i).sym at f4;simp only at Z;unfold aS.enter;generalize mF b s ⟨V.B i,aK V.om b (aQ o),V.lg.bf o.id⟩=st1 at *;have t2:t<2:=by omega
 have DY:∀x,x<2->x=s\/x=t:=by omega
 have Y:∀j,j<V.nb->∀x,x<2->∀y,dn (V.B j) x y->y<w.heap.size:=fun j u x a y h=>by
  rcases h with h | ⟨l,f,rfl⟩
  ·exact ((R.aW j u).side x a).lt h
  ·exact (((R.aW j u).side x a).bg f).lt
 have aaS:∀x,x<2->∀y,dn st1.B x y->dn (V.B i) x y:=fun x a y h=>by
  rcases DY x a with rfl | rfl
  ·exact a3 y h
  ·by_cases e:x=s
   ·rw[e]at h ⊢;exact a3 y h
   ·unfold dn at h ⊢;rw[f2,(f1 x e).1,(f1 x e).2]at h;exact h
 have ace:∀x,x≠b->¬dn (V.B i) s x->aI b st1 x=V.om x:=fun x D A=>by rw[ru _ _ D,a2 x D A,ag _ _ D]
 have abp:∀j,j<V.nb->j≠i->bM w' (V.bk j) (V.B j) (aI b st1):=fun j u G=>by
  have v:=R.aW j u;have h5:bM H (V.bk j) (V.B j) V.om:=v.aC X (by
   obtain⟨T,S,_⟩:=R.fA;have key:∀{x c t},au w x c t->(t=158\/t=114\/t=116)->¬(x=I\/x=bv\/V.lm.F x):=by
    rintro x c t a C (e | e | e)
    ·exact S.ne a e.symm
    ·exact au.ne a R.cO (by rcases C with rfl | rfl | rfl <;> decide) e
    ·exact R.aO.aO.ne a (by rcases C with rfl | rfl | rfl <;> decide) (by rcases C with rfl | rfl | rfl <;> decide) (by rcases C with rfl | rfl | rfl <;> decide) (by rcases C with rfl | rfl | rfl <;> decide) (by rcases C with rfl | rfl | rfl <;> decide) e
   rintro x (rfl | ⟨y,d,h⟩)
   ·exact key v.ay (.inl rfl)
   ·rcases h with h | ⟨l,f,rfl⟩
    ·rcases (v.side y d) with⟨h0,_⟩ | ⟨ab,hab,O⟩
     ·rw[h0]at h;simp[ig]at h
     ·obtain⟨cs,P,_⟩:=O.sD;rw[hab]at h;simp[ig]at h;rw[h]at P;exact key P (.inr (.inl rfl))
    ·exact key ((v.side y d).bg f) (.inr (.inr rfl)))
  have nS:∀x,(x=V.bk j\/∃y,y<2/\dn (V.B j) y x)->¬(x=bv\/Q.F x\/x=V.bk i\/x=b\/dn (V.B i) s x\/dn (V.B i) t x):=by
   have hbi:=(R.aW i z).ay;rintro x (rfl | ⟨y,d,h⟩) (e | e | e | e | e | e)
   ·exact au.ne v.ay R.cO (by decide) e
   ·rcases UE _ e with e | e
    ·exact R.aO.aO.ne v.ay (by decide) (by decide) (by decide) (by decide) (by decide) e
    ·have:=v.ay.lt;omega
   ·exact R.rY j i u z G e
   ·have:=v.ay.lt;omega
   ·rcases e with e | ⟨l,f,e⟩
    ·exact ((R.aW i z).side s hs).ne v.ay (by decide) e
    ·exact au.ne v.ay (((R.aW i z).side s hs).bg f) (by decide) e
   ·rcases e with e | ⟨l,f,e⟩
    ·exact ((R.aW i z).side t t2).ne v.ay (by decide) e
    ·exact au.ne v.ay (((R.aW i z).side t t2).bg f) (by decide) e
   ·rw[e]at h;rcases h with h | ⟨l,f,h⟩
    ·exact (v.side y d).ne R.cO (by decide) h
    ·exact au.ne R.cO ((v.side y d).bg f) (by decide) h
   ·have hxl:=Y j u y d x h;have e:V.lm.F x:=(UE x e).elim id (fun h=>by omega);obtain⟨c,E,N,ht'⟩:=R.aO.aO.gZ e;rcases h with h | ⟨l,f,h⟩
    ·exact (v.side y d).ne N (by rcases ht' with rfl | rfl | rfl | rfl | rfl | rfl <;> decide) h
    ·subst h;exact au.ne N ((v.side y d).bg f) (by rcases ht' with rfl | rfl | rfl | rfl | rfl | rfl <;> decide) rfl
   ·rw[e]at h;rcases h with h | ⟨l,f,h⟩
    ·exact (v.side y d).ne hbi (by decide) h
    ·exact au.ne hbi ((v.side y d).bg f) (by decide) h
   ·have:=Y j u y d x h;omega
   ·exact R.nX j i u z G y s d hs x h e
   ·exact R.nX j i u z G y t d t2 x h e
  have U:bM w' (V.bk j) (V.B j) V.om:=h5.aC k (fun x h=>nS x (by
   rcases h with h | ⟨y,d,h⟩
   ·exact .inl h
   ·exact .inr ⟨y,d,h⟩))
  refine⟨U.ay,fun y d=>(U.side y d).om (fun l f=>?_),U.apart,U.vI⟩;have O:dn (V.B j) y ((V.B j).h y l):=.inr ⟨l,f,rfl⟩;refine ace _ ?_ (R.nX j i u z G y s d hs _ O);have:=Y j u y d _ O;omega
 have hgl:∀x,x<w.heap.size->(ig ((V.B i).sl t)=some x\/x≠g):=fun x a=>by
  rcases hg with h | h
  ·by_cases e:x=g
   ·exact .inl (by rw[e];exact h)
   ·exact .inr e
  ·right;have:=X.size;omega
 obtain⟨fB,mB,VF,Xk⟩:=R.iM;obtain⟨fO5,mO5,abu⟩:=m5;have aah:kG H 9 bm fB V.nb:=mB.aC X (by
  rintro (e | e | e)
  ·exact R.F5 e
  ·exact mB.ne R.cO e
  ·obtain⟨c,E,N,_⟩:=R.aO.aO.gZ e;exact mB.ne N rfl)
 have notS:∀r,(∀b' c E,au H b' c E->r≠b')->¬(r=bv\/Q.F r\/r=V.bk i\/r=b\/dn (V.B i) s r\/dn (V.B i) t r):=by
  intro r J;have bov:∀{b' c E},au w b' c E->b'≠I->(E=158\/E=114\/E=116)->au H b' c E:=fun h G C=>X.ay h (by
   rintro (e | e | e)
   ·exact G e
   ·exact au.ne h R.cO (by rcases C with rfl | rfl | rfl <;> decide) e
   ·exact R.aO.aO.ne h (by rcases C with rfl | rfl | rfl <;> decide) (by rcases C with rfl | rfl | rfl <;> decide) (by rcases C with rfl | rfl | rfl <;> decide) (by rcases C with rfl | rfl | rfl <;> decide) (by rcases C with rfl | rfl | rfl <;> decide) e)
  obtain⟨T,S,_⟩:=R.fA;have aaR:∀x,x<2->¬dn (V.B i) x r:=by
   rintro x a (e | ⟨l,f,e⟩)
   ·rcases ((R.aW i z).side x a) with⟨h0,_⟩ | ⟨ab,hab,O⟩
    ·rw[h0]at e;simp[ig]at e
    ·obtain⟨cs,P,_⟩:=O.sD;rw[hab]at e;simp[ig]at e;exact J ab _ _ (bov P (Ne.symm (S.ne P)) (by simp)) e.symm
   ·have h:=((R.aW i z).side x a).bg f;exact J _ _ _ (bov h (Ne.symm (S.ne h)) (by simp)) e
  rintro (e | e | e | e | e | e)
  ·exact J bv _ _ hv5.cO e
  ·obtain⟨c,E,N,_⟩:=hv5.aO.gZ e;exact J r _ _ N rfl
  ·exact J _ _ _ (bov (R.aW i z).ay (Ne.symm (S.ne (R.aW i z).ay)) (by simp)) e
  ·exact J b _ _ hbo e
  ·exact aaR s hs e
  ·exact aaR t t2 e
 refine⟨hv,⟨fB,aah.aC k (notS bm (fun b' c E h=>aah.ne h)),?_,?_⟩,⟨fO5,mO5.aC k (notS I (fun b' c E h=>mO5.ne h)),abu⟩,R.F5,?_,?_,?_,R.rY,?_,by show V.no+1<=200;omega⟩
 ·intro j u;by_cases e:j=i
  ·subst e;simp only[ah,qF,f4];exact VF j u
  ·simp only[ag _ _ e];exact VF j u
 ·intro s' b' h;obtain⟨j,u,e1,M⟩:=Xk s' b' h;refine⟨j,u,e1,?_⟩;by_cases e:j=i
  ·subst e;simp only[ah,qF,f4];exact M
  ·simp only[ag _ _ e];exact M
 ·intro j u;by_cases e:j=i
  ·subst e;simp only[ah];exact m.aW
  ·simp only[ag _ _ e];exact abp j u e
 ·intro id x a;simp only at a ⊢;rw[xK,(Z x).1];by_cases e:id=o.id
  ·rw[if_pos e]at a;simp only[Option.some.injEq]at a;rw[<-a,ah];exact⟨e.symm,m.bg b (by rw[hL];exact .inl rfl)⟩
  ·rw[if_neg e]at a;obtain⟨D,ix,A⟩:=R.bg id x a;have:=A.lt;rw[ag _ _ (by omega)];exact⟨D,m.bg x (by rw[hL];exact .inr ⟨id,a⟩)⟩
 ·intro j u x a l f;simp only at u f ⊢;by_cases e:j=i
  ·subst e;simp only[ah]at f ⊢;have:=m.mem x a l f;rw[hL]at this;rcases this with h | ⟨id,h⟩
   ·exact⟨o.id,by rw[if_pos rfl,h]⟩
   ·by_cases e:id=o.id
    ·rw[e,hfree]at h;simp at h
    ·exact⟨id,by rw[if_neg e];exact h⟩
  ·simp only[ag _ _ e]at f ⊢;obtain⟨id,h⟩:=R.mem j u x a l f;by_cases e:id=o.id
   ·rw[e,hfree]at h;simp at h
   ·exact⟨id,by rw[if_neg e];exact h⟩
 ·intro p q W K G x y a d r D A;have half:∀p q,p<V.nb->q<V.nb->p≠q->p=i->∀x y,x<2->y<2->∀r,dn (dX b t g cap' st1) x r->dn (V.B q) y r->False:=by
   intro p q W K G e x y a d r D A;have J:=Y q K y d r A;rcases zT D with h | h | h
   ·exact R.nX i q z K (by omega) x y a d r (aaS x a r h) A
   ·omega
   ·rcases hgl r J with h' | h'
    ·exact R.nX i q z K (by omega) t y t2 d r (.inl h') A
    ·exact h' h
  by_cases e:p=i
  ·simp only[e,ah]at D;simp only[ag _ _ (show q≠i by omega)]at A;exact half p q W K G e x y a d r D A
  ·simp only[ag _ _ e]at D;by_cases M:q=i
   ·simp only[M,ah]at A;exact half q p K W (fun h=>G h.symm) M y x d a r A D
   ·simp only[ag _ _ M]at A;exact R.nX p q W K G x y a d r D A
theorem wQ(b:Nat->Int)(a:ByteArray):∀k,a.size<=(iJ b a k).size
 | 0=>Nat.le_refl _
 | k+1=>by
   have:=wQ b a k;simp only[iJ,ByteArray.size_append];omega
theorem GV(id a:Int)(sym:ByteArray)(side b af az:Int)(hs:sym.size<=100)(f:dM id)(g:dM a)(j:dM side)(k:dM b)(l:dM af)(m:dM az) :
 0<(vK id a sym side b af az).size/\(vK id a sym side b af az).size<=290:=by
 have n:=jX (DY id a) uo 2 (fun i c=>by match i,c with | 0,_=>exact f | 1,_=>exact g);have z2:=jX (Oe side b af az) sym 4 (fun i c=>by match i,c with | 0,_=>exact j | 1,_=>exact k | 2,_=>exact l | 3,_=>exact m);have d:=wQ (DY id a) uo 2;have o:uo.size=5:=by decide
 rw[o]at n d;have e:(ByteArray.mk #[32]).size=1:=rfl;simp only[vK,ByteArray.size_append,e];omega
theorem Kr(id c:Int)(sym:ByteArray)(side b af az:Int)(w:World)(m:qj w)(hs:sym.size<=100)(d:dM id)(f:dM c)(g:dM side)(i:dM b)(j:dM af)(l:dM az) :
 ∀a,aj aA w a->CT 113 #[.agg #[II id,II c,.string sym,II side,II b,II af,II az]] a fun e w'=>e=.returned (.string (vK id c sym side b af az))/\aj aA w w':=by
 intro a k;refine (yV id c sym side b af az a (m.ax k) (by omega) d f g i j l).mono ?_;rintro e w' ⟨rfl,n⟩;exact⟨rfl,k.trans n⟩
theorem tK{n:Int}(h:-1000000<=n/\n<=1000000):dM n:=⟨by omega,by omega⟩
def Uj(o:iR):Array Value:=#[II o.id,II o.aG,.string o.sym,II o.side,II o.kind,II o.af,II o.az]
theorem dL.ax{w w':World}{bv a c:Nat}{V:aS}(R:dL w bv a c V)(k:aj aA w w'):dL w' bv a c V:=by
 obtain⟨d,o,f,g⟩:=R.iM;obtain⟨e,p,j⟩:=R.fA;exact⟨R.aO.ax k,⟨d,o.aC k idd,f,g⟩,⟨e,p.aC k idd,j⟩,R.F5,fun i l=>(R.aW i l).aC k (fun _ _ x=>x),fun id b h=>⟨(R.bg id b h).1,(R.bg id b h).2.elim fun n m=>⟨n,k.ay m idd⟩⟩,R.mem,R.rY,R.nX,R.fM⟩
def bY(bv bm bo:Nat)(V:aS)(x:Nat):Prop:=x=bv\/x=bm\/x=bo\/(∃i,i<V.nb/\(x=V.bk i\/∃s,s<2/\dn (V.B i) s x))\/(∃id,V.aV id=some x)\/V.lm.F x
theorem dL.JS{w:World}{bv d f:Nat}{V:aS}(R:dL w bv d f V){x:Nat}{c:Array Value}{t:TypeId}(a:au w x c t)(j:t≠100)(l:t≠158)(m:t≠114)(g:t≠116)(n:t≠103)(o:t≠62)(p:t≠105)(q:t≠109:=by decide)(r:t≠1/\t≠5:=by decide):¬bY bv d f V x:=by
 obtain⟨A,y,_⟩:=R.iM;obtain⟨B,z,_⟩:=R.fA;rintro (e | e | e | ⟨i,b,e | ⟨s,hs,e | ⟨k,u,e⟩⟩⟩ | ⟨id,e⟩ | e)
 ·exact au.ne a R.cO j e
 ·exact y.ne a e.symm
 ·exact z.ne a e.symm
 ·exact au.ne a (R.aW i b).ay l e
 ·exact ((R.aW i b).side s hs).ne a m e
 ·exact au.ne a (((R.aW i b).side s hs).bg u) g e
 ·obtain⟨_,C,v⟩:=R.bg id x e;exact au.ne a v g rfl
 ·exact R.aO.aO.ne a n o p q r e
theorem dL.zn{w:World}{bv b c:Nat}{V:aS}(R:dL w bv b c V){x:Nat}(h:bY bv b c V x):x<w.heap.size:=by
 obtain⟨l,g,_⟩:=R.iM;obtain⟨m,j,_⟩:=R.fA;rcases h with rfl | rfl | rfl | ⟨i,a,rfl | ⟨s,hs,e | ⟨k,d,rfl⟩⟩⟩ | ⟨id,e⟩ | e
 ·exact R.cO.lt
 ·exact g.lt
 ·exact j.lt
 ·exact (R.aW i a).ay.lt
 ·exact ((R.aW i a).side s hs).lt e
 ·exact (((R.aW i a).side s hs).bg d).lt
 ·obtain⟨_,n,f⟩:=R.bg id x e;exact f.lt
 ·exact R.aO.aO.lt e
theorem IU(o o':Ord)(tr d:Int):∃b r c a n,kK o o' tr d=.agg #[II b,II r,II c,II a,II n]:=by
 unfold kK;split <;> exact⟨_,_,_,_,_,rfl⟩
theorem acg(tmps:Array Value)(H:Nat)(w:World)(a b c d e:Int)(f:tmps.getD 4 undef=PP H)(g:tmps.getD 5 undef=II 0)(l:au w H #[II a,II b,II c,II d,II e] 87) :
 (results Tryz.f64 tmps).run Tryz.prog w=.ok (.tuple #[.agg #[II a,II b,II c,II d,II e],II 0]) w:=by
 obtain⟨c0,c1,i,j,k⟩:=l.c5;simp only[Array.getD_eq_getD_getElem?]at f g;simp[results,Tryz.results64,go_sem,f,g,c0,c1,i,j,k]
theorem bM.jG{w w':World}{d:Nat}{B:Bk}{om:Nat->Ord}(a:bM w d B om){S:Nat->Prop}(k:aj S w w')(b:∀x c t,au w x c t->(t=158\/t=114\/t=116)->¬S x):bM w' d B om:=by
 refine a.aC k ?_;rintro x (rfl | ⟨y,f,h⟩)
 ·exact b _ _ _ a.ay (.inl rfl)
 ·rcases h with h | ⟨l,i,rfl⟩
  ·rcases (a.side y f) with⟨h0,_⟩ | ⟨m,g,j⟩
   ·rw[h0]at h;simp[ig]at h
   ·obtain⟨cs,e,_⟩:=j.sD;rw[g]at h;simp[ig]at h;rw[h]at e;exact b _ _ _ e (.inr (.inl rfl))
  ·exact b _ _ _ ((a.side y f).bg i) (.inr (.inr rfl))
theorem dL.kM{w w':World}{bv d f:Nat}{V:aS}(R:dL w bv d f V){G':Lg}{bG:Lm}(o:bz w' bv d f G' bG)(k:aj (fun x=>x=bv\/V.lm.F x) w w'):dL w' bv d f { V with lg:=G',lm:=bG }:=by
 obtain⟨B,v,D,E⟩:=R.iM;obtain⟨C,z,G⟩:=R.fA;have i:∀{x c t},au w x c t->(t=158\/t=114\/t=116)->¬(x=bv\/V.lm.F x):=by
  rintro x c t r a (e | e)
  ·exact au.ne r R.cO (by rcases a with rfl | rfl | rfl <;> decide) e
  ·exact R.aO.aO.ne r (by rcases a with rfl | rfl | rfl <;> decide) (by rcases a with rfl | rfl | rfl <;> decide) (by rcases a with rfl | rfl | rfl <;> decide) (by rcases a with rfl | rfl | rfl <;> decide) (by rcases a with rfl | rfl | rfl <;> decide) e
 have A:∀m,(∀b c t,au w b c t->m≠b)->¬(m=bv\/V.lm.F m):=by
  rintro m u (e | e)
  ·exact u _ _ _ R.cO e
  ·obtain⟨c,t,I,_⟩:=R.aO.aO.gZ e;exact u _ _ _ I rfl
 refine⟨o,⟨B,v.aC k (A d (fun b c t n=>v.ne n)),D,E⟩,⟨C,z.aC k (A f (fun b c t n=>z.ne n)),G⟩,R.F5,fun j g=>(R.aW j g).aC k ?_,fun id x h=>⟨(R.bg id x h).1,(R.bg id x h).2.elim fun K q=>⟨K,k.ay q (i q (.inr (.inr rfl)))⟩⟩,R.mem,R.rY,R.nX,R.fM⟩;rintro x (rfl | ⟨y,s,h⟩)
 ·exact i (R.aW j g).ay (.inl rfl)
 ·rcases h with h | ⟨l,o,rfl⟩
  ·rcases ((R.aW j g).side y s) with⟨h0,_⟩ | ⟨L,H,J⟩
   ·rw[h0]at h;simp[ig]at h
   ·obtain⟨cs,p,_⟩:=J.sD;rw[H]at h;simp[ig]at h;rw[h]at p;exact i p (.inr (.inl rfl))
  ·exact i (((R.aW j g).side y s).bg o) (.inr (.inr rfl))
open Go.RowKit Go.Maps Go.Lib
theorem aau:(Tryz.prog.info? 5).map (fun i=>(i.zero,i.size,i.bytes))=some (some (.int .u8 0),1,1):=by kernel_rfl
theorem Xg:Tryz.prog.cellsOf 5=1:=by kernel_rfl
theorem au.setRow{w:World}{b:Nat}{c:Array Value}{t:TypeId}(h:au w b c t)(cs:Array Value):au (w.setRow b cs) b cs t:=by
 unfold au at h ⊢;simp[World.setRow,Array.getElem?_modify,h]
theorem au.shape{w:World}{b:Nat}{c:Array Value}{t:TypeId}(h:au w b c t):w.shape? b=some (t,c.size):=by
 unfold au at h;unfold World.shape?;rw[h]
theorem G8(w:World)(a:Addr)(n k:Nat)(h:k≠a.block):(w.freeze a n).heap[k]?=w.heap[k]?:=by
 unfold World.freeze;split
 ·rfl
 ·simp only[Array.getElem?_modify];rw[if_neg (by omega)]
theorem aj.setRow{S:Nat->Prop}{a w:World}(h:aj S a w){b:Nat}(c:S b\/a.heap.size<=b)(cs:Array Value):aj S a (w.setRow b cs) :=
 ⟨h.os,h.tape,h.output,by have:=h.size;simpa [World.setRow] using this,fun k d hs=>by
  have e:k≠b:=by rintro rfl;rcases c with c | c;exact hs c;omega
  have:(w.setRow b cs).heap[k]?=w.heap[k]?:=by simp only[World.setRow,Array.getElem?_modify];rw[if_neg (by omega)]
  rw[this];exact h.block k d hs⟩
theorem aj.freeze{S:Nat->Prop}{a w:World}(h:aj S a w){p:Addr}(b:S p.block\/a.heap.size<=p.block)(n:Nat):aj S a (w.freeze p n):=by
 refine⟨?_,?_,?_,?_,fun k c hs=>?_⟩
 ·unfold World.freeze;split <;> exact h.os
 ·unfold World.freeze;split <;> exact h.tape
 ·unfold World.freeze;split <;> exact h.output
 ·unfold World.freeze;split
  ·exact h.size
  ·have:=h.size;simpa using this
 ·rw[G8 _ _ _ _ (by rintro rfl;rcases b with b | b;exact hs b;omega)];exact h.block k c hs
theorem BF(s:ByteArray)(w:World)(hs:s.size<=100000):CT 84 #[.string s] w fun e w'=>e=.returned (.string s)/\aj aA w w':=by
 by_cases h0:s.size=0
 ·have l:((s.size:Int) == 0)=true:=by rw[h0];rfl
  have n:Hid (s=ByteArray.empty):=by
   show s=_;exact ByteArray.ext (Array.eq_empty_of_size_eq_zero h0)
  clear h0;go_enter Tryz.func84,Tryz.ntmps84;go_wp2;go_ret;exact⟨by rw[ae n];rfl,aj.refl _ _⟩
 ·have l:((s.size:Int) == 0)=false:=beq_eq_false_iff_ne.2 (by omega);have r:0<s.size:=by omega
  have q:=run_make_row' (P:=Tryz.prog) 98 5 (.int .u8 0) 1 Tryz.underlying98 aau rfl .i64 .i64 s.size (by omega) (by omega);have d:au (w.alloc (.cells (madeCells #[.int .u8 0] s.size) 5)) w.heap.size (madeCells #[.int .u8 0] s.size) 5:=au.new w _ _;have p:=fun ty=>run_copy_row_string (P:=Tryz.prog) (w.alloc (.cells (madeCells #[.int .u8 0] s.size) 5)) 98 9 ty 5 w.heap.size 0 s.size s.size s (madeCells #[.int .u8 0] s.size) 5 Tryz.underlying98 (by kernel_rfl) d (Nat.le_refl _) (by rw[size_madeCells];omega)
  have a:s.data.toList.length=s.size:=by rw[Array.length_toList];rfl
  obtain⟨b,c⟩:=gy ((byteCells s.data.toList++List.drop s.size (madeCells #[.int .u8 0] s.size).toList).toArray);have f:=d.setRow b;have g:b.size=s.size:=by rw[c];simp[byteCells_length,size_madeCells,a]
  have o:=fun ty=>run_unsafeString_row (P:=Tryz.prog) (w:=(w.alloc (.cells (madeCells #[.int .u8 0] s.size) 5)).setRow w.heap.size b) 191 3 ty 5 Tryz.underlying191 Xg w.heap.size b.size (f.shape) s.data.toList (by intro e;rw[e]at a;simp at a;omega) (by rw[a,g];omega) (by rw[a];omega) (by
   intro j x k;refine World.news_of_block f j _ ?_;have m:j<s.data.toList.length:=(List.getElem?_eq_some_iff.1 k).1;rw[c];simp only[List.toList_toArray];rw[List.getElem?_append_left (by rw[byteCells_length];exact m)];simp only[byteCells,List.getElem?_map,k,Option.map_some])
  have i:(⟨s.data.toList.toArray⟩:ByteArray)=s:=by simp
  rw[a,i,c]at o;clear f d g c h0 a i;go_enter Tryz.func84,Tryz.ntmps84;go_wp2;go_ret;exact⟨rfl,(((aj.refl aA w).alloc _).setRow (.inr (Nat.le_refl _)) _).freeze (.inr (Nat.le_refl _)) _⟩
theorem xI(s:ByteArray)(w:World)(hs:s.size<=100000):CT 49 #[.string s] w fun e w'=>e=.returned (.string s)/\aj aA w w':=by
 go_enter Tryz.func49,Tryz.ntmps49;go_wp2_with fail;refine (BF s w hs).mono ?_;rintro e w' ⟨rfl,k⟩;go_wp2;go_ret;exact⟨rfl,k⟩
def zN(aa2:Int)(again:Bool):ByteArray:=iJ (DY aa2 (if again then 1 else 0)) D6 2
theorem Ah(a:Int)(again:Bool)(w:World)(k:qj w)(h:dM a) :
 CT 72 #[II a,.bool again] w fun e w'=>e=.returned (.string (zN a again))/\aj aA w w':=by
 have g:∀b:Int,dM b->CT 65 #[.string ⟨#[98,117,115,116]⟩,.slice (some ⟨w.heap.size,0,none⟩) 2 2] (w.alloc (.cells #[II a,II b] 3)) fun e w'=>e=.returned (.string (iJ (DY a b) D6 2))/\aj aA w w':=by
  intro b o;have l:aj aA w (w.alloc (.cells #[II a,II b] 3)):=(aj.refl aA w).alloc _;have j:=au.new w #[II a,II b] 3;refine (rF D6 (DY a b) w.heap.size 2 2 _ (k.ax l) (by omega) (by decide) ?_ ?_).mono ?_
  ·intro i f
   match i,f with
   | 0,_=>exact j.cell 0
   | 1,_=>exact j.cell 1
  ·intro i f
   match i,f with
   | 0,_=>exact h
   | 1,_=>exact o
  ·rintro e w' ⟨rfl,p⟩;exact⟨rfl,l.trans p⟩
 obtain⟨n,m⟩:=aZ (g 1 ⟨by omega,by omega⟩) (g 0 ⟨by omega,by omega⟩);clear g k;cases again
 ·go_enter Tryz.func72,Tryz.ntmps72;go_wp2_with (go_at_call 65;refine (ae m).mono ?_;rintro e w' ⟨rfl,c⟩;have d:=ai c;clear c);go_ret;exact⟨rfl,ae d⟩
 ·go_enter Tryz.func72,Tryz.ntmps72;go_wp2_with (go_at_call 65;refine (ae n).mono ?_;rintro e w' ⟨rfl,c⟩;have d:=ai c;clear c);go_ret;exact⟨rfl,ae d⟩
theorem zO(a:Int)(again:Bool)(h:dM a):0<(zN a again).size/\(zN a again).size<=290:=by
 have d:=jX (DY a (if again then 1 else 0)) D6 2 (fun i c=>by
  match i,c with
  | 0,_=>exact h
  | 1,_=>show dM (if again then 1 else 0);cases again <;> exact⟨by simp,by simp⟩)
 have b:=wQ (DY a (if again then 1 else 0)) D6 2;have e:D6.size=4:=by decide
 rw[e]at d b;unfold zN;omega
theorem Kq(b:Int)(again:Bool)(w:World)(c:qj w)(h:dM b) :
 ∀a,aj aA w a->CT 72 #[II b,.bool again] a fun e w'=>e=.returned (.string (zN b again))/\aj aA w w':=by
 intro a k;refine (Ah b again a (c.ax k) h).mono ?_;rintro e w' ⟨rfl,d⟩;exact⟨rfl,k.trans d⟩
def DX(a b c:Int)(i:Nat):Int:=if i=0 then a else if i=1 then b else c
theorem rG(a:ByteArray)(b:Nat->Int)(m:Nat)(w:World)(g:qj w)(h0:0<a.size)(p:a.size<=100)(o:m<=8)(f:∀i,i<m->dM (b i)) :
 (0<(iJ b a m).size/\(iJ b a m).size<=290)/\∀c,aj aA w c->∀d cap,(∀i,i<m->c.cell? ⟨d,i,none⟩=some (II (b i))) ->
  CT 65 #[.string a,.slice (some ⟨d,0,none⟩) m cap] c fun e w'=>e=.returned (.string (iJ b a m))/\aj aA w w':=by
 refine⟨?_,fun c k d cap j=>?_⟩
 ·have q:=jX b a m f;have n:=wQ b a m;omega
 ·refine (rF a b d m cap c (g.ax k) (by omega) (by omega) j f).mono ?_;rintro e w' ⟨rfl,l⟩;exact⟨rfl,k.trans l⟩
def LM(n:Nat):ByteArray:=if n<10 then ⟨#[UInt8.ofNat (48+n)]⟩ else LM (n / 10)++⟨#[UInt8.ofNat (48+n % 10)]⟩
theorem yu{n:Nat}(h:n<10):LM n=⟨#[UInt8.ofNat (48+n)]⟩:=by unfold LM;rw[if_pos h]
theorem Nw{n:Nat}(h:¬n<10):LM n=LM (n / 10)++⟨#[UInt8.ofNat (48+n % 10)]⟩:=by
 conv=>lhs;unfold LM
 rw[if_neg h]
theorem Bl:∀(a n:Nat),n<10 ^ (a+1)->1<=(LM n).size/\(LM n).size<=a+1
 | 0,n,h=>by rw[yu (by simpa using h)];exact⟨Nat.le_refl _,Nat.le_refl _⟩
 | a+1,n,h=>by
   by_cases b:n<10
   ·rw[yu b];exact⟨Nat.le_refl _,by show 1<=_;omega⟩
   ·have:=Bl a (n / 10) (by rw[Nat.pow_succ]at h;omega);rw[Nw b,ByteArray.size_append];show 1<=(LM (n / 10)).size+1/\(LM (n / 10)).size+1<=a+1+1;omega
theorem ZM(n:Nat)(w:World):(convert 98 9 (.slice (some ⟨w.heap.size,0,none⟩) 1 1)).run Tryz.prog (w.alloc (.cells #[.int .u8 (48+(n:Int) % 10)] 5))=.ok (.string ⟨#[UInt8.ofNat (48+n % 10)]⟩) (w.alloc (.cells #[.int .u8 (48+(n:Int) % 10)] 5)):=by
 refine run_convert_bytes_back (P:=Tryz.prog) _ 98 9 5 ⟨w.heap.size,0,none⟩ 1 [UInt8.ofNat (48+n % 10)] Tryz.underlying98 Tryz.underlying5 Tryz.underlying9 ?_;intro j a;simp at a;subst a;have e:Addr.add ⟨w.heap.size,0,none⟩ 0=⟨w.heap.size,0,none⟩:=by simp[Addr.add]
 rw[e,(au.new w _ _).cell 0];have:(UInt8.ofNat (48+n % 10)).toNat=48+n % 10:=by rw[UInt8.toNat_ofNat'];omega
 simp only[List.getElem_cons_zero,this];simp
theorem Ti:∀(n:Nat) (w:World),n<10000000000->CT 173 #[II (n:Int)] w fun e w'=>e=.returned (.string (LM n))/\aj aA w w':=by
 intro n
 induction n using Nat.strongRecOn with
 | _ n ih =>
   intro w l;have i:(n:Int) % 10<10:=by omega
   have j:0<=(n:Int) % 10:=by omega
   have f:=ZM n w;obtain⟨c,a⟩:=dQ (UInt8.ofNat (48+n % 10));rw[a]at f;by_cases h:n<10
   ·have b:Hid (LM n=⟨#[c]⟩):=by show _=_;rw[yu h,<-a,Nat.mod_eq_of_lt h]
    clear a;go_enter Tryz.func173,Tryz.ntmps173;go_wp2;go_ret;exact⟨by rw[ae b];rfl,(aj.refl _ _).alloc _⟩
   ·have b:=ai (Nw h);rw[a]at b;clear a;have d:=ai (fun w=>ih (n / 10) (by omega) w (by omega));have m:=Bl 9 (n / 10) (by omega);have k:=gu (P:=Tryz.prog) (LM (n / 10)) ⟨#[c]⟩ (by show (LM (n / 10)).size+1<=1000000;omega);clear ih;go_enter Tryz.func173,Tryz.ntmps173;go_wp2_with (go_at_call 173;refine (ae d _).mono ?_;rintro e w2 ⟨rfl,g⟩);go_ret;exact⟨by rw[ae b];rfl,((aj.refl _ _).alloc _).trans g⟩
def qh(n:Int):Prop:=0<=n/\n<10000000000
def jR(n:Int):ByteArray:=LM n.toNat
theorem pM(n:Int)(h:qh n)(b:World):∀a,aj aA b a->CT 173 #[II n] a fun e w'=>e=.returned (.string (jR n))/\aj aA b w':=fun a k=>by
 have e:n=((n.toNat:Nat):Int):=by have:=h.1;omega
 have d:=h.2;have:=Ti n.toNat a (by omega);rw[<-e]at this;refine this.mono ?_;rintro c w' ⟨rfl,k'⟩;exact⟨rfl,k.trans k'⟩
theorem dH(n:Int)(h:qh n):1<=(jR n).size/\(jR n).size<=10:=Bl 9 _ (by have:=h.1;have:=h.2;omega)
theorem Lj(s:ByteArray)(id k:Int)(sym:ByteArray)(side j af az a b c:Int)(again:Bool)(w:World)  (hs:s.size<=1000) :
 CT 139 #[.agg #[.int .u8 108,.string s,II id,II k,.string sym,II side,II j,II af,II az,II a,II b,II c,.bool again]] w fun e w'=>e=.returned (.string ((⟨#[108,105,115,116,32]⟩:ByteArray)++s))/\aj aA w w':=by
 obtain⟨d,g⟩:=gy (w.alloc (.cells #[.int .u8 108,.string s,II id,II k,.string sym,II side,II j,II af,II az,II a,II b,II c,.bool again] 169));have m:aj aA w d:=by rw[g];exact (aj.refl aA w).alloc _
 have f:au d w.heap.size #[.int .u8 108,.string s,II id,II k,.string sym,II side,II j,II af,II az,II a,II b,II c,.bool again] 169:=by rw[g];exact au.new _ _ _
 have p:Hid (∀n,qh n->∀l,aj aA d l->CT 173 #[II n] l fun e w'=>e=.returned (.string (jR n))/\aj aA d w'):=fun n h=>pM n h d
 have c0:=gu (P:=Tryz.prog) (⟨#[108,105,115,116,32]⟩:ByteArray) s (by (repeat rw[ByteArray.size_append]);show 5+s.size<=1000000;omega);obtain⟨H,hH⟩:=dQ w.heap.size;rw[hH]at f;have t:CC d H 0 (.int .u8 108):=f.cell 0;have u:CC d H 1 (.string s):=f.cell 1;have r:H<d.heap.size:=f.lt;obtain⟨i,o⟩:=aZ m g;have q:Hid (aj aA d d):=aj.refl _ _;clear m g f;go_enter Tryz.func139,Tryz.ntmps139;go_wp2;go_ret;refine⟨rfl,?_⟩
 first | exact ae i | (rw[ae o]at i;exact ae i) | exact (aj.refl _ _).alloc _
theorem FC(s:ByteArray)(id j:Int)(sym:ByteArray)(side i af az a b c:Int)(again:Bool)(w:World)(l:qh a)  :
 CT 139 #[.agg #[.int .u8 99,.string s,II id,II j,.string sym,II side,II i,II af,II az,II a,II b,II c,.bool again]] w fun e w'=>e=.returned (.string ((⟨#[99,97,110,99,101,108,32]⟩:ByteArray)++(jR a)))/\aj aA w w':=by
 obtain⟨d,g⟩:=gy (w.alloc (.cells #[.int .u8 99,.string s,II id,II j,.string sym,II side,II i,II af,II az,II a,II b,II c,.bool again] 169));have o:aj aA w d:=by rw[g];exact (aj.refl aA w).alloc _
 have f:au d w.heap.size #[.int .u8 99,.string s,II id,II j,.string sym,II side,II i,II af,II az,II a,II b,II c,.bool again] 169:=by rw[g];exact au.new _ _ _
 have A:=dH a l;have r:Hid (∀n,qh n->∀k,aj aA d k->CT 173 #[II n] k fun e w'=>e=.returned (.string (jR n))/\aj aA d w'):=fun n h=>pM n h d
 have c0:=gu (P:=Tryz.prog) (⟨#[99,97,110,99,101,108,32]⟩:ByteArray) (jR a) (by (repeat rw[ByteArray.size_append]);show 7+(jR a).size<=1000000;omega);obtain⟨H,hH⟩:=dQ w.heap.size;rw[hH]at f;have y:CC d H 0 (.int .u8 99):=f.cell 0;have z:CC d H 9 (II a):=f.cell 9;have v:H<d.heap.size:=f.lt;obtain⟨p,t⟩:=aZ o g;have u:Hid (aj aA d d):=aj.refl _ _;clear o g f;go_enter Tryz.func139,Tryz.ntmps139;go_wp2_with (go_at_call 173;rw[<-ae t];refine (ae r _ l _ (ae u)).mono ?_;rintro e x ⟨rfl,m⟩;have q:=ai m;clear m);go_ret;exact⟨rfl,(ae p).trans (ae q)⟩
theorem Ce(s:ByteArray)(id k:Int)(sym:ByteArray)(side j af az a b c:Int)(again:Bool)(w:World)(o:qh a)(q:qh b)(r:qh c)  :
 CT 139 #[.agg #[.int .u8 114,.string s,II id,II k,.string sym,II side,II j,II af,II az,II a,II b,II c,.bool again]] w fun e w'=>e=.returned (.string ((((((⟨#[114,101,112,108,97,99,101,32]⟩:ByteArray)++(jR a))++(⟨#[32]⟩:ByteArray))++(jR b))++(⟨#[32]⟩:ByteArray))++(jR c)))/\aj aA w w':=by
 obtain⟨d,i⟩:=gy (w.alloc (.cells #[.int .u8 114,.string s,II id,II k,.string sym,II side,II j,II af,II az,II a,II b,II c,.bool again] 169));have t:aj aA w d:=by rw[i];exact (aj.refl aA w).alloc _
 have f:au d w.heap.size #[.int .u8 114,.string s,II id,II k,.string sym,II side,II j,II af,II az,II a,II b,II c,.bool again] 169:=by rw[i];exact au.new _ _ _
 have M:=dH a o;have N:=dH b q;have O:=dH c r;have v:Hid (∀n,qh n->∀m,aj aA d m->CT 173 #[II n] m fun e w'=>e=.returned (.string (jR n))/\aj aA d w'):=fun n h=>pM n h d
 have c0:=gu (P:=Tryz.prog) (⟨#[114,101,112,108,97,99,101,32]⟩:ByteArray) (jR a) (by (repeat rw[ByteArray.size_append]);show 8+(jR a).size<=1000000;omega);have c1:=gu (P:=Tryz.prog) ((⟨#[114,101,112,108,97,99,101,32]⟩:ByteArray)++(jR a)) (⟨#[32]⟩:ByteArray) (by (repeat rw[ByteArray.size_append]);show (8+(jR a).size)+1<=1000000;omega);have B:=gu (P:=Tryz.prog) (((⟨#[114,101,112,108,97,99,101,32]⟩:ByteArray)++(jR a))++(⟨#[32]⟩:ByteArray)) (jR b) (by (repeat rw[ByteArray.size_append]);show ((8+(jR a).size)+1)+(jR b).size<=1000000;omega);have C:=gu (P:=Tryz.prog) ((((⟨#[114,101,112,108,97,99,101,32]⟩:ByteArray)++(jR a))++(⟨#[32]⟩:ByteArray))++(jR b)) (⟨#[32]⟩:ByteArray) (by (repeat rw[ByteArray.size_append]);show (((8+(jR a).size)+1)+(jR b).size)+1<=1000000;omega);have D:=gu (P:=Tryz.prog) (((((⟨#[114,101,112,108,97,99,101,32]⟩:ByteArray)++(jR a))++(⟨#[32]⟩:ByteArray))++(jR b))++(⟨#[32]⟩:ByteArray)) (jR c) (by (repeat rw[ByteArray.size_append]);show ((((8+(jR a).size)+1)+(jR b).size)+1)+(jR c).size<=1000000;omega);obtain⟨H,hH⟩:=dQ w.heap.size;rw[hH]at f;have I:CC d H 0 (.int .u8 114):=f.cell 0;have A:CC d H 9 (II a):=f.cell 9;have y:CC d H 10 (II b):=f.cell 10;have z:CC d H 11 (II c):=f.cell 11;have F:H<d.heap.size:=f.lt;obtain⟨u,x⟩:=aZ t i;have E:Hid (aj aA d d):=aj.refl _ _;clear t i f;go_enter Tryz.func139,Tryz.ntmps139;go_wp2;rw[<-ae x];go_region_held3 (fun w'=>w'.cell? ⟨H,9,none⟩=some (II a)/\w'.cell? ⟨H,10,none⟩=some (II b)/\w'.cell? ⟨H,11,none⟩=some (II c)) (go_keep)
  (first
    | (go_at_call 173;refine (ae v _ ?b _ ?cc).mono ?_;(case b=>first | exact o | exact q | exact r);(case cc=>repeat (first | exact ae l | exact aj.refl _ _ | refine aj.drew ?_ | refine aj.alloc ?_ _));rintro e G ⟨rfl,g⟩;have L:=g.cell (p:=⟨H,9,none⟩) A idd;have J:=g.cell (p:=⟨H,10,none⟩) y idd;have K:=g.cell (p:=⟨H,11,none⟩) z idd;have l:=ai g;clear g))
 all_goals
  go_wp2;go_ret;exact⟨rfl,(ae u).trans (by repeat (first | exact ae l | refine aj.drew ?_ | refine aj.drewN ?_ _))⟩
theorem IW(s:ByteArray)(id f:Int)(sym:ByteArray)(side d af az a b c:Int)(again:Bool)(w:World) :
 CT 139 #[.agg #[.int .u8 120,.string s,II id,II f,.string sym,II side,II d,II af,II az,II a,II b,II c,.bool again]] w fun e w'=>e=.returned (.string (⟨#[99,108,111,115,101]⟩:ByteArray))/\aj aA w w':=by
 go_enter Tryz.func139,Tryz.ntmps139;go_wp2;go_ret;exact⟨rfl,(aj.refl _ _).alloc _⟩
end Go.Proofs.YtigaphnafnpfnaaGreatDoor
