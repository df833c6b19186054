import Derived.Test.YtigaphnafnpfnaaGreatDoorQVB6
import Derived.Test.YtigaphnafnpfnaaGreatDoorQVX4
import Derived.Deep.RegionLaw
import Derived.Deep.AppendLies
set_option linter.unusedVariables false
set_option linter.unusedSimpArgs false
set_option maxHeartbeats 8000000
set_option maxRecDepth 100000
namespace Go.Proofs.YtigaphnafnpfnaaGreatDoor
open Go.RowKit Go.Maps
def gW(v:Value):Option (DataW Unit × List MemPlace) :=
 match v with
 | .pointer none=>some (.nil,[])
 | .pointer (some ⟨b,0,none⟩)=>some (.lit (.int .i64 b),[])
 | _=>none
def FU:Option Nat→DataW Unit
 | none=>.nil
 | some b=>.lit (.int .i64 b)
theorem IP(x:Option Nat):gW (fV x)=some (FU x,[]):=by cases x <;> rfl
theorem vT{v:Value}{x:Option Nat}{ps:List MemPlace}(h:gW v=some (FU x,ps)):v=fV x:=by
 unfold gW at h
 split at h
 ·cases x
  ·rfl
  ·simp[FU]at h
 ·cases x
  ·simp[FU]at h
  ·simp[FU]at h
   obtain⟨h,_⟩:=h
   simp[fV,h]
 ·simp at h
def jD(w:World)(k:TypeId)(b:Nat)(f:Lit→Option Nat)(n:Nat):Prop :=
 ∃D:DataW Unit,w.ownsMap Tryz.prog k gW b n D∧Maps.size D=n∧(∀kl,D.atKey kl .nil=FU (f kl))∧(∀kl,Maps.has D kl=(f kl).isSome)
theorem jD.kept{w w':World}{k:TypeId}{b:Nat}{f:Lit→Option Nat}{n:Nat}(h:jD w k b f n){S:Nat→Prop}(c:ag S w w')(hS:¬S b):jD w' k b f n:=by
 obtain⟨D,⟨es,clock,hb,r⟩,h2⟩:=h
 refine⟨D,⟨es,clock,?_,r⟩,h2⟩
 rw[c.block b (Array.getElem?_eq_some_iff.1 hb).1 hS]
 exact hb
theorem jD.lt{w:World}{k:TypeId}{b:Nat}{f:Lit→Option Nat}{n:Nat}(h:jD w k b f n):b<w.heap.size:=by
 obtain⟨D,h1,_⟩:=h
 exact h1.lt
theorem jD.ne{w:World}{k:TypeId}{b:Nat}{f:Lit→Option Nat}{n:Nat}(h:jD w k b f n){b':Nat}{c:Array Value}{t:TypeId}(hb:ai w b' c t):b≠b':=by
 rintro rfl
 obtain⟨D,⟨es,clock,h1,_⟩,_⟩:=h
 unfold ai at hb
 rw[h1]at hb
 simp at hb
theorem mP(w:World):(zeroValue 111).run Tryz.prog w=.ok (.pointer none) w:=by kernel_rfl
theorem sH(w:World):(zeroValue 114).run Tryz.prog w=.ok (.pointer none) w:=by kernel_rfl
theorem law9:Keyed Tryz.prog 9:=string_keyed Tryz.underlying9
theorem law3:Keyed Tryz.prog 3:=int_keyed Tryz.underlying3
theorem jD.look{w:World}{k t e:TypeId}{b:Nat}{f:Lit→Option Nat}{n:Nat}(h:jD w k b f n)(K:Keyed Tryz.prog k)(ht:Tryz.prog.underlying t=some (.map k e))(hz:(zeroValue e).run Tryz.prog w=.ok (.pointer none) w){key:Value}{kl:Lit}(hkey:keyOf Tryz.prog k key=some kl) :
 (Instr.lookup t (.map (some b)) key false).run Tryz.prog w=.ok (fV (f kl)) w:=by
 obtain⟨D,h1,_,h3,_⟩:=h
 obtain⟨v,ps,hrun,hv⟩:=h1.lookup K ht hz (zd:=.nil) (zp:=[]) rfl hkey
 rw[h3 kl]at hv
 rw[hrun,vT hv]
theorem jD.len{w:World}{k t e:TypeId}{b:Nat}{f:Lit→Option Nat}{n:Nat}(h:jD w k b f n)(ht:Tryz.prog.underlying t=some (.map k e))(ty:TypeId) :
 (Builtin.len_ #[t] ty #[.map (some b)]).run Tryz.prog w=.ok (.int .i64 n) w:=by
 obtain⟨D,h1,h2,_⟩:=h
 rw[h1.len ht ty,h2]
def zH(f:Lit→Option Nat)(kl:Lit)(x:Nat):Lit→Option Nat:=fun k=>if k.sameKey kl then some x else f k
theorem jD.put{w:World}{k t e:TypeId}{b:Nat}{f:Lit→Option Nat}{n x:Nat}(h:jD w k b f n)(K:Keyed Tryz.prog k)(ht:Tryz.prog.underlying t=some (.map k e))(hn:n<maxLen){key:Value}{kl:Lit}(hkey:keyOf Tryz.prog k key=some kl)(hk:WideAt.IsKeyLit kl)(hf:f kl=none) :
 ∃w',(Instr.mapUpdate t (.map (some b)) key (.pointer (some ⟨x,0,none⟩))).run Tryz.prog w=.ok () w'∧jD w' k b (zH f kl x) (n+1)∧ag (fun i=>i=b) w w':=by
 obtain⟨D,h1,h2,h3,h4⟩:=h
 obtain⟨w',hrun,h5,h6⟩:=h1.update K ht hn hkey (IP (some x))
 refine⟨w',hrun,⟨_,h5,?_,?_,?_⟩,?_⟩
 ·rw[size_put (h1.tidy K),h4 kl,hf]
  simp[h2]
 ·intro k'
  unfold zH
  by_cases e:k'=kl
  ·subst e
   rw[atKey_put_same h1.isMap hk,if_pos (WideAt.sameKey_self hk)]
  ·rw[atKey_put_other e,if_neg (fun h=>e ((WideAt.sameKey_iff hk).1 h)),h3]
 ·intro k'
  unfold zH
  by_cases e:k'=kl
  ·subst e
   rw[has_put_same h1.isMap hk,if_pos (WideAt.sameKey_self hk)];rfl
  ·rw[has_put_other e,if_neg (fun h=>e ((WideAt.sameKey_iff hk).1 h)),h4]
 ·exact⟨h6.os,h6.tape,h6.output,h6.size,fun i hi hs=>h6.block i hi (fun h=>hs (by simpa using h))⟩
theorem jD.made(w:World)(k:TypeId):jD (w.alloc (.map #[] 0)) k w.heap.size (fun _=>none) 0 :=
 ⟨.map [],World.ownsMap_made w Tryz.prog k gW,rfl,fun _=>rfl,fun _=>rfl⟩
def bg(n:Int):Bool:=decide (1≤n) && decide (n≤1000000)
def jJ(n:Int):Bool:=decide (0≤n) && decide (n≤9)
def gZ(n:Int):Bool:=(n == 0) || (n == 1)
def jY(n:Int):Bool:=decide (0≤n) && decide (n≤5)
def iw(kind p:Int):Bool:=if kind=5 then p == 0 else bg p
theorem aU(n:Int)(w:World):Calls Tryz.prog 68 #[.int .i64 n] w fun e w'=>e=.returned (.bool (bg n))∧w'=w:=by
 by_cases h1:1≤n
 ·have HR:Hid (bg n=decide (n≤1000000)):=by show _=_;simp[bg,h1]
  go_enter Tryz.func68,Tryz.ntmps68
  go_wp2
  go_ret
  exact⟨by rw[HR.out];rfl,rfl⟩
 ·have HR:Hid (bg n=false):=by show _=_;simp[bg,h1]
  go_enter Tryz.func68,Tryz.ntmps68
  go_wp2
  go_ret
  exact⟨by rw[HR.out];rfl,rfl⟩
theorem dC(n:Int)(w:World):Calls Tryz.prog 144 #[.int .i64 n] w fun e w'=>e=.returned (.bool (jJ n))∧w'=w:=by
 by_cases h1:0≤n
 ·have HR:Hid (jJ n=decide (n≤9)):=by show _=_;simp[jJ,h1]
  go_enter Tryz.func144,Tryz.ntmps144
  go_wp2
  go_ret
  exact⟨by rw[HR.out];rfl,rfl⟩
 ·have HR:Hid (jJ n=false):=by show _=_;simp[jJ,h1]
  go_enter Tryz.func144,Tryz.ntmps144
  go_wp2
  go_ret
  exact⟨by rw[HR.out];rfl,rfl⟩
theorem dw(n:Int)(w:World):Calls Tryz.prog 47 #[.int .i64 n] w fun e w'=>e=.returned (.bool (gZ n))∧w'=w:=by
 cases h1:(n == 0)
 ·have HR:Hid (gZ n=(n == 1)):=by show _=_;simp[gZ,h1]
  go_enter Tryz.func47,Tryz.ntmps47
  go_wp2
  go_ret
  exact⟨by rw[HR.out];rfl,rfl⟩
 ·have HR:Hid (gZ n=true):=by show _=_;simp[gZ,h1]
  go_enter Tryz.func47,Tryz.ntmps47
  go_wp2
  go_ret
  exact⟨by rw[HR.out];rfl,rfl⟩
theorem dL(n:Int)(w:World):Calls Tryz.prog 145 #[.int .i64 n] w fun e w'=>e=.returned (.bool (jY n))∧w'=w:=by
 by_cases h1:0≤n
 ·have HR:Hid (jY n=decide (n≤5)):=by show _=_;simp[jY,h1]
  go_enter Tryz.func145,Tryz.ntmps145
  go_wp2
  go_ret
  exact⟨by rw[HR.out];rfl,rfl⟩
 ·have HR:Hid (jY n=false):=by show _=_;simp[jY,h1]
  go_enter Tryz.func145,Tryz.ntmps145
  go_wp2
  go_ret
  exact⟨by rw[HR.out];rfl,rfl⟩
theorem bU(k n:Int)(w:World):Calls Tryz.prog 146 #[.int .i64 k,.int .i64 n] w fun e w'=>e=.returned (.bool (iw k n))∧w'=w:=by
 by_cases h1:k=5
 ·have e1:(k == 5)=true:=by simp[h1]
  have HR:Hid (iw k n=(n == 0)):=by show _=_;simp[iw,h1]
  clear h1
  go_enter Tryz.func146,Tryz.ntmps146
  go_wp2
  go_ret
  exact⟨by rw[HR.out];rfl,rfl⟩
 ·have e1:(k == 5)=false:=by simp[h1]
  have HR:Hid (iw k n=bg n):=by show _=_;simp[iw,h1]
  clear h1
  go_enter Tryz.func146,Tryz.ntmps146
  go_wp2_with (go_at_call 68;refine (aU _ _).mono ?_;rintro e w' ⟨rfl,rfl⟩)
  go_ret
  exact⟨by rw[HR.out];rfl,rfl⟩
theorem AV{f:Lit→Option Nat}{kl:Lit}{x:Nat}(hk:WideAt.IsKeyLit kl):zH f kl x kl=some x:=by unfold zH;rw[if_pos (WideAt.sameKey_self hk)]
theorem yI{f:Lit→Option Nat}{kl k:Lit}{x:Nat}(hk:WideAt.IsKeyLit kl)(h:k≠kl):zH f kl x k=f k:=by unfold zH;rw[if_neg (fun e=>h ((WideAt.sameKey_iff hk).1 e))]
def aI(o:Ask):Ord:=⟨o.id,o.owner,o.sym,o.side,o.kind,o.price,o.qty,o.qty,o.qty,0,0,0,0⟩
theorem CZ(o:Ask)(w:World):Calls Tryz.prog 112 #[o.val] w fun e w'=>∃b,e=.returned (.pointer (some ⟨b,0,none⟩))∧w.heap.size≤b∧bC w' b (aI o) 0∧ag ak w w':=by
 obtain⟨id,owner,sym,side,kind,price,qty⟩:=o
 simp only[Ask.val]
 go_enter Tryz.func112,Tryz.ntmps112
 go_wp2
 go_ret
 refine⟨_,rfl,?_,?_,?_⟩
 ·simp
 ·exact ai.jR _ _ _ _
 ·exact ((ag.refl ak w).alloc _).alloc _
end Go.Proofs.YtigaphnafnpfnaaGreatDoor
namespace Go.Proofs.YtigaphnafnpfnaaGreatDoor
open Go.RowKit
attribute [local go_sem ↓] Go.wp_at_zero Go.wp_at_succ
theorem jy(n:Int)(w:World):Calls Tryz.prog 198 #[.int .i64 n] w fun e w'=>e=.returned (.bool (bg n))∧w'=w:=by
 by_cases h1:1≤n
 ·have HR:Hid (bg n=decide (n≤1000000)):=by show _=_;simp[bg,h1]
  go_enter Tryz.func198,Tryz.ntmps198
  go_wp2
  go_ret
  exact⟨by rw[HR.out];rfl,rfl⟩
 ·have HR:Hid (bg n=false):=by show _=_;simp[bg,h1]
  have h2:decide (1≤n)=false:=by simpa using h1
  go_enter Tryz.func198,Tryz.ntmps198
  go_wp2
  go_ret
  exact⟨by rw[HR.out];rfl,rfl⟩
def iZ(l:List Ord)(o:Ask):Nat→Int
 | 0=>0
 | i+1=>iZ l o i+(if dK o (ah l i)=true∧(ah l i).owner≠o.owner then (ah l i).opn else 0)
theorem O9(l:List Ord)(o:Ask)(n:Nat)(hb:∀k,k<n→0≤(ah l k).opn∧(ah l k).opn≤1000000000000000):∀i,i≤n→0≤iZ l o i∧iZ l o i≤i * 1000000000000000
 | 0,_=>by simp[iZ]
 | i+1,h=>by
   have:=O9 l o n hb i (by omega)
   have:=hb i (by omega)
   unfold iZ
   split <;> (push_cast;omega)
theorem Dx(base sb:Nat)(S:RS)(m:SM)(o:Ask)(w:World)(h:bH w base sb S m)(hlen:S.l.length≤1000)(hop:∀k,k<S.l.length→0≤(ah S.l k).opn∧(ah S.l k).opn≤1000000000000000) :
 Calls Tryz.prog 200 #[.pointer (some ⟨sb,0,none⟩),o.val] w fun e w'=>e=.returned (.int .i64 (iZ S.l o S.l.length))∧ag ak w w':=by
 obtain⟨n,hn⟩:∃n,S.l.length=n:=⟨_,rfl⟩
 obtain⟨a,c,hv⟩:=az h.bI
 have HG:Hid (∀W,ag ak w W→∀i,i<n→Calls Tryz.prog 224 #[.pointer (some ⟨sb,0,none⟩),o.val,.int .i64 (i:Int)] W fun e w'=>e=.returned (.bool (dK o (ah S.l i)))∧ag ak W w') :=
  fun W k i hi=>A8 base sb i S m o W (h.aj k) hlen (by omega)
 have HX:Hid (∀i,i<n→∃(g:Nat),a=some ⟨g,0,none⟩∧w.cell? ⟨g,i * 13+1,none⟩=some (.int .i64 (ah S.l i).owner)∧w.cell? ⟨g,i * 13+8,none⟩=some (.int .i64 (ah S.l i).opn)):=fun i hi=>by
  obtain⟨g,e,_,hc,_⟩:=h.rY hv (i:=i) (by omega)
  exact⟨g,e,hc 1 _ rfl,hc 8 _ rfl⟩
 rw[hn]at hv hlen hop
 have v1:w.cell? ⟨sb,1,none⟩=some (.slice a n c):=by rw[←hv];exact h.blk.cell 1
 have uj:=h.blk.lt
 rw[hn]
 have HO:=hide (O9 S.l o n hop)
 have V9:=hide hop
 obtain⟨L,hL⟩:∃L,S.l=L:=⟨_,rfl⟩
 rw[hL]at HG HX HO V9 ⊢
 clear h hv hL hn hop
 obtain⟨id,owner,sym,side,kind,price,qty⟩:=o
 simp only[Ask.val]at HG ⊢
 obtain⟨w0,hw0⟩:∃w0,w0=w.alloc (.cells #[.int .i64 id,.int .i64 owner,.string sym,.int .i64 side,.int .i64 kind,.int .i64 price,.int .i64 qty] 52):=⟨_,rfl⟩
 have HB0:Hid (ai w0 w.heap.size #[.int .i64 id,.int .i64 owner,.string sym,.int .i64 side,.int .i64 kind,.int .i64 price,.int .i64 qty] 52∧ag ak w w0):=⟨by rw[hw0];exact ai.new _ _ _,by rw[hw0];exact (ag.refl _ _).alloc _⟩
 have HW:=hide hw0
 clear hw0
 go_enter Tryz.func200,Tryz.ntmps200
 go_wp2
 rw[←ae HW]
 go_loopg [5,6] n (fun k bv iv wr=>∃i:Nat,iv=.int .i64 (i:Int)∧i≤n∧k=n-i∧bv=.int .i64 (iZ L ⟨id,owner,sym,side,kind,price,qty⟩ i)∧ag ak w0 wr)
 case atStart=>exact⟨0,rfl,Nat.zero_le _,rfl,rfl,ag.refl _ _⟩
 case round =>
  obtain⟨i,rfl,hi,hgk,rfl,kr⟩:=hrel
  obtain⟨b0,k0⟩:=ae HB0
  have v1r:=(k0.trans kr).cell v1 (fun x=>x)
  have br:=kr.blk b0 (fun x=>x)
  have b0r:wr.cell? ⟨w.heap.size,0,none⟩=some (.int .i64 id):=br.cell 0
  have b1r:wr.cell? ⟨w.heap.size,1,none⟩=some (.int .i64 owner):=br.cell 1
  have b2r:wr.cell? ⟨w.heap.size,2,none⟩=some (.string sym):=br.cell 2
  have b3r:wr.cell? ⟨w.heap.size,3,none⟩=some (.int .i64 side):=br.cell 3
  have b4r:wr.cell? ⟨w.heap.size,4,none⟩=some (.int .i64 kind):=br.cell 4
  have b5r:wr.cell? ⟨w.heap.size,5,none⟩=some (.int .i64 price):=br.cell 5
  have b6r:wr.cell? ⟨w.heap.size,6,none⟩=some (.int .i64 qty):=br.cell 6
  have HBR:=hide br
  have uh:=hide k0
  have HK:=hide kr
  clear kr k0 b0 br
  by_cases hlt:i<n
  ·have G1:=ae HG _ ((ae uh).trans (ae HK)) i hlt
   obtain⟨g,rfl,x1,x8⟩:=ae HX i hlt
   have ob:=ae HO i hi
   have ob2:=ae V9 i hlt
   obtain⟨x,hx⟩:∃x,ah L i=x:=⟨_,rfl⟩
   rw[hx]at x1 x8 G1 ob2
   have HS:Hid (iZ L ⟨id,owner,sym,side,kind,price,qty⟩ (i+1)=iZ L ⟨id,owner,sym,side,kind,price,qty⟩ i+(if dK ⟨id,owner,sym,side,kind,price,qty⟩ x=true∧x.owner≠owner then x.opn else 0)):=by show _=_;rw[←hx];rfl
   clear hx
   obtain⟨y,hy⟩:∃y,iZ L ⟨id,owner,sym,side,kind,price,qty⟩ i=y:=⟨_,rfl⟩
   rw[hy]at HS ob ⊢
   clear hy
   have HC:=hide G1
   clear G1
   have hn63:y+x.opn≤9223372036854775807:=by omega
   cases hg:dK ⟨id,owner,sym,side,kind,price,qty⟩ x
   ·have HS2:Hid (iZ L ⟨id,owner,sym,side,kind,price,qty⟩ (i+1)=y):=by show _=_;rw[ae HS,hg];simp
    rw[hg]at HC
    clear hg
    go_wp2_with fail
    refine (ae HC).mono ?_
    rintro e w2 ⟨rfl,k2⟩
    have jC:=hide k2
    clear k2
    go_wp2
    go_quiet (fail)
    go_wp2
    go_roundg (n-(i+1))
    case measure=>omega
    case rel=>exact⟨i+1,by push_cast;rfl,by omega,rfl,by rw[ae HS2],((ae HK).trans (ae jC)).drewN _⟩
   ·rw[hg]at HC
    by_cases ho:x.owner=owner
    ·have HS2:Hid (iZ L ⟨id,owner,sym,side,kind,price,qty⟩ (i+1)=y):=by show _=_;rw[ae HS,if_neg (fun h=>h.2 ho)];omega
     have e1:(x.owner == owner)=true:=by simpa using ho
     clear hg ho
     go_wp2_with fail
     refine (ae HC).mono ?_
     rintro e w2 ⟨rfl,k2⟩
     have v1s:=k2.cell v1r (fun x=>x)
     have x1s:=k2.cell (((ae uh).trans (ae HK)).cell x1 (fun x=>x)) (fun x=>x)
     have b1s:=k2.cell b1r (fun x=>x)
     have jC:=hide k2
     clear k2
     go_wp2
     go_quiet (fail)
     go_wp2
     go_roundg (n-(i+1))
     case measure=>omega
     case rel=>exact⟨i+1,by push_cast;rfl,by omega,rfl,by rw[ae HS2],((ae HK).trans (ae jC)).drewN _⟩
    ·have HS2:Hid (iZ L ⟨id,owner,sym,side,kind,price,qty⟩ (i+1)=y+x.opn):=by show _=_;rw[ae HS,if_pos ⟨hg,ho⟩]
     have e1:(x.owner == owner)=false:=by simpa using ho
     clear hg ho
     go_wp2_with fail
     refine (ae HC).mono ?_
     rintro e w2 ⟨rfl,k2⟩
     have v1s:=k2.cell v1r (fun x=>x)
     have x1s:=k2.cell (((ae uh).trans (ae HK)).cell x1 (fun x=>x)) (fun x=>x)
     have x8s:=k2.cell (((ae uh).trans (ae HK)).cell x8 (fun x=>x)) (fun x=>x)
     have b1s:=k2.cell b1r (fun x=>x)
     have jC:=hide k2
     clear k2
     go_wp2
     go_quiet (fail)
     go_wp2
     go_roundg (n-(i+1))
     case measure=>omega
     case rel=>exact⟨i+1,by push_cast;rfl,by omega,rfl,by rw[ae HS2],((ae HK).trans (ae jC)).drewN _⟩
  ·obtain rfl:i=n:=by omega
   go_wp2
   go_ret
   exact⟨rfl,(ae uh).trans (ae HK)⟩
def dU(l:List Ord)(id:Int):Int:=match fK l id with
 | none=>6
 | some k=>if (ah l k).opn=0 then 10 else 0
theorem gV{l:List Ord}{id:Int}{k:Nat}(h:fK l id=some k):k<l.length∧(ah l k).id=id:=by
 unfold fK at h
 obtain⟨hk,h1,_⟩:=List.findIdx?_eq_some_iff_getElem.1 h
 refine⟨hk,?_⟩
 rw[tN (List.getElem?_eq_getElem hk)]
 simpa using h1
theorem kZ(base sb:Nat)(S:RS)(m:SM)(id:Int)(w:World)(h:bH w base sb S m)(hlen:S.l.length≤1000) :
 Calls Tryz.prog 169 #[.pointer (some ⟨sb,0,none⟩),.int .i64 id] w fun e w'=>e=.returned (.tuple #[.int .i64 (oi (fK S.l id)),.int .i64 (dU S.l id)])∧w'=w:=by
 have HO:=hide (lT base sb S m id w h hlen)
 obtain⟨n,hn⟩:∃n,S.l.length=n:=⟨_,rfl⟩
 obtain⟨a,c,hv⟩:=az h.bI
 cases hx:fK S.l id with
 | none =>
   have HE:Hid (dU S.l id=6):=by show _=_;unfold dU;rw[hx]
   rw[hx]at HO
   simp only[oi]at HO ⊢
   clear hx
   go_enter Tryz.func169,Tryz.ntmps169
   go_wp2_with fail
   refine (ae HO).mono ?_
   rintro e w2 ⟨rfl,rfl⟩
   go_wp2
   go_ret2
   exact⟨by rw[ae HE];rfl,rfl⟩
 | some k =>
   obtain⟨hk,_⟩:=gV hx
   obtain⟨g,rfl,_,hc,_⟩:=h.rY hv hk
   rw[hn]at hv hk hlen
   have v1:w.cell? ⟨sb,1,none⟩=some (.slice (some ⟨g,0,none⟩) n c):=by rw[←hv];exact h.blk.cell 1
   have c8:w.cell? ⟨g,k * 13+8,none⟩=some (.int .i64 (ah S.l k).opn):=hc 8 _ rfl
   rw[hx]at HO
   simp only[oi]at HO ⊢
   by_cases h0:(ah S.l k).opn=0
   ·have HE:Hid (dU S.l id=10):=by show _=_;unfold dU;rw[hx];simp[h0]
    have e0:((ah S.l k).opn == 0)=true:=by simp[h0]
    clear hx hc h hv hn h0
    go_enter Tryz.func169,Tryz.ntmps169
    go_wp2_with fail
    refine (ae HO).mono ?_
    rintro e w2 ⟨rfl,rfl⟩
    go_wp2
    go_ret2
    exact⟨by rw[ae HE];rfl,rfl⟩
   ·have HE:Hid (dU S.l id=0):=by show _=_;unfold dU;rw[hx];simp[h0]
    have e0:((ah S.l k).opn == 0)=false:=by simp[h0]
    clear hx hc h hv hn h0
    go_enter Tryz.func169,Tryz.ntmps169
    go_wp2_with fail
    refine (ae HO).mono ?_
    rintro e w2 ⟨rfl,rfl⟩
    go_wp2
    go_ret2
    exact⟨by rw[ae HE];rfl,rfl⟩
def SF(sb:Nat)(m:SM)(b:Nat):Prop:=b=sb∨m.yv.ownBlock=some b∨m.lv.ownBlock=some b∨m.tv.ownBlock=some b∨m.ov.ownBlock=some b
theorem bH.typ{w:World}{base sb:Nat}{S:RS}{m:SM}(h:bH w base sb S m){b:Nat}(hb:SF sb m b):∃cs t,ai w b cs t∧(t=207∨t=9∨t=212∨t=210∨t=62):=by
 rcases hb with rfl | hb | hb | hb | hb
 ·exact⟨_,_,h.blk,.inl rfl⟩
 ·obtain⟨cs,hc⟩:=ay h.jH hb;exact⟨cs,_,hc,.inr (.inl rfl)⟩
 ·obtain⟨cs,hc⟩:=ay h.bI hb;exact⟨cs,_,hc,.inr (.inr (.inl rfl))⟩
 ·obtain⟨cs,hc⟩:=ay h.dE hb;exact⟨cs,_,hc,.inr (.inr (.inr (.inl rfl)))⟩
 ·obtain⟨cs,hc⟩:=ay h.jS hb;exact⟨cs,_,hc,.inr (.inr (.inr (.inr rfl)))⟩
theorem bH.lt{w:World}{base sb:Nat}{S:RS}{m:SM}(h:bH w base sb S m){b:Nat}(hb:SF sb m b):base≤b∧b<w.heap.size:=by
 obtain⟨cs,t,hc,_⟩:=h.typ hb
 refine⟨?_,hc.lt⟩
 rcases hb with rfl | hb | hb | hb | hb
 ·exact h.ge
 ·exact (h.jH.lt _ hb).1
 ·exact (h.bI.lt _ hb).1
 ·exact (h.dE.lt _ hb).1
 ·exact (h.jS.lt _ hb).1
theorem bH.ne{w:World}{base sb:Nat}{S:RS}{m:SM}(h:bH w base sb S m){b:Nat}{c:Array Value}{t:TypeId}(hb:ai w b c t)(ht:t≠207∧t≠9∧t≠212∧t≠210∧t≠62):¬SF sb m b:=by
 intro hf
 obtain⟨cs,t',hc,h'⟩:=h.typ hf
 unfold ai at hb hc
 rw[hb]at hc
 simp only[Option.some.injEq,Obj.cells.injEq]at hc
 obtain⟨_,e,_⟩:=hc
 subst e
 rcases h' with e | e | e | e | e
 ·exact ht.1 e
 ·exact ht.2.1 e
 ·exact ht.2.2.1 e
 ·exact ht.2.2.2.1 e
 ·exact ht.2.2.2.2 e
def fP(base sb:Nat)(S':RS)(m:SM)(w w':World):Prop:=∃m',bH w' base sb S' m'∧(∀b,SF sb m' b→SF sb m b∨w.heap.size≤b)∧ag (SF sb m) w w'
theorem fP.refl{base sb:Nat}{S:RS}{m:SM}{w:World}(h:bH w base sb S m):fP base sb S m w w:=⟨m,h,fun b hb=>.inl hb,ag.refl _ _⟩
theorem fP.ext{base sb:Nat}{S:RS}{m:SM}{w w' w'':World}(h:fP base sb S m w w')(k:ag ak w' w''):fP base sb S m w w'':=by
 obtain⟨m',h1,h2,h3⟩:=h
 exact⟨m',h1.aj k,h2,h3.trans k.aC⟩
theorem aJ{w w':World}{base e size n:Nat}{v:Value}{xs:List Value}{S:Nat→Prop}{t:TypeId}(h:w.ownsRow base e size v n xs)(k:ag S w w')(hS:∀b,S b→∃c t',ai w b c t'∧t'≠e):w'.ownsRow base e size v n xs :=
 au h k (fun b hb hs=>by
  obtain⟨c,t',hc,ht⟩:=hS b hs
  obtain⟨cs,hcs⟩:=ay h hb
  exact ai.ne hc hcs ht rfl)
theorem bH.fM{w:World}{base sb g c i j:Nat}{S:RS}{m:SM}(h:bH w base sb S m)(hv:m.lv=.slice (some ⟨g,0,none⟩) S.l.length c)(hi:i<S.l.length)(hj:j<13)(u:Value)(y:Ord)(hy:qJ y=(qJ (ah S.l i)).set j u) :
 bH (w.setCell ⟨g,i * 13+j,none⟩ u) base sb { S with l:=S.l.set i y } m∧ag (SF sb m) w (w.setCell ⟨g,i * 13+j,none⟩ u):=by
 have r:=h.bI
 rw[hv]at r
 have hg:ai w g _ 212:=(ay r (b:=g) rfl).choose_spec
 have kg:ag (fun b=>b=g) w (w.setCell ⟨g,i * 13+j,none⟩ u):=(ag.refl (fun b=>b=g) w).setCell (p:=⟨g,i * 13+j,none⟩) (.inl rfl) _
 have ty:∀e,e≠212→∀b,b=g→∃c t',ai w b c t'∧t'≠e:=fun e he b hb=>by subst hb;exact⟨_,_,hg,fun x=>he x.symm⟩
 refine⟨⟨h.ge,kg.blk h.blk (fun e=>ai.ne h.blk hg (by decide) e),aJ (t:=0) h.jH kg (ty _ (by decide)),?_,aJ (t:=0) h.dE kg (ty _ (by decide)),aJ (t:=0) h.jS kg (ty _ (by decide))⟩,kg.mono (fun b hb=>by subst hb;exact .inr (.inr (.inl (by rw[hv];rfl))))⟩
 have r2:=(r.stored (i * 13+j) u).1
 have e2:(vM S.l).set (i * 13+j) u=vM (S.l.set i y):=xM qJ 13 yF S.l i j _ y u (jr hi) hj hy
 rw[e2]at r2
 rw[hv]
 simp only[List.length_set]
 exact r2
def RS.tell(S:RS)(kind:Int)(t:Tr):RS:={ S with told:=S.told++[⟨0,kind,t⟩] }
theorem bH.Me{w1 w2:World}{base sb n H g cap:Nat}{S:RS}{m:SM}{r:Rc}(h:bH w1 base sb S m)(hn:S.told.length=n)(hown:w2.ownsRow base 62 9 (.slice (some ⟨g,0,none⟩) (n+1) cap) (n+1) (dP S.told++r.cells))(hgrow:w1.grownBy w2 m.ov.ownBlock)(hat:m.ov.ownBlock=some g∨g=H)(hH:w1.heap.size=H) :
 fP base sb { S with told:=S.told++[r] } m w1 (w2.setCell ⟨sb,5,none⟩ (.slice (some ⟨g,0,none⟩) (n+1) cap)):=by
 have hne:m.ov.ownBlock≠some sb:=fun e=>by obtain⟨cs,hc⟩:=ay h.jS e;exact ai.ne hc h.blk (by decide) rfl
 have hb2:ai w2 sb _ 207:=(hgrow.block sb h.blk.lt (fun e=>hne e.symm)).trans h.blk
 have k1:ag (fun b=>m.ov.ownBlock=some b) w1 w2:=(ag.refl _ w1).grown hgrow (fun k e=>.inl e)
 have k2:ag (fun b=>b=sb) w2 (w2.setCell ⟨sb,5,none⟩ (.slice (some ⟨g,0,none⟩) (n+1) cap)):=(ag.refl (fun b=>b=sb) w2).setCell (p:=⟨sb,5,none⟩) (.inl rfl) _
 have jF:∀{e size n':Nat} {v:Value} {xs:List Value},w1.ownsRow base e size v n' xs→e≠62→e≠207→(w2.setCell ⟨sb,5,none⟩ (.slice (some ⟨g,0,none⟩) (n+1) cap)).ownsRow base e size v n' xs:=fun {e size n' v xs} r h1 h2=>by
  have r1:=aJ (t:=0) r k1 (fun b hb=>by obtain⟨cs,hc⟩:=ay h.jS hb;exact⟨cs,_,hc,fun x=>h1 x.symm⟩)
  exact aJ (t:=0) r1 k2 (fun b hb=>by subst hb;exact⟨_,_,hb2,fun x=>h2 x.symm⟩)
 refine⟨{ m with ov:=.slice (some ⟨g,0,none⟩) (n+1) cap },⟨h.ge,hb2.set 5 _,jF h.jH (by decide) (by decide),jF h.bI (by decide) (by decide),jF h.dE (by decide) (by decide),?_⟩,?_,?_⟩
 ·simp only[List.length_append,List.length_cons,List.length_nil,hn,lD]
  exact aJ (t:=0) hown k2 (fun b hb=>by subst hb;exact⟨_,_,hb2,by decide⟩)
 ·rintro b (rfl | hb | hb | hb | hb)
  ·exact .inl (.inl rfl)
  ·exact .inl (.inr (.inl hb))
  ·exact .inl (.inr (.inr (.inl hb)))
  ·exact .inl (.inr (.inr (.inr (.inl hb))))
  ·simp only[Value.ownBlock,Option.some.injEq]at hb
   rcases hat with e | e
   ·exact .inl (.inr (.inr (.inr (.inr (by rw[e,hb])))))
   ·right;omega
 ·exact (k1.mono (fun b hb=>.inr (.inr (.inr (.inr hb))))).trans (k2.mono (fun b hb=>.inl hb))
theorem yQ(base sb:Nat)(S:RS)(m:SM)(kind:Int)(t:Tr)(w:World)(h:bH w base sb S m)(hlen:S.told.length<1000000000) :
 Calls Tryz.prog 205 #[.pointer (some ⟨sb,0,none⟩),.int .i64 kind,t.val] w fun e w'=>e=.returned (.tuple #[])∧fP base sb (S.tell kind t) m w w':=by
 obtain⟨n,hn⟩:∃n,S.told.length=n:=⟨_,rfl⟩
 have fQ:=h.jS
 rw[hn]at fQ hlen
 obtain⟨pa,iL,hpv⟩:=az fQ
 rw[hpv]at fQ
 have hv:=h.blk
 have v5:w.cell? ⟨sb,5,none⟩=some (.slice pa n iL):=(hv.cell 5).trans (by rw[←hpv];rfl)
 have lv:=hv.lt
 have hge:=h.ge
 have hmx:n+1≤maxLen:=by unfold maxLen;omega
 have ik:(n+1) * 80≤140737488355328:=by omega
 obtain⟨i0,z0,hi0,hz0,hz1,hz2,hz3⟩:=iQ
 obtain⟨tn,ts,tp,tq,jd,jf,td⟩:=t
 simp only[Tr.val]
 obtain⟨w0,hw0⟩:∃w0,w0=w.alloc (.cells #[.int .i64 tn,.string ts,.int .i64 tp,.int .i64 tq,.int .i64 jd,.int .i64 jf,.int .i64 td] 56):=⟨_,rfl⟩
 have k0:ag ak w w0:=by rw[hw0];exact (ag.refl ak w).alloc _
 have b0:ai w0 w.heap.size #[.int .i64 tn,.string ts,.int .i64 tp,.int .i64 tq,.int .i64 jd,.int .i64 jf,.int .i64 td] 56:=by rw[hw0];exact ai.new _ _ _
 have hs0:w0.heap.size=w.heap.size+1:=by rw[hw0];simp
 have hrow0:=au fQ k0 (fun _ _ x=>x)
 have v5':w0.cell? ⟨sb,5,none⟩=some (.slice pa n iL):=k0.cell v5 (fun x=>x)
 have t0:w0.cell? ⟨w.heap.size,0,none⟩=some (.int .i64 tn):=b0.cell 0
 have t1:w0.cell? ⟨w.heap.size,1,none⟩=some (.string ts):=b0.cell 1
 have t2:w0.cell? ⟨w.heap.size,2,none⟩=some (.int .i64 tp):=b0.cell 2
 have t3:w0.cell? ⟨w.heap.size,3,none⟩=some (.int .i64 tq):=b0.cell 3
 have t4:w0.cell? ⟨w.heap.size,4,none⟩=some (.int .i64 jd):=b0.cell 4
 have t5:w0.cell? ⟨w.heap.size,5,none⟩=some (.int .i64 jf):=b0.cell 5
 have t6:w0.cell? ⟨w.heap.size,6,none⟩=some (.int .i64 td):=b0.cell 6
 obtain⟨w1,hw1⟩:∃w1,w1=(w0.alloc (.cells #[.int .i64 0,.int .i64 kind,.int .i64 tn,.string ts,.int .i64 tp,.int .i64 tq,.int .i64 jd,.int .i64 jf,.int .i64 td] 62)).drew:=⟨_,rfl⟩
 have k1:ag ak w0 w1:=by rw[hw1];exact ((ag.refl ak w0).alloc _).drew
 have hrow1:=au hrow0 k1 (fun _ _ x=>x)
 have hsz1:w1.heap.size=w.heap.size+2:=by rw[hw1];simp[hs0]
 have hnews:∀j u,(Rc.cells ⟨0,kind,⟨tn,ts,tp,tq,jd,jf,td⟩⟩)[j]?=some u→w1.cell? (Addr.add ⟨w.heap.size+1,0,none⟩ j)=some u:=by
  intro j u hj
  have:=FH w0 ⟨0,kind,⟨tn,ts,tp,tq,jd,jf,td⟩⟩ j u hj
  rw[hs0]at this
  rw[hw1]
  exact this
 have hone:∀u∈Rc.cells ⟨0,kind,⟨tn,ts,tp,tq,jd,jf,td⟩⟩,u.oneCell'=true:=by simp[Rc.cells,Value.oneCell']
 have h1:=(h.aj k0).aj k1
 have HR:=hide hrow1
 have zi:=hide hnews
 have oN:=hide hone
 have wS:=hide hsz1
 have sO:=hide h1
 have GY:=hide hpv
 have HW:=hide hw0
 have HW1:=hide hw1
 have hne:w.heap.size≠sb:=by omega
 have HK:=hide (k0.trans k1)
 have HN:=hide hn
 clear fQ h hpv hrow0 hw0 b0 v5 hrow1 hnews hone hw1 hsz1 h1 k0 k1 hn hv
 go_enter Tryz.func205,Tryz.ntmps205
 go_wp2
 rw[←ae HW]
 go_region_law (first | (rw[←ae HW1];refine step_append_lies _ rfl (.tmp 10) (.tmp 14) 34 rfl base 62 i0 z0 9 80 Tryz.underlying34 hi0 hz0 hz1 hz2 hz3 (by decide) (.slice pa n iL) n (dP S.told) rfl (ae HR) ⟨w.heap.size+1,0,none⟩ 1 1 (Rc.cells ⟨0,kind,⟨tn,ts,tp,tq,jd,jf,td⟩⟩) rfl rfl (ae zi) (ae oN) (by omega) hmx ik (by have:=ae wS;omega) (w.heap.size+2) (ae wS) ?_;intro g cap w2 hown2 hgrow hat hlt;have vk:=hide hown2;have HG2:=hide hgrow;have HA2:=hide hat;have b2:ai w2 sb _ 207:=(hgrow.block sb (ae sO).blk.lt (fun e=>by obtain⟨cs,hc⟩:=ay (ae sO).jS (b:=sb) (by rw[ae GY];exact e.symm);exact ai.ne hc (ae sO).blk (by decide) rfl)).trans (ae sO).blk;have v52:=b2.cell 5;have f52:=b2.frozen 5;simp at v52;clear hown2 hgrow hat b2))
 all_goals
  go_end0
  have a1:=(ae sO).Me (r:=⟨0,kind,⟨tn,ts,tp,tq,jd,jf,td⟩⟩) (ae HN) (ae vk) (by rw[ae GY];exact ae HG2) (by rw[ae GY];exact ae HA2) (ae wS)
  obtain⟨m',a1,a2,a3⟩:=a1
  exact⟨rfl,m',a1,fun b hb=>(a2 b hb).imp_right (fun h=>by have:=ae wS;omega),(ae HK).aC.trans a3⟩
end Go.Proofs.YtigaphnafnpfnaaGreatDoor
