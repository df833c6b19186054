import Derived.Test.YtigaphnafnpfnaaGreatDoorQVG23
import Derived.Test.YtigaphnafnpfnaaGreatDoorQVG24
import Derived.Test.YtigaphnafnpfnaaGreatDoorQVR2
import Derived.Test.YtigaphnafnpfnaaGreatDoorQVG12
set_option linter.unusedVariables false
set_option linter.unusedSimpArgs false
set_option maxHeartbeats 8000000
set_option maxRecDepth 100000
namespace Go.Proofs.YtigaphnafnpfnaaGreatDoor
open Go.RowKit Go.Maps
attribute [local go_sem ↓] Go.wp_at_zero Go.wp_at_succ
theorem Rl{w:World}{n c:Nat}{a:Option Addr}{X:List Pr}(h:w.ownsRow 0 131 2 (.slice a n c) n (lC X))(hn:X.length=n){i:Nat}{x:Pr}(hi:X[i]?=some x):∃g,a=some ⟨g,0,none⟩∧g<w.heap.size∧w.cell? ⟨g,i * 2,none⟩=some (.pointer (some ⟨x.bv,0,none⟩))∧w.cell? ⟨g,i * 2+1,none⟩=some (.pointer (some ⟨x.rb,0,none⟩)):=by
 have hi':=(List.getElem?_eq_some_iff.1 hi).1
 obtain⟨g,rfl,_⟩:=fH h (by omega)
 have key:∀(X:List Pr) (i:Nat) (x:Pr),X[i]?=some x→(lC X)[i * 2]?=some (.pointer (some ⟨x.bv,0,none⟩))∧(lC X)[i * 2+1]?=some (.pointer (some ⟨x.rb,0,none⟩)):=by
  intro X
  induction X with
  | nil=>intro i x h;simp at h
  | cons y X ih =>
    intro i x h
    cases i with
    | zero=>simp at h;subst h;simp[lC,AO]
    | succ i =>
      simp at h
      have:=ih i x h
      have e1:(i+1) * 2=i * 2+2:=by omega
      have e2:(i+1) * 2+1=(i * 2+1)+2:=by omega
      rw[e2,e1]
      simpa [lC,AO] using this
 have hl:(lC X).length=n * 2:=h.1
 obtain⟨k1,k2⟩:=key X i x hi
 exact⟨g,rfl,(h.lt g rfl).2,by rw[h.cellAt _ (by omega)];exact k1,by rw[h.cellAt _ (by omega)];exact k2⟩
theorem QP{m:Int}{n:Nat}(hn:0<n)(hb:n≤100000000):∃j:Nat,j<n∧(m.tmod n+n).tmod n=(j:Int)∧-(n:Int)<m.tmod n∧m.tmod n<n:=by
 have h1:m.tmod n<n:=Int.tmod_lt_of_pos m (by omega)
 have h2:-(n:Int)<m.tmod n:=Int.lt_tmod_of_pos m (by omega)
 have h3:0≤(m.tmod n+n).tmod n:=Int.tmod_nonneg _ (by omega)
 have h4:(m.tmod n+n).tmod n<n:=Int.tmod_lt_of_pos _ (by omega)
 exact⟨((m.tmod n+n).tmod n).toNat,by omega,by omega,h2,h1⟩
theorem OM{w0 w:World}{wb:Nat}{X:List Pr}{Hs:List Ho}{pv hv:Value}{N:Nat}(h:PG w0 w wb X Hs pv hv N)(hX:0<X.length)(hN:N<2000000)(o:ji)(hk:o.kind≤12)(hO:nV o) :
 Calls Tryz.prog 32 #[.pointer (some ⟨wb,0,none⟩),o.val] w fun e w'=>e=.returned (.bool true)∧wY w0 wb (N+1) w':=by
 obtain⟨kind,m,a,b,c,s,⟨id,owner,sym,side,ax,price,qty⟩⟩:=o
 simp only at hk
 obtain⟨W1,hW1⟩:∃W1,W1=(w.alloc (.cells #[.int .i64 kind,.int .i64 m,.int .i64 a,.int .i64 b,.int .i64 c,.string s,.int .i64 id,.int .i64 owner,.string sym,.int .i64 side,.int .i64 ax,.int .i64 price,.int .i64 qty] 81)):=⟨_,rfl⟩
 have k1:ag ak w W1:=by rw[hW1];exact (ag.refl ak w).alloc _
 have hs1:W1.heap.size=w.heap.size+1:=by rw[hW1];simp
 have oI:ai W1 w.heap.size #[.int .i64 kind,.int .i64 m,.int .i64 a,.int .i64 b,.int .i64 c,.string s,.int .i64 id,.int .i64 owner,.string sym,.int .i64 side,.int .i64 ax,.int .i64 price,.int .i64 qty] 81:=by rw[hW1];exact ai.new w _ _
 have h1:=h.aj k1
 obtain⟨n,hn⟩:∃n,X.length=n:=⟨_,rfl⟩
 have fQ:=h1.fU
 rw[hn]at fQ hX
 obtain⟨pa,pc,hpv⟩:=az fQ
 subst hpv
 have hxl:=h1.xl
 rw[hn]at hxl
 have c0:W1.cell? ⟨wb,0,none⟩=some (.slice pa n pc):=h1.blk.cell 0
 have UO:=h1.blk.lt
 obtain⟨j,hj,hjm,hlo,hhi⟩:=QP (m:=m) hX (by omega)
 obtain⟨x,hx⟩:∃x,X[j]?=some x:=⟨_,List.getElem?_eq_getElem (by omega)⟩
 obtain⟨g,rfl,lg,x0,x1⟩:=Rl fQ hn hx
 have o0:W1.cell? ⟨w.heap.size,0,none⟩=some (.int .i64 kind):=oI.cell 0
 have o1:W1.cell? ⟨w.heap.size,1,none⟩=some (.int .i64 m):=oI.cell 1
 have lo:=oI.lt
 have HB:=hide (Aq h1 (by omega))
 have DU:=hide h1
 have vX:=hide oI
 have HW1:=hide hW1
 have HX:=hide hx
 have HO:=hide hO
 have GL:=hide hs1
 simp only[ji.val,ji.cells]
 clear h hO k1 oI hW1 h1 fQ hx hs1
 go_enter Tryz.func32,Tryz.ntmps32
 by_cases hk1:kind=1
 ·subst hk1
  go_wp2_with fail
  rw[←ae HW1]
  refine (ae HB).mono ?_
  rintro e w2 ⟨rfl,hp⟩
  go_wp2
  go_ret
  exact⟨rfl,hp⟩
 go_upto_region 6 with fail
 rw[←ae HW1]
 go_upto_region 7 with fail
 go_cut [6] from 26 (fun s6 wc=>s6=.pointer (some ⟨w.heap.size+1,0,none⟩)∧ai wc (w.heap.size+1) #[.pointer (some ⟨x.bv,0,none⟩),.pointer (some ⟨x.rb,0,none⟩)] 131∧ai wc w.heap.size #[.int .i64 kind,.int .i64 m,.int .i64 a,.int .i64 b,.int .i64 c,.string s,.int .i64 id,.int .i64 owner,.string sym,.int .i64 side,.int .i64 ax,.int .i64 price,.int .i64 qty] 81∧ag ak W1 wc)
 case first JJ KK hJ hK =>
  go_region
  refine hK _ _ (Met.intro (hJ _ _ ?_))
  repeat apply Exists.intro
  refine⟨?rel,rfl⟩
  case rel =>
   refine⟨by rw[ae GL],?_,((ae vX).alloc _).drew,((ag.refl ak W1).alloc _).drew⟩
   have:=(ai.new W1 #[.pointer (some ⟨x.bv,0,none⟩),.pointer (some ⟨x.rb,0,none⟩)] 131).drew
   rw[ae GL]at this
   exact this
 case rest =>
  obtain⟨rfl,bp,bo,kc⟩:=hcut
  have hc:=(ae DU).aj kc
  have hxm:x∈X:=List.mem_of_getElem? (ae HX)
  have px:=hc.AP x hxm
  have r0:wc.cell? ⟨w.heap.size+1,0,none⟩=some (.pointer (some ⟨x.bv,0,none⟩)):=bp.cell 0
  have r1:wc.cell? ⟨w.heap.size+1,1,none⟩=some (.pointer (some ⟨x.rb,0,none⟩)):=bp.cell 1
  have p0:wc.cell? ⟨w.heap.size,0,none⟩=some (.int .i64 kind):=bo.cell 0
  have p1:wc.cell? ⟨w.heap.size,1,none⟩=some (.int .i64 m):=bo.cell 1
  have p2:wc.cell? ⟨w.heap.size,2,none⟩=some (.int .i64 a):=bo.cell 2
  have p3:wc.cell? ⟨w.heap.size,3,none⟩=some (.int .i64 b):=bo.cell 3
  have p4:wc.cell? ⟨w.heap.size,4,none⟩=some (.int .i64 c):=bo.cell 4
  have p5:wc.cell? ⟨w.heap.size,5,none⟩=some (.string s):=bo.cell 5
  have p6:wc.cell? ⟨w.heap.size,6,none⟩=some (.int .i64 id):=bo.cell 6
  have p7:wc.cell? ⟨w.heap.size,7,none⟩=some (.int .i64 owner):=bo.cell 7
  have p8:wc.cell? ⟨w.heap.size,8,none⟩=some (.string sym):=bo.cell 8
  have p9:wc.cell? ⟨w.heap.size,9,none⟩=some (.int .i64 side):=bo.cell 9
  have p10:wc.cell? ⟨w.heap.size,10,none⟩=some (.int .i64 ax):=bo.cell 10
  have p11:wc.cell? ⟨w.heap.size,11,none⟩=some (.int .i64 price):=bo.cell 11
  have p12:wc.cell? ⟨w.heap.size,12,none⟩=some (.int .i64 qty):=bo.cell 12
  have lp:=bp.lt
  have lo2:=bo.lt
  have Qj:=hide hc
  have hT:Tab wc:=hc.tab.aj hc.gY
  have HA2:Hid (kind=2→Calls Tryz.prog 60 #[.agg #[.pointer (some ⟨x.bv,0,none⟩),.pointer (some ⟨x.rb,0,none⟩)],(ji.mk kind m a b c s ⟨id,owner,sym,side,ax,price,qty⟩).val] wc fun e w'=>e=.returned (.bool true)∧GN x wc w'):=fun e=>Kt x _ wc px.1 hT (by have:=px.2;omega) e (ae HO)
  have zT:Hid (kind=3→Calls Tryz.prog 60 #[.agg #[.pointer (some ⟨x.bv,0,none⟩),.pointer (some ⟨x.rb,0,none⟩)],(ji.mk kind m a b c s ⟨id,owner,sym,side,ax,price,qty⟩).val] wc fun e w'=>e=.returned (.bool true)∧GN x wc w'):=fun e=>Ha x _ wc px.1 hT (by have:=px.2;omega) e (ae HO)
  have DT:Hid (kind=4→Calls Tryz.prog 60 #[.agg #[.pointer (some ⟨x.bv,0,none⟩),.pointer (some ⟨x.rb,0,none⟩)],(ji.mk kind m a b c s ⟨id,owner,sym,side,ax,price,qty⟩).val] wc fun e w'=>e=.returned (.bool true)∧GN x wc w'):=fun e=>Ec x _ wc px.1 hT (by have:=px.2;omega) e (ae HO)
  have zf:Hid (kind=5→Calls Tryz.prog 60 #[.agg #[.pointer (some ⟨x.bv,0,none⟩),.pointer (some ⟨x.rb,0,none⟩)],(ji.mk kind m a b c s ⟨id,owner,sym,side,ax,price,qty⟩).val] wc fun e w'=>e=.returned (.bool true)∧GN x wc w'):=fun e=>BG x _ wc px.1 hT (by have:=px.2;omega) e (ae HO)
  have Jk:Hid (kind=6→Calls Tryz.prog 61 #[.pointer (some ⟨wb,0,none⟩),.agg #[.pointer (some ⟨x.bv,0,none⟩),.pointer (some ⟨x.rb,0,none⟩)],(ji.mk kind m a b c s ⟨id,owner,sym,side,ax,price,qty⟩).val] wc fun e w'=>e=.returned (.bool true)∧ag ak wc w'):=fun e=>Ee x _ _ wc px.1 (by have:=px.2;omega) e (ae HO)
  have Jl:Hid (kind=7→Calls Tryz.prog 61 #[.pointer (some ⟨wb,0,none⟩),.agg #[.pointer (some ⟨x.bv,0,none⟩),.pointer (some ⟨x.rb,0,none⟩)],(ji.mk kind m a b c s ⟨id,owner,sym,side,ax,price,qty⟩).val] wc fun e w'=>e=.returned (.bool true)∧wY w0 wb (N+1) w'):=fun e=>Kv hc x hxm hN _ e (ae HO)
  have Jm:Hid (kind=8→Calls Tryz.prog 60 #[.agg #[.pointer (some ⟨x.bv,0,none⟩),.pointer (some ⟨x.rb,0,none⟩)],(ji.mk kind m a b c s ⟨id,owner,sym,side,ax,price,qty⟩).val] wc fun e w'=>e=.returned (.bool true)∧GN x wc w'):=fun e=>Kr x _ wc px.1 hT (by have:=px.2;omega) e (ae HO)
  have Jn:Hid (kind=9→Calls Tryz.prog 60 #[.agg #[.pointer (some ⟨x.bv,0,none⟩),.pointer (some ⟨x.rb,0,none⟩)],(ji.mk kind m a b c s ⟨id,owner,sym,side,ax,price,qty⟩).val] wc fun e w'=>e=.returned (.bool true)∧GN x wc w'):=fun e=>BF x _ wc px.1 hT (by have:=px.2;omega) e (ae HO)
  have sJ:Hid (kind=10→Calls Tryz.prog 60 #[.agg #[.pointer (some ⟨x.bv,0,none⟩),.pointer (some ⟨x.rb,0,none⟩)],(ji.mk kind m a b c s ⟨id,owner,sym,side,ax,price,qty⟩).val] wc fun e w'=>e=.returned (.bool true)∧GN x wc w'):=fun e=>G9 x _ wc px.1 hT (by have:=px.2;omega) e (ae HO)
  have sK:Hid (kind=11→Calls Tryz.prog 61 #[.pointer (some ⟨wb,0,none⟩),.agg #[.pointer (some ⟨x.bv,0,none⟩),.pointer (some ⟨x.rb,0,none⟩)],(ji.mk kind m a b c s ⟨id,owner,sym,side,ax,price,qty⟩).val] wc fun e w'=>e=.returned (.bool true)∧wY w0 wb (N+1) w'):=fun e=>Ef hc x hxm hN _ e (ae HO)
  have sN:Hid (kind=12→Calls Tryz.prog 61 #[.pointer (some ⟨wb,0,none⟩),.agg #[.pointer (some ⟨x.bv,0,none⟩),.pointer (some ⟨x.rb,0,none⟩)],(ji.mk kind m a b c s ⟨id,owner,sym,side,ax,price,qty⟩).val] wc fun e w'=>e=.returned (.bool true)∧wY w0 wb (N+1) w'):=fun e=>Kw hc x hxm hN _ e (ae HO)
  have hcase:kind=2∨kind=3∨kind=4∨kind=5∨kind=6∨kind=7∨kind=8∨kind=9∨kind=10∨kind=11∨kind=12∨kind≤0:=by omega
  simp only[ji.val,ji.cells]at HA2 zT DT zf Jk Jl Jm Jn sJ sK sN
  clear hc px bp bo kc hT HB vX HW1 GL c0 x0 x1 o0 o1 UO lo lg hlo hhi hjm hk DU
  rcases hcase with rfl | rfl | rfl | rfl | rfl | rfl | rfl | rfl | rfl | rfl | rfl | hk0
  ·have HC:=hide (ae HA2 rfl)
   clear HA2 zT DT zf Jk Jl Jm Jn sJ sK sN
   go_wp2_with fail
   refine (ae HC).mono ?_
   rintro e w5 ⟨rfl,hp⟩
   obtain⟨X',hX',el⟩:=(ae Qj).turn (ae HX) hp
   have HF:=hide hX'
   clear hp hX'
   go_wp2
   go_ret
   exact⟨rfl,X',_,_,_,ae HF,by omega⟩
  ·have HC:=hide (ae zT rfl)
   clear HA2 zT DT zf Jk Jl Jm Jn sJ sK sN
   go_wp2_with fail
   refine (ae HC).mono ?_
   rintro e w5 ⟨rfl,hp⟩
   obtain⟨X',hX',el⟩:=(ae Qj).turn (ae HX) hp
   have HF:=hide hX'
   clear hp hX'
   go_wp2
   go_ret
   exact⟨rfl,X',_,_,_,ae HF,by omega⟩
  ·have HC:=hide (ae DT rfl)
   clear HA2 zT DT zf Jk Jl Jm Jn sJ sK sN
   go_wp2_with fail
   refine (ae HC).mono ?_
   rintro e w5 ⟨rfl,hp⟩
   obtain⟨X',hX',el⟩:=(ae Qj).turn (ae HX) hp
   have HF:=hide hX'
   clear hp hX'
   go_wp2
   go_ret
   exact⟨rfl,X',_,_,_,ae HF,by omega⟩
  ·have HC:=hide (ae zf rfl)
   clear HA2 zT DT zf Jk Jl Jm Jn sJ sK sN
   go_wp2_with fail
   refine (ae HC).mono ?_
   rintro e w5 ⟨rfl,hp⟩
   obtain⟨X',hX',el⟩:=(ae Qj).turn (ae HX) hp
   have HF:=hide hX'
   clear hp hX'
   go_wp2
   go_ret
   exact⟨rfl,X',_,_,_,ae HF,by omega⟩
  ·have HC:=hide (ae Jk rfl)
   clear HA2 zT DT zf Jk Jl Jm Jn sJ sK sN
   go_wp2_with fail
   refine (ae HC).mono ?_
   rintro e w5 ⟨rfl,hp⟩
   have HF:=hide hp
   clear hp
   go_wp2
   go_ret
   exact⟨rfl,X,_,_,_,((ae Qj).aj (ae HF)).mono (by omega),by omega⟩
  ·have HC:=hide (ae Jl rfl)
   clear HA2 zT DT zf Jk Jl Jm Jn sJ sK sN
   go_wp2_with fail
   refine (ae HC).mono ?_
   rintro e w5 ⟨rfl,hp⟩
   have HF:=hide hp
   clear hp
   go_wp2
   go_ret
   exact⟨rfl,ae HF⟩
  ·have HC:=hide (ae Jm rfl)
   clear HA2 zT DT zf Jk Jl Jm Jn sJ sK sN
   go_wp2_with fail
   refine (ae HC).mono ?_
   rintro e w5 ⟨rfl,hp⟩
   obtain⟨X',hX',el⟩:=(ae Qj).turn (ae HX) hp
   have HF:=hide hX'
   clear hp hX'
   go_wp2
   go_ret
   exact⟨rfl,X',_,_,_,ae HF,by omega⟩
  ·have HC:=hide (ae Jn rfl)
   clear HA2 zT DT zf Jk Jl Jm Jn sJ sK sN
   go_wp2_with fail
   refine (ae HC).mono ?_
   rintro e w5 ⟨rfl,hp⟩
   obtain⟨X',hX',el⟩:=(ae Qj).turn (ae HX) hp
   have HF:=hide hX'
   clear hp hX'
   go_wp2
   go_ret
   exact⟨rfl,X',_,_,_,ae HF,by omega⟩
  ·have HC:=hide (ae sJ rfl)
   clear HA2 zT DT zf Jk Jl Jm Jn sJ sK sN
   go_wp2_with fail
   refine (ae HC).mono ?_
   rintro e w5 ⟨rfl,hp⟩
   obtain⟨X',hX',el⟩:=(ae Qj).turn (ae HX) hp
   have HF:=hide hX'
   clear hp hX'
   go_wp2
   go_ret
   exact⟨rfl,X',_,_,_,ae HF,by omega⟩
  ·have HC:=hide (ae sK rfl)
   clear HA2 zT DT zf Jk Jl Jm Jn sJ sK sN
   go_wp2_with fail
   refine (ae HC).mono ?_
   rintro e w5 ⟨rfl,hp⟩
   have HF:=hide hp
   clear hp
   go_wp2
   go_ret
   exact⟨rfl,ae HF⟩
  ·have HC:=hide (ae sN rfl)
   clear HA2 zT DT zf Jk Jl Jm Jn sJ sK sN
   go_wp2_with fail
   refine (ae HC).mono ?_
   rintro e w5 ⟨rfl,hp⟩
   have HF:=hide hp
   clear hp
   go_wp2
   go_ret
   exact⟨rfl,ae HF⟩
  ·clear HA2 zT DT zf Jk Jl Jm Jn sJ sK sN
   go_wp2
   go_ret
   exact⟨rfl,X,_,_,_,(ae Qj).mono (by omega),by omega⟩
end Go.Proofs.YtigaphnafnpfnaaGreatDoor
