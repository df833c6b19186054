import Derived.Test.YtigaphnafnpfnaaGreatDoorQNP8
import Derived.Test.YtigaphnafnpfnaaGreatDoorQNP14
import Derived.Test.YtigaphnafnpfnaaGreatDoorQNP11
import Derived.Test.YtigaphnafnpfnaaGreatDoorQNRn
import Derived.Laws.BytesArg
set_option linter.unusedVariables false
set_option linter.unusedSimpArgs false
set_option maxHeartbeats 8000000
set_option maxRecDepth 100000
namespace Go.Proofs.YtigaphnafnpfnaaGreatDoor
open Go.RowKit Go.Maps
theorem Xj{x:Kx}{w:World}(h:jq w x):(jf x.S.t).length<=300 * x.N:=by
 have:=h.oz.yu;rw[h.oz.tr]at this;refine Nat.le_trans ?_ this;unfold jf;rw[List.length_map];exact List.length_filter_le _ _
attribute [local go_sem ↓] Go.wp_at_zero Go.wp_at_succ
def wK(l:List UInt8):List Int:=l.map (fun b=>(b.toNat:Int))
def qG(js:List ByteArray):List UInt8:=nV (js.map (fun l=>l.data.toList))
theorem Bh:∀(js:List ByteArray),Bg js=(wK (qG js)).map (Value.int .u8)
 | []=>rfl
 | l :: js=>by
   have ih:=Bh js;show (Lib.strCells l++[Value.int .u8 10])++Bg js=_;rw[ih];unfold qG wK;rw[List.map_cons,ui];simp[Lib.strCells]
theorem Vx(l:List UInt8):strOfNums (wK l)=fQ l:=by
 unfold strOfNums wK fQ;rw[List.map_map];have e:((fun n:Int=>UInt8.ofNat n.toNat)∘fun b:UInt8=>((b.toNat:Nat):Int))=fun b=>b:=by
  funext b;simp
 rw[e];simp
theorem Jl(bv bm bo:Nat)(G:Lg)(m:Lm)(q:Nat)(w:World)(hL:fU w bv bm bo G m q) :
 CT 28 #[PP bv] w fun e w'=>e=.returned (.string (fQ (qG G.js)))/\aj aJ w w':=by
 obtain⟨n,hn⟩:=mf m.jn.length;have hrow:=hL.aP.kV;rw[hn]at hrow;obtain⟨pa,lU,YG⟩:=yT hrow;rw[YG]at hrow;have hjn:=hL.aP.jb.2;rw[Bh]at hjn;have hxl:(wK (qG G.js)).length=n:=by rw[<-hn,hjn,List.length_map]
 have hconv:(convert 98 9 (.slice pa n lU)).run Tryz.prog w=.ok (.string (fQ (qG G.js))) w:=by
  by_cases h0:0<n
  ·obtain⟨g,rfl,hc⟩:=uq hrow h0;rw[<-Vx];refine run_convert_bytes_arg w 98 5 Tryz.underlying98 Tryz.underlying5 g 0 n lU _ hxl (fun i hi=>?_) 9 Tryz.underlying9;rw[Nat.zero_add];refine hc i _ ?_;rw[hjn,List.getElem?_map,List.getElem?_eq_getElem (by omega)];simp[List.getD,List.getElem?_eq_getElem (show i<(wK (qG G.js)).length by omega)]
  ·have hn0:n=0:=by omega
   subst hn0;have e:qG G.js=[]:=by
    have h1:=hxl;unfold wK at h1;rw[List.length_map]at h1;exact List.length_eq_zero_iff.1 h1
   rw[e];cases pa with
   | none=>exact run_convert_bytes_nil w 98 5 Tryz.underlying98 Tryz.underlying5 0 lU 9 Tryz.underlying9
   | some ad =>
     obtain⟨gb,go,gs⟩:=ad;have hs:gs=none/\go=0:=by
      rcases hrow.2 with⟨e2,_⟩ | ⟨g,c,cur,e2,_⟩
      ·simp at e2
      ·simp only[Value.slice.injEq,Option.some.injEq,Addr.mk.injEq]at e2;exact⟨e2.1.2.2,e2.1.2.1⟩
     obtain⟨rfl,rfl⟩:=hs;exact run_convert_bytes_arg w 98 5 Tryz.underlying98 Tryz.underlying5 gb 0 0 lU [] rfl (fun i hi=>absurd hi (Nat.not_lt_zero i)) 9 Tryz.underlying9
 have v6:CC w bv 6 (.slice pa n lU):=(hL.dC.cell 6).trans (by rw[<-YG];rfl);clear hrow hL YG hn hjn hxl;go_enter Tryz.func28,Tryz.ntmps28;go_wp2;go_ret;exact⟨rfl,aj.refl _ _⟩
end Go.Proofs.YtigaphnafnpfnaaGreatDoor
