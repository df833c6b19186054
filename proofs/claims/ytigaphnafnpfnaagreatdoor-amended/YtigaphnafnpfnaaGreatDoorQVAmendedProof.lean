import Derived.Test.YtigaphnafnpfnaaGreatDoorQVG26
import Derived.Test.YtigaphnafnpfnaaGreatDoorTie
import Derived.Test.YtigaphnafnpfnaaGreatDoorCards
import Derived.SevenTiedAt
import Derived.WalkKit
import Derived.ProofKit
import Derived.OpenShut
import Derived.ShutString
import Derived.ChangeOld
import Derived.Below
set_option linter.unusedVariables false
set_option linter.unusedSimpArgs false
set_option maxHeartbeats 8000000
set_option maxRecDepth 100000
namespace Go.Proofs.YtigaphnafnpfnaaGreatDoor.amended
open Go.ChangeShapes Go.WideShapes Go.ChangeAt Go.RowKit
open Go.ChangeMaps (open_string shut_string)
attribute [local go_sem ↓] Go.wp_at_zero Go.wp_at_succ
theorem own:ownKnob Tryz.prog.godebug=none:=by kernel_rfl
theorem laidOut:laidOutB Tryz.prog=true:=by kernel_rfl
theorem walk(a0:Option Addr)(n cap:Nat)(op:Nat→ji)(w:World)(hT:Tab w)(hn:n≤1048576)(hs:Script w a0 n op) :
 Calls Tryz.prog 5 #[.slice a0 n cap] w fun e w'=>e=.returned (.bool true)∧Below w.heap.size w w':=by
 have HP:=hide (LU a0 n cap 2 12 12 (by decide) op w hT hn hs)
 clear hT hn hs
 go_enter Tryz.func5,Tryz.ntmps5
 go_wp2_with fail
 refine (ae HP).mono ?_
 rintro e w1 ⟨rfl,k⟩
 have HK:=hide k
 clear k HP
 go_wp2
 go_ret
 exact⟨rfl,(ae HK).below⟩
theorem lifted(os:Os)(started:os.Started)(H:Type)(enc:TypeId × Value→H)(F:Stop.Interp) :
 ReturnsInHanded {} Tryz.checked os 5 .any (fun w args=>((Rows.OpenSpec.upto Rows.amendedSpec).pre enc Tryz.prog Tryz.f5 [] false w args∧laidMetH Tryz.prog laid7 w)∧sizedMet enc Tryz.prog Tryz.f5 (Rows.OpenSpec.upto Rows.amendedSpec) false w args) (((Rows.OpenSpec.upto Rows.amendedSpec).at F).post enc Tryz.prog Tryz.f5 false true false false):=by
 refine EI (C:=Tryz.checked) (s:=Rows.OpenSpec.upto Rows.amendedSpec) (k:=Rows.uptoSmall) rfl (conds:=[]) own started (by kernel_rfl) Tryz.func5
  (World.laidAll Tryz.prog os laid7) #[.slice none 0 0] 8 (World.laidAll_os _ _ _) (CJ os _) (by kernel_rfl) (x:=([.nil],[],[])) (by kernel_rfl) (by kernel_rfl) (by kernel_rfl) (by kernel_rfl) (Le os _) ?_
 intro W base args ds gs before hval0 hW hk hL
 have hval:∀(j:Nat) t v,Tryz.f5.params[j]?=some t→args[j]?=some v→Value.okWide Tryz.prog W .any base t v:=hval0
 have hW':=hW
 obtain⟨p,q,hA0,hV,rfl,hfz,hnd⟩:=hW
 have hA:DataW.TrodAll enc Tryz.prog W 0 (fun _=>true) true Tryz.f5.params.toList args.toList ds p:=hA0
 rw[Tryz.params5]at hA hval
 obtain⟨v0,vs0,d0,ds0,p0,q0,hargs,rfl,rfl,h0,r0⟩:=trodAll_cons hA
 obtain⟨rfl,rfl,rfl⟩:=trodAll_nil r0
 obtain rfl:args=#[v0]:=by cases args;simp_all
 obtain⟨rfl,rfl⟩:=trodVars_none hV
 obtain⟨a0,len0,cap0,rfl⟩:=okWide_slice Tryz.underlying22 (hval 0 22 v0 rfl rfl)
 have k0:=h0
 have lt0:∀x∈p0,x.block<W.heap.size:=by obtain⟨m,hm⟩:=k0;exact DataW.trod_lt m _ _ _ hm
 have hb:Rows.uptoBulk d0≤1048576:=by
  have h1:Rows.uptoBulkAll [d0]≤1048576:=of_decide_eq_true hk
  exact Nat.le_trans (pF (List.mem_singleton.2 rfl)) h1
 obtain⟨op,hs,hn⟩:∃op:Nat→ji,Script W a0 len0 op∧len0≤1048576:=by
  obtain⟨fuel,hf⟩:=h0
  exact Gp hf hb
 clear hA0 hval0
 refine (walk a0 len0 cap0 op W (DL hL) hn hs).mono fun e W' ⟨he,bel⟩=>?_
 subst he
 exact⟨_,rfl,_,_,_,[],_,[],hW',trodAll_mk1 (shut_bool Tryz.underlying4 _),(trodAll_cons_mk (Below.trod laidOut (by kernel_rfl) (of_decide_eq_true (by kernel_rfl)) k0 bel lt0) trodAll_mk0),rfl,bel.frame _,fun h=>by cases h⟩
theorem over:Rows.AmendedUptoSaid :=
 OpenClaim.holds_of_cond 5 Tryz.f5 rfl rfl rfl rfl rfl rfl rfl ⟨rfl,rfl,rfl,rfl,rfl⟩ rfl rfl rfl rfl rfl (by kernel_rfl) Tryz.func5 (by kernel_rfl)
  (of_decide_eq_true (by kernel_rfl)) (by unfold Func.isWrapper;first | (rw[if_pos (by decide +kernel)];kernel_rfl) | (rw[if_neg (by decide +kernel)];exact⟨rfl,rfl⟩))
  (fun os started H enc _ F=>lifted os started H enc F)
theorem card:Rows.AmendedUptoCardSaid :=
 Claim7.holds_tied_plain_at .later [] [.data, .data, .data, .data, .sentinel, .sentinel, .pinned] true (true, "e127d57629eeead8992f71fde88e64fc7311642a2a264de7ef45538411493ed3") true
  over (fun _ h=>by cases h) (by kernel_rfl) (fun _ h=>by cases h) amendedUpto_row_tie rfl ⟨rfl,rfl⟩ (by kernel_rfl) rfl
  (fun f fn hf hfn=>by
    obtain rfl : f = 5 := Option.some.inj ((show Tryz.prog.funcNamed "venue/venuelaw.Amended" = some 5 by kernel_rfl).symm.trans hf) |>.symm
    obtain rfl:fn=Tryz.f5:=(Option.some.inj (Tryz.func5.symm.trans hfn)).symm
    exact⟨by kernel_rfl,fun j t ht=>by
     rw[Tryz.params5]at ht
     have hm:t∈[22]:=by simpa using Array.mem_of_getElem? ht
     have hall:([22].all fun u=>!Tryz.prog.wantsStandIn u)=true:=by kernel_rfl
     exact (show Tryz.prog.wantsStandIn t=false by simpa using List.all_eq_true.1 hall t hm)⟩)
  (by kernel_rfl)
end Go.Proofs.YtigaphnafnpfnaaGreatDoor.amended
namespace Go.Proofs.YtigaphnafnpfnaaGreatDoor
theorem amended_holds:Rows.AmendedUptoCardSaid:=amended.card
end Go.Proofs.YtigaphnafnpfnaaGreatDoor
