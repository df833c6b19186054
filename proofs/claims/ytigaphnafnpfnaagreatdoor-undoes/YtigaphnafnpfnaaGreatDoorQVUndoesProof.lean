import Derived.Test.YtigaphnafnpfnaaGreatDoorQVG26
import Derived.Test.YtigaphnafnpfnaaGreatDoorTie
import Derived.Test.YtigaphnafnpfnaaGreatDoorCards
import Derived.ShutString
import Derived.ChangeOld
import Derived.Below
set_option linter.unusedVariables false
set_option linter.unusedSimpArgs false
set_option maxHeartbeats 8000000
set_option maxRecDepth 100000
namespace Go.Proofs.YtigaphnafnpfnaaGreatDoor.undoes
open Go.ChangeShapes Go.WideShapes Go.ChangeAt Go.RowKit
open Go.ChangeMaps (open_string shut_string)
attribute [local go_sem ↓] Go.wp_at_zero Go.wp_at_succ
theorem own:ownKnob Tryz.prog.godebug=none:=by kernel_rfl
theorem UQ:laidOutB Tryz.prog=true:=by kernel_rfl
theorem walk(a0:Option Addr)(n cap:Nat)(d:Nat->kQ)(w:World)(b:qj w)(c:n<=1048576)(hs:Eg w a0 n d) :
 CT 6 #[.slice a0 n cap] w fun e w'=>e=.returned (.bool true)/\Below w.heap.size w w':=by
 have a:=ai (OI a0 n cap 2 13 13 (by decide) d w b c hs);clear b c hs;go_enter Tryz.func6,Tryz.ntmps6;go_wp2_with fail;refine (ae a).mono ?_;rintro e g ⟨rfl,k⟩;have f:=ai k;clear k a;go_wp2;go_ret;exact⟨rfl,(ae f).below⟩
theorem lifted(os:Os)(P:os.Started)(H:Type)(b:TypeId × Value->H)(F:Stop.Interp) :
 ReturnsInHanded {} Tryz.checked os 6 .any (fun w args=>((Rows.OpenSpec.upto Rows.undoesSpec).pre b Tryz.prog Tryz.f6 [] false w args/\laidMetH Tryz.prog CZ w)/\sizedMet b Tryz.prog Tryz.f6 (Rows.OpenSpec.upto Rows.undoesSpec) false w args) (((Rows.OpenSpec.upto Rows.undoesSpec).at F).post b Tryz.prog Tryz.f6 false true false false):=by
 refine G7 (C:=Tryz.checked) (s:=Rows.OpenSpec.upto Rows.undoesSpec) (k:=Rows.uptoSmall) rfl (conds:=[]) own P (by kernel_rfl) Tryz.func6
  (World.laidAll Tryz.prog os CZ) #[.slice none 0 0] 8 (World.laidAll_os _ _ _) (EN os _) (by kernel_rfl) (x:=([.nil],[],[])) (by kernel_rfl) (by kernel_rfl) (by kernel_rfl) (by kernel_rfl) (Om os _) ?_
 intro a base args ds U R r n J A;have o:∀(j:Nat) t v,Tryz.f6.params[j]?=some t->args[j]?=some v->Value.okWide Tryz.prog a .any base t v:=r;have D:=n;obtain⟨p,q,l,B,rfl,W,X⟩:=n;have i:DataW.TrodAll b Tryz.prog a 0 (fun _=>true) true Tryz.f6.params.toList args.toList ds p:=l;rw[Tryz.params6]at i o;obtain⟨v0,Z,g,S,N,Y,V,rfl,rfl,h0,O⟩:=trodAll_cons i;obtain⟨rfl,rfl,rfl⟩:=trodAll_nil O;obtain rfl:args=#[v0]:=by cases args;simp_all
 obtain⟨rfl,rfl⟩:=trodVars_none B;obtain⟨a0,c,y,rfl⟩:=okWide_slice Tryz.underlying22 (o 0 22 v0 rfl rfl);have u:=h0;have M:∀x∈N,x.block<a.heap.size:=by obtain⟨m,K⟩:=u;exact DataW.trod_lt m _ _ _ K
 have E:Rows.uptoBulk g<=1048576:=by
  have z:Rows.uptoBulkAll [g]<=1048576:=of_decide_eq_true J;exact Nat.le_trans (sV (List.mem_singleton.2 rfl)) z
 obtain⟨d,hs,L⟩:∃d:Nat->kQ,Eg a a0 c d/\c<=1048576:=by
  obtain⟨T,I⟩:=h0;exact I8 I E
 clear l r;refine (walk a0 c y d a (FT A) L hs).mono fun e Q ⟨G,f⟩=>?_
 subst G;exact⟨_,rfl,_,_,_,[],_,[],D,trodAll_mk1 (shut_bool Tryz.underlying4 _),(trodAll_cons_mk (Below.trod UQ (by kernel_rfl) (of_decide_eq_true (by kernel_rfl)) u f M) trodAll_mk0),rfl,f.frame _,fun h=>by cases h⟩
theorem over:Rows.UndoesUptoSaid :=
 OpenClaim.holds_of_cond 6 Tryz.f6 rfl rfl rfl rfl rfl rfl rfl ⟨rfl,rfl,rfl,rfl,rfl⟩ rfl rfl rfl rfl rfl (by kernel_rfl) Tryz.func6 (by kernel_rfl)
  (of_decide_eq_true (by kernel_rfl)) (by unfold Func.isWrapper;first | (rw[if_pos (by decide +kernel)];kernel_rfl) | (rw[if_neg (by decide +kernel)];exact⟨rfl,rfl⟩))
  (fun os b H a _ F=>lifted os b H a F)
theorem card:Rows.UndoesUptoCardSaid :=
 Claim7.holds_tied_plain_at .later [] [.data, .data, .data, .data, .sentinel, .sentinel, .pinned] true (true, "e127d57629eeead8992f71fde88e64fc7311642a2a264de7ef45538411493ed3") true
  over (fun _ h=>by cases h) (by kernel_rfl) (fun _ h=>by cases h) undoesUpto_row_tie rfl ⟨rfl,rfl⟩ (by kernel_rfl) rfl
  (fun f fn hf hfn=>by
    obtain rfl : f = 6 := Option.some.inj ((show Tryz.prog.funcNamed "venue/venuelaw.Undoes" = some 6 by kernel_rfl).symm.trans hf) |>.symm
    obtain rfl:fn=Tryz.f6:=(Option.some.inj (Tryz.func6.symm.trans hfn)).symm;exact⟨by kernel_rfl,fun j t ht=>by
     rw[Tryz.params6]at ht;have hm:t∈[22]:=by simpa using Array.mem_of_getElem? ht
     have hall:([22].all fun u=>!Tryz.prog.wantsStandIn u)=true:=by kernel_rfl
     exact (show Tryz.prog.wantsStandIn t=false by simpa using List.all_eq_true.1 hall t hm)⟩)
  (by kernel_rfl)
end Go.Proofs.YtigaphnafnpfnaaGreatDoor.undoes
namespace Go.Proofs.YtigaphnafnpfnaaGreatDoor
theorem undoes_holds:Rows.UndoesUptoCardSaid:=undoes.card
end Go.Proofs.YtigaphnafnpfnaaGreatDoor
