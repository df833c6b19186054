import Derived.Test.YtigaphnafnpfnaaGreatDoorQNP13
import Derived.Test.YtigaphnafnpfnaaGreatDoorTie
import Derived.Test.YtigaphnafnpfnaaGreatDoorCards
import Derived.ShutString
import Derived.ChangeOld
import Derived.Below
set_option linter.unusedVariables false
set_option linter.unusedSimpArgs false
set_option maxHeartbeats 8000000
set_option maxRecDepth 100000
namespace Go.Proofs.YtigaphnafnpfnaaGreatDoor.restored
open Go.ChangeShapes Go.WideShapes Go.ChangeAt Go.RowKit
open Go.ChangeMaps (open_string shut_string)
theorem own:ownKnob Tryz.prog.godebug=none:=by kernel_rfl
theorem Xy:laidOutB Tryz.prog=true:=by kernel_rfl
def Yp(k:IntKind)(w:World)(a:Option Addr)(len cap:Nat)(zs:List Int):Prop :=
 (a=none/\len=0/\cap=0/\zs=[]) \/
 ∃x,a=some x/\len<=cap/\cap<=maxLen/\zs.length=cap/\(∀i,i<zs.length->w.cell? (x.add i)=some (.int k (zs.getD i 0)))/\∀n∈zs,(Lit.int k n).wf=true
theorem walk(a0:Option Addr)(len0 cap0:Nat)(z0:List Int)(a1:Int)(m:Int)(w:World)(hT:kP w)(hmx:w.cell? ⟨0,0,none⟩=some (II m))(w0:Yp .i64 w a0 len0 cap0 z0)(w1:(Lit.int .i64 a1).wf=true) :
 CT 12 #[.slice a0 len0 cap0,II a1] w fun e w'=>e=.returned (.bool true)/\Below w.heap.size w w':=by
 have wf:∀n:Int,(Lit.int .i64 n).wf=true->-9223372036854775808<=n/\n<=9223372036854775807:=fun n h=>bounds_i64 h
 have hm:=wf a1 w1;have hcode:Code w a0 len0 (fun i=>z0.getD i 0)/\(0<len0->∀a,a0=some a->a.block<w.heap.size):=by
  rcases w0 with⟨rfl,rfl,rfl,rfl⟩ | ⟨x,rfl,h1,h2,h3,h4,h5⟩
  ·exact⟨⟨fun i hi=>absurd hi (Nat.not_lt_zero i),fun i hi=>absurd hi (Nat.not_lt_zero i),by omega⟩,fun _ a h=>by simp at h⟩
  ·unfold maxLen at h2;have key:∀i,i<len0->∃b off,x=⟨b,off,none⟩/\w.cell? ⟨b,off+i,none⟩=some (II (z0.getD i 0)):=by
    intro i hi;have hc:=h4 i (by omega);obtain⟨b,off,spot⟩:=x;obtain rfl:spot=none:=by simpa [Addr.add] using World.cell?_spot (h4 0 (by omega))
    refine⟨b,off,rfl,?_⟩;by_cases hi0:i=0
    ·subst hi0
     simpa [Addr.add] using hc
    ·simpa [Addr.add,hi0] using hc
   refine⟨⟨fun i hi=>?_,fun i hi=>?_,by omega⟩,fun hl a ha=>?_⟩
   ·obtain⟨b,off,e,hc⟩:=key i hi;exact⟨b,off,by rw[e],hc⟩
   ·refine wf _ (h5 _ ?_);rw[List.getD_eq_getElem?_getD,List.getElem?_eq_getElem (by omega)];exact List.getElem_mem _
   ·obtain⟨b,off,e,hc⟩:=key 0 hl;simp only[Option.some.injEq]at ha;rw[<-ha,e];exact World.block_lt_of_cell? w _ hc
 exact G7 a0 len0 cap0 _ a1 m w hT hmx hcode.1 hcode.2 hm.1 hm.2
theorem DZ{H:Type}{enc:TypeId × Value->H}{C:Checked}{os:Os}{f:FuncId}{fn:Func}{s:ChangeSpec}{conds:List PathCond}{apart fresh handsOn again:Bool}{l:List (String × DataW Unit)}
 (own:ownKnob C.prog.godebug=none) (started:os.Started) (noInit:C.prog.inits.idxOf? f=none) (hfn:C.prog.funcs[f]?=some fn)
 (witness:∃(w:World) (tape:Tape) (i:Input),w.os=os/\(w.forCall tape i).Shaped C.prog/\i.vars=[]/\Input.okWide C.prog (w.forCall tape i) .any w.heap.size f i /\
   ((s.pre enc C.prog fn conds apart (w.forCall tape i).memory i.args/\laidMetH C.prog l (w.forCall tape i).memory)/\sizedMet enc C.prog fn (OpenSpec.ofChange s) apart (w.forCall tape i).memory i.args)/\({}:Assume).holds C.prog (lone (Frame.enter C.prog f i.args .normal) [] (w.forCall tape i)))
 (contract:∀(W:World) (base:Nat) (args:Array Value) (ds gs:List (DataW H)) (before:List MemPlace),(∀(j:Nat) t v,fn.params[j]?=some t->args[j]?=some v->Value.okWide C.prog W .any base t v) ->
   DataW.Whole enc C.prog fn.params.toList s.vars apart W args.toList ds gs before->laidMetH C.prog l W->W.ShapedOpen C.prog ->
   Calls C.prog f args W fun e W'=>∃v,e=.returned v/\s.post enc C.prog fn apart fresh handsOn again W args v W') :
 ReturnsInHanded {} C os f .any (fun w args=>(s.pre enc C.prog fn conds apart w args/\laidMetH C.prog l w)/\sizedMet enc C.prog fn (OpenSpec.ofChange s) apart w args) (s.post enc C.prog fn apart fresh handsOn again):=by
 refine returnsInHanded_of_calls own started noInit witness ?_;intro w tape i _ hsh _ hok hpre hholds;obtain⟨_,_,_,fn',hfn',_,_,_,_,hval⟩:=hok;have e:fn'=fn:=Option.some.inj (hfn'.symm.trans hfn);subst e;obtain⟨⟨⟨ds,gs,before,hw,hc⟩,hx⟩,hz⟩:=hpre;have hw':=DataW.Whole.of_heap (w':=w.forCall tape i) (by rfl) hw;refine (contract (w.forCall tape i) w.heap.size i.args ds gs before hval hw' (hx.of_heap (by rfl)) hsh).mono fun e W' ⟨v,he,hp⟩=>?_
 subst he;exact ChangeSpec.post_blind hp
theorem lifted(os:Os)(started:os.Started)(H:Type)(enc:TypeId × Value->H) :
 ReturnsInHanded {} Tryz.checked os 12 .any (fun w args=>(Rows.restoredSpec.pre enc Tryz.prog Tryz.f12 [] false w args/\laidMetH Tryz.prog BK w)/\sizedMet enc Tryz.prog Tryz.f12 (OpenSpec.ofChange Rows.restoredSpec) false w args) (Rows.restoredSpec.post enc Tryz.prog Tryz.f12 false true false false):=by
 refine DZ own started (by kernel_rfl) Tryz.func12
  (ChangeSpec.witness_shaped (enc:=enc) (C:=Tryz.checked) (os:=os) (X:=fun w _=>laidMetH Tryz.prog BK w) false (World.laidAll Tryz.prog os BK) #[.slice none 0 0,II 0] 8 rfl (Gl os _) (by kernel_rfl) (by kernel_rfl) (by kernel_rfl) (Qr os _)) ?_
 intro W base args ds gs before hval0 hW hL hsh;have hval:∀(j:Nat) t v,Tryz.f12.params[j]?=some t->args[j]?=some v->Value.okWide Tryz.prog W .any base t v:=hval0;have hW':=hW;obtain⟨p,q,hA0,hV,rfl,hfz,hnd⟩:=hW;have hA:DataW.TrodAll enc Tryz.prog W 0 (fun _=>true) true Tryz.f12.params.toList args.toList ds p:=hA0;rw[Tryz.params12]at hA hval;obtain⟨v0,vs0,d0,ds0,p0,q0,hargs,rfl,rfl,h0,r0⟩:=trodAll_cons hA;obtain⟨v1,vs1,d1,ds1,p1,q1,rfl,rfl,rfl,h1,r1⟩:=trodAll_cons r0;obtain⟨rfl,rfl,rfl⟩:=trodAll_nil r1;obtain rfl:args=#[v0,v1]:=by cases args;simp_all
 obtain⟨rfl,rfl⟩:=trodVars_none hV;obtain⟨a0,len0,cap0,rfl⟩:=okWide_slice Tryz.underlying25 (hval 0 25 v0 rfl rfl);have k0:=h0;have lt0:∀x∈p0,x.block<W.heap.size:=by obtain⟨m,hm⟩:=k0;exact DataW.trod_lt m _ _ _ hm
 obtain⟨z0,w0⟩:∃zs,Yp .i64 W a0 len0 cap0 zs:=by
  obtain⟨fuel,hf⟩:=h0;rcases open_ints Tryz.underlying25 Tryz.underlying3 (by kernel_rfl) hf with⟨hcs,_⟩ | ⟨x,l,c,zs,hcs,_,hl,hm,hz,_,hcell,hwz⟩
  ·simp[Value.cells]at hcs;obtain⟨rfl,rfl,rfl⟩:=hcs;exact⟨[],.inl ⟨rfl,rfl,rfl,rfl⟩⟩
  ·simp[Value.cells]at hcs;obtain⟨rfl,rfl,rfl⟩:=hcs;exact⟨zs,.inr ⟨_,rfl,hl,hm,by simpa using hz,hcell,hwz⟩⟩
 obtain⟨a1,rfl,rfl,rfl,w1⟩:=open_int Tryz.underlying3 (hval 1 3 v1 rfl rfl) h1;clear hA0 hval0;obtain⟨mx,hmx⟩:=Uy hsh;refine (walk a0 len0 cap0 z0 a1 mx W (Hq hL) hmx w0 w1).mono fun e W' ⟨he,bel⟩=>?_
 subst he;exact⟨_,rfl,_,_,_,[],_,[],hW',trodAll_mk1 (shut_bool Tryz.underlying4 _),(trodAll_cons_mk (Below.trod Xy (by kernel_rfl) (of_decide_eq_true (by kernel_rfl)) k0 bel lt0) (trodAll_cons_mk (shut_int Tryz.underlying3 w1) trodAll_mk0)),rfl,bel.frame _,fun h=>by cases h⟩
theorem over:Rows.RestoredSaid :=
 OpenClaim.holds_of_wide 12 Tryz.f12 rfl rfl rfl rfl rfl rfl rfl ⟨rfl,rfl,rfl,rfl,rfl⟩ rfl rfl rfl rfl rfl (by kernel_rfl) Tryz.func12 (by kernel_rfl)
  (of_decide_eq_true (by kernel_rfl)) (by unfold Func.isWrapper;first | (rw[if_pos (by decide +kernel)];kernel_rfl) | (rw[if_neg (by decide +kernel)];exact⟨rfl,rfl⟩))
  (fun os started H enc _=>lifted os started H enc)
theorem card:Rows.RestoredCardSaid :=
 Claim7.holds_tied_plain_at .later [] [.data, .data, .data, .data, .sentinel, .sentinel, .pinned] true (true, "e127d57629eeead8992f71fde88e64fc7311642a2a264de7ef45538411493ed3") true
  over (fun _ h=>by cases h) (by kernel_rfl) (fun _ h=>by cases h) restored_row_tie rfl ⟨rfl,rfl⟩ (by kernel_rfl) rfl
  (fun f fn hf hfn=>by
    obtain rfl : f = 12 := Option.some.inj ((show Tryz.prog.funcNamed "venue/venuekeep.Restored" = some 12 by kernel_rfl).symm.trans hf) |>.symm
    obtain rfl:fn=Tryz.f12:=(Option.some.inj (Tryz.func12.symm.trans hfn)).symm;exact⟨by kernel_rfl,fun j t ht=>by
     rw[Tryz.params12]at ht;have hm:t∈[25,3]:=by simpa using Array.mem_of_getElem? ht
     have hall:([25,3].all fun u=>!Tryz.prog.wantsStandIn u)=true:=by kernel_rfl
     exact (show Tryz.prog.wantsStandIn t=false by simpa using List.all_eq_true.1 hall t hm)⟩)
  (by kernel_rfl)
end Go.Proofs.YtigaphnafnpfnaaGreatDoor.restored
namespace Go.Proofs.YtigaphnafnpfnaaGreatDoor
theorem restored_holds:Rows.RestoredCardSaid:=restored.card
end Go.Proofs.YtigaphnafnpfnaaGreatDoor
