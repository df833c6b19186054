import Derived.Test.YtigaphnafnpfnaaGreatDoorQVC1
set_option linter.unusedVariables false
set_option linter.unusedSimpArgs false
set_option maxHeartbeats 8000000
set_option maxRecDepth 100000
namespace Go.Proofs.YtigaphnafnpfnaaGreatDoor
open Go.RowKit Go.Maps
attribute [local go_sem ↓] Go.wp_at_zero Go.wp_at_succ
theorem EH(bv bm bo i s:Nat)(V:aQ)(o:iL)(w:World)(R:dN w bv bm bo V)(hi:i<V.nb)(dM:(V.B i).sym=o.sym)(hlen:o.sym.size<=maxLen)
 (h1:fH o.id=true) (h2:V.aU o.id=none) (h3:nI o.aA=true) (h4:lQ o.side=true) (h5:nV o.kind=true) (h6:fH o.aI=true) (h7:iQ o.kind o.af=true) (h8:V.no<200) (h9:o.kind=4) (hs:s<2) (hside:o.side=1-(s:Int)) :
 Calls Tryz.prog 111 #[.pointer (some ⟨bv,0,none⟩),o.val] w fun e w'=>e=.returned (.int .i64 (if (dF (V.B i) V.om o s).isSome then 8 else 0))/\au aP w w':=by
 obtain⟨fB,mB,oK,sF⟩:=R.ik
 obtain⟨fO,mO,tZ⟩:=R.fD
 obtain⟨id,aA,sym,side,kind,af,aI⟩:=o
 simp only at dM hlen h1 h2 h3 h4 h5 h6 h7 h9 hside
 simp only[iL.val]
 have hid:(Lit.int .i64 id).wf=true:=by
  simp[fH]at h1
  exact WalkArith.wf_i64 (by omega)
 have hlb:fB (sl sym)=some (V.bk i):=by rw[<-dM];exact oK i hi
 have hlo:fO (.int .i64 id)=none:=by rw[tZ,h2]
 obtain⟨w1,hw1⟩:∃w1,w1=w.alloc (.cells #[.int .i64 id,.int .i64 aA,.string sym,.int .i64 side,.int .i64 kind,.int .i64 af,.int .i64 aI] 52):=⟨_,rfl⟩
 have k1:au aP w w1:=by rw[hw1];exact (au.refl aP w).alloc _
 have hbx:az w1 w.heap.size #[.int .i64 id,.int .i64 aA,.string sym,.int .i64 side,.int .i64 kind,.int .i64 af,.int .i64 aI] 52:=by rw[hw1];exact az.new w _ _
 have L1:∀q,(Instr.lookup 94 (.map (some bm)) (.string sym) false).run Tryz.prog (w1.drewN q)=.ok (.pointer (some ⟨V.bk i,0,none⟩)) (w1.drewN q):=fun q=>by
  rw[(mB.aC (k1.drewN q) (fun x=>x)).look yw Tryz.underlying94 (oW _) (WideMaps.keyOf_string_mk Tryz.underlying9 hlen)]
  show _=Result.ok (iR (some (V.bk i))) _
  rw[<-hlb];rfl
 have L2:∀q,(Instr.lookup 95 (.map (some bo)) (.int .i64 id) false).run Tryz.prog (w1.drewN q)=.ok (.pointer none) (w1.drewN q):=fun q=>by
  rw[(mO.aC (k1.drewN q) (fun x=>x)).look yu Tryz.underlying95 (uU _) (keyOf_int_mk Tryz.underlying3 hid)]
  show _=Result.ok (iR none) _
  rw[<-hlo]
 have L3:∀q,(Builtin.len_ #[95] 3 #[.map (some bo)]).run Tryz.prog (w1.drewN q)=.ok (.int .i64 V.no) (w1.drewN q):=fun q=>(mO.aC (k1.drewN q) (fun x=>x)).len Tryz.underlying95 _
 have v0:w1.cell? ⟨bv,0,none⟩=some (.map (some bm)):=(k1.aB R.dA (fun x=>x)).cell 0
 have v1:w1.cell? ⟨bv,1,none⟩=some (.map (some bo)):=(k1.aB R.dA (fun x=>x)).cell 1
 have x0:w1.cell? ⟨w.heap.size,0,none⟩=some (.int .i64 id):=hbx.cell 0
 have x1:w1.cell? ⟨w.heap.size,1,none⟩=some (.int .i64 aA):=hbx.cell 1
 have x2:w1.cell? ⟨w.heap.size,2,none⟩=some (.string sym):=hbx.cell 2
 have x3:w1.cell? ⟨w.heap.size,3,none⟩=some (.int .i64 side):=hbx.cell 3
 have x4:w1.cell? ⟨w.heap.size,4,none⟩=some (.int .i64 kind):=hbx.cell 4
 have x5:w1.cell? ⟨w.heap.size,5,none⟩=some (.int .i64 af):=hbx.cell 5
 have x6:w1.cell? ⟨w.heap.size,6,none⟩=some (.int .i64 aI):=hbx.cell 6
 have e3:(kind == 3)=false:=by rw[h9];rfl
 have e4:(kind == 4)=true:=by rw[h9];rfl
 have HF:=ai (fun (W:World) (hW:bU W (V.bk i) (V.B i) V.om)=>jP (V.bk i) (V.B i) V.om ⟨id,aA,sym,side,kind,af,aI⟩ s W hW hs hside)
 have SN:=ai (R.aW i hi)
 have e8:decide ((200:Int)<=(V.no:Int))=false:=by simp;omega
 have HW:=ai hw1
 have HK:=ai k1
 clear hside hw1 k1 hbx h9 hlb hlo oK sF tZ mB mO hid
 cases hf:dF (V.B i) V.om ⟨id,aA,sym,side,kind,af,aI⟩ s with
 | none =>
   have SQ:Hid (∀W,bU W (V.bk i) (V.B i) V.om->Calls Tryz.prog 123 #[.pointer (some ⟨V.bk i,0,none⟩),.agg #[.int .i64 id,.int .i64 aA,.string sym,.int .i64 side,.int .i64 kind,.int .i64 af,.int .i64 aI]] W fun e w'=>e=.returned (.pointer none)/\au aP W w'):=fun W hW=>by
    have:=ae HF W hW
    rw[hf]at this
    exact this
   clear hf HF
   go_enter Tryz.func111,Tryz.ntmps111
   go_wp2
   rw[<-ae HW]
   go_quiet (fail)
   go_wp2_with (first|(go_at_call 68;refine (bZ _ _).mono ?_;rintro e w' ⟨rfl,rfl⟩)|(go_at_call 144;refine (dY _ _).mono ?_;rintro e w' ⟨rfl,rfl⟩)|(go_at_call 47;refine (eP _ _).mono ?_;rintro e w' ⟨rfl,rfl⟩)|(go_at_call 145;refine (fJ _ _).mono ?_;rintro e w' ⟨rfl,rfl⟩)|(go_at_call 146;refine (dJ _ _ _).mono ?_;rintro e w' ⟨rfl,rfl⟩))
   go_quiet (fail)
   go_wp2_with (first|(go_at_call 123;refine (ae SQ _ ((ae SN).aC ((ae HK).drewN _) (fun _ _ x=>x))).mono ?_;rintro e w3 ⟨rfl,hc3⟩;have k4:=hc3.cell (p:=⟨w.heap.size,4,none⟩) x4 (fun x=>x))|(go_at_call 68;refine (bZ _ _).mono ?_;rintro e w' ⟨rfl,rfl⟩)|(go_at_call 144;refine (dY _ _).mono ?_;rintro e w' ⟨rfl,rfl⟩)|(go_at_call 47;refine (eP _ _).mono ?_;rintro e w' ⟨rfl,rfl⟩)|(go_at_call 145;refine (fJ _ _).mono ?_;rintro e w' ⟨rfl,rfl⟩)|(go_at_call 146;refine (dJ _ _ _).mono ?_;rintro e w' ⟨rfl,rfl⟩))
   go_quiet (fail)
   go_wp2
   go_ret
   exact⟨rfl,au.trans (((ae HK).drewN _)) (hc3.drewN _)⟩
 | some x =>
   have SQ:Hid (∀W,bU W (V.bk i) (V.B i) V.om->Calls Tryz.prog 123 #[.pointer (some ⟨V.bk i,0,none⟩),.agg #[.int .i64 id,.int .i64 aA,.string sym,.int .i64 side,.int .i64 kind,.int .i64 af,.int .i64 aI]] W fun e w'=>e=.returned (.pointer (some ⟨x,0,none⟩))/\au aP W w'):=fun W hW=>by
    have:=ae HF W hW
    rw[hf]at this
    exact this
   clear hf HF
   go_enter Tryz.func111,Tryz.ntmps111
   go_wp2
   rw[<-ae HW]
   go_quiet (fail)
   go_wp2_with (first|(go_at_call 68;refine (bZ _ _).mono ?_;rintro e w' ⟨rfl,rfl⟩)|(go_at_call 144;refine (dY _ _).mono ?_;rintro e w' ⟨rfl,rfl⟩)|(go_at_call 47;refine (eP _ _).mono ?_;rintro e w' ⟨rfl,rfl⟩)|(go_at_call 145;refine (fJ _ _).mono ?_;rintro e w' ⟨rfl,rfl⟩)|(go_at_call 146;refine (dJ _ _ _).mono ?_;rintro e w' ⟨rfl,rfl⟩))
   go_quiet (fail)
   go_wp2_with (first|(go_at_call 123;refine (ae SQ _ ((ae SN).aC ((ae HK).drewN _) (fun _ _ x=>x))).mono ?_;rintro e w3 ⟨rfl,hc3⟩;have k4:=hc3.cell (p:=⟨w.heap.size,4,none⟩) x4 (fun x=>x))|(go_at_call 68;refine (bZ _ _).mono ?_;rintro e w' ⟨rfl,rfl⟩)|(go_at_call 144;refine (dY _ _).mono ?_;rintro e w' ⟨rfl,rfl⟩)|(go_at_call 47;refine (eP _ _).mono ?_;rintro e w' ⟨rfl,rfl⟩)|(go_at_call 145;refine (fJ _ _).mono ?_;rintro e w' ⟨rfl,rfl⟩)|(go_at_call 146;refine (dJ _ _ _).mono ?_;rintro e w' ⟨rfl,rfl⟩))
   go_ret
   exact⟨rfl,au.trans ((ae HK).drewN _) hc3⟩
theorem BV(bv bm bo i s:Nat)(V:aQ)(o:iL)(w:World)(R:dN w bv bm bo V)(hi:i<V.nb)(dM:(V.B i).sym=o.sym)(hlen:o.sym.size<=maxLen)
 (h1:fH o.id=true) (h2:V.aU o.id=none) (h3:nI o.aA=true) (h4:lQ o.side=true) (h5:nV o.kind=true) (h6:fH o.aI=true) (h7:iQ o.kind o.af=true) (h8:V.no<200) (h9:o.kind=3) (hs:s<2) (hside:o.side=1-(s:Int)) (hop:∀k,k<(V.B i).n s->0<=(V.om ((V.B i).h s k)).aK/\(V.om ((V.B i).h s k)).aK<=1000000000000000) :
 Calls Tryz.prog 111 #[.pointer (some ⟨bv,0,none⟩),o.val] w fun e w'=>e=.returned (.int .i64 (if uS V.om ((V.B i).h s) o ((V.B i).n s)<o.aI then 9 else 0))/\au aP w w':=by
 obtain⟨fB,mB,oK,sF⟩:=R.ik
 obtain⟨fO,mO,tZ⟩:=R.fD
 obtain⟨id,aA,sym,side,kind,af,aI⟩:=o
 simp only at dM hlen h1 h2 h3 h4 h5 h6 h7 h9 hside
 simp only[iL.val]
 have hid:(Lit.int .i64 id).wf=true:=by
  simp[fH]at h1
  exact WalkArith.wf_i64 (by omega)
 have hlb:fB (sl sym)=some (V.bk i):=by rw[<-dM];exact oK i hi
 have hlo:fO (.int .i64 id)=none:=by rw[tZ,h2]
 obtain⟨w1,hw1⟩:∃w1,w1=w.alloc (.cells #[.int .i64 id,.int .i64 aA,.string sym,.int .i64 side,.int .i64 kind,.int .i64 af,.int .i64 aI] 52):=⟨_,rfl⟩
 have k1:au aP w w1:=by rw[hw1];exact (au.refl aP w).alloc _
 have hbx:az w1 w.heap.size #[.int .i64 id,.int .i64 aA,.string sym,.int .i64 side,.int .i64 kind,.int .i64 af,.int .i64 aI] 52:=by rw[hw1];exact az.new w _ _
 have L1:∀q,(Instr.lookup 94 (.map (some bm)) (.string sym) false).run Tryz.prog (w1.drewN q)=.ok (.pointer (some ⟨V.bk i,0,none⟩)) (w1.drewN q):=fun q=>by
  rw[(mB.aC (k1.drewN q) (fun x=>x)).look yw Tryz.underlying94 (oW _) (WideMaps.keyOf_string_mk Tryz.underlying9 hlen)]
  show _=Result.ok (iR (some (V.bk i))) _
  rw[<-hlb];rfl
 have L2:∀q,(Instr.lookup 95 (.map (some bo)) (.int .i64 id) false).run Tryz.prog (w1.drewN q)=.ok (.pointer none) (w1.drewN q):=fun q=>by
  rw[(mO.aC (k1.drewN q) (fun x=>x)).look yu Tryz.underlying95 (uU _) (keyOf_int_mk Tryz.underlying3 hid)]
  show _=Result.ok (iR none) _
  rw[<-hlo]
 have L3:∀q,(Builtin.len_ #[95] 3 #[.map (some bo)]).run Tryz.prog (w1.drewN q)=.ok (.int .i64 V.no) (w1.drewN q):=fun q=>(mO.aC (k1.drewN q) (fun x=>x)).len Tryz.underlying95 _
 have v0:w1.cell? ⟨bv,0,none⟩=some (.map (some bm)):=(k1.aB R.dA (fun x=>x)).cell 0
 have v1:w1.cell? ⟨bv,1,none⟩=some (.map (some bo)):=(k1.aB R.dA (fun x=>x)).cell 1
 have x0:w1.cell? ⟨w.heap.size,0,none⟩=some (.int .i64 id):=hbx.cell 0
 have x1:w1.cell? ⟨w.heap.size,1,none⟩=some (.int .i64 aA):=hbx.cell 1
 have x2:w1.cell? ⟨w.heap.size,2,none⟩=some (.string sym):=hbx.cell 2
 have x3:w1.cell? ⟨w.heap.size,3,none⟩=some (.int .i64 side):=hbx.cell 3
 have x4:w1.cell? ⟨w.heap.size,4,none⟩=some (.int .i64 kind):=hbx.cell 4
 have x5:w1.cell? ⟨w.heap.size,5,none⟩=some (.int .i64 af):=hbx.cell 5
 have x6:w1.cell? ⟨w.heap.size,6,none⟩=some (.int .i64 aI):=hbx.cell 6
 have e3:(kind == 3)=true:=by rw[h9];rfl
 have e4:(kind == 4)=false:=by rw[h9];rfl
 have HF:=ai (fun (W:World) (hW:bU W (V.bk i) (V.B i) V.om)=>J7 (V.bk i) s (V.B i) V.om ⟨id,aA,sym,side,kind,af,aI⟩ W hW hs hside hop)
 have SN:=ai (R.aW i hi)
 have e8:decide ((200:Int)<=(V.no:Int))=false:=by simp;omega
 have HW:=ai hw1
 have HK:=ai k1
 clear hop hside hw1 k1 hbx h9 hlb hlo oK sF tZ mB mO hid
 have HSH:Hid (∃z,z=uS V.om ((V.B i).h s) ⟨id,aA,sym,side,kind,af,aI⟩ ((V.B i).n s)):=⟨_,rfl⟩
 obtain⟨z,hz⟩:=ae HSH
 rw[<-hz]at HF ⊢
 have HF2:Hid (∀W,(∃q,W=w1.drewN q)->Calls Tryz.prog 147 #[.pointer (some ⟨V.bk i,0,none⟩),.agg #[.int .i64 id,.int .i64 aA,.string sym,.int .i64 side,.int .i64 kind,.int .i64 af,.int .i64 aI]] W fun e w'=>e=.returned (.int .i64 z)/\au aP W w'):=by
  rintro W ⟨q,rfl⟩
  exact ae HF _ ((ae SN).aC ((ae HK).drewN q) (fun _ _ x=>x))
 clear HF HSH hz
 go_enter Tryz.func111,Tryz.ntmps111
 go_wp2
 rw[<-ae HW]
 go_quiet (fail)
 go_wp2_with (first|(go_at_call 68;refine (bZ _ _).mono ?_;rintro e w' ⟨rfl,rfl⟩)|(go_at_call 144;refine (dY _ _).mono ?_;rintro e w' ⟨rfl,rfl⟩)|(go_at_call 47;refine (eP _ _).mono ?_;rintro e w' ⟨rfl,rfl⟩)|(go_at_call 145;refine (fJ _ _).mono ?_;rintro e w' ⟨rfl,rfl⟩)|(go_at_call 146;refine (dJ _ _ _).mono ?_;rintro e w' ⟨rfl,rfl⟩))
 go_quiet (fail)
 go_wp2_with (first|(go_at_call 68;refine (bZ _ _).mono ?_;rintro e w' ⟨rfl,rfl⟩)|(go_at_call 144;refine (dY _ _).mono ?_;rintro e w' ⟨rfl,rfl⟩)|(go_at_call 47;refine (eP _ _).mono ?_;rintro e w' ⟨rfl,rfl⟩)|(go_at_call 145;refine (fJ _ _).mono ?_;rintro e w' ⟨rfl,rfl⟩)|(go_at_call 146;refine (dJ _ _ _).mono ?_;rintro e w' ⟨rfl,rfl⟩))
 obtain⟨H,hH⟩:∃H,w.heap.size=H:=⟨_,rfl⟩
 rw[hH]at x0 x1 x2 x3 x4 x5 x6 ⊢
 go_region_held3 (fun w'=>w'.cell? ⟨H,0,none⟩=some (.int .i64 id)/\w'.cell? ⟨H,1,none⟩=some (.int .i64 aA)/\w'.cell? ⟨H,2,none⟩=some (.string sym)/\w'.cell? ⟨H,3,none⟩=some (.int .i64 side)/\w'.cell? ⟨H,4,none⟩=some (.int .i64 kind)/\w'.cell? ⟨H,5,none⟩=some (.int .i64 af)/\w'.cell? ⟨H,6,none⟩=some (.int .i64 aI)) (go_keep)
  (first|(go_at_call 147;refine (ae HF2 _ ⟨_,rfl⟩).mono ?_;rintro e w3 ⟨rfl,hc3⟩;have k0:=hc3.cell (p:=⟨H,0,none⟩) x0 (fun x=>x);have k1:=hc3.cell (p:=⟨H,1,none⟩) x1 (fun x=>x);have k2:=hc3.cell (p:=⟨H,2,none⟩) x2 (fun x=>x);have k3:=hc3.cell (p:=⟨H,3,none⟩) x3 (fun x=>x);have k4:=hc3.cell (p:=⟨H,4,none⟩) x4 (fun x=>x);have k5:=hc3.cell (p:=⟨H,5,none⟩) x5 (fun x=>x);have k6:=hc3.cell (p:=⟨H,6,none⟩) x6 (fun x=>x)))
 go_wp2
 all_goals (go_ret;exact⟨rfl,au.trans ((ae HK).drewN _) (au.trans (by repeat (first|exact au.refl _ _|refine au.drewN ?_ _|refine au.drew ?_)) hc3)⟩)
open Go.RowKit
def RS.aaD(S:RS)(kind:Int)(t:Tr):RS:={ S with told:=S.told++[⟨0,kind,t⟩] }
end Go.Proofs.YtigaphnafnpfnaaGreatDoor
