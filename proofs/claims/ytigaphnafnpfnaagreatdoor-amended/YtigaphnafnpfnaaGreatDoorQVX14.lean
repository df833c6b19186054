import Derived.Test.YtigaphnafnpfnaaGreatDoorQVX11
set_option linter.unusedVariables false
set_option linter.unusedSimpArgs false
set_option maxHeartbeats 8000000
set_option maxRecDepth 100000
namespace Go.Proofs.YtigaphnafnpfnaaGreatDoor
open Go.RowKit
attribute [local go_sem ↓] Go.wp_at_zero Go.wp_at_succ
def RS.cancel(S:RS)(k:Nat):RS:=S.cu k { ah S.l k with aG:=wrap64 ((ah S.l k).aG+(ah S.l k).opn),opn:=0 }
theorem uN(base sb:Nat)(S:RS)(m:SM)(x:aP)(w:World)(h:bH w base sb S m)(hx:x.kind=99)(hlen:S.l.length≤1000)(he:dU S.l x.a≠0) :
 Calls Tryz.prog 138 #[.pointer (some ⟨sb,0,none⟩),x.val] w fun e w'=>e=.returned (.tuple #[bu 0 0 0 0 0,.int .i64 (dU S.l x.a)])∧fP base sb S.fresh m w w':=by
 have uj:=h.blk.lt
 have v5:w.cell? ⟨sb,5,none⟩=some m.ov:=h.blk.cell 5
 have f5:=h.blk.frozen 5
 have sz:sb≠w.heap.size:=by omega
 have sr:sb≠w.heap.size+1:=by omega
 have sz':=sz.symm
 have MV:=sr.symm
 have tH:sb<w.heap.size+1:=by omega
 have HO:Hid (∀W m',bH W base sb S.fresh m'→Calls Tryz.prog 169 #[.pointer (some ⟨sb,0,none⟩),.int .i64 x.a] W fun e w'=>e=.returned (.tuple #[.int .i64 (oi (fK S.l x.a)),.int .i64 (dU S.l x.a)])∧w'=W):=fun W m' hW=>kZ base sb S.fresh m' x.a W hW hlen
 obtain⟨E,hE⟩:∃E,dU S.l x.a=E:=⟨_,rfl⟩
 rw[hE]at HO he ⊢
 have e0:(E == 0)=false:=by simpa using he
 obtain⟨kind,s,⟨id,owner,sym,side,ax,price,qty⟩,a,b,c,again⟩:=x
 simp only at hx
 subst hx
 simp only[aP.val,aP.cells]at HO ⊢
 have HS:=hide h
 clear h hE he
 obtain⟨p1,q1,b1,_⟩:=(ae HS).starts #[.int .u8 99,.string s,.int .i64 id,.int .i64 owner,.string sym,.int .i64 side,.int .i64 ax,.int .i64 price,.int .i64 qty,.int .i64 a,.int .i64 b,.int .i64 c,.bool again]
 obtain⟨W1,hW1⟩:∃W1,W1=(((w.setCell ⟨sb,5,none⟩ (.slice none 0 0)).alloc (.cells #[.int .u8 99,.string s,.int .i64 id,.int .i64 owner,.string sym,.int .i64 side,.int .i64 ax,.int .i64 price,.int .i64 qty,.int .i64 a,.int .i64 b,.int .i64 c,.bool again] 169)).alloc (.cells aB 87)):=⟨_,rfl⟩
 rw[←hW1]at p1 q1 b1
 have HC:=hide (ae HO _ _ p1)
 have HN:Hid (fP base sb S.fresh m w W1):=fP.mi (ae HS) q1 (fP.refl p1)
 have z0:W1.cell? ⟨w.heap.size+1,0,none⟩=some (.int .i64 0):=b1.cell 0
 have z1:W1.cell? ⟨w.heap.size+1,1,none⟩=some (.int .i64 0):=b1.cell 1
 have z2:W1.cell? ⟨w.heap.size+1,2,none⟩=some (.int .i64 0):=b1.cell 2
 have z3:W1.cell? ⟨w.heap.size+1,3,none⟩=some (.int .i64 0):=b1.cell 3
 have z4:W1.cell? ⟨w.heap.size+1,4,none⟩=some (.int .i64 0):=b1.cell 4
 have fz0:=b1.frozen 0
 have BV:=b1.frozen 1
 have BX:=b1.frozen 2
 have fz3:=b1.frozen 3
 have BZ:=b1.frozen 4
 have HB:=hide b1
 have HW1:=hide hW1
 simp only[aB]at HW1
 clear p1 q1 b1 HO hW1
 go_enter Tryz.func138,Tryz.ntmps138
 go_wp2_with fail
 rw[←ae HW1]
 refine (ae HC).mono ?_
 rintro e w3 ⟨rfl,hw3⟩
 rw[hw3]
 clear hw3 w3
 go_wp2
 refine bodyPost_ret (mM _ (w.heap.size+1) _ 0 0 0 0 0 E rfl rfl ?_) rfl ⟨rfl,?_⟩
 ·exact qj (ae HB) _ _ _ _ _
 ·exact (ae HN).off (ae HB) (by omega) (mX _ _ _ _ _)
theorem Dk(base sb k:Nat)(S:RS)(m:SM)(x:aP)(w:World)(h:bH w base sb S m)(hx:x.kind=99)(hlen:S.l.length≤1000)(hk:fK S.l x.a=some k)(ho:(ah S.l k).opn≠0) :
 Calls Tryz.prog 138 #[.pointer (some ⟨sb,0,none⟩),x.val] w fun e w'=>e=.returned (.tuple #[bu 0 0 0 0 0,.int .i64 0])∧fP base sb (S.fresh.cancel k) m w w':=by
 have he:dU S.l x.a=0:=by unfold dU;rw[hk];simp[ho]
 have uj:=h.blk.lt
 have v5:w.cell? ⟨sb,5,none⟩=some m.ov:=h.blk.cell 5
 have f5:=h.blk.frozen 5
 have sz:sb≠w.heap.size:=by omega
 have sr:sb≠w.heap.size+1:=by omega
 have sz':=sz.symm
 have MV:=sr.symm
 have tH:sb<w.heap.size+1:=by omega
 have HO:Hid (∀W m',bH W base sb S.fresh m'→Calls Tryz.prog 169 #[.pointer (some ⟨sb,0,none⟩),.int .i64 x.a] W fun e w'=>e=.returned (.tuple #[.int .i64 (k:Int),.int .i64 0])∧w'=W):=fun W m' hW=>by
  have:=kZ base sb S.fresh m' x.a W hW hlen
  rw[show dU S.fresh.l x.a=0 from he,show fK S.fresh.l x.a=some k from hk]at this
  exact this
 obtain⟨N,hN⟩:∃N,S.l.length=N:=⟨_,rfl⟩
 have hkl:=(gV hk).1
 have hkN:k<N:=by rw[←hN];exact hkl
 have Xz:N≤1000:=by omega
 obtain⟨kind,s,⟨id,owner,sym,side,ax,price,qty⟩,a,b,c,again⟩:=x
 simp only at hx
 subst hx
 simp only[aP.val,aP.cells]at HO ⊢
 have HS:=hide h
 clear h he hk ho hlen
 obtain⟨p1,q1,b1,_⟩:=(ae HS).starts #[.int .u8 99,.string s,.int .i64 id,.int .i64 owner,.string sym,.int .i64 side,.int .i64 ax,.int .i64 price,.int .i64 qty,.int .i64 a,.int .i64 b,.int .i64 c,.bool again]
 obtain⟨g,cc,v1,hlv,hsg,lg,ni,hcl,hf⟩:=p1.see hN (by omega)
 obtain⟨o,KX⟩:∃o,ah S.l k=o:=⟨_,rfl⟩
 have HC:=hide (ae HO _ _ p1)
 have HW:∃W1,W1=(((w.setCell ⟨sb,5,none⟩ (.slice none 0 0)).alloc (.cells #[.int .u8 99,.string s,.int .i64 id,.int .i64 owner,.string sym,.int .i64 side,.int .i64 ax,.int .i64 price,.int .i64 qty,.int .i64 a,.int .i64 b,.int .i64 c,.bool again] 169)).alloc (.cells aB 87)):=⟨_,rfl⟩
 obtain⟨W1,hW1⟩:=HW
 rw[←hW1]at p1 q1 b1 v1 lg hcl hf HC
 have hcl':=hcl k hkN
 rw[show ah S.fresh.l k=o from KX]at hcl'
 have y8:W1.cell? ⟨g,k * 13+8,none⟩=some (.int .i64 o.opn):=hcl' 8 _ rfl
 have VG:W1.cell? ⟨g,k * 13+10,none⟩=some (.int .i64 o.aG):=hcl' 10 _ rfl
 have f8:=hf (k * 13+8)
 have f10:=hf (k * 13+10)
 have n1:¬k * 13+8=k * 13+10:=by omega
 have gr:w.heap.size+1≠g:=by
  intro e
  rw[←hW1]at ni
  obtain⟨cs,hcs⟩:=ni
  exact ai.ne hcs b1 (by decide) e.symm
 have Sm:=gr.symm
 have z0:W1.cell? ⟨w.heap.size+1,0,none⟩=some (.int .i64 0):=b1.cell 0
 have z1:W1.cell? ⟨w.heap.size+1,1,none⟩=some (.int .i64 0):=b1.cell 1
 have z2:W1.cell? ⟨w.heap.size+1,2,none⟩=some (.int .i64 0):=b1.cell 2
 have z3:W1.cell? ⟨w.heap.size+1,3,none⟩=some (.int .i64 0):=b1.cell 3
 have z4:W1.cell? ⟨w.heap.size+1,4,none⟩=some (.int .i64 0):=b1.cell 4
 have fz0:=b1.frozen 0
 have BV:=b1.frozen 1
 have BX:=b1.frozen 2
 have fz3:=b1.frozen 3
 have BZ:=b1.frozen 4
 have HST:Hid (fP base sb (S.fresh.cancel k) m w ((W1.setCell ⟨g,k * 13+10,none⟩ (.int .i64 (wrap64 (o.aG+o.opn)))).setCell ⟨g,k * 13+8,none⟩ (.int .i64 0))):=by
  obtain⟨p2,q2⟩:=p1.fM hlv hkl (j:=10) (by omega) (.int .i64 (wrap64 (o.aG+o.opn))) { o with aG:=wrap64 (o.aG+o.opn) } (by rw[show ah S.fresh.l k=o from KX];rfl)
  obtain⟨p3,q3⟩:=p2.fM (i:=k) (by simp only[List.length_set];exact hlv) (by simp only[List.length_set];exact hkl) (j:=8) (by omega) (.int .i64 0) { o with aG:=wrap64 (o.aG+o.opn),opn:=0 } (by simp only;rw[bG (l:=S.fresh.l) hkl];rfl)
  simp only[List.set_set]at p3
  have e:S.fresh.cancel k=S.fresh.cu k { o with aG:=wrap64 (o.aG+o.opn),opn:=0 }:=by unfold RS.cancel;rw[show ah S.fresh.l k=o from KX]
  rw[e]
  exact fP.mi (ae HS) q1 ⟨m.fresh,p3,fun b hb=>.inl hb,q2.trans q3⟩
 have HB:=hide b1
 have HW1:=hide hW1
 simp only[aB]at HW1
 clear p1 q1 b1 HO hlv ni hcl hcl' hf KX hkl hN hW1
 go_enter Tryz.func138,Tryz.ntmps138
 go_wp2_with fail
 rw[←ae HW1]
 refine (ae HC).mono ?_
 rintro e w3 ⟨rfl,hw3⟩
 rw[hw3]
 clear hw3 w3
 go_wp2
 go_region
 go_wp2
 refine bodyPost_ret (mM _ (w.heap.size+1) _ 0 0 0 0 0 0 rfl rfl ?_) rfl ⟨rfl,?_⟩
 ·exact (qj (((ae HB).other (a:=⟨g,k * 13+10,none⟩) gr _).other (a:=⟨g,k * 13+8,none⟩) gr _) _ _ _ _ _).drew
 ·exact ((ae HST).off (((ae HB).other (a:=⟨g,k * 13+10,none⟩) gr _).other (a:=⟨g,k * 13+8,none⟩) gr _) (by omega) (mX _ _ _ _ _)).ext (ag.refl _ _).drew
end Go.Proofs.YtigaphnafnpfnaaGreatDoor
