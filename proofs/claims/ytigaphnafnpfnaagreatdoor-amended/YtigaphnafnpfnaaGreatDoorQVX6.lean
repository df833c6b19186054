import Derived.Test.YtigaphnafnpfnaaGreatDoorQVC1
set_option linter.unusedVariables false
set_option linter.unusedSimpArgs false
set_option maxHeartbeats 8000000
set_option maxRecDepth 100000
namespace Go.Proofs.YtigaphnafnpfnaaGreatDoor
open Go.RowKit
attribute [local go_sem ↓] Go.wp_at_zero Go.wp_at_succ
def bD(o:Ask)(taken there full cross whole:Bool):Int :=
 if bg o.id=false then 1 else if taken=true then 2 else if jJ o.owner=false∨gZ o.side=false then 4 else if jY o.kind=false then 5
 else if bg o.qty=false∨iw o.kind o.price=false then 4 else if there=false then 6 else if full=true then 7 else if o.kind=4∧cross=true then 8 else if o.kind=3∧whole=true then 9 else 0
theorem ED(o:Ask)(taken there full cross whole:Bool) :
 (bg o.id=false∧bD o taken there full cross whole=1)∨(bg o.id=true∧(
 (taken=true∧bD o taken there full cross whole=2)∨(taken=false∧(
 ((o.owner<0∨(¬o.owner<0∧9<o.owner)∨(¬o.owner<0∧¬9<o.owner∧o.side<0)∨(¬o.owner<0∧¬9<o.owner∧¬o.side<0∧1<o.side))∧bD o taken there full cross whole=4)∨((0≤o.owner∧o.owner≤9∧0≤o.side∧o.side≤1)∧(
 ((o.kind<0∨(¬o.kind<0∧5<o.kind))∧bD o taken there full cross whole=5)∨((0≤o.kind∧o.kind≤5)∧(
 ((bg o.qty=false∨(bg o.qty=true∧iw o.kind o.price=false))∧bD o taken there full cross whole=4)∨(bg o.qty=true∧iw o.kind o.price=true∧(
 (there=false∧bD o taken there full cross whole=6)∨(there=true∧(
 (full=true∧bD o taken there full cross whole=7)∨(full=false∧(
 (o.kind=4∧cross=true∧bD o taken there full cross whole=8)∨(o.kind=4∧cross=false∧bD o taken there full cross whole=0) ∨
 (o.kind=3∧whole=true∧bD o taken there full cross whole=9)∨(o.kind=3∧whole=false∧bD o taken there full cross whole=0)∨(o.kind≠4∧o.kind≠3∧bD o taken there full cross whole=0))))))))))))))):=by
 cases h1:bg o.id
 ·left;simp[bD,h1]
 ·right;refine⟨rfl,?_⟩
  cases h2:taken
  ·right;refine⟨rfl,?_⟩
   by_cases h3:0≤o.owner∧o.owner≤9∧0≤o.side∧o.side≤1
   ·right;refine⟨h3,?_⟩
    have e3:¬(jJ o.owner=false∨gZ o.side=false):=by
     have:o.side=0∨o.side=1:=by omega
     rintro (h | h)
     ·simp[jJ]at h;omega
     ·rcases this with e | e <;> rw[e]at h <;> simp[gZ]at h
    by_cases h4:0≤o.kind∧o.kind≤5
    ·right;refine⟨h4,?_⟩
     have e4:¬(jY o.kind=false):=by simp[jY];omega
     cases h5:bg o.qty
     ·left;exact⟨.inl rfl,by simp[bD,h1,e3,e4,h5]⟩
     ·cases h6:iw o.kind o.price
      ·left;exact⟨.inr ⟨rfl,rfl⟩,by simp[bD,h1,e3,e4,h5,h6]⟩
      ·right;refine⟨rfl,rfl,?_⟩
       cases there
       ·left;simp[bD,h1,e3,e4,h5,h6]
       ·right;refine⟨rfl,?_⟩
        cases full
        ·right;refine⟨rfl,?_⟩
         by_cases h7:o.kind=4
         ·cases cross
          ·right;left;simp[bD,h1,e3,e4,h5,h6,h7];rw[h7]at e4 h6;simp[e4,h6]
          ·left;simp[bD,h1,e3,e4,h5,h6,h7];rw[h7]at e4 h6;simp[e4,h6]
         ·by_cases h8:o.kind=3
          ·cases whole
           ·right;right;right;left;simp[bD,h1,e3,e4,h5,h6,h8];rw[h8]at e4 h6;simp[e4,h6]
           ·right;right;left;simp[bD,h1,e3,e4,h5,h6,h8];rw[h8]at e4 h6;simp[e4,h6]
          ·right;right;right;right;exact⟨h7,h8,by simp[bD,h1,e3,e4,h5,h6,h7,h8]⟩
        ·left;simp[bD,h1,e3,e4,h5,h6]
    ·left
     have e4:jY o.kind=false:=by simp[jY];omega
     exact⟨by omega,by simp[bD,h1,e3,e4]⟩
   ·left
    have e3:jJ o.owner=false∨gZ o.side=false:=by
     by_cases h:0≤o.owner∧o.owner≤9
     ·right
      have h0:o.side≠0:=by omega
      have h1:o.side≠1:=by omega
      simp[gZ,h0,h1]
     ·left;simp[jJ];omega
    exact⟨by omega,by unfold bD;rw[if_neg (by rw[h1];simp),if_neg (by simp),if_pos e3]⟩
  ·left;simp[bD,h1]
def lS(S:RS)(o:Ask):Int:=bD o (fK S.l o.id).isSome (iC S.sy o.sym) (decide (200≤S.l.length)) (dD S.l o).isSome (decide (iZ S.l o S.l.length<o.qty))
theorem SX(x:Option Nat):decide (0≤oi x)=x.isSome:=by cases x <;> simp[oi]
theorem rD(base sb:Nat)(S:RS)(m:SM)(o:Ask)(w:World)(h:bH w base sb S m)(hlen:S.l.length≤1000)(hsy:S.sy.length≤1000)(hop:∀k,k<S.l.length→0≤(ah S.l k).opn∧(ah S.l k).opn≤1000000000000000) :
 Calls Tryz.prog 167 #[.pointer (some ⟨sb,0,none⟩),o.val] w fun e w'=>e=.returned (.int .i64 (lS S o))∧ag ak w w':=by
 obtain⟨n,hn⟩:∃n,S.l.length=n:=⟨_,rfl⟩
 obtain⟨a,c,hv⟩:=az h.bI
 have hN:∀n w,Calls Tryz.prog 198 #[.int .i64 n] w fun e w'=>e=.returned (.bool (bg n))∧w'=w:=jy
 have HN:=hide hN
 have HS:Hid (∀W,ag ak w W→Calls Tryz.prog 142 #[.pointer (some ⟨sb,0,none⟩),.string o.sym] W fun e w'=>e=.returned (.bool (iC S.sy o.sym))∧w'=W):=fun W k=>iM base sb S m o.sym W (h.aj k) hsy
 have HO:Hid (∀W,ag ak w W→Calls Tryz.prog 141 #[.pointer (some ⟨sb,0,none⟩),.int .i64 o.id] W fun e w'=>e=.returned (.int .i64 (oi (fK S.l o.id)))∧w'=W):=fun W k=>lT base sb S m o.id W (h.aj k) hlen
 have HB:Hid (∀W,ag ak w W→Calls Tryz.prog 199 #[.pointer (some ⟨sb,0,none⟩),o.val] W fun e w'=>e=.returned (.int .i64 (oi (dD S.l o)))∧ag ak W w'):=fun W k=>uM base sb S m o W (h.aj k) hlen
 have HF:Hid (∀W,ag ak w W→Calls Tryz.prog 200 #[.pointer (some ⟨sb,0,none⟩),o.val] W fun e w'=>e=.returned (.int .i64 (iZ S.l o S.l.length))∧ag ak W w'):=fun W k=>Dx base sb S m o W (h.aj k) hlen hop
 have hcs:=ED o (fK S.l o.id).isSome (iC S.sy o.sym) (decide (200≤S.l.length)) (dD S.l o).isSome (decide (iZ S.l o S.l.length<o.qty))
 change (bg o.id=false∧lS S o=1)∨_ at hcs
 obtain⟨E,hE⟩:∃E,lS S o=E:=⟨_,rfl⟩
 rw[show bD o (fK S.l o.id).isSome (iC S.sy o.sym) (decide (200≤S.l.length)) (dD S.l o).isSome (decide (iZ S.l o S.l.length<o.qty))=E from hE,hE]at hcs
 rw[hE]
 rw[hn]at hv hlen hcs HF
 have v1:w.cell? ⟨sb,1,none⟩=some (.slice a n c):=by rw[←hv];exact h.blk.cell 1
 have uj:=h.blk.lt
 obtain⟨tk,htk⟩:∃x,oi (fK S.l o.id)=x:=⟨_,rfl⟩
 obtain⟨bs,hbs⟩:∃x,oi (dD S.l o)=x:=⟨_,rfl⟩
 obtain⟨th,hth⟩:∃x,iC S.sy o.sym=x:=⟨_,rfl⟩
 obtain⟨of,hof⟩:∃x,iZ S.l o n=x:=⟨_,rfl⟩
 rw[←SX,←SX,htk,hbs,hth,hof]at hcs
 rw[htk]at HO
 rw[hbs]at HB
 rw[hth]at HS
 rw[hof]at HF
 clear h hv hE hn hop hsy htk hbs hth hof hN
 obtain⟨id,owner,sym,side,kind,price,qty⟩:=o
 simp only[Ask.val]at HB HF hcs HS HO ⊢
 have hdn:decide (200≤n)=decide ((200:Int)≤(n:Int)):=by simp;omega
 rw[hdn]at hcs
 clear hdn
 rcases hcs with⟨a1,rfl⟩ | ⟨a1,⟨a2,rfl⟩ | ⟨a2,⟨a3 | ⟨a3,a4⟩ | ⟨a3,a4,a5⟩ | ⟨a3,a4,a5,a6⟩,rfl⟩ | ⟨⟨a3,a4,a5,a6⟩,⟨a7 | ⟨a7,a8⟩,rfl⟩ | ⟨⟨a7,a8⟩,⟨a9 | ⟨a9,a10⟩,rfl⟩ | ⟨a9,a10,⟨a11,rfl⟩ | ⟨a11,⟨a12,rfl⟩ | ⟨a12,⟨Nq,Vo,rfl⟩ | ⟨Nq,Vo,rfl⟩ | ⟨Nq,Vo,rfl⟩ | ⟨Nq,Vo,rfl⟩ | ⟨Nq,Vo,rfl⟩⟩⟩⟩⟩⟩⟩⟩
 all_goals by_cases hk5:kind=5
 all_goals first
  | (have e5:(kind == 5)=true:=by simp[hk5]
     try (have e10:=a10;simp only[iw,if_pos hk5]at e10;clear a10)
     try (exfalso;omega))
  | (have e5:(kind == 5)=false:=by simp[hk5]
     try (have e10:=a10;simp only[iw,if_neg hk5]at e10;clear a10))
 all_goals clear hk5
 all_goals first
  | (have x4:kind=4:=Nq
     have e4:(kind == 4)=true:=by simp[x4]
     have e3:(kind == 3)=false:=by simp[x4]
     clear Nq x4
     go_enter Tryz.func167,Tryz.ntmps167
     go_wp2_with (first
      | (go_at_call 198;refine (ae HN _ _).mono ?_;rintro e w' ⟨rfl,rfl⟩)
      | (go_at_call 142;refine (ae HS _ ?cc).mono ?_;(case cc=>exact (ag.refl _ _).alloc _);rintro e w' ⟨rfl,rfl⟩)
      | (go_at_call 141;refine (ae HO _ ?cc).mono ?_;(case cc=>exact (ag.refl _ _).alloc _);rintro e w' ⟨rfl,rfl⟩)
      | (go_at_call 199;refine (ae HB _ ?cc).mono ?_;(case cc=>exact (ag.refl _ _).alloc _);rintro e w2 ⟨rfl,k2⟩;have b4:=k2.cell (p:=⟨w.heap.size,4,none⟩) ((ai.new w _ _).cell 4) (fun x=>x);have jC:=hide k2;clear k2))
     first
      | (go_ret
         exact⟨rfl,((ag.refl _ _).alloc _).trans (ae jC)⟩)
      | (go_quiet (fail)
         go_wp2
         go_ret
         exact⟨rfl,(((ag.refl _ _).alloc _).trans (ae jC)).drewN _⟩))
  | (have x3:kind=3:=Nq
     have e4:(kind == 4)=false:=by simp[x3]
     have e3:(kind == 3)=true:=by simp[x3]
     clear Nq x3
     go_enter Tryz.func167,Tryz.ntmps167
     go_wp2_with (first
      | (go_at_call 198;refine (ae HN _ _).mono ?_;rintro e w' ⟨rfl,rfl⟩)
      | (go_at_call 142;refine (ae HS _ ?cc).mono ?_;(case cc=>exact (ag.refl _ _).alloc _);rintro e w' ⟨rfl,rfl⟩)
      | (go_at_call 141;refine (ae HO _ ?cc).mono ?_;(case cc=>exact (ag.refl _ _).alloc _);rintro e w' ⟨rfl,rfl⟩))
     go_region_with (first
      | (go_at_call 200;refine (ae HF _ ?cc).mono ?_;(case cc=>repeat (first | exact ag.refl _ _ | refine ag.drew ?_ | refine ag.drewN ?_ _ | refine ag.alloc ?_ _));rintro e w2 ⟨rfl,k2⟩;have b6:=k2.cell (p:=⟨w.heap.size,6,none⟩) ((ai.new w _ _).cell 6) (fun x=>x);have jC:=hide (ag.trans (a:=w) (by repeat (first | exact ag.refl _ _ | refine ag.drew ?_ | refine ag.drewN ?_ _ | refine ag.alloc ?_ _)) k2);clear k2))
     all_goals
      go_wp2
      go_ret
      exact⟨rfl,by repeat (first | exact ae jC | refine ag.drew ?_ | refine ag.drewN ?_ _)⟩)
  | (have e4:(kind == 4)=false:=by simpa using Nq
     have e3:(kind == 3)=false:=by simpa using Vo
     clear Nq Vo
     go_enter Tryz.func167,Tryz.ntmps167
     go_wp2_with (first
      | (go_at_call 198;refine (ae HN _ _).mono ?_;rintro e w' ⟨rfl,rfl⟩)
      | (go_at_call 142;refine (ae HS _ ?cc).mono ?_;(case cc=>exact (ag.refl _ _).alloc _);rintro e w' ⟨rfl,rfl⟩)
      | (go_at_call 141;refine (ae HO _ ?cc).mono ?_;(case cc=>exact (ag.refl _ _).alloc _);rintro e w' ⟨rfl,rfl⟩))
     go_quiet (fail)
     go_wp2
     go_ret
     exact⟨rfl,((ag.refl _ _).alloc _).drewN _⟩)
  | (go_enter Tryz.func167,Tryz.ntmps167
     go_wp2_with (first
      | (go_at_call 198;refine (ae HN _ _).mono ?_;rintro e w' ⟨rfl,rfl⟩)
      | (go_at_call 142;refine (ae HS _ ?cc).mono ?_;(case cc=>exact (ag.refl _ _).alloc _);rintro e w' ⟨rfl,rfl⟩)
      | (go_at_call 141;refine (ae HO _ ?cc).mono ?_;(case cc=>exact (ag.refl _ _).alloc _);rintro e w' ⟨rfl,rfl⟩))
     all_goals
      go_ret
      exact⟨rfl,(ag.refl _ _).alloc _⟩)
end Go.Proofs.YtigaphnafnpfnaaGreatDoor
