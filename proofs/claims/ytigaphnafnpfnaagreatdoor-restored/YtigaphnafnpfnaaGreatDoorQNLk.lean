import Derived.Test.YtigaphnafnpfnaaGreatDoorQNP14
set_option linter.unusedVariables false
set_option linter.unusedSimpArgs false
set_option maxHeartbeats 8000000
set_option maxRecDepth 100000
namespace Go.Proofs.YtigaphnafnpfnaaGreatDoor
open Go.RowKit Go.Maps
attribute [local go_sem ↓] Go.wp_at_zero Go.wp_at_succ
theorem YY(tmps:Array Value)(H:Nat)(w:World)(a b c:Value)(ht:tmps.getD 2 undef=PP H)(hu:tmps.getD 3 undef=.bool false)(hb:aA w H #[a,b,c] 47) :
 (results Tryz.f21 tmps).run Tryz.prog w=.ok (.tuple #[.agg #[a,b,c],.bool false]) w:=by
 have c0:CC w H 0 a:=hb.cell 0;have c1:CC w H 1 b:=hb.cell 1;have c2:CC w H 2 c:=hb.cell 2;simp only[Array.getD_eq_getD_getElem?]at ht hu;simp[results,Tryz.results21,go_sem,ht,hu,c0,c1,c2]
theorem OX{S:RS}{n j:Nat}{w wr w2:World}{ov kv:Value}{vs:List Value}(h:WN S n j w wr ov kv vs)(kk:aj aJ wr w2)(a b c:Value) :
 aA (((w2.setCell ⟨w.heap.size,0,none⟩ a).setCell ⟨w.heap.size,1,none⟩ b).setCell ⟨w.heap.size,2,none⟩ c) w.heap.size #[a,b,c] 47 /\
 (((w2.setCell ⟨w.heap.size,0,none⟩ a).setCell ⟨w.heap.size,1,none⟩ b).setCell ⟨w.heap.size,2,none⟩ c).ownsRow w.heap.size 54 12 ov n (qE (zZ S n))/\(((w2.setCell ⟨w.heap.size,0,none⟩ a).setCell ⟨w.heap.size,1,none⟩ b).setCell ⟨w.heap.size,2,none⟩ c).ownsRow w.heap.size 63 1 kv j vs/\(∀k v,vs[k]?=some v->sH S w.heap.size (((w2.setCell ⟨w.heap.size,0,none⟩ a).setCell ⟨w.heap.size,1,none⟩ b).setCell ⟨w.heap.size,2,none⟩ c) k v)/\aj aJ w (((w2.setCell ⟨w.heap.size,0,none⟩ a).setCell ⟨w.heap.size,1,none⟩ b).setCell ⟨w.heap.size,2,none⟩ c) :=
 ⟨(((kk.aF h.res aU).set 0 a).set 1 b).set 2 c,OW h kk ((((aj.refl _ w2).setCell (p:=⟨w.heap.size,0,none⟩) (.inl (.inr rfl)) _).setCell (p:=⟨w.heap.size,1,none⟩) (.inl (.inr rfl)) _).setCell (p:=⟨w.heap.size,2,none⟩) (.inl (.inr rfl)) _)⟩
theorem Nv(x:Kx)(bv P n:Nat)(S:RS)(acts:Int)(w:World)(hx:jq w x)(hbv:x.bv=bv)(hS:x.S=S)(hkn:Kn S n)(hn:n<=200)(hP:aA w P #[PP bv,II ((n:Int)+1),II acts] 37) :
 CT 21 #[PP P] w fun e w'=>∃oa oc,e=.returned (.tuple #[.agg #[.slice oa n oc,.slice none 0 0,.slice none 0 0],.bool false])/\ve S n 0 w.heap.size w' oa none oc 0/\aj aJ w w':=by
 have WM:Hid (∀(W:World) (k:aj aJ w W) (j:Nat) (hj:j<n),CT 26 #[PP bv,II ((j:Int)+1)] W fun e w'=>e=.returned (.tuple #[.agg (jd (oS S j)),II 0])/\aj aJ W w'):=fun W k j hj=>by
  have:=Jm (hx.aB k) (n:=n) (by rw[hS];exact hkn) hj (by omega);rw[hbv,hS]at this;exact this
 have HSo:Hid (∀(W:World) (k:aj aJ w W),CT 26 #[PP bv,II ((n:Int)+1)] W fun e w'=>e=.returned (.tuple #[.agg kE,II 6])/\aj aJ W w'):=fun W k=>by
  have:=vP (hx.aB k) (id:=(n:Int)+1) (WalkArith.wf_i64 (by omega)) (by
   rw[hS];cases h:iU S.l ((n:Int)+1) with
   | none=>rfl
   | some z=>have:=(hkn.rJ ((n:Int)+1)).1 (by rw[h];rfl);omega)
  rw[hbv]at this;exact this
 have lP:=hP.lt;have Ze:=au hP;clear hx hP hS hbv hkn;go_enter Tryz.func21,Tryz.ntmps21;go_wp2;go_loopg [5,6,7] n (fun k idv _ _ wr=>∃(i:Nat) (ov:Value),idv=II ((i:Int)+1)/\i<=n/\k=n-i/\Lk S i w wr ov)
 case atStart =>
  refine⟨0,.slice none 0 0,rfl,Nat.zero_le _,rfl,World.ownsRow_nil _ _ _ _,?_,?_,?_⟩
  ·exact aA.sQ w _ _ _
  ·exact (aA.new w _ _).alloc _
  ·exact ((aj.refl aJ w).alloc _).alloc _
 case round =>
  obtain⟨i,ov,rfl,hi,hgk,lk⟩:=hrel;have Tz:=lk.jV.aF (ae Ze) aU;have p1:CC wr P 1 (II ((n:Int)+1)):=Tz.cell 1;have p0:CC wr P 0 (PP bv):=Tz.cell 0;by_cases hlt:i<n
  ·have hS:=au (ae WM wr lk.jV i hlt);obtain⟨va,vc,rfl⟩:=qR lk.row;have e1:decide ((i:Int)+1<=(n:Int)+1)=true:=by simp;omega
   have HL:=au lk;clear lk Tz;go_wp2_with fail;refine (ae hS).mono ?_;rintro e w2 ⟨rfl,k2⟩;have CG:=aI (ae HL).row k2 (fun _ _ x=>x);have jQ:=k2.aF (ae HL).out aU;have jC:=k2.aF (ae HL).res aU;have Wl:=(ae HL).jV.trans k2;have XE:w.heap.size+1<w2.heap.size:=jQ.lt;have o2:CC w2 (w.heap.size+1) 0 (.slice va i vc):=jQ.cell 0;have hmx:i+1<=maxLen:=by unfold maxLen;omega
   have sO:(i+1) * 104<=140737488355328:=by omega
   obtain⟨i0,z0,hi0,hz0,hz1,hz2,hz3⟩:=xE;have hone:∀u∈mr (oS S i),u.oneCell'=true:=by simp[mr,Value.oneCell']
   have hnews:∀j u,(mr (oS S i))[j]?=some u->((w2.alloc (.cells (jd (oS S i)) 54)).alloc (.cells (jd (oS S i)) 54)).cell? (Addr.add ⟨w2.heap.size+1,0,none⟩ j)=some u:=by
    intro j u hj;have:=UL (w2.alloc (.cells (jd (oS S i)) 54)) (oS S i) j u hj;have e:(w2.alloc (.cells (jd (oS S i)) 54)).heap.size=w2.heap.size+1:=by simp
    rw[e]at this;exact this
   have row3:=(CG.alloc (.cells (jd (oS S i)) 54)).alloc (.cells (jd (oS S i)) 54);obtain⟨HR3,zO,Ik,Ip,zn,Az⟩:=zC row3 hnews jQ jC Wl CG;clear CG jQ jC Wl row3 hnews k2 p1 p0 hS HL;have hne5:∀(W:World) (v:Value) (c:Array Value) (xs:List Value) (m:Nat),W.ownsRow w.heap.size 54 12 v m xs->aA W (w.heap.size+1) c 47->v.ownBlock≠some (w.heap.size+1):=fun W v c xs m hr hb e=>bY hr e hb (by decide) rfl
   have HNE:=au hne5;clear hne5;simp only[jd]at HR3 zO ⊢;go_wp2_with (at_builtin;refine wpList_append_own _ rfl _ _ 44 rfl w.heap.size 54 i0 z0 12 104 Tryz.underlying44 hi0 hz0 hz1 hz2 hz3 (by decide) _ i _ rfl (ae HR3) ⟨w2.heap.size+1,0,none⟩ 1 1 (mr (oS S i)) rfl rfl (ae zO) hone hmx sO (by simp;omega) ?_;intro v' w4 hown' hgrow hnil;clear hnil;obtain⟨g',cap',rfl⟩:=lT hown' (by omega);change ((w2.alloc _).alloc _).grownBy w4 (Value.slice va i vc).ownBlock at hgrow;have b4:aA w4 (w.heap.size+1) #[.slice va i vc,.slice none 0 0,.slice none 0 0] 47:=(hgrow.block (w.heap.size+1) (by simp;omega) (fun e=>ae HNE _ _ _ _ _ (ae Az) (ae Ik) e.symm)).trans (((ae Ik).alloc _).alloc _);have r4:aA w4 w.heap.size Px 47:=(hgrow.block w.heap.size (by simp;omega) (fun e=>bY (ae Az) e.symm (ae Ip) (by decide) rfl)).trans (((ae Ip).alloc _).alloc _);have c4:=b4.cell 0;have f4:=b4.frozen 0;simp at c4;have HB4:=au b4;have HR4:=au r4;have Ii:=au hgrow;have Il:=au hown';clear b4 r4 hgrow hown');go_wp2;go_roundg (n-(i+1))
   case measure=>omega
   case rel =>
    refine⟨i+1,.slice (some ⟨g',0,none⟩) (i+1) cap',by push_cast;rfl,by omega,rfl,⟨?_,?_,?_,?_⟩⟩
    ·rw[ET,Bj];refine aI (ae Il) ((aj.refl (fun b=>b=w.heap.size+1) w4).setCell (p:=⟨w.heap.size+1,0,none⟩) (.inl rfl) _) (fun b hb e=>?_);rw[e]at hb;exact ae HNE _ _ _ _ _ (ae Il) (ae HB4) hb
    ·exact (ae HB4).set 0 _
    ·exact (ae HR4).other (by simp) _
    ·exact (((((ae zn).alloc _).alloc _).grown (ae Ii) (fun k e=>.inr (rW (ae Az) e))).setCell (p:=⟨w.heap.size+1,0,none⟩) (.inr (by simp)) _)
  ·obtain rfl:i=n:=by omega
   obtain⟨va,vc,rfl⟩:=qR lk.row;have e1:decide ((i:Int)+1<=(i:Int)+1)=true:=by simp
   obtain⟨hS,HL⟩:=dE (ae HSo wr lk.jV) lk;clear lk Tz;go_wp2_with fail;refine (ae hS).mono ?_;rintro e w2 ⟨rfl,k2⟩;simp only[kE];have h2:WN S i 0 w wr (.slice va i vc) (.slice none 0 0) []:=⟨(ae HL).row,World.ownsRow_nil _ _ _ _,by simp,(ae HL).out,(ae HL).res,(ae HL).jV⟩;have jQ:=k2.aF (ae HL).out aU;have jC:=k2.aF (ae HL).res aU;have XE:w.heap.size+1<w2.heap.size:=jQ.lt;have lt0:w.heap.size<w2.heap.size:=jC.lt;have a0:CC w2 (w.heap.size+1) 0 (.slice va i vc):=jQ.cell 0;have a1:CC w2 (w.heap.size+1) 1 (.slice none 0 0):=jQ.cell 1;have a2:CC w2 (w.heap.size+1) 2 (.slice none 0 0):=jQ.cell 2;have b0:CC w2 w.heap.size 0 (.slice none 0 0):=jC.cell 0;have b1:CC w2 w.heap.size 1 (.slice none 0 0):=jC.cell 1;have b2:CC w2 w.heap.size 2 (.slice none 0 0):=jC.cell 2;have f0:=jC.frozen 0;have f1:=jC.frozen 1;have f2:=jC.frozen 2;obtain⟨H2,zn⟩:=dE h2 k2;clear jQ jC h2 k2 p0 p1 WM HSo hS HL;go_wp2;have hf:=OX (ae H2) (ae zn) (.slice va i vc) (.slice none 0 0) (.slice none 0 0);exact bodyPost_ret (YY _ w.heap.size _ (.slice va i vc) (.slice none 0 0) (.slice none 0 0) rfl rfl (hf.1.alloc _)) rfl ⟨va,vc,rfl,⟨[],hf.2.1.alloc _,hf.2.2.1.alloc _,by simp⟩,hf.2.2.2.2.alloc _⟩
theorem Jw(x:Kx)(bv P:Nat)(S:RS)(acts:Int)(w:World)(hx:jq w x)(hbv:x.bv=bv)(hS:x.S=S)(hA:jI S.sy sA=true)(hG:jI S.sy sG=false)(hN:x.N<2000000)(hP:aA w P #[PP bv,II 0,II acts] 37) :
 CT 21 #[PP P] w fun e w'=>∃ka kc,e=.returned (.tuple #[.agg #[.slice none 0 0,.slice ka 2 kc,.slice none 0 0],.bool false])/\ve S 0 2 w.heap.size w' none ka 0 kc/\aj aJ w w':=by
 have Y8:Hid (∀(W:World) (k:aj aJ w W) (j:Nat) (hj:j<2),CT 25 #[PP bv,.string (yX (j / 2)),II ((j % 2:Nat):Int)] W fun e w'=>∃va m vc,e=.returned (.tuple #[.slice va m vc,II 0])/\sH S w.heap.size w' j (.slice va m vc)/\aj aJ W w'):=fun W k j hj=>by
  have:=OQ (k:=j) (hx.aB k) hN (by rw[hS,show j / 2=0 by omega];exact hA) (by omega) k.size;rw[hbv,hS]at this;exact this
 have HBo:Hid (∀(W:World) (k:aj aJ w W),CT 25 #[PP bv,.string ⟨#[206,145,206,169]⟩,II 0] W fun e w'=>e=.returned (.tuple #[.slice none 0 0,II 6])/\aj aJ W w'):=fun W k=>by
  have:=BG (hx.aB k) sG 0 (by decide) (by rw[hS];exact hG);rw[hbv]at this;exact this
 have lP:=hP.lt;have Ze:=au hP;clear hx hP hS hbv hA hG hN;go_enter Tryz.func21,Tryz.ntmps21;go_wp2;go_loopg [5,6,7] 0 (fun k idv _ _ wr=>idv=II 1/\Lk S 0 w wr (.slice none 0 0))
 case atStart =>
  refine⟨rfl,World.ownsRow_nil _ _ _ _,?_,?_,?_⟩
  ·exact aA.sQ w _ _ _
  ·exact (aA.new w _ _).alloc _
  ·exact ((aj.refl aJ w).alloc _).alloc _
 case round =>
  obtain⟨rfl,lk⟩:=hrel;have Tz:=lk.jV.aF (ae Ze) aU;have p1:CC wr P 1 (II 0):=Tz.cell 1;have HL:=au lk;clear lk Tz;go_wp2;go_loopg [8,9,10] 4 (fun kk iv _ _ wq=>∃(j:Nat) (kv:Value) (vs:List Value),iv=II (j:Int)/\j<=2/\kk=4-j/\WN S 0 j w wq (.slice none 0 0) kv vs)
  case atStart=>exact⟨0,.slice none 0 0,[],rfl,Nat.zero_le _,rfl,(ae HL).row,World.ownsRow_nil _ _ _ _,by simp,(ae HL).out,(ae HL).res,(ae HL).jV⟩
  case round =>
   obtain⟨j,kv,vs,rfl,hj,abr,wI⟩:=hrel;obtain⟨ka,kc,rfl⟩:=qR wI.sK;have rG:=wI.jV.aF (ae Ze) aU;have XQ:CC wr P 0 (PP bv):=rG.cell 0;have hj0:j=0\/j=1\/j=2:=by omega
   rcases hj0 with rfl | rfl | rfl
   ·have HBc:Hid (∀W,aj aJ wr W->CT 25 #[PP bv,.string ⟨#[65]⟩,II 0] W fun e w'=>∃xa m xc,e=.returned (.tuple #[.slice xa m xc,II 0])/\sH S w.heap.size w' 0 (.slice xa m xc)/\aj aJ W w'):=fun W k=>ae Y8 W (wI.jV.trans k) 0 (by omega)
    have HL2:=au wI;have lPr:P<wr.heap.size:=rG.lt;clear wI rG;go_wp2;go_region_with (go_at_call 25;refine (ae HBc _ (by repeat (first | exact aj.refl _ _ | refine aj.drew ?_ | refine aj.alloc ?_ _))).mono ?_;rintro e w2 ⟨xa,xm,xc,rfl,hbk,k2⟩)
    all_goals
     have kk:aj aJ wr w2:=aj.trans (by repeat (first | exact aj.refl _ _ | refine aj.drew ?_ | refine aj.alloc ?_ _)) k2;have RH:=au (qL (ae HL2) kk hbk rfl);have XE:w.heap.size+1<w2.heap.size:=(kk.aF (ae HL2).out aU).lt;have o1:CC w2 (w.heap.size+1) 1 (.slice ka 0 kc):=(kk.aF (ae HL2).out aU).cell 1;have HR3:=au ((aI (ae HL2).sK kk (fun _ _ x=>x)).alloc (.cells #[.slice xa xm xc] 63));have hbs:w.heap.size<=w2.heap.size+1:=by omega
     obtain⟨i0,hi0,hz0,hz1,hz2⟩:=kH;have HB2:=au (kk.aF (ae HL2).out aU);have Aw:=au (aI (ae HL2).sK kk (fun _ _ x=>x));have zO:=au (yS w2 (.slice xa xm xc) 63);clear k2 kk hbk XQ HBc HL2;go_wp2_with (at_builtin;refine wpList_append_own _ rfl _ _ 45 rfl w.heap.size 63 i0 (.slice none 0 0) 1 24 Tryz.underlying45 hi0 hz0 hz1 hz2 rfl (by decide) _ 0 vs rfl (ae HR3) ⟨w2.heap.size,0,none⟩ 1 1 [.slice xa xm xc] rfl rfl (ae zO) (by simp[Value.oneCell']) (by decide) (by decide) (by simp;omega) ?_;intro v' w4 hown' hgrow hnil;clear hnil;obtain⟨g',cap',rfl⟩:=lT hown' (by omega);change (w2.alloc _).grownBy w4 (Value.slice ka 0 kc).ownBlock at hgrow;have b4:aA w4 (w.heap.size+1) #[.slice none 0 0,.slice ka 0 kc,.slice none 0 0] 47:=(hgrow.block (w.heap.size+1) (by simp;omega) (fun e=>bY (ae Aw) e.symm (ae HB2) (by decide) rfl)).trans ((ae HB2).alloc _);have c4:=b4.cell 1;have f4:=b4.frozen 1;simp at c4;have Ii:=au hgrow;have Il:=au hown';clear b4 hgrow hown');go_wp2;go_roundg (4-(0+1))
     case measure=>omega
     case rel=>exact⟨0+1,.slice (some ⟨g',0,none⟩) (0+1) cap',_,rfl,by omega,rfl,ae RH _ _ _ _ (ae Il) (ae Ii)⟩
   ·have HBc:Hid (∀W,aj aJ wr W->CT 25 #[PP bv,.string ⟨#[65]⟩,II 1] W fun e w'=>∃xa m xc,e=.returned (.tuple #[.slice xa m xc,II 0])/\sH S w.heap.size w' 1 (.slice xa m xc)/\aj aJ W w'):=fun W k=>ae Y8 W (wI.jV.trans k) 1 (by omega)
    have HL2:=au wI;have lPr:P<wr.heap.size:=rG.lt;clear wI rG;go_wp2;go_region_with (go_at_call 25;refine (ae HBc _ (by repeat (first | exact aj.refl _ _ | refine aj.drew ?_ | refine aj.alloc ?_ _))).mono ?_;rintro e w2 ⟨xa,xm,xc,rfl,hbk,k2⟩)
    all_goals
     have kk:aj aJ wr w2:=aj.trans (by repeat (first | exact aj.refl _ _ | refine aj.drew ?_ | refine aj.alloc ?_ _)) k2;have RH:=au (qL (ae HL2) kk hbk rfl);have XE:w.heap.size+1<w2.heap.size:=(kk.aF (ae HL2).out aU).lt;have o1:CC w2 (w.heap.size+1) 1 (.slice ka 1 kc):=(kk.aF (ae HL2).out aU).cell 1;have HR3:=au ((aI (ae HL2).sK kk (fun _ _ x=>x)).alloc (.cells #[.slice xa xm xc] 63));have hbs:w.heap.size<=w2.heap.size+1:=by omega
     obtain⟨i0,hi0,hz0,hz1,hz2⟩:=kH;have HB2:=au (kk.aF (ae HL2).out aU);have Aw:=au (aI (ae HL2).sK kk (fun _ _ x=>x));have zO:=au (yS w2 (.slice xa xm xc) 63);clear k2 kk hbk XQ HBc HL2;go_wp2_with (at_builtin;refine wpList_append_own _ rfl _ _ 45 rfl w.heap.size 63 i0 (.slice none 0 0) 1 24 Tryz.underlying45 hi0 hz0 hz1 hz2 rfl (by decide) _ 1 vs rfl (ae HR3) ⟨w2.heap.size,0,none⟩ 1 1 [.slice xa xm xc] rfl rfl (ae zO) (by simp[Value.oneCell']) (by decide) (by decide) (by simp;omega) ?_;intro v' w4 hown' hgrow hnil;clear hnil;obtain⟨g',cap',rfl⟩:=lT hown' (by omega);change (w2.alloc _).grownBy w4 (Value.slice ka 1 kc).ownBlock at hgrow;have b4:aA w4 (w.heap.size+1) #[.slice none 0 0,.slice ka 1 kc,.slice none 0 0] 47:=(hgrow.block (w.heap.size+1) (by simp;omega) (fun e=>bY (ae Aw) e.symm (ae HB2) (by decide) rfl)).trans ((ae HB2).alloc _);have c4:=b4.cell 1;have f4:=b4.frozen 1;simp at c4;have Ii:=au hgrow;have Il:=au hown';clear b4 hgrow hown');go_wp2;go_roundg (4-(1+1))
     case measure=>omega
     case rel=>exact⟨1+1,.slice (some ⟨g',0,none⟩) (1+1) cap',_,rfl,by omega,rfl,ae RH _ _ _ _ (ae Il) (ae Ii)⟩
   ·have HBc:Hid (∀W,aj aJ wr W->CT 25 #[PP bv,.string ⟨#[206,145,206,169]⟩,II 0] W fun e w'=>e=.returned (.tuple #[.slice none 0 0,II 6])/\aj aJ W w'):=fun W k=>ae HBo W (wI.jV.trans k)
    have HL2:=au wI;have lPr:P<wr.heap.size:=rG.lt;clear wI rG;go_wp2;go_region_with (go_at_call 25;refine (ae HBc _ (by repeat (first | exact aj.refl _ _ | refine aj.drew ?_ | refine aj.alloc ?_ _))).mono ?_;rintro e w2 ⟨rfl,k2⟩)
    all_goals
     have kk:aj aJ wr w2:=aj.trans (by repeat (first | exact aj.refl _ _ | refine aj.drew ?_ | refine aj.alloc ?_ _)) k2;have jQ:=kk.aF (ae HL2).out aU;have jC:=kk.aF (ae HL2).res aU;have XE:w.heap.size+1<w2.heap.size:=jQ.lt;have lt0:w.heap.size<w2.heap.size:=jC.lt;have a0:CC w2 (w.heap.size+1) 0 (.slice none 0 0):=jQ.cell 0;have a1:CC w2 (w.heap.size+1) 1 (.slice ka 2 kc):=jQ.cell 1;have a2:CC w2 (w.heap.size+1) 2 (.slice none 0 0):=jQ.cell 2;have b0:CC w2 w.heap.size 0 (.slice none 0 0):=jC.cell 0;have b1:CC w2 w.heap.size 1 (.slice none 0 0):=jC.cell 1;have b2:CC w2 w.heap.size 2 (.slice none 0 0):=jC.cell 2;have f0:=jC.frozen 0;have f1:=jC.frozen 1;have f2:=jC.frozen 2;have zn:=au kk;clear jQ jC kk k2 XQ HBc;go_wp2;have hf:=OX (ae HL2) (ae zn) (.slice none 0 0) (.slice ka 2 kc) (.slice none 0 0);exact bodyPost_ret (YY _ w.heap.size _ (.slice none 0 0) (.slice ka 2 kc) (.slice none 0 0) rfl rfl hf.1) rfl ⟨ka,kc,rfl,⟨_,hf.2.1,hf.2.2.1,hf.2.2.2.1⟩,hf.2.2.2.2⟩
end Go.Proofs.YtigaphnafnpfnaaGreatDoor
