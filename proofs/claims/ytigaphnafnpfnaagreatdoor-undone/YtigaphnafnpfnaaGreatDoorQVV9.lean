import Derived.Test.YtigaphnafnpfnaaGreatDoorQVV8
import Derived.Test.YtigaphnafnpfnaaGreatDoorQVE17
import Derived.Test.YtigaphnafnpfnaaGreatDoorQVE15
set_option linter.unusedVariables false
set_option linter.unusedSimpArgs false
set_option maxHeartbeats 8000000
set_option maxRecDepth 100000
namespace Go.Proofs.YtigaphnafnpfnaaGreatDoor
open Go.RowKit Go.Maps
attribute [local go_sem ↓] Go.wp_at_zero Go.wp_at_succ
def U5(bv bm bo i b s t k:Nat)(V:aQ)(kR:Lm)(af aI:Int)(bk:Nat->Nat)(lw:Nat)(w:World)(v:Value)(w':World):Prop :=
 yQ bv (V.bk i) b s t bm bo ⟨(V.B i).leave V.om t k,aN V.om b (dP (V.om b) af aI),V.lg.dE b (V.om b)⟩ kR (fun x=>∃id,V.aU id=some x) w bk lw (V.lm.ac.map Prod.snd) V.lm.tb v w'
theorem Ai(bv bm bo b i:Nat)(V:aQ)(id af aI:Int)(w:World)(bk:Nat->Nat)(R:dN w bv bm bo V)(hT:oC w)(hid:(Lit.int .i64 id).wf=true)(hn:V.aU id=some b)(h0:(V.om b).aK≠0)(hp:fH af=true)(hq:fH aI=true)(hi:i<V.nb)
 (hpr:af=(V.om b).af) (hle:aI<=(V.om b).aK) (hna:V.lg.ud+V.lg.na<3000000) :
 Calls Tryz.prog 38 #[.pointer (some ⟨bv,0,none⟩),.int .i64 id,.int .i64 af,.int .i64 aI] w fun e w'=>e=.returned (.tuple #[.agg #[.int .i64 0,.int .i64 aI,.int .i64 0,.int .i64 0,.int .i64 0],.int .i64 0]) /\
  Mk w' (V.bk i) (V.B i) (aN V.om b (dP (V.om b) af aI)) (fun x=>∃id,V.aU id=some x)/\Dz bv bm bo V.lg V.lm bk true [.fA b (V.om b)] w w'/\au (fun x=>x=bv\/V.lm.F x\/x=b) w w':=by
 obtain⟨wa,Nc⟩:∃wa,wa=w.alloc (.cells kP 87):=⟨_,rfl⟩
 have ka:au aP w wa:=by rw[Nc];exact (au.refl aP w).alloc _
 have hra:az wa w.heap.size kP 87:=by rw[Nc];exact az.new w _ _
 have L2:=(R.aH ka).vN hid
 rw[hn]at L2
 simp only[iR]at L2
 rw[Nc]at L2
 simp only[kP]at L2
 obtain⟨-,ix,ho⟩:=R.bg id b hn
 have o8:w.cell? ⟨b,8,none⟩=some (.int .i64 (V.om b).aK):=ho.cell 8
 have v1:w.cell? ⟨bv,1,none⟩=some (.map (some bo)):=R.dA.cell 1
 have lv:=R.dA.lt
 have lo:=ho.lt
 have e0:((V.om b).aK == 0)=false:=by simp[h0]
 have e1:decide (aI<=(V.om b).aK)=true:=by simp[hle]
 have HW:Hid (wa=w.alloc (.cells #[.int .i64 0,.int .i64 0,.int .i64 0,.int .i64 0,.int .i64 0] 87)):=Nc
 have zy:=qw ⟨#[114,101,112,108,97,99,101]⟩ (Dq id af aI) 3 wa (hT.aH ka) (by decide) (by decide) (by omega) (fun i hi=>by
  match i,hi with
  | 0,_=>exact bounds_i64 hid
  | 1,_=>exact nD (by simp[fH]at hp;show -1000000<=af/\af<=1000000;omega)
  | 2,_=>exact nD (by simp[fH]at hq;show -1000000<=aI/\aI<=1000000;omega))
 generalize gY (Dq id af aI) ⟨#[114,101,112,108,97,99,101]⟩ 3=ln at zy
 have mg:=ai (ng bv bm bo V.lg V.lm ln wa (R.aH ka).aO hna zy.1.1 zy.1.2)
 have U9:=ai zy.2
 have hsz:wa.heap.size=w.heap.size+1:=by rw[Nc];simp
 have IM:Hid (∀i,i<3->(wa.alloc (.cells #[.int .i64 id,.int .i64 af,.int .i64 aI] 3)).cell? ⟨w.heap.size+1,i,none⟩=some (.int .i64 (Dq id af aI i))):=by
  intro i hi
  rw[<-hsz]
  match i,hi with
  | 0,_=>exact (az.new wa _ _).cell 0
  | 1,_=>exact (az.new wa _ _).cell 1
  | 2,_=>exact (az.new wa _ _).cell 2
 clear zy hsz
 have HR:=ai R
 have HN:=ai hn
 have YK:=ai hpr
 have HE1:=ai e1
 clear R hn ho h0 hle hpr Nc e1
 go_enter Tryz.func38,Tryz.ntmps38
 go_wp2_with (first|(go_at_call 68;refine (bZ _ _).mono ?_;rintro e w' ⟨rfl,rfl⟩)|fail)
 rw[<-ae HW]
 refine (ae U9 _ ((au.refl aP wa).alloc _) _ _ (ae IM)).mono ?_
 rintro e wl ⟨rfl,kl⟩
 have Fb:=ai kl
 clear kl
 go_wp2_with fail
 refine (ae mg _ (ae Fb)).mono ?_
 rintro e wb ⟨rfl,kT,hLb,qO,kb,htb,-,hac⟩
 clear U9 Fb IM
 clear L2 o8 v1
 have Rb:=((ae HR).aH ka).jH hLb kb
 have hnb:({ V with lg:=V.lg.begun,lm:=kT }:aQ).aU id=some b:=ae HN
 obtain⟨-,ixb,hob⟩:=Rb.bg id b hnb
 have o8:wb.cell? ⟨b,8,none⟩=some (.int .i64 (V.om b).aK):=az.cell hob 8
 have o5:wb.cell? ⟨b,5,none⟩=some (.int .i64 af):=by rw[ae YK];exact az.cell hob 5
 have e1:=ae HE1
 have hrb:=kb.aB hra (by
  rintro (e|e)
  ·omega
  ·have:=(ae HR).aO.aO.lt e;omega)
 have wZ:∀x,kT.F x->V.lm.F x\/w.heap.size<=x:=fun x h=>(qO x h).imp_right (fun h=>Nat.le_trans ka.size h)
 have Jw:au (fun x=>x=bv\/V.lm.F x\/x=b) w wb:=ka.bI.trans (kb.mono (fun x h=>h.imp_right .inl))
 have HAm:=ai (Fp (V.bk i) b (V.B i) V.om (fun x=>∃id,V.aU id=some x) af aI wb (Rb.qQ hi) ⟨id,ae HN⟩)
 have qF:Hid (∀w3 nC cp3,Mk w3 (V.bk i) (V.B i) (aN V.om b (dP (V.om b) af aI)) (fun x=>∃id,V.aU id=some x)->au (fun x=>x=b) wb w3->jr w3 b (V.om b) wb.heap.size nC cp3 ->
  Calls Tryz.prog 53 #[.pointer (some ⟨bv,0,none⟩),.slice (some ⟨w3.heap.size,0,none⟩) 1 1] (w3.alloc (.cells #[.func nC #[] cp3] 1)) fun e w'=>e=.returned (.tuple #[]) /\
   Mk w' (V.bk i) (V.B i) (aN V.om b (dP (V.om b) af aI)) (fun x=>∃id,V.aU id=some x)/\Dz bv bm bo V.lg V.lm bk true [.fA b (V.om b)] w w'/\au (fun x=>x=bv\/V.lm.F x\/x=b) w w'/\az w' w.heap.size kP 87):=by
  intro w3 nC cp3 m3 k3 f3
  have h3:=hLb.jg k3 (fun x h=>by subst h;exact (Rb.qQ hi).fZ (.inr (.inl ⟨id,ae HN⟩)))
  have hr3:=k3.aB hrb (fun h=>by omega)
  have cb:gI wb bv bk w.heap.size true (V.lm.ac.map Prod.snd) V.lg.begun.nt V.lm.tb kT []:=gI.begun htb hac
  have c3:=cb.aC k3 (jl (Rb.qQ hi) ⟨id,ae HN⟩)
  have i3:bJ w3 bv bk w.heap.size (.fA b (V.om b)) (.func nC #[] cp3):=⟨_,_,rfl,f3.mono (by have:=ka.size;have:=kb.size;omega)⟩
  refine (lV bv bm bo _ kT (.fA b (V.om b)) nC cp3 w3 bk w.heap.size true _ _ _ h3 c3 (fun _=>rfl) i3 (by show 0<V.lg.na+1;omega) (by show V.lg.na+1<=3000000;omega) (by show 0+1<1000000000;omega)).mono ?_
  rintro e w' ⟨rfl,bH,a1,a2,a3',-,a5⟩
  have a3:au (fun x=>kT.F x) w3 w':=a3'.mono (fun b h=>.inr (.inr (.inr h)))
  have Gi:=Jw.trans (k3.mono (fun x h=>.inr (.inr h)))
  refine⟨rfl,m3.jc h3 (a3.mono (fun _ h=>.inr h)),⟨bH,a1,fun x hx=>?_,_,a5⟩,Gi.from (a3.mono (fun x h=>(wZ x h).imp_left (fun h=>.inr (.inl h)))),a3.aB hr3 (h3.aO.ne hr3 (by decide) (by decide) (by decide))⟩
  rcases a2 x hx with h|h
  ·exact wZ x h
  ·exact .inr (Nat.le_trans Gi.size h)
 clear hob hnb Rb hLb qO kb htb hac mg hrb wZ Jw ka hra HW
 go_wp2_with fail
 refine (ae HAm).mono ?_
 rintro e w3 ⟨nC,cp3,rfl,f3,m3,k3⟩
 go_wp2_with fail
 refine (ae qF w3 nC cp3 m3 k3 f3).mono ?_
 rintro e w4 ⟨rfl,m4,ac4,Jv,hr4⟩
 have r0:w4.cell? ⟨w.heap.size,0,none⟩=some (.int .i64 0):=hr4.cell 0
 have r1:w4.cell? ⟨w.heap.size,1,none⟩=some (.int .i64 0):=hr4.cell 1
 have r2:w4.cell? ⟨w.heap.size,2,none⟩=some (.int .i64 0):=hr4.cell 2
 have r3:w4.cell? ⟨w.heap.size,3,none⟩=some (.int .i64 0):=hr4.cell 3
 have r4:w4.cell? ⟨w.heap.size,4,none⟩=some (.int .i64 0):=hr4.cell 4
 have q0:=hr4.frozen 0
 have q1:=hr4.frozen 1
 have q2:=hr4.frozen 2
 have q3:=hr4.frozen 3
 have q4:=hr4.frozen 4
 have Yd:=ai m4
 have HA4:=ai ac4
 have LQ:=ai Jv
 clear m3 k3 m4 ac4 Jv o8 o5
 go_wp2
 have kB:au (fun x=>x=w.heap.size) w4 (((((w4.setCell ⟨w.heap.size,0,none⟩ (.int .i64 0)).setCell ⟨w.heap.size,1,none⟩ (.int .i64 aI)).setCell ⟨w.heap.size,2,none⟩ (.int .i64 0)).setCell ⟨w.heap.size,3,none⟩ (.int .i64 0)).setCell ⟨w.heap.size,4,none⟩ (.int .i64 0)) :=
  (((((au.refl (fun x=>x=w.heap.size) w4).setCell (p:=⟨w.heap.size,0,none⟩) (.inl rfl) _).setCell (p:=⟨w.heap.size,1,none⟩) (.inl rfl) _).setCell (p:=⟨w.heap.size,2,none⟩) (.inl rfl) _).setCell (p:=⟨w.heap.size,3,none⟩) (.inl rfl) _).setCell (p:=⟨w.heap.size,4,none⟩) (.inl rfl) _
 refine bodyPost_ret (Ls _ w.heap.size _ 0 aI 0 0 0 0 rfl rfl ?_) rfl ⟨rfl,?_,?_,?_⟩
 ·exact ((((hr4.set 0 _).set 1 _).set 2 _).set 3 _).set 4 _
 ·have mA:=ae Yd
  refine mA.aC kB (fun e=>?_) (fun x hx e=>?_) (fun y hy x hx e=>?_)
  ·have:=((ae HR).aW i hi).aB.lt;omega
  ·obtain⟨ix',ho'⟩:=mA.bg x hx
   subst e
   exact az.ne ho' hr4 (by decide) rfl
  ·subst e
   exact (mA.aW.side y hy).ne hr4 (by decide) hx
 ·obtain⟨bH,a1,a2,cl4,a3⟩:=ae HA4
  exact⟨bH,a1.aC kB (by omega) (fun x hx e=>a1.aO.ne hr4 (by decide) (by decide) (by decide) (by decide) (by decide) (e▸hx)),a2,cl4,a3.aC kB (l9.fZ (fun x hx=>by subst hx;exact⟨_,87,hr4,by rintro (e|e|e|e|e|e|e|e|⟨_,e⟩) <;> exact absurd e (by decide)⟩))⟩
 ·exact (ae LQ).from (kB.mono (fun x h=>.inr (by omega)))
theorem Ag(bv bm bo b i s t k:Nat)(V:aQ)(id af aI:Int)(w:World)(bk:Nat->Nat)(hbk:∀y,y<2->∀l,l<(V.B i).n y->bk ((V.B i).h y l)=V.bk i)(R:dN w bv bm bo V)(hT:oC w)(hid:(Lit.int .i64 id).wf=true)(hn:V.aU id=some b)(h0:(V.om b).aK≠0)(hp:fH af=true)(hq:fH aI=true)(hi:i<V.nb)(dM:(V.om b).sym=(V.B i).sym)(hlen:(V.B i).sym.size<=maxLen)
 (hs:s<2) (ht:t=1-s) (hk:k<(V.B i).n t) (hkb:(V.B i).h t k=b) (hside:(V.om b).side=(t:Int)) (hnk:¬(af=(V.om b).af/\aI<=(V.om b).aK))
 (iv:qN b s ⟨(V.B i).leave V.om t k,aN V.om b (dP (V.om b) af aI),V.lg.dE b (V.om b)⟩) (hcn:(V.B i).n t<1000) (hcs:(V.B i).n s<=250) (hl1:V.lg.tp.length+300<1000000000) (hl2:V.lg.tr.length+300<1000000000) (hna:V.lg.ud+V.lg.na<3000000) :
 Calls Tryz.prog 38 #[.pointer (some ⟨bv,0,none⟩),.int .i64 id,.int .i64 af,.int .i64 aI] w fun e w'=>∃v w3 kR,e=.returned (.tuple #[v,.int .i64 0])/\au (fun x=>x=bv\/V.lm.F x\/x=V.bk i\/x=b\/dC (V.B i) t x) w w3/\(∀x,kR.F x->V.lm.F x\/w.heap.size<=x)/\∃w4,U5 bv bm bo i b s t k V kR af aI bk w.heap.size w3 v w4/\az w4 w.heap.size kP 87/\au (fun x=>x=w.heap.size) w4 w':=by
 have t2:t<2:=by omega
 obtain⟨wa,Nc⟩:∃wa,wa=w.alloc (.cells kP 87):=⟨_,rfl⟩
 have ka:au aP w wa:=by rw[Nc];exact (au.refl aP w).alloc _
 have hra:az wa w.heap.size kP 87:=by rw[Nc];exact az.new w _ _
 have L2:=(R.aH ka).vN hid
 rw[hn]at L2
 simp only[iR]at L2
 rw[Nc]at L2
 simp only[kP]at L2
 obtain⟨-,ix,ho⟩:=R.bg id b hn
 have o8:w.cell? ⟨b,8,none⟩=some (.int .i64 (V.om b).aK):=ho.cell 8
 have v1:w.cell? ⟨bv,1,none⟩=some (.map (some bo)):=R.dA.cell 1
 have lv:=R.dA.lt
 have lo:=ho.lt
 have lb:=(R.aW i hi).aB.lt
 have e0:((V.om b).aK == 0)=false:=by simp[h0]
 have hinj:qf ((V.B i).n t) ((V.B i).h t):=((R.aW i hi).side t t2).inj
 have hnew:∀x,x<2->∀l,l<((V.B i).leave V.om t k).n x->((V.B i).leave V.om t k).h x l≠b:=by
  intro x hx l hl
  by_cases e:x=t
  ·subst e
   obtain⟨k',_,e',hne⟩:=nG (om:=V.om) hinj hk l hl
   rw[e',<-hkb];exact hne
  ·simp only[Bk.leave,ah _ _ e]at hl ⊢
   rw[<-hkb]
   have hd:=(R.aW i hi).uF
   have:(x=0/\t=1)\/(x=1/\t=0):=by omega
   rcases this with⟨rfl,rfl⟩|⟨rfl,rfl⟩
   ·exact hd l k hl hk
   ·exact fun e=>hd k l hk hl e.symm
 have hmu:mu b s ⟨(V.B i).leave V.om t k,aN V.om b (dP (V.om b) af aI),V.lg.dE b (V.om b)⟩<=251:=by
  unfold mu
  simp only[Bk.leave]
  rw[ah _ _ (by omega)]
  split <;> omega
 have qH:∀y,y<2->∀g,gG ((V.B i).sl y)=some g->g<w.heap.size:=fun y hy g hg=>((R.aW i hi).side y hy).lt hg
 have aaR:=ai qH
 have YB:Hid (∀W kR rZ,w.heap.size<=W.heap.size->gI W bv bk w.heap.size false (V.lm.ac.map Prod.snd) (V.lg.dE b (V.om b)).nt V.lm.tb kR rZ->Mk W (V.bk i) ((V.B i).leave V.om t k) (aN V.om b (dP (V.om b) af aI)) (fun x=>∃id,V.aU id=some x)->bu W bv bm bo (V.lg.dE b (V.om b)) kR->Calls Tryz.prog 70 #[.pointer (some ⟨bv,0,none⟩),.pointer (some ⟨V.bk i,0,none⟩),.pointer (some ⟨b,0,none⟩)] W fun e w'=>∃v,e=.returned v/\U5 bv bm bo i b s t k V kR af aI bk w.heap.size W v w'):=by
  intro W kR rZ hW hC m hl
  refine O8 bv (V.bk i) b s t bm bo ⟨(V.B i).leave V.om t k,aN V.om b (dP (V.om b) af aI),V.lg.dE b (V.om b)⟩ kR _ W bk w.heap.size _ _ rZ hC hW (fun l hl=>by simp only[Bk.leave]at hl ⊢;rw[ah _ _ (by omega)]at hl ⊢;exact hbk s hs l hl) (by rw[<-hkb];exact hbk t t2 k hk) qH hl m hs ht ⟨id,hn⟩ iv (fun x hx l hl=>hnew x hx l hl) (by simp only[Bk.leave,aj];omega) 999999999 (by omega) ?_ ?_ ?_ ?_ ?_
  ·simp only[Lg.dE,Lg.begun,Lg.aV]at hmu ⊢;omega
  ·simp only[Lg.dE,Lg.begun,Lg.aV]at hmu ⊢;omega
  ·show 0<V.lg.na+1;omega
  ·show V.lg.na+1<=3000000;omega
  ·simp only[Lg.dE,Lg.begun,Lg.aV,List.nil_append,List.length_cons,List.length_nil]at hmu ⊢;omega
 have HW:Hid (wa=w.alloc (.cells #[.int .i64 0,.int .i64 0,.int .i64 0,.int .i64 0,.int .i64 0] 87)):=Nc
 have zy:=qw ⟨#[114,101,112,108,97,99,101]⟩ (Dq id af aI) 3 wa (hT.aH ka) (by decide) (by decide) (by omega) (fun i hi=>by
  match i,hi with
  | 0,_=>exact bounds_i64 hid
  | 1,_=>exact nD (by simp[fH]at hp;show -1000000<=af/\af<=1000000;omega)
  | 2,_=>exact nD (by simp[fH]at hq;show -1000000<=aI/\aI<=1000000;omega))
 generalize gY (Dq id af aI) ⟨#[114,101,112,108,97,99,101]⟩ 3=ln at zy
 have mg:=ai (ng bv bm bo V.lg V.lm ln wa (R.aH ka).aO hna zy.1.1 zy.1.2)
 have U9:=ai zy.2
 have hsz:wa.heap.size=w.heap.size+1:=by rw[Nc];simp
 have IM:Hid (∀i,i<3->(wa.alloc (.cells #[.int .i64 id,.int .i64 af,.int .i64 aI] 3)).cell? ⟨w.heap.size+1,i,none⟩=some (.int .i64 (Dq id af aI i))):=by
  intro i hi
  rw[<-hsz]
  match i,hi with
  | 0,_=>exact (az.new wa _ _).cell 0
  | 1,_=>exact (az.new wa _ _).cell 1
  | 2,_=>exact (az.new wa _ _).cell 2
 clear zy hsz
 have HR:=ai R
 have HKB:=ai hkb
 have hkp:((af == (V.om b).af) && decide (aI<=(V.om b).aK))=false:=by
  cases h1:(af == (V.om b).af)
  ·rfl
  ·have:af=(V.om b).af:=by simpa using h1
   have:¬aI<=(V.om b).aK:=fun h=>hnk ⟨this,h⟩
   simp[this]
 have HKP:=ai hkp
 have HN:=ai hn
 have OJ:=ai dM
 have YN:=ai hside
 clear R hn ho h0 dM qH hkb hside hnk iv hnew hinj hkp Nc hmu
 go_enter Tryz.func38,Tryz.ntmps38
 go_wp2_with (first|(go_at_call 68;refine (bZ _ _).mono ?_;rintro e w' ⟨rfl,rfl⟩)|fail)
 rw[<-ae HW]
 refine (ae U9 _ ((au.refl aP wa).alloc _) _ _ (ae IM)).mono ?_
 rintro e wl ⟨rfl,kl⟩
 have Fb:=ai kl
 clear kl
 go_wp2_with fail
 refine (ae mg _ (ae Fb)).mono ?_
 rintro e wb ⟨rfl,kT,hLb,qO,kb,htb,-,hac⟩
 clear U9 Fb IM
 clear L2 o8 v1
 have Rb:=((ae HR).aH ka).jH hLb kb
 have hnb:({ V with lg:=V.lg.begun,lm:=kT }:aQ).aU id=some b:=ae HN
 obtain⟨-,ixb,hob⟩:=Rb.bg id b hnb
 have o8:wb.cell? ⟨b,8,none⟩=some (.int .i64 (V.om b).aK):=az.cell hob 8
 have o5:wb.cell? ⟨b,5,none⟩=some (.int .i64 (V.om b).af):=az.cell hob 5
 have o2:wb.cell? ⟨b,2,none⟩=some (.string (V.B i).sym):=by rw[<-ae OJ];exact az.cell hob 2
 have v0:wb.cell? ⟨bv,0,none⟩=some (.map (some bm)):=Rb.dA.cell 0
 have L1:∀q,(Instr.lookup 94 (.map (some bm)) (.string (V.B i).sym) false).run Tryz.prog (wb.drewN q)=.ok (.pointer (some ⟨V.bk i,0,none⟩)) (wb.drewN q):=fun q=>Rb.JM hi hlen q
 have Ac:∀x,w.heap.size<=x->¬(x=bv\/V.lm.F x):=by
  rintro x hx (e|e)
  ·omega
  ·have:=(ae HR).aO.aO.lt e;omega
 have hrb:=kb.aB hra (Ac _ (Nat.le_refl _))
 have wZ:∀x,kT.F x->V.lm.F x\/w.heap.size<=x:=fun x h=>(qO x h).imp_right (fun h=>Nat.le_trans ka.size h)
 have Jw:au (fun x=>x=bv\/V.lm.F x) w wb:=ka.bI.trans kb
 have V4:=ai (fun q=>pF (V.bk i) (V.B i) V.om (fun x=>∃id,V.aU id=some x) t k (wb.drewN q) ((Rb.aH ((au.refl aP wb).drewN q)).qQ hi) t2 hk (by rw[ae HKB];exact ae YN))
 rw[ae HKB]at V4
 have HAm:=ai (fun (W:World) (m:Mk W (V.bk i) ((V.B i).leave V.om t k) V.om (fun x=>∃id,V.aU id=some x))=>Fp (V.bk i) b ((V.B i).leave V.om t k) V.om _ af aI W m ⟨id,ae HN⟩)
 have qF:Hid (∀q w2 w3 sH cp2 nC cp3,Mk w2 (V.bk i) ((V.B i).leave V.om t k) V.om (fun x=>∃id,V.aU id=some x)->au (fun x=>x=V.bk i\/dC (V.B i) t x) (wb.drewN q) w2->Mk w3 (V.bk i) ((V.B i).leave V.om t k) (aN V.om b (dP (V.om b) af aI)) (fun x=>∃id,V.aU id=some x)->au (fun x=>x=b) w2 w3->iZ w2 (V.bk i) b (wb.drewN q).heap.size sH cp2->jr w3 b (V.om b) w2.heap.size nC cp3 ->
  Calls Tryz.prog 53 #[.pointer (some ⟨bv,0,none⟩),.slice (some ⟨w3.heap.size,0,none⟩) 2 2] (w3.alloc (.cells #[.func sH #[] cp2,.func nC #[] cp3] 1)) fun e w'=>e=.returned (.tuple #[]) /\
   Mk w' (V.bk i) ((V.B i).leave V.om t k) (aN V.om b (dP (V.om b) af aI)) (fun x=>∃id,V.aU id=some x)/\∃kR,bu w' bv bm bo (V.lg.dE b (V.om b)) kR/\(∀x,kR.F x->V.lm.F x\/w.heap.size<=x)/\au (fun x=>x=bv\/V.lm.F x\/x=V.bk i\/x=b\/dC (V.B i) t x) w w'/\az w' w.heap.size kP 87/\∃rZ,gI w' bv bk w.heap.size false (V.lm.ac.map Prod.snd) (V.lg.dE b (V.om b)).nt V.lm.tb kR rZ):=by
  intro q w2 w3 sH cp2 nC cp3 m2 k2 m3 k3 f2 f3
  have h2:=(hLb.aH ((au.refl aP wb).drewN q)).jg k2 (fun x h=>((Rb.aH ((au.refl aP wb).drewN q)).qQ hi).fZ (by
   rcases h with h|h
   ·exact .inl h
   ·exact .inr (.inr ⟨t,t2,h⟩)))
  have h3:=h2.jg k3 (fun x h=>by subst h;exact m2.fZ (.inr (.inl ⟨id,ae HN⟩)))
  have hr2:=k2.aB (hrb.drewN q) (by
   rintro (h|h)
   ·omega
   ·have:=((ae HR).qQ hi).Dn t2 h;omega)
  have hr3:=k3.aB hr2 (fun h=>by omega)
  have hd:au aP wb (wb.drewN q):=(au.refl aP wb).drewN q
  have mb:=(Rb.aH hd).qQ hi
  have cb:gI wb bv bk w.heap.size false (V.lm.ac.map Prod.snd) V.lg.begun.nt V.lm.tb kT []:=gI.begun htb hac
  have o2:l9 (wb.drewN q) w.heap.size false (fun x=>x=V.bk i\/dC (V.B i) t x):=rH mb t2 (ae aaR t t2)
  have o3:l9 w2 w.heap.size false (fun x=>x=b):=jl m2 ⟨id,ae HN⟩
  have c3:=((cb.aH hd).aC k2 o2).aC k3 o3
  have szb:=Jw.size
  have i2:bJ w2 bv bk w.heap.size (.left b) (.func sH #[] cp2):=⟨_,_,rfl,by
   show iZ w2 (bk b) b _ sH cp2
   have e:bk b=V.bk i:=by rw[<-ae HKB];exact hbk t t2 k hk
   rw[e]
   exact f2.mono (by have:=hd.size;omega)⟩
  have Z7:=i2.aC (q:=false) (fun h=>by cases h) k3 o3
  have i3:bJ w3 bv bk w.heap.size (.fA b (V.om b)) (.func nC #[] cp3):=⟨_,_,rfl,f3.mono (by have:=hd.size;have:=k2.size;omega)⟩
  refine (uN bv bm bo _ kT (.left b) (.fA b (V.om b)) sH nC cp2 cp3 w3 bk w.heap.size false _ _ _ h3 c3 (fun h=>by cases h) (fun h=>by cases h) Z7 i3 (by show 0<V.lg.na+1;omega) (by show V.lg.na+1<=3000000;omega) (by show 0+2<1000000000;omega)).mono ?_
  rintro e w' ⟨rfl,bH,a1,a2,a3',-,a5⟩
  have a3:au (fun x=>kT.F x) w3 w':=a3'.mono (fun b h=>.inr (.inr (.inr h)))
  have Gi:au (fun x=>x=bv\/V.lm.F x\/x=V.bk i\/x=b\/dC (V.B i) t x) w w3:=((Jw.mono (fun x h=>h.imp_right .inl)).drewN q).trans ((k2.mono (fun x h=>by rcases h with h|h;exact .inr (.inr (.inl h));exact .inr (.inr (.inr (.inr h))))).trans (k3.mono (fun x h=>.inr (.inr (.inr (.inl h))))))
  refine⟨rfl,m3.jc h3 (a3.mono (fun _ h=>.inr h)),bH,a1,fun x hx=>?_,Gi.from (a3.mono (fun x h=>(wZ x h).imp_left (fun h=>.inr (.inl h)))),a3.aB hr3 (h3.aO.ne hr3 (by decide) (by decide) (by decide)),_,a5⟩
  rcases a2 x hx with h|h
  ·exact wZ x h
  ·exact .inr (Nat.le_trans Gi.size h)
 clear hob hnb Rb hLb qO kb htb hac mg OJ YN Ac hrb wZ Jw ka hra HW
 have e1:(af == (V.om b).af)=false\/((af == (V.om b).af)=true/\decide (aI<=(V.om b).aK)=false):=by
  have:=ae HKP
  cases h1:(af == (V.om b).af)
  ·exact .inl rfl
  ·rw[h1]at this;exact .inr ⟨rfl,by simpa using this⟩
 rcases e1 with e1|⟨e1,e2⟩
 all_goals
  go_wp2
  go_quiet (fail)
  go_wp2_with fail
  refine (ae V4 _).mono ?_
  rintro e w2 ⟨sH,cp2,rfl,f2,m2,k2⟩
  go_wp2_with fail
  refine (ae HAm w2 m2).mono ?_
  rintro e w3 ⟨nC,cp3,rfl,f3,m3,k3⟩
  go_wp2_with fail
  refine (ae qF _ w2 w3 sH cp2 nC cp3 m2 k2 m3 k3 f2 f3).mono ?_
  rintro e w4 ⟨rfl,m4,kR,hl4,hf4,Jv,hr4,cl4,Zf⟩
  have HC4:=ai (ae YB w4 kR cl4 Jv.size Zf m4 hl4)
  have Yd:=ai m4
  have HL4:=ai hl4
  have HR4:=ai hr4
  clear m2 k2 m3 k3 m4 hl4 hr4 Zf f2 f3
  go_wp2_with fail
  refine (ae HC4).mono ?_
  rintro e w5 ⟨v,rfl,Xj⟩
  obtain⟨f,r,c,a,n,hrep⟩:=G7 ((⟨(V.B i).leave V.om t k,aN V.om b (dP (V.om b) af aI),V.lg.dE b (V.om b)⟩:MS).om b) (aF b (mF b s ⟨(V.B i).leave V.om t k,aN V.om b (dP (V.om b) af aI),V.lg.dE b (V.om b)⟩) b) (MS.tr ⟨(V.B i).leave V.om t k,aN V.om b (dP (V.om b) af aI),V.lg.dE b (V.om b)⟩) (mF b s ⟨(V.B i).leave V.om t k,aN V.om b (dP (V.om b) af aI),V.lg.dE b (V.om b)⟩).tr
  have hv5:v=.agg #[.int .i64 f,.int .i64 r,.int .i64 c,.int .i64 a,.int .i64 n]:=by rw[Xj.1];exact hrep
  have BP:az w5 w.heap.size kP 87:=by
   obtain⟨_,g,cap',bH,_,_,_,k5,_⟩:=Xj
   refine k5.aB (ae HR4) ?_
   have hbt:=ae HR4
   rintro (h|h|h|h|h|h)
   ·omega
   ·exact (ae HL4).aO.ne hbt (by decide) (by decide) (by decide) (by decide) (by decide) h
   ·omega
   ·omega
   ·rcases h with h|⟨l,hl,h⟩
    ·exact ((ae Yd).aW.side s hs).ne hbt (by decide) h
    ·exact az.ne hbt (((ae Yd).aW.side s hs).bg hl) (by decide) h
   ·rcases h with h|⟨l,hl,h⟩
    ·exact ((ae Yd).aW.side t t2).ne hbt (by decide) h
    ·exact az.ne hbt (((ae Yd).aW.side t t2).bg hl) (by decide) h
  have HP:=ai Xj
  clear Xj hrep
  rw[hv5]at HP
  rw[hv5]
  have r0:w5.cell? ⟨w.heap.size,0,none⟩=some (.int .i64 0):=BP.cell 0
  have r1:w5.cell? ⟨w.heap.size,1,none⟩=some (.int .i64 0):=BP.cell 1
  have r2:w5.cell? ⟨w.heap.size,2,none⟩=some (.int .i64 0):=BP.cell 2
  have r3:w5.cell? ⟨w.heap.size,3,none⟩=some (.int .i64 0):=BP.cell 3
  have r4:w5.cell? ⟨w.heap.size,4,none⟩=some (.int .i64 0):=BP.cell 4
  have q0:=BP.frozen 0
  have q1:=BP.frozen 1
  have q2:=BP.frozen 2
  have q3:=BP.frozen 3
  have q4:=BP.frozen 4
  clear hv5
  go_wp2
  refine bodyPost_ret (Ls _ w.heap.size _ f r c a n 0 rfl rfl ?_) rfl ⟨_,w4,kR,rfl,Jv,hf4,w5,ae HP,BP,?_⟩
  ·exact ((((BP.set 0 _).set 1 _).set 2 _).set 3 _).set 4 _
  ·exact (((((au.refl (fun x=>x=w.heap.size) w5).setCell (p:=⟨w.heap.size,0,none⟩) (.inl rfl) _).setCell (p:=⟨w.heap.size,1,none⟩) (.inl rfl) _).setCell (p:=⟨w.heap.size,2,none⟩) (.inl rfl) _).setCell (p:=⟨w.heap.size,3,none⟩) (.inl rfl) _).setCell (p:=⟨w.heap.size,4,none⟩) (.inl rfl) _
def OB(bv bm bo i s t:Nat)(V:aQ)(o:iL)(bk:Nat->Nat)(w:World)(v:Value)(w':World):Prop :=
 ∃b g cap' bH,w.heap.size<=b/\v=.tuple #[jE (aJ o) ((V.enter i b s t g cap' o bH).om b) V.tr (V.enter i b s t g cap' o bH).tr,.int .i64 0]/\dN w' bv bm bo (V.enter i b s t g cap' o bH) /\
  au (dI bv bm bo V) w w'/\(∀x,dI bv bm bo (V.enter i b s t g cap' o bH) x->dI bv bm bo V x\/w.heap.size<=x)/\(gG ((V.B i).sl t)=some g\/w.heap.size<=g) /\
  ∃ext cl,gI w' bv bk w.heap.size false (V.lm.ac.map Prod.snd) (V.enter i b s t g cap' o bH).lg.nt (V.lm.tb++ext) bH cl/\(dm ((mF b s ⟨V.B i,aN V.om b (aJ o),V.lg.aX o.id⟩).om b)=true->∀c∈cl,∀x,wI c x->x≠g)
theorem TG(bv bm bo i s t:Nat)(V:aQ)(o:iL)(w:World)(bk:Nat->Nat)(hbk:∀y,y<2->∀l,l<(V.B i).n y->bk ((V.B i).h y l)=V.bk i)(abd:∀x,w.heap.size<=x->bk x=V.bk i)(R:dN w bv bm bo V)(hT:oC w)(hi:i<V.nb)(dM:(V.B i).sym=o.sym)(hlen1:o.sym.size<=100)(Y6:gW o.aA)(Y5:gW o.kind)(Y7:gW o.af)
 (h1:fH o.id=true) (h2:V.aU o.id=none) (h6:fH o.aI=true) (h8:V.no<200) (hrf:∀W,dN W bv bm bo V->Calls Tryz.prog 111 #[.pointer (some ⟨bv,0,none⟩),o.val] W fun e w'=>e=.returned (.int .i64 0)/\au aP W w')
 (hs:s<2) (ht:t=1-s) (hside:o.side=(t:Int)) (hinv:∀k,k<(V.B i).n s->(V.om ((V.B i).h s k)).side=(s:Int)/\0<(V.om ((V.B i).h s k)).aK/\(V.om ((V.B i).h s k)).aK<=1000000000000000) (hcnt:(V.B i).n t<=V.no) (hcs:(V.B i).n s<=V.no) (hl1:V.lg.tp.length+300<1000000000) (hl2:V.lg.tr.length+300<1000000000) (hna:V.lg.ud+V.lg.na<3000000) :
 Calls Tryz.prog 64 #[.pointer (some ⟨bv,0,none⟩),o.val] w fun e w'=>∃v,e=.returned v/\OB bv bm bo i s t V o bk w v w':=by
 have hwf:(Lit.int .i64 o.id).wf=true:=by
  simp[fH]at h1
  exact WalkArith.wf_i64 (by omega)
 have KR:1<=o.aI/\o.aI<=1000000:=by simpa [fH] using h6
 have hlen:o.sym.size<=maxLen:=by unfold maxLen;omega
 have bId:gW o.id:=nD (by simp[fH]at h1;omega)
 have bSd:gW o.side:=nD (by rw[hside];omega)
 have bQt:gW o.aI:=nD (by omega)
 have Ye:=ai (FU o.id o.aA o.sym o.side o.kind o.af o.aI hlen1 bId Y6 bSd Y5 Y7 bQt)
 have HLE:=ai (fun W h=>JH o.id o.aA o.sym o.side o.kind o.af o.aI W h hlen1 bId Y6 bSd Y5 Y7 bQt)
 clear bId Y6 bSd Y5 Y7 bQt hlen1
 generalize uG o.id o.aA o.sym o.side o.kind o.af o.aI=ln at Ye HLE
 obtain⟨w1,hw1⟩:∃w1,w1=((w.alloc (.cells #[.pointer (some ⟨bv,0,none⟩)] 35)).alloc (.cells (BH o) 52)).alloc (.cells kP 87):=⟨_,rfl⟩
 have k1:au aP w w1:=by rw[hw1];exact (((au.refl aP w).alloc _).alloc _).alloc _
 have Zv:az w1 w.heap.size #[.pointer (some ⟨bv,0,none⟩)] 35:=by rw[hw1];exact ((az.new w _ _).alloc _).alloc _
 have hx1:az w1 (w.heap.size+1) (BH o) 52:=by rw[hw1];exact (az.xy w _ _ _).alloc _
 have hr1:az w1 (w.heap.size+2) kP 87:=by rw[hw1];exact az.QC w _ _ _ _
 have R1:=R.aH k1
 have ZR:=hrf w1 R1
 obtain⟨fB,mB,oK,sF⟩:=R.ik
 have hlb:fB (sl o.sym)=some (V.bk i):=by rw[<-dM];exact oK i hi
 have hlk:∀w2,au aP w w2->∀q,(Instr.lookup 94 (.map (some bm)) (.string o.sym) false).run Tryz.prog (w2.drewN q)=.ok (.pointer (some ⟨V.bk i,0,none⟩)) (w2.drewN q):=fun w2 k2 q=>by
  rw[(mB.aC (k2.drewN q) (fun x=>x)).look yw Tryz.underlying94 (oW _) (WideMaps.keyOf_string_mk Tryz.underlying9 hlen)]
  show _=Result.ok (iR (some (V.bk i))) _
  rw[<-hlb];rfl
 have hsl:az w1 (V.bk i) (V.B i).cells 158:=(R1.aW i hi).aB
 have HW1:=ai hw1
 have HX:=ai ZR
 have HL:=ai hlk
 have hfree:=ai h2
 clear hw1 ZR hlk h1 h2 h6 hrf
 have HR:=ai R
 have HSY:=ai dM
 have HSD:=ai hside
 have HT:=ai ht
 clear R R1 mB oK sF hlb dM hside ht
 simp only[iL.val]
 go_enter Tryz.func64,Tryz.ntmps64
 have YU:Hid (w1=((w.alloc (.cells #[.pointer (some ⟨bv,0,none⟩)] 35)).alloc (.cells #[.int .i64 o.id,.int .i64 o.aA,.string o.sym,.int .i64 o.side,.int .i64 o.kind,.int .i64 o.af,.int .i64 o.aI] 52)).alloc (.cells #[.int .i64 0,.int .i64 0,.int .i64 0,.int .i64 0,.int .i64 0] 87)):=HW1
 have ls2:w.heap.size<w.heap.size+1+1:=by omega
 go_wp2_with fail
 rw[<-ae YU]
 refine (ae HX).mono ?_
 rintro e w2 ⟨rfl,k2⟩
 have XG:=k1.trans k2
 have hbx2:=k2.aB Zv (fun x=>x)
 have hx2:=k2.aB hx1 (fun x=>x)
 have hr2:=k2.aB hr1 (fun x=>x)
 have R2:=(ae HR).aH XG
 have L1:=ae HL w2 XG
 have v0:w2.cell? ⟨bv,0,none⟩=some (.map (some bm)):=R2.dA.cell 0
 have xb:w2.cell? ⟨w.heap.size,0,none⟩=some (.pointer (some ⟨bv,0,none⟩)):=hbx2.cell 0
 have x2:w2.cell? ⟨w.heap.size+1,2,none⟩=some (.string o.sym):=hx2.cell 2
 have x0:w2.cell? ⟨w.heap.size+1,0,none⟩=some (.int .i64 o.id):=hx2.cell 0
 have x1:w2.cell? ⟨w.heap.size+1,1,none⟩=some (.int .i64 o.aA):=hx2.cell 1
 have x3:w2.cell? ⟨w.heap.size+1,3,none⟩=some (.int .i64 o.side):=hx2.cell 3
 have x4:w2.cell? ⟨w.heap.size+1,4,none⟩=some (.int .i64 o.kind):=hx2.cell 4
 have x5:w2.cell? ⟨w.heap.size+1,5,none⟩=some (.int .i64 o.af):=hx2.cell 5
 have x6:w2.cell? ⟨w.heap.size+1,6,none⟩=some (.int .i64 o.aI):=hx2.cell 6
 have f2:=hx2.frozen 2
 have y0:w2.cell? ⟨V.bk i,0,none⟩=some (.string o.sym):=((R2.aW i hi).aB.cell 0).trans (by rw[<-ae HSY];rfl)
 clear k1 k2 hx1 hr1 Zv HW1 YU HX HL hsl ls2
 go_wp2
 go_quiet (fail)
 obtain⟨w3,hw3⟩:∃w3,w3=(w2.drewN nq).setCell ⟨w.heap.size+1,2,none⟩ (.string o.sym):=⟨_,rfl⟩
 have k3:au (fun x=>x=w.heap.size+1) w2 w3:=by rw[hw3];exact ((au.refl (fun x=>x=w.heap.size+1) w2).drewN _).setCell (p:=⟨w.heap.size+1,2,none⟩) (.inl rfl) _
 have hx3:az w3 (w.heap.size+1) (BH o) 52:=by rw[hw3];exact (hx2.drewN _).set 2 _
 have HW3:=ai hw3
 clear hw3
 go_wp2_with fail
 rw[<-ae HW3]
 refine (Es o w3).mono ?_
 rintro e w4 ⟨b,rfl,hb,PW,k4⟩
 clear x0 x1 x2 x3 x4 x5 x6 xb f2 y0 v0 L1
 have VG:au aP w w4:=(XG.from (k3.mono (fun x h=>.inr (by omega)))).trans k4
 have Xb:=k4.aB (k3.aB hbx2 (fun h=>by omega)) (fun x=>x)
 have hx4:=k4.aB hx3 (fun x=>x)
 have hr4:=k4.aB (k3.aB hr2 (fun h=>by omega)) (fun x=>x)
 have R4:=(ae HR).aH VG
 have hb0:w.heap.size<=b:=by have:=XG.size;have:=k3.size;omega
 have mg:=ai (ng bv bm bo V.lg V.lm ln w4 R4.aO hna (ae Ye).1 (ae Ye).2)
 have HLn:=ai (ae HLE w4 (hT.aH VG))
 have xb4:w4.cell? ⟨w.heap.size,0,none⟩=some (.pointer (some ⟨bv,0,none⟩)):=Xb.cell 0
 have y0:w4.cell? ⟨w.heap.size+1,0,none⟩=some (.int .i64 o.id):=hx4.cell 0
 have y1:w4.cell? ⟨w.heap.size+1,1,none⟩=some (.int .i64 o.aA):=hx4.cell 1
 have y2:w4.cell? ⟨w.heap.size+1,2,none⟩=some (.string o.sym):=hx4.cell 2
 have y3:w4.cell? ⟨w.heap.size+1,3,none⟩=some (.int .i64 o.side):=hx4.cell 3
 have y4:w4.cell? ⟨w.heap.size+1,4,none⟩=some (.int .i64 o.kind):=hx4.cell 4
 have y5:w4.cell? ⟨w.heap.size+1,5,none⟩=some (.int .i64 o.af):=hx4.cell 5
 have y6:w4.cell? ⟨w.heap.size+1,6,none⟩=some (.int .i64 o.aI):=hx4.cell 6
 have Ac:∀x,w.heap.size<=x->¬(x=bv\/V.lm.F x):=by
  rintro x hx (e|e)
  ·have:=(ae HR).dA.lt;omega
  ·have:=(ae HR).aO.aO.lt e;omega
 have pY:=ai Ac
 clear Ac hbx2 hx2 hr2 hx3 k3 k4 HW3 HLE
 go_wp2
 go_region_held3 (fun w'=>w'.cell? ⟨w.heap.size,0,none⟩=some (.pointer (some ⟨bv,0,none⟩))/\w'.cell? ⟨w.heap.size+1,0,none⟩=some (.int .i64 o.id)/\w'.cell? ⟨w.heap.size+1,1,none⟩=some (.int .i64 o.aA)/\w'.cell? ⟨w.heap.size+1,2,none⟩=some (.string o.sym)/\w'.cell? ⟨w.heap.size+1,3,none⟩=some (.int .i64 o.side)/\w'.cell? ⟨w.heap.size+1,4,none⟩=some (.int .i64 o.kind)/\w'.cell? ⟨w.heap.size+1,5,none⟩=some (.int .i64 o.af)/\w'.cell? ⟨w.heap.size+1,6,none⟩=some (.int .i64 o.aI)) (go_keep)
  (first
    | (go_at_call 113;refine (ae HLn _ ?cc).mono ?_;(case cc=>repeat (first|exact au.refl _ _|refine au.drew ?_));rintro e wl ⟨rfl,hk⟩;have z0:=hk.cell (p:=⟨w.heap.size,0,none⟩) xb4 (fun x=>x);have z1:=hk.cell (p:=⟨w.heap.size+1,0,none⟩) y0 (fun x=>x);have z2:=hk.cell (p:=⟨w.heap.size+1,1,none⟩) y1 (fun x=>x);have z3:=hk.cell (p:=⟨w.heap.size+1,2,none⟩) y2 (fun x=>x);have z4:=hk.cell (p:=⟨w.heap.size+1,3,none⟩) y3 (fun x=>x);have z5:=hk.cell (p:=⟨w.heap.size+1,4,none⟩) y4 (fun x=>x);have z6:=hk.cell (p:=⟨w.heap.size+1,5,none⟩) y5 (fun x=>x);have z7:=hk.cell (p:=⟨w.heap.size+1,6,none⟩) y6 (fun x=>x);have Fb:=ai hk;clear hk)
    | (go_at_call 51;refine (ae mg _ ?cc).mono ?_;(case cc=>repeat (first|exact ae Fb|refine au.drew ?_));rintro e wb ⟨rfl,kT,hLb,qO,kb,htb,-,hac⟩;have Vg:=ai htb;have U6:=ai hac;clear htb hac;have z0:=kb.cell (p:=⟨w.heap.size,0,none⟩) xb4 (ae pY _ (Nat.le_refl _));have z1:=kb.cell (p:=⟨w.heap.size+1,0,none⟩) y0 (ae pY _ (Nat.le_succ _));have z2:=kb.cell (p:=⟨w.heap.size+1,1,none⟩) y1 (ae pY _ (Nat.le_succ _));have z3:=kb.cell (p:=⟨w.heap.size+1,2,none⟩) y2 (ae pY _ (Nat.le_succ _));have z4:=kb.cell (p:=⟨w.heap.size+1,3,none⟩) y3 (ae pY _ (Nat.le_succ _));have z5:=kb.cell (p:=⟨w.heap.size+1,4,none⟩) y4 (ae pY _ (Nat.le_succ _));have z6:=kb.cell (p:=⟨w.heap.size+1,5,none⟩) y5 (ae pY _ (Nat.le_succ _));have z7:=kb.cell (p:=⟨w.heap.size+1,6,none⟩) y6 (ae pY _ (Nat.le_succ _));have IP:=ai hLb;have Fa:=ai qO;have DD:=ai kb;clear hLb qO kb))
 rename_i PK
 clear PK z0 z1 z2 z3 z4 z5 z6 z7 y0 y1 y2 y3 y4 y5 y6 HLn Fb
 have hLb:=ae IP
 have qO:=ae Fa
 have kb:=ae DD
 clear IP Fa DD
 clear xb4
 have Rb:=R4.jH hLb kb
 have TQ:=kb.aB Xb (ae pY _ (Nat.le_refl _))
 have hxb:=kb.aB hx4 (ae pY _ (by omega))
 have hrb:=kb.aB hr4 (ae pY _ (by omega))
 have hob:df wb b (aJ o) 0:=kb.aB PW (ae pY _ hb0)
 have Jw:au (fun x=>x=bv\/V.lm.F x) w wb:=VG.bI.trans kb
 obtain⟨fO,Yl,fOb⟩:=Rb.fD
 simp only at Yl fOb
 obtain⟨wm,hU,mOm,km⟩:=(Yl.aC ((au.refl aP wb).drew) (fun x=>x)).put (x:=b) yu Tryz.underlying95 (by unfold maxLen;omega) (keyOf_int_mk Tryz.underlying3 hwf) trivial (by rw[fOb];exact ae hfree)
 have v1:wb.cell? ⟨bv,1,none⟩=some (.map (some bo)):=Rb.dA.cell 1
 have xb5:wb.cell? ⟨w.heap.size,0,none⟩=some (.pointer (some ⟨bv,0,none⟩)):=TQ.cell 0
 have x0:wb.cell? ⟨w.heap.size+1,0,none⟩=some (.int .i64 o.id):=hxb.cell 0
 have HMm:=ai mOm
 have LU:=ai kb
 have LQ:=ai VG
 have HR4:=ai R4
 clear mOm kb VG R4 Xb hx4 hr4 PW mg
 go_wp2
 go_region
 clear hU v1 x0 xb5
 have Zb:∀{b':Nat} {c:Array Value} {t':TypeId},az wb b' c t'->az wm b' c t':=fun h=>km.aB h.drew (Ne.symm (Yl.ne h))
 have hvm:bu wm bv bm bo V.lg.begun kT:=(hLb.aH (au.refl aP wb).drew).aC km (Ne.symm (Yl.ne hLb.dA)) (fun y hy e=>by
  obtain⟨c,t',hc,_⟩:=hLb.aO.fZ hy
  exact Yl.ne hc e.symm)
 have Xc:=Zb TQ
 have xbm:wm.cell? ⟨w.heap.size,0,none⟩=some (.pointer (some ⟨bv,0,none⟩)):=Xc.cell 0
 have hxm:=Zb hxb
 have cm:gI wm bv bk w.heap.size false (V.lm.ac.map Prod.snd) V.lg.begun.nt V.lm.tb kT []:=gI.begun (ae Vg) (ae U6)
 have im:bJ wm bv bk w.heap.size (.entered o.id) (.func (.func 114) #[] #[.pointer (some ⟨w.heap.size,0,none⟩),.pointer (some ⟨w.heap.size+1,0,none⟩)]):=⟨_,_,rfl,rfl,w.heap.size,_,Nat.le_refl _,rfl,Xc,hxm,rfl⟩
 have qF:=ai (lV bv bm bo V.lg.begun kT (.entered o.id) (.func 114) #[.pointer (some ⟨w.heap.size,0,none⟩),.pointer (some ⟨w.heap.size+1,0,none⟩)] wm bk w.heap.size false _ _ _ hvm cm (fun h=>by cases h) im (by show 0<V.lg.na+1;omega) (by show V.lg.na+1<=3000000;omega) (by show 0+1<1000000000;omega))
 go_wp2_with fail
 refine (ae qF).mono ?_
 rintro e w5 ⟨rfl,tJ,hv5,hFn,kn',-,c5⟩
 have kn:au (fun x=>kT.F x) wm w5:=kn'.mono (fun b h=>.inr (.inr (.inr h)))
 clear xbm kn' cm im hxm
 change gI w5 bv bk w.heap.size false (V.lm.ac.map Prod.snd) (V.lg.aX o.id).nt V.lm.tb tJ _ at c5
 change bu w5 bv bm bo (V.lg.aX o.id) tJ at hv5
 have bne:∀{b':Nat} {c:Array Value} {t':TypeId},az wb b' c t'->t'≠103->t'≠62->t'≠105->t'≠109->t'≠1/\t'≠5->az w5 b' c t':=fun h h1 h2 h3 h4 h5=>kn.aB (Zb h) (hvm.aO.ne (Zb h) h1 h2 h3 h4 h5)
 have VC:df w5 b (aJ o) 0:=bne hob (by decide) (by decide) (by decide) (by decide) (by decide)
 have BP:=bne hrb (by decide) (by decide) (by decide) (by decide) (by decide)
 have Zw:=bne TQ (by decide) (by decide) (by decide) (by decide) (by decide)
 have hFm:∀x,kT.F x->V.lm.F x\/w.heap.size<=x:=fun x hx=>(qO x hx).imp_right (fun h=>Nat.le_trans (ae LQ).size h)
 have kkm:au (fun x=>x=bo\/x=bv\/V.lm.F x) w wm:=(Jw.mono (fun x h=>.inr h)).drew.trans (km.mono (fun x h=>.inl h))
 have MP:∀x,tJ.F x->V.lm.F x\/w.heap.size<=x:=fun x hx=>by
  rcases hFn x hx with h|h
  ·exact hFm x h
  ·exact .inr (Nat.le_trans kkm.size h)
 have SC:au (fun x=>x=bo\/x=bv\/V.lm.F x) w w5:=kkm.from (kn.mono (fun x h=>(hFm x h).imp_left (fun h=>.inr (.inr h))))
 have D9:∀x,x<2->∀y,dC (V.B i) x y->y<w.heap.size:=fun x hx y h=>by
  rcases h with h|⟨l,hl,rfl⟩
  ·exact (((ae HR).aW i hi).side x hx).lt h
  ·exact ((((ae HR).aW i hi).side x hx).bg hl).lt
 have kb5:au (fun x=>x=bo\/kT.F x) wb w5:=((au.refl (fun x=>x=bo\/kT.F x) wb).drew.trans (km.mono (fun x h=>.inl h))).trans (kn.mono (fun x h=>.inr h))
 have Xi:∀x c t,az wb x c t->(t=158\/t=114\/t=116)->¬(x=bo\/kT.F x):=by
  rintro x c t' hx ht' (e|e)
  ·exact Yl.ne hx e.symm
  ·exact hLb.aO.ne hx (by rcases ht' with rfl|rfl|rfl <;> decide) (by rcases ht' with rfl|rfl|rfl <;> decide) (by rcases ht' with rfl|rfl|rfl <;> decide) (by rcases ht' with rfl|rfl|rfl <;> decide) (by rcases ht' with rfl|rfl|rfl <;> decide) e
 have zB:bU w5 (V.bk i) (V.B i) V.om:=(Rb.aW i hi).jg kb5 Xi
 have Jq:bU w5 (V.bk i) (V.B i) (aN V.om b (aJ o)):=by
  refine⟨zB.aB,fun x hx=>(zB.side x hx).om (fun l hl=>ah _ _ (fun e=>?_)),zB.apart,zB.uF⟩
  have:=D9 x hx _ (.inr ⟨l,hl,rfl⟩)
  omega
 have hmk5:Mk w5 (V.bk i) (V.B i) (aN V.om b (aJ o)) (fun x=>x=b\/∃id,V.aU id=some x):=by
  refine⟨Jq,fun x hx=>?_,fun x hx l hl=>.inr ((ae HR).mem i hi x hx l hl)⟩
  rcases hx with rfl|⟨id,hx⟩
  ·rw[aj];exact⟨0,VC⟩
  ·obtain⟨_,ix,h⟩:=(ae HR).bg id x hx
   have:=h.lt
   obtain⟨_,ix4,h4⟩:=Rb.bg id x hx
   rw[ah _ _ (by omega)]
   exact⟨ix4,kb5.aB h4 (Xi _ _ _ h4 (.inr (.inr rfl)))⟩
 have mO5:jF w5 3 bo (BR fO (.int .i64 o.id) b) (V.no+1):=(ae HMm).aC kn (fun e=>by
  obtain⟨c,t',hc,_⟩:=hvm.aO.fZ e
  exact (ae HMm).ne hc rfl)
 have HM5:=ai mO5
 have xb6:w5.cell? ⟨w.heap.size,0,none⟩=some (.pointer (some ⟨bv,0,none⟩)):=Zw.cell 0
 clear mO5 qF HMm LU LQ HR4 kb5 Xi zB Zb TQ hxb hrb hob Xc hvm kkm Jw kn km Rb hLb qO hFn
 have hT:=ae HT
 have iv5:qN b s ⟨V.B i,aN V.om b (aJ o),V.lg.aX o.id⟩:=by
  refine⟨fun l hl=>?_,(Jq.side s hs).inj,?_,?_,?_⟩
  ·have hlt:=D9 s hs _ (.inr ⟨l,hl,rfl⟩)
   simp only
   rw[ah _ _ (by omega)]
   exact⟨(hinv l hl).1,(hinv l hl).2.1,(hinv l hl).2.2,by omega⟩
  ·simp only[aj,aJ];omega
  ·simp only[aj,aJ];omega
  ·simp only[aj,aJ];rw[ae HSD];omega
 have Vy:=O8 bv (V.bk i) b s t bm bo ⟨V.B i,aN V.om b (aJ o),V.lg.aX o.id⟩ tJ (fun x=>x=b\/∃id,V.aU id=some x) w5 bk w.heap.size _ _ _ c5 SC.size (fun l hl=>hbk s hs l hl) (abd b hb0) (fun y hy g hg=>D9 y hy g (.inl hg)) hv5 hmk5 hs hT (.inl rfl) iv5 (fun x hx l hl=>by
  have:=D9 x hx _ (.inr ⟨l,hl,rfl⟩)
  simp only
  omega) (by simp only;omega) 999999999 (by omega) (by unfold mu;simp only[Lg.aX,Lg.begun,Lg.aV];split <;> omega) (by unfold mu;simp only[Lg.aX,Lg.begun,Lg.aV];split <;> omega) (by simp only[Lg.aX,Lg.begun,Lg.aV];omega) (by simp only[Lg.aX,Lg.begun,Lg.aV];omega) (by unfold mu;simp only[Lg.aX,Lg.begun,Lg.aV,List.length_append,List.length_cons,List.length_nil];split <;> omega)
 have fin:∀v6 w6 w7,az w6 (w.heap.size+2) kP 87->yQ bv (V.bk i) b s t bm bo ⟨V.B i,aN V.om b (aJ o),V.lg.aX o.id⟩ tJ (fun x=>x=b\/∃id,V.aU id=some x) w5 bk w.heap.size (V.lm.ac.map Prod.snd) V.lm.tb v6 w6->au (fun x=>x=w.heap.size+2) w6 w7->OB bv bm bo i s t V o bk w (.tuple #[v6,.int .i64 0]) w7:=by
  rintro v6 w6 w7 hz6 ⟨hv6,g,cap',bH,hm6,hb6,ZB,k6,Oo,ext,cl6,cu6,abf⟩ k7
  have hR:dN w6 bv bm bo (V.enter i b s t g cap' o bH):=by
   refine (ae HR).enter hi hs hT h8 (ae hfree) hb0 VC hv5 MP SC ⟨_,ae HM5,fun id=>?_⟩ iv5 rfl hm6 hb6 k6 Oo
   by_cases e:id=o.id
   ·rw[if_pos e,e,Df (kl:=.int .i64 o.id) trivial]
   ·rw[if_neg e,Af (kl:=.int .i64 o.id) (k:=.int .i64 id) trivial (fun h=>e (by simpa using h)),fOb]
  have sdF:∀x,x<2->∀y,dC (V.B i) x y->dI bv bm bo V y:=fun x hx y h=>.inr (.inr (.inr (.inl ⟨i,hi,.inr ⟨x,hx,h⟩⟩)))
  have kF:au (dI bv bm bo V) w w6:=by
   refine (SC.mono (S':=dI bv bm bo V) (fun x h=>by rcases h with h|h|h;exact .inr (.inr (.inl h));exact .inl h;exact .inr (.inr (.inr (.inr (.inr h)))))).from (k6.mono (fun x h=>?_))
   rcases h with h|h|h|h|h|h
   ·exact .inl (.inl h)
   ·exact (MP x h).imp_left (fun h=>.inr (.inr (.inr (.inr (.inr h)))))
   ·exact .inl (.inr (.inr (.inr (.inl ⟨i,hi,.inl h⟩))))
   ·right;omega
   ·exact .inl (sdF s hs x h)
   ·exact .inl (sdF t (by omega) x h)
  have ZK:¬dI bv bm bo (V.enter i b s t g cap' o bH) (w.heap.size+2):=hR.mD (c:=kP) (t:=87) (k6.aB BP (by
   rintro (h|h|h|h|h|h)
   ·have:=(ae HR).dA.lt;omega
   ·exact hv5.aO.ne BP (by decide) (by decide) (by decide) (by decide) (by decide) h
   ·have:=((ae HR).aW i hi).aB.lt;omega
   ·exact az.ne VC BP (by decide) h.symm
   ·have:=D9 s hs _ h;omega
   ·have:=D9 t (by omega) _ h;omega)) (by decide) (by decide) (by decide) (by decide) (by decide) (by decide) (by decide)
  have hR7:dN w7 bv bm bo (V.enter i b s t g cap' o bH):=by
   obtain⟨gB,nB,g1,g2⟩:=hR.ik
   obtain⟨gO,nO,g3⟩:=hR.fD
   have nf:∀x,dI bv bm bo (V.enter i b s t g cap' o bH) x->¬x=w.heap.size+2:=fun x h e=>ZK (e▸h)
   exact⟨hR.aO.aC k7 (nf _ (.inl rfl)) (fun y hy=>nf y (.inr (.inr (.inr (.inr (.inr hy)))))),⟨gB,nB.aC k7 (nf _ (.inr (.inl rfl))),g1,g2⟩,⟨gO,nO.aC k7 (nf _ (.inr (.inr (.inl rfl)))),g3⟩,hR.E5,fun j hj=>(hR.aW j hj).aC k7 (fun x hx=>nf x (by
    rcases hx with h|⟨y,hy,h⟩
    ·exact .inr (.inr (.inr (.inl ⟨j,hj,.inl h⟩)))
    ·exact .inr (.inr (.inr (.inl ⟨j,hj,.inr ⟨y,hy,h⟩⟩))))),fun id x h=>⟨(hR.bg id x h).1,(hR.bg id x h).2.elim fun ix ho=>⟨ix,k7.aB ho (nf x (.inr (.inr (.inr (.inr (.inl ⟨id,h⟩))))))⟩⟩,hR.mem,hR.qL,hR.lZ,hR.gp⟩
  refine⟨b,g,cap',bH,hb0,by rw[hv6];simp only[aj];rfl,hR7,kF.from (k7.mono (fun x h=>.inr (by omega))),fun x hx=>?_,?_,ext,cl6,cu6.aC k7 (l9.fZ (fun x hx=>by subst hx;exact⟨_,87,hz6,by unfold nK;decide⟩)),abf⟩
  ·rcases hx with h|h|h|⟨j,hj,h⟩|⟨id,h⟩|h
   ·exact .inl (.inl h)
   ·exact .inl (.inr (.inl h))
   ·exact .inl (.inr (.inr (.inl h)))
   ·rcases h with h|⟨y,hy,h⟩
    ·exact .inl (.inr (.inr (.inr (.inl ⟨j,hj,.inl h⟩))))
    ·by_cases e:j=i
     ·subst e
      simp only[aQ.enter,aj]at h
      rcases zo h with h|h|h
      ·left
       refine .inr (.inr (.inr (.inl ⟨j,hi,.inr ⟨y,hy,?_⟩⟩)))
       obtain⟨f1,f2,_⟩:=jd b s (mu b s ⟨V.B j,aN V.om b (aJ o),V.lg.aX o.id⟩) ⟨V.B j,aN V.om b (aJ o),V.lg.aX o.id⟩
       by_cases es:y=s
       ·subst es
        exact (xw _ _ iv5).2.2.1 x h
       ·change dC (mF b s ⟨V.B j,aN V.om b (aJ o),V.lg.aX o.id⟩).B y x at h
        unfold dC mF at h
        rw[f2,(f1 y es).1,(f1 y es).2]at h
        exact h
      ·right;omega
      ·rcases Oo with h'|h'
       ·exact .inl (sdF t (by omega) x (.inl (by rw[h];exact h')))
       ·right
        have:=SC.size
        omega
     ·simp only[aQ.enter,ah _ _ e]at h
      exact .inl (.inr (.inr (.inr (.inl ⟨j,hj,.inr ⟨y,hy,h⟩⟩))))
   ·simp only[aQ.enter]at h
    split at h
    ·simp at h;right;omega
    ·exact .inl (.inr (.inr (.inr (.inr (.inl ⟨id,h⟩)))))
   ·rcases ZB x h with h|h
    ·exact (MP x h).imp_left (fun h=>.inr (.inr (.inr (.inr (.inr h)))))
    ·right
     have:=SC.size
     omega
  ·rcases Oo with h'|h'
   ·exact .inl h'
   ·right
    have:=SC.size
    omega
 have aar:∀v6 w6,yQ bv (V.bk i) b s t bm bo ⟨V.B i,aN V.om b (aJ o),V.lg.aX o.id⟩ tJ (fun x=>x=b\/∃id,V.aU id=some x) w5 bk w.heap.size (V.lm.ac.map Prod.snd) V.lm.tb v6 w6->az w6 (w.heap.size+2) kP 87:=by
  rintro v6 w6 ⟨_,g,cap',bH,_,_,_,k6,_,_⟩
  refine k6.aB BP ?_
  rintro (h|h|h|h|h|h)
  ·have:=(ae HR).dA.lt;omega
  ·exact hv5.aO.ne BP (by decide) (by decide) (by decide) (by decide) (by decide) h
  ·have:=((ae HR).aW i hi).aB.lt;omega
  ·exact az.ne VC BP (by decide) h.symm
  ·have:=D9 s hs _ h;omega
  ·have:=D9 t (by omega) _ h;omega
 have HQ6:=ai aar
 clear aar
 have HC:=ai Vy
 have HF:=ai fin
 have qG:=ai BP
 clear fin Vy c5 iv5 hmk5 Jq D9 SC BP hv5 VC bne HM5 hT MP hFm Zw
 go_wp2_with fail
 refine (ae HC).mono ?_
 rintro e w6 ⟨v6,rfl,hp6⟩
 obtain⟨f,r,c,a,n,hrep⟩:=G7 ((⟨V.B i,aN V.om b (aJ o),V.lg.aX o.id⟩:MS).om b) (aF b (mF b s ⟨V.B i,aN V.om b (aJ o),V.lg.aX o.id⟩) b) V.tr (mF b s ⟨V.B i,aN V.om b (aJ o),V.lg.aX o.id⟩).tr
 have hv6:v6=.agg #[.int .i64 f,.int .i64 r,.int .i64 c,.int .i64 a,.int .i64 n]:=by rw[hp6.1];exact hrep
 have Ot:az w6 (w.heap.size+2) kP 87:=ae HQ6 _ _ hp6
 have HP:=ai hp6
 clear hp6 hrep
 rw[hv6]at HP
 rw[hv6]
 have r0:w6.cell? ⟨w.heap.size+2,0,none⟩=some (.int .i64 0):=Ot.cell 0
 have r1:w6.cell? ⟨w.heap.size+2,1,none⟩=some (.int .i64 0):=Ot.cell 1
 have r2:w6.cell? ⟨w.heap.size+2,2,none⟩=some (.int .i64 0):=Ot.cell 2
 have r3:w6.cell? ⟨w.heap.size+2,3,none⟩=some (.int .i64 0):=Ot.cell 3
 have r4:w6.cell? ⟨w.heap.size+2,4,none⟩=some (.int .i64 0):=Ot.cell 4
 have q0:=Ot.frozen 0
 have q1:=Ot.frozen 1
 have q2:=Ot.frozen 2
 have q3:=Ot.frozen 3
 have q4:=Ot.frozen 4
 clear hv6
 go_wp2
 refine bodyPost_ret (abL _ (w.heap.size+2) _ f r c a n rfl rfl ?_) rfl ⟨_,rfl,ae HF _ _ _ Ot (ae HP) ?_⟩
 ·exact ((((Ot.set 0 _).set 1 _).set 2 _).set 3 _).set 4 _
 ·exact (((((au.refl (fun x=>x=w.heap.size+2) w6).setCell (p:=⟨w.heap.size+2,0,none⟩) (.inl rfl) _).setCell (p:=⟨w.heap.size+2,1,none⟩) (.inl rfl) _).setCell (p:=⟨w.heap.size+2,2,none⟩) (.inl rfl) _).setCell (p:=⟨w.heap.size+2,3,none⟩) (.inl rfl) _).setCell (p:=⟨w.heap.size+2,4,none⟩) (.inl rfl) _
def OL(w:World)(cl cl':List Value):Prop:=∃news,cl'=cl++news/\∀c∈news,∀x,wI c x->w.heap.size<=x
def IV(w:World)(cl:List Value)(g:Nat)(cl':List Value):Prop:=∃news,cl'=cl++news/\∀c∈news,∀x,wI c x->w.heap.size<=x/\x≠g
def uz(bv bm bo:Nat)(G:Lg)(lm:Lm)(bk:Nat->Nat)(lw:Nat)(tq:Bool)(old:List (List Value))(dQ:List Nat)(P:List Value->Prop)(ds:List dS)(w w':World):Prop :=
 ∃bH cl',bu w' bv bm bo (G.aV ds) bH/\(∀x,bH.F x->lm.F x\/w.heap.size<=x)/\gI w' bv bk lw tq old (G.aV ds).nt dQ bH cl'/\P cl'
theorem wC(bv bm bo i b s:Nat)(V:aQ)(id q:Int)(again:Bool)(w:World)(bk:Nat->Nat)(lw:Nat)(tq:Bool)(old:List (List Value))(dQ:List Nat)(cl:List Value)(hC:gI w bv bk lw tq old V.lg.nt dQ V.lm cl)(Sz:lw<=w.heap.size)(hbk:bk b=V.bk i)(R:dN w bv bm bo V)(hi:i<V.nb)(hid:V.aU id=some b)(dM:(V.om b).sym=(V.B i).sym)(hlen:(V.B i).sym.size<=maxLen)(hs:s<2)(hside:(V.om b).side=1-(s:Int))
 (hcond:again=false\/eU (V.om b).kind=false\/(dF (V.B i) V.om (cZ (V.om b)) s).isSome=true) (hna:0<V.lg.na) (gZ:V.lg.na<=3000000) (hnt:V.lg.nt.length+3<1000000000) :
 Calls Tryz.prog 75 #[.pointer (some ⟨bv,0,none⟩),.pointer (some ⟨b,0,none⟩),.int .i64 q,.bool again] w fun e w'=>e=.returned (.tuple #[]) /\
  Mk w' (V.bk i) (V.B i) (aN V.om b (eY (V.om b) q)) (fun x=>∃id,V.aU id=some x)/\uz bv bm bo V.lg V.lm bk lw tq old dQ (OL w cl) [.fA b (V.om b)] w w'/\au (fun x=>x=b\/gy V.lm.av V.lm.ac x) w w':=by
 obtain⟨-,ix,ho⟩:=R.bg id b hid
 have L1:∀n,(Instr.lookup 94 (.map (some bm)) (.string (V.B i).sym) false).run Tryz.prog (w.drewN n)=.ok (.pointer (some ⟨V.bk i,0,none⟩)) (w.drewN n):=fun n=>(R.aH ((au.refl aP w).drewN n)).zM hi hlen
 have WA:(Instr.lookup 94 (.map (some bm)) (.string (V.B i).sym) false).run Tryz.prog w.drew=.ok (.pointer (some ⟨V.bk i,0,none⟩)) w.drew:=L1 1
 have v0:w.cell? ⟨bv,0,none⟩=some (.map (some bm)):=R.dA.cell 0
 have o2:w.cell? ⟨b,2,none⟩=some (.string (V.B i).sym):=by rw[<-dM];exact ho.cell 2
 have HC:=ai (fun (W:World) (k:au aP w W)=>yl (V.bk i) b (V.B i) V.om (fun x=>∃id,V.aU id=some x) q W ((R.aH k).qQ hi) ⟨id,hid⟩)
 have HF:=ai (fun (W:World) (k:au aP w W)=>jP (V.bk i) (V.B i) V.om (cZ (V.om b)) s W ((R.aH k).aW i hi) hs hside)
 have HO:Hid (∀W,au aP w W->df W b (V.om b) ix):=fun W k=>k.aB ho (fun x=>x)
 have HN:Hid (∀W wq fn cp,au aP w W->au (fun x=>x=b) W wq->Mk wq (V.bk i) (V.B i) (aN V.om b (eY (V.om b) q)) (fun x=>∃id,V.aU id=some x)->jr wq b (V.om b) W.heap.size fn cp ->
  Calls Tryz.prog 53 #[.pointer (some ⟨bv,0,none⟩),.slice (some ⟨wq.heap.size,0,none⟩) 1 1] (wq.alloc (.cells #[.func fn #[] cp] 1)) fun e w'=>e=.returned (.tuple #[])/\Mk w' (V.bk i) (V.B i) (aN V.om b (eY (V.om b) q)) (fun x=>∃id,V.aU id=some x)/\uz bv bm bo V.lg V.lm bk lw tq old dQ (OL w cl) [.fA b (V.om b)] w w'/\au (fun x=>x=b\/gy V.lm.av V.lm.ac x) w w'):=by
  intro W wq fn cp kW kq m fq
  have h1:=(R.aO.aH kW).jg kq (fun x h=>by subst h;exact⟨_,116,kW.aB ho (fun x=>x),.inr (.inl rfl)⟩)
  have cq:=(hC.aH kW).aC kq (jl ((R.aH kW).qQ hi) ⟨id,hid⟩)
  have iq:bJ wq bv bk lw (.fA b (V.om b)) (.func fn #[] cp):=⟨_,_,rfl,fq.mono (by have:=kW.size;omega)⟩
  refine (lV bv bm bo V.lg V.lm (.fA b (V.om b)) fn cp wq bk lw tq old dQ cl h1 cq (fun h=>by cases h) iq hna gZ (by omega)).mono ?_
  rintro e w' ⟨rfl,bH,a1,a2,a3,-,a5⟩
  have kk:=kW.bI.trans kq
  exact⟨rfl,m.jc h1 (a3.mono (fun _ h=>.inr (.inr (.inr (.inr h))))),⟨bH,_,a1,fun x hx=>(a2 x hx).imp_right (fun h=>Nat.le_trans kk.size h),a5,[.func fn #[] cp],rfl,fun c hc x hx=>by
   rw[List.mem_singleton]at hc
   subst hc
   exact (show bJ wq bv bk w.heap.size (.fA b (V.om b)) (.func fn #[] cp) from ⟨_,_,rfl,fq.mono kW.size⟩).cap hx |>.1⟩,(kk.mono (fun _ h=>.inl h)).trans (a3.mono (fun _ h=>.inr h))⟩
 have HCo:=ai hcond
 clear hC R hid dM hside hcond ho hs
 go_enter Tryz.func75,Tryz.ntmps75
 go_wp2
 go_quiet (fail)
 have hq:au aP w (w.drewN nq):=(au.refl aP w).drewN _
 obtain⟨w1,hw1⟩:∃w1,w1=w.drewN nq:=⟨_,rfl⟩
 rw[<-hw1]at hq ⊢
 clear hw1 L1 WA v0 o2
 cases again with
 | false =>
   go_wp2_with fail
   refine (ae HC w1 hq).mono ?_
   rintro e w2 ⟨IJ,II,rfl,f2,m2,k2⟩
   go_wp2_with fail
   refine (ae HN _ w2 IJ II hq k2 m2 f2).mono ?_
   rintro e wz ⟨rfl,rz⟩
   go_wp2
   try simp only[Exit.inBlock,Exit.then]
   refine bodyPost_ret (results_none rfl _ _ _) rfl ?_
   exact⟨rfl,rz⟩
 | true =>
   go_wp2_with fail
   refine (pR b _ ix w1 (ae HO w1 hq)).mono ?_
   rintro e w1' ⟨rfl,VF⟩
   rw[VF]
   clear VF w1'
   cases hr:eU (V.om b).kind with
   | false =>
     clear hr
     go_wp2_with fail
     refine (ae HC _ hq).mono ?_
     rintro e w2 ⟨IJ,II,rfl,f2,m2,k2⟩
     go_wp2_with fail
     refine (ae HN _ w2 IJ II hq k2 m2 f2).mono ?_
     rintro e wz ⟨rfl,rz⟩
     go_wp2
     try simp only[Exit.inBlock,Exit.then]
     refine bodyPost_ret (results_none rfl _ _ _) rfl ?_
     exact⟨rfl,rz⟩
   | true =>
     have hf:(dF (V.B i) V.om (cZ (V.om b)) s).isSome=true:=by
      rcases ae HCo with h|h|h
      ·simp at h
      ·rw[hr]at h;simp at h
      ·exact h
     obtain⟨f,hf'⟩:=Option.isSome_iff_exists.1 hf
     have SQ:=ai hf'
     clear hr hf hf'
     have hoc:=ae HO _ hq
     have WM:w1.cell? ⟨b,0,none⟩=some (.int .i64 (V.om b).id):=hoc.cell 0
     have Vp:w1.cell? ⟨b,1,none⟩=some (.int .i64 (V.om b).aA):=hoc.cell 1
     have WN:w1.cell? ⟨b,2,none⟩=some (.string (V.om b).sym):=hoc.cell 2
     have WO:w1.cell? ⟨b,3,none⟩=some (.int .i64 (V.om b).side):=hoc.cell 3
     have WQ:w1.cell? ⟨b,4,none⟩=some (.int .i64 (V.om b).kind):=hoc.cell 4
     have WR:w1.cell? ⟨b,5,none⟩=some (.int .i64 (V.om b).af):=hoc.cell 5
     have WS:w1.cell? ⟨b,6,none⟩=some (.int .i64 (V.om b).aI):=hoc.cell 6
     clear hoc
     go_wp2_with fail
     refine (ae HF _ hq).mono ?_
     rintro e w2 ⟨rfl,k2⟩
     rw[ae SQ]
     simp only[iR]
     clear WM Vp WN WO WQ WR WS
     go_wp2_with fail
     refine (ae HC _ (hq.trans k2)).mono ?_
     rintro e w3 ⟨IJ,II,rfl,f3,m3,k3⟩
     go_wp2_with fail
     refine (ae HN _ w3 IJ II (hq.trans k2) k3 m3 f3).mono ?_
     rintro e wz ⟨rfl,rz⟩
     go_wp2
     try simp only[Exit.inBlock,Exit.then]
     refine bodyPost_ret (results_none rfl _ _ _) rfl ?_
     exact⟨rfl,rz⟩
theorem Bh(bv bm bo i b s t:Nat)(V:aQ)(id q:Int)(w:World)(bk:Nat->Nat)(lw:Nat)(tq:Bool)(old:List (List Value))(dQ:List Nat)(cl:List Value)(hC:gI w bv bk lw tq old V.lg.nt dQ V.lm cl)(Sz:lw<=w.heap.size)(hbk:bk b=V.bk i)(qH:∀g,gG ((V.B i).sl t)=some g->g<lw)(R:dN w bv bm bo V)(hi:i<V.nb)(hid:V.aU id=some b)(dM:(V.om b).sym=(V.B i).sym)(hlen:(V.B i).sym.size<=maxLen)(hs:s<2)(ht:t=1-s)(hside:(V.om b).side=(t:Int))
 (hr:eU (V.om b).kind=true) (hf:dF (V.B i) V.om (cZ (V.om b)) s=none) (h0:¬0<(V.om b).aK) (hnew:∀x,x<2->∀k,k<(V.B i).n x->(V.B i).h x k≠b) (hn:(V.B i).n t<1000) (hna:0<V.lg.na) (gZ:V.lg.na<=3000000) (hnt:V.lg.nt.length+3<1000000000) :
 Calls Tryz.prog 75 #[.pointer (some ⟨bv,0,none⟩),.pointer (some ⟨b,0,none⟩),.int .i64 q,.bool true] w fun e w'=>e=.returned (.tuple #[]) /\
  ∃g cap',Mk w' (V.bk i) ((V.B i).rest (bY V i b q) t b g cap') (bY V i b q) (fun x=>∃id,V.aU id=some x)/\uz bv bm bo V.lg V.lm bk lw tq old dQ (IV w cl g) [.fA b (V.om b),.eQ b (V.om b).place] w w'/\au (fun x=>(x=V.bk i\/x=b\/dC (V.B i) t x)\/gy V.lm.av V.lm.ac x) w w'/\(gG ((V.B i).sl t)=some g\/w.heap.size<=g):=by
 obtain⟨-,ix,ho⟩:=R.bg id b hid
 have L1:∀n,(Instr.lookup 94 (.map (some bm)) (.string (V.B i).sym) false).run Tryz.prog (w.drewN n)=.ok (.pointer (some ⟨V.bk i,0,none⟩)) (w.drewN n):=fun n=>(R.aH ((au.refl aP w).drewN n)).zM hi hlen
 have WA:(Instr.lookup 94 (.map (some bm)) (.string (V.B i).sym) false).run Tryz.prog w.drew=.ok (.pointer (some ⟨V.bk i,0,none⟩)) w.drew:=L1 1
 have v0:w.cell? ⟨bv,0,none⟩=some (.map (some bm)):=R.dA.cell 0
 have o2:w.cell? ⟨b,2,none⟩=some (.string (V.B i).sym):=by rw[<-dM];exact ho.cell 2
 have HC:=ai (fun (W:World) (k:au aP w W)=>uq (V.bk i) b (V.B i) V.om (fun x=>∃id,V.aU id=some x) q W ((R.aH k).qQ hi) ⟨id,hid⟩)
 have HF:=ai (fun (W:World) (k:au aP w W)=>jP (V.bk i) (V.B i) V.om (cZ (V.om b)) s W ((R.aH k).aW i hi) hs (by rw[show (cZ (V.om b)).side=(V.om b).side from rfl,hside,ht];omega))
 have HO:Hid (∀W,au aP w W->df W b (V.om b) ix):=fun W k=>k.aB ho (fun x=>x)
 have OH:Hid (∀W,Mk W (V.bk i) (V.B i) (aN V.om b (fF (V.om b) q)) (fun x=>∃id,V.aU id=some x)->Calls Tryz.prog 122 #[.pointer (some ⟨V.bk i,0,none⟩),.pointer (some ⟨b,0,none⟩)] W fun e w'=>∃fn cp,e=.returned (.func fn #[] cp)/\jU w' (V.bk i) b (V.om b).place W.heap.size fn cp/\(∀x,wI (.func fn #[] cp) x->x<W.heap.size+3) /\
  ∃g cap',Mk w' (V.bk i) ((V.B i).rest (bY V i b q) t b g cap') (bY V i b q) (fun x=>∃id,V.aU id=some x)/\au (fun x=>x=V.bk i\/x=b\/dC (V.B i) t x) W w'/\(gG ((V.B i).sl t)=some g\/W.heap.size+3<=g)):=by
  intro W m
  obtain⟨ix',ho'⟩:=m.bg b ⟨id,hid⟩
  refine (EK (V.bk i) b t (V.B i) _ ix' W m.aW ho' (by omega) (by rw[aj];exact hside) hnew hn).mono ?_
  rintro e w' ⟨fn,cp,rfl,hcl,hcp,g,cap',hb,k,hg⟩
  rw[aj]at hb hcl
  exact⟨fn,cp,rfl,hcl,hcp,g,cap',m.rest (by omega) ⟨id,hid⟩ (fun x hx=>by unfold bY;rw[ah _ _ hx]) hb k,k,hg⟩
 have HN:Hid (∀W w3 w4 nC cp3 vC cp4 g cap',au aP w W->au (fun x=>x=b) W w3->Mk w3 (V.bk i) (V.B i) (aN V.om b (fF (V.om b) q)) (fun x=>∃id,V.aU id=some x)->Mk w4 (V.bk i) ((V.B i).rest (bY V i b q) t b g cap') (bY V i b q) (fun x=>∃id,V.aU id=some x)->au (fun x=>x=V.bk i\/x=b\/dC (V.B i) t x) w3 w4->(gG ((V.B i).sl t)=some g\/w3.heap.size+3<=g)->jr w3 b (V.om b) W.heap.size nC cp3->jU w4 (V.bk i) b (V.om b).place w3.heap.size vC cp4->(∀x,wI (.func vC #[] cp4) x->x<w3.heap.size+3) ->
  Calls Tryz.prog 53 #[.pointer (some ⟨bv,0,none⟩),.slice (some ⟨w4.heap.size,0,none⟩) 2 2] (w4.alloc (.cells #[.func nC #[] cp3,.func vC #[] cp4] 1)) fun e w'=>e=.returned (.tuple #[]) /\
   ∃g cap',Mk w' (V.bk i) ((V.B i).rest (bY V i b q) t b g cap') (bY V i b q) (fun x=>∃id,V.aU id=some x)/\uz bv bm bo V.lg V.lm bk lw tq old dQ (IV w cl g) [.fA b (V.om b),.eQ b (V.om b).place] w w'/\au (fun x=>(x=V.bk i\/x=b\/dC (V.B i) t x)\/gy V.lm.av V.lm.ac x) w w'/\(gG ((V.B i).sl t)=some g\/w.heap.size<=g)):=by
  intro W w3 w4 nC cp3 vC cp4 g cap' kW k3 m3 m4 k4 hg f3 f4 hcp
  have h3:=(R.aO.aH kW).jg k3 (fun x h=>by subst h;exact⟨_,116,kW.aB ho (fun x=>x),.inr (.inl rfl)⟩)
  have h4:=h3.jg k4 (fun x h=>m3.fZ (by
   rcases h with h|h|h
   ·exact .inl h
   ·exact .inr (.inl ⟨id,by rw[h];exact hid⟩)
   ·exact .inr (.inr ⟨t,by omega,h⟩)))
  have c3:=(hC.aH kW).aC k3 (jl ((R.aH kW).qQ hi) ⟨id,hid⟩)
  have o4:l9 w3 lw tq (fun x=>x=V.bk i\/x=b\/dC (V.B i) t x):=fun x h=>by
   rcases h with h|h|h
   ·exact Ez m3 x h
   ·exact jl m3 ⟨id,hid⟩ x h
   ·exact rH m3 (by omega) qH x (.inr h)
  have c4:=c3.aC k4 o4
  have i3:bJ w3 bv bk lw (.fA b (V.om b)) (.func nC #[] cp3):=⟨_,_,rfl,f3.mono (by have:=kW.size;omega)⟩
  have i3':=i3.aC (q:=tq) (fun h=>by cases h) k4 o4
  have i4:bJ w4 bv bk lw (.eQ b (V.om b).place) (.func vC #[] cp4):=⟨_,_,rfl,by
   show jU w4 (bk b) b _ lw vC cp4
   rw[hbk]
   exact f4.mono (by have:=kW.size;have:=k3.size;omega)⟩
  have hgn:IV w cl g (cl++[.func nC #[] cp3,.func vC #[] cp4]):=⟨_,rfl,fun c hc x hx=>by
   have hcb:w.heap.size<=x/\x<w3.heap.size+3:=by
    simp only[List.mem_cons,List.not_mem_nil,or_false]at hc
    rcases hc with h|h
    ·subst h;have:=(show bJ w3 bv bk w.heap.size (.fA b (V.om b)) (.func nC #[] cp3) from ⟨_,_,rfl,f3.mono kW.size⟩).cap hx;omega
    ·subst h;exact⟨((show bJ w4 bv (fun _=>V.bk i) w.heap.size (.eQ b (V.om b).place) (.func vC #[] cp4) from ⟨_,_,rfl,f4.mono (by have:=kW.size;have:=k3.size;omega)⟩).cap hx).1,hcp x hx⟩
   refine⟨hcb.1,?_⟩
   rcases hg with h|h
   ·have:=qH g h;omega
   ·omega⟩
  refine (uN bv bm bo V.lg V.lm (.fA b (V.om b)) (.eQ b (V.om b).place) nC vC cp3 cp4 w4 bk lw tq old dQ cl h4 c4 (fun h=>by cases h) (fun h=>by cases h) i3' i4 hna gZ (by omega)).mono ?_
  rintro e w' ⟨rfl,bH,a1,a2,a3,-,a5⟩
  have kk3:=kW.bI.trans k3
  have kk:au (fun x=>x=V.bk i\/x=b\/dC (V.B i) t x) w w4:=(kk3.mono (fun _ h=>.inr (.inl h))).trans k4
  exact⟨rfl,g,cap',m4.jc h4 (a3.mono (fun _ h=>.inr (.inr (.inr (.inr h))))),⟨bH,_,a1,fun x hx=>(a2 x hx).imp_right (fun h=>Nat.le_trans kk.size h),a5,hgn⟩,(kk.mono (fun _ h=>.inl h)).trans (a3.mono (fun _ h=>.inr h)),hg.imp_right (fun h=>by have:=kk3.size;omega)⟩
 have SQ:=ai hf
 have e0:decide (0<(V.om b).aK)=false:=by simp[h0]
 have HE0:=ai e0
 have HR:=ai hr
 clear hC qH R hid dM hside hf ho hs h0 e0 hr hnew hn
 go_enter Tryz.func75,Tryz.ntmps75
 go_wp2
 go_quiet (fail)
 have hq:au aP w (w.drewN nq):=(au.refl aP w).drewN _
 obtain⟨w1,hw1⟩:∃w1,w1=w.drewN nq:=⟨_,rfl⟩
 rw[<-hw1]at hq ⊢
 clear hw1 L1 WA v0 o2
 go_wp2_with fail
 refine (pR b _ ix w1 (ae HO w1 hq)).mono ?_
 rintro e w1' ⟨rfl,VF⟩
 rw[VF]
 clear VF w1'
 rw[ae HR]
 have hoc:=ae HO _ hq
 have WM:w1.cell? ⟨b,0,none⟩=some (.int .i64 (V.om b).id):=hoc.cell 0
 have Vp:w1.cell? ⟨b,1,none⟩=some (.int .i64 (V.om b).aA):=hoc.cell 1
 have WN:w1.cell? ⟨b,2,none⟩=some (.string (V.om b).sym):=hoc.cell 2
 have WO:w1.cell? ⟨b,3,none⟩=some (.int .i64 (V.om b).side):=hoc.cell 3
 have WQ:w1.cell? ⟨b,4,none⟩=some (.int .i64 (V.om b).kind):=hoc.cell 4
 have WR:w1.cell? ⟨b,5,none⟩=some (.int .i64 (V.om b).af):=hoc.cell 5
 have WS:w1.cell? ⟨b,6,none⟩=some (.int .i64 (V.om b).aI):=hoc.cell 6
 clear hoc
 go_wp2_with fail
 refine (ae HF _ hq).mono ?_
 rintro e w2 ⟨rfl,k2⟩
 rw[ae SQ]
 simp only[iR]
 have hq2:=hq.trans k2
 have o8:w2.cell? ⟨b,8,none⟩=some (.int .i64 (V.om b).aK):=(ae HO _ hq2).cell 8
 have e0:=ae HE0
 clear WM Vp WN WO WQ WR WS
 go_wp2_with fail
 refine (ae HC _ hq2).mono ?_
 rintro e w3 ⟨nC,cp3,rfl,f3,m3,k3⟩
 clear o8 e0
 go_wp2_with fail
 refine (ae OH w3 m3).mono ?_
 rintro e w4 ⟨vC,cp4,rfl,f4,hcp,g,cap',m4,k4,hg⟩
 go_wp2_with fail
 refine (ae HN _ w3 w4 nC cp3 vC cp4 g cap' hq2 k3 m3 m4 k4 hg f3 f4 hcp).mono ?_
 rintro e wz ⟨rfl,rz⟩
 go_wp2
 go_end0
 exact⟨rfl,rz⟩
theorem yD(bv bm bo i b s t k:Nat)(V:aQ)(id q:Int)(w:World)(bk:Nat->Nat)(lw:Nat)(tq:Bool)(old:List (List Value))(dQ:List Nat)(cl:List Value)(hC:gI w bv bk lw tq old V.lg.nt dQ V.lm cl)(Sz:lw<=w.heap.size)(hbk:bk b=V.bk i)(qH:∀g,gG ((V.B i).sl t)=some g->g<lw)(R:dN w bv bm bo V)(hi:i<V.nb)(hid:V.aU id=some b)(dM:(V.om b).sym=(V.B i).sym)(hlen:(V.B i).sym.size<=maxLen)(hs:s<2)(ht:t=1-s)(hside:(V.om b).side=(t:Int))
 (hr:eU (V.om b).kind=true) (hf:dF (V.B i) V.om (cZ (V.om b)) s=none) (h0:0<(V.om b).aK) (hk:k<(V.B i).n t) (hkb:(V.B i).h t k=b) (hn:(V.B i).n t<1000) (hna:0<V.lg.na) (gZ:V.lg.na<=3000000) (hnt:V.lg.nt.length+3<1000000000) :
 Calls Tryz.prog 75 #[.pointer (some ⟨bv,0,none⟩),.pointer (some ⟨b,0,none⟩),.int .i64 q,.bool true] w fun e w'=>e=.returned (.tuple #[]) /\
  ∃g cap',Mk w' (V.bk i) (((V.B i).leave V.om t k).rest (bY V i b q) t b g cap') (bY V i b q) (fun x=>∃id,V.aU id=some x)/\uz bv bm bo V.lg V.lm bk lw tq old dQ (IV w cl g) [.left b,.fA b (V.om b),.eQ b (V.om b).place] w w'/\au (fun x=>(x=V.bk i\/x=b\/dC (V.B i) t x)\/gy V.lm.av V.lm.ac x) w w'/\(gG ((V.B i).sl t)=some g\/w.heap.size<=g):=by
 obtain⟨-,ix,ho⟩:=R.bg id b hid
 have t2:t<2:=by omega
 have L1:∀n,(Instr.lookup 94 (.map (some bm)) (.string (V.B i).sym) false).run Tryz.prog (w.drewN n)=.ok (.pointer (some ⟨V.bk i,0,none⟩)) (w.drewN n):=fun n=>(R.aH ((au.refl aP w).drewN n)).zM hi hlen
 have WA:(Instr.lookup 94 (.map (some bm)) (.string (V.B i).sym) false).run Tryz.prog w.drew=.ok (.pointer (some ⟨V.bk i,0,none⟩)) w.drew:=L1 1
 have v0:w.cell? ⟨bv,0,none⟩=some (.map (some bm)):=R.dA.cell 0
 have o2:w.cell? ⟨b,2,none⟩=some (.string (V.B i).sym):=by rw[<-dM];exact ho.cell 2
 have hinj:qf ((V.B i).n t) ((V.B i).h t):=((R.aW i hi).side t t2).inj
 have sub:∀x,dC ((V.B i).leave V.om t k) t x->dC (V.B i) t x:=by
  rintro x (h|⟨l,hl,e⟩)
  ·exact .inl h
  ·obtain⟨k',hk',e',_⟩:=nG (om:=V.om) hinj hk l hl
   exact .inr ⟨k',hk',by rw[e,e']⟩
 have V4:=ai (fun (W:World) (kk:au aP w W)=>pF (V.bk i) (V.B i) V.om (fun x=>∃id,V.aU id=some x) t k W ((R.aH kk).qQ hi) t2 hk (by rw[hkb];exact hside))
 have HC:=ai (fun (W:World) (m:Mk W (V.bk i) ((V.B i).leave V.om t k) V.om (fun x=>∃id,V.aU id=some x))=>uq (V.bk i) b _ V.om _ q W m ⟨id,hid⟩)
 have HF:=ai (fun (W:World) (k:au aP w W)=>jP (V.bk i) (V.B i) V.om (cZ (V.om b)) s W ((R.aH k).aW i hi) hs (by rw[show (cZ (V.om b)).side=(V.om b).side from rfl,hside,ht];omega))
 have HO:Hid (∀W,au aP w W->df W b (V.om b) ix):=fun W k=>k.aB ho (fun x=>x)
 have hnew:∀x,x<2->∀l,l<((V.B i).leave V.om t k).n x->((V.B i).leave V.om t k).h x l≠b:=by
  intro x hx l hl
  by_cases e:x=t
  ·subst e
   obtain⟨k',_,e',hne⟩:=nG (om:=V.om) hinj hk l hl
   rw[e',<-hkb];exact hne
  ·simp only[Bk.leave,ah _ _ e]at hl ⊢
   rw[<-hkb]
   have hd:=(R.aW i hi).uF
   have:(x=0/\t=1)\/(x=1/\t=0):=by omega
   rcases this with⟨rfl,rfl⟩|⟨rfl,rfl⟩
   ·exact hd l k hl hk
   ·exact fun e=>hd k l hk hl e.symm
 have OH:Hid (∀W,Mk W (V.bk i) ((V.B i).leave V.om t k) (aN V.om b (fF (V.om b) q)) (fun x=>∃id,V.aU id=some x)->Calls Tryz.prog 122 #[.pointer (some ⟨V.bk i,0,none⟩),.pointer (some ⟨b,0,none⟩)] W fun e w'=>∃fn cp,e=.returned (.func fn #[] cp)/\jU w' (V.bk i) b (V.om b).place W.heap.size fn cp/\(∀x,wI (.func fn #[] cp) x->x<W.heap.size+3) /\
  ∃g cap',Mk w' (V.bk i) (((V.B i).leave V.om t k).rest (bY V i b q) t b g cap') (bY V i b q) (fun x=>∃id,V.aU id=some x)/\au (fun x=>x=V.bk i\/x=b\/dC ((V.B i).leave V.om t k) t x) W w'/\(gG ((V.B i).sl t)=some g\/W.heap.size+3<=g)):=by
  intro W m
  obtain⟨ix',ho'⟩:=m.bg b ⟨id,hid⟩
  refine (EK (V.bk i) b t ((V.B i).leave V.om t k) _ ix' W m.aW ho' t2 (by rw[aj];exact hside) hnew (by simp only[Bk.leave,aj];omega)).mono ?_
  rintro e w' ⟨fn,cp,rfl,hcl,hcp,g,cap',hb,kk,hg⟩
  rw[aj]at hb hcl
  refine⟨fn,cp,rfl,hcl,hcp,g,cap',m.rest (dG:=bY V i b q) t2 ⟨id,hid⟩ (fun x hx=>by unfold bY;rw[ah _ _ hx]) hb kk,kk,hg⟩
 have OG:Hid (∀W w3 fn cp,au aP w W->au (fun x=>x=V.bk i\/dC (V.B i) t x) W w3->Mk w3 (V.bk i) ((V.B i).leave V.om t k) V.om (fun x=>∃id,V.aU id=some x)->iZ w3 (V.bk i) b W.heap.size fn cp ->
  Calls Tryz.prog 53 #[.pointer (some ⟨bv,0,none⟩),.slice (some ⟨w3.heap.size,0,none⟩) 1 1] (w3.alloc (.cells #[.func fn #[] cp] 1)) fun e w'=>e=.returned (.tuple #[])/\Mk w' (V.bk i) ((V.B i).leave V.om t k) V.om (fun x=>∃id,V.aU id=some x) /\
   ∃kR,bu w' bv bm bo (V.lg.aV [.left b]) kR/\(∀x,kR.F x->V.lm.F x\/w.heap.size<=x)/\(∀x,gy kR.av kR.ac x->gy V.lm.av V.lm.ac x\/w.heap.size<=x)/\au (fun x=>(x=V.bk i\/x=b\/dC (V.B i) t x)\/gy V.lm.av V.lm.ac x) w w'/\∃rZ,gI w' bv bk lw tq old (V.lg.aV [.left b]).nt dQ kR rZ/\OL w cl rZ):=by
  intro W w3 fn cp kW k3 m3 f3
  have h3:=(R.aO.aH kW).jg k3 (fun x h=>((R.aH kW).qQ hi).fZ (by
   rcases h with h|h
   ·exact .inl h
   ·exact .inr (.inr ⟨t,t2,h⟩)))
  have c3:=(hC.aH kW).aC k3 (rH ((R.aH kW).qQ hi) t2 qH)
  have i3:bJ w3 bv bk lw (.left b) (.func fn #[] cp):=⟨_,_,rfl,by
   show iZ w3 (bk b) b lw fn cp
   rw[hbk]
   exact f3.mono (by have:=kW.size;omega)⟩
  refine (lV bv bm bo V.lg V.lm (.left b) fn cp w3 bk lw tq old dQ cl h3 c3 (fun h=>by cases h) i3 hna gZ (by omega)).mono ?_
  rintro e w' ⟨rfl,bH,a1,a2,a3,a4,a5⟩
  have kk:au (fun x=>(x=V.bk i\/x=b\/dC (V.B i) t x)\/gy V.lm.av V.lm.ac x) w w3:=kW.bI.trans (k3.mono (fun x h=>.inl (h.imp_right .inr)))
  exact⟨rfl,m3.jc h3 (a3.mono (fun _ h=>.inr (.inr (.inr (.inr h))))),bH,a1,fun x hx=>(a2 x hx).imp_right (fun h=>Nat.le_trans kk.size h),fun x hx=>(a4 x hx).imp_right (fun h=>Nat.le_trans kk.size h),kk.trans (a3.mono (fun _ h=>.inr h)),_,a5,[.func fn #[] cp],rfl,fun c hc x hx=>by
   rw[List.mem_singleton]at hc
   subst hc
   exact (show bJ w3 bv (fun _=>V.bk i) w.heap.size (.left b) (.func fn #[] cp) from ⟨_,_,rfl,f3.mono kW.size⟩).cap hx |>.1⟩
 have HN2:Hid (∀w3 kR rZ w4 w5 vC cp4 Ol cp5 g cap',gI w3 bv bk lw tq old (V.lg.aV [.left b]).nt dQ kR rZ->OL w cl rZ->Mk w3 (V.bk i) ((V.B i).leave V.om t k) V.om (fun x=>∃id,V.aU id=some x)->bu w3 bv bm bo (V.lg.aV [.left b]) kR->(∀x,kR.F x->V.lm.F x\/w.heap.size<=x)->(∀x,gy kR.av kR.ac x->gy V.lm.av V.lm.ac x\/w.heap.size<=x)->au (fun x=>(x=V.bk i\/x=b\/dC (V.B i) t x)\/gy V.lm.av V.lm.ac x) w w3 ->
  au (fun x=>x=b) w3 w4->Mk w4 (V.bk i) ((V.B i).leave V.om t k) (aN V.om b (fF (V.om b) q)) (fun x=>∃id,V.aU id=some x)->Mk w5 (V.bk i) (((V.B i).leave V.om t k).rest (bY V i b q) t b g cap') (bY V i b q) (fun x=>∃id,V.aU id=some x)->au (fun x=>x=V.bk i\/x=b\/dC ((V.B i).leave V.om t k) t x) w4 w5->(gG ((V.B i).sl t)=some g\/w4.heap.size+3<=g)->jr w4 b (V.om b) w3.heap.size vC cp4->jU w5 (V.bk i) b (V.om b).place w4.heap.size Ol cp5->(∀x,wI (.func Ol #[] cp5) x->x<w4.heap.size+3) ->
  Calls Tryz.prog 53 #[.pointer (some ⟨bv,0,none⟩),.slice (some ⟨w5.heap.size,0,none⟩) 2 2] (w5.alloc (.cells #[.func vC #[] cp4,.func Ol #[] cp5] 1)) fun e w'=>e=.returned (.tuple #[])/\∃g cap',Mk w' (V.bk i) (((V.B i).leave V.om t k).rest (bY V i b q) t b g cap') (bY V i b q) (fun x=>∃id,V.aU id=some x)/\uz bv bm bo V.lg V.lm bk lw tq old dQ (IV w cl g) [.left b,.fA b (V.om b),.eQ b (V.om b).place] w w'/\au (fun x=>(x=V.bk i\/x=b\/dC (V.B i) t x)\/gy V.lm.av V.lm.ac x) w w'/\(gG ((V.B i).sl t)=some g\/w.heap.size<=g)):=by
  intro w3 kR rZ w4 w5 vC cp4 Ol cp5 g cap' FP Xe m3 h3 f3 c3 Gi k4 m4 m5 k5 hg f4 f5 hcp
  have h4:=h3.jg k4 (fun x h=>by subst h;exact m3.fZ (.inr (.inl ⟨id,hid⟩)))
  have h5:=h4.jg k5 (fun x h=>m4.fZ (by
   rcases h with h|h|h
   ·exact .inl h
   ·exact .inr (.inl ⟨id,by rw[h];exact hid⟩)
   ·exact .inr (.inr ⟨t,t2,h⟩)))
  have sz3:=Gi.size
  have Zf:=FP.aC k4 (jl m3 ⟨id,hid⟩)
  have o5:l9 w4 lw tq (fun x=>x=V.bk i\/x=b\/dC ((V.B i).leave V.om t k) t x):=fun x h=>by
   rcases h with h|h|h
   ·exact Ez m4 x h
   ·exact jl m4 ⟨id,hid⟩ x h
   ·exact rH m4 t2 qH x (.inr h)
  have cu5:=Zf.aC k5 o5
  have i4:bJ w4 bv bk lw (.fA b (V.om b)) (.func vC #[] cp4):=⟨_,_,rfl,f4.mono (by omega)⟩
  have i4':=i4.aC (q:=tq) (fun h=>by cases h) k5 o5
  have i5:bJ w5 bv bk lw (.eQ b (V.om b).place) (.func Ol #[] cp5):=⟨_,_,rfl,by
   show jU w5 (bk b) b _ lw Ol cp5
   rw[hbk]
   exact f5.mono (by have:=k4.size;omega)⟩
  have hgn:IV w cl g (rZ++[.func vC #[] cp4,.func Ol #[] cp5]):=by
   obtain⟨nw,rfl,hnw⟩:=Xe
   refine⟨nw++[.func vC #[] cp4,.func Ol #[] cp5],by rw[List.append_assoc],fun c hc x hx=>?_⟩
   have hcb:w.heap.size<=x/\x<w4.heap.size+3:=by
    simp only[List.mem_append,List.mem_cons,List.not_mem_nil,or_false]at hc
    rcases hc with h|h|h
    ·exact⟨hnw c h x hx,by have:=Zf.cap (List.mem_append.2 (.inr h)) hx;omega⟩
    ·subst h;have:=(show bJ w4 bv bk w.heap.size (.fA b (V.om b)) (.func vC #[] cp4) from ⟨_,_,rfl,f4.mono sz3⟩).cap hx;omega
    ·subst h;exact⟨((show bJ w5 bv (fun _=>V.bk i) w.heap.size (.eQ b (V.om b).place) (.func Ol #[] cp5) from ⟨_,_,rfl,f5.mono (by have:=k4.size;omega)⟩).cap hx).1,hcp x hx⟩
   refine⟨hcb.1,?_⟩
   rcases hg with h|h
   ·have:=qH g h;omega
   ·omega
  refine (uN bv bm bo (V.lg.aV [.left b]) kR (.fA b (V.om b)) (.eQ b (V.om b).place) vC Ol cp4 cp5 w5 bk lw tq old dQ rZ h5 cu5 (fun h=>by cases h) (fun h=>by cases h) i4' i5 hna gZ (by simp only[Lg.aV,List.length_append,List.length_cons,List.length_nil];omega)).mono ?_
  rintro e w' ⟨rfl,bH,a1,a2,a3,-,a5⟩
  rw[Gy]at a1 a5
  have Jv:=Gi.trans (k4.mono (fun x h=>.inl (.inr (.inl h))))
  have Ov:=Jv.trans (k5.mono (fun x h=>by
   rcases h with h|h|h
   ·exact .inl (.inl h)
   ·exact .inl (.inr (.inl h))
   ·exact .inl (.inr (.inr (sub x h)))))
  refine⟨rfl,g,cap',m5.jc h5 (a3.mono (fun _ h=>.inr (.inr (.inr (.inr h))))),⟨bH,_,a1,fun x hx=>?_,a5,hgn⟩,Ov.from (a3.mono (fun x h=>(c3 x h).imp_left (fun h=>.inr h))),hg.imp_right (fun h=>by have:=Jv.size;omega)⟩
  rcases a2 x hx with h|h
  ·exact f3 x h
  ·exact .inr (Nat.le_trans Ov.size h)
 have SQ:=ai hf
 have e0:decide (0<(V.om b).aK)=true:=by simp[h0]
 have HE0:=ai e0
 have HR:=ai hr
 have HKB:=ai hkb
 rw[hkb]at V4
 clear hC qH R hid dM hside hf ho hs h0 e0 hr hnew hn hkb hinj sub
 go_enter Tryz.func75,Tryz.ntmps75
 go_wp2
 go_quiet (fail)
 have hq:au aP w (w.drewN nq):=(au.refl aP w).drewN _
 obtain⟨w1,hw1⟩:∃w1,w1=w.drewN nq:=⟨_,rfl⟩
 rw[<-hw1]at hq ⊢
 clear hw1 L1 WA v0 o2
 go_wp2_with fail
 refine (pR b _ ix w1 (ae HO w1 hq)).mono ?_
 rintro e w1' ⟨rfl,VF⟩
 rw[VF]
 clear VF w1'
 rw[ae HR]
 have hoc:=ae HO _ hq
 have WM:w1.cell? ⟨b,0,none⟩=some (.int .i64 (V.om b).id):=hoc.cell 0
 have Vp:w1.cell? ⟨b,1,none⟩=some (.int .i64 (V.om b).aA):=hoc.cell 1
 have WN:w1.cell? ⟨b,2,none⟩=some (.string (V.om b).sym):=hoc.cell 2
 have WO:w1.cell? ⟨b,3,none⟩=some (.int .i64 (V.om b).side):=hoc.cell 3
 have WQ:w1.cell? ⟨b,4,none⟩=some (.int .i64 (V.om b).kind):=hoc.cell 4
 have WR:w1.cell? ⟨b,5,none⟩=some (.int .i64 (V.om b).af):=hoc.cell 5
 have WS:w1.cell? ⟨b,6,none⟩=some (.int .i64 (V.om b).aI):=hoc.cell 6
 clear hoc
 go_wp2_with fail
 refine (ae HF _ hq).mono ?_
 rintro e w2 ⟨rfl,k2⟩
 rw[ae SQ]
 simp only[iR]
 have hq2:=hq.trans k2
 have o8:w2.cell? ⟨b,8,none⟩=some (.int .i64 (V.om b).aK):=(ae HO _ hq2).cell 8
 have e0:=ae HE0
 clear WM Vp WN WO WQ WR WS
 go_wp2_with fail
 refine (ae V4 _ hq2).mono ?_
 rintro e w3 ⟨nC,cp3,rfl,f3,m3,k3⟩
 clear o8 e0
 go_wp2_with fail
 refine (ae OG _ w3 nC cp3 hq2 k3 m3 f3).mono ?_
 rintro e w3' ⟨rfl,m3',kR,h3',f3',c3',abG,rZ,FP,Xe⟩
 go_wp2_with fail
 refine (ae HC _ m3').mono ?_
 rintro e w4 ⟨vC,cp4,rfl,f4,m4,k4⟩
 go_wp2_with fail
 refine (ae OH w4 m4).mono ?_
 rintro e w5 ⟨Ol,cp5,rfl,f5,hcp,g,cap',m5,k5,hg⟩
 go_wp2_with fail
 refine (ae HN2 w3' kR rZ w4 w5 vC cp4 Ol cp5 g cap' FP Xe m3' h3' f3' c3' abG k4 m4 m5 k5 hg f4 f5 hcp).mono ?_
 rintro e wz ⟨rfl,rz⟩
 go_wp2
 go_end0
 exact⟨rfl,rz⟩
end Go.Proofs.YtigaphnafnpfnaaGreatDoor
